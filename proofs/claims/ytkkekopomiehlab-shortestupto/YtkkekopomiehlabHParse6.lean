import Derived.Test.YtkkekopomiehlabHParse5
set_option linter.unusedVariables false
set_option linter.unusedSimpArgs false
set_option maxHeartbeats 40000000
namespace Go.Proofs.Ytkkekopomiehlab
section
open Go.RowKit
theorem zm1 {s : ByteArray} {a k : Nat} {ty : Ty} (h : zbb s a = some (ty,k)) : a < k /\ k <= s.size:=by
 unfold zbb at h
 simp only at h
 have hle:=zei s a (s.size - a) a
 generalize lEnd s a (s.size - a) a = E at h hle
 split at h
 ·cases h
 ·split at h
  ·split at h
   ·simp only [Option.some.injEq,Prod.mk.injEq] at h
    have : E + 1 < s.size:=zaq (by omega)
    omega
   ·cases h
  ·split at h
   ·simp only [Option.some.injEq,Prod.mk.injEq] at h
    have : E < s.size:=zaq (by omega)
    omega
   ·cases h
theorem zia {pt : Nat -> Option (Ty × Nat)} {ef : Ty -> Nat -> Option (ByteArray × Nat)} {s : ByteArray} (hp : ∀ a ty k,pt a = some (ty,k) -> a < k /\ k <= s.size) (he : ∀ ty j d k,ef ty j = some (d,k) -> j < k /\ k <= s.size)
  {i k : Nat} {f : Nat × Ty × ByteArray} (h : zal pt ef s i = some (f,k)) : i < k /\ k <= s.size:=by
 unfold zal at h
 split at h
 ·split at h
  ·cases h
  ·rename_i ty k' hx
   have:=hp _ _ _ hx
   split at h
   ·split at h
    ·cases h
    ·rename_i d m hy
     have:=he _ _ _ _ hy
     simp only [Option.some.injEq,Prod.mk.injEq] at h
     omega
   ·simp only [Option.some.injEq,Prod.mk.injEq] at h
    omega
 ·cases h
theorem zib {pf : Nat -> Option ((Nat × Ty × ByteArray) × Nat)} {s : ByteArray} (hp : ∀ a f k,pf a = some (f,k) -> a < k /\ k <= s.size) : ∀ {m a k : Nat} {acc fs : List (Nat × Ty × ByteArray)},zat pf s m a acc = some (fs,k) -> a < k /\ k <= s.size
 | 0,a,k,acc,fs,h => by simp [zat] at h
 | m + 1,a,k,acc,fs,h => by
  rw [zat] at h
  split at h
  ·cases h
  ·rename_i f k' hx
   have:=hp _ _ _ hx
   split at h
   ·cases h
   ·split at h
    ·simp only [Option.some.injEq,Prod.mk.injEq] at h
     have : k' < s.size:=zaq (by omega)
     omega
    ·split at h
     ·have:=zib hp h;omega
     ·cases h
theorem zbt (st : Bool) (s : ByteArray) : ∀ (n i : Nat) (ty : Ty) (k : Nat),zaf st s n i = some (ty,k) -> i < k /\ k <= s.size
 | 0,i,ty,k,h => by simp [zaf] at h
 | n + 1,i,ty,k,h => by
  have ih:=zbt st s n
  rw [zaf] at h
  have one : ∀ {c : Nat},some (za8 c,i + 1) = some (ty,k) -> 0 <= bAt s i -> i < k /\ k <= s.size:=fun h hb => by
   simp only [Option.some.injEq,Prod.mk.injEq] at h
   have:=zaq hb;omega
  split at h
  ·exact one h (by omega)
  ·split at h
   ·exact one h (by omega)
   ·split at h
    ·exact one h (by omega)
    ·split at h
     ·have:=zm1 h;omega
     ·split at h
      ·unfold zbe at h
       split at h
       ·cases h
       ·rename_i t k' hx
        have:=ih _ _ _ hx
        split at h
        ·simp only [Option.some.injEq,Prod.mk.injEq] at h
         have : k' < s.size:=zaq (by omega)
         omega
        ·cases h
      ·split at h
       ·unfold zbf at h
        split at h
        ·cases h
        ·rename_i t k' hx
         have:=ih _ _ _ hx
         split at h
         ·cases h
         ·simp only [Option.some.injEq,Prod.mk.injEq] at h
          omega
       ·split at h
        ·unfold pRec at h
         split at h
         ·cases h
         ·rename_i fs k' hx
          have:=zib (fun a f k h => zia ih (fun ty j d k h => ⟨(zb8 h).1,(zb8 h).2.1⟩) h) hx
          simp only [Option.some.injEq,Prod.mk.injEq] at h
          omega
        ·cases h
theorem zd2 {f : FuncId} {args : Array Value} {w : World} {B n : Nat} {r : Option (Ty × Nat)} (h : Calls Try.prog f args w fun e w' => PRet B n r e w' /\ Below w.heap.size w w') (hr : r = none) :
  Calls Try.prog f args w fun e w' => ∃ k' : Nat,e = .returned (.tuple #[.agg #[.int .i64 0,.string ByteArray.empty,.bool false,.slice none 0 0,.slice none 0 0],.int .i64 k',.bool false]) /\ Below w.heap.size w w':=by
 refine h.mono ?_
 rintro e w' ⟨h1,h2⟩;rw [hr] at h1;obtain ⟨k',h1⟩:=h1;exact ⟨k',h1,h2⟩
theorem zd3 {f : FuncId} {args : Array Value} {w : World} {B n : Nat} {r : Option (Ty × Nat)} {ty : Ty} {k : Nat} (h : Calls Try.prog f args w fun e w' => PRet B n r e w' /\ Below w.heap.size w w') (hr : r = some (ty,k)) :
  Calls Try.prog f args w fun e w' => ∃ ai li ci af lf cf,e = .returned (.tuple #[.agg #[.int .i64 ty.kind,.string ty.letters,.bool ty.op,.slice ai li ci,.slice af lf cf],.int .i64 k,.bool true]) /\ RepB (fun b => B <= b) n w' ai li ci af lf cf ty /\ Below w.heap.size w w':=by
 refine h.mono ?_
 rintro e w' ⟨h1,h2⟩;rw [hr] at h1;obtain ⟨ai,li,ci,af,lf,cf,h1,h3⟩:=h1;exact ⟨ai,li,ci,af,lf,cf,h1,h3,h2⟩
theorem znk {s : ByteArray} (hs : s.size <= 4096) : ParseTypeOK 0 s:=by
 intro i w hi hn
 have _hs : s.size <= 9000000:=by omega
 have hB : ∀ o,Below w.heap.size w (w.alloc o):=fun o => (Below.refl _ _).alloc (Nat.le_refl _) _
 have hb : Hid (bAt s i = -1):=zdb s i (by omega)
 have h105' : (bAt s i == 105) = false:=by rw [hb.out];rfl
 have h108' : (bAt s i == 108) = false:=by rw [hb.out];rfl
 have h115' : (bAt s i == 115) = false:=by rw [hb.out];rfl
 have h60' : (bAt s i == 60) = false:=by rw [hb.out];rfl
 have h91' : (bAt s i == 91) = false:=by rw [hb.out];rfl
 have h63' : (bAt s i == 63) = false:=by rw [hb.out];rfl
 have h123' : (bAt s i == 123) = false:=by rw [hb.out];rfl
 go_enter Try.func63,Try.ntmps63
 go_wp2_with (go_at_call 68;refine (zai _ _ _ (by omega) _hs).mono ?_;rintro e w' ⟨rfl,rfl⟩)
 exact bodyPost_ret (v:=.tuple #[.agg #[.int .i64 0,.string ByteArray.empty,.bool false,.slice none 0 0,.slice none 0 0],.int .i64 i,.bool false]) (by simp [results,Try.results63,go_sem];rfl) rfl ⟨⟨i,rfl⟩,hB _⟩
theorem znj {n : Nat} {s : ByteArray} (IH : ParseTypeOK n s) (hs : s.size <= 4096) (hn100 : n <= 100) : ParseTypeOK (n + 1) s:=by
 intro i w hi hn
 have _hs : s.size <= 9000000:=by omega
 have hB : ∀ o,Below w.heap.size w (w.alloc o):=fun o => (Below.refl _ _).alloc (Nat.le_refl _) _
 have hbd:=fun a ty k (h : zaf false s n a = some (ty,k)) => (zbt false s n a ty k h).2
 have hfbd:=fun i f k (h : zal (zaf false s n) (enc false s n) s i = some (f,k)) => zia (zbt false s n) (fun ty j d k h => ⟨(zb8 h).1,(zb8 h).2.1⟩) h
 have IF : FieldOK n s:=fun i w h1 h2 => znc IH (zhe hs n (by omega)) hs i w h1 h2 hbd
 by_cases h105 : bAt s i = 105
 ·have h105' : (bAt s i == 105) = true:=by simp [h105]
  have hil : i < s.size:=zaq (by omega)
  have hr' : Hid (zaf false s (n + 1) i = some (za8 105,i + 1)):=by show _ = _;rw [zaf,if_pos h105]
  have HK : Hid (bAt s i = 105):=h105
  clear h105 hbd hfbd
  go_enter Try.func63,Try.ntmps63
  go_wp2_with ((go_at_call 68;refine (zai _ _ _ (by omega) _hs).mono ?_;rintro e w' ⟨rfl,rfl⟩))
  refine bodyPost_ret (v:=.tuple #[.agg #[.int .i64 (bAt s i),.string ByteArray.empty,.bool false,.slice none 0 0,.slice none 0 0],.int .i64 (i + 1 : Nat),.bool true]) (by simp [results,Try.results63,go_sem];rfl) rfl ?_
  rw [hr'.out,HK.out]
  exact ⟨⟨_,_,_,_,_,_,rfl,RepB.plain (Nat.zero_le _) (by simp [za8]) rfl rfl⟩,hB _⟩
 have h105' : (bAt s i == 105) = false:=by simpa using h105
 by_cases h108 : bAt s i = 108
 ·have h108' : (bAt s i == 108) = true:=by simp [h108]
  have hil : i < s.size:=zaq (by omega)
  have hr' : Hid (zaf false s (n + 1) i = some (za8 108,i + 1)):=by show _ = _;rw [zaf,if_neg h105,if_pos h108]
  have HK : Hid (bAt s i = 108):=h108
  clear h105 h108 hbd hfbd
  go_enter Try.func63,Try.ntmps63
  go_wp2_with ((go_at_call 68;refine (zai _ _ _ (by omega) _hs).mono ?_;rintro e w' ⟨rfl,rfl⟩))
  refine bodyPost_ret (v:=.tuple #[.agg #[.int .i64 (bAt s i),.string ByteArray.empty,.bool false,.slice none 0 0,.slice none 0 0],.int .i64 (i + 1 : Nat),.bool true]) (by simp [results,Try.results63,go_sem];rfl) rfl ?_
  rw [hr'.out,HK.out]
  exact ⟨⟨_,_,_,_,_,_,rfl,RepB.plain (Nat.zero_le _) (by simp [za8]) rfl rfl⟩,hB _⟩
 have h108' : (bAt s i == 108) = false:=by simpa using h108
 by_cases h115 : bAt s i = 115
 ·have h115' : (bAt s i == 115) = true:=by simp [h115]
  have hil : i < s.size:=zaq (by omega)
  have hr' : Hid (zaf false s (n + 1) i = some (za8 115,i + 1)):=by show _ = _;rw [zaf,if_neg h105,if_neg h108,if_pos h115]
  have HK : Hid (bAt s i = 115):=h115
  clear h105 h108 h115 hbd hfbd
  go_enter Try.func63,Try.ntmps63
  go_wp2_with ((go_at_call 68;refine (zai _ _ _ (by omega) _hs).mono ?_;rintro e w' ⟨rfl,rfl⟩))
  refine bodyPost_ret (v:=.tuple #[.agg #[.int .i64 (bAt s i),.string ByteArray.empty,.bool false,.slice none 0 0,.slice none 0 0],.int .i64 (i + 1 : Nat),.bool true]) (by simp [results,Try.results63,go_sem];rfl) rfl ?_
  rw [hr'.out,HK.out]
  exact ⟨⟨_,_,_,_,_,_,rfl,RepB.plain (Nat.zero_le _) (by simp [za8]) rfl rfl⟩,hB _⟩
 have h115' : (bAt s i == 115) = false:=by simpa using h115
 by_cases h60 : bAt s i = 60
 ·have h60' : (bAt s i == 60) = true:=by simp [h60]
  have hil : i < s.size:=zaq (by omega)
  have hr' : Hid (zaf false s (n + 1) i = zbb s (i + 1)):=by show _ = _;rw [zaf,if_neg h105,if_neg h108,if_neg h115,if_pos h60]
  have hc:=fun w1 => znb n hs (i + 1) w1 (by omega)
  clear h105 h108 h115 h60 hbd hfbd
  cases hx : zbb s (i + 1) with
  | none =>
   have hcall:=fun w1 => zd2 (hc w1) hx
   clear hc
   go_enter Try.func63,Try.ntmps63
   go_wp2_with (first | (go_at_call 68;refine (zai _ _ _ (by omega) _hs).mono ?_;rintro e w' ⟨rfl,rfl⟩) | (go_at_call 73;refine (hcall _).mono ?_;rintro e w1 ⟨k',rfl,hb1⟩;obtain ⟨hc1,hf1⟩:=zam hb1;have hz1 : w.heap.size < w1.heap.size:=(by have:=hb1.size;simp at this;omega)))
   refine bodyPost_ret (v:=.tuple #[.agg #[.int .i64 0,.string ByteArray.empty,.bool false,.slice none 0 0,.slice none 0 0],.int .i64 k',.bool false]) (by simp [results,Try.results63,go_sem,hc1,hz1]) rfl ?_
   rw [hr'.out,hx]
   exact ⟨⟨k',rfl⟩,Below.set5 ((hB _).trans (hb1.mono (by simp))) (Nat.le_refl _)⟩
  | some p =>
   obtain ⟨ty,k⟩:=p
   have hcall:=fun w1 => zd3 (hc w1) hx
   clear hc
   go_enter Try.func63,Try.ntmps63
   go_wp2_with (first | (go_at_call 68;refine (zai _ _ _ (by omega) _hs).mono ?_;rintro e w' ⟨rfl,rfl⟩) | (go_at_call 73;refine (hcall _).mono ?_;rintro e w1 ⟨ai,li,ci,af,lf,cf,rfl,hr1,hb1⟩;obtain ⟨hc1,hf1⟩:=zam hb1;have hz1 : w.heap.size < w1.heap.size:=(by have:=hb1.size;simp at this;omega)))
   refine bodyPost_ret (v:=.tuple #[.agg #[.int .i64 ty.kind,.string ty.letters,.bool ty.op,.slice ai li ci,.slice af lf cf],.int .i64 k,.bool true]) (by simp [results,Try.results63,go_sem,hc1,hz1]) rfl ?_
   rw [hr'.out,hx]
   exact ⟨⟨ai,li,ci,af,lf,cf,rfl,(hr1.keep (fun b o v hS h => zb7 h (by simp at hS;omega))).imp (fun b _ h => by simp at h;omega)⟩,Below.set5 ((hB _).trans (hb1.mono (by simp))) (Nat.le_refl _)⟩
 have h60' : (bAt s i == 60) = false:=by simpa using h60
 by_cases h91 : bAt s i = 91
 ·have h91' : (bAt s i == 91) = true:=by simp [h91]
  have hil : i < s.size:=zaq (by omega)
  have hr' : Hid (zaf false s (n + 1) i = zbe (zaf false s n) s (i + 1)):=by show _ = _;rw [zaf,if_neg h105,if_neg h108,if_neg h115,if_neg h60,if_pos h91]
  have hc:=fun w1 => zne IH hs (i + 1) w1 (by omega) (by omega) (hbd (i + 1))
  clear h105 h108 h115 h60 h91 hbd hfbd
  cases hx : zbe (zaf false s n) s (i + 1) with
  | none =>
   have hcall:=fun w1 => zd2 (hc w1) hx
   clear hc
   go_enter Try.func63,Try.ntmps63
   go_wp2_with (first | (go_at_call 68;refine (zai _ _ _ (by omega) _hs).mono ?_;rintro e w' ⟨rfl,rfl⟩) | (go_at_call 74;refine (hcall _).mono ?_;rintro e w1 ⟨k',rfl,hb1⟩;obtain ⟨hc1,hf1⟩:=zam hb1;have hz1 : w.heap.size < w1.heap.size:=(by have:=hb1.size;simp at this;omega)))
   refine bodyPost_ret (v:=.tuple #[.agg #[.int .i64 0,.string ByteArray.empty,.bool false,.slice none 0 0,.slice none 0 0],.int .i64 k',.bool false]) (by simp [results,Try.results63,go_sem,hc1,hz1]) rfl ?_
   rw [hr'.out,hx]
   exact ⟨⟨k',rfl⟩,Below.set5 ((hB _).trans (hb1.mono (by simp))) (Nat.le_refl _)⟩
  | some p =>
   obtain ⟨ty,k⟩:=p
   have hcall:=fun w1 => zd3 (hc w1) hx
   clear hc
   go_enter Try.func63,Try.ntmps63
   go_wp2_with (first | (go_at_call 68;refine (zai _ _ _ (by omega) _hs).mono ?_;rintro e w' ⟨rfl,rfl⟩) | (go_at_call 74;refine (hcall _).mono ?_;rintro e w1 ⟨ai,li,ci,af,lf,cf,rfl,hr1,hb1⟩;obtain ⟨hc1,hf1⟩:=zam hb1;have hz1 : w.heap.size < w1.heap.size:=(by have:=hb1.size;simp at this;omega)))
   refine bodyPost_ret (v:=.tuple #[.agg #[.int .i64 ty.kind,.string ty.letters,.bool ty.op,.slice ai li ci,.slice af lf cf],.int .i64 k,.bool true]) (by simp [results,Try.results63,go_sem,hc1,hz1]) rfl ?_
   rw [hr'.out,hx]
   exact ⟨⟨ai,li,ci,af,lf,cf,rfl,(hr1.keep (fun b o v hS h => zb7 h (by simp at hS;omega))).imp (fun b _ h => by simp at h;omega)⟩,Below.set5 ((hB _).trans (hb1.mono (by simp))) (Nat.le_refl _)⟩
 have h91' : (bAt s i == 91) = false:=by simpa using h91
 by_cases h63 : bAt s i = 63
 ·have h63' : (bAt s i == 63) = true:=by simp [h63]
  have hil : i < s.size:=zaq (by omega)
  have hr' : Hid (zaf false s (n + 1) i = zbf (zaf false s n) (i + 1)):=by show _ = _;rw [zaf,if_neg h105,if_neg h108,if_neg h115,if_neg h60,if_neg h91,if_pos h63]
  have hc:=fun w1 => znf IH hs (i + 1) w1 (by omega) (by omega) (hbd (i + 1))
  clear h105 h108 h115 h60 h91 h63 hbd hfbd
  cases hx : zbf (zaf false s n) (i + 1) with
  | none =>
   have hcall:=fun w1 => zd2 (hc w1) hx
   clear hc
   go_enter Try.func63,Try.ntmps63
   go_wp2_with (first | (go_at_call 68;refine (zai _ _ _ (by omega) _hs).mono ?_;rintro e w' ⟨rfl,rfl⟩) | (go_at_call 75;refine (hcall _).mono ?_;rintro e w1 ⟨k',rfl,hb1⟩;obtain ⟨hc1,hf1⟩:=zam hb1;have hz1 : w.heap.size < w1.heap.size:=(by have:=hb1.size;simp at this;omega)))
   refine bodyPost_ret (v:=.tuple #[.agg #[.int .i64 0,.string ByteArray.empty,.bool false,.slice none 0 0,.slice none 0 0],.int .i64 k',.bool false]) (by simp [results,Try.results63,go_sem,hc1,hz1]) rfl ?_
   rw [hr'.out,hx]
   exact ⟨⟨k',rfl⟩,Below.set5 ((hB _).trans (hb1.mono (by simp))) (Nat.le_refl _)⟩
  | some p =>
   obtain ⟨ty,k⟩:=p
   have hcall:=fun w1 => zd3 (hc w1) hx
   clear hc
   go_enter Try.func63,Try.ntmps63
   go_wp2_with (first | (go_at_call 68;refine (zai _ _ _ (by omega) _hs).mono ?_;rintro e w' ⟨rfl,rfl⟩) | (go_at_call 75;refine (hcall _).mono ?_;rintro e w1 ⟨ai,li,ci,af,lf,cf,rfl,hr1,hb1⟩;obtain ⟨hc1,hf1⟩:=zam hb1;have hz1 : w.heap.size < w1.heap.size:=(by have:=hb1.size;simp at this;omega)))
   refine bodyPost_ret (v:=.tuple #[.agg #[.int .i64 ty.kind,.string ty.letters,.bool ty.op,.slice ai li ci,.slice af lf cf],.int .i64 k,.bool true]) (by simp [results,Try.results63,go_sem,hc1,hz1]) rfl ?_
   rw [hr'.out,hx]
   exact ⟨⟨ai,li,ci,af,lf,cf,rfl,(hr1.keep (fun b o v hS h => zb7 h (by simp at hS;omega))).imp (fun b _ h => by simp at h;omega)⟩,Below.set5 ((hB _).trans (hb1.mono (by simp))) (Nat.le_refl _)⟩
 have h63' : (bAt s i == 63) = false:=by simpa using h63
 by_cases h123 : bAt s i = 123
 ·have h123' : (bAt s i == 123) = true:=by simp [h123]
  have hil : i < s.size:=zaq (by omega)
  have hr' : Hid (zaf false s (n + 1) i = pRec (zal (zaf false s n) (enc false s n) s) s (i + 1)):=by show _ = _;rw [zaf,if_neg h105,if_neg h108,if_neg h115,if_neg h60,if_neg h91,if_neg h63,if_pos h123]
  have hc:=fun w1 => zni IF hs (i + 1) w1 (by omega) (by omega) hfbd
  clear h105 h108 h115 h60 h91 h63 h123 hbd hfbd
  cases hx : pRec (zal (zaf false s n) (enc false s n) s) s (i + 1) with
  | none =>
   have hcall:=fun w1 => zd2 (hc w1) hx
   clear hc
   go_enter Try.func63,Try.ntmps63
   go_wp2_with (first | (go_at_call 68;refine (zai _ _ _ (by omega) _hs).mono ?_;rintro e w' ⟨rfl,rfl⟩) | (go_at_call 76;refine (hcall _).mono ?_;rintro e w1 ⟨k',rfl,hb1⟩;obtain ⟨hc1,hf1⟩:=zam hb1;have hz1 : w.heap.size < w1.heap.size:=(by have:=hb1.size;simp at this;omega)))
   refine bodyPost_ret (v:=.tuple #[.agg #[.int .i64 0,.string ByteArray.empty,.bool false,.slice none 0 0,.slice none 0 0],.int .i64 k',.bool false]) (by simp [results,Try.results63,go_sem,hc1,hz1]) rfl ?_
   rw [hr'.out,hx]
   exact ⟨⟨k',rfl⟩,Below.set5 ((hB _).trans (hb1.mono (by simp))) (Nat.le_refl _)⟩
  | some p =>
   obtain ⟨ty,k⟩:=p
   have hcall:=fun w1 => zd3 (hc w1) hx
   clear hc
   go_enter Try.func63,Try.ntmps63
   go_wp2_with (first | (go_at_call 68;refine (zai _ _ _ (by omega) _hs).mono ?_;rintro e w' ⟨rfl,rfl⟩) | (go_at_call 76;refine (hcall _).mono ?_;rintro e w1 ⟨ai,li,ci,af,lf,cf,rfl,hr1,hb1⟩;obtain ⟨hc1,hf1⟩:=zam hb1;have hz1 : w.heap.size < w1.heap.size:=(by have:=hb1.size;simp at this;omega)))
   refine bodyPost_ret (v:=.tuple #[.agg #[.int .i64 ty.kind,.string ty.letters,.bool ty.op,.slice ai li ci,.slice af lf cf],.int .i64 k,.bool true]) (by simp [results,Try.results63,go_sem,hc1,hz1]) rfl ?_
   rw [hr'.out,hx]
   exact ⟨⟨ai,li,ci,af,lf,cf,rfl,(hr1.keep (fun b o v hS h => zb7 h (by simp at hS;omega))).imp (fun b _ h => by simp at h;omega)⟩,Below.set5 ((hB _).trans (hb1.mono (by simp))) (Nat.le_refl _)⟩
 have h123' : (bAt s i == 123) = false:=by simpa using h123
 have hr' : Hid (zaf false s (n + 1) i = none):=by show _ = _;rw [zaf,if_neg h105,if_neg h108,if_neg h115,if_neg h60,if_neg h91,if_neg h63,if_neg h123]
 clear h105 h108 h115 h60 h91 h63 h123 hbd hfbd
 go_enter Try.func63,Try.ntmps63
 go_wp2_with ((go_at_call 68;refine (zai _ _ _ (by omega) _hs).mono ?_;rintro e w' ⟨rfl,rfl⟩))
 refine bodyPost_ret (v:=.tuple #[.agg #[.int .i64 0,.string ByteArray.empty,.bool false,.slice none 0 0,.slice none 0 0],.int .i64 i,.bool false]) (by simp [results,Try.results63,go_sem];rfl) rfl ?_
 rw [hr'.out]
 exact ⟨⟨i,rfl⟩,hB _⟩
theorem ziq {s : ByteArray} (hs : s.size <= 4096) : ∀ n,n <= 101 -> ParseTypeOK n s
 | 0,_ => znk hs
 | n + 1,hn => znj (ziq hs n (by omega)) hs (by omega)
end
section
open Go.RowKit
def pAll (st : Bool) (s : ByteArray) : Option Ty :=
 match zaf st s s.size 0 with
 | none => none
 | some (t,k) => if k = s.size then some t else none
def TRet (B n : Nat) (no yes : Value) (r : Option Ty) (e : Ending) (w' : World) : Prop :=
 match r with
 | some ty => ∃ ai li ci af lf cf,e = .returned (.tuple #[.agg #[.int .i64 ty.kind,.string ty.letters,.bool ty.op,.slice ai li ci,.slice af lf cf],yes]) /\ RepB (fun b => B <= b) n w' ai li ci af lf cf ty
 | none => e = .returned (.tuple #[.agg #[.int .i64 0,.string ByteArray.empty,.bool false,.slice none 0 0,.slice none 0 0],no])
theorem zgn {s : ByteArray} (hs : s.size <= 60) (w : World) :
  Calls Try.prog 52 #[.string s] w fun e w' => TRet w.heap.size s.size (.bool false) (.bool true) (pAll false s) e w' /\ Below w.heap.size w w':=by
 have _hs : s.size <= 9000000:=by omega
 have hB : ∀ o,Below w.heap.size w (w.alloc o):=fun o => (Below.refl _ _).alloc (Nat.le_refl _) _
 have IH:=ziq (s:=s) (by omega) s.size (by omega)
 cases hx : zaf false s s.size 0 with
 | none =>
  have hr' : Hid (pAll false s = none):=by show _ = _;unfold pAll;rw [hx]
  have hcall:=fun w => IH.no w (Nat.zero_le _) (by omega) hx
  clear hx IH
  go_enter Try.func52,Try.ntmps52
  go_wp2_with (go_at_call 63;refine (hcall _).mono ?_;rintro e w1 ⟨k',rfl,hb1⟩;obtain ⟨hc1,hf1⟩:=zam hb1;have hz1 : w.heap.size < w1.heap.size:=(by have:=hb1.size;simp at this;omega))
  refine bodyPost_ret (v:=.tuple #[.agg #[.int .i64 0,.string ByteArray.empty,.bool false,.slice none 0 0,.slice none 0 0],.bool false]) (by simp [results,Try.results52,go_sem,hc1,hz1];rfl) rfl ?_
  rw [hr'.out]
  exact ⟨rfl,Below.alloc' (Below.set5 ((hB _).trans (hb1.mono (by simp))) (Nat.le_refl _)) _⟩
 | some p =>
  obtain ⟨ty,k⟩:=p
  have hcall:=fun w => IH.yes w (Nat.zero_le _) (by omega) hx
  by_cases hk : k = s.size
  ·subst hk
   have hk' : ((s.size : Int) != (s.size : Int)) = false:=by simp
   have hr' : Hid (pAll false s = some ty):=by show _ = _;unfold pAll;rw [hx];simp only [if_true]
   clear hx IH
   go_enter Try.func52,Try.ntmps52
   go_wp2_with (go_at_call 63;refine (hcall _).mono ?_;rintro e w1 ⟨ai,li,ci,af,lf,cf,rfl,hr1,hb1⟩;obtain ⟨hc1,hf1⟩:=zam hb1;have hz1 : w.heap.size < w1.heap.size:=(by have:=hb1.size;simp at this;omega))
   refine bodyPost_ret (v:=.tuple #[.agg #[.int .i64 ty.kind,.string ty.letters,.bool ty.op,.slice ai li ci,.slice af lf cf],.bool true]) (by simp [results,Try.results52,go_sem,hc1,hz1]) rfl ?_
   rw [hr'.out]
   exact ⟨⟨ai,li,ci,af,lf,cf,rfl,(hr1.keep (fun b o v hS h => zar _ (zb7 h (by simp at hS;omega)))).imp (fun b _ h => by simp at h;omega)⟩,Below.alloc' (Below.set5 ((hB _).trans (hb1.mono (by simp))) (Nat.le_refl _)) _⟩
  ·have hk' : ((k : Int) != (s.size : Int)) = true:=by simp;omega
   have hr' : Hid (pAll false s = none):=by show _ = _;unfold pAll;rw [hx];simp only [if_neg hk]
   clear hx IH
   go_enter Try.func52,Try.ntmps52
   go_wp2_with (go_at_call 63;refine (hcall _).mono ?_;rintro e w1 ⟨ai,li,ci,af,lf,cf,rfl,hr1,hb1⟩;obtain ⟨hc1,hf1⟩:=zam hb1;have hz1 : w.heap.size < w1.heap.size:=(by have:=hb1.size;simp at this;omega))
   refine bodyPost_ret (v:=.tuple #[.agg #[.int .i64 0,.string ByteArray.empty,.bool false,.slice none 0 0,.slice none 0 0],.bool false]) (by simp [results,Try.results52,go_sem,hc1,hz1];rfl) rfl ?_
   rw [hr'.out]
   exact ⟨rfl,Below.alloc' (Below.set5 ((hB _).trans (hb1.mono (by simp))) (Nat.le_refl _)) _⟩
end
end Go.Proofs.Ytkkekopomiehlab
