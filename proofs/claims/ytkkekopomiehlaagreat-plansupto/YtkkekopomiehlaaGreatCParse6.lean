import Derived.Test.YtkkekopomiehlaaGreatCParse5
set_option linter.unusedVariables false
set_option linter.unusedSimpArgs false
set_option maxHeartbeats 40000000
namespace Go.Proofs.YtkkekopomiehlaaGreat
section
open Go.RowKit
theorem zww {s : ByteArray} {a k : Nat} {ty : Ty} (h : zb8 s a = some (ty,k)) : a < k /\ k <= s.size:=by
 unfold zb8 at h
 simp only at h
 have hle:=zh4 s a (s.size - a) a
 generalize lEnd s a (s.size - a) a = E at h hle
 split at h
 ·cases h
 ·split at h
  ·split at h
   ·simp only [Option.some.injEq,Prod.mk.injEq] at h
    have : E + 1 < s.size:=zar (by omega)
    omega
   ·cases h
  ·split at h
   ·simp only [Option.some.injEq,Prod.mk.injEq] at h
    have : E < s.size:=zar (by omega)
    omega
   ·cases h
theorem zih {pt : Nat -> Option (Ty × Nat)} {ef : Ty -> Nat -> Option (ByteArray × Nat)} {s : ByteArray} (hp : ∀ a ty k,pt a = some (ty,k) -> a < k /\ k <= s.size) (he : ∀ ty j d k,ef ty j = some (d,k) -> j < k /\ k <= s.size)
  {i k : Nat} {f : Nat × Ty × ByteArray} (h : zaj pt ef s i = some (f,k)) : i < k /\ k <= s.size:=by
 unfold zaj at h
 split at h
 ·split at h
  ·cases h
  ·rename_i ty k' hx
   have:=hp _ _ _ hx
   split at h
   ·split at h
    ·cases h
    ·rename_i d m hy
     have:=he _ _ _ _ hy
     simp only [Option.some.injEq,Prod.mk.injEq] at h
     omega
   ·simp only [Option.some.injEq,Prod.mk.injEq] at h
    omega
 ·cases h
theorem zgy {pf : Nat -> Option ((Nat × Ty × ByteArray) × Nat)} {s : ByteArray} (hp : ∀ a f k,pf a = some (f,k) -> a < k /\ k <= s.size) : ∀ {m a k : Nat} {acc fs : List (Nat × Ty × ByteArray)},zaz pf s m a acc = some (fs,k) -> a < k /\ k <= s.size
 | 0,a,k,acc,fs,h => by simp [zaz] at h
 | m + 1,a,k,acc,fs,h => by
  rw [zaz] at h
  split at h
  ·cases h
  ·rename_i f k' hx
   have:=hp _ _ _ hx
   split at h
   ·cases h
   ·split at h
    ·simp only [Option.some.injEq,Prod.mk.injEq] at h
     have : k' < s.size:=zar (by omega)
     omega
    ·split at h
     ·have:=zgy hp h;omega
     ·cases h
theorem za8 (st : Bool) (s : ByteArray) : ∀ (n i : Nat) (ty : Ty) (k : Nat),zac st s n i = some (ty,k) -> i < k /\ k <= s.size
 | 0,i,ty,k,h => by simp [zac] at h
 | n + 1,i,ty,k,h => by
  have ih:=za8 st s n
  rw [zac] at h
  have one : ∀ {c : Nat},some (zbl c,i + 1) = some (ty,k) -> 0 <= bAt s i -> i < k /\ k <= s.size:=fun h hb => by
   simp only [Option.some.injEq,Prod.mk.injEq] at h
   have:=zar hb;omega
  split at h
  ·exact one h (by omega)
  ·split at h
   ·exact one h (by omega)
   ·split at h
    ·exact one h (by omega)
    ·split at h
     ·have:=zww h;omega
     ·split at h
      ·unfold zbt at h
       split at h
       ·cases h
       ·rename_i t k' hx
        have:=ih _ _ _ hx
        split at h
        ·simp only [Option.some.injEq,Prod.mk.injEq] at h
         have : k' < s.size:=zar (by omega)
         omega
        ·cases h
      ·split at h
       ·unfold zbq at h
        split at h
        ·cases h
        ·rename_i t k' hx
         have:=ih _ _ _ hx
         split at h
         ·cases h
         ·simp only [Option.some.injEq,Prod.mk.injEq] at h
          omega
       ·split at h
        ·unfold pRec at h
         split at h
         ·cases h
         ·rename_i fs k' hx
          have:=zgy (fun a f k h => zih ih (fun ty j d k h => ⟨(zbo h).1,(zbo h).2.1⟩) h) hx
          simp only [Option.some.injEq,Prod.mk.injEq] at h
          omega
        ·cases h
theorem zhe {f : FuncId} {args : Array Value} {w : World} {B n : Nat} {r : Option (Ty × Nat)} (h : Calls Tryz.prog f args w fun e w' => PRet B n r e w' /\ Below w.heap.size w w') (hr : r = none) :
  Calls Tryz.prog f args w fun e w' => ∃ k' : Nat,e = .returned (.tuple #[.agg #[.int .i64 0,.string ByteArray.empty,.bool false,.slice none 0 0,.slice none 0 0],.int .i64 k',.bool false]) /\ Below w.heap.size w w':=by
 refine h.mono ?_
 rintro e w' ⟨h1,h2⟩;rw [hr] at h1;obtain ⟨k',h1⟩:=h1;exact ⟨k',h1,h2⟩
theorem zhf {f : FuncId} {args : Array Value} {w : World} {B n : Nat} {r : Option (Ty × Nat)} {ty : Ty} {k : Nat} (h : Calls Tryz.prog f args w fun e w' => PRet B n r e w' /\ Below w.heap.size w w') (hr : r = some (ty,k)) :
  Calls Tryz.prog f args w fun e w' => ∃ ai li ci af lf cf,e = .returned (.tuple #[.agg #[.int .i64 ty.kind,.string ty.letters,.bool ty.op,.slice ai li ci,.slice af lf cf],.int .i64 k,.bool true]) /\ RepB (fun b => B <= b) n w' ai li ci af lf cf ty /\ Below w.heap.size w w':=by
 refine h.mono ?_
 rintro e w' ⟨h1,h2⟩;rw [hr] at h1;obtain ⟨ai,li,ci,af,lf,cf,h1,h3⟩:=h1;exact ⟨ai,li,ci,af,lf,cf,h1,h3,h2⟩
theorem zxc {s : ByteArray} (hs : s.size <= 4096) : ParseTypeOK 0 s:=by
 intro i w hi hn
 have _hs : s.size <= 9000000:=by omega
 have hB : ∀ o,Below w.heap.size w (w.alloc o):=fun o => (Below.refl _ _).alloc (Nat.le_refl _) _
 have hb : Hid (bAt s i = -1):=zci s i (by omega)
 have h105' : (bAt s i == 105) = false:=by rw [hb.out];rfl
 have h108' : (bAt s i == 108) = false:=by rw [hb.out];rfl
 have h115' : (bAt s i == 115) = false:=by rw [hb.out];rfl
 have h60' : (bAt s i == 60) = false:=by rw [hb.out];rfl
 have h91' : (bAt s i == 91) = false:=by rw [hb.out];rfl
 have h63' : (bAt s i == 63) = false:=by rw [hb.out];rfl
 have h123' : (bAt s i == 123) = false:=by rw [hb.out];rfl
 go_enter Tryz.func82,Tryz.ntmps82
 go_wp2_with (go_at_call 101;refine (zas _ _ _ (by omega) _hs).mono ?_;rintro e w' ⟨rfl,rfl⟩)
 exact bodyPost_ret (v:=.tuple #[.agg #[.int .i64 0,.string ByteArray.empty,.bool false,.slice none 0 0,.slice none 0 0],.int .i64 i,.bool false]) (by simp [results,Tryz.results82,go_sem];rfl) rfl ⟨⟨i,rfl⟩,hB _⟩
theorem zxb {n : Nat} {s : ByteArray} (IH : ParseTypeOK n s) (hs : s.size <= 4096) (hn100 : n <= 100) : ParseTypeOK (n + 1) s:=by
 intro i w hi hn
 have _hs : s.size <= 9000000:=by omega
 have hB : ∀ o,Below w.heap.size w (w.alloc o):=fun o => (Below.refl _ _).alloc (Nat.le_refl _) _
 have hbd:=fun a ty k (h : zac false s n a = some (ty,k)) => (za8 false s n a ty k h).2
 have hfbd:=fun i f k (h : zaj (zac false s n) (enc false s n) s i = some (f,k)) => zih (za8 false s n) (fun ty j d k h => ⟨(zbo h).1,(zbo h).2.1⟩) h
 have IF : FieldOK n s:=fun i w h1 h2 => zw4 IH (znp hs n (by omega)) hs i w h1 h2 hbd
 by_cases h105 : bAt s i = 105
 ·have h105' : (bAt s i == 105) = true:=by simp [h105]
  have hil : i < s.size:=zar (by omega)
  have hr' : Hid (zac false s (n + 1) i = some (zbl 105,i + 1)):=by show _ = _;rw [zac,if_pos h105]
  have HK : Hid (bAt s i = 105):=h105
  clear h105 hbd hfbd
  go_enter Tryz.func82,Tryz.ntmps82
  go_wp2_with ((go_at_call 101;refine (zas _ _ _ (by omega) _hs).mono ?_;rintro e w' ⟨rfl,rfl⟩))
  refine bodyPost_ret (v:=.tuple #[.agg #[.int .i64 (bAt s i),.string ByteArray.empty,.bool false,.slice none 0 0,.slice none 0 0],.int .i64 (i + 1 : Nat),.bool true]) (by simp [results,Tryz.results82,go_sem];rfl) rfl ?_
  rw [hr'.out,HK.out]
  exact ⟨⟨_,_,_,_,_,_,rfl,RepB.plain (Nat.zero_le _) (by simp [zbl]) rfl rfl⟩,hB _⟩
 have h105' : (bAt s i == 105) = false:=by simpa using h105
 by_cases h108 : bAt s i = 108
 ·have h108' : (bAt s i == 108) = true:=by simp [h108]
  have hil : i < s.size:=zar (by omega)
  have hr' : Hid (zac false s (n + 1) i = some (zbl 108,i + 1)):=by show _ = _;rw [zac,if_neg h105,if_pos h108]
  have HK : Hid (bAt s i = 108):=h108
  clear h105 h108 hbd hfbd
  go_enter Tryz.func82,Tryz.ntmps82
  go_wp2_with ((go_at_call 101;refine (zas _ _ _ (by omega) _hs).mono ?_;rintro e w' ⟨rfl,rfl⟩))
  refine bodyPost_ret (v:=.tuple #[.agg #[.int .i64 (bAt s i),.string ByteArray.empty,.bool false,.slice none 0 0,.slice none 0 0],.int .i64 (i + 1 : Nat),.bool true]) (by simp [results,Tryz.results82,go_sem];rfl) rfl ?_
  rw [hr'.out,HK.out]
  exact ⟨⟨_,_,_,_,_,_,rfl,RepB.plain (Nat.zero_le _) (by simp [zbl]) rfl rfl⟩,hB _⟩
 have h108' : (bAt s i == 108) = false:=by simpa using h108
 by_cases h115 : bAt s i = 115
 ·have h115' : (bAt s i == 115) = true:=by simp [h115]
  have hil : i < s.size:=zar (by omega)
  have hr' : Hid (zac false s (n + 1) i = some (zbl 115,i + 1)):=by show _ = _;rw [zac,if_neg h105,if_neg h108,if_pos h115]
  have HK : Hid (bAt s i = 115):=h115
  clear h105 h108 h115 hbd hfbd
  go_enter Tryz.func82,Tryz.ntmps82
  go_wp2_with ((go_at_call 101;refine (zas _ _ _ (by omega) _hs).mono ?_;rintro e w' ⟨rfl,rfl⟩))
  refine bodyPost_ret (v:=.tuple #[.agg #[.int .i64 (bAt s i),.string ByteArray.empty,.bool false,.slice none 0 0,.slice none 0 0],.int .i64 (i + 1 : Nat),.bool true]) (by simp [results,Tryz.results82,go_sem];rfl) rfl ?_
  rw [hr'.out,HK.out]
  exact ⟨⟨_,_,_,_,_,_,rfl,RepB.plain (Nat.zero_le _) (by simp [zbl]) rfl rfl⟩,hB _⟩
 have h115' : (bAt s i == 115) = false:=by simpa using h115
 by_cases h60 : bAt s i = 60
 ·have h60' : (bAt s i == 60) = true:=by simp [h60]
  have hil : i < s.size:=zar (by omega)
  have hr' : Hid (zac false s (n + 1) i = zb8 s (i + 1)):=by show _ = _;rw [zac,if_neg h105,if_neg h108,if_neg h115,if_pos h60]
  have hc:=fun w1 => zw3 n hs (i + 1) w1 (by omega)
  clear h105 h108 h115 h60 hbd hfbd
  cases hx : zb8 s (i + 1) with
  | none =>
   have hcall:=fun w1 => zhe (hc w1) hx
   clear hc
   go_enter Tryz.func82,Tryz.ntmps82
   go_wp2_with (first | (go_at_call 101;refine (zas _ _ _ (by omega) _hs).mono ?_;rintro e w' ⟨rfl,rfl⟩) | (go_at_call 102;refine (hcall _).mono ?_;rintro e w1 ⟨k',rfl,hb1⟩;obtain ⟨hc1,hf1⟩:=zal hb1;have hz1 : w.heap.size < w1.heap.size:=(by have:=hb1.size;simp at this;omega)))
   refine bodyPost_ret (v:=.tuple #[.agg #[.int .i64 0,.string ByteArray.empty,.bool false,.slice none 0 0,.slice none 0 0],.int .i64 k',.bool false]) (by simp [results,Tryz.results82,go_sem,hc1,hz1]) rfl ?_
   rw [hr'.out,hx]
   exact ⟨⟨k',rfl⟩,Below.set5 ((hB _).trans (hb1.mono (by simp))) (Nat.le_refl _)⟩
  | some p =>
   obtain ⟨ty,k⟩:=p
   have hcall:=fun w1 => zhf (hc w1) hx
   clear hc
   go_enter Tryz.func82,Tryz.ntmps82
   go_wp2_with (first | (go_at_call 101;refine (zas _ _ _ (by omega) _hs).mono ?_;rintro e w' ⟨rfl,rfl⟩) | (go_at_call 102;refine (hcall _).mono ?_;rintro e w1 ⟨ai,li,ci,af,lf,cf,rfl,hr1,hb1⟩;obtain ⟨hc1,hf1⟩:=zal hb1;have hz1 : w.heap.size < w1.heap.size:=(by have:=hb1.size;simp at this;omega)))
   refine bodyPost_ret (v:=.tuple #[.agg #[.int .i64 ty.kind,.string ty.letters,.bool ty.op,.slice ai li ci,.slice af lf cf],.int .i64 k,.bool true]) (by simp [results,Tryz.results82,go_sem,hc1,hz1]) rfl ?_
   rw [hr'.out,hx]
   exact ⟨⟨ai,li,ci,af,lf,cf,rfl,(hr1.keep (fun b o v hS h => zdt h (by simp at hS;omega))).imp (fun b _ h => by simp at h;omega)⟩,Below.set5 ((hB _).trans (hb1.mono (by simp))) (Nat.le_refl _)⟩
 have h60' : (bAt s i == 60) = false:=by simpa using h60
 by_cases h91 : bAt s i = 91
 ·have h91' : (bAt s i == 91) = true:=by simp [h91]
  have hil : i < s.size:=zar (by omega)
  have hr' : Hid (zac false s (n + 1) i = zbt (zac false s n) s (i + 1)):=by show _ = _;rw [zac,if_neg h105,if_neg h108,if_neg h115,if_neg h60,if_pos h91]
  have hc:=fun w1 => zw6 IH hs (i + 1) w1 (by omega) (by omega) (hbd (i + 1))
  clear h105 h108 h115 h60 h91 hbd hfbd
  cases hx : zbt (zac false s n) s (i + 1) with
  | none =>
   have hcall:=fun w1 => zhe (hc w1) hx
   clear hc
   go_enter Tryz.func82,Tryz.ntmps82
   go_wp2_with (first | (go_at_call 101;refine (zas _ _ _ (by omega) _hs).mono ?_;rintro e w' ⟨rfl,rfl⟩) | (go_at_call 103;refine (hcall _).mono ?_;rintro e w1 ⟨k',rfl,hb1⟩;obtain ⟨hc1,hf1⟩:=zal hb1;have hz1 : w.heap.size < w1.heap.size:=(by have:=hb1.size;simp at this;omega)))
   refine bodyPost_ret (v:=.tuple #[.agg #[.int .i64 0,.string ByteArray.empty,.bool false,.slice none 0 0,.slice none 0 0],.int .i64 k',.bool false]) (by simp [results,Tryz.results82,go_sem,hc1,hz1]) rfl ?_
   rw [hr'.out,hx]
   exact ⟨⟨k',rfl⟩,Below.set5 ((hB _).trans (hb1.mono (by simp))) (Nat.le_refl _)⟩
  | some p =>
   obtain ⟨ty,k⟩:=p
   have hcall:=fun w1 => zhf (hc w1) hx
   clear hc
   go_enter Tryz.func82,Tryz.ntmps82
   go_wp2_with (first | (go_at_call 101;refine (zas _ _ _ (by omega) _hs).mono ?_;rintro e w' ⟨rfl,rfl⟩) | (go_at_call 103;refine (hcall _).mono ?_;rintro e w1 ⟨ai,li,ci,af,lf,cf,rfl,hr1,hb1⟩;obtain ⟨hc1,hf1⟩:=zal hb1;have hz1 : w.heap.size < w1.heap.size:=(by have:=hb1.size;simp at this;omega)))
   refine bodyPost_ret (v:=.tuple #[.agg #[.int .i64 ty.kind,.string ty.letters,.bool ty.op,.slice ai li ci,.slice af lf cf],.int .i64 k,.bool true]) (by simp [results,Tryz.results82,go_sem,hc1,hz1]) rfl ?_
   rw [hr'.out,hx]
   exact ⟨⟨ai,li,ci,af,lf,cf,rfl,(hr1.keep (fun b o v hS h => zdt h (by simp at hS;omega))).imp (fun b _ h => by simp at h;omega)⟩,Below.set5 ((hB _).trans (hb1.mono (by simp))) (Nat.le_refl _)⟩
 have h91' : (bAt s i == 91) = false:=by simpa using h91
 by_cases h63 : bAt s i = 63
 ·have h63' : (bAt s i == 63) = true:=by simp [h63]
  have hil : i < s.size:=zar (by omega)
  have hr' : Hid (zac false s (n + 1) i = zbq (zac false s n) (i + 1)):=by show _ = _;rw [zac,if_neg h105,if_neg h108,if_neg h115,if_neg h60,if_neg h91,if_pos h63]
  have hc:=fun w1 => zw7 IH hs (i + 1) w1 (by omega) (by omega) (hbd (i + 1))
  clear h105 h108 h115 h60 h91 h63 hbd hfbd
  cases hx : zbq (zac false s n) (i + 1) with
  | none =>
   have hcall:=fun w1 => zhe (hc w1) hx
   clear hc
   go_enter Tryz.func82,Tryz.ntmps82
   go_wp2_with (first | (go_at_call 101;refine (zas _ _ _ (by omega) _hs).mono ?_;rintro e w' ⟨rfl,rfl⟩) | (go_at_call 104;refine (hcall _).mono ?_;rintro e w1 ⟨k',rfl,hb1⟩;obtain ⟨hc1,hf1⟩:=zal hb1;have hz1 : w.heap.size < w1.heap.size:=(by have:=hb1.size;simp at this;omega)))
   refine bodyPost_ret (v:=.tuple #[.agg #[.int .i64 0,.string ByteArray.empty,.bool false,.slice none 0 0,.slice none 0 0],.int .i64 k',.bool false]) (by simp [results,Tryz.results82,go_sem,hc1,hz1]) rfl ?_
   rw [hr'.out,hx]
   exact ⟨⟨k',rfl⟩,Below.set5 ((hB _).trans (hb1.mono (by simp))) (Nat.le_refl _)⟩
  | some p =>
   obtain ⟨ty,k⟩:=p
   have hcall:=fun w1 => zhf (hc w1) hx
   clear hc
   go_enter Tryz.func82,Tryz.ntmps82
   go_wp2_with (first | (go_at_call 101;refine (zas _ _ _ (by omega) _hs).mono ?_;rintro e w' ⟨rfl,rfl⟩) | (go_at_call 104;refine (hcall _).mono ?_;rintro e w1 ⟨ai,li,ci,af,lf,cf,rfl,hr1,hb1⟩;obtain ⟨hc1,hf1⟩:=zal hb1;have hz1 : w.heap.size < w1.heap.size:=(by have:=hb1.size;simp at this;omega)))
   refine bodyPost_ret (v:=.tuple #[.agg #[.int .i64 ty.kind,.string ty.letters,.bool ty.op,.slice ai li ci,.slice af lf cf],.int .i64 k,.bool true]) (by simp [results,Tryz.results82,go_sem,hc1,hz1]) rfl ?_
   rw [hr'.out,hx]
   exact ⟨⟨ai,li,ci,af,lf,cf,rfl,(hr1.keep (fun b o v hS h => zdt h (by simp at hS;omega))).imp (fun b _ h => by simp at h;omega)⟩,Below.set5 ((hB _).trans (hb1.mono (by simp))) (Nat.le_refl _)⟩
 have h63' : (bAt s i == 63) = false:=by simpa using h63
 by_cases h123 : bAt s i = 123
 ·have h123' : (bAt s i == 123) = true:=by simp [h123]
  have hil : i < s.size:=zar (by omega)
  have hr' : Hid (zac false s (n + 1) i = pRec (zaj (zac false s n) (enc false s n) s) s (i + 1)):=by show _ = _;rw [zac,if_neg h105,if_neg h108,if_neg h115,if_neg h60,if_neg h91,if_neg h63,if_pos h123]
  have hc:=fun w1 => zxa IF hs (i + 1) w1 (by omega) (by omega) hfbd
  clear h105 h108 h115 h60 h91 h63 h123 hbd hfbd
  cases hx : pRec (zaj (zac false s n) (enc false s n) s) s (i + 1) with
  | none =>
   have hcall:=fun w1 => zhe (hc w1) hx
   clear hc
   go_enter Tryz.func82,Tryz.ntmps82
   go_wp2_with (first | (go_at_call 101;refine (zas _ _ _ (by omega) _hs).mono ?_;rintro e w' ⟨rfl,rfl⟩) | (go_at_call 105;refine (hcall _).mono ?_;rintro e w1 ⟨k',rfl,hb1⟩;obtain ⟨hc1,hf1⟩:=zal hb1;have hz1 : w.heap.size < w1.heap.size:=(by have:=hb1.size;simp at this;omega)))
   refine bodyPost_ret (v:=.tuple #[.agg #[.int .i64 0,.string ByteArray.empty,.bool false,.slice none 0 0,.slice none 0 0],.int .i64 k',.bool false]) (by simp [results,Tryz.results82,go_sem,hc1,hz1]) rfl ?_
   rw [hr'.out,hx]
   exact ⟨⟨k',rfl⟩,Below.set5 ((hB _).trans (hb1.mono (by simp))) (Nat.le_refl _)⟩
  | some p =>
   obtain ⟨ty,k⟩:=p
   have hcall:=fun w1 => zhf (hc w1) hx
   clear hc
   go_enter Tryz.func82,Tryz.ntmps82
   go_wp2_with (first | (go_at_call 101;refine (zas _ _ _ (by omega) _hs).mono ?_;rintro e w' ⟨rfl,rfl⟩) | (go_at_call 105;refine (hcall _).mono ?_;rintro e w1 ⟨ai,li,ci,af,lf,cf,rfl,hr1,hb1⟩;obtain ⟨hc1,hf1⟩:=zal hb1;have hz1 : w.heap.size < w1.heap.size:=(by have:=hb1.size;simp at this;omega)))
   refine bodyPost_ret (v:=.tuple #[.agg #[.int .i64 ty.kind,.string ty.letters,.bool ty.op,.slice ai li ci,.slice af lf cf],.int .i64 k,.bool true]) (by simp [results,Tryz.results82,go_sem,hc1,hz1]) rfl ?_
   rw [hr'.out,hx]
   exact ⟨⟨ai,li,ci,af,lf,cf,rfl,(hr1.keep (fun b o v hS h => zdt h (by simp at hS;omega))).imp (fun b _ h => by simp at h;omega)⟩,Below.set5 ((hB _).trans (hb1.mono (by simp))) (Nat.le_refl _)⟩
 have h123' : (bAt s i == 123) = false:=by simpa using h123
 have hr' : Hid (zac false s (n + 1) i = none):=by show _ = _;rw [zac,if_neg h105,if_neg h108,if_neg h115,if_neg h60,if_neg h91,if_neg h63,if_neg h123]
 clear h105 h108 h115 h60 h91 h63 h123 hbd hfbd
 go_enter Tryz.func82,Tryz.ntmps82
 go_wp2_with ((go_at_call 101;refine (zas _ _ _ (by omega) _hs).mono ?_;rintro e w' ⟨rfl,rfl⟩))
 refine bodyPost_ret (v:=.tuple #[.agg #[.int .i64 0,.string ByteArray.empty,.bool false,.slice none 0 0,.slice none 0 0],.int .i64 i,.bool false]) (by simp [results,Tryz.results82,go_sem];rfl) rfl ?_
 rw [hr'.out]
 exact ⟨⟨i,rfl⟩,hB _⟩
theorem zpr {s : ByteArray} (hs : s.size <= 4096) : ∀ n,n <= 101 -> ParseTypeOK n s
 | 0,_ => zxc hs
 | n + 1,hn => zxb (zpr hs n (by omega)) hs (by omega)
end
section
open Go.RowKit
def pAll (st : Bool) (s : ByteArray) : Option Ty :=
 match zac st s s.size 0 with
 | none => none
 | some (t,k) => if k = s.size then some t else none
def TRet (B n : Nat) (no yes : Value) (r : Option Ty) (e : Ending) (w' : World) : Prop :=
 match r with
 | some ty => ∃ ai li ci af lf cf,e = .returned (.tuple #[.agg #[.int .i64 ty.kind,.string ty.letters,.bool ty.op,.slice ai li ci,.slice af lf cf],yes]) /\ RepB (fun b => B <= b) n w' ai li ci af lf cf ty
 | none => e = .returned (.tuple #[.agg #[.int .i64 0,.string ByteArray.empty,.bool false,.slice none 0 0,.slice none 0 0],no])
theorem zl8 {s : ByteArray} (hs : s.size <= 60) (w : World) :
  Calls Tryz.prog 67 #[.string s] w fun e w' => TRet w.heap.size s.size (.bool false) (.bool true) (pAll false s) e w' /\ Below w.heap.size w w':=by
 have _hs : s.size <= 9000000:=by omega
 have hB : ∀ o,Below w.heap.size w (w.alloc o):=fun o => (Below.refl _ _).alloc (Nat.le_refl _) _
 have IH:=zpr (s:=s) (by omega) s.size (by omega)
 cases hx : zac false s s.size 0 with
 | none =>
  have hr' : Hid (pAll false s = none):=by show _ = _;unfold pAll;rw [hx]
  have hcall:=fun w => IH.no w (Nat.zero_le _) (by omega) hx
  clear hx IH
  go_enter Tryz.func67,Tryz.ntmps67
  go_wp2_with (go_at_call 82;refine (hcall _).mono ?_;rintro e w1 ⟨k',rfl,hb1⟩;obtain ⟨hc1,hf1⟩:=zal hb1;have hz1 : w.heap.size < w1.heap.size:=(by have:=hb1.size;simp at this;omega))
  refine bodyPost_ret (v:=.tuple #[.agg #[.int .i64 0,.string ByteArray.empty,.bool false,.slice none 0 0,.slice none 0 0],.bool false]) (by simp [results,Tryz.results67,go_sem,hc1,hz1];rfl) rfl ?_
  rw [hr'.out]
  exact ⟨rfl,Below.alloc' (Below.set5 ((hB _).trans (hb1.mono (by simp))) (Nat.le_refl _)) _⟩
 | some p =>
  obtain ⟨ty,k⟩:=p
  have hcall:=fun w => IH.yes w (Nat.zero_le _) (by omega) hx
  by_cases hk : k = s.size
  ·subst hk
   have hk' : ((s.size : Int) != (s.size : Int)) = false:=by simp
   have hr' : Hid (pAll false s = some ty):=by show _ = _;unfold pAll;rw [hx];simp only [if_true]
   clear hx IH
   go_enter Tryz.func67,Tryz.ntmps67
   go_wp2_with (go_at_call 82;refine (hcall _).mono ?_;rintro e w1 ⟨ai,li,ci,af,lf,cf,rfl,hr1,hb1⟩;obtain ⟨hc1,hf1⟩:=zal hb1;have hz1 : w.heap.size < w1.heap.size:=(by have:=hb1.size;simp at this;omega))
   refine bodyPost_ret (v:=.tuple #[.agg #[.int .i64 ty.kind,.string ty.letters,.bool ty.op,.slice ai li ci,.slice af lf cf],.bool true]) (by simp [results,Tryz.results67,go_sem,hc1,hz1]) rfl ?_
   rw [hr'.out]
   exact ⟨⟨ai,li,ci,af,lf,cf,rfl,(hr1.keep (fun b o v hS h => zaw _ (zdt h (by simp at hS;omega)))).imp (fun b _ h => by simp at h;omega)⟩,Below.alloc' (Below.set5 ((hB _).trans (hb1.mono (by simp))) (Nat.le_refl _)) _⟩
  ·have hk' : ((k : Int) != (s.size : Int)) = true:=by simp;omega
   have hr' : Hid (pAll false s = none):=by show _ = _;unfold pAll;rw [hx];simp only [if_neg hk]
   clear hx IH
   go_enter Tryz.func67,Tryz.ntmps67
   go_wp2_with (go_at_call 82;refine (hcall _).mono ?_;rintro e w1 ⟨ai,li,ci,af,lf,cf,rfl,hr1,hb1⟩;obtain ⟨hc1,hf1⟩:=zal hb1;have hz1 : w.heap.size < w1.heap.size:=(by have:=hb1.size;simp at this;omega))
   refine bodyPost_ret (v:=.tuple #[.agg #[.int .i64 0,.string ByteArray.empty,.bool false,.slice none 0 0,.slice none 0 0],.bool false]) (by simp [results,Tryz.results67,go_sem,hc1,hz1];rfl) rfl ?_
   rw [hr'.out]
   exact ⟨rfl,Below.alloc' (Below.set5 ((hB _).trans (hb1.mono (by simp))) (Nat.le_refl _)) _⟩
def chk (st : Bool) (s : ByteArray) : Int:=if 60 < s.size then 1 else if (pAll st s).isSome = true then 0 else 2
end
section
set_option maxRecDepth 4000
open Go.RowKit
structure PinD where
 t : Int
 w : Int
 r : Int
structure SvcD where
 size : Int
 now : Int
 want : Int
 rels : List (List PinD)
structure zae where
 ss : List ByteArray
 ts : List Int
 vs : List SvcD
def StrsAt (w : World) (a : Option Addr) (ss : List ByteArray) : Prop:=∀ i s,ss[i]? = some s -> ∃ b o,a = some ⟨b,o,none⟩ /\ w.cell? ⟨b,o + i,none⟩ = some (.string s)
def IntsAt (w : World) (a : Option Addr) (ns : List Int) : Prop:=∀ i n,ns[i]? = some n -> ∃ b o,a = some ⟨b,o,none⟩ /\ w.cell? ⟨b,o + i,none⟩ = some (.int .i64 n)
def PinsAt (w : World) (a : Option Addr) (ps : List PinD) : Prop:=∀ i p,ps[i]? = some p -> ∃ b o,a = some ⟨b,o,none⟩ /\ w.cell? ⟨b,o + i * 3,none⟩ = some (.int .i64 p.t) /\ w.cell? ⟨b,o + i * 3 + 1,none⟩ = some (.int .i64 p.w) /\ w.cell? ⟨b,o + i * 3 + 2,none⟩ = some (.int .i64 p.r)
def PinSl (w : World) (pa : Option Addr) (pl pc : Nat) (ps : List PinD) : Prop:=pl = ps.length /\ ps.length <= 2000000 /\ pl <= pc /\ pc <= 9000000 /\ PinsAt w pa ps
def zsj (R : World -> Option Addr -> Nat -> Nat -> List PinD -> Prop) (w : World) (a : Option Addr) (rs : List (List PinD)) : Prop:=∀ i ps,rs[i]? = some ps -> ∃ b o pa pl pc,a = some ⟨b,o,none⟩ /\ w.cell? ⟨b,o + i,none⟩ = some (.slice pa pl pc) /\ R w pa pl pc ps
def RelSl (R : World -> Option Addr -> Nat -> Nat -> List PinD -> Prop) (w : World) (ra : Option Addr) (rl rc : Nat) (rs : List (List PinD)) : Prop:=rl = rs.length /\ rs.length <= 2000000 /\ rl <= rc /\ rc <= 9000000 /\ zsj R w ra rs
def SvcsAt (Q : World -> Option Addr -> Nat -> Nat -> List (List PinD) -> Prop) (w : World) (a : Option Addr) (vs : List SvcD) : Prop:=∀ i v,vs[i]? = some v -> ∃ b o ra rl rc,a = some ⟨b,o,none⟩ /\
 w.cell? ⟨b,o + i * 4,none⟩ = some (.int .i64 v.size) /\ w.cell? ⟨b,o + i * 4 + 1,none⟩ = some (.int .i64 v.now) /\ w.cell? ⟨b,o + i * 4 + 2,none⟩ = some (.int .i64 v.want) /\ w.cell? ⟨b,o + i * 4 + 3,none⟩ = some (.slice ra rl rc) /\ Q w ra rl rc v.rels
theorem StrsAt.keep {w w' : World} (hb : Below w.heap.size w w') {a : Option Addr} {ss : List ByteArray} (h : StrsAt w a ss) : StrsAt w' a ss:=fun i s hi => by
 obtain ⟨b,o,h1,h2⟩:=h i s hi
 exact ⟨b,o,h1,zaa hb h2⟩
theorem IntsAt.keep {w w' : World} (hb : Below w.heap.size w w') {a : Option Addr} {ns : List Int} (h : IntsAt w a ns) : IntsAt w' a ns:=fun i s hi => by
 obtain ⟨b,o,h1,h2⟩:=h i s hi
 exact ⟨b,o,h1,zaa hb h2⟩
theorem PinsAt.keep {w w' : World} (hb : Below w.heap.size w w') {a : Option Addr} {ps : List PinD} (h : PinsAt w a ps) : PinsAt w' a ps:=fun i s hi => by
 obtain ⟨b,o,h1,h2,h3,h4⟩:=h i s hi
 exact ⟨b,o,h1,zaa hb h2,zaa hb h3,zaa hb h4⟩
theorem PinSl.keep {w w' : World} (hb : Below w.heap.size w w') {a : Option Addr} {l c : Nat} {ps : List PinD} (h : PinSl w a l c ps) : PinSl w' a l c ps:=⟨h.1,h.2.1,h.2.2.1,h.2.2.2.1,h.2.2.2.2.keep hb⟩
theorem RelSl.keep {R : World -> Option Addr -> Nat -> Nat -> List PinD -> Prop} {w w' : World} (hR : ∀ a l c ps,R w a l c ps -> R w' a l c ps) (hb : Below w.heap.size w w') {a : Option Addr} {l c : Nat} {rs : List (List PinD)} (h : RelSl R w a l c rs) : RelSl R w' a l c rs:=⟨h.1,h.2.1,h.2.2.1,h.2.2.2.1,fun i ps hi => by
 obtain ⟨b,o,pa,pl,pc,h1,h2,h3⟩:=h.2.2.2.2 i ps hi
 exact ⟨b,o,pa,pl,pc,h1,zaa hb h2,hR _ _ _ _ h3⟩⟩
theorem SvcsAt.keep {Q : World -> Option Addr -> Nat -> Nat -> List (List PinD) -> Prop} {w w' : World} (hQ : ∀ a l c rs,Q w a l c rs -> Q w' a l c rs) (hb : Below w.heap.size w w') {a : Option Addr} {vs : List SvcD} (h : SvcsAt Q w a vs) : SvcsAt Q w' a vs:=fun i v hi => by
 obtain ⟨b,o,ra,rl,rc,h1,h2,h3,h4,h5,h6⟩:=h i v hi
 exact ⟨b,o,ra,rl,rc,h1,zaa hb h2,zaa hb h3,zaa hb h4,zaa hb h5,hQ _ _ _ _ h6⟩
theorem PinsAt.take {w : World} {a : Option Addr} {ps : List PinD} (h : PinsAt w a ps) (k : Nat) : PinsAt w a (ps.take k):=fun i p hi => h i p (by
 rw [List.getElem?_take] at hi
 split at hi
 ·exact hi
 ·cases hi)
theorem zmc (F : Nat -> Bool) (x : Nat) : (List.range (x + 1)).all F = ((List.range x).all F && F x):=by rw [List.range_succ,List.all_append];simp
theorem zmd {F : Nat -> Bool} {x n : Nat} (hx : x < n) (h : F x = false) : (List.range n).all F = false:=by
 cases hc : (List.range n).all F with
 | false => rfl
 | true => rw [List.all_eq_true] at hc;rw [hc x (List.mem_range.2 hx)] at h;cases h
def numB (n c : Int) : Bool:=decide (0 <= n) && decide (n < c)
def pinB (ns nt : Nat) (p : PinD) : Bool:=numB p.t nt && ((p.w == -1) || numB p.w ns) && ((p.r == -1) || numB p.r ns)
theorem zct (n c : Int) (w : World) : Calls Tryz.prog 69 #[.int .i64 n,.int .i64 c] w fun e w' => e = .returned (.bool (numB n c)) /\ w = w':=by
 unfold numB
 by_cases h0 : 0 <= n
 ·go_enter Tryz.func69,Tryz.ntmps69
  go_wp2_with fail
  go_ret
  exact ⟨za9 (by simp [h0]),rfl⟩
 ·go_enter Tryz.func69,Tryz.ntmps69
  go_wp2_with fail
  go_ret
  exact ⟨za9 (by simp;omega),rfl⟩
theorem zsx {ps : List PinD} {x : Nat} {p : PinD} (f : PinD -> Bool) (h : ps[x]? = some p) : (ps.take (x + 1)).any f = ((ps.take x).any f || f p):=by
 rw [List.take_add_one,h,List.any_append];simp
theorem zuz (ps : List PinD) (t : Int) (w : World) (a : Option Addr) (cap : Nat) (hl : ps.length <= 2000000) (hp : PinsAt w a ps) :
  Calls Tryz.prog 107 #[.slice a ps.length cap,.int .i64 t] w fun e w' => e = .returned (.bool (ps.any fun q => q.t == t)) /\ Below w.heap.size w w':=by
 obtain ⟨R,hR⟩ : ∃ R,R = ps.any fun q => q.t == t:=⟨_,rfl⟩
 rw [<- hR]
 have HR : Hid (R = ps.any fun q => q.t == t):=hR
 clear hR
 go_enter Tryz.func107,Tryz.ntmps107
 go_wp2_with fail
 go_loopw [9] (fun vi wr => ∃ i : Nat,i <= ps.length /\ vi = .int .i64 i /\ Hid (((ps.take i).any fun q => q.t == t) = false) /\ Below w.heap.size w wr) (fun i _ => ps.length - (intOf i).toNat)
 case atStart => exact ⟨0,Nat.zero_le _,rfl,(by show _ = _;rfl),Below.refl _ _⟩
 case round =>
  obtain ⟨i,hi,rfl,hn,hb⟩:=hrel
  by_cases hlt : i < ps.length
  ·obtain ⟨p,hpi⟩ : ∃ p,ps[i]? = some p:=⟨ps[i],List.getElem?_eq_getElem hlt⟩
   obtain ⟨b,o,rfl,c0,c1,c2⟩:=hp i p hpi
   have c0:=zaa hb c0
   have c1:=zaa hb c1
   have c2:=zaa hb c2
   have hbl:=zaf c0
   have hsn:=zsx (fun q => q.t == t) hpi
   by_cases ht : p.t = t
   ·have hR1 : R = true:=by
     rw [HR.out,List.any_eq_true]
     exact ⟨p,List.mem_of_getElem? hpi,by simp [ht]⟩
    have ht' : (p.t == t) = true:=by simp [ht]
    clear HR hn hsn hpi ht
    subst hR1
    go_wp2_with fail
    go_ret
    exact ⟨rfl,Below.alloc' hb _⟩
   ·have ht' : (p.t == t) = false:=by simp [ht]
    have hn' : Hid (((ps.take (i + 1)).any fun q => q.t == t) = false):=by show _ = _;rw [hsn,hn.out,ht'];rfl
    clear HR hn hsn hpi ht
    go_wp2_with fail
    go_roundw
    case rel => exact ⟨i + 1,by omega,by go_num,hn',Below.alloc' hb _⟩
    case measure => simp [intOf];omega
  ·have hR1 : R = false:=by rw [HR.out];have:=hn.out;rw [List.take_of_length_le (by omega)] at this;exact this
   clear HR hn
   subst hR1
   go_wp2_with fail
   go_ret
   exact ⟨rfl,hb⟩
theorem zxe (ns nt : Nat) (p : PinD) (sa ta va : Option Addr) (sc tc vl vc : Nat) (hns : ns <= 2000000) (hnt : nt <= 2000000) (w : World) :
  Calls Tryz.prog 106 #[.agg #[.slice sa ns sc,.slice ta nt tc,.slice va vl vc],.agg #[.int .i64 p.t,.int .i64 p.w,.int .i64 p.r]] w fun e w' => e = .returned (.bool (pinB ns nt p)) /\ Below w.heap.size w w':=by
 obtain ⟨x,y,z⟩:=p
 have h1:=fun w => zct x nt w
 have h2:=fun w => zct y ns w
 have h3:=fun w => zct z ns w
 have hr : Hid (pinB ns nt ⟨x,y,z⟩ = (numB x nt && ((y == -1) || numB y ns) && ((z == -1) || numB z ns))):=rfl
 generalize numB x nt = b1 at h1 hr
 generalize numB y ns = b2 at h2 hr
 generalize numB z ns = b3 at h3 hr
 simp only
 have key : ∀ (y0 z0 : Bool),(y == -1) = y0 -> (z == -1) = z0 -> (y0 = true \/ b2 = true \/ b2 = false) -> (z0 = true \/ b3 = true \/ b3 = false) -> (b1 = true \/ b1 = false) -> Hid (pinB ns nt ⟨x,y,z⟩ = (b1 && (y0 || b2) && (z0 || b3))) -> Calls Tryz.prog 106 #[.agg #[.slice sa ns sc,.slice ta nt tc,.slice va vl vc],.agg #[.int .i64 x,.int .i64 y,.int .i64 z]] w fun e w' => e = .returned (.bool (pinB ns nt ⟨x,y,z⟩)) /\ Below w.heap.size w w':=by
  intro y0 z0 hy hz c1 c2 c3 hr
  cases y0
  ·cases z0
   ·rcases c3 with rfl | rfl <;> rcases c1 with h | rfl | rfl <;> (try cases h) <;> rcases c2 with h | rfl | rfl <;> (try cases h) <;> (
    go_enter Tryz.func106,Tryz.ntmps106
    go_wp2_with (first | (go_at_call 69;have hq:=m2;refine (h1 _).mono ?_;rintro e _ ⟨rfl,rfl⟩;have m3 : True:=trivial) | (go_at_call 69;have hq:=m1;refine (h3 _).mono ?_;rintro e _ ⟨rfl,rfl⟩;have m2 : True:=trivial) | (go_at_call 69; refine (h2 _).mono ?_;rintro e _ ⟨rfl,rfl⟩;have m1 : True:=trivial))
    go_ret
    exact ⟨za9 (by rw [hr.out];rfl),Below.alloc' (Below.alloc' (Below.refl _ _) _) _⟩)
   ·rcases c3 with rfl | rfl <;> rcases c1 with h | rfl | rfl <;> (try cases h) <;> (
    clear c2
    go_enter Tryz.func106,Tryz.ntmps106
    go_wp2_with (first | (go_at_call 69;have hq:=m1;refine (h1 _).mono ?_;rintro e _ ⟨rfl,rfl⟩;have m2 : True:=trivial) | (go_at_call 69; refine (h2 _).mono ?_;rintro e _ ⟨rfl,rfl⟩;have m1 : True:=trivial))
    go_ret
    exact ⟨za9 (by rw [hr.out];rfl),Below.alloc' (Below.alloc' (Below.refl _ _) _) _⟩)
  ·cases z0
   ·rcases c3 with rfl | rfl <;> rcases c2 with h | rfl | rfl <;> (try cases h) <;> (
    clear c1
    go_enter Tryz.func106,Tryz.ntmps106
    go_wp2_with (first | (go_at_call 69;have hq:=m1;refine (h1 _).mono ?_;rintro e _ ⟨rfl,rfl⟩;have m2 : True:=trivial) | (go_at_call 69; refine (h3 _).mono ?_;rintro e _ ⟨rfl,rfl⟩;have m1 : True:=trivial))
    go_ret
    exact ⟨za9 (by rw [hr.out];rfl),Below.alloc' (Below.alloc' (Below.refl _ _) _) _⟩)
   ·rcases c3 with rfl | rfl <;> (
    clear c1
    clear c2
    go_enter Tryz.func106,Tryz.ntmps106
    go_wp2_with (first | (go_at_call 69; refine (h1 _).mono ?_;rintro e _ ⟨rfl,rfl⟩;have m1 : True:=trivial))
    go_ret
    exact ⟨za9 (by rw [hr.out];rfl),Below.alloc' (Below.alloc' (Below.refl _ _) _) _⟩)
 refine key _ _ rfl rfl ?_ ?_ ?_ hr
 ·cases b2 <;> simp
 ·cases b3 <;> simp
 ·cases b1 <;> simp
end
end Go.Proofs.YtkkekopomiehlaaGreat
