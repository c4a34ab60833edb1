import Derived.Test.YtkkekopomiehlaaGreatCParse1
import Derived.Deep.RegionHeld3
set_option linter.unusedVariables false
set_option linter.unusedSimpArgs false
set_option maxHeartbeats 40000000
namespace Go.Proofs.YtkkekopomiehlaaGreat
section
open Go.RowKit
def FRet (B n : Nat) (r : Option ((Nat × Ty × ByteArray) × Nat)) (e : Ending) (w' : World) : Prop :=
 match r with
 | some (f,k) => ∃ ai li ci af lf cf,e = .returned (.tuple #[.agg #[.int .i64 f.1,.int .i64 f.2.1.kind,.string f.2.1.letters,.bool f.2.1.op,.slice ai li ci,.slice af lf cf,.string f.2.2],.int .i64 k,.bool true]) /\ RepB (fun b => B <= b) n w' ai li ci af lf cf f.2.1
 | none => ∃ k' : Nat,e = .returned (.tuple #[.agg #[.int .i64 0,.int .i64 0,.string ByteArray.empty,.bool false,.slice none 0 0,.slice none 0 0,.string ByteArray.empty],.int .i64 k',.bool false])
theorem Below.set7 {a w : World} (h : Below a.heap.size a w) {p : Nat} (hp : a.heap.size <= p) {v0 v1 v2 v3 v4 v5 v6 : Value} : Below a.heap.size a (((((((w.setCell ⟨p,0,none⟩ v0).setCell ⟨p,1,none⟩ v1).setCell ⟨p,2,none⟩ v2).setCell ⟨p,3,none⟩ v3).setCell ⟨p,4,none⟩ v4).setCell ⟨p,5,none⟩ v5).setCell ⟨p,6,none⟩ v6) :=
 (((Below.set5 h hp).setCell hp v5).setCell hp v6)
theorem zmm {w : World} {b o p : Nat} {v v0 v1 v2 v3 v4 v5 v6 : Value} (h : w.cell? ⟨b,o,none⟩ = some v) (hne : b ≠ p) : (((((((w.setCell ⟨p,0,none⟩ v0).setCell ⟨p,1,none⟩ v1).setCell ⟨p,2,none⟩ v2).setCell ⟨p,3,none⟩ v3).setCell ⟨p,4,none⟩ v4).setCell ⟨p,5,none⟩ v5).setCell ⟨p,6,none⟩ v6).cell? ⟨b,o,none⟩ = some v :=
 zer (zer (zdt h hne) hne) hne
theorem zjs {w : World} {b o : Nat} {v : Value} (h : w.cell? ⟨b,o,none⟩ = some v) : w.drew.cell? ⟨b,o,none⟩ = some v:=h
theorem zw5 {n : Nat} {s : ByteArray} (IH : ParseTypeOK n s) (IE : EncAtOK n s) (hs : s.size <= 4096) (i : Nat) (w : World) (hi : i <= s.size) (hn : s.size <= i + 2 + n) (hbd : ∀ a ty k,zac false s n a = some (ty,k) -> k <= s.size)
  (h1a : isL (bAt s i) = true) (h1b : bAt s (i + 1) = 58) {ty : Ty} {k : Nat} (hx : zac false s n (i + 2) = some (ty,k)) (h2 : bAt s k = 61) {d : ByteArray} {m : Nat} (hy : enc false s n ty (k + 1) = some (d,m)) :
  Calls Tryz.prog 125 #[.string s,.int .i64 i] w fun e w' => FRet w.heap.size n (zaj (zac false s n) (enc false s n) s i) e w' /\ Below w.heap.size w w':=by
 have _hs : s.size <= 9000000:=by omega
 have hB : ∀ o,Below w.heap.size w (w.alloc o):=fun o => (Below.refl _ _).alloc (Nat.le_refl _) _
 have h1b' : (bAt s (i + 1) != 58) = false:=by simp [h1b]
 have hi1 : i + 1 < s.size:=zar (by omega)
 have hlet : 97 <= bAt s i:=by simp [isL] at h1a;omega
 have hk:=hbd _ ty k hx
 have hcall:=fun w => IH.yes w (show i + 2 <= s.size by omega) (by omega) hx
 have h2' : (bAt s k != 61) = false:=by simp [h2]
 have hk1 : k < s.size:=zar (by omega)
 obtain ⟨hm1,hm2,hm3⟩:=zbo hy
 have hr' : Hid (zaj (zac false s n) (enc false s n) s i = some (((bAt s i).toNat,ty,s.extract (k + 1) m),m)):=by show _ = _;unfold zaj;rw [if_pos ⟨h1a,h1b⟩,hx];simp only [if_pos h2];rw [hy]
 have hecall : ∀ (B : Nat -> Prop) (w1 : World) (o : Obj) ai li ci af lf cf,RepB B n w1 ai li ci af lf cf ty -> Calls Tryz.prog 135 #[.agg #[.int .i64 ty.kind,.string ty.letters,.bool ty.op,.slice ai li ci,.slice af lf cf],.string s,.int .i64 (k + 1 : Nat)] (w1.alloc o) fun e w' => e = .returned (.tuple #[.string d,.int .i64 m,.bool true]) /\ Below (w1.alloc o).heap.size (w1.alloc o) w':=fun B w1 o ai li ci af lf cf h => IE.yes (by omega) ((h.rep).keep ((Below.refl _ _).alloc (Nat.le_refl _) _)) hy
 clear hx hy hbd h1b h2 hm3
 go_enter Tryz.func125,Tryz.ntmps125
 go_wp2_with (first | (go_at_call 101;refine (zas _ _ _ (by omega) _hs).mono ?_;rintro e w' ⟨rfl,rfl⟩) | (go_at_call 134;refine (zdw _ _).mono ?_;rintro e w' ⟨rfl,rfl⟩) | (go_at_call 82;refine (hcall _).mono ?_;rintro e w1 ⟨ai,li,ci,af,lf,cf,rfl,hr1,hb1⟩;obtain ⟨hc1,hf1⟩:=zal hb1;have hz1 : w.heap.size < w1.heap.size:=(by have:=hb1.size;simp at this;omega)) | (go_at_call 135;refine (hecall _ _ _ _ _ _ _ _ _ hr1).mono ?_;rintro e w2 ⟨rfl,hb2⟩;obtain ⟨hc2,hf2⟩:=zal hb2;have hz2 : w1.heap.size < w2.heap.size:=(by have:=hb2.size;simp at this;omega);have hz3 : w.heap.size < w1.heap.size + 1:=(by omega)))
 have e0 : w2.cell? ⟨w1.heap.size,0,none⟩ = some (.int .i64 ty.kind):=zaa hb2 (za5 rfl rfl)
 have e1 : w2.cell? ⟨w1.heap.size,1,none⟩ = some (.string ty.letters):=zaa hb2 (za5 rfl rfl)
 have e2 : w2.cell? ⟨w1.heap.size,2,none⟩ = some (.bool ty.op):=zaa hb2 (za5 rfl rfl)
 have e3 : w2.cell? ⟨w1.heap.size,3,none⟩ = some (.slice ai li ci):=zaa hb2 (za5 rfl rfl)
 have e4 : w2.cell? ⟨w1.heap.size,4,none⟩ = some (.slice af lf cf):=zaa hb2 (za5 rfl rfl)
 have hne : w1.heap.size ≠ w.heap.size:=by omega
 have hne2 : ¬ w.heap.size = w1.heap.size:=by omega
 have hwk : IntKind.i64.wrap ((k : Int) + 1) = (k : Int) + 1:=by rw [IntKind.wrap_i64];omega
 go_region_held3 (fun w' => w'.cell? ⟨w1.heap.size,0,none⟩ = some (.int .i64 ty.kind) /\ w'.cell? ⟨w1.heap.size,1,none⟩ = some (.string ty.letters) /\ w'.cell? ⟨w1.heap.size,2,none⟩ = some (.bool ty.op) /\ w'.cell? ⟨w1.heap.size,3,none⟩ = some (.slice ai li ci) /\ w'.cell? ⟨w1.heap.size,4,none⟩ = some (.slice af lf cf)) (go_keep) (first | (go_at_call 124;refine (zzo s _ _ _ (by omega) (by omega) (by omega) _hs).mono ?_;rintro e w' ⟨rfl,rfl⟩))
 go_wp2_with fail
 have hb0 : Below w.heap.size w w2:=((hB _).trans (hb1.mono (by simp))).trans ((((Below.refl _ _).alloc (Nat.le_refl _) _).trans (hb2.mono (by simp))).mono (by omega))
 refine bodyPost_ret (v:=.tuple #[.agg #[.int .i64 (bAt s i),.int .i64 ty.kind,.string ty.letters,.bool ty.op,.slice ai li ci,.slice af lf cf,.string (s.extract (k + 1) m)],.int .i64 m,.bool true]) (by simp [results,Tryz.results125,go_sem,hc1,hz1,hc2,hz2,hz3]) rfl ?_
 rw [hr'.out]
 refine ⟨⟨ai,li,ci,af,lf,cf,?_,?_⟩,(Below.set7 hb0 (Nat.le_refl _)).drew⟩
 ·rw [show (((bAt s i).toNat : Nat) : Int) = bAt s i by omega]
 ·exact (hr1.keep (fun b o v hb h => zjs (zmm (zaa hb2 (zaw _ h)) (by simp at hb;omega)))).imp (fun b _ h => by simp at h;omega)
theorem zw4 {n : Nat} {s : ByteArray} (IH : ParseTypeOK n s) (IE : EncAtOK n s) (hs : s.size <= 4096) (i : Nat) (w : World) (hi : i <= s.size) (hn : s.size <= i + 2 + n) (hbd : ∀ a ty k,zac false s n a = some (ty,k) -> k <= s.size) :
  Calls Tryz.prog 125 #[.string s,.int .i64 i] w fun e w' => FRet w.heap.size n (zaj (zac false s n) (enc false s n) s i) e w' /\ Below w.heap.size w w':=by
 have _hs : s.size <= 9000000:=by omega
 have hB : ∀ o,Below w.heap.size w (w.alloc o):=fun o => (Below.refl _ _).alloc (Nat.le_refl _) _
 by_cases h1 : isL (bAt s i) = true /\ bAt s (i + 1) = 58
 ·obtain ⟨h1a,h1b⟩:=h1
  have h1b' : (bAt s (i + 1) != 58) = false:=by simp [h1b]
  have hi1 : i + 1 < s.size:=zar (by omega)
  have hlet : 97 <= bAt s i:=by simp [isL] at h1a;omega
  cases hx : zac false s n (i + 2) with
  | none =>
   have hr' : Hid (zaj (zac false s n) (enc false s n) s i = none):=by show _ = _;unfold zaj;rw [if_pos ⟨h1a,h1b⟩,hx]
   have hcall:=fun w => IH.no w (show i + 2 <= s.size by omega) (by omega) hx
   clear hx hbd h1b
   go_enter Tryz.func125,Tryz.ntmps125
   go_wp2_with (first | (go_at_call 101;refine (zas _ _ _ (by omega) _hs).mono ?_;rintro e w' ⟨rfl,rfl⟩) | (go_at_call 134;refine (zdw _ _).mono ?_;rintro e w' ⟨rfl,rfl⟩) | (go_at_call 82;refine (hcall _).mono ?_;rintro e w1 ⟨k',rfl,hb1⟩;obtain ⟨hc1,hf1⟩:=zal hb1;have hz1 : w.heap.size < w1.heap.size:=(by have:=hb1.size;simp at this;omega)))
   have hb0 : Below w.heap.size w w1:=(hB _).trans (hb1.mono (by simp))
   refine bodyPost_ret (v:=.tuple #[.agg #[.int .i64 0,.int .i64 0,.string ByteArray.empty,.bool false,.slice none 0 0,.slice none 0 0,.string ByteArray.empty],.int .i64 i,.bool false]) (by simp [results,Tryz.results125,go_sem,hc1,hz1];rfl) rfl ?_
   rw [hr'.out]
   exact ⟨⟨i,rfl⟩,Below.alloc' (Below.set7 hb0 (Nat.le_refl _)) _⟩
  | some p =>
   obtain ⟨ty,k⟩:=p
   have hk:=hbd _ ty k hx
   have hcall:=fun w => IH.yes w (show i + 2 <= s.size by omega) (by omega) hx
   by_cases h2 : bAt s k = 61
   ·have h2' : (bAt s k != 61) = false:=by simp [h2]
    have hk1 : k < s.size:=zar (by omega)
    cases hy : enc false s n ty (k + 1) with
    | none =>
     have hr' : Hid (zaj (zac false s n) (enc false s n) s i = none):=by show _ = _;unfold zaj;rw [if_pos ⟨h1a,h1b⟩,hx];simp only [if_pos h2];rw [hy]
     have hecall : ∀ (B : Nat -> Prop) (w1 : World) (o : Obj) ai li ci af lf cf,RepB B n w1 ai li ci af lf cf ty -> Calls Tryz.prog 135 #[.agg #[.int .i64 ty.kind,.string ty.letters,.bool ty.op,.slice ai li ci,.slice af lf cf],.string s,.int .i64 (k + 1 : Nat)] (w1.alloc o) fun e w' => e = .returned (.tuple #[.string ByteArray.empty,.int .i64 (k + 1 : Nat),.bool false]) /\ Below (w1.alloc o).heap.size (w1.alloc o) w':=fun B w1 o ai li ci af lf cf h => IE.no (by omega) ((h.rep).keep ((Below.refl _ _).alloc (Nat.le_refl _) _)) hy
     clear hx hy hbd h1b h2
     go_enter Tryz.func125,Tryz.ntmps125
     go_wp2_with (first | (go_at_call 101;refine (zas _ _ _ (by omega) _hs).mono ?_;rintro e w' ⟨rfl,rfl⟩) | (go_at_call 134;refine (zdw _ _).mono ?_;rintro e w' ⟨rfl,rfl⟩) | (go_at_call 82;refine (hcall _).mono ?_;rintro e w1 ⟨ai,li,ci,af,lf,cf,rfl,hr1,hb1⟩;obtain ⟨hc1,hf1⟩:=zal hb1;have hz1 : w.heap.size < w1.heap.size:=(by have:=hb1.size;simp at this;omega)) | (go_at_call 135;refine (hecall _ _ _ _ _ _ _ _ _ hr1).mono ?_;rintro e w2 ⟨rfl,hb2⟩;obtain ⟨hc2,hf2⟩:=zal hb2;have hz2 : w1.heap.size < w2.heap.size:=(by have:=hb2.size;simp at this;omega);have hz3 : w.heap.size < w1.heap.size + 1:=(by omega)))
     have hb0 : Below w.heap.size w w2:=((hB _).trans (hb1.mono (by simp))).trans ((((Below.refl _ _).alloc (Nat.le_refl _) _).trans (hb2.mono (by simp))).mono (by omega))
     refine bodyPost_ret (v:=.tuple #[.agg #[.int .i64 0,.int .i64 0,.string ByteArray.empty,.bool false,.slice none 0 0,.slice none 0 0,.string ByteArray.empty],.int .i64 i,.bool false]) (by simp [results,Tryz.results125,go_sem,hc1,hz1,hc2,hz2,hz3];rfl) rfl ?_
     rw [hr'.out]
     exact ⟨⟨i,rfl⟩,Below.set7 hb0 (Nat.le_refl _)⟩
    | some q =>
     obtain ⟨d,m⟩:=q
     exact zw5 IH IE hs i w hi hn hbd h1a h1b hx h2 hy
   ·have h2' : (bAt s k != 61) = true:=by simpa using h2
    have hr' : Hid (zaj (zac false s n) (enc false s n) s i = some (((bAt s i).toNat,ty,ByteArray.empty),k)):=by show _ = _;unfold zaj;rw [if_pos ⟨h1a,h1b⟩,hx];simp only [if_neg h2]
    clear hx hbd h1b h2
    go_enter Tryz.func125,Tryz.ntmps125
    go_wp2_with (first | (go_at_call 101;refine (zas _ _ _ (by omega) _hs).mono ?_;rintro e w' ⟨rfl,rfl⟩) | (go_at_call 134;refine (zdw _ _).mono ?_;rintro e w' ⟨rfl,rfl⟩) | (go_at_call 82;refine (hcall _).mono ?_;rintro e w1 ⟨ai,li,ci,af,lf,cf,rfl,hr1,hb1⟩;obtain ⟨hc1,hf1⟩:=zal hb1;have hz1 : w.heap.size < w1.heap.size:=(by have:=hb1.size;simp at this;omega)))
    have hb0 : Below w.heap.size w w1:=(hB _).trans (hb1.mono (by simp))
    refine bodyPost_ret (v:=.tuple #[.agg #[.int .i64 (bAt s i),.int .i64 ty.kind,.string ty.letters,.bool ty.op,.slice ai li ci,.slice af lf cf,.string ByteArray.empty],.int .i64 k,.bool true]) (by simp [results,Tryz.results125,go_sem,hc1,hz1];rfl) rfl ?_
    rw [hr'.out]
    refine ⟨⟨ai,li,ci,af,lf,cf,?_,?_⟩,Below.alloc' (Below.set7 hb0 (Nat.le_refl _)) _⟩
    ·rw [show (((bAt s i).toNat : Nat) : Int) = bAt s i by omega]
    ·exact (hr1.keep (fun b o v hb h => zaw _ (zmm h (by simp at hb;omega)))).imp (fun b _ h => by simp at h;omega)
 ·rw [show zaj (zac false s n) (enc false s n) s i = none by unfold zaj;rw [if_neg h1]]
  cases hl : isL (bAt s i) with
  | false =>
   go_enter Tryz.func125,Tryz.ntmps125
   go_wp2_with (first | (go_at_call 101;refine (zas _ _ _ (by omega) _hs).mono ?_;rintro e w' ⟨rfl,rfl⟩) | (go_at_call 134;refine (zdw _ _).mono ?_;rintro e w' ⟨rfl,rfl⟩))
   exact bodyPost_ret (v:=.tuple #[.agg #[.int .i64 0,.int .i64 0,.string ByteArray.empty,.bool false,.slice none 0 0,.slice none 0 0,.string ByteArray.empty],.int .i64 i,.bool false]) (by simp [results,Tryz.results125,go_sem];rfl) rfl ⟨⟨i,rfl⟩,hB _⟩
  | true =>
   have h2' : (bAt s (i + 1) != 58) = true:=by simp;exact fun h => h1 ⟨hl,h⟩
   clear h1
   go_enter Tryz.func125,Tryz.ntmps125
   go_wp2_with (first | (go_at_call 101;refine (zas _ _ _ (by omega) _hs).mono ?_;rintro e w' ⟨rfl,rfl⟩) | (go_at_call 134;refine (zdw _ _).mono ?_;rintro e w' ⟨rfl,rfl⟩))
   exact bodyPost_ret (v:=.tuple #[.agg #[.int .i64 0,.int .i64 0,.string ByteArray.empty,.bool false,.slice none 0 0,.slice none 0 0,.string ByteArray.empty],.int .i64 i,.bool false]) (by simp [results,Tryz.results125,go_sem];rfl) rfl ⟨⟨i,rfl⟩,hB _⟩
end
section
open Go.RowKit
def RowOf (S : Nat -> Prop) (n : Nat) (w : World) (xs : List Value) (fs : List (Nat × Ty × ByteArray)) : Prop :=
 xs.length = fs.length * 7 /\ ∀ i f,fs[i]? = some f -> ∃ p1 p2 p3 q1 q2 q3,RepB S n w p1 p2 p3 q1 q2 q3 f.2.1 /\ xs[i * 7]? = some (.int .i64 f.1) /\
      xs[i * 7 + 1]? = some (.int .i64 f.2.1.kind) /\ xs[i * 7 + 2]? = some (.string f.2.1.letters) /\ xs[i * 7 + 3]? = some (.bool f.2.1.op) /\ xs[i * 7 + 4]? = some (.slice p1 p2 p3) /\ xs[i * 7 + 5]? = some (.slice q1 q2 q3) /\
      xs[i * 7 + 6]? = some (.string f.2.2)
theorem RowOf.keep {S : Nat -> Prop} {n : Nat} {w w' : World} {xs : List Value} {fs : List (Nat × Ty × ByteArray)} (h : RowOf S n w xs fs) (hb : ∀ b o v,S b -> w.cell? ⟨b,o,none⟩ = some v -> w'.cell? ⟨b,o,none⟩ = some v) : RowOf S n w' xs fs :=
 ⟨h.1,fun i f hi => by obtain ⟨p1,p2,p3,q1,q2,q3,h1,h2⟩:=h.2 i f hi;exact ⟨p1,p2,p3,q1,q2,q3,h1.keep hb,h2⟩⟩
theorem RowOf.imp {S S' : Nat -> Prop} {n : Nat} {w : World} {xs : List Value} {fs : List (Nat × Ty × ByteArray)} (h : RowOf S n w xs fs) (hS : ∀ b,b < w.heap.size -> S b -> S' b) : RowOf S' n w xs fs :=
 ⟨h.1,fun i f hi => by obtain ⟨p1,p2,p3,q1,q2,q3,h1,h2⟩:=h.2 i f hi;exact ⟨p1,p2,p3,q1,q2,q3,h1.imp hS,h2⟩⟩
theorem RowOf.nil {S : Nat -> Prop} {n : Nat} {w : World} : RowOf S n w [] []:=⟨rfl,fun i f hi => by simp at hi⟩
theorem RowOf.snoc {S : Nat -> Prop} {n : Nat} {w : World} {xs : List Value} {fs : List (Nat × Ty × ByteArray)} (h : RowOf S n w xs fs) {f : Nat × Ty × ByteArray} {p1 q1 : Option Addr} {p2 p3 q2 q3 : Nat} (hr : RepB S n w p1 p2 p3 q1 q2 q3 f.2.1) :
  RowOf S n w (xs ++ [.int .i64 f.1,.int .i64 f.2.1.kind,.string f.2.1.letters,.bool f.2.1.op,.slice p1 p2 p3,.slice q1 q2 q3,.string f.2.2]) (fs ++ [f]):=by
 refine ⟨by simp [h.1];omega,fun i g hi => ?_⟩
 by_cases hl : i < fs.length
 ·rw [List.getElem?_append_left hl] at hi
  obtain ⟨a1,a2,a3,b1,b2,b3,h1,h2⟩:=h.2 i g hi
  have hx:=h.1
  refine ⟨a1,a2,a3,b1,b2,b3,h1,?_⟩
  rw [List.getElem?_append_left (by omega),List.getElem?_append_left (by omega),List.getElem?_append_left (by omega),List.getElem?_append_left (by omega),List.getElem?_append_left (by omega),List.getElem?_append_left (by omega),List.getElem?_append_left (by omega)]
  exact h2
 ·rw [List.getElem?_append_right (by omega)] at hi
  obtain rfl : i = fs.length:=by
   rcases Nat.eq_or_lt_of_le (Nat.le_of_not_lt hl) with h | h
   ·exact h.symm
   ·rw [List.getElem?_eq_none (by simp;omega)] at hi;cases hi
  simp at hi
  subst hi
  have hx:=h.1
  refine ⟨p1,p2,p3,q1,q2,q3,hr,?_⟩
  rw [<- hx]
  refine ⟨?_,?_,?_,?_,?_,?_,?_⟩ <;> (rw [List.getElem?_append_right (by omega)];simp)
theorem zaq {w : World} {base : Nat} {e : TypeId} {size : Nat} {g n cap : Nat} {xs : List Value} (h : w.ownsRow base e size (.slice (some ⟨g,0,none⟩) n cap) n xs) {i : Nat} {v : Value} (hi : xs[i]? = some v) : w.cell? ⟨g,i,none⟩ = some v:=by
 obtain ⟨hl,h | ⟨g',cap',cur,hv,hb,hh,hc,hm,hs,ht⟩⟩:=h
 ·obtain ⟨h,_⟩:=h;cases h
 ·cases hv
  rw [cell_of_row w g i cur e (0,0) hh]
  rw [<- ht,List.getElem?_take] at hi
  split at hi
  ·simpa using hi
  ·cases hi
def hasL (fs : List (Nat × Ty × ByteArray)) (c : Nat) : Bool:=fs.any (fun g => g.1 == c)
theorem zuw (fs : List (Nat × Ty × ByteArray)) (c i : Nat) (f : Nat × Ty × ByteArray) (h : fs[i]? = some f) (hf : f.1 = c) : hasL fs c = true:=by
 unfold hasL;rw [List.any_eq_true];exact ⟨f,List.mem_of_getElem? h,by simp [hf]⟩
def plF (fs : List (Nat × Ty × ByteArray)) (c : Nat) : Int:=match fs.findIdx? (fun g => g.1 == c) with | some i => (i : Nat) | none => -1
theorem zpt (fs : List (Nat × Ty × ByteArray)) (c : Nat) (h : ∀ (i : Nat) (f : Nat × Ty × ByteArray),fs[i]? = some f -> f.1 ≠ c) : plF fs c = -1:=by
 have : fs.findIdx? (fun g => g.1 == c) = none:=by
  rw [List.findIdx?_eq_none_iff];intro f hf
  obtain ⟨i,hi,rfl⟩:=List.getElem_of_mem hf
  have:=h i _ (List.getElem?_eq_getElem hi)
  simpa using this
 unfold plF;rw [this]
theorem zxj (fs : List (Nat × Ty × ByteArray)) (c i : Nat) (f : Nat × Ty × ByteArray) (h : fs[i]? = some f) (hf : f.1 = c) (hn : ∀ (k : Nat) (f : Nat × Ty × ByteArray),k < i -> fs[k]? = some f -> f.1 ≠ c) : plF fs c = (i : Nat):=by
 have : fs.findIdx? (fun g => g.1 == c) = some i:=by
  rw [List.findIdx?_eq_some_iff_getElem]
  have hl : i < fs.length:=by
   rcases Nat.lt_or_ge i fs.length with h' | h'
   ·exact h'
   ·rw [List.getElem?_eq_none h'] at h;cases h
  refine ⟨hl,?_,fun j hj => ?_⟩
  ·rw [List.getElem?_eq_getElem hl] at h;cases h;simpa using hf
  ·have:=hn j _ hj (List.getElem?_eq_getElem (by omega));simpa using this
 unfold plF;rw [this]
theorem zxh (fs : List (Nat × Ty × ByteArray)) (c : Nat) (h : hasL fs c = false) : plF fs c = -1:=by
 refine zpt fs c (fun i f hi => ?_)
 unfold hasL at h;rw [List.any_eq_false] at h
 have:=h f (List.mem_of_getElem? hi)
 simpa using this
theorem zxk (fs : List (Nat × Ty × ByteArray)) (c : Nat) (h : hasL fs c = true) : ∃ p : Nat,plF fs c = (p : Nat) /\ p < fs.length:=by
 unfold plF
 cases hx : fs.findIdx? (fun g => g.1 == c) with
 | none =>
  rw [List.findIdx?_eq_none_iff] at hx
  unfold hasL at h;rw [List.any_eq_true] at h
  obtain ⟨f,hf,hf'⟩:=h
  have:=hx f hf
  rw [this] at hf';cases hf'
 | some i =>
  rw [List.findIdx?_eq_some_iff_getElem] at hx
  exact ⟨i,rfl,hx.1⟩
theorem zpx (fs : List (Nat × Ty × ByteArray)) (c : Nat) (w : World) (g cap : Nat) (hfl : fs.length <= 9000000)
  (hcells : ∀ i f,fs[i]? = some f -> ∃ p1 p2 p3 q1 q2 q3,w.cell? ⟨g,i * 7,none⟩ = some (.int .i64 f.1) /\ w.cell? ⟨g,i * 7 + 1,none⟩ = some (.int .i64 f.2.1.kind) /\ w.cell? ⟨g,i * 7 + 2,none⟩ = some (.string f.2.1.letters) /\ w.cell? ⟨g,i * 7 + 3,none⟩ = some (.bool f.2.1.op) /\ w.cell? ⟨g,i * 7 + 4,none⟩ = some (.slice p1 p2 p3) /\ w.cell? ⟨g,i * 7 + 5,none⟩ = some (.slice q1 q2 q3) /\ w.cell? ⟨g,i * 7 + 6,none⟩ = some (.string f.2.2)) :
  Calls Tryz.prog 112 #[.slice (some ⟨g,0,none⟩) fs.length cap,.int .i64 c] w fun e w' => e = .returned (.int .i64 (plF fs c)) /\ Below w.heap.size w w':=by
 go_enter Tryz.func112,Tryz.ntmps112
 go_wp2_with fail
 go_loopw [9] (fun vi wr => ∃ i : Nat,i <= fs.length /\ vi = .int .i64 i /\ Hid (∀ (k : Nat) (f : Nat × Ty × ByteArray),k < i -> fs[k]? = some f -> f.1 ≠ c) /\ Below w.heap.size w wr) (fun i _ => fs.length - (intOf i).toNat)
 case atStart => exact ⟨0,Nat.zero_le _,rfl,fun k f hk => by omega,Below.refl _ _⟩
 case round =>
  obtain ⟨i,hi,rfl,hno,hb⟩:=hrel
  by_cases hlt : i < fs.length
  ·obtain ⟨f,hf⟩ : ∃ f,fs[i]? = some f:=⟨fs[i],List.getElem?_eq_getElem hlt⟩
   obtain ⟨p1,p2,p3,q1,q2,q3,k0,k1,k2,k3,k4,k5,k6⟩:=hcells i f hf
   have k0:=zaa hb k0
   have k1:=zaa hb k1
   have k2:=zaa hb k2
   have k3:=zaa hb k3
   have k4:=zaa hb k4
   have k5:=zaa hb k5
   have k6:=zaa hb k6
   have hg' : g < wr.heap.size:=zaf k0
   have HF : Hid (fs[i]? = some f):=hf
   clear hf hcells
   by_cases hc : f.1 = c
   ·have hc' : ((f.1 : Int) == (c : Int)) = true:=by simp;omega
    have HC : Hid (f.1 = c):=hc
    clear hc
    go_wp2_with fail
    go_ret
    rw [zxj fs c i f HF.out HC.out hno.out]
    exact ⟨rfl,hb.alloc hb.size _⟩
   ·have hc' : ((f.1 : Int) == (c : Int)) = false:=by simp;omega
    go_wp2_with fail
    go_roundw
    case rel =>
     refine ⟨i + 1,by omega,by go_num,?_,hb.alloc hb.size _⟩
     intro k h hk hh
     by_cases e : k = i
     ·subst e;rw [HF.out] at hh;cases hh;exact hc
     ·exact hno.out k h (by omega) hh
    case measure => simp [intOf];omega
  ·go_wp2_with fail
   go_ret
   rw [zpt fs c (fun k f hf => hno.out k f (by
    rcases Nat.lt_or_ge k fs.length with h | h
    ·omega
    ·rw [List.getElem?_eq_none h] at hf;cases hf) hf)]
   exact ⟨rfl,hb⟩
end
end Go.Proofs.YtkkekopomiehlaaGreat
