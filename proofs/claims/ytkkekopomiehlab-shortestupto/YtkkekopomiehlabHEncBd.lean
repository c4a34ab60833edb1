import Derived.Test.YtkkekopomiehlabHNums2
import Derived.Deep.QuietTactic
import Derived.BigQuiet
set_option linter.unusedVariables false
set_option linter.unusedSimpArgs false
set_option maxHeartbeats 40000000
namespace Go.Proofs.Ytkkekopomiehlab
section
theorem za7 (n : Nat) : (oneB n).size = 1:=rfl
theorem zg2 : ∀ (m : Nat) (acc : ByteArray) (u : Nat),(codU m acc u).size <= acc.size + m + 1
 | 0,acc,u => by rw [codU,ByteArray.size_append,za7];omega
 | m + 1,acc,u => by
  rw [codU];split
  ·have:=zg2 m (acc ++ oneB (u % 128 + 128)) (u / 128)
   rw [ByteArray.size_append,za7] at this;omega
  ·rw [ByteArray.size_append,za7];omega
theorem zmk (n : Int) : (zcx n).size <= 9:=by
 have:=zg2 8 ByteArray.empty (zig n);unfold zcx
 have e : ByteArray.empty.size = 0:=rfl
 omega
theorem zha {st : Bool} {lo hi : Int} {t d : ByteArray} {j k : Nat} (h : zaz st lo hi t j = some (d,k)) : j < k /\ k <= t.size /\ d.size <= 9 * (k - j):=by
 unfold zaz at h
 split at h
 ·cases h
 ·rename_i n e hp
  have:=zij hp
  split at h
  ·cases h
  ·split at h
   ·cases h
   ·simp only [Option.some.injEq,Prod.mk.injEq] at h
    obtain ⟨rfl,rfl⟩:=h
    have:=zmk n;omega
theorem zll {t d : ByteArray} {j k : Nat} (h : zbk t j = some (d,k)) : j < k /\ k <= t.size /\ d.size <= 9 * (k - j):=by
 unfold zbk at h
 split at h
 ·simp only at h
  have hle:=zcb inS t (t.size - (j + 1)) (j + 1)
  generalize zao inS t (t.size - (j + 1)) (j + 1) = E at h hle
  split at h
  ·rename_i hc
   simp only [Option.some.injEq,Prod.mk.injEq] at h
   obtain ⟨rfl,rfl⟩:=h
   have hE : E < t.size:=zaq (by omega)
   rw [ByteArray.size_append,za7,size_extract t (j + 1) E (by omega) (by omega)]
   omega
  ·cases h
 ·cases h
theorem zlh {l t d : ByteArray} {j k : Nat} (h : zbr l t j = some (d,k)) : j < k /\ k <= t.size /\ d.size <= 9 * (k - j):=by
 unfold zbr at h
 split at h
 ·cases h
 ·rename_i hc
  simp only [Option.some.injEq,Prod.mk.injEq] at h
  obtain ⟨rfl,rfl⟩:=h
  rw [za7]
  have : j < t.size:=by
   rcases Nat.lt_or_ge j t.size with h | h
   ·exact h
   ·exfalso;rw [zdb t j h] at hc
    apply hc
    unfold pOf
    have key : ∀ m k,zay l (-1) m k <= -1 \/ (k + m > l.size):=by
     intro m
     induction m with
     | zero => intro k;left;simp [zay]
     | succ m ih =>
      intro k
      rw [zay]
      by_cases hk : k < l.size
      ·rw [zct l k hk,if_neg (by omega)]
       rcases ih (k + 1) with h | h
       ·exact .inl h
       ·right;omega
      ·right;omega
    rcases key l.size 0 with h | h <;> omega
  omega
def Bd (C : Nat) (T : Nat) (f : Nat -> Option (ByteArray × Nat)) : Prop:=∀ j d k,f j = some (d,k) -> j < k /\ k <= T /\ d.size <= C * (k - j)
theorem zek {C a b c : Nat} (h1 : a <= b) (h2 : b <= c) : C * (b - a) + C * (c - b) = C * (c - a):=by
 rw [<- Nat.mul_add];congr 1;omega
theorem zdp {C a b : Nat} (h : a <= b) : C * a <= C * b:=Nat.mul_le_mul_left C h
theorem zhx {C a b : Nat} (hC : 1 <= C) (h : a < b) : C * a + 1 <= C * b:=by
 have:=Nat.mul_le_mul_left C (show a + 1 <= b by omega);rw [Nat.mul_add] at this;omega
theorem zg8 {C : Nat} {f : Nat -> Option (ByteArray × Nat)} {t : ByteArray} (hC : 1 <= C) (hf : Bd C t.size f) (j : Nat) :
  ∀ (m c b : Nat) (d0 d : ByteArray) (k : Nat),j <= b -> d0.size <= C * (b - j) -> za6 f t m c b d0 = some (d,k) -> b < k /\ k <= t.size /\ d.size <= C * (k - j)
 | 0,c,b,d0,d,k,_,_,h => by simp [za6] at h
 | m + 1,c,b,d0,d,k,hj,h0,h => by
  rw [za6] at h
  split at h
  ·cases h
  ·rename_i x k' hx
   have hb:=hf _ _ _ hx
   have hs : (d0 ++ x).size <= C * (k' - j):=by
    rw [ByteArray.size_append]
    have h1:=zek (C:=C) (show j <= b + 1 by omega) (show b + 1 <= k' by omega)
    have h2:=zdp (C:=C) (show b - j <= b + 1 - j by omega)
    omega
   split at h
   ·rename_i hc
    simp only [Option.some.injEq,Prod.mk.injEq] at h
    obtain ⟨rfl,rfl⟩:=h
    have hk' : k' < t.size:=zaq (by omega)
    refine ⟨by omega,by omega,?_⟩
    rw [ByteArray.size_append,za7]
    have:=zhx hC (show k' - j < k' + 1 - j by omega)
    omega
   ·split at h
    ·have:=zg8 hC hf j m (c + 1) k' (d0 ++ x) d k (by omega) hs h
     omega
    ·cases h
theorem zli {C : Nat} {f : Nat -> Option (ByteArray × Nat)} {t : ByteArray} (hC : 1 <= C) (hf : Bd C t.size f) : Bd C t.size (zbd f t):=by
 intro j d k h
 unfold zbd at h
 split at h
 ·split at h
  ·rename_i h1 h2
   simp only [Option.some.injEq,Prod.mk.injEq] at h
   obtain ⟨rfl,rfl⟩:=h
   have : j + 1 < t.size:=zaq (by omega)
   refine ⟨by omega,by omega,?_⟩
   rw [za7]
   have:=zhx hC (show 0 < j + 2 - j by omega)
   omega
  ·have:=zg8 hC hf j 16 1 j ByteArray.empty d k (Nat.le_refl _) (Nat.zero_le _) h
   omega
 ·cases h
theorem zlj {C : Nat} {f : Nat -> Option (ByteArray × Nat)} {t : ByteArray} (hC : 1 <= C) (hf : Bd C t.size f) : Bd (C + 1) t.size (zba f t):=by
 intro j d k h
 unfold zba at h
 split at h
 ·rename_i h1
  simp only [Option.some.injEq,Prod.mk.injEq] at h
  obtain ⟨rfl,rfl⟩:=h
  have : j < t.size:=zaq (by omega)
  refine ⟨by omega,by omega,?_⟩
  rw [za7,show j + 1 - j = 1 by omega]
  omega
 ·split at h
  ·cases h
  ·rename_i x k' hx
   simp only [Option.some.injEq,Prod.mk.injEq] at h
   obtain ⟨rfl,rfl⟩:=h
   have hb:=hf _ _ _ hx
   refine ⟨hb.1,hb.2.1,?_⟩
   rw [ByteArray.size_append,za7,Nat.add_mul]
   omega
theorem zg5 {C : Nat} {f : Ty -> Nat -> Option (ByteArray × Nat)} {t : ByteArray} (hC : 1 <= C) (hf : ∀ ty,Bd C t.size (f ty)) (j : Nat) :
  ∀ (fs : List (Nat × Ty × ByteArray)) (mk : Int) (b : Nat) (d0 d : ByteArray) (k : Nat),j <= b -> d0.size <= C * (b - j) -> zas f t fs mk b d0 = some (d,k) -> b < k /\ k <= t.size /\ d.size <= C * (k - j)
 | [],mk,b,d0,d,k,hj,h0,h => by
  rw [zas] at h
  split at h
  ·simp only [Option.some.injEq,Prod.mk.injEq] at h
   obtain ⟨rfl,rfl⟩:=h
   have : b < t.size:=zaq (by omega)
   have:=zdp (C:=C) (show b - j <= b + 1 - j by omega)
   omega
  ·cases h
 | g :: fs,mk,b,d0,d,k,hj,h0,h => by
  rw [zas] at h
  split at h
  ·split at h
   ·cases h
   ·rename_i x k' hx
    have hb:=hf _ _ _ _ hx
    have hs : (d0 ++ x).size <= C * (k' - j):=by
     rw [ByteArray.size_append]
     have h1:=zek (C:=C) (show j <= b + 3 by omega) (show b + 3 <= k' by omega)
     have h2:=zdp (C:=C) (show b - j <= b + 3 - j by omega)
     omega
    have:=zg5 hC hf j fs 44 k' (d0 ++ x) d k (by omega) hs h
    omega
  ·cases h
theorem Bd.mono {C C' T : Nat} {f : Nat -> Option (ByteArray × Nat)} (h : Bd C T f) (hC : C <= C') : Bd C' T f:=fun j d k hj => by
 have:=h j d k hj
 have:=Nat.mul_le_mul_right (k - j) hC
 omega
theorem zhc (st : Bool) (t : ByteArray) : ∀ (n : Nat) (ty : Ty),Bd (9 * n + 9) t.size (enc st t n ty)
 | 0,ty => by intro j d k h;simp [enc] at h
 | n + 1,ty => by
  have ih:=fun ty => (zhc st t n ty)
  intro j d k h
  rw [enc] at h
  have up : ∀ {d : ByteArray} {k : Nat},j < k /\ k <= t.size /\ d.size <= 9 * (k - j) -> j < k /\ k <= t.size /\ d.size <= (9 * (n + 1) + 9) * (k - j):=by
   rintro d k ⟨h1,h2,h3⟩
   have:=Nat.mul_le_mul_right (k - j) (show 9 <= 9 * (n + 1) + 9 by omega)
   omega
  split at h
  ·exact up (zha h)
  ·split at h
   ·exact up (zha h)
   ·split at h
    ·exact up (zll h)
    ·split at h
     ·exact up (zlh h)
     ·split at h
      ·exact (zli (by omega) (ih ty.in)).mono (by omega) _ _ _ h
      ·split at h
       ·exact (zlj (by omega) (ih ty.in)).mono (by omega) _ _ _ h
       ·split at h
        ·have:=zg5 (C:=9 * (n + 1) + 9) (by omega) (fun ty => (ih ty).mono (by omega)) j ty.fields 123 j ByteArray.empty d k (Nat.le_refl _) (Nat.zero_le _) h
         exact this
        ·cases h
theorem zb8 {st : Bool} {t d : ByteArray} {n j k : Nat} {ty : Ty} (h : enc st t n ty j = some (d,k)) : j < k /\ k <= t.size /\ d.size <= (9 * n + 9) * (k - j):=zhc st t n ty j d k h
end
section
open Go.RowKit
def EncAtOK (n : Nat) (t : ByteArray) : Prop:=∀ (ty : Ty) (j : Nat) (w : World) (ai af : Option Addr) (li ci lf cf : Nat),j <= t.size -> Rep n w ai li ci af lf cf ty ->
 Calls Try.prog 84 #[.agg #[.int .i64 ty.kind,.string ty.letters,.bool ty.op,.slice ai li ci,.slice af lf cf],.string t,.int .i64 j] w fun e w' => e = .returned (zck j (enc false t n ty j)) /\ Below w.heap.size w w'
theorem EncAtOK.no {n : Nat} {t : ByteArray} (IH : EncAtOK n t) {ty : Ty} {j : Nat} {w : World} {ai af : Option Addr} {li ci lf cf : Nat} (hj : j <= t.size) (hr : Rep n w ai li ci af lf cf ty) (hx : enc false t n ty j = none) :
 Calls Try.prog 84 #[.agg #[.int .i64 ty.kind,.string ty.letters,.bool ty.op,.slice ai li ci,.slice af lf cf],.string t,.int .i64 j] w fun e w' => e = .returned (.tuple #[.string ByteArray.empty,.int .i64 j,.bool false]) /\ Below w.heap.size w w':=by
 have:=IH ty j w ai af li ci lf cf hj hr;rw [hx] at this;exact this
theorem EncAtOK.yes {n : Nat} {t : ByteArray} (IH : EncAtOK n t) {ty : Ty} {j : Nat} {w : World} {ai af : Option Addr} {li ci lf cf : Nat} (hj : j <= t.size) (hr : Rep n w ai li ci af lf cf ty) {d : ByteArray} {k : Nat} (hx : enc false t n ty j = some (d,k)) :
 Calls Try.prog 84 #[.agg #[.int .i64 ty.kind,.string ty.letters,.bool ty.op,.slice ai li ci,.slice af lf cf],.string t,.int .i64 j] w fun e w' => e = .returned (.tuple #[.string d,.int .i64 k,.bool true]) /\ Below w.heap.size w w':=by
 have:=IH ty j w ai af li ci lf cf hj hr;rw [hx] at this;exact this
theorem zcu {n a b : Nat} {d : ByteArray} (h : d.size <= (9 * n + 9) * (b - a)) (hn : n <= 100) (hb : b <= 4096) : d.size <= 4000000:=by
 have h1 : (9 * n + 9) * (b - a) <= 909 * (b - a):=Nat.mul_le_mul_right _ (by omega)
 omega
theorem zhh {n : Nat} {t : ByteArray} (IH : EncAtOK n t) (ht : t.size <= 4096) (hn : n <= 100) (ty : Ty) (j : Nat) (w : World) (ai af : Option Addr) (li ci lf cf : Nat) (hj : j <= t.size) (hr : Rep n w ai li ci af lf cf ty) :
  Calls Try.prog 89 #[.agg #[.int .i64 ty.kind,.string ty.letters,.bool ty.op,.slice ai li ci,.slice af lf cf],.string t,.int .i64 j] w fun e w' => e = .returned (zck j (zba (enc false t n ty) t j)) /\ Below w.heap.size w w':=by
 have _hs : t.size <= 9000000:=by omega
 have hB : ∀ o,Below w.heap.size w (w.alloc o):=fun o => (Below.refl _ _).alloc (Nat.le_refl _) _
 by_cases hm : bAt t j = 95
 ·have hm' : (bAt t j == 95) = true:=by simp [hm]
  have hr' : Hid (zba (enc false t n ty) t j = some (oneB 0,j + 1)):=by show _ = _;unfold zba;rw [if_pos hm]
  clear hm
  go_enter Try.func89,Try.ntmps89
  go_wp2_with (first | (go_at_call 68;refine (zai _ _ _ (by omega) _hs).mono ?_;rintro e w' ⟨rfl,rfl⟩) | (go_at_call 70;refine (zch 0 _ (by omega)).mono ?_;rintro e w' ⟨rfl,hbw⟩))
  go_ret3
  rw [hr'.out]
  exact ⟨rfl,(hB _).trans (hbw.mono (by simp))⟩
 ·have hm' : (bAt t j == 95) = false:=by simpa using hm
  cases hx : enc false t n ty j with
  | none =>
   have hr' : Hid (zba (enc false t n ty) t j = none):=by show _ = _;unfold zba;rw [if_neg hm,hx]
   have hd:=fun o => IH.no hj (hr.keep (hB o)) hx
   clear hm hx
   go_enter Try.func89,Try.ntmps89
   go_wp2_with (first | (go_at_call 68;refine (zai _ _ _ (by omega) _hs).mono ?_;rintro e w' ⟨rfl,rfl⟩) | (go_at_call 84;refine (hd _).mono ?_;rintro e w' ⟨rfl,hbw⟩))
   go_ret3
   rw [hr'.out]
   exact ⟨rfl,(hB _).trans (hbw.mono (by simp))⟩
  | some p =>
   obtain ⟨d,k⟩:=p
   have hr' : Hid (zba (enc false t n ty) t j = some (oneB 1 ++ d,k)):=by show _ = _;unfold zba;rw [if_neg hm,hx]
   have hd:=fun o => IH.yes hj (hr.keep (hB o)) hx
   obtain ⟨hb1,hb2,hb3⟩:=zb8 hx
   have hds:=zcu hb3 hn (by omega)
   have hsz : (oneB 1).size = 1:=rfl
   clear hm hx hb3
   go_enter Try.func89,Try.ntmps89
   go_wp2_with (first | (go_at_call 68;refine (zai _ _ _ (by omega) _hs).mono ?_;rintro e w' ⟨rfl,rfl⟩) | (go_at_call 84;refine (hd _).mono ?_;rintro e w' ⟨rfl,hbw⟩) | (go_at_call 70;refine (zch 1 _ (by omega)).mono ?_;rintro e w' ⟨rfl,hbw2⟩))
   go_ret3
   rw [hr'.out]
   exact ⟨rfl,(hB _).trans ((hbw.mono (by simp)).trans (hbw2.mono (by have:=hbw.size;simp at this;omega)))⟩
theorem zhg {n : Nat} {t : ByteArray} (IH : EncAtOK n t) (ht : t.size <= 4096) (hn : n <= 100) (ty : Ty) (j : Nat) (w : World) (ai af : Option Addr) (li ci lf cf : Nat) (hj : j <= t.size) (hr : Rep n w ai li ci af lf cf ty) :
  Calls Try.prog 88 #[.agg #[.int .i64 ty.kind,.string ty.letters,.bool ty.op,.slice ai li ci,.slice af lf cf],.string t,.int .i64 j] w fun e w' => e = .returned (zck j (zbd (enc false t n ty) t j)) /\ Below w.heap.size w w':=by
 have _hs : t.size <= 9000000:=by omega
 have hB : ∀ o,Below w.heap.size w (w.alloc o):=fun o => (Below.refl _ _).alloc (Nat.le_refl _) _
 by_cases hm : bAt t j = 91
 ·have hm' : (bAt t j != 91) = false:=by simp [hm]
  by_cases h2 : bAt t (j + 1) = 93
  ·have h2' : (bAt t (j + 1) == 93) = true:=by simp [h2]
   have hr' : Hid (zbd (enc false t n ty) t j = some (oneB 0,j + 2)):=by show _ = _;unfold zbd;rw [if_pos hm,if_pos h2]
   clear hm h2
   go_enter Try.func88,Try.ntmps88
   go_wp2_with (first | (go_at_call 68;refine (zai _ _ _ (by omega) _hs).mono ?_;rintro e w' ⟨rfl,rfl⟩) | (go_at_call 70;refine (zch 0 _ (by omega)).mono ?_;rintro e w' ⟨rfl,hbw⟩))
   go_ret3
   rw [hr'.out]
   exact ⟨rfl,(hB _).trans (hbw.mono (by simp))⟩
  ·have h2' : (bAt t (j + 1) == 93) = false:=by simpa using h2
   obtain ⟨R,hR⟩ : ∃ R,R = za6 (enc false t n ty) t 16 1 j ByteArray.empty:=⟨_,rfl⟩
   have hr' : zbd (enc false t n ty) t j = R:=by unfold zbd;rw [if_pos hm,if_neg h2,hR]
   rw [hr']
   have HR : Hid (R = za6 (enc false t n ty) t 16 1 j ByteArray.empty):=hR
   have hjt : j < t.size:=zaq (by omega)
   clear hm h2 hr' hR
   go_enter Try.func88,Try.ntmps88
   go_wp2_with (first | (go_at_call 68;refine (zai _ _ _ (by omega) _hs).mono ?_;rintro e w' ⟨rfl,rfl⟩))
   go_loopw [9,10,11] (fun vd vb vc wr => ∃ (m c b : Nat) (d : ByteArray),c + m = 17 /\ 1 <= c /\ j <= b /\ b < t.size /\ vc = .int .i64 c /\ vb = .int .i64 b /\ vd = .string d /\ Hid (R = za6 (enc false t n ty) t m c b d) /\ Hid (d.size <= (9 * n + 9) * (b - j)) /\ Below (w.heap.size + 1) (w.alloc (.cells #[.int .i64 ty.kind,.string ty.letters,.bool ty.op,.slice ai li ci,.slice af lf cf] 99)) wr) (fun _ _ c _ => 17 - (intOf c).toNat)
   case atStart => exact ⟨16,1,j,ByteArray.empty,rfl,Nat.le_refl _,Nat.le_refl _,hjt,rfl,rfl,rfl,HR,Nat.zero_le _,Below.refl _ _⟩
   case round =>
    obtain ⟨m,c,b,d,hcm,hc1,hjb,hbt,rfl,rfl,rfl,hR,hd,hb⟩:=hrel
    obtain ⟨hc,hf⟩:=zam hb
    have hrw : Rep n wr ai li ci af lf cf ty:=(hr.keep (hB _)).keep (hb.mono (by simp))
    have hsw : w.heap.size + 1 <= wr.heap.size:=by have:=hb.size;simpa using this
    have hbw0 : Below w.heap.size w wr:=(hB _).trans (hb.mono (by omega))
    cases m with
    | zero =>
     have hc17 : (17 : Int) <= c:=by omega
     have hr' : Hid (R = none):=hR
     go_wp2_with fail
     go_ret3
     rw [hr'.out]
     exact ⟨rfl,hbw0⟩
    | succ m =>
     have hc16 : (c : Int) <= 16:=by omega
     cases hx : enc false t n ty (b + 1) with
     | none =>
      have hr' : Hid (R = none):=by show _ = _;rw [hR.out,za6,hx]
      have hd:=IH.no (show b + 1 <= t.size by omega) hrw hx
      clear hx
      go_wp2_with (go_at_call 84;refine hd.mono ?_;rintro e w' ⟨rfl,hbw⟩)
      go_ret3
      rw [hr'.out]
      exact ⟨rfl,hbw0.trans (hbw.mono (by omega))⟩
     | some p =>
      obtain ⟨x,k⟩:=p
      obtain ⟨hb1,hb2,hb3⟩:=zb8 hx
      have hsum : (d ++ x).size <= (9 * n + 9) * (k - j):=by
       rw [ByteArray.size_append]
       have h1:=zek (C:=9 * n + 9) (show j <= b + 1 by omega) (show b + 1 <= k by omega)
       have h2:=zdp (C:=9 * n + 9) (show b - j <= b + 1 - j by omega)
       have:=hd.out
       omega
      have hs1:=zcu hb3 hn (by omega)
      have hs2:=zcu hd.out hn (by omega)
      have hs3:=zcu hsum hn (by omega)
      have HS : Hid ((d ++ x).size <= (9 * n + 9) * (k - j)):=hsum
      have hcall:=IH.yes (show b + 1 <= t.size by omega) hrw hx
      have hso : (oneB c).size = 1:=rfl
      clear hb3 hsum
      by_cases h93 : bAt t k = 93
      ·have hr' : Hid (R = some (oneB c ++ (d ++ x),k + 1)):=by show _ = _;rw [hR.out,za6,hx];simp only [if_pos h93]
       have h93' : (bAt t k == 93) = true:=by simp [h93]
       clear hx h93
       go_wp2_with (first | (go_at_call 84;refine hcall.mono ?_;rintro e w' ⟨rfl,hbw⟩) | (go_at_call 68;refine (zai _ _ _ (by omega) _hs).mono ?_;rintro e w' ⟨rfl,rfl⟩) | (go_at_call 70;refine (zch c _ (by omega)).mono ?_;rintro e w' ⟨rfl,hbw2⟩))
       go_ret3
       rw [hr'.out]
       exact ⟨rfl,hbw0.trans ((hbw.mono (by omega)).trans (hbw2.mono (by have:=hbw.size;omega)))⟩
      ·have h93' : (bAt t k == 93) = false:=by simpa using h93
       by_cases h44 : bAt t k = 44
       ·have h44' : (bAt t k != 44) = false:=by simp [h44]
        have hr' : Hid (R = za6 (enc false t n ty) t m (c + 1) k (d ++ x)):=by show _ = _;rw [hR.out,za6,hx];simp only [if_neg h93,if_pos h44]
        have hkt : k < t.size:=zaq (by omega)
        clear hx h93 h44
        go_wp2_with (first | (go_at_call 84;refine hcall.mono ?_;rintro e w' ⟨rfl,hbw⟩) | (go_at_call 68;refine (zai _ _ _ (by omega) _hs).mono ?_;rintro e w' ⟨rfl,rfl⟩))
        go_roundw
        case rel => exact ⟨m,c + 1,k,d ++ x,by omega,by omega,by omega,hkt,by go_num,rfl,rfl,hr',HS,hb.trans (hbw.mono (by omega))⟩
        case measure => simp [intOf];omega
       ·have h44' : (bAt t k != 44) = true:=by simpa using h44
        have hr' : Hid (R = none):=by show _ = _;rw [hR.out,za6,hx];simp only [if_neg h93,if_neg h44]
        clear hx h93 h44
        go_wp2_with (first | (go_at_call 84;refine hcall.mono ?_;rintro e w' ⟨rfl,hbw⟩) | (go_at_call 68;refine (zai _ _ _ (by omega) _hs).mono ?_;rintro e w' ⟨rfl,rfl⟩))
        go_ret3
        rw [hr'.out]
        exact ⟨rfl,hbw0.trans (hbw.mono (by omega))⟩
 ·have hm' : (bAt t j != 91) = true:=by simpa using hm
  have hr' : Hid (zbd (enc false t n ty) t j = none):=by show _ = _;unfold zbd;rw [if_neg hm]
  clear hm
  go_enter Try.func88,Try.ntmps88
  go_wp2_with (go_at_call 68;refine (zai _ _ _ (by omega) _hs).mono ?_;rintro e w' ⟨rfl,rfl⟩)
  go_ret3
  rw [hr'.out]
  exact ⟨rfl,hB _⟩
end
section
open Go.RowKit
def RepF (n : Nat) (w : World) (af : Option Addr) (fs : List (Nat × Ty × ByteArray)) : Prop :=
 (fs = [] /\ af = none) \/
    ∃ g,af = some ⟨g,0,none⟩ /\
     ∀ i f,fs[i]? = some f -> ∃ p1 p2 p3 q1 q2 q3,Rep n w p1 p2 p3 q1 q2 q3 f.2.1 /\ w.cell? ⟨g,i * 7,none⟩ = some (.int .i64 f.1) /\
      w.cell? ⟨g,i * 7 + 1,none⟩ = some (.int .i64 f.2.1.kind) /\ w.cell? ⟨g,i * 7 + 2,none⟩ = some (.string f.2.1.letters) /\ w.cell? ⟨g,i * 7 + 3,none⟩ = some (.bool f.2.1.op) /\ w.cell? ⟨g,i * 7 + 4,none⟩ = some (.slice p1 p2 p3) /\ w.cell? ⟨g,i * 7 + 5,none⟩ = some (.slice q1 q2 q3) /\
      w.cell? ⟨g,i * 7 + 6,none⟩ = some (.string f.2.2)
theorem Rep.flds {n : Nat} {w : World} {ai af : Option Addr} {li ci lf cf : Nat} {ty : Ty} (h : Rep (n + 1) w ai li ci af lf cf ty) : lf = ty.fields.length /\ ty.fields.length <= 9000000 /\ RepF n w af ty.fields:=by
 obtain ⟨_,h1,h2,_,_,h3⟩:=h
 refine ⟨h2,h1,?_⟩
 rcases h3 with h3 | h3
 ·exact .inl ⟨h3.1,h3.2.1⟩
 ·exact .inr h3
theorem zhi {n : Nat} {t : ByteArray} (IH : EncAtOK n t) (ht : t.size <= 4096) (hn : n <= 100) (fs : List (Nat × Ty × ByteArray)) (j : Nat) (w : World) (af : Option Addr) (lf cf : Nat) (hj : j <= t.size) (hlf : lf = fs.length) (hfl : fs.length <= 9000000) (hr : RepF n w af fs) :
  Calls Try.prog 90 #[.slice af lf cf,.string t,.int .i64 j] w fun e w' => e = .returned (zck j (zas (enc false t n) t fs 123 j ByteArray.empty)) /\ Below w.heap.size w w':=by
 have _hs : t.size <= 9000000:=by omega
 subst hlf
 obtain ⟨R,hR⟩ : ∃ R,R = zas (enc false t n) t fs 123 j ByteArray.empty:=⟨_,rfl⟩
 rw [<- hR]
 have HR : Hid (R = zas (enc false t n) t fs 123 j ByteArray.empty):=hR
 clear hR
 go_enter Try.func90,Try.ntmps90
 go_wp2_with fail
 go_loopw [9,10,11,20] (fun vd vb vm vi wr => ∃ (i b : Nat) (mk : Int) (d : ByteArray),i <= fs.length /\ j <= b /\ b <= t.size /\ vi = .int .i64 i /\ vb = .int .i64 b /\ vm = .int .i64 mk /\ vd = .string d /\ Hid (0 <= mk) /\ Hid (R = zas (enc false t n) t (fs.drop i) mk b d) /\ Hid (d.size <= (9 * n + 9) * (b - j)) /\ Below w.heap.size w wr) (fun _ _ _ i _ => fs.length - (intOf i).toNat)
 case atStart => exact ⟨0,j,123,ByteArray.empty,Nat.zero_le _,Nat.le_refl _,hj,rfl,rfl,rfl,rfl,(by show (0 : Int) <= 123;omega),HR,Nat.zero_le _,Below.refl _ _⟩
 case round =>
  obtain ⟨i,b,mk,d,hi,hjb,hbt,rfl,rfl,rfl,rfl,hmk,hR,hd,hb⟩:=hrel
  by_cases hlt : i < fs.length
  ·obtain ⟨f,hf⟩ : ∃ f,fs[i]? = some f:=⟨fs[i],List.getElem?_eq_getElem hlt⟩
   have hdrop : fs.drop i = f :: fs.drop (i + 1):=by
    rw [List.drop_eq_getElem_cons hlt];rw [List.getElem?_eq_getElem hlt] at hf;simp at hf;rw [hf]
   have hr0:=hr
   rcases hr with ⟨hr,_⟩ | ⟨g,rfl,hcells⟩
   ·rw [hr] at hf;simp at hf
   ·obtain ⟨p1,p2,p3,q1,q2,q3,hrep,k0,k1,k2,k3,k4,k5,k6⟩:=hcells i f hf
    have hg:=zaj k0
    have k0:=zaa hb k0
    have k1:=zaa hb k1
    have k2:=zaa hb k2
    have k3:=zaa hb k3
    have k4:=zaa hb k4
    have k5:=zaa hb k5
    have k6:=zaa hb k6
    have hg' : g < wr.heap.size:=zaj k0
    have hrepw:=hrep.keep hb
    have hBa : ∀ o m,Below wr.heap.size wr ((wr.alloc o).drewN m):=fun o m => below_drewN ((Below.refl _ _).alloc (Nat.le_refl _) _) m
    by_cases h1 : bAt t b = mk
    ·have h1' : (bAt t b != mk) = false:=by simp [h1]
     by_cases h2 : bAt t (b + 1) = f.1
     ·have h2' : (bAt t (b + 1) != (f.1 : Int)) = false:=by simp [h2]
      by_cases h3 : bAt t (b + 2) = 58
      ·have h3' : (bAt t (b + 2) != 58) = false:=by simp [h3]
       have hb3 : b + 2 < t.size:=zaq (by omega)
       cases hx : enc false t n f.2.1 (b + 3) with
       | none =>
        have hr' : Hid (R = none):=by show _ = _;rw [hR.out,hdrop,zas,if_pos ⟨h1,h2,h3⟩,hx]
        have hcall:=fun o m => IH.no (show b + 3 <= t.size by omega) (hrepw.keep (hBa o m)) hx
        clear h1 h2 h3 hx
        go_wp2_with fail
        go_quiet ((go_at_call 68;exact Calls.quiet_of_same (zai _ _ _ (by omega) _hs)))
        go_wp2_with (go_at_call 84;refine (hcall _ _).mono ?_;rintro e w' ⟨rfl,hbw⟩)
        go_ret3
        rw [hr'.out]
        exact ⟨rfl,hb.trans (((hBa _ _).mono hb.size).trans (hbw.mono (by have:=hb.size;simp;omega)))⟩
       | some p =>
        obtain ⟨x,k⟩:=p
        obtain ⟨hb1,hb2,hbs⟩:=zb8 hx
        have hsum : (d ++ x).size <= (9 * n + 9) * (k - j):=by
         rw [ByteArray.size_append]
         have e1:=zek (C:=9 * n + 9) (show j <= b + 3 by omega) (show b + 3 <= k by omega)
         have e2:=zdp (C:=9 * n + 9) (show b - j <= b + 3 - j by omega)
         have:=hd.out
         omega
        have hs1:=zcu hbs hn (by omega)
        have hs2:=zcu hd.out hn (by omega)
        have HS : Hid ((d ++ x).size <= (9 * n + 9) * (k - j)):=hsum
        have hr' : Hid (R = zas (enc false t n) t (fs.drop (i + 1)) 44 k (d ++ x)):=by show _ = _;rw [hR.out,hdrop,zas,if_pos ⟨h1,h2,h3⟩,hx]
        have hcall:=fun o m => IH.yes (show b + 3 <= t.size by omega) (hrepw.keep (hBa o m)) hx
        clear h1 h2 h3 hx hbs hsum
        go_wp2_with fail
        go_quiet ((go_at_call 68;exact Calls.quiet_of_same (zai _ _ _ (by omega) _hs)))
        go_wp2_with (go_at_call 84;refine (hcall _ _).mono ?_;rintro e w' ⟨rfl,hbw⟩)
        go_roundw
        case rel => exact ⟨i + 1,k,44,d ++ x,by omega,by omega,by omega,by go_num,rfl,rfl,rfl,(by show (0 : Int) <= 44;omega),hr',HS,hb.trans (((hBa _ _).mono hb.size).trans (hbw.mono (by have:=hb.size;simp;omega)))⟩
        case measure => simp [intOf];omega
      ·have h3' : (bAt t (b + 2) != 58) = true:=by simpa using h3
       have hr' : Hid (R = none):=by show _ = _;rw [hR.out,hdrop,zas,if_neg (fun h => h3 h.2.2)]
       clear h1 h2 h3
       go_wp2_with fail
       go_quiet ((go_at_call 68;exact Calls.quiet_of_same (zai _ _ _ (by omega) _hs)))
       go_wp2_with fail
       go_ret3
       rw [hr'.out]
       exact ⟨rfl,hb.trans ((hBa _ _).mono hb.size)⟩
     ·have h2' : (bAt t (b + 1) != (f.1 : Int)) = true:=by simpa using h2
      have hr' : Hid (R = none):=by show _ = _;rw [hR.out,hdrop,zas,if_neg (fun h => h2 h.2.1)]
      clear h1 h2
      go_wp2_with fail
      go_quiet ((go_at_call 68;exact Calls.quiet_of_same (zai _ _ _ (by omega) _hs)))
      go_wp2_with fail
      go_ret3
      rw [hr'.out]
      exact ⟨rfl,hb.trans ((hBa _ _).mono hb.size)⟩
    ·have h1' : (bAt t b != mk) = true:=by simpa using h1
     have hr' : Hid (R = none):=by show _ = _;rw [hR.out,hdrop,zas,if_neg (fun h => h1 h.1)]
     clear h1
     go_wp2_with fail
     go_quiet ((go_at_call 68;exact Calls.quiet_of_same (zai _ _ _ (by omega) _hs)))
     go_wp2_with fail
     go_ret3
     rw [hr'.out]
     exact ⟨rfl,hb.trans ((hBa _ _).mono hb.size)⟩
  ·have hnil : fs.drop i = []:=List.drop_of_length_le (by omega)
   by_cases h5 : bAt t b = 125
   ·have h5' : (bAt t b != 125) = false:=by simp [h5]
    have hr' : Hid (R = some (d,b + 1)):=by show _ = _;rw [hR.out,hnil,zas,if_pos h5]
    clear h5
    go_wp2_with (go_at_call 68;refine (zai _ _ _ (by omega) _hs).mono ?_;rintro e w' ⟨rfl,rfl⟩)
    go_ret3
    rw [hr'.out]
    exact ⟨rfl,hb⟩
   ·have h5' : (bAt t b != 125) = true:=by simpa using h5
    have hr' : Hid (R = none):=by show _ = _;rw [hR.out,hnil,zas,if_neg h5]
    clear h5
    go_wp2_with (go_at_call 68;refine (zai _ _ _ (by omega) _hs).mono ?_;rintro e w' ⟨rfl,rfl⟩)
    go_ret3
    rw [hr'.out]
    exact ⟨rfl,hb⟩
end
end Go.Proofs.Ytkkekopomiehlab
