import Derived.Test.YtkkekopomiehlaaDoorRep
import Derived.Test.YtkkekopomiehlaaDoorEncBd
import Derived.Test.YtkkekopomiehlaaDoorEncRec
import Derived.Test.YtkkekopomiehlaaDoorRef2
set_option linter.unusedVariables false
set_option linter.unusedSimpArgs false
namespace Go.Proofs.YtkkekopomiehlaaDoor
open Go.RowKit

/-- The number that the digits to the base 128 at a place give, and the place behind them. -/
def uAtL (s : ByteArray) (a : Nat) : Nat → Nat → Nat → Nat → Option (Nat × Nat)
  | 0, _, _, _ => none
  | m + 1, k, u, x =>
    if bAt s (a + k) < 0 ∨ (bAt s (a + k) = 0 ∧ 0 < k) then none
    else if bAt s (a + k) < 128 then some (u + (bAt s (a + k)).toNat * x, a + k + 1)
    else uAtL s a m (k + 1) (u + ((bAt s (a + k)).toNat - 128) * x) (x * 128)
def uAt (s : ByteArray) (a : Nat) : Option (Nat × Nat) := uAtL s a 8 0 0 1
theorem uAtL_bd (s : ByteArray) (a : Nat) : ∀ (m k u x v e : Nat), u < x → x * 128 ^ m ≤ 72057594037927936 → uAtL s a m k u x = some (v, e) → v < 72057594037927936 ∧ a + k < e ∧ e ≤ s.size
  | 0, k, u, x, v, e, _, _, h => by simp [uAtL] at h
  | m + 1, k, u, x, v, e, hu, hx, h => by
    rw [uAtL] at h
    have hhi := bAt_hi s (a + k)
    have hp : x * 128 ≤ x * 128 ^ (m + 1) := Nat.mul_le_mul_left x (by rw [Nat.pow_succ]; have := Nat.pow_pos (n := m) (show 0 < 128 by omega); omega)
    split at h
    · cases h
    · rename_i hc
      split at h
      · rename_i hd
        simp only [Option.some.injEq, Prod.mk.injEq] at h
        have hl : a + k < s.size := bAt_lt (by omega)
        have hm : (bAt s (a + k)).toNat * x ≤ 127 * x := Nat.mul_le_mul_right x (by omega)
        omega
      · have hm : ((bAt s (a + k)).toNat - 128) * x ≤ 127 * x := Nat.mul_le_mul_right x (by omega)
        have := uAtL_bd s a m (k + 1) _ _ v e (by omega) (by rw [Nat.pow_succ] at hx; rw [Nat.mul_assoc]; rw [Nat.mul_comm 128]; exact hx) h
        omega

def unzig (u : Nat) : Int := if u % 2 = 1 then -((u / 2 : Nat) : Int) - 1 else ((u / 2 : Nat) : Int)
def decNum (lo hi : Int) (s : ByteArray) (a : Nat) : Option (ByteArray × Nat) :=
  match uAt s a with
  | none => none
  | some (u, e) => if unzig u < lo ∨ hi < unzig u then none else some (decI (unzig u), e)
theorem uAt_bd {s : ByteArray} {a u e : Nat} (h : uAt s a = some (u, e)) : u < 72057594037927936 ∧ a < e ∧ e ≤ s.size := by
  have := uAtL_bd s a 8 0 0 1 u e (by omega) (by omega) h; omega
def allS (s : ByteArray) : Nat → Nat → Bool
  | 0, _ => true
  | m + 1, k => inS (bAt s k) && allS s m (k + 1)
def quo : ByteArray := ⟨#[34]⟩
def decStr (s : ByteArray) (a : Nat) : Option (ByteArray × Nat) :=
  if bAt s a < 0 ∨ 60 < bAt s a then none
  else if allS s (bAt s a).toNat (a + 1) = true then some (quo ++ s.extract (a + 1) (a + 1 + (bAt s a).toNat) ++ quo, a + 1 + (bAt s a).toNat) else none

def decCho (l s : ByteArray) (a : Nat) : Option (ByteArray × Nat) :=
  if bAt s a < 0 ∨ bAt l (bAt s a).toNat < 0 then none else some (oneB (bAt l (bAt s a).toNat).toNat, a + 1)

def decItems (f : Nat → Option (ByteArray × Nat)) : Nat → Nat → Nat → ByteArray → Option (ByteArray × Nat)
  | 0, _, fr, t => some (t ++ ⟨#[93]⟩, fr)
  | m + 1, k, fr, t =>
    match f fr with
    | none => none
    | some (x, nx) => decItems f m (k + 1) nx ((if 0 < k then t ++ ⟨#[44]⟩ else t) ++ x)
def decList (f : Nat → Option (ByteArray × Nat)) (s : ByteArray) (a : Nat) : Option (ByteArray × Nat) :=
  if bAt s a < 0 ∨ 16 < bAt s a then none else decItems f (bAt s a).toNat 0 (a + 1) ⟨#[91]⟩
def decMaybe (f : Nat → Option (ByteArray × Nat)) (s : ByteArray) (a : Nat) : Option (ByteArray × Nat) :=
  if bAt s a = 0 then some (⟨#[95]⟩, a + 1) else if bAt s a = 1 then f (a + 1) else none
def decFlds (f : Ty → Nat → Option (ByteArray × Nat)) : List (Nat × Ty × ByteArray) → ByteArray → Nat → ByteArray → Option (ByteArray × Nat)
  | [], _, fr, t => some (t ++ ⟨#[125]⟩, fr)
  | g :: fs, mk, fr, t =>
    match f g.2.1 fr with
    | none => none
    | some (x, nx) => decFlds f fs ⟨#[44]⟩ nx (t ++ (((mk ++ oneB g.1) ++ ⟨#[58]⟩) ++ x))
/-- The text of the value of a type whose data begin at a place, and the place behind those data. -/
def dec (s : ByteArray) : Nat → Ty → Nat → Option (ByteArray × Nat)
  | 0, _, _ => none
  | n + 1, ty, a =>
    if ty.kind = 105 then decNum (-2147483648) 2147483647 s a
    else if ty.kind = 108 then decNum (-1000000000000000) 1000000000000000 s a
    else if ty.kind = 115 then decStr s a
    else if ty.kind = 60 then decCho ty.letters s a
    else if ty.kind = 91 then decList (dec s n ty.in) s a
    else if ty.kind = 63 then decMaybe (dec s n ty.in) s a
    else if ty.kind = 123 ∧ ty.fields ≠ [] then decFlds (dec s n) ty.fields ⟨#[123]⟩ a ByteArray.empty
    else none

theorem decI_size (n : Int) : (decI n).size ≤ 20 := by
  unfold decI
  split
  · rw [ByteArray.size_append]; have := decS_size 18 (-n).toNat; have e : (⟨#[45]⟩ : ByteArray).size = 1 := rfl; omega
  · have := decS_size 18 n.toNat; omega
theorem decNum_bd {lo hi : Int} {s d : ByteArray} {a k : Nat} (h : decNum lo hi s a = some (d, k)) : a < k ∧ k ≤ s.size ∧ d.size ≤ 20 * (k - a) := by
  unfold decNum at h
  split at h
  · cases h
  · rename_i u e hu
    have := uAt_bd hu
    split at h
    · cases h
    · simp only [Option.some.injEq, Prod.mk.injEq] at h
      obtain ⟨rfl, rfl⟩ := h
      have := decI_size (unzig u); omega
theorem allS_lt (s : ByteArray) : ∀ m k, allS s m k = true → m = 0 ∨ k + m ≤ s.size
  | 0, k, _ => .inl rfl
  | m + 1, k, h => by
    right
    rw [allS, Bool.and_eq_true] at h
    have h1 := inS_lt h.1
    rcases allS_lt s m (k + 1) h.2 with h2 | h2 <;> omega
theorem quo_size : quo.size = 1 := rfl
theorem decStr_bd {s d : ByteArray} {a k : Nat} (h : decStr s a = some (d, k)) : a < k ∧ k ≤ s.size ∧ d.size ≤ 20 * (k - a) := by
  unfold decStr at h
  split at h
  · cases h
  · rename_i hc
    split at h
    · rename_i hl
      simp only [Option.some.injEq, Prod.mk.injEq] at h
      obtain ⟨rfl, rfl⟩ := h
      have ha : a < s.size := bAt_lt (by omega)
      have := allS_lt s _ _ hl
      have hb : a + 1 + (bAt s a).toNat ≤ s.size := by omega
      rw [ByteArray.size_append, ByteArray.size_append, quo_size, size_extract s (a + 1) _ (by omega) hb]
      omega
    · cases h
theorem decCho_bd {l s d : ByteArray} {a k : Nat} (h : decCho l s a = some (d, k)) : a < k ∧ k ≤ s.size ∧ d.size ≤ 20 * (k - a) := by
  unfold decCho at h
  split at h
  · cases h
  · simp only [Option.some.injEq, Prod.mk.injEq] at h
    obtain ⟨rfl, rfl⟩ := h
    have ha : a < s.size := bAt_lt (by omega)
    rw [oneB_size]; omega
theorem one_size (c : UInt8) : (⟨#[c]⟩ : ByteArray).size = 1 := rfl
theorem decItems_bd {C T : Nat} {f : Nat → Option (ByteArray × Nat)} (hf : Bd C T f) : ∀ (m k fr : Nat) (t x : ByteArray) (e : Nat), fr ≤ T → decItems f m k fr t = some (x, e) → fr ≤ e ∧ e ≤ T ∧ x.size ≤ t.size + 1 + (C + 1) * (e - fr)
  | 0, k, fr, t, x, e, hT, h => by
    simp only [decItems, Option.some.injEq, Prod.mk.injEq] at h
    obtain ⟨rfl, rfl⟩ := h
    rw [ByteArray.size_append, one_size]; omega
  | m + 1, k, fr, t, x, e, hT, h => by
    rw [decItems] at h
    split at h
    · cases h
    · rename_i y nx hy
      have hb := hf _ _ _ hy
      have ih := decItems_bd hf m (k + 1) nx _ x e hb.2.1 h
      have hs : ((if 0 < k then t ++ ⟨#[44]⟩ else t) ++ y).size ≤ t.size + 1 + y.size := by
        rw [ByteArray.size_append]; split
        · rw [ByteArray.size_append, one_size]; omega
        · omega
      have e1 := mul_sub_add (C := C + 1) (show fr ≤ nx by omega) (show nx ≤ e by omega)
      have e2 : (C + 1) * (nx - fr) = C * (nx - fr) + (nx - fr) := by rw [Nat.add_mul, Nat.one_mul]
      omega
theorem decList_bd {C : Nat} {s : ByteArray} {f : Nat → Option (ByteArray × Nat)} (hf : Bd C s.size f) : Bd (C + 2) s.size (decList f s) := by
  intro a d k h
  unfold decList at h
  split at h
  · cases h
  · have ha : a < s.size := bAt_lt (by omega)
    have := decItems_bd hf _ 0 (a + 1) _ d k (by omega) h
    rw [one_size] at this
    have e1 := mul_sub_add (C := C + 1) (show a ≤ a + 1 by omega) (show a + 1 ≤ k by omega)
    have e2 : (C + 2) * (k - a) = (C + 1) * (k - a) + (k - a) := by rw [show C + 2 = (C + 1) + 1 by omega, Nat.add_mul, Nat.one_mul]
    have e3 : (C + 1) * (a + 1 - a) = C + 1 := by rw [show a + 1 - a = 1 by omega, Nat.mul_one]
    omega
theorem decMaybe_bd {C : Nat} {s : ByteArray} {f : Nat → Option (ByteArray × Nat)} (hC : 1 ≤ C) (hf : Bd C s.size f) : Bd C s.size (decMaybe f s) := by
  intro a d k h
  unfold decMaybe at h
  split at h
  · simp only [Option.some.injEq, Prod.mk.injEq] at h
    obtain ⟨rfl, rfl⟩ := h
    have ha : a < s.size := bAt_lt (by omega)
    rw [one_size, show a + 1 - a = 1 by omega]; omega
  · split at h
    · have := hf _ _ _ h
      have e := mul_mono (C := C) (show k - (a + 1) ≤ k - a by omega)
      omega
    · cases h
theorem decFlds_bd {C T : Nat} {f : Ty → Nat → Option (ByteArray × Nat)} (hf : ∀ ty, Bd C T (f ty)) : ∀ (fs : List (Nat × Ty × ByteArray)) (mk : ByteArray) (fr : Nat) (t x : ByteArray) (e : Nat), mk.size = 1 → fr ≤ T → decFlds f fs mk fr t = some (x, e) → fr + (if fs = [] then 0 else 1) ≤ e ∧ e ≤ T ∧ x.size ≤ t.size + 1 + (C + 3) * (e - fr)
  | [], mk, fr, t, x, e, hm, hT, h => by
    simp only [decFlds, Option.some.injEq, Prod.mk.injEq] at h
    obtain ⟨rfl, rfl⟩ := h
    rw [ByteArray.size_append, one_size]; simp; omega
  | g :: fs, mk, fr, t, x, e, hm, hT, h => by
    rw [decFlds] at h
    split at h
    · cases h
    · rename_i y nx hy
      have hb := hf _ _ _ _ hy
      have ih := decFlds_bd hf fs _ nx _ x e (one_size 44) hb.2.1 h
      simp only [ByteArray.size_append, one_size, oneB_size, hm] at ih
      have e1 := mul_sub_add (C := C + 3) (show fr ≤ nx by omega) (show nx ≤ e by split at ih <;> omega)
      have e2 : (C + 3) * (nx - fr) = C * (nx - fr) + 3 * (nx - fr) := by rw [Nat.add_mul]
      simp
      split at ih <;> omega
theorem dec_Bd (s : ByteArray) : ∀ (n : Nat) (ty : Ty), Bd (4 * n + 20) s.size (dec s n ty)
  | 0, ty => by intro a d k h; simp [dec] at h
  | n + 1, ty => by
    have ih := dec_Bd s n
    intro a d k h
    rw [dec] at h
    have up : ∀ {d : ByteArray} {k : Nat}, a < k ∧ k ≤ s.size ∧ d.size ≤ 20 * (k - a) → a < k ∧ k ≤ s.size ∧ d.size ≤ (4 * (n + 1) + 20) * (k - a) := by
      rintro d k ⟨h1, h2, h3⟩
      have := Nat.mul_le_mul_right (k - a) (show 20 ≤ 4 * (n + 1) + 20 by omega)
      omega
    split at h
    · exact up (decNum_bd h)
    · split at h
      · exact up (decNum_bd h)
      · split at h
        · exact up (decStr_bd h)
        · split at h
          · exact up (decCho_bd h)
          · split at h
            · exact (decList_bd (ih ty.in)).mono (by omega) _ _ _ h
            · split at h
              · exact (decMaybe_bd (by omega) (ih ty.in)).mono (by omega) _ _ _ h
              · split at h
                · rename_i hc
                  have ha : a ≤ s.size := by
                    rcases hfs : ty.fields with _ | ⟨g, fs⟩
                    · exact absurd hfs hc.2
                    · rw [hfs, decFlds] at h
                      split at h
                      · cases h
                      · rename_i y nx hy
                        have := ih _ _ _ _ hy; omega
                  have := decFlds_bd ih ty.fields _ a _ d k (one_size 123) ha h
                  rw [if_neg hc.2] at this
                  have e0 : ByteArray.empty.size = 0 := rfl
                  have e2 : (4 * (n + 1) + 20) * (k - a) = (4 * n + 20 + 3) * (k - a) + (k - a) := by rw [show 4 * (n + 1) + 20 = (4 * n + 20 + 3) + 1 by omega, Nat.add_mul, Nat.one_mul]
                  omega
                · cases h
theorem dec_bd {s d : ByteArray} {n a k : Nat} {ty : Ty} (h : dec s n ty a = some (d, k)) : a < k ∧ k ≤ s.size ∧ d.size ≤ (4 * n + 20) * (k - a) := dec_Bd s n ty a d k h
end Go.Proofs.YtkkekopomiehlaaDoor
