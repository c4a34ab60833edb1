import Derived.Test.YtkkekopomiehlaaV2
set_option linter.unusedVariables false
set_option linter.unusedSimpArgs false
namespace Go.Proofs.Ytkkekopomiehlaa
open Go.RowKit

/-- A type as a schema tells it: the letters of a choice are different letters, no ? stands in a ?. -/
def tyG : Nat → Ty → Prop
  | 0, _ => True
  | n + 1, ty => (ty.kind = 60 → ∀ i, i < ty.letters.size → isL (bAt ty.letters i) = true ∧ ∀ j, j < i → bAt ty.letters j ≠ bAt ty.letters i) ∧ (ty.kind = 63 → ty.in.kind ≠ 63) ∧ (ty.kind = 91 ∨ ty.kind = 63 → tyG n ty.in) ∧ ∀ f ∈ ty.fields, f.1 < 256 ∧ tyG n f.2.1
/-- What may stand behind a text. -/
def DL (st : Bool) (b : Int) : Prop := isD b = false ∧ (st = true → b ≠ 45)
theorem dVal_at {t : ByteArray} : ∀ (m n a : Nat), n < 10 ^ (m + 1) → At t a (decS m n) → dVal t a (decS m n).size = n
  | 0, n, a, hn, h => by
    rw [decS] at h ⊢
    rw [At.one (by omega)] at h
    rw [oneB_size, dVal, dVal, Nat.add_zero, h]; omega
  | m + 1, n, a, hn, h => by
    rw [decS] at h ⊢
    split at h
    · rw [At.one (by omega)] at h
      rw [if_pos (by assumption), oneB_size, dVal, dVal, Nat.add_zero, h]; omega
    · rw [if_neg (by assumption)]
      rw [At.app, At.one (by omega)] at h
      rw [ByteArray.size_append, oneB_size, dVal, dVal_at m (n / 10) a (by rw [Nat.pow_succ] at hn; omega) h.1, h.2]
      omega
theorem pDig_at {t : ByteArray} {n a : Nat} (hn : n ≤ 1000000000000000) (h : At t a (decS 18 n)) (hd : isD (bAt t (a + (decS 18 n).size)) = false) : pDig t a = some ((n : Int), a + (decS 18 n).size) := by
  have hp := decS_pos 18 n
  have hl := decS_len 15 18 n (by omega)
  have hle := h.le
  have e := pDig_mk (s := t) (a := a) (e := a + (decS 18 n).size) (by omega) hle (fun i h1 h2 => by
    have := h.2 (i - a) (by omega)
    rw [show a + (i - a) = i by omega] at this
    rw [this]
    exact isD_mk (decS_dig 18 n (i - a) (by omega) (by omega))) hd (by omega) (fun h1 => by
      have h2 := h.2 0 hp
      rw [Nat.add_zero] at h2
      rw [h2]
      exact decS_first 18 n (by omega) (decS_big 18 n (by omega) (by omega)))
  rw [e, show a + (decS 18 n).size - a = (decS 18 n).size by omega, dVal_at 18 n a (by omega) h]
theorem pNum_at {t : ByteArray} {n : Int} {a : Nat} (h1 : -1000000000000000 ≤ n) (h2 : n ≤ 1000000000000000) (h : At t a (decI n)) (hd : isD (bAt t (a + (decI n).size)) = false) : pNum t a = some (n, a + (decI n).size) := by
  unfold decI at h hd ⊢
  by_cases hn : n < 0
  · rw [if_pos hn] at h hd ⊢
    rw [At.app] at h
    have e1 : (⟨#[45]⟩ : ByteArray).size = 1 := rfl
    rw [e1] at h
    have h45 : bAt t a = 45 := by have := h.1.2 0 (by rw [e1]; omega); rw [Nat.add_zero] at this; rw [this]; rfl
    rw [ByteArray.size_append, e1] at hd ⊢
    unfold pNum
    rw [if_pos h45, pDig_at (by omega) h.2 (by rw [show a + 1 + (decS 18 (-n).toNat).size = a + (1 + (decS 18 (-n).toNat).size) by omega]; exact hd)]
    simp only
    rw [if_neg (by omega)]
    congr 1
    refine Prod.ext ?_ ?_
    · show -((-n).toNat : Int) = n; omega
    · show a + 1 + _ = a + (1 + _); omega
  · rw [if_neg hn] at h hd ⊢
    have hb := decS_dig 18 n.toNat 0 (by omega) (decS_pos _ _)
    have h0 := h.2 0 (decS_pos _ _)
    rw [Nat.add_zero] at h0
    unfold pNum
    rw [if_neg (by rw [h0]; omega), pDig_at (by omega) h hd]
    congr 1
    refine Prod.ext ?_ rfl
    show ((n.toNat : Nat) : Int) = n; omega
theorem encNum_at {st : Bool} {lo hi n : Int} {t : ByteArray} {a : Nat} (hl : -1000000000000000 ≤ lo) (hh : hi ≤ 1000000000000000) (h1 : lo ≤ n) (h2 : n ≤ hi) (h : At t a (decI n)) (hd : DL st (bAt t (a + (decI n).size))) : encNum st lo hi t a = some (numData n, a + (decI n).size) := by
  unfold encNum
  rw [pNum_at (by omega) (by omega) h hd.1]
  simp only
  rw [if_neg (by omega), if_neg (fun hc => hd.2 hc.1 hc.2)]
theorem allS_all {s : ByteArray} : ∀ (m k : Nat), allS s m k = true → ∀ i, i < m → inS (bAt s (k + i)) = true
  | 0, k, h, i, hi => by omega
  | m + 1, k, h, i, hi => by
    rw [allS, Bool.and_eq_true] at h
    cases i with
    | zero => rw [Nat.add_zero]; exact h.1
    | succ i => rw [show k + (i + 1) = k + 1 + i by omega]; exact allS_all m (k + 1) h.2 i (by omega)
theorem encStr_at {s t : ByteArray} {a : Nat} (h1 : s.size ≤ 60) (h2 : allS s s.size 0 = true) (h : At t a (quo ++ s ++ quo)) : encStr t a = some (oneB s.size ++ s, a + (quo ++ s ++ quo).size) := by
  rw [At.app, At.app, ByteArray.size_append, quo_size] at h
  obtain ⟨⟨h3, h4⟩, h5⟩ := h
  have hq : bAt quo 0 = 34 := rfl
  have a0 : bAt t a = 34 := by have := h3.2 0 (by rw [quo_size]; omega); rw [Nat.add_zero] at this; rw [this]; exact hq
  have a1 : bAt t (a + 1 + s.size) = 34 := by have := h5.2 0 (by rw [quo_size]; omega); rw [Nat.add_zero, show a + (1 + s.size) = a + 1 + s.size by omega] at this; rw [this]; exact hq
  have hE := run_unique inS t s.size (a + 1) (a + 1 + s.size) rfl h4.le (fun i hi1 hi2 => by
    have := h4.2 (i - (a + 1)) (by omega)
    rw [show a + 1 + (i - (a + 1)) = i by omega] at this
    rw [this]
    have := allS_all _ _ h2 (i - (a + 1)) (by omega)
    rw [Nat.zero_add] at this; exact this) (by rw [a1]; rfl)
  unfold encStr
  rw [if_pos a0]
  simp only
  rw [hE, if_pos ⟨a1, by omega⟩, show a + 1 + s.size - (a + 1) = s.size by omega, h4.ext, ByteArray.size_append, ByteArray.size_append, quo_size]
  congr 2; omega
theorem pFrom_at {l : ByteArray} {c : Int} {i : Nat} (hb : bAt l i = c) : ∀ (m k : Nat), k ≤ i → i < k + m → (∀ j, k ≤ j → j < i → bAt l j ≠ c) → pFrom l c m k = i
  | 0, k, h1, h2, h3 => by omega
  | m + 1, k, h1, h2, h3 => by
    rw [pFrom]
    by_cases hk : k = i
    · subst hk; rw [if_pos hb]
    · rw [if_neg (h3 k (Nat.le_refl _) (by omega))]
      exact pFrom_at hb m (k + 1) (by omega) (by omega) (fun j hj1 hj2 => h3 j (by omega) hj2)
theorem pOf_at {l : ByteArray} {i : Nat} (hi : i < l.size) (hd : ∀ j, j < i → bAt l j ≠ bAt l i) : pOf l (bAt l i) = i := by
  unfold pOf; exact pFrom_at rfl l.size 0 (Nat.zero_le _) (by omega) (fun j _ hj => hd j hj)
end Go.Proofs.Ytkkekopomiehlaa
