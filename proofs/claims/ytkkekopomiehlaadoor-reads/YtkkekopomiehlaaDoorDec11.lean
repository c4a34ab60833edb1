import Derived.Test.YtkkekopomiehlaaDoorDecP
import Derived.Test.YtkkekopomiehlaaDoorEq2
set_option linter.unusedVariables false
set_option linter.unusedSimpArgs false
set_option maxRecDepth 4000
namespace Go.Proofs.YtkkekopomiehlaaDoor
open Go.RowKit

/-- The reference's walk along the bytes of a number: what they give, and where it stops. -/
def scanL (s : ByteArray) : Nat → Nat → Nat → Nat → Nat × Nat
  | 0, k, u, x => (u, k)
  | m + 1, k, u, x => if s.size ≤ k then (u, k) else if bAt s k < 128 then (u + (bAt s k).toNat % 128 * x, k + 1) else scanL s m (k + 1) (u + (bAt s k).toNat % 128 * x) (x * 128)
theorem scan_yes (s : ByteArray) (a : Nat) : ∀ (m k u x v e : Nat), uAtL s a m k u x = some (v, e) → scanL s m (a + k) u x = (v, e)
  | 0, k, u, x, v, e, h => by simp [uAtL] at h
  | m + 1, k, u, x, v, e, h => by
    rw [uAtL] at h
    have hhi := bAt_hi s (a + k)
    split at h
    · cases h
    · rename_i hc
      have hk : a + k < s.size := bAt_lt (by omega)
      rw [scanL, if_neg (by omega)]
      split at h
      · rename_i hd
        cases h
        rw [if_pos hd, show (bAt s (a + k)).toNat % 128 = (bAt s (a + k)).toNat by omega]
      · rename_i hd
        rw [if_neg hd, show (bAt s (a + k)).toNat % 128 = (bAt s (a + k)).toNat - 128 by omega]
        exact scan_yes s a m (k + 1) _ _ v e h
theorem scan_no (s : ByteArray) (a : Nat) : ∀ (m k u x v e : Nat), (0 < k → 128 ≤ bAt s (a + k - 1)) → (0 < k ∨ (0 < m ∧ a < s.size)) → uAtL s a m k u x = none → scanL s m (a + k) u x = (v, e) →
    a + 1 ≤ e ∧ (128 ≤ bAt s (e - 1) ∨ (a + 2 ≤ e ∧ bAt s (e - 1) = 0))
  | 0, k, u, x, v, e, h0, h1, h2, h3 => by
    simp only [scanL, Prod.mk.injEq] at h3
    obtain ⟨rfl, rfl⟩ := h3
    have hk : 0 < k := by omega
    exact ⟨by omega, .inl (h0 hk)⟩
  | m + 1, k, u, x, v, e, h0, h1, h2, h3 => by
    have hlo := bAt_lo s (a + k)
    rw [uAtL] at h2
    rw [scanL] at h3
    by_cases hk : s.size ≤ a + k
    · rw [if_pos hk] at h3
      simp only [Prod.mk.injEq] at h3
      obtain ⟨rfl, rfl⟩ := h3
      have hk0 : 0 < k := by omega
      exact ⟨by omega, .inl (h0 hk0)⟩
    · rw [if_neg hk] at h3
      have hb := bAt_in s (a + k) (by omega)
      by_cases hd : bAt s (a + k) < 128
      · rw [if_pos hd] at h3
        simp only [Prod.mk.injEq] at h3
        obtain ⟨rfl, rfl⟩ := h3
        split at h2
        · rename_i hc
          exact ⟨by omega, .inr ⟨by omega, by rw [show a + k + 1 - 1 = a + k by omega]; omega⟩⟩
        · cases h2
      · rw [if_neg hd] at h3
        rw [if_neg (by omega), if_neg hd] at h2
        exact scan_no s a m (k + 1) _ _ v e (fun _ => by rw [show a + (k + 1) - 1 = a + k by omega]; omega) (.inl (by omega)) h2 (by rw [show (bAt s (a + k)).toNat - 128 = (bAt s (a + k)).toNat % 128 by have := bAt_hi s (a + k); omega]; exact h3)
theorem extract_oneB (s : ByteArray) (p : Nat) (h : p < s.size) : s.extract p (p + 1) = oneB (bAt s p).toNat := by
  rw [bAt_in s p h]
  apply ByteArray.ext
  have : p < s.data.size := h
  apply Array.ext
  · simp [oneB]; omega
  · intro i h1 h2
    simp [oneB] at h2
    subst h2
    simp [oneB]
    rfl
theorem extract_split (s : ByteArray) (p e : Nat) (h : p + 1 ≤ e) : s.extract p e = s.extract p (p + 1) ++ s.extract (p + 1) e := by
  rw [ByteArray.extract_append_extract, Nat.min_eq_left (by omega), Nat.max_eq_right h]
theorem cod_yes (s : ByteArray) (a : Nat) : ∀ (m k u x v e : Nat), uAtL s a m k u x = some (v, e) → a + k < e ∧ ∃ y, v = u + x * y ∧ (0 < k → 0 < y) ∧ ∀ M acc, e ≤ a + k + M + 1 → codU M acc y = acc ++ s.extract (a + k) e
  | 0, k, u, x, v, e, h => by simp [uAtL] at h
  | m + 1, k, u, x, v, e, h => by
    rw [uAtL] at h
    have hhi := bAt_hi s (a + k)
    split at h
    · cases h
    · rename_i hc
      have hk : a + k < s.size := bAt_lt (by omega)
      split at h
      · rename_i hd
        simp only [Option.some.injEq, Prod.mk.injEq] at h
        obtain ⟨rfl, rfl⟩ := h
        refine ⟨by omega, (bAt s (a + k)).toNat, by rw [Nat.mul_comm], by omega, fun M acc _ => ?_⟩
        rw [extract_oneB s _ hk]
        cases M with
        | zero => rfl
        | succ M => rw [codU, if_neg (by omega)]
      · rename_i hd
        obtain ⟨hlt, y, hv, hy, hcod⟩ := cod_yes s a m (k + 1) _ _ v e h
        have hy1 := hy (by omega)
        refine ⟨by omega, (bAt s (a + k)).toNat - 128 + 128 * y, ?_, by omega, fun M acc hM => ?_⟩
        · rw [hv, Nat.mul_add, Nat.mul_assoc, Nat.mul_comm x ((bAt s (a + k)).toNat - 128)]; omega
        · obtain ⟨M', rfl⟩ : ∃ M', M = M' + 1 := ⟨M - 1, by omega⟩
          rw [codU, if_pos (by omega), show ((bAt s (a + k)).toNat - 128 + 128 * y) % 128 + 128 = (bAt s (a + k)).toNat by omega, show ((bAt s (a + k)).toNat - 128 + 128 * y) / 128 = y by omega, hcod M' _ (by omega), extract_split s (a + k) e (by omega), extract_oneB s _ hk, ByteArray.append_assoc]
          rfl
theorem cod_last : ∀ (m : Nat) (acc : ByteArray) (u : Nat), u < 128 ^ (m + 1) → acc.size + 1 ≤ (codU m acc u).size ∧ bAt (codU m acc u) ((codU m acc u).size - 1) < 128 ∧ (0 < u → bAt (codU m acc u) ((codU m acc u).size - 1) ≠ 0) ∧ (u < 128 → (codU m acc u).size = acc.size + 1)
  | m, acc, u, h => by
    have base : ∀ u, u < 128 → acc.size + 1 ≤ (acc ++ oneB u).size ∧ bAt (acc ++ oneB u) ((acc ++ oneB u).size - 1) < 128 ∧ (0 < u → bAt (acc ++ oneB u) ((acc ++ oneB u).size - 1) ≠ 0) ∧ (u < 128 → (acc ++ oneB u).size = acc.size + 1) := by
      intro u hu
      have hs : (acc ++ oneB u).size = acc.size + 1 := by rw [ByteArray.size_append, oneB_size]
      have hb : bAt (acc ++ oneB u) (acc.size + 1 - 1) = u := by
        rw [show acc.size + 1 - 1 = acc.size + 0 by omega, bAt_app_right, bAt_one u (by omega)]
      rw [hs, hb]
      exact ⟨by omega, by omega, by omega, fun _ => rfl⟩
    cases m with
    | zero => rw [codU]; exact base u (by simpa using h)
    | succ m =>
      rw [codU]
      by_cases hu : 128 ≤ u
      · rw [if_pos hu]
        have ih := cod_last m (acc ++ oneB (u % 128 + 128)) (u / 128) (by rw [Nat.pow_succ] at h; omega)
        rw [ByteArray.size_append, oneB_size] at ih
        exact ⟨by omega, ih.2.1, fun _ => ih.2.2.1 (by omega), fun h => by omega⟩
      · rw [if_neg hu]; exact base u (by omega)
theorem zig_unz2 (u : Nat) : zig (unzig u) = u := by unfold zig unzig; split <;> split <;> omega
/-- The reference's number. -/
def tellN (lo hi : Int) (s : ByteArray) (a : Nat) : Option (ByteArray × Nat) :=
  if numData (unzig (scanL s 8 a 0 1).1) ≠ s.extract a (scanL s 8 a 0 1).2 ∨ unzig (scanL s 8 a 0 1).1 < lo ∨ hi < unzig (scanL s 8 a 0 1).1 then none
  else some (decI (unzig (scanL s 8 a 0 1).1), (scanL s 8 a 0 1).2)
theorem scan_le (s : ByteArray) : ∀ (m k u x v e : Nat), u < x → k ≤ s.size → scanL s m k u x = (v, e) → v < x * 128 ^ m ∧ k ≤ e ∧ e ≤ s.size ∧ e ≤ k + m
  | 0, k, u, x, v, e, hu, hk, h => by simp only [scanL, Prod.mk.injEq] at h; obtain ⟨rfl, rfl⟩ := h; simp; omega
  | m + 1, k, u, x, v, e, hu, hk, h => by
    rw [scanL] at h
    have hx : x * 128 ≤ x * 128 ^ (m + 1) := Nat.mul_le_mul_left x (by rw [Nat.pow_succ]; have := Nat.pow_pos (n := m) (show 0 < 128 by omega); omega)
    have hd : (bAt s k).toNat % 128 * x ≤ 127 * x := Nat.mul_le_mul_right x (by omega)
    split at h
    · simp only [Prod.mk.injEq] at h; obtain ⟨rfl, rfl⟩ := h; omega
    · split at h
      · simp only [Prod.mk.injEq] at h; obtain ⟨rfl, rfl⟩ := h; omega
      · have ih := scan_le s m (k + 1) _ _ v e (by omega) (by omega) h
        have e1 : x * 128 * 128 ^ m = x * 128 ^ (m + 1) := by rw [Nat.pow_succ', Nat.mul_assoc]
        rw [e1] at ih
        omega
theorem tellN_eq (lo hi : Int) (s : ByteArray) (a : Nat) (ha : a < s.size) : tellN lo hi s a = decNum lo hi s a := by
  rcases hu : uAt s a with _ | ⟨u, e⟩
  · unfold decNum; rw [hu]
    unfold tellN
    rcases hsc : scanL s 8 a 0 1 with ⟨v, e⟩
    have hn := scan_no s a 8 0 0 1 v e (by omega) (.inr ⟨by omega, ha⟩) hu (by simpa using hsc)
    have hb := scan_le s 8 a 0 1 v e (by omega) (by omega) hsc
    rw [if_pos]
    left
    intro heq
    have hl := cod_last 8 ByteArray.empty v (by have h1 := hb.1; simp only [Nat.reducePow, Nat.reduceAdd] at h1 ⊢; omega)
    have hnd : numData (unzig v) = codU 8 ByteArray.empty v := by unfold numData; rw [zig_unz2]
    have heq : numData (unzig v) = s.extract a e := heq
    rw [← hnd, heq] at hl
    have hsz := size_extract s a e (by omega) hb.2.2.1
    have hz : ByteArray.empty.size = 0 := rfl
    rw [hsz, bAt_ext s a e _ (by omega) hb.2.2.1, show a + (e - a - 1) = e - 1 by omega, hz] at hl
    rcases hn.2 with h | ⟨h1, h2⟩
    · omega
    · by_cases hv : 0 < v
      · exact hl.2.2.1 hv h2
      · have := hl.2.2.2 (by omega); omega
  · have hsc : scanL s 8 a 0 1 = (u, e) := by have := scan_yes s a 8 0 0 1 u e hu; simpa using this
    unfold tellN decNum
    rw [hsc, hu]
    simp only
    obtain ⟨h1, y, hy, _, hcod⟩ := cod_yes s a 8 0 0 1 u e hu
    have hb := scan_le s 8 a 0 1 u e (by omega) (by omega) hsc
    have hnd : numData (unzig u) = s.extract a e := by
      unfold numData; rw [zig_unz2, show u = y by omega, hcod 8 ByteArray.empty (by omega)]; simp
    by_cases hr : unzig u < lo ∨ hi < unzig u
    · rw [if_pos (.inr hr), if_pos hr]
    · rw [if_neg hr, if_neg]
      rintro (h | h)
      · exact h hnd
      · exact hr h
end Go.Proofs.YtkkekopomiehlaaDoor
