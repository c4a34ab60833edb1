import Derived.Test.YtkkekopomiehlaaDoorEq2
import Derived.Test.YtkkekopomiehlaaDoorEq1
set_option linter.unusedVariables false
set_option linter.unusedSimpArgs false
namespace Go.Proofs.YtkkekopomiehlaaDoor

theorem pFrom_neg (l : ByteArray) (c : Int) : ∀ m k, (∀ i, k ≤ i → i < k + m → bAt l i ≠ c) → pFrom l c m k = -1
  | 0, k, _ => rfl
  | m + 1, k, h => by rw [pFrom, if_neg (h k (by omega) (by omega))]; exact pFrom_neg l c m (k + 1) (fun i h1 h2 => h i (by omega) (by omega))
theorem pFrom_pos (l : ByteArray) (c : Int) : ∀ m k i, k ≤ i → i < k + m → bAt l i = c → 0 ≤ pFrom l c m k
  | 0, k, i, h1, h2, _ => by omega
  | m + 1, k, i, h1, h2, h3 => by
    rw [pFrom]; split
    · omega
    · rename_i h
      by_cases e : i = k
      · subst e; exact absurd h3 h
      · exact pFrom_pos l c m (k + 1) i (by omega) (by omega) h3
theorem pOf_no (s : ByteArray) (a e : Nat) (h1 : a ≤ e) (h2 : e ≤ s.size) (c : Int) (h : ∀ i, a ≤ i → i < e → bAt s i ≠ c) : pOf (s.extract a e) c < 0 := by
  have hs := size_extract s a e h1 h2
  unfold pOf
  rw [pFrom_neg _ _ _ _ (fun i _ hi => by rw [bAt_ext s a e i (by omega) h2]; exact h _ (by omega) (by omega))]
  omega
theorem pOf_yes (s : ByteArray) (a e i : Nat) (h2 : e ≤ s.size) (c : Int) (h3 : a ≤ i) (h4 : i < e) (h : bAt s i = c) : 0 ≤ pOf (s.extract a e) c := by
  have hs := size_extract s a e (by omega) h2
  exact pFrom_pos _ _ _ _ (i - a) (by omega) (by omega) (by rw [bAt_ext s a e (i - a) (by omega) h2, show a + (i - a) = i by omega]; exact h)
/-- What 'lEnd' tells. -/
theorem lEnd_spec (s : ByteArray) (a : Nat) : ∀ (m e : Nat), a ≤ e → e + m ≤ s.size → (∀ i, a ≤ i → i < e → isL (bAt s i) = true) → (∀ i j, a ≤ j → j < i → i < e → bAt s i ≠ bAt s j) →
    (∀ i, a ≤ i → i < lEnd s a m e → isL (bAt s i) = true) ∧ (∀ i j, a ≤ j → j < i → i < lEnd s a m e → bAt s i ≠ bAt s j) ∧ (lEnd s a m e = e + m ∨ isL (bAt s (lEnd s a m e)) = false ∨ ∃ j, a ≤ j ∧ j < lEnd s a m e ∧ bAt s (lEnd s a m e) = bAt s j)
  | 0, e, h1, h2, h3, h4 => ⟨h3, h4, .inl rfl⟩
  | m + 1, e, h1, h2, h3, h4 => by
    rw [lEnd]
    by_cases h : isL (bAt s e) = true ∧ pOf (s.extract a e) (bAt s e) < 0
    · rw [if_pos h]
      have ih := lEnd_spec s a m (e + 1) (by omega) (by omega) (fun i i1 i2 => by
        by_cases x : i = e
        · subst x; exact h.1
        · exact h3 i i1 (by omega)) (fun i j j1 j2 i2 => by
        by_cases x : i = e
        · subst x; intro hh
          have := pOf_yes s a i j (by omega) (bAt s i) j1 j2 hh.symm
          omega
        · exact h4 i j j1 j2 (by omega))
      refine ⟨ih.1, ih.2.1, ?_⟩
      rcases ih.2.2 with h5 | h5
      · left; omega
      · exact .inr h5
    · rw [if_neg h]
      refine ⟨h3, h4, .inr ?_⟩
      cases hl : isL (bAt s e) with
      | false => exact .inl rfl
      | true =>
        right
        rcases Classical.em (∃ j, a ≤ j ∧ j < e ∧ bAt s e = bAt s j) with h5 | h5
        · exact h5
        · exfalso; apply h
          exact ⟨hl, pOf_no s a e h1 (by omega) _ (fun i i1 i2 hh => h5 ⟨i, i1, i2, hh.symm⟩)⟩
/-- The reference's way to a choice. -/
def rChoice (s : ByteArray) (a : Nat) : Option (Ty × Nat) :=
  let E := runEnd isL s (s.size - a) a
  if E - a < 1 ∨ 8 < E - a ∨ tw (s.extract a E) = true then none
  else if bAt s E = 43 then (if bAt s (E + 1) = 62 then some (⟨60, s.extract a E, true, [], []⟩, E + 2) else none)
  else if bAt s E = 62 then some (⟨60, s.extract a E, false, [], []⟩, E + 1) else none
theorem isL_bd {b : Int} (h : isL b = true) : 97 ≤ b ∧ b ≤ 122 := by simpa [isL] using h
theorem pChoice_eq (s : ByteArray) (a : Nat) (ha : a ≤ s.size) : pChoice s a = rChoice s a := by
  unfold pChoice rChoice
  simp only
  obtain ⟨E, hE⟩ : ∃ E, E = runEnd isL s (s.size - a) a := ⟨_, rfl⟩
  obtain ⟨X, hX⟩ : ∃ X, X = lEnd s a (s.size - a) a := ⟨_, rfl⟩
  have hsp := lEnd_spec s a (s.size - a) a (Nat.le_refl _) (by omega) (fun i h1 h2 => by omega) (fun i j h1 h2 h3 => by omega)
  have hXl := lEnd_le s a (s.size - a) a
  have hEl := run_le isL s (s.size - a) a
  rw [← hX] at hsp hXl ⊢
  rw [← hE] at hEl ⊢
  have hall : ∀ i, a ≤ i → i < E → isL (bAt s i) = true := fun i h1 h2 => run_all isL s (s.size - a) a i h1 (by rw [← hE]; exact h2)
  have hnot : isL (bAt s E) = false := by rw [hE]; exact run_not isL s rfl _ _ (by omega)
  obtain ⟨s1, s2, s3⟩ := hsp
  have hXE : X ≤ E := by
    rcases Nat.lt_or_ge E X with h | h
    · rw [s1 E (by omega) h] at hnot; cases hnot
    · exact h
  have hsz := size_extract s a E (by omega) (by omega)
  by_cases hlt : X < E
  · have hlet := isL_bd (hall X (by omega) hlt)
    have htw : tw (s.extract a E) = true := by
      rcases s3 with h | h | ⟨j, j1, j2, j3⟩
      · omega
      · rw [hall X (by omega) hlt] at h; cases h
      · refine tw_true (i := X - a) (j := j - a) (by omega) (by omega) ?_
        rw [bAt_ext s a E (X - a) (by omega) (by omega), bAt_ext s a E (j - a) (by omega) (by omega), show a + (X - a) = X by omega, show a + (j - a) = j by omega]
        exact j3
    rw [if_pos (show E - a < 1 ∨ 8 < E - a ∨ tw (s.extract a E) = true from .inr (.inr htw))]
    split
    · rfl
    · rw [if_neg (by omega), if_neg (by omega)]
  · obtain rfl : X = E := by omega
    have htw : tw (s.extract a X) = false := tw_false (fun i j h1 h2 h3 => by
      rw [bAt_ext s a X i (by omega) (by omega), bAt_ext s a X j (by omega) (by omega)] at h3
      exact s2 (a + i) (a + j) (by omega) (by omega) (by omega) h3)
    simp only [htw, Bool.false_eq_true, or_false]

theorem pType_maybe {st : Bool} {s : ByteArray} {n i k : Nat} {t : Ty} (h : pType st s n i = some (t, k)) : (t.kind = 63 ↔ bAt s i = 63) := by
  cases n with
  | zero => simp [pType] at h
  | succ n =>
    rw [pType] at h
    have two : ∀ {c : Nat}, some (plainTy c, i + 1) = some (t, k) → t.kind = c := fun h => by
      simp only [Option.some.injEq, Prod.mk.injEq] at h; rw [← h.1]; rfl
    split at h
    · have := two h; omega
    · split at h
      · have := two h; omega
      · split at h
        · have := two h; omega
        · split at h
          · unfold pChoice at h
            simp only at h
            split at h
            · cases h
            · split at h
              · split at h
                · simp only [Option.some.injEq, Prod.mk.injEq] at h; rw [← h.1]; simp; omega
                · cases h
              · split at h
                · simp only [Option.some.injEq, Prod.mk.injEq] at h; rw [← h.1]; simp; omega
                · cases h
          · split at h
            · unfold pList at h
              split at h
              · cases h
              · split at h
                · simp only [Option.some.injEq, Prod.mk.injEq] at h; rw [← h.1]; simp; omega
                · cases h
            · split at h
              · unfold pMaybe at h
                split at h
                · cases h
                · split at h
                  · cases h
                  · simp only [Option.some.injEq, Prod.mk.injEq] at h; rw [← h.1]; simp; omega
              · split at h
                · unfold pRec at h
                  split at h
                  · cases h
                  · simp only [Option.some.injEq, Prod.mk.injEq] at h; rw [← h.1]; simp; omega
                · cases h
end Go.Proofs.YtkkekopomiehlaaDoor
