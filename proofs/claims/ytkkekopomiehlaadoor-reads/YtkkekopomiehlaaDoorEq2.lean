import Derived.Test.YtkkekopomiehlaaDoorRef3
set_option linter.unusedVariables false
set_option linter.unusedSimpArgs false
namespace Go.Proofs.YtkkekopomiehlaaDoor

theorem bAt_data (s : ByteArray) (i : Nat) (h : i < s.size) : bAt s i = (s.data[i]'h).toNat := by rw [bAt_in s i h]; rfl
theorem bAt_app_left (a b : ByteArray) (i : Nat) (h : i < a.size) : bAt (a ++ b) i = bAt a i := by
  have h2 : i < (a ++ b).size := by rw [ByteArray.size_append]; omega
  rw [bAt_data _ _ h2, bAt_data _ _ h]
  congr 2
  simp only [ByteArray.data_append]
  exact Array.getElem_append_left h
theorem bAt_app_right (a b : ByteArray) (i : Nat) : bAt (a ++ b) (a.size + i) = bAt b i := by
  by_cases h : i < b.size
  · have h2 : a.size + i < (a ++ b).size := by rw [ByteArray.size_append]; omega
    rw [bAt_data _ _ h2, bAt_data _ _ h]
    congr 2
    simp only [ByteArray.data_append]
    rw [Array.getElem_append_right (by show a.data.size ≤ a.size + i; exact Nat.le_add_right _ _)]
    congr 1
    show a.size + i - a.data.size = i
    have : a.data.size = a.size := rfl
    omega
  · rw [bAt_out _ _ (by rw [ByteArray.size_append]; omega), bAt_out _ _ (by omega)]
theorem bAt_ext (s : ByteArray) (a b i : Nat) (h1 : a + i < b) (h2 : b ≤ s.size) : bAt (s.extract a b) i = bAt s (a + i) := by
  have hs := size_extract s a b (by omega) h2
  rw [bAt_data _ _ (by omega), bAt_data s _ (by omega)]
  congr 2
  simp only [ByteArray.data_extract]
  exact Array.getElem_extract _
theorem bytes_eq {a b : ByteArray} (hs : a.size = b.size) (h : ∀ i, i < a.size → bAt a i = bAt b i) : a = b := by
  apply ByteArray.ext
  apply Array.ext
  · exact hs
  · intro i h1 h2
    have := h i h1
    rw [bAt_data _ _ h1, bAt_data _ _ h2] at this
    exact UInt8.toNat_inj.mp (by omega)
theorem bAt_one (n : Nat) (h : n < 256) : bAt (oneB n) 0 = n := by
  rw [bAt_data _ _ (by rw [oneB_size]; omega)]
  simp [oneB, Nat.toUInt8]
  omega

theorem decS_pos (m n : Nat) : 1 ≤ (decS m n).size := by
  cases m with
  | zero => rw [decS, oneB_size]; exact Nat.le_refl _
  | succ m => rw [decS]; split <;> simp [ByteArray.size_append, oneB_size]
/-- Each byte is a digit. -/
theorem decS_dig : ∀ (m n i : Nat), n < 10 ^ (m + 1) → i < (decS m n).size → 48 ≤ bAt (decS m n) i ∧ bAt (decS m n) i ≤ 57
  | 0, n, i, hn, hi => by
    rw [decS, oneB_size] at hi
    obtain rfl : i = 0 := by omega
    rw [decS, bAt_one _ (by omega)]; omega
  | m + 1, n, i, hn, hi => by
    rw [decS] at hi ⊢
    split at hi
    · rw [oneB_size] at hi
      obtain rfl : i = 0 := by omega
      rw [if_pos (by assumption), bAt_one _ (by omega)]; omega
    · rw [if_neg (by assumption)]
      rw [ByteArray.size_append, oneB_size] at hi
      by_cases h : i < (decS m (n / 10)).size
      · rw [bAt_app_left _ _ _ h]
        exact decS_dig m (n / 10) i (by rw [Nat.pow_succ] at hn; omega) h
      · obtain rfl : i = (decS m (n / 10)).size + 0 := by omega
        rw [bAt_app_right, bAt_one _ (by omega)]; omega
/-- So many digits at most. -/
theorem decS_len : ∀ (k m n : Nat), n < 10 ^ (k + 1) → (decS m n).size ≤ k + 1
  | k, 0, n, hn => by rw [decS, oneB_size]; omega
  | 0, m + 1, n, hn => by rw [decS, if_pos (by simpa using hn), oneB_size]; omega
  | k + 1, m + 1, n, hn => by
    rw [decS]; split
    · rw [oneB_size]; omega
    · have := decS_len k m (n / 10) (by rw [Nat.pow_succ] at hn; omega)
      rw [ByteArray.size_append, oneB_size]; omega
/-- The first digit is no 0, where there are more than one. -/
theorem decS_first : ∀ (m n : Nat), n < 10 ^ (m + 1) → 10 ≤ n → bAt (decS m n) 0 ≠ 48
  | 0, n, hn, h => by simp at hn; omega
  | m + 1, n, hn, h => by
    rw [decS, if_neg (by omega), bAt_app_left _ _ _ (decS_pos m (n / 10))]
    by_cases h2 : 10 ≤ n / 10
    · exact decS_first m (n / 10) (by rw [Nat.pow_succ] at hn; omega) h2
    · cases m with
      | zero => rw [decS, bAt_one _ (by omega)]; omega
      | succ m => rw [decS, if_pos (by omega), bAt_one _ (by omega)]; omega
theorem decS_big (m n : Nat) (hn : n < 10 ^ (m + 1)) (h : 2 ≤ (decS m n).size) : 10 ≤ n := by
  rcases Nat.lt_or_ge n 10 with h1 | h1
  · have := decS_len 0 m n (by simpa using h1); omega
  · exact h1
theorem dVal_pos (t : ByteArray) (a : Nat) : ∀ m, (∀ j, j < m → 48 ≤ bAt t (a + j)) → 1 ≤ m → 49 ≤ bAt t a → 1 ≤ dVal t a m
  | 0, _, h, _ => by omega
  | 1, _, _, h => by simp [dVal]; omega
  | m + 2, hd, _, h => by
    have := dVal_pos t a (m + 1) (fun j hj => hd j (by omega)) (by omega) h
    have := hd (m + 1) (by omega)
    rw [dVal]; omega
/-- The digits of a number in decimal, with no 0 ahead, are what its decimal text is. -/
theorem decS_of (t : ByteArray) (a : Nat) : ∀ (m M : Nat), (∀ j, j < m + 1 → 48 ≤ bAt t (a + j) ∧ bAt t (a + j) ≤ 57) → (0 < m → 49 ≤ bAt t a) → m ≤ M → a + m + 1 ≤ t.size → decS M (dVal t a (m + 1)).toNat = t.extract a (a + m + 1)
  | 0, M, hd, h0, hM, hs => by
    have h1 := hd 0 (by omega)
    simp only [Nat.add_zero] at h1
    have hv : dVal t a 1 = bAt t a - 48 := by simp [dVal]
    have e : decS M (dVal t a 1).toNat = oneB (48 + (dVal t a 1).toNat) := by
      cases M with
      | zero => rfl
      | succ M => rw [decS, if_pos (by omega)]
    rw [e]
    have hx := size_extract t a (a + 0 + 1) (by omega) hs
    apply bytes_eq
    · rw [oneB_size]; omega
    · intro i hi
      rw [oneB_size] at hi
      obtain rfl : i = 0 := by omega
      rw [bAt_one _ (by omega), bAt_ext t a _ 0 (by omega) hs]
      simp only [Nat.add_zero]; omega
  | m + 1, M, hd, h0, hM, hs => by
    obtain ⟨M', rfl⟩ : ∃ M', M = M' + 1 := ⟨M - 1, by omega⟩
    have ih := decS_of t a m M' (fun j hj => hd j (by omega)) (fun _ => h0 (by omega)) (by omega) (by omega)
    have h1 := hd (m + 1) (by omega)
    have hp := dVal_pos t a (m + 1) (fun j hj => (hd j (by omega)).1) (by omega) (h0 (by omega))
    have hv : dVal t a (m + 1 + 1) = dVal t a (m + 1) * 10 + (bAt t (a + (m + 1)) - 48) := rfl
    have e1 : (dVal t a (m + 1 + 1)).toNat / 10 = (dVal t a (m + 1)).toNat := by omega
    have e2 : 48 + (dVal t a (m + 1 + 1)).toNat % 10 = (bAt t (a + (m + 1))).toNat := by omega
    rw [decS, if_neg (by omega), e1, e2, ih]
    have hx := size_extract t a (a + m + 1) (by omega) (by omega)
    have hy := size_extract t a (a + (m + 1) + 1) (by omega) (by omega)
    apply bytes_eq
    · rw [ByteArray.size_append, oneB_size]; omega
    · intro i hi
      rw [ByteArray.size_append, oneB_size] at hi
      rw [bAt_ext t a _ i (by omega) (by omega)]
      by_cases h : i < m + 1
      · rw [bAt_app_left _ _ _ (by omega), bAt_ext t a _ i (by omega) (by omega)]
      · obtain rfl : i = (t.extract a (a + m + 1)).size + 0 := by omega
        rw [bAt_app_right, bAt_one _ (by omega), hx]
        rw [show a + (a + m + 1 - a + 0) = a + (m + 1) by omega]
        omega

theorem run_not (p : Int → Bool) (s : ByteArray) (hp : p (-1) = false) : ∀ (m e : Nat), s.size ≤ e + m → p (bAt s (runEnd p s m e)) = false
  | 0, e, h => by rw [runEnd, bAt_out s e (by omega)]; exact hp
  | m + 1, e, h => by
    rw [runEnd]; split
    · exact run_not p s hp m (e + 1) (by omega)
    · rename_i hq; simpa using hq
theorem run_unique (p : Int → Bool) (s : ByteArray) : ∀ (d a k : Nat), k = a + d → k ≤ s.size → (∀ i, a ≤ i → i < k → p (bAt s i) = true) → p (bAt s k) = false → runEnd p s (s.size - a) a = k
  | 0, a, k, h, hk, ha, hn => by
    obtain rfl : k = a := by omega
    exact run_stop p s _ k rfl hn
  | d + 1, a, k, h, hk, ha, hn => by
    rw [run_step p s _ a rfl (by omega) (ha a (by omega) (by omega))]
    exact run_unique p s d (a + 1) k (by omega) hk (fun i h1 h2 => ha i (by omega) h2) hn
theorem pDig_facts {s : ByteArray} {a e : Nat} {n : Int} (h : pDig s a = some (n, e)) : a < e ∧ e ≤ s.size ∧ (∀ i, a ≤ i → i < e → isD (bAt s i) = true) ∧ isD (bAt s e) = false ∧ e - a ≤ 16 ∧ (1 < e - a → bAt s a ≠ 48) ∧ n = dVal s a (e - a) := by
  have hbd := pDig_bd h
  unfold pDig at h
  simp only at h
  obtain ⟨E, hE⟩ : ∃ E, E = runEnd isD s (s.size - a) a := ⟨_, rfl⟩
  rw [← hE] at h
  split at h
  · cases h
  · rename_i hc
    simp only [Option.some.injEq, Prod.mk.injEq] at h
    obtain ⟨rfl, rfl⟩ := h
    refine ⟨hbd.1, hbd.2.1, fun i h1 h2 => run_all isD s (s.size - a) a i h1 (by rw [← hE]; exact h2), ?_, by omega, fun h1 h2 => hc (.inr (.inr ⟨h1, h2⟩)), rfl⟩
    rw [hE]; exact run_not isD s rfl _ _ (by omega)
theorem pDig_mk {s : ByteArray} {a e : Nat} (h1 : a < e) (h2 : e ≤ s.size) (h3 : ∀ i, a ≤ i → i < e → isD (bAt s i) = true) (h4 : isD (bAt s e) = false) (h5 : e - a ≤ 16) (h6 : 1 < e - a → bAt s a ≠ 48) : pDig s a = some (dVal s a (e - a), e) := by
  have hE := run_unique isD s (e - a) a e (by omega) h2 h3 h4
  exact pDig_some s a e hE.symm (by rintro (h | h | h); omega; omega; exact h6 h.1 h.2)
theorem isN_of {b : Int} (h : isD b = true) : isN b = true := by simp [isN, h]
theorem isN_not {b : Int} (h : isD b = false) (h2 : b ≠ 45) : isN b = false := by simp [isN, h, h2]
theorem isD_bd {b : Int} (h : isD b = true) : 48 ≤ b ∧ b ≤ 57 := by simpa [isD] using h
theorem isD_mk {b : Int} (h : 48 ≤ b ∧ b ≤ 57) : isD b = true := by simpa [isD] using h
theorem isN_cases {b : Int} (h : isN b = true) : b = 45 ∨ (48 ≤ b ∧ b ≤ 57) := by
  simp [isN, isD] at h; omega
theorem vAll_nonneg (t : ByteArray) (j : Nat) : ∀ m, (∀ i, i < m → isN (bAt t (j + i)) = true) → 0 ≤ vAll t j m
  | 0, _ => by simp [vAll]
  | m + 1, h => by
    have := vAll_nonneg t j m (fun i hi => h i (by omega))
    have := isN_cases (h m (by omega))
    rw [vAll]; split <;> omega
theorem vAll_dig (t : ByteArray) (j : Nat) : ∀ m, (∀ i, i < m → isD (bAt t (j + i)) = true) → vAll t j m = dVal t j m
  | 0, _ => rfl
  | m + 1, h => by
    have := isD_bd (h m (by omega))
    rw [vAll, dVal, if_neg (by omega), vAll_dig t j m (fun i hi => h i (by omega))]; omega
theorem vAll_neg (t : ByteArray) (j : Nat) (h45 : bAt t j = 45) : ∀ m, (∀ i, i < m → isD (bAt t (j + 1 + i)) = true) → vAll t j (m + 1) = dVal t (j + 1) m
  | 0, _ => by rw [vAll, if_pos (by simpa using h45)]; rfl
  | m + 1, h => by
    have := isD_bd (h m (by omega))
    have e : j + (m + 1) = j + 1 + m := by omega
    rw [vAll, dVal, e, if_neg (by omega), vAll_neg t j h45 m (fun i hi => h i (by omega))]; omega
theorem p16 (n : Nat) (h : n ≤ 1000000000000000) : n < 10 ^ (15 + 1) := by omega
theorem p19 (n : Nat) (h : n ≤ 1000000000000000) : n < 10 ^ (18 + 1) := by omega

theorem layN_pos {t : ByteArray} {j : Nat} {lo hi : Int} (hh : hi ≤ 1000000000000000) (hj : j ≤ t.size) (h45 : ¬ bAt t j = 45) : layN t j lo hi = encNum true lo hi t j := by
  obtain ⟨E, hE⟩ : ∃ E, E = runEnd isN t (t.size - j) j := ⟨_, rfl⟩
  have hle := run_le isN t (t.size - j) j
  rw [← hE] at hle
  have hall : ∀ i, j ≤ i → i < E → isN (bAt t i) = true := fun i h1 h2 => run_all isN t (t.size - j) j i h1 (by rw [← hE]; exact h2)
  have hnot : isN (bAt t E) = false := by rw [hE]; exact run_not isN t rfl _ _ (by omega)
  have hL : layN t j lo hi = if 18 < E - j then none else if decI (vAll t j (E - j)) = t.extract j E ∧ lo ≤ vAll t j (E - j) ∧ vAll t j (E - j) ≤ hi then some (numData (vAll t j (E - j)), E) else none := by
    unfold layN; simp only [if_neg h45]; rw [hE]
  have hv := vAll_nonneg t j (E - j) (fun i hi => hall _ (by omega) (by omega))
  by_cases C : decI (vAll t j (E - j)) = t.extract j E ∧ lo ≤ vAll t j (E - j) ∧ vAll t j (E - j) ≤ hi
  · obtain ⟨c1, c2, c3⟩ := C
    have hd : decI (vAll t j (E - j)) = decS 18 (vAll t j (E - j)).toNat := by unfold decI; rw [if_neg (by omega)]
    rw [hd] at c1
    have hsz := size_extract t j E (by omega) (by omega)
    have hpos := decS_pos 18 (vAll t j (E - j)).toNat
    have hlen := decS_len 15 18 (vAll t j (E - j)).toNat (p16 _ (by omega))
    rw [c1, hsz] at hpos hlen
    have hdig : ∀ i, j ≤ i → i < E → isD (bAt t i) = true := fun i h1 h2 => by
      have := decS_dig 18 (vAll t j (E - j)).toNat (i - j) (p19 _ (by omega)) (by rw [c1, hsz]; omega)
      rw [c1, bAt_ext t j E (i - j) (by omega) (by omega), show j + (i - j) = i by omega] at this
      exact isD_mk this
    have hne : isD (bAt t E) = false := by
      rcases h : isD (bAt t E) with _ | _
      · rfl
      · rw [isN_of h] at hnot; cases hnot
    have hE45 : ¬ bAt t E = 45 := fun h => by rw [h] at hnot; cases hnot
    have hlead : 1 < E - j → bAt t j ≠ 48 := fun h1 => by
      have hb := decS_big 18 (vAll t j (E - j)).toNat (p19 _ (by omega)) (by rw [c1, hsz]; omega)
      have hf := decS_first 18 (vAll t j (E - j)).toNat (p19 _ (by omega)) hb
      rw [c1, bAt_ext t j E 0 (by omega) (by omega)] at hf
      simpa using hf
    have hp := pDig_mk (by omega) (by omega) hdig hne (by omega) hlead
    have hvd := vAll_dig t j (E - j) (fun i hi => hdig _ (by omega) (by omega))
    rw [hL, if_neg (by omega), if_pos ⟨by rw [hd]; exact c1, c2, c3⟩]
    unfold encNum pNum
    rw [if_neg h45, hp]
    simp only
    rw [← hvd, if_neg (by omega), if_neg (fun h => hE45 h.2)]
  · rw [hL, if_neg C, ite_self]
    rcases hx : encNum true lo hi t j with _ | ⟨d, k⟩
    · rfl
    · exfalso
      unfold encNum pNum at hx
      rw [if_neg h45] at hx
      rcases hp : pDig t j with _ | ⟨n, e⟩
      · rw [hp] at hx; cases hx
      · rw [hp] at hx
        simp only at hx
        split at hx
        · cases hx
        · rename_i hr
          split at hx
          · cases hx
          · rename_i he
            have he45 : bAt t e ≠ 45 := fun h => he ⟨trivial, h⟩
            obtain ⟨f1, f2, f3, f4, f5, f6, f7⟩ := pDig_facts hp
            have hEe : E = e := by rw [hE]; exact run_unique isN t (e - j) j e (by omega) f2 (fun i h1 h2 => isN_of (f3 i h1 h2)) (isN_not f4 he45)
            subst hEe
            have hvd := vAll_dig t j (E - j) (fun i hi => f3 _ (by omega) (by omega))
            apply C
            have hdec := decS_of t j (E - j - 1) 18 (fun i hi => isD_bd (f3 _ (by omega) (by omega))) (fun h => by
              have := f6 (by omega); have := isD_bd (f3 j (by omega) (by omega)); omega) (by omega) (by omega)
            rw [show E - j - 1 + 1 = E - j by omega, show j + (E - j - 1) + 1 = E by omega] at hdec
            rw [hvd]
            refine ⟨?_, by omega, by omega⟩
            unfold decI
            rw [if_neg (by omega)]
            exact hdec

theorem bAt_minus : bAt (⟨#[45]⟩ : ByteArray) 0 = 45 := rfl
theorem layN_neg {t : ByteArray} {j : Nat} {lo hi : Int} (hl : -1000000000000000 ≤ lo) (hj : j < t.size) (h45 : bAt t j = 45) : layN t j lo hi = encNum true lo hi t j := by
  obtain ⟨E, hE⟩ : ∃ E, E = runEnd isN t (t.size - j) j := ⟨_, rfl⟩
  have hle := run_le isN t (t.size - j) j
  rw [← hE] at hle
  have hall : ∀ i, j ≤ i → i < E → isN (bAt t i) = true := fun i h1 h2 => run_all isN t (t.size - j) j i h1 (by rw [← hE]; exact h2)
  have hnot : isN (bAt t E) = false := by rw [hE]; exact run_not isN t rfl _ _ (by omega)
  have hjE : j < E := by
    rcases Nat.lt_or_ge j E with h | h
    · exact h
    · obtain rfl : E = j := by omega
      rw [h45] at hnot; cases hnot
  have hL : layN t j lo hi = if 18 < E - j then none else if decI (-vAll t j (E - j)) = t.extract j E ∧ lo ≤ -vAll t j (E - j) ∧ -vAll t j (E - j) ≤ hi then some (numData (-vAll t j (E - j)), E) else none := by
    unfold layN; simp only [if_pos h45]; rw [hE]
  have hv := vAll_nonneg t j (E - j) (fun i hi => hall _ (by omega) (by omega))
  by_cases C : decI (-vAll t j (E - j)) = t.extract j E ∧ lo ≤ -vAll t j (E - j) ∧ -vAll t j (E - j) ≤ hi
  · obtain ⟨c1, c2, c3⟩ := C
    have hsz := size_extract t j E (by omega) (by omega)
    have hv0 : 0 < vAll t j (E - j) := by
      rcases Int.lt_or_eq_of_le hv with h | h
      · exact h
      · exfalso
        rw [← h] at c1
        have h1 := bAt_ext t j E 0 (by omega) (by omega)
        rw [← c1] at h1
        simp only [Nat.add_zero] at h1
        rw [h45] at h1
        cases h1
    have hd : decI (-vAll t j (E - j)) = ⟨#[45]⟩ ++ decS 18 (vAll t j (E - j)).toNat := by unfold decI; rw [if_pos (by omega), Int.neg_neg]
    have c1' := c1
    rw [hd] at c1
    have hs1 : (⟨#[45]⟩ : ByteArray).size = 1 := rfl
    have hpos := decS_pos 18 (vAll t j (E - j)).toNat
    have hlen := decS_len 15 18 (vAll t j (E - j)).toNat (p16 _ (by omega))
    have htot : 1 + (decS 18 (vAll t j (E - j)).toNat).size = E - j := by have h := congrArg ByteArray.size c1; rw [ByteArray.size_append, hs1, hsz] at h; exact h
    have hbyte : ∀ i, i < (decS 18 (vAll t j (E - j)).toNat).size → bAt (decS 18 (vAll t j (E - j)).toNat) i = bAt t (j + 1 + i) := fun i hi => by
      have h1 := bAt_app_right ⟨#[45]⟩ (decS 18 (vAll t j (E - j)).toNat) i
      rw [c1, hs1, bAt_ext t j E (1 + i) (by omega) (by omega)] at h1
      rw [← h1]; congr 1; omega
    have hdig : ∀ i, j + 1 ≤ i → i < E → isD (bAt t i) = true := fun i h1 h2 => by
      have := decS_dig 18 (vAll t j (E - j)).toNat (i - (j + 1)) (p19 _ (by omega)) (by omega)
      rw [hbyte _ (by omega), show j + 1 + (i - (j + 1)) = i by omega] at this
      exact isD_mk this
    have hne : isD (bAt t E) = false := by
      rcases h : isD (bAt t E) with _ | _
      · rfl
      · rw [isN_of h] at hnot; cases hnot
    have hE45 : ¬ bAt t E = 45 := fun h => by rw [h] at hnot; cases hnot
    have hlead : 1 < E - (j + 1) → bAt t (j + 1) ≠ 48 := fun h1 => by
      have hb := decS_big 18 (vAll t j (E - j)).toNat (p19 _ (by omega)) (by omega)
      have hf := decS_first 18 (vAll t j (E - j)).toNat (p19 _ (by omega)) hb
      rw [hbyte 0 (by omega)] at hf
      simpa using hf
    have hp := pDig_mk (by omega) (by omega) hdig hne (by omega) hlead
    have hvd := vAll_neg t j h45 (E - (j + 1)) (fun i hi => hdig _ (by omega) (by omega))
    rw [show E - (j + 1) + 1 = E - j by omega] at hvd
    rw [hL, if_neg (by omega), if_pos ⟨c1', c2, c3⟩]
    unfold encNum pNum
    rw [if_pos h45, hp]
    simp only
    rw [← hvd, if_neg (by omega)]
    simp only
    rw [if_neg (by omega), if_neg (fun h => hE45 h.2)]
  · rw [hL, if_neg C, ite_self]
    rcases hx : encNum true lo hi t j with _ | ⟨d, k⟩
    · rfl
    · exfalso
      unfold encNum pNum at hx
      rw [if_pos h45] at hx
      rcases hp : pDig t (j + 1) with _ | ⟨n, e⟩
      · rw [hp] at hx; cases hx
      · rw [hp] at hx
        simp only at hx
        by_cases hn0 : n = 0
        · rw [if_pos hn0] at hx; cases hx
        · rw [if_neg hn0] at hx
          simp only at hx
          split at hx
          · cases hx
          · rename_i hr
            split at hx
            · cases hx
            · rename_i he
              have he45 : bAt t e ≠ 45 := fun h => he ⟨trivial, h⟩
              obtain ⟨f1, f2, f3, f4, f5, f6, f7⟩ := pDig_facts hp
              have hEe : E = e := by
                rw [hE]
                exact run_unique isN t (e - j) j e (by omega) f2 (fun i h1 h2 => by
                  by_cases h : i = j
                  · subst h; rw [h45]; rfl
                  · exact isN_of (f3 i (by omega) h2)) (isN_not f4 he45)
              subst hEe
              have hvd := vAll_neg t j h45 (E - (j + 1)) (fun i hi => f3 _ (by omega) (by omega))
              rw [show E - (j + 1) + 1 = E - j by omega] at hvd
              have hnn := (pDig_bd hp).2.2.1
              apply C
              have hdec := decS_of t (j + 1) (E - (j + 1) - 1) 18 (fun i hi => isD_bd (f3 _ (by omega) (by omega))) (fun h => by
                have := f6 (by omega); have := isD_bd (f3 (j + 1) (by omega) (by omega)); omega) (by omega) (by omega)
              rw [show E - (j + 1) - 1 + 1 = E - (j + 1) by omega, show j + 1 + (E - (j + 1) - 1) + 1 = E by omega] at hdec
              rw [hvd]
              refine ⟨?_, by omega, by omega⟩
              unfold decI
              rw [if_pos (by omega), Int.neg_neg, hdec]
              have hs1 : (⟨#[45]⟩ : ByteArray).size = 1 := rfl
              have hx1 := size_extract t (j + 1) E (by omega) (by omega)
              have hx2 := size_extract t j E (by omega) (by omega)
              apply bytes_eq
              · rw [ByteArray.size_append, hs1]; omega
              · intro i hi
                rw [ByteArray.size_append, hs1] at hi
                rw [bAt_ext t j E i (by omega) (by omega)]
                cases i with
                | zero => rw [bAt_app_left _ _ _ (by omega)]; simp only [Nat.add_zero]; rw [h45]; rfl
                | succ i =>
                  have h1 := bAt_app_right ⟨#[45]⟩ (t.extract (j + 1) E) i
                  rw [hs1, Nat.add_comm 1 i] at h1
                  rw [h1, bAt_ext t (j + 1) E i (by omega) (by omega)]
                  congr 1; omega
theorem layN_eq {t : ByteArray} {j : Nat} {lo hi : Int} (hl : -1000000000000000 ≤ lo) (hh : hi ≤ 1000000000000000) (hj : j < t.size) : layN t j lo hi = encNum true lo hi t j := by
  by_cases h : bAt t j = 45
  · exact layN_neg hl hj h
  · exact layN_pos hh (by omega) h
end Go.Proofs.YtkkekopomiehlaaDoor
