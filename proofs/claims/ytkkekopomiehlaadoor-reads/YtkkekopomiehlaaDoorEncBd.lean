import Derived.Test.YtkkekopomiehlaaDoorEncs
set_option linter.unusedVariables false
set_option linter.unusedSimpArgs false
namespace Go.Proofs.YtkkekopomiehlaaDoor

theorem oneB_size (n : Nat) : (oneB n).size = 1 := rfl
theorem codU_size : ∀ (m : Nat) (acc : ByteArray) (u : Nat), (codU m acc u).size ≤ acc.size + m + 1
  | 0, acc, u => by rw [codU, ByteArray.size_append, oneB_size]; omega
  | m + 1, acc, u => by
    rw [codU]; split
    · have := codU_size m (acc ++ oneB (u % 128 + 128)) (u / 128)
      rw [ByteArray.size_append, oneB_size] at this; omega
    · rw [ByteArray.size_append, oneB_size]; omega
theorem numData_size (n : Int) : (numData n).size ≤ 9 := by
  have := codU_size 8 ByteArray.empty (zig n); unfold numData
  have e : ByteArray.empty.size = 0 := rfl
  omega
theorem encNum_bd {st : Bool} {lo hi : Int} {t d : ByteArray} {j k : Nat} (h : encNum st lo hi t j = some (d, k)) : j < k ∧ k ≤ t.size ∧ d.size ≤ 9 * (k - j) := by
  unfold encNum at h
  split at h
  · cases h
  · rename_i n e hp
    have := pNum_bd hp
    split at h
    · cases h
    · split at h
      · cases h
      · simp only [Option.some.injEq, Prod.mk.injEq] at h
        obtain ⟨rfl, rfl⟩ := h
        have := numData_size n; omega
theorem encStr_bd {t d : ByteArray} {j k : Nat} (h : encStr t j = some (d, k)) : j < k ∧ k ≤ t.size ∧ d.size ≤ 9 * (k - j) := by
  unfold encStr at h
  split at h
  · simp only at h
    have hle := run_le inS t (t.size - (j + 1)) (j + 1)
    generalize runEnd inS t (t.size - (j + 1)) (j + 1) = E at h hle
    split at h
    · rename_i hc
      simp only [Option.some.injEq, Prod.mk.injEq] at h
      obtain ⟨rfl, rfl⟩ := h
      have hE : E < t.size := bAt_lt (by omega)
      rw [ByteArray.size_append, oneB_size, size_extract t (j + 1) E (by omega) (by omega)]
      omega
    · cases h
  · cases h
theorem encCho_bd {l t d : ByteArray} {j k : Nat} (h : encCho l t j = some (d, k)) : j < k ∧ k ≤ t.size ∧ d.size ≤ 9 * (k - j) := by
  unfold encCho at h
  split at h
  · cases h
  · rename_i hc
    simp only [Option.some.injEq, Prod.mk.injEq] at h
    obtain ⟨rfl, rfl⟩ := h
    rw [oneB_size]
    have : j < t.size := by
      rcases Nat.lt_or_ge j t.size with h | h
      · exact h
      · exfalso; rw [bAt_out t j h] at hc
        apply hc
        unfold pOf
        have key : ∀ m k, pFrom l (-1) m k ≤ -1 ∨ (k + m > l.size) := by
          intro m
          induction m with
          | zero => intro k; left; simp [pFrom]
          | succ m ih =>
            intro k
            rw [pFrom]
            by_cases hk : k < l.size
            · rw [bAt_in l k hk, if_neg (by omega)]
              rcases ih (k + 1) with h | h
              · exact .inl h
              · right; omega
            · right; omega
        rcases key l.size 0 with h | h <;> omega
    omega
/-- What each of these functions tells of where it ends, and of how much it gives. -/
def Bd (C : Nat) (T : Nat) (f : Nat → Option (ByteArray × Nat)) : Prop := ∀ j d k, f j = some (d, k) → j < k ∧ k ≤ T ∧ d.size ≤ C * (k - j)
theorem mul_sub_add {C a b c : Nat} (h1 : a ≤ b) (h2 : b ≤ c) : C * (b - a) + C * (c - b) = C * (c - a) := by
  rw [← Nat.mul_add]; congr 1; omega
theorem mul_mono {C a b : Nat} (h : a ≤ b) : C * a ≤ C * b := Nat.mul_le_mul_left C h
theorem mul_succ_le {C a b : Nat} (hC : 1 ≤ C) (h : a < b) : C * a + 1 ≤ C * b := by
  have := Nat.mul_le_mul_left C (show a + 1 ≤ b by omega); rw [Nat.mul_add] at this; omega
theorem encItems_bd {C : Nat} {f : Nat → Option (ByteArray × Nat)} {t : ByteArray} (hC : 1 ≤ C) (hf : Bd C t.size f) (j : Nat) :
    ∀ (m c b : Nat) (d0 d : ByteArray) (k : Nat), j ≤ b → d0.size ≤ C * (b - j) → encItems f t m c b d0 = some (d, k) → b < k ∧ k ≤ t.size ∧ d.size ≤ C * (k - j)
  | 0, c, b, d0, d, k, _, _, h => by simp [encItems] at h
  | m + 1, c, b, d0, d, k, hj, h0, h => by
    rw [encItems] at h
    split at h
    · cases h
    · rename_i x k' hx
      have hb := hf _ _ _ hx
      have hs : (d0 ++ x).size ≤ C * (k' - j) := by
        rw [ByteArray.size_append]
        have h1 := mul_sub_add (C := C) (show j ≤ b + 1 by omega) (show b + 1 ≤ k' by omega)
        have h2 := mul_mono (C := C) (show b - j ≤ b + 1 - j by omega)
        omega
      split at h
      · rename_i hc
        simp only [Option.some.injEq, Prod.mk.injEq] at h
        obtain ⟨rfl, rfl⟩ := h
        have hk' : k' < t.size := bAt_lt (by omega)
        refine ⟨by omega, by omega, ?_⟩
        rw [ByteArray.size_append, oneB_size]
        have := mul_succ_le hC (show k' - j < k' + 1 - j by omega)
        omega
      · split at h
        · have := encItems_bd hC hf j m (c + 1) k' (d0 ++ x) d k (by omega) hs h
          omega
        · cases h
theorem encList_bd {C : Nat} {f : Nat → Option (ByteArray × Nat)} {t : ByteArray} (hC : 1 ≤ C) (hf : Bd C t.size f) : Bd C t.size (encList f t) := by
  intro j d k h
  unfold encList at h
  split at h
  · split at h
    · rename_i h1 h2
      simp only [Option.some.injEq, Prod.mk.injEq] at h
      obtain ⟨rfl, rfl⟩ := h
      have : j + 1 < t.size := bAt_lt (by omega)
      refine ⟨by omega, by omega, ?_⟩
      rw [oneB_size]
      have := mul_succ_le hC (show 0 < j + 2 - j by omega)
      omega
    · have := encItems_bd hC hf j 16 1 j ByteArray.empty d k (Nat.le_refl _) (Nat.zero_le _) h
      omega
  · cases h
theorem encMaybe_bd {C : Nat} {f : Nat → Option (ByteArray × Nat)} {t : ByteArray} (hC : 1 ≤ C) (hf : Bd C t.size f) : Bd (C + 1) t.size (encMaybe f t) := by
  intro j d k h
  unfold encMaybe at h
  split at h
  · rename_i h1
    simp only [Option.some.injEq, Prod.mk.injEq] at h
    obtain ⟨rfl, rfl⟩ := h
    have : j < t.size := bAt_lt (by omega)
    refine ⟨by omega, by omega, ?_⟩
    rw [oneB_size, show j + 1 - j = 1 by omega]
    omega
  · split at h
    · cases h
    · rename_i x k' hx
      simp only [Option.some.injEq, Prod.mk.injEq] at h
      obtain ⟨rfl, rfl⟩ := h
      have hb := hf _ _ _ hx
      refine ⟨hb.1, hb.2.1, ?_⟩
      rw [ByteArray.size_append, oneB_size, Nat.add_mul]
      omega
theorem encFlds_bd {C : Nat} {f : Ty → Nat → Option (ByteArray × Nat)} {t : ByteArray} (hC : 1 ≤ C) (hf : ∀ ty, Bd C t.size (f ty)) (j : Nat) :
    ∀ (fs : List (Nat × Ty × ByteArray)) (mk : Int) (b : Nat) (d0 d : ByteArray) (k : Nat), j ≤ b → d0.size ≤ C * (b - j) → encFlds f t fs mk b d0 = some (d, k) → b < k ∧ k ≤ t.size ∧ d.size ≤ C * (k - j)
  | [], mk, b, d0, d, k, hj, h0, h => by
    rw [encFlds] at h
    split at h
    · simp only [Option.some.injEq, Prod.mk.injEq] at h
      obtain ⟨rfl, rfl⟩ := h
      have : b < t.size := bAt_lt (by omega)
      have := mul_mono (C := C) (show b - j ≤ b + 1 - j by omega)
      omega
    · cases h
  | g :: fs, mk, b, d0, d, k, hj, h0, h => by
    rw [encFlds] at h
    split at h
    · split at h
      · cases h
      · rename_i x k' hx
        have hb := hf _ _ _ _ hx
        have hs : (d0 ++ x).size ≤ C * (k' - j) := by
          rw [ByteArray.size_append]
          have h1 := mul_sub_add (C := C) (show j ≤ b + 3 by omega) (show b + 3 ≤ k' by omega)
          have h2 := mul_mono (C := C) (show b - j ≤ b + 3 - j by omega)
          omega
        have := encFlds_bd hC hf j fs 44 k' (d0 ++ x) d k (by omega) hs h
        omega
    · cases h
theorem Bd.mono {C C' T : Nat} {f : Nat → Option (ByteArray × Nat)} (h : Bd C T f) (hC : C ≤ C') : Bd C' T f := fun j d k hj => by
  have := h j d k hj
  have := Nat.mul_le_mul_right (k - j) hC
  omega
theorem enc_Bd (st : Bool) (t : ByteArray) : ∀ (n : Nat) (ty : Ty), Bd (9 * n + 9) t.size (enc st t n ty)
  | 0, ty => by intro j d k h; simp [enc] at h
  | n + 1, ty => by
    have ih := fun ty => (enc_Bd st t n ty)
    intro j d k h
    rw [enc] at h
    have up : ∀ {d : ByteArray} {k : Nat}, j < k ∧ k ≤ t.size ∧ d.size ≤ 9 * (k - j) → j < k ∧ k ≤ t.size ∧ d.size ≤ (9 * (n + 1) + 9) * (k - j) := by
      rintro d k ⟨h1, h2, h3⟩
      have := Nat.mul_le_mul_right (k - j) (show 9 ≤ 9 * (n + 1) + 9 by omega)
      omega
    split at h
    · exact up (encNum_bd h)
    · split at h
      · exact up (encNum_bd h)
      · split at h
        · exact up (encStr_bd h)
        · split at h
          · exact up (encCho_bd h)
          · split at h
            · exact (encList_bd (by omega) (ih ty.in)).mono (by omega) _ _ _ h
            · split at h
              · exact (encMaybe_bd (by omega) (ih ty.in)).mono (by omega) _ _ _ h
              · split at h
                · have := encFlds_bd (C := 9 * (n + 1) + 9) (by omega) (fun ty => (ih ty).mono (by omega)) j ty.fields 123 j ByteArray.empty d k (Nat.le_refl _) (Nat.zero_le _) h
                  exact this
                · cases h
theorem enc_bd {st : Bool} {t d : ByteArray} {n j k : Nat} {ty : Ty} (h : enc st t n ty j = some (d, k)) : j < k ∧ k ≤ t.size ∧ d.size ≤ (9 * n + 9) * (k - j) := enc_Bd st t n ty j d k h
end Go.Proofs.YtkkekopomiehlaaDoor
