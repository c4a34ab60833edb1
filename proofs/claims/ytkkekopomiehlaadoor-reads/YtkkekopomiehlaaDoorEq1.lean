import Derived.Test.YtkkekopomiehlaaDoorRef5
set_option linter.unusedVariables false
set_option linter.unusedSimpArgs false
namespace Go.Proofs.YtkkekopomiehlaaDoor

theorem tw_iff (l : ByteArray) : tw l = true ↔ ∃ i j, j < i ∧ i < l.size ∧ bAt l i = bAt l j := by
  constructor
  · intro h
    rcases Classical.em (∃ i j, j < i ∧ i < l.size ∧ bAt l i = bAt l j) with h1 | h1
    · exact h1
    · rw [tw_false (fun i j hj hi e => h1 ⟨i, j, hj, hi, e⟩)] at h; cases h
  · rintro ⟨i, j, h1, h2, h3⟩; exact tw_true h1 h2 h3
theorem bAt_names (fs : List (Nat × Ty × ByteArray)) (h : ∀ f ∈ fs, f.1 < 256) (i : Nat) (hi : i < fs.length) : bAt (namesOf fs) i = fs[i].1 := by
  have hs := namesOf_size fs
  rw [bAt_in _ _ (by omega)]
  have h1 := h fs[i] (List.getElem_mem hi)
  have e : (namesOf fs)[i]'(by omega) = fs[i].1.toUInt8 := by
    show (namesOf fs).data[i]'_ = _
    simp [namesOf]
  rw [e]
  simp [Nat.toUInt8, UInt8.toNat_ofNat']
  omega
/-- Two of the fields have one letter. -/
def Dup (fs : List (Nat × Ty × ByteArray)) : Prop := ∃ i j, ∃ (h1 : j < i) (h2 : i < fs.length), (fs[i]).1 = (fs[j]'(by omega)).1
theorem tw_names (fs : List (Nat × Ty × ByteArray)) (h : ∀ f ∈ fs, f.1 < 256) : tw (namesOf fs) = true ↔ Dup fs := by
  rw [tw_iff, namesOf_size]
  constructor
  · rintro ⟨i, j, h1, h2, h3⟩
    rw [bAt_names fs h i h2, bAt_names fs h j (by omega)] at h3
    exact ⟨i, j, h1, h2, by omega⟩
  · rintro ⟨i, j, h1, h2, h3⟩
    refine ⟨i, j, h1, h2, ?_⟩
    rw [bAt_names fs h i h2, bAt_names fs h j (by omega), h3]
theorem Dup.more {fs gs : List (Nat × Ty × ByteArray)} (h : Dup fs) : Dup (fs ++ gs) := by
  obtain ⟨i, j, h1, h2, h3⟩ := h
  refine ⟨i, j, h1, by simp; omega, ?_⟩
  rw [List.getElem_append_left h2, List.getElem_append_left (by omega)]; exact h3
theorem Dup.has {acc : List (Nat × Ty × ByteArray)} {f : Nat × Ty × ByteArray} (h : hasL acc f.1 = true) : Dup (acc ++ [f]) := by
  unfold hasL at h
  rw [List.any_eq_true] at h
  obtain ⟨g, hg, he⟩ := h
  obtain ⟨j, hj, rfl⟩ := List.getElem_of_mem hg
  refine ⟨acc.length, j, hj, by simp, ?_⟩
  rw [List.getElem_append_left hj]
  simp at he ⊢
  exact he.symm
theorem Dup.not {acc : List (Nat × Ty × ByteArray)} {f : Nat × Ty × ByteArray} (h : ¬ Dup acc) (hh : hasL acc f.1 = false) : ¬ Dup (acc ++ [f]) := by
  rintro ⟨i, j, h1, h2, h3⟩
  simp at h2
  by_cases hi : i < acc.length
  · rw [List.getElem_append_left hi, List.getElem_append_left (by omega)] at h3
    exact h ⟨i, j, h1, hi, h3⟩
  · obtain rfl : i = acc.length := by omega
    rw [List.getElem_append_left h1] at h3
    simp at h3
    have := hasL_some acc f.1 j acc[j] (List.getElem?_eq_getElem h1) h3.symm
    rw [this] at hh; cases hh
theorem pFldsN_pre {pf : Nat → Option ((Nat × Ty × ByteArray) × Nat)} {s : ByteArray} (hp : ∀ a f k, pf a = some (f, k) → f.1 < 256) : ∀ {m a k : Nat} {acc fs : List (Nat × Ty × ByteArray)}, (∀ f ∈ acc, f.1 < 256) → pFldsN pf s m a acc = some (fs, k) → (∃ gs, fs = acc ++ gs) ∧ ∀ f ∈ fs, f.1 < 256
  | 0, a, k, acc, fs, _, h => by simp [pFldsN] at h
  | m + 1, a, k, acc, fs, ha, h => by
    rw [pFldsN] at h
    split at h
    · cases h
    · rename_i f k' hx
      have h256 := hp _ _ _ hx
      have ha' : ∀ g ∈ acc ++ [f], g.1 < 256 := fun g hg => by
        simp at hg; rcases hg with hg | rfl
        · exact ha g hg
        · exact h256
      split at h
      · obtain ⟨⟨gs, rfl⟩, h2⟩ := pFldsN_pre hp ha' h
        exact ⟨⟨f :: gs, by simp⟩, h2⟩
      · simp only [Option.some.injEq, Prod.mk.injEq] at h
        obtain ⟨rfl, rfl⟩ := h
        exact ⟨⟨[f], rfl⟩, ha'⟩
theorem fin_dup {s : ByteArray} {fs : List (Nat × Ty × ByteArray)} {k : Nat} (h : ∀ f ∈ fs, f.1 < 256) (hd : Dup fs) : fin s (some (fs, k)) = none := by
  show (if _ then _ else _) = _
  rw [if_pos (.inl ((tw_names fs h).mpr hd))]
theorem pFlds_fin {pf : Nat → Option ((Nat × Ty × ByteArray) × Nat)} {s : ByteArray} (hp : ∀ a f k, pf a = some (f, k) → f.1 < 256) : ∀ {m a : Nat} {acc : List (Nat × Ty × ByteArray)}, (∀ f ∈ acc, f.1 < 256) → ¬ Dup acc → pFlds pf s m a acc = fin s (pFldsN pf s m a acc)
  | 0, a, acc, _, _ => rfl
  | m + 1, a, acc, ha, hnd => by
    rw [pFlds, pFldsN]
    rcases hx : pf a with _ | ⟨f, k⟩
    · rfl
    · have h256 := hp _ _ _ hx
      have ha' : ∀ g ∈ acc ++ [f], g.1 < 256 := fun g hg => by
        simp at hg; rcases hg with hg | rfl
        · exact ha g hg
        · exact h256
      simp only
      cases hh : hasL acc f.1 with
      | true =>
        rw [if_pos (show (acc.any fun g => g.1 == f.1) = true from hh)]
        have hd := Dup.has hh
        split
        · rcases hy : pFldsN pf s m (k + 1) (acc ++ [f]) with _ | ⟨fs, k'⟩
          · rfl
          · obtain ⟨⟨gs, rfl⟩, h2⟩ := pFldsN_pre hp ha' hy
            exact (fin_dup h2 hd.more).symm
        · exact (fin_dup ha' hd).symm
      | false =>
        rw [if_neg (by rw [show (acc.any fun g => g.1 == f.1) = false from hh]; simp)]
        have hd := Dup.not hnd hh
        by_cases h5 : bAt s k = 125
        · rw [if_pos h5, if_neg (by omega)]
          show _ = (if _ then _ else _)
          rw [if_neg]
          rintro (h | h)
          · exact hd ((tw_names _ ha').mp h)
          · exact h h5
        · rw [if_neg h5]
          by_cases h4 : bAt s k = 44
          · rw [if_pos h4, if_pos h4]
            exact pFlds_fin hp ha' hd
          · rw [if_neg h4, if_neg h4]
            show _ = (if _ then _ else _)
            rw [if_pos (.inr h5)]
theorem pField_256 {pt : Nat → Option (Ty × Nat)} {ef : Ty → Nat → Option (ByteArray × Nat)} {s : ByteArray} {i k : Nat} {f : Nat × Ty × ByteArray} (h : pField pt ef s i = some (f, k)) : f.1 < 256 := by
  unfold pField at h
  have := bAt_hi s i
  split at h
  · split at h
    · cases h
    · split at h
      · split at h
        · cases h
        · simp only [Option.some.injEq, Prod.mk.injEq] at h
          rw [← h.1]; show (bAt s i).toNat < 256; omega
      · simp only [Option.some.injEq, Prod.mk.injEq] at h
        rw [← h.1]; show (bAt s i).toNat < 256; omega
  · cases h
theorem fields_eq (pt : Nat → Option (Ty × Nat)) (ef : Ty → Nat → Option (ByteArray × Nat)) (s : ByteArray) (m a : Nat) : pFlds (pField pt ef s) s m a [] = fin s (pFldsN (pField pt ef s) s m a []) :=
  pFlds_fin (fun a f k h => pField_256 h) (fun f hf => by simp at hf) (by rintro ⟨i, j, h1, h2, h3⟩; simp at h2)
end Go.Proofs.YtkkekopomiehlaaDoor
