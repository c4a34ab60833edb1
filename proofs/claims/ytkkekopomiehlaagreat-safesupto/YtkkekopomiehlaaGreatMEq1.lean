import Derived.Test.YtkkekopomiehlaaGreatRef5
import Derived.Test.YtkkekopomiehlaaGreatEq2
import Derived.Test.YtkkekopomiehlaaGreatV1
import Derived.Test.YtkkekopomiehlaaGreatRep
import Derived.Test.YtkkekopomiehlaaGreatMRef1
import Derived.Test.YtkkekopomiehlaaGreatParse4
set_option linter.unusedVariables false
set_option linter.unusedSimpArgs false
namespace Go.Proofs.YtkkekopomiehlaaGreat
section
theorem tw_iff (l : ByteArray) : tw l = true ↔ ∃ i j, j < i ∧ i < l.size ∧ bAt l i = bAt l j := by
  constructor
  · intro h
    rcases Classical.em (∃ i j, j < i ∧ i < l.size ∧ bAt l i = bAt l j) with h1 | h1
    · exact h1
    · rw [tw_false (fun i j hj hi e => h1 ⟨i, j, hj, hi, e⟩)] at h; cases h
  · rintro ⟨i, j, h1, h2, h3⟩; exact tw_true h1 h2 h3
theorem bAt_names (fs : List (Nat × Ty × ByteArray)) (h : ∀ f ∈ fs, f.1 < 256) (i : Nat) (hi : i < fs.length) : bAt (namesOf fs) i = fs[i].1 := by
  have hs := namesOf_size fs
  rw [bAt_in _ _ (by omega)]
  have h1 := h fs[i] (List.getElem_mem hi)
  have e : (namesOf fs)[i]'(by omega) = fs[i].1.toUInt8 := by
    show (namesOf fs).data[i]'_ = _
    simp [namesOf]
  rw [e]
  simp [Nat.toUInt8, UInt8.toNat_ofNat']
  omega
/-- Two of the fields have one letter. -/
def Dup (fs : List (Nat × Ty × ByteArray)) : Prop := ∃ i j, ∃ (h1 : j < i) (h2 : i < fs.length), (fs[i]).1 = (fs[j]'(by omega)).1
theorem tw_names (fs : List (Nat × Ty × ByteArray)) (h : ∀ f ∈ fs, f.1 < 256) : tw (namesOf fs) = true ↔ Dup fs := by
  rw [tw_iff, namesOf_size]
  constructor
  · rintro ⟨i, j, h1, h2, h3⟩
    rw [bAt_names fs h i h2, bAt_names fs h j (by omega)] at h3
    exact ⟨i, j, h1, h2, by omega⟩
  · rintro ⟨i, j, h1, h2, h3⟩
    refine ⟨i, j, h1, h2, ?_⟩
    rw [bAt_names fs h i h2, bAt_names fs h j (by omega), h3]
theorem Dup.more {fs gs : List (Nat × Ty × ByteArray)} (h : Dup fs) : Dup (fs ++ gs) := by
  obtain ⟨i, j, h1, h2, h3⟩ := h
  refine ⟨i, j, h1, by simp; omega, ?_⟩
  rw [List.getElem_append_left h2, List.getElem_append_left (by omega)]; exact h3
theorem Dup.has {acc : List (Nat × Ty × ByteArray)} {f : Nat × Ty × ByteArray} (h : hasL acc f.1 = true) : Dup (acc ++ [f]) := by
  unfold hasL at h
  rw [List.any_eq_true] at h
  obtain ⟨g, hg, he⟩ := h
  obtain ⟨j, hj, rfl⟩ := List.getElem_of_mem hg
  refine ⟨acc.length, j, hj, by simp, ?_⟩
  rw [List.getElem_append_left hj]
  simp at he ⊢
  exact he.symm
theorem Dup.not {acc : List (Nat × Ty × ByteArray)} {f : Nat × Ty × ByteArray} (h : ¬ Dup acc) (hh : hasL acc f.1 = false) : ¬ Dup (acc ++ [f]) := by
  rintro ⟨i, j, h1, h2, h3⟩
  simp at h2
  by_cases hi : i < acc.length
  · rw [List.getElem_append_left hi, List.getElem_append_left (by omega)] at h3
    exact h ⟨i, j, h1, hi, h3⟩
  · obtain rfl : i = acc.length := by omega
    rw [List.getElem_append_left h1] at h3
    simp at h3
    have := hasL_some acc f.1 j acc[j] (List.getElem?_eq_getElem h1) h3.symm
    rw [this] at hh; cases hh
theorem pFldsN_pre {pf : Nat → Option ((Nat × Ty × ByteArray) × Nat)} {s : ByteArray} (hp : ∀ a f k, pf a = some (f, k) → f.1 < 256) : ∀ {m a k : Nat} {acc fs : List (Nat × Ty × ByteArray)}, (∀ f ∈ acc, f.1 < 256) → pFldsN pf s m a acc = some (fs, k) → (∃ gs, fs = acc ++ gs) ∧ ∀ f ∈ fs, f.1 < 256
  | 0, a, k, acc, fs, _, h => by simp [pFldsN] at h
  | m + 1, a, k, acc, fs, ha, h => by
    rw [pFldsN] at h
    split at h
    · cases h
    · rename_i f k' hx
      have h256 := hp _ _ _ hx
      have ha' : ∀ g ∈ acc ++ [f], g.1 < 256 := fun g hg => by
        simp at hg; rcases hg with hg | rfl
        · exact ha g hg
        · exact h256
      split at h
      · obtain ⟨⟨gs, rfl⟩, h2⟩ := pFldsN_pre hp ha' h
        exact ⟨⟨f :: gs, by simp⟩, h2⟩
      · simp only [Option.some.injEq, Prod.mk.injEq] at h
        obtain ⟨rfl, rfl⟩ := h
        exact ⟨⟨[f], rfl⟩, ha'⟩
theorem fin_dup {s : ByteArray} {fs : List (Nat × Ty × ByteArray)} {k : Nat} (h : ∀ f ∈ fs, f.1 < 256) (hd : Dup fs) : fin s (some (fs, k)) = none := by
  show (if _ then _ else _) = _
  rw [if_pos (.inl ((tw_names fs h).mpr hd))]
theorem pFlds_fin {pf : Nat → Option ((Nat × Ty × ByteArray) × Nat)} {s : ByteArray} (hp : ∀ a f k, pf a = some (f, k) → f.1 < 256) : ∀ {m a : Nat} {acc : List (Nat × Ty × ByteArray)}, (∀ f ∈ acc, f.1 < 256) → ¬ Dup acc → pFlds pf s m a acc = fin s (pFldsN pf s m a acc)
  | 0, a, acc, _, _ => rfl
  | m + 1, a, acc, ha, hnd => by
    rw [pFlds, pFldsN]
    rcases hx : pf a with _ | ⟨f, k⟩
    · rfl
    · have h256 := hp _ _ _ hx
      have ha' : ∀ g ∈ acc ++ [f], g.1 < 256 := fun g hg => by
        simp at hg; rcases hg with hg | rfl
        · exact ha g hg
        · exact h256
      simp only
      cases hh : hasL acc f.1 with
      | true =>
        rw [if_pos (show (acc.any fun g => g.1 == f.1) = true from hh)]
        have hd := Dup.has hh
        split
        · rcases hy : pFldsN pf s m (k + 1) (acc ++ [f]) with _ | ⟨fs, k'⟩
          · rfl
          · obtain ⟨⟨gs, rfl⟩, h2⟩ := pFldsN_pre hp ha' hy
            exact (fin_dup h2 hd.more).symm
        · exact (fin_dup ha' hd).symm
      | false =>
        rw [if_neg (by rw [show (acc.any fun g => g.1 == f.1) = false from hh]; simp)]
        have hd := Dup.not hnd hh
        by_cases h5 : bAt s k = 125
        · rw [if_pos h5, if_neg (by omega)]
          show _ = (if _ then _ else _)
          rw [if_neg]
          rintro (h | h)
          · exact hd ((tw_names _ ha').mp h)
          · exact h h5
        · rw [if_neg h5]
          by_cases h4 : bAt s k = 44
          · rw [if_pos h4, if_pos h4]
            exact pFlds_fin hp ha' hd
          · rw [if_neg h4, if_neg h4]
            show _ = (if _ then _ else _)
            rw [if_pos (.inr h5)]
theorem pField_256 {pt : Nat → Option (Ty × Nat)} {ef : Ty → Nat → Option (ByteArray × Nat)} {s : ByteArray} {i k : Nat} {f : Nat × Ty × ByteArray} (h : pField pt ef s i = some (f, k)) : f.1 < 256 := by
  unfold pField at h
  have := bAt_hi s i
  split at h
  · split at h
    · cases h
    · split at h
      · split at h
        · cases h
        · simp only [Option.some.injEq, Prod.mk.injEq] at h
          rw [← h.1]; show (bAt s i).toNat < 256; omega
      · simp only [Option.some.injEq, Prod.mk.injEq] at h
        rw [← h.1]; show (bAt s i).toNat < 256; omega
  · cases h
theorem fields_eq (pt : Nat → Option (Ty × Nat)) (ef : Ty → Nat → Option (ByteArray × Nat)) (s : ByteArray) (m a : Nat) : pFlds (pField pt ef s) s m a [] = fin s (pFldsN (pField pt ef s) s m a []) :=
  pFlds_fin (fun a f k h => pField_256 h) (fun f hf => by simp at hf) (by rintro ⟨i, j, h1, h2, h3⟩; simp at h2)
end
section
theorem pFrom_neg (l : ByteArray) (c : Int) : ∀ m k, (∀ i, k ≤ i → i < k + m → bAt l i ≠ c) → pFrom l c m k = -1
  | 0, k, _ => rfl
  | m + 1, k, h => by rw [pFrom, if_neg (h k (by omega) (by omega))]; exact pFrom_neg l c m (k + 1) (fun i h1 h2 => h i (by omega) (by omega))
theorem pFrom_pos (l : ByteArray) (c : Int) : ∀ m k i, k ≤ i → i < k + m → bAt l i = c → 0 ≤ pFrom l c m k
  | 0, k, i, h1, h2, _ => by omega
  | m + 1, k, i, h1, h2, h3 => by
    rw [pFrom]; split
    · omega
    · rename_i h
      by_cases e : i = k
      · subst e; exact absurd h3 h
      · exact pFrom_pos l c m (k + 1) i (by omega) (by omega) h3
theorem pOf_no (s : ByteArray) (a e : Nat) (h1 : a ≤ e) (h2 : e ≤ s.size) (c : Int) (h : ∀ i, a ≤ i → i < e → bAt s i ≠ c) : pOf (s.extract a e) c < 0 := by
  have hs := size_extract s a e h1 h2
  unfold pOf
  rw [pFrom_neg _ _ _ _ (fun i _ hi => by rw [bAt_ext s a e i (by omega) h2]; exact h _ (by omega) (by omega))]
  omega
theorem pOf_yes (s : ByteArray) (a e i : Nat) (h2 : e ≤ s.size) (c : Int) (h3 : a ≤ i) (h4 : i < e) (h : bAt s i = c) : 0 ≤ pOf (s.extract a e) c := by
  have hs := size_extract s a e (by omega) h2
  exact pFrom_pos _ _ _ _ (i - a) (by omega) (by omega) (by rw [bAt_ext s a e (i - a) (by omega) h2, show a + (i - a) = i by omega]; exact h)
/-- What 'lEnd' tells. -/
theorem lEnd_spec (s : ByteArray) (a : Nat) : ∀ (m e : Nat), a ≤ e → e + m ≤ s.size → (∀ i, a ≤ i → i < e → isL (bAt s i) = true) → (∀ i j, a ≤ j → j < i → i < e → bAt s i ≠ bAt s j) →
    (∀ i, a ≤ i → i < lEnd s a m e → isL (bAt s i) = true) ∧ (∀ i j, a ≤ j → j < i → i < lEnd s a m e → bAt s i ≠ bAt s j) ∧ (lEnd s a m e = e + m ∨ isL (bAt s (lEnd s a m e)) = false ∨ ∃ j, a ≤ j ∧ j < lEnd s a m e ∧ bAt s (lEnd s a m e) = bAt s j)
  | 0, e, h1, h2, h3, h4 => ⟨h3, h4, .inl rfl⟩
  | m + 1, e, h1, h2, h3, h4 => by
    rw [lEnd]
    by_cases h : isL (bAt s e) = true ∧ pOf (s.extract a e) (bAt s e) < 0
    · rw [if_pos h]
      have ih := lEnd_spec s a m (e + 1) (by omega) (by omega) (fun i i1 i2 => by
        by_cases x : i = e
        · subst x; exact h.1
        · exact h3 i i1 (by omega)) (fun i j j1 j2 i2 => by
        by_cases x : i = e
        · subst x; intro hh
          have := pOf_yes s a i j (by omega) (bAt s i) j1 j2 hh.symm
          omega
        · exact h4 i j j1 j2 (by omega))
      refine ⟨ih.1, ih.2.1, ?_⟩
      rcases ih.2.2 with h5 | h5
      · left; omega
      · exact .inr h5
    · rw [if_neg h]
      refine ⟨h3, h4, .inr ?_⟩
      cases hl : isL (bAt s e) with
      | false => exact .inl rfl
      | true =>
        right
        rcases Classical.em (∃ j, a ≤ j ∧ j < e ∧ bAt s e = bAt s j) with h5 | h5
        · exact h5
        · exfalso; apply h
          exact ⟨hl, pOf_no s a e h1 (by omega) _ (fun i i1 i2 hh => h5 ⟨i, i1, i2, hh.symm⟩)⟩
/-- The reference's way to a choice. -/
def rChoice (s : ByteArray) (a : Nat) : Option (Ty × Nat) :=
  let E := runEnd isL s (s.size - a) a
  if E - a < 1 ∨ 8 < E - a ∨ tw (s.extract a E) = true then none
  else if bAt s E = 43 then (if bAt s (E + 1) = 62 then some (⟨60, s.extract a E, true, [], []⟩, E + 2) else none)
  else if bAt s E = 62 then some (⟨60, s.extract a E, false, [], []⟩, E + 1) else none
theorem isL_bd {b : Int} (h : isL b = true) : 97 ≤ b ∧ b ≤ 122 := by simpa [isL] using h
theorem pChoice_eq (s : ByteArray) (a : Nat) (ha : a ≤ s.size) : pChoice s a = rChoice s a := by
  unfold pChoice rChoice
  simp only
  obtain ⟨E, hE⟩ : ∃ E, E = runEnd isL s (s.size - a) a := ⟨_, rfl⟩
  obtain ⟨X, hX⟩ : ∃ X, X = lEnd s a (s.size - a) a := ⟨_, rfl⟩
  have hsp := lEnd_spec s a (s.size - a) a (Nat.le_refl _) (by omega) (fun i h1 h2 => by omega) (fun i j h1 h2 h3 => by omega)
  have hXl := lEnd_le s a (s.size - a) a
  have hEl := run_le isL s (s.size - a) a
  rw [← hX] at hsp hXl ⊢
  rw [← hE] at hEl ⊢
  have hall : ∀ i, a ≤ i → i < E → isL (bAt s i) = true := fun i h1 h2 => run_all isL s (s.size - a) a i h1 (by rw [← hE]; exact h2)
  have hnot : isL (bAt s E) = false := by rw [hE]; exact run_not isL s rfl _ _ (by omega)
  obtain ⟨s1, s2, s3⟩ := hsp
  have hXE : X ≤ E := by
    rcases Nat.lt_or_ge E X with h | h
    · rw [s1 E (by omega) h] at hnot; cases hnot
    · exact h
  have hsz := size_extract s a E (by omega) (by omega)
  by_cases hlt : X < E
  · have hlet := isL_bd (hall X (by omega) hlt)
    have htw : tw (s.extract a E) = true := by
      rcases s3 with h | h | ⟨j, j1, j2, j3⟩
      · omega
      · rw [hall X (by omega) hlt] at h; cases h
      · refine tw_true (i := X - a) (j := j - a) (by omega) (by omega) ?_
        rw [bAt_ext s a E (X - a) (by omega) (by omega), bAt_ext s a E (j - a) (by omega) (by omega), show a + (X - a) = X by omega, show a + (j - a) = j by omega]
        exact j3
    rw [if_pos (show E - a < 1 ∨ 8 < E - a ∨ tw (s.extract a E) = true from .inr (.inr htw))]
    split
    · rfl
    · rw [if_neg (by omega), if_neg (by omega)]
  · obtain rfl : X = E := by omega
    have htw : tw (s.extract a X) = false := tw_false (fun i j h1 h2 h3 => by
      rw [bAt_ext s a X i (by omega) (by omega), bAt_ext s a X j (by omega) (by omega)] at h3
      exact s2 (a + i) (a + j) (by omega) (by omega) (by omega) h3)
    simp only [htw, Bool.false_eq_true, or_false]

theorem pType_maybe {st : Bool} {s : ByteArray} {n i k : Nat} {t : Ty} (h : pType st s n i = some (t, k)) : (t.kind = 63 ↔ bAt s i = 63) := by
  cases n with
  | zero => simp [pType] at h
  | succ n =>
    rw [pType] at h
    have two : ∀ {c : Nat}, some (plainTy c, i + 1) = some (t, k) → t.kind = c := fun h => by
      simp only [Option.some.injEq, Prod.mk.injEq] at h; rw [← h.1]; rfl
    split at h
    · have := two h; omega
    · split at h
      · have := two h; omega
      · split at h
        · have := two h; omega
        · split at h
          · unfold pChoice at h
            simp only at h
            split at h
            · cases h
            · split at h
              · split at h
                · simp only [Option.some.injEq, Prod.mk.injEq] at h; rw [← h.1]; simp; omega
                · cases h
              · split at h
                · simp only [Option.some.injEq, Prod.mk.injEq] at h; rw [← h.1]; simp; omega
                · cases h
          · split at h
            · unfold pList at h
              split at h
              · cases h
              · split at h
                · simp only [Option.some.injEq, Prod.mk.injEq] at h; rw [← h.1]; simp; omega
                · cases h
            · split at h
              · unfold pMaybe at h
                split at h
                · cases h
                · split at h
                  · cases h
                  · simp only [Option.some.injEq, Prod.mk.injEq] at h; rw [← h.1]; simp; omega
              · split at h
                · unfold pRec at h
                  split at h
                  · cases h
                  · simp only [Option.some.injEq, Prod.mk.injEq] at h; rw [← h.1]; simp; omega
                · cases h
end
section
open Go.RowKit

abbrev Fld := Nat × Ty × ByteArray
def leafT (v : Val) : ByteArray := if v.tag = 0 then decI v.n else if v.tag = 1 then quo ++ v.s ++ quo else ByteArray.empty
/-- The values of the one kind are such of the other, as they are. -/
def sameK (a b : Nat) : Bool := (a == 105 && (b == 105 || b == 108)) || ((a == 108 || a == 115) && b == a)
def rdItems (f : Val → Option ByteArray) : List Val → Nat → ByteArray → Option ByteArray
  | [], _, t => some (t ++ ⟨#[93]⟩)
  | v :: vs, k, t =>
    match f v with
    | none => none
    | some x => rdItems f vs (k + 1) ((if 0 < k then t ++ ⟨#[44]⟩ else t) ++ x)
def rdFld (f : Ty → Ty → Val → Option ByteArray) (ps : List (Fld × Val)) (g : Fld) : Option ByteArray :=
  match ps.find? (fun p => p.1.1 == g.1) with
  | none => if g.2.2.size = 0 then none else some g.2.2
  | some p => f p.1.2.1 g.2.1 p.2
def rdFlds (f : Fld → Option ByteArray) : List Fld → ByteArray → ByteArray → Option ByteArray
  | [], _, t => some (t ++ ⟨#[125]⟩)
  | g :: gs, mk, t =>
    match f g with
    | none => none
    | some x => rdFlds f gs ⟨#[44]⟩ (t ++ (((mk ++ oneB g.1) ++ ⟨#[58]⟩) ++ x))
def rdCho (wl rl : ByteArray) (op : Bool) (i : Nat) : Option ByteArray :=
  if pOf rl (bAt wl i) < 0 then (if op = true then some (rl.extract 0 1) else none) else some (oneB (bAt wl i).toNat)
/-- One step of reading: 'f' reads what is within. -/
def rdStep (f : Ty → Ty → Val → Option ByteArray) (w r : Ty) (v : Val) : Option ByteArray :=
  if w.kind = 63 then (if v.tag = 4 then (if r.kind = 63 then some ⟨#[95]⟩ else none) else if v.tag = 5 then f w.in r v.hd else none)
  else if r.kind = 63 then f w r.in v
  else if sameK w.kind r.kind = true then some (leafT v)
  else if w.kind ≠ r.kind then none
  else if v.tag = 2 then rdCho w.letters r.letters r.op v.n.toNat
  else if v.tag = 3 then rdItems (f w.in r.in) v.vs 0 ⟨#[91]⟩
  else if v.tag = 6 then rdFlds (rdFld f (w.fields.zip v.vs)) r.fields ⟨#[123]⟩ ByteArray.empty
  else none
/-- The text of what a value is read as; none: it can't be read. -/
def rdT : Nat → Ty → Ty → Val → Option ByteArray
  | 0, _, _, _ => none
  | m + 1, w, r, v => rdStep (rdT m) w r v

/-- What a type's schema weighs: bounds the texts of what is read as it. -/
def wt : Nat → Ty → Nat
  | 0, _ => 0
  | n + 1, ty => 70 + (ty.inner.map (wt n)).sum + (ty.fields.map fun f => wt n f.2.1 + f.2.2.size + 4).sum
theorem sum_le {α : Type} (f g : α → Nat) : ∀ (l : List α), (∀ x ∈ l, f x ≤ g x) → (l.map f).sum ≤ (l.map g).sum
  | [], _ => by simp
  | x :: l, h => by
    have h1 := h x (by simp)
    have h2 := sum_le f g l (fun y hy => h y (by simp [hy]))
    simp; omega
theorem wt_mono : ∀ (n : Nat) (ty : Ty), wt n ty ≤ wt (n + 1) ty
  | 0, ty => by simp [wt]
  | n + 1, ty => by
    rw [wt, wt]
    have h1 := sum_le (wt n) (wt (n + 1)) ty.inner (fun t _ => wt_mono n t)
    have h2 := sum_le (fun f : Nat × Ty × ByteArray => wt n f.2.1 + f.2.2.size + 4) (fun f => wt (n + 1) f.2.1 + f.2.2.size + 4) ty.fields (fun f _ => by have := wt_mono n f.2.1; omega)
    omega
theorem wt_pos (n : Nat) (ty : Ty) : 70 ≤ wt (n + 1) ty := by rw [wt]; omega
theorem codU_pos (m : Nat) (u : Nat) : 1 ≤ (codU m ByteArray.empty u).size := by
  cases m with
  | zero => simp [codU, oneB_size]
  | succ m =>
    by_cases h : 128 ≤ u
    · rw [codU_big h, ByteArray.size_append, oneB_size]; omega
    · rw [codU_small (by omega), oneB_size]; omega
theorem datV_pos : ∀ (n : Nat) (ty : Ty) (v : Val), okV n ty v → 1 ≤ (datV n v).size
  | 0, ty, v, h => h.elim
  | n + 1, ty, v, h => by
    rcases h with ⟨x, rfl, h⟩ | ⟨s, rfl, h⟩ | ⟨i, rfl, h⟩ | ⟨vs, rfl, h⟩ | ⟨rfl, h⟩ | ⟨v, rfl, h⟩ | ⟨vs, rfl, h⟩
    · rw [datV_num]; exact codU_pos _ _
    · rw [datV_str, ByteArray.size_append, oneB_size]; omega
    · rw [datV_cho, oneB_size]; omega
    · rw [datV_lst, ByteArray.size_append, oneB_size]; omega
    · rw [datV_non, oneB_size]; omega
    · rw [datV_som, ByteArray.size_append, oneB_size]; omega
    · obtain ⟨_, h1, h2, h3⟩ := h
      rw [datV_rcd]
      rcases hf : ty.fields with _ | ⟨g, fs⟩
      · exact absurd hf h1
      · rcases vs with _ | ⟨v, vs⟩
        · rw [hf] at h2; simp at h2
        · rw [hf] at h3
          have := datV_pos n g.2.1 v (h3 (g, v) (by simp))
          simp only [List.map_cons, catB, ByteArray.size_append]; omega
theorem rdItems_size {f : Val → Option ByteArray} {dv : Val → ByteArray} {W : Nat} : ∀ (vs : List Val) (k : Nat) (t x : ByteArray), (∀ v ∈ vs, 1 ≤ (dv v).size ∧ ∀ y, f v = some y → y.size ≤ W * (dv v).size) → rdItems f vs k t = some x →
    x.size ≤ t.size + 1 + (W + 1) * (catB (vs.map dv)).size
  | [], k, t, x, hf, h => by
    simp only [rdItems, Option.some.injEq] at h
    rw [← h, ByteArray.size_append, one_size]; omega
  | v :: vs, k, t, x, hf, h => by
    rw [rdItems] at h
    split at h
    · cases h
    · rename_i y hy
      have h1 := rdItems_size vs (k + 1) _ x (fun v hv => hf v (by simp [hv])) h
      have h2 := hf v (by simp)
      have h3 := h2.2 y hy
      have hs : ((if 0 < k then t ++ ⟨#[44]⟩ else t) ++ y).size ≤ t.size + 1 + y.size := by
        rw [ByteArray.size_append]; split
        · rw [ByteArray.size_append, one_size]; omega
        · omega
      simp only [List.map_cons, catB, ByteArray.size_append]
      rw [Nat.mul_add, Nat.add_mul W 1 (dv v).size]
      omega
theorem rdFlds_size {f : Fld → Option ByteArray} {c : Fld → Nat} : ∀ (gs : List Fld) (mk t x : ByteArray), mk.size = 1 → (∀ g ∈ gs, ∀ y, f g = some y → y.size + 3 ≤ c g) → rdFlds f gs mk t = some x →
    x.size ≤ t.size + 1 + (gs.map c).sum
  | [], mk, t, x, hm, hf, h => by
    simp only [rdFlds, Option.some.injEq] at h
    rw [← h, ByteArray.size_append, one_size]; simp
  | g :: gs, mk, t, x, hm, hf, h => by
    rw [rdFlds] at h
    split at h
    · cases h
    · rename_i y hy
      have h1 := rdFlds_size gs _ _ x (one_size 44) (fun g hg => hf g (by simp [hg])) h
      have h2 := hf g (by simp) y hy
      simp only [ByteArray.size_append, one_size, oneB_size, hm] at h1
      simp; omega
theorem mul_sum {α : Type} (f : α → Nat) (c : Nat) : ∀ (l : List α), (l.map fun x => f x * c).sum = (l.map f).sum * c
  | [] => by simp
  | x :: l => by simp [mul_sum f c l, Nat.add_mul]
theorem cat_mem {x : ByteArray} : ∀ {l : List ByteArray}, x ∈ l → x.size ≤ (catB l).size
  | y :: l, h => by
    rw [catB, ByteArray.size_append]
    rcases List.mem_cons.1 h with rfl | h
    · omega
    · have := cat_mem h; omega
theorem find_mem {l : List (Fld × Val)} {q : Fld × Val → Bool} {p : Fld × Val} (h : l.find? q = some p) : p ∈ l := List.mem_of_find?_eq_some h
theorem okV_kind {n : Nat} {ty : Ty} {v : Val} (h : okV n ty v) : ty.kind ≠ 0 := by
  cases n with
  | zero => exact h.elim
  | succ n =>
    rcases h with ⟨x, rfl, h⟩ | ⟨s, rfl, h⟩ | ⟨i, rfl, h⟩ | ⟨vs, rfl, h⟩ | ⟨rfl, h⟩ | ⟨v, rfl, h⟩ | ⟨vs, rfl, h⟩ <;> omega
theorem rdT_zero : ∀ (m n : Nat) (w : Ty) (v : Val), okV n w v → rdT m w (plainTy 0) v = none
  | 0, n, w, v, h => rfl
  | m + 1, 0, w, v, h => h.elim
  | m + 1, n + 1, w, v, h => by
    have hk := okV_kind h
    have h0 : (plainTy 0).kind = 0 := rfl
    show rdStep _ _ _ _ = _
    unfold rdStep
    split
    · rename_i h63
      rcases h with ⟨x, rfl, h⟩ | ⟨s, rfl, h⟩ | ⟨i, rfl, h⟩ | ⟨vs, rfl, h⟩ | ⟨rfl, h⟩ | ⟨v, rfl, h⟩ | ⟨vs, rfl, h⟩
      · rfl
      · rfl
      · rfl
      · rfl
      · rfl
      · exact rdT_zero m n _ _ h.2
      · rfl
    · rw [if_neg (by rw [h0]; omega), if_neg, if_pos (by rw [h0]; exact hk)]
      simp [sameK, h0]; omega
theorem in_some {m n : Nat} {w r : Ty} {v : Val} {x : ByteArray} (hv : okV n w v) (h : rdT m w r.in v = some x) : wt m r.in + 70 ≤ wt (m + 1) r := by
  unfold Ty.in at h ⊢
  rcases hi : r.inner with _ | ⟨t, ts⟩
  · rw [hi] at h; simp only [List.headD_nil] at h; rw [rdT_zero _ _ _ _ hv] at h; cases h
  · rw [wt, hi]; simp; omega
/-- How long a text is that comes out. -/
theorem rdT_size : ∀ (m n : Nat) (w r : Ty) (v : Val) (x : ByteArray), okV n w v → rdT m w r v = some x → x.size ≤ wt m r * (datV n v).size
  | 0, n, w, r, v, x, hv, h => by simp [rdT] at h
  | m + 1, 0, w, r, v, x, hv, h => hv.elim
  | m + 1, n + 1, w, r, v, x, hv, h => by
    have hp := datV_pos _ _ _ hv
    have h70 : 70 * (datV (n + 1) v).size ≤ wt (m + 1) r * (datV (n + 1) v).size := Nat.mul_le_mul_right _ (wt_pos m r)
    change rdStep (rdT m) w r v = some x at h
    unfold rdStep at h
    split at h
    · rename_i hk
      split at h
      · split at h
        · cases h; rw [one_size]; omega
        · cases h
      · split at h
        · rename_i h4 h5
          rcases hv with ⟨x, rfl, hv⟩ | ⟨s, rfl, hv⟩ | ⟨i, rfl, hv⟩ | ⟨vs, rfl, hv⟩ | ⟨rfl, hv⟩ | ⟨v, rfl, hv⟩ | ⟨vs, rfl, hv⟩
          · cases h5
          · cases h5
          · cases h5
          · cases h5
          · cases h5
          · have := rdT_size m n w.in r v x hv.2 h
            rw [datV_som, ByteArray.size_append, oneB_size]
            have e1 := Nat.mul_le_mul_right (datV n v).size (wt_mono m r)
            have e2 := Nat.mul_le_mul_left (wt (m + 1) r) (show (datV n v).size ≤ 1 + (datV n v).size by omega)
            omega
          · cases h5
        · cases h
    · split at h
      · rename_i hk
        have h1 := rdT_size m (n + 1) w r.in v x hv h
        have h2 := in_some hv h
        have := Nat.mul_le_mul_right (datV (n + 1) v).size (show wt m r.in ≤ wt (m + 1) r by omega)
        omega
      · split at h
        · rename_i h63 hs
          cases h
          have e0 : ByteArray.empty.size = 0 := rfl
          unfold leafT
          split
          · have := decI_size v.n; omega
          · split
            · rename_i h1
              rcases hv with ⟨x, rfl, hv⟩ | ⟨s, rfl, hv⟩ | ⟨i, rfl, hv⟩ | ⟨vs, rfl, hv⟩ | ⟨rfl, hv⟩ | ⟨v, rfl, hv⟩ | ⟨vs, rfl, hv⟩
              · cases h1
              · rw [ByteArray.size_append, ByteArray.size_append, quo_size, show (Val.str s).s = s from rfl]; omega
              · cases h1
              · cases h1
              · cases h1
              · cases h1
              · cases h1
            · omega
        · split at h
          · cases h
          · split at h
            · unfold rdCho at h
              split at h
              · split at h
                · cases h
                  have : (r.letters.extract 0 1).size ≤ 1 := by rw [ByteArray.size_extract]; omega
                  omega
                · cases h
              · cases h; rw [oneB_size]; omega
            · split at h
              · rename_i h3
                rcases hv with ⟨x, rfl, hv⟩ | ⟨s, rfl, hv⟩ | ⟨i, rfl, hv⟩ | ⟨vs, rfl, hv⟩ | ⟨rfl, hv⟩ | ⟨v, rfl, hv⟩ | ⟨vs, rfl, hv⟩
                · cases h3
                · cases h3
                · cases h3
                · rw [show (Val.lst vs).vs = vs from rfl] at h
                  rw [datV_lst] at h70 hp ⊢
                  rw [ByteArray.size_append, oneB_size] at h70 hp ⊢
                  rcases hvs : vs with _ | ⟨u, us⟩
                  · rw [hvs] at h; simp only [rdItems, Option.some.injEq] at h; rw [← h, ByteArray.size_append, one_size, one_size]; rw [hvs] at h70 hp; omega
                  · have hW : ∀ v ∈ vs, 1 ≤ (datV n v).size ∧ ∀ y, rdT m w.in r.in v = some y → y.size ≤ (wt (m + 1) r - 70) * (datV n v).size := fun v hv' => by
                      refine ⟨datV_pos _ _ _ (hv.2.2 v hv'), fun y hy => ?_⟩
                      have h1 := rdT_size m n _ _ _ _ (hv.2.2 v hv') hy
                      have h2 := in_some (hv.2.2 v hv') hy
                      have := Nat.mul_le_mul_right (datV n v).size (show wt m r.in ≤ wt (m + 1) r - 70 by omega)
                      omega
                    have := rdItems_size (dv := datV n) vs 0 _ x hW h
                    rw [one_size] at this
                    rw [← hvs]
                    have hw := wt_pos m r
                    have e1 := Nat.mul_le_mul_right (catB (vs.map (datV n))).size (show wt (m + 1) r - 70 + 1 ≤ wt (m + 1) r by omega)
                    rw [Nat.mul_add]
                    omega
                · cases h3
                · cases h3
                · cases h3
              · split at h
                · rename_i h6
                  rcases hv with ⟨x, rfl, hv⟩ | ⟨s, rfl, hv⟩ | ⟨i, rfl, hv⟩ | ⟨vs, rfl, hv⟩ | ⟨rfl, hv⟩ | ⟨v, rfl, hv⟩ | ⟨vs, rfl, hv⟩
                  · cases h6
                  · cases h6
                  · cases h6
                  · cases h6
                  · cases h6
                  · cases h6
                  · rw [show (Val.rcd vs).vs = vs from rfl] at h
                    rw [datV_rcd] at h70 hp ⊢
                    have := rdFlds_size (c := fun g => (wt m g.2.1 + g.2.2.size + 4) * (catB (vs.map (datV n))).size) r.fields _ _ x (one_size 123) (fun g hg y hy => by
                      have e3 : 4 ≤ 4 * (catB (vs.map (datV n))).size := by omega
                      rw [Nat.add_mul, Nat.add_mul]
                      unfold rdFld at hy
                      split at hy
                      · split at hy
                        · cases hy
                        · cases hy
                          have := Nat.le_mul_of_pos_right g.2.2.size hp
                          omega
                      · rename_i p hp'
                        have hm := find_mem hp'
                        have h1 := rdT_size m n _ _ _ _ (hv.2.2.2 p hm) hy
                        have h2 := cat_mem (l := vs.map (datV n)) (x := datV n p.2) (List.mem_map.2 ⟨p.2, (List.of_mem_zip (a := p.1) (b := p.2) hm).2, rfl⟩)
                        have h3 := Nat.mul_le_mul_left (wt m g.2.1) h2
                        omega) h
                    have e0 : ByteArray.empty.size = 0 := rfl
                    rw [mul_sum (fun g : Nat × Ty × ByteArray => wt m g.2.1 + g.2.2.size + 4), e0] at this
                    have e1 : wt (m + 1) r * (catB (vs.map (datV n))).size = (70 + (r.inner.map (wt m)).sum) * (catB (vs.map (datV n))).size + (r.fields.map fun f => wt m f.2.1 + f.2.2.size + 4).sum * (catB (vs.map (datV n))).size := by rw [wt, Nat.add_mul]
                    rw [e1, Nat.add_mul]
                    omega
                · cases h
end
section
set_option maxRecDepth 4000
open Go.RowKit

theorem beqK (b k : Nat) : ((b : Int) == (k : Int)) = (b == k) := by
  by_cases h : b = k
  · subst h; simp
  · rw [show (b == k) = false by simpa using h]; simp; omega
set_option maxHeartbeats 1000000 in
theorem sameValue_any (a b : Nat) (w : World) :
    Calls Tryz.prog 85 #[.int .i64 a, .int .i64 b] w fun e w' => e = .returned (.bool (sameK a b)) ∧ w = w' := by
  by_cases h1 : a = 105
  · subst h1
    by_cases h2 : b = 105
    · subst h2
      go_enter Tryz.func85, Tryz.ntmps85
      go_wp2_with fail
      go_ret
      exact ⟨rfl, rfl⟩
    · have h2' : ((b : Int) == 105) = false := by simp; omega
      have hr : Hid (sameK 105 b = ((b : Int) == 108)) := by
        show _ = _; rw [show ((b : Int) == 108) = (b == 108) from beqK b 108]; simp [sameK, h2]
      clear h2
      go_enter Tryz.func85, Tryz.ntmps85
      go_wp2_with fail
      go_ret
      exact ⟨ret_bool (by rw [hr.out]), rfl⟩
  · have h1' : ((a : Int) == 105) = false := by simp; omega
    by_cases h2 : a = 108
    · subst h2
      have hr : Hid (sameK 108 b = ((b : Int) == 108)) := by
        show _ = _; rw [show ((b : Int) == 108) = (b == 108) from beqK b 108]; simp [sameK]
      go_enter Tryz.func85, Tryz.ntmps85
      go_wp2_with fail
      go_ret
      exact ⟨ret_bool (by rw [hr.out]), rfl⟩
    · have h2' : ((a : Int) == 108) = false := by simp; omega
      by_cases h3 : a = 115
      · subst h3
        have hr : Hid (sameK 115 b = ((b : Int) == 115)) := by
          show _ = _; rw [show ((b : Int) == 115) = (b == 115) from beqK b 115]; simp [sameK]
        go_enter Tryz.func85, Tryz.ntmps85
        go_wp2_with fail
        go_ret
        exact ⟨ret_bool (by rw [hr.out]), rfl⟩
      · have h3' : ((a : Int) == 115) = false := by simp; omega
        have hr : Hid (sameK a b = false) := by show _ = _; simp [sameK, h1, h2, h3]
        clear h1 h2 h3
        go_enter Tryz.func85, Tryz.ntmps85
        go_wp2_with fail
        go_ret
        exact ⟨ret_bool (by rw [hr.out]), rfl⟩

/-- A type as a value of the program's. -/
abbrev tyV (ty : Ty) (ai : Option Addr) (li ci : Nat) (af : Option Addr) (lf cf : Nat) : Value := .agg #[.int .i64 ty.kind, .string ty.letters, .bool ty.op, .slice ai li ci, .slice af lf cf]

set_option maxHeartbeats 1000000 in
theorem takesLetter_any (ty : Ty) (ai : Option Addr) (li ci : Nat) (af : Option Addr) (lf cf : Nat) (c : Int) (w : World) (hl : ty.letters.size ≤ 8) :
    Calls Tryz.prog 110 #[.agg #[.int .i64 ty.kind, .string ty.letters, .bool ty.op, .slice ai li ci, .slice af lf cf], .int .i64 c] w fun e w' => e = .returned (.bool (ty.op || decide (0 ≤ pOf ty.letters c))) ∧ Below w.heap.size w w' := by
  have _hl : ty.letters.size ≤ 9000000 := by omega
  have hB : ∀ o, Below w.heap.size w (w.alloc o) := fun o => (Below.refl _ _).alloc (Nat.le_refl _) _
  cases hop : ty.op with
  | true =>
    go_enter Tryz.func110, Tryz.ntmps110
    go_wp2_with (go_at_call 126; refine (placeOf_any _ _ _ _hl).mono ?_; rintro e w' ⟨rfl, rfl⟩)
    go_ret
    exact ⟨rfl, by first | exact hB _ | exact Below.refl _ _⟩
  | false =>
    go_enter Tryz.func110, Tryz.ntmps110
    go_wp2_with (go_at_call 126; refine (placeOf_any _ _ _ _hl).mono ?_; rintro e w' ⟨rfl, rfl⟩)
    go_ret
    exact ⟨ret_bool (by simp), by first | exact hB _ | exact Below.refl _ _⟩

set_option maxHeartbeats 1000000 in
theorem span_out (s : ByteArray) (a b : Nat) (w : World) (h : s.size < b) (_hs : s.size ≤ 9000000) (hb : b ≤ 9000000) :
    Calls Tryz.prog 124 #[.string s, .int .i64 a, .int .i64 b] w fun e w' => e = .returned (.string ByteArray.empty) ∧ w' = w := by
  by_cases hab : b < a
  · go_enter Tryz.func124, Tryz.ntmps124
    go_wp2_with fail
    go_ret
    exact ⟨rfl, rfl⟩
  · go_enter Tryz.func124, Tryz.ntmps124
    go_wp2_with fail
    go_ret
    exact ⟨rfl, rfl⟩
set_option maxHeartbeats 1000000 in
theorem firstLetter_any (ty : Ty) (ai : Option Addr) (li ci : Nat) (af : Option Addr) (lf cf : Nat) (w : World) (hl : ty.letters.size ≤ 8) :
    Calls Tryz.prog 108 #[.agg #[.int .i64 ty.kind, .string ty.letters, .bool ty.op, .slice ai li ci, .slice af lf cf]] w fun e w' => e = .returned (.string (ty.letters.extract 0 1)) ∧ Below w.heap.size w w' := by
  have _hl : ty.letters.size ≤ 9000000 := by omega
  have hB : ∀ o, Below w.heap.size w (w.alloc o) := fun o => (Below.refl _ _).alloc (Nat.le_refl _) _
  have hsp : ∀ w, Calls Tryz.prog 124 #[.string ty.letters, .int .i64 0, .int .i64 1] w fun e w' => e = .returned (.string (ty.letters.extract 0 1)) ∧ w' = w := fun w => by
    by_cases h1 : 1 ≤ ty.letters.size
    · exact span_any ty.letters 0 1 w (by omega) h1 _hl
    · rw [show ty.letters.extract 0 1 = ByteArray.empty from bytes_eq (by rw [ByteArray.size_extract]; show _ = 0; omega) (fun i hi => by rw [ByteArray.size_extract] at hi; omega)]
      exact span_out ty.letters 0 1 w (by omega) _hl (by omega)
  go_enter Tryz.func108, Tryz.ntmps108
  go_wp2_with (go_at_call 124; refine (hsp _).mono ?_; rintro e w' ⟨rfl, rfl⟩)
  go_ret
  exact ⟨rfl, by first | exact hB _ | exact Below.refl _ _⟩
end
section
set_option maxRecDepth 4000
open Go.RowKit

/-- The reference's walk along the bytes of a number: what they give, and where it stops. -/
def scanL (s : ByteArray) : Nat → Nat → Nat → Nat → Nat × Nat
  | 0, k, u, x => (u, k)
  | m + 1, k, u, x => if s.size ≤ k then (u, k) else if bAt s k < 128 then (u + (bAt s k).toNat % 128 * x, k + 1) else scanL s m (k + 1) (u + (bAt s k).toNat % 128 * x) (x * 128)
theorem scan_yes (s : ByteArray) (a : Nat) : ∀ (m k u x v e : Nat), uAtL s a m k u x = some (v, e) → scanL s m (a + k) u x = (v, e)
  | 0, k, u, x, v, e, h => by simp [uAtL] at h
  | m + 1, k, u, x, v, e, h => by
    rw [uAtL] at h
    have hhi := bAt_hi s (a + k)
    split at h
    · cases h
    · rename_i hc
      have hk : a + k < s.size := bAt_lt (by omega)
      rw [scanL, if_neg (by omega)]
      split at h
      · rename_i hd
        cases h
        rw [if_pos hd, show (bAt s (a + k)).toNat % 128 = (bAt s (a + k)).toNat by omega]
      · rename_i hd
        rw [if_neg hd, show (bAt s (a + k)).toNat % 128 = (bAt s (a + k)).toNat - 128 by omega]
        exact scan_yes s a m (k + 1) _ _ v e h
theorem scan_no (s : ByteArray) (a : Nat) : ∀ (m k u x v e : Nat), (0 < k → 128 ≤ bAt s (a + k - 1)) → (0 < k ∨ (0 < m ∧ a < s.size)) → uAtL s a m k u x = none → scanL s m (a + k) u x = (v, e) →
    a + 1 ≤ e ∧ (128 ≤ bAt s (e - 1) ∨ (a + 2 ≤ e ∧ bAt s (e - 1) = 0))
  | 0, k, u, x, v, e, h0, h1, h2, h3 => by
    simp only [scanL, Prod.mk.injEq] at h3
    obtain ⟨rfl, rfl⟩ := h3
    have hk : 0 < k := by omega
    exact ⟨by omega, .inl (h0 hk)⟩
  | m + 1, k, u, x, v, e, h0, h1, h2, h3 => by
    have hlo := bAt_lo s (a + k)
    rw [uAtL] at h2
    rw [scanL] at h3
    by_cases hk : s.size ≤ a + k
    · rw [if_pos hk] at h3
      simp only [Prod.mk.injEq] at h3
      obtain ⟨rfl, rfl⟩ := h3
      have hk0 : 0 < k := by omega
      exact ⟨by omega, .inl (h0 hk0)⟩
    · rw [if_neg hk] at h3
      have hb := bAt_in s (a + k) (by omega)
      by_cases hd : bAt s (a + k) < 128
      · rw [if_pos hd] at h3
        simp only [Prod.mk.injEq] at h3
        obtain ⟨rfl, rfl⟩ := h3
        split at h2
        · rename_i hc
          exact ⟨by omega, .inr ⟨by omega, by rw [show a + k + 1 - 1 = a + k by omega]; omega⟩⟩
        · cases h2
      · rw [if_neg hd] at h3
        rw [if_neg (by omega), if_neg hd] at h2
        exact scan_no s a m (k + 1) _ _ v e (fun _ => by rw [show a + (k + 1) - 1 = a + k by omega]; omega) (.inl (by omega)) h2 (by rw [show (bAt s (a + k)).toNat - 128 = (bAt s (a + k)).toNat % 128 by have := bAt_hi s (a + k); omega]; exact h3)
theorem extract_oneB (s : ByteArray) (p : Nat) (h : p < s.size) : s.extract p (p + 1) = oneB (bAt s p).toNat := by
  rw [bAt_in s p h]
  apply ByteArray.ext
  have : p < s.data.size := h
  apply Array.ext
  · simp [oneB]; omega
  · intro i h1 h2
    simp [oneB] at h2
    subst h2
    simp [oneB]
    rfl
theorem extract_split (s : ByteArray) (p e : Nat) (h : p + 1 ≤ e) : s.extract p e = s.extract p (p + 1) ++ s.extract (p + 1) e := by
  rw [ByteArray.extract_append_extract, Nat.min_eq_left (by omega), Nat.max_eq_right h]
theorem cod_yes (s : ByteArray) (a : Nat) : ∀ (m k u x v e : Nat), uAtL s a m k u x = some (v, e) → a + k < e ∧ ∃ y, v = u + x * y ∧ (0 < k → 0 < y) ∧ ∀ M acc, e ≤ a + k + M + 1 → codU M acc y = acc ++ s.extract (a + k) e
  | 0, k, u, x, v, e, h => by simp [uAtL] at h
  | m + 1, k, u, x, v, e, h => by
    rw [uAtL] at h
    have hhi := bAt_hi s (a + k)
    split at h
    · cases h
    · rename_i hc
      have hk : a + k < s.size := bAt_lt (by omega)
      split at h
      · rename_i hd
        simp only [Option.some.injEq, Prod.mk.injEq] at h
        obtain ⟨rfl, rfl⟩ := h
        refine ⟨by omega, (bAt s (a + k)).toNat, by rw [Nat.mul_comm], by omega, fun M acc _ => ?_⟩
        rw [extract_oneB s _ hk]
        cases M with
        | zero => rfl
        | succ M => rw [codU, if_neg (by omega)]
      · rename_i hd
        obtain ⟨hlt, y, hv, hy, hcod⟩ := cod_yes s a m (k + 1) _ _ v e h
        have hy1 := hy (by omega)
        refine ⟨by omega, (bAt s (a + k)).toNat - 128 + 128 * y, ?_, by omega, fun M acc hM => ?_⟩
        · rw [hv, Nat.mul_add, Nat.mul_assoc, Nat.mul_comm x ((bAt s (a + k)).toNat - 128)]; omega
        · obtain ⟨M', rfl⟩ : ∃ M', M = M' + 1 := ⟨M - 1, by omega⟩
          rw [codU, if_pos (by omega), show ((bAt s (a + k)).toNat - 128 + 128 * y) % 128 + 128 = (bAt s (a + k)).toNat by omega, show ((bAt s (a + k)).toNat - 128 + 128 * y) / 128 = y by omega, hcod M' _ (by omega), extract_split s (a + k) e (by omega), extract_oneB s _ hk, ByteArray.append_assoc]
          rfl
theorem cod_last : ∀ (m : Nat) (acc : ByteArray) (u : Nat), u < 128 ^ (m + 1) → acc.size + 1 ≤ (codU m acc u).size ∧ bAt (codU m acc u) ((codU m acc u).size - 1) < 128 ∧ (0 < u → bAt (codU m acc u) ((codU m acc u).size - 1) ≠ 0) ∧ (u < 128 → (codU m acc u).size = acc.size + 1)
  | m, acc, u, h => by
    have base : ∀ u, u < 128 → acc.size + 1 ≤ (acc ++ oneB u).size ∧ bAt (acc ++ oneB u) ((acc ++ oneB u).size - 1) < 128 ∧ (0 < u → bAt (acc ++ oneB u) ((acc ++ oneB u).size - 1) ≠ 0) ∧ (u < 128 → (acc ++ oneB u).size = acc.size + 1) := by
      intro u hu
      have hs : (acc ++ oneB u).size = acc.size + 1 := by rw [ByteArray.size_append, oneB_size]
      have hb : bAt (acc ++ oneB u) (acc.size + 1 - 1) = u := by
        rw [show acc.size + 1 - 1 = acc.size + 0 by omega, bAt_app_right, bAt_one u (by omega)]
      rw [hs, hb]
      exact ⟨by omega, by omega, by omega, fun _ => rfl⟩
    cases m with
    | zero => rw [codU]; exact base u (by simpa using h)
    | succ m =>
      rw [codU]
      by_cases hu : 128 ≤ u
      · rw [if_pos hu]
        have ih := cod_last m (acc ++ oneB (u % 128 + 128)) (u / 128) (by rw [Nat.pow_succ] at h; omega)
        rw [ByteArray.size_append, oneB_size] at ih
        exact ⟨by omega, ih.2.1, fun _ => ih.2.2.1 (by omega), fun h => by omega⟩
      · rw [if_neg hu]; exact base u (by omega)
theorem zig_unz2 (u : Nat) : zig (unzig u) = u := by unfold zig unzig; split <;> split <;> omega
/-- The reference's number. -/
def tellN (lo hi : Int) (s : ByteArray) (a : Nat) : Option (ByteArray × Nat) :=
  if numData (unzig (scanL s 8 a 0 1).1) ≠ s.extract a (scanL s 8 a 0 1).2 ∨ unzig (scanL s 8 a 0 1).1 < lo ∨ hi < unzig (scanL s 8 a 0 1).1 then none
  else some (decI (unzig (scanL s 8 a 0 1).1), (scanL s 8 a 0 1).2)
theorem scan_le (s : ByteArray) : ∀ (m k u x v e : Nat), u < x → k ≤ s.size → scanL s m k u x = (v, e) → v < x * 128 ^ m ∧ k ≤ e ∧ e ≤ s.size ∧ e ≤ k + m
  | 0, k, u, x, v, e, hu, hk, h => by simp only [scanL, Prod.mk.injEq] at h; obtain ⟨rfl, rfl⟩ := h; simp; omega
  | m + 1, k, u, x, v, e, hu, hk, h => by
    rw [scanL] at h
    have hx : x * 128 ≤ x * 128 ^ (m + 1) := Nat.mul_le_mul_left x (by rw [Nat.pow_succ]; have := Nat.pow_pos (n := m) (show 0 < 128 by omega); omega)
    have hd : (bAt s k).toNat % 128 * x ≤ 127 * x := Nat.mul_le_mul_right x (by omega)
    split at h
    · simp only [Prod.mk.injEq] at h; obtain ⟨rfl, rfl⟩ := h; omega
    · split at h
      · simp only [Prod.mk.injEq] at h; obtain ⟨rfl, rfl⟩ := h; omega
      · have ih := scan_le s m (k + 1) _ _ v e (by omega) (by omega) h
        have e1 : x * 128 * 128 ^ m = x * 128 ^ (m + 1) := by rw [Nat.pow_succ', Nat.mul_assoc]
        rw [e1] at ih
        omega
theorem tellN_eq (lo hi : Int) (s : ByteArray) (a : Nat) (ha : a < s.size) : tellN lo hi s a = decNum lo hi s a := by
  rcases hu : uAt s a with _ | ⟨u, e⟩
  · unfold decNum; rw [hu]
    unfold tellN
    rcases hsc : scanL s 8 a 0 1 with ⟨v, e⟩
    have hn := scan_no s a 8 0 0 1 v e (by omega) (.inr ⟨by omega, ha⟩) hu (by simpa using hsc)
    have hb := scan_le s 8 a 0 1 v e (by omega) (by omega) hsc
    rw [if_pos]
    left
    intro heq
    have hl := cod_last 8 ByteArray.empty v (by have h1 := hb.1; simp only [Nat.reducePow, Nat.reduceAdd] at h1 ⊢; omega)
    have hnd : numData (unzig v) = codU 8 ByteArray.empty v := by unfold numData; rw [zig_unz2]
    have heq : numData (unzig v) = s.extract a e := heq
    rw [← hnd, heq] at hl
    have hsz := size_extract s a e (by omega) hb.2.2.1
    have hz : ByteArray.empty.size = 0 := rfl
    rw [hsz, bAt_ext s a e _ (by omega) hb.2.2.1, show a + (e - a - 1) = e - 1 by omega, hz] at hl
    rcases hn.2 with h | ⟨h1, h2⟩
    · omega
    · by_cases hv : 0 < v
      · exact hl.2.2.1 hv h2
      · have := hl.2.2.2 (by omega); omega
  · have hsc : scanL s 8 a 0 1 = (u, e) := by have := scan_yes s a 8 0 0 1 u e hu; simpa using this
    unfold tellN decNum
    rw [hsc, hu]
    simp only
    obtain ⟨h1, y, hy, _, hcod⟩ := cod_yes s a 8 0 0 1 u e hu
    have hb := scan_le s 8 a 0 1 u e (by omega) (by omega) hsc
    have hnd : numData (unzig u) = s.extract a e := by
      unfold numData; rw [zig_unz2, show u = y by omega, hcod 8 ByteArray.empty (by omega)]; simp
    by_cases hr : unzig u < lo ∨ hi < unzig u
    · rw [if_pos (.inr hr), if_pos hr]
    · rw [if_neg hr, if_neg]
      rintro (h | h)
      · exact h hnd
      · exact hr h
end
section
set_option maxRecDepth 4000
open Go.RowKit

/-- The kinds are such as schemas tell, all the way down; a choice has a letter. -/
def tyK : Nat → Ty → Prop
  | 0, _ => True
  | n + 1, ty => (ty.kind = 105 ∨ ty.kind = 108 ∨ ty.kind = 115 ∨ ty.kind = 60 ∨ ty.kind = 91 ∨ ty.kind = 63 ∨ ty.kind = 123) ∧ (ty.kind = 60 → 1 ≤ ty.letters.size) ∧ (ty.kind = 91 ∨ ty.kind = 63 → ty.inner ≠ [] ∧ tyK n ty.in) ∧ ∀ f ∈ ty.fields, f.1 < 256 ∧ tyK n f.2.1
/-- The least value of a type. -/
def lv : Nat → Ty → Val
  | 0, _ => .non
  | n + 1, ty => if ty.kind = 105 ∨ ty.kind = 108 then .num 0 else if ty.kind = 115 then .str ByteArray.empty else if ty.kind = 60 then .cho 0 else if ty.kind = 91 then .lst [] else if ty.kind = 63 then .non else .rcd (ty.fields.map fun f => lv n f.2.1)
/-- The text of a record with one field's text given and the others' by 'f'. -/
def rwT (f : Ty → ByteArray) (x : ByteArray) (p : Int) : List (Nat × Ty × ByteArray) → Nat → ByteArray → ByteArray → ByteArray
  | [], _, _, t => t ++ ⟨#[125]⟩
  | g :: gs, k, mk, t => rwT f x p gs (k + 1) ⟨#[44]⟩ (t ++ (((mk ++ oneB g.1) ++ ⟨#[58]⟩) ++ (if (k : Int) = p then x else f g.2.1)))
theorem rwT_eq (f : Ty → ByteArray) (tv : Ty → Val → ByteArray) (x : ByteArray) (p : Int) : ∀ (fs : List (Nat × Ty × ByteArray)) (vs : List Val) (k : Nat) (mk t : ByteArray), vs.length = fs.length →
    (∀ i g v, fs[i]? = some g → vs[i]? = some v → (if ((k + i : Nat) : Int) = p then x else f g.2.1) = tv g.2.1 v) → rwT f x p fs k mk t = fldsT ((fs.zip vs).map fun q => (q.1.1, tv q.1.2.1 q.2)) mk t
  | [], vs, k, mk, t, hl, h => by cases vs <;> rfl
  | g :: fs, [], k, mk, t, hl, h => by simp at hl
  | g :: fs, v :: vs, k, mk, t, hl, h => by
    have h0 := h 0 g v rfl rfl
    rw [Nat.add_zero] at h0
    rw [rwT, h0, rwT_eq f tv x p fs vs (k + 1) _ _ (by simpa using hl) (fun i g' v' hg hv => by have := h (i + 1) g' v' (by simpa using hg) (by simpa using hv); rw [show k + (i + 1) = k + 1 + i by omega] at this; exact this), List.zip_cons_cons, List.map_cons, fldsT]
/-- How long such a text is. -/
theorem rwT_size {f : Ty → ByteArray} {x : ByteArray} {p : Int} {c : Nat × Ty × ByteArray → Nat} : ∀ (gs : List (Nat × Ty × ByteArray)) (k : Nat) (mk t : ByteArray), mk.size = 1 → (∀ i g, gs[i]? = some g → (if ((k + i : Nat) : Int) = p then x else f g.2.1).size + 3 ≤ c g) → (rwT f x p gs k mk t).size ≤ t.size + 1 + (gs.map c).sum
  | [], k, mk, t, hm, h => by rw [rwT, ByteArray.size_append]; have : (⟨#[125]⟩ : ByteArray).size = 1 := rfl; simp; omega
  | g :: gs, k, mk, t, hm, h => by
    have h0 := h 0 g rfl
    simp only [Nat.add_zero] at h0
    have ih := rwT_size (f := f) (x := x) (p := p) (c := c) gs (k + 1) ⟨#[44]⟩ (t ++ (((mk ++ oneB g.1) ++ ⟨#[58]⟩) ++ (if (k : Int) = p then x else f g.2.1))) rfl (fun i g' hg => by have := h (i + 1) g' (by simpa using hg); rw [show k + (i + 1) = k + 1 + i by omega] at this; exact this)
    rw [rwT]
    have e1 : (⟨#[58]⟩ : ByteArray).size = 1 := rfl
    simp only [ByteArray.size_append, oneB_size, hm, e1] at ih
    simp only [List.map_cons, List.sum_cons]
    omega

def LeastOK (n : Nat) : Prop := ∀ (ty : Ty) (w : World) (ai af : Option Addr) (li ci lf cf : Nat), tyK n ty → wt n ty ≤ 20000 → Rep n w ai li ci af lf cf ty →
  Calls Tryz.prog 86 #[.agg #[.int .i64 ty.kind, .string ty.letters, .bool ty.op, .slice ai li ci, .slice af lf cf]] w fun e w' => e = .returned (.string (txtV n ty (lv n ty))) ∧ Below w.heap.size w w'
theorem lv_size : ∀ (n : Nat) (ty : Ty), (txtV n ty (lv n ty)).size ≤ wt n ty
  | 0, ty => Nat.zero_le _
  | n + 1, ty => by
    have h70 := wt_pos n ty
    rw [lv]
    split
    · rw [txtV_num]; have := decI_size 0; omega
    · split
      · rw [txtV_str]; simp only [ByteArray.size_append]; have := quo_size; have : ByteArray.empty.size = 0 := rfl; omega
      · split
        · rw [txtV_cho, oneB_size]; omega
        · split
          · rw [txtV_lst]; show (⟨#[91]⟩ ++ ⟨#[93]⟩ : ByteArray).size ≤ _; rw [ByteArray.size_append]; have : (⟨#[91]⟩ : ByteArray).size = 1 := rfl; have : (⟨#[93]⟩ : ByteArray).size = 1 := rfl; omega
          · split
            · rw [txtV_non]; have : (⟨#[95]⟩ : ByteArray).size = 1 := rfl; omega
            · rw [txtV_rcd, ← rwT_eq (fun t => txtV n t (lv n t)) (txtV n) ByteArray.empty (-1) ty.fields _ 0 _ _ (by simp) (fun i g v hg hv => by
                rw [List.getElem?_map, hg] at hv; simp at hv; rw [if_neg (by omega), ← hv])]
              have := rwT_size (f := fun t => txtV n t (lv n t)) (x := ByteArray.empty) (p := -1) (c := fun f => wt n f.2.1 + f.2.2.size + 4) ty.fields 0 ⟨#[123]⟩ ByteArray.empty rfl (fun i g hg => by
                rw [if_neg (by omega)]; have := lv_size n g.2.1; omega)
              have e : ByteArray.empty.size = 0 := rfl
              rw [wt]; omega

theorem sum_le1 {α : Type} (c : α → Nat) (K : Nat) : ∀ (l : List α) (x : α), x ∈ l → (l.map c).sum ≤ K → c x ≤ K
  | y :: l, x, h, hk => by
    simp at hk
    rcases List.mem_cons.1 h with rfl | h
    · omega
    · exact sum_le1 c K l x h (by omega)
set_option maxHeartbeats 1000000 in
theorem recordWith_any {n : Nat} (IH : LeastOK n) (fs : List (Nat × Ty × ByteArray)) (p : Int) (x : ByteArray) (w : World) (af : Option Addr) (lf cf : Nat) (hlf : lf = fs.length) (hfl : fs.length ≤ 9000000) (hx : x.size ≤ 20000) (hk : ∀ f ∈ fs, f.1 < 256 ∧ tyK n f.2.1) (hwt : (fs.map fun f => wt n f.2.1 + f.2.2.size + 4).sum ≤ 20000) (hr : RepF n w af fs) :
    Calls Tryz.prog 113 #[.slice af lf cf, .int .i64 p, .string x] w fun e w' => e = .returned (.string (rwT (fun t => txtV n t (lv n t)) x p fs 0 ⟨#[123]⟩ ByteArray.empty)) ∧ Below w.heap.size w w' := by
  subst hlf
  obtain ⟨R, hR⟩ : ∃ R, R = rwT (fun t => txtV n t (lv n t)) x p fs 0 ⟨#[123]⟩ ByteArray.empty := ⟨_, rfl⟩
  rw [← hR]
  have HR : Hid (R = rwT (fun t => txtV n t (lv n t)) x p (fs.drop 0) 0 ⟨#[123]⟩ ByteArray.empty) := hR
  clear hR
  have hfl2 : fs.length ≤ 5000 := by
    have : ∀ l : List (Nat × Ty × ByteArray), l.length * 4 ≤ (l.map fun f => wt n f.2.1 + f.2.2.size + 4).sum := fun l => by
      induction l with
      | nil => simp
      | cons a l ih => simp; omega
    have := this fs; omega
  go_enter Tryz.func113, Tryz.ntmps113
  go_wp2_with fail
  go_loopw [7, 8, 14] (fun vt vm vi wr => ∃ (i : Nat) (mk t : ByteArray), i ≤ fs.length ∧ vi = .int .i64 i ∧ vm = .string mk ∧ vt = .string t ∧ mk.size = 1 ∧ t.size ≤ 20010 * i ∧ Hid (R = rwT (fun t => txtV n t (lv n t)) x p (fs.drop i) i mk t) ∧ Below w.heap.size w wr) (fun _ _ i _ => fs.length - (intOf i).toNat)
  case atStart => exact ⟨0, ⟨#[123]⟩, ByteArray.empty, Nat.zero_le _, rfl, rfl, rfl, rfl, Nat.le_refl _, HR, Below.refl _ _⟩
  case round =>
    obtain ⟨i, mk, t, hi, rfl, rfl, rfl, hmk, hts, hR, hb⟩ := hrel
    have one1 : (⟨#[125]⟩ : ByteArray).size = 1 := rfl
    have one2 : (⟨#[58]⟩ : ByteArray).size = 1 := rfl
    have hmul : 20010 * i ≤ 20010 * 5000 := Nat.mul_le_mul_left _ (by omega)
    have hts2 : t.size ≤ 100050000 := by omega
    by_cases hlt : i < fs.length
    · obtain ⟨f, hf⟩ : ∃ f, fs[i]? = some f := ⟨fs[i], List.getElem?_eq_getElem hlt⟩
      have hdrop : fs.drop i = f :: fs.drop (i + 1) := by
        rw [List.drop_eq_getElem_cons hlt]; rw [List.getElem?_eq_getElem hlt] at hf; simp at hf; rw [hf]
      have hmem := List.mem_of_getElem? hf
      obtain ⟨h256, hkf⟩ := hk f hmem
      have hwf : wt n f.2.1 ≤ 20000 := by
        have := sum_le1 (fun f : Nat × Ty × ByteArray => wt n f.2.1 + f.2.2.size + 4) 20000 fs f hmem hwt
        omega
      rcases hr with ⟨hr, _⟩ | ⟨g, rfl, hcells⟩
      · rw [hr] at hf; simp at hf
      · obtain ⟨p1, p2, p3, q1, q2, q3, hrep, k0, k1, k2, k3, k4, k5, k6⟩ := hcells i f hf
        have k0 := cell_keep hb k0
        have k1 := cell_keep hb k1
        have k2 := cell_keep hb k2
        have k3 := cell_keep hb k3
        have k4 := cell_keep hb k4
        have k5 := cell_keep hb k5
        have k6 := cell_keep hb k6
        have hg' : g < wr.heap.size := lt_of_cell k0
        have hBa : ∀ o, Below wr.heap.size wr (wr.alloc o) := fun o => (Below.refl _ _).alloc (Nat.le_refl _) _
        have hcall := fun o => IH f.2.1 (wr.alloc o) p1 q1 p2 p3 q2 q3 hkf hwf ((hrep.keep hb).keep (hBa o))
        have hls := lv_size n f.2.1
        have hso : (oneB f.1).size = 1 := rfl
        have hz1 : (mk ++ oneB f.1).size = 2 := by rw [ByteArray.size_append, hmk, hso]
        have hz2 : (mk ++ oneB f.1 ++ ⟨#[58]⟩).size = 3 := by rw [ByteArray.size_append, hz1, one2]
        have hmul2 : 20010 * (i + 1) = 20010 * i + 20010 := by omega
        by_cases hp : (i : Int) = p
        · have hp' : ((i : Int) != p) = false := by simp [hp]
          have hr' : Hid (R = rwT (fun t => txtV n t (lv n t)) x p (fs.drop (i + 1)) (i + 1) ⟨#[44]⟩ (t ++ (mk ++ oneB f.1 ++ ⟨#[58]⟩ ++ x))) := by show _ = _; rw [hR.out, hdrop, rwT, if_pos hp]
          have hz3 : (mk ++ oneB f.1 ++ ⟨#[58]⟩ ++ x).size = 3 + x.size := by rw [ByteArray.size_append, hz2]
          have HS : (t ++ (mk ++ oneB f.1 ++ ⟨#[58]⟩ ++ x)).size ≤ 20010 * (i + 1) := by rw [ByteArray.size_append, hz3]; omega
          clear hdrop hf hcells hp hR hrep hls hmul hmul2
          go_wp2_with (first | (go_at_call 111; refine (oneByte_any f.1 _ (by omega)).mono ?_; rintro e w3 ⟨rfl, hb3⟩))
          go_roundw
          case rel => exact ⟨i + 1, ⟨#[44]⟩, _, by omega, by go_num, rfl, rfl, rfl, HS, hr', hb.trans (((hBa _).trans (hb3.mono (by simp))).mono hb.size)⟩
          case measure => simp [intOf]; omega
        · have hp' : ((i : Int) != p) = true := by simp [hp]
          obtain ⟨Y, hY⟩ : ∃ Y, Y = txtV n f.2.1 (lv n f.2.1) := ⟨_, rfl⟩
          rw [← hY] at hcall hls
          have hr' : Hid (R = rwT (fun t => txtV n t (lv n t)) x p (fs.drop (i + 1)) (i + 1) ⟨#[44]⟩ (t ++ (mk ++ oneB f.1 ++ ⟨#[58]⟩ ++ Y))) := by show _ = _; rw [hR.out, hdrop, rwT, if_neg hp, hY]
          have hz3 : (mk ++ oneB f.1 ++ ⟨#[58]⟩ ++ Y).size = 3 + Y.size := by rw [ByteArray.size_append, hz2]
          have HS : (t ++ (mk ++ oneB f.1 ++ ⟨#[58]⟩ ++ Y)).size ≤ 20010 * (i + 1) := by rw [ByteArray.size_append, hz3]; omega
          have hYs : Y.size ≤ 20000 := by omega
          clear hdrop hf hcells hp hR hrep hY hls hmul hmul2
          go_wp2_with (first | (go_at_call 86; refine (hcall _).mono ?_; rintro e w2 ⟨rfl, hb2⟩; obtain ⟨hc2, hf2⟩ := bcell hb2) | (go_at_call 111; refine (oneByte_any f.1 _ (by omega)).mono ?_; rintro e w3 ⟨rfl, hb3⟩))
          go_roundw
          case rel => exact ⟨i + 1, ⟨#[44]⟩, _, by omega, by go_num, rfl, rfl, rfl, HS, hr', hb.trans ((((hBa _).trans (hb2.mono (by simp))).trans (hb3.mono (by have := hb2.size; simp at this; omega))).mono hb.size)⟩
          case measure => simp [intOf]; omega
    · have hnil : fs.drop i = [] := List.drop_of_length_le (by omega)
      have hr' : Hid (R = t ++ ⟨#[125]⟩) := by show _ = _; rw [hR.out, hnil, rwT]
      go_wp2_with fail
      go_ret
      exact ⟨ret_str hr'.out.symm, hb⟩
end
end Go.Proofs.YtkkekopomiehlaaGreat
