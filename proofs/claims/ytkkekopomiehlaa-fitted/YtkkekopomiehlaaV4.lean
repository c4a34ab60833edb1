import Derived.Test.YtkkekopomiehlaaV3
set_option linter.unusedVariables false
set_option linter.unusedSimpArgs false
namespace Go.Proofs.Ytkkekopomiehlaa
open Go.RowKit

def sepT : List ByteArray → ByteArray
  | [] => ⟨#[93]⟩
  | x :: xs => ⟨#[44]⟩ ++ (x ++ sepT xs)
theorem itemsT_sep : ∀ (xs : List ByteArray) (k : Nat) (t : ByteArray), itemsT (k + 1) xs t = t ++ sepT xs
  | [], k, t => rfl
  | x :: xs, k, t => by
    rw [itemsT, if_pos (by omega), itemsT_sep xs (k + 1), sepT]
    simp only [ByteArray.append_assoc]
def recT : List (Nat × ByteArray) → ByteArray → ByteArray
  | [], _ => ⟨#[125]⟩
  | p :: ps, mk => (mk ++ (oneB p.1 ++ (⟨#[58]⟩ ++ p.2))) ++ recT ps ⟨#[44]⟩
theorem fldsT_rec : ∀ (ps : List (Nat × ByteArray)) (mk t : ByteArray), fldsT ps mk t = t ++ recT ps mk
  | [], mk, t => rfl
  | p :: ps, mk, t => by
    rw [fldsT, fldsT_rec ps, recT]
    simp only [ByteArray.append_assoc]
theorem at0 {t x : ByteArray} {j : Nat} (h : At t j x) (hx : 1 ≤ x.size) : bAt t j = bAt x 0 := by
  have := h.2 0 hx; rw [Nat.add_zero] at this; exact this
theorem first_app {x y : ByteArray} (h : 1 ≤ x.size) : bAt (x ++ y) 0 = bAt x 0 := bAt_app_left _ _ _ h
theorem sz1 (c : UInt8) : (⟨#[c]⟩ : ByteArray).size = 1 := rfl
theorem sepT_first (xs : List ByteArray) : (bAt (sepT xs) 0 = 93 ∨ bAt (sepT xs) 0 = 44) ∧ 1 ≤ (sepT xs).size := by
  cases xs with
  | nil => exact ⟨.inl rfl, Nat.le_refl _⟩
  | cons x xs =>
    rw [sepT]
    refine ⟨.inr ?_, by rw [ByteArray.size_append, sz1]; omega⟩
    rw [first_app (by rw [sz1]; omega)]; rfl
theorem recT_first (ps : List (Nat × ByteArray)) : (bAt (recT ps ⟨#[44]⟩) 0 = 125 ∨ bAt (recT ps ⟨#[44]⟩) 0 = 44) ∧ 1 ≤ (recT ps ⟨#[44]⟩).size := by
  cases ps with
  | nil => exact ⟨.inl rfl, Nat.le_refl _⟩
  | cons p ps =>
    rw [recT]
    have e : 1 ≤ (⟨#[44]⟩ ++ (oneB p.1 ++ (⟨#[58]⟩ ++ p.2)) : ByteArray).size := by rw [ByteArray.size_append, sz1]; omega
    refine ⟨.inr ?_, by rw [ByteArray.size_append]; omega⟩
    rw [first_app e, first_app (by rw [sz1]; omega)]; rfl
theorem DL_of {st : Bool} {b : Int} (h : b = 93 ∨ b = 44 ∨ b = 125 ∨ b = -1) : DL st b := by
  rcases h with rfl | rfl | rfl | rfl <;> exact ⟨rfl, fun _ => by omega⟩
/-- A text has a first byte, which no closing bracket is; of a type that is no ? it is no _. -/
theorem txt_first : ∀ (n : Nat) (ty : Ty) (v : Val), okV n ty v → tyG n ty → 1 ≤ (txtV n ty v).size ∧ bAt (txtV n ty v) 0 ≠ 93 ∧ (ty.kind ≠ 63 → bAt (txtV n ty v) 0 ≠ 95)
  | 0, ty, v, h, _ => h.elim
  | n + 1, ty, v, h, hg => by
    rcases h with ⟨x, rfl, h⟩ | ⟨s, rfl, h⟩ | ⟨i, rfl, h⟩ | ⟨vs, rfl, h⟩ | ⟨rfl, h⟩ | ⟨v, rfl, h⟩ | ⟨vs, rfl, h⟩
    · rw [txtV_num]
      unfold decI
      split
      · have e1 : 1 ≤ (⟨#[45]⟩ : ByteArray).size := Nat.le_refl _
        refine ⟨by rw [ByteArray.size_append]; omega, ?_, ?_⟩
        · rw [first_app e1]; decide
        · intro _; rw [first_app e1]; decide
      · have h1 := decS_pos 18 x.toNat
        have h2 := decS_dig 18 x.toNat 0 (by omega) h1
        exact ⟨h1, by omega, fun _ => by omega⟩
    · rw [txtV_str]
      have e : bAt (quo ++ s ++ quo) 0 = 34 := by rw [first_app (by rw [ByteArray.size_append, quo_size]; omega), first_app (by rw [quo_size]; omega)]; rfl
      exact ⟨by rw [ByteArray.size_append, ByteArray.size_append, quo_size]; omega, by omega, fun _ => by omega⟩
    · rw [txtV_cho]
      have hl := isL_bd ((hg.1 h.1 i h.2.1).1)
      have e : bAt (oneB (bAt ty.letters i).toNat) 0 = bAt ty.letters i := by rw [bAt_one _ (by omega)]; omega
      exact ⟨by rw [oneB_size]; omega, by omega, fun _ => by omega⟩
    · rw [txtV_lst]
      have e : 1 ≤ (itemsT 0 (vs.map (txtV n ty.in)) ⟨#[91]⟩).size ∧ bAt (itemsT 0 (vs.map (txtV n ty.in)) ⟨#[91]⟩) 0 = 91 := by
        cases vs with
        | nil => exact ⟨by show 1 ≤ (⟨#[91]⟩ ++ ⟨#[93]⟩ : ByteArray).size; decide, rfl⟩
        | cons v vs =>
          rw [List.map_cons, itemsT, itemsT_sep]
          simp only [Nat.lt_irrefl, if_false]
          have e1 : 1 ≤ (⟨#[91]⟩ ++ txtV n ty.in v : ByteArray).size := by rw [ByteArray.size_append, sz1]; omega
          refine ⟨by rw [ByteArray.size_append]; omega, ?_⟩
          rw [first_app e1, first_app (by rw [sz1]; omega)]; rfl
      exact ⟨e.1, by omega, fun _ => by omega⟩
    · rw [txtV_non]
      exact ⟨Nat.le_refl _, by decide, fun hk => absurd h hk⟩
    · rw [txtV_som]
      have := txt_first n ty.in v h.2 (hg.2.2.1 (.inr h.1))
      exact ⟨this.1, this.2.1, fun hk => absurd h.1 hk⟩
    · rw [txtV_rcd, fldsT_rec, ByteArray.empty_append]
      rcases hf : ty.fields with _ | ⟨g, fs⟩
      · exact absurd hf h.2.1
      · rcases vs with _ | ⟨v, vs⟩
        · rw [hf] at h; simp at h
        · rw [List.zip_cons_cons, List.map_cons, recT]
          have e : ∀ y : ByteArray, 1 ≤ (⟨#[123]⟩ ++ y : ByteArray).size := fun y => by rw [ByteArray.size_append, sz1]; omega
          have e1 : ∀ y z : ByteArray, bAt ((⟨#[123]⟩ ++ y : ByteArray) ++ z) 0 = 123 := fun y z => by rw [first_app (e y), first_app (by rw [sz1]; omega)]; rfl
          rw [e1]
          exact ⟨by rw [ByteArray.size_append, ByteArray.size_append, sz1]; omega, by omega, fun _ => by omega⟩
theorem encItems_at {st : Bool} {t : ByteArray} {f : Nat → Option (ByteArray × Nat)} {dv tv : Val → ByteArray} : ∀ (us : List Val) (v : Val) (m c b : Nat) (d : ByteArray), us.length < m → (∀ u, u = v ∨ u ∈ us → ∀ j, At t j (tv u) → DL st (bAt t (j + (tv u).size)) → f j = some (dv u, j + (tv u).size)) →
    At t (b + 1) (tv v ++ sepT (us.map tv)) → encItems f t m c b d = some (oneB (c + us.length) ++ (d ++ (dv v ++ catB (us.map dv))), b + 1 + (tv v ++ sepT (us.map tv)).size)
  | us, v, 0, c, b, d, hm, hf, h => by omega
  | [], v, m + 1, c, b, d, hm, hf, h => by
    rw [At.app] at h
    have h1 : bAt t (b + 1 + (tv v).size) = 93 := by rw [at0 h.2 (Nat.le_refl _)]; rfl
    rw [encItems, hf v (.inl rfl) (b + 1) h.1 (by rw [h1]; exact DL_of (.inl rfl))]
    simp only
    rw [if_pos h1, ByteArray.size_append]
    simp [catB, sepT]
    rfl
  | u :: us, v, m + 1, c, b, d, hm, hf, h => by
    rw [At.app] at h
    have h0 := h
    rw [List.map_cons, sepT, At.app, sz1] at h0
    have h1 : bAt t (b + 1 + (tv v).size) = 44 := by rw [at0 h0.2.1 (Nat.le_refl _)]; rfl
    rw [encItems, hf v (.inl rfl) (b + 1) h.1 (by rw [h1]; exact DL_of (.inr (.inl rfl)))]
    simp only
    rw [if_neg (by rw [h1]; omega), if_pos h1, encItems_at us u m (c + 1) _ _ (by simp at hm; omega) (fun w hw => hf w (.inr (by rcases hw with rfl | hw <;> simp [*]))) h0.2.2]
    congr 2
    · rw [List.length_cons, List.map_cons, catB, show c + 1 + us.length = c + (us.length + 1) by omega]
      simp only [ByteArray.append_assoc]
    · rw [List.map_cons, sepT]
      simp only [ByteArray.size_append, sz1]; omega
theorem encFlds_at {st : Bool} {t : ByteArray} {f : Ty → Nat → Option (ByteArray × Nat)} {dv : Val → ByteArray} {tv : Ty → Val → ByteArray} : ∀ (fs : List (Nat × Ty × ByteArray)) (vs : List Val) (mk : UInt8) (b : Nat) (d : ByteArray), vs.length = fs.length → (∀ g ∈ fs, g.1 < 256) →
    (∀ p ∈ fs.zip vs, ∀ j, At t j (tv p.1.2.1 p.2) → DL st (bAt t (j + (tv p.1.2.1 p.2).size)) → f p.1.2.1 j = some (dv p.2, j + (tv p.1.2.1 p.2).size)) →
    At t b (recT ((fs.zip vs).map fun p => (p.1.1, tv p.1.2.1 p.2)) ⟨#[mk]⟩) → encFlds f t fs (mk.toNat : Int) b d = some (d ++ catB (vs.map dv), b + (recT ((fs.zip vs).map fun p => (p.1.1, tv p.1.2.1 p.2)) ⟨#[mk]⟩).size) ∨ fs = []
  | [], vs, mk, b, d, hl, hg, hf, h => .inr rfl
  | g :: fs, [], mk, b, d, hl, hg, hf, h => by simp at hl
  | g :: fs, v :: vs, mk, b, d, hl, hg, hf, h => by
    left
    simp only [List.zip_cons_cons, List.map_cons, recT] at h ⊢
    have h256 := hg g (by simp)
    have h0 := h
    rw [At.app, At.app, At.app, At.app, At.one h256] at h0
    simp only [ByteArray.size_append, sz1, oneB_size] at h0
    obtain ⟨⟨h1, h2, h3, h4⟩, h5⟩ := h0
    have b0 : bAt t b = (mk.toNat : Int) := by rw [at0 h1 (Nat.le_refl _)]; rfl
    have b2 : bAt t (b + 2) = 58 := by have := at0 h3 (Nat.le_refl _); rw [show b + 1 + 1 = b + 2 by omega] at this; rw [this]; rfl
    have hfirst := recT_first ((fs.zip vs).map fun p => (p.1.1, tv p.1.2.1 p.2))
    rw [show b + 1 + 1 + 1 = b + 3 by omega] at h4
    rw [show b + (1 + (1 + (1 + (tv g.2.1 v).size))) = b + 3 + (tv g.2.1 v).size by omega] at h5
    have hnext : bAt t (b + 3 + (tv g.2.1 v).size) = 125 ∨ bAt t (b + 3 + (tv g.2.1 v).size) = 44 := by rw [at0 h5 hfirst.2]; exact hfirst.1
    rw [encFlds, if_pos ⟨b0, h2, b2⟩, hf (g, v) (by simp) (b + 3) h4 (DL_of (by rcases hnext with h | h; exact .inr (.inr (.inl h)); exact .inr (.inl h)))]
    simp only
    have hsz : (⟨#[mk]⟩ ++ (oneB g.1 ++ (⟨#[58]⟩ ++ tv g.2.1 v)) ++ recT ((fs.zip vs).map fun p => (p.1.1, tv p.1.2.1 p.2)) ⟨#[44]⟩ : ByteArray).size = 3 + (tv g.2.1 v).size + (recT ((fs.zip vs).map fun p => (p.1.1, tv p.1.2.1 p.2)) ⟨#[44]⟩).size := by
      simp only [ByteArray.size_append, sz1, oneB_size]; omega
    rw [hsz]
    rcases encFlds_at (st := st) fs vs 44 (b + 3 + (tv g.2.1 v).size) (d ++ dv v) (by simpa using hl) (fun g' h' => hg g' (by simp [h'])) (fun p hp => hf p (by simp [hp])) h5 with e | e
    · rw [show ((44 : UInt8).toNat : Int) = 44 from rfl] at e
      rw [e, catB]
      congr 2
      · simp only [ByteArray.append_assoc]
      · omega
    · subst e
      obtain rfl : vs = [] := by simpa using hl
      have h125 : bAt t (b + 3 + (tv g.2.1 v).size) = 125 := by rw [at0 h5 hfirst.2]; rfl
      rw [encFlds, if_pos h125]
      simp only [List.zip_nil_left, List.map_nil, recT, catB, sz1, ByteArray.append_empty]
      congr 2
      omega
/-- A value's text is encoded as its data. -/
theorem enc_at {st : Bool} {t : ByteArray} : ∀ (n : Nat) (ty : Ty) (v : Val) (j : Nat), okV n ty v → tyG n ty → At t j (txtV n ty v) → DL st (bAt t (j + (txtV n ty v).size)) → enc st t n ty j = some (datV n v, j + (txtV n ty v).size)
  | 0, ty, v, j, hv, _, _, _ => hv.elim
  | n + 1, ty, v, j, hv, hg, h, hd => by
    have ih := enc_at (st := st) (t := t) n
    have hv0 := hv
    rcases hv with ⟨x, rfl, hv⟩ | ⟨s, rfl, hv⟩ | ⟨i, rfl, hv⟩ | ⟨vs, rfl, hv⟩ | ⟨rfl, hv⟩ | ⟨v, rfl, hv⟩ | ⟨vs, rfl, hv⟩
    · rw [txtV_num] at h hd ⊢
      rw [datV_num]
      rcases hv with ⟨hk, h1, h2⟩ | ⟨hk, h1, h2⟩
      · rw [enc, if_pos hk, encNum_at (by omega) (by omega) h1 h2 h hd]
      · rw [enc, if_neg (by omega), if_pos hk, encNum_at (by omega) (by omega) h1 h2 h hd]
    · rw [txtV_str] at h hd ⊢
      rw [datV_str, enc, if_neg (by omega), if_neg (by omega), if_pos hv.1, encStr_at hv.2.1 hv.2.2 h]
    · have hl := hg.1 hv.1 i hv.2.1
      have hl2 := isL_bd hl.1
      rw [txtV_cho] at h hd ⊢
      rw [At.one (by omega)] at h
      rw [datV_cho, enc, if_neg (by omega), if_neg (by omega), if_neg (by omega), if_pos hv.1]
      have hb : bAt t j = bAt ty.letters i := by omega
      rw [hb, pOf_at hv.2.1 hl.2, if_neg (by omega), oneB_size]
      rfl
    · rw [txtV_lst] at h hd ⊢
      rw [datV_lst, enc, if_neg (by omega), if_neg (by omega), if_neg (by omega), if_neg (by omega), if_pos hv.1]
      unfold encList
      cases vs with
      | nil =>
        simp only [List.map_nil, itemsT] at h hd ⊢
        rw [At.app, sz1] at h
        have b0 : bAt t j = 91 := by rw [at0 h.1 (Nat.le_refl _)]; rfl
        have b1 : bAt t (j + 1) = 93 := by rw [at0 h.2 (Nat.le_refl _)]; rfl
        rw [if_pos b0, if_pos b1]
        simp [catB]
        rfl
      | cons v vs =>
        simp only [List.map_cons, itemsT, itemsT_sep, Nat.lt_irrefl, if_false, ByteArray.append_assoc] at h hd ⊢
        rw [At.app, sz1] at h
        have b0 : bAt t j = 91 := by rw [at0 h.1 (Nat.le_refl _)]; rfl
        have hf := txt_first n ty.in v (hv.2.2 v (by simp)) (hg.2.2.1 (.inl hv.1))
        have b1 : bAt t (j + 1) ≠ 93 := by rw [at0 (At.app.1 h.2).1 hf.1]; exact hf.2.1
        have hl16 : vs.length < 16 := by have := hv.2.1; simp at this; omega
        rw [if_pos b0, if_neg b1, encItems_at (st := st) (dv := datV n) (tv := txtV n ty.in) vs v 16 1 j _ hl16 (fun u hu j h hd => ih ty.in u j (hv.2.2 u (by rcases hu with rfl | hu <;> simp [*])) (hg.2.2.1 (.inl hv.1)) h hd) h.2]
        rw [ByteArray.size_append (a := ⟨#[91]⟩), sz1, List.length_cons, catB, ByteArray.empty_append, Nat.add_comm 1 vs.length, Nat.add_assoc]
    · rw [txtV_non] at h hd ⊢
      have b0 : bAt t j = 95 := by rw [at0 h (Nat.le_refl _)]; rfl
      rw [datV_non, enc, if_neg (by omega), if_neg (by omega), if_neg (by omega), if_neg (by omega), if_neg (by omega), if_pos hv]
      unfold encMaybe
      rw [if_pos b0]; rfl
    · rw [txtV_som] at h hd ⊢
      have hgi := hg.2.2.1 (.inr hv.1)
      have hf := txt_first n ty.in v hv.2 hgi
      have b0 : bAt t j ≠ 95 := by rw [at0 h hf.1]; exact hf.2.2 (hg.2.1 hv.1)
      rw [datV_som, enc, if_neg (by omega), if_neg (by omega), if_neg (by omega), if_neg (by omega), if_neg (by omega), if_pos hv.1]
      unfold encMaybe
      rw [if_neg b0, ih ty.in v j hv.2 hgi h hd]
    · rw [txtV_rcd, fldsT_rec, ByteArray.empty_append] at h hd ⊢
      rw [datV_rcd, enc, if_neg (by omega), if_neg (by omega), if_neg (by omega), if_neg (by omega), if_neg (by omega), if_neg (by omega), if_pos hv.1]
      rcases encFlds_at (st := st) (t := t) (f := enc st t n) (dv := datV n) (tv := txtV n) ty.fields vs 123 j ByteArray.empty hv.2.2.1 (fun g hg' => (hg.2.2.2 g hg').1) (fun p hp j h hd => ih p.1.2.1 p.2 j (hv.2.2.2 p hp) (hg.2.2.2 p.1 (List.of_mem_zip (a := p.1) (b := p.2) hp).1).2 h hd) h with e | e
      · rw [show ((123 : UInt8).toNat : Int) = 123 from rfl] at e
        rw [e, ByteArray.empty_append]
      · exact absurd e hv.2.1
end Go.Proofs.Ytkkekopomiehlaa
