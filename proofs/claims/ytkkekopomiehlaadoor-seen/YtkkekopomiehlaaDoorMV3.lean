import Derived.Test.YtkkekopomiehlaaDoorV2
import Derived.Test.YtkkekopomiehlaaDoorDec13
import Derived.Test.YtkkekopomiehlaaDoorProg0
import Derived.Test.YtkkekopomiehlaaDoorMDec14
import Derived.Test.YtkkekopomiehlaaDoorTy2
import Derived.Test.YtkkekopomiehlaaDoorMEq4
import Derived.Test.YtkkekopomiehlaaDoorProg1
import Derived.Test.YtkkekopomiehlaaDoorFmt
set_option linter.unusedVariables false
set_option linter.unusedSimpArgs false
namespace Go.Proofs.YtkkekopomiehlaaDoor
section
open Go.RowKit

/-- A type as a schema tells it: the letters of a choice are different letters, no ? stands in a ?. -/
def tyG : Nat → Ty → Prop
  | 0, _ => True
  | n + 1, ty => (ty.kind = 60 → ∀ i, i < ty.letters.size → isL (bAt ty.letters i) = true ∧ ∀ j, j < i → bAt ty.letters j ≠ bAt ty.letters i) ∧ (ty.kind = 63 → ty.in.kind ≠ 63) ∧ (ty.kind = 91 ∨ ty.kind = 63 → tyG n ty.in) ∧ ∀ f ∈ ty.fields, f.1 < 256 ∧ tyG n f.2.1
/-- What may stand behind a text. -/
def DL (st : Bool) (b : Int) : Prop := isD b = false ∧ (st = true → b ≠ 45)
theorem dVal_at {t : ByteArray} : ∀ (m n a : Nat), n < 10 ^ (m + 1) → At t a (decS m n) → dVal t a (decS m n).size = n
  | 0, n, a, hn, h => by
    rw [decS] at h ⊢
    rw [At.one (by omega)] at h
    rw [oneB_size, dVal, dVal, Nat.add_zero, h]; omega
  | m + 1, n, a, hn, h => by
    rw [decS] at h ⊢
    split at h
    · rw [At.one (by omega)] at h
      rw [if_pos (by assumption), oneB_size, dVal, dVal, Nat.add_zero, h]; omega
    · rw [if_neg (by assumption)]
      rw [At.app, At.one (by omega)] at h
      rw [ByteArray.size_append, oneB_size, dVal, dVal_at m (n / 10) a (by rw [Nat.pow_succ] at hn; omega) h.1, h.2]
      omega
theorem pDig_at {t : ByteArray} {n a : Nat} (hn : n ≤ 1000000000000000) (h : At t a (decS 18 n)) (hd : isD (bAt t (a + (decS 18 n).size)) = false) : pDig t a = some ((n : Int), a + (decS 18 n).size) := by
  have hp := decS_pos 18 n
  have hl := decS_len 15 18 n (by omega)
  have hle := h.le
  have e := pDig_mk (s := t) (a := a) (e := a + (decS 18 n).size) (by omega) hle (fun i h1 h2 => by
    have := h.2 (i - a) (by omega)
    rw [show a + (i - a) = i by omega] at this
    rw [this]
    exact isD_mk (decS_dig 18 n (i - a) (by omega) (by omega))) hd (by omega) (fun h1 => by
      have h2 := h.2 0 hp
      rw [Nat.add_zero] at h2
      rw [h2]
      exact decS_first 18 n (by omega) (decS_big 18 n (by omega) (by omega)))
  rw [e, show a + (decS 18 n).size - a = (decS 18 n).size by omega, dVal_at 18 n a (by omega) h]
theorem pNum_at {t : ByteArray} {n : Int} {a : Nat} (h1 : -1000000000000000 ≤ n) (h2 : n ≤ 1000000000000000) (h : At t a (decI n)) (hd : isD (bAt t (a + (decI n).size)) = false) : pNum t a = some (n, a + (decI n).size) := by
  unfold decI at h hd ⊢
  by_cases hn : n < 0
  · rw [if_pos hn] at h hd ⊢
    rw [At.app] at h
    have e1 : (⟨#[45]⟩ : ByteArray).size = 1 := rfl
    rw [e1] at h
    have h45 : bAt t a = 45 := by have := h.1.2 0 (by rw [e1]; omega); rw [Nat.add_zero] at this; rw [this]; rfl
    rw [ByteArray.size_append, e1] at hd ⊢
    unfold pNum
    rw [if_pos h45, pDig_at (by omega) h.2 (by rw [show a + 1 + (decS 18 (-n).toNat).size = a + (1 + (decS 18 (-n).toNat).size) by omega]; exact hd)]
    simp only
    rw [if_neg (by omega)]
    congr 1
    refine Prod.ext ?_ ?_
    · show -((-n).toNat : Int) = n; omega
    · show a + 1 + _ = a + (1 + _); omega
  · rw [if_neg hn] at h hd ⊢
    have hb := decS_dig 18 n.toNat 0 (by omega) (decS_pos _ _)
    have h0 := h.2 0 (decS_pos _ _)
    rw [Nat.add_zero] at h0
    unfold pNum
    rw [if_neg (by rw [h0]; omega), pDig_at (by omega) h hd]
    congr 1
    refine Prod.ext ?_ rfl
    show ((n.toNat : Nat) : Int) = n; omega
theorem encNum_at {st : Bool} {lo hi n : Int} {t : ByteArray} {a : Nat} (hl : -1000000000000000 ≤ lo) (hh : hi ≤ 1000000000000000) (h1 : lo ≤ n) (h2 : n ≤ hi) (h : At t a (decI n)) (hd : DL st (bAt t (a + (decI n).size))) : encNum st lo hi t a = some (numData n, a + (decI n).size) := by
  unfold encNum
  rw [pNum_at (by omega) (by omega) h hd.1]
  simp only
  rw [if_neg (by omega), if_neg (fun hc => hd.2 hc.1 hc.2)]
theorem allS_all {s : ByteArray} : ∀ (m k : Nat), allS s m k = true → ∀ i, i < m → inS (bAt s (k + i)) = true
  | 0, k, h, i, hi => by omega
  | m + 1, k, h, i, hi => by
    rw [allS, Bool.and_eq_true] at h
    cases i with
    | zero => rw [Nat.add_zero]; exact h.1
    | succ i => rw [show k + (i + 1) = k + 1 + i by omega]; exact allS_all m (k + 1) h.2 i (by omega)
theorem encStr_at {s t : ByteArray} {a : Nat} (h1 : s.size ≤ 60) (h2 : allS s s.size 0 = true) (h : At t a (quo ++ s ++ quo)) : encStr t a = some (oneB s.size ++ s, a + (quo ++ s ++ quo).size) := by
  rw [At.app, At.app, ByteArray.size_append, quo_size] at h
  obtain ⟨⟨h3, h4⟩, h5⟩ := h
  have hq : bAt quo 0 = 34 := rfl
  have a0 : bAt t a = 34 := by have := h3.2 0 (by rw [quo_size]; omega); rw [Nat.add_zero] at this; rw [this]; exact hq
  have a1 : bAt t (a + 1 + s.size) = 34 := by have := h5.2 0 (by rw [quo_size]; omega); rw [Nat.add_zero, show a + (1 + s.size) = a + 1 + s.size by omega] at this; rw [this]; exact hq
  have hE := run_unique inS t s.size (a + 1) (a + 1 + s.size) rfl h4.le (fun i hi1 hi2 => by
    have := h4.2 (i - (a + 1)) (by omega)
    rw [show a + 1 + (i - (a + 1)) = i by omega] at this
    rw [this]
    have := allS_all _ _ h2 (i - (a + 1)) (by omega)
    rw [Nat.zero_add] at this; exact this) (by rw [a1]; rfl)
  unfold encStr
  rw [if_pos a0]
  simp only
  rw [hE, if_pos ⟨a1, by omega⟩, show a + 1 + s.size - (a + 1) = s.size by omega, h4.ext, ByteArray.size_append, ByteArray.size_append, quo_size]
  congr 2; omega
theorem pFrom_at {l : ByteArray} {c : Int} {i : Nat} (hb : bAt l i = c) : ∀ (m k : Nat), k ≤ i → i < k + m → (∀ j, k ≤ j → j < i → bAt l j ≠ c) → pFrom l c m k = i
  | 0, k, h1, h2, h3 => by omega
  | m + 1, k, h1, h2, h3 => by
    rw [pFrom]
    by_cases hk : k = i
    · subst hk; rw [if_pos hb]
    · rw [if_neg (h3 k (Nat.le_refl _) (by omega))]
      exact pFrom_at hb m (k + 1) (by omega) (by omega) (fun j hj1 hj2 => h3 j (by omega) hj2)
theorem pOf_at {l : ByteArray} {i : Nat} (hi : i < l.size) (hd : ∀ j, j < i → bAt l j ≠ bAt l i) : pOf l (bAt l i) = i := by
  unfold pOf; exact pFrom_at rfl l.size 0 (Nat.zero_le _) (by omega) (fun j _ hj => hd j hj)
end
section
open Go.RowKit

def sepT : List ByteArray → ByteArray
  | [] => ⟨#[93]⟩
  | x :: xs => ⟨#[44]⟩ ++ (x ++ sepT xs)
theorem itemsT_sep : ∀ (xs : List ByteArray) (k : Nat) (t : ByteArray), itemsT (k + 1) xs t = t ++ sepT xs
  | [], k, t => rfl
  | x :: xs, k, t => by
    rw [itemsT, if_pos (by omega), itemsT_sep xs (k + 1), sepT]
    simp only [ByteArray.append_assoc]
def recT : List (Nat × ByteArray) → ByteArray → ByteArray
  | [], _ => ⟨#[125]⟩
  | p :: ps, mk => (mk ++ (oneB p.1 ++ (⟨#[58]⟩ ++ p.2))) ++ recT ps ⟨#[44]⟩
theorem fldsT_rec : ∀ (ps : List (Nat × ByteArray)) (mk t : ByteArray), fldsT ps mk t = t ++ recT ps mk
  | [], mk, t => rfl
  | p :: ps, mk, t => by
    rw [fldsT, fldsT_rec ps, recT]
    simp only [ByteArray.append_assoc]
theorem at0 {t x : ByteArray} {j : Nat} (h : At t j x) (hx : 1 ≤ x.size) : bAt t j = bAt x 0 := by
  have := h.2 0 hx; rw [Nat.add_zero] at this; exact this
theorem first_app {x y : ByteArray} (h : 1 ≤ x.size) : bAt (x ++ y) 0 = bAt x 0 := bAt_app_left _ _ _ h
theorem sz1 (c : UInt8) : (⟨#[c]⟩ : ByteArray).size = 1 := rfl
theorem sepT_first (xs : List ByteArray) : (bAt (sepT xs) 0 = 93 ∨ bAt (sepT xs) 0 = 44) ∧ 1 ≤ (sepT xs).size := by
  cases xs with
  | nil => exact ⟨.inl rfl, Nat.le_refl _⟩
  | cons x xs =>
    rw [sepT]
    refine ⟨.inr ?_, by rw [ByteArray.size_append, sz1]; omega⟩
    rw [first_app (by rw [sz1]; omega)]; rfl
theorem recT_first (ps : List (Nat × ByteArray)) : (bAt (recT ps ⟨#[44]⟩) 0 = 125 ∨ bAt (recT ps ⟨#[44]⟩) 0 = 44) ∧ 1 ≤ (recT ps ⟨#[44]⟩).size := by
  cases ps with
  | nil => exact ⟨.inl rfl, Nat.le_refl _⟩
  | cons p ps =>
    rw [recT]
    have e : 1 ≤ (⟨#[44]⟩ ++ (oneB p.1 ++ (⟨#[58]⟩ ++ p.2)) : ByteArray).size := by rw [ByteArray.size_append, sz1]; omega
    refine ⟨.inr ?_, by rw [ByteArray.size_append]; omega⟩
    rw [first_app e, first_app (by rw [sz1]; omega)]; rfl
theorem DL_of {st : Bool} {b : Int} (h : b = 93 ∨ b = 44 ∨ b = 125 ∨ b = -1) : DL st b := by
  rcases h with rfl | rfl | rfl | rfl <;> exact ⟨rfl, fun _ => by omega⟩
/-- A text has a first byte, which no closing bracket is; of a type that is no ? it is no _. -/
theorem txt_first : ∀ (n : Nat) (ty : Ty) (v : Val), okV n ty v → tyG n ty → 1 ≤ (txtV n ty v).size ∧ bAt (txtV n ty v) 0 ≠ 93 ∧ (ty.kind ≠ 63 → bAt (txtV n ty v) 0 ≠ 95)
  | 0, ty, v, h, _ => h.elim
  | n + 1, ty, v, h, hg => by
    rcases h with ⟨x, rfl, h⟩ | ⟨s, rfl, h⟩ | ⟨i, rfl, h⟩ | ⟨vs, rfl, h⟩ | ⟨rfl, h⟩ | ⟨v, rfl, h⟩ | ⟨vs, rfl, h⟩
    · rw [txtV_num]
      unfold decI
      split
      · have e1 : 1 ≤ (⟨#[45]⟩ : ByteArray).size := Nat.le_refl _
        refine ⟨by rw [ByteArray.size_append]; omega, ?_, ?_⟩
        · rw [first_app e1]; decide
        · intro _; rw [first_app e1]; decide
      · have h1 := decS_pos 18 x.toNat
        have h2 := decS_dig 18 x.toNat 0 (by omega) h1
        exact ⟨h1, by omega, fun _ => by omega⟩
    · rw [txtV_str]
      have e : bAt (quo ++ s ++ quo) 0 = 34 := by rw [first_app (by rw [ByteArray.size_append, quo_size]; omega), first_app (by rw [quo_size]; omega)]; rfl
      exact ⟨by rw [ByteArray.size_append, ByteArray.size_append, quo_size]; omega, by omega, fun _ => by omega⟩
    · rw [txtV_cho]
      have hl := isL_bd ((hg.1 h.1 i h.2.1).1)
      have e : bAt (oneB (bAt ty.letters i).toNat) 0 = bAt ty.letters i := by rw [bAt_one _ (by omega)]; omega
      exact ⟨by rw [oneB_size]; omega, by omega, fun _ => by omega⟩
    · rw [txtV_lst]
      have e : 1 ≤ (itemsT 0 (vs.map (txtV n ty.in)) ⟨#[91]⟩).size ∧ bAt (itemsT 0 (vs.map (txtV n ty.in)) ⟨#[91]⟩) 0 = 91 := by
        cases vs with
        | nil => exact ⟨by show 1 ≤ (⟨#[91]⟩ ++ ⟨#[93]⟩ : ByteArray).size; decide, rfl⟩
        | cons v vs =>
          rw [List.map_cons, itemsT, itemsT_sep]
          simp only [Nat.lt_irrefl, if_false]
          have e1 : 1 ≤ (⟨#[91]⟩ ++ txtV n ty.in v : ByteArray).size := by rw [ByteArray.size_append, sz1]; omega
          refine ⟨by rw [ByteArray.size_append]; omega, ?_⟩
          rw [first_app e1, first_app (by rw [sz1]; omega)]; rfl
      exact ⟨e.1, by omega, fun _ => by omega⟩
    · rw [txtV_non]
      exact ⟨Nat.le_refl _, by decide, fun hk => absurd h hk⟩
    · rw [txtV_som]
      have := txt_first n ty.in v h.2 (hg.2.2.1 (.inr h.1))
      exact ⟨this.1, this.2.1, fun hk => absurd h.1 hk⟩
    · rw [txtV_rcd, fldsT_rec, ByteArray.empty_append]
      rcases hf : ty.fields with _ | ⟨g, fs⟩
      · exact absurd hf h.2.1
      · rcases vs with _ | ⟨v, vs⟩
        · rw [hf] at h; simp at h
        · rw [List.zip_cons_cons, List.map_cons, recT]
          have e : ∀ y : ByteArray, 1 ≤ (⟨#[123]⟩ ++ y : ByteArray).size := fun y => by rw [ByteArray.size_append, sz1]; omega
          have e1 : ∀ y z : ByteArray, bAt ((⟨#[123]⟩ ++ y : ByteArray) ++ z) 0 = 123 := fun y z => by rw [first_app (e y), first_app (by rw [sz1]; omega)]; rfl
          rw [e1]
          exact ⟨by rw [ByteArray.size_append, ByteArray.size_append, sz1]; omega, by omega, fun _ => by omega⟩
theorem encItems_at {st : Bool} {t : ByteArray} {f : Nat → Option (ByteArray × Nat)} {dv tv : Val → ByteArray} : ∀ (us : List Val) (v : Val) (m c b : Nat) (d : ByteArray), us.length < m → (∀ u, u = v ∨ u ∈ us → ∀ j, At t j (tv u) → DL st (bAt t (j + (tv u).size)) → f j = some (dv u, j + (tv u).size)) →
    At t (b + 1) (tv v ++ sepT (us.map tv)) → encItems f t m c b d = some (oneB (c + us.length) ++ (d ++ (dv v ++ catB (us.map dv))), b + 1 + (tv v ++ sepT (us.map tv)).size)
  | us, v, 0, c, b, d, hm, hf, h => by omega
  | [], v, m + 1, c, b, d, hm, hf, h => by
    rw [At.app] at h
    have h1 : bAt t (b + 1 + (tv v).size) = 93 := by rw [at0 h.2 (Nat.le_refl _)]; rfl
    rw [encItems, hf v (.inl rfl) (b + 1) h.1 (by rw [h1]; exact DL_of (.inl rfl))]
    simp only
    rw [if_pos h1, ByteArray.size_append]
    simp [catB, sepT]
    rfl
  | u :: us, v, m + 1, c, b, d, hm, hf, h => by
    rw [At.app] at h
    have h0 := h
    rw [List.map_cons, sepT, At.app, sz1] at h0
    have h1 : bAt t (b + 1 + (tv v).size) = 44 := by rw [at0 h0.2.1 (Nat.le_refl _)]; rfl
    rw [encItems, hf v (.inl rfl) (b + 1) h.1 (by rw [h1]; exact DL_of (.inr (.inl rfl)))]
    simp only
    rw [if_neg (by rw [h1]; omega), if_pos h1, encItems_at us u m (c + 1) _ _ (by simp at hm; omega) (fun w hw => hf w (.inr (by rcases hw with rfl | hw <;> simp [*]))) h0.2.2]
    congr 2
    · rw [List.length_cons, List.map_cons, catB, show c + 1 + us.length = c + (us.length + 1) by omega]
      simp only [ByteArray.append_assoc]
    · rw [List.map_cons, sepT]
      simp only [ByteArray.size_append, sz1]; omega
theorem encFlds_at {st : Bool} {t : ByteArray} {f : Ty → Nat → Option (ByteArray × Nat)} {dv : Val → ByteArray} {tv : Ty → Val → ByteArray} : ∀ (fs : List (Nat × Ty × ByteArray)) (vs : List Val) (mk : UInt8) (b : Nat) (d : ByteArray), vs.length = fs.length → (∀ g ∈ fs, g.1 < 256) →
    (∀ p ∈ fs.zip vs, ∀ j, At t j (tv p.1.2.1 p.2) → DL st (bAt t (j + (tv p.1.2.1 p.2).size)) → f p.1.2.1 j = some (dv p.2, j + (tv p.1.2.1 p.2).size)) →
    At t b (recT ((fs.zip vs).map fun p => (p.1.1, tv p.1.2.1 p.2)) ⟨#[mk]⟩) → encFlds f t fs (mk.toNat : Int) b d = some (d ++ catB (vs.map dv), b + (recT ((fs.zip vs).map fun p => (p.1.1, tv p.1.2.1 p.2)) ⟨#[mk]⟩).size) ∨ fs = []
  | [], vs, mk, b, d, hl, hg, hf, h => .inr rfl
  | g :: fs, [], mk, b, d, hl, hg, hf, h => by simp at hl
  | g :: fs, v :: vs, mk, b, d, hl, hg, hf, h => by
    left
    simp only [List.zip_cons_cons, List.map_cons, recT] at h ⊢
    have h256 := hg g (by simp)
    have h0 := h
    rw [At.app, At.app, At.app, At.app, At.one h256] at h0
    simp only [ByteArray.size_append, sz1, oneB_size] at h0
    obtain ⟨⟨h1, h2, h3, h4⟩, h5⟩ := h0
    have b0 : bAt t b = (mk.toNat : Int) := by rw [at0 h1 (Nat.le_refl _)]; rfl
    have b2 : bAt t (b + 2) = 58 := by have := at0 h3 (Nat.le_refl _); rw [show b + 1 + 1 = b + 2 by omega] at this; rw [this]; rfl
    have hfirst := recT_first ((fs.zip vs).map fun p => (p.1.1, tv p.1.2.1 p.2))
    rw [show b + 1 + 1 + 1 = b + 3 by omega] at h4
    rw [show b + (1 + (1 + (1 + (tv g.2.1 v).size))) = b + 3 + (tv g.2.1 v).size by omega] at h5
    have hnext : bAt t (b + 3 + (tv g.2.1 v).size) = 125 ∨ bAt t (b + 3 + (tv g.2.1 v).size) = 44 := by rw [at0 h5 hfirst.2]; exact hfirst.1
    rw [encFlds, if_pos ⟨b0, h2, b2⟩, hf (g, v) (by simp) (b + 3) h4 (DL_of (by rcases hnext with h | h; exact .inr (.inr (.inl h)); exact .inr (.inl h)))]
    simp only
    have hsz : (⟨#[mk]⟩ ++ (oneB g.1 ++ (⟨#[58]⟩ ++ tv g.2.1 v)) ++ recT ((fs.zip vs).map fun p => (p.1.1, tv p.1.2.1 p.2)) ⟨#[44]⟩ : ByteArray).size = 3 + (tv g.2.1 v).size + (recT ((fs.zip vs).map fun p => (p.1.1, tv p.1.2.1 p.2)) ⟨#[44]⟩).size := by
      simp only [ByteArray.size_append, sz1, oneB_size]; omega
    rw [hsz]
    rcases encFlds_at (st := st) fs vs 44 (b + 3 + (tv g.2.1 v).size) (d ++ dv v) (by simpa using hl) (fun g' h' => hg g' (by simp [h'])) (fun p hp => hf p (by simp [hp])) h5 with e | e
    · rw [show ((44 : UInt8).toNat : Int) = 44 from rfl] at e
      rw [e, catB]
      congr 2
      · simp only [ByteArray.append_assoc]
      · omega
    · subst e
      obtain rfl : vs = [] := by simpa using hl
      have h125 : bAt t (b + 3 + (tv g.2.1 v).size) = 125 := by rw [at0 h5 hfirst.2]; rfl
      rw [encFlds, if_pos h125]
      simp only [List.zip_nil_left, List.map_nil, recT, catB, sz1, ByteArray.append_empty]
      congr 2
      omega
/-- A value's text is encoded as its data. -/
theorem enc_at {st : Bool} {t : ByteArray} : ∀ (n : Nat) (ty : Ty) (v : Val) (j : Nat), okV n ty v → tyG n ty → At t j (txtV n ty v) → DL st (bAt t (j + (txtV n ty v).size)) → enc st t n ty j = some (datV n v, j + (txtV n ty v).size)
  | 0, ty, v, j, hv, _, _, _ => hv.elim
  | n + 1, ty, v, j, hv, hg, h, hd => by
    have ih := enc_at (st := st) (t := t) n
    have hv0 := hv
    rcases hv with ⟨x, rfl, hv⟩ | ⟨s, rfl, hv⟩ | ⟨i, rfl, hv⟩ | ⟨vs, rfl, hv⟩ | ⟨rfl, hv⟩ | ⟨v, rfl, hv⟩ | ⟨vs, rfl, hv⟩
    · rw [txtV_num] at h hd ⊢
      rw [datV_num]
      rcases hv with ⟨hk, h1, h2⟩ | ⟨hk, h1, h2⟩
      · rw [enc, if_pos hk, encNum_at (by omega) (by omega) h1 h2 h hd]
      · rw [enc, if_neg (by omega), if_pos hk, encNum_at (by omega) (by omega) h1 h2 h hd]
    · rw [txtV_str] at h hd ⊢
      rw [datV_str, enc, if_neg (by omega), if_neg (by omega), if_pos hv.1, encStr_at hv.2.1 hv.2.2 h]
    · have hl := hg.1 hv.1 i hv.2.1
      have hl2 := isL_bd hl.1
      rw [txtV_cho] at h hd ⊢
      rw [At.one (by omega)] at h
      rw [datV_cho, enc, if_neg (by omega), if_neg (by omega), if_neg (by omega), if_pos hv.1]
      have hb : bAt t j = bAt ty.letters i := by omega
      rw [hb, pOf_at hv.2.1 hl.2, if_neg (by omega), oneB_size]
      rfl
    · rw [txtV_lst] at h hd ⊢
      rw [datV_lst, enc, if_neg (by omega), if_neg (by omega), if_neg (by omega), if_neg (by omega), if_pos hv.1]
      unfold encList
      cases vs with
      | nil =>
        simp only [List.map_nil, itemsT] at h hd ⊢
        rw [At.app, sz1] at h
        have b0 : bAt t j = 91 := by rw [at0 h.1 (Nat.le_refl _)]; rfl
        have b1 : bAt t (j + 1) = 93 := by rw [at0 h.2 (Nat.le_refl _)]; rfl
        rw [if_pos b0, if_pos b1]
        simp [catB]
        rfl
      | cons v vs =>
        simp only [List.map_cons, itemsT, itemsT_sep, Nat.lt_irrefl, if_false, ByteArray.append_assoc] at h hd ⊢
        rw [At.app, sz1] at h
        have b0 : bAt t j = 91 := by rw [at0 h.1 (Nat.le_refl _)]; rfl
        have hf := txt_first n ty.in v (hv.2.2 v (by simp)) (hg.2.2.1 (.inl hv.1))
        have b1 : bAt t (j + 1) ≠ 93 := by rw [at0 (At.app.1 h.2).1 hf.1]; exact hf.2.1
        have hl16 : vs.length < 16 := by have := hv.2.1; simp at this; omega
        rw [if_pos b0, if_neg b1, encItems_at (st := st) (dv := datV n) (tv := txtV n ty.in) vs v 16 1 j _ hl16 (fun u hu j h hd => ih ty.in u j (hv.2.2 u (by rcases hu with rfl | hu <;> simp [*])) (hg.2.2.1 (.inl hv.1)) h hd) h.2]
        rw [ByteArray.size_append (a := ⟨#[91]⟩), sz1, List.length_cons, catB, ByteArray.empty_append, Nat.add_comm 1 vs.length, Nat.add_assoc]
    · rw [txtV_non] at h hd ⊢
      have b0 : bAt t j = 95 := by rw [at0 h (Nat.le_refl _)]; rfl
      rw [datV_non, enc, if_neg (by omega), if_neg (by omega), if_neg (by omega), if_neg (by omega), if_neg (by omega), if_pos hv]
      unfold encMaybe
      rw [if_pos b0]; rfl
    · rw [txtV_som] at h hd ⊢
      have hgi := hg.2.2.1 (.inr hv.1)
      have hf := txt_first n ty.in v hv.2 hgi
      have b0 : bAt t j ≠ 95 := by rw [at0 h hf.1]; exact hf.2.2 (hg.2.1 hv.1)
      rw [datV_som, enc, if_neg (by omega), if_neg (by omega), if_neg (by omega), if_neg (by omega), if_neg (by omega), if_pos hv.1]
      unfold encMaybe
      rw [if_neg b0, ih ty.in v j hv.2 hgi h hd]
    · rw [txtV_rcd, fldsT_rec, ByteArray.empty_append] at h hd ⊢
      rw [datV_rcd, enc, if_neg (by omega), if_neg (by omega), if_neg (by omega), if_neg (by omega), if_neg (by omega), if_neg (by omega), if_pos hv.1]
      rcases encFlds_at (st := st) (t := t) (f := enc st t n) (dv := datV n) (tv := txtV n) ty.fields vs 123 j ByteArray.empty hv.2.2.1 (fun g hg' => (hg.2.2.2 g hg').1) (fun p hp j h hd => ih p.1.2.1 p.2 j (hv.2.2.2 p hp) (hg.2.2.2 p.1 (List.of_mem_zip (a := p.1) (b := p.2) hp).1).2 h hd) h with e | e
      · rw [show ((123 : UInt8).toNat : Int) = 123 from rfl] at e
        rw [e, ByteArray.empty_append]
      · exact absurd e hv.2.1
end
section
set_option maxRecDepth 4000
open Go.RowKit

/-- The parts of a type that a schema tells at a place. -/
theorem type_parts {s : ByteArray} {n i k : Nat} {ty : Ty} (h : pType true s n i = some (ty, k)) : bAt s i = ty.kind ∧ ∃ n', n = n' + 1 ∧
    (ty.kind = 60 → rChoice s (i + 1) = some (ty, k)) ∧ (ty.kind = 91 ∨ ty.kind = 63 → ∃ k', pType true s n' (i + 1) = some (ty.in, k')) ∧ (ty.kind = 63 → ty.in.kind ≠ 63) ∧
    (ty.kind = 123 → ∃ k', pFlds (pField (pType true s n') (enc true s n') s) s (s.size - (i + 1)) (i + 1) [] = some (ty.fields, k')) ∧ (ty.kind = 105 ∨ ty.kind = 108 ∨ ty.kind = 115 ∨ ty.kind = 60 ∨ ty.kind = 91 ∨ ty.kind = 63 ∨ ty.kind = 123) := by
  cases n with
  | zero => simp [pType] at h
  | succ n =>
    have his : i < s.size := by have := pType_bd true s _ _ _ _ h; omega
    rw [pType] at h
    split at h
    · rename_i hb; cases h; exact ⟨hb, n, rfl, (fun h => by cases h), (fun h => by rcases h with h | h <;> cases h), (fun h => by cases h), (fun h => by cases h), .inl rfl⟩
    · split at h
      · rename_i hb; cases h; exact ⟨hb, n, rfl, (fun h => by cases h), (fun h => by rcases h with h | h <;> cases h), (fun h => by cases h), (fun h => by cases h), .inr (.inl rfl)⟩
      · split at h
        · rename_i hb; cases h; exact ⟨hb, n, rfl, (fun h => by cases h), (fun h => by rcases h with h | h <;> cases h), (fun h => by cases h), (fun h => by cases h), .inr (.inr (.inl rfl))⟩
        · split at h
          · rename_i hb
            rw [pChoice_eq s (i + 1) (by omega)] at h
            have hk := (rChoice_form h).1
            rw [hb, hk]
            exact ⟨rfl, n, rfl, fun _ => h, (fun h => by omega), (fun h => by omega), (fun h => by omega), by omega⟩
          · split at h
            · rename_i hb
              unfold pList at h
              split at h
              · cases h
              · rename_i t k' ht
                split at h
                · cases h
                  exact ⟨hb, n, rfl, (fun h => by cases h), fun _ => ⟨k', ht⟩, (fun h => by cases h), (fun h => by cases h), .inr (.inr (.inr (.inr (.inl rfl))))⟩
                · cases h
            · split at h
              · rename_i hb
                unfold pMaybe at h
                split at h
                · cases h
                · rename_i t k' ht
                  split at h
                  · cases h
                  · rename_i hne
                    cases h
                    exact ⟨hb, n, rfl, (fun h => by cases h), fun _ => ⟨_, ht⟩, fun _ => hne, (fun h => by cases h), .inr (.inr (.inr (.inr (.inr (.inl rfl)))))⟩
              · split at h
                · rename_i hb
                  unfold pRec at h
                  split at h
                  · cases h
                  · rename_i fs k' hfs
                    cases h
                    exact ⟨hb, n, rfl, (fun h => by cases h), (fun h => by rcases h with h | h <;> cases h), (fun h => by cases h), fun _ => ⟨_, hfs⟩, .inr (.inr (.inr (.inr (.inr (.inr rfl)))))⟩
                · cases h
theorem rChoice_op {s : ByteArray} {a k : Nat} {ty : Ty} (ha : a ≤ s.size) (h : rChoice s a = some (ty, k)) : ty.letters = s.extract a (runEnd isL s (s.size - a) a) ∧ runEnd isL s (s.size - a) a = a + ty.letters.size ∧ 1 ≤ ty.letters.size ∧ ty.letters.size ≤ 8 ∧ ty.op = (bAt s (a + ty.letters.size) == 43) := by
  obtain ⟨_, h2, h3⟩ := rChoice_form h
  have hle := run_le isL s (s.size - a) a
  have hsz : ty.letters.size = runEnd isL s (s.size - a) a - a := by rw [h2, ByteArray.size_extract]; omega
  unfold rChoice at h
  simp only at h
  generalize hE : runEnd isL s (s.size - a) a = E at h hle hsz h2
  split at h
  · cases h
  · rename_i hc
    have he : E = a + ty.letters.size := by omega
    refine ⟨h2, he, by omega, h3, ?_⟩
    rw [← he]
    split at h
    · rename_i h43
      split at h
      · simp only [Option.some.injEq, Prod.mk.injEq] at h; rw [← h.1, h43]; rfl
      · cases h
    · rename_i h43
      split at h
      · simp only [Option.some.injEq, Prod.mk.injEq] at h; rw [← h.1]; simp [h43]
      · cases h

set_option maxHeartbeats 1000000 in
theorem open_any {s : ByteArray} {i k : Nat} {ty : Ty} (hs : s.size ≤ 4096) (hi : i < s.size) (h : rChoice s (i + 1) = some (ty, k)) (w : World) :
    Calls Tryd.prog 82 #[.string s, .int .i64 i] w fun e w' => e = .returned (.bool ty.op) ∧ w = w' := by
  have _hs : s.size ≤ 9000000 := by omega
  obtain ⟨h1, h2, h3, h4, h5⟩ := rChoice_op (by omega) h
  have hl : ∀ w, Calls Tryd.prog 36 #[.string s, .int .i64 i] w fun e w' => e = .returned (.string ty.letters) ∧ w = w' := fun w => by rw [h1]; exact flipW (letters_any s i w _hs hi)
  have hat : ∀ w, Calls Tryd.prog 61 #[.string s, .int .i64 ((i : Int) + 1 + (ty.letters.size : Int)), .int .u8 43] w fun e w' => e = .returned (.bool ty.op) ∧ w = w' := fun w => by
    have := flipW (at_any s ((i : Int) + 1 + (ty.letters.size : Int)) 43 w (by omega) _hs)
    rw [atB_of (i := i + 1 + ty.letters.size) (by omega), ← h5] at this; exact this
  clear h h1 h2 h5
  go_enter Tryd.func82, Tryd.ntmps82
  go_wp2_with (first | (go_at_call 36; refine (hl _).mono ?_; rintro e _ ⟨rfl, rfl⟩) | (go_at_call 61; refine (hat _).mono ?_; rintro e _ ⟨rfl, rfl⟩))
  go_ret
  exact ⟨rfl, rfl⟩

def sRet : Option ByteArray → Value
  | some t => .tuple #[.string t, .bool true]
  | none => .tuple #[.string ByteArray.empty, .bool false]
set_option maxHeartbeats 1000000 in
theorem seenChoice_any {s : ByteArray} {i k : Nat} {ty : Ty} (hs : s.size ≤ 4096) (hi : i < s.size) (h : rChoice s (i + 1) = some (ty, k)) (c : Nat) (hc : c < 256) (w : World) :
    Calls Tryd.prog 46 #[.int .u8 c, .string s, .int .i64 i] w fun e w' => e = .returned (sRet (if pOf ty.letters c < 0 then (if ty.op = true then some (ty.letters.extract 0 1) else none) else some (oneB c))) ∧ Below w.heap.size w w' := by
  have _hs : s.size ≤ 9000000 := by omega
  have ho := fun w => open_any hs hi h w
  obtain ⟨h1, h2, h3, h4, h5⟩ := rChoice_op (by omega) h
  have hl : ∀ w, Calls Tryd.prog 36 #[.string s, .int .i64 i] w fun e w' => e = .returned (.string ty.letters) ∧ w = w' := fun w => by rw [h1]; exact flipW (letters_any s i w _hs hi)
  obtain ⟨L, hL⟩ : ∃ L, L = ty.letters := ⟨_, rfl⟩
  rw [← hL] at h3 h4 hl ⊢
  obtain ⟨o, hO⟩ : ∃ o, o = ty.op := ⟨_, rfl⟩
  rw [← hO] at ho ⊢
  have HP : Hid (pOf L c = pFrom L c (L.size - 0) 0) := rfl
  obtain ⟨O, hOO⟩ : ∃ O, O = (if pOf L c < 0 then (if o = true then some (L.extract 0 1) else none) else some (oneB c) : Option ByteArray) := ⟨_, rfl⟩
  rw [← hOO]
  have HO : Hid (O = (if pOf L c < 0 then (if o = true then some (L.extract 0 1) else none) else some (oneB c) : Option ByteArray)) := hOO
  clear hOO
  clear h h1 h2 h5 hL hO
  go_enter Tryd.func46, Tryd.ntmps46
  go_wp2_with (first | (go_at_call 36; refine (hl _).mono ?_; rintro e _ ⟨rfl, rfl⟩) | (go_at_call 82; refine (ho _).mono ?_; rintro e _ ⟨rfl, rfl⟩))
  go_loop [10] (fun v => ∃ x : Nat, x ≤ L.size ∧ v = .int .i64 x ∧ Hid (pOf L c = pFrom L c (L.size - x) x)) (fun v => L.size - (intOf v).toNat)
  case atStart => exact ⟨0, Nat.zero_le _, rfl, HP⟩
  case round =>
    obtain ⟨x, hx, rfl, hp⟩ := hrel
    by_cases hlt : x < L.size
    · have hbx : Hid (bAt L x = L[x].toNat) := bAt_in L x hlt
      by_cases heq : L[x].toNat = c
      · have heq' : ((L[x].toNat : Int) == (c : Int)) = true := by simp [heq]
        have hr' : Hid (O = some (L.extract x (x + 1))) := by
          show _ = _
          rw [HO.out, pFrom_hit L c x hp.out hlt (by rw [hbx.out, heq]), if_neg (by omega), extract_oneB L x hlt, hbx.out, heq]; rfl
        clear heq
        go_wp2_with fail
        go_ret2
        rw [hr'.out]
        exact ⟨rfl, Below.refl _ _⟩
      · have heq' : ((L[x].toNat : Int) == (c : Int)) = false := by simp; omega
        have hp2 : Hid (pOf L c = pFrom L c (L.size - (x + 1)) (x + 1)) := pFrom_miss L c x hp.out hlt (by rw [hbx.out]; omega)
        go_wp2_with fail
        go_round
        case rel => exact ⟨x + 1, by omega, by go_num, hp2⟩
        case measure => simp [intOf]; omega
    · have hno : pOf L c = -1 := pFrom_end L c x hp.out hlt
      have h0 : (0 : Int) < (L.size : Int) := by omega
      cases o with
      | true =>
        have hr' : Hid (O = some (L.extract 0 1)) := by show _ = _; rw [HO.out, if_pos (by omega)]; rfl
        clear hno
        go_wp2_with fail
        go_ret2
        rw [hr'.out]
        exact ⟨rfl, Below.refl _ _⟩
      | false =>
        have hr' : Hid (O = none) := by show _ = _; rw [HO.out, if_pos (by omega)]; rfl
        clear hno
        go_wp2_with fail
        go_ret2
        rw [hr'.out]
        exact ⟨rfl, Below.refl _ _⟩
end
section
open Go.RowKit

/-- The letters of the fields of records are different, all the way down. -/
def tyN : Nat → Ty → Prop
  | 0, _ => True
  | n + 1, ty => (ty.fields.map (·.1)).Nodup ∧ (ty.kind = 91 ∨ ty.kind = 63 → tyN n ty.in) ∧ ∀ f ∈ ty.fields, tyN n f.2.1
theorem pFlds_G {pf : Nat → Option ((Nat × Ty × ByteArray) × Nat)} {s : ByteArray} {Q : (Nat × Ty × ByteArray) → Prop} (hp : ∀ i f k, pf i = some (f, k) → Q f) :
    ∀ (m a : Nat) (acc fs : List (Nat × Ty × ByteArray)) (k : Nat), pFlds pf s m a acc = some (fs, k) → (∀ f ∈ acc, Q f) → (acc.map (·.1)).Nodup → (∀ f ∈ fs, Q f) ∧ (fs.map (·.1)).Nodup
  | 0, a, acc, fs, k, h, _, _ => by simp [pFlds] at h
  | m + 1, a, acc, fs, k, h, hq, hn => by
    rw [pFlds] at h
    split at h
    · cases h
    · rename_i f k' hf
      split at h
      · cases h
      · rename_i hany
        have hq' : ∀ g ∈ acc ++ [f], Q g := fun g hg => by
          rcases List.mem_append.1 hg with hg | hg
          · exact hq g hg
          · rw [List.mem_singleton.1 hg]; exact hp _ _ _ hf
        have hn' : ((acc ++ [f]).map (·.1)).Nodup := by
          rw [List.map_append, List.nodup_append]
          refine ⟨hn, by simp, fun a ha b hb => ?_⟩
          obtain ⟨g, hg, rfl⟩ := List.mem_map.1 ha
          simp at hb
          subst hb
          intro he
          apply hany
          rw [List.any_eq_true]
          exact ⟨g, hg, by simp [he]⟩
        split at h
        · cases h; exact ⟨hq', hn'⟩
        · split at h
          · exact pFlds_G hp m _ _ _ _ h hq' hn'
          · cases h
theorem type_good {s : ByteArray} : ∀ (n i : Nat) (ty : Ty) (k : Nat), pType true s n i = some (ty, k) → tyG n ty ∧ tyN n ty
  | 0, i, ty, k, h => by simp [pType] at h
  | n + 1, i, ty, k, h => by
    have ih := type_good (s := s) n
    have his : i < s.size := by have := pType_bd true s _ _ _ _ h; omega
    obtain ⟨_, n', hn, h60, hin, hne, h123, hk⟩ := type_parts h
    obtain rfl : n' = n := by omega
    have hfs : (∀ f ∈ ty.fields, f.1 < 256 ∧ tyG n' f.2.1 ∧ tyN n' f.2.1) ∧ (ty.fields.map (·.1)).Nodup := by
      by_cases h3 : ty.kind = 123
      · obtain ⟨k', hk'⟩ := h123 h3
        exact pFlds_G (Q := fun f => f.1 < 256 ∧ tyG n' f.2.1 ∧ tyN n' f.2.1) (fun i f k hf => by
          have h256 := pField_256 hf
          unfold pField at hf
          split at hf
          · split at hf
            · cases hf
            · rename_i t k' ht
              have h1 := ih _ _ _ ht
              split at hf
              · split at hf
                · cases hf
                · cases hf; exact ⟨h256, h1.1, h1.2⟩
              · cases hf; exact ⟨h256, h1.1, h1.2⟩
          · cases hf) _ _ _ _ _ hk' (fun f hf => absurd hf List.not_mem_nil) (by simp)
      · have : ty.fields = [] := by
          rw [pType] at h
          split at h
          · cases h; rfl
          · split at h
            · cases h; rfl
            · split at h
              · cases h; rfl
              · split at h
                · rw [pChoice_eq s (i + 1) (by omega)] at h
                  unfold rChoice at h
                  simp only at h
                  split at h
                  · cases h
                  · split at h
                    · split at h
                      · cases h; rfl
                      · cases h
                    · split at h
                      · cases h; rfl
                      · cases h
                · split at h
                  · unfold pList at h
                    split at h
                    · cases h
                    · split at h
                      · cases h; rfl
                      · cases h
                  · split at h
                    · unfold pMaybe at h
                      split at h
                      · cases h
                      · split at h
                        · cases h
                        · cases h; rfl
                    · split at h
                      · unfold pRec at h
                        split at h
                        · cases h
                        · cases h; exact absurd rfl h3
                      · cases h
        rw [this]
        exact ⟨fun f hf => absurd hf List.not_mem_nil, by simp⟩
    have hinn : ty.kind = 91 ∨ ty.kind = 63 → tyG n' ty.in ∧ tyN n' ty.in := fun h => by
      obtain ⟨k', hk'⟩ := hin h
      exact ih _ _ _ hk'
    refine ⟨⟨fun h6 j hj => ?_, hne, fun h => (hinn h).1, fun f hf => ⟨(hfs.1 f hf).1, (hfs.1 f hf).2.1⟩⟩, hfs.2, fun h => (hinn h).2, fun f hf => (hfs.1 f hf).2.2⟩
    have hr := h60 h6
    obtain ⟨l1, l2, l3, l4, l5⟩ := rChoice_op (by omega) hr
    have hle := run_le isL s (s.size - (i + 1)) (i + 1)
    have hb : ∀ q, q < ty.letters.size → bAt ty.letters q = bAt s (i + 1 + q) := fun q hq => by
      rw [l1, bAt_ext s (i + 1) _ q (by omega) (by omega)]
    constructor
    · rw [hb j hj]
      exact run_all isL s (s.size - (i + 1)) (i + 1) (i + 1 + j) (by omega) (by omega)
    · intro q hq he
      unfold rChoice at hr
      simp only at hr
      split at hr
      · cases hr
      · rename_i hc
        apply hc
        refine .inr (.inr ?_)
        rw [← l1]
        exact tw_true hq hj he.symm
theorem rdItems_txt {f : Val → Option ByteArray} {tv : Val → ByteArray} : ∀ (vs : List Val) (k : Nat) (t : ByteArray), (∀ v ∈ vs, f v = some (tv v)) → rdItems f vs k t = some (itemsT k (vs.map tv) t)
  | [], k, t, h => rfl
  | v :: vs, k, t, h => by
    rw [rdItems, h v (by simp)]
    simp only
    rw [rdItems_txt vs (k + 1) _ (fun v hv => h v (by simp [hv])), List.map_cons, itemsT]
theorem rdFlds_txt {f : Nat × Ty × ByteArray → Option ByteArray} {tv : Ty → Val → ByteArray} : ∀ (fs : List (Nat × Ty × ByteArray)) (vs : List Val) (mk t : ByteArray), vs.length = fs.length → (∀ p ∈ fs.zip vs, f p.1 = some (tv p.1.2.1 p.2)) → rdFlds f fs mk t = some (fldsT ((fs.zip vs).map fun p => (p.1.1, tv p.1.2.1 p.2)) mk t)
  | [], vs, mk, t, hl, h => by cases vs <;> rfl
  | g :: fs, [], mk, t, hl, h => by simp at hl
  | g :: fs, v :: vs, mk, t, hl, h => by
    rw [rdFlds, h (g, v) (by simp)]
    simp only
    rw [rdFlds_txt fs vs _ _ (by simpa using hl) (fun p hp => h p (by simp [hp])), List.zip_cons_cons, List.map_cons, fldsT]
theorem find_self : ∀ (fs : List (Nat × Ty × ByteArray)) (vs : List Val), vs.length = fs.length → (fs.map (·.1)).Nodup → ∀ p ∈ fs.zip vs, (fs.zip vs).find? (fun q => q.1.1 == p.1.1) = some p
  | [], vs, hl, hn, p, hp => by simp at hp
  | g :: fs, [], hl, hn, p, hp => by simp at hl
  | g :: fs, v :: vs, hl, hn, p, hp => by
    rw [List.zip_cons_cons] at hp ⊢
    rw [List.map_cons, List.nodup_cons] at hn
    rw [List.find?_cons]
    rcases List.mem_cons.1 hp with rfl | hp
    · simp
    · have hne : ((g, v).1.1 == p.1.1) = false := by
        have : p.1 ∈ fs := (List.of_mem_zip (a := p.1) (b := p.2) hp).1
        have h2 : g.1 ≠ p.1.1 := fun he => hn.1 (List.mem_map.2 ⟨p.1, this, he.symm⟩)
        simpa using h2
      rw [hne]
      exact find_self fs vs (by simpa using hl) hn.2 p hp
/-- A value is read by its own type as it is. -/
theorem rd_self : ∀ (n m : Nat) (ty : Ty) (v : Val), okV n ty v → tyG n ty → tyN n ty → n + n ≤ m → rdT m ty ty v = some (txtV n ty v)
  | 0, m, ty, v, h, _, _, _ => h.elim
  | n + 1, 0, ty, v, h, _, _, hm => by omega
  | n + 1, 1, ty, v, h, _, _, hm => by omega
  | n + 1, m + 2, ty, v, h, hg, hn, hm => by
    show rdStep (rdT (m + 1)) ty ty v = _
    unfold rdStep
    rcases h with ⟨x, rfl, h⟩ | ⟨s, rfl, h⟩ | ⟨i, rfl, h⟩ | ⟨vs, rfl, h⟩ | ⟨rfl, h⟩ | ⟨u, rfl, h⟩ | ⟨vs, rfl, h⟩
    · rw [if_neg (by omega), if_neg (by omega), if_pos (by rcases h with h | h <;> simp [sameK, h.1])]; rfl
    · rw [if_neg (by omega), if_neg (by omega), if_pos (by simp [sameK, h.1])]; rfl
    · rw [if_neg (by omega), if_neg (by omega), if_neg (by simp [sameK, h.1]), if_neg (by simp)]
      show rdCho ty.letters ty.letters ty.op i = _
      unfold rdCho
      rw [pOf_at h.2.1 (hg.1 h.1 i h.2.1).2, if_neg (by omega), txtV_cho]
    · rw [if_neg (by omega), if_neg (by omega), if_neg (by simp [sameK, h.1]), if_neg (by simp)]
      show rdItems (rdT (m + 1) ty.in ty.in) vs 0 ⟨#[91]⟩ = _
      rw [rdItems_txt (tv := txtV n ty.in) vs 0 _ (fun v hv => rd_self n (m + 1) ty.in v (h.2.2 v hv) (hg.2.2.1 (.inl h.1)) (hn.2.1 (.inl h.1)) (by omega)), txtV_lst]
    · rw [if_pos h]
      show (if ty.kind = 63 then some (⟨#[95]⟩ : ByteArray) else none) = _
      rw [if_pos h]; rfl
    · rw [if_pos h.1]
      show rdStep (rdT m) ty.in ty u = _
      unfold rdStep
      rw [if_neg (hg.2.1 h.1), if_pos h.1, rd_self n m ty.in u h.2 (hg.2.2.1 (.inr h.1)) (hn.2.1 (.inr h.1)) (by omega), txtV_som]
    · rw [if_neg (by omega), if_neg (by omega), if_neg (by simp [sameK, h.1]), if_neg (by simp)]
      show rdFlds (rdFld (rdT (m + 1)) (ty.fields.zip vs)) ty.fields ⟨#[123]⟩ ByteArray.empty = _
      rw [rdFlds_txt (tv := txtV n) ty.fields vs _ _ h.2.2.1 (fun p hp => by
        unfold rdFld
        rw [find_self ty.fields vs h.2.2.1 hn.1 p hp]
        have hpf := (List.of_mem_zip (a := p.1) (b := p.2) hp).1
        exact rd_self n (m + 1) p.1.2.1 p.2 (h.2.2.2 p hp) (hg.2.2.2 p.1 hpf).2 (hn.2.2 p.1 hpf) (by omega)), txtV_rcd]
end
section
set_option maxRecDepth 4000
open Go.RowKit

def outU : Option ByteArray → ByteArray
  | none => ByteArray.empty
  | some t => t
theorem uR_eq (o : Option ByteArray) : uR o = .tuple #[.string (outU o), .bool o.isSome] := by cases o <;> rfl
theorem iB {a b : Nat} (h : a = b) : ((a : Int) == (b : Int)) = true := by simp; omega
theorem iN {a b : Nat} (h : a ≠ b) : ((a : Int) == (b : Int)) = false := by simp; omega

theorem unr_succ {m : Nat} (IH : UnrOK m) : UnrOK (m + 1) := by
  intro nw nr x r w ai af li ci lf cf bi bf mi di mf df hm hk hwt hx hr
  cases nw with
  | zero => exact hx.elim
  | succ n =>
  cases nr with
  | zero => exact hr.elim
  | succ q =>
  show Calls _ _ _ _ (fun e w' => e = .returned (uR ((unStep (unV m n) (unV m (n + 1)) n x r).map (txtV (n + 1) x))) ∧ Below w.heap.size w w')
  rw [uR_eq]
  have hx8 : x.letters.size ≤ 8 := hx.1
  have hr8 : r.letters.size ≤ 8 := hr.1
  have hinx := fun (hne : x.inner ≠ []) (W : World) (hb : Below w.heap.size w W) => inner_any n W ai af li ci lf cf x (hx.keep hb) hne
  have hinr := fun (hne : r.inner ≠ []) (W : World) (hb : Below w.heap.size w W) => inner_any q W bi bf mi di mf df r (hr.keep hb) hne
  by_cases hr63 : r.kind = 63
  · have hnr : r.inner ≠ [] := hr.2.2.2.1.1 (.inr hr63)
    by_cases hx63 : x.kind = 63
    · have hi := hk.2.2.1 (.inr hx63)
      have hwi := wtI (m := n) hi.1
      rw [show (unStep (unV m n) (unV m (n + 1)) n x r).map (txtV (n + 1) x) = (unV m n x.in r.in).map (txtV n x.in) by unfold unStep; rw [if_pos ⟨hx63, hr63⟩, Option.map_map]; rfl]
      refine un_both x r w ai li ci af lf cf bi mi di bf mf df _ _ (iB hx63) (iB hr63) n q (hinx hi.1) (hinr hnr) (fun W p1 p2 p3 p4 p5 p6 q1 q2 q3 q4 q5 q6 hb hp hq => ?_)
      have := IH n q x.in r.in W p1 p4 p2 p3 p5 p6 q1 q4 q2 q3 q5 q6 (by omega) hi.2 (by omega) hp hq
      rw [uR_eq] at this; exact this
    · rw [show unStep (unV m n) (unV m (n + 1)) n x r = unV m (n + 1) x r.in by unfold unStep; rw [if_neg (fun h => hx63 h.1), if_pos hr63]]
      refine un_rdr x r w ai li ci af lf cf bi mi di bf mf df _ _ (iN hx63) (iB hr63) q (hinr hnr) (fun W p1 p2 p3 p4 p5 p6 hb hp => ?_)
      have := IH (n + 1) q x r.in W ai af li ci lf cf p1 p4 p2 p3 p5 p6 (by omega) hk hwt (hx.keep hb) hp
      rw [uR_eq] at this; exact this
  · have hst : unStep (unV m n) (unV m (n + 1)) n x r = if sameK x.kind r.kind = true then none else if x.kind ≠ r.kind then some (lv (n + 1) x) else if x.kind = 60 then (unL x.letters r.letters r.op x.letters.size 0).map Val.cho else if x.kind = 91 then (unV m n x.in r.in).map fun u => .lst [u] else if x.kind = 123 then unF (unV m n) n x.fields r.fields else none := by
      unfold unStep; rw [if_neg (fun h => hr63 h.2), if_neg hr63]
    have h2 := iN (b := 63) hr63
    cases hs : sameK x.kind r.kind with
    | true =>
      rw [hst, if_pos hs]
      have hx63 : x.kind ≠ 63 := by simp [sameK] at hs; omega
      exact un_sameb x r w ai li ci af lf cf bi mi di bf mf df _ _ (iN hx63) h2 hs rfl rfl
    | false =>
      have hs' : ¬ sameK x.kind r.kind = true := by rw [hs]; simp
      by_cases hkk : x.kind = r.kind
      · have hx63 : x.kind ≠ 63 := by omega
        have h1 := iN (b := 63) hx63
        have h3 : ((x.kind : Int) != (r.kind : Int)) = false := by simp; omega
        rw [hst, if_neg hs', if_neg (by simp [hkk])]
        rcases hk.1 with h | h | h | h | h | h | h
        · exfalso; rw [← hkk, h] at hs; cases hs
        · exfalso; rw [← hkk, h] at hs; cases hs
        · exfalso; rw [← hkk, h] at hs; cases hs
        · rw [if_pos h, Option.map_map]
          refine un_cho x r w ai li ci af lf cf bi mi di bf mf df _ _ h1 h2 hs h3 (iB h) (fun W hb => ?_)
          have := unreadableLetter_any x r ai li ci af lf cf bi mi di bf mf df W hx8 hr8
          refine this.mono (fun e w' he => ⟨?_, he.2⟩)
          rw [he.1]
          cases unL x.letters r.letters r.op x.letters.size 0 <;> rfl
        · have hi := hk.2.2.1 (.inl h)
          have hnr : r.inner ≠ [] := hr.2.2.2.1.1 (.inl (by omega))
          have hwi := wtI (m := n) hi.1
          rw [if_neg (by omega), if_pos h, Option.map_map]
          refine un_lst x r w ai li ci af lf cf bi mi di bf mf df _ _ h1 h2 hs h3 (iN (b := 60) (by omega)) (iB h) n q (hinx hi.1) (hinr hnr) (fun W p1 p2 p3 p4 p5 p6 q1 q2 q3 q4 q5 q6 hb hp hq => ?_)
          cases hu : unV m n x.in r.in with
          | none =>
            have := unreadableList_walk x.in r.in W p1 p2 p3 p4 p5 p6 q1 q2 q3 q4 q5 q6 ByteArray.empty false (Nat.zero_le _) (fun W' hb' => by
              have := IH n q x.in r.in W' p1 p4 p2 p3 p5 p6 q1 q4 q2 q3 q5 q6 (by omega) hi.2 (by omega) (hp.keep hb') (hq.keep hb')
              rw [hu] at this; exact this)
            exact this
          | some u =>
            have hus := un_size m n x.in r.in u hi.2 hu
            have := unreadableList_walk x.in r.in W p1 p2 p3 p4 p5 p6 q1 q2 q3 q4 q5 q6 (txtV n x.in u) true (by omega) (fun W' hb' => by
              have := IH n q x.in r.in W' p1 p4 p2 p3 p5 p6 q1 q4 q2 q3 q5 q6 (by omega) hi.2 (by omega) (hp.keep hb') (hq.keep hb')
              rw [hu] at this; exact this)
            exact this
        · omega
        · rw [if_neg (by omega), if_neg (by omega), if_pos h]
          have hfx := hx.flds
          have hfr := hr.flds
          refine un_rcd x r w ai li ci af lf cf bi mi di bf mf df _ _ h1 h2 hs h3 (iN (b := 60) (by omega)) (iN (b := 91) (by omega)) (iB h) (fun W hb => ?_)
          have := unreadableRecord_any IH n q (by omega) x r.fields W af bf lf cf mf df hfx.1 hfr.1 hfx.2.1 hfr.2.1 (hx.2.2.2.1.2 h) hk.2.2.2 (by rw [wt] at hwt; omega) (hx.keep hb).flds.2.2 (hr.keep hb).flds.2.2
          rw [uR_eq] at this; exact this
      · have h3 : ((x.kind : Int) != (r.kind : Int)) = true := by simp; omega
        rw [hst, if_neg hs', if_pos hkk]
        by_cases hx63 : x.kind = 63
        · exact un_diffa x r w ai li ci af lf cf bi mi di bf mf df _ _ (iB hx63) h2 hs h3 rfl (fun W hb => least_all (n + 1) x W ai af li ci lf cf hk hwt (hx.keep hb))
        · exact un_diffb x r w ai li ci af lf cf bi mi di bf mf df _ _ (iN hx63) h2 hs h3 rfl (fun W hb => least_all (n + 1) x W ai af li ci lf cf hk hwt (hx.keep hb))
theorem unr_all : ∀ m, UnrOK m
  | 0 => fun nw nr x r w ai af li ci lf cf bi bf mi di mf df hm hk hwt hx hr => by
    obtain rfl : nw = 0 := by omega
    exact hx.elim
  | m + 1 => unr_succ (unr_all m)

theorem fields_nil {s : ByteArray} {n i k : Nat} {ty : Ty} (h : pType true s (n + 1) i = some (ty, k)) (h3 : ¬ ty.kind = 123) : ty.fields = [] := by
  have his : i < s.size := by have := pType_bd true s _ _ _ _ h; omega
  rw [pType] at h
  split at h
  · cases h; rfl
  · split at h
    · cases h; rfl
    · split at h
      · cases h; rfl
      · split at h
        · rw [pChoice_eq s (i + 1) (by omega)] at h
          unfold rChoice at h
          simp only at h
          split at h
          · cases h
          · split at h
            · split at h
              · cases h; rfl
              · cases h
            · split at h
              · cases h; rfl
              · cases h
        · split at h
          · unfold pList at h
            split at h
            · cases h
            · split at h
              · cases h; rfl
              · cases h
          · split at h
            · unfold pMaybe at h
              split at h
              · cases h
              · split at h
                · cases h
                · cases h; rfl
            · split at h
              · unfold pRec at h
                split at h
                · cases h
                · cases h; exact absurd rfl h3
              · cases h
theorem type_K {s : ByteArray} : ∀ (n i : Nat) (ty : Ty) (k : Nat), pType true s n i = some (ty, k) → tyK n ty
  | 0, i, ty, k, h => by simp [pType] at h
  | n + 1, i, ty, k, h => by
    have ih := type_K (s := s) n
    have his : i < s.size := by have := pType_bd true s _ _ _ _ h; omega
    obtain ⟨_, n', hn, h60, hin, hne, h123, hk⟩ := type_parts h
    obtain rfl : n' = n := by omega
    have hg := type_good _ _ _ _ h
    refine ⟨hk, fun h6 => (rChoice_op (by omega) (h60 h6)).2.2.1, fun hh => ?_, fun f hf => ?_⟩
    · obtain ⟨k', hk'⟩ := hin hh
      refine ⟨fun hi => ?_, ih _ _ _ hk'⟩
      have : ty.in = plainTy 0 := by unfold Ty.in; rw [hi]; rfl
      rw [this] at hk'
      obtain ⟨_, _, _, _, _, _, _, h7⟩ := type_parts hk'
      have h0 : (plainTy 0).kind = 0 := rfl
      omega
    · have h3 : ty.kind = 123 := by
        rcases Nat.lt_or_ge 0 0 with h | _
        · omega
        · apply Classical.byContradiction
          intro h3
          have : ty.fields = [] := fields_nil h h3
          rw [this] at hf; exact absurd hf List.not_mem_nil
      obtain ⟨k', hk'⟩ := h123 h3
      exact (pFlds_G (Q := fun f => f.1 < 256 ∧ tyK n' f.2.1) (fun i f k hf => by
          have h256 := pField_256 hf
          unfold pField at hf
          split at hf
          · split at hf
            · cases hf
            · rename_i t k' ht
              have h1 := ih _ _ _ ht
              split at hf
              · split at hf
                · cases hf
                · cases hf; exact ⟨h256, h1⟩
              · cases hf; exact ⟨h256, h1⟩
          · cases hf) _ _ _ _ _ hk' (fun f hf => absurd hf List.not_mem_nil) (by simp)).1 f hf
theorem pAll_sm {st : Bool} {s : ByteArray} {ty : Ty} (hx : pAll st s = some ty) : pType st s s.size 0 = some (ty, s.size) := by
  unfold pAll at hx
  rcases hq : pType st s s.size 0 with _ | ⟨ty', k⟩
  · rw [hq] at hx; cases hx
  · rw [hq] at hx; simp only at hx
    split at hx
    · rename_i h; cases hx; rw [h]
    · cases hx
end
section
open Go.RowKit

/-- A type as a schema tells it, of at most this depth. -/
def tyL : Nat → Ty → Prop
  | 0, _ => False
  | n + 1, ty => (ty.kind = 105 ∨ ty.kind = 108 ∨ ty.kind = 115 ∨ ty.kind = 60 ∨ ty.kind = 91 ∨ ty.kind = 63 ∨ ty.kind = 123) ∧ (ty.kind = 60 → 1 ≤ ty.letters.size ∧ ty.letters.size ≤ 8) ∧ (ty.kind = 91 ∨ ty.kind = 63 → tyL n ty.in) ∧ (ty.kind = 63 → ty.in.kind ≠ 63) ∧ (ty.kind = 123 → ty.fields ≠ [] ∧ ∀ f ∈ ty.fields, tyL n f.2.1)
theorem lv_ok : ∀ (n : Nat) (ty : Ty), tyL n ty → okV n ty (lv n ty)
  | 0, ty, h => h.elim
  | n + 1, ty, h => by
    rw [lv]
    split
    · rename_i hk
      exact okV_num (by rcases hk with h | h; exact .inl ⟨h, by omega, by omega⟩; exact .inr ⟨h, by omega, by omega⟩)
    · split
      · rename_i hk; exact okV_str ⟨hk, Nat.zero_le _, rfl⟩
      · split
        · rename_i hk; exact okV_cho ⟨hk, (h.2.1 hk).1, by omega⟩
        · split
          · rename_i hk; exact okV_lst ⟨hk, Nat.zero_le _, fun v hv => absurd hv List.not_mem_nil⟩
          · split
            · rename_i hk; exact okV_non hk
            · have hk : ty.kind = 123 := by have := h.1; omega
              have h5 := h.2.2.2.2 hk
              refine okV_rcd ⟨hk, h5.1, by simp, fun p hp => ?_⟩
              rw [List.zip_map_right] at hp
              obtain ⟨q, hq, rfl⟩ := List.mem_map.1 hp
              have hqq : q.1 = q.2 ∧ q.1 ∈ ty.fields := by
                obtain ⟨i, hi⟩ := List.getElem?_of_mem hq
                rw [List.getElem?_zip_eq_some] at hi
                exact ⟨Option.some.inj (hi.1.symm.trans hi.2), List.mem_of_getElem? hi.1⟩
              have := lv_ok n q.1.2.1 (h5.2 q.1 hqq.2)
              show okV n q.1.2.1 (lv n q.2.2.1)
              rw [← hqq.1]; exact this
theorem zip_find (c : Nat) : ∀ (fs : List (Nat × Ty × ByteArray)) (vs : List Val), vs.length = fs.length →
    (fs.findIdx? (fun g => g.1 == c) = none → (fs.zip vs).find? (fun p => p.1.1 == c) = none) ∧
    (∀ p, fs.findIdx? (fun g => g.1 == c) = some p → ∃ f v, fs[p]? = some f ∧ vs[p]? = some v ∧ (fs.zip vs).find? (fun p => p.1.1 == c) = some (f, v))
  | [], vs, h => ⟨fun _ => rfl, fun p hp => by simp at hp⟩
  | f :: fs, [], h => by simp at h
  | f :: fs, v :: vs, h => by
    have ih := zip_find c fs vs (by simpa using h)
    rw [List.findIdx?_cons, List.zip_cons_cons, List.find?_cons]
    by_cases hc : (f.1 == c) = true
    · rw [if_pos hc]
      refine ⟨fun h => by simp at h, fun p hp => ?_⟩
      cases hp
      refine ⟨f, v, rfl, rfl, ?_⟩
      rw [show ((f, v).1.1 == c) = true from hc]
    · rw [if_neg hc, show ((f, v).1.1 == c) = false by simpa using hc]
      refine ⟨fun h => ih.1 (by simpa using h), fun p hp => ?_⟩
      obtain ⟨q, hq, rfl⟩ := Option.map_eq_some_iff.1 hp
      obtain ⟨f', v', h1, h2, h3⟩ := ih.2 q hq
      exact ⟨f', v', by simpa using h1, by simpa using h2, h3⟩
theorem rdFlds_no {f : Nat × Ty × ByteArray → Option ByteArray} : ∀ (gs : List (Nat × Ty × ByteArray)) (mk t : ByteArray) (g : Nat × Ty × ByteArray), g ∈ gs → f g = none → rdFlds f gs mk t = none
  | h :: gs, mk, t, g, hg, hf => by
    rw [rdFlds]
    rcases List.mem_cons.1 hg with rfl | hg
    · rw [hf]
    · cases f h with
      | none => rfl
      | some x => exact rdFlds_no gs _ _ g hg hf
theorem unL_spec {wl rl : ByteArray} {op : Bool} : ∀ (m k j : Nat), unL wl rl op m k = some j → k ≤ j ∧ j < k + m ∧ op = false ∧ pOf rl (bAt wl j) < 0
  | 0, k, j, h => by simp [unL] at h
  | m + 1, k, j, h => by
    rw [unL] at h
    split at h
    · have := unL_spec m (k + 1) j h; exact ⟨by omega, by omega, this.2.2⟩
    · rename_i hc
      cases h
      simp at hc
      exact ⟨Nat.le_refl _, by omega, hc.1, hc.2⟩
theorem unL_none {wl rl : ByteArray} {op : Bool} : ∀ (m k j : Nat), unL wl rl op m k = none → k ≤ j → j < k + m → op = true ∨ 0 ≤ pOf rl (bAt wl j)
  | 0, k, j, h, h1, h2 => by omega
  | m + 1, k, j, h, h1, h2 => by
    rw [unL] at h
    split at h
    · rename_i hc
      by_cases hk : j = k
      · subst hk; simpa using hc
      · exact unL_none m (k + 1) j h (by omega) (by omega)
    · cases h
/-- What is told is a value, and can't be read. -/
theorem un_bad : ∀ (m n : Nat) (x r : Ty) (u : Val), tyL n x → unV m n x r = some u → okV n x u ∧ ∀ k, rdT k x r u = none
  | 0, n, x, r, u, _, h => by simp [unV] at h
  | m + 1, 0, x, r, u, hl, h => hl.elim
  | m + 1, n + 1, x, r, u, hl, h => by
    change unStep (unV m n) (unV m (n + 1)) n x r = some u at h
    unfold unStep at h
    have z : ∀ {k}, k = 0 → rdT k x r u = none := fun h => by subst h; rfl
    split at h
    · rename_i hc
      obtain ⟨v, hv, rfl⟩ := Option.map_eq_some_iff.1 h
      have ih := un_bad m n x.in r.in v (hl.2.2.1 (.inr hc.1)) hv
      refine ⟨okV_som ⟨hc.1, ih.1⟩, fun k => ?_⟩
      cases k with
      | zero => rfl
      | succ k =>
        show rdStep (rdT k) x r (.som v) = none
        unfold rdStep
        rw [if_pos hc.1]
        show rdT k x.in r v = none
        cases k with
        | zero => rfl
        | succ k =>
          show rdStep (rdT k) x.in r v = none
          unfold rdStep
          rw [if_neg (hl.2.2.2.1 hc.1), if_pos hc.2]
          exact ih.2 k
    · rename_i hc
      split at h
      · rename_i hr
        have ih := un_bad m (n + 1) x r.in u hl h
        refine ⟨ih.1, fun k => ?_⟩
        cases k with
        | zero => rfl
        | succ k =>
          show rdStep (rdT k) x r u = none
          unfold rdStep
          rw [if_neg (fun h => hc ⟨h, hr⟩), if_pos hr]
          exact ih.2 k
      · rename_i hr
        split at h
        · cases h
        · rename_i hs
          split at h
          · rename_i hkk
            cases h
            refine ⟨lv_ok (n + 1) x hl, fun k => ?_⟩
            cases k with
            | zero => rfl
            | succ k =>
              show rdStep (rdT k) x r (lv (n + 1) x) = none
              unfold rdStep
              by_cases hx : x.kind = 63
              · rw [if_pos hx, show lv (n + 1) x = .non by rw [lv, if_neg (by omega), if_neg (by omega), if_neg (by omega), if_neg (by omega), if_pos hx]]
                show (if r.kind = 63 then some (⟨#[95]⟩ : ByteArray) else none) = none
                rw [if_neg hr]
              · rw [if_neg hx, if_neg hr, if_neg hs, if_pos hkk]
          · rename_i hkk
            have hkk' : x.kind = r.kind := by simpa using hkk
            split at h
            · rename_i h60
              obtain ⟨j, hj, rfl⟩ := Option.map_eq_some_iff.1 h
              have hsp := unL_spec _ _ _ hj
              have := (hl.2.1 h60).2
              refine ⟨okV_cho ⟨h60, by omega, by omega⟩, fun k => ?_⟩
              cases k with
              | zero => rfl
              | succ k =>
                show rdStep (rdT k) x r (.cho j) = none
                unfold rdStep
                rw [if_neg (by omega), if_neg hr, if_neg hs, if_neg hkk]
                show rdCho x.letters r.letters r.op j = none
                unfold rdCho
                rw [if_pos hsp.2.2.2, hsp.2.2.1]; rfl
            · split at h
              · rename_i h91
                obtain ⟨v, hv, rfl⟩ := Option.map_eq_some_iff.1 h
                have ih := un_bad m n x.in r.in v (hl.2.2.1 (.inl h91)) hv
                refine ⟨okV_lst ⟨h91, by simp, fun w hw => by rw [List.mem_singleton.1 hw]; exact ih.1⟩, fun k => ?_⟩
                cases k with
                | zero => rfl
                | succ k =>
                  show rdStep (rdT k) x r (.lst [v]) = none
                  unfold rdStep
                  rw [if_neg (by omega), if_neg hr, if_neg hs, if_neg hkk]
                  show rdItems (rdT k x.in r.in) [v] 0 ⟨#[91]⟩ = none
                  rw [rdItems, ih.2 k]
              · split at h
                · rename_i h123
                  have h5 := hl.2.2.2.2 h123
                  have hlv : okV (n + 1) x (.rcd (x.fields.map fun f => lv n f.2.1)) := by
                    have := lv_ok (n + 1) x hl
                    rw [lv, if_neg (by omega), if_neg (by omega), if_neg (by omega), if_neg (by omega), if_neg (by omega)] at this
                    exact this
                  have fin : ∀ (vs : List Val) (g : Nat × Ty × ByteArray) (k : Nat), g ∈ r.fields → rdFld (rdT k) (x.fields.zip vs) g = none → rdT (k + 1) x r (.rcd vs) = none := fun vs g k hg hf => by
                    show rdStep (rdT k) x r (.rcd vs) = none
                    unfold rdStep
                    rw [if_neg (by omega), if_neg hr, if_neg hs, if_neg hkk]
                    show rdFlds (rdFld (rdT k) (x.fields.zip vs)) r.fields ⟨#[123]⟩ ByteArray.empty = none
                    exact rdFlds_no r.fields _ _ g hg hf
                  have key : ∀ gs : List (Nat × Ty × ByteArray), (∀ g ∈ gs, g ∈ r.fields) → unF (unV m n) n x.fields gs = some u → okV (n + 1) x u ∧ ∀ k, rdT k x r u = none := by
                    intro gs
                    induction gs with
                    | nil => intro _ h; simp [unF] at h
                    | cons g gs ihg =>
                      intro hsub h
                      rw [unF] at h
                      split at h
                      · rename_i hfi
                        split at h
                        · rename_i hz
                          cases h
                          refine ⟨hlv, fun k => ?_⟩
                          cases k with
                          | zero => rfl
                          | succ k =>
                            refine fin _ g k (hsub g (by simp)) ?_
                            unfold rdFld
                            rw [(zip_find g.1 x.fields _ (by simp)).1 hfi]
                            simp only
                            rw [if_pos hz]
                        · exact ihg (fun g hg => hsub g (by simp [hg])) h
                      · rename_i p hfi
                        have hpl : p < x.fields.length := by rw [List.findIdx?_eq_some_iff_getElem] at hfi; exact hfi.1
                        obtain ⟨q, hq⟩ : ∃ q, x.fields[p]? = some q := ⟨x.fields[p], List.getElem?_eq_getElem hpl⟩
                        rw [getD_field hq] at h
                        split at h
                        · exact ihg (fun g hg => hsub g (by simp [hg])) h
                        · rename_i v hv
                          cases h
                          have hql := h5.2 q (List.mem_of_getElem? hq)
                          have ih := un_bad m n q.2.1 g.2.1 v hql hv
                          have hsl : ((x.fields.map fun f => lv n f.2.1).set p v).length = x.fields.length := by simp
                          refine ⟨okV_rcd ⟨h123, h5.1, hsl, fun pr hpr => ?_⟩, fun k => ?_⟩
                          · obtain ⟨i, hi⟩ := List.getElem?_of_mem hpr
                            rw [List.getElem?_zip_eq_some] at hi
                            by_cases hip : i = p
                            · subst hip
                              rw [hq] at hi
                              rw [List.getElem?_set_self (by simpa using hpl)] at hi
                              have e1 := Option.some.inj hi.1
                              have e2 := Option.some.inj hi.2
                              rw [← e1, ← e2]; exact ih.1
                            · have hi1 := hi.1
                              rw [List.getElem?_set_ne (by omega), List.getElem?_map, hi1] at hi
                              have e2 := hi.2
                              simp at e2
                              rw [← e2]
                              exact lv_ok n _ (h5.2 pr.1 (List.mem_of_getElem? hi1))
                          · cases k with
                            | zero => rfl
                            | succ k =>
                              refine fin _ g k (hsub g (by simp)) ?_
                              obtain ⟨f, w, e1, e2, e3⟩ := (zip_find g.1 x.fields _ hsl).2 p hfi
                              unfold rdFld
                              rw [e3]
                              rw [hq] at e1
                              rw [List.getElem?_set_self (by simpa using hpl)] at e2
                              cases e1
                              cases e2
                              exact ih.2 k
                  exact key r.fields (fun g hg => hg) h
                · cases h
end
section
open Go.RowKit

theorem codU_two {m u : Nat} (h : 128 ≤ u) : 2 ≤ (codU (m + 1) ByteArray.empty u).size := by
  rw [codU_big h, ByteArray.size_append, oneB_size]; have := codU_pos m (u / 128); omega
theorem codU_five {m u : Nat} (h : 268435456 ≤ u) : 5 ≤ (codU (m + 4) ByteArray.empty u).size := by
  rw [codU_big (by omega), codU_big (m := m + 2) (by omega), codU_big (m := m + 1) (by omega), codU_big (m := m) (by omega)]
  simp only [ByteArray.size_append, oneB_size]
  have := codU_pos m (u / 128 / 128 / 128 / 128); omega
theorem decI_len {x : Int} (h1 : -1000000000000000 ≤ x) (h2 : x ≤ 1000000000000000) : (decI x).size ≤ 5 * (numData x).size := by
  have key : ∀ k, x.natAbs < 10 ^ (k + 1) → (decI x).size ≤ k + 2 := fun k hk => by
    unfold decI
    split
    · rw [ByteArray.size_append]
      have := decS_len k 18 (-x).toNat (by rw [show (-x).toNat = x.natAbs by omega]; exact hk)
      have e : (⟨#[45]⟩ : ByteArray).size = 1 := rfl
      omega
    · have := decS_len k 18 x.toNat (by rw [show x.toNat = x.natAbs by omega]; exact hk)
      omega
  unfold numData
  by_cases a : x.natAbs < 10 ^ (2 + 1)
  · have := key 2 a; have := codU_pos 8 (zig x); omega
  · by_cases b : x.natAbs < 10 ^ (7 + 1)
    · have := key 7 b
      have : 2 ≤ (codU 8 ByteArray.empty (zig x)).size := codU_two (m := 7) (u := zig x) (by unfold zig; split <;> omega)
      omega
    · have := key 15 (by omega)
      by_cases c : 268435456 ≤ zig x
      · have : 5 ≤ (codU 8 ByteArray.empty (zig x)).size := codU_five (m := 4) c
        omega
      · have := key 8 (by unfold zig at c; split at c <;> omega)
        have : 2 ≤ (codU 8 ByteArray.empty (zig x)).size := codU_two (m := 7) (u := zig x) (by unfold zig; split <;> omega)
        omega
/-- How long the text of a value is: by its data and its type's schema. -/
def ln : Nat → Ty → Nat
  | 0, _ => 0
  | n + 1, ty => if ty.kind = 91 then ln n ty.in + 2 else if ty.kind = 63 then ln n ty.in + 1 else if ty.kind = 123 then (ty.fields.map fun f => ln n f.2.1 + 3).sum + 1 else 1
theorem items_len {dv tv : Val → ByteArray} {C : Nat} : ∀ (vs : List Val) (k : Nat) (t : ByteArray), (∀ v ∈ vs, 1 ≤ (dv v).size ∧ (tv v).size ≤ C * (dv v).size) → (itemsT k (vs.map tv) t).size ≤ t.size + 1 + (C + 1) * (catB (vs.map dv)).size
  | [], k, t, h => by simp only [List.map_nil, itemsT, ByteArray.size_append]; have : (⟨#[93]⟩ : ByteArray).size = 1 := rfl; omega
  | v :: vs, k, t, h => by
    rw [List.map_cons, itemsT]
    have ih := items_len (dv := dv) (C := C) vs (k + 1) ((if 0 < k then t ++ ⟨#[44]⟩ else t) ++ tv v) (fun v hv => h v (by simp [hv]))
    have h1 := h v (by simp)
    have hs : ((if 0 < k then t ++ ⟨#[44]⟩ else t) ++ tv v).size ≤ t.size + 1 + (tv v).size := by
      rw [ByteArray.size_append]; split
      · rw [ByteArray.size_append, sz1]; omega
      · omega
    simp only [List.map_cons, catB, ByteArray.size_append]
    rw [Nat.mul_add, Nat.add_mul C 1 (dv v).size]
    omega
/-- The text of a record's fields: each is at most as long as its share. -/
theorem flds_len {dv : Val → ByteArray} {tv : Ty → Val → ByteArray} {c : Ty → Nat} {K : Nat} : ∀ (fs : List (Nat × Ty × ByteArray)) (vs : List Val) (mk t : ByteArray), mk.size = 1 → vs.length = fs.length →
    (∀ p ∈ fs.zip vs, 1 ≤ (dv p.2).size ∧ (tv p.1.2.1 p.2).size ≤ (c p.1.2.1 + 4) * (dv p.2).size ∧ c p.1.2.1 + 4 ≤ K) →
    (fldsT ((fs.zip vs).map fun p => (p.1.1, tv p.1.2.1 p.2)) mk t).size + fs.length ≤ t.size + 1 + (K + 4) * (catB (vs.map dv)).size
  | [], [], mk, t, hm, hl, h => by simp only [List.zip_nil_left, List.map_nil, fldsT, ByteArray.size_append, catB]; have : (⟨#[125]⟩ : ByteArray).size = 1 := rfl; simp; omega
  | [], v :: vs, mk, t, hm, hl, h => by simp at hl
  | g :: fs, [], mk, t, hm, hl, h => by simp at hl
  | g :: fs, v :: vs, mk, t, hm, hl, h => by
    simp only [List.zip_cons_cons, List.map_cons, fldsT, catB, List.length_cons]
    have ih := flds_len (dv := dv) (tv := tv) (c := c) (K := K) fs vs ⟨#[44]⟩ (t ++ (((mk ++ oneB g.1) ++ ⟨#[58]⟩) ++ tv g.2.1 v)) rfl (by simpa using hl) (fun p hp => h p (by simp [hp]))
    have h1 := h (g, v) (by simp)
    simp only at h1
    have h2 := Nat.mul_le_mul_right (dv v).size h1.2.2
    simp only [ByteArray.size_append, sz1, oneB_size, hm] at ih ⊢
    rw [Nat.mul_add, Nat.add_mul K 4 (dv v).size]
    omega
theorem sum_mem {α : Type} (c : α → Nat) : ∀ (l : List α) (x : α), x ∈ l → c x ≤ (l.map c).sum
  | y :: l, x, h => by
    simp
    rcases List.mem_cons.1 h with rfl | h
    · omega
    · have := sum_mem c l x h; omega
theorem txt_len : ∀ (n : Nat) (ty : Ty) (v : Val), okV n ty v → (txtV n ty v).size ≤ (ln n ty + 4) * (datV n v).size
  | 0, ty, v, h => h.elim
  | n + 1, ty, v, h => by
    have hp := datV_pos _ _ _ h
    rcases h with ⟨x, rfl, h⟩ | ⟨s, rfl, h⟩ | ⟨i, rfl, h⟩ | ⟨vs, rfl, h⟩ | ⟨rfl, h⟩ | ⟨u, rfl, h⟩ | ⟨vs, rfl, h⟩
    · rw [txtV_num, datV_num, ln, if_neg (by omega), if_neg (by omega), if_neg (by omega)]
      exact decI_len (by omega) (by omega)
    · rw [txtV_str, datV_str, ln, if_neg (by omega), if_neg (by omega), if_neg (by omega)]
      simp only [ByteArray.size_append, quo_size, oneB_size]; omega
    · rw [txtV_cho, datV_cho, oneB_size, oneB_size]; omega
    · rw [datV_lst] at hp ⊢
      rw [txtV_lst, ln, if_pos h.1]
      have := items_len (dv := datV n) (tv := txtV n ty.in) (C := ln n ty.in + 4) vs 0 ⟨#[91]⟩ (fun v hv => ⟨datV_pos _ _ _ (h.2.2 v hv), txt_len n ty.in v (h.2.2 v hv)⟩)
      rw [sz1] at this
      rw [ByteArray.size_append, oneB_size, Nat.mul_add]
      have e := Nat.mul_le_mul_right (catB (vs.map (datV n))).size (show ln n ty.in + 4 + 1 ≤ ln n ty.in + 2 + 4 by omega)
      omega
    · rw [txtV_non, datV_non, sz1, oneB_size]; omega
    · rw [datV_som] at hp ⊢
      rw [txtV_som, ln, if_neg (by omega), if_pos h.1, ByteArray.size_append, oneB_size]
      have := txt_len n ty.in u h.2
      have e := Nat.mul_le_mul_right (datV n u).size (show ln n ty.in + 4 ≤ ln n ty.in + 1 + 4 by omega)
      rw [Nat.mul_add]
      omega
    · rw [datV_rcd] at hp ⊢
      rw [txtV_rcd, ln, if_neg (by omega), if_neg (by omega), if_pos h.1]
      have hfl : 1 ≤ ty.fields.length := by
        rcases hf : ty.fields with _ | ⟨g, fs⟩
        · exact absurd hf h.2.1
        · simp
      have := flds_len (dv := datV n) (tv := txtV n) (c := ln n) (K := (ty.fields.map fun f => ln n f.2.1 + 3).sum + 1) ty.fields vs ⟨#[123]⟩ ByteArray.empty rfl h.2.2.1 (fun p hp => by
        refine ⟨datV_pos _ _ _ (h.2.2.2 p hp), txt_len n _ _ (h.2.2.2 p hp), ?_⟩
        have := sum_mem (fun f : Nat × Ty × ByteArray => ln n f.2.1 + 3) ty.fields p.1 (List.of_mem_zip (a := p.1) (b := p.2) hp).1
        omega)
      rw [show ByteArray.empty.size = 0 from rfl] at this
      omega
theorem pFlds_ln {pf : Nat → Option ((Nat × Ty × ByteArray) × Nat)} {s : ByteArray} {N : Nat} (hp : ∀ i f k, pf i = some (f, k) → i < k ∧ k ≤ s.size ∧ ln N f.2.1 + 2 ≤ k - i) :
    ∀ (m a : Nat) (acc fs : List (Nat × Ty × ByteArray)) (k : Nat), pFlds pf s m a acc = some (fs, k) → a < k ∧ (fs.map fun f => ln N f.2.1 + 3).sum ≤ (acc.map fun f => ln N f.2.1 + 3).sum + (k - a)
  | 0, a, acc, fs, k, h => by simp [pFlds] at h
  | m + 1, a, acc, fs, k, h => by
    rw [pFlds] at h
    split at h
    · cases h
    · rename_i f k' hf
      have h1 := hp _ _ _ hf
      split at h
      · cases h
      · split at h
        · simp only [Option.some.injEq, Prod.mk.injEq] at h
          obtain ⟨rfl, rfl⟩ := h
          rw [List.map_append, List.sum_append]
          simp
          omega
        · split at h
          · have := pFlds_ln hp m (k' + 1) (acc ++ [f]) fs k h
            rw [List.map_append, List.sum_append] at this
            simp at this ⊢
            omega
          · cases h
theorem type_ln {s : ByteArray} (N : Nat) : ∀ (n i : Nat) (ty : Ty) (k : Nat), pType true s n i = some (ty, k) → ln N ty ≤ k - i := by
  intro n
  induction n generalizing N with
  | zero => intro i ty k h; simp [pType] at h
  | succ n ih =>
    intro i ty k h
    have hbd := pType_bd true s _ _ _ _ h
    cases N with
    | zero => rw [ln]; omega
    | succ N =>
    obtain ⟨_, n', hn, h60, hin, hne, h123, hk⟩ := type_parts h
    obtain rfl : n' = n := by omega
    rw [ln]
    split
    · rename_i h91
      rw [pType] at h
      have hb : bAt s i = 91 := by rw [(type_parts (n := n' + 1) (by rw [pType]; exact h)).1, h91]; rfl
      rw [if_neg (by omega), if_neg (by omega), if_neg (by omega), if_neg (by omega), if_pos hb] at h
      unfold pList at h
      split at h
      · cases h
      · rename_i t k' ht
        split at h
        · cases h
          have := ih N _ _ _ ht
          have := pType_bd true s _ _ _ _ ht
          show ln N t + 2 ≤ _
          omega
        · cases h
    · split
      · rename_i h63
        rw [pType] at h
        have hb : bAt s i = 63 := by rw [(type_parts (n := n' + 1) (by rw [pType]; exact h)).1, h63]; rfl
        rw [if_neg (by omega), if_neg (by omega), if_neg (by omega), if_neg (by omega), if_neg (by omega), if_pos hb] at h
        unfold pMaybe at h
        split at h
        · cases h
        · rename_i t k' ht
          split at h
          · cases h
          · cases h
            have := ih N _ _ _ ht
            have := pType_bd true s _ _ _ _ ht
            show ln N t + 1 ≤ _
            omega
      · split
        · rename_i h3
          rw [pType] at h
          have hb : bAt s i = 123 := by rw [(type_parts (n := n' + 1) (by rw [pType]; exact h)).1, h3]; rfl
          rw [if_neg (by omega), if_neg (by omega), if_neg (by omega), if_neg (by omega), if_neg (by omega), if_neg (by omega), if_pos hb] at h
          unfold pRec at h
          split at h
          · cases h
          · rename_i fs k' hfs
            cases h
            have := pFlds_ln (N := N) (fun i f k hf => by
              unfold pField at hf
              split at hf
              · split at hf
                · cases hf
                · rename_i t k' ht
                  have h1 := ih N _ _ _ ht
                  have h2 := pType_bd true s _ _ _ _ ht
                  split at hf
                  · split at hf
                    · cases hf
                    · rename_i d m' he
                      cases hf
                      have h3 := enc_bd he
                      refine ⟨by omega, by omega, ?_⟩
                      show ln N t + 2 ≤ _
                      omega
                  · cases hf
                    refine ⟨by omega, by omega, ?_⟩
                    show ln N t + 2 ≤ _
                    omega
              · cases hf) _ _ _ _ _ hfs
            simp at this ⊢
            omega
        · omega
end
section
open Go.RowKit

theorem rdItems_yes {f : Val → Option ByteArray} : ∀ (vs : List Val) (k : Nat) (t : ByteArray), (∀ v ∈ vs, f v ≠ none) → rdItems f vs k t ≠ none
  | [], k, t, h => by simp [rdItems]
  | v :: vs, k, t, h => by
    rw [rdItems]
    have h1 := h v (by simp)
    cases hv : f v with
    | none => exact absurd hv h1
    | some x => exact rdItems_yes vs _ _ (fun v hv => h v (by simp [hv]))
theorem rdFlds_yes {f : Nat × Ty × ByteArray → Option ByteArray} : ∀ (gs : List (Nat × Ty × ByteArray)) (mk t : ByteArray), (∀ g ∈ gs, f g ≠ none) → rdFlds f gs mk t ≠ none
  | [], mk, t, h => by simp [rdFlds]
  | g :: gs, mk, t, h => by
    rw [rdFlds]
    have h1 := h g (by simp)
    cases hv : f g with
    | none => exact absurd hv h1
    | some x => exact rdFlds_yes gs _ _ (fun g hg => h g (by simp [hg]))
theorem unF_none {f : Ty → Ty → Option Val} {n : Nat} {wf : List (Nat × Ty × ByteArray)} : ∀ (gs : List (Nat × Ty × ByteArray)), unF f n wf gs = none → ∀ g ∈ gs, (wf.findIdx? (fun h => h.1 == g.1) = none ∧ g.2.2.size ≠ 0) ∨ ∃ p q, wf.findIdx? (fun h => h.1 == g.1) = some p ∧ wf[p]? = some q ∧ f q.2.1 g.2.1 = none
  | [], h, g, hg => absurd hg List.not_mem_nil
  | k :: gs, h, g, hg => by
    rw [unF] at h
    split at h
    · rename_i hfi
      split at h
      · cases h
      · rename_i hz
        rcases List.mem_cons.1 hg with rfl | hg
        · exact .inl ⟨hfi, hz⟩
        · exact unF_none gs h g hg
    · rename_i p hfi
      have hpl : p < wf.length := by rw [List.findIdx?_eq_some_iff_getElem] at hfi; exact hfi.1
      obtain ⟨q, hq⟩ : ∃ q, wf[p]? = some q := ⟨wf[p], List.getElem?_eq_getElem hpl⟩
      rw [getD_field hq] at h
      split at h
      · rename_i hn
        rcases List.mem_cons.1 hg with rfl | hg
        · exact .inr ⟨p, q, hfi, hq, hn⟩
        · exact unF_none gs h g hg
      · cases h
/-- Where none is told every value can be read. -/
theorem un_good : ∀ (m k n q : Nat) (x r : Ty) (v : Val), n + q ≤ m → n + q ≤ k → tyL n x → tyL q r → unV m n x r = none → okV n x v → rdT k x r v ≠ none
  | m, k, 0, q, x, r, v, h1, h2, hx, hr, h, hv => hx.elim
  | m, k, n + 1, 0, x, r, v, h1, h2, hx, hr, h, hv => hr.elim
  | 0, k, n + 1, q + 1, x, r, v, h1, h2, hx, hr, h, hv => by omega
  | m + 1, 0, n + 1, q + 1, x, r, v, h1, h2, hx, hr, h, hv => by omega
  | m + 1, 1, n + 1, q + 1, x, r, v, h1, h2, hx, hr, h, hv => by omega
  | m + 1, k + 2, n + 1, q + 1, x, r, v, h1, h2, hx, hr, h, hv => by
    change unStep (unV m n) (unV m (n + 1)) n x r = none at h
    unfold unStep at h
    show rdStep (rdT (k + 1)) x r v ≠ none
    unfold rdStep
    split at h
    · rename_i hc
      rw [Option.map_eq_none_iff] at h
      rw [if_pos hc.1]
      rcases hv with ⟨y, rfl, hv⟩ | ⟨s, rfl, hv⟩ | ⟨i, rfl, hv⟩ | ⟨vs, rfl, hv⟩ | ⟨rfl, hv⟩ | ⟨u, rfl, hv⟩ | ⟨vs, rfl, hv⟩
      · omega
      · omega
      · omega
      · omega
      · show (if r.kind = 63 then some (⟨#[95]⟩ : ByteArray) else none) ≠ none
        rw [if_pos hc.2]; simp
      · show rdStep (rdT k) x.in r u ≠ none
        unfold rdStep
        rw [if_neg (hx.2.2.2.1 hc.1), if_pos hc.2]
        exact un_good m k n q x.in r.in u (by omega) (by omega) (hx.2.2.1 (.inr hc.1)) (hr.2.2.1 (.inr hc.2)) h hv.2
      · omega
    · rename_i hc
      split at h
      · rename_i hr63
        rw [if_neg (fun h => hc ⟨h, hr63⟩), if_pos hr63]
        exact un_good m (k + 1) (n + 1) q x r.in v (by omega) (by omega) hx (hr.2.2.1 (.inr hr63)) h hv
      · rename_i hr63
        split at h
        · rename_i hs
          have hx63 : x.kind ≠ 63 := by simp [sameK] at hs; omega
          rw [if_neg hx63, if_neg hr63, if_pos hs]; simp
        · rename_i hs
          split at h
          · cases h
          · rename_i hkk
            have hkk' : x.kind = r.kind := by simpa using hkk
            have hx63 : x.kind ≠ 63 := by omega
            rw [if_neg hx63, if_neg hr63, if_neg hs, if_neg hkk]
            rcases hv with ⟨y, rfl, hv⟩ | ⟨s, rfl, hv⟩ | ⟨i, rfl, hv⟩ | ⟨vs, rfl, hv⟩ | ⟨rfl, hv⟩ | ⟨u, rfl, hv⟩ | ⟨vs, rfl, hv⟩
            · exfalso; apply hs; rw [← hkk']; rcases hv with h | h <;> simp [sameK, h.1]
            · exfalso; apply hs; rw [← hkk']; simp [sameK, hv.1]
            · rw [if_pos hv.1, Option.map_eq_none_iff] at h
              show rdCho x.letters r.letters r.op i ≠ none
              unfold rdCho
              have := unL_none _ _ i h (Nat.zero_le _) (by omega)
              split
              · rename_i hp
                rw [if_pos (by rcases this with h | h; exact h; omega)]; simp
              · simp
            · rw [if_neg (by omega), if_pos hv.1, Option.map_eq_none_iff] at h
              show rdItems (rdT (k + 1) x.in r.in) vs 0 ⟨#[91]⟩ ≠ none
              exact rdItems_yes vs _ _ (fun u hu => un_good m (k + 1) n q x.in r.in u (by omega) (by omega) (hx.2.2.1 (.inl hv.1)) (hr.2.2.1 (.inl (by omega))) h (hv.2.2 u hu))
            · omega
            · omega
            · rw [if_neg (by omega), if_neg (by omega), if_pos hv.1] at h
              show rdFlds (rdFld (rdT (k + 1)) (x.fields.zip vs)) r.fields ⟨#[123]⟩ ByteArray.empty ≠ none
              have hxf := hx.2.2.2.2 hv.1
              have hrf := hr.2.2.2.2 (by omega)
              refine rdFlds_yes r.fields _ _ (fun g hg => ?_)
              unfold rdFld
              have hz := zip_find g.1 x.fields vs hv.2.2.1
              rcases unF_none r.fields h g hg with ⟨e1, e2⟩ | ⟨p, f, e1, e2, e3⟩
              · rw [hz.1 e1]
                simp only
                rw [if_neg e2]; simp
              · obtain ⟨f', w, g1, g2, g3⟩ := hz.2 p e1
                rw [e2] at g1
                cases g1
                rw [g3]
                simp only
                exact un_good m (k + 1) n q f.2.1 g.2.1 w (by omega) (by omega) (hxf.2 f (List.mem_of_getElem? e2)) (hrf.2 g hg) e3 (hv.2.2.2 (f, w) (by
                  refine List.mem_of_getElem? (i := p) ?_
                  rw [List.getElem?_zip_eq_some]; exact ⟨e2, g2⟩))
theorem cat_sum {α : Type} (f : α → ByteArray) (c : α → Nat) : ∀ (l : List α), (∀ x ∈ l, (f x).size ≤ c x) → (catB (l.map f)).size ≤ (l.map c).sum
  | [], h => by simp [catB]
  | x :: l, h => by
    have := h x (by simp)
    have := cat_sum f c l (fun y hy => h y (by simp [hy]))
    simp only [List.map_cons, catB, ByteArray.size_append, List.sum_cons]; omega
theorem lv_dat : ∀ (n : Nat) (ty : Ty), tyL n ty → (datV n (lv n ty)).size ≤ ln n ty
  | 0, ty, h => h.elim
  | n + 1, ty, h => by
    rw [lv, ln]
    split
    · rename_i hk
      rw [if_neg (by omega), if_neg (by omega), if_neg (by omega), datV_num]; decide
    · split
      · rename_i hk
        rw [if_neg (by omega), if_neg (by omega), if_neg (by omega), datV_str]; decide
      · split
        · rename_i hk
          rw [if_neg (by omega), if_neg (by omega), if_neg (by omega), datV_cho, oneB_size]; omega
        · split
          · rename_i hk
            rw [datV_lst]
            show (oneB 0 ++ catB []).size ≤ _
            rw [ByteArray.size_append, oneB_size]; simp [catB]
          · rename_i h91
            split
            · rename_i hk
              rw [datV_non, oneB_size]; omega
            · have hk : ty.kind = 123 := by have := h.1; omega
              rw [if_pos hk, datV_rcd]
              have h5 := h.2.2.2.2 hk
              rw [List.map_map]
              have := cat_sum (fun f : Nat × Ty × ByteArray => datV n (lv n f.2.1)) (fun f => ln n f.2.1 + 3) ty.fields (fun f hf => by have := lv_dat n f.2.1 (h5.2 f hf); omega)
              exact Nat.le_trans this (by omega)
end
section
open Go.RowKit

/-- A choice has few letters, a record has fields, all the way down. -/
def tyF : Nat → Ty → Prop
  | 0, _ => True
  | n + 1, ty => (ty.kind = 60 → ty.letters.size ≤ 8) ∧ (ty.kind = 91 ∨ ty.kind = 63 → tyF n ty.in) ∧ (ty.kind = 123 → ty.fields ≠ []) ∧ ∀ f ∈ ty.fields, tyF n f.2.1
theorem encFlds_congr {t : ByteArray} {f g : Ty → Nat → Option (ByteArray × Nat)} : ∀ (fs : List (Nat × Ty × ByteArray)) (mk : Int) (b : Nat) (d : ByteArray), (∀ h ∈ fs, ∀ j, f h.2.1 j = g h.2.1 j) → encFlds f t fs mk b d = encFlds g t fs mk b d
  | [], mk, b, d, h => rfl
  | k :: fs, mk, b, d, h => by
    rw [encFlds, encFlds, h k (by simp)]
    split
    · cases g k.2.1 (b + 3) with
      | none => rfl
      | some p => exact encFlds_congr fs _ _ _ (fun q hq => h q (by simp [hq]))
    · rfl
theorem dVal_nn (t : ByteArray) (a : Nat) : ∀ m, (∀ i, i < m → isD (bAt t (a + i)) = true) → 0 ≤ dVal t a m
  | 0, h => Int.le_refl _
  | m + 1, h => by
    have h1 := dVal_nn t a m (fun i hi => h i (by omega))
    have h2 := isD_bd (h m (by omega))
    rw [dVal]; omega
theorem pDig_un {t : ByteArray} {a e : Nat} {n : Int} (h : pDig t a = some (n, e)) : 0 ≤ n ∧ a < e ∧ e ≤ t.size ∧ decS 18 n.toNat = t.extract a e := by
  obtain ⟨h1, h2, h3, h4, h5, h6, h7⟩ := pDig_facts h
  have hd : ∀ i, i < e - a → isD (bAt t (a + i)) = true := fun i hi => h3 (a + i) (by omega) (by omega)
  refine ⟨by rw [h7]; exact dVal_nn t a _ hd, h1, h2, ?_⟩
  have := decS_of t a (e - a - 1) 18 (fun j hj => isD_bd (hd j (by omega))) (fun hm => by have := isD_bd (hd 0 (by omega)); rw [Nat.add_zero] at this; have := h6 (by omega); omega) (by omega) (by omega)
  rw [show e - a - 1 + 1 = e - a by omega, ← h7, show a + (e - a - 1) + 1 = e by omega] at this
  exact this
theorem encNum_un {st : Bool} {lo hi : Int} {t d : ByteArray} {j e : Nat} (h : encNum st lo hi t j = some (d, e)) : ∃ x, lo ≤ x ∧ x ≤ hi ∧ At t j (decI x) ∧ e = j + (decI x).size ∧ d = numData x := by
  unfold encNum at h
  split at h
  · cases h
  · rename_i n e' hn
    split at h
    · cases h
    · rename_i hr
      split at h
      · cases h
      · cases h
        refine ⟨n, by omega, by omega, ?_⟩
        unfold pNum at hn
        split at hn
        · rename_i h45
          split at hn
          · cases hn
          · rename_i n0 e0 hp
            split at hn
            · cases hn
            · rename_i hn0
              cases hn
              obtain ⟨p1, p2, p3, p4⟩ := pDig_un hp
              have hdI : decI (-n0) = ⟨#[45]⟩ ++ t.extract (j + 1) e := by unfold decI; rw [if_pos (by omega), ← p4]; congr 2; omega
              have hs := size_extract t (j + 1) e (by omega) p3
              have e1 : (⟨#[45]⟩ : ByteArray).size = 1 := rfl
              have hjt : j < t.size := bAt_lt (by omega)
              rw [hdI]
              refine ⟨At.app.2 ⟨⟨by rw [e1]; omega, fun i hi => ?_⟩, by rw [e1]; exact At.of (by omega) p3⟩, by rw [ByteArray.size_append, hs, e1]; omega, rfl⟩
              rw [e1] at hi
              obtain rfl : i = 0 := by omega
              rw [Nat.add_zero, h45]; rfl
        · obtain ⟨p1, p2, p3, p4⟩ := pDig_un hn
          have hdI : decI n = t.extract j e := by unfold decI; rw [if_neg (by omega), p4]
          rw [hdI]
          exact ⟨At.of (by omega) p3, by rw [size_extract t j e (by omega) p3]; omega, rfl⟩
theorem allS_of {s : ByteArray} : ∀ (m k : Nat), (∀ i, i < m → inS (bAt s (k + i)) = true) → allS s m k = true
  | 0, k, h => rfl
  | m + 1, k, h => by
    rw [allS, Bool.and_eq_true]
    exact ⟨by have := h 0 (by omega); rw [Nat.add_zero] at this; exact this, allS_of m (k + 1) (fun i hi => by have := h (i + 1) (by omega); rw [show k + (i + 1) = k + 1 + i by omega] at this; exact this)⟩
theorem encStr_un {t d : ByteArray} {j e : Nat} (h : encStr t j = some (d, e)) : ∃ s : ByteArray, s.size ≤ 60 ∧ allS s s.size 0 = true ∧ At t j (quo ++ s ++ quo) ∧ e = j + (quo ++ s ++ quo).size ∧ d = oneB s.size ++ s := by
  unfold encStr at h
  split at h
  · rename_i h34
    simp only at h
    have hrl := run_le inS t (t.size - (j + 1)) (j + 1)
    have hra := run_all inS t (t.size - (j + 1)) (j + 1)
    generalize runEnd inS t (t.size - (j + 1)) (j + 1) = E at h hrl hra
    split at h
    · rename_i hc
      cases h
      have hE : E < t.size := bAt_lt (by omega)
      have hjt : j < t.size := bAt_lt (by omega)
      have hs := size_extract t (j + 1) E (by omega) (by omega)
      refine ⟨t.extract (j + 1) E, by omega, allS_of _ _ (fun i hi => ?_), ?_, ?_, by rw [hs]⟩
      · rw [Nat.zero_add, bAt_ext t (j + 1) E i (by omega) (by omega)]
        exact hra _ (by omega) (by omega)
      · rw [At.app, At.app, ByteArray.size_append, quo_size, hs]
        refine ⟨⟨⟨by rw [quo_size]; omega, fun i hi => ?_⟩, At.of (by omega) (by omega)⟩, ⟨by rw [quo_size]; omega, fun i hi => ?_⟩⟩
        · rw [quo_size] at hi; obtain rfl : i = 0 := by omega
          rw [Nat.add_zero, h34]; rfl
        · rw [quo_size] at hi; obtain rfl : i = 0 := by omega
          rw [show j + (1 + (E - (j + 1))) + 0 = E by omega, hc.1]; rfl
      · rw [ByteArray.size_append, ByteArray.size_append, quo_size, hs]; omega
    · cases h
  · cases h
theorem pFrom_in {l : ByteArray} {c : Int} : ∀ (m k : Nat), 0 ≤ pFrom l c m k → ∃ i : Nat, pFrom l c m k = i ∧ k ≤ i ∧ i < k + m ∧ bAt l i = c
  | 0, k, h => by simp [pFrom] at h
  | m + 1, k, h => by
    rw [pFrom] at h ⊢
    split at h
    · rename_i hb; rw [if_pos hb]; exact ⟨k, rfl, Nat.le_refl _, by omega, hb⟩
    · rename_i hb
      rw [if_neg hb]
      obtain ⟨i, h1, h2, h3, h4⟩ := pFrom_in m (k + 1) h
      exact ⟨i, h1, by omega, by omega, h4⟩
theorem At.one' {t : ByteArray} {j : Nat} (c : UInt8) (h : bAt t j = (c.toNat : Int)) : At t j ⟨#[c]⟩ := by
  have hj : j < t.size := bAt_lt (by omega)
  refine ⟨by rw [sz1]; omega, fun i hi => ?_⟩
  rw [sz1] at hi
  obtain rfl : i = 0 := by omega
  rw [Nat.add_zero, h]; rfl
theorem encItems_un {t : ByteArray} {f : Nat → Option (ByteArray × Nat)} {tv : Val → ByteArray} {ok : Val → Prop} (hf : ∀ j d k, f j = some (d, k) → ∃ v, ok v ∧ At t j (tv v) ∧ k = j + (tv v).size) :
    ∀ (m c b : Nat) (d d' : ByteArray) (k : Nat), encItems f t m c b d = some (d', k) → ∃ (v : Val) (us : List Val), us.length < m ∧ ok v ∧ (∀ u ∈ us, ok u) ∧ At t (b + 1) (tv v ++ sepT (us.map tv)) ∧ k = b + 1 + (tv v ++ sepT (us.map tv)).size
  | 0, c, b, d, d', k, h => by simp [encItems] at h
  | m + 1, c, b, d, d', k, h => by
    rw [encItems] at h
    split at h
    · cases h
    · rename_i x k' hx
      obtain ⟨v, hv1, hv2, hv3⟩ := hf _ _ _ hx
      split at h
      · rename_i h93
        cases h
        refine ⟨v, [], by simp, hv1, fun u hu => absurd hu List.not_mem_nil, ?_, ?_⟩
        · rw [At.app]; refine ⟨hv2, ?_⟩
          rw [← hv3]; exact At.one' 93 h93
        · rw [ByteArray.size_append, ← Nat.add_assoc, ← hv3]; rfl
      · split at h
        · rename_i h44
          obtain ⟨w, us, h1, h2, h3, h4, h5⟩ := encItems_un hf m _ _ _ _ _ h
          refine ⟨v, w :: us, by simp; omega, hv1, fun u hu => by rcases List.mem_cons.1 hu with rfl | hu; exact h2; exact h3 u hu, ?_, ?_⟩
          · rw [At.app, ← hv3, List.map_cons, sepT, At.app, sz1]
            exact ⟨hv2, At.one' 44 h44, h4⟩
          · rw [List.map_cons, sepT, ByteArray.size_append, ByteArray.size_append, sz1]; omega
        · cases h
theorem encFlds_un {t : ByteArray} {f : Ty → Nat → Option (ByteArray × Nat)} {tv : Ty → Val → ByteArray} {ok : Ty → Val → Prop} :
    ∀ (fs : List (Nat × Ty × ByteArray)) (mk : UInt8) (b : Nat) (d d' : ByteArray) (k : Nat), (∀ g ∈ fs, ∀ j d k, f g.2.1 j = some (d, k) → ∃ v, ok g.2.1 v ∧ At t j (tv g.2.1 v) ∧ k = j + (tv g.2.1 v).size) → (∀ g ∈ fs, g.1 < 256) → encFlds f t fs (mk.toNat : Int) b d = some (d', k) → ∃ vs : List Val, vs.length = fs.length ∧ (∀ p ∈ fs.zip vs, ok p.1.2.1 p.2) ∧ At t b (recT ((fs.zip vs).map fun p => (p.1.1, tv p.1.2.1 p.2)) ⟨#[mk]⟩) ∧ k = b + (recT ((fs.zip vs).map fun p => (p.1.1, tv p.1.2.1 p.2)) ⟨#[mk]⟩).size
  | [], mk, b, d, d', k, hf, hg, h => by
    rw [encFlds] at h
    split at h
    · rename_i h125
      cases h
      exact ⟨[], rfl, fun p hp => absurd hp (by simp), At.one' 125 h125, rfl⟩
    · cases h
  | g :: fs, mk, b, d, d', k, hf, hg, h => by
    rw [encFlds] at h
    split at h
    · rename_i hc
      split at h
      · cases h
      · rename_i x k' hx
        obtain ⟨v, hv1, hv2, hv3⟩ := hf g (by simp) _ _ _ hx
        obtain ⟨vs, h1, h2, h3, h4⟩ := encFlds_un (ok := ok) fs 44 _ _ _ _ (fun g' hg' => hf g' (by simp [hg'])) (fun g' hg' => hg g' (by simp [hg'])) h
        have h256 := hg g (by simp)
        refine ⟨v :: vs, by simp [h1], fun p hp => ?_, ?_, ?_⟩
        · rw [List.zip_cons_cons] at hp
          rcases List.mem_cons.1 hp with rfl | hp
          · exact hv1
          · exact h2 p hp
        · simp only [List.zip_cons_cons, List.map_cons, recT]
          rw [At.app, At.app, At.app, At.app, At.one h256]
          simp only [ByteArray.size_append, sz1, oneB_size]
          refine ⟨⟨At.one' mk hc.1, hc.2.1, ?_, ?_⟩, ?_⟩
          · rw [show b + 1 + 1 = b + 2 by omega]; exact At.one' 58 hc.2.2
          · rw [show b + 1 + 1 + 1 = b + 3 by omega]; exact hv2
          · rw [show b + (1 + (1 + (1 + (tv g.2.1 v).size))) = k' by omega]; exact h3
        · simp only [List.zip_cons_cons, List.map_cons, recT, ByteArray.size_append, sz1, oneB_size]
          omega
    · cases h
/-- What is encoded is the text of a value. -/
theorem enc_un {st : Bool} {t : ByteArray} : ∀ (n : Nat) (ty : Ty) (j : Nat) (d : ByteArray) (k : Nat), tyG n ty → tyF n ty → enc st t n ty j = some (d, k) → ∃ v, okV n ty v ∧ At t j (txtV n ty v) ∧ k = j + (txtV n ty v).size
  | 0, ty, j, d, k, _, _, h => by simp [enc] at h
  | n + 1, ty, j, d, k, hg, hF, h => by
    have ih := enc_un (st := st) (t := t) n
    rw [enc] at h
    split at h
    · rename_i hk
      obtain ⟨x, h1, h2, h3, h4, _⟩ := encNum_un h
      exact ⟨.num x, okV_num (.inl ⟨hk, h1, h2⟩), h3, h4⟩
    · split at h
      · rename_i hk
        obtain ⟨x, h1, h2, h3, h4, _⟩ := encNum_un h
        exact ⟨.num x, okV_num (.inr ⟨hk, h1, h2⟩), h3, h4⟩
      · split at h
        · rename_i hk
          obtain ⟨s, h1, h2, h3, h4, _⟩ := encStr_un h
          exact ⟨.str s, okV_str ⟨hk, h1, h2⟩, h3, h4⟩
        · split at h
          · rename_i hk
            split at h
            · cases h
            · rename_i hp
              cases h
              obtain ⟨i, h1, h2, h3, h4⟩ := pFrom_in (l := ty.letters) (c := bAt t j) ty.letters.size 0 (by unfold pOf at hp; omega)
              have hl := (hF.1 hk)
              have hj : j < t.size := by
                have := (hg.1 hk i (by omega)).1
                rw [h4] at this
                have := isL_bd this
                exact bAt_lt (by omega)
              have hhi := bAt_hi t j
              have hL := isL_bd ((hg.1 hk i (by omega)).1)
              refine ⟨.cho i, okV_cho ⟨hk, by omega, by omega⟩, ?_, ?_⟩
              · rw [txtV_cho, At.one (by omega)]; omega
              · rw [txtV_cho, oneB_size]
          · split at h
            · rename_i hk
              unfold encList at h
              split at h
              · rename_i h91
                split at h
                · rename_i h93
                  cases h
                  refine ⟨.lst [], okV_lst ⟨hk, Nat.zero_le _, fun v hv => absurd hv List.not_mem_nil⟩, ?_, ?_⟩
                  · rw [txtV_lst]
                    show At t j (⟨#[91]⟩ ++ ⟨#[93]⟩)
                    rw [At.app, sz1]
                    exact ⟨At.one' 91 h91, At.one' 93 h93⟩
                  · rw [txtV_lst]; rfl
                · obtain ⟨v, us, h1, h2, h3, h4, h5⟩ := encItems_un (tv := txtV n ty.in) (ok := okV n ty.in) (fun j d k h => ih ty.in j d k (hg.2.2.1 (.inl hk)) (hF.2.1 (.inl hk)) h) _ _ _ _ _ _ h
                  have hT : txtV (n + 1) ty (.lst (v :: us)) = ⟨#[91]⟩ ++ (txtV n ty.in v ++ sepT (us.map (txtV n ty.in))) := by
                    rw [txtV_lst]; simp only [List.map_cons, itemsT, itemsT_sep, Nat.lt_irrefl, if_false, ByteArray.append_assoc]
                  refine ⟨.lst (v :: us), okV_lst ⟨hk, by simp; omega, fun u hu => by rcases List.mem_cons.1 hu with rfl | hu; exact h2; exact h3 u hu⟩, ?_, ?_⟩
                  · rw [hT, At.app, sz1]; exact ⟨At.one' 91 h91, h4⟩
                  · rw [hT, ByteArray.size_append, sz1]; omega
              · cases h
            · split at h
              · rename_i hk
                unfold encMaybe at h
                split at h
                · rename_i h95
                  cases h
                  refine ⟨.non, okV_non hk, ?_, ?_⟩
                  · rw [txtV_non]; exact At.one' 95 h95
                  · rw [txtV_non]; rfl
                · split at h
                  · cases h
                  · rename_i d0 k0 h0
                    cases h
                    obtain ⟨v, h1, h2, h3⟩ := ih ty.in j d0 k (hg.2.2.1 (.inr hk)) (hF.2.1 (.inr hk)) h0
                    exact ⟨.som v, okV_som ⟨hk, h1⟩, by rw [txtV_som]; exact h2, by rw [txtV_som]; exact h3⟩
              · split at h
                · rename_i hk
                  obtain ⟨vs, h1, h2, h3, h4⟩ := encFlds_un (tv := txtV n) (ok := fun t v => okV n t v) ty.fields 123 j ByteArray.empty d k (fun f hf j d k h => ih f.2.1 j d k (hg.2.2.2 f hf).2 (hF.2.2.2 f hf) h) (fun g hg' => (hg.2.2.2 g hg').1) h
                  refine ⟨.rcd vs, okV_rcd ⟨hk, hF.2.2.1 hk, h1, h2⟩, ?_, ?_⟩
                  · rw [txtV_rcd, fldsT_rec, ByteArray.empty_append]; exact h3
                  · rw [txtV_rcd, fldsT_rec, ByteArray.empty_append]; exact h4
                · cases h
end
section
open Go.RowKit

/-- The defaults are texts of values, all the way down. -/
def tyD : Nat → Ty → Prop
  | 0, _ => True
  | n + 1, ty => (ty.kind = 91 ∨ ty.kind = 63 → tyD n ty.in) ∧ ∀ f ∈ ty.fields, tyD n f.2.1 ∧ (f.2.2.size ≠ 0 → ∃ v, okV n f.2.1 v ∧ f.2.2 = txtV n f.2.1 v)
theorem type_all {s : ByteArray} : ∀ (n i : Nat) (ty : Ty) (k : Nat), pType true s n i = some (ty, k) → tyL n ty ∧ tyF n ty ∧ tyD n ty
  | 0, i, ty, k, h => by simp [pType] at h
  | n + 1, i, ty, k, h => by
    have ih := type_all (s := s) n
    have his : i < s.size := by have := pType_bd true s _ _ _ _ h; omega
    obtain ⟨_, n', hn, h60, hin, hne, h123, hk⟩ := type_parts h
    obtain rfl : n' = n := by omega
    have h6 : ty.kind = 60 → 1 ≤ ty.letters.size ∧ ty.letters.size ≤ 8 := fun h => by
      obtain ⟨_, _, l3, l4, _⟩ := rChoice_op (by omega) (h60 h)
      exact ⟨l3, l4⟩
    have hi : ty.kind = 91 ∨ ty.kind = 63 → tyL n' ty.in ∧ tyF n' ty.in ∧ tyD n' ty.in := fun h => by
      obtain ⟨k', hk'⟩ := hin h
      exact ih _ _ _ hk'
    have hfs : ty.kind = 123 → ty.fields ≠ [] ∧ ∀ f ∈ ty.fields, tyL n' f.2.1 ∧ tyF n' f.2.1 ∧ tyD n' f.2.1 ∧ (f.2.2.size ≠ 0 → ∃ v, okV n' f.2.1 v ∧ f.2.2 = txtV n' f.2.1 v) := fun h3 => by
      obtain ⟨k', hk'⟩ := h123 h3
      have hpf : ∀ i f k, pField (pType true s n') (enc true s n') s i = some (f, k) → (i < k ∧ k ≤ s.size) ∧ tyL n' f.2.1 ∧ tyF n' f.2.1 ∧ tyD n' f.2.1 ∧ (f.2.2.size ≠ 0 → ∃ v, okV n' f.2.1 v ∧ f.2.2 = txtV n' f.2.1 v) := fun i f k hf => by
        unfold pField at hf
        split at hf
        · split at hf
          · cases hf
          · rename_i t k' ht
            have h1 := ih _ _ _ ht
            have h2 := pType_bd true s _ _ _ _ ht
            split at hf
            · split at hf
              · cases hf
              · rename_i d m' he
                cases hf
                have h3 := enc_bd he
                obtain ⟨v, e1, e2, e3⟩ := enc_un n' t _ _ _ (type_good _ _ _ _ ht).1 h1.2.1 he
                refine ⟨⟨by omega, by omega⟩, h1.1, h1.2.1, h1.2.2, fun _ => ⟨v, e1, ?_⟩⟩
                show s.extract (k' + 1) k = txtV n' t v
                rw [e3]; exact e2.ext
            · cases hf
              exact ⟨⟨by omega, by omega⟩, h1.1, h1.2.1, h1.2.2, fun h => absurd rfl h⟩
        · cases hf
      have hl := pFlds_len (fun a f k hf => (hpf a f k hf).1) (Nat.zero_le _) hk'
      refine ⟨fun hf => by rw [hf] at hl; simp at hl, ?_⟩
      exact (pFlds_G (Q := fun f => tyL n' f.2.1 ∧ tyF n' f.2.1 ∧ tyD n' f.2.1 ∧ (f.2.2.size ≠ 0 → ∃ v, okV n' f.2.1 v ∧ f.2.2 = txtV n' f.2.1 v)) (fun i f k hf => (hpf i f k hf).2) _ _ _ _ _ hk' (fun f hf => absurd hf List.not_mem_nil) (by simp)).1
    have hff : ∀ f ∈ ty.fields, ty.kind = 123 := fun f hf => by
      apply Classical.byContradiction
      intro h3
      rw [fields_nil h h3] at hf; exact absurd hf List.not_mem_nil
    exact ⟨⟨hk, h6, fun h => (hi h).1, hne, fun h3 => ⟨(hfs h3).1, fun f hf => ((hfs h3).2 f hf).1⟩⟩,
      ⟨fun h => (h6 h).2, fun h => (hi h).2.1, fun h3 => (hfs h3).1, fun f hf => ((hfs (hff f hf)).2 f hf).2.1⟩,
      ⟨fun h => (hi h).2.2, fun f hf => ((hfs (hff f hf)).2 f hf).2.2⟩⟩
theorem cat_zip {α : Type} (f : Val → ByteArray) (c : α → Nat) : ∀ (gs : List α) (vs : List Val), vs.length = gs.length → (∀ (i : Nat) (g : α) (v : Val), gs[i]? = some g → vs[i]? = some v → (f v).size ≤ c g) → (catB (vs.map f)).size ≤ (gs.map c).sum
  | [], [], hl, h => by simp [catB]
  | [], v :: vs, hl, h => by simp at hl
  | g :: gs, [], hl, h => by simp at hl
  | g :: gs, v :: vs, hl, h => by
    have h1 := h 0 g v rfl rfl
    have h2 := cat_zip f c gs vs (by simpa using hl) (fun i g' v' hg hv => h (i + 1) g' v' (by simpa using hg) (by simpa using hv))
    simp only [List.map_cons, catB, ByteArray.size_append, List.sum_cons]; omega
theorem un_dat : ∀ (m n : Nat) (x r : Ty) (u : Val), tyL n x → unV m n x r = some u → (datV n u).size ≤ ln n x
  | 0, n, x, r, u, hl, h => by simp [unV] at h
  | m + 1, 0, x, r, u, hl, h => hl.elim
  | m + 1, n + 1, x, r, u, hl, h => by
    change unStep (unV m n) (unV m (n + 1)) n x r = some u at h
    unfold unStep at h
    split at h
    · rename_i hc
      obtain ⟨v, hv, rfl⟩ := Option.map_eq_some_iff.1 h
      have := un_dat m n x.in r.in v (hl.2.2.1 (.inr hc.1)) hv
      rw [datV_som, ByteArray.size_append, oneB_size, ln, if_neg (by omega), if_pos hc.1]; omega
    · split at h
      · exact un_dat m (n + 1) x r.in u hl h
      · split at h
        · cases h
        · split at h
          · cases h; exact lv_dat (n + 1) x hl
          · split at h
            · rename_i h60
              obtain ⟨v, hv, rfl⟩ := Option.map_eq_some_iff.1 h
              rw [datV_cho, oneB_size, ln, if_neg (by omega), if_neg (by omega), if_neg (by omega)]; omega
            · split at h
              · rename_i h91
                obtain ⟨v, hv, rfl⟩ := Option.map_eq_some_iff.1 h
                have := un_dat m n x.in r.in v (hl.2.2.1 (.inl h91)) hv
                rw [datV_lst, ByteArray.size_append, oneB_size, ln, if_pos h91]
                show 1 + (catB [datV n v]).size ≤ _
                simp only [catB, ByteArray.size_append]
                have : ByteArray.empty.size = 0 := rfl
                omega
              · split at h
                · rename_i h123
                  have h5 := hl.2.2.2.2 h123
                  have key : ∀ vs : List Val, (∀ (i : Nat) (g : Nat × Ty × ByteArray) (v : Val), x.fields[i]? = some g → vs[i]? = some v → (datV n v).size ≤ ln n g.2.1 + 3) → vs.length = x.fields.length → (datV (n + 1) (.rcd vs)).size ≤ ln (n + 1) x := fun vs hv hlen => by
                    rw [datV_rcd, ln, if_neg (by omega), if_neg (by omega), if_pos h123]
                    have := cat_zip (datV n) (fun g : Nat × Ty × ByteArray => ln n g.2.1 + 3) x.fields vs hlen hv
                    omega
                  have go : ∀ gs : List (Nat × Ty × ByteArray), unF (unV m n) n x.fields gs = some u → (datV (n + 1) u).size ≤ ln (n + 1) x := by
                    intro gs
                    induction gs with
                    | nil => intro h; simp [unF] at h
                    | cons g gs ihg =>
                      intro h
                      rw [unF] at h
                      split at h
                      · split at h
                        · cases h
                          refine key _ (fun i g v hg hv => ?_) (by simp)
                          rw [List.getElem?_map, hg] at hv
                          simp at hv
                          rw [← hv]
                          have := lv_dat n g.2.1 (h5.2 g (List.mem_of_getElem? hg)); omega
                        · exact ihg h
                      · rename_i p hfi
                        have hpl : p < x.fields.length := by rw [List.findIdx?_eq_some_iff_getElem] at hfi; exact hfi.1
                        obtain ⟨q, hq⟩ : ∃ q, x.fields[p]? = some q := ⟨x.fields[p], List.getElem?_eq_getElem hpl⟩
                        rw [getD_field hq] at h
                        split at h
                        · exact ihg h
                        · rename_i v hv
                          cases h
                          have h1 := un_dat m n q.2.1 g.2.1 v (h5.2 q (List.mem_of_getElem? hq)) hv
                          refine key _ (fun i g' v' hg hv' => ?_) (by simp)
                          by_cases hip : i = p
                          · subst hip
                            rw [List.getElem?_set_self (by simpa using hpl)] at hv'
                            rw [hq] at hg
                            cases hg; cases hv'; omega
                          · rw [List.getElem?_set_ne (by omega), List.getElem?_map, hg] at hv'
                            simp at hv'
                            rw [← hv']
                            have := lv_dat n g'.2.1 (h5.2 g' (List.mem_of_getElem? hg)); omega
                  exact go r.fields h
                · cases h
theorem rdItems_val {f : Val → Option ByteArray} {tv : Val → ByteArray} {ok : Val → Prop} : ∀ (vs : List Val) (k : Nat) (t y : ByteArray), (∀ v ∈ vs, ∀ z, f v = some z → ∃ w, ok w ∧ z = tv w) → rdItems f vs k t = some y → ∃ ws : List Val, ws.length = vs.length ∧ (∀ w ∈ ws, ok w) ∧ y = itemsT k (ws.map tv) t
  | [], k, t, y, h, hy => by
    simp only [rdItems, Option.some.injEq] at hy
    exact ⟨[], rfl, fun w hw => absurd hw List.not_mem_nil, hy.symm⟩
  | v :: vs, k, t, y, h, hy => by
    rw [rdItems] at hy
    split at hy
    · cases hy
    · rename_i z hz
      obtain ⟨w, h1, h2⟩ := h v (by simp) z hz
      obtain ⟨ws, g1, g2, g3⟩ := rdItems_val (tv := tv) (ok := ok) vs _ _ _ (fun v hv => h v (by simp [hv])) hy
      refine ⟨w :: ws, by simp [g1], fun u hu => by rcases List.mem_cons.1 hu with rfl | hu; exact h1; exact g2 u hu, ?_⟩
      rw [List.map_cons, itemsT, ← h2]; exact g3
theorem rdFlds_val {f : Nat × Ty × ByteArray → Option ByteArray} {tv : Ty → Val → ByteArray} {ok : Ty → Val → Prop} : ∀ (gs : List (Nat × Ty × ByteArray)) (mk t y : ByteArray), (∀ g ∈ gs, ∀ z, f g = some z → ∃ w, ok g.2.1 w ∧ z = tv g.2.1 w) → rdFlds f gs mk t = some y → ∃ ws : List Val, ws.length = gs.length ∧ (∀ p ∈ gs.zip ws, ok p.1.2.1 p.2) ∧ y = fldsT ((gs.zip ws).map fun p => (p.1.1, tv p.1.2.1 p.2)) mk t
  | [], mk, t, y, h, hy => by
    simp only [rdFlds, Option.some.injEq] at hy
    exact ⟨[], rfl, fun p hp => absurd hp (by simp), hy.symm⟩
  | g :: gs, mk, t, y, h, hy => by
    rw [rdFlds] at hy
    split at hy
    · cases hy
    · rename_i z hz
      obtain ⟨w, h1, h2⟩ := h g (by simp) z hz
      obtain ⟨ws, g1, g2, g3⟩ := rdFlds_val (tv := tv) (ok := ok) gs _ _ _ (fun g hg => h g (by simp [hg])) hy
      refine ⟨w :: ws, by simp [g1], fun p hp => ?_, ?_⟩
      · rw [List.zip_cons_cons] at hp
        rcases List.mem_cons.1 hp with rfl | hp
        · exact h1
        · exact g2 p hp
      · simp only [List.zip_cons_cons, List.map_cons, fldsT]; rw [← h2]; exact g3
/-- What comes out is the text of a value of the reader's. -/
theorem rd_val : ∀ (k n q : Nat) (x r : Ty) (v : Val) (y : ByteArray), okV n x v → tyL q r → tyD q r → rdT k x r v = some y → ∃ w, okV q r w ∧ y = txtV q r w
  | 0, n, q, x, r, v, y, hv, hl, hD, h => by simp [rdT] at h
  | k + 1, 0, q, x, r, v, y, hv, hl, hD, h => hv.elim
  | k + 1, n + 1, 0, x, r, v, y, hv, hl, hD, h => hl.elim
  | k + 1, n + 1, q + 1, x, r, v, y, hv, hl, hD, h => by
    change rdStep (rdT k) x r v = some y at h
    unfold rdStep at h
    split at h
    · rename_i hx
      rcases hv with ⟨z, rfl, hv⟩ | ⟨z, rfl, hv⟩ | ⟨i, rfl, hv⟩ | ⟨vs, rfl, hv⟩ | ⟨rfl, hv⟩ | ⟨u, rfl, hv⟩ | ⟨vs, rfl, hv⟩
      · omega
      · omega
      · omega
      · omega
      · change (if r.kind = 63 then some (⟨#[95]⟩ : ByteArray) else none) = some y at h
        split at h
        · rename_i hr; cases h; exact ⟨.non, okV_non hr, rfl⟩
        · cases h
      · exact rd_val k n (q + 1) x.in r u y hv.2 hl hD h
      · omega
    · rename_i hx
      split at h
      · rename_i hr
        obtain ⟨w, h1, h2⟩ := rd_val k (n + 1) q x r.in v y hv (hl.2.2.1 (.inr hr)) (hD.1 (.inr hr)) h
        exact ⟨.som w, okV_som ⟨hr, h1⟩, by rw [txtV_som]; exact h2⟩
      · rename_i hr
        split at h
        · rename_i hs
          cases h
          rcases hv with ⟨z, rfl, hv⟩ | ⟨z, rfl, hv⟩ | ⟨i, rfl, hv⟩ | ⟨vs, rfl, hv⟩ | ⟨rfl, hv⟩ | ⟨u, rfl, hv⟩ | ⟨vs, rfl, hv⟩
          · refine ⟨.num z, okV_num ?_, rfl⟩
            simp [sameK] at hs
            omega
          · refine ⟨.str z, okV_str ⟨?_, hv.2⟩, rfl⟩
            simp [sameK] at hs
            omega
          · exfalso; simp [sameK] at hs; omega
          · exfalso; simp [sameK] at hs; omega
          · exfalso; simp [sameK] at hs; omega
          · exfalso; simp [sameK] at hs; omega
          · exfalso; simp [sameK] at hs; omega
        · split at h
          · cases h
          · rename_i hs hkk
            have hkk' : x.kind = r.kind := by simpa using hkk
            rcases hv with ⟨z, rfl, hv⟩ | ⟨z, rfl, hv⟩ | ⟨i, rfl, hv⟩ | ⟨vs, rfl, hv⟩ | ⟨rfl, hv⟩ | ⟨u, rfl, hv⟩ | ⟨vs, rfl, hv⟩
            · cases h
            · cases h
            · change rdCho x.letters r.letters r.op i = some y at h
              unfold rdCho at h
              have h68 := hl.2.1 (by omega)
              split at h
              · split at h
                · cases h
                  exact ⟨.cho 0, okV_cho ⟨by omega, by omega, by omega⟩, by rw [txtV_cho]; exact extract_oneB r.letters 0 (by omega)⟩
                · cases h
              · rename_i hp
                cases h
                obtain ⟨j, e1, e2, e3, e4⟩ := pFrom_in (l := r.letters) (c := bAt x.letters i) r.letters.size 0 (by unfold pOf at hp; omega)
                exact ⟨.cho j, okV_cho ⟨by omega, by omega, by omega⟩, by rw [txtV_cho, e4]⟩
            · change rdItems (rdT k x.in r.in) vs 0 ⟨#[91]⟩ = some y at h
              obtain ⟨ws, g1, g2, g3⟩ := rdItems_val (tv := txtV q r.in) (ok := okV q r.in) vs _ _ _ (fun v hv' z hz => rd_val k n q x.in r.in v z (hv.2.2 v hv') (hl.2.2.1 (.inl (by omega))) (hD.1 (.inl (by omega))) hz) h
              exact ⟨.lst ws, okV_lst ⟨by omega, by omega, g2⟩, by rw [txtV_lst]; exact g3⟩
            · cases h
            · cases h
            · change rdFlds (rdFld (rdT k) (x.fields.zip vs)) r.fields ⟨#[123]⟩ ByteArray.empty = some y at h
              have h5 := hl.2.2.2.2 (by omega)
              obtain ⟨ws, g1, g2, g3⟩ := rdFlds_val (tv := txtV q) (ok := okV q) r.fields _ _ _ (fun g hg z hz => by
                unfold rdFld at hz
                split at hz
                · split at hz
                  · cases hz
                  · rename_i he
                    cases hz
                    exact (hD.2 g hg).2 he
                · rename_i p hp
                  exact rd_val k n q p.1.2.1 g.2.1 p.2 z (hv.2.2.2 p (find_mem hp)) (h5.2 g hg) (hD.2 g hg).1 hz) h
              exact ⟨.rcd ws, okV_rcd ⟨by omega, h5.1, g1, g2⟩, by rw [txtV_rcd]; exact g3⟩
end
section
set_option maxRecDepth 4000
open Go.RowKit

set_option maxHeartbeats 1000000 in
theorem Fits_err (s t : ByteArray) (w : World) (n : Int) (hn : (n != 0) = true)
    (hcall : ∀ w, Calls Tryd.prog 26 #[.string s, .string t] w fun e w' => e = .returned (.tuple #[.agg #[.int .i64 0, .string ByteArray.empty, .bool false, .slice none 0 0, .slice none 0 0], .agg #[.int .i64 0, .string ByteArray.empty, .bool false, .slice none 0 0, .slice none 0 0], .int .i64 n]) ∧ Below w.heap.size w w') :
    Calls Tryd.prog 18 #[.string s, .string t] w fun e w' => e = .returned (.tuple #[.string ByteArray.empty, .int .i64 n]) ∧ Below w.heap.size w w' := by
  go_enter Tryd.func18, Tryd.ntmps18
  go_wp2_with (go_at_call 26; refine (hcall _).mono ?_; rintro e w1 ⟨rfl, hb1⟩)
  go_ret2
  exact ⟨rfl, Below.alloc' (Below.alloc' hb1 _) _⟩
set_option maxHeartbeats 1000000 in
theorem Fits_walk (s t y : ByteArray) (b : Bool) (w : World) (x r : Ty) (n m : Nat)
    (hcall : ∀ w, Calls Tryd.prog 26 #[.string s, .string t] w fun e w' => ∃ ai li ci af lf cf bi mi di bf mf df, e = .returned (.tuple #[.agg #[.int .i64 x.kind, .string x.letters, .bool x.op, .slice ai li ci, .slice af lf cf], .agg #[.int .i64 r.kind, .string r.letters, .bool r.op, .slice bi mi di, .slice bf mf df], .int .i64 0]) ∧
      RepB (fun b => w.heap.size ≤ b) n w' ai li ci af lf cf x ∧ RepB (fun b => w.heap.size ≤ b) m w' bi mi di bf mf df r ∧ Below w.heap.size w w')
    (hun : ∀ (W : World) (ai af : Option Addr) (li ci lf cf : Nat) (bi bf : Option Addr) (mi di mf df : Nat), Rep n W ai li ci af lf cf x → Rep m W bi mi di bf mf df r → Calls Tryd.prog 30 #[.agg #[.int .i64 x.kind, .string x.letters, .bool x.op, .slice ai li ci, .slice af lf cf], .agg #[.int .i64 r.kind, .string r.letters, .bool r.op, .slice bi mi di, .slice bf mf df]] W fun e w' => e = .returned (.tuple #[.string y, .bool b]) ∧ Below W.heap.size W w') :
    Calls Tryd.prog 18 #[.string s, .string t] w fun e w' => e = .returned (if b = true then .tuple #[.string y, .int .i64 7] else .tuple #[.string ByteArray.empty, .int .i64 0]) ∧ Below w.heap.size w w' := by
  cases b with
  | true =>
    rw [if_pos rfl]
    go_enter Tryd.func18, Tryd.ntmps18
    go_wp2_with (first | (go_at_call 26; refine (hcall _).mono ?_; rintro e w1 ⟨ai, li, ci, af, lf, cf, bi, mi, di, bf, mf, df, rfl, hr1, hr2, hb1⟩) | (go_at_call 30; refine (hun _ _ _ _ _ _ _ _ _ _ _ _ _ (hr1.rep.keep (bx w1 _ _)) (hr2.rep.keep (bx w1 _ _))).mono ?_; rintro e w2 ⟨rfl, hb2⟩))
    go_ret2
    exact ⟨rfl, thn2 (Below.alloc' (Below.alloc' hb1 _) _) hb2⟩
  | false =>
    rw [if_neg (by simp)]
    go_enter Tryd.func18, Tryd.ntmps18
    go_wp2_with (first | (go_at_call 26; refine (hcall _).mono ?_; rintro e w1 ⟨ai, li, ci, af, lf, cf, bi, mi, di, bf, mf, df, rfl, hr1, hr2, hb1⟩) | (go_at_call 30; refine (hun _ _ _ _ _ _ _ _ _ _ _ _ _ (hr1.rep.keep (bx w1 _ _)) (hr2.rep.keep (bx w1 _ _))).mono ?_; rintro e w2 ⟨rfl, hb2⟩))
    go_ret2
    exact ⟨rfl, thn2 (Below.alloc' (Below.alloc' hb1 _) _) hb2⟩

/-- What 'Fits' answers: the text, the error. -/
def fitOut (s t : ByteArray) : ByteArray × Int :=
  if 60 < s.size ∨ 60 < t.size then (ByteArray.empty, 1)
  else match pAll false s, pAll false t with
    | some x, some r =>
      (match unV (s.size + t.size) s.size x r with
        | some u => (txtV s.size x u, 7)
        | none => (ByteArray.empty, 0))
    | _, _ => (ByteArray.empty, 2)
theorem Fits_any (s t : ByteArray) (hs : s.size ≤ maxLen) (ht : t.size ≤ maxLen) (hW : ∀ x, pAll false s = some x → s.size ≤ 60 → wt s.size x ≤ 20000) (w : World) :
    Calls Tryd.prog 18 #[.string s, .string t] w fun e w' => e = .returned (.tuple #[.string (fitOut s t).1, .int .i64 (fitOut s t).2]) ∧ Below w.heap.size w w' := by
  unfold fitOut
  by_cases h2 : 60 < s.size ∨ 60 < t.size
  · rw [if_pos h2]
    exact Fits_err s t w 1 rfl (fun w => typesOf_long hs ht h2 w)
  have hs60 : s.size ≤ 60 := by omega
  have ht60 : t.size ≤ 60 := by omega
  rw [if_neg h2]
  cases hx : pAll false s with
  | none => exact Fits_err s t w 2 rfl (fun w => typesOf_bad1 hs60 ht60 hx w)
  | some x =>
    cases hr : pAll false t with
    | none => exact Fits_err s t w 2 rfl (fun w => typesOf_bad2 hs60 ht60 hx hr w)
    | some r =>
      have hc := fun w => typesOf_ok hs60 ht60 hx hr w
      have hK := type_K _ _ _ _ (pAll_sm (show pAll true s = some x by rw [pAll_st]; exact hx))
      have hun := fun (W : World) (ai af : Option Addr) (li ci lf cf : Nat) (bi bf : Option Addr) (mi di mf df : Nat) (h1 : Rep s.size W ai li ci af lf cf x) (h2 : Rep t.size W bi mi di bf mf df r) => unr_all (s.size + t.size) s.size t.size x r W ai af li ci lf cf bi bf mi di mf df (Nat.le_refl _) hK (hW x hx hs60) h1 h2
      simp only
      cases hu : unV (s.size + t.size) s.size x r with
      | none =>
        rw [hu] at hun
        exact Fits_walk s t _ false w x r _ _ hc hun
      | some u =>
        rw [hu] at hun
        exact Fits_walk s t _ true w x r _ _ hc hun
end
section
open Go.RowKit

/-- The data of a whole text. -/
def encAll (st : Bool) (t : ByteArray) (n : Nat) (ty : Ty) : Option ByteArray :=
  match enc st t n ty 0 with
  | none => none
  | some (d, k) => if k = t.size then some d else none
def eRet : Option ByteArray → Value
  | some d => .tuple #[.string d, .bool true]
  | none => .tuple #[.string ByteArray.empty, .bool false]

set_option maxHeartbeats 1000000 in
theorem sEncode_any {t : ByteArray} (ht : t.size ≤ 4096) {n : Nat} (hn : n ≤ 100) (ty : Ty) (w : World) (ai af : Option Addr) (li ci lf cf : Nat) (hr : Rep n w ai li ci af lf cf ty) :
    Calls Tryd.prog 25 #[.agg #[.int .i64 ty.kind, .string ty.letters, .bool ty.op, .slice ai li ci, .slice af lf cf], .string t] w fun e w' => e = .returned (eRet (encAll false t n ty)) ∧ Below w.heap.size w w' := by
  have hB : ∀ o, Below w.heap.size w (w.alloc o) := fun o => (Below.refl _ _).alloc (Nat.le_refl _) _
  have IH := encodeAt_all ht n (by omega)
  cases hx : enc false t n ty 0 with
  | none =>
    have hr' : Hid (encAll false t n ty = none) := by show _ = _; unfold encAll; rw [hx]
    have hcall := fun o => IH.no (Nat.zero_le _) (hr.keep (hB o)) hx
    clear hx IH
    go_enter Tryd.func25, Tryd.ntmps25
    go_wp2_with (go_at_call 39; refine (hcall _).mono ?_; rintro e w1 ⟨rfl, hb1⟩)
    go_ret2
    rw [hr'.out]
    exact ⟨rfl, (hB _).trans (hb1.mono (by simp))⟩
  | some p =>
    obtain ⟨d, k⟩ := p
    have hcall := fun o => IH.yes (Nat.zero_le _) (hr.keep (hB o)) hx
    by_cases hk : k = t.size
    · have hk' : ((k : Int) != (t.size : Int)) = false := by simp; omega
      have hr' : Hid (encAll false t n ty = some d) := by show _ = _; unfold encAll; rw [hx]; simp only [if_pos hk]
      clear hx IH hk
      go_enter Tryd.func25, Tryd.ntmps25
      go_wp2_with (go_at_call 39; refine (hcall _).mono ?_; rintro e w1 ⟨rfl, hb1⟩)
      go_ret2
      rw [hr'.out]
      exact ⟨rfl, (hB _).trans (hb1.mono (by simp))⟩
    · have hk' : ((k : Int) != (t.size : Int)) = true := by simp; omega
      have hr' : Hid (encAll false t n ty = none) := by show _ = _; unfold encAll; rw [hx]; simp only [if_neg hk]
      clear hx IH hk
      go_enter Tryd.func25, Tryd.ntmps25
      go_wp2_with (go_at_call 39; refine (hcall _).mono ?_; rintro e w1 ⟨rfl, hb1⟩)
      go_ret2
      rw [hr'.out]
      exact ⟨rfl, (hB _).trans (hb1.mono (by simp))⟩

/-- What 'Encode' answers: the data, the error. -/
def encOut (st : Bool) (s t : ByteArray) : ByteArray × Int :=
  if 60 < s.size ∨ 4096 < t.size then (ByteArray.empty, 1) else
    match pAll st s with
    | none => (ByteArray.empty, 2)
    | some ty =>
      match encAll st t s.size ty with
      | none => (ByteArray.empty, 3)
      | some d => if 64 < d.size then (ByteArray.empty, 4) else (d, 0)

theorem encAll_bd {st : Bool} {t d : ByteArray} {n : Nat} {ty : Ty} (h : encAll st t n ty = some d) (ht : t.size ≤ 4096) (hn : n ≤ 100) : d.size ≤ 4000000 := by
  unfold encAll at h
  rcases hx : enc st t n ty 0 with _ | ⟨d', k⟩
  · rw [hx] at h; cases h
  · rw [hx] at h
    simp only at h
    split at h
    · cases h
      have := enc_bd hx
      exact data_small this.2.2 hn (by omega)
    · cases h

set_option maxHeartbeats 1000000 in
theorem Encode_any (s t : ByteArray) (hs : s.size ≤ maxLen) (ht : t.size ≤ maxLen) (w : World) :
    Calls Tryd.prog 14 #[.string s, .string t] w fun e w' => e = .returned (.tuple #[.string (encOut false s t).1, .int .i64 (encOut false s t).2]) ∧ Below w.heap.size w w' := by
  by_cases h1 : 4096 < t.size
  · have hr : Hid (encOut false s t = (ByteArray.empty, 1)) := by show _ = _; unfold encOut; rw [if_pos (.inr h1)]
    unfold maxLen at hs ht
    go_enter Tryd.func14, Tryd.ntmps14
    go_wp2_with fail
    go_ret2
    rw [hr.out]
    exact ⟨rfl, Below.refl _ _⟩
  · by_cases h2 : 60 < s.size
    · have hr : Hid (encOut false s t = (ByteArray.empty, 1)) := by show _ = _; unfold encOut; rw [if_pos (.inl h2)]
      have hcall := fun w => typeOf_long h2 hs w
      clear hs ht
      go_enter Tryd.func14, Tryd.ntmps14
      go_wp2_with (go_at_call 20; refine (hcall _).mono ?_; rintro e w1 ⟨rfl, hb1⟩)
      go_ret2
      rw [hr.out]
      exact ⟨rfl, Below.alloc' hb1 _⟩
    · have h0 : ¬ (60 < s.size ∨ 4096 < t.size) := by omega
      cases hx : pAll false s with
      | none =>
        have hr : Hid (encOut false s t = (ByteArray.empty, 2)) := by show _ = _; unfold encOut; rw [if_neg h0, hx]
        have hcall := fun w => TRet_no (typeOf_any (s := s) (by omega) w) hx
        clear hs ht hx
        go_enter Tryd.func14, Tryd.ntmps14
        go_wp2_with (go_at_call 20; refine (hcall _).mono ?_; rintro e w1 ⟨rfl, hb1⟩)
        go_ret2
        rw [hr.out]
        exact ⟨rfl, Below.alloc' hb1 _⟩
      | some ty =>
        have hcall := fun w => TRet_yes (typeOf_any (s := s) (by omega) w) hx
        have he := fun (W : World) (o : Obj) (ai : Option Addr) (li ci : Nat) (af : Option Addr) (lf cf : Nat) (S : Nat → Prop) (h : RepB S s.size W ai li ci af lf cf ty) => sEncode_any (t := t) (by omega) (show s.size ≤ 100 by omega) ty (W.alloc o) ai af li ci lf cf (h.rep.keep ((Below.refl _ _).alloc (Nat.le_refl _) _))
        cases hy : encAll false t s.size ty with
        | none =>
          have hr : Hid (encOut false s t = (ByteArray.empty, 3)) := by show _ = _; unfold encOut; rw [if_neg h0, hx]; simp only [hy]
          rw [hy] at he
          simp only [eRet] at he
          clear hs ht hx hy
          go_enter Tryd.func14, Tryd.ntmps14
          go_wp2_with (first | (go_at_call 20; refine (hcall _).mono ?_; rintro e w1 ⟨ai, li, ci, af, lf, cf, rfl, hr1, hb1⟩) | (go_at_call 25; refine (he _ _ _ _ _ _ _ _ _ hr1).mono ?_; rintro e w2 ⟨rfl, hb2⟩))
          go_ret2
          rw [hr.out]
          exact ⟨rfl, (Below.alloc' hb1 _).trans (hb2.mono (by have := hb1.size; simp; omega))⟩
        | some d =>
          have hds := encAll_bd hy (by omega) (by omega)
          rw [hy] at he
          simp only [eRet] at he
          by_cases h64 : 64 < d.size
          · have hr : Hid (encOut false s t = (ByteArray.empty, 4)) := by show _ = _; unfold encOut; rw [if_neg h0, hx]; simp only [hy, if_pos h64]
            clear hs ht hx hy
            go_enter Tryd.func14, Tryd.ntmps14
            go_wp2_with (first | (go_at_call 20; refine (hcall _).mono ?_; rintro e w1 ⟨ai, li, ci, af, lf, cf, rfl, hr1, hb1⟩) | (go_at_call 25; refine (he _ _ _ _ _ _ _ _ _ hr1).mono ?_; rintro e w2 ⟨rfl, hb2⟩))
            go_ret2
            rw [hr.out]
            exact ⟨rfl, (Below.alloc' hb1 _).trans (hb2.mono (by have := hb1.size; simp; omega))⟩
          · have hr : Hid (encOut false s t = (d, 0)) := by show _ = _; unfold encOut; rw [if_neg h0, hx]; simp only [hy, if_neg h64]
            clear hs ht hx hy
            go_enter Tryd.func14, Tryd.ntmps14
            go_wp2_with (first | (go_at_call 20; refine (hcall _).mono ?_; rintro e w1 ⟨ai, li, ci, af, lf, cf, rfl, hr1, hb1⟩) | (go_at_call 25; refine (he _ _ _ _ _ _ _ _ _ hr1).mono ?_; rintro e w2 ⟨rfl, hb2⟩))
            go_ret2
            rw [hr.out]
            exact ⟨rfl, (Below.alloc' hb1 _).trans (hb2.mono (by have := hb1.size; simp; omega))⟩
end
section
open Go.RowKit

set_option maxHeartbeats 1000000 in
theorem Check_any (s : ByteArray) (hm : s.size ≤ maxLen) (w : World) :
    Calls Tryd.prog 17 #[.string s] w fun e w' => e = .returned (.int .i64 (chk false s)) ∧ Below w.heap.size w w' := by
  by_cases hs : 60 < s.size
  · have hr' : Hid (chk false s = 1) := by show _ = _; unfold chk; rw [if_pos hs]
    have hcall := fun w => typeOf_long hs hm w
    clear hs hm
    go_enter Tryd.func17, Tryd.ntmps17
    go_wp2_with (go_at_call 20; refine (hcall _).mono ?_; rintro e w1 ⟨rfl, hb1⟩)
    go_ret
    exact ⟨ret_int hr'.out.symm, Below.alloc' hb1 _⟩
  · cases hx : pAll false s with
    | none =>
      have hr' : Hid (chk false s = 2) := by show _ = _; unfold chk; rw [if_neg hs, hx]; rfl
      have hcall := fun w => TRet_no (typeOf_any (s := s) (by omega) w) hx
      clear hs hm hx
      go_enter Tryd.func17, Tryd.ntmps17
      go_wp2_with (go_at_call 20; refine (hcall _).mono ?_; rintro e w1 ⟨rfl, hb1⟩)
      go_ret
      exact ⟨ret_int hr'.out.symm, Below.alloc' hb1 _⟩
    | some ty =>
      have hr' : Hid (chk false s = 0) := by show _ = _; unfold chk; rw [if_neg hs, hx]; rfl
      have hcall := fun w => TRet_yes (typeOf_any (s := s) (by omega) w) hx
      clear hs hm hx
      go_enter Tryd.func17, Tryd.ntmps17
      go_wp2_with (go_at_call 20; refine (hcall _).mono ?_; rintro e w1 ⟨ai, li, ci, af, lf, cf, rfl, hr1, hb1⟩)
      go_ret
      exact ⟨ret_int hr'.out.symm, Below.alloc' hb1 _⟩
end
section
set_option maxRecDepth 4000
open Go.RowKit

/-- What 'Read' answers of a value that is given. -/
theorem Read_of (s t d : ByteArray) (x r : Ty) (v : Val) (hs : s.size ≤ 60) (ht : t.size ≤ 60) (hd : d.size ≤ 64) (hx : pAll false s = some x) (hr : pAll false t = some r) (hv : okV s.size x v) (hdv : d = datV s.size v) (w : World) (hT : Tab w) :
    Calls Tryd.prog 15 #[.string s, .string t, .string d] w fun e w' => e = .returned (.tuple #[.string (rdOut (rdT (s.size + t.size) x r v)).1, .int .i64 (rdOut (rdT (s.size + t.size) x r v)).2]) ∧ Below w.heap.size w w' := by
  have hdec := fun (W : World) (ai af : Option Addr) (li ci lf cf : Nat) (hb : Below w.heap.size w W) (h : Rep s.size W ai li ci af lf cf x) => sDecode_any fmtOK (t := d) (by omega) (show s.size ≤ 100 by omega) x W ai af li ci lf cf (hT.keep hb) (pAll_ok hx) h
  have hd0 := decAll_val hv
  rw [← hdv] at hd0
  rw [hd0] at hdec
  have hrd := fun (W : World) (ai af : Option Addr) (li ci lf cf : Nat) (bi bf : Option Addr) (mi di mf df : Nat) (hb : Below w.heap.size w W) (h : Rep s.size W ai li ci af lf cf x) (h' : Rep t.size W bi mi di bf mf df r) =>
    read_all fmtOK (s.size + t.size) s.size t.size x r v W ai af li ci lf cf bi bf mi di mf df (Nat.le_refl _) (by omega) (by omega) (hT.keep hb) (pAll_ok hx) (pAll_ok hr) h h' hv (by rw [← hdv]; omega) (pAll_wt hr ht _)
  rw [← hdv] at hrd
  cases hz : rdT (s.size + t.size) x r v with
  | none => rw [hz] at hrd; exact Read_fail s t d _ _ hd w x r _ _ (fun w => typesOf_ok hs ht hx hr w) hdec hrd
  | some y => rw [hz] at hrd; exact Read_done s t d _ y hd w x r _ _ (fun w => typesOf_ok hs ht hx hr w) hdec hrd
theorem enc_of {s : ByteArray} {x : Ty} {v : Val} (hs : s.size ≤ 60) (hx : pAll false s = some x) (hv : okV s.size x v) (hT : (txtV s.size x v).size ≤ 4096) : encOut false s (txtV s.size x v) = if 64 < (datV s.size v).size then (ByteArray.empty, 4) else (datV s.size v, 0) := by
  have hp := pAll_some (show pAll true s = some x by rw [pAll_st]; exact hx)
  have hg := type_good _ _ _ _ hp
  have he := enc_at (st := false) (t := txtV s.size x v) s.size x v 0 hv hg.1 (At.self _) (by rw [bAt_out _ _ (by omega)]; exact DL_of (by omega))
  rw [Nat.zero_add] at he
  unfold encOut
  rw [if_neg (by omega), hx]
  simp only
  rw [show encAll false (txtV s.size x v) s.size x = some (datV s.size v) by unfold encAll; rw [he]; simp]
end
end Go.Proofs.YtkkekopomiehlaaDoor
