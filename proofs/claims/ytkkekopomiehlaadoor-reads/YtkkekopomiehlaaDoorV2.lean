import Derived.Test.YtkkekopomiehlaaDoorV1
import Derived.Test.YtkkekopomiehlaaDoorEq3
set_option linter.unusedVariables false
set_option linter.unusedSimpArgs false
namespace Go.Proofs.YtkkekopomiehlaaDoor
open Go.RowKit

abbrev Fld := Nat × Ty × ByteArray
def leafT (v : Val) : ByteArray := if v.tag = 0 then decI v.n else if v.tag = 1 then quo ++ v.s ++ quo else ByteArray.empty
/-- The values of the one kind are such of the other, as they are. -/
def sameK (a b : Nat) : Bool := (a == 105 && (b == 105 || b == 108)) || ((a == 108 || a == 115) && b == a)
def rdItems (f : Val → Option ByteArray) : List Val → Nat → ByteArray → Option ByteArray
  | [], _, t => some (t ++ ⟨#[93]⟩)
  | v :: vs, k, t =>
    match f v with
    | none => none
    | some x => rdItems f vs (k + 1) ((if 0 < k then t ++ ⟨#[44]⟩ else t) ++ x)
def rdFld (f : Ty → Ty → Val → Option ByteArray) (ps : List (Fld × Val)) (g : Fld) : Option ByteArray :=
  match ps.find? (fun p => p.1.1 == g.1) with
  | none => if g.2.2.size = 0 then none else some g.2.2
  | some p => f p.1.2.1 g.2.1 p.2
def rdFlds (f : Fld → Option ByteArray) : List Fld → ByteArray → ByteArray → Option ByteArray
  | [], _, t => some (t ++ ⟨#[125]⟩)
  | g :: gs, mk, t =>
    match f g with
    | none => none
    | some x => rdFlds f gs ⟨#[44]⟩ (t ++ (((mk ++ oneB g.1) ++ ⟨#[58]⟩) ++ x))
def rdCho (wl rl : ByteArray) (op : Bool) (i : Nat) : Option ByteArray :=
  if pOf rl (bAt wl i) < 0 then (if op = true then some (rl.extract 0 1) else none) else some (oneB (bAt wl i).toNat)
/-- One step of reading: 'f' reads what is within. -/
def rdStep (f : Ty → Ty → Val → Option ByteArray) (w r : Ty) (v : Val) : Option ByteArray :=
  if w.kind = 63 then (if v.tag = 4 then (if r.kind = 63 then some ⟨#[95]⟩ else none) else if v.tag = 5 then f w.in r v.hd else none)
  else if r.kind = 63 then f w r.in v
  else if sameK w.kind r.kind = true then some (leafT v)
  else if w.kind ≠ r.kind then none
  else if v.tag = 2 then rdCho w.letters r.letters r.op v.n.toNat
  else if v.tag = 3 then rdItems (f w.in r.in) v.vs 0 ⟨#[91]⟩
  else if v.tag = 6 then rdFlds (rdFld f (w.fields.zip v.vs)) r.fields ⟨#[123]⟩ ByteArray.empty
  else none
/-- The text of what a value is read as; none: it can't be read. -/
def rdT : Nat → Ty → Ty → Val → Option ByteArray
  | 0, _, _, _ => none
  | m + 1, w, r, v => rdStep (rdT m) w r v

/-- What a type's schema weighs: bounds the texts of what is read as it. -/
def wt : Nat → Ty → Nat
  | 0, _ => 0
  | n + 1, ty => 70 + (ty.inner.map (wt n)).sum + (ty.fields.map fun f => wt n f.2.1 + f.2.2.size + 4).sum
theorem sum_le {α : Type} (f g : α → Nat) : ∀ (l : List α), (∀ x ∈ l, f x ≤ g x) → (l.map f).sum ≤ (l.map g).sum
  | [], _ => by simp
  | x :: l, h => by
    have h1 := h x (by simp)
    have h2 := sum_le f g l (fun y hy => h y (by simp [hy]))
    simp; omega
theorem wt_mono : ∀ (n : Nat) (ty : Ty), wt n ty ≤ wt (n + 1) ty
  | 0, ty => by simp [wt]
  | n + 1, ty => by
    rw [wt, wt]
    have h1 := sum_le (wt n) (wt (n + 1)) ty.inner (fun t _ => wt_mono n t)
    have h2 := sum_le (fun f : Nat × Ty × ByteArray => wt n f.2.1 + f.2.2.size + 4) (fun f => wt (n + 1) f.2.1 + f.2.2.size + 4) ty.fields (fun f _ => by have := wt_mono n f.2.1; omega)
    omega
theorem wt_pos (n : Nat) (ty : Ty) : 70 ≤ wt (n + 1) ty := by rw [wt]; omega
theorem codU_pos (m : Nat) (u : Nat) : 1 ≤ (codU m ByteArray.empty u).size := by
  cases m with
  | zero => simp [codU, oneB_size]
  | succ m =>
    by_cases h : 128 ≤ u
    · rw [codU_big h, ByteArray.size_append, oneB_size]; omega
    · rw [codU_small (by omega), oneB_size]; omega
theorem datV_pos : ∀ (n : Nat) (ty : Ty) (v : Val), okV n ty v → 1 ≤ (datV n v).size
  | 0, ty, v, h => h.elim
  | n + 1, ty, v, h => by
    rcases h with ⟨x, rfl, h⟩ | ⟨s, rfl, h⟩ | ⟨i, rfl, h⟩ | ⟨vs, rfl, h⟩ | ⟨rfl, h⟩ | ⟨v, rfl, h⟩ | ⟨vs, rfl, h⟩
    · rw [datV_num]; exact codU_pos _ _
    · rw [datV_str, ByteArray.size_append, oneB_size]; omega
    · rw [datV_cho, oneB_size]; omega
    · rw [datV_lst, ByteArray.size_append, oneB_size]; omega
    · rw [datV_non, oneB_size]; omega
    · rw [datV_som, ByteArray.size_append, oneB_size]; omega
    · obtain ⟨_, h1, h2, h3⟩ := h
      rw [datV_rcd]
      rcases hf : ty.fields with _ | ⟨g, fs⟩
      · exact absurd hf h1
      · rcases vs with _ | ⟨v, vs⟩
        · rw [hf] at h2; simp at h2
        · rw [hf] at h3
          have := datV_pos n g.2.1 v (h3 (g, v) (by simp))
          simp only [List.map_cons, catB, ByteArray.size_append]; omega
theorem rdItems_size {f : Val → Option ByteArray} {dv : Val → ByteArray} {W : Nat} : ∀ (vs : List Val) (k : Nat) (t x : ByteArray), (∀ v ∈ vs, 1 ≤ (dv v).size ∧ ∀ y, f v = some y → y.size ≤ W * (dv v).size) → rdItems f vs k t = some x →
    x.size ≤ t.size + 1 + (W + 1) * (catB (vs.map dv)).size
  | [], k, t, x, hf, h => by
    simp only [rdItems, Option.some.injEq] at h
    rw [← h, ByteArray.size_append, one_size]; omega
  | v :: vs, k, t, x, hf, h => by
    rw [rdItems] at h
    split at h
    · cases h
    · rename_i y hy
      have h1 := rdItems_size vs (k + 1) _ x (fun v hv => hf v (by simp [hv])) h
      have h2 := hf v (by simp)
      have h3 := h2.2 y hy
      have hs : ((if 0 < k then t ++ ⟨#[44]⟩ else t) ++ y).size ≤ t.size + 1 + y.size := by
        rw [ByteArray.size_append]; split
        · rw [ByteArray.size_append, one_size]; omega
        · omega
      simp only [List.map_cons, catB, ByteArray.size_append]
      rw [Nat.mul_add, Nat.add_mul W 1 (dv v).size]
      omega
theorem rdFlds_size {f : Fld → Option ByteArray} {c : Fld → Nat} : ∀ (gs : List Fld) (mk t x : ByteArray), mk.size = 1 → (∀ g ∈ gs, ∀ y, f g = some y → y.size + 3 ≤ c g) → rdFlds f gs mk t = some x →
    x.size ≤ t.size + 1 + (gs.map c).sum
  | [], mk, t, x, hm, hf, h => by
    simp only [rdFlds, Option.some.injEq] at h
    rw [← h, ByteArray.size_append, one_size]; simp
  | g :: gs, mk, t, x, hm, hf, h => by
    rw [rdFlds] at h
    split at h
    · cases h
    · rename_i y hy
      have h1 := rdFlds_size gs _ _ x (one_size 44) (fun g hg => hf g (by simp [hg])) h
      have h2 := hf g (by simp) y hy
      simp only [ByteArray.size_append, one_size, oneB_size, hm] at h1
      simp; omega
theorem mul_sum {α : Type} (f : α → Nat) (c : Nat) : ∀ (l : List α), (l.map fun x => f x * c).sum = (l.map f).sum * c
  | [] => by simp
  | x :: l => by simp [mul_sum f c l, Nat.add_mul]
theorem cat_mem {x : ByteArray} : ∀ {l : List ByteArray}, x ∈ l → x.size ≤ (catB l).size
  | y :: l, h => by
    rw [catB, ByteArray.size_append]
    rcases List.mem_cons.1 h with rfl | h
    · omega
    · have := cat_mem h; omega
theorem find_mem {l : List (Fld × Val)} {q : Fld × Val → Bool} {p : Fld × Val} (h : l.find? q = some p) : p ∈ l := List.mem_of_find?_eq_some h
theorem okV_kind {n : Nat} {ty : Ty} {v : Val} (h : okV n ty v) : ty.kind ≠ 0 := by
  cases n with
  | zero => exact h.elim
  | succ n =>
    rcases h with ⟨x, rfl, h⟩ | ⟨s, rfl, h⟩ | ⟨i, rfl, h⟩ | ⟨vs, rfl, h⟩ | ⟨rfl, h⟩ | ⟨v, rfl, h⟩ | ⟨vs, rfl, h⟩ <;> omega
theorem rdT_zero : ∀ (m n : Nat) (w : Ty) (v : Val), okV n w v → rdT m w (plainTy 0) v = none
  | 0, n, w, v, h => rfl
  | m + 1, 0, w, v, h => h.elim
  | m + 1, n + 1, w, v, h => by
    have hk := okV_kind h
    have h0 : (plainTy 0).kind = 0 := rfl
    show rdStep _ _ _ _ = _
    unfold rdStep
    split
    · rename_i h63
      rcases h with ⟨x, rfl, h⟩ | ⟨s, rfl, h⟩ | ⟨i, rfl, h⟩ | ⟨vs, rfl, h⟩ | ⟨rfl, h⟩ | ⟨v, rfl, h⟩ | ⟨vs, rfl, h⟩
      · rfl
      · rfl
      · rfl
      · rfl
      · rfl
      · exact rdT_zero m n _ _ h.2
      · rfl
    · rw [if_neg (by rw [h0]; omega), if_neg, if_pos (by rw [h0]; exact hk)]
      simp [sameK, h0]; omega
theorem in_some {m n : Nat} {w r : Ty} {v : Val} {x : ByteArray} (hv : okV n w v) (h : rdT m w r.in v = some x) : wt m r.in + 70 ≤ wt (m + 1) r := by
  unfold Ty.in at h ⊢
  rcases hi : r.inner with _ | ⟨t, ts⟩
  · rw [hi] at h; simp only [List.headD_nil] at h; rw [rdT_zero _ _ _ _ hv] at h; cases h
  · rw [wt, hi]; simp; omega
/-- How long a text is that comes out. -/
theorem rdT_size : ∀ (m n : Nat) (w r : Ty) (v : Val) (x : ByteArray), okV n w v → rdT m w r v = some x → x.size ≤ wt m r * (datV n v).size
  | 0, n, w, r, v, x, hv, h => by simp [rdT] at h
  | m + 1, 0, w, r, v, x, hv, h => hv.elim
  | m + 1, n + 1, w, r, v, x, hv, h => by
    have hp := datV_pos _ _ _ hv
    have h70 : 70 * (datV (n + 1) v).size ≤ wt (m + 1) r * (datV (n + 1) v).size := Nat.mul_le_mul_right _ (wt_pos m r)
    change rdStep (rdT m) w r v = some x at h
    unfold rdStep at h
    split at h
    · rename_i hk
      split at h
      · split at h
        · cases h; rw [one_size]; omega
        · cases h
      · split at h
        · rename_i h4 h5
          rcases hv with ⟨x, rfl, hv⟩ | ⟨s, rfl, hv⟩ | ⟨i, rfl, hv⟩ | ⟨vs, rfl, hv⟩ | ⟨rfl, hv⟩ | ⟨v, rfl, hv⟩ | ⟨vs, rfl, hv⟩
          · cases h5
          · cases h5
          · cases h5
          · cases h5
          · cases h5
          · have := rdT_size m n w.in r v x hv.2 h
            rw [datV_som, ByteArray.size_append, oneB_size]
            have e1 := Nat.mul_le_mul_right (datV n v).size (wt_mono m r)
            have e2 := Nat.mul_le_mul_left (wt (m + 1) r) (show (datV n v).size ≤ 1 + (datV n v).size by omega)
            omega
          · cases h5
        · cases h
    · split at h
      · rename_i hk
        have h1 := rdT_size m (n + 1) w r.in v x hv h
        have h2 := in_some hv h
        have := Nat.mul_le_mul_right (datV (n + 1) v).size (show wt m r.in ≤ wt (m + 1) r by omega)
        omega
      · split at h
        · rename_i h63 hs
          cases h
          have e0 : ByteArray.empty.size = 0 := rfl
          unfold leafT
          split
          · have := decI_size v.n; omega
          · split
            · rename_i h1
              rcases hv with ⟨x, rfl, hv⟩ | ⟨s, rfl, hv⟩ | ⟨i, rfl, hv⟩ | ⟨vs, rfl, hv⟩ | ⟨rfl, hv⟩ | ⟨v, rfl, hv⟩ | ⟨vs, rfl, hv⟩
              · cases h1
              · rw [ByteArray.size_append, ByteArray.size_append, quo_size, show (Val.str s).s = s from rfl]; omega
              · cases h1
              · cases h1
              · cases h1
              · cases h1
              · cases h1
            · omega
        · split at h
          · cases h
          · split at h
            · unfold rdCho at h
              split at h
              · split at h
                · cases h
                  have : (r.letters.extract 0 1).size ≤ 1 := by rw [ByteArray.size_extract]; omega
                  omega
                · cases h
              · cases h; rw [oneB_size]; omega
            · split at h
              · rename_i h3
                rcases hv with ⟨x, rfl, hv⟩ | ⟨s, rfl, hv⟩ | ⟨i, rfl, hv⟩ | ⟨vs, rfl, hv⟩ | ⟨rfl, hv⟩ | ⟨v, rfl, hv⟩ | ⟨vs, rfl, hv⟩
                · cases h3
                · cases h3
                · cases h3
                · rw [show (Val.lst vs).vs = vs from rfl] at h
                  rw [datV_lst] at h70 hp ⊢
                  rw [ByteArray.size_append, oneB_size] at h70 hp ⊢
                  rcases hvs : vs with _ | ⟨u, us⟩
                  · rw [hvs] at h; simp only [rdItems, Option.some.injEq] at h; rw [← h, ByteArray.size_append, one_size, one_size]; rw [hvs] at h70 hp; omega
                  · have hW : ∀ v ∈ vs, 1 ≤ (datV n v).size ∧ ∀ y, rdT m w.in r.in v = some y → y.size ≤ (wt (m + 1) r - 70) * (datV n v).size := fun v hv' => by
                      refine ⟨datV_pos _ _ _ (hv.2.2 v hv'), fun y hy => ?_⟩
                      have h1 := rdT_size m n _ _ _ _ (hv.2.2 v hv') hy
                      have h2 := in_some (hv.2.2 v hv') hy
                      have := Nat.mul_le_mul_right (datV n v).size (show wt m r.in ≤ wt (m + 1) r - 70 by omega)
                      omega
                    have := rdItems_size (dv := datV n) vs 0 _ x hW h
                    rw [one_size] at this
                    rw [← hvs]
                    have hw := wt_pos m r
                    have e1 := Nat.mul_le_mul_right (catB (vs.map (datV n))).size (show wt (m + 1) r - 70 + 1 ≤ wt (m + 1) r by omega)
                    rw [Nat.mul_add]
                    omega
                · cases h3
                · cases h3
                · cases h3
              · split at h
                · rename_i h6
                  rcases hv with ⟨x, rfl, hv⟩ | ⟨s, rfl, hv⟩ | ⟨i, rfl, hv⟩ | ⟨vs, rfl, hv⟩ | ⟨rfl, hv⟩ | ⟨v, rfl, hv⟩ | ⟨vs, rfl, hv⟩
                  · cases h6
                  · cases h6
                  · cases h6
                  · cases h6
                  · cases h6
                  · cases h6
                  · rw [show (Val.rcd vs).vs = vs from rfl] at h
                    rw [datV_rcd] at h70 hp ⊢
                    have := rdFlds_size (c := fun g => (wt m g.2.1 + g.2.2.size + 4) * (catB (vs.map (datV n))).size) r.fields _ _ x (one_size 123) (fun g hg y hy => by
                      have e3 : 4 ≤ 4 * (catB (vs.map (datV n))).size := by omega
                      rw [Nat.add_mul, Nat.add_mul]
                      unfold rdFld at hy
                      split at hy
                      · split at hy
                        · cases hy
                        · cases hy
                          have := Nat.le_mul_of_pos_right g.2.2.size hp
                          omega
                      · rename_i p hp'
                        have hm := find_mem hp'
                        have h1 := rdT_size m n _ _ _ _ (hv.2.2.2 p hm) hy
                        have h2 := cat_mem (l := vs.map (datV n)) (x := datV n p.2) (List.mem_map.2 ⟨p.2, (List.of_mem_zip (a := p.1) (b := p.2) hm).2, rfl⟩)
                        have h3 := Nat.mul_le_mul_left (wt m g.2.1) h2
                        omega) h
                    have e0 : ByteArray.empty.size = 0 := rfl
                    rw [mul_sum (fun g : Nat × Ty × ByteArray => wt m g.2.1 + g.2.2.size + 4), e0] at this
                    have e1 : wt (m + 1) r * (catB (vs.map (datV n))).size = (70 + (r.inner.map (wt m)).sum) * (catB (vs.map (datV n))).size + (r.fields.map fun f => wt m f.2.1 + f.2.2.size + 4).sum * (catB (vs.map (datV n))).size := by rw [wt, Nat.add_mul]
                    rw [e1, Nat.add_mul]
                    omega
                · cases h
end Go.Proofs.YtkkekopomiehlaaDoor
