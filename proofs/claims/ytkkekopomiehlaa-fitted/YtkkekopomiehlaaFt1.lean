import Derived.Test.YtkkekopomiehlaaRd1
import Derived.Test.YtkkekopomiehlaaParse4
import Derived.Test.YtkkekopomiehlaaDec11
set_option linter.unusedVariables false
set_option linter.unusedSimpArgs false
set_option maxRecDepth 4000
namespace Go.Proofs.Ytkkekopomiehlaa
open Go.RowKit

/-- The kinds are such as schemas tell, all the way down; a choice has a letter. -/
def tyK : Nat → Ty → Prop
  | 0, _ => True
  | n + 1, ty => (ty.kind = 105 ∨ ty.kind = 108 ∨ ty.kind = 115 ∨ ty.kind = 60 ∨ ty.kind = 91 ∨ ty.kind = 63 ∨ ty.kind = 123) ∧ (ty.kind = 60 → 1 ≤ ty.letters.size) ∧ (ty.kind = 91 ∨ ty.kind = 63 → ty.inner ≠ [] ∧ tyK n ty.in) ∧ ∀ f ∈ ty.fields, f.1 < 256 ∧ tyK n f.2.1
/-- The least value of a type. -/
def lv : Nat → Ty → Val
  | 0, _ => .non
  | n + 1, ty => if ty.kind = 105 ∨ ty.kind = 108 then .num 0 else if ty.kind = 115 then .str ByteArray.empty else if ty.kind = 60 then .cho 0 else if ty.kind = 91 then .lst [] else if ty.kind = 63 then .non else .rcd (ty.fields.map fun f => lv n f.2.1)
/-- The text of a record with one field's text given and the others' by 'f'. -/
def rwT (f : Ty → ByteArray) (x : ByteArray) (p : Int) : List (Nat × Ty × ByteArray) → Nat → ByteArray → ByteArray → ByteArray
  | [], _, _, t => t ++ ⟨#[125]⟩
  | g :: gs, k, mk, t => rwT f x p gs (k + 1) ⟨#[44]⟩ (t ++ (((mk ++ oneB g.1) ++ ⟨#[58]⟩) ++ (if (k : Int) = p then x else f g.2.1)))
theorem rwT_eq (f : Ty → ByteArray) (tv : Ty → Val → ByteArray) (x : ByteArray) (p : Int) : ∀ (fs : List (Nat × Ty × ByteArray)) (vs : List Val) (k : Nat) (mk t : ByteArray), vs.length = fs.length →
    (∀ i g v, fs[i]? = some g → vs[i]? = some v → (if ((k + i : Nat) : Int) = p then x else f g.2.1) = tv g.2.1 v) → rwT f x p fs k mk t = fldsT ((fs.zip vs).map fun q => (q.1.1, tv q.1.2.1 q.2)) mk t
  | [], vs, k, mk, t, hl, h => by cases vs <;> rfl
  | g :: fs, [], k, mk, t, hl, h => by simp at hl
  | g :: fs, v :: vs, k, mk, t, hl, h => by
    have h0 := h 0 g v rfl rfl
    rw [Nat.add_zero] at h0
    rw [rwT, h0, rwT_eq f tv x p fs vs (k + 1) _ _ (by simpa using hl) (fun i g' v' hg hv => by have := h (i + 1) g' v' (by simpa using hg) (by simpa using hv); rw [show k + (i + 1) = k + 1 + i by omega] at this; exact this), List.zip_cons_cons, List.map_cons, fldsT]
/-- How long such a text is. -/
theorem rwT_size {f : Ty → ByteArray} {x : ByteArray} {p : Int} {c : Nat × Ty × ByteArray → Nat} : ∀ (gs : List (Nat × Ty × ByteArray)) (k : Nat) (mk t : ByteArray), mk.size = 1 → (∀ i g, gs[i]? = some g → (if ((k + i : Nat) : Int) = p then x else f g.2.1).size + 3 ≤ c g) → (rwT f x p gs k mk t).size ≤ t.size + 1 + (gs.map c).sum
  | [], k, mk, t, hm, h => by rw [rwT, ByteArray.size_append]; have : (⟨#[125]⟩ : ByteArray).size = 1 := rfl; simp; omega
  | g :: gs, k, mk, t, hm, h => by
    have h0 := h 0 g rfl
    simp only [Nat.add_zero] at h0
    have ih := rwT_size (f := f) (x := x) (p := p) (c := c) gs (k + 1) ⟨#[44]⟩ (t ++ (((mk ++ oneB g.1) ++ ⟨#[58]⟩) ++ (if (k : Int) = p then x else f g.2.1))) rfl (fun i g' hg => by have := h (i + 1) g' (by simpa using hg); rw [show k + (i + 1) = k + 1 + i by omega] at this; exact this)
    rw [rwT]
    have e1 : (⟨#[58]⟩ : ByteArray).size = 1 := rfl
    simp only [ByteArray.size_append, oneB_size, hm, e1] at ih
    simp only [List.map_cons, List.sum_cons]
    omega

def LeastOK (n : Nat) : Prop := ∀ (ty : Ty) (w : World) (ai af : Option Addr) (li ci lf cf : Nat), tyK n ty → wt n ty ≤ 20000 → Rep n w ai li ci af lf cf ty →
  Calls Try.prog 46 #[.agg #[.int .i64 ty.kind, .string ty.letters, .bool ty.op, .slice ai li ci, .slice af lf cf]] w fun e w' => e = .returned (.string (txtV n ty (lv n ty))) ∧ Below w.heap.size w w'
theorem lv_size : ∀ (n : Nat) (ty : Ty), (txtV n ty (lv n ty)).size ≤ wt n ty
  | 0, ty => Nat.zero_le _
  | n + 1, ty => by
    have h70 := wt_pos n ty
    rw [lv]
    split
    · rw [txtV_num]; have := decI_size 0; omega
    · split
      · rw [txtV_str]; simp only [ByteArray.size_append]; have := quo_size; have : ByteArray.empty.size = 0 := rfl; omega
      · split
        · rw [txtV_cho, oneB_size]; omega
        · split
          · rw [txtV_lst]; show (⟨#[91]⟩ ++ ⟨#[93]⟩ : ByteArray).size ≤ _; rw [ByteArray.size_append]; have : (⟨#[91]⟩ : ByteArray).size = 1 := rfl; have : (⟨#[93]⟩ : ByteArray).size = 1 := rfl; omega
          · split
            · rw [txtV_non]; have : (⟨#[95]⟩ : ByteArray).size = 1 := rfl; omega
            · rw [txtV_rcd, ← rwT_eq (fun t => txtV n t (lv n t)) (txtV n) ByteArray.empty (-1) ty.fields _ 0 _ _ (by simp) (fun i g v hg hv => by
                rw [List.getElem?_map, hg] at hv; simp at hv; rw [if_neg (by omega), ← hv])]
              have := rwT_size (f := fun t => txtV n t (lv n t)) (x := ByteArray.empty) (p := -1) (c := fun f => wt n f.2.1 + f.2.2.size + 4) ty.fields 0 ⟨#[123]⟩ ByteArray.empty rfl (fun i g hg => by
                rw [if_neg (by omega)]; have := lv_size n g.2.1; omega)
              have e : ByteArray.empty.size = 0 := rfl
              rw [wt]; omega

theorem sum_le1 {α : Type} (c : α → Nat) (K : Nat) : ∀ (l : List α) (x : α), x ∈ l → (l.map c).sum ≤ K → c x ≤ K
  | y :: l, x, h, hk => by
    simp at hk
    rcases List.mem_cons.1 h with rfl | h
    · omega
    · exact sum_le1 c K l x h (by omega)
set_option maxHeartbeats 1000000 in
theorem recordWith_any {n : Nat} (IH : LeastOK n) (fs : List (Nat × Ty × ByteArray)) (p : Int) (x : ByteArray) (w : World) (af : Option Addr) (lf cf : Nat) (hlf : lf = fs.length) (hfl : fs.length ≤ 9000000) (hx : x.size ≤ 20000) (hk : ∀ f ∈ fs, f.1 < 256 ∧ tyK n f.2.1) (hwt : (fs.map fun f => wt n f.2.1 + f.2.2.size + 4).sum ≤ 20000) (hr : RepF n w af fs) :
    Calls Try.prog 77 #[.slice af lf cf, .int .i64 p, .string x] w fun e w' => e = .returned (.string (rwT (fun t => txtV n t (lv n t)) x p fs 0 ⟨#[123]⟩ ByteArray.empty)) ∧ Below w.heap.size w w' := by
  subst hlf
  obtain ⟨R, hR⟩ : ∃ R, R = rwT (fun t => txtV n t (lv n t)) x p fs 0 ⟨#[123]⟩ ByteArray.empty := ⟨_, rfl⟩
  rw [← hR]
  have HR : Hid (R = rwT (fun t => txtV n t (lv n t)) x p (fs.drop 0) 0 ⟨#[123]⟩ ByteArray.empty) := hR
  clear hR
  have hfl2 : fs.length ≤ 5000 := by
    have : ∀ l : List (Nat × Ty × ByteArray), l.length * 4 ≤ (l.map fun f => wt n f.2.1 + f.2.2.size + 4).sum := fun l => by
      induction l with
      | nil => simp
      | cons a l ih => simp; omega
    have := this fs; omega
  go_enter Try.func77, Try.ntmps77
  go_wp2_with fail
  go_loopw [7, 8, 14] (fun vt vm vi wr => ∃ (i : Nat) (mk t : ByteArray), i ≤ fs.length ∧ vi = .int .i64 i ∧ vm = .string mk ∧ vt = .string t ∧ mk.size = 1 ∧ t.size ≤ 20010 * i ∧ Hid (R = rwT (fun t => txtV n t (lv n t)) x p (fs.drop i) i mk t) ∧ Below w.heap.size w wr) (fun _ _ i _ => fs.length - (intOf i).toNat)
  case atStart => exact ⟨0, ⟨#[123]⟩, ByteArray.empty, Nat.zero_le _, rfl, rfl, rfl, rfl, Nat.le_refl _, HR, Below.refl _ _⟩
  case round =>
    obtain ⟨i, mk, t, hi, rfl, rfl, rfl, hmk, hts, hR, hb⟩ := hrel
    have one1 : (⟨#[125]⟩ : ByteArray).size = 1 := rfl
    have one2 : (⟨#[58]⟩ : ByteArray).size = 1 := rfl
    have hmul : 20010 * i ≤ 20010 * 5000 := Nat.mul_le_mul_left _ (by omega)
    have hts2 : t.size ≤ 100050000 := by omega
    by_cases hlt : i < fs.length
    · obtain ⟨f, hf⟩ : ∃ f, fs[i]? = some f := ⟨fs[i], List.getElem?_eq_getElem hlt⟩
      have hdrop : fs.drop i = f :: fs.drop (i + 1) := by
        rw [List.drop_eq_getElem_cons hlt]; rw [List.getElem?_eq_getElem hlt] at hf; simp at hf; rw [hf]
      have hmem := List.mem_of_getElem? hf
      obtain ⟨h256, hkf⟩ := hk f hmem
      have hwf : wt n f.2.1 ≤ 20000 := by
        have := sum_le1 (fun f : Nat × Ty × ByteArray => wt n f.2.1 + f.2.2.size + 4) 20000 fs f hmem hwt
        omega
      rcases hr with ⟨hr, _⟩ | ⟨g, rfl, hcells⟩
      · rw [hr] at hf; simp at hf
      · obtain ⟨p1, p2, p3, q1, q2, q3, hrep, k0, k1, k2, k3, k4, k5, k6⟩ := hcells i f hf
        have k0 := cell_keep hb k0
        have k1 := cell_keep hb k1
        have k2 := cell_keep hb k2
        have k3 := cell_keep hb k3
        have k4 := cell_keep hb k4
        have k5 := cell_keep hb k5
        have k6 := cell_keep hb k6
        have hg' : g < wr.heap.size := lt_of_cell k0
        have hBa : ∀ o, Below wr.heap.size wr (wr.alloc o) := fun o => (Below.refl _ _).alloc (Nat.le_refl _) _
        have hcall := fun o => IH f.2.1 (wr.alloc o) p1 q1 p2 p3 q2 q3 hkf hwf ((hrep.keep hb).keep (hBa o))
        have hls := lv_size n f.2.1
        have hso : (oneB f.1).size = 1 := rfl
        have hz1 : (mk ++ oneB f.1).size = 2 := by rw [ByteArray.size_append, hmk, hso]
        have hz2 : (mk ++ oneB f.1 ++ ⟨#[58]⟩).size = 3 := by rw [ByteArray.size_append, hz1, one2]
        have hmul2 : 20010 * (i + 1) = 20010 * i + 20010 := by omega
        by_cases hp : (i : Int) = p
        · have hp' : ((i : Int) != p) = false := by simp [hp]
          have hr' : Hid (R = rwT (fun t => txtV n t (lv n t)) x p (fs.drop (i + 1)) (i + 1) ⟨#[44]⟩ (t ++ (mk ++ oneB f.1 ++ ⟨#[58]⟩ ++ x))) := by show _ = _; rw [hR.out, hdrop, rwT, if_pos hp]
          have hz3 : (mk ++ oneB f.1 ++ ⟨#[58]⟩ ++ x).size = 3 + x.size := by rw [ByteArray.size_append, hz2]
          have HS : (t ++ (mk ++ oneB f.1 ++ ⟨#[58]⟩ ++ x)).size ≤ 20010 * (i + 1) := by rw [ByteArray.size_append, hz3]; omega
          clear hdrop hf hcells hp hR hrep hls hmul hmul2
          go_wp2_with (first | (go_at_call 75; refine (oneByte_any f.1 _ (by omega)).mono ?_; rintro e w3 ⟨rfl, hb3⟩))
          go_roundw
          case rel => exact ⟨i + 1, ⟨#[44]⟩, _, by omega, by go_num, rfl, rfl, rfl, HS, hr', hb.trans (((hBa _).trans (hb3.mono (by simp))).mono hb.size)⟩
          case measure => simp [intOf]; omega
        · have hp' : ((i : Int) != p) = true := by simp [hp]
          obtain ⟨Y, hY⟩ : ∃ Y, Y = txtV n f.2.1 (lv n f.2.1) := ⟨_, rfl⟩
          rw [← hY] at hcall hls
          have hr' : Hid (R = rwT (fun t => txtV n t (lv n t)) x p (fs.drop (i + 1)) (i + 1) ⟨#[44]⟩ (t ++ (mk ++ oneB f.1 ++ ⟨#[58]⟩ ++ Y))) := by show _ = _; rw [hR.out, hdrop, rwT, if_neg hp, hY]
          have hz3 : (mk ++ oneB f.1 ++ ⟨#[58]⟩ ++ Y).size = 3 + Y.size := by rw [ByteArray.size_append, hz2]
          have HS : (t ++ (mk ++ oneB f.1 ++ ⟨#[58]⟩ ++ Y)).size ≤ 20010 * (i + 1) := by rw [ByteArray.size_append, hz3]; omega
          have hYs : Y.size ≤ 20000 := by omega
          clear hdrop hf hcells hp hR hrep hY hls hmul hmul2
          go_wp2_with (first | (go_at_call 46; refine (hcall _).mono ?_; rintro e w2 ⟨rfl, hb2⟩; obtain ⟨hc2, hf2⟩ := bcell hb2) | (go_at_call 75; refine (oneByte_any f.1 _ (by omega)).mono ?_; rintro e w3 ⟨rfl, hb3⟩))
          go_roundw
          case rel => exact ⟨i + 1, ⟨#[44]⟩, _, by omega, by go_num, rfl, rfl, rfl, HS, hr', hb.trans ((((hBa _).trans (hb2.mono (by simp))).trans (hb3.mono (by have := hb2.size; simp at this; omega))).mono hb.size)⟩
          case measure => simp [intOf]; omega
    · have hnil : fs.drop i = [] := List.drop_of_length_le (by omega)
      have hr' : Hid (R = t ++ ⟨#[125]⟩) := by show _ = _; rw [hR.out, hnil, rwT]
      go_wp2_with fail
      go_ret
      exact ⟨ret_str hr'.out.symm, hb⟩
end Go.Proofs.Ytkkekopomiehlaa
