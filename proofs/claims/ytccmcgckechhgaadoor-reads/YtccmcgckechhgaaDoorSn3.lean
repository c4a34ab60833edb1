import Derived.Test.YtccmcgckechhgaaDoorSn2
set_option linter.unusedVariables false
set_option linter.unusedSimpArgs false
set_option maxRecDepth 4000
namespace Go.Proofs.YtccmcgckechhgaaDoor
open Go.RowKit

theorem zip_at {α β : Type} {fs : List α} {vs : List β} {i : Nat} {f : α} {v : β} (hf : fs[i]? = some f) (hv : vs[i]? = some v) : (f, v) ∈ fs.zip vs := by
  refine List.mem_of_getElem? (i := i) ?_
  rw [List.getElem?_zip_eq_some]; exact ⟨hf, hv⟩
/-- What the reference's 'starts' hands back. -/
def StRet (n : Nat) (s d : ByteArray) (o : Option ((Nat × Ty × ByteArray) × Val)) (e : Ending) : Prop :=
  match o with
  | none => e = .returned (.tuple #[.int .i64 (-1), .int .i64 (-1)])
  | some p => ∃ a q kq : Nat, e = .returned (.tuple #[.int .i64 a, .int .i64 q]) ∧ At d a (datV n p.2) ∧ pType true s n q = some (p.1.2.1, kq) ∧ s.size ≤ q + n

set_option maxHeartbeats 2000000 in
theorem starts_any {n : Nat} {s d : ByteArray} (IL : TellOK n s d) (hd : d.size ≤ 64) (hn : n ≤ 100) (i j c : Nat) {fs : List (Nat × Ty × ByteArray)} {k0 : Nat} (hfl : fs.length ≤ 4096)
    (hF0 : ∀ w, Calls Tryd.prog 62 #[.string s, .int .i64 i] w fun e w' => GRet w.heap.size n s (some (fs, k0)) e w' ∧ Below w.heap.size w w') (vs : List Val) (hlen : vs.length = fs.length) (hok : ∀ p ∈ fs.zip vs, okV n p.1.2.1 p.2) (hat : At d j (catB (vs.map (datV n)))) (w : World) :
    Calls Tryd.prog 83 #[.string s, .int .i64 i, .int .u8 c, .string d, .int .i64 j] w fun e w' => StRet n s d ((fs.zip vs).find? (fun p => p.1.1 == c)) e ∧ Below w.heap.size w w' := by
  have _hd : d.size ≤ 9000000 := by omega
  have hF : ∀ w, Calls Tryd.prog 62 #[.string s, .int .i64 i] w fun e w' => ∃ g cap xs, e = .returned (.tuple #[.slice (some ⟨g, 0, none⟩) fs.length cap, .int .i64 k0]) ∧ w'.ownsRow w.heap.size 79 4 (.slice (some ⟨g, 0, none⟩) fs.length cap) fs.length xs ∧ RowR n s xs fs ∧ Below w.heap.size w w' := fun w => by
    refine (hF0 w).mono ?_
    rintro e w' ⟨⟨g, cap, xs, h1, h2, h3⟩, h4⟩
    exact ⟨g, cap, xs, h1, h2, h3, h4⟩
  clear hF0
  obtain ⟨R, hR⟩ : ∃ R, R = (fs.zip vs).find? (fun p => p.1.1 == c) := ⟨_, rfl⟩
  rw [← hR]
  have HR : Hid (R = ((fs.drop 0).zip (vs.drop 0)).find? (fun p => p.1.1 == c)) := by show _ = _; rw [List.drop_zero, List.drop_zero]; exact hR
  have HA : Hid (At d j (catB ((vs.drop 0).map (datV n)))) := by rw [List.drop_zero]; exact hat
  have HO : Hid (∀ p ∈ fs.zip vs, okV n p.1.2.1 p.2) := hok
  have hjd := hat.le
  clear hR hat hok
  go_enter Tryd.func83, Tryd.ntmps83
  go_wp2_with (go_at_call 62; refine (hF _).mono ?_; rintro e wf ⟨g, cap, xs, rfl, hown, hrow, hbf0⟩)
  go_loopw [14, 15] (fun vb vi wr => ∃ (x b : Nat), x ≤ fs.length ∧ j ≤ b ∧ b ≤ d.size ∧ vi = .int .i64 x ∧ vb = .int .i64 b ∧ Hid (R = ((fs.drop x).zip (vs.drop x)).find? (fun p => p.1.1 == c)) ∧ Hid (At d b (catB ((vs.drop x).map (datV n)))) ∧ Below wf.heap.size wf wr) (fun _ x _ => fs.length - (intOf x).toNat)
  case atStart => exact ⟨0, j, Nat.zero_le _, Nat.le_refl _, by omega, rfl, rfl, HR, HA, Below.refl _ _⟩
  case round =>
    obtain ⟨x, b, hx0, hjb, hbt, rfl, rfl, hR, hA, hb⟩ := hrel
    by_cases hlt : x < fs.length
    · obtain ⟨f, hf⟩ : ∃ f, fs[x]? = some f := ⟨fs[x], List.getElem?_eq_getElem hlt⟩
      obtain ⟨v, hv⟩ : ∃ v, vs[x]? = some v := ⟨vs[x], List.getElem?_eq_getElem (by omega)⟩
      have hdf : fs.drop x = f :: fs.drop (x + 1) := by
        rw [List.drop_eq_getElem_cons hlt]; rw [List.getElem?_eq_getElem hlt] at hf; simp at hf; rw [hf]
      have hdv : vs.drop x = v :: vs.drop (x + 1) := by
        rw [List.drop_eq_getElem_cons (by omega)]; rw [List.getElem?_eq_getElem (by omega)] at hv; simp at hv; rw [hv]
      obtain ⟨p, kp, hp, hpn, h256, c0, c1, c2, c3⟩ := hrow.2 x f hf
      have k0 := cell_keep hb (own_cell hown c0)
      have k1 := cell_keep hb (own_cell hown c1)
      have hg' : g < wr.heap.size := lt_of_cell k0
      have hvk : okV n f.2.1 v := HO.out (f, v) (zip_at hf hv)
      have hA2 : At d b (datV n v) ∧ At d (b + (datV n v).size) (catB ((vs.drop (x + 1)).map (datV n))) := by
        have := hA.out; rw [hdv] at this; simp only [List.map_cons, catB] at this; exact At.app.1 this
      have hR2 : R = if (f.1 == c) = true then some (f, v) else ((fs.drop (x + 1)).zip (vs.drop (x + 1))).find? (fun p => p.1.1 == c) := by
        rw [hR.out, hdf, hdv, List.zip_cons_cons, List.find?_cons]
        cases (f.1 == c) <;> rfl
      clear hf hv c0 c1 c2 c3 hdf hdv
      by_cases hc : f.1 = c
      · have hc' : ((f.1 : Int) == (c : Int)) = true := by simp; omega
        have hr' : Hid (R = some (f, v)) := by show _ = _; rw [hR2, if_pos (by simp [hc])]
        have HA2 : Hid (At d b (datV n v)) := hA2.1
        have HP : Hid (pType true s n p = some (f.2.1, kp)) := hp
        clear hR2 hc hA2 hp hR hA hrow hown
        go_wp2_with fail
        go_quiet (fail)
        go_wp2_with fail
        go_ret2
        rw [hr'.out]
        exact ⟨⟨b, p, kp, rfl, HA2.out, HP.out, hpn⟩, below_drewN (hbf0.trans (hb.mono hbf0.size)) _⟩
      · have hc' : ((f.1 : Int) == (c : Int)) = false := by simp; omega
        have hr' : Hid (R = ((fs.drop (x + 1)).zip (vs.drop (x + 1))).find? (fun p => p.1.1 == c)) := by show _ = _; rw [hR2, if_neg (by simp [hc])]
        have hdx := dec_mk n f.2.1 v b hvk hA2.1
        obtain ⟨q, hq⟩ : ∃ q, q = b + (datV n v).size := ⟨_, rfl⟩
        rw [← hq] at hdx hA2
        have hq1 := hA2.1.le
        have hcall := fun w => IL.yes w hp hpn hbt hdx
        have HA2 : Hid (At d q (catB ((vs.drop (x + 1)).map (datV n)))) := hA2.2
        have hqd : q ≤ d.size := by omega
        have hbq : b ≤ q := by omega
        clear hR2 hc hA2 hp hR hA hdx hq hq1
        go_wp2_with (go_at_call 23; refine (hcall _).mono ?_; rintro e w1 ⟨rfl, hb1⟩)
        go_roundw
        case rel => exact ⟨x + 1, q, by omega, by omega, hqd, by go_num, rfl, hr', HA2, hb.trans (hb1.mono hb.size)⟩
        case measure => simp [intOf]; omega
    · have hnil : fs.drop x = [] := List.drop_of_length_le (by omega)
      have hr' : Hid (R = none) := by show _ = _; rw [hR.out, hnil]; rfl
      clear hR hnil hA
      go_wp2_with fail
      go_ret2
      rw [hr'.out]
      exact ⟨rfl, hbf0.trans (hb.mono hbf0.size)⟩

def snFlds (f : Nat × Ty × ByteArray → Option ByteArray) : List (Nat × Ty × ByteArray) → ByteArray → Option ByteArray
  | [], t => some t
  | g :: gs, t =>
    match f g with
    | none => none
    | some x => snFlds f gs ((((t ++ ⟨#[44]⟩) ++ oneB g.1) ++ ⟨#[58]⟩) ++ x)
def brace1 (t : ByteArray) : ByteArray := (⟨#[123]⟩ ++ t.extract 1 t.size) ++ ⟨#[125]⟩
theorem snFlds_rest (f : Nat × Ty × ByteArray → Option ByteArray) : ∀ (gs : List (Nat × Ty × ByteArray)) (a : ByteArray), rdFlds f gs ⟨#[44]⟩ (⟨#[123]⟩ ++ a) = (snFlds f gs (⟨#[44]⟩ ++ a)).map brace1
  | [], a => by simp only [rdFlds, snFlds, Option.map_some, brace1, cut_one]
  | g :: gs, a => by
    simp only [rdFlds, snFlds]
    cases hx : f g with
    | none => rfl
    | some x =>
      simp only
      have := snFlds_rest f gs (a ++ (⟨#[44]⟩ ++ oneB g.1 ++ ⟨#[58]⟩ ++ x))
      simp only [ByteArray.append_assoc] at this ⊢
      exact this
theorem snFlds_all (f : Nat × Ty × ByteArray → Option ByteArray) (gs : List (Nat × Ty × ByteArray)) (h : gs ≠ []) : rdFlds f gs ⟨#[123]⟩ ByteArray.empty = (snFlds f gs ByteArray.empty).map brace1 := by
  cases gs with
  | nil => exact absurd rfl h
  | cons g gs =>
    simp only [rdFlds, snFlds]
    cases hx : f g with
    | none => rfl
    | some x =>
      simp only
      have := snFlds_rest f gs (oneB g.1 ++ ⟨#[58]⟩ ++ x)
      simp only [ByteArray.append_assoc, ByteArray.empty_append] at this ⊢
      exact this
end Go.Proofs.YtccmcgckechhgaaDoor
