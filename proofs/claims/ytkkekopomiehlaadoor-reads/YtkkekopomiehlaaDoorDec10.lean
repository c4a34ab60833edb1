import Derived.Test.YtkkekopomiehlaaDoorDec9
set_option linter.unusedVariables false
set_option linter.unusedSimpArgs false
set_option maxRecDepth 4000
namespace Go.Proofs.YtkkekopomiehlaaDoor
open Go.RowKit

def tellF (f : Ty → Nat → Option (ByteArray × Nat)) : List (Nat × Ty × ByteArray) → Nat → ByteArray → Option (ByteArray × Nat)
  | [], fr, t => some (t, fr)
  | g :: fs, fr, t =>
    match f g.2.1 fr with
    | none => none
    | some (x, nx) => tellF f fs nx (((t ++ ⟨#[44]⟩) ++ oneB g.1) ++ ⟨#[58]⟩ ++ x)
def brace (p : ByteArray × Nat) : ByteArray × Nat := (⟨#[123]⟩ ++ p.1.extract 1 p.1.size ++ ⟨#[125]⟩, p.2)
theorem cut_one (c : UInt8) (a : ByteArray) : ((⟨#[c]⟩ : ByteArray) ++ a).extract 1 ((⟨#[c]⟩ : ByteArray) ++ a).size = a := by
  have h1 : (⟨#[c]⟩ : ByteArray).size = 1 := rfl
  rw [ByteArray.extract_append, h1, ByteArray.size_append, h1]
  have h2 : (⟨#[c]⟩ : ByteArray).extract 1 (1 + a.size) = ByteArray.empty := by
    apply ByteArray.ext; simp [ByteArray.data_extract]
  rw [h2]; simp
theorem not_isEmpty {d : ByteArray} (h : 1 ≤ d.size) : d.toList.isEmpty = false := by
  rw [ByteArray.toList_eq]
  cases hl : d.data.toList with
  | nil =>
    have h2 : d.data.size = 0 := by rw [← Array.length_toList, hl]; rfl
    have h3 : d.size = d.data.size := rfl
    omega
  | cons _ _ => rfl
theorem tellF_rest (f : Ty → Nat → Option (ByteArray × Nat)) : ∀ (fs : List (Nat × Ty × ByteArray)) (fr : Nat) (a : ByteArray),
    decFlds f fs ⟨#[44]⟩ fr (⟨#[123]⟩ ++ a) = (tellF f fs fr (⟨#[44]⟩ ++ a)).map brace
  | [], fr, a => by simp only [decFlds, tellF, Option.map_some, brace, cut_one]
  | g :: fs, fr, a => by
    simp only [decFlds, tellF]
    cases hx : f g.2.1 fr with
    | none => rfl
    | some p =>
      obtain ⟨x, nx⟩ := p
      simp only
      have := tellF_rest f fs nx (a ++ (⟨#[44]⟩ ++ oneB g.1 ++ ⟨#[58]⟩ ++ x))
      simp only [ByteArray.append_assoc] at this ⊢
      exact this
theorem tellF_all (f : Ty → Nat → Option (ByteArray × Nat)) (fs : List (Nat × Ty × ByteArray)) (fr : Nat) (h : fs ≠ []) :
    decFlds f fs ⟨#[123]⟩ fr ByteArray.empty = (tellF f fs fr ByteArray.empty).map brace := by
  cases fs with
  | nil => exact absurd rfl h
  | cons g fs =>
    simp only [decFlds, tellF]
    cases hx : f g.2.1 fr with
    | none => rfl
    | some p =>
      obtain ⟨x, nx⟩ := p
      simp only
      have := tellF_rest f fs nx (oneB g.1 ++ ⟨#[58]⟩ ++ x)
      simp only [ByteArray.append_assoc, ByteArray.empty_append] at this ⊢
      exact this

set_option maxHeartbeats 2000000 in
theorem tellRecord_any {n : Nat} {s t : ByteArray} (IL : TellOK n s t) (ht : t.size ≤ 4096) (hn : n ≤ 100) (i j : Nat) {fs : List (Nat × Ty × ByteArray)} {k0 : Nat} (hne : 0 < fs.length) (hfl : fs.length ≤ 4096)
    (hF0 : ∀ w, Calls Tryd.prog 62 #[.string s, .int .i64 i] w fun e w' => GRet w.heap.size n s (some (fs, k0)) e w' ∧ Below w.heap.size w w') (w : World) (hj : j < t.size) :
    Calls Tryd.prog 38 #[.string s, .int .i64 i, .string t, .int .i64 j] w fun e w' => e = .returned (layRet (decFlds (dec t n) fs ⟨#[123]⟩ j ByteArray.empty)) ∧ Below w.heap.size w w' := by
  have _hs : t.size ≤ 9000000 := by omega
  have hF : ∀ w, Calls Tryd.prog 62 #[.string s, .int .i64 i] w fun e w' => ∃ g cap xs, e = .returned (.tuple #[.slice (some ⟨g, 0, none⟩) fs.length cap, .int .i64 k0]) ∧ w'.ownsRow w.heap.size 79 4 (.slice (some ⟨g, 0, none⟩) fs.length cap) fs.length xs ∧ RowR n s xs fs ∧ Below w.heap.size w w' := fun w => by
    refine (hF0 w).mono ?_
    rintro e w' ⟨⟨g, cap, xs, h1, h2, h3⟩, h4⟩
    exact ⟨g, cap, xs, h1, h2, h3, h4⟩
  clear hF0
  rw [tellF_all _ fs j (by intro h; rw [h] at hne; simp at hne)]
  obtain ⟨R, hR⟩ : ∃ R, R = tellF (dec t n) fs j ByteArray.empty := ⟨_, rfl⟩
  rw [← hR]
  have HR : Hid (R = tellF (dec t n) fs j ByteArray.empty) := hR
  clear hR
  go_enter Tryd.func38, Tryd.ntmps38
  go_wp2_with (go_at_call 62; refine (hF _).mono ?_; rintro e wf ⟨g, cap, xs, rfl, hown, hrow, hbf0⟩)
  go_loopw [12, 13, 14] (fun vd vb vi wr => ∃ (x b : Nat) (d : ByteArray), x ≤ fs.length ∧ j ≤ b ∧ b ≤ t.size ∧ vi = .int .i64 x ∧ vb = .int .i64 b ∧ vd = .string d ∧ Hid (R = tellF (dec t n) (fs.drop x) b d) ∧ Hid (d.size ≤ (4 * n + 23) * (b - j)) ∧ x ≤ d.size ∧ Below wf.heap.size wf wr) (fun _ _ x _ => fs.length - (intOf x).toNat)
  case atStart => exact ⟨0, j, ByteArray.empty, Nat.zero_le _, Nat.le_refl _, by omega, rfl, rfl, rfl, HR, Nat.zero_le _, Nat.zero_le _, Below.refl _ _⟩
  case round =>
    obtain ⟨x, b, d, hx0, hjb, hbt, rfl, rfl, rfl, hR, hd, hxd, hb⟩ := hrel
    have hds := text_sm hd.out (by omega) hn (by omega)
    by_cases hlt : x < fs.length
    · obtain ⟨f, hf⟩ : ∃ f, fs[x]? = some f := ⟨fs[x], List.getElem?_eq_getElem hlt⟩
      have hdrop : fs.drop x = f :: fs.drop (x + 1) := by
        rw [List.drop_eq_getElem_cons hlt]; rw [List.getElem?_eq_getElem hlt] at hf; simp at hf; rw [hf]
      obtain ⟨p, kp, hp, hpn, h256, c0, c1, c2, c3⟩ := hrow.2 x f hf
      have k0 := cell_keep hb (own_cell hown c0)
      have k1 := cell_keep hb (own_cell hown c1)
      have hg' : g < wr.heap.size := lt_of_cell k0
      clear hf c0 c1 c2 c3
      rw [hdrop, tellF] at hR
      cases hy : dec t n f.2.1 b with
      | none =>
        have hr' : Hid (R = none) := by show _ = _; rw [hR.out, hy]
        have hcall := fun w => IL.no w hp hpn hbt hy
        clear hy hR hrow hown
        go_wp2_with (go_at_call 23; refine (hcall _).mono ?_; rintro e w1 ⟨rfl, hb1⟩)
        go_ret2
        rw [hr'.out]
        exact ⟨rfl, (hbf0.trans (hb.mono hbf0.size)).trans (hb1.mono (Nat.le_trans hbf0.size hb.size))⟩
      | some q =>
        obtain ⟨y, k⟩ := q
        obtain ⟨e1, e2, e3⟩ := dec_bd hy
        have hs1 := text_sm e3 (by omega) hn (by omega)
        have one1 : (⟨#[44]⟩ : ByteArray).size = 1 := rfl
        have one2 : (⟨#[58]⟩ : ByteArray).size = 1 := rfl
        have hso : (oneB f.1).size = 1 := rfl
        have z1 : (d ++ ⟨#[44]⟩).size = d.size + 1 := by rw [ByteArray.size_append, one1]
        have z2 : (d ++ ⟨#[44]⟩ ++ oneB f.1).size = d.size + 2 := by rw [ByteArray.size_append, z1, hso]
        have z3 : (d ++ ⟨#[44]⟩ ++ oneB f.1 ++ ⟨#[58]⟩).size = d.size + 3 := by rw [ByteArray.size_append, z2, one2]
        have z4 : (d ++ ⟨#[44]⟩ ++ oneB f.1 ++ ⟨#[58]⟩ ++ y).size = d.size + 3 + y.size := by rw [ByteArray.size_append, z3]
        have hr' : Hid (R = tellF (dec t n) (fs.drop (x + 1)) k (d ++ ⟨#[44]⟩ ++ oneB f.1 ++ ⟨#[58]⟩ ++ y)) := by show _ = _; rw [hR.out, hy]
        have HS : Hid ((d ++ ⟨#[44]⟩ ++ oneB f.1 ++ ⟨#[58]⟩ ++ y).size ≤ (4 * n + 23) * (k - j)) := by
          show _ ≤ _
          rw [z4]
          have h1 := mul_sub_add (C := 4 * n + 23) (show j ≤ b by omega) (show b ≤ k by omega)
          have h2 : (4 * n + 23) * (k - b) = (4 * n + 20) * (k - b) + 3 * (k - b) := by rw [show 4 * n + 23 = (4 * n + 20) + 3 by omega, Nat.add_mul]
          have := hd.out
          omega
        have hcall := fun w => IL.yes w hp hpn hbt hy
        have hconv := fun (W : World) (b : Nat) (h : W.cell? ⟨b, 0, none⟩ = some (.int .u8 f.1)) => conv_byte W b f.1 h256 h
        clear hy hR hrow hown e3
        go_wp2_with (go_at_call 23; refine (hcall _).mono ?_; rintro e w1 ⟨rfl, hb1⟩; obtain ⟨hc1, hf1⟩ := bcell hb1)
        go_roundw
        case rel => exact ⟨x + 1, k, _, by omega, by omega, by omega, by go_num, rfl, rfl, hr', HS, by rw [z4]; omega, (hb.trans (hb1.mono hb.size)).alloc (Nat.le_trans hb.size hb1.size) _⟩
        case measure => simp [intOf]; omega
    · have hnil : fs.drop x = [] := List.drop_of_length_le (by omega)
      have hr' : Hid (R = some (d, b)) := by show _ = _; rw [hR.out, hnil, tellF]
      have hd1 : 1 ≤ d.size := by omega
      have hde := not_isEmpty hd1
      have hsx := size_extract d 1 d.size hd1 (Nat.le_refl _)
      clear hR hnil
      go_wp2_with fail
      go_ret2
      rw [hr'.out]
      exact ⟨rfl, hbf0.trans (hb.mono hbf0.size)⟩
end Go.Proofs.YtkkekopomiehlaaDoor
