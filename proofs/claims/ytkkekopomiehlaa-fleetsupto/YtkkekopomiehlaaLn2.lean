import Derived.Test.YtkkekopomiehlaaLn1
set_option linter.unusedVariables false
set_option linter.unusedSimpArgs false
set_option maxRecDepth 4000
namespace Go.Proofs.Ytkkekopomiehlaa
open Go.RowKit Go.Lib

theorem Try.infoTopL : (Try.prog.info? 61).map (fun i => (i.zero, i.size, i.bytes)) = some (some (.agg #[.int .i64 0]), 1, 8) := by kernel_rfl
theorem Try.infoPinL : (Try.prog.info? 92).map (fun i => (i.zero, i.size, i.bytes)) = some (some (.agg #[.int .i64 0, .int .i64 0, .int .i64 0]), 3, 24) := by kernel_rfl
def pinC (ps : List PinD) : List Value := ps.flatMap fun p => [.int .i64 p.t, .int .i64 p.w, .int .i64 p.r]
theorem pinC_len : ∀ ps : List PinD, (pinC ps).length = ps.length * 3
  | [] => rfl
  | p :: ps => by rw [pinC, List.flatMap_cons, List.length_append]; have := pinC_len ps; rw [pinC] at this; rw [this, List.length_cons]; simp; omega
theorem pinC_get : ∀ (ps : List PinD) (j : Nat), (pinC ps)[j]? = match ps[j / 3]? with | some p => some (if j % 3 = 0 then .int .i64 p.t else if j % 3 = 1 then .int .i64 p.w else .int .i64 p.r) | none => none
  | [], j => by simp [pinC]
  | p :: ps, j => by
    rw [pinC, List.flatMap_cons]
    by_cases h : j < 3
    · rw [List.getElem?_append_left (by simpa using h), show j / 3 = 0 by omega]
      obtain rfl | rfl | rfl : j = 0 ∨ j = 1 ∨ j = 2 := by omega
      all_goals rfl
    · have := pinC_get ps (j - 3)
      rw [pinC] at this
      rw [List.getElem?_append_right (by simp; omega), show j - [Value.int .i64 p.t, .int .i64 p.w, .int .i64 p.r].length = j - 3 from rfl, this, show j / 3 = (j - 3) / 3 + 1 by omega, List.getElem?_cons_succ, show (j - 3) % 3 = j % 3 by omega]
theorem PinsAt.cells {w : World} {a : Option Addr} {ps : List PinD} (h : PinsAt w a ps) : CellsAt w a (pinC ps) := fun j v hj => by
  rw [pinC_get] at hj
  cases hp : ps[j / 3]? with
  | none => rw [hp] at hj; cases hj
  | some p =>
    rw [hp] at hj
    simp only [Option.some.injEq] at hj
    obtain ⟨b, o, h1, h2, h3, h4⟩ := h _ p hp
    refine ⟨b, o, h1, ?_⟩
    rw [← hj]
    obtain h0 | h0 | h0 : j % 3 = 0 ∨ j % 3 = 1 ∨ j % 3 = 2 := by omega
    · rw [if_pos h0, show o + j = o + j / 3 * 3 by omega]; exact h2
    · rw [if_neg (by omega), if_pos h0, show o + j = o + j / 3 * 3 + 1 by omega]; exact h3
    · rw [if_neg (by omega), if_neg (by omega), show o + j = o + j / 3 * 3 + 2 by omega]; exact h4
theorem set_last3 {cs d : List Value} {u : Value} (h : d.length = 3) : (((cs ++ d).set cs.length u).set (cs.length + 1) u).set (cs.length + 2) u = cs ++ [u, u, u] := by
  match d, h with
  | [x, y, z], _ => simp [List.set_append]
theorem pinC_one {ps : List PinD} {v : Value} (h : v ∈ pinC ps) : v.oneCell' = true := by
  obtain ⟨p, _, hp⟩ := List.mem_flatMap.1 h
  simp at hp
  rcases hp with rfl | rfl | rfl <;> rfl
set_option maxHeartbeats 2000000 in
theorem lentTopics_any (ts : List Int) (w : World) (a : Option Addr) (cap : Nat) (hl : ts.length ≤ 2000000) (hp : IntsAt w a ts) :
    Calls Try.prog 26 #[.slice a ts.length cap] w fun e W => ∃ g, e = .returned (.slice (some ⟨g, 0, none⟩) ts.length (ts.length + 1)) ∧ w.heap.size ≤ g ∧ RowIs W g 61 (ts.map (.int .i64) ++ [.int .i64 (-7)]) ∧ Below w.heap.size w W := by
  obtain ⟨ii, hii, hz0, hzz1, hzz2⟩ := info_parts Try.infoTopL
  have hmk := run_makeSlice (P := Try.prog) (w := w) 30 61 ii _ Try.underlying30 hii hz0 .i64 .i64 ((ts.length : Int) + 1) ((ts.length : Int) + 1) (by omega) (Int.le_refl _) (by rw [hzz1]; omega) (by rw [hzz2]; omega) (by omega)
  obtain ⟨M, hMd⟩ : ∃ M, M = madeCells (.agg #[.int .i64 0] : Value).cells (((ts.length : Int) + 1).toNat * ii.size) := ⟨_, rfl⟩
  have hM : M.size = (ts.length + 1) * 1 := by rw [hMd, size_madeCells, hzz1]; omega
  rw [← hMd, show ((ts.length : Int) + 1).toNat = ts.length + 1 by omega] at hmk
  clear hMd
  obtain ⟨W1, hcp, hrow, hbel, hsz⟩ := copy_fresh (P := Try.prog) w 30 30 3 61 (ts.length + 1) a ts.length cap 1 M 61 (ts.map (.int .i64)) Try.underlying30 (by rw [hii]; simp [hzz1]) (by omega) (by simp) hM hp.cells (fun v hv => by obtain ⟨s, _, rfl⟩ := List.mem_map.1 hv; rfl)
  have hd := drop_made hM (cs := ts.map (.int .i64)) (by simp)
  obtain ⟨u, hu⟩ : ∃ u, (ts.map (Value.int .i64) ++ M.toList.drop (ts.map (Value.int .i64)).length)[ts.length]? = some u := ⟨_, List.getElem?_eq_getElem (by rw [List.length_append, hd, List.length_map]; omega)⟩
  have hc1 := hrow.cell hu
  have hf1 := hrow.frozen ts.length
  have hx0 : (0 : Int) ≤ (ts.length : Int) := Int.natCast_nonneg _
  have hrow2 := hrow.set ts.length (.int .i64 (-7))
  have hs2 := set_last (cs := ts.map (Value.int .i64)) (u := .int .i64 (-7)) hd
  rw [List.length_map] at hs2 hrow2
  rw [hs2] at hrow2
  have HRow : Hid (RowIs (W1.setCell ⟨w.heap.size, ts.length, none⟩ (.int .i64 (-7))) w.heap.size 61 (ts.map (.int .i64) ++ [.int .i64 (-7)])) := hrow2
  clear hrow2 hs2 hrow hd hu
  go_enter Try.func26, Try.ntmps26
  go_wp2_with (at_builtin; refine wpList_copy_run _ rfl _ _ _ _ rfl _ _ rfl rfl hcp ?_)
  go_ret
  exact ⟨_, rfl, Nat.le_refl _, HRow.out, hbel.setCell (Nat.le_refl _) _⟩
set_option maxHeartbeats 2000000 in
theorem lentPins_any (ps : List PinD) (w : World) (a : Option Addr) (cap : Nat) (hl : ps.length ≤ 2000000) (hp : PinsAt w a ps) :
    Calls Try.prog 86 #[.slice a ps.length cap] w fun e W => ∃ g, e = .returned (.slice (some ⟨g, 0, none⟩) ps.length (ps.length + 1)) ∧ w.heap.size ≤ g ∧ RowIs W g 92 (pinC ps ++ [.int .i64 (-7), .int .i64 (-7), .int .i64 (-7)]) ∧ Below w.heap.size w W := by
  obtain ⟨ii, hii, hz0, hzz1, hzz2⟩ := info_parts Try.infoPinL
  have hmk := run_makeSlice (P := Try.prog) (w := w) 66 92 ii _ Try.underlying66 hii hz0 .i64 .i64 ((ps.length : Int) + 1) ((ps.length : Int) + 1) (by omega) (Int.le_refl _) (by rw [hzz1]; omega) (by rw [hzz2]; omega) (by omega)
  obtain ⟨M, hMd⟩ : ∃ M, M = madeCells (.agg #[.int .i64 0, .int .i64 0, .int .i64 0] : Value).cells (((ps.length : Int) + 1).toNat * ii.size) := ⟨_, rfl⟩
  have hM : M.size = (ps.length + 1) * 3 := by rw [hMd, size_madeCells, hzz1]; omega
  rw [← hMd, show ((ps.length : Int) + 1).toNat = ps.length + 1 by omega] at hmk
  clear hMd
  obtain ⟨W1, hcp, hrow, hbel, hsz⟩ := copy_fresh (P := Try.prog) w 66 66 3 92 (ps.length + 1) a ps.length cap 3 M 92 (pinC ps) Try.underlying66 (by rw [hii]; simp [hzz1]) (by omega) (pinC_len ps) hM hp.cells (fun v hv => pinC_one hv)
  have hd := drop_made hM (cs := pinC ps) (pinC_len ps)
  have hrow0 := hrow
  obtain ⟨u0, hu0⟩ : ∃ u, (pinC ps ++ M.toList.drop (pinC ps).length)[ps.length * 3]? = some u := ⟨_, List.getElem?_eq_getElem (by rw [List.length_append, hd, pinC_len]; omega)⟩
  obtain ⟨u1, hu1⟩ : ∃ u, (pinC ps ++ M.toList.drop (pinC ps).length)[ps.length * 3 + 1]? = some u := ⟨_, List.getElem?_eq_getElem (by rw [List.length_append, hd, pinC_len]; omega)⟩
  obtain ⟨u2, hu2⟩ : ∃ u, (pinC ps ++ M.toList.drop (pinC ps).length)[ps.length * 3 + 2]? = some u := ⟨_, List.getElem?_eq_getElem (by rw [List.length_append, hd, pinC_len]; omega)⟩
  have hc0 := hrow.cell hu0
  have hc1 := hrow.cell hu1
  have hc2 := hrow.cell hu2
  have hf0 := hrow.frozen (ps.length * 3)
  have hf1 := hrow.frozen (ps.length * 3 + 1)
  have hf2 := hrow.frozen (ps.length * 3 + 2)
  have hx0 : (0 : Int) ≤ (ps.length : Int) := Int.natCast_nonneg _
  have HRow := (hidMk hrow)
  clear hrow hrow0 hu0 hu1 hu2
  go_enter Try.func86, Try.ntmps86
  go_wp2_with (at_builtin; refine wpList_copy_run _ rfl _ _ _ _ rfl _ _ rfl rfl hcp ?_)
  go_ret
  refine ⟨_, rfl, Nat.le_refl _, ?_, ((hbel.setCell (Nat.le_refl _) _).setCell (Nat.le_refl _) _).setCell (Nat.le_refl _) _⟩
  have h3 := ((HRow.out.set (ps.length * 3) (.int .i64 (-7))).set (ps.length * 3 + 1) (.int .i64 (-7))).set (ps.length * 3 + 2) (.int .i64 (-7))
  rw [← pinC_len ps, set_last3 hd] at h3
  rw [← pinC_len ps]
  exact h3
end Go.Proofs.Ytkkekopomiehlaa
