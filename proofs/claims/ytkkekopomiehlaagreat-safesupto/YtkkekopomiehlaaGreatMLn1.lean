import Derived.Test.YtkkekopomiehlaaGreatMFl1
import Derived.Laws.CopyOwn
import Derived.Laws.CopyRow
import Derived.Laws.MakeOwn
import Derived.Laws.OwnMore
import Derived.Lib.SlBuf
import Derived.Deep.RegionHeld3
set_option linter.unusedVariables false
set_option linter.unusedSimpArgs false
namespace Go.Proofs.YtkkekopomiehlaaGreat
section
set_option maxRecDepth 4000
open Go.RowKit Go.Lib

theorem hidMk {p : Prop} (h : p) : Hid p := h
/-- The cells of a list, as they lie behind one another. -/
def CellsAt (w : World) (a : Option Addr) (cs : List Value) : Prop := ∀ (j : Nat) (v : Value), cs[j]? = some v → ∃ b o, a = some ⟨b, o, none⟩ ∧ w.cell? ⟨b, o + j, none⟩ = some v
/-- A block of its own holds just these cells. -/
def RowIs (w : World) (g : Nat) (t : TypeId) (cs : List Value) : Prop := w.heap[g]? = some (.cells cs.toArray t (0, 0))
theorem Tryz.infoStrL : (Tryz.prog.info? 9).map (fun i => (i.zero, i.size, i.bytes)) = some (some (.string ⟨#[]⟩), 1, 16) := by kernel_rfl
theorem RowIs.cell {w : World} {g : Nat} {t : TypeId} {cs : List Value} (h : RowIs w g t cs) {j : Nat} {v : Value} (hj : cs[j]? = some v) : w.cell? ⟨g, j, none⟩ = some v := by
  rw [cell_of_row w g j cs.toArray t (0, 0) h]; simpa using hj
theorem RowIs.frozen {w : World} {g : Nat} {t : TypeId} {cs : List Value} (h : RowIs w g t cs) (j : Nat) : w.frozen? ⟨g, j, none⟩ = false := frozen_of_row w g j cs.toArray t h
theorem RowIs.keep {w w' : World} {g : Nat} {t : TypeId} {cs : List Value} (h : RowIs w g t cs) (hb : Below w.heap.size w w') : RowIs w' g t cs := by
  have hg : g < w.heap.size := by
    unfold RowIs at h
    rcases Nat.lt_or_ge g w.heap.size with hg | hg
    · exact hg
    · rw [Array.getElem?_eq_none (by omega)] at h; cases h
  unfold RowIs
  rw [← h]
  exact hb.block g hg
theorem RowIs.lt {w : World} {g : Nat} {t : TypeId} {cs : List Value} (h : RowIs w g t cs) : g < w.heap.size := by
  unfold RowIs at h
  rcases Nat.lt_or_ge g w.heap.size with hg | hg
  · exact hg
  · rw [Array.getElem?_eq_none (by omega)] at h; cases h
theorem RowIs.set {w : World} {g : Nat} {t : TypeId} {cs : List Value} (h : RowIs w g t cs) (j : Nat) (u : Value) : RowIs (w.setCell ⟨g, j, none⟩ u) g t (cs.set j u) := by
  have := heap_setCell_same w g j cs.toArray t u h
  unfold RowIs
  rw [this]
  simp
/-- 'copy' of a list of s cells an element into a fresh row. -/
theorem run_copy_cellsS {P : Program} (w : World) (dT sT ty elem : TypeId) (g dLen dCap : Nat) (ao : Option Addr) (sLen sCap s : Nat) (cur : Array Value) (t : TypeId) (cs : List Value)
    (hu : P.underlying dT = some (.slice elem)) (hs : (P.info? elem).map (·.size) = some s)
    (hg : w.heap[g]? = some (.cells cur t (0, 0))) (hs0 : 0 < s) (hn : cs.length = sLen * s) (hle : sLen ≤ dLen)
    (hsrc : CellsAt w ao cs) (hfit : cs.length ≤ cur.size) (h1 : ∀ v ∈ cs, v.oneCell' = true) :
    (Builtin.copy_ #[dT, sT] ty #[.slice (some ⟨g, 0, none⟩) dLen dCap, .slice ao sLen sCap]).run P w = .ok (goInt sLen) (w.setRow g (cs ++ cur.toList.drop cs.length).toArray) := by
  have hmin : Nat.min sLen dLen = sLen := Nat.min_eq_left hle
  cases hq : P.info? elem with
  | none => simp [hq] at hs
  | some i =>
    have hi : i.size = s := by simpa [hq] using hs
    cases cs with
    | nil =>
      have h0 : sLen = 0 := by
        rcases Nat.eq_zero_or_pos sLen with h | h
        · exact h
        · have := Nat.mul_pos h hs0; simp at hn; omega
      subst h0
      have hself : w.setRow g ([] ++ cur.toList.drop ([] : List Value).length).toArray = w := by simpa using setRow_self w g cur t (0, 0) hg
      rw [hself]
      cases ao with
      | none => simp [Builtin.copy_, run_underlying hu, Builtin.lenOf, Builtin.firstCells, sizeOf, typeInfo, hq, hi, storeCells, hmin, loadCells]
      | some a =>
        have hl0 : (loadCells a 0).run P w = .ok #[] w := run_loadCells_list (P := P) w a [] (fun j v hj => by simp at hj)
        simp [Builtin.copy_, run_underlying hu, Builtin.lenOf, Builtin.firstCells, sizeOf, typeInfo, hq, hi, storeCells, hmin, hl0]
    | cons c cs' =>
      obtain ⟨b, o, rfl, _⟩ := hsrc 0 c rfl
      have hl := run_loadCells_list (P := P) w ⟨b, o, none⟩ (c :: cs') (fun j v hj => by
        obtain ⟨b', o', he, hc⟩ := hsrc j v hj
        cases he
        rw [← hc]
        unfold Addr.add
        split
        · rename_i h0; subst h0; rfl
        · rfl)
      have hst := run_storeCells_at P g 0 t (c :: cs') 0 cur w hg (by simpa using hfit) h1
      simp only [List.length_cons] at hl hn
      simp [Builtin.copy_, run_underlying hu, Builtin.lenOf, Builtin.firstCells, sizeOf, typeInfo, hq, hi, hmin, ← hn, hl, hst]
theorem StrsAt.cells {w : World} {a : Option Addr} {ss : List ByteArray} (h : StrsAt w a ss) : CellsAt w a (ss.map .string) := fun j v hj => by
  rw [List.getElem?_map] at hj
  obtain ⟨s, hs, rfl⟩ := Option.map_eq_some_iff.1 hj
  exact h j s hs
theorem IntsAt.cells {w : World} {a : Option Addr} {ns : List Int} (h : IntsAt w a ns) : CellsAt w a (ns.map (.int .i64)) := fun j v hj => by
  rw [List.getElem?_map] at hj
  obtain ⟨s, hs, rfl⟩ := Option.map_eq_some_iff.1 hj
  exact h j s hs
def beyondB : ByteArray := ⟨#[98, 101, 121, 111, 110, 100]⟩
theorem madeCells_len (z : Array Value) (n : Nat) : (madeCells z n).toList.length = n := by simp [madeCells]
theorem Below.setRow' {B : Nat} {w0 w : World} (hb : Below B w0 w) {g : Nat} (h : B ≤ g) (cs : Array Value) : Below B w0 (w.setRow g cs) := below_setRow hb h cs
/-- A fresh row, and what is copied into it. -/
theorem copy_fresh {P : Program} (w : World) (dT sT ty elem : TypeId) (dCap : Nat) (ao : Option Addr) (sLen sCap s : Nat) (M : Array Value) (t : TypeId) (cs : List Value)
    (hu : P.underlying dT = some (.slice elem)) (hs : (P.info? elem).map (·.size) = some s) (hs0 : 0 < s) (hn : cs.length = sLen * s) (hM : M.size = (sLen + 1) * s)
    (hsrc : CellsAt w ao cs) (h1 : ∀ v ∈ cs, v.oneCell' = true) :
    ∃ W, (Builtin.copy_ #[dT, sT] ty #[.slice (some ⟨w.heap.size, 0, none⟩) (sLen + 1) dCap, .slice ao sLen sCap]).run P (w.alloc (.cells M t)) = .ok (goInt sLen) W ∧ RowIs W w.heap.size t (cs ++ M.toList.drop cs.length) ∧ Below w.heap.size w W ∧ W.heap.size = w.heap.size + 1 := by
  have hg : (w.alloc (.cells M t)).heap[w.heap.size]? = some (.cells M t (0, 0)) := heap_alloc_new w _
  have hsz : M.size = sLen * s + s := by rw [hM, Nat.add_mul, Nat.one_mul]
  have hsrc' : CellsAt (w.alloc (.cells M t)) ao cs := fun j v hj => by
    obtain ⟨b, o, h1, h2⟩ := hsrc j v hj
    exact ⟨b, o, h1, cell_new _ h2⟩
  refine ⟨_, run_copy_cellsS (w.alloc (.cells M t)) dT sT ty elem w.heap.size (sLen + 1) dCap ao sLen sCap s M t cs hu hs hg hs0 hn (by omega) hsrc' (by omega) h1, ?_, ?_, ?_⟩
  · exact setRow_heap _ w.heap.size M _ t _ hg
  · exact below_setRow (bel1 w _) (Nat.le_refl _) _
  · simp [World.setRow]
theorem drop_made {M : Array Value} {n s : Nat} {cs : List Value} (hM : M.size = (n + 1) * s) (hn : cs.length = n * s) : (M.toList.drop cs.length).length = s := by
  rw [List.length_drop, Array.length_toList, hM, hn, Nat.add_mul, Nat.one_mul]; omega
theorem set_last {cs d : List Value} {u : Value} (h : d.length = 1) : (cs ++ d).set cs.length u = cs ++ [u] := by
  match d, h with
  | [x], _ => simp
set_option maxHeartbeats 2000000 in
theorem lentStrings_any (ss : List ByteArray) (w : World) (a : Option Addr) (cap : Nat) (hl : ss.length ≤ 2000000) (hp : StrsAt w a ss) :
    Calls Tryz.prog 17 #[.slice a ss.length cap] w fun e W => ∃ g, e = .returned (.slice (some ⟨g, 0, none⟩) ss.length (ss.length + 1)) ∧ w.heap.size ≤ g ∧ RowIs W g 9 (ss.map .string ++ [.string beyondB]) ∧ Below w.heap.size w W := by
  obtain ⟨ii, hii, hz0, hzz1, hzz2⟩ := info_parts Tryz.infoStrL
  have hmk := run_makeSlice (P := Tryz.prog) (w := w) 22 9 ii _ Tryz.underlying22 hii hz0 .i64 .i64 ((ss.length : Int) + 1) ((ss.length : Int) + 1) (by omega) (Int.le_refl _) (by rw [hzz1]; omega) (by rw [hzz2]; omega) (by omega)
  obtain ⟨M, hMd⟩ : ∃ M, M = madeCells (Value.string ⟨#[]⟩).cells (((ss.length : Int) + 1).toNat * ii.size) := ⟨_, rfl⟩
  have hM : M.size = (ss.length + 1) * 1 := by rw [hMd, size_madeCells, hzz1]; omega
  rw [← hMd, show ((ss.length : Int) + 1).toNat = ss.length + 1 by omega] at hmk
  clear hMd
  obtain ⟨W1, hcp, hrow, hbel, hsz⟩ := copy_fresh (P := Tryz.prog) w 22 22 3 9 (ss.length + 1) a ss.length cap 1 M 9 (ss.map .string) Tryz.underlying22 (by rw [hii]; simp [hzz1]) (by omega) (by simp) hM hp.cells (fun v hv => by obtain ⟨s, _, rfl⟩ := List.mem_map.1 hv; rfl)
  have hd := drop_made hM (cs := ss.map Value.string) (by simp)
  have hc1 : ∃ u, W1.cell? ⟨w.heap.size, ss.length, none⟩ = some u := by
    obtain ⟨u, hu⟩ : ∃ u, (ss.map Value.string ++ M.toList.drop (ss.map Value.string).length)[ss.length]? = some u := ⟨_, List.getElem?_eq_getElem (by rw [List.length_append, hd, List.length_map]; omega)⟩
    exact ⟨u, hrow.cell hu⟩
  obtain ⟨u, hc1⟩ := hc1
  have hf1 := hrow.frozen ss.length
  have hx0 : (0 : Int) ≤ (ss.length : Int) := Int.natCast_nonneg _
  have hrow2 := hrow.set ss.length (.string beyondB)
  have hs2 := set_last (cs := ss.map Value.string) (u := .string beyondB) hd
  rw [List.length_map] at hs2 hrow2
  rw [hs2] at hrow2
  have HRow : Hid (RowIs (W1.setCell ⟨w.heap.size, ss.length, none⟩ (.string beyondB)) w.heap.size 9 (ss.map .string ++ [.string beyondB])) := hrow2
  clear hrow2 hs2 hrow hd
  go_enter Tryz.func17, Tryz.ntmps17
  go_wp2_with (at_builtin; refine wpList_copy_run _ rfl _ _ _ _ rfl _ _ rfl rfl hcp ?_)
  go_ret
  exact ⟨_, rfl, Nat.le_refl _, HRow.out, hbel.setCell (Nat.le_refl _) _⟩
end
section
set_option maxRecDepth 4000
open Go.RowKit Go.Lib

theorem Tryz.infoTopL : (Tryz.prog.info? 89).map (fun i => (i.zero, i.size, i.bytes)) = some (some (.agg #[.int .i64 0]), 1, 8) := by kernel_rfl
theorem Tryz.infoPinL : (Tryz.prog.info? 94).map (fun i => (i.zero, i.size, i.bytes)) = some (some (.agg #[.int .i64 0, .int .i64 0, .int .i64 0]), 3, 24) := by kernel_rfl
def pinC (ps : List PinD) : List Value := ps.flatMap fun p => [.int .i64 p.t, .int .i64 p.w, .int .i64 p.r]
theorem pinC_len : ∀ ps : List PinD, (pinC ps).length = ps.length * 3
  | [] => rfl
  | p :: ps => by rw [pinC, List.flatMap_cons, List.length_append]; have := pinC_len ps; rw [pinC] at this; rw [this, List.length_cons]; simp; omega
theorem pinC_get : ∀ (ps : List PinD) (j : Nat), (pinC ps)[j]? = match ps[j / 3]? with | some p => some (if j % 3 = 0 then .int .i64 p.t else if j % 3 = 1 then .int .i64 p.w else .int .i64 p.r) | none => none
  | [], j => by simp [pinC]
  | p :: ps, j => by
    rw [pinC, List.flatMap_cons]
    by_cases h : j < 3
    · rw [List.getElem?_append_left (by simpa using h), show j / 3 = 0 by omega]
      obtain rfl | rfl | rfl : j = 0 ∨ j = 1 ∨ j = 2 := by omega
      all_goals rfl
    · have := pinC_get ps (j - 3)
      rw [pinC] at this
      rw [List.getElem?_append_right (by simp; omega), show j - [Value.int .i64 p.t, .int .i64 p.w, .int .i64 p.r].length = j - 3 from rfl, this, show j / 3 = (j - 3) / 3 + 1 by omega, List.getElem?_cons_succ, show (j - 3) % 3 = j % 3 by omega]
theorem PinsAt.cells {w : World} {a : Option Addr} {ps : List PinD} (h : PinsAt w a ps) : CellsAt w a (pinC ps) := fun j v hj => by
  rw [pinC_get] at hj
  cases hp : ps[j / 3]? with
  | none => rw [hp] at hj; cases hj
  | some p =>
    rw [hp] at hj
    simp only [Option.some.injEq] at hj
    obtain ⟨b, o, h1, h2, h3, h4⟩ := h _ p hp
    refine ⟨b, o, h1, ?_⟩
    rw [← hj]
    obtain h0 | h0 | h0 : j % 3 = 0 ∨ j % 3 = 1 ∨ j % 3 = 2 := by omega
    · rw [if_pos h0, show o + j = o + j / 3 * 3 by omega]; exact h2
    · rw [if_neg (by omega), if_pos h0, show o + j = o + j / 3 * 3 + 1 by omega]; exact h3
    · rw [if_neg (by omega), if_neg (by omega), show o + j = o + j / 3 * 3 + 2 by omega]; exact h4
theorem set_last3 {cs d : List Value} {u : Value} (h : d.length = 3) : (((cs ++ d).set cs.length u).set (cs.length + 1) u).set (cs.length + 2) u = cs ++ [u, u, u] := by
  match d, h with
  | [x, y, z], _ => simp [List.set_append]
theorem pinC_one {ps : List PinD} {v : Value} (h : v ∈ pinC ps) : v.oneCell' = true := by
  obtain ⟨p, _, hp⟩ := List.mem_flatMap.1 h
  simp at hp
  rcases hp with rfl | rfl | rfl <;> rfl
set_option maxHeartbeats 2000000 in
theorem lentTopics_any (ts : List Int) (w : World) (a : Option Addr) (cap : Nat) (hl : ts.length ≤ 2000000) (hp : IntsAt w a ts) :
    Calls Tryz.prog 18 #[.slice a ts.length cap] w fun e W => ∃ g, e = .returned (.slice (some ⟨g, 0, none⟩) ts.length (ts.length + 1)) ∧ w.heap.size ≤ g ∧ RowIs W g 89 (ts.map (.int .i64) ++ [.int .i64 (-7)]) ∧ Below w.heap.size w W := by
  obtain ⟨ii, hii, hz0, hzz1, hzz2⟩ := info_parts Tryz.infoTopL
  have hmk := run_makeSlice (P := Tryz.prog) (w := w) 23 89 ii _ Tryz.underlying23 hii hz0 .i64 .i64 ((ts.length : Int) + 1) ((ts.length : Int) + 1) (by omega) (Int.le_refl _) (by rw [hzz1]; omega) (by rw [hzz2]; omega) (by omega)
  obtain ⟨M, hMd⟩ : ∃ M, M = madeCells (.agg #[.int .i64 0] : Value).cells (((ts.length : Int) + 1).toNat * ii.size) := ⟨_, rfl⟩
  have hM : M.size = (ts.length + 1) * 1 := by rw [hMd, size_madeCells, hzz1]; omega
  rw [← hMd, show ((ts.length : Int) + 1).toNat = ts.length + 1 by omega] at hmk
  clear hMd
  obtain ⟨W1, hcp, hrow, hbel, hsz⟩ := copy_fresh (P := Tryz.prog) w 23 23 3 89 (ts.length + 1) a ts.length cap 1 M 89 (ts.map (.int .i64)) Tryz.underlying23 (by rw [hii]; simp [hzz1]) (by omega) (by simp) hM hp.cells (fun v hv => by obtain ⟨s, _, rfl⟩ := List.mem_map.1 hv; rfl)
  have hd := drop_made hM (cs := ts.map (.int .i64)) (by simp)
  obtain ⟨u, hu⟩ : ∃ u, (ts.map (Value.int .i64) ++ M.toList.drop (ts.map (Value.int .i64)).length)[ts.length]? = some u := ⟨_, List.getElem?_eq_getElem (by rw [List.length_append, hd, List.length_map]; omega)⟩
  have hc1 := hrow.cell hu
  have hf1 := hrow.frozen ts.length
  have hx0 : (0 : Int) ≤ (ts.length : Int) := Int.natCast_nonneg _
  have hrow2 := hrow.set ts.length (.int .i64 (-7))
  have hs2 := set_last (cs := ts.map (Value.int .i64)) (u := .int .i64 (-7)) hd
  rw [List.length_map] at hs2 hrow2
  rw [hs2] at hrow2
  have HRow : Hid (RowIs (W1.setCell ⟨w.heap.size, ts.length, none⟩ (.int .i64 (-7))) w.heap.size 89 (ts.map (.int .i64) ++ [.int .i64 (-7)])) := hrow2
  clear hrow2 hs2 hrow hd hu
  go_enter Tryz.func18, Tryz.ntmps18
  go_wp2_with (at_builtin; refine wpList_copy_run _ rfl _ _ _ _ rfl _ _ rfl rfl hcp ?_)
  go_ret
  exact ⟨_, rfl, Nat.le_refl _, HRow.out, hbel.setCell (Nat.le_refl _) _⟩
set_option maxHeartbeats 2000000 in
theorem lentPins_any (ps : List PinD) (w : World) (a : Option Addr) (cap : Nat) (hl : ps.length ≤ 2000000) (hp : PinsAt w a ps) :
    Calls Tryz.prog 66 #[.slice a ps.length cap] w fun e W => ∃ g, e = .returned (.slice (some ⟨g, 0, none⟩) ps.length (ps.length + 1)) ∧ w.heap.size ≤ g ∧ RowIs W g 94 (pinC ps ++ [.int .i64 (-7), .int .i64 (-7), .int .i64 (-7)]) ∧ Below w.heap.size w W := by
  obtain ⟨ii, hii, hz0, hzz1, hzz2⟩ := info_parts Tryz.infoPinL
  have hmk := run_makeSlice (P := Tryz.prog) (w := w) 90 94 ii _ Tryz.underlying90 hii hz0 .i64 .i64 ((ps.length : Int) + 1) ((ps.length : Int) + 1) (by omega) (Int.le_refl _) (by rw [hzz1]; omega) (by rw [hzz2]; omega) (by omega)
  obtain ⟨M, hMd⟩ : ∃ M, M = madeCells (.agg #[.int .i64 0, .int .i64 0, .int .i64 0] : Value).cells (((ps.length : Int) + 1).toNat * ii.size) := ⟨_, rfl⟩
  have hM : M.size = (ps.length + 1) * 3 := by rw [hMd, size_madeCells, hzz1]; omega
  rw [← hMd, show ((ps.length : Int) + 1).toNat = ps.length + 1 by omega] at hmk
  clear hMd
  obtain ⟨W1, hcp, hrow, hbel, hsz⟩ := copy_fresh (P := Tryz.prog) w 90 90 3 94 (ps.length + 1) a ps.length cap 3 M 94 (pinC ps) Tryz.underlying90 (by rw [hii]; simp [hzz1]) (by omega) (pinC_len ps) hM hp.cells (fun v hv => pinC_one hv)
  have hd := drop_made hM (cs := pinC ps) (pinC_len ps)
  have hrow0 := hrow
  obtain ⟨u0, hu0⟩ : ∃ u, (pinC ps ++ M.toList.drop (pinC ps).length)[ps.length * 3]? = some u := ⟨_, List.getElem?_eq_getElem (by rw [List.length_append, hd, pinC_len]; omega)⟩
  obtain ⟨u1, hu1⟩ : ∃ u, (pinC ps ++ M.toList.drop (pinC ps).length)[ps.length * 3 + 1]? = some u := ⟨_, List.getElem?_eq_getElem (by rw [List.length_append, hd, pinC_len]; omega)⟩
  obtain ⟨u2, hu2⟩ : ∃ u, (pinC ps ++ M.toList.drop (pinC ps).length)[ps.length * 3 + 2]? = some u := ⟨_, List.getElem?_eq_getElem (by rw [List.length_append, hd, pinC_len]; omega)⟩
  have hc0 := hrow.cell hu0
  have hc1 := hrow.cell hu1
  have hc2 := hrow.cell hu2
  have hf0 := hrow.frozen (ps.length * 3)
  have hf1 := hrow.frozen (ps.length * 3 + 1)
  have hf2 := hrow.frozen (ps.length * 3 + 2)
  have hx0 : (0 : Int) ≤ (ps.length : Int) := Int.natCast_nonneg _
  have HRow := (hidMk hrow)
  clear hrow hrow0 hu0 hu1 hu2
  go_enter Tryz.func66, Tryz.ntmps66
  go_wp2_with (at_builtin; refine wpList_copy_run _ rfl _ _ _ _ rfl _ _ rfl rfl hcp ?_)
  go_ret
  refine ⟨_, rfl, Nat.le_refl _, ?_, ((hbel.setCell (Nat.le_refl _) _).setCell (Nat.le_refl _) _).setCell (Nat.le_refl _) _⟩
  have h3 := ((HRow.out.set (ps.length * 3) (.int .i64 (-7))).set (ps.length * 3 + 1) (.int .i64 (-7))).set (ps.length * 3 + 2) (.int .i64 (-7))
  rw [← pinC_len ps, set_last3 hd] at h3
  rw [← pinC_len ps]
  exact h3
end
section
set_option maxRecDepth 4000
open Go.RowKit

theorem Tryz.infoRelL : (Tryz.prog.info? 92).map (fun i => (i.zero, i.size, i.bytes)) = some (some (.agg #[.slice none 0 0]), 1, 24) := by kernel_rfl
theorem RowIs.setOther {w : World} {g : Nat} {t : TypeId} {cs : List Value} (h : RowIs w g t cs) {p : Addr} (hp : p.block ≠ g) (u : Value) : RowIs (w.setCell p u) g t cs := by
  unfold RowIs at h ⊢
  rw [← h]
  exact heap_setCell_other w p g u hp.symm
def spare3 : List Value := [.int .i64 (-7), .int .i64 (-7), .int .i64 (-7)]
/-- Pins as they are lent. -/
def LPin (w : World) (B : Nat) (v : Value) (ps : List PinD) : Prop := ∃ g, v = .slice (some ⟨g, 0, none⟩) ps.length (ps.length + 1) ∧ B ≤ g ∧ RowIs w g 94 (pinC ps ++ spare3)
theorem LPin.keep {w w' : World} (hb : Below w.heap.size w w') {B : Nat} {v : Value} {ps : List PinD} (h : LPin w B v ps) : LPin w' B v ps := by
  obtain ⟨g, h1, h2, h3⟩ := h
  exact ⟨g, h1, h2, h3.keep hb⟩
theorem LPin.setOther {w : World} {B : Nat} {v : Value} {ps : List PinD} (h : LPin w B v ps) {p : Addr} (hp : p.block < B) (u : Value) : LPin (w.setCell p u) B v ps := by
  obtain ⟨g, h1, h2, h3⟩ := h
  exact ⟨g, h1, h2, h3.setOther (by omega) u⟩
theorem set_mid {d r : List Value} {x v : Value} : (d ++ x :: r).set d.length v = (d ++ [v]) ++ r := by simp
set_option maxHeartbeats 4000000 in
theorem lentReleases_any (rels : List (List PinD)) (w : World) (a : Option Addr) (l cap : Nat) (hp : RelSl PinSl w a l cap rels) :
    Calls Tryz.prog 41 #[.slice a l cap] w fun e W => ∃ (g g' : Nat) (cs : List Value), e = .returned (.slice (some ⟨g, 0, none⟩) rels.length (rels.length + 1)) ∧ w.heap.size ≤ g ∧ g < g' ∧ cs.length = rels.length ∧ RowIs W g 92 (cs ++ [.slice (some ⟨g', 0, none⟩) 1 1]) ∧ RowIs W g' 94 spare3 ∧
      (∀ (k : Nat) (v : Value) (ps : List PinD), cs[k]? = some v → rels[k]? = some ps → LPin W (g + 1) v ps) ∧ Below w.heap.size w W := by
  obtain ⟨rfl, hl, hlc, hc9, hp⟩ := hp
  obtain ⟨ii, hii, hz0, hzz1, hzz2⟩ := info_parts Tryz.infoRelL
  have hmk := run_makeSlice (P := Tryz.prog) (w := w) 65 92 ii _ Tryz.underlying65 hii hz0 .i64 .i64 ((rels.length : Int) + 1) ((rels.length : Int) + 1) (by omega) (Int.le_refl _) (by rw [hzz1]; omega) (by rw [hzz2]; omega) (by omega)
  obtain ⟨M, hMd⟩ : ∃ M, M = madeCells (.agg #[.slice none 0 0] : Value).cells (((rels.length : Int) + 1).toNat * ii.size) := ⟨_, rfl⟩
  have hM : M.size = rels.length + 1 := by rw [hMd, size_madeCells, hzz1]; omega
  rw [← hMd, show ((rels.length : Int) + 1).toNat = rels.length + 1 by omega] at hmk
  clear hMd
  have hrow0 : RowIs (w.alloc (.cells M 92)) w.heap.size 92 M.toList := by
    unfold RowIs; rw [heap_alloc_new w _]
  have HP := (hidMk hp)
  clear hp
  go_enter Tryz.func41, Tryz.ntmps41
  go_wp2_with fail
  go_loopw [4] (fun vi wr => ∃ (i : Nat) (d r : List Value), i ≤ rels.length ∧ vi = .int .i64 i ∧ d.length = i ∧ r.length + i = rels.length + 1 ∧ RowIs wr w.heap.size 92 (d ++ r) ∧ Hid (∀ (k : Nat) (v : Value) (ps : List PinD), d[k]? = some v → rels[k]? = some ps → LPin wr (w.heap.size + 1) v ps) ∧ Below w.heap.size w wr) (fun i _ => rels.length - (intOf i).toNat)
  case atStart => exact ⟨0, [], M.toList, Nat.zero_le _, rfl, rfl, by simp [hM], hrow0, (fun k v ps h => by simp at h), bel1 _ _⟩
  case round =>
    obtain ⟨i, d, r, hi, rfl, hdl, hrl, hrow, hall, hb⟩ := hrel
    rename World => w5
    have hgl := hrow.lt
    by_cases hlt : i < rels.length
    · obtain ⟨ps, hpi⟩ : ∃ ps, rels[i]? = some ps := ⟨rels[i], List.getElem?_eq_getElem hlt⟩
      obtain ⟨b, o, pa, pl, pc, rfl, c0, hps⟩ := HP.out i ps hpi
      have c0 := cell_keep hb c0
      have hbl := lt_of_cell c0
      obtain ⟨p1, p2, p3, p4, p5⟩ := hps
      have hcall := fun (W : World) (h : Below w5.heap.size w5 W) => lentPins_any ps W pa pc p2 (p5.keep (thn3 hb h))
      rw [← p1] at hcall
      obtain ⟨x, r', rfl⟩ : ∃ x r', r = x :: r' := List.exists_cons_of_length_pos (by omega)
      have hcx : w5.cell? ⟨w.heap.size, i, none⟩ = some x := hrow.cell (by rw [List.getElem?_append_right (by omega), hdl, Nat.sub_self]; rfl)
      have hfx := hrow.frozen i
      have hx0 : (0 : Int) ≤ (i : Int) := Int.natCast_nonneg _
      have hx1 : (i : Int) < (rels.length : Int) := by omega
      have hx2 : (i : Int) < (rels.length : Int) + 1 := by omega
      have P1 := (hidMk p1)
      have HRow := (hidMk hrow)
      have HD := (hidMk hdl)
      have HI := (hidMk hpi)
      clear p1 hrow hdl hpi hrow0
      go_wp2_with fail
      (first | go_region_held3 (fun w' => w'.cell? ⟨b, o + i, none⟩ = some (.slice pa pl pc) ∧ w'.cell? ⟨w.heap.size, i, none⟩ = some x ∧ w'.frozen? ⟨w.heap.size, i, none⟩ = false) (go_keep) (first | (go_at_call 66; refine (hcall _ (by first | exact Below.refl _ _ | exact (Below.refl _ _).drew)).mono ?_; rintro e w3 ⟨g3, rfl, hg3, hrow3, hb3⟩; have e1 := cell_keep hb3 c0; have e2 := cell_keep hb3 hcx; have e3 : w3.frozen? ⟨w.heap.size, i, none⟩ = false := (hb3.frozen (p := ⟨w.heap.size, i, none⟩) (by simpa using hgl)).trans hfx)) | (go_at_call 66; refine (hcall _ (by first | exact Below.refl _ _ | exact (Below.refl _ _).drew)).mono ?_; rintro e w3 ⟨g3, rfl, hg3, hrow3, hb3⟩; have e1 := cell_keep hb3 c0; have e2 := cell_keep hb3 hcx; have e3 : w3.frozen? ⟨w.heap.size, i, none⟩ = false := (hb3.frozen (p := ⟨w.heap.size, i, none⟩) (by simpa using hgl)).trans hfx))
      go_wp2_with fail
      go_roundw
      case rel =>
        refine ⟨i + 1, d ++ [.slice (some ⟨g3, 0, none⟩) pl (pl + 1)], r', by omega, by go_num, by rw [List.length_append, HD.out]; rfl, by rw [List.length_cons] at hrl; omega, ?_, ?_, (thn3 hb hb3).setCell (Nat.le_refl _) _⟩
        · have h1 := (HRow.out.keep hb3).set i (.slice (some ⟨g3, 0, none⟩) pl (pl + 1))
          rw [← HD.out, set_mid] at h1
          rw [HD.out] at h1
          exact h1
        · intro k v ps' hk hk2
          by_cases hkd : k < d.length
          · rw [List.getElem?_append_left hkd] at hk
            exact ((hall.out k v ps' hk hk2).keep hb3).setOther (by show w.heap.size < w.heap.size + 1; omega) _
          · have hkl := (List.getElem?_eq_some_iff.1 hk).1
            rw [List.length_append, List.length_singleton] at hkl
            have hke : k = d.length := by omega
            rw [hke, List.getElem?_append_right (Nat.le_refl _), Nat.sub_self] at hk
            simp at hk
            rw [hke, HD.out, HI.out] at hk2
            cases hk2
            rw [← hk, P1.out]
            exact ⟨g3, rfl, by omega, hrow3.setOther (by show w.heap.size ≠ g3; omega) _⟩
      case measure => simp [intOf]; omega
    · have hie : i = rels.length := by omega
      obtain ⟨x, rfl⟩ : ∃ x, r = [x] := List.length_eq_one_iff.1 (by omega)
      have hcx : w5.cell? ⟨w.heap.size, rels.length, none⟩ = some x := hrow.cell (by rw [List.getElem?_append_right (by omega), hdl, hie, Nat.sub_self]; rfl)
      have hfx := hrow.frozen rels.length
      have hx0 : (0 : Int) ≤ (rels.length : Int) := Int.natCast_nonneg _
      have HRow := (hidMk hrow)
      have HD : Hid (d.length = rels.length) := by show _ = _; omega
      clear hrow hdl hrow0 hie hrl
      go_wp2_with fail
      go_ret
      refine ⟨w.heap.size, w5.heap.size, d, rfl, Nat.le_refl _, hgl, HD.out, ?_, ?_, ?_, Below.alloc' (hb.setCell (Nat.le_refl _) _) _⟩
      · have h1 := HRow.out.set rels.length (.slice (some ⟨w5.heap.size, 0, none⟩) 1 1)
        rw [← HD.out, set_last (d := [x]) rfl] at h1
        rw [HD.out] at h1
        exact h1.keep (bel1 _ _)
      · have hz : (w5.setCell ⟨w.heap.size, rels.length, none⟩ (.slice (some ⟨w5.heap.size, 0, none⟩) 1 1)).heap.size = w5.heap.size := by simp [World.setCell]
        have h1 := heap_alloc_new (w5.setCell ⟨w.heap.size, rels.length, none⟩ (.slice (some ⟨w5.heap.size, 0, none⟩) 1 1)) (.cells #[.int .i64 (-7), .int .i64 (-7), .int .i64 (-7)] 94)
        rw [hz] at h1
        exact h1
      · intro k v ps' hk hk2
        exact ((hall.out k v ps' hk hk2).setOther (by show w.heap.size < w.heap.size + 1; omega) _).keep (bel1 _ _)
end
section
set_option maxRecDepth 4000
open Go.RowKit

theorem Tryz.infoSvcL : (Tryz.prog.info? 67).map (fun i => (i.zero, i.size, i.bytes)) = some (some (.agg #[.int .i64 0, .int .i64 0, .int .i64 0, .slice none 0 0]), 4, 48) := by kernel_rfl
/-- Releases as they are lent. -/
def LRel (w : World) (B : Nat) (v : Value) (rels : List (List PinD)) : Prop := ∃ (g g' : Nat) (cs : List Value), v = .slice (some ⟨g, 0, none⟩) rels.length (rels.length + 1) ∧ B ≤ g ∧ g < g' ∧ cs.length = rels.length ∧ RowIs w g 92 (cs ++ [.slice (some ⟨g', 0, none⟩) 1 1]) ∧ RowIs w g' 94 spare3 ∧
  ∀ (k : Nat) (v : Value) (ps : List PinD), cs[k]? = some v → rels[k]? = some ps → LPin w (g + 1) v ps
theorem LRel.keep {w w' : World} (hb : Below w.heap.size w w') {B : Nat} {v : Value} {rels : List (List PinD)} (h : LRel w B v rels) : LRel w' B v rels := by
  obtain ⟨g, g', cs, h1, h2, h3, h4, h5, h6, h7⟩ := h
  exact ⟨g, g', cs, h1, h2, h3, h4, h5.keep hb, h6.keep hb, fun k v ps a b => (h7 k v ps a b).keep hb⟩
theorem LRel.setOther {w : World} {B : Nat} {v : Value} {rels : List (List PinD)} (h : LRel w B v rels) {p : Addr} (hp : p.block < B) (u : Value) : LRel (w.setCell p u) B v rels := by
  obtain ⟨g, g', cs, h1, h2, h3, h4, h5, h6, h7⟩ := h
  exact ⟨g, g', cs, h1, h2, h3, h4, h5.setOther (by omega) u, h6.setOther (by omega) u, fun k v ps a b => (h7 k v ps a b).setOther (by omega) u⟩
def svC (D : List (SvcD × Value)) : List Value := D.flatMap fun p => [.int .i64 p.1.size, .int .i64 p.1.now, .int .i64 p.1.want, p.2]
theorem svC_len : ∀ D : List (SvcD × Value), (svC D).length = D.length * 4
  | [] => rfl
  | p :: D => by rw [svC, List.flatMap_cons, List.length_append]; have := svC_len D; rw [svC] at this; rw [this, List.length_cons]; simp; omega
theorem svC_app (D E : List (SvcD × Value)) : svC (D ++ E) = svC D ++ svC E := by simp [svC]
theorem set4 {C r : List Value} {x0 x1 x2 x3 a b c d : Value} : ((((C ++ x0 :: x1 :: x2 :: x3 :: r).set C.length a).set (C.length + 1) b).set (C.length + 2) c).set (C.length + 3) d = (C ++ [a, b, c, d]) ++ r := by simp [List.set_append]
theorem set43 {C r : List Value} {a b c d e : Value} : ((C ++ [a, b, c, d]) ++ r).set (C.length + 3) e = (C ++ [a, b, c, e]) ++ r := by simp [List.set_append]
theorem len4 {r : List Value} (h : 4 ≤ r.length) : ∃ x0 x1 x2 x3 r', r = x0 :: x1 :: x2 :: x3 :: r' := by
  match r, h with
  | x0 :: x1 :: x2 :: x3 :: r', _ => exact ⟨x0, x1, x2, x3, r', rfl⟩
set_option maxHeartbeats 4000000 in
theorem lentServices_any (vs : List SvcD) (w : World) (a : Option Addr) (cap : Nat) (hl : vs.length ≤ 2000000) (hp : SvcsAt (RelSl PinSl) w a vs) :
    Calls Tryz.prog 19 #[.slice a vs.length cap] w fun e W => ∃ (g : Nat) (D : List (SvcD × Value)), e = .returned (.slice (some ⟨g, 0, none⟩) vs.length (vs.length + 1)) ∧ w.heap.size ≤ g ∧ D.map Prod.fst = vs ∧ RowIs W g 67 (svC D ++ [.int .i64 (-7), .int .i64 (-7), .int .i64 (-7), .slice none 0 0]) ∧
      (∀ p ∈ D, LRel W (g + 1) p.2 p.1.rels) ∧ Below w.heap.size w W := by
  obtain ⟨ii, hii, hz0, hzz1, hzz2⟩ := info_parts Tryz.infoSvcL
  have hmk := run_makeSlice (P := Tryz.prog) (w := w) 24 67 ii _ Tryz.underlying24 hii hz0 .i64 .i64 ((vs.length : Int) + 1) ((vs.length : Int) + 1) (by omega) (Int.le_refl _) (by rw [hzz1]; omega) (by rw [hzz2]; omega) (by omega)
  obtain ⟨M, hMd⟩ : ∃ M, M = madeCells (.agg #[.int .i64 0, .int .i64 0, .int .i64 0, .slice none 0 0] : Value).cells (((vs.length : Int) + 1).toNat * ii.size) := ⟨_, rfl⟩
  have hM : M.size = (vs.length + 1) * 4 := by rw [hMd, size_madeCells, hzz1]; omega
  rw [← hMd, show ((vs.length : Int) + 1).toNat = vs.length + 1 by omega] at hmk
  clear hMd
  have hrow0 : RowIs (w.alloc (.cells M 67)) w.heap.size 67 M.toList := by
    unfold RowIs; rw [heap_alloc_new w _]
  have HP := (hidMk hp)
  clear hp
  go_enter Tryz.func19, Tryz.ntmps19
  go_wp2_with fail
  go_loopw [4] (fun vi wr => ∃ (i : Nat) (D : List (SvcD × Value)) (r : List Value), i ≤ vs.length ∧ vi = .int .i64 i ∧ Hid (D.map Prod.fst = vs.take i) ∧ r.length + i * 4 = (vs.length + 1) * 4 ∧ RowIs wr w.heap.size 67 (svC D ++ r) ∧ Hid (∀ p ∈ D, LRel wr (w.heap.size + 1) p.2 p.1.rels) ∧ Below w.heap.size w wr) (fun i _ => vs.length - (intOf i).toNat)
  case atStart => exact ⟨0, [], M.toList, Nat.zero_le _, rfl, (by show _ = _; rfl), by simp [hM], hrow0, (fun p h => by simp at h), bel1 _ _⟩
  case round =>
    obtain ⟨i, D, r, hi, rfl, hD, hrl, hrow, hall, hb⟩ := hrel
    rename World => w5
    have hgl := hrow.lt
    have hDl : D.length = i := by have := congrArg List.length hD.out; rw [List.length_map, List.length_take] at this; omega
    have hCl := svC_len D
    rw [hDl] at hCl
    by_cases hlt : i < vs.length
    · obtain ⟨v, hvi⟩ : ∃ v, vs[i]? = some v := ⟨vs[i], List.getElem?_eq_getElem hlt⟩
      obtain ⟨b, o, ra, rl, rc, rfl, d0, d1, d2, d3, hrs⟩ := HP.out i v hvi
      have c0 := cell_keep hb d0
      have c1 := cell_keep hb d1
      have c2 := cell_keep hb d2
      have c3 := cell_keep hb d3
      have hbl := lt_of_cell d0
      have hbl5 := lt_of_cell c0
      have hne : b ≠ w.heap.size := by omega
      have hcall := fun (W : World) (h : Below w.heap.size w W) => lentReleases_any v.rels W ra rl rc (RelSl.keepP h hrs)
      obtain ⟨x0, x1, x2, x3, r', rfl⟩ := len4 (r := r) (by omega)
      have q0 : w5.cell? ⟨w.heap.size, i * 4, none⟩ = some x0 := hrow.cell (by rw [List.getElem?_append_right (by omega), hCl, show i * 4 - i * 4 = 0 by omega]; rfl)
      have q1 : w5.cell? ⟨w.heap.size, i * 4 + 1, none⟩ = some x1 := hrow.cell (by rw [List.getElem?_append_right (by omega), hCl, show i * 4 + 1 - i * 4 = 1 by omega]; rfl)
      have q2 : w5.cell? ⟨w.heap.size, i * 4 + 2, none⟩ = some x2 := hrow.cell (by rw [List.getElem?_append_right (by omega), hCl, show i * 4 + 2 - i * 4 = 2 by omega]; rfl)
      have q3 : w5.cell? ⟨w.heap.size, i * 4 + 3, none⟩ = some x3 := hrow.cell (by rw [List.getElem?_append_right (by omega), hCl, show i * 4 + 3 - i * 4 = 3 by omega]; rfl)
      have z0 := hrow.frozen (i * 4)
      have z1 := hrow.frozen (i * 4 + 1)
      have z2 := hrow.frozen (i * 4 + 2)
      have z3 := hrow.frozen (i * 4 + 3)
      have hx0 : (0 : Int) ≤ (i : Int) := Int.natCast_nonneg _
      have hx1 : (i : Int) < (vs.length : Int) := by omega
      have hx2 : (i : Int) < (vs.length : Int) + 1 := by omega
      have HRow := (hidMk hrow)
      have HV := (hidMk hvi)
      have HC := (hidMk hCl)
      have HDl := (hidMk hDl)
      clear hrow hvi hCl hDl hrow0 d0 d1 d2 d3
      obtain ⟨sz, nw, wn, rels⟩ := v
      simp only at c0 c1 c2 c3 hcall
      have hW6 : Below w.heap.size w ((((w5.setCell ⟨w.heap.size, i * 4, none⟩ (.int .i64 sz)).setCell ⟨w.heap.size, i * 4 + 1, none⟩ (.int .i64 nw)).setCell ⟨w.heap.size, i * 4 + 2, none⟩ (.int .i64 wn)).setCell ⟨w.heap.size, i * 4 + 3, none⟩ (.slice ra rl rc)) := (((hb.setCell (Nat.le_refl _) _).setCell (Nat.le_refl _) _).setCell (Nat.le_refl _) _).setCell (Nat.le_refl _) _
      have row6 : RowIs ((((w5.setCell ⟨w.heap.size, i * 4, none⟩ (.int .i64 sz)).setCell ⟨w.heap.size, i * 4 + 1, none⟩ (.int .i64 nw)).setCell ⟨w.heap.size, i * 4 + 2, none⟩ (.int .i64 wn)).setCell ⟨w.heap.size, i * 4 + 3, none⟩ (.slice ra rl rc)) w.heap.size 67 ((svC D ++ [.int .i64 sz, .int .i64 nw, .int .i64 wn, .slice ra rl rc]) ++ r') := by
        have h1 := (((HRow.out.set (i * 4) (.int .i64 sz)).set (i * 4 + 1) (.int .i64 nw)).set (i * 4 + 2) (.int .i64 wn)).set (i * 4 + 3) (.slice ra rl rc)
        rw [← HC.out, set4] at h1
        rw [HC.out] at h1
        exact h1
      have ROW6 := (hidMk row6)
      clear row6
      go_wp2_with (go_at_call 41; refine (hcall _ hW6).mono ?_; rintro e w7 ⟨g7, g7', cs7, rfl, h71, h72, h73, h74, h75, h76, hb7⟩; have H76 := (hidMk h76); clear h76; have e3 : w7.cell? ⟨w.heap.size, i * 4 + 3, none⟩ = some (.slice ra rl rc) := (ROW6.out.keep hb7).cell (by rw [List.getElem?_append_left (by rw [List.length_append, HC.out]; simp), List.getElem?_append_right (by rw [HC.out]; omega), HC.out, show i * 4 + 3 - i * 4 = 3 by omega]; rfl); have z7 := (ROW6.out.keep hb7).frozen (i * 4 + 3))
      go_roundw
      case rel =>
        have hz6 : ((((w5.setCell ⟨w.heap.size, i * 4, none⟩ (.int .i64 sz)).setCell ⟨w.heap.size, i * 4 + 1, none⟩ (.int .i64 nw)).setCell ⟨w.heap.size, i * 4 + 2, none⟩ (.int .i64 wn)).setCell ⟨w.heap.size, i * 4 + 3, none⟩ (.slice ra rl rc)).heap.size = w5.heap.size := by simp [World.setCell]
        refine ⟨i + 1, D ++ [(⟨sz, nw, wn, rels⟩, .slice (some ⟨g7, 0, none⟩) rels.length (rels.length + 1))], r', by omega, by go_num, ?_, by simp only [List.length_cons] at hrl; omega, ?_, ?_, (thn3 hW6 hb7).setCell (Nat.le_refl _) _⟩
        · show _ = _
          rw [List.map_append, hD.out, List.take_add_one, HV.out]; rfl
        · have h1 := (ROW6.out.keep hb7).set (i * 4 + 3) (.slice (some ⟨g7, 0, none⟩) rels.length (rels.length + 1))
          rw [← HC.out, set43] at h1
          rw [HC.out] at h1
          rw [svC_app]
          exact h1
        · intro p hp
          rcases List.mem_append.1 hp with hp | hp
          · refine LRel.setOther (LRel.keep hb7 ?_) (by show w.heap.size < w.heap.size + 1; omega) _
            exact ((((hall.out p hp).setOther (by show w.heap.size < w.heap.size + 1; omega) _).setOther (by show w.heap.size < w.heap.size + 1; omega) _).setOther (by show w.heap.size < w.heap.size + 1; omega) _).setOther (by show w.heap.size < w.heap.size + 1; omega) _
          · rw [List.mem_singleton.1 hp]
            refine LRel.setOther ?_ (by show w.heap.size < w.heap.size + 1; omega) _
            exact ⟨g7, g7', cs7, rfl, by omega, h72, h73, h74, h75, H76.out⟩
      case measure => simp [intOf]; omega
    · have hie : i = vs.length := by omega
      obtain ⟨x0, x1, x2, x3, r', rfl⟩ := len4 (r := r) (by omega)
      obtain rfl : r' = [] := List.eq_nil_of_length_eq_zero (by simp only [List.length_cons] at hrl; omega)
      have q0 : w5.cell? ⟨w.heap.size, vs.length * 4, none⟩ = some x0 := hrow.cell (by rw [List.getElem?_append_right (by omega), hCl, show vs.length * 4 - i * 4 = 0 by omega]; rfl)
      have q1 : w5.cell? ⟨w.heap.size, vs.length * 4 + 1, none⟩ = some x1 := hrow.cell (by rw [List.getElem?_append_right (by omega), hCl, show vs.length * 4 + 1 - i * 4 = 1 by omega]; rfl)
      have q2 : w5.cell? ⟨w.heap.size, vs.length * 4 + 2, none⟩ = some x2 := hrow.cell (by rw [List.getElem?_append_right (by omega), hCl, show vs.length * 4 + 2 - i * 4 = 2 by omega]; rfl)
      have q3 : w5.cell? ⟨w.heap.size, vs.length * 4 + 3, none⟩ = some x3 := hrow.cell (by rw [List.getElem?_append_right (by omega), hCl, show vs.length * 4 + 3 - i * 4 = 3 by omega]; rfl)
      have z0 := hrow.frozen (vs.length * 4)
      have z1 := hrow.frozen (vs.length * 4 + 1)
      have z2 := hrow.frozen (vs.length * 4 + 2)
      have z3 := hrow.frozen (vs.length * 4 + 3)
      have hx0 : (0 : Int) ≤ (vs.length : Int) := Int.natCast_nonneg _
      have HRow := (hidMk hrow)
      have HC : Hid ((svC D).length = vs.length * 4) := by show _ = _; omega
      have HDD : Hid (D.map Prod.fst = vs) := by show _ = _; rw [hD.out, List.take_of_length_le (by omega)]
      clear hrow hrow0 hie hrl hCl hDl
      go_wp2_with fail
      go_ret
      refine ⟨w.heap.size, D, rfl, Nat.le_refl _, HDD.out, ?_, ?_, (((hb.setCell (Nat.le_refl _) _).setCell (Nat.le_refl _) _).setCell (Nat.le_refl _) _).setCell (Nat.le_refl _) _⟩
      · have h1 := (((HRow.out.set (vs.length * 4) (.int .i64 (-7))).set (vs.length * 4 + 1) (.int .i64 (-7))).set (vs.length * 4 + 2) (.int .i64 (-7))).set (vs.length * 4 + 3) (.slice none 0 0)
        rw [← HC.out, set4, List.append_nil] at h1
        rw [HC.out] at h1
        exact h1
      · intro p hp
        exact ((((hall.out p hp).setOther (by show w.heap.size < w.heap.size + 1; omega) _).setOther (by show w.heap.size < w.heap.size + 1; omega) _).setOther (by show w.heap.size < w.heap.size + 1; omega) _).setOther (by show w.heap.size < w.heap.size + 1; omega) _
end
section
set_option maxRecDepth 4000
open Go.RowKit

/-- A fleet as it is lent. -/
structure LentF (w : World) (gs gt gv : Nat) (D : List (SvcD × Value)) (f : FleetD) : Prop where
  s : RowIs w gs 9 (f.ss.map .string ++ [.string beyondB])
  t : RowIs w gt 89 (f.ts.map (.int .i64) ++ [.int .i64 (-7)])
  d : D.map Prod.fst = f.vs
  v : RowIs w gv 67 (svC D ++ [.int .i64 (-7), .int .i64 (-7), .int .i64 (-7), .slice none 0 0])
  r : ∀ p ∈ D, LRel w (gv + 1) p.2 p.1.rels
theorem LentF.keep {w w' : World} (hb : Below w.heap.size w w') {gs gt gv : Nat} {D : List (SvcD × Value)} {f : FleetD} (h : LentF w gs gt gv D f) : LentF w' gs gt gv D f :=
  ⟨h.s.keep hb, h.t.keep hb, h.d, h.v.keep hb, fun p hp => (h.r p hp).keep hb⟩
def lentA (gs gt gv : Nat) (f : FleetD) : Value := .agg #[.slice (some ⟨gs, 0, none⟩) f.ss.length (f.ss.length + 1), .slice (some ⟨gt, 0, none⟩) f.ts.length (f.ts.length + 1), .slice (some ⟨gv, 0, none⟩) f.vs.length (f.vs.length + 1)]
set_option maxHeartbeats 2000000 in
theorem lent_any (f : FleetD) (sa ta va : Option Addr) (sl sc tl tc vl vc : Nat) (w : World) (hf : FleetAt w sa sl sc ta tl tc va vl vc f) :
    Calls Tryz.prog 5 #[.agg #[.slice sa sl sc, .slice ta tl tc, .slice va vl vc]] w fun e W => ∃ gs gt gv D, e = .returned (lentA gs gt gv f) ∧ LentF W gs gt gv D f ∧ Below w.heap.size w W := by
  have c1 := fun (W : World) (h : Below w.heap.size w W) => lentStrings_any f.ss W sa sc hf.s2 (hf.s4.keep h)
  have c2 := fun (W : World) (h : Below w.heap.size w W) => lentTopics_any f.ts W ta tc hf.t2 (hf.t3.keep h)
  have c3 := fun (W : World) (h : Below w.heap.size w W) => lentServices_any f.vs W va vc hf.v2 (hf.v3.keep (fun _ _ _ _ h' => RelSl.keepP h h') h)
  rw [← hf.s1] at c1
  rw [← hf.t1] at c2
  rw [← hf.v1] at c3
  have e0 := new3 (.cells #[.slice none 0 0, .slice none 0 0, .slice none 0 0] 26) (box3 w (.slice sa sl sc) (.slice ta tl tc) (.slice va vl vc) 26)
  have z0 := box3 (w.alloc (.cells #[.slice sa sl sc, .slice ta tl tc, .slice va vl vc] 26)) (.slice none 0 0) (.slice none 0 0) (.slice none 0 0) 26
  have hBB := thn3 (bel1 w (.cells #[.slice sa sl sc, .slice ta tl tc, .slice va vl vc] 26)) (bel1 _ (.cells #[.slice none 0 0, .slice none 0 0, .slice none 0 0] 26))
  rw [show (w.alloc (.cells #[.slice sa sl sc, .slice ta tl tc, .slice va vl vc] 26)).heap.size = w.heap.size + 1 by simp] at z0
  have H1 := (hidMk hf.s1)
  have H2 := (hidMk hf.t1)
  have H3 := (hidMk hf.v1)
  clear hf
  go_enter Tryz.func5, Tryz.ntmps5
  go_wp2_with (first
    | (go_at_call 17; refine (c1 _ hBB).mono ?_; rintro e w1 ⟨gs, rfl, hgs, hrs, hb1⟩; have e1 := keep3 hb1 e0; have z1 := keep3 hb1 z0)
    | (go_at_call 18; refine (c2 _ (thn3 hBB hb1)).mono ?_; rintro e w2 ⟨gt, rfl, hgt, hrt, hb2⟩; have e2 := keep3 hb2 e1; have z2 := keep3 hb2 z1)
    | (go_at_call 19; refine (c3 _ (thn3 (thn3 hBB hb1) hb2)).mono ?_; rintro e w3 ⟨gv, D, rfl, hgv, hD, hrv, hrr, hb3⟩; have z3 := keep3 hb3 z2; have hB3 := thn3 (thn3 hb1 hb2) hb3; obtain ⟨hcc, hff⟩ := bcell hB3))
  refine bodyPost_ret (v := .agg #[.slice (some ⟨gs, 0, none⟩) sl (sl + 1), .slice (some ⟨gt, 0, none⟩) tl (tl + 1), .slice (some ⟨gv, 0, none⟩) vl (vl + 1)]) (by simp [results, Tryz.results5, go_sem, z3.1, z3.2.1, z3.2.2]) rfl ?_
  have hz0 : ((w.alloc (.cells #[.slice sa sl sc, .slice ta tl tc, .slice va vl vc] 26)).alloc (.cells #[.slice none 0 0, .slice none 0 0, .slice none 0 0] 26)).heap.size = w.heap.size + 2 := by simp
  have hs1 := hb1.size
  have hs2 := hb2.size
  rw [hz0] at hgs hs1
  have hBW := thn3 hBB hB3
  refine ⟨gs, gt, gv, D, ?_, ⟨?_, ?_, hD, ?_, ?_⟩, ((hBW.setCell (Nat.le_succ _) _).setCell (Nat.le_succ _) _).setCell (Nat.le_succ _) _⟩
  · unfold lentA; rw [H1.out, H2.out, H3.out]
  · exact (((((hrs.keep hb2).keep hb3).setOther (by show w.heap.size + 1 ≠ gs; omega) _).setOther (by show w.heap.size + 1 ≠ gs; omega) _).setOther (by show w.heap.size + 1 ≠ gs; omega) _)
  · exact ((((hrt.keep hb3).setOther (by show w.heap.size + 1 ≠ gt; omega) _).setOther (by show w.heap.size + 1 ≠ gt; omega) _).setOther (by show w.heap.size + 1 ≠ gt; omega) _)
  · exact (((hrv.setOther (by show w.heap.size + 1 ≠ gv; omega) _).setOther (by show w.heap.size + 1 ≠ gv; omega) _).setOther (by show w.heap.size + 1 ≠ gv; omega) _)
  · intro p hp
    exact ((((hrr p hp).setOther (by show w.heap.size + 1 < gv + 1; omega) _).setOther (by show w.heap.size + 1 < gv + 1; omega) _).setOther (by show w.heap.size + 1 < gv + 1; omega) _)
theorem RowIs.strs {w : World} {g : Nat} {t : TypeId} {ss : List ByteArray} {r : List Value} (h : RowIs w g t (ss.map .string ++ r)) : StrsAt w (some ⟨g, 0, none⟩) ss := fun i s hi => by
  refine ⟨g, 0, rfl, ?_⟩
  rw [Nat.zero_add]
  refine h.cell ?_
  rw [List.getElem?_append_left (by rw [List.length_map]; exact (List.getElem?_eq_some_iff.1 hi).1), List.getElem?_map, hi]; rfl
theorem RowIs.ints {w : World} {g : Nat} {t : TypeId} {ns : List Int} {r : List Value} (h : RowIs w g t (ns.map (.int .i64) ++ r)) : IntsAt w (some ⟨g, 0, none⟩) ns := fun i s hi => by
  refine ⟨g, 0, rfl, ?_⟩
  rw [Nat.zero_add]
  refine h.cell ?_
  rw [List.getElem?_append_left (by rw [List.length_map]; exact (List.getElem?_eq_some_iff.1 hi).1), List.getElem?_map, hi]; rfl
theorem pin_cells {ps : List PinD} {i : Nat} {p : PinD} (h : ps[i]? = some p) (r : List Value) : (pinC ps ++ r)[i * 3]? = some (.int .i64 p.t) ∧ (pinC ps ++ r)[i * 3 + 1]? = some (.int .i64 p.w) ∧ (pinC ps ++ r)[i * 3 + 2]? = some (.int .i64 p.r) := by
  have hl := (List.getElem?_eq_some_iff.1 h).1
  have hc := pinC_len ps
  refine ⟨?_, ?_, ?_⟩
  · rw [List.getElem?_append_left (by omega), pinC_get, show i * 3 / 3 = i by omega, h]; simp
  · rw [List.getElem?_append_left (by omega), pinC_get, show (i * 3 + 1) / 3 = i by omega, h, show (i * 3 + 1) % 3 = 1 by omega]; simp
  · rw [List.getElem?_append_left (by omega), pinC_get, show (i * 3 + 2) / 3 = i by omega, h, show (i * 3 + 2) % 3 = 2 by omega]; simp
theorem RowIs.pins {w : World} {g : Nat} {t : TypeId} {ps : List PinD} {r : List Value} (h : RowIs w g t (pinC ps ++ r)) : PinsAt w (some ⟨g, 0, none⟩) ps := fun i p hi => by
  obtain ⟨h1, h2, h3⟩ := pin_cells hi r
  refine ⟨g, 0, rfl, ?_, ?_, ?_⟩ <;> rw [Nat.zero_add]
  · exact h.cell h1
  · exact h.cell h2
  · exact h.cell h3
theorem LRel.sl {w : World} {B : Nat} {v : Value} {rels : List (List PinD)} (h : LRel w B v rels) (hl : rels.length ≤ 2000000) (hps : ∀ ps ∈ rels, ps.length ≤ 2000000) : ∃ a l c, v = .slice a l c ∧ RelSl PinSl w a l c rels := by
  obtain ⟨g, g', cs, h1, h2, h3, h4, h5, h6, h7⟩ := h
  refine ⟨_, _, _, h1, rfl, hl, by omega, by omega, fun i ps hi => ?_⟩
  have hil := (List.getElem?_eq_some_iff.1 hi).1
  obtain ⟨u, hu⟩ : ∃ u, cs[i]? = some u := ⟨cs[i]'(by omega), List.getElem?_eq_getElem (by omega)⟩
  obtain ⟨gp, k1, k2, k3⟩ := h7 i u ps hu hi
  have hc : w.cell? ⟨g, i, none⟩ = some u := h5.cell (by rw [List.getElem?_append_left (by omega)]; exact hu)
  rw [k1] at hc
  exact ⟨g, 0, _, _, _, rfl, by rw [Nat.zero_add]; exact hc, rfl, hps ps (List.mem_of_getElem? hi), by omega, by have := hps ps (List.mem_of_getElem? hi); omega, k3.pins⟩
theorem svC_get : ∀ (D : List (SvcD × Value)) (i : Nat) (p : SvcD × Value) (r : List Value), D[i]? = some p → (svC D ++ r)[i * 4]? = some (.int .i64 p.1.size) ∧ (svC D ++ r)[i * 4 + 1]? = some (.int .i64 p.1.now) ∧ (svC D ++ r)[i * 4 + 2]? = some (.int .i64 p.1.want) ∧ (svC D ++ r)[i * 4 + 3]? = some p.2
  | [], i, p, r, h => by simp at h
  | q :: D, 0, p, r, h => by
    simp at h; subst h
    exact ⟨rfl, rfl, rfl, rfl⟩
  | q :: D, i + 1, p, r, h => by
    rw [List.getElem?_cons_succ] at h
    have := svC_get D i p r h
    have e : svC (q :: D) ++ r = .int .i64 q.1.size :: .int .i64 q.1.now :: .int .i64 q.1.want :: q.2 :: (svC D ++ r) := by simp [svC]
    rw [e, show (i + 1) * 4 = i * 4 + 1 + 1 + 1 + 1 by omega, show i * 4 + 1 + 1 + 1 + 1 + 1 = i * 4 + 1 + 1 + 1 + 1 + 1 by omega]
    exact this
/-- The lists of a fleet are not too long. -/
def small (f : FleetD) : Prop := f.ss.length ≤ 2000000 ∧ (∀ s ∈ f.ss, s.size ≤ maxLen) ∧ f.ts.length ≤ 2000000 ∧ f.vs.length ≤ 2000000 ∧ ∀ v ∈ f.vs, v.rels.length ≤ 2000000 ∧ ∀ ps ∈ v.rels, ps.length ≤ 2000000
theorem LentF.at {w : World} {gs gt gv : Nat} {D : List (SvcD × Value)} {f : FleetD} (h : LentF w gs gt gv D f) (hs : small f) : FleetAt w (some ⟨gs, 0, none⟩) f.ss.length (f.ss.length + 1) (some ⟨gt, 0, none⟩) f.ts.length (f.ts.length + 1) (some ⟨gv, 0, none⟩) f.vs.length (f.vs.length + 1) f := by
  obtain ⟨s1, s2, s3, s4, s5⟩ := hs
  refine ⟨rfl, s1, s2, h.s.strs, rfl, s3, h.t.ints, rfl, s4, fun i v hi => ?_⟩
  have hi' := hi
  rw [← h.d, List.getElem?_map] at hi'
  obtain ⟨p, hp, rfl⟩ := Option.map_eq_some_iff.1 hi'
  obtain ⟨k0, k1, k2, k3⟩ := svC_get D i p [.int .i64 (-7), .int .i64 (-7), .int .i64 (-7), .slice none 0 0] hp
  have hm := List.mem_of_getElem? hi
  obtain ⟨a, l, c, hv, hr⟩ := (h.r p (List.mem_of_getElem? hp)).sl (s5 _ hm).1 (s5 _ hm).2
  have c3 := h.v.cell k3
  rw [hv] at c3
  refine ⟨gv, 0, a, l, c, rfl, ?_, ?_, ?_, ?_, hr⟩ <;> rw [Nat.zero_add]
  · exact h.v.cell k0
  · exact h.v.cell k1
  · exact h.v.cell k2
  · exact c3
end
section
set_option maxRecDepth 4000
open Go.RowKit

theorem get_last {cs : List Value} {u : Value} {n : Nat} (h : cs.length = n) : (cs ++ [u])[n]? = some u := by rw [List.getElem?_append_right (by omega), h, Nat.sub_self]; rfl
set_option maxHeartbeats 2000000 in
theorem unhurtStrings_any (ss : List ByteArray) (w : World) (g : Nat) (a : Option Addr) (cap : Nat) (hl : ss.length ≤ 2000000) (hrow : RowIs w g 9 (ss.map .string ++ [.string beyondB])) (hp : StrsAt w a ss) :
    Calls Tryz.prog 25 #[.slice (some ⟨g, 0, none⟩) ss.length (ss.length + 1), .slice a ss.length cap] w fun e W => e = .returned (.bool true) ∧ Below w.heap.size w W := by
  have hgl := hrow.lt
  have hlast : w.cell? ⟨g, ss.length, none⟩ = some (.string beyondB) := hrow.cell (get_last (by rw [List.length_map]))
  have HRow := (hidMk hrow)
  have HP := (hidMk hp)
  have hnn : ((ss.length : Int) != (ss.length : Int)) = false := by simp
  have hx9 : (0 : Int) ≤ (ss.length : Int) := Int.natCast_nonneg _
  clear hrow hp
  go_enter Tryz.func25, Tryz.ntmps25
  go_wp2_with fail
  go_loopw [6] (fun vi wr => ∃ i : Nat, i ≤ ss.length ∧ vi = .int .i64 i ∧ Below w.heap.size w wr) (fun i _ => ss.length - (intOf i).toNat)
  case atStart => exact ⟨0, Nat.zero_le _, rfl, Below.refl _ _⟩
  case round =>
    obtain ⟨i, hi, rfl, hb⟩ := hrel
    have hgl2 : g < wr.heap.size := Nat.lt_of_lt_of_le hgl hb.size
    have hx0 : (0 : Int) ≤ (i : Int) := Int.natCast_nonneg _
    by_cases hlt : i < ss.length
    · obtain ⟨s, hsi⟩ : ∃ s, ss[i]? = some s := ⟨ss[i], List.getElem?_eq_getElem hlt⟩
      have c0 := cell_keep hb (HRow.out.cell (j := i) (v := .string s) (by rw [List.getElem?_append_left (by rw [List.length_map]; omega), List.getElem?_map, hsi]; rfl))
      obtain ⟨b, o, rfl, d0⟩ := HP.out i s hsi
      have d0 := cell_keep hb d0
      have hbl := lt_of_cell d0
      have hx1 : (i : Int) < (ss.length : Int) := by omega
      have hx2 : (i : Int) < (ss.length : Int) + 1 := by omega
      have heq : (s.toList != s.toList) = false := by simp
      clear hsi
      go_wp2_with fail
      (first | go_region_held3 (fun w' => w'.cell? ⟨g, i, none⟩ = some (.string s) ∧ w'.cell? ⟨b, o + i, none⟩ = some (.string s)) (go_keep) (fail) | skip)
      go_wp2_with fail
      go_roundw
      case rel => first | exact ⟨i + 1, by omega, by go_num, hb.drew⟩ | exact ⟨i + 1, by omega, by go_num, hb⟩
      case measure => simp [intOf]; omega
    · have c9 := cell_keep hb hlast
      go_wp2_with fail
      go_ret
      exact ⟨ret_bool (by first | rfl | decide +kernel), hb⟩
set_option maxHeartbeats 2000000 in
theorem unhurtTopics_any (ts : List Int) (w : World) (g : Nat) (a : Option Addr) (cap : Nat) (hl : ts.length ≤ 2000000) (hrow : RowIs w g 89 (ts.map (.int .i64) ++ [.int .i64 (-7)])) (hp : IntsAt w a ts) :
    Calls Tryz.prog 26 #[.slice (some ⟨g, 0, none⟩) ts.length (ts.length + 1), .slice a ts.length cap] w fun e W => e = .returned (.bool true) ∧ Below w.heap.size w W := by
  have hgl := hrow.lt
  have hlast : w.cell? ⟨g, ts.length, none⟩ = some (.int .i64 (-7)) := hrow.cell (get_last (by rw [List.length_map]))
  have HRow := (hidMk hrow)
  have HP := (hidMk hp)
  have hnn : ((ts.length : Int) != (ts.length : Int)) = false := by simp
  have hx9 : (0 : Int) ≤ (ts.length : Int) := Int.natCast_nonneg _
  clear hrow hp
  go_enter Tryz.func26, Tryz.ntmps26
  go_wp2_with fail
  go_loopw [6] (fun vi wr => ∃ i : Nat, i ≤ ts.length ∧ vi = .int .i64 i ∧ Below w.heap.size w wr) (fun i _ => ts.length - (intOf i).toNat)
  case atStart => exact ⟨0, Nat.zero_le _, rfl, Below.refl _ _⟩
  case round =>
    obtain ⟨i, hi, rfl, hb⟩ := hrel
    have hgl2 : g < wr.heap.size := Nat.lt_of_lt_of_le hgl hb.size
    have hx0 : (0 : Int) ≤ (i : Int) := Int.natCast_nonneg _
    by_cases hlt : i < ts.length
    · obtain ⟨s, hsi⟩ : ∃ s, ts[i]? = some s := ⟨ts[i], List.getElem?_eq_getElem hlt⟩
      have c0 := cell_keep hb (HRow.out.cell (j := i) (v := .int .i64 s) (by rw [List.getElem?_append_left (by rw [List.length_map]; omega), List.getElem?_map, hsi]; rfl))
      obtain ⟨b, o, rfl, d0⟩ := HP.out i s hsi
      have d0 := cell_keep hb d0
      have hbl := lt_of_cell d0
      have hx1 : (i : Int) < (ts.length : Int) := by omega
      have hx2 : (i : Int) < (ts.length : Int) + 1 := by omega
      have heq : (s != s) = false := by simp
      clear hsi
      go_wp2_with fail
      (first | go_region_held3 (fun w' => w'.cell? ⟨g, i, none⟩ = some (.int .i64 s) ∧ w'.cell? ⟨b, o + i, none⟩ = some (.int .i64 s)) (go_keep) (fail) | skip)
      go_wp2_with fail
      go_roundw
      case rel => first | exact ⟨i + 1, by omega, by go_num, hb.drew⟩ | exact ⟨i + 1, by omega, by go_num, hb⟩
      case measure => simp [intOf]; omega
    · have c9 := cell_keep hb hlast
      go_wp2_with fail
      go_ret
      exact ⟨ret_bool (by first | rfl | decide +kernel), hb⟩
end
section
set_option maxRecDepth 4000
open Go.RowKit Go.Lib

theorem Tryz.infoMvL : (Tryz.prog.info? 46).map (fun i => (i.zero, i.size, i.bytes)) = some (some (.agg #[.int .i64 0, .int .i64 0]), 2, 16) := by kernel_rfl
def MvsAt (w : World) (a : Option Addr) (ms : List (Int × Int)) : Prop := ∀ i m, ms[i]? = some m → ∃ b o, a = some ⟨b, o, none⟩ ∧ w.cell? ⟨b, o + i * 2, none⟩ = some (.int .i64 m.1) ∧ w.cell? ⟨b, o + i * 2 + 1, none⟩ = some (.int .i64 m.2)
def mvC (ms : List (Int × Int)) : List Value := ms.flatMap fun m => [.int .i64 m.1, .int .i64 m.2]
theorem mvC_len : ∀ ms : List (Int × Int), (mvC ms).length = ms.length * 2
  | [] => rfl
  | p :: ms => by rw [mvC, List.flatMap_cons, List.length_append]; have := mvC_len ms; rw [mvC] at this; rw [this, List.length_cons]; simp; omega
theorem mvC_get : ∀ (ms : List (Int × Int)) (j : Nat), (mvC ms)[j]? = match ms[j / 2]? with | some m => some (if j % 2 = 0 then .int .i64 m.1 else .int .i64 m.2) | none => none
  | [], j => by simp [mvC]
  | p :: ms, j => by
    rw [mvC, List.flatMap_cons]
    by_cases h : j < 2
    · rw [List.getElem?_append_left (by simpa using h), show j / 2 = 0 by omega]
      obtain rfl | rfl : j = 0 ∨ j = 1 := by omega
      all_goals rfl
    · have := mvC_get ms (j - 2)
      rw [mvC] at this
      rw [List.getElem?_append_right (by simp; omega), show j - [Value.int .i64 p.1, .int .i64 p.2].length = j - 2 from rfl, this, show j / 2 = (j - 2) / 2 + 1 by omega, List.getElem?_cons_succ, show (j - 2) % 2 = j % 2 by omega]
theorem MvsAt.cells {w : World} {a : Option Addr} {ms : List (Int × Int)} (h : MvsAt w a ms) : CellsAt w a (mvC ms) := fun j v hj => by
  rw [mvC_get] at hj
  cases hp : ms[j / 2]? with
  | none => rw [hp] at hj; cases hj
  | some p =>
    rw [hp] at hj
    simp only [Option.some.injEq] at hj
    obtain ⟨b, o, h1, h2, h3⟩ := h _ p hp
    refine ⟨b, o, h1, ?_⟩
    rw [← hj]
    obtain h0 | h0 : j % 2 = 0 ∨ j % 2 = 1 := by omega
    · rw [if_pos h0, show o + j = o + j / 2 * 2 by omega]; exact h2
    · rw [if_neg (by omega), show o + j = o + j / 2 * 2 + 1 by omega]; exact h3
theorem mvC_one {ms : List (Int × Int)} {v : Value} (h : v ∈ mvC ms) : v.oneCell' = true := by
  obtain ⟨p, _, hp⟩ := List.mem_flatMap.1 h
  simp at hp
  rcases hp with rfl | rfl <;> rfl
theorem set_last2 {cs d : List Value} {u : Value} (h : d.length = 2) : ((cs ++ d).set cs.length u).set (cs.length + 1) u = cs ++ [u, u] := by
  match d, h with
  | [x, y], _ => simp [List.set_append]
theorem mv_cells {ms : List (Int × Int)} {i : Nat} {m : Int × Int} (h : ms[i]? = some m) (r : List Value) : (mvC ms ++ r)[i * 2]? = some (.int .i64 m.1) ∧ (mvC ms ++ r)[i * 2 + 1]? = some (.int .i64 m.2) := by
  have hl := (List.getElem?_eq_some_iff.1 h).1
  have hc := mvC_len ms
  refine ⟨?_, ?_⟩
  · rw [List.getElem?_append_left (by omega), mvC_get, show i * 2 / 2 = i by omega, h]; simp
  · rw [List.getElem?_append_left (by omega), mvC_get, show (i * 2 + 1) / 2 = i by omega, h, show (i * 2 + 1) % 2 = 1 by omega]; simp
set_option maxHeartbeats 2000000 in
theorem lentMoves_any (ms : List (Int × Int)) (w : World) (a : Option Addr) (cap : Nat) (hl : ms.length ≤ 2000000) (hp : MvsAt w a ms) :
    Calls Tryz.prog 6 #[.slice a ms.length cap] w fun e W => ∃ g, e = .returned (.slice (some ⟨g, 0, none⟩) ms.length (ms.length + 1)) ∧ w.heap.size ≤ g ∧ RowIs W g 46 (mvC ms ++ [.int .i64 (-7), .int .i64 (-7)]) ∧ Below w.heap.size w W := by
  obtain ⟨ii, hii, hz0, hzz1, hzz2⟩ := info_parts Tryz.infoMvL
  have hmk := run_makeSlice (P := Tryz.prog) (w := w) 27 46 ii _ Tryz.underlying27 hii hz0 .i64 .i64 ((ms.length : Int) + 1) ((ms.length : Int) + 1) (by omega) (Int.le_refl _) (by rw [hzz1]; omega) (by rw [hzz2]; omega) (by omega)
  obtain ⟨M, hMd⟩ : ∃ M, M = madeCells (.agg #[.int .i64 0, .int .i64 0] : Value).cells (((ms.length : Int) + 1).toNat * ii.size) := ⟨_, rfl⟩
  have hM : M.size = (ms.length + 1) * 2 := by rw [hMd, size_madeCells, hzz1]; omega
  rw [← hMd, show ((ms.length : Int) + 1).toNat = ms.length + 1 by omega] at hmk
  clear hMd
  obtain ⟨W1, hcp, hrow, hbel, hsz⟩ := copy_fresh (P := Tryz.prog) w 27 27 3 46 (ms.length + 1) a ms.length cap 2 M 46 (mvC ms) Tryz.underlying27 (by rw [hii]; simp [hzz1]) (by omega) (mvC_len ms) hM hp.cells (fun v hv => mvC_one hv)
  have hd := drop_made hM (cs := mvC ms) (mvC_len ms)
  obtain ⟨u0, hu0⟩ : ∃ u, (mvC ms ++ M.toList.drop (mvC ms).length)[ms.length * 2]? = some u := ⟨_, List.getElem?_eq_getElem (by rw [List.length_append, hd, mvC_len]; omega)⟩
  obtain ⟨u1, hu1⟩ : ∃ u, (mvC ms ++ M.toList.drop (mvC ms).length)[ms.length * 2 + 1]? = some u := ⟨_, List.getElem?_eq_getElem (by rw [List.length_append, hd, mvC_len]; omega)⟩
  have hc0 := hrow.cell hu0
  have hc1 := hrow.cell hu1
  have hf0 := hrow.frozen (ms.length * 2)
  have hf1 := hrow.frozen (ms.length * 2 + 1)
  have hx0 : (0 : Int) ≤ (ms.length : Int) := Int.natCast_nonneg _
  have HRow := (hidMk hrow)
  clear hrow hu0 hu1
  go_enter Tryz.func6, Tryz.ntmps6
  go_wp2_with (at_builtin; refine wpList_copy_run _ rfl _ _ _ _ rfl _ _ rfl rfl hcp ?_)
  go_ret
  refine ⟨_, rfl, Nat.le_refl _, ?_, (hbel.setCell (Nat.le_refl _) _).setCell (Nat.le_refl _) _⟩
  have h3 := (HRow.out.set (ms.length * 2) (.int .i64 (-7))).set (ms.length * 2 + 1) (.int .i64 (-7))
  rw [← mvC_len ms, set_last2 hd] at h3
  rw [← mvC_len ms]
  exact h3
set_option maxHeartbeats 4000000 in
theorem unhurtMoves_any (ms : List (Int × Int)) (w : World) (g : Nat) (a : Option Addr) (cap : Nat) (hl : ms.length ≤ 2000000) (hrow : RowIs w g 46 (mvC ms ++ [.int .i64 (-7), .int .i64 (-7)])) (hp : MvsAt w a ms) :
    Calls Tryz.prog 9 #[.slice (some ⟨g, 0, none⟩) ms.length (ms.length + 1), .slice a ms.length cap] w fun e W => e = .returned (.bool true) ∧ Below w.heap.size w W := by
  have hgl := hrow.lt
  have hcl := mvC_len ms
  have l0 : w.cell? ⟨g, ms.length * 2, none⟩ = some (.int .i64 (-7)) := hrow.cell (by rw [List.getElem?_append_right (by omega), hcl, Nat.sub_self]; rfl)
  have l1 : w.cell? ⟨g, ms.length * 2 + 1, none⟩ = some (.int .i64 (-7)) := hrow.cell (by rw [List.getElem?_append_right (by omega), hcl, show ms.length * 2 + 1 - ms.length * 2 = 1 by omega]; rfl)
  have HRow := (hidMk hrow)
  have HP := (hidMk hp)
  have hnn : ((ms.length : Int) != (ms.length : Int)) = false := by simp
  have hx9 : (0 : Int) ≤ (ms.length : Int) := Int.natCast_nonneg _
  clear hrow hp hcl
  go_enter Tryz.func9, Tryz.ntmps9
  go_wp2_with fail
  go_loopw [6] (fun vi wr => ∃ i : Nat, i ≤ ms.length ∧ vi = .int .i64 i ∧ Below w.heap.size w wr) (fun i _ => ms.length - (RowKit.intOf i).toNat)
  case atStart => exact ⟨0, Nat.zero_le _, rfl, Below.refl _ _⟩
  case round =>
    obtain ⟨i, hi, rfl, hb⟩ := hrel
    have hgl2 : g < wr.heap.size := Nat.lt_of_lt_of_le hgl hb.size
    have hx0 : (0 : Int) ≤ (i : Int) := Int.natCast_nonneg _
    by_cases hlt : i < ms.length
    · obtain ⟨m, hmi⟩ : ∃ m, ms[i]? = some m := ⟨ms[i], List.getElem?_eq_getElem hlt⟩
      obtain ⟨t0, t1⟩ := mv_cells hmi [.int .i64 (-7), .int .i64 (-7)]
      have c0 := cell_keep hb (HRow.out.cell t0)
      have c1 := cell_keep hb (HRow.out.cell t1)
      obtain ⟨b, o, rfl, d0, d1⟩ := HP.out i m hmi
      have d0 := cell_keep hb d0
      have d1 := cell_keep hb d1
      have hbl := lt_of_cell d0
      have hx1 : (i : Int) < (ms.length : Int) := by omega
      have hx2 : (i : Int) < (ms.length : Int) + 1 := by omega
      obtain ⟨x, y⟩ := m
      simp only at c0 c1 d0 d1
      have n1 : (x != x) = false := by simp
      have n2 : (y != y) = false := by simp
      clear hmi t0 t1
      go_wp2_with fail
      (first | go_region_held3 (fun w' => w'.cell? ⟨g, i * 2, none⟩ = some (.int .i64 x) ∧ w'.cell? ⟨g, i * 2 + 1, none⟩ = some (.int .i64 y) ∧ w'.cell? ⟨b, o + i * 2, none⟩ = some (.int .i64 x) ∧ w'.cell? ⟨b, o + i * 2 + 1, none⟩ = some (.int .i64 y)) (go_keep) (fail) | skip)
      go_wp2_with fail
      go_roundw
      case rel => first | exact ⟨i + 1, by omega, by go_num, hb.drew⟩ | exact ⟨i + 1, by omega, by go_num, hb⟩
      case measure => simp [RowKit.intOf]; omega
    · have c0 := cell_keep hb l0
      have c1 := cell_keep hb l1
      go_wp2_with fail
      (first | go_region_held3 (fun w' => w'.cell? ⟨g, ms.length * 2, none⟩ = some (.int .i64 (-7)) ∧ w'.cell? ⟨g, ms.length * 2 + 1, none⟩ = some (.int .i64 (-7))) (go_keep) (fail) | skip)
      go_wp2_with fail
      go_ret
      first | exact ⟨ret_bool (by rfl), hb.drew⟩ | exact ⟨ret_bool (by rfl), hb⟩
end
end Go.Proofs.YtkkekopomiehlaaGreat
