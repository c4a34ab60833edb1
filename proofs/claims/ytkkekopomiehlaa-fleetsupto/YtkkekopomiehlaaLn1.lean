import Derived.Test.YtkkekopomiehlaaFl5
import Derived.Laws.CopyOwn
import Derived.Laws.CopyRow
import Derived.Laws.MakeOwn
import Derived.Laws.OwnMore
import Derived.Lib.SlBuf
set_option linter.unusedVariables false
set_option linter.unusedSimpArgs false
set_option maxRecDepth 4000
namespace Go.Proofs.Ytkkekopomiehlaa
open Go.RowKit Go.Lib

theorem hidMk {p : Prop} (h : p) : Hid p := h
/-- The cells of a list, as they lie behind one another. -/
def CellsAt (w : World) (a : Option Addr) (cs : List Value) : Prop := ∀ (j : Nat) (v : Value), cs[j]? = some v → ∃ b o, a = some ⟨b, o, none⟩ ∧ w.cell? ⟨b, o + j, none⟩ = some v
/-- A block of its own holds just these cells. -/
def RowIs (w : World) (g : Nat) (t : TypeId) (cs : List Value) : Prop := w.heap[g]? = some (.cells cs.toArray t (0, 0))
theorem Try.infoStrL : (Try.prog.info? 9).map (fun i => (i.zero, i.size, i.bytes)) = some (some (.string ⟨#[]⟩), 1, 16) := by kernel_rfl
theorem RowIs.cell {w : World} {g : Nat} {t : TypeId} {cs : List Value} (h : RowIs w g t cs) {j : Nat} {v : Value} (hj : cs[j]? = some v) : w.cell? ⟨g, j, none⟩ = some v := by
  rw [cell_of_row w g j cs.toArray t (0, 0) h]; simpa using hj
theorem RowIs.frozen {w : World} {g : Nat} {t : TypeId} {cs : List Value} (h : RowIs w g t cs) (j : Nat) : w.frozen? ⟨g, j, none⟩ = false := frozen_of_row w g j cs.toArray t h
theorem RowIs.keep {w w' : World} {g : Nat} {t : TypeId} {cs : List Value} (h : RowIs w g t cs) (hb : Below w.heap.size w w') : RowIs w' g t cs := by
  have hg : g < w.heap.size := by
    unfold RowIs at h
    rcases Nat.lt_or_ge g w.heap.size with hg | hg
    · exact hg
    · rw [Array.getElem?_eq_none (by omega)] at h; cases h
  unfold RowIs
  rw [← h]
  exact hb.block g hg
theorem RowIs.lt {w : World} {g : Nat} {t : TypeId} {cs : List Value} (h : RowIs w g t cs) : g < w.heap.size := by
  unfold RowIs at h
  rcases Nat.lt_or_ge g w.heap.size with hg | hg
  · exact hg
  · rw [Array.getElem?_eq_none (by omega)] at h; cases h
theorem RowIs.set {w : World} {g : Nat} {t : TypeId} {cs : List Value} (h : RowIs w g t cs) (j : Nat) (u : Value) : RowIs (w.setCell ⟨g, j, none⟩ u) g t (cs.set j u) := by
  have := heap_setCell_same w g j cs.toArray t u h
  unfold RowIs
  rw [this]
  simp
/-- 'copy' of a list of s cells an element into a fresh row. -/
theorem run_copy_cellsS {P : Program} (w : World) (dT sT ty elem : TypeId) (g dLen dCap : Nat) (ao : Option Addr) (sLen sCap s : Nat) (cur : Array Value) (t : TypeId) (cs : List Value)
    (hu : P.underlying dT = some (.slice elem)) (hs : (P.info? elem).map (·.size) = some s)
    (hg : w.heap[g]? = some (.cells cur t (0, 0))) (hs0 : 0 < s) (hn : cs.length = sLen * s) (hle : sLen ≤ dLen)
    (hsrc : CellsAt w ao cs) (hfit : cs.length ≤ cur.size) (h1 : ∀ v ∈ cs, v.oneCell' = true) :
    (Builtin.copy_ #[dT, sT] ty #[.slice (some ⟨g, 0, none⟩) dLen dCap, .slice ao sLen sCap]).run P w = .ok (goInt sLen) (w.setRow g (cs ++ cur.toList.drop cs.length).toArray) := by
  have hmin : Nat.min sLen dLen = sLen := Nat.min_eq_left hle
  cases hq : P.info? elem with
  | none => simp [hq] at hs
  | some i =>
    have hi : i.size = s := by simpa [hq] using hs
    cases cs with
    | nil =>
      have h0 : sLen = 0 := by
        rcases Nat.eq_zero_or_pos sLen with h | h
        · exact h
        · have := Nat.mul_pos h hs0; simp at hn; omega
      subst h0
      have hself : w.setRow g ([] ++ cur.toList.drop ([] : List Value).length).toArray = w := by simpa using setRow_self w g cur t (0, 0) hg
      rw [hself]
      cases ao with
      | none => simp [Builtin.copy_, run_underlying hu, Builtin.lenOf, Builtin.firstCells, sizeOf, typeInfo, hq, hi, storeCells, hmin, loadCells]
      | some a =>
        have hl0 : (loadCells a 0).run P w = .ok #[] w := run_loadCells_list (P := P) w a [] (fun j v hj => by simp at hj)
        simp [Builtin.copy_, run_underlying hu, Builtin.lenOf, Builtin.firstCells, sizeOf, typeInfo, hq, hi, storeCells, hmin, hl0]
    | cons c cs' =>
      obtain ⟨b, o, rfl, _⟩ := hsrc 0 c rfl
      have hl := run_loadCells_list (P := P) w ⟨b, o, none⟩ (c :: cs') (fun j v hj => by
        obtain ⟨b', o', he, hc⟩ := hsrc j v hj
        cases he
        rw [← hc]
        unfold Addr.add
        split
        · rename_i h0; subst h0; rfl
        · rfl)
      have hst := run_storeCells_at P g 0 t (c :: cs') 0 cur w hg (by simpa using hfit) h1
      simp only [List.length_cons] at hl hn
      simp [Builtin.copy_, run_underlying hu, Builtin.lenOf, Builtin.firstCells, sizeOf, typeInfo, hq, hi, hmin, ← hn, hl, hst]
theorem StrsAt.cells {w : World} {a : Option Addr} {ss : List ByteArray} (h : StrsAt w a ss) : CellsAt w a (ss.map .string) := fun j v hj => by
  rw [List.getElem?_map] at hj
  obtain ⟨s, hs, rfl⟩ := Option.map_eq_some_iff.1 hj
  exact h j s hs
theorem IntsAt.cells {w : World} {a : Option Addr} {ns : List Int} (h : IntsAt w a ns) : CellsAt w a (ns.map (.int .i64)) := fun j v hj => by
  rw [List.getElem?_map] at hj
  obtain ⟨s, hs, rfl⟩ := Option.map_eq_some_iff.1 hj
  exact h j s hs
def beyondB : ByteArray := ⟨#[98, 101, 121, 111, 110, 100]⟩
theorem madeCells_len (z : Array Value) (n : Nat) : (madeCells z n).toList.length = n := by simp [madeCells]
theorem Below.setRow' {B : Nat} {w0 w : World} (hb : Below B w0 w) {g : Nat} (h : B ≤ g) (cs : Array Value) : Below B w0 (w.setRow g cs) := below_setRow hb h cs
/-- A fresh row, and what is copied into it. -/
theorem copy_fresh {P : Program} (w : World) (dT sT ty elem : TypeId) (dCap : Nat) (ao : Option Addr) (sLen sCap s : Nat) (M : Array Value) (t : TypeId) (cs : List Value)
    (hu : P.underlying dT = some (.slice elem)) (hs : (P.info? elem).map (·.size) = some s) (hs0 : 0 < s) (hn : cs.length = sLen * s) (hM : M.size = (sLen + 1) * s)
    (hsrc : CellsAt w ao cs) (h1 : ∀ v ∈ cs, v.oneCell' = true) :
    ∃ W, (Builtin.copy_ #[dT, sT] ty #[.slice (some ⟨w.heap.size, 0, none⟩) (sLen + 1) dCap, .slice ao sLen sCap]).run P (w.alloc (.cells M t)) = .ok (goInt sLen) W ∧ RowIs W w.heap.size t (cs ++ M.toList.drop cs.length) ∧ Below w.heap.size w W ∧ W.heap.size = w.heap.size + 1 := by
  have hg : (w.alloc (.cells M t)).heap[w.heap.size]? = some (.cells M t (0, 0)) := heap_alloc_new w _
  have hsz : M.size = sLen * s + s := by rw [hM, Nat.add_mul, Nat.one_mul]
  have hsrc' : CellsAt (w.alloc (.cells M t)) ao cs := fun j v hj => by
    obtain ⟨b, o, h1, h2⟩ := hsrc j v hj
    exact ⟨b, o, h1, cell_new _ h2⟩
  refine ⟨_, run_copy_cellsS (w.alloc (.cells M t)) dT sT ty elem w.heap.size (sLen + 1) dCap ao sLen sCap s M t cs hu hs hg hs0 hn (by omega) hsrc' (by omega) h1, ?_, ?_, ?_⟩
  · exact setRow_heap _ w.heap.size M _ t _ hg
  · exact below_setRow (bel1 w _) (Nat.le_refl _) _
  · simp [World.setRow]
theorem drop_made {M : Array Value} {n s : Nat} {cs : List Value} (hM : M.size = (n + 1) * s) (hn : cs.length = n * s) : (M.toList.drop cs.length).length = s := by
  rw [List.length_drop, Array.length_toList, hM, hn, Nat.add_mul, Nat.one_mul]; omega
theorem set_last {cs d : List Value} {u : Value} (h : d.length = 1) : (cs ++ d).set cs.length u = cs ++ [u] := by
  match d, h with
  | [x], _ => simp
set_option maxHeartbeats 2000000 in
theorem lentStrings_any (ss : List ByteArray) (w : World) (a : Option Addr) (cap : Nat) (hl : ss.length ≤ 2000000) (hp : StrsAt w a ss) :
    Calls Try.prog 25 #[.slice a ss.length cap] w fun e W => ∃ g, e = .returned (.slice (some ⟨g, 0, none⟩) ss.length (ss.length + 1)) ∧ w.heap.size ≤ g ∧ RowIs W g 9 (ss.map .string ++ [.string beyondB]) ∧ Below w.heap.size w W := by
  obtain ⟨ii, hii, hz0, hzz1, hzz2⟩ := info_parts Try.infoStrL
  have hmk := run_makeSlice (P := Try.prog) (w := w) 29 9 ii _ Try.underlying29 hii hz0 .i64 .i64 ((ss.length : Int) + 1) ((ss.length : Int) + 1) (by omega) (Int.le_refl _) (by rw [hzz1]; omega) (by rw [hzz2]; omega) (by omega)
  obtain ⟨M, hMd⟩ : ∃ M, M = madeCells (Value.string ⟨#[]⟩).cells (((ss.length : Int) + 1).toNat * ii.size) := ⟨_, rfl⟩
  have hM : M.size = (ss.length + 1) * 1 := by rw [hMd, size_madeCells, hzz1]; omega
  rw [← hMd, show ((ss.length : Int) + 1).toNat = ss.length + 1 by omega] at hmk
  clear hMd
  obtain ⟨W1, hcp, hrow, hbel, hsz⟩ := copy_fresh (P := Try.prog) w 29 29 3 9 (ss.length + 1) a ss.length cap 1 M 9 (ss.map .string) Try.underlying29 (by rw [hii]; simp [hzz1]) (by omega) (by simp) hM hp.cells (fun v hv => by obtain ⟨s, _, rfl⟩ := List.mem_map.1 hv; rfl)
  have hd := drop_made hM (cs := ss.map Value.string) (by simp)
  have hc1 : ∃ u, W1.cell? ⟨w.heap.size, ss.length, none⟩ = some u := by
    obtain ⟨u, hu⟩ : ∃ u, (ss.map Value.string ++ M.toList.drop (ss.map Value.string).length)[ss.length]? = some u := ⟨_, List.getElem?_eq_getElem (by rw [List.length_append, hd, List.length_map]; omega)⟩
    exact ⟨u, hrow.cell hu⟩
  obtain ⟨u, hc1⟩ := hc1
  have hf1 := hrow.frozen ss.length
  have hx0 : (0 : Int) ≤ (ss.length : Int) := Int.natCast_nonneg _
  have hrow2 := hrow.set ss.length (.string beyondB)
  have hs2 := set_last (cs := ss.map Value.string) (u := .string beyondB) hd
  rw [List.length_map] at hs2 hrow2
  rw [hs2] at hrow2
  have HRow : Hid (RowIs (W1.setCell ⟨w.heap.size, ss.length, none⟩ (.string beyondB)) w.heap.size 9 (ss.map .string ++ [.string beyondB])) := hrow2
  clear hrow2 hs2 hrow hd
  go_enter Try.func25, Try.ntmps25
  go_wp2_with (at_builtin; refine wpList_copy_run _ rfl _ _ _ _ rfl _ _ rfl rfl hcp ?_)
  go_ret
  exact ⟨_, rfl, Nat.le_refl _, HRow.out, hbel.setCell (Nat.le_refl _) _⟩
end Go.Proofs.Ytkkekopomiehlaa
