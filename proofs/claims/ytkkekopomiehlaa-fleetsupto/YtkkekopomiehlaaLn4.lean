import Derived.Test.YtkkekopomiehlaaLn3
set_option linter.unusedVariables false
set_option linter.unusedSimpArgs false
set_option maxRecDepth 4000
namespace Go.Proofs.Ytkkekopomiehlaa
open Go.RowKit

theorem Try.infoSvcL : (Try.prog.info? 64).map (fun i => (i.zero, i.size, i.bytes)) = some (some (.agg #[.int .i64 0, .int .i64 0, .int .i64 0, .slice none 0 0]), 4, 48) := by kernel_rfl
/-- Releases as they are lent. -/
def LRel (w : World) (B : Nat) (v : Value) (rels : List (List PinD)) : Prop := ∃ (g g' : Nat) (cs : List Value), v = .slice (some ⟨g, 0, none⟩) rels.length (rels.length + 1) ∧ B ≤ g ∧ g < g' ∧ cs.length = rels.length ∧ RowIs w g 68 (cs ++ [.slice (some ⟨g', 0, none⟩) 1 1]) ∧ RowIs w g' 92 spare3 ∧
  ∀ (k : Nat) (v : Value) (ps : List PinD), cs[k]? = some v → rels[k]? = some ps → LPin w (g + 1) v ps
theorem LRel.keep {w w' : World} (hb : Below w.heap.size w w') {B : Nat} {v : Value} {rels : List (List PinD)} (h : LRel w B v rels) : LRel w' B v rels := by
  obtain ⟨g, g', cs, h1, h2, h3, h4, h5, h6, h7⟩ := h
  exact ⟨g, g', cs, h1, h2, h3, h4, h5.keep hb, h6.keep hb, fun k v ps a b => (h7 k v ps a b).keep hb⟩
theorem LRel.setOther {w : World} {B : Nat} {v : Value} {rels : List (List PinD)} (h : LRel w B v rels) {p : Addr} (hp : p.block < B) (u : Value) : LRel (w.setCell p u) B v rels := by
  obtain ⟨g, g', cs, h1, h2, h3, h4, h5, h6, h7⟩ := h
  exact ⟨g, g', cs, h1, h2, h3, h4, h5.setOther (by omega) u, h6.setOther (by omega) u, fun k v ps a b => (h7 k v ps a b).setOther (by omega) u⟩
def svC (D : List (SvcD × Value)) : List Value := D.flatMap fun p => [.int .i64 p.1.size, .int .i64 p.1.now, .int .i64 p.1.want, p.2]
theorem svC_len : ∀ D : List (SvcD × Value), (svC D).length = D.length * 4
  | [] => rfl
  | p :: D => by rw [svC, List.flatMap_cons, List.length_append]; have := svC_len D; rw [svC] at this; rw [this, List.length_cons]; simp; omega
theorem svC_app (D E : List (SvcD × Value)) : svC (D ++ E) = svC D ++ svC E := by simp [svC]
theorem set4 {C r : List Value} {x0 x1 x2 x3 a b c d : Value} : ((((C ++ x0 :: x1 :: x2 :: x3 :: r).set C.length a).set (C.length + 1) b).set (C.length + 2) c).set (C.length + 3) d = (C ++ [a, b, c, d]) ++ r := by simp [List.set_append]
theorem set43 {C r : List Value} {a b c d e : Value} : ((C ++ [a, b, c, d]) ++ r).set (C.length + 3) e = (C ++ [a, b, c, e]) ++ r := by simp [List.set_append]
theorem len4 {r : List Value} (h : 4 ≤ r.length) : ∃ x0 x1 x2 x3 r', r = x0 :: x1 :: x2 :: x3 :: r' := by
  match r, h with
  | x0 :: x1 :: x2 :: x3 :: r', _ => exact ⟨x0, x1, x2, x3, r', rfl⟩
set_option maxHeartbeats 4000000 in
theorem lentServices_any (vs : List SvcD) (w : World) (a : Option Addr) (cap : Nat) (hl : vs.length ≤ 2000000) (hp : SvcsAt (RelSl PinSl) w a vs) :
    Calls Try.prog 27 #[.slice a vs.length cap] w fun e W => ∃ (g : Nat) (D : List (SvcD × Value)), e = .returned (.slice (some ⟨g, 0, none⟩) vs.length (vs.length + 1)) ∧ w.heap.size ≤ g ∧ D.map Prod.fst = vs ∧ RowIs W g 64 (svC D ++ [.int .i64 (-7), .int .i64 (-7), .int .i64 (-7), .slice none 0 0]) ∧
      (∀ p ∈ D, LRel W (g + 1) p.2 p.1.rels) ∧ Below w.heap.size w W := by
  obtain ⟨ii, hii, hz0, hzz1, hzz2⟩ := info_parts Try.infoSvcL
  have hmk := run_makeSlice (P := Try.prog) (w := w) 31 64 ii _ Try.underlying31 hii hz0 .i64 .i64 ((vs.length : Int) + 1) ((vs.length : Int) + 1) (by omega) (Int.le_refl _) (by rw [hzz1]; omega) (by rw [hzz2]; omega) (by omega)
  obtain ⟨M, hMd⟩ : ∃ M, M = madeCells (.agg #[.int .i64 0, .int .i64 0, .int .i64 0, .slice none 0 0] : Value).cells (((vs.length : Int) + 1).toNat * ii.size) := ⟨_, rfl⟩
  have hM : M.size = (vs.length + 1) * 4 := by rw [hMd, size_madeCells, hzz1]; omega
  rw [← hMd, show ((vs.length : Int) + 1).toNat = vs.length + 1 by omega] at hmk
  clear hMd
  have hrow0 : RowIs (w.alloc (.cells M 64)) w.heap.size 64 M.toList := by
    unfold RowIs; rw [heap_alloc_new w _]
  have HP := (hidMk hp)
  clear hp
  go_enter Try.func27, Try.ntmps27
  go_wp2_with fail
  go_loopw [4] (fun vi wr => ∃ (i : Nat) (D : List (SvcD × Value)) (r : List Value), i ≤ vs.length ∧ vi = .int .i64 i ∧ Hid (D.map Prod.fst = vs.take i) ∧ r.length + i * 4 = (vs.length + 1) * 4 ∧ RowIs wr w.heap.size 64 (svC D ++ r) ∧ Hid (∀ p ∈ D, LRel wr (w.heap.size + 1) p.2 p.1.rels) ∧ Below w.heap.size w wr) (fun i _ => vs.length - (intOf i).toNat)
  case atStart => exact ⟨0, [], M.toList, Nat.zero_le _, rfl, (by show _ = _; rfl), by simp [hM], hrow0, (fun p h => by simp at h), bel1 _ _⟩
  case round =>
    obtain ⟨i, D, r, hi, rfl, hD, hrl, hrow, hall, hb⟩ := hrel
    rename World => w5
    have hgl := hrow.lt
    have hDl : D.length = i := by have := congrArg List.length hD.out; rw [List.length_map, List.length_take] at this; omega
    have hCl := svC_len D
    rw [hDl] at hCl
    by_cases hlt : i < vs.length
    · obtain ⟨v, hvi⟩ : ∃ v, vs[i]? = some v := ⟨vs[i], List.getElem?_eq_getElem hlt⟩
      obtain ⟨b, o, ra, rl, rc, rfl, d0, d1, d2, d3, hrs⟩ := HP.out i v hvi
      have c0 := cell_keep hb d0
      have c1 := cell_keep hb d1
      have c2 := cell_keep hb d2
      have c3 := cell_keep hb d3
      have hbl := lt_of_cell d0
      have hbl5 := lt_of_cell c0
      have hne : b ≠ w.heap.size := by omega
      have hcall := fun (W : World) (h : Below w.heap.size w W) => lentReleases_any v.rels W ra rl rc (RelSl.keepP h hrs)
      obtain ⟨x0, x1, x2, x3, r', rfl⟩ := len4 (r := r) (by omega)
      have q0 : w5.cell? ⟨w.heap.size, i * 4, none⟩ = some x0 := hrow.cell (by rw [List.getElem?_append_right (by omega), hCl, show i * 4 - i * 4 = 0 by omega]; rfl)
      have q1 : w5.cell? ⟨w.heap.size, i * 4 + 1, none⟩ = some x1 := hrow.cell (by rw [List.getElem?_append_right (by omega), hCl, show i * 4 + 1 - i * 4 = 1 by omega]; rfl)
      have q2 : w5.cell? ⟨w.heap.size, i * 4 + 2, none⟩ = some x2 := hrow.cell (by rw [List.getElem?_append_right (by omega), hCl, show i * 4 + 2 - i * 4 = 2 by omega]; rfl)
      have q3 : w5.cell? ⟨w.heap.size, i * 4 + 3, none⟩ = some x3 := hrow.cell (by rw [List.getElem?_append_right (by omega), hCl, show i * 4 + 3 - i * 4 = 3 by omega]; rfl)
      have z0 := hrow.frozen (i * 4)
      have z1 := hrow.frozen (i * 4 + 1)
      have z2 := hrow.frozen (i * 4 + 2)
      have z3 := hrow.frozen (i * 4 + 3)
      have hx0 : (0 : Int) ≤ (i : Int) := Int.natCast_nonneg _
      have hx1 : (i : Int) < (vs.length : Int) := by omega
      have hx2 : (i : Int) < (vs.length : Int) + 1 := by omega
      have HRow := (hidMk hrow)
      have HV := (hidMk hvi)
      have HC := (hidMk hCl)
      have HDl := (hidMk hDl)
      clear hrow hvi hCl hDl hrow0 d0 d1 d2 d3
      obtain ⟨sz, nw, wn, rels⟩ := v
      simp only at c0 c1 c2 c3 hcall
      have hW6 : Below w.heap.size w ((((w5.setCell ⟨w.heap.size, i * 4, none⟩ (.int .i64 sz)).setCell ⟨w.heap.size, i * 4 + 1, none⟩ (.int .i64 nw)).setCell ⟨w.heap.size, i * 4 + 2, none⟩ (.int .i64 wn)).setCell ⟨w.heap.size, i * 4 + 3, none⟩ (.slice ra rl rc)) := (((hb.setCell (Nat.le_refl _) _).setCell (Nat.le_refl _) _).setCell (Nat.le_refl _) _).setCell (Nat.le_refl _) _
      have row6 : RowIs ((((w5.setCell ⟨w.heap.size, i * 4, none⟩ (.int .i64 sz)).setCell ⟨w.heap.size, i * 4 + 1, none⟩ (.int .i64 nw)).setCell ⟨w.heap.size, i * 4 + 2, none⟩ (.int .i64 wn)).setCell ⟨w.heap.size, i * 4 + 3, none⟩ (.slice ra rl rc)) w.heap.size 64 ((svC D ++ [.int .i64 sz, .int .i64 nw, .int .i64 wn, .slice ra rl rc]) ++ r') := by
        have h1 := (((HRow.out.set (i * 4) (.int .i64 sz)).set (i * 4 + 1) (.int .i64 nw)).set (i * 4 + 2) (.int .i64 wn)).set (i * 4 + 3) (.slice ra rl rc)
        rw [← HC.out, set4] at h1
        rw [HC.out] at h1
        exact h1
      have ROW6 := (hidMk row6)
      clear row6
      go_wp2_with (go_at_call 54; refine (hcall _ hW6).mono ?_; rintro e w7 ⟨g7, g7', cs7, rfl, h71, h72, h73, h74, h75, h76, hb7⟩; have H76 := (hidMk h76); clear h76; have e3 : w7.cell? ⟨w.heap.size, i * 4 + 3, none⟩ = some (.slice ra rl rc) := (ROW6.out.keep hb7).cell (by rw [List.getElem?_append_left (by rw [List.length_append, HC.out]; simp), List.getElem?_append_right (by rw [HC.out]; omega), HC.out, show i * 4 + 3 - i * 4 = 3 by omega]; rfl); have z7 := (ROW6.out.keep hb7).frozen (i * 4 + 3))
      go_roundw
      case rel =>
        have hz6 : ((((w5.setCell ⟨w.heap.size, i * 4, none⟩ (.int .i64 sz)).setCell ⟨w.heap.size, i * 4 + 1, none⟩ (.int .i64 nw)).setCell ⟨w.heap.size, i * 4 + 2, none⟩ (.int .i64 wn)).setCell ⟨w.heap.size, i * 4 + 3, none⟩ (.slice ra rl rc)).heap.size = w5.heap.size := by simp [World.setCell]
        refine ⟨i + 1, D ++ [(⟨sz, nw, wn, rels⟩, .slice (some ⟨g7, 0, none⟩) rels.length (rels.length + 1))], r', by omega, by go_num, ?_, by simp only [List.length_cons] at hrl; omega, ?_, ?_, (thn3 hW6 hb7).setCell (Nat.le_refl _) _⟩
        · show _ = _
          rw [List.map_append, hD.out, List.take_add_one, HV.out]; rfl
        · have h1 := (ROW6.out.keep hb7).set (i * 4 + 3) (.slice (some ⟨g7, 0, none⟩) rels.length (rels.length + 1))
          rw [← HC.out, set43] at h1
          rw [HC.out] at h1
          rw [svC_app]
          exact h1
        · intro p hp
          rcases List.mem_append.1 hp with hp | hp
          · refine LRel.setOther (LRel.keep hb7 ?_) (by show w.heap.size < w.heap.size + 1; omega) _
            exact ((((hall.out p hp).setOther (by show w.heap.size < w.heap.size + 1; omega) _).setOther (by show w.heap.size < w.heap.size + 1; omega) _).setOther (by show w.heap.size < w.heap.size + 1; omega) _).setOther (by show w.heap.size < w.heap.size + 1; omega) _
          · rw [List.mem_singleton.1 hp]
            refine LRel.setOther ?_ (by show w.heap.size < w.heap.size + 1; omega) _
            exact ⟨g7, g7', cs7, rfl, by omega, h72, h73, h74, h75, H76.out⟩
      case measure => simp [intOf]; omega
    · have hie : i = vs.length := by omega
      obtain ⟨x0, x1, x2, x3, r', rfl⟩ := len4 (r := r) (by omega)
      obtain rfl : r' = [] := List.eq_nil_of_length_eq_zero (by simp only [List.length_cons] at hrl; omega)
      have q0 : w5.cell? ⟨w.heap.size, vs.length * 4, none⟩ = some x0 := hrow.cell (by rw [List.getElem?_append_right (by omega), hCl, show vs.length * 4 - i * 4 = 0 by omega]; rfl)
      have q1 : w5.cell? ⟨w.heap.size, vs.length * 4 + 1, none⟩ = some x1 := hrow.cell (by rw [List.getElem?_append_right (by omega), hCl, show vs.length * 4 + 1 - i * 4 = 1 by omega]; rfl)
      have q2 : w5.cell? ⟨w.heap.size, vs.length * 4 + 2, none⟩ = some x2 := hrow.cell (by rw [List.getElem?_append_right (by omega), hCl, show vs.length * 4 + 2 - i * 4 = 2 by omega]; rfl)
      have q3 : w5.cell? ⟨w.heap.size, vs.length * 4 + 3, none⟩ = some x3 := hrow.cell (by rw [List.getElem?_append_right (by omega), hCl, show vs.length * 4 + 3 - i * 4 = 3 by omega]; rfl)
      have z0 := hrow.frozen (vs.length * 4)
      have z1 := hrow.frozen (vs.length * 4 + 1)
      have z2 := hrow.frozen (vs.length * 4 + 2)
      have z3 := hrow.frozen (vs.length * 4 + 3)
      have hx0 : (0 : Int) ≤ (vs.length : Int) := Int.natCast_nonneg _
      have HRow := (hidMk hrow)
      have HC : Hid ((svC D).length = vs.length * 4) := by show _ = _; omega
      have HDD : Hid (D.map Prod.fst = vs) := by show _ = _; rw [hD.out, List.take_of_length_le (by omega)]
      clear hrow hrow0 hie hrl hCl hDl
      go_wp2_with fail
      go_ret
      refine ⟨w.heap.size, D, rfl, Nat.le_refl _, HDD.out, ?_, ?_, (((hb.setCell (Nat.le_refl _) _).setCell (Nat.le_refl _) _).setCell (Nat.le_refl _) _).setCell (Nat.le_refl _) _⟩
      · have h1 := (((HRow.out.set (vs.length * 4) (.int .i64 (-7))).set (vs.length * 4 + 1) (.int .i64 (-7))).set (vs.length * 4 + 2) (.int .i64 (-7))).set (vs.length * 4 + 3) (.slice none 0 0)
        rw [← HC.out, set4, List.append_nil] at h1
        rw [HC.out] at h1
        exact h1
      · intro p hp
        exact ((((hall.out p hp).setOther (by show w.heap.size < w.heap.size + 1; omega) _).setOther (by show w.heap.size < w.heap.size + 1; omega) _).setOther (by show w.heap.size < w.heap.size + 1; omega) _).setOther (by show w.heap.size < w.heap.size + 1; omega) _
end Go.Proofs.Ytkkekopomiehlaa
