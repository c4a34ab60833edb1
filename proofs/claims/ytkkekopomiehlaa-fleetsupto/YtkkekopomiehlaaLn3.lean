import Derived.Test.YtkkekopomiehlaaLn2
import Derived.Deep.RegionHeld3
set_option linter.unusedVariables false
set_option linter.unusedSimpArgs false
set_option maxRecDepth 4000
namespace Go.Proofs.Ytkkekopomiehlaa
open Go.RowKit

theorem Try.infoRelL : (Try.prog.info? 68).map (fun i => (i.zero, i.size, i.bytes)) = some (some (.agg #[.slice none 0 0]), 1, 24) := by kernel_rfl
theorem RowIs.setOther {w : World} {g : Nat} {t : TypeId} {cs : List Value} (h : RowIs w g t cs) {p : Addr} (hp : p.block ≠ g) (u : Value) : RowIs (w.setCell p u) g t cs := by
  unfold RowIs at h ⊢
  rw [← h]
  exact heap_setCell_other w p g u hp.symm
def spare3 : List Value := [.int .i64 (-7), .int .i64 (-7), .int .i64 (-7)]
/-- Pins as they are lent. -/
def LPin (w : World) (B : Nat) (v : Value) (ps : List PinD) : Prop := ∃ g, v = .slice (some ⟨g, 0, none⟩) ps.length (ps.length + 1) ∧ B ≤ g ∧ RowIs w g 92 (pinC ps ++ spare3)
theorem LPin.keep {w w' : World} (hb : Below w.heap.size w w') {B : Nat} {v : Value} {ps : List PinD} (h : LPin w B v ps) : LPin w' B v ps := by
  obtain ⟨g, h1, h2, h3⟩ := h
  exact ⟨g, h1, h2, h3.keep hb⟩
theorem LPin.setOther {w : World} {B : Nat} {v : Value} {ps : List PinD} (h : LPin w B v ps) {p : Addr} (hp : p.block < B) (u : Value) : LPin (w.setCell p u) B v ps := by
  obtain ⟨g, h1, h2, h3⟩ := h
  exact ⟨g, h1, h2, h3.setOther (by omega) u⟩
theorem set_mid {d r : List Value} {x v : Value} : (d ++ x :: r).set d.length v = (d ++ [v]) ++ r := by simp
set_option maxHeartbeats 4000000 in
theorem lentReleases_any (rels : List (List PinD)) (w : World) (a : Option Addr) (l cap : Nat) (hp : RelSl PinSl w a l cap rels) :
    Calls Try.prog 54 #[.slice a l cap] w fun e W => ∃ (g g' : Nat) (cs : List Value), e = .returned (.slice (some ⟨g, 0, none⟩) rels.length (rels.length + 1)) ∧ w.heap.size ≤ g ∧ g < g' ∧ cs.length = rels.length ∧ RowIs W g 68 (cs ++ [.slice (some ⟨g', 0, none⟩) 1 1]) ∧ RowIs W g' 92 spare3 ∧
      (∀ (k : Nat) (v : Value) (ps : List PinD), cs[k]? = some v → rels[k]? = some ps → LPin W (g + 1) v ps) ∧ Below w.heap.size w W := by
  obtain ⟨rfl, hl, hlc, hc9, hp⟩ := hp
  obtain ⟨ii, hii, hz0, hzz1, hzz2⟩ := info_parts Try.infoRelL
  have hmk := run_makeSlice (P := Try.prog) (w := w) 62 68 ii _ Try.underlying62 hii hz0 .i64 .i64 ((rels.length : Int) + 1) ((rels.length : Int) + 1) (by omega) (Int.le_refl _) (by rw [hzz1]; omega) (by rw [hzz2]; omega) (by omega)
  obtain ⟨M, hMd⟩ : ∃ M, M = madeCells (.agg #[.slice none 0 0] : Value).cells (((rels.length : Int) + 1).toNat * ii.size) := ⟨_, rfl⟩
  have hM : M.size = rels.length + 1 := by rw [hMd, size_madeCells, hzz1]; omega
  rw [← hMd, show ((rels.length : Int) + 1).toNat = rels.length + 1 by omega] at hmk
  clear hMd
  have hrow0 : RowIs (w.alloc (.cells M 68)) w.heap.size 68 M.toList := by
    unfold RowIs; rw [heap_alloc_new w _]
  have HP := (hidMk hp)
  clear hp
  go_enter Try.func54, Try.ntmps54
  go_wp2_with fail
  go_loopw [4] (fun vi wr => ∃ (i : Nat) (d r : List Value), i ≤ rels.length ∧ vi = .int .i64 i ∧ d.length = i ∧ r.length + i = rels.length + 1 ∧ RowIs wr w.heap.size 68 (d ++ r) ∧ Hid (∀ (k : Nat) (v : Value) (ps : List PinD), d[k]? = some v → rels[k]? = some ps → LPin wr (w.heap.size + 1) v ps) ∧ Below w.heap.size w wr) (fun i _ => rels.length - (intOf i).toNat)
  case atStart => exact ⟨0, [], M.toList, Nat.zero_le _, rfl, rfl, by simp [hM], hrow0, (fun k v ps h => by simp at h), bel1 _ _⟩
  case round =>
    obtain ⟨i, d, r, hi, rfl, hdl, hrl, hrow, hall, hb⟩ := hrel
    rename World => w5
    have hgl := hrow.lt
    by_cases hlt : i < rels.length
    · obtain ⟨ps, hpi⟩ : ∃ ps, rels[i]? = some ps := ⟨rels[i], List.getElem?_eq_getElem hlt⟩
      obtain ⟨b, o, pa, pl, pc, rfl, c0, hps⟩ := HP.out i ps hpi
      have c0 := cell_keep hb c0
      have hbl := lt_of_cell c0
      obtain ⟨p1, p2, p3, p4, p5⟩ := hps
      have hcall := fun (W : World) (h : Below w5.heap.size w5 W) => lentPins_any ps W pa pc p2 (p5.keep (thn3 hb h))
      rw [← p1] at hcall
      obtain ⟨x, r', rfl⟩ : ∃ x r', r = x :: r' := List.exists_cons_of_length_pos (by omega)
      have hcx : w5.cell? ⟨w.heap.size, i, none⟩ = some x := hrow.cell (by rw [List.getElem?_append_right (by omega), hdl, Nat.sub_self]; rfl)
      have hfx := hrow.frozen i
      have hx0 : (0 : Int) ≤ (i : Int) := Int.natCast_nonneg _
      have hx1 : (i : Int) < (rels.length : Int) := by omega
      have hx2 : (i : Int) < (rels.length : Int) + 1 := by omega
      have P1 := (hidMk p1)
      have HRow := (hidMk hrow)
      have HD := (hidMk hdl)
      have HI := (hidMk hpi)
      clear p1 hrow hdl hpi hrow0
      go_wp2_with fail
      (first | go_region_held3 (fun w' => w'.cell? ⟨b, o + i, none⟩ = some (.slice pa pl pc) ∧ w'.cell? ⟨w.heap.size, i, none⟩ = some x ∧ w'.frozen? ⟨w.heap.size, i, none⟩ = false) (go_keep) (first | (go_at_call 86; refine (hcall _ (by first | exact Below.refl _ _ | exact (Below.refl _ _).drew)).mono ?_; rintro e w3 ⟨g3, rfl, hg3, hrow3, hb3⟩; have e1 := cell_keep hb3 c0; have e2 := cell_keep hb3 hcx; have e3 : w3.frozen? ⟨w.heap.size, i, none⟩ = false := (hb3.frozen (p := ⟨w.heap.size, i, none⟩) (by simpa using hgl)).trans hfx)) | (go_at_call 86; refine (hcall _ (by first | exact Below.refl _ _ | exact (Below.refl _ _).drew)).mono ?_; rintro e w3 ⟨g3, rfl, hg3, hrow3, hb3⟩; have e1 := cell_keep hb3 c0; have e2 := cell_keep hb3 hcx; have e3 : w3.frozen? ⟨w.heap.size, i, none⟩ = false := (hb3.frozen (p := ⟨w.heap.size, i, none⟩) (by simpa using hgl)).trans hfx))
      go_wp2_with fail
      go_roundw
      case rel =>
        refine ⟨i + 1, d ++ [.slice (some ⟨g3, 0, none⟩) pl (pl + 1)], r', by omega, by go_num, by rw [List.length_append, HD.out]; rfl, by rw [List.length_cons] at hrl; omega, ?_, ?_, (thn3 hb hb3).setCell (Nat.le_refl _) _⟩
        · have h1 := (HRow.out.keep hb3).set i (.slice (some ⟨g3, 0, none⟩) pl (pl + 1))
          rw [← HD.out, set_mid] at h1
          rw [HD.out] at h1
          exact h1
        · intro k v ps' hk hk2
          by_cases hkd : k < d.length
          · rw [List.getElem?_append_left hkd] at hk
            exact ((hall.out k v ps' hk hk2).keep hb3).setOther (by show w.heap.size < w.heap.size + 1; omega) _
          · have hkl := (List.getElem?_eq_some_iff.1 hk).1
            rw [List.length_append, List.length_singleton] at hkl
            have hke : k = d.length := by omega
            rw [hke, List.getElem?_append_right (Nat.le_refl _), Nat.sub_self] at hk
            simp at hk
            rw [hke, HD.out, HI.out] at hk2
            cases hk2
            rw [← hk, P1.out]
            exact ⟨g3, rfl, by omega, hrow3.setOther (by show w.heap.size ≠ g3; omega) _⟩
      case measure => simp [intOf]; omega
    · have hie : i = rels.length := by omega
      obtain ⟨x, rfl⟩ : ∃ x, r = [x] := List.length_eq_one_iff.1 (by omega)
      have hcx : w5.cell? ⟨w.heap.size, rels.length, none⟩ = some x := hrow.cell (by rw [List.getElem?_append_right (by omega), hdl, hie, Nat.sub_self]; rfl)
      have hfx := hrow.frozen rels.length
      have hx0 : (0 : Int) ≤ (rels.length : Int) := Int.natCast_nonneg _
      have HRow := (hidMk hrow)
      have HD : Hid (d.length = rels.length) := by show _ = _; omega
      clear hrow hdl hrow0 hie hrl
      go_wp2_with fail
      go_ret
      refine ⟨w.heap.size, w5.heap.size, d, rfl, Nat.le_refl _, hgl, HD.out, ?_, ?_, ?_, Below.alloc' (hb.setCell (Nat.le_refl _) _) _⟩
      · have h1 := HRow.out.set rels.length (.slice (some ⟨w5.heap.size, 0, none⟩) 1 1)
        rw [← HD.out, set_last (d := [x]) rfl] at h1
        rw [HD.out] at h1
        exact h1.keep (bel1 _ _)
      · have hz : (w5.setCell ⟨w.heap.size, rels.length, none⟩ (.slice (some ⟨w5.heap.size, 0, none⟩) 1 1)).heap.size = w5.heap.size := by simp [World.setCell]
        have h1 := heap_alloc_new (w5.setCell ⟨w.heap.size, rels.length, none⟩ (.slice (some ⟨w5.heap.size, 0, none⟩) 1 1)) (.cells #[.int .i64 (-7), .int .i64 (-7), .int .i64 (-7)] 92)
        rw [hz] at h1
        exact h1
      · intro k v ps' hk hk2
        exact ((hall.out k v ps' hk hk2).setOther (by show w.heap.size < w.heap.size + 1; omega) _).keep (bel1 _ _)
end Go.Proofs.Ytkkekopomiehlaa
