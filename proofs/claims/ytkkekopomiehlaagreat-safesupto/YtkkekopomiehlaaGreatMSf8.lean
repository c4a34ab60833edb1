import Derived.Test.YtkkekopomiehlaaGreatMSf4
import Derived.Test.YtkkekopomiehlaaGreatMSf1
import Derived.Test.YtkkekopomiehlaaGreatMFl1
set_option linter.unusedVariables false
set_option linter.unusedSimpArgs false
namespace Go.Proofs.YtkkekopomiehlaaGreat
section
set_option maxRecDepth 4000
open Go.RowKit
open Go.Lib (below_setCells)

/-- How many moves are safe, from a situation on. -/
def sfN (c : ChD) : SiD → List (Int × Int) → Nat
  | _, [] => 0
  | s, m :: ms => if sfB c s (plI m.1 m.2) = true then sfN c (aft s (plI m.1 m.2)) ms + 1 else 0
theorem sfN_le (c : ChD) : ∀ (ms : List (Int × Int)) (s : SiD), sfN c s ms ≤ ms.length
  | [], s => Nat.le_refl _
  | m :: ms, s => by
    rw [sfN]
    split
    · have := sfN_le c ms (aft s (plI m.1 m.2)); rw [List.length_cons]; omega
    · exact Nat.zero_le _
set_option maxHeartbeats 4000000 in
theorem SafeMoves_any (c : ChD) (hc : c.ok) (ms : List (Int × Int)) (w : World) (a : Option Addr) (cap : Nat) (hl : ms.length ≤ 200) (hp : MovesAt w a ms) :
    Calls Tryz.prog 24 #[.agg c.cells.toArray, .slice a ms.length cap] w fun e W => e = .returned (.int .i64 (sfN c (begD c) ms : Nat)) ∧ Below w.heap.size w W := by
  have hq1 := range_row (heap_box w (.cells c.cells.toArray 52))
  have ic : (Tryz.prog.info? 52).map (·.size) = some c.cells.length := by rw [hc.len]; exact Tryz.infoCht
  have hbeg := fun w => begin_any c hc w
  obtain ⟨b1, b2, b3⟩ := sit_info (begD_ok hc)
  have hlen := (begD_ok hc).len
  obtain ⟨R, hR⟩ : ∃ R, R = sfN c (begD c) ms := ⟨_, rfl⟩
  rw [← hR]
  have HR : Hid (R = 0 + sfN c (begD c) (ms.drop 0)) := by show _ = _; rw [Nat.zero_add]; exact hR
  have HP := (hidMk hp)
  have HO := (hidMk (begD_ok hc))
  have HCC := (hidMk hc)
  have HLN := (hidMk hlen)
  have hmv := fun s p (hs : SiD.ok s) w => isSafe_any c s p hc hs w
  clear hR hp hc hlen
  go_enter Tryz.func24, Tryz.ntmps24
  go_wp2_with (first
    | (refine wpList_load_mid (w := w.alloc (.cells c.cells.toArray 52)) rfl 52 _ rfl w.heap.size 0 rfl c.cells _ hq1 Tryz.underlying52 rfl ic ?_)
    | (go_at_call 48; refine (hbeg _).mono ?_; rintro e w1 ⟨rfl, hb1⟩; have ht1 : (w1.alloc (.cells #[.bool false, .bool false, .bool false, .bool false, .bool false, .bool false, .bool false, .bool false, .bool false, .bool false, .bool false, .bool false, .bool false, .bool false, .bool false, .bool false, .bool false, .bool false] 106)).there w1.heap.size 0 (begD c).cells.toArray.size := by (rw [show (begD c).cells.toArray.size = 18 by simpa using HLN.out]; exact there_row (heap_box w1 (.cells #[.bool false, .bool false, .bool false, .bool false, .bool false, .bool false, .bool false, .bool false, .bool false, .bool false, .bool false, .bool false, .bool false, .bool false, .bool false, .bool false, .bool false, .bool false] 106))))
    | (refine wpList_store_mid (w := w1.alloc (.cells #[.bool false, .bool false, .bool false, .bool false, .bool false, .bool false, .bool false, .bool false, .bool false, .bool false, .bool false, .bool false, .bool false, .bool false, .bool false, .bool false, .bool false, .bool false] 106)) rfl 106 _ _ rfl w1.heap.size 0 (begD c).cells.toArray rfl rfl ht1 b2 b3 ?_))
  have hB1 : Below w.heap.size w w1 := thn3 (belS w _) hb1
  have hBA : Below w1.heap.size w1 (w1.alloc (.cells #[.bool false, .bool false, .bool false, .bool false, .bool false, .bool false, .bool false, .bool false, .bool false, .bool false, .bool false, .bool false, .bool false, .bool false, .bool false, .bool false, .bool false, .bool false] 106)) := belS _ _
  have rs0 := World.rangeAt_setCells_same (w1.alloc (.cells #[.bool false, .bool false, .bool false, .bool false, .bool false, .bool false, .bool false, .bool false, .bool false, .bool false, .bool false, .bool false, .bool false, .bool false, .bool false, .bool false, .bool false, .bool false] 106)) w1.heap.size 0 (begD c).cells (by simpa using ht1)
  have rt0 : ((w1.alloc (.cells #[.bool false, .bool false, .bool false, .bool false, .bool false, .bool false, .bool false, .bool false, .bool false, .bool false, .bool false, .bool false, .bool false, .bool false, .bool false, .bool false, .bool false, .bool false] 106)).setCells w1.heap.size 0 (begD c).cells).there w1.heap.size 0 18 := World.there_setCells (there_row (heap_box w1 (.cells #[.bool false, .bool false, .bool false, .bool false, .bool false, .bool false, .bool false, .bool false, .bool false, .bool false, .bool false, .bool false, .bool false, .bool false, .bool false, .bool false, .bool false, .bool false] 106))) _ _ _
  have rc0 : ((w1.alloc (.cells #[.bool false, .bool false, .bool false, .bool false, .bool false, .bool false, .bool false, .bool false, .bool false, .bool false, .bool false, .bool false, .bool false, .bool false, .bool false, .bool false, .bool false, .bool false] 106)).setCells w1.heap.size 0 (begD c).cells).rangeAt w.heap.size 0 c.cells := World.rangeAt_setCells_apart (range_keep hBA (range_keep hb1 hq1)) _ _ _ (.inl (by have := hb1.size; simp at this; omega))
  have hB2 : Below w1.heap.size w1 ((w1.alloc (.cells #[.bool false, .bool false, .bool false, .bool false, .bool false, .bool false, .bool false, .bool false, .bool false, .bool false, .bool false, .bool false, .bool false, .bool false, .bool false, .bool false, .bool false, .bool false] 106)).setCells w1.heap.size 0 (begD c).cells) := below_setCells w1.heap.size (Nat.le_refl _) _ _ hBA
  go_loopw [13] (fun vi wr => ∃ (i : Nat) (s : SiD), i ≤ ms.length ∧ vi = .int .i64 i ∧ s.ok ∧ Hid (R = i + sfN c s (ms.drop i)) ∧ wr.rangeAt w1.heap.size 0 s.cells ∧ wr.there w1.heap.size 0 18 ∧ wr.rangeAt w.heap.size 0 c.cells ∧ Below w1.heap.size w1 wr) (fun i _ => ms.length - (intOf i).toNat)
  case atStart => exact ⟨0, begD c, Nat.zero_le _, rfl, HO.out, HR, rs0, rt0, rc0, hB2⟩
  case round =>
    obtain ⟨i, s, hi, rfl, hso, hr, rs, rt, rc, hb⟩ := hrel
    rename World => w5
    have hbw := thn3 hB1 hb
    by_cases hlt : i < ms.length
    · obtain ⟨m, hmi⟩ : ∃ m, ms[i]? = some m := ⟨ms[i], List.getElem?_eq_getElem hlt⟩
      have hdrop : ms.drop i = m :: ms.drop (i + 1) := by
        rw [List.drop_eq_getElem_cons hlt]; rw [List.getElem?_eq_getElem hlt] at hmi; simp at hmi; rw [hmi]
      obtain ⟨b, o, rfl, d0, d1⟩ := HP.out i m hmi
      have d0 := cell_keep hbw d0
      have d1 := cell_keep hbw d1
      have hbl := lt_of_cell d0
      have hst : R = i + (if sfB c s (plI m.1 m.2) = true then sfN c (aft s (plI m.1 m.2)) (ms.drop (i + 1)) + 1 else 0) := by rw [hr.out, hdrop, sfN]
      obtain ⟨x, y⟩ := m
      simp only at d0 d1 hst
      have hpl := fun w => flPlace_any x y w
      have hmv1 := fun w => hmv s (plI x y) hso w
      have haf := fun w => after_any s (plI x y) hso w
      have hao := aft_ok hso (plI x y)
      obtain ⟨s1, s2, s3⟩ := sit_info hso
      obtain ⟨q1, q2, q3⟩ := sit_info hao
      have hx0 : (0 : Int) ≤ (i : Int) := Int.natCast_nonneg _
      have hx1 : (i : Int) < (ms.length : Int) := by omega
      generalize plI x y = p at hpl hmv1 haf hst hao q1 q2 q3
      have HAo := (hidMk hao)
      have HAl := (hidMk hao.len)
      generalize sfB c s p = t at hmv1 hst
      clear hmi hdrop hr hmv hao
      cases t with
      | false =>
        have hR1 : R = i := by simpa using hst
        clear hst haf
        subst hR1
        go_wp2_with (first
          | (go_at_call 45; refine (hpl _).mono ?_; rintro e w2 ⟨rfl, hb2⟩; have rs2 := range_keep hb2 (range_keep (belS _ _) rs); have rc2 := range_keep hb2 (range_keep (belS _ _) rc))
          | (go_at_call 52; refine (hmv1 _).mono ?_; rintro e w3 ⟨rfl, hb3⟩)
          | (refine wpList_load_mid (w := w2) rfl 52 _ rfl w.heap.size 0 rfl c.cells _ rc2 Tryz.underlying52 rfl ic ?_)
          | (refine wpList_load_mid (w := w2) rfl 106 _ rfl w1.heap.size 0 rfl s.cells _ rs2 Tryz.underlying106 rfl s1 ?_))
        go_ret
        exact ⟨rfl, thn3 (thn3 (thn3 hbw (belS _ _)) hb2) hb3⟩
      | true =>
        have hst' : Hid (R = i + 1 + sfN c (aft s p) (ms.drop (i + 1))) := by show _ = _; rw [hst, if_pos rfl]; omega
        clear hst
        go_wp2_with (first
          | (go_at_call 45; refine (hpl _).mono ?_; rintro e w2 ⟨rfl, hb2⟩; have rs2 := range_keep hb2 (range_keep (belS _ _) rs); have rc2 := range_keep hb2 (range_keep (belS _ _) rc); have rt2 := there_keep hb2 (there_keep (belS _ _) rt))
          | (go_at_call 52; refine (hmv1 _).mono ?_; rintro e w3 ⟨rfl, hb3⟩; have rs3 := range_keep hb3 rs2; have rc3 := range_keep hb3 rc2; have rt3 := there_keep hb3 rt2)
          | (go_at_call 50; refine (haf _).mono ?_; rintro e w4 ⟨rfl, hb4⟩; have rc4 := range_keep hb4 rc3; have rt4 := there_keep hb4 rt3; have rt4' : w4.there w1.heap.size 0 (aft s p).cells.toArray.size := by (rw [show (aft s p).cells.toArray.size = 18 by simpa using HAl.out]; exact rt4))
          | (have hq := hb4; refine wpList_store_mid (w := w4) rfl 106 _ _ rfl w1.heap.size 0 (aft s p).cells.toArray rfl rfl rt4' q2 q3 ?_)
          | (have hq := hb3; (refine wpList_load_mid (w := w3) rfl 106 _ rfl w1.heap.size 0 rfl s.cells _ rs3 Tryz.underlying106 rfl s1 ?_))
          | (refine wpList_load_mid (w := w2) rfl 52 _ rfl w.heap.size 0 rfl c.cells _ rc2 Tryz.underlying52 rfl ic ?_)
          | (refine wpList_load_mid (w := w2) rfl 106 _ rfl w1.heap.size 0 rfl s.cells _ rs2 Tryz.underlying106 rfl s1 ?_))
        go_roundw
        case rel =>
          have h4 := thn3 (thn3 (thn3 (thn3 hb (belS _ _)) hb2) hb3) hb4
          exact ⟨i + 1, aft s p, by omega, by go_num, HAo.out, hst', World.rangeAt_setCells_same _ _ _ _ (by simpa using rt4'), World.there_setCells rt4 _ _ _, World.rangeAt_setCells_apart rc4 _ _ _ (.inl (by have := hb1.size; simp at this; omega)), below_setCells w1.heap.size (Nat.le_refl _) _ _ h4⟩
        case measure => simp [intOf]; omega
    · have hR1 : R = ms.length := by rw [hr.out, List.drop_of_length_le (by omega), sfN]; omega
      clear hr HR
      subst hR1
      go_wp2_with fail
      go_ret
      exact ⟨rfl, hbw⟩
end
section
set_option maxRecDepth 4000
open Go.RowKit

def sndB (c : ChD) : Bool := (List.range 9).all fun i => !(c.fst.getD i false) || algB c.fst (c.alg.getD i [])
set_option maxHeartbeats 4000000 in
theorem Sound_any (c : ChD) (hc : c.ok) (w : World) : Calls Tryz.prog 23 #[.agg c.cells.toArray] w fun e W => e = .returned (.bool (sndB c)) ∧ Below w.heap.size w W := by
  have hq1 := range_row (heap_box w (.cells c.cells.toArray 52))
  have r1 := range_part (k := 9) (ds := c.fst.map Value.bool) hq1 (fun j v hj => by
      rw [List.getElem?_map] at hj
      obtain ⟨b, hb, rfl⟩ := Option.map_eq_some_iff.1 hj
      rw [ChD.cells, List.getElem?_map, hc.get_fst hb]; rfl)
  rw [Nat.zero_add] at r1
  have i1 : (Tryz.prog.info? 49).map (·.size) = some (c.fst.map Value.bool).length := by rw [List.length_map, hc.fst]; exact Tryz.infoSet
  obtain ⟨R, hR⟩ : ∃ R, R = sndB c := ⟨_, rfl⟩
  rw [← hR]
  have HR : Hid (R = (List.range 9).all fun i => !(c.fst.getD i false) || algB c.fst (c.alg.getD i [])) := hR
  have HC := ((show Hid (ChD.ok c) from hc))
  clear hR hc
  go_enter Tryz.func23, Tryz.ntmps23
  go_wp2_with (refine wpList_load_mid (w := w.alloc (.cells c.cells.toArray 52)) rfl 49 _ rfl w.heap.size 9 rfl (c.fst.map Value.bool) _ r1 Tryz.underlying49 rfl i1 ?_)
  go_loopw [7] (fun vi wr => ∃ i : Nat, i ≤ 9 ∧ vi = .int .i64 i ∧ Hid ((List.range i).all (fun i => !(c.fst.getD i false) || algB c.fst (c.alg.getD i [])) = true) ∧ Below (w.alloc (.cells c.cells.toArray 52)).heap.size (w.alloc (.cells c.cells.toArray 52)) wr) (fun i _ => 9 - (intOf i).toNat)
  case atStart => exact ⟨0, by omega, rfl, (by show _ = _; rfl), Below.refl _ _⟩
  case round =>
    obtain ⟨i, hi9, rfl, hn, hb⟩ := hrel
    have hbw := thn3 (belS w _) hb
    by_cases hlt : i < 9
    · have hc := HC.out
      obtain ⟨x, hx⟩ : ∃ x, c.fst[i]? = some x := ⟨c.fst[i]'(by rw [hc.fst]; omega), List.getElem?_eq_getElem (by rw [hc.fst]; omega)⟩
      obtain ⟨ra, hra⟩ : ∃ r, c.alg[i]? = some r := ⟨c.alg[i]'(by rw [hc.alg]; omega), List.getElem?_eq_getElem (by rw [hc.alg]; omega)⟩
      have la := hc.algr ra (List.mem_of_getElem? hra)
      have q1 := range_keep hb r1
      have q2 := range_part (k := 27 + i * 9) (ds := ra.map Value.bool) (range_keep hb hq1) (fun j v hj => by
        rw [List.getElem?_map] at hj
        obtain ⟨b, hb, rfl⟩ := Option.map_eq_some_iff.1 hj
        rw [ChD.cells, List.getElem?_map, hc.get_alg hra hb]; rfl)
      rw [Nat.zero_add] at q2
      have a1 := fun W => allAlong_any c.fst ra hc.fst la W
      have i2 : (Tryz.prog.info? 49).map (·.size) = some (ra.map Value.bool).length := by rw [List.length_map, la]; exact Tryz.infoSet
      have hidx := fun W => run_index_arr (P := Tryz.prog) (w := W) 49 4 .bool 9 (c.fst.map Value.bool).toArray .i64 i Tryz.underlying49 Tryz.infoBool Tryz.underlying4 (fun _ h => by cases h) (fun _ _ h => by cases h) hlt (.bool x) (by simp [hx])
      have hFx : (!(c.fst.getD i false) || algB c.fst (c.alg.getD i [])) = (!x || algB c.fst ra) := by simp [List.getD, hx, hra]
      generalize algB c.fst ra = y at a1 hFx
      have hno : (!x || y) = false → R = false := fun h => by rw [HR.out]; exact all_rng_no hlt (by rw [hFx]; exact h)
      have hyes : (!x || y) = true → Hid ((List.range (i + 1)).all (fun i => !(c.fst.getD i false) || algB c.fst (c.alg.getD i [])) = true) := fun h => by show _ = _; rw [all_rng, hn.out, hFx, h]; rfl
      have hx0 : (0 : Int) ≤ (i : Int) := Int.natCast_nonneg _
      have hx1 : (i : Int) < 9 := by omega
      clear hFx hn hx hra hq1 HR r1 hc
      cases x with
      | true =>
        cases y with
        | true =>
          have hy' := hyes rfl
          clear hno hyes
          go_wp2_with fail
          refine wp_region_held_drew (S := (fun w' => w'.rangeAt w.heap.size 9 (c.fst.map Value.bool) ∧ w'.rangeAt w.heap.size (27 + i * 9) (ra.map Value.bool))) (by kernel_rfl) ⟨q1, q2⟩ (fun hH => ?_)
          refine wpAnyH_take (i := 0) (v := ?_) rfl (by kernel_rfl) (by kernel_rfl) (by kernel_rfl) (fun _ _ _ h => h) (Or.inl ⟨by rfl, ?_⟩) hH ?_
          rotate_left
          · intro w' hS'; (try dsimp only at hS'); go_simp <;> (try with_reducible rfl)
          simp only [Act.put, List.setIfInBounds_toArray, List.set_cons_zero, List.set_cons_succ, List.getElem_toArray, List.getElem_cons_zero, List.getElem_cons_succ]
          refine wpAnyH_take (i := 1) (v := ?_) rfl (by kernel_rfl) (by kernel_rfl) (by kernel_rfl) (fun _ _ _ h => h) (Or.inl ⟨by rfl, ?_⟩) hH ?_
          rotate_left
          · intro w' hS'; (try dsimp only at hS'); go_simp <;> (try with_reducible rfl)
          simp only [Act.put, List.setIfInBounds_toArray, List.set_cons_zero, List.set_cons_succ, List.getElem_toArray, List.getElem_cons_zero, List.getElem_cons_succ]
          refine wpAnyH_take (i := 2) (v := ?_) rfl (by kernel_rfl) (by kernel_rfl) (by kernel_rfl) (fun _ _ _ h => h) (Or.inl ⟨by rfl, ?_⟩) hH ?_
          rotate_left
          · intro w' hS'; (try dsimp only at hS'); go_simp <;> (try with_reducible rfl)
          simp only [Act.put, List.setIfInBounds_toArray, List.set_cons_zero, List.set_cons_succ, List.getElem_toArray, List.getElem_cons_zero, List.getElem_cons_succ]
          refine wpAnyH_take (i := 3) (v := .agg (c.fst.map Value.bool).toArray) rfl (by kernel_rfl) (by kernel_rfl) (by kernel_rfl) (fun _ _ _ h => h) (yieldsIf_load_mid (by rfl) _ _ rfl _ _ rfl _ _ (fun w' h => h.1) Tryz.underlying49 rfl i1) hH ?_
          simp only [Act.put, List.setIfInBounds_toArray, List.set_cons_zero, List.set_cons_succ, List.getElem_toArray, List.getElem_cons_zero, List.getElem_cons_succ]
          refine wpAnyH_take (i := 4) (v := ?_) rfl (by kernel_rfl) (by kernel_rfl) (by kernel_rfl) (fun _ _ _ h => h) (Or.inl ⟨by rfl, ?_⟩) hH ?_
          rotate_left
          · intro w' hS'; (try dsimp only at hS'); go_simp <;> (try with_reducible rfl)
          simp only [Act.put, List.setIfInBounds_toArray, List.set_cons_zero, List.set_cons_succ, List.getElem_toArray, List.getElem_cons_zero, List.getElem_cons_succ]
          refine wpAnyH_take (i := 5) (v := ?_) rfl (by kernel_rfl) (by kernel_rfl) (by kernel_rfl) (fun _ _ _ h => h) (Or.inl ⟨by rfl, ?_⟩) hH ?_
          rotate_left
          · intro w' hS'; (try dsimp only at hS'); go_simp <;> (try with_reducible rfl)
          simp only [Act.put, List.setIfInBounds_toArray, List.set_cons_zero, List.set_cons_succ, List.getElem_toArray, List.getElem_cons_zero, List.getElem_cons_succ]
          refine wpAnyH_take (i := 6) (v := ?_) rfl (by kernel_rfl) (by kernel_rfl) (by kernel_rfl) (fun _ _ _ h => h) (Or.inl ⟨by rfl, ?_⟩) hH ?_
          rotate_left
          · intro w' hS'; (try dsimp only at hS'); go_simp <;> (try with_reducible rfl)
          simp only [Act.put, List.setIfInBounds_toArray, List.set_cons_zero, List.set_cons_succ, List.getElem_toArray, List.getElem_cons_zero, List.getElem_cons_succ]
          refine wpAnyH_take (i := 7) (v := .agg (ra.map Value.bool).toArray) rfl (by kernel_rfl) (by kernel_rfl) (by kernel_rfl) (fun _ _ _ h => h) (yieldsIf_load_mid (by rfl) _ _ rfl _ _ rfl _ _ (fun w' h => h.2) Tryz.underlying49 rfl i2) hH ?_
          simp only [Act.put, List.setIfInBounds_toArray, List.set_cons_zero, List.set_cons_succ, List.getElem_toArray, List.getElem_cons_zero, List.getElem_cons_succ]
          refine wpAnyH_ready (rs := [8]) (by kernel_rfl) (by simp) ?_
          refine AllReadyH.cons rfl (fun K hK => ?_) AllReadyH.nil
          go_simp
          refine (a1 _).mono ?_
          rintro e w1 ⟨rfl, hb1⟩
          go_wp2_with fail
          refine hK.out _ _ ⟨range_keep hb1 hH.1, range_keep hb1 hH.2⟩ (fun hH2 => ?_)
          clear hK K
          replace hH := hH2
          (try simp only [Act.put, List.setIfInBounds_toArray, List.set_cons_zero, List.set_cons_succ, List.getElem_toArray, List.getElem_cons_zero, List.getElem_cons_succ])
          refine wpAnyH_take (i := 9) (v := ?_) rfl (by kernel_rfl) (by kernel_rfl) (by kernel_rfl) (fun _ _ _ h => h) (Or.inl ⟨by rfl, ?_⟩) hH ?_
          rotate_left
          · intro w' hS'; (try dsimp only at hS'); go_simp <;> (try with_reducible rfl)
          simp only [Act.put, List.setIfInBounds_toArray, List.set_cons_zero, List.set_cons_succ, List.getElem_toArray, List.getElem_cons_zero, List.getElem_cons_succ]
          refine wpAnyH_take (i := 10) (v := ?_) rfl (by kernel_rfl) (by kernel_rfl) (by kernel_rfl) (fun _ _ _ h => h) (Or.inl ⟨by rfl, ?_⟩) hH ?_
          rotate_left
          · intro w' hS'; (try dsimp only at hS'); go_simp <;> (try with_reducible rfl)
          simp only [Act.put, List.setIfInBounds_toArray, List.set_cons_zero, List.set_cons_succ, List.getElem_toArray, List.getElem_cons_zero, List.getElem_cons_succ]
          refine wpAnyH_done (by kernel_rfl) ?_ _
          go_wp2_with fail
          go_roundw
          case rel => exact ⟨i + 1, by omega, by go_num, hy', thn3 hb.drew hb1⟩
          case measure => simp [intOf]; omega
        | false =>
          have hR1 := hno rfl
          clear hno hyes
          subst hR1
          go_wp2_with fail
          refine wp_region_held_drew (S := (fun w' => w'.rangeAt w.heap.size 9 (c.fst.map Value.bool) ∧ w'.rangeAt w.heap.size (27 + i * 9) (ra.map Value.bool))) (by kernel_rfl) ⟨q1, q2⟩ (fun hH => ?_)
          refine wpAnyH_take (i := 0) (v := ?_) rfl (by kernel_rfl) (by kernel_rfl) (by kernel_rfl) (fun _ _ _ h => h) (Or.inl ⟨by rfl, ?_⟩) hH ?_
          rotate_left
          · intro w' hS'; (try dsimp only at hS'); go_simp <;> (try with_reducible rfl)
          simp only [Act.put, List.setIfInBounds_toArray, List.set_cons_zero, List.set_cons_succ, List.getElem_toArray, List.getElem_cons_zero, List.getElem_cons_succ]
          refine wpAnyH_take (i := 1) (v := ?_) rfl (by kernel_rfl) (by kernel_rfl) (by kernel_rfl) (fun _ _ _ h => h) (Or.inl ⟨by rfl, ?_⟩) hH ?_
          rotate_left
          · intro w' hS'; (try dsimp only at hS'); go_simp <;> (try with_reducible rfl)
          simp only [Act.put, List.setIfInBounds_toArray, List.set_cons_zero, List.set_cons_succ, List.getElem_toArray, List.getElem_cons_zero, List.getElem_cons_succ]
          refine wpAnyH_take (i := 2) (v := ?_) rfl (by kernel_rfl) (by kernel_rfl) (by kernel_rfl) (fun _ _ _ h => h) (Or.inl ⟨by rfl, ?_⟩) hH ?_
          rotate_left
          · intro w' hS'; (try dsimp only at hS'); go_simp <;> (try with_reducible rfl)
          simp only [Act.put, List.setIfInBounds_toArray, List.set_cons_zero, List.set_cons_succ, List.getElem_toArray, List.getElem_cons_zero, List.getElem_cons_succ]
          refine wpAnyH_take (i := 3) (v := .agg (c.fst.map Value.bool).toArray) rfl (by kernel_rfl) (by kernel_rfl) (by kernel_rfl) (fun _ _ _ h => h) (yieldsIf_load_mid (by rfl) _ _ rfl _ _ rfl _ _ (fun w' h => h.1) Tryz.underlying49 rfl i1) hH ?_
          simp only [Act.put, List.setIfInBounds_toArray, List.set_cons_zero, List.set_cons_succ, List.getElem_toArray, List.getElem_cons_zero, List.getElem_cons_succ]
          refine wpAnyH_take (i := 4) (v := ?_) rfl (by kernel_rfl) (by kernel_rfl) (by kernel_rfl) (fun _ _ _ h => h) (Or.inl ⟨by rfl, ?_⟩) hH ?_
          rotate_left
          · intro w' hS'; (try dsimp only at hS'); go_simp <;> (try with_reducible rfl)
          simp only [Act.put, List.setIfInBounds_toArray, List.set_cons_zero, List.set_cons_succ, List.getElem_toArray, List.getElem_cons_zero, List.getElem_cons_succ]
          refine wpAnyH_take (i := 5) (v := ?_) rfl (by kernel_rfl) (by kernel_rfl) (by kernel_rfl) (fun _ _ _ h => h) (Or.inl ⟨by rfl, ?_⟩) hH ?_
          rotate_left
          · intro w' hS'; (try dsimp only at hS'); go_simp <;> (try with_reducible rfl)
          simp only [Act.put, List.setIfInBounds_toArray, List.set_cons_zero, List.set_cons_succ, List.getElem_toArray, List.getElem_cons_zero, List.getElem_cons_succ]
          refine wpAnyH_take (i := 6) (v := ?_) rfl (by kernel_rfl) (by kernel_rfl) (by kernel_rfl) (fun _ _ _ h => h) (Or.inl ⟨by rfl, ?_⟩) hH ?_
          rotate_left
          · intro w' hS'; (try dsimp only at hS'); go_simp <;> (try with_reducible rfl)
          simp only [Act.put, List.setIfInBounds_toArray, List.set_cons_zero, List.set_cons_succ, List.getElem_toArray, List.getElem_cons_zero, List.getElem_cons_succ]
          refine wpAnyH_take (i := 7) (v := .agg (ra.map Value.bool).toArray) rfl (by kernel_rfl) (by kernel_rfl) (by kernel_rfl) (fun _ _ _ h => h) (yieldsIf_load_mid (by rfl) _ _ rfl _ _ rfl _ _ (fun w' h => h.2) Tryz.underlying49 rfl i2) hH ?_
          simp only [Act.put, List.setIfInBounds_toArray, List.set_cons_zero, List.set_cons_succ, List.getElem_toArray, List.getElem_cons_zero, List.getElem_cons_succ]
          refine wpAnyH_ready (rs := [8]) (by kernel_rfl) (by simp) ?_
          refine AllReadyH.cons rfl (fun K hK => ?_) AllReadyH.nil
          go_simp
          refine (a1 _).mono ?_
          rintro e w1 ⟨rfl, hb1⟩
          go_wp2_with fail
          refine hK.out _ _ ⟨range_keep hb1 hH.1, range_keep hb1 hH.2⟩ (fun hH2 => ?_)
          clear hK K
          replace hH := hH2
          (try simp only [Act.put, List.setIfInBounds_toArray, List.set_cons_zero, List.set_cons_succ, List.getElem_toArray, List.getElem_cons_zero, List.getElem_cons_succ])
          refine wpAnyH_take (i := 9) (v := ?_) rfl (by kernel_rfl) (by kernel_rfl) (by kernel_rfl) (fun _ _ _ h => h) (Or.inl ⟨by rfl, ?_⟩) hH ?_
          rotate_left
          · intro w' hS'; (try dsimp only at hS'); go_simp <;> (try with_reducible rfl)
          simp only [Act.put, List.setIfInBounds_toArray, List.set_cons_zero, List.set_cons_succ, List.getElem_toArray, List.getElem_cons_zero, List.getElem_cons_succ]
          refine wpAnyH_take (i := 10) (v := ?_) rfl (by kernel_rfl) (by kernel_rfl) (by kernel_rfl) (fun _ _ _ h => h) (Or.inl ⟨by rfl, ?_⟩) hH ?_
          rotate_left
          · intro w' hS'; (try dsimp only at hS'); go_simp <;> (try with_reducible rfl)
          simp only [Act.put, List.setIfInBounds_toArray, List.set_cons_zero, List.set_cons_succ, List.getElem_toArray, List.getElem_cons_zero, List.getElem_cons_succ]
          refine wpAnyH_done (by kernel_rfl) ?_ _
          go_wp2_with fail
          go_ret
          exact ⟨rfl, thn3 hbw.drew hb1⟩
      | false =>
        have hy' := hyes rfl
        clear hno hyes
        go_wp2_with fail
        refine wp_region_held_drew (S := (fun w' => w'.rangeAt w.heap.size 9 (c.fst.map Value.bool) ∧ w'.rangeAt w.heap.size (27 + i * 9) (ra.map Value.bool))) (by kernel_rfl) ⟨q1, q2⟩ (fun hH => ?_)
        refine wpAnyH_take (i := 0) (v := ?_) rfl (by kernel_rfl) (by kernel_rfl) (by kernel_rfl) (fun _ _ _ h => h) (Or.inl ⟨by rfl, ?_⟩) hH ?_
        rotate_left
        · intro w' hS'; (try dsimp only at hS'); go_simp <;> (try with_reducible rfl)
        simp only [Act.put, List.setIfInBounds_toArray, List.set_cons_zero, List.set_cons_succ, List.getElem_toArray, List.getElem_cons_zero, List.getElem_cons_succ]
        refine wpAnyH_take (i := 1) (v := ?_) rfl (by kernel_rfl) (by kernel_rfl) (by kernel_rfl) (fun _ _ _ h => h) (Or.inl ⟨by rfl, ?_⟩) hH ?_
        rotate_left
        · intro w' hS'; (try dsimp only at hS'); go_simp <;> (try with_reducible rfl)
        simp only [Act.put, List.setIfInBounds_toArray, List.set_cons_zero, List.set_cons_succ, List.getElem_toArray, List.getElem_cons_zero, List.getElem_cons_succ]
        refine wpAnyH_take (i := 2) (v := undef) rfl (by kernel_rfl) (by kernel_rfl) (by kernel_rfl) (fun _ _ _ h => h) (Or.inr ⟨by rfl, rfl⟩) hH ?_
        simp only [Act.put, List.setIfInBounds_toArray, List.set_cons_zero, List.set_cons_succ, List.getElem_toArray, List.getElem_cons_zero, List.getElem_cons_succ]
        refine wpAnyH_take (i := 3) (v := undef) rfl (by kernel_rfl) (by kernel_rfl) (by kernel_rfl) (fun _ _ _ h => h) (Or.inr ⟨by rfl, rfl⟩) hH ?_
        simp only [Act.put, List.setIfInBounds_toArray, List.set_cons_zero, List.set_cons_succ, List.getElem_toArray, List.getElem_cons_zero, List.getElem_cons_succ]
        refine wpAnyH_take (i := 4) (v := undef) rfl (by kernel_rfl) (by kernel_rfl) (by kernel_rfl) (fun _ _ _ h => h) (Or.inr ⟨by rfl, rfl⟩) hH ?_
        simp only [Act.put, List.setIfInBounds_toArray, List.set_cons_zero, List.set_cons_succ, List.getElem_toArray, List.getElem_cons_zero, List.getElem_cons_succ]
        refine wpAnyH_take (i := 5) (v := undef) rfl (by kernel_rfl) (by kernel_rfl) (by kernel_rfl) (fun _ _ _ h => h) (Or.inr ⟨by rfl, rfl⟩) hH ?_
        simp only [Act.put, List.setIfInBounds_toArray, List.set_cons_zero, List.set_cons_succ, List.getElem_toArray, List.getElem_cons_zero, List.getElem_cons_succ]
        refine wpAnyH_take (i := 6) (v := undef) rfl (by kernel_rfl) (by kernel_rfl) (by kernel_rfl) (fun _ _ _ h => h) (Or.inr ⟨by rfl, rfl⟩) hH ?_
        simp only [Act.put, List.setIfInBounds_toArray, List.set_cons_zero, List.set_cons_succ, List.getElem_toArray, List.getElem_cons_zero, List.getElem_cons_succ]
        refine wpAnyH_take (i := 7) (v := undef) rfl (by kernel_rfl) (by kernel_rfl) (by kernel_rfl) (fun _ _ _ h => h) (Or.inr ⟨by rfl, rfl⟩) hH ?_
        simp only [Act.put, List.setIfInBounds_toArray, List.set_cons_zero, List.set_cons_succ, List.getElem_toArray, List.getElem_cons_zero, List.getElem_cons_succ]
        refine wpAnyH_take (i := 8) (v := undef) rfl (by kernel_rfl) (by kernel_rfl) (by kernel_rfl) (fun _ _ _ h => h) (Or.inr ⟨by rfl, rfl⟩) hH ?_
        simp only [Act.put, List.setIfInBounds_toArray, List.set_cons_zero, List.set_cons_succ, List.getElem_toArray, List.getElem_cons_zero, List.getElem_cons_succ]
        refine wpAnyH_take (i := 9) (v := undef) rfl (by kernel_rfl) (by kernel_rfl) (by kernel_rfl) (fun _ _ _ h => h) (Or.inr ⟨by rfl, rfl⟩) hH ?_
        simp only [Act.put, List.setIfInBounds_toArray, List.set_cons_zero, List.set_cons_succ, List.getElem_toArray, List.getElem_cons_zero, List.getElem_cons_succ]
        refine wpAnyH_take (i := 10) (v := ?_) rfl (by kernel_rfl) (by kernel_rfl) (by kernel_rfl) (fun _ _ _ h => h) (Or.inl ⟨by rfl, ?_⟩) hH ?_
        rotate_left
        · intro w' hS'; (try dsimp only at hS'); go_simp <;> (try with_reducible rfl)
        simp only [Act.put, List.setIfInBounds_toArray, List.set_cons_zero, List.set_cons_succ, List.getElem_toArray, List.getElem_cons_zero, List.getElem_cons_succ]
        refine wpAnyH_done (by kernel_rfl) ?_ _
        go_wp2_with fail
        go_roundw
        case rel => exact ⟨i + 1, by omega, by go_num, hy', hb.drew⟩
        case measure => simp [intOf]; omega
    · have hR1 : R = true := by rw [HR.out, ← hn.out, show i = 9 by omega]
      clear HR hn
      subst hR1
      go_wp2_with fail
      go_ret
      exact ⟨rfl, hbw⟩
end
end Go.Proofs.YtkkekopomiehlaaGreat
