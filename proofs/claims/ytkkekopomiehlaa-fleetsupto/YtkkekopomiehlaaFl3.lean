import Derived.Test.YtkkekopomiehlaaFl2
set_option linter.unusedVariables false
set_option linter.unusedSimpArgs false
set_option maxRecDepth 4000
namespace Go.Proofs.Ytkkekopomiehlaa
open Go.RowKit

/-- A service in order. -/
def svcB (ns nt : Nat) (v : SvcD) : Bool := decide (1 ≤ v.size) && decide (v.size ≤ 3) && decide (1 ≤ v.rels.length) && decide (v.rels.length ≤ 3) && numB v.now v.rels.length && numB v.want v.rels.length && v.rels.all (pinsB ns nt)
theorem all_take {α : Type} {l : List α} {x : Nat} {p : α} (f : α → Bool) (h : l[x]? = some p) : (l.take (x + 1)).all f = ((l.take x).all f && f p) := by
  rw [List.take_add_one, h, List.all_append]; simp
theorem all_no {α : Type} {l : List α} {x : Nat} {p : α} {f : α → Bool} (h : l[x]? = some p) (hp : f p = false) : l.all f = false := by
  cases hc : l.all f with
  | false => rfl
  | true => rw [List.all_eq_true] at hc; rw [hc p (List.mem_of_getElem? h)] at hp; cases hp
set_option maxHeartbeats 4000000 in
theorem serviceInOrder_any (ns nt : Nat) (v : SvcD) (sa ta va : Option Addr) (sc tc vl vc : Nat) (hns : ns ≤ 2000000) (hnt : nt ≤ 2000000) (w : World) (ra : Option Addr) (rl rc : Nat) (hp : RelSl PinSl w ra rl rc v.rels) :
    Calls Try.prog 87 #[.agg #[.slice sa ns sc, .slice ta nt tc, .slice va vl vc], .agg #[.int .i64 v.size, .int .i64 v.now, .int .i64 v.want, .slice ra rl rc]] w fun e w' => e = .returned (.bool (svcB ns nt v)) ∧ Below w.heap.size w w' := by
  obtain ⟨sz, nw, wn, rels⟩ := v
  simp only at hp ⊢
  obtain ⟨rfl, hl, hlc, hc9, hp⟩ := hp
  obtain ⟨R, hR⟩ : ∃ R, R = svcB ns nt ⟨sz, nw, wn, rels⟩ := ⟨_, rfl⟩
  rw [← hR]
  unfold svcB at hR
  simp only at hR
  by_cases h1 : 1 ≤ sz ∧ sz ≤ 3 ∧ 1 ≤ rels.length ∧ rels.length ≤ 3
  · obtain ⟨g1, g2, g3, g4⟩ := h1
    rw [decide_eq_true g1, decide_eq_true g2, decide_eq_true g3, decide_eq_true g4] at hR
    have n1 := fun w => isNumber_any nw rels.length w
    have n2 := fun w => isNumber_any wn rels.length w
    generalize numB nw rels.length = b1 at hR n1
    generalize numB wn rels.length = b2 at hR n2
    have hbx : Below w.heap.size w ((w.alloc (.cells #[.slice sa ns sc, .slice ta nt tc, .slice va vl vc] 33)).alloc (.cells #[.int .i64 sz, .int .i64 nw, .int .i64 wn, .slice ra rels.length rc] 64)) := thn3 (bel1 _ _) (bel1 _ _)
    cases b1 with
    | false =>
      have hR1 : R = false := hR
      clear hR
      subst hR1
      go_enter Try.func87, Try.ntmps87
      go_wp2_with (go_at_call 103; refine (n1 _).mono ?_; rintro e _ ⟨rfl, rfl⟩; have m1 : True := trivial)
      go_ret
      exact ⟨rfl, hbx⟩
    | true =>
      cases b2 with
      | false =>
        have hR1 : R = false := hR
        clear hR
        subst hR1
        go_enter Try.func87, Try.ntmps87
        go_wp2_with (first | (go_at_call 103; have hq := m1; refine (n2 _).mono ?_; rintro e _ ⟨rfl, rfl⟩; have m2 : True := trivial) | (go_at_call 103; refine (n1 _).mono ?_; rintro e _ ⟨rfl, rfl⟩; have m1 : True := trivial))
        go_ret
        exact ⟨rfl, hbx⟩
      | true =>
        simp only [Bool.true_and] at hR
        have HR : Hid (R = rels.all (pinsB ns nt)) := hR
        clear hR
        go_enter Try.func87, Try.ntmps87
        go_wp2_with (first | (go_at_call 103; have hq := m1; refine (n2 _).mono ?_; rintro e _ ⟨rfl, rfl⟩; have m2 : True := trivial) | (go_at_call 103; refine (n1 _).mono ?_; rintro e _ ⟨rfl, rfl⟩; have m1 : True := trivial))
        go_loopw [42] (fun vi wr => ∃ i : Nat, i ≤ rels.length ∧ vi = .int .i64 i ∧ Hid ((rels.take i).all (pinsB ns nt) = true) ∧ Below ((w.alloc (.cells #[.slice sa ns sc, .slice ta nt tc, .slice va vl vc] 33)).alloc (.cells #[.int .i64 sz, .int .i64 nw, .int .i64 wn, .slice ra rels.length rc] 64)).heap.size ((w.alloc (.cells #[.slice sa ns sc, .slice ta nt tc, .slice va vl vc] 33)).alloc (.cells #[.int .i64 sz, .int .i64 nw, .int .i64 wn, .slice ra rels.length rc] 64)) wr) (fun i _ => rels.length - (intOf i).toNat)
        case atStart => exact ⟨0, Nat.zero_le _, rfl, (by show _ = _; rfl), Below.refl _ _⟩
        case round =>
          obtain ⟨i, hi, rfl, hn, hb⟩ := hrel
          have hbw := thn3 hbx hb
          by_cases hlt : i < rels.length
          · obtain ⟨ps, hpi⟩ : ∃ ps, rels[i]? = some ps := ⟨rels[i], List.getElem?_eq_getElem hlt⟩
            obtain ⟨b, o, pa, pl, pc, rfl, c0, hps⟩ := hp i ps hpi
            have c0 := cell_keep hbw c0
            have hbl := lt_of_cell c0
            obtain ⟨f0, f1, f2⟩ := keep3 hb (new3 _ (box3 w _ _ _ _))
            have hfl : w.heap.size < wr.heap.size := lt_of_cell f0
            have hcall := fun (W : World) (h : Below wr.heap.size wr W) => pinsInOrder_any ns nt ps sa ta va sc tc vl vc hns hnt W pa pl pc (hps.keep (thn3 hbw h))
            have hsn := all_take (pinsB ns nt) hpi
            have hno : pinsB ns nt ps = false → R = false := fun h => by rw [HR.out]; exact all_no hpi h
            rw [hn.out, Bool.true_and] at hsn
            generalize pinsB ns nt ps = x at hcall hsn hno
            have hx0 : (0 : Int) ≤ (i : Int) := Int.natCast_nonneg _
            have hx1 : (i : Int) < (rels.length : Int) := by omega
            clear hpi hps hn HR hp
            cases x with
            | false =>
              have hR1 := hno rfl
              clear hno hsn
              subst hR1
              go_wp2_with (go_at_call 104; refine (hcall _ (bel1 _ _)).mono ?_; rintro e w3 ⟨rfl, hb3⟩)
              go_ret
              exact ⟨rfl, thn3 (thn3 hbw (bel1 _ _)) hb3⟩
            | true =>
              have hy : Hid ((rels.take (i + 1)).all (pinsB ns nt) = true) := hsn
              clear hno hsn
              go_wp2_with (go_at_call 104; refine (hcall _ (bel1 _ _)).mono ?_; rintro e w3 ⟨rfl, hb3⟩)
              go_roundw
              case rel => exact ⟨i + 1, by omega, by go_num, hy, thn3 (thn3 hb (bel1 _ _)) hb3⟩
              case measure => simp [intOf]; omega
          · have hR1 : R = true := by rw [HR.out, ← hn.out, List.take_of_length_le (by omega)]
            clear HR hn
            subst hR1
            go_wp2_with fail
            go_ret
            exact ⟨rfl, hbw⟩
  · have hR1 : R = false := by
      rw [hR]
      by_cases g1 : 1 ≤ sz
      · by_cases g2 : sz ≤ 3
        · by_cases g3 : 1 ≤ rels.length
          · rw [decide_eq_false (show ¬ rels.length ≤ 3 by omega)]; simp
          · rw [decide_eq_false g3]; simp
        · rw [decide_eq_false g2]; simp
      · rw [decide_eq_false g1]; simp
    clear hR
    subst hR1
    by_cases g1 : 1 ≤ sz
    · by_cases g2 : sz ≤ 3
      · by_cases g3 : 1 ≤ rels.length
        · have g4 : 3 < rels.length := by omega
          clear h1
          go_enter Try.func87, Try.ntmps87
          go_wp2_with fail
          go_ret
          exact ⟨rfl, thn3 (bel1 _ _) (bel1 _ _)⟩
        · have g4 : rels.length = 0 := by omega
          clear h1 g3
          go_enter Try.func87, Try.ntmps87
          go_wp2_with fail
          go_ret
          exact ⟨rfl, thn3 (bel1 _ _) (bel1 _ _)⟩
      · clear h1
        go_enter Try.func87, Try.ntmps87
        go_wp2_with fail
        go_ret
        exact ⟨rfl, thn3 (bel1 _ _) (bel1 _ _)⟩
    · clear h1
      go_enter Try.func87, Try.ntmps87
      go_wp2_with fail
      go_ret
      exact ⟨rfl, thn3 (bel1 _ _) (bel1 _ _)⟩
end Go.Proofs.Ytkkekopomiehlaa
