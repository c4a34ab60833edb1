import Derived.Test.YtkkekopomiehlaaUh3
import Derived.Test.YtkkekopomiehlaaRf2
import Derived.Test.YtkkekopomiehlaaFl6
set_option linter.unusedVariables false
set_option linter.unusedSimpArgs false
set_option maxRecDepth 4000
namespace Go.Proofs.Ytkkekopomiehlaa
open Go.RowKit

theorem FleetAt.small {w : World} {sa ta va : Option Addr} {sl sc tl tc vl vc : Nat} {f : FleetD} (h : FleetAt w sa sl sc ta tl tc va vl vc f) : small f := by
  refine ⟨h.s2, h.s3, h.t2, h.v2, fun v hv => ?_⟩
  obtain ⟨i, hi⟩ := List.getElem?_of_mem hv
  obtain ⟨_, _, _, _, _, _, _, _, _, _, hr⟩ := h.v3 i v hi
  refine ⟨hr.2.1, fun ps hps => ?_⟩
  obtain ⟨j, hj⟩ := List.getElem?_of_mem hps
  obtain ⟨_, _, _, _, _, _, _, hp⟩ := hr.2.2.2.2 j ps hj
  exact hp.2.1
set_option maxHeartbeats 4000000 in
theorem fleets_walk (f : FleetD) (sa ta va : Option Addr) (sl sc tl tc vl vc : Nat) (w : World) (hf : FleetAt w sa sl sc ta tl tc va vl vc f) :
    Calls Try.prog 6 #[.agg #[.slice sa sl sc, .slice ta tl tc, .slice va vl vc]] w fun e W => e = .returned (.bool true) ∧ Below w.heap.size w W := by
  have hs := hf.small
  have c1 := fun (W : World) (h : Below w.heap.size w W) => lent_any f sa ta va sl sc tl tc vl vc W (hf.keep h)
  have c2 := fun (gs gt gv : Nat) (D : List (SvcD × Value)) (W : World) (h : LentF W gs gt gv D f) => CheckFleet_any f _ _ _ _ _ _ _ _ _ W (h.at hs)
  have c3 := fun (gs gt gv : Nat) (D : List (SvcD × Value)) (W : World) (h : LentF W gs gt gv D f) (hb : Below w.heap.size w W) => unhurt_any f gs gt gv D sa ta va sl sc tl tc vl vc W h (hf.keep hb)
  have c4 := fun (W : World) (h : Below w.heap.size w W) => rInOrder_any f sa ta va sl sc tl tc vl vc W (hf.keep h)
  rw [rord_eq] at c4
  unfold lentA at c1 c3
  have e0 := box3 w (.slice sa sl sc) (.slice ta tl tc) (.slice va vl vc) 33
  unfold ordI at c2
  generalize ordB f = x at c2 c4
  clear hf hs
  cases x with
  | true =>
    rw [if_pos rfl] at c2
    go_enter Try.func6, Try.ntmps6
    go_wp2_with (first
      | (go_at_call 13; refine (c1 _ (bel1 _ _)).mono ?_; rintro e w1 ⟨gs, gt, gv, D, rfl, hL, hb1⟩; have e1 := keep3 hb1 e0)
      | (go_at_call 14; refine (c2 gs gt gv D _ (hL.keep (bel1 _ _))).mono ?_; rintro e w2 ⟨rfl, hb2⟩; have e2 := keep3 hb2 (new3 _ e1); have l2 := keep3 hb2 (box3 w1 _ _ _ _); have hL2 := (hL.keep (bel1 _ _)).keep hb2; have g2 : Below w.heap.size w w2 := thn3 (thn3 (thn3 (bel1 _ _) hb1) (bel1 _ _)) hb2)
      | (go_at_call 15; refine (c3 gs gt gv D _ hL2 g2).mono ?_; rintro e w3 ⟨rfl, hb3⟩; have e3 := keep3 hb3 e2)
      | (go_at_call 16; refine (c4 _ (thn3 g2 hb3)).mono ?_; rintro e w4 ⟨rfl, hb4⟩))
    go_ret
    exact ⟨ret_bool (by rfl), thn3 (thn3 g2 hb3) hb4⟩
  | false =>
    rw [if_neg (by simp)] at c2
    go_enter Try.func6, Try.ntmps6
    go_wp2_with (first
      | (go_at_call 13; refine (c1 _ (bel1 _ _)).mono ?_; rintro e w1 ⟨gs, gt, gv, D, rfl, hL, hb1⟩; have e1 := keep3 hb1 e0)
      | (go_at_call 14; refine (c2 gs gt gv D _ (hL.keep (bel1 _ _))).mono ?_; rintro e w2 ⟨rfl, hb2⟩; have e2 := keep3 hb2 (new3 _ e1); have l2 := keep3 hb2 (box3 w1 _ _ _ _); have hL2 := (hL.keep (bel1 _ _)).keep hb2; have g2 : Below w.heap.size w w2 := thn3 (thn3 (thn3 (bel1 _ _) hb1) (bel1 _ _)) hb2)
      | (go_at_call 15; refine (c3 gs gt gv D _ hL2 g2).mono ?_; rintro e w3 ⟨rfl, hb3⟩; have e3 := keep3 hb3 e2)
      | (go_at_call 16; refine (c4 _ (thn3 g2 hb3)).mono ?_; rintro e w4 ⟨rfl, hb4⟩))
    go_ret
    exact ⟨ret_bool (by rfl), thn3 (thn3 g2 hb3) hb4⟩
end Go.Proofs.Ytkkekopomiehlaa
