import Derived.Test.YtkkekopomiehlaaFl5
set_option linter.unusedVariables false
set_option linter.unusedSimpArgs false
set_option maxRecDepth 4000
namespace Go.Proofs.Ytkkekopomiehlaa
open Go.RowKit

/-- What 'CheckFleet' answers. -/
def ordI (f : FleetD) : Int := if ordB f = true then 0 else 8
set_option maxHeartbeats 1000000 in
theorem CheckFleet_any (f : FleetD) (sa ta va : Option Addr) (sl sc tl tc vl vc : Nat) (w : World) (hf : FleetAt w sa sl sc ta tl tc va vl vc f) :
    Calls Try.prog 14 #[.agg #[.slice sa sl sc, .slice ta tl tc, .slice va vl vc]] w fun e w' => e = .returned (.int .i64 (ordI f)) ∧ Below w.heap.size w w' := by
  have c1 := fun (W : World) (h : Below w.heap.size w W) => InOrder_any f sa ta va sl sc tl tc vl vc W (hf.keep h)
  have e0 := box3 w (.slice sa sl sc) (.slice ta tl tc) (.slice va vl vc) 33
  unfold ordI
  generalize ordB f = x at c1
  clear hf
  cases x with
  | true =>
    rw [if_pos rfl]
    go_enter Try.func14, Try.ntmps14
    go_wp2_with (go_at_call 28; refine (c1 _ (by first | exact bel1 _ _ | exact Below.refl _ _)).mono ?_; rintro e w1 ⟨rfl, hb1⟩)
    go_ret
    first | exact ⟨rfl, thn3 (bel1 _ _) hb1⟩ | exact ⟨rfl, hb1⟩
  | false =>
    rw [if_neg (by simp)]
    go_enter Try.func14, Try.ntmps14
    go_wp2_with (go_at_call 28; refine (c1 _ (by first | exact bel1 _ _ | exact Below.refl _ _)).mono ?_; rintro e w1 ⟨rfl, hb1⟩)
    go_ret
    first | exact ⟨rfl, thn3 (bel1 _ _) hb1⟩ | exact ⟨rfl, hb1⟩
end Go.Proofs.Ytkkekopomiehlaa
