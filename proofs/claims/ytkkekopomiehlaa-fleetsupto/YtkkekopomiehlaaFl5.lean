import Derived.Test.YtkkekopomiehlaaFl4
import Derived.Deep.RegionHeld3
set_option linter.unusedVariables false
set_option linter.unusedSimpArgs false
set_option maxRecDepth 4000
namespace Go.Proofs.Ytkkekopomiehlaa
open Go.RowKit

/-- A fleet in order. -/
def ordB (f : FleetD) : Bool := schsB f.ss && topsB f.ts && svcsB f.ss.length f.ts.length f.vs
/-- A fleet's three lists lie so. -/
structure FleetAt (w : World) (sa : Option Addr) (sl sc : Nat) (ta : Option Addr) (tl tc : Nat) (va : Option Addr) (vl vc : Nat) (f : FleetD) : Prop where
  s1 : sl = f.ss.length
  s2 : f.ss.length ≤ 2000000
  s3 : ∀ s ∈ f.ss, s.size ≤ maxLen
  s4 : StrsAt w sa f.ss
  t1 : tl = f.ts.length
  t2 : f.ts.length ≤ 2000000
  t3 : IntsAt w ta f.ts
  v1 : vl = f.vs.length
  v2 : f.vs.length ≤ 2000000
  v3 : SvcsAt (RelSl PinSl) w va f.vs
theorem FleetAt.keep {w w' : World} (hb : Below w.heap.size w w') {sa ta va : Option Addr} {sl sc tl tc vl vc : Nat} {f : FleetD} (h : FleetAt w sa sl sc ta tl tc va vl vc f) : FleetAt w' sa sl sc ta tl tc va vl vc f :=
  ⟨h.s1, h.s2, h.s3, h.s4.keep hb, h.t1, h.t2, h.t3.keep hb, h.v1, h.v2, h.v3.keep (fun _ _ _ _ h => RelSl.keepP hb h) hb⟩
set_option maxHeartbeats 4000000 in
theorem InOrder_any (f : FleetD) (sa ta va : Option Addr) (sl sc tl tc vl vc : Nat) (w : World) (hf : FleetAt w sa sl sc ta tl tc va vl vc f) :
    Calls Try.prog 28 #[.agg #[.slice sa sl sc, .slice ta tl tc, .slice va vl vc]] w fun e w' => e = .returned (.bool (ordB f)) ∧ Below w.heap.size w w' := by
  have c1 := fun (W : World) (h : Below w.heap.size w W) => schemasInOrder_any f.ss W sa sc hf.s2 hf.s3 (hf.s4.keep h)
  have c2 := fun (W : World) (h : Below w.heap.size w W) => topicsInOrder_any f.ts W ta tc hf.t2 (hf.t3.keep h)
  have c3 := fun (W : World) (h : Below w.heap.size w W) => servicesInOrder_any sl tl f.vs sa ta va sc tc vl vc (by have := hf.s1; have := hf.s2; omega) (by have := hf.t1; have := hf.t2; omega) W hf.v1 hf.v2 (hf.v3.keep (fun _ _ _ _ h' => RelSl.keepP h h') h)
  rw [← hf.s1] at c1
  rw [← hf.t1] at c2
  have hr : Hid (ordB f = (schsB f.ss && topsB f.ts && svcsB sl tl f.vs)) := by show _ = _; unfold ordB; rw [hf.s1, hf.t1]
  obtain ⟨R, hR⟩ : ∃ R, R = ordB f := ⟨_, rfl⟩
  rw [← hR] at hr ⊢
  generalize schsB f.ss = x1 at c1 hr
  generalize topsB f.ts = x2 at c2 hr
  generalize svcsB sl tl f.vs = x3 at c3 hr
  have e0 := box3 w (.slice sa sl sc) (.slice ta tl tc) (.slice va vl vc) 33
  clear hf hR
  cases x1 with
  | false =>
    have hR1 : R = false := hr.out
    clear hr c2 c3
    subst hR1
    go_enter Try.func28, Try.ntmps28
    go_wp2_with (go_at_call 55; refine (c1 _ (bel1 _ _)).mono ?_; rintro e w1 ⟨rfl, hb1⟩; have e1 := keep3 hb1 e0)
    go_ret
    exact ⟨rfl, thn3 (bel1 _ _) hb1⟩
  | true =>
    cases x2 with
    | false =>
      have hR1 : R = false := hr.out
      clear hr c3
      subst hR1
      go_enter Try.func28, Try.ntmps28
      go_wp2_with (first | (go_at_call 55; refine (c1 _ (bel1 _ _)).mono ?_; rintro e w1 ⟨rfl, hb1⟩; have e1 := keep3 hb1 e0) | (go_at_call 56; refine (c2 _ (thn3 (bel1 _ _) hb1)).mono ?_; rintro e w2 ⟨rfl, hb2⟩; have e2 := keep3 hb2 e1))
      go_ret
      exact ⟨rfl, thn3 (thn3 (bel1 _ _) hb1) hb2⟩
    | true =>
      have hR1 : R = x3 := hr.out
      clear hr
      subst hR1
      cases R <;> (
        go_enter Try.func28, Try.ntmps28
        go_wp2_with (first | (go_at_call 55; refine (c1 _ (bel1 _ _)).mono ?_; rintro e w1 ⟨rfl, hb1⟩; have e1 := keep3 hb1 e0) | (go_at_call 56; refine (c2 _ (thn3 (bel1 _ _) hb1)).mono ?_; rintro e w2 ⟨rfl, hb2⟩; have e2 := keep3 hb2 e1) | (go_at_call 57; refine (c3 _ (thn3 (thn3 (bel1 _ _) hb1) hb2)).mono ?_; rintro e w3 ⟨rfl, hb3⟩))
        go_ret
        exact ⟨rfl, thn3 (thn3 (thn3 (bel1 _ _) hb1) hb2) hb3⟩)
end Go.Proofs.Ytkkekopomiehlaa
