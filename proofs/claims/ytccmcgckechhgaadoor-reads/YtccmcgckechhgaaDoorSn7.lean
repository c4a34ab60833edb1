import Derived.Test.YtccmcgckechhgaaDoorSn6
import Derived.Test.YtccmcgckechhgaaDoorRef9
set_option linter.unusedVariables false
set_option linter.unusedSimpArgs false
set_option maxRecDepth 4000
namespace Go.Proofs.YtccmcgckechhgaaDoor
open Go.RowKit

/-- The error of two schemas. -/
def bothI (s t : ByteArray) : Int := if chk true s = 1 ∨ chk true t = 1 then 1 else if chk true s ≠ 0 ∨ chk true t ≠ 0 then 2 else 0
theorem chk_cs (s : ByteArray) : chk true s = 1 ∨ chk true s = 0 ∨ chk true s = 2 := by unfold chk; split; exact .inl rfl; split; exact .inr (.inl rfl); exact .inr (.inr rfl)

set_option maxHeartbeats 1000000 in
theorem both_any (s t : ByteArray) (hs : s.size ≤ maxLen) (ht : t.size ≤ maxLen) (w : World) :
    Calls Tryd.prog 28 #[.string s, .string t] w fun e w' => e = .returned (.int .i64 (bothI s t)) ∧ Below w.heap.size w w' := by
  have h1 := fun w => rCheck_any s hs w
  have h2 := fun w => rCheck_any t ht w
  have key : ∀ (a b r : Int), (∀ w, Calls Tryd.prog 22 #[.string s] w fun e w' => e = .returned (.int .i64 a) ∧ Below w.heap.size w w') → (∀ w, Calls Tryd.prog 22 #[.string t] w fun e w' => e = .returned (.int .i64 b) ∧ Below w.heap.size w w') → (a = 1 ∨ a = 0 ∨ a = 2) → (b = 1 ∨ b = 0 ∨ b = 2) → r = (if a = 1 ∨ b = 1 then 1 else if a ≠ 0 ∨ b ≠ 0 then 2 else 0) →
      Calls Tryd.prog 28 #[.string s, .string t] w fun e w' => e = .returned (.int .i64 r) ∧ Below w.heap.size w w' := by
    clear h1 h2 hs ht
    intro a b r h1 h2 ha hb hr
    rcases ha with rfl | rfl | rfl <;> rcases hb with rfl | rfl | rfl <;> (
      simp at hr
      subst hr
      go_enter Tryd.func28, Tryd.ntmps28
      go_wp2_with (first | (go_at_call 22; have hq := hb1; refine (h2 _).mono ?_; rintro e w2 ⟨rfl, hb2⟩) | (go_at_call 22; refine (h1 _).mono ?_; rintro e w1 ⟨rfl, hb1⟩))
      go_ret
      exact ⟨rfl, hb1.trans (hb2.mono hb1.size)⟩)
  exact key _ _ _ h1 h2 (chk_cs s) (chk_cs t) rfl
end Go.Proofs.YtccmcgckechhgaaDoor
