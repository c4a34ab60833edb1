import Derived.Test.YtkkekopomiehlaaProg1
set_option linter.unusedVariables false
set_option linter.unusedSimpArgs false
namespace Go.Proofs.Ytkkekopomiehlaa
open Go.RowKit

set_option maxHeartbeats 1000000 in
theorem Check_any (s : ByteArray) (hm : s.size ≤ maxLen) (w : World) :
    Calls Try.prog 7 #[.string s] w fun e w' => e = .returned (.int .i64 (chk false s)) ∧ Below w.heap.size w w' := by
  by_cases hs : 60 < s.size
  · have hr' : Hid (chk false s = 1) := by show _ = _; unfold chk; rw [if_pos hs]
    have hcall := fun w => typeOf_long hs hm w
    clear hs hm
    go_enter Try.func7, Try.ntmps7
    go_wp2_with (go_at_call 17; refine (hcall _).mono ?_; rintro e w1 ⟨rfl, hb1⟩)
    go_ret
    exact ⟨ret_int hr'.out.symm, Below.alloc' hb1 _⟩
  · cases hx : pAll false s with
    | none =>
      have hr' : Hid (chk false s = 2) := by show _ = _; unfold chk; rw [if_neg hs, hx]; rfl
      have hcall := fun w => TRet_no (typeOf_any (s := s) (by omega) w) hx
      clear hs hm hx
      go_enter Try.func7, Try.ntmps7
      go_wp2_with (go_at_call 17; refine (hcall _).mono ?_; rintro e w1 ⟨rfl, hb1⟩)
      go_ret
      exact ⟨ret_int hr'.out.symm, Below.alloc' hb1 _⟩
    | some ty =>
      have hr' : Hid (chk false s = 0) := by show _ = _; unfold chk; rw [if_neg hs, hx]; rfl
      have hcall := fun w => TRet_yes (typeOf_any (s := s) (by omega) w) hx
      clear hs hm hx
      go_enter Try.func7, Try.ntmps7
      go_wp2_with (go_at_call 17; refine (hcall _).mono ?_; rintro e w1 ⟨ai, li, ci, af, lf, cf, rfl, hr1, hb1⟩)
      go_ret
      exact ⟨ret_int hr'.out.symm, Below.alloc' hb1 _⟩
end Go.Proofs.Ytkkekopomiehlaa
