import Derived.Test.YtkkekopomiehlaaDoorRef8
import Derived.Test.YtkkekopomiehlaaDoorEq4
set_option linter.unusedVariables false
set_option linter.unusedSimpArgs false
set_option maxRecDepth 4000
namespace Go.Proofs.YtkkekopomiehlaaDoor
open Go.RowKit

set_option maxHeartbeats 1000000 in
theorem rCheck_any (s : ByteArray) (hm : s.size ≤ maxLen) (w : World) :
    Calls Tryd.prog 22 #[.string s] w fun e w' => e = .returned (.int .i64 (chk true s)) ∧ Below w.heap.size w w' := by
  by_cases hs : 60 < s.size
  · have hr : Hid (chk true s = 1) := by show _ = _; unfold chk; rw [if_pos hs]
    unfold maxLen at hm
    go_enter Tryd.func22, Tryd.ntmps22
    go_wp2_with fail
    go_ret
    exact ⟨ret_int hr.out.symm, Below.refl _ _⟩
  · have IE := (ref_all (s := s) (by omega) s.size (by omega)).1
    rcases hx : pType true s s.size 0 with _ | ⟨ty, k⟩
    · have hr : Hid (chk true s = 2) := by show _ = _; unfold chk pAll; rw [if_neg hs, hx]; rfl
      have hcall := fun w => IE.no w (by omega) (by omega) hx
      have hne : ((-1 : Int) != (s.size : Int)) = true := by rw [bne_iff_ne]; omega
      clear hx IE hm
      go_enter Tryd.func22, Tryd.ntmps22
      go_wp2_with (go_at_call 33; refine (hcall _).mono ?_; rintro e w1 ⟨rfl, hb1⟩)
      go_ret
      exact ⟨ret_int hr.out.symm, hb1⟩
    · have hk := pType_bd true s _ _ _ _ hx
      have hcall := fun w => IE.yes w (by omega) (by omega) hx
      by_cases he : k = s.size
      · have hr : Hid (chk true s = 0) := by show _ = _; unfold chk pAll; rw [if_neg hs, hx]; simp only [if_pos he]; rfl
        have hne : ((k : Int) != (s.size : Int)) = false := by simp; omega
        have h1 : ¬ (k : Int) < 1 := by omega
        clear hx IE hm he
        go_enter Tryd.func22, Tryd.ntmps22
        go_wp2_with (go_at_call 33; refine (hcall _).mono ?_; rintro e w1 ⟨rfl, hb1⟩)
        go_ret
        exact ⟨ret_int hr.out.symm, hb1⟩
      · have hr : Hid (chk true s = 2) := by show _ = _; unfold chk pAll; rw [if_neg hs, hx]; simp only [if_neg he]; rfl
        have hne : ((k : Int) != (s.size : Int)) = true := by simp; omega
        clear hx IE hm he
        go_enter Tryd.func22, Tryd.ntmps22
        go_wp2_with (go_at_call 33; refine (hcall _).mono ?_; rintro e w1 ⟨rfl, hb1⟩)
        go_ret
        exact ⟨ret_int hr.out.symm, hb1⟩
theorem chk_st (s : ByteArray) : chk true s = chk false s := by unfold chk; rw [pAll_st]

end Go.Proofs.YtkkekopomiehlaaDoor
