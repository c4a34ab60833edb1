import Derived.Test.YtkkekopomiehlaaDoorRef9
import Derived.Test.YtkkekopomiehlaaDoorDec7
import Derived.Test.YtkkekopomiehlaaDoorDec13
set_option linter.unusedVariables false
set_option linter.unusedSimpArgs false
set_option maxRecDepth 4000
namespace Go.Proofs.YtkkekopomiehlaaDoor
open Go.RowKit

theorem decOut_st (s t : ByteArray) : decOut true s t = decOut false s t := by
  unfold decOut; rw [pAll_st]
theorem pAll_some {st : Bool} {s : ByteArray} {ty : Ty} (hx : pAll st s = some ty) : pType st s s.size 0 = some (ty, s.size) := by
  unfold pAll at hx
  rcases hq : pType st s s.size 0 with _ | ⟨ty', k⟩
  · rw [hq] at hx; cases hx
  · rw [hq] at hx; simp only at hx
    split at hx
    · rename_i h; cases hx; rw [h]
    · cases hx

set_option maxHeartbeats 1000000 in
theorem rDecode_any (s t : ByteArray) (hs : s.size ≤ maxLen) (ht : t.size ≤ maxLen) (w : World) :
    Calls Tryd.prog 10 #[.string s, .string t] w fun e w' => e = .returned (.tuple #[.string (decOut true s t).1, .int .i64 (decOut true s t).2]) ∧ Below w.heap.size w w' := by
  have hck := fun w => rCheck_any s hs w
  by_cases h1 : 60 < s.size
  · have hr : Hid (decOut true s t = (ByteArray.empty, 1)) := by show _ = _; unfold decOut; rw [if_pos (.inl h1)]
    rw [show chk true s = 1 by unfold chk; rw [if_pos h1]] at hck
    clear hs ht
    go_enter Tryd.func10, Tryd.ntmps10
    go_wp2_with (go_at_call 22; refine (hck _).mono ?_; rintro e w1 ⟨rfl, hb1⟩)
    go_ret2
    rw [hr.out]
    exact ⟨rfl, hb1⟩
  · cases hx : pAll true s with
    | none =>
      rw [show chk true s = 2 by unfold chk; rw [if_neg h1, hx]; rfl] at hck
      by_cases h2 : 64 < t.size
      · have hr : Hid (decOut true s t = (ByteArray.empty, 1)) := by show _ = _; unfold decOut; rw [if_pos (.inr h2)]
        unfold maxLen at hs ht
        clear hx
        go_enter Tryd.func10, Tryd.ntmps10
        go_wp2_with (go_at_call 22; refine (hck _).mono ?_; rintro e w1 ⟨rfl, hb1⟩)
        go_ret2
        rw [hr.out]
        exact ⟨rfl, hb1⟩
      · have hr : Hid (decOut true s t = (ByteArray.empty, 2)) := by show _ = _; unfold decOut; rw [if_neg (by omega), hx]
        clear hx hs ht
        go_enter Tryd.func10, Tryd.ntmps10
        go_wp2_with (go_at_call 22; refine (hck _).mono ?_; rintro e w1 ⟨rfl, hb1⟩)
        go_ret2
        rw [hr.out]
        exact ⟨rfl, hb1⟩
    | some ty =>
      rw [show chk true s = 0 by unfold chk; rw [if_neg h1, hx]; rfl] at hck
      by_cases h2 : 64 < t.size
      · have hr : Hid (decOut true s t = (ByteArray.empty, 1)) := by show _ = _; unfold decOut; rw [if_pos (.inr h2)]
        unfold maxLen at hs ht
        clear hx
        go_enter Tryd.func10, Tryd.ntmps10
        go_wp2_with (go_at_call 22; refine (hck _).mono ?_; rintro e w1 ⟨rfl, hb1⟩)
        go_ret2
        rw [hr.out]
        exact ⟨rfl, hb1⟩
      · have IL := tell_all (s := s) (t := t) (by omega) (by omega) s.size (by omega)
        have hp := pAll_some hx
        have hOut : decOut true s t = (match decAll t s.size ty with | none => (ByteArray.empty, 5) | some t => (t, 0)) := by unfold decOut; rw [if_neg (by omega), hx]; simp only; rcases decAll t s.size ty with _ | d <;> rfl
        clear hx hs ht
        cases hy : dec t s.size ty 0 with
        | none =>
          have hr : Hid (decOut true s t = (ByteArray.empty, 5)) := by show _ = _; rw [hOut]; unfold decAll; rw [hy]
          have hcall := fun w => IL.no w hp (by omega) (Nat.zero_le _) hy
          have hne : ((-1 : Int) != (t.size : Int)) = true := by rw [bne_iff_ne]; omega
          clear hOut hp hy IL
          go_enter Tryd.func10, Tryd.ntmps10
          go_wp2_with (first | (go_at_call 22; refine (hck _).mono ?_; rintro e w1 ⟨rfl, hb1⟩) | (go_at_call 23; refine (hcall _).mono ?_; rintro e w2 ⟨rfl, hb2⟩))
          go_ret2
          rw [hr.out]
          exact ⟨rfl, hb1.trans (hb2.mono hb1.size)⟩
        | some q =>
          obtain ⟨d, k⟩ := q
          have hcall := fun w => IL.yes w hp (by omega) (Nat.zero_le _) hy
          by_cases hk : k = t.size
          · have hne : ((k : Int) != (t.size : Int)) = false := by simp; omega
            have hr : Hid (decOut true s t = (d, 0)) := by show _ = _; rw [hOut]; unfold decAll; rw [hy]; simp only [if_pos hk]
            clear hOut hp hy IL hk
            go_enter Tryd.func10, Tryd.ntmps10
            go_wp2_with (first | (go_at_call 22; refine (hck _).mono ?_; rintro e w1 ⟨rfl, hb1⟩) | (go_at_call 23; refine (hcall _).mono ?_; rintro e w2 ⟨rfl, hb2⟩))
            go_ret2
            rw [hr.out]
            exact ⟨rfl, hb1.trans (hb2.mono hb1.size)⟩
          · have hne : ((k : Int) != (t.size : Int)) = true := by simp; omega
            have hr : Hid (decOut true s t = (ByteArray.empty, 5)) := by show _ = _; rw [hOut]; unfold decAll; rw [hy]; simp only [if_neg hk]
            clear hOut hp hy IL hk
            go_enter Tryd.func10, Tryd.ntmps10
            go_wp2_with (first | (go_at_call 22; refine (hck _).mono ?_; rintro e w1 ⟨rfl, hb1⟩) | (go_at_call 23; refine (hcall _).mono ?_; rintro e w2 ⟨rfl, hb2⟩))
            go_ret2
            rw [hr.out]
            exact ⟨rfl, hb1.trans (hb2.mono hb1.size)⟩
end Go.Proofs.YtkkekopomiehlaaDoor
