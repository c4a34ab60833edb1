import Derived.Test.YtkkekopomiehlaaDoorDecP
set_option linter.unusedVariables false
set_option linter.unusedSimpArgs false
set_option maxRecDepth 4000
namespace Go.Proofs.YtkkekopomiehlaaDoor
open Go.RowKit

def uRet (a : Nat) : Option (Nat × Nat) → Value
  | some (u, e) => .tuple #[.int .i64 u, .int .i64 e, .bool true]
  | none => .tuple #[.int .i64 0, .int .i64 a, .bool false]
set_option maxRecDepth 10000 in
set_option maxHeartbeats 1000000 in
theorem unsignedAt_any (s : ByteArray) (a : Nat) (w : World) (_hs : s.size ≤ 9000000) (ha : a ≤ s.size) :
    Calls Tryd.prog 91 #[.string s, .int .i64 a] w fun e w' => e = .returned (uRet a (uAt s a)) ∧ w' = w := by
  obtain ⟨R, hR⟩ : ∃ R, R = uAt s a := ⟨_, rfl⟩
  rw [← hR]
  have HR : Hid (R = uAtL s a 8 0 0 1) := hR
  clear hR
  go_enter Tryd.func91, Tryd.ntmps91
  go_wp2_with fail
  go_loop [7, 8, 9] (fun vu vx vk => ∃ (m k u x : Nat), k + m = 8 ∧ vk = .int .i64 k ∧ vu = .int .i64 u ∧ vx = .int .i64 x ∧ u < x ∧ 1 ≤ x ∧ x ≤ 72057594037927936 ∧ Hid (x * 128 ^ m = 72057594037927936) ∧ Hid (R = uAtL s a m k u x)) (fun _ _ k => 8 - (intOf k).toNat)
  case atStart => exact ⟨8, 0, 0, 1, rfl, rfl, rfl, rfl, by omega, by omega, by omega, by show 1 * 128 ^ 8 = _; omega, HR⟩
  case round =>
    obtain ⟨m, k, u, x, hkm, rfl, rfl, rfl, hux, hx1, hx2, hxm, hR⟩ := hrel
    cases m with
    | zero =>
      have hk8 : ¬ (k : Int) < 8 := by omega
      have hr : Hid (R = none) := hR
      go_wp2_with fail
      go_ret3
      rw [hr.out]
      exact ⟨rfl, rfl⟩
    | succ m =>
      have hk8 : (k : Int) < 8 := by omega
      have hx3 : x ≤ 562949953421312 := by
        have := hxm.out
        rw [Nat.pow_succ] at this
        have hp : 1 ≤ 128 ^ m := Nat.pow_pos (by omega)
        have h2 : x * 128 ≤ x * (128 ^ m * 128) := Nat.mul_le_mul_left x (by omega)
        omega
      have hhi := bAt_hi s (a + k)
      obtain ⟨b, hb⟩ : ∃ b, b = bAt s (a + k) := ⟨_, rfl⟩
      have hby : ∀ w, Calls Tryd.prog 73 #[.string s, .int .i64 ((a : Int) + (k : Int))] w fun e w' => e = .returned (.int .i64 b) ∧ w = w' := fun w => by
        rw [hb]; exact (byteAt_any s (a + k) w _hs).mono (fun _ _ ⟨h1, h2⟩ => ⟨h1, h2.symm⟩)
      rw [← hb] at hhi
      by_cases h0 : b < 0
      · have hr : Hid (R = none) := by show _ = _; rw [hR.out, uAtL, ← hb, if_pos (.inl h0)]
        clear hb
        go_wp2_with (go_at_call 73; refine (hby _).mono ?_; rintro e _ ⟨rfl, rfl⟩)
        go_ret3
        rw [hr.out]
        exact ⟨rfl, rfl⟩
      · by_cases hz : b = 0 ∧ 0 < k
        · have hr : Hid (R = none) := by show _ = _; rw [hR.out, uAtL, ← hb, if_pos (.inr hz)]
          have hz1 : (b == 0) = true := by simp [hz.1]
          have hz2 : (0 : Int) < (k : Int) := by omega
          clear hb hz
          go_wp2_with (go_at_call 73; refine (hby _).mono ?_; rintro e _ ⟨rfl, rfl⟩)
          go_ret3
          rw [hr.out]
          exact ⟨rfl, rfl⟩
        · have hR2 : Hid (R = if b < 128 then some (u + b.toNat * x, a + k + 1) else uAtL s a m (k + 1) (u + (b.toNat - 128) * x) (x * 128)) := by
            show _ = _; rw [hR.out, uAtL, ← hb, if_neg (by omega)]
          have hbx : 0 ≤ b * (x : Int) ∧ b * (x : Int) ≤ 255 * (x : Int) := ⟨Int.mul_nonneg (by omega) (by omega), Int.mul_le_mul_of_nonneg_right hhi (by omega)⟩
          obtain ⟨hbx1, hbx2⟩ := hbx
          clear hR hb
          have hsp : ((b == 0) = false) ∨ ((b == 0) = true ∧ ¬ (0 : Int) < (k : Int)) := by
            by_cases e : b = 0
            · right; exact ⟨by simp [e], by omega⟩
            · left; simpa using e
          clear hz
          by_cases h128 : b < 128
          · have hr : Hid (R = some (u + b.toNat * x, a + k + 1)) := by show _ = _; rw [hR2.out, if_pos h128]
            clear hR2
            rcases hsp with hsp | ⟨hsp, hsp2⟩
            all_goals
              go_wp2_with (go_at_call 73; refine (hby _).mono ?_; rintro e _ ⟨rfl, rfl⟩)
              go_ret3
              rw [hr.out]
              refine ⟨ret3 (v_int ?_) (v_int ?_) rfl, rfl⟩
              · rw [Int.natCast_add, Int.natCast_mul, show ((b.toNat : Nat) : Int) = b by omega]
              · omega
          · have hr : Hid (R = uAtL s a m (k + 1) (u + (b.toNat - 128) * x) (x * 128)) := by show _ = _; rw [hR2.out, if_neg h128]
            clear hR2
            have hcx : 0 ≤ (b - 128) * (x : Int) ∧ (b - 128) * (x : Int) ≤ 127 * (x : Int) := ⟨Int.mul_nonneg (by omega) (by omega), Int.mul_le_mul_of_nonneg_right (by omega) (by omega)⟩
            obtain ⟨hcx1, hcx2⟩ := hcx
            have hnat : (b.toNat - 128) * x ≤ 127 * x := Nat.mul_le_mul_right x (by omega)
            rcases hsp with hsp | ⟨hsp, hsp2⟩
            all_goals
              go_wp2_with (go_at_call 73; refine (hby _).mono ?_; rintro e _ ⟨rfl, rfl⟩)
              go_round
              case rel =>
                refine ⟨m, k + 1, u + (b.toNat - 128) * x, x * 128, by omega, by go_num, v_int ?_, v_int ?_, by omega, by omega, by omega, ?_, hr⟩
                · rw [Int.natCast_add, Int.natCast_mul, show ((b.toNat - 128 : Nat) : Int) = b - 128 by omega]
                · rw [Int.natCast_mul]; rfl
                · show _ = _
                  have := hxm.out
                  rw [Nat.pow_succ, Nat.mul_comm (128 ^ m)] at this
                  rw [Nat.mul_assoc]; exact this
              case measure => simp [intOf]; omega
end Go.Proofs.YtkkekopomiehlaaDoor
