import Derived.Test.YtkkekopomiehlaaDoorLoops
set_option linter.unusedVariables false
set_option linter.unusedSimpArgs false
namespace Go.Proofs.YtkkekopomiehlaaDoor
open Go.RowKit

theorem ret3 {a b c a' b' c' : Value} (h : a = a') (h' : b = b') (h'' : c = c') : Ending.returned (.tuple #[a, b, c]) = .returned (.tuple #[a', b', c']) := by rw [h, h', h'']
theorem v_int {k : IntKind} {a b : Int} (h : a = b) : Value.int k a = .int k b := by rw [h]
theorem v_str {a b : ByteArray} (h : a = b) : Value.string a = .string b := by rw [h]
theorem run_stop (p : Int → Bool) (s : ByteArray) (E k : Nat) (h : E = runEnd p s (s.size - k) k) (hb : p (bAt s k) = false) : E = k := by
  rw [h]; rcases hm : s.size - k with _ | m
  · rfl
  · rw [runEnd, hb]; rfl
theorem run_step (p : Int → Bool) (s : ByteArray) (E k : Nat) (h : E = runEnd p s (s.size - k) k) (hk : k < s.size) (hb : p (bAt s k) = true) : E = runEnd p s (s.size - (k + 1)) (k + 1) := by
  rw [h, show s.size - k = (s.size - (k + 1)) + 1 by omega]; rw [runEnd, if_pos hb]
theorem run_le (p : Int → Bool) (s : ByteArray) : ∀ (m e : Nat), e ≤ runEnd p s m e ∧ runEnd p s m e ≤ e + m
  | 0, e => by simp [runEnd]
  | m + 1, e => by
    rw [runEnd]; split
    · have := run_le p s m (e + 1); omega
    · omega
theorem isD_lt {s : ByteArray} {k : Nat} (h : isD (bAt s k) = true) : k < s.size ∧ 48 ≤ bAt s k ∧ bAt s k ≤ 57 := by
  have h' : 48 ≤ bAt s k ∧ bAt s k ≤ 57 := by simpa [isD] using h
  exact ⟨bAt_lt (by omega), h'⟩
theorem inS_lt {s : ByteArray} {k : Nat} (h : inS (bAt s k) = true) : k < s.size := by
  have h' : (32 ≤ bAt s k ∧ bAt s k ≤ 126) ∧ bAt s k ≠ 34 := by simpa [inS] using h
  exact bAt_lt (by omega)
theorem pow_le16 (m : Nat) (h : m ≤ 16) : (10 : Int) ^ m ≤ 10000000000000000 := by
  have h1 : 10 ^ m ≤ 10 ^ 16 := Nat.pow_le_pow_right (by omega) h
  have h2 : (10 : Int) ^ m = ((10 ^ m : Nat) : Int) := by simp
  rw [h2]; omega
theorem dVal_next (s : ByteArray) (a k : Nat) (h : a ≤ k) : dVal s a (k + 1 - a) = dVal s a (k - a) * 10 + (bAt s k - 48) := by
  rw [show k + 1 - a = (k - a) + 1 by omega, dVal, show a + (k - a) = k by omega]
theorem pDig_none (s : ByteArray) (a E : Nat) (hE : E = runEnd isD s (s.size - a) a) (h : E = a ∨ 16 < E - a ∨ (1 < E - a ∧ bAt s a = 48)) : pDig s a = none := by
  unfold pDig; rw [← hE]; simp only [if_pos h]
theorem pDig_some (s : ByteArray) (a E : Nat) (hE : E = runEnd isD s (s.size - a) a) (h : ¬ (E = a ∨ 16 < E - a ∨ (1 < E - a ∧ bAt s a = 48))) : pDig s a = some (dVal s a (E - a), E) := by
  unfold pDig; rw [← hE]; simp only [if_neg h]

def digRet (a : Nat) : Option (Int × Nat) → Value
  | some (n, e) => .tuple #[.int .i64 n, .int .i64 e, .bool true]
  | none => .tuple #[.int .i64 0, .int .i64 a, .bool false]

set_option maxHeartbeats 1000000 in
theorem parseDigits_any (s : ByteArray) (a : Nat) (w : World) (_hs : s.size ≤ 9000000) (ha : a ≤ s.size + 1) :
    Calls Tryd.prog 106 #[.string s, .int .i64 a] w fun e w' => e = .returned (digRet a (pDig s a)) ∧ w' = w := by
  obtain ⟨E, hE⟩ : ∃ E, E = runEnd isD s (s.size - a) a := ⟨_, rfl⟩
  have HE : Hid (E = runEnd isD s (s.size - a) a) := hE
  have HL : Hid (a ≤ E) := by rw [hE]; exact (run_le _ _ _ _).1
  clear hE
  go_enter Tryd.func106, Tryd.ntmps106
  go_wp2_with fail
  go_loop [7, 8] (fun v i => ∃ (k : Nat) (n : Int), a ≤ k ∧ k ≤ s.size + 1 ∧ k ≤ a + 16 ∧ i = .int .i64 k ∧ v = .int .i64 n ∧ Hid (n = dVal s a (k - a)) ∧ 0 ≤ n ∧ Hid (n < 10 ^ (k - a)) ∧ Hid (E = runEnd isD s (s.size - k) k)) (fun _ i => s.size + 1 - (intOf i).toNat)
  case atStart => exact ⟨a, 0, Nat.le_refl _, by omega, by omega, rfl, rfl, by rw [Nat.sub_self]; rfl, by omega, by rw [Nat.sub_self]; show (0 : Int) < 10 ^ 0; decide, HE⟩
  case round =>
    obtain ⟨k, n, hak, hk, hk16, rfl, rfl, hn, hn0, hn1, hp⟩ := hrel
    cases hd : isD (bAt s k) with
    | true =>
      obtain ⟨hlt, hd1, hd2⟩ := isD_lt hd
      have hp1 : Hid (E = runEnd isD s (s.size - (k + 1)) (k + 1)) := run_step _ _ _ _ hp.out hlt hd
      by_cases h16 : k = a + 16
      · have hc : ((k : Int) - (a : Int) == 16) = true := by simp; omega
        have H16 : Hid (k = a + 16) := h16
        clear h16
        go_wp2_with (first | (go_at_call 73; refine (byteAt_any _ _ _ _hs).mono ?_; rintro e w' ⟨rfl, rfl⟩) | (go_at_call 112; refine (isDigit_any _ _).mono ?_; rintro e w' ⟨rfl, rfl⟩))
        go_ret3
        have := H16.out
        have hlast : k + 1 ≤ E := by rw [hp1.out]; exact (run_le _ _ _ _).1
        rw [pDig_none s a E HE.out (by omega)]
        exact ⟨rfl, rfl⟩
      · have hc : ((k : Int) - (a : Int) == 16) = false := by simp; omega
        have hm := pow_le16 (k - a) (by omega)
        have hm' : n ≤ 10000000000000000 := by have := hn1.out; omega
        clear hm
        go_wp2_with (first | (go_at_call 73; refine (byteAt_any _ _ _ _hs).mono ?_; rintro e w' ⟨rfl, rfl⟩) | (go_at_call 112; refine (isDigit_any _ _).mono ?_; rintro e w' ⟨rfl, rfl⟩))
        go_round
        case rel =>
          refine ⟨k + 1, n * 10 + (bAt s k - 48), by omega, by omega, by omega, by go_num, v_int (by omega), ?_, by omega, ?_, hp1⟩
          · show _ = _; rw [dVal_next s a k hak, ← hn.out]
          · show _ < _
            have e : (10 : Int) ^ (k + 1 - a) = 10 ^ (k - a) * 10 := by rw [show k + 1 - a = (k - a) + 1 by omega, Int.pow_succ]
            have := hn1.out; rw [e]; omega
        case measure => simp [intOf]; omega
    | false =>
      have hEk : E = k := run_stop _ _ _ _ hp.out hd
      by_cases h0 : k = a
      · subst h0
        have h0' : ((k : Int) == (k : Int)) = true := by simp
        go_wp2_with (first | (go_at_call 73; refine (byteAt_any _ _ _ _hs).mono ?_; rintro e w' ⟨rfl, rfl⟩) | (go_at_call 112; refine (isDigit_any _ _).mono ?_; rintro e w' ⟨rfl, rfl⟩))
        go_ret3
        rw [pDig_none s k E HE.out (by omega)]
        exact ⟨rfl, rfl⟩
      · have h0' : ((k : Int) == (a : Int)) = false := by simp; omega
        have hE' : Hid (E = k) := hEk
        clear hEk
        by_cases h1 : k = a + 1
        · have hb : ¬ (1 : Int) < (k : Int) - (a : Int) := by omega
          have H1 : Hid (k = a + 1) := h1
          clear h1
          go_wp2_with (first | (go_at_call 73; refine (byteAt_any _ _ _ _hs).mono ?_; rintro e w' ⟨rfl, rfl⟩) | (go_at_call 112; refine (isDigit_any _ _).mono ?_; rintro e w' ⟨rfl, rfl⟩))
          go_ret3
          have := hE'.out
          have := H1.out
          rw [pDig_some s a E HE.out (by omega)]
          refine ⟨ret3 (v_int ?_) (v_int ?_) rfl, rfl⟩
          · rw [hE'.out, ← hn.out]
          · omega
        · have hb : (1 : Int) < (k : Int) - (a : Int) := by omega
          by_cases hz : bAt s a = 48
          · have hz' : (bAt s a == 48) = true := by simp [hz]
            have HZ : Hid (bAt s a = 48) := hz
            clear hz
            go_wp2_with (first | (go_at_call 73; refine (byteAt_any _ _ _ _hs).mono ?_; rintro e w' ⟨rfl, rfl⟩) | (go_at_call 112; refine (isDigit_any _ _).mono ?_; rintro e w' ⟨rfl, rfl⟩))
            go_ret3
            have := hE'.out
            rw [pDig_none s a E HE.out (.inr (.inr ⟨by omega, HZ.out⟩))]
            exact ⟨rfl, rfl⟩
          · have hz' : (bAt s a == 48) = false := by simpa using hz
            go_wp2_with (first | (go_at_call 73; refine (byteAt_any _ _ _ _hs).mono ?_; rintro e w' ⟨rfl, rfl⟩) | (go_at_call 112; refine (isDigit_any _ _).mono ?_; rintro e w' ⟨rfl, rfl⟩))
            go_ret3
            have := hE'.out
            rw [pDig_some s a E HE.out (by omega)]
            refine ⟨ret3 (v_int ?_) (v_int ?_) rfl, rfl⟩
            · rw [hE'.out, ← hn.out]
            · omega
end Go.Proofs.YtkkekopomiehlaaDoor
