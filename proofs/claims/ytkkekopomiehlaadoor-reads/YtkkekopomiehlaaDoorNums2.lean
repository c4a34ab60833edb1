import Derived.Test.YtkkekopomiehlaaDoorNums
set_option linter.unusedVariables false
set_option linter.unusedSimpArgs false
namespace Go.Proofs.YtkkekopomiehlaaDoor
open Go.RowKit

theorem dVal_nonneg (s : ByteArray) (a : Nat) : ∀ m, (∀ j, j < m → 48 ≤ bAt s (a + j)) → 0 ≤ dVal s a m
  | 0, _ => by simp [dVal]
  | m + 1, h => by
    have := dVal_nonneg s a m (fun j hj => h j (by omega)); have := h m (by omega); rw [dVal]; omega
theorem dVal_lt (s : ByteArray) (a : Nat) : ∀ m, (∀ j, j < m → bAt s (a + j) ≤ 57) → dVal s a m < 10 ^ m
  | 0, _ => by simp [dVal]
  | m + 1, h => by
    have := dVal_lt s a m (fun j hj => h j (by omega)); have := h m (by omega); rw [dVal, Int.pow_succ]; omega
theorem run_all (p : Int → Bool) (s : ByteArray) : ∀ (m e j : Nat), e ≤ j → j < runEnd p s m e → p (bAt s j) = true
  | 0, e, j, h1, h2 => by simp [runEnd] at h2; omega
  | m + 1, e, j, h1, h2 => by
    rw [runEnd] at h2; split at h2
    · by_cases hj : j = e
      · subst hj; assumption
      · exact run_all p s m (e + 1) j (by omega) h2
    · omega
theorem pDig_bd {s : ByteArray} {a e : Nat} {n : Int} (h : pDig s a = some (n, e)) : a < e ∧ e ≤ s.size ∧ 0 ≤ n ∧ n < 10000000000000000 := by
  unfold pDig at h
  simp only at h
  obtain ⟨E, hE⟩ : ∃ E, E = runEnd isD s (s.size - a) a := ⟨_, rfl⟩
  rw [← hE] at h
  split at h
  · cases h
  · rename_i hc
    simp only [Option.some.injEq, Prod.mk.injEq] at h
    obtain ⟨rfl, rfl⟩ := h
    have hle := run_le isD s (s.size - a) a
    rw [← hE] at hle
    have hd : ∀ j, j < E - a → isD (bAt s (a + j)) = true := fun j hj => run_all isD s (s.size - a) a (a + j) (by omega) (by rw [← hE]; omega)
    have hlt : a < E := by omega
    have hlast := isD_lt (hd (E - a - 1) (by omega))
    refine ⟨hlt, by omega, dVal_nonneg _ _ _ (fun j hj => (isD_lt (hd j hj)).2.1), ?_⟩
    have h1 := dVal_lt s a (E - a) (fun j hj => (isD_lt (hd j hj)).2.2)
    have h2 := pow_le16 (E - a) (by omega)
    omega

def numRet (a : Nat) : Option (Int × Nat) → Value
  | some (n, e) => .tuple #[.int .i64 n, .int .i64 e, .bool true]
  | none => .tuple #[.int .i64 0, .int .i64 a, .bool false]

theorem pNum_bd {s : ByteArray} {a e : Nat} {n : Int} (h : pNum s a = some (n, e)) : a < e ∧ e ≤ s.size ∧ -10000000000000000 < n ∧ n < 10000000000000000 := by
  unfold pNum at h
  split at h
  · split at h
    · cases h
    · rename_i n' e' hd
      have := pDig_bd hd
      split at h
      · cases h
      · simp only [Option.some.injEq, Prod.mk.injEq] at h
        omega
  · have := pDig_bd h; omega

theorem parseDigits_some {s : ByteArray} {a : Nat} {n : Int} {e : Nat} (h : pDig s a = some (n, e)) (w : World) (hs : s.size ≤ 9000000) (ha : a ≤ s.size + 1) :
    Calls Tryd.prog 106 #[.string s, .int .i64 a] w fun r w' => r = .returned (.tuple #[.int .i64 n, .int .i64 e, .bool true]) ∧ w' = w := by
  have := parseDigits_any s a w hs ha; rw [h] at this; exact this
theorem parseDigits_none {s : ByteArray} {a : Nat} (h : pDig s a = none) (w : World) (hs : s.size ≤ 9000000) (ha : a ≤ s.size + 1) :
    Calls Tryd.prog 106 #[.string s, .int .i64 a] w fun r w' => r = .returned (.tuple #[.int .i64 0, .int .i64 a, .bool false]) ∧ w' = w := by
  have := parseDigits_any s a w hs ha; rw [h] at this; exact this

set_option maxHeartbeats 1000000 in
theorem parseNumber_any (s : ByteArray) (a : Nat) (w : World) (_hs : s.size ≤ 9000000) (ha : a ≤ s.size) :
    Calls Tryd.prog 97 #[.string s, .int .i64 a] w fun e w' => e = .returned (numRet a (pNum s a)) ∧ w' = w := by
  by_cases hm : bAt s a = 45
  · have hm' : (bAt s a == 45) = true := by simp [hm]
    have HM : Hid (bAt s a = 45) := hm
    clear hm
    cases hp : pDig s (a + 1) with
    | none =>
      have hr : Hid (pNum s a = none) := by show _ = _; unfold pNum; rw [if_pos HM.out, hp]
      have hd := fun w => parseDigits_none hp w _hs (by omega)
      clear hp
      go_enter Tryd.func97, Tryd.ntmps97
      go_wp2_with (first | (go_at_call 73; refine (byteAt_any _ _ _ _hs).mono ?_; rintro e w' ⟨rfl, rfl⟩) | (go_at_call 106; refine (hd _).mono ?_; rintro e w' ⟨rfl, rfl⟩))
      go_ret3
      rw [hr.out]
      exact ⟨rfl, rfl⟩
    | some p =>
      obtain ⟨n, e⟩ := p
      have hb := pDig_bd hp
      obtain ⟨hb1, hb2, hb3, hb4⟩ := hb
      have hd := fun w => parseDigits_some hp w _hs (by omega)
      by_cases h0 : n = 0
      · subst h0
        have hr : Hid (pNum s a = none) := by show _ = _; unfold pNum; rw [if_pos HM.out, hp]; rfl
        clear hp
        go_enter Tryd.func97, Tryd.ntmps97
        go_wp2_with (first | (go_at_call 73; refine (byteAt_any _ _ _ _hs).mono ?_; rintro e w' ⟨rfl, rfl⟩) | (go_at_call 106; refine (hd _).mono ?_; rintro e w' ⟨rfl, rfl⟩))
        go_ret3
        rw [hr.out]
        exact ⟨rfl, rfl⟩
      · have hr : Hid (pNum s a = some (-n, e)) := by show _ = _; unfold pNum; rw [if_pos HM.out, hp]; simp only [if_neg h0]
        have h0' : (n == 0) = false := by simpa using h0
        clear hp
        go_enter Tryd.func97, Tryd.ntmps97
        go_wp2_with (first | (go_at_call 73; refine (byteAt_any _ _ _ _hs).mono ?_; rintro e w' ⟨rfl, rfl⟩) | (go_at_call 106; refine (hd _).mono ?_; rintro e w' ⟨rfl, rfl⟩))
        go_ret3
        rw [hr.out]
        exact ⟨rfl, rfl⟩
  · have hm' : (bAt s a == 45) = false := by simpa using hm
    have hr : Hid (pNum s a = pDig s a) := by show _ = _; unfold pNum; rw [if_neg hm]
    cases hp : pDig s a with
    | none =>
      rw [hp] at hr
      have hd := fun w => parseDigits_none hp w _hs (by omega)
      clear hp
      go_enter Tryd.func97, Tryd.ntmps97
      go_wp2_with (first | (go_at_call 73; refine (byteAt_any _ _ _ _hs).mono ?_; rintro e w' ⟨rfl, rfl⟩) | (go_at_call 106; refine (hd _).mono ?_; rintro e w' ⟨rfl, rfl⟩))
      go_ret3
      rw [hr.out]
      exact ⟨rfl, rfl⟩
    | some p =>
      obtain ⟨n, e⟩ := p
      rw [hp] at hr
      have hb := pDig_bd hp
      obtain ⟨hb1, hb2, hb3, hb4⟩ := hb
      have hd := fun w => parseDigits_some hp w _hs (by omega)
      clear hp
      go_enter Tryd.func97, Tryd.ntmps97
      go_wp2_with (first | (go_at_call 73; refine (byteAt_any _ _ _ _hs).mono ?_; rintro e w' ⟨rfl, rfl⟩) | (go_at_call 106; refine (hd _).mono ?_; rintro e w' ⟨rfl, rfl⟩))
      go_ret3
      rw [hr.out]
      exact ⟨rfl, rfl⟩

set_option maxRecDepth 10000 in
set_option maxHeartbeats 1000000 in
theorem numberData_any (n : Int) (w : World) (h1 : -10000000000000000 ≤ n) (h2 : n ≤ 10000000000000000) :
    Calls Tryd.prog 98 #[.int .i64 n] w fun e w' => e = .returned (.string (numData n)) ∧ Below w.heap.size w w' := by
  obtain ⟨U, hU⟩ : ∃ U, U = zig n := ⟨_, rfl⟩
  obtain ⟨D, hD⟩ : ∃ D, D = numData n := ⟨_, rfl⟩
  rw [← hD]
  have HD : Hid (D = codU 8 ByteArray.empty U) := by show _ = _; rw [hD, hU]; rfl
  have hUb : U ≤ 20000000000000000 := by rw [hU]; unfold zig; split <;> omega
  clear hD
  by_cases hn : n < 0
  all_goals
    have hUn : Hid ((U : Int) = if n < 0 then -2 * n - 1 else 2 * n) := by show _ = _; rw [hU]; unfold zig; split <;> omega
    clear hU
    go_enter Tryd.func98, Tryd.ntmps98
    go_wp2_with fail
    go_loopw [3, 4] (fun u d wr => ∃ (m v : Nat) (acc : ByteArray), m ≤ 8 ∧ acc.size + m = 8 ∧ u = .int .i64 v ∧ d = .string acc ∧ v ≤ 20000000000000000 ∧ Hid (D = codU m acc v) ∧ Hid (v < 128 ^ (m + 1)) ∧ Below w.heap.size w wr) (fun u _ _ => (intOf u).toNat)
    case atStart =>
      refine ⟨8, U, ByteArray.empty, Nat.le_refl _, rfl, v_int ?_, rfl, hUb, HD, ?_, Below.refl _ _⟩
      · rw [hUn.out]; first | rw [if_pos hn] | rw [if_neg (by omega)]
      · show U < 128 ^ 9; omega
    case round =>
      obtain ⟨m, v, acc, hm, hacc, rfl, rfl, hv, hD, hlt, hb⟩ := hrel
      by_cases hge : 128 ≤ v
      · have hm1 : 0 < m := by
          rcases Nat.eq_zero_or_pos m with h | h
          · subst h; have := hlt.out; omega
          · exact h
        obtain ⟨m', rfl⟩ : ∃ m', m = m' + 1 := ⟨m - 1, by omega⟩
        have hsz : (oneB ((v : Int) % 128 + 128).toNat).size = 1 := rfl
        go_wp2_with (go_at_call 79; refine (oneByte_int _ _ (by omega) (by omega)).mono ?_; rintro e w' ⟨rfl, hb'⟩)
        go_roundw
        case rel =>
          refine ⟨m', v / 128, acc ++ oneB ((v : Int) % 128 + 128).toNat, by omega, by rw [ByteArray.size_append, hsz]; omega, by go_num, rfl, by omega, ?_, ?_, hb.trans (hb'.mono hb.size)⟩
          · show _ = _
            rw [hD.out, codU, if_pos hge, show ((v : Int) % 128 + 128).toNat = v % 128 + 128 by omega]
          · show _ < _
            have := hlt.out
            rw [Nat.pow_succ] at this
            omega
        case measure => simp [intOf]; omega
      · have hsz : (oneB v).size = 1 := rfl
        go_wp2_with (go_at_call 79; refine (oneByte_any _ _ (by omega)).mono ?_; rintro e w' ⟨rfl, hb'⟩)
        go_ret
        refine ⟨ret_str ?_, hb.trans (hb'.mono hb.size)⟩
        rw [hD.out]
        cases m with
        | zero => rfl
        | succ m => rw [codU, if_neg hge]
end Go.Proofs.YtkkekopomiehlaaDoor
