import Derived.Test.YtkkekopomiehlaaDoorNums2
set_option linter.unusedVariables false
set_option linter.unusedSimpArgs false
namespace Go.Proofs.YtkkekopomiehlaaDoor
open Go.RowKit

def encRet (a : Nat) : Option (ByteArray × Nat) → Value
  | some (d, k) => .tuple #[.string d, .int .i64 k, .bool true]
  | none => .tuple #[.string ByteArray.empty, .int .i64 a, .bool false]

theorem parseNumber_some {s : ByteArray} {a : Nat} {n : Int} {e : Nat} (h : pNum s a = some (n, e)) (w : World) (hs : s.size ≤ 9000000) (ha : a ≤ s.size) :
    Calls Tryd.prog 97 #[.string s, .int .i64 a] w fun r w' => r = .returned (.tuple #[.int .i64 n, .int .i64 e, .bool true]) ∧ w' = w := by
  have := parseNumber_any s a w hs ha; rw [h] at this; exact this
theorem parseNumber_none {s : ByteArray} {a : Nat} (h : pNum s a = none) (w : World) (hs : s.size ≤ 9000000) (ha : a ≤ s.size) :
    Calls Tryd.prog 97 #[.string s, .int .i64 a] w fun r w' => r = .returned (.tuple #[.int .i64 0, .int .i64 a, .bool false]) ∧ w' = w := by
  have := parseNumber_any s a w hs ha; rw [h] at this; exact this

theorem pNum_out {s : ByteArray} {a : Nat} (h : s.size ≤ a) : pNum s a = none := by
  have hb := bAt_out s a h
  unfold pNum pDig
  rw [hb, show s.size - a = 0 by omega]
  simp [runEnd]

set_option maxHeartbeats 1000000 in
theorem encodeNumber_any (lo hi : Int) (s : ByteArray) (a : Nat) (w : World) (_hs : s.size ≤ 9000000) (ha : a ≤ s.size) :
    Calls Tryd.prog 67 #[.int .i64 lo, .int .i64 hi, .string s, .int .i64 a] w fun e w' => e = .returned (encRet a (encNum false lo hi s a)) ∧ Below w.heap.size w w' := by
  cases hp : pNum s a with
  | none =>
    have hr : Hid (encNum false lo hi s a = none) := by show _ = _; unfold encNum; rw [hp]
    have hd := fun w => parseNumber_none hp w _hs ha
    clear hp
    go_enter Tryd.func67, Tryd.ntmps67
    go_wp2_with (go_at_call 97; refine (hd _).mono ?_; rintro e w' ⟨rfl, rfl⟩)
    go_ret3
    rw [hr.out]
    exact ⟨rfl, Below.refl _ _⟩
  | some p =>
    obtain ⟨n, e⟩ := p
    obtain ⟨hb1, hb2, hb3, hb4⟩ := pNum_bd hp
    have hd := fun w => parseNumber_some hp w _hs ha
    by_cases hlo : n < lo
    · have hr : Hid (encNum false lo hi s a = none) := by show _ = _; unfold encNum; rw [hp]; simp [hlo]
      clear hp
      go_enter Tryd.func67, Tryd.ntmps67
      go_wp2_with (go_at_call 97; refine (hd _).mono ?_; rintro e w' ⟨rfl, rfl⟩)
      go_ret3
      rw [hr.out]
      exact ⟨rfl, Below.refl _ _⟩
    · by_cases hhi : hi < n
      · have hr : Hid (encNum false lo hi s a = none) := by show _ = _; unfold encNum; rw [hp]; simp [hhi]
        clear hp
        go_enter Tryd.func67, Tryd.ntmps67
        go_wp2_with (go_at_call 97; refine (hd _).mono ?_; rintro e w' ⟨rfl, rfl⟩)
        go_ret3
        rw [hr.out]
        exact ⟨rfl, Below.refl _ _⟩
      · have hr : Hid (encNum false lo hi s a = some (numData n, e)) := by show _ = _; unfold encNum; rw [hp]; simp [hlo, hhi]
        clear hp
        go_enter Tryd.func67, Tryd.ntmps67
        go_wp2_with (first | (go_at_call 97; refine (hd _).mono ?_; rintro e w' ⟨rfl, rfl⟩) | (go_at_call 98; refine (numberData_any _ _ (by omega) (by omega)).mono ?_; rintro e w' ⟨rfl, hbw⟩))
        go_ret3
        rw [hr.out]
        exact ⟨rfl, hbw⟩

theorem pFrom_lt (l : ByteArray) (c : Int) : ∀ m k, pFrom l c m k < (k + m : Int) ∨ pFrom l c m k < 0
  | 0, k => by simp [pFrom]
  | m + 1, k => by
    rw [pFrom]; split
    · left; omega
    · have := pFrom_lt l c m (k + 1); omega
theorem pFrom_ge (l : ByteArray) (c : Int) : ∀ m k, -1 ≤ pFrom l c m k
  | 0, k => by simp [pFrom]
  | m + 1, k => by
    rw [pFrom]; split
    · omega
    · exact pFrom_ge l c m (k + 1)
theorem pOf_bd (l : ByteArray) (c : Int) (h : l.size ≤ 8) : -1 ≤ pOf l c ∧ pOf l c < 8 := by
  have h1 := pFrom_lt l c l.size 0; have h2 := pFrom_ge l c l.size 0; unfold pOf; omega

def encCho (l t : ByteArray) (j : Nat) : Option (ByteArray × Nat) := if pOf l (bAt t j) < 0 then none else some (oneB (pOf l (bAt t j)).toNat, j + 1)

set_option maxHeartbeats 1000000 in
theorem encodeChoice_any (l s : ByteArray) (a : Nat) (w : World) (_hs : s.size ≤ 9000000) (hl : l.size ≤ 8) (ha : a ≤ s.size) :
    Calls Tryd.prog 69 #[.string l, .string s, .int .i64 a] w fun e w' => e = .returned (encRet a (encCho l s a)) ∧ Below w.heap.size w w' := by
  have hp := pOf_bd l (bAt s a) hl
  obtain ⟨hp1, hp2⟩ := hp
  by_cases h0 : pOf l (bAt s a) < 0
  · have hr : Hid (encCho l s a = none) := by show _ = _; unfold encCho; rw [if_pos h0]
    go_enter Tryd.func69, Tryd.ntmps69
    go_wp2_with (first | (go_at_call 73; refine (byteAt_any _ _ _ _hs).mono ?_; rintro e w' ⟨rfl, rfl⟩) | (go_at_call 77; refine (placeOf_any _ _ _ (by omega)).mono ?_; rintro e w' ⟨rfl, rfl⟩))
    go_ret3
    rw [hr.out]
    exact ⟨rfl, Below.refl _ _⟩
  · have hr : Hid (encCho l s a = some (oneB (pOf l (bAt s a)).toNat, a + 1)) := by show _ = _; unfold encCho; rw [if_neg h0]
    go_enter Tryd.func69, Tryd.ntmps69
    go_wp2_with (first | (go_at_call 73; refine (byteAt_any _ _ _ _hs).mono ?_; rintro e w' ⟨rfl, rfl⟩) | (go_at_call 77; refine (placeOf_any _ _ _ (by omega)).mono ?_; rintro e w' ⟨rfl, rfl⟩) | (go_at_call 79; refine (oneByte_int _ _ (by omega) (by omega)).mono ?_; rintro e w' ⟨rfl, hbw⟩))
    go_ret3
    rw [hr.out]
    exact ⟨rfl, hbw⟩

set_option maxHeartbeats 1000000 in
theorem encodeString_any (s : ByteArray) (a : Nat) (w : World) (_hs : s.size ≤ 9000000) (ha : a ≤ s.size) :
    Calls Tryd.prog 68 #[.string s, .int .i64 a] w fun e w' => e = .returned (encRet a (encStr s a)) ∧ Below w.heap.size w w' := by
  by_cases hq : bAt s a = 34
  · have hq' : (bAt s a != 34) = false := by simp [hq]
    obtain ⟨E, hE⟩ : ∃ E, E = runEnd inS s (s.size - (a + 1)) (a + 1) := ⟨_, rfl⟩
    have HE : Hid (E = runEnd inS s (s.size - (a + 1)) (a + 1)) := hE
    have hr : Hid (encStr s a = if bAt s E = 34 ∧ E - (a + 1) ≤ 60 then some (oneB (E - (a + 1)) ++ s.extract (a + 1) E, E + 1) else none) := by show _ = _; unfold encStr; rw [if_pos hq, ← hE]
    have hal : a < s.size := bAt_lt (by omega)
    clear hq hE
    go_enter Tryd.func68, Tryd.ntmps68
    go_wp2_with (go_at_call 73; refine (byteAt_any _ _ _ _hs).mono ?_; rintro e w' ⟨rfl, rfl⟩)
    go_loop [8] (fun i => ∃ k : Nat, a + 1 ≤ k ∧ k ≤ s.size ∧ i = .int .i64 k ∧ Hid (E = runEnd inS s (s.size - k) k)) (fun i => s.size - (intOf i).toNat)
    case atStart => exact ⟨a + 1, Nat.le_refl _, by omega, by go_num, HE⟩
    case round =>
      obtain ⟨k, hak, hk, rfl, hp⟩ := hrel
      cases hd : inS (bAt s k) with
      | true =>
        have hlt := inS_lt hd
        go_wp2_with (first | (go_at_call 73; refine (byteAt_any _ _ _ _hs).mono ?_; rintro e w' ⟨rfl, rfl⟩) | (go_at_call 93; refine (inString_any _ _).mono ?_; rintro e w' ⟨rfl, rfl⟩))
        go_round
        case rel => exact ⟨k + 1, by omega, by omega, by go_num, run_step _ _ _ _ hp.out hlt hd⟩
        case measure => simp [intOf]; omega
      | false =>
        have hEk : E = k := run_stop _ _ _ _ hp.out hd
        rw [hEk] at hr
        clear HE hp hEk
        by_cases hq2 : bAt s k = 34
        · have hq2' : (bAt s k != 34) = false := by simp [hq2]
          by_cases h60 : (60 : Int) < (k : Int) - ((a : Int) + 1)
          · have hr' : Hid (encStr s a = none) := by show _ = _; rw [hr.out, if_neg (by omega)]
            clear hr hq2
            go_wp2_with (first | (go_at_call 73; refine (byteAt_any _ _ _ _hs).mono ?_; rintro e w' ⟨rfl, rfl⟩) | (go_at_call 93; refine (inString_any _ _).mono ?_; rintro e w' ⟨rfl, rfl⟩))
            go_ret3
            rw [hr'.out]
            exact ⟨rfl, Below.refl _ _⟩
          · have hr' : Hid (encStr s a = some (oneB (k - (a + 1)) ++ s.extract (a + 1) k, k + 1)) := by show _ = _; rw [hr.out, if_pos ⟨hq2, by omega⟩]
            have hsz : (oneB ((k : Int) - ((a : Int) + 1)).toNat).size = 1 := rfl
            have hsx := size_extract s (a + 1) k (by omega) (by omega)
            clear hr hq2
            go_wp2_with (first | (go_at_call 73; refine (byteAt_any _ _ _ _hs).mono ?_; rintro e w' ⟨rfl, rfl⟩) | (go_at_call 93; refine (inString_any _ _).mono ?_; rintro e w' ⟨rfl, rfl⟩) | (go_at_call 79; refine (oneByte_int _ _ (by omega) (by omega)).mono ?_; rintro e w' ⟨rfl, hbw⟩) | (go_at_call 75; refine (span_any s (a + 1) k _ (by omega) (by omega) _hs).mono ?_; rintro e w' ⟨rfl, rfl⟩))
            go_ret3
            rw [hr'.out]
            refine ⟨ret3 (v_str ?_) (v_int ?_) rfl, hbw⟩
            · rfl
            · omega
        · have hq2' : (bAt s k != 34) = true := by simpa using hq2
          have hr' : Hid (encStr s a = none) := by show _ = _; rw [hr.out, if_neg (fun h => hq2 h.1)]
          clear hr hq2
          go_wp2_with (first | (go_at_call 73; refine (byteAt_any _ _ _ _hs).mono ?_; rintro e w' ⟨rfl, rfl⟩) | (go_at_call 93; refine (inString_any _ _).mono ?_; rintro e w' ⟨rfl, rfl⟩))
          go_ret3
          rw [hr'.out]
          exact ⟨rfl, Below.refl _ _⟩
  · have hq' : (bAt s a != 34) = true := by simpa using hq
    have hr : Hid (encStr s a = none) := by show _ = _; unfold encStr; rw [if_neg hq]
    clear hq
    go_enter Tryd.func68, Tryd.ntmps68
    go_wp2_with (go_at_call 73; refine (byteAt_any _ _ _ _hs).mono ?_; rintro e w' ⟨rfl, rfl⟩)
    go_ret3
    rw [hr.out]
    exact ⟨rfl, Below.refl _ _⟩
end Go.Proofs.YtkkekopomiehlaaDoor
