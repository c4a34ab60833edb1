import Derived.Test.YtkkekopomiehlaaDoorRef1
set_option linter.unusedVariables false
set_option linter.unusedSimpArgs false
set_option maxRecDepth 4000
namespace Go.Proofs.YtkkekopomiehlaaDoor
open Go.RowKit

/-- The decimal digits of a number. -/
def decS : Nat → Nat → ByteArray
  | 0, n => oneB (48 + n)
  | m + 1, n => if n < 10 then oneB (48 + n) else decS m (n / 10) ++ oneB (48 + n % 10)
theorem decS_size : ∀ m n, (decS m n).size ≤ m + 1
  | 0, n => by rw [decS, oneB_size]; omega
  | m + 1, n => by
    rw [decS]; split
    · rw [oneB_size]; omega
    · have := decS_size m (n / 10); rw [ByteArray.size_append, oneB_size]; omega
theorem conv_byte (W : World) (b n : Nat) (hn : n < 256) (h : W.cell? ⟨b, 0, none⟩ = some (.int .u8 n)) :
    (convert 59 9 (.slice (some ⟨b, 0, none⟩) 1 1)).run Tryd.prog W = .ok (.string (oneB n)) W := by
  have hc := run_convert_bytes_arg (P := Tryd.prog) W 59 5 (Tryd.underlying59) (Tryd.underlying5) b 0 1 1 [(n : Int)] rfl (fun i hi => by cases i with | zero => simpa using h | succ => omega) 9 (Tryd.underlying9)
  rw [hc]
  simp [oneB, strOfNums]

set_option maxHeartbeats 1000000 in
theorem digits_any : ∀ (m n : Nat) (w : World), m ≤ 20 → n ≤ 1000000000000000000 → n < 10 ^ (m + 1) →
    Calls Tryd.prog 96 #[.int .i64 n] w fun e w' => e = .returned (.string (decS m n)) ∧ Below w.heap.size w w' := by
  intro m
  induction m with
  | zero =>
    intro n w hm hn h1
    have h10 : n < 10 := by simpa using h1
    have hr : Hid (decS 0 n = oneB (48 + n)) := rfl
    clear h1
    have hc := conv_byte (w.alloc (.cells #[.int .u8 (48 + n : Nat)] 5)) w.heap.size (48 + n) (by omega) (cell_last rfl rfl)
    simp only [Int.natCast_add, Int.cast_ofNat_Int] at hc
    go_enter Tryd.func96, Tryd.ntmps96
    go_wp2_with fail
    go_ret
    exact ⟨ret_str hr.out.symm, (Below.refl _ _).alloc (Nat.le_refl _) _⟩
  | succ m ih =>
    intro n w hm hn h1
    by_cases h10 : n < 10
    · have hr : Hid (decS (m + 1) n = oneB (48 + n)) := by show _ = _; rw [decS, if_pos h10]
      clear h1
      have hc := conv_byte (w.alloc (.cells #[.int .u8 (48 + n : Nat)] 5)) w.heap.size (48 + n) (by omega) (cell_last rfl rfl)
      simp only [Int.natCast_add, Int.cast_ofNat_Int] at hc
      go_enter Tryd.func96, Tryd.ntmps96
      go_wp2_with fail
      go_ret
      exact ⟨ret_str hr.out.symm, (Below.refl _ _).alloc (Nat.le_refl _) _⟩
    · have hr : Hid (decS (m + 1) n = decS m (n / 10) ++ oneB (48 + n % 10)) := by show _ = _; rw [decS, if_neg h10]
      have hcall := fun w => ih (n / 10) w (by omega) (by omega) (by rw [Nat.pow_succ] at h1; omega)
      have hsz := decS_size m (n / 10)
      have hs1 : (oneB (48 + n % 10)).size = 1 := rfl
      clear h1 ih
      simp only [Int.natCast_ediv, Int.cast_ofNat_Int] at hcall
      have hconv := fun (W : World) (b : Nat) (h : W.cell? ⟨b, 0, none⟩ = some (.int .u8 (48 + (n : Int) % 10))) => conv_byte W b (48 + n % 10) (by omega) (by rw [h]; simp)
      have ht : (n : Int).tmod 10 = (n : Int) % 10 := Int.tmod_eq_emod_of_nonneg (by omega)
      have hw1 : IntKind.i64.wrap ((n : Int) / 10) = (n : Int) / 10 := by rw [IntKind.wrap_i64]; omega
      have hw2 : IntKind.i64.wrap ((n : Int) % 10) = (n : Int) % 10 := by rw [IntKind.wrap_i64]; omega
      have hw3 : IntKind.i64.wrap (48 + (n : Int) % 10) = 48 + (n : Int) % 10 := by rw [IntKind.wrap_i64]; omega
      have hw4 : IntKind.u8.wrap (48 + (n : Int) % 10) = 48 + (n : Int) % 10 := by rw [IntKind.wrap_u8]; omega
      go_enter Tryd.func96, Tryd.ntmps96
      go_wp2_with fail
      go_region_with (go_at_call 96; refine (hcall _).mono ?_; rintro e w1 ⟨rfl, hb1⟩; obtain ⟨hc1, hf1⟩ := bcell hb1)
      all_goals
        go_wp2_with fail
        go_ret
        refine ⟨ret_str hr.out.symm, ?_⟩
        first | exact Below.trans (((Below.refl _ _).alloc (Nat.le_refl _) _).drew) (hb1.mono (by simp)) | exact Below.alloc' ((Below.refl w.heap.size w).drew.trans (hb1.mono (by simp))) _

def decI (n : Int) : ByteArray := if n < 0 then ⟨#[45]⟩ ++ decS 18 (-n).toNat else decS 18 n.toNat
theorem digits_int (x : Int) (w : World) (h0 : 0 ≤ x) (h1 : x ≤ 1000000000000000000) :
    Calls Tryd.prog 96 #[.int .i64 x] w fun e w' => e = .returned (.string (decS 18 x.toNat)) ∧ Below w.heap.size w w' := by
  obtain ⟨n, rfl⟩ : ∃ n : Nat, x = n := ⟨x.toNat, by omega⟩
  exact digits_any 18 n w (by omega) (by omega) (by omega)

set_option maxHeartbeats 1000000 in
theorem decimal_any (n : Int) (w : World) (h1 : -1000000000000000000 ≤ n) (h2 : n ≤ 1000000000000000000) :
    Calls Tryd.prog 64 #[.int .i64 n] w fun e w' => e = .returned (.string (decI n)) ∧ Below w.heap.size w w' := by
  by_cases hn : n < 0
  · have hr : Hid (decI n = ⟨#[45]⟩ ++ decS 18 (-n).toNat) := by show _ = _; unfold decI; rw [if_pos hn]
    have hsz := decS_size 18 (-n).toNat
    have hs1 : (⟨#[45]⟩ : ByteArray).size = 1 := rfl
    go_enter Tryd.func64, Tryd.ntmps64
    go_wp2_with (go_at_call 96; refine (digits_int _ _ (by omega) (by omega)).mono ?_; rintro e w1 ⟨rfl, hb1⟩)
    go_ret
    exact ⟨ret_str hr.out.symm, hb1⟩
  · have hr : Hid (decI n = decS 18 n.toNat) := by show _ = _; unfold decI; rw [if_neg hn]
    go_enter Tryd.func64, Tryd.ntmps64
    go_wp2_with (go_at_call 96; refine (digits_int _ _ (by omega) (by omega)).mono ?_; rintro e w1 ⟨rfl, hb1⟩)
    go_ret
    exact ⟨ret_str hr.out.symm, hb1⟩

set_option maxRecDepth 10000 in
set_option maxHeartbeats 1000000 in
theorem coded_any (n : Int) (w : World) (h1 : -40000000000000000 ≤ n) (h2 : n ≤ 40000000000000000) :
    Calls Tryd.prog 63 #[.int .i64 n] w fun e w' => e = .returned (.string (numData n)) ∧ Below w.heap.size w w' := by
  obtain ⟨U, hU⟩ : ∃ U, U = zig n := ⟨_, rfl⟩
  obtain ⟨D, hD⟩ : ∃ D, D = numData n := ⟨_, rfl⟩
  rw [← hD]
  have HD : Hid (D = codU 8 ByteArray.empty U) := by show _ = _; rw [hD, hU]; rfl
  have hUb : U ≤ 80000000000000000 := by rw [hU]; unfold zig; split <;> omega
  clear hD
  by_cases hn : n < 0
  all_goals
    have hUn : Hid ((U : Int) = if n < 0 then -2 * n - 1 else 2 * n) := by show _ = _; rw [hU]; unfold zig; split <;> omega
    clear hU
    go_enter Tryd.func63, Tryd.ntmps63
    go_wp2_with fail
    go_loopw [3, 4] (fun u d wr => ∃ (m v : Nat) (acc : ByteArray), m ≤ 8 ∧ acc.size + m = 8 ∧ u = .int .i64 v ∧ d = .string acc ∧ v ≤ 80000000000000000 ∧ Hid (D = codU m acc v) ∧ Hid (v < 128 ^ (m + 1)) ∧ Below w.heap.size w wr) (fun u _ _ => (intOf u).toNat)
    case atStart =>
      refine ⟨8, U, ByteArray.empty, Nat.le_refl _, rfl, v_int ?_, rfl, hUb, HD, ?_, Below.refl _ _⟩
      · rw [hUn.out]; first | rw [if_pos hn] | rw [if_neg (by omega)]
      · show U < 128 ^ 9; omega
    case round =>
      obtain ⟨m, v, acc, hm, hacc, rfl, rfl, hv, hD, hlt, hb⟩ := hrel
      by_cases hge : 128 ≤ v
      · have hm1 : 0 < m := by
          rcases Nat.eq_zero_or_pos m with h | h
          · subst h; have := hlt.out; omega
          · exact h
        obtain ⟨m', rfl⟩ : ∃ m', m = m' + 1 := ⟨m - 1, by omega⟩
        have hsz : (oneB ((v : Int) % 128 + 128).toNat).size = 1 := rfl
        go_wp2_with (go_at_call 95; refine (one_int _ _ (by omega) (by omega)).mono ?_; rintro e w' ⟨rfl, hb'⟩)
        go_roundw
        case rel =>
          refine ⟨m', v / 128, acc ++ oneB ((v : Int) % 128 + 128).toNat, by omega, by rw [ByteArray.size_append, hsz]; omega, by go_num, rfl, by omega, ?_, ?_, hb.trans (hb'.mono hb.size)⟩
          · show _ = _
            rw [hD.out, codU, if_pos hge, show ((v : Int) % 128 + 128).toNat = v % 128 + 128 by omega]
          · show _ < _
            have := hlt.out
            rw [Nat.pow_succ] at this
            omega
        case measure => simp [intOf]; omega
      · have hsz : (oneB v).size = 1 := rfl
        go_wp2_with (go_at_call 95; refine (one_any _ _ (by omega)).mono ?_; rintro e w' ⟨rfl, hb'⟩)
        go_ret
        refine ⟨ret_str ?_, hb.trans (hb'.mono hb.size)⟩
        rw [hD.out]
        cases m with
        | zero => rfl
        | succ m => rw [codU, if_neg hge]
end Go.Proofs.YtkkekopomiehlaaDoor
