import Derived.Test.YtkkekopomiehlaaGreatParse6
import Derived.Test.YtkkekopomiehlaaGreatRep
import Derived.Test.YtkkekopomiehlaaGreatEncBd
import Derived.Test.YtkkekopomiehlaaGreatEncRec
set_option linter.unusedVariables false
set_option linter.unusedSimpArgs false
namespace Go.Proofs.YtkkekopomiehlaaGreat
section
open Go.RowKit

/-- Is the byte at a place (which may be -1) this one? -/
def atB (s : ByteArray) (x c : Int) : Bool := decide (0 ≤ x) && (bAt s x.toNat == c)
theorem atB_nat (s : ByteArray) (i : Nat) (c : Int) : atB s i c = (bAt s i == c) := by simp [atB]
theorem atB_of {s : ByteArray} {x : Int} {i : Nat} (h : x = i) (c : Int) : atB s x c = (bAt s i == c) := by rw [h, atB_nat]
theorem atB_yes {s : ByteArray} {x : Int} {i : Nat} {c : Int} (h : x = i) (hb : bAt s i = c) : atB s x c = true := by rw [atB_of h, hb]; simp
theorem atB_no {s : ByteArray} {x : Int} {i : Nat} {c : Int} (h : x = i) (hb : ¬ bAt s i = c) : atB s x c = false := by rw [atB_of h]; simpa using hb
theorem atB_neg (s : ByteArray) (c : Int) : atB s (-1) c = false := rfl

set_option maxHeartbeats 400000 in
theorem at_any (s : ByteArray) (x c : Int) (w : World) (hc : 0 ≤ c) (_hs : s.size ≤ 9000000) :
    Calls Tryz.prog 93 #[.string s, .int .i64 x, .int .u8 c] w fun e w' => e = .returned (.bool (atB s x c)) ∧ w' = w := by
  by_cases h0 : 0 ≤ x
  · obtain ⟨i, rfl⟩ : ∃ n : Nat, x = n := ⟨x.toNat, by omega⟩
    by_cases hi : i < s.size
    · have hr : Hid (atB s i c = ((s[i].toNat : Int) == c)) := by show _ = _; rw [atB_nat, bAt_in s i hi]
      go_enter Tryz.func93, Tryz.ntmps93
      go_wp2
      all_goals (go_ret; refine ⟨ret_bool ?_, rfl⟩; rw [hr.out]; try simp_all)
    · have hr : Hid (atB s i c = false) := by show _ = _; rw [atB_nat, bAt_out s i (by omega)]; simp; omega
      go_enter Tryz.func93, Tryz.ntmps93
      go_wp2
      go_ret; exact ⟨ret_bool (by rw [hr.out]; try (simp; omega)), rfl⟩
  · have hr : Hid (atB s x c = false) := by show _ = _; unfold atB; simp [h0]
    go_enter Tryz.func93, Tryz.ntmps93
    go_wp2
    go_ret; exact ⟨ret_bool (by rw [hr.out]; try (simp; omega)), rfl⟩

set_option maxHeartbeats 400000 in
theorem risLetter_any (b : Int) (w : World) :
    Calls Tryz.prog 114 #[.int .u8 b] w fun e w' => e = .returned (.bool (isL b)) ∧ w' = w := by
  go_enter Tryz.func114, Tryz.ntmps114
  go_wp2
  all_goals (go_ret; exact ⟨ret_bool (by simp [isL] <;> omega), rfl⟩)
set_option maxHeartbeats 400000 in
theorem printable_any (b : Int) (w : World) :
    Calls Tryz.prog 133 #[.int .u8 b] w fun e w' => e = .returned (.bool (inS b)) ∧ w' = w := by
  go_enter Tryz.func133, Tryz.ntmps133
  go_wp2
  all_goals (go_ret; exact ⟨ret_bool (by simp [inS] <;> omega), rfl⟩)
set_option maxHeartbeats 400000 in
theorem one_any (n : Nat) (w : World) (_hn : n < 256) :
    Calls Tryz.prog 95 #[.int .i64 n] w fun e w' => e = .returned (.string (oneB n)) ∧ Below w.heap.size w w' := by
  have hc := run_convert_bytes_arg (P := Tryz.prog) (w.alloc (.cells #[.int .u8 n] 5)) 177 5 (Tryz.underlying177) (Tryz.underlying5) w.heap.size 0 1 1 [(n : Int)] rfl (fun i hi => by cases i with | zero => simp | succ => omega) 9 (Tryz.underlying9)
  go_enter Tryz.func95, Tryz.ntmps95
  go_wp2
  go_ret
  exact ⟨ret_str (by simp [oneB, strOfNums]), (Below.refl _ _).alloc (Nat.le_refl _) _⟩
theorem one_int (x : Int) (w : World) (h0 : 0 ≤ x) (h1 : x < 256) :
    Calls Tryz.prog 95 #[.int .i64 x] w fun e w' => e = .returned (.string (oneB x.toNat)) ∧ Below w.heap.size w w' := by
  obtain ⟨n, rfl⟩ : ∃ n : Nat, x = n := ⟨x.toNat, by omega⟩
  exact one_any n w (by omega)

set_option maxHeartbeats 400000 in
theorem letters_any (s : ByteArray) (i : Nat) (w : World) (_hs : s.size ≤ 9000000) (hi : i < s.size) :
    Calls Tryz.prog 91 #[.string s, .int .i64 i] w fun e w' => e = .returned (.string (s.extract (i + 1) (runEnd isL s (s.size - (i + 1)) (i + 1)))) ∧ w' = w := by
  obtain ⟨E, hE⟩ : ∃ E, E = runEnd isL s (s.size - (i + 1)) (i + 1) := ⟨_, rfl⟩
  rw [← hE]
  have HE : Hid (E = runEnd isL s (s.size - (i + 1)) (i + 1)) := hE
  clear hE
  go_enter Tryz.func91, Tryz.ntmps91
  go_wp2_with fail
  go_loop [5] (fun v => ∃ k : Nat, i + 1 ≤ k ∧ k ≤ s.size ∧ v = .int .i64 k ∧ Hid (E = runEnd isL s (s.size - k) k)) (fun v => s.size - (intOf v).toNat)
  case atStart => exact ⟨i + 1, Nat.le_refl _, hi, by go_num, HE⟩
  case round =>
    obtain ⟨k, hak, hk, rfl, hp⟩ := hrel
    by_cases hlt : k < s.size
    · have hbk : Hid (bAt s k = s[k].toNat) := bAt_in s k hlt
      cases hl : isL (s[k].toNat : Int) with
      | true =>
        go_wp2_with (go_at_call 114; refine (risLetter_any _ _).mono ?_; rintro e w' ⟨rfl, rfl⟩)
        go_round
        case rel => exact ⟨k + 1, by omega, by omega, by go_num, run_step _ _ _ _ hp.out hlt (by rw [hbk.out]; exact hl)⟩
        case measure => simp [intOf]; omega
      | false =>
        have hEk := run_stop _ _ _ _ hp.out (show isL (bAt s k) = false by rw [hbk.out]; exact hl)
        have HEk : Hid (E = k) := hEk
        clear hEk
        go_wp2_with (go_at_call 114; refine (risLetter_any _ _).mono ?_; rintro e w' ⟨rfl, rfl⟩)
        go_ret
        exact ⟨ret_str (by rw [HEk.out]), rfl⟩
    · have HEk : Hid (E = k) := run_stop _ _ _ _ hp.out (by rw [bAt_out s k (by omega)]; rfl)
      go_wp2_with fail
      go_ret
      exact ⟨ret_str (by rw [HEk.out]), rfl⟩

/-- Does a letter stand twice? -/
def tw (l : ByteArray) : Bool := (List.range l.size).any fun i => (List.range i).any fun j => bAt l i == bAt l j
theorem tw_true {l : ByteArray} {i j : Nat} (h1 : j < i) (h2 : i < l.size) (h : bAt l i = bAt l j) : tw l = true := by
  unfold tw; rw [List.any_eq_true]
  exact ⟨i, by simpa using h2, by rw [List.any_eq_true]; exact ⟨j, by simpa using h1, by simpa using h⟩⟩
theorem tw_false {l : ByteArray} (h : ∀ i j, j < i → i < l.size → bAt l i ≠ bAt l j) : tw l = false := by
  unfold tw; rw [List.any_eq_false]; intro i hi
  simp only [List.mem_range] at hi
  rw [Bool.not_eq_true, List.any_eq_false]
  intro j hj
  simp only [List.mem_range] at hj
  simpa using h i j hj hi

set_option maxHeartbeats 1000000 in
theorem twice_any (l : ByteArray) (w : World) (_hs : l.size ≤ 9000000) :
    Calls Tryz.prog 92 #[.string l] w fun e w' => e = .returned (.bool (tw l)) ∧ Below w.heap.size w w' := by
  go_enter Tryz.func92, Tryz.ntmps92
  go_wp2_with fail
  go_loopw [3] (fun v wr => ∃ i : Nat, i ≤ l.size ∧ v = .int .i64 i ∧ Hid (∀ a b, b < a → a < i → bAt l a ≠ bAt l b) ∧ Below w.heap.size w wr) (fun v _ => l.size - (intOf v).toNat)
  case atStart => exact ⟨0, Nat.zero_le _, rfl, fun a b _ h => by omega, Below.refl _ _⟩
  case round =>
    obtain ⟨i, hi, rfl, hno, hb⟩ := hrel
    by_cases hlt : i < l.size
    · have hbi : Hid (bAt l i = l[i].toNat) := bAt_in l i hlt
      obtain ⟨wo, rfl⟩ : ∃ wo : World, wo = wr := ⟨_, rfl⟩
      go_wp2_with fail
      go_loopw [4] (fun v wr => ∃ j : Nat, j ≤ i ∧ v = .int .i64 j ∧ Hid (∀ b, b < j → bAt l i ≠ bAt l b) ∧ Below w.heap.size w wr) (fun v _ => i - (intOf v).toNat)
      case atStart => exact ⟨0, Nat.zero_le _, rfl, fun b h => by omega, hb⟩
      case round =>
        obtain ⟨j, hj, rfl, hno2, hb2⟩ := hrel
        by_cases hlt2 : j < i
        · have hjl : j < l.size := by omega
          have hbj : Hid (bAt l j = l[j].toNat) := bAt_in l j hjl
          by_cases he : (l[i].toNat : Int) = l[j].toNat
          · have he' : ((l[i].toNat : Int) == (l[j].toNat : Int)) = true := by simpa using he
            have HE : Hid ((l[i].toNat : Int) = l[j].toNat) := he
            clear he
            go_wp2_with fail
            go_quiet (fail)
            go_wp2_with fail
            go_ret
            exact ⟨ret_bool (tw_true hlt2 hlt (by rw [hbi.out, hbj.out]; exact HE.out)).symm, below_drewN hb2 _⟩
          · have he' : ((l[i].toNat : Int) == (l[j].toNat : Int)) = false := by simpa using he
            have HE : Hid (¬ (l[i].toNat : Int) = l[j].toNat) := he
            clear he
            go_wp2_with fail
            go_quiet (fail)
            go_wp2_with fail
            go_roundw
            case rel =>
              refine ⟨j + 1, by omega, by go_num, ?_, below_drewN hb2 _⟩
              intro b hb3
              by_cases e : b = j
              · subst e; rw [hbi.out, hbj.out]; exact HE.out
              · exact hno2.out b (by omega)
            case measure => simp [intOf]; omega
        · go_wp2_with fail
          go_roundw
          case rel =>
            refine ⟨i + 1, by omega, by go_num, ?_, hb2⟩
            intro a b h1 h2
            by_cases e : a = i
            · subst e; exact hno2.out b (by omega)
            · exact hno.out a b h1 (by omega)
          case measure => simp [intOf]; omega
    · go_wp2_with fail
      go_ret
      exact ⟨ret_bool (tw_false (fun a b h1 h2 => hno.out a b h1 (by omega))).symm, hb⟩
end
section
set_option maxRecDepth 4000
open Go.RowKit

/-- The decimal digits of a number. -/
def decS : Nat → Nat → ByteArray
  | 0, n => oneB (48 + n)
  | m + 1, n => if n < 10 then oneB (48 + n) else decS m (n / 10) ++ oneB (48 + n % 10)
theorem decS_size : ∀ m n, (decS m n).size ≤ m + 1
  | 0, n => by rw [decS, oneB_size]; omega
  | m + 1, n => by
    rw [decS]; split
    · rw [oneB_size]; omega
    · have := decS_size m (n / 10); rw [ByteArray.size_append, oneB_size]; omega
theorem conv_byte (W : World) (b n : Nat) (hn : n < 256) (h : W.cell? ⟨b, 0, none⟩ = some (.int .u8 n)) :
    (convert 177 9 (.slice (some ⟨b, 0, none⟩) 1 1)).run Tryz.prog W = .ok (.string (oneB n)) W := by
  have hc := run_convert_bytes_arg (P := Tryz.prog) W 177 5 (Tryz.underlying177) (Tryz.underlying5) b 0 1 1 [(n : Int)] rfl (fun i hi => by cases i with | zero => simpa using h | succ => omega) 9 (Tryz.underlying9)
  rw [hc]
  simp [oneB, strOfNums]

set_option maxHeartbeats 1000000 in
theorem digits_any : ∀ (m n : Nat) (w : World), m ≤ 20 → n ≤ 1000000000000000000 → n < 10 ^ (m + 1) →
    Calls Tryz.prog 136 #[.int .i64 n] w fun e w' => e = .returned (.string (decS m n)) ∧ Below w.heap.size w w' := by
  intro m
  induction m with
  | zero =>
    intro n w hm hn h1
    have h10 : n < 10 := by simpa using h1
    have hr : Hid (decS 0 n = oneB (48 + n)) := rfl
    clear h1
    have hc := conv_byte (w.alloc (.cells #[.int .u8 (48 + n : Nat)] 5)) w.heap.size (48 + n) (by omega) (cell_last rfl rfl)
    simp only [Int.natCast_add, Int.cast_ofNat_Int] at hc
    go_enter Tryz.func136, Tryz.ntmps136
    go_wp2_with fail
    go_ret
    exact ⟨ret_str hr.out.symm, (Below.refl _ _).alloc (Nat.le_refl _) _⟩
  | succ m ih =>
    intro n w hm hn h1
    by_cases h10 : n < 10
    · have hr : Hid (decS (m + 1) n = oneB (48 + n)) := by show _ = _; rw [decS, if_pos h10]
      clear h1
      have hc := conv_byte (w.alloc (.cells #[.int .u8 (48 + n : Nat)] 5)) w.heap.size (48 + n) (by omega) (cell_last rfl rfl)
      simp only [Int.natCast_add, Int.cast_ofNat_Int] at hc
      go_enter Tryz.func136, Tryz.ntmps136
      go_wp2_with fail
      go_ret
      exact ⟨ret_str hr.out.symm, (Below.refl _ _).alloc (Nat.le_refl _) _⟩
    · have hr : Hid (decS (m + 1) n = decS m (n / 10) ++ oneB (48 + n % 10)) := by show _ = _; rw [decS, if_neg h10]
      have hcall := fun w => ih (n / 10) w (by omega) (by omega) (by rw [Nat.pow_succ] at h1; omega)
      have hsz := decS_size m (n / 10)
      have hs1 : (oneB (48 + n % 10)).size = 1 := rfl
      clear h1 ih
      simp only [Int.natCast_ediv, Int.cast_ofNat_Int] at hcall
      have hconv := fun (W : World) (b : Nat) (h : W.cell? ⟨b, 0, none⟩ = some (.int .u8 (48 + (n : Int) % 10))) => conv_byte W b (48 + n % 10) (by omega) (by rw [h]; simp)
      have ht : (n : Int).tmod 10 = (n : Int) % 10 := Int.tmod_eq_emod_of_nonneg (by omega)
      have hw1 : IntKind.i64.wrap ((n : Int) / 10) = (n : Int) / 10 := by rw [IntKind.wrap_i64]; omega
      have hw2 : IntKind.i64.wrap ((n : Int) % 10) = (n : Int) % 10 := by rw [IntKind.wrap_i64]; omega
      have hw3 : IntKind.i64.wrap (48 + (n : Int) % 10) = 48 + (n : Int) % 10 := by rw [IntKind.wrap_i64]; omega
      have hw4 : IntKind.u8.wrap (48 + (n : Int) % 10) = 48 + (n : Int) % 10 := by rw [IntKind.wrap_u8]; omega
      go_enter Tryz.func136, Tryz.ntmps136
      go_wp2_with fail
      go_region_with (go_at_call 136; refine (hcall _).mono ?_; rintro e w1 ⟨rfl, hb1⟩; obtain ⟨hc1, hf1⟩ := bcell hb1)
      all_goals
        go_wp2_with fail
        go_ret
        refine ⟨ret_str hr.out.symm, ?_⟩
        first | exact Below.trans (((Below.refl _ _).alloc (Nat.le_refl _) _).drew) (hb1.mono (by simp)) | exact Below.alloc' ((Below.refl w.heap.size w).drew.trans (hb1.mono (by simp))) _

def decI (n : Int) : ByteArray := if n < 0 then ⟨#[45]⟩ ++ decS 18 (-n).toNat else decS 18 n.toNat
theorem digits_int (x : Int) (w : World) (h0 : 0 ≤ x) (h1 : x ≤ 1000000000000000000) :
    Calls Tryz.prog 136 #[.int .i64 x] w fun e w' => e = .returned (.string (decS 18 x.toNat)) ∧ Below w.heap.size w w' := by
  obtain ⟨n, rfl⟩ : ∃ n : Nat, x = n := ⟨x.toNat, by omega⟩
  exact digits_any 18 n w (by omega) (by omega) (by omega)

set_option maxHeartbeats 1000000 in
theorem decimal_any (n : Int) (w : World) (h1 : -1000000000000000000 ≤ n) (h2 : n ≤ 1000000000000000000) :
    Calls Tryz.prog 132 #[.int .i64 n] w fun e w' => e = .returned (.string (decI n)) ∧ Below w.heap.size w w' := by
  by_cases hn : n < 0
  · have hr : Hid (decI n = ⟨#[45]⟩ ++ decS 18 (-n).toNat) := by show _ = _; unfold decI; rw [if_pos hn]
    have hsz := decS_size 18 (-n).toNat
    have hs1 : (⟨#[45]⟩ : ByteArray).size = 1 := rfl
    go_enter Tryz.func132, Tryz.ntmps132
    go_wp2_with (go_at_call 136; refine (digits_int _ _ (by omega) (by omega)).mono ?_; rintro e w1 ⟨rfl, hb1⟩)
    go_ret
    exact ⟨ret_str hr.out.symm, hb1⟩
  · have hr : Hid (decI n = decS 18 n.toNat) := by show _ = _; unfold decI; rw [if_neg hn]
    go_enter Tryz.func132, Tryz.ntmps132
    go_wp2_with (go_at_call 136; refine (digits_int _ _ (by omega) (by omega)).mono ?_; rintro e w1 ⟨rfl, hb1⟩)
    go_ret
    exact ⟨ret_str hr.out.symm, hb1⟩

set_option maxRecDepth 10000 in
set_option maxHeartbeats 1000000 in
theorem coded_any (n : Int) (w : World) (h1 : -40000000000000000 ≤ n) (h2 : n ≤ 40000000000000000) :
    Calls Tryz.prog 131 #[.int .i64 n] w fun e w' => e = .returned (.string (numData n)) ∧ Below w.heap.size w w' := by
  obtain ⟨U, hU⟩ : ∃ U, U = zig n := ⟨_, rfl⟩
  obtain ⟨D, hD⟩ : ∃ D, D = numData n := ⟨_, rfl⟩
  rw [← hD]
  have HD : Hid (D = codU 8 ByteArray.empty U) := by show _ = _; rw [hD, hU]; rfl
  have hUb : U ≤ 80000000000000000 := by rw [hU]; unfold zig; split <;> omega
  clear hD
  by_cases hn : n < 0
  all_goals
    have hUn : Hid ((U : Int) = if n < 0 then -2 * n - 1 else 2 * n) := by show _ = _; rw [hU]; unfold zig; split <;> omega
    clear hU
    go_enter Tryz.func131, Tryz.ntmps131
    go_wp2_with fail
    go_loopw [3, 4] (fun u d wr => ∃ (m v : Nat) (acc : ByteArray), m ≤ 8 ∧ acc.size + m = 8 ∧ u = .int .i64 v ∧ d = .string acc ∧ v ≤ 80000000000000000 ∧ Hid (D = codU m acc v) ∧ Hid (v < 128 ^ (m + 1)) ∧ Below w.heap.size w wr) (fun u _ _ => (intOf u).toNat)
    case atStart =>
      refine ⟨8, U, ByteArray.empty, Nat.le_refl _, rfl, v_int ?_, rfl, hUb, HD, ?_, Below.refl _ _⟩
      · rw [hUn.out]; first | rw [if_pos hn] | rw [if_neg (by omega)]
      · show U < 128 ^ 9; omega
    case round =>
      obtain ⟨m, v, acc, hm, hacc, rfl, rfl, hv, hD, hlt, hb⟩ := hrel
      by_cases hge : 128 ≤ v
      · have hm1 : 0 < m := by
          rcases Nat.eq_zero_or_pos m with h | h
          · subst h; have := hlt.out; omega
          · exact h
        obtain ⟨m', rfl⟩ : ∃ m', m = m' + 1 := ⟨m - 1, by omega⟩
        have hsz : (oneB ((v : Int) % 128 + 128).toNat).size = 1 := rfl
        go_wp2_with (go_at_call 95; refine (one_int _ _ (by omega) (by omega)).mono ?_; rintro e w' ⟨rfl, hb'⟩)
        go_roundw
        case rel =>
          refine ⟨m', v / 128, acc ++ oneB ((v : Int) % 128 + 128).toNat, by omega, by rw [ByteArray.size_append, hsz]; omega, by go_num, rfl, by omega, ?_, ?_, hb.trans (hb'.mono hb.size)⟩
          · show _ = _
            rw [hD.out, codU, if_pos hge, show ((v : Int) % 128 + 128).toNat = v % 128 + 128 by omega]
          · show _ < _
            have := hlt.out
            rw [Nat.pow_succ] at this
            omega
        case measure => simp [intOf]; omega
      · have hsz : (oneB v).size = 1 := rfl
        go_wp2_with (go_at_call 95; refine (one_any _ _ (by omega)).mono ?_; rintro e w' ⟨rfl, hb'⟩)
        go_ret
        refine ⟨ret_str ?_, hb.trans (hb'.mono hb.size)⟩
        rw [hD.out]
        cases m with
        | zero => rfl
        | succ m => rw [codU, if_neg hge]
end
section
open Go.RowKit

/-- The number that the digits to the base 128 at a place give, and the place behind them. -/
def uAtL (s : ByteArray) (a : Nat) : Nat → Nat → Nat → Nat → Option (Nat × Nat)
  | 0, _, _, _ => none
  | m + 1, k, u, x =>
    if bAt s (a + k) < 0 ∨ (bAt s (a + k) = 0 ∧ 0 < k) then none
    else if bAt s (a + k) < 128 then some (u + (bAt s (a + k)).toNat * x, a + k + 1)
    else uAtL s a m (k + 1) (u + ((bAt s (a + k)).toNat - 128) * x) (x * 128)
def uAt (s : ByteArray) (a : Nat) : Option (Nat × Nat) := uAtL s a 8 0 0 1
theorem uAtL_bd (s : ByteArray) (a : Nat) : ∀ (m k u x v e : Nat), u < x → x * 128 ^ m ≤ 72057594037927936 → uAtL s a m k u x = some (v, e) → v < 72057594037927936 ∧ a + k < e ∧ e ≤ s.size
  | 0, k, u, x, v, e, _, _, h => by simp [uAtL] at h
  | m + 1, k, u, x, v, e, hu, hx, h => by
    rw [uAtL] at h
    have hhi := bAt_hi s (a + k)
    have hp : x * 128 ≤ x * 128 ^ (m + 1) := Nat.mul_le_mul_left x (by rw [Nat.pow_succ]; have := Nat.pow_pos (n := m) (show 0 < 128 by omega); omega)
    split at h
    · cases h
    · rename_i hc
      split at h
      · rename_i hd
        simp only [Option.some.injEq, Prod.mk.injEq] at h
        have hl : a + k < s.size := bAt_lt (by omega)
        have hm : (bAt s (a + k)).toNat * x ≤ 127 * x := Nat.mul_le_mul_right x (by omega)
        omega
      · have hm : ((bAt s (a + k)).toNat - 128) * x ≤ 127 * x := Nat.mul_le_mul_right x (by omega)
        have := uAtL_bd s a m (k + 1) _ _ v e (by omega) (by rw [Nat.pow_succ] at hx; rw [Nat.mul_assoc]; rw [Nat.mul_comm 128]; exact hx) h
        omega

def unzig (u : Nat) : Int := if u % 2 = 1 then -((u / 2 : Nat) : Int) - 1 else ((u / 2 : Nat) : Int)
def decNum (lo hi : Int) (s : ByteArray) (a : Nat) : Option (ByteArray × Nat) :=
  match uAt s a with
  | none => none
  | some (u, e) => if unzig u < lo ∨ hi < unzig u then none else some (decI (unzig u), e)
theorem uAt_bd {s : ByteArray} {a u e : Nat} (h : uAt s a = some (u, e)) : u < 72057594037927936 ∧ a < e ∧ e ≤ s.size := by
  have := uAtL_bd s a 8 0 0 1 u e (by omega) (by omega) h; omega
def allS (s : ByteArray) : Nat → Nat → Bool
  | 0, _ => true
  | m + 1, k => inS (bAt s k) && allS s m (k + 1)
def quo : ByteArray := ⟨#[34]⟩
def decStr (s : ByteArray) (a : Nat) : Option (ByteArray × Nat) :=
  if bAt s a < 0 ∨ 60 < bAt s a then none
  else if allS s (bAt s a).toNat (a + 1) = true then some (quo ++ s.extract (a + 1) (a + 1 + (bAt s a).toNat) ++ quo, a + 1 + (bAt s a).toNat) else none

def decCho (l s : ByteArray) (a : Nat) : Option (ByteArray × Nat) :=
  if bAt s a < 0 ∨ bAt l (bAt s a).toNat < 0 then none else some (oneB (bAt l (bAt s a).toNat).toNat, a + 1)

def decItems (f : Nat → Option (ByteArray × Nat)) : Nat → Nat → Nat → ByteArray → Option (ByteArray × Nat)
  | 0, _, fr, t => some (t ++ ⟨#[93]⟩, fr)
  | m + 1, k, fr, t =>
    match f fr with
    | none => none
    | some (x, nx) => decItems f m (k + 1) nx ((if 0 < k then t ++ ⟨#[44]⟩ else t) ++ x)
def decList (f : Nat → Option (ByteArray × Nat)) (s : ByteArray) (a : Nat) : Option (ByteArray × Nat) :=
  if bAt s a < 0 ∨ 16 < bAt s a then none else decItems f (bAt s a).toNat 0 (a + 1) ⟨#[91]⟩
def decMaybe (f : Nat → Option (ByteArray × Nat)) (s : ByteArray) (a : Nat) : Option (ByteArray × Nat) :=
  if bAt s a = 0 then some (⟨#[95]⟩, a + 1) else if bAt s a = 1 then f (a + 1) else none
def decFlds (f : Ty → Nat → Option (ByteArray × Nat)) : List (Nat × Ty × ByteArray) → ByteArray → Nat → ByteArray → Option (ByteArray × Nat)
  | [], _, fr, t => some (t ++ ⟨#[125]⟩, fr)
  | g :: fs, mk, fr, t =>
    match f g.2.1 fr with
    | none => none
    | some (x, nx) => decFlds f fs ⟨#[44]⟩ nx (t ++ (((mk ++ oneB g.1) ++ ⟨#[58]⟩) ++ x))
/-- The text of the value of a type whose data begin at a place, and the place behind those data. -/
def dec (s : ByteArray) : Nat → Ty → Nat → Option (ByteArray × Nat)
  | 0, _, _ => none
  | n + 1, ty, a =>
    if ty.kind = 105 then decNum (-2147483648) 2147483647 s a
    else if ty.kind = 108 then decNum (-1000000000000000) 1000000000000000 s a
    else if ty.kind = 115 then decStr s a
    else if ty.kind = 60 then decCho ty.letters s a
    else if ty.kind = 91 then decList (dec s n ty.in) s a
    else if ty.kind = 63 then decMaybe (dec s n ty.in) s a
    else if ty.kind = 123 ∧ ty.fields ≠ [] then decFlds (dec s n) ty.fields ⟨#[123]⟩ a ByteArray.empty
    else none

theorem decI_size (n : Int) : (decI n).size ≤ 20 := by
  unfold decI
  split
  · rw [ByteArray.size_append]; have := decS_size 18 (-n).toNat; have e : (⟨#[45]⟩ : ByteArray).size = 1 := rfl; omega
  · have := decS_size 18 n.toNat; omega
theorem decNum_bd {lo hi : Int} {s d : ByteArray} {a k : Nat} (h : decNum lo hi s a = some (d, k)) : a < k ∧ k ≤ s.size ∧ d.size ≤ 20 * (k - a) := by
  unfold decNum at h
  split at h
  · cases h
  · rename_i u e hu
    have := uAt_bd hu
    split at h
    · cases h
    · simp only [Option.some.injEq, Prod.mk.injEq] at h
      obtain ⟨rfl, rfl⟩ := h
      have := decI_size (unzig u); omega
theorem allS_lt (s : ByteArray) : ∀ m k, allS s m k = true → m = 0 ∨ k + m ≤ s.size
  | 0, k, _ => .inl rfl
  | m + 1, k, h => by
    right
    rw [allS, Bool.and_eq_true] at h
    have h1 := inS_lt h.1
    rcases allS_lt s m (k + 1) h.2 with h2 | h2 <;> omega
theorem quo_size : quo.size = 1 := rfl
theorem decStr_bd {s d : ByteArray} {a k : Nat} (h : decStr s a = some (d, k)) : a < k ∧ k ≤ s.size ∧ d.size ≤ 20 * (k - a) := by
  unfold decStr at h
  split at h
  · cases h
  · rename_i hc
    split at h
    · rename_i hl
      simp only [Option.some.injEq, Prod.mk.injEq] at h
      obtain ⟨rfl, rfl⟩ := h
      have ha : a < s.size := bAt_lt (by omega)
      have := allS_lt s _ _ hl
      have hb : a + 1 + (bAt s a).toNat ≤ s.size := by omega
      rw [ByteArray.size_append, ByteArray.size_append, quo_size, size_extract s (a + 1) _ (by omega) hb]
      omega
    · cases h
theorem decCho_bd {l s d : ByteArray} {a k : Nat} (h : decCho l s a = some (d, k)) : a < k ∧ k ≤ s.size ∧ d.size ≤ 20 * (k - a) := by
  unfold decCho at h
  split at h
  · cases h
  · simp only [Option.some.injEq, Prod.mk.injEq] at h
    obtain ⟨rfl, rfl⟩ := h
    have ha : a < s.size := bAt_lt (by omega)
    rw [oneB_size]; omega
theorem one_size (c : UInt8) : (⟨#[c]⟩ : ByteArray).size = 1 := rfl
theorem decItems_bd {C T : Nat} {f : Nat → Option (ByteArray × Nat)} (hf : Bd C T f) : ∀ (m k fr : Nat) (t x : ByteArray) (e : Nat), fr ≤ T → decItems f m k fr t = some (x, e) → fr ≤ e ∧ e ≤ T ∧ x.size ≤ t.size + 1 + (C + 1) * (e - fr)
  | 0, k, fr, t, x, e, hT, h => by
    simp only [decItems, Option.some.injEq, Prod.mk.injEq] at h
    obtain ⟨rfl, rfl⟩ := h
    rw [ByteArray.size_append, one_size]; omega
  | m + 1, k, fr, t, x, e, hT, h => by
    rw [decItems] at h
    split at h
    · cases h
    · rename_i y nx hy
      have hb := hf _ _ _ hy
      have ih := decItems_bd hf m (k + 1) nx _ x e hb.2.1 h
      have hs : ((if 0 < k then t ++ ⟨#[44]⟩ else t) ++ y).size ≤ t.size + 1 + y.size := by
        rw [ByteArray.size_append]; split
        · rw [ByteArray.size_append, one_size]; omega
        · omega
      have e1 := mul_sub_add (C := C + 1) (show fr ≤ nx by omega) (show nx ≤ e by omega)
      have e2 : (C + 1) * (nx - fr) = C * (nx - fr) + (nx - fr) := by rw [Nat.add_mul, Nat.one_mul]
      omega
theorem decList_bd {C : Nat} {s : ByteArray} {f : Nat → Option (ByteArray × Nat)} (hf : Bd C s.size f) : Bd (C + 2) s.size (decList f s) := by
  intro a d k h
  unfold decList at h
  split at h
  · cases h
  · have ha : a < s.size := bAt_lt (by omega)
    have := decItems_bd hf _ 0 (a + 1) _ d k (by omega) h
    rw [one_size] at this
    have e1 := mul_sub_add (C := C + 1) (show a ≤ a + 1 by omega) (show a + 1 ≤ k by omega)
    have e2 : (C + 2) * (k - a) = (C + 1) * (k - a) + (k - a) := by rw [show C + 2 = (C + 1) + 1 by omega, Nat.add_mul, Nat.one_mul]
    have e3 : (C + 1) * (a + 1 - a) = C + 1 := by rw [show a + 1 - a = 1 by omega, Nat.mul_one]
    omega
theorem decMaybe_bd {C : Nat} {s : ByteArray} {f : Nat → Option (ByteArray × Nat)} (hC : 1 ≤ C) (hf : Bd C s.size f) : Bd C s.size (decMaybe f s) := by
  intro a d k h
  unfold decMaybe at h
  split at h
  · simp only [Option.some.injEq, Prod.mk.injEq] at h
    obtain ⟨rfl, rfl⟩ := h
    have ha : a < s.size := bAt_lt (by omega)
    rw [one_size, show a + 1 - a = 1 by omega]; omega
  · split at h
    · have := hf _ _ _ h
      have e := mul_mono (C := C) (show k - (a + 1) ≤ k - a by omega)
      omega
    · cases h
theorem decFlds_bd {C T : Nat} {f : Ty → Nat → Option (ByteArray × Nat)} (hf : ∀ ty, Bd C T (f ty)) : ∀ (fs : List (Nat × Ty × ByteArray)) (mk : ByteArray) (fr : Nat) (t x : ByteArray) (e : Nat), mk.size = 1 → fr ≤ T → decFlds f fs mk fr t = some (x, e) → fr + (if fs = [] then 0 else 1) ≤ e ∧ e ≤ T ∧ x.size ≤ t.size + 1 + (C + 3) * (e - fr)
  | [], mk, fr, t, x, e, hm, hT, h => by
    simp only [decFlds, Option.some.injEq, Prod.mk.injEq] at h
    obtain ⟨rfl, rfl⟩ := h
    rw [ByteArray.size_append, one_size]; simp; omega
  | g :: fs, mk, fr, t, x, e, hm, hT, h => by
    rw [decFlds] at h
    split at h
    · cases h
    · rename_i y nx hy
      have hb := hf _ _ _ _ hy
      have ih := decFlds_bd hf fs _ nx _ x e (one_size 44) hb.2.1 h
      simp only [ByteArray.size_append, one_size, oneB_size, hm] at ih
      have e1 := mul_sub_add (C := C + 3) (show fr ≤ nx by omega) (show nx ≤ e by split at ih <;> omega)
      have e2 : (C + 3) * (nx - fr) = C * (nx - fr) + 3 * (nx - fr) := by rw [Nat.add_mul]
      simp
      split at ih <;> omega
theorem dec_Bd (s : ByteArray) : ∀ (n : Nat) (ty : Ty), Bd (4 * n + 20) s.size (dec s n ty)
  | 0, ty => by intro a d k h; simp [dec] at h
  | n + 1, ty => by
    have ih := dec_Bd s n
    intro a d k h
    rw [dec] at h
    have up : ∀ {d : ByteArray} {k : Nat}, a < k ∧ k ≤ s.size ∧ d.size ≤ 20 * (k - a) → a < k ∧ k ≤ s.size ∧ d.size ≤ (4 * (n + 1) + 20) * (k - a) := by
      rintro d k ⟨h1, h2, h3⟩
      have := Nat.mul_le_mul_right (k - a) (show 20 ≤ 4 * (n + 1) + 20 by omega)
      omega
    split at h
    · exact up (decNum_bd h)
    · split at h
      · exact up (decNum_bd h)
      · split at h
        · exact up (decStr_bd h)
        · split at h
          · exact up (decCho_bd h)
          · split at h
            · exact (decList_bd (ih ty.in)).mono (by omega) _ _ _ h
            · split at h
              · exact (decMaybe_bd (by omega) (ih ty.in)).mono (by omega) _ _ _ h
              · split at h
                · rename_i hc
                  have ha : a ≤ s.size := by
                    rcases hfs : ty.fields with _ | ⟨g, fs⟩
                    · exact absurd hfs hc.2
                    · rw [hfs, decFlds] at h
                      split at h
                      · cases h
                      · rename_i y nx hy
                        have := ih _ _ _ _ hy; omega
                  have := decFlds_bd ih ty.fields _ a _ d k (one_size 123) ha h
                  rw [if_neg hc.2] at this
                  have e0 : ByteArray.empty.size = 0 := rfl
                  have e2 : (4 * (n + 1) + 20) * (k - a) = (4 * n + 20 + 3) * (k - a) + (k - a) := by rw [show 4 * (n + 1) + 20 = (4 * n + 20 + 3) + 1 by omega, Nat.add_mul, Nat.one_mul]
                  omega
                · cases h
theorem dec_bd {s d : ByteArray} {n a k : Nat} {ty : Ty} (h : dec s n ty a = some (d, k)) : a < k ∧ k ≤ s.size ∧ d.size ≤ (4 * n + 20) * (k - a) := dec_Bd s n ty a d k h
end
end Go.Proofs.YtkkekopomiehlaaGreat
