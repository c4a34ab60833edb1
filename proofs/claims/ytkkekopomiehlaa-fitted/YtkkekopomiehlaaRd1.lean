import Derived.Test.YtkkekopomiehlaaRep
import Derived.Test.YtkkekopomiehlaaV2
set_option linter.unusedVariables false
set_option linter.unusedSimpArgs false
set_option maxRecDepth 4000
namespace Go.Proofs.Ytkkekopomiehlaa
open Go.RowKit

theorem beqK (b k : Nat) : ((b : Int) == (k : Int)) = (b == k) := by
  by_cases h : b = k
  · subst h; simp
  · rw [show (b == k) = false by simpa using h]; simp; omega
set_option maxHeartbeats 1000000 in
theorem sameValue_any (a b : Nat) (w : World) :
    Calls Try.prog 45 #[.int .i64 a, .int .i64 b] w fun e w' => e = .returned (.bool (sameK a b)) ∧ w = w' := by
  by_cases h1 : a = 105
  · subst h1
    by_cases h2 : b = 105
    · subst h2
      go_enter Try.func45, Try.ntmps45
      go_wp2_with fail
      go_ret
      exact ⟨rfl, rfl⟩
    · have h2' : ((b : Int) == 105) = false := by simp; omega
      have hr : Hid (sameK 105 b = ((b : Int) == 108)) := by
        show _ = _; rw [show ((b : Int) == 108) = (b == 108) from beqK b 108]; simp [sameK, h2]
      clear h2
      go_enter Try.func45, Try.ntmps45
      go_wp2_with fail
      go_ret
      exact ⟨ret_bool (by rw [hr.out]), rfl⟩
  · have h1' : ((a : Int) == 105) = false := by simp; omega
    by_cases h2 : a = 108
    · subst h2
      have hr : Hid (sameK 108 b = ((b : Int) == 108)) := by
        show _ = _; rw [show ((b : Int) == 108) = (b == 108) from beqK b 108]; simp [sameK]
      go_enter Try.func45, Try.ntmps45
      go_wp2_with fail
      go_ret
      exact ⟨ret_bool (by rw [hr.out]), rfl⟩
    · have h2' : ((a : Int) == 108) = false := by simp; omega
      by_cases h3 : a = 115
      · subst h3
        have hr : Hid (sameK 115 b = ((b : Int) == 115)) := by
          show _ = _; rw [show ((b : Int) == 115) = (b == 115) from beqK b 115]; simp [sameK]
        go_enter Try.func45, Try.ntmps45
        go_wp2_with fail
        go_ret
        exact ⟨ret_bool (by rw [hr.out]), rfl⟩
      · have h3' : ((a : Int) == 115) = false := by simp; omega
        have hr : Hid (sameK a b = false) := by show _ = _; simp [sameK, h1, h2, h3]
        clear h1 h2 h3
        go_enter Try.func45, Try.ntmps45
        go_wp2_with fail
        go_ret
        exact ⟨ret_bool (by rw [hr.out]), rfl⟩

/-- A type as a value of the program's. -/
abbrev tyV (ty : Ty) (ai : Option Addr) (li ci : Nat) (af : Option Addr) (lf cf : Nat) : Value := .agg #[.int .i64 ty.kind, .string ty.letters, .bool ty.op, .slice ai li ci, .slice af lf cf]

set_option maxHeartbeats 1000000 in
theorem takesLetter_any (ty : Ty) (ai : Option Addr) (li ci : Nat) (af : Option Addr) (lf cf : Nat) (c : Int) (w : World) (hl : ty.letters.size ≤ 8) :
    Calls Try.prog 74 #[.agg #[.int .i64 ty.kind, .string ty.letters, .bool ty.op, .slice ai li ci, .slice af lf cf], .int .i64 c] w fun e w' => e = .returned (.bool (ty.op || decide (0 ≤ pOf ty.letters c))) ∧ Below w.heap.size w w' := by
  have _hl : ty.letters.size ≤ 9000000 := by omega
  have hB : ∀ o, Below w.heap.size w (w.alloc o) := fun o => (Below.refl _ _).alloc (Nat.le_refl _) _
  cases hop : ty.op with
  | true =>
    go_enter Try.func74, Try.ntmps74
    go_wp2_with (go_at_call 98; refine (placeOf_any _ _ _ _hl).mono ?_; rintro e w' ⟨rfl, rfl⟩)
    go_ret
    exact ⟨rfl, by first | exact hB _ | exact Below.refl _ _⟩
  | false =>
    go_enter Try.func74, Try.ntmps74
    go_wp2_with (go_at_call 98; refine (placeOf_any _ _ _ _hl).mono ?_; rintro e w' ⟨rfl, rfl⟩)
    go_ret
    exact ⟨ret_bool (by simp), by first | exact hB _ | exact Below.refl _ _⟩

set_option maxHeartbeats 1000000 in
theorem span_out (s : ByteArray) (a b : Nat) (w : World) (h : s.size < b) (_hs : s.size ≤ 9000000) (hb : b ≤ 9000000) :
    Calls Try.prog 97 #[.string s, .int .i64 a, .int .i64 b] w fun e w' => e = .returned (.string ByteArray.empty) ∧ w' = w := by
  by_cases hab : b < a
  · go_enter Try.func97, Try.ntmps97
    go_wp2_with fail
    go_ret
    exact ⟨rfl, rfl⟩
  · go_enter Try.func97, Try.ntmps97
    go_wp2_with fail
    go_ret
    exact ⟨rfl, rfl⟩
set_option maxHeartbeats 1000000 in
theorem firstLetter_any (ty : Ty) (ai : Option Addr) (li ci : Nat) (af : Option Addr) (lf cf : Nat) (w : World) (hl : ty.letters.size ≤ 8) :
    Calls Try.prog 71 #[.agg #[.int .i64 ty.kind, .string ty.letters, .bool ty.op, .slice ai li ci, .slice af lf cf]] w fun e w' => e = .returned (.string (ty.letters.extract 0 1)) ∧ Below w.heap.size w w' := by
  have _hl : ty.letters.size ≤ 9000000 := by omega
  have hB : ∀ o, Below w.heap.size w (w.alloc o) := fun o => (Below.refl _ _).alloc (Nat.le_refl _) _
  have hsp : ∀ w, Calls Try.prog 97 #[.string ty.letters, .int .i64 0, .int .i64 1] w fun e w' => e = .returned (.string (ty.letters.extract 0 1)) ∧ w' = w := fun w => by
    by_cases h1 : 1 ≤ ty.letters.size
    · exact span_any ty.letters 0 1 w (by omega) h1 _hl
    · rw [show ty.letters.extract 0 1 = ByteArray.empty from bytes_eq (by rw [ByteArray.size_extract]; show _ = 0; omega) (fun i hi => by rw [ByteArray.size_extract] at hi; omega)]
      exact span_out ty.letters 0 1 w (by omega) _hl (by omega)
  go_enter Try.func71, Try.ntmps71
  go_wp2_with (go_at_call 97; refine (hsp _).mono ?_; rintro e w' ⟨rfl, rfl⟩)
  go_ret
  exact ⟨rfl, by first | exact hB _ | exact Below.refl _ _⟩
end Go.Proofs.Ytkkekopomiehlaa
