import Derived.Test.YtkkekopomiehlaaDoorProg
import Derived.Test.YtkkekopomiehlaaDoorPure
import Derived.WalkKit
import Derived.WalkSpells
import Derived.WalkLawsBesides
set_option linter.unusedVariables false
set_option linter.unusedSimpArgs false
namespace Go.Proofs.YtkkekopomiehlaaDoor
open Go.RowKit

theorem ret_int {k : IntKind} {a b : Int} (h : a = b) : Ending.returned (.int k a) = .returned (.int k b) := by rw [h]
theorem ret_str {a b : ByteArray} (h : a = b) : Ending.returned (.string a) = .returned (.string b) := by rw [h]
theorem ret_bool {a b : Bool} (h : a = b) : Ending.returned (.bool a) = .returned (.bool b) := by rw [h]
theorem of_beq {a b : Int} (h : (a == b) = true) : a = b := by simpa using h
theorem ne_beq {a b : Int} (h : (a == b) = false) : a ≠ b := by simpa using h
theorem of_bne {a b : Int} (h : (a != b) = false) : a = b := by simpa using h
theorem ne_bne {a b : Int} (h : (a != b) = true) : a ≠ b := by simpa using h
theorem wrap_byte (b : UInt8) : wrap64 (b.toNat : Int) = b.toNat := by
  have := b.toNat_lt; exact IntWalk.wrap64_in _ (by omega)
theorem bAt_in (s : ByteArray) (i : Nat) (h : i < s.size) : bAt s i = s[i].toNat := by simp [bAt, h]
theorem bAt_out (s : ByteArray) (i : Nat) (h : s.size ≤ i) : bAt s i = -1 := by simp [bAt, show ¬ i < s.size by omega]
theorem bAt_lo (s : ByteArray) (i : Nat) : -1 ≤ bAt s i := by unfold bAt; split <;> omega
theorem bAt_hi (s : ByteArray) (i : Nat) : bAt s i ≤ 255 := by
  unfold bAt; split
  · have := (s[i]).toNat_lt; omega
  · omega
theorem bAt_lt {s : ByteArray} {i : Nat} (h : 0 ≤ bAt s i) : i < s.size := by
  unfold bAt at h; split at h
  · assumption
  · omega

set_option maxHeartbeats 400000 in
theorem byteAt_in (s : ByteArray) (i : Nat) (w : World) (hi : i < s.size) (_hs : s.size ≤ 9000000) :
    Calls Tryd.prog 73 #[.string s, .int .i64 i] w fun e w' => e = .returned (.int .i64 (bAt s i)) ∧ w' = w := by
  go_enter Tryd.func73, Tryd.ntmps73
  go_wp2
  go_ret
  exact ⟨ret_int (by rw [bAt_in s i hi]; exact wrap_byte _), rfl⟩
set_option maxHeartbeats 400000 in
theorem byteAt_out (s : ByteArray) (i : Nat) (w : World) (hi : s.size ≤ i) (_hs : s.size ≤ 9000000) :
    Calls Tryd.prog 73 #[.string s, .int .i64 i] w fun e w' => e = .returned (.int .i64 (bAt s i)) ∧ w' = w := by
  go_enter Tryd.func73, Tryd.ntmps73
  go_wp2
  go_ret
  exact ⟨ret_int (by rw [bAt_out s i hi]), rfl⟩
theorem byteAt_any (s : ByteArray) (i : Nat) (w : World) (_hs : s.size ≤ 9000000) :
    Calls Tryd.prog 73 #[.string s, .int .i64 i] w fun e w' => e = .returned (.int .i64 (bAt s i)) ∧ w' = w := by
  by_cases h : i < s.size
  · exact byteAt_in s i w h _hs
  · exact byteAt_out s i w (by omega) _hs
theorem byteAt_int (s : ByteArray) (x : Int) (w : World) (h0 : 0 ≤ x) (hs : s.size ≤ 9000000) :
    Calls Tryd.prog 73 #[.string s, .int .i64 x] w fun e w' => e = .returned (.int .i64 (bAt s x.toNat)) ∧ w' = w := by
  obtain ⟨n, rfl⟩ : ∃ n : Nat, x = n := ⟨x.toNat, by omega⟩
  exact byteAt_any s n w hs
set_option maxHeartbeats 400000 in
theorem span_any (s : ByteArray) (a b : Nat) (w : World) (_h1 : a ≤ b) (_h2 : b ≤ s.size) (_hs : s.size ≤ 9000000) :
    Calls Tryd.prog 75 #[.string s, .int .i64 a, .int .i64 b] w fun e w' => e = .returned (.string (s.extract a b)) ∧ w' = w := by
  go_enter Tryd.func75, Tryd.ntmps75
  go_wp2
  go_ret
  exact ⟨rfl, rfl⟩
theorem span_int (s : ByteArray) (x y : Int) (w : World) (h0 : 0 ≤ x) (h1 : x ≤ y) (h2 : y ≤ s.size) (hs : s.size ≤ 9000000) :
    Calls Tryd.prog 75 #[.string s, .int .i64 x, .int .i64 y] w fun e w' => e = .returned (.string (s.extract x.toNat y.toNat)) ∧ w' = w := by
  obtain ⟨a, rfl⟩ : ∃ n : Nat, x = n := ⟨x.toNat, by omega⟩
  obtain ⟨b, rfl⟩ : ∃ n : Nat, y = n := ⟨y.toNat, by omega⟩
  exact span_any s a b w (by omega) (by omega) hs
set_option maxHeartbeats 400000 in
theorem oneByte_any (n : Nat) (w : World) (_hn : n < 256) :
    Calls Tryd.prog 79 #[.int .i64 n] w fun e w' => e = .returned (.string (oneB n)) ∧ Below w.heap.size w w' := by
  have hc := run_convert_bytes_arg (P := Tryd.prog) (w.alloc (.cells #[.int .u8 n] 5)) 59 5 (Tryd.underlying59) (Tryd.underlying5) w.heap.size 0 1 1 [(n : Int)] rfl (fun i hi => by cases i with | zero => simp | succ => omega) 9 (Tryd.underlying9)
  go_enter Tryd.func79, Tryd.ntmps79
  go_wp2
  go_ret
  exact ⟨ret_str (by simp [oneB, strOfNums]), (Below.refl _ _).alloc (Nat.le_refl _) _⟩
theorem oneByte_int (x : Int) (w : World) (h0 : 0 ≤ x) (h1 : x < 256) :
    Calls Tryd.prog 79 #[.int .i64 x] w fun e w' => e = .returned (.string (oneB x.toNat)) ∧ Below w.heap.size w w' := by
  obtain ⟨n, rfl⟩ : ∃ n : Nat, x = n := ⟨x.toNat, by omega⟩
  exact oneByte_any n w (by omega)
set_option maxHeartbeats 400000 in
theorem isLetter_any (b : Int) (w : World) :
    Calls Tryd.prog 107 #[.int .i64 b] w fun e w' => e = .returned (.bool (isL b)) ∧ w' = w := by
  go_enter Tryd.func107, Tryd.ntmps107
  go_wp2
  all_goals (go_ret; exact ⟨ret_bool (by simp [isL] <;> omega), rfl⟩)
set_option maxHeartbeats 400000 in
theorem isDigit_any (b : Int) (w : World) :
    Calls Tryd.prog 112 #[.int .i64 b] w fun e w' => e = .returned (.bool (isD b)) ∧ w' = w := by
  go_enter Tryd.func112, Tryd.ntmps112
  go_wp2
  all_goals (go_ret; exact ⟨ret_bool (by simp [isD] <;> omega), rfl⟩)
set_option maxHeartbeats 400000 in
theorem inString_any (b : Int) (w : World) :
    Calls Tryd.prog 93 #[.int .i64 b] w fun e w' => e = .returned (.bool (inS b)) ∧ w' = w := by
  go_enter Tryd.func93, Tryd.ntmps93
  go_wp2
  all_goals (go_ret; exact ⟨ret_bool (by simp [inS] <;> omega), rfl⟩)
end Go.Proofs.YtkkekopomiehlaaDoor
