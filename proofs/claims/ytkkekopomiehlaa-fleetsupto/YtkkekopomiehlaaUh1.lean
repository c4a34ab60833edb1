import Derived.Test.YtkkekopomiehlaaLn5
import Derived.Deep.RegionHeld3
set_option linter.unusedVariables false
set_option linter.unusedSimpArgs false
set_option maxRecDepth 4000
namespace Go.Proofs.Ytkkekopomiehlaa
open Go.RowKit

theorem get_last {cs : List Value} {u : Value} {n : Nat} (h : cs.length = n) : (cs ++ [u])[n]? = some u := by rw [List.getElem?_append_right (by omega), h, Nat.sub_self]; rfl
set_option maxHeartbeats 2000000 in
theorem unhurtStrings_any (ss : List ByteArray) (w : World) (g : Nat) (a : Option Addr) (cap : Nat) (hl : ss.length ≤ 2000000) (hrow : RowIs w g 9 (ss.map .string ++ [.string beyondB])) (hp : StrsAt w a ss) :
    Calls Try.prog 29 #[.slice (some ⟨g, 0, none⟩) ss.length (ss.length + 1), .slice a ss.length cap] w fun e W => e = .returned (.bool true) ∧ Below w.heap.size w W := by
  have hgl := hrow.lt
  have hlast : w.cell? ⟨g, ss.length, none⟩ = some (.string beyondB) := hrow.cell (get_last (by rw [List.length_map]))
  have HRow := (hidMk hrow)
  have HP := (hidMk hp)
  have hnn : ((ss.length : Int) != (ss.length : Int)) = false := by simp
  have hx9 : (0 : Int) ≤ (ss.length : Int) := Int.natCast_nonneg _
  clear hrow hp
  go_enter Try.func29, Try.ntmps29
  go_wp2_with fail
  go_loopw [6] (fun vi wr => ∃ i : Nat, i ≤ ss.length ∧ vi = .int .i64 i ∧ Below w.heap.size w wr) (fun i _ => ss.length - (intOf i).toNat)
  case atStart => exact ⟨0, Nat.zero_le _, rfl, Below.refl _ _⟩
  case round =>
    obtain ⟨i, hi, rfl, hb⟩ := hrel
    have hgl2 : g < wr.heap.size := Nat.lt_of_lt_of_le hgl hb.size
    have hx0 : (0 : Int) ≤ (i : Int) := Int.natCast_nonneg _
    by_cases hlt : i < ss.length
    · obtain ⟨s, hsi⟩ : ∃ s, ss[i]? = some s := ⟨ss[i], List.getElem?_eq_getElem hlt⟩
      have c0 := cell_keep hb (HRow.out.cell (j := i) (v := .string s) (by rw [List.getElem?_append_left (by rw [List.length_map]; omega), List.getElem?_map, hsi]; rfl))
      obtain ⟨b, o, rfl, d0⟩ := HP.out i s hsi
      have d0 := cell_keep hb d0
      have hbl := lt_of_cell d0
      have hx1 : (i : Int) < (ss.length : Int) := by omega
      have hx2 : (i : Int) < (ss.length : Int) + 1 := by omega
      have heq : (s.toList != s.toList) = false := by simp
      clear hsi
      go_wp2_with fail
      (first | go_region_held3 (fun w' => w'.cell? ⟨g, i, none⟩ = some (.string s) ∧ w'.cell? ⟨b, o + i, none⟩ = some (.string s)) (go_keep) (fail) | skip)
      go_wp2_with fail
      go_roundw
      case rel => first | exact ⟨i + 1, by omega, by go_num, hb.drew⟩ | exact ⟨i + 1, by omega, by go_num, hb⟩
      case measure => simp [intOf]; omega
    · have c9 := cell_keep hb hlast
      go_wp2_with fail
      go_ret
      exact ⟨ret_bool (by first | rfl | decide +kernel), hb⟩
set_option maxHeartbeats 2000000 in
theorem unhurtTopics_any (ts : List Int) (w : World) (g : Nat) (a : Option Addr) (cap : Nat) (hl : ts.length ≤ 2000000) (hrow : RowIs w g 61 (ts.map (.int .i64) ++ [.int .i64 (-7)])) (hp : IntsAt w a ts) :
    Calls Try.prog 30 #[.slice (some ⟨g, 0, none⟩) ts.length (ts.length + 1), .slice a ts.length cap] w fun e W => e = .returned (.bool true) ∧ Below w.heap.size w W := by
  have hgl := hrow.lt
  have hlast : w.cell? ⟨g, ts.length, none⟩ = some (.int .i64 (-7)) := hrow.cell (get_last (by rw [List.length_map]))
  have HRow := (hidMk hrow)
  have HP := (hidMk hp)
  have hnn : ((ts.length : Int) != (ts.length : Int)) = false := by simp
  have hx9 : (0 : Int) ≤ (ts.length : Int) := Int.natCast_nonneg _
  clear hrow hp
  go_enter Try.func30, Try.ntmps30
  go_wp2_with fail
  go_loopw [6] (fun vi wr => ∃ i : Nat, i ≤ ts.length ∧ vi = .int .i64 i ∧ Below w.heap.size w wr) (fun i _ => ts.length - (intOf i).toNat)
  case atStart => exact ⟨0, Nat.zero_le _, rfl, Below.refl _ _⟩
  case round =>
    obtain ⟨i, hi, rfl, hb⟩ := hrel
    have hgl2 : g < wr.heap.size := Nat.lt_of_lt_of_le hgl hb.size
    have hx0 : (0 : Int) ≤ (i : Int) := Int.natCast_nonneg _
    by_cases hlt : i < ts.length
    · obtain ⟨s, hsi⟩ : ∃ s, ts[i]? = some s := ⟨ts[i], List.getElem?_eq_getElem hlt⟩
      have c0 := cell_keep hb (HRow.out.cell (j := i) (v := .int .i64 s) (by rw [List.getElem?_append_left (by rw [List.length_map]; omega), List.getElem?_map, hsi]; rfl))
      obtain ⟨b, o, rfl, d0⟩ := HP.out i s hsi
      have d0 := cell_keep hb d0
      have hbl := lt_of_cell d0
      have hx1 : (i : Int) < (ts.length : Int) := by omega
      have hx2 : (i : Int) < (ts.length : Int) + 1 := by omega
      have heq : (s != s) = false := by simp
      clear hsi
      go_wp2_with fail
      (first | go_region_held3 (fun w' => w'.cell? ⟨g, i, none⟩ = some (.int .i64 s) ∧ w'.cell? ⟨b, o + i, none⟩ = some (.int .i64 s)) (go_keep) (fail) | skip)
      go_wp2_with fail
      go_roundw
      case rel => first | exact ⟨i + 1, by omega, by go_num, hb.drew⟩ | exact ⟨i + 1, by omega, by go_num, hb⟩
      case measure => simp [intOf]; omega
    · have c9 := cell_keep hb hlast
      go_wp2_with fail
      go_ret
      exact ⟨ret_bool (by first | rfl | decide +kernel), hb⟩
end Go.Proofs.Ytkkekopomiehlaa
