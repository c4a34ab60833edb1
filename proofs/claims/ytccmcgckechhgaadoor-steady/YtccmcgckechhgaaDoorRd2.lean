import Derived.Test.YtccmcgckechhgaaDoorRd1
import Derived.Test.YtccmcgckechhgaaDoorDec7
set_option linter.unusedVariables false
set_option linter.unusedSimpArgs false
set_option maxRecDepth 4000
namespace Go.Proofs.YtccmcgckechhgaaDoor
open Go.RowKit

set_option maxHeartbeats 1000000 in
theorem nothingAs_any (ty : Ty) (ai : Option Addr) (li ci : Nat) (af : Option Addr) (lf cf : Nat) (w : World) :
    Calls Tryd.prog 74 #[.agg #[.int .i64 ty.kind, .string ty.letters, .bool ty.op, .slice ai li ci, .slice af lf cf]] w fun e w' => e = .returned (if ty.kind = 63 then .tuple #[.string ⟨#[95]⟩, .bool true] else .tuple #[.string ByteArray.empty, .bool false]) ∧ Below w.heap.size w w' := by
  have hB : ∀ o, Below w.heap.size w (w.alloc o) := fun o => (Below.refl _ _).alloc (Nat.le_refl _) _
  by_cases hk : ty.kind = 63
  · have hk' : ((ty.kind : Int) != 63) = false := by simp; omega
    rw [if_pos hk]
    clear hk
    go_enter Tryd.func74, Tryd.ntmps74
    go_wp2_with fail
    go_ret2
    exact ⟨rfl, by first | exact hB _ | exact Below.refl _ _⟩
  · have hk' : ((ty.kind : Int) != 63) = true := by simp; omega
    rw [if_neg hk]
    clear hk
    go_enter Tryd.func74, Tryd.ntmps74
    go_wp2_with fail
    go_ret2
    exact ⟨rfl, by first | exact hB _ | exact Below.refl _ _⟩
theorem _root_.Go.RowKit.Below.thn {w W w1 : World} (h : Below w.heap.size w W) (k : Below W.heap.size W w1) : Below w.heap.size w w1 := h.trans (k.mono h.size)
theorem BB (w : World) (o o2 : Obj) : Below w.heap.size w ((w.alloc o).alloc o2) := ((Below.refl _ _).alloc (Nat.le_refl _) _).alloc (by simp) _
set_option maxHeartbeats 1000000 in
theorem readChoice_any (x r : Ty) (ai : Option Addr) (li ci : Nat) (af : Option Addr) (lf cf : Nat) (bi : Option Addr) (mi di : Nat) (bf : Option Addr) (mf df : Nat) (i : Nat) (w : World) (hx8 : x.letters.size ≤ 8) (hr8 : r.letters.size ≤ 8) (hi : i < x.letters.size) :
    Calls Tryd.prog 43 #[.agg #[.int .i64 x.kind, .string x.letters, .bool x.op, .slice ai li ci, .slice af lf cf], .agg #[.int .i64 r.kind, .string r.letters, .bool r.op, .slice bi mi di, .slice bf mf df], .string (oneB i)] w fun e w' => e = .returned (dRet (rdCho x.letters r.letters r.op i)) ∧ Below w.heap.size w w' := by
  have _hx : x.letters.size ≤ 9000000 := by omega
  have _hr : r.letters.size ≤ 9000000 := by omega
  have hlo : 0 ≤ bAt x.letters i := by rw [bAt_in _ _ hi]; omega
  have hhi := bAt_hi x.letters i
  obtain ⟨D, hD⟩ : ∃ D, D = oneB i := ⟨_, rfl⟩
  have hDs : D.size ≤ 9000000 := by rw [hD, oneB_size]; omega
  have hb0 : bAt D (Int.toNat 0) = i := by rw [hD]; exact bAt_one i (by omega)
  rw [← hD]
  obtain ⟨c, hc⟩ : ∃ c, c = bAt x.letters i := ⟨_, rfl⟩
  have hb1 : bAt x.letters (Int.toNat i) = c := hc.symm
  have hC : rdCho x.letters r.letters r.op i = if pOf r.letters c < 0 then (if r.op = true then some (r.letters.extract 0 1) else none) else some (oneB c.toNat) := by rw [hc]; rfl
  rw [← hc] at hlo hhi
  have htk := fun w => takesLetter_any r bi mi di bf mf df c w hr8
  have hfl := fun w => firstLetter_any r bi mi di bf mf df w hr8
  clear hD hc hi
  by_cases hp : 0 ≤ pOf r.letters c
  · have hp' : ¬ pOf r.letters c < 0 := by omega
    have hr' : Hid (rdCho x.letters r.letters r.op i = some (oneB c.toNat)) := by show _ = _; rw [hC, if_neg hp']
    rw [show (r.op || decide (0 ≤ pOf r.letters c)) = true by simp [hp]] at htk
    clear hC
    go_enter Tryd.func43, Tryd.ntmps43
    go_wp2_with (first | (go_at_call 73; refine (byteAt_int _ _ _ (by omega) (by first | exact hDs | exact _hx)).mono ?_; rintro e _ ⟨rfl, rfl⟩; first | rw [hb0] | rw [hb1]) | (go_at_call 76; refine (htk _).mono ?_; rintro e w1 ⟨rfl, hb1⟩; obtain ⟨hc1, hf1⟩ := bcell hb1; have hz1 := hb1.size) | (go_at_call 77; refine (placeOf_any _ _ _ _hr).mono ?_; rintro e _ ⟨rfl, rfl⟩) | (go_at_call 79; refine (oneByte_int _ _ hlo (by omega)).mono ?_; rintro e w2 ⟨rfl, hb2⟩))
    go_ret2
    rw [hr'.out]
    exact ⟨rfl, ((BB w _ _).thn hb1).thn hb2⟩
  · have hp' : pOf r.letters c < 0 := by omega
    cases hop : r.op with
    | true =>
      have hr' : Hid (rdCho x.letters r.letters true i = some (r.letters.extract 0 1)) := by show _ = _; rw [← hop, hC, if_pos hp', hop]; rfl
      rw [hop] at htk hfl
      clear hC hp
      go_enter Tryd.func43, Tryd.ntmps43
      go_wp2_with (first | (go_at_call 73; refine (byteAt_int _ _ _ (by omega) (by first | exact hDs | exact _hx)).mono ?_; rintro e _ ⟨rfl, rfl⟩; first | rw [hb0] | rw [hb1]) | (go_at_call 76; refine (htk _).mono ?_; rintro e w1 ⟨rfl, hb1⟩; obtain ⟨hc1, hf1⟩ := bcell hb1; have hz1 := hb1.size) | (go_at_call 77; refine (placeOf_any _ _ _ _hr).mono ?_; rintro e _ ⟨rfl, rfl⟩) | (go_at_call 79; refine (oneByte_int _ _ hlo (by omega)).mono ?_; rintro e w2 ⟨rfl, hb2⟩) | (go_at_call 78; refine (hfl _).mono ?_; rintro e w2 ⟨rfl, hb2⟩))
      go_ret2
      rw [hr'.out]
      exact ⟨rfl, ((BB w _ _).thn hb1).thn hb2⟩
    | false =>
      have hr' : Hid (rdCho x.letters r.letters false i = none) := by show _ = _; rw [← hop, hC, if_pos hp', hop]; rfl
      rw [hop, show (false || decide (0 ≤ pOf r.letters c)) = false by simp; omega] at htk
      clear hC hp
      go_enter Tryd.func43, Tryd.ntmps43
      go_wp2_with (first | (go_at_call 73; refine (byteAt_int _ _ _ (by omega) (by first | exact hDs | exact _hx)).mono ?_; rintro e _ ⟨rfl, rfl⟩; first | rw [hb0] | rw [hb1]) | (go_at_call 76; refine (htk _).mono ?_; rintro e w1 ⟨rfl, hb1⟩; obtain ⟨hc1, hf1⟩ := bcell hb1; have hz1 := hb1.size) | (go_at_call 77; refine (placeOf_any _ _ _ _hr).mono ?_; rintro e _ ⟨rfl, rfl⟩) | (go_at_call 79; refine (oneByte_int _ _ hlo (by omega)).mono ?_; rintro e w2 ⟨rfl, hb2⟩))
      go_ret2
      rw [hr'.out]
      exact ⟨rfl, (BB w _ _).thn hb1⟩
end Go.Proofs.YtccmcgckechhgaaDoor
