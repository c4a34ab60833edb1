import Derived.Test.YtkkekopomiehlaaDoorRep
import Derived.Test.YtkkekopomiehlaaDoorV2
import Derived.Test.YtkkekopomiehlaaDoorDec7
set_option linter.unusedVariables false
set_option linter.unusedSimpArgs false
namespace Go.RowKit
theorem Below.thn {w W w1 : World} (h : Below w.heap.size w W) (k : Below W.heap.size W w1) : Below w.heap.size w w1 := h.trans (k.mono h.size)
end Go.RowKit
namespace Go.Proofs.YtkkekopomiehlaaDoor
section
set_option maxRecDepth 4000
open Go.RowKit

theorem beqK (b k : Nat) : ((b : Int) == (k : Int)) = (b == k) := by
  by_cases h : b = k
  · subst h; simp
  · rw [show (b == k) = false by simpa using h]; simp; omega
set_option maxHeartbeats 1000000 in
theorem sameValue_any (a b : Nat) (w : World) :
    Calls Tryd.prog 42 #[.int .i64 a, .int .i64 b] w fun e w' => e = .returned (.bool (sameK a b)) ∧ w = w' := by
  by_cases h1 : a = 105
  · subst h1
    by_cases h2 : b = 105
    · subst h2
      go_enter Tryd.func42, Tryd.ntmps42
      go_wp2_with fail
      go_ret
      exact ⟨rfl, rfl⟩
    · have h2' : ((b : Int) == 105) = false := by simp; omega
      have hr : Hid (sameK 105 b = ((b : Int) == 108)) := by
        show _ = _; rw [show ((b : Int) == 108) = (b == 108) from beqK b 108]; simp [sameK, h2]
      clear h2
      go_enter Tryd.func42, Tryd.ntmps42
      go_wp2_with fail
      go_ret
      exact ⟨ret_bool (by rw [hr.out]), rfl⟩
  · have h1' : ((a : Int) == 105) = false := by simp; omega
    by_cases h2 : a = 108
    · subst h2
      have hr : Hid (sameK 108 b = ((b : Int) == 108)) := by
        show _ = _; rw [show ((b : Int) == 108) = (b == 108) from beqK b 108]; simp [sameK]
      go_enter Tryd.func42, Tryd.ntmps42
      go_wp2_with fail
      go_ret
      exact ⟨ret_bool (by rw [hr.out]), rfl⟩
    · have h2' : ((a : Int) == 108) = false := by simp; omega
      by_cases h3 : a = 115
      · subst h3
        have hr : Hid (sameK 115 b = ((b : Int) == 115)) := by
          show _ = _; rw [show ((b : Int) == 115) = (b == 115) from beqK b 115]; simp [sameK]
        go_enter Tryd.func42, Tryd.ntmps42
        go_wp2_with fail
        go_ret
        exact ⟨ret_bool (by rw [hr.out]), rfl⟩
      · have h3' : ((a : Int) == 115) = false := by simp; omega
        have hr : Hid (sameK a b = false) := by show _ = _; simp [sameK, h1, h2, h3]
        clear h1 h2 h3
        go_enter Tryd.func42, Tryd.ntmps42
        go_wp2_with fail
        go_ret
        exact ⟨ret_bool (by rw [hr.out]), rfl⟩

/-- A type as a value of the program's. -/
abbrev tyV (ty : Ty) (ai : Option Addr) (li ci : Nat) (af : Option Addr) (lf cf : Nat) : Value := .agg #[.int .i64 ty.kind, .string ty.letters, .bool ty.op, .slice ai li ci, .slice af lf cf]

set_option maxHeartbeats 1000000 in
theorem takesLetter_any (ty : Ty) (ai : Option Addr) (li ci : Nat) (af : Option Addr) (lf cf : Nat) (c : Int) (w : World) (hl : ty.letters.size ≤ 8) :
    Calls Tryd.prog 76 #[.agg #[.int .i64 ty.kind, .string ty.letters, .bool ty.op, .slice ai li ci, .slice af lf cf], .int .i64 c] w fun e w' => e = .returned (.bool (ty.op || decide (0 ≤ pOf ty.letters c))) ∧ Below w.heap.size w w' := by
  have _hl : ty.letters.size ≤ 9000000 := by omega
  have hB : ∀ o, Below w.heap.size w (w.alloc o) := fun o => (Below.refl _ _).alloc (Nat.le_refl _) _
  cases hop : ty.op with
  | true =>
    go_enter Tryd.func76, Tryd.ntmps76
    go_wp2_with (go_at_call 77; refine (placeOf_any _ _ _ _hl).mono ?_; rintro e w' ⟨rfl, rfl⟩)
    go_ret
    exact ⟨rfl, by first | exact hB _ | exact Below.refl _ _⟩
  | false =>
    go_enter Tryd.func76, Tryd.ntmps76
    go_wp2_with (go_at_call 77; refine (placeOf_any _ _ _ _hl).mono ?_; rintro e w' ⟨rfl, rfl⟩)
    go_ret
    exact ⟨ret_bool (by simp), by first | exact hB _ | exact Below.refl _ _⟩

set_option maxHeartbeats 1000000 in
theorem span_out (s : ByteArray) (a b : Nat) (w : World) (h : s.size < b) (_hs : s.size ≤ 9000000) (hb : b ≤ 9000000) :
    Calls Tryd.prog 75 #[.string s, .int .i64 a, .int .i64 b] w fun e w' => e = .returned (.string ByteArray.empty) ∧ w' = w := by
  by_cases hab : b < a
  · go_enter Tryd.func75, Tryd.ntmps75
    go_wp2_with fail
    go_ret
    exact ⟨rfl, rfl⟩
  · go_enter Tryd.func75, Tryd.ntmps75
    go_wp2_with fail
    go_ret
    exact ⟨rfl, rfl⟩
set_option maxHeartbeats 1000000 in
theorem firstLetter_any (ty : Ty) (ai : Option Addr) (li ci : Nat) (af : Option Addr) (lf cf : Nat) (w : World) (hl : ty.letters.size ≤ 8) :
    Calls Tryd.prog 78 #[.agg #[.int .i64 ty.kind, .string ty.letters, .bool ty.op, .slice ai li ci, .slice af lf cf]] w fun e w' => e = .returned (.string (ty.letters.extract 0 1)) ∧ Below w.heap.size w w' := by
  have _hl : ty.letters.size ≤ 9000000 := by omega
  have hB : ∀ o, Below w.heap.size w (w.alloc o) := fun o => (Below.refl _ _).alloc (Nat.le_refl _) _
  have hsp : ∀ w, Calls Tryd.prog 75 #[.string ty.letters, .int .i64 0, .int .i64 1] w fun e w' => e = .returned (.string (ty.letters.extract 0 1)) ∧ w' = w := fun w => by
    by_cases h1 : 1 ≤ ty.letters.size
    · exact span_any ty.letters 0 1 w (by omega) h1 _hl
    · rw [show ty.letters.extract 0 1 = ByteArray.empty from bytes_eq (by rw [ByteArray.size_extract]; show _ = 0; omega) (fun i hi => by rw [ByteArray.size_extract] at hi; omega)]
      exact span_out ty.letters 0 1 w (by omega) _hl (by omega)
  go_enter Tryd.func78, Tryd.ntmps78
  go_wp2_with (go_at_call 75; refine (hsp _).mono ?_; rintro e w' ⟨rfl, rfl⟩)
  go_ret
  exact ⟨rfl, by first | exact hB _ | exact Below.refl _ _⟩
end
section
set_option maxRecDepth 4000
open Go.RowKit

set_option maxHeartbeats 1000000 in
theorem nothingAs_any (ty : Ty) (ai : Option Addr) (li ci : Nat) (af : Option Addr) (lf cf : Nat) (w : World) :
    Calls Tryd.prog 74 #[.agg #[.int .i64 ty.kind, .string ty.letters, .bool ty.op, .slice ai li ci, .slice af lf cf]] w fun e w' => e = .returned (if ty.kind = 63 then .tuple #[.string ⟨#[95]⟩, .bool true] else .tuple #[.string ByteArray.empty, .bool false]) ∧ Below w.heap.size w w' := by
  have hB : ∀ o, Below w.heap.size w (w.alloc o) := fun o => (Below.refl _ _).alloc (Nat.le_refl _) _
  by_cases hk : ty.kind = 63
  · have hk' : ((ty.kind : Int) != 63) = false := by simp; omega
    rw [if_pos hk]
    clear hk
    go_enter Tryd.func74, Tryd.ntmps74
    go_wp2_with fail
    go_ret2
    exact ⟨rfl, by first | exact hB _ | exact Below.refl _ _⟩
  · have hk' : ((ty.kind : Int) != 63) = true := by simp; omega
    rw [if_neg hk]
    clear hk
    go_enter Tryd.func74, Tryd.ntmps74
    go_wp2_with fail
    go_ret2
    exact ⟨rfl, by first | exact hB _ | exact Below.refl _ _⟩
theorem BB (w : World) (o o2 : Obj) : Below w.heap.size w ((w.alloc o).alloc o2) := ((Below.refl _ _).alloc (Nat.le_refl _) _).alloc (by simp) _
set_option maxHeartbeats 1000000 in
theorem readChoice_any (x r : Ty) (ai : Option Addr) (li ci : Nat) (af : Option Addr) (lf cf : Nat) (bi : Option Addr) (mi di : Nat) (bf : Option Addr) (mf df : Nat) (i : Nat) (w : World) (hx8 : x.letters.size ≤ 8) (hr8 : r.letters.size ≤ 8) (hi : i < x.letters.size) :
    Calls Tryd.prog 43 #[.agg #[.int .i64 x.kind, .string x.letters, .bool x.op, .slice ai li ci, .slice af lf cf], .agg #[.int .i64 r.kind, .string r.letters, .bool r.op, .slice bi mi di, .slice bf mf df], .string (oneB i)] w fun e w' => e = .returned (dRet (rdCho x.letters r.letters r.op i)) ∧ Below w.heap.size w w' := by
  have _hx : x.letters.size ≤ 9000000 := by omega
  have _hr : r.letters.size ≤ 9000000 := by omega
  have hlo : 0 ≤ bAt x.letters i := by rw [bAt_in _ _ hi]; omega
  have hhi := bAt_hi x.letters i
  obtain ⟨D, hD⟩ : ∃ D, D = oneB i := ⟨_, rfl⟩
  have hDs : D.size ≤ 9000000 := by rw [hD, oneB_size]; omega
  have hb0 : bAt D (Int.toNat 0) = i := by rw [hD]; exact bAt_one i (by omega)
  rw [← hD]
  obtain ⟨c, hc⟩ : ∃ c, c = bAt x.letters i := ⟨_, rfl⟩
  have hb1 : bAt x.letters (Int.toNat i) = c := hc.symm
  have hC : rdCho x.letters r.letters r.op i = if pOf r.letters c < 0 then (if r.op = true then some (r.letters.extract 0 1) else none) else some (oneB c.toNat) := by rw [hc]; rfl
  rw [← hc] at hlo hhi
  have htk := fun w => takesLetter_any r bi mi di bf mf df c w hr8
  have hfl := fun w => firstLetter_any r bi mi di bf mf df w hr8
  clear hD hc hi
  by_cases hp : 0 ≤ pOf r.letters c
  · have hp' : ¬ pOf r.letters c < 0 := by omega
    have hr' : Hid (rdCho x.letters r.letters r.op i = some (oneB c.toNat)) := by show _ = _; rw [hC, if_neg hp']
    rw [show (r.op || decide (0 ≤ pOf r.letters c)) = true by simp [hp]] at htk
    clear hC
    go_enter Tryd.func43, Tryd.ntmps43
    go_wp2_with (first | (go_at_call 73; refine (byteAt_int _ _ _ (by omega) (by first | exact hDs | exact _hx)).mono ?_; rintro e _ ⟨rfl, rfl⟩; first | rw [hb0] | rw [hb1]) | (go_at_call 76; refine (htk _).mono ?_; rintro e w1 ⟨rfl, hb1⟩; obtain ⟨hc1, hf1⟩ := bcell hb1; have hz1 := hb1.size) | (go_at_call 77; refine (placeOf_any _ _ _ _hr).mono ?_; rintro e _ ⟨rfl, rfl⟩) | (go_at_call 79; refine (oneByte_int _ _ hlo (by omega)).mono ?_; rintro e w2 ⟨rfl, hb2⟩))
    go_ret2
    rw [hr'.out]
    exact ⟨rfl, ((BB w _ _).thn hb1).thn hb2⟩
  · have hp' : pOf r.letters c < 0 := by omega
    cases hop : r.op with
    | true =>
      have hr' : Hid (rdCho x.letters r.letters true i = some (r.letters.extract 0 1)) := by show _ = _; rw [← hop, hC, if_pos hp', hop]; rfl
      rw [hop] at htk hfl
      clear hC hp
      go_enter Tryd.func43, Tryd.ntmps43
      go_wp2_with (first | (go_at_call 73; refine (byteAt_int _ _ _ (by omega) (by first | exact hDs | exact _hx)).mono ?_; rintro e _ ⟨rfl, rfl⟩; first | rw [hb0] | rw [hb1]) | (go_at_call 76; refine (htk _).mono ?_; rintro e w1 ⟨rfl, hb1⟩; obtain ⟨hc1, hf1⟩ := bcell hb1; have hz1 := hb1.size) | (go_at_call 77; refine (placeOf_any _ _ _ _hr).mono ?_; rintro e _ ⟨rfl, rfl⟩) | (go_at_call 79; refine (oneByte_int _ _ hlo (by omega)).mono ?_; rintro e w2 ⟨rfl, hb2⟩) | (go_at_call 78; refine (hfl _).mono ?_; rintro e w2 ⟨rfl, hb2⟩))
      go_ret2
      rw [hr'.out]
      exact ⟨rfl, ((BB w _ _).thn hb1).thn hb2⟩
    | false =>
      have hr' : Hid (rdCho x.letters r.letters false i = none) := by show _ = _; rw [← hop, hC, if_pos hp', hop]; rfl
      rw [hop, show (false || decide (0 ≤ pOf r.letters c)) = false by simp; omega] at htk
      clear hC hp
      go_enter Tryd.func43, Tryd.ntmps43
      go_wp2_with (first | (go_at_call 73; refine (byteAt_int _ _ _ (by omega) (by first | exact hDs | exact _hx)).mono ?_; rintro e _ ⟨rfl, rfl⟩; first | rw [hb0] | rw [hb1]) | (go_at_call 76; refine (htk _).mono ?_; rintro e w1 ⟨rfl, hb1⟩; obtain ⟨hc1, hf1⟩ := bcell hb1; have hz1 := hb1.size) | (go_at_call 77; refine (placeOf_any _ _ _ _hr).mono ?_; rintro e _ ⟨rfl, rfl⟩) | (go_at_call 79; refine (oneByte_int _ _ hlo (by omega)).mono ?_; rintro e w2 ⟨rfl, hb2⟩))
      go_ret2
      rw [hr'.out]
      exact ⟨rfl, (BB w _ _).thn hb1⟩
end
section
set_option maxRecDepth 4000
open Go.RowKit

/-- What is asked of 'Read', of values of at most 64 bytes of data. -/
def ReadOK (Tab : World → Prop) (m : Nat) : Prop := ∀ (nw nr : Nat) (x r : Ty) (v : Val) (w : World) (ai af : Option Addr) (li ci lf cf : Nat) (bi bf : Option Addr) (mi di mf df : Nat),
  nw + nr ≤ m → nw ≤ 100 → nr ≤ 100 → Tab w → okT nw x → okT nr r → Rep nw w ai li ci af lf cf x → Rep nr w bi mi di bf mf df r → okV nw x v → (datV nw v).size ≤ 64 → wt m r ≤ 20000 →
  Calls Tryd.prog 27 #[.agg #[.int .i64 x.kind, .string x.letters, .bool x.op, .slice ai li ci, .slice af lf cf], .agg #[.int .i64 r.kind, .string r.letters, .bool r.op, .slice bi mi di, .slice bf mf df], .string (datV nw v)] w fun e w' => e = .returned (dRet (rdT m x r v)) ∧ Below w.heap.size w w'

theorem cat1 {a : Nat} (b : ByteArray) (ha : a < 256) : (oneB a ++ b).size = 1 + b.size ∧ bAt (oneB a ++ b) (Int.toNat 0) = a ∧ (oneB a ++ b).extract 1 (oneB a ++ b).size = b := by
  have h1 : (oneB a ++ b).size = 1 + b.size := by rw [ByteArray.size_append, oneB_size]
  refine ⟨h1, ?_, ?_⟩
  · show bAt (oneB a ++ b) 0 = a
    rw [bAt_app_left _ _ _ (by rw [oneB_size]; omega), bAt_one a ha]
  · have := (At.self (oneB a ++ b))
    rw [At.app, oneB_size] at this
    have h2 := this.2.ext
    rw [show 0 + 1 = 1 by omega] at h2
    rw [h1]; exact h2

theorem keep10 {W w1 : World} (hb : Below W.heap.size W w1) {b c : Nat} {v0 v1 v2 v3 v4 u0 u1 u2 u3 u4 : Value} (h : W.cell? ⟨b, 0, none⟩ = some v0 ∧ W.cell? ⟨b, 1, none⟩ = some v1 ∧ W.cell? ⟨b, 2, none⟩ = some v2 ∧ W.cell? ⟨b, 3, none⟩ = some v3 ∧ W.cell? ⟨b, 4, none⟩ = some v4 ∧ W.cell? ⟨c, 0, none⟩ = some u0 ∧ W.cell? ⟨c, 1, none⟩ = some u1 ∧ W.cell? ⟨c, 2, none⟩ = some u2 ∧ W.cell? ⟨c, 3, none⟩ = some u3 ∧ W.cell? ⟨c, 4, none⟩ = some u4) :
    w1.cell? ⟨b, 0, none⟩ = some v0 ∧ w1.cell? ⟨b, 1, none⟩ = some v1 ∧ w1.cell? ⟨b, 2, none⟩ = some v2 ∧ w1.cell? ⟨b, 3, none⟩ = some v3 ∧ w1.cell? ⟨b, 4, none⟩ = some v4 ∧ w1.cell? ⟨c, 0, none⟩ = some u0 ∧ w1.cell? ⟨c, 1, none⟩ = some u1 ∧ w1.cell? ⟨c, 2, none⟩ = some u2 ∧ w1.cell? ⟨c, 3, none⟩ = some u3 ∧ w1.cell? ⟨c, 4, none⟩ = some u4 := by
  obtain ⟨h0, h1, h2, h3, h4, k0, k1, k2, k3, k4⟩ := h
  exact ⟨cell_keep hb h0, cell_keep hb h1, cell_keep hb h2, cell_keep hb h3, cell_keep hb h4, cell_keep hb k0, cell_keep hb k1, cell_keep hb k2, cell_keep hb k3, cell_keep hb k4⟩
theorem boxes2 (w : World) (x r : Ty) (ai : Option Addr) (li ci : Nat) (af : Option Addr) (lf cf : Nat) (bi : Option Addr) (mi di : Nat) (bf : Option Addr) (mf df : Nat) :
    ((w.alloc (.cells #[.int .i64 x.kind, .string x.letters, .bool x.op, .slice ai li ci, .slice af lf cf] 38)).alloc (.cells #[.int .i64 r.kind, .string r.letters, .bool r.op, .slice bi mi di, .slice bf mf df] 38)).cell? ⟨w.heap.size, 0, none⟩ = some (.int .i64 x.kind) ∧ ((w.alloc (.cells #[.int .i64 x.kind, .string x.letters, .bool x.op, .slice ai li ci, .slice af lf cf] 38)).alloc (.cells #[.int .i64 r.kind, .string r.letters, .bool r.op, .slice bi mi di, .slice bf mf df] 38)).cell? ⟨w.heap.size, 1, none⟩ = some (.string x.letters) ∧ ((w.alloc (.cells #[.int .i64 x.kind, .string x.letters, .bool x.op, .slice ai li ci, .slice af lf cf] 38)).alloc (.cells #[.int .i64 r.kind, .string r.letters, .bool r.op, .slice bi mi di, .slice bf mf df] 38)).cell? ⟨w.heap.size, 2, none⟩ = some (.bool x.op) ∧ ((w.alloc (.cells #[.int .i64 x.kind, .string x.letters, .bool x.op, .slice ai li ci, .slice af lf cf] 38)).alloc (.cells #[.int .i64 r.kind, .string r.letters, .bool r.op, .slice bi mi di, .slice bf mf df] 38)).cell? ⟨w.heap.size, 3, none⟩ = some (.slice ai li ci) ∧ ((w.alloc (.cells #[.int .i64 x.kind, .string x.letters, .bool x.op, .slice ai li ci, .slice af lf cf] 38)).alloc (.cells #[.int .i64 r.kind, .string r.letters, .bool r.op, .slice bi mi di, .slice bf mf df] 38)).cell? ⟨w.heap.size, 4, none⟩ = some (.slice af lf cf) ∧ ((w.alloc (.cells #[.int .i64 x.kind, .string x.letters, .bool x.op, .slice ai li ci, .slice af lf cf] 38)).alloc (.cells #[.int .i64 r.kind, .string r.letters, .bool r.op, .slice bi mi di, .slice bf mf df] 38)).cell? ⟨w.heap.size + 1, 0, none⟩ = some (.int .i64 r.kind) ∧ ((w.alloc (.cells #[.int .i64 x.kind, .string x.letters, .bool x.op, .slice ai li ci, .slice af lf cf] 38)).alloc (.cells #[.int .i64 r.kind, .string r.letters, .bool r.op, .slice bi mi di, .slice bf mf df] 38)).cell? ⟨w.heap.size + 1, 1, none⟩ = some (.string r.letters) ∧ ((w.alloc (.cells #[.int .i64 x.kind, .string x.letters, .bool x.op, .slice ai li ci, .slice af lf cf] 38)).alloc (.cells #[.int .i64 r.kind, .string r.letters, .bool r.op, .slice bi mi di, .slice bf mf df] 38)).cell? ⟨w.heap.size + 1, 2, none⟩ = some (.bool r.op) ∧ ((w.alloc (.cells #[.int .i64 x.kind, .string x.letters, .bool x.op, .slice ai li ci, .slice af lf cf] 38)).alloc (.cells #[.int .i64 r.kind, .string r.letters, .bool r.op, .slice bi mi di, .slice bf mf df] 38)).cell? ⟨w.heap.size + 1, 3, none⟩ = some (.slice bi mi di) ∧ ((w.alloc (.cells #[.int .i64 x.kind, .string x.letters, .bool x.op, .slice ai li ci, .slice af lf cf] 38)).alloc (.cells #[.int .i64 r.kind, .string r.letters, .bool r.op, .slice bi mi di, .slice bf mf df] 38)).cell? ⟨w.heap.size + 1, 4, none⟩ = some (.slice bf mf df) := by
  have h : (w.alloc (.cells #[.int .i64 x.kind, .string x.letters, .bool x.op, .slice ai li ci, .slice af lf cf] 38)).heap.size = w.heap.size + 1 := by simp
  refine ⟨cell_new _ (cell_last rfl rfl), cell_new _ (cell_last rfl rfl), cell_new _ (cell_last rfl rfl), cell_new _ (cell_last rfl rfl), cell_new _ (cell_last rfl rfl), ?_⟩
  rw [← h]
  exact ⟨cell_last rfl rfl, cell_last rfl rfl, cell_last rfl rfl, cell_last rfl rfl, cell_last rfl rfl⟩

set_option maxHeartbeats 1000000 in
theorem readMaybe_non (x r : Ty) (ai : Option Addr) (li ci : Nat) (af : Option Addr) (lf cf : Nat) (bi : Option Addr) (mi di : Nat) (bf : Option Addr) (mf df : Nat) (w : World) :
    Calls Tryd.prog 40 #[.agg #[.int .i64 x.kind, .string x.letters, .bool x.op, .slice ai li ci, .slice af lf cf], .agg #[.int .i64 r.kind, .string r.letters, .bool r.op, .slice bi mi di, .slice bf mf df], .string (oneB 0)] w fun e w' => e = .returned (dRet (if r.kind = 63 then some ⟨#[95]⟩ else none)) ∧ Below w.heap.size w w' := by
  obtain ⟨D, hD⟩ : ∃ D, D = oneB 0 := ⟨_, rfl⟩
  have hDs : D.size ≤ 9000000 := by rw [hD, oneB_size]; omega
  have hb0 : bAt D (Int.toNat 0) = (0 : Nat) := by rw [hD]; exact bAt_one 0 (by omega)
  rw [← hD]
  have hna := fun w => nothingAs_any r bi mi di bf mf df w
  clear hD
  by_cases hk : r.kind = 63
  · rw [if_pos hk]
    rw [if_pos hk] at hna
    clear hk
    go_enter Tryd.func40, Tryd.ntmps40
    go_wp2_with (first | (go_at_call 73; refine (byteAt_int _ _ _ (by omega) hDs).mono ?_; rintro e _ ⟨rfl, rfl⟩; rw [hb0]) | (go_at_call 74; refine (hna _).mono ?_; rintro e w1 ⟨rfl, hb1⟩))
    go_ret2
    exact ⟨rfl, (BB w _ _).thn hb1⟩
  · rw [if_neg hk]
    rw [if_neg hk] at hna
    clear hk
    go_enter Tryd.func40, Tryd.ntmps40
    go_wp2_with (first | (go_at_call 73; refine (byteAt_int _ _ _ (by omega) hDs).mono ?_; rintro e _ ⟨rfl, rfl⟩; rw [hb0]) | (go_at_call 74; refine (hna _).mono ?_; rintro e w1 ⟨rfl, hb1⟩))
    go_ret2
    exact ⟨rfl, (BB w _ _).thn hb1⟩

set_option maxHeartbeats 1000000 in
theorem readMaybe_som {Tab : World → Prop} (F : FmtOK Tab) {m : Nat} (IH : ReadOK Tab m) (nw nr : Nat) (x r : Ty) (v : Val) (w : World) (ai af : Option Addr) (li ci lf cf : Nat) (bi bf : Option Addr) (mi di mf df : Nat)
    (hm : nw + nr ≤ m) (hnw : nw ≤ 100) (hnr : nr ≤ 100) (hT : Tab w) (hox : okT nw x) (hor : okT nr r) (hx : Rep nw w ai li ci af lf cf x) (hr : Rep nr w bi mi di bf mf df r) (hv : okV nw x v) (hsz : (datV nw v).size ≤ 63) (hwt : wt m r ≤ 20000) :
    Calls Tryd.prog 40 #[.agg #[.int .i64 x.kind, .string x.letters, .bool x.op, .slice ai li ci, .slice af lf cf], .agg #[.int .i64 r.kind, .string r.letters, .bool r.op, .slice bi mi di, .slice bf mf df], .string (oneB 1 ++ datV nw v)] w fun e w' => e = .returned (dRet (rdT m x r v)) ∧ Below w.heap.size w w' := by
  obtain ⟨h1, h2, h3⟩ := cat1 (a := 1) (datV nw v) (by omega)
  obtain ⟨D, hD⟩ : ∃ D, D = oneB 1 ++ datV nw v := ⟨_, rfl⟩
  rw [← hD] at h1 h2 h3 ⊢
  have hDs : D.size ≤ 9000000 := by omega
  have hsp := fun w => span_any D 1 D.size w (by omega) (Nat.le_refl _) hDs
  rw [h3] at hsp
  have hcall := fun (W : World) (hb : Below w.heap.size w W) => IH nw nr x r v W ai af li ci lf cf bi bf mi di mf df hm hnw hnr (F.1 _ _ hb hT) hox hor (hx.keep hb) (hr.keep hb) hv (by omega) hwt
  simp only [Int.cast_ofNat_Int] at hsp
  generalize datV nw v = V at hcall hsp
  clear hD h3 hx hr hv IH h1
  cases hy : rdT m x r v with
  | none =>
    rw [hy] at hcall
    simp only [dRet] at hcall
    clear hy
    go_enter Tryd.func40, Tryd.ntmps40
    go_wp2_with (first | (go_at_call 73; refine (byteAt_int _ _ _ (by omega) hDs).mono ?_; rintro e _ ⟨rfl, rfl⟩; rw [h2]))
    have e0 := boxes2 w x r ai li ci af lf cf bi mi di bf mf df
    go_region_held3 (fun w' => w'.cell? ⟨w.heap.size, 0, none⟩ = some (.int .i64 x.kind) ∧ w'.cell? ⟨w.heap.size, 1, none⟩ = some (.string x.letters) ∧ w'.cell? ⟨w.heap.size, 2, none⟩ = some (.bool x.op) ∧ w'.cell? ⟨w.heap.size, 3, none⟩ = some (.slice ai li ci) ∧ w'.cell? ⟨w.heap.size, 4, none⟩ = some (.slice af lf cf) ∧ w'.cell? ⟨w.heap.size + 1, 0, none⟩ = some (.int .i64 r.kind) ∧ w'.cell? ⟨w.heap.size + 1, 1, none⟩ = some (.string r.letters) ∧ w'.cell? ⟨w.heap.size + 1, 2, none⟩ = some (.bool r.op) ∧ w'.cell? ⟨w.heap.size + 1, 3, none⟩ = some (.slice bi mi di) ∧ w'.cell? ⟨w.heap.size + 1, 4, none⟩ = some (.slice bf mf df)) (go_keep) (first | (go_at_call 75; refine (hsp _).mono ?_; rintro e _ ⟨rfl, rfl⟩) | (go_at_call 27; refine (hcall _ (by first | exact (BB w _ _).drew | exact BB w _ _)).mono ?_; rintro e w1 ⟨rfl, hb1⟩; have e1 := keep10 hb1 e0))
    go_wp2_with fail
    go_ret2
    exact ⟨rfl, (BB w _ _).drew.thn hb1⟩
  | some y =>
    rw [hy] at hcall
    simp only [dRet] at hcall
    clear hy
    go_enter Tryd.func40, Tryd.ntmps40
    go_wp2_with (first | (go_at_call 73; refine (byteAt_int _ _ _ (by omega) hDs).mono ?_; rintro e _ ⟨rfl, rfl⟩; rw [h2]))
    have e0 := boxes2 w x r ai li ci af lf cf bi mi di bf mf df
    go_region_held3 (fun w' => w'.cell? ⟨w.heap.size, 0, none⟩ = some (.int .i64 x.kind) ∧ w'.cell? ⟨w.heap.size, 1, none⟩ = some (.string x.letters) ∧ w'.cell? ⟨w.heap.size, 2, none⟩ = some (.bool x.op) ∧ w'.cell? ⟨w.heap.size, 3, none⟩ = some (.slice ai li ci) ∧ w'.cell? ⟨w.heap.size, 4, none⟩ = some (.slice af lf cf) ∧ w'.cell? ⟨w.heap.size + 1, 0, none⟩ = some (.int .i64 r.kind) ∧ w'.cell? ⟨w.heap.size + 1, 1, none⟩ = some (.string r.letters) ∧ w'.cell? ⟨w.heap.size + 1, 2, none⟩ = some (.bool r.op) ∧ w'.cell? ⟨w.heap.size + 1, 3, none⟩ = some (.slice bi mi di) ∧ w'.cell? ⟨w.heap.size + 1, 4, none⟩ = some (.slice bf mf df)) (go_keep) (first | (go_at_call 75; refine (hsp _).mono ?_; rintro e _ ⟨rfl, rfl⟩) | (go_at_call 27; refine (hcall _ (by first | exact (BB w _ _).drew | exact BB w _ _)).mono ?_; rintro e w1 ⟨rfl, hb1⟩; have e1 := keep10 hb1 e0))
    go_wp2_with fail
    go_ret2
    exact ⟨rfl, (BB w _ _).drew.thn hb1⟩

theorem rd_small {C b : Nat} {t : ByteArray} (h : t.size ≤ C * b) (hC : C ≤ 20001) (hb : b ≤ 65) : t.size ≤ 1300100 := by
  have h1 := Nat.mul_le_mul hC hb
  omega

set_option maxHeartbeats 1000000 in
theorem readList_any {Tab : World → Prop} (F : FmtOK Tab) {m : Nat} (IH : ReadOK Tab m) (nw nr : Nat) (x r : Ty) (vs : List Val) (w : World) (ai af : Option Addr) (li ci lf cf : Nat) (bi bf : Option Addr) (mi di mf df : Nat)
    (hm : nw + nr ≤ m) (hnw : nw ≤ 100) (hnr : nr ≤ 100) (hT : Tab w) (hox : okT nw x) (hor : okT nr r) (hx : Rep nw w ai li ci af lf cf x) (hr : Rep nr w bi mi di bf mf df r) (hvl : vs.length ≤ 16) (hv : ∀ v ∈ vs, okV nw x v)
    (hsz : (oneB vs.length ++ catB (vs.map (datV nw))).size ≤ 64) (hwt : wt m r ≤ 20000) :
    Calls Tryd.prog 44 #[.agg #[.int .i64 x.kind, .string x.letters, .bool x.op, .slice ai li ci, .slice af lf cf], .agg #[.int .i64 r.kind, .string r.letters, .bool r.op, .slice bi mi di, .slice bf mf df], .string (oneB vs.length ++ catB (vs.map (datV nw)))] w fun e w' => e = .returned (dRet (rdItems (rdT m x r) vs 0 ⟨#[91]⟩)) ∧ Below w.heap.size w w' := by
  obtain ⟨h1, h2, _⟩ := cat1 (a := vs.length) (catB (vs.map (datV nw))) (by omega)
  have hat : At (oneB vs.length ++ catB (vs.map (datV nw))) 1 (catB (vs.map (datV nw))) := by
    have := At.self (oneB vs.length ++ catB (vs.map (datV nw)))
    rw [At.app, oneB_size] at this
    exact this.2
  obtain ⟨D, hD⟩ : ∃ D, D = oneB vs.length ++ catB (vs.map (datV nw)) := ⟨_, rfl⟩
  rw [← hD] at h1 h2 hat hsz ⊢
  have hDs : D.size ≤ 9000000 := by omega
  obtain ⟨R, hR⟩ : ∃ R, R = rdItems (rdT m x r) vs 0 ⟨#[91]⟩ := ⟨_, rfl⟩
  rw [← hR]
  have HR : Hid (R = rdItems (rdT m x r) vs 0 ⟨#[91]⟩) := hR
  have HD : Hid (D.size = 1 + (catB (vs.map (datV nw))).size) := h1
  have HV : Hid (∀ v ∈ vs, okV nw x v) := hv
  have DA := decodeAt_all F (s := D) (by omega) nw (by omega)
  clear hD hR h1 hv
  go_enter Tryd.func44, Tryd.ntmps44
  go_wp2_with (go_at_call 73; refine (byteAt_int _ _ _ (by omega) hDs).mono ?_; rintro e _ ⟨rfl, rfl⟩; rw [h2])
  clear h2
  go_loopw [9, 10, 11] (fun vd vb vc wr => ∃ (c b : Nat) (us : List Val) (t : ByteArray), c + us.length = vs.length ∧ 1 ≤ b ∧ b ≤ D.size ∧ vc = .int .i64 c ∧ vb = .int .i64 b ∧ vd = .string t ∧ Hid (R = rdItems (rdT m x r) us c t) ∧ Hid (At D b (catB (us.map (datV nw)))) ∧ Hid (∀ u ∈ us, okV nw x u) ∧ Hid (t.size ≤ (wt m r + 1) * b) ∧ Below (w.heap.size + 2) ((w.alloc (.cells #[.int .i64 x.kind, .string x.letters, .bool x.op, .slice ai li ci, .slice af lf cf] 38)).alloc (.cells #[.int .i64 r.kind, .string r.letters, .bool r.op, .slice bi mi di, .slice bf mf df] 38)) wr) (fun _ _ c _ => 17 - (intOf c).toNat)
  case atStart => exact ⟨0, 1, vs, ⟨#[91]⟩, by omega, Nat.le_refl _, by have := HD.out; omega, rfl, by go_num, rfl, HR, hat, HV, (by show (1 : Nat) ≤ _; omega), Below.refl _ _⟩
  case round =>
    obtain ⟨c, b, us, t, hcm, hb1, hbt, rfl, rfl, rfl, hR, hA, hU, ht, hb⟩ := hrel
    have hbW : Below w.heap.size w wr := (BB w _ _).trans (hb.mono (by omega))
    have e0 := keep10 (W := ((w.alloc (.cells #[.int .i64 x.kind, .string x.letters, .bool x.op, .slice ai li ci, .slice af lf cf] 38)).alloc (.cells #[.int .i64 r.kind, .string r.letters, .bool r.op, .slice bi mi di, .slice bf mf df] 38))) (w1 := wr) (hb.mono (by simp)) (boxes2 w x r ai li ci af lf cf bi mi di bf mf df)
    have hTw : Tab wr := F.1 _ _ hbW hT
    have hs2 := rd_small ht.out (by omega) (by omega)
    have hsw : w.heap.size + 2 ≤ wr.heap.size := by have := hb.size; simpa using this
    have one1 : (⟨#[93]⟩ : ByteArray).size = 1 := rfl
    have one2 : (⟨#[44]⟩ : ByteArray).size = 1 := rfl
    cases us with
    | nil =>
      have hcL : ¬ (c : Int) < (vs.length : Int) := by simp at hcm; omega
      have hr' : Hid (R = some (t ++ ⟨#[93]⟩)) := hR
      go_wp2_with fail
      go_ret2
      rw [hr'.out]
      exact ⟨rfl, hbW⟩
    | cons u us =>
      have hcL : (c : Int) < (vs.length : Int) := by simp at hcm; omega
      have hA2 : At D b (datV nw u) ∧ At D (b + (datV nw u).size) (catB (us.map (datV nw))) := by
        have := hA.out; simp only [List.map_cons, catB] at this; exact At.app.1 this
      have hu := hU.out u (by simp)
      have hdx := dec_mk nw x u b hu hA2.1
      obtain ⟨k, hk⟩ : ∃ k, k = b + (datV nw u).size := ⟨_, rfl⟩
      rw [← hk] at hdx hA2
      have hk1 := hA2.1.le
      have hku := datV_pos _ _ _ hu
      have hext : D.extract b k = datV nw u := by rw [hk]; exact hA2.1.ext
      have hcall := DA.yes hbt hTw hox (hx.keep hbW) hdx
      have hsp := fun w => span_any D b k w (by omega) (by omega) hDs
      rw [hext] at hsp
      have hrd := fun (W : World) (hb' : Below wr.heap.size wr W) => IH nw nr x r u W ai af li ci lf cf bi bf mi di mf df hm hnw hnr (F.1 _ _ (hbW.thn hb') hT) hox hor (hx.keep (hbW.thn hb')) (hr.keep (hbW.thn hb')) hu (by omega) hwt
      have HA : Hid (At D k (catB (us.map (datV nw)))) := hA2.2
      have HU : Hid (∀ v ∈ us, okV nw x v) := fun v hv => hU.out v (by simp [hv])
      have hkD : k ≤ D.size := by omega
      have hbk : b < k := by omega
      have hxs := fun y (hy : rdT m x r u = some y) => rdT_size m nw x r u y hu hy
      have hkb : (datV nw u).size = k - b := by omega
      rw [hkb] at hxs
      have hlen : c + 1 + us.length = vs.length := by simp at hcm; omega
      generalize datV nw u = V at hsp hrd
      clear hdx hA2 hext hk hU hA hk1 hku hkb hcm
      cases hy : rdT m x r u with
      | none =>
        have hr' : Hid (R = none) := by show _ = _; rw [hR.out, rdItems, hy]
        rw [hy] at hrd
        simp only [dRet] at hrd
        clear hy hxs
        go_wp2_with (first | (go_at_call 32; refine hcall.mono ?_; rintro e w1 ⟨rfl, hb1⟩; have e1 := keep10 hb1 e0))
        go_region_held3 (fun w' => w'.cell? ⟨w.heap.size, 0, none⟩ = some (.int .i64 x.kind) ∧ w'.cell? ⟨w.heap.size, 1, none⟩ = some (.string x.letters) ∧ w'.cell? ⟨w.heap.size, 2, none⟩ = some (.bool x.op) ∧ w'.cell? ⟨w.heap.size, 3, none⟩ = some (.slice ai li ci) ∧ w'.cell? ⟨w.heap.size, 4, none⟩ = some (.slice af lf cf) ∧ w'.cell? ⟨w.heap.size + 1, 0, none⟩ = some (.int .i64 r.kind) ∧ w'.cell? ⟨w.heap.size + 1, 1, none⟩ = some (.string r.letters) ∧ w'.cell? ⟨w.heap.size + 1, 2, none⟩ = some (.bool r.op) ∧ w'.cell? ⟨w.heap.size + 1, 3, none⟩ = some (.slice bi mi di) ∧ w'.cell? ⟨w.heap.size + 1, 4, none⟩ = some (.slice bf mf df)) (go_keep) (first | (go_at_call 75; refine (hsp _).mono ?_; rintro e _ ⟨rfl, rfl⟩) | (go_at_call 27; refine (hrd _ (by first | exact hb1.drew | exact hb1)).mono ?_; rintro e w2 ⟨rfl, hb2⟩; have e2 := keep10 hb2 e1))
        go_wp2_with fail
        go_ret2
        rw [hr'.out]
        exact ⟨rfl, (hbW.thn hb1).drew.thn hb2⟩
      | some y =>
        have hys := hxs y hy
        rw [hy] at hrd
        simp only [dRet] at hrd
        have hsum : t.size + 1 + y.size ≤ (wt m r + 1) * k := by
          have h1 := mul_sub_add (C := wt m r + 1) (show 0 ≤ b by omega) (show b ≤ k by omega)
          have h2 : (wt m r + 1) * (k - b) = wt m r * (k - b) + (k - b) := by rw [Nat.add_mul, Nat.one_mul]
          have := ht.out
          simp only [Nat.sub_zero] at h1
          omega
        have hs3 : y.size ≤ 1300100 := by
          have h3 : y.size ≤ (wt m r + 1) * k := by omega
          exact rd_small h3 (by omega) (by omega)
        by_cases hc0 : c = 0
        · subst hc0
          have hr' : Hid (R = rdItems (rdT m x r) us (0 + 1) (t ++ y)) := by show _ = _; rw [hR.out, rdItems, hy]; rfl
          have HS : Hid ((t ++ y).size ≤ (wt m r + 1) * k) := by show _ ≤ _; rw [ByteArray.size_append]; omega
          clear hy hxs hsum hys
          go_wp2_with (first | (go_at_call 32; refine hcall.mono ?_; rintro e w1 ⟨rfl, hb1⟩; have e1 := keep10 hb1 e0))
          go_region_held3 (fun w' => w'.cell? ⟨w.heap.size, 0, none⟩ = some (.int .i64 x.kind) ∧ w'.cell? ⟨w.heap.size, 1, none⟩ = some (.string x.letters) ∧ w'.cell? ⟨w.heap.size, 2, none⟩ = some (.bool x.op) ∧ w'.cell? ⟨w.heap.size, 3, none⟩ = some (.slice ai li ci) ∧ w'.cell? ⟨w.heap.size, 4, none⟩ = some (.slice af lf cf) ∧ w'.cell? ⟨w.heap.size + 1, 0, none⟩ = some (.int .i64 r.kind) ∧ w'.cell? ⟨w.heap.size + 1, 1, none⟩ = some (.string r.letters) ∧ w'.cell? ⟨w.heap.size + 1, 2, none⟩ = some (.bool r.op) ∧ w'.cell? ⟨w.heap.size + 1, 3, none⟩ = some (.slice bi mi di) ∧ w'.cell? ⟨w.heap.size + 1, 4, none⟩ = some (.slice bf mf df)) (go_keep) (first | (go_at_call 75; refine (hsp _).mono ?_; rintro e _ ⟨rfl, rfl⟩) | (go_at_call 27; refine (hrd _ (by first | exact hb1.drew | exact hb1)).mono ?_; rintro e w2 ⟨rfl, hb2⟩; have e2 := keep10 hb2 e1))
          go_wp2_with fail
          go_roundw
          case rel => exact ⟨0 + 1, k, us, t ++ y, hlen, by omega, hkD, by go_num, rfl, rfl, hr', HA, HU, HS, hb.trans ((hb1.drew.thn hb2).mono hsw)⟩
          case measure => simp [intOf]
        · have hc0' : (0 : Int) < (c : Int) := by omega
          have hr' : Hid (R = rdItems (rdT m x r) us (c + 1) (t ++ ⟨#[44]⟩ ++ y)) := by show _ = _; rw [hR.out, rdItems, hy]; simp only [if_pos (show 0 < c by omega)]
          have hsz1 : (t ++ ⟨#[44]⟩).size = t.size + 1 := by rw [ByteArray.size_append, one2]
          have HS : Hid ((t ++ ⟨#[44]⟩ ++ y).size ≤ (wt m r + 1) * k) := by show _ ≤ _; rw [ByteArray.size_append, hsz1]; omega
          clear hy hxs hsum hys
          go_wp2_with (first | (go_at_call 32; refine hcall.mono ?_; rintro e w1 ⟨rfl, hb1⟩; have e1 := keep10 hb1 e0))
          go_region_held3 (fun w' => w'.cell? ⟨w.heap.size, 0, none⟩ = some (.int .i64 x.kind) ∧ w'.cell? ⟨w.heap.size, 1, none⟩ = some (.string x.letters) ∧ w'.cell? ⟨w.heap.size, 2, none⟩ = some (.bool x.op) ∧ w'.cell? ⟨w.heap.size, 3, none⟩ = some (.slice ai li ci) ∧ w'.cell? ⟨w.heap.size, 4, none⟩ = some (.slice af lf cf) ∧ w'.cell? ⟨w.heap.size + 1, 0, none⟩ = some (.int .i64 r.kind) ∧ w'.cell? ⟨w.heap.size + 1, 1, none⟩ = some (.string r.letters) ∧ w'.cell? ⟨w.heap.size + 1, 2, none⟩ = some (.bool r.op) ∧ w'.cell? ⟨w.heap.size + 1, 3, none⟩ = some (.slice bi mi di) ∧ w'.cell? ⟨w.heap.size + 1, 4, none⟩ = some (.slice bf mf df)) (go_keep) (first | (go_at_call 75; refine (hsp _).mono ?_; rintro e _ ⟨rfl, rfl⟩) | (go_at_call 27; refine (hrd _ (by first | exact hb1.drew | exact hb1)).mono ?_; rintro e w2 ⟨rfl, hb2⟩; have e2 := keep10 hb2 e1))
          go_wp2_with fail
          go_roundw
          case rel => exact ⟨c + 1, k, us, t ++ ⟨#[44]⟩ ++ y, hlen, by omega, hkD, by go_num, rfl, rfl, hr', HA, HU, HS, hb.trans ((hb1.drew.thn hb2).mono hsw)⟩
          case measure => simp [intOf]; omega
end
section
set_option maxRecDepth 4000
open Go.RowKit

theorem Tryd.infoStr : (Tryd.prog.info? 9).map (fun i => (i.zero, i.size, i.bytes)) = some (some (.string ⟨#[]⟩), 1, 16) := by kernel_rfl
theorem zip_get {α β : Type} {fs : List α} {vs : List β} {i : Nat} {f : α} {v : β} (hf : fs[i]? = some f) (hv : vs[i]? = some v) : (f, v) ∈ fs.zip vs := by
  refine List.mem_of_getElem? (i := i) ?_
  rw [List.getElem?_zip_eq_some]; exact ⟨hf, hv⟩

set_option maxHeartbeats 1000000 in
theorem fieldData_any {Tab : World → Prop} (F : FmtOK Tab) {nw : Nat} (hnw : nw ≤ 100) (fs : List (Nat × Ty × ByteArray)) (vs : List Val) (D : ByteArray) (w : World) (af : Option Addr) (lf cf : Nat) (hlf : lf = fs.length) (hfl : fs.length ≤ 9000000) (hT : Tab w) (hoT : ∀ f ∈ fs, f.1 < 256 ∧ okT nw f.2.1) (hr : RepF nw w af fs)
    (hlen : vs.length = fs.length) (hok : ∀ p ∈ fs.zip vs, okV nw p.1.2.1 p.2) (hD : D = catB (vs.map (datV nw))) (hDs : D.size ≤ 64) :
    Calls Tryd.prog 80 #[.slice af lf cf, .string D] w fun e w' => ∃ g cap, e = .returned (.tuple #[.slice (some ⟨g, 0, none⟩) fs.length cap, .bool true]) ∧ (∀ i v, vs[i]? = some v → w'.cell? ⟨g, i, none⟩ = some (.string (datV nw v))) ∧ Below w.heap.size w w' := by
  subst hlf
  have _hs : D.size ≤ 9000000 := by omega
  have HA : Hid (At D 0 (catB (vs.map (datV nw)))) := by rw [← hD]; exact At.self D
  have DA := decodeAt_all F (s := D) (by omega) nw (by omega)
  clear hD
  go_enter Tryd.func80, Tryd.ntmps80
  go_wp2_with fail
  go_loopw [6, 7, 16] (fun vp vb vi wr => ∃ (i b g cap : Nat) (xs : List Value), i ≤ fs.length ∧ b ≤ D.size ∧ i ≤ b ∧ vi = .int .i64 i ∧ vb = .int .i64 b ∧ vp = .slice (some ⟨g, 0, none⟩) i cap ∧
      wr.ownsRow w.heap.size 9 1 (.slice (some ⟨g, 0, none⟩) i cap) i xs ∧ Hid (xs = (vs.take i).map fun v => .string (datV nw v)) ∧ Hid (At D b (catB ((vs.drop i).map (datV nw)))) ∧ Below w.heap.size w wr) (fun _ _ i _ => fs.length - (intOf i).toNat)
  case atStart =>
    refine ⟨0, 0, w.heap.size, 0, [], Nat.zero_le _, Nat.zero_le _, Nat.le_refl _, rfl, rfl, rfl, ?_, by show _ = _; simp, HA, (Below.refl _ _).alloc (Nat.le_refl _) _⟩
    exact World.ownsRow_made (base := w.heap.size) (e := 9) (size := 1) w #[] 0 (Nat.le_refl _) (by unfold maxLen; omega) rfl
  case round =>
    obtain ⟨i, b, g, cap, xs, hi, hbD, hib, rfl, rfl, rfl, hown, hxs, hA, hb⟩ := hrel
    have hTw : Tab wr := F.1 _ _ hb hT
    by_cases hlt : i < fs.length
    · obtain ⟨f, hf⟩ : ∃ f, fs[i]? = some f := ⟨fs[i], List.getElem?_eq_getElem hlt⟩
      obtain ⟨v, hv⟩ : ∃ v, vs[i]? = some v := ⟨vs[i], List.getElem?_eq_getElem (by omega)⟩
      obtain ⟨hf256, hokf⟩ := hoT f (List.mem_of_getElem? hf)
      have hvk : okV nw f.2.1 v := hok (f, v) (zip_get hf hv)
      have hdrop : vs.drop i = v :: vs.drop (i + 1) := by
        rw [List.drop_eq_getElem_cons (by omega)]; rw [List.getElem?_eq_getElem (by omega)] at hv; simp at hv; rw [hv]
      have htake : vs.take (i + 1) = vs.take i ++ [v] := by rw [List.take_add_one, hv]; rfl
      have hA2 : At D b (datV nw v) ∧ At D (b + (datV nw v).size) (catB ((vs.drop (i + 1)).map (datV nw))) := by
        have := hA.out; rw [hdrop] at this; simp only [List.map_cons, catB] at this; exact At.app.1 this
      have hdx := dec_mk nw f.2.1 v b hvk hA2.1
      obtain ⟨k, hk⟩ : ∃ k, k = b + (datV nw v).size := ⟨_, rfl⟩
      rw [← hk] at hdx hA2
      have hk1 := hA2.1.le
      have hku := datV_pos _ _ _ hvk
      have hext : D.extract b k = datV nw v := by rw [hk]; exact hA2.1.ext
      have hsp : ∀ w, Calls Tryd.prog 75 #[.string D, .int .i64 b, .int .i64 k] w fun e w' => e = .returned (.string (datV nw v)) ∧ w = w' := fun w => by
        have := span_any D b k w (by omega) (by omega) _hs; rw [hext] at this; exact this.mono (fun _ _ ⟨h1, h2⟩ => ⟨h1, h2.symm⟩)
      rcases hr with ⟨hr, _⟩ | ⟨h, rfl, hcells⟩
      · rw [hr] at hf; simp at hf
      · obtain ⟨p1, p2, p3, q1, q2, q3, hrep, k0, k1, k2, k3, k4, k5, k6⟩ := hcells i f hf
        have k0 := cell_keep hb k0
        have k1 := cell_keep hb k1
        have k2 := cell_keep hb k2
        have k3 := cell_keep hb k3
        have k4 := cell_keep hb k4
        have k5 := cell_keep hb k5
        have k6 := cell_keep hb k6
        have hg' : h < wr.heap.size := lt_of_cell k0
        have hrepw := hrep.keep hb
        have hBa : ∀ o, Below wr.heap.size wr (wr.alloc o) := fun o => (Below.refl _ _).alloc (Nat.le_refl _) _
        have hTa : ∀ o, Tab (wr.alloc o) := fun o => F.1 _ _ (hBa o) hTw
        have hcall := fun o => DA.yes hbD (hTa o) hokf (hrepw.keep (hBa o)) hdx
        have HA2 : Hid (At D k (catB ((vs.drop (i + 1)).map (datV nw)))) := hA2.2
        obtain ⟨V, hV⟩ : ∃ V, V = datV nw v := ⟨_, rfl⟩
        rw [← hV] at hsp
        have HX : Hid (xs ++ [.string V] = (vs.take (i + 1)).map fun v => .string (datV nw v)) := by show _ = _; rw [htake, List.map_append, ← hxs.out, hV]; rfl
        have hbk : b < k := by omega
        have hkD : k ≤ D.size := by omega
        obtain ⟨i0, hi0, hz0, hzz1, hzz2⟩ := info_parts Tryd.infoStr
        have hgl := hown.lt g rfl
        have hzr : w.heap.size ≤ wr.heap.size := hb.size
        have hown3 : ∀ (w1 : World) (o : Obj) (o2 : Obj), Below (wr.alloc o).heap.size (wr.alloc o) w1 → (w1.alloc o2).ownsRow w.heap.size 9 1 (.slice (some ⟨g, 0, none⟩) i cap) i xs := fun w1 o o2 hb1 => (own_keep (hown.alloc o) hb1).alloc o2
        have hbig : ∀ (w1 w3 : World) (o o2 : Obj), Below (wr.alloc o).heap.size (wr.alloc o) w1 → (w1.alloc o2).grownBy w3 (some g) → Below w.heap.size w w3 := fun w1 w3 o o2 hb1 hgrow => by
          have z1 := hb1.size
          simp at z1
          have c1 := (hb.alloc hzr o).thn hb1
          exact Below.grown (c1.alloc (by omega) o2) hgrow (by simp; omega) (fun k hk => by cases hk; omega)
        clear hcells hA hdrop hk hA2 hext hku hk1 hdx htake hV hvk hrep hrepw hxs
        go_wp2_with (first | (go_at_call 32; refine (hcall _).mono ?_; rintro e w1 ⟨rfl, hb1⟩; obtain ⟨hc1, hf1⟩ := bcell hb1; have hz1 : wr.heap.size ≤ w1.heap.size := (by have := hb1.size; simp at this; omega)) | (go_at_call 75; refine (hsp _).mono ?_; rintro e _ ⟨rfl, rfl⟩) | (at_builtin; refine wpList_append_lies _ rfl _ _ _ rfl w.heap.size 9 i0 _ 1 16 Tryd.underlying83 hi0 hz0 hzz1 hzz2 rfl (by omega) _ i xs rfl (hown3 _ _ _ hb1) ⟨w1.heap.size, 0, none⟩ 1 1 [.string V] rfl rfl (World.news_of_block (heap_alloc_new w1 _)) (by simp [Value.oneCell']) (by omega) (by unfold maxLen; omega) (by omega) (by simp; omega) (w1.heap.size + 1) (by simp) ?_; intro g' cap' w3 hown' hgrow hat hlt3; have hb3 := hbig _ _ _ _ hb1 hgrow))
        go_roundw
        case rel => exact ⟨i + 1, k, g', cap', xs ++ [.string V], by omega, hkD, by omega, by go_num, rfl, rfl, hown', HX, HA2, hb3⟩
        case measure => simp [intOf]; omega
    · obtain rfl : i = fs.length := by omega
      go_wp2_with fail
      go_ret2
      refine ⟨g, cap, rfl, fun j u hu => own_cell hown ?_, hb⟩
      rw [hxs.out, List.getElem?_map, List.getElem?_take, if_pos (by rcases Nat.lt_or_ge j vs.length with h | h; omega; rw [List.getElem?_eq_none h] at hu; cases hu), hu]; rfl
end
section
set_option maxRecDepth 4000
open Go.RowKit

/-- The place of a field with the letter, and the value that stands there. -/
theorem plF_zip (c : Nat) : ∀ (fs : List (Nat × Ty × ByteArray)) (vs : List Val), vs.length = fs.length →
    (plF fs c = -1 ∧ (fs.zip vs).find? (fun p => p.1.1 == c) = none) ∨
    ∃ i f v, plF fs c = (i : Nat) ∧ i < fs.length ∧ fs[i]? = some f ∧ vs[i]? = some v ∧ (fs.zip vs).find? (fun p => p.1.1 == c) = some (f, v)
  | [], vs, h => .inl ⟨rfl, rfl⟩
  | f :: fs, [], h => by simp at h
  | f :: fs, v :: vs, h => by
    by_cases hc : (f.1 == c) = true
    · right
      refine ⟨0, f, v, ?_, by simp, rfl, rfl, ?_⟩
      · unfold plF; rw [List.findIdx?_cons, if_pos hc]
      · rw [List.zip_cons_cons, List.find?_cons_of_pos (by exact hc)]
    · have hc'' : ((f, v).1.1 == c) = false := by simpa using hc
      rcases plF_zip c fs vs (by simpa using h) with ⟨h1, h2⟩ | ⟨i, f', v', h1, h2, h3, h4, h5⟩
      · left
        constructor
        · unfold plF at h1 ⊢
          rw [List.findIdx?_cons, if_neg hc]
          cases hx : List.findIdx? (fun g => g.1 == c) fs with
          | none => rfl
          | some k => rw [hx] at h1; simp only at h1; omega
        · rw [List.zip_cons_cons, List.find?_cons, hc'']; exact h2
      · right
        refine ⟨i + 1, f', v', ?_, by simp; omega, by simpa using h3, by simpa using h4, ?_⟩
        · unfold plF at h1 ⊢
          rw [List.findIdx?_cons, if_neg hc]
          cases hx : List.findIdx? (fun g => g.1 == c) fs with
          | none => rw [hx] at h1; simp only at h1; omega
          | some k => rw [hx] at h1; simp only at h1; simp only [Option.map_some]; omega
        · rw [List.zip_cons_cons, List.find?_cons, hc'']; exact h5

theorem isEmpty_no {d : ByteArray} (h : 1 ≤ d.size) : d.toList.isEmpty = false := by
  rw [ByteArray.toList_eq]
  cases hl : d.data.toList with
  | nil =>
    have h2 : d.data.size = 0 := by rw [← Array.length_toList, hl]; rfl
    have h3 : d.size = d.data.size := rfl
    omega
  | cons _ _ => rfl
theorem field_box (w : World) (gf : Nat × Ty × ByteArray) (bi : Option Addr) (mi di : Nat) (bf : Option Addr) (mf df : Nat) :
    (w.alloc (.cells #[.int .i64 gf.1, .int .i64 gf.2.1.kind, .string gf.2.1.letters, .bool gf.2.1.op, .slice bi mi di, .slice bf mf df, .string gf.2.2] 87)).cell? ⟨w.heap.size, 1, none⟩ = some (.int .i64 gf.2.1.kind) ∧ (w.alloc (.cells #[.int .i64 gf.1, .int .i64 gf.2.1.kind, .string gf.2.1.letters, .bool gf.2.1.op, .slice bi mi di, .slice bf mf df, .string gf.2.2] 87)).cell? ⟨w.heap.size, 2, none⟩ = some (.string gf.2.1.letters) ∧ (w.alloc (.cells #[.int .i64 gf.1, .int .i64 gf.2.1.kind, .string gf.2.1.letters, .bool gf.2.1.op, .slice bi mi di, .slice bf mf df, .string gf.2.2] 87)).cell? ⟨w.heap.size, 3, none⟩ = some (.bool gf.2.1.op) ∧ (w.alloc (.cells #[.int .i64 gf.1, .int .i64 gf.2.1.kind, .string gf.2.1.letters, .bool gf.2.1.op, .slice bi mi di, .slice bf mf df, .string gf.2.2] 87)).cell? ⟨w.heap.size, 4, none⟩ = some (.slice bi mi di) ∧ (w.alloc (.cells #[.int .i64 gf.1, .int .i64 gf.2.1.kind, .string gf.2.1.letters, .bool gf.2.1.op, .slice bi mi di, .slice bf mf df, .string gf.2.2] 87)).cell? ⟨w.heap.size, 5, none⟩ = some (.slice bf mf df) :=
  ⟨cell_last rfl rfl, cell_last rfl rfl, cell_last rfl rfl, cell_last rfl rfl, cell_last rfl rfl⟩
theorem keep5 {W w1 : World} (hb : Below W.heap.size W w1) {b o0 o1 o2 o3 o4 : Nat} {v0 v1 v2 v3 v4 : Value} (h : W.cell? ⟨b, o0, none⟩ = some v0 ∧ W.cell? ⟨b, o1, none⟩ = some v1 ∧ W.cell? ⟨b, o2, none⟩ = some v2 ∧ W.cell? ⟨b, o3, none⟩ = some v3 ∧ W.cell? ⟨b, o4, none⟩ = some v4) :
    w1.cell? ⟨b, o0, none⟩ = some v0 ∧ w1.cell? ⟨b, o1, none⟩ = some v1 ∧ w1.cell? ⟨b, o2, none⟩ = some v2 ∧ w1.cell? ⟨b, o3, none⟩ = some v3 ∧ w1.cell? ⟨b, o4, none⟩ = some v4 := by
  obtain ⟨h0, h1, h2, h3, h4⟩ := h
  exact ⟨cell_keep hb h0, cell_keep hb h1, cell_keep hb h2, cell_keep hb h3, cell_keep hb h4⟩

set_option maxHeartbeats 1000000 in
theorem readField_any {Tab : World → Prop} (F : FmtOK Tab) {m : Nat} (IH : ReadOK Tab m) (nw nr : Nat) (hm : nw + nr ≤ m) (hnw : nw ≤ 100) (hnr : nr ≤ 100) (fs : List (Nat × Ty × ByteArray)) (vs : List Val) (gf : Nat × Ty × ByteArray) (w : World) (g cf pb pc : Nat) (bi bf : Option Addr) (mi di mf df : Nat)
    (hfl : fs.length ≤ 9000000) (hT : Tab w) (hoT : ∀ f ∈ fs, f.1 < 256 ∧ okT nw f.2.1) (hlen : vs.length = fs.length) (hok : ∀ p ∈ fs.zip vs, okV nw p.1.2.1 p.2) (hDs : (catB (vs.map (datV nw))).size ≤ 64)
    (hcells : ∀ i f, fs[i]? = some f → ∃ p1 p2 p3 q1 q2 q3, Rep nw w p1 p2 p3 q1 q2 q3 f.2.1 ∧ w.cell? ⟨g, i * 7, none⟩ = some (.int .i64 f.1) ∧ w.cell? ⟨g, i * 7 + 1, none⟩ = some (.int .i64 f.2.1.kind) ∧ w.cell? ⟨g, i * 7 + 2, none⟩ = some (.string f.2.1.letters) ∧ w.cell? ⟨g, i * 7 + 3, none⟩ = some (.bool f.2.1.op) ∧ w.cell? ⟨g, i * 7 + 4, none⟩ = some (.slice p1 p2 p3) ∧ w.cell? ⟨g, i * 7 + 5, none⟩ = some (.slice q1 q2 q3) ∧ w.cell? ⟨g, i * 7 + 6, none⟩ = some (.string f.2.2))
    (hparts : ∀ i v, vs[i]? = some v → w.cell? ⟨pb, i, none⟩ = some (.string (datV nw v)))
    (hog : okT nr gf.2.1) (hrg : Rep nr w bi mi di bf mf df gf.2.1) (hwt : wt m gf.2.1 ≤ 20000) :
    Calls Tryd.prog 81 #[.slice (some ⟨g, 0, none⟩) fs.length cf, .slice (some ⟨pb, 0, none⟩) fs.length pc, .agg #[.int .i64 gf.1, .int .i64 gf.2.1.kind, .string gf.2.1.letters, .bool gf.2.1.op, .slice bi mi di, .slice bf mf df, .string gf.2.2]] w fun e w' => e = .returned (dRet (rdFld (rdT m) (fs.zip vs) gf)) ∧ Below w.heap.size w w' := by
  have hB : ∀ o, Below w.heap.size w (w.alloc o) := fun o => (Below.refl _ _).alloc (Nat.le_refl _) _
  have hpl : ∀ o, Calls Tryd.prog 85 #[.slice (some ⟨g, 0, none⟩) fs.length cf, .int .i64 gf.1] (w.alloc o) fun e w' => e = .returned (.int .i64 (plF fs gf.1)) ∧ Below (w.alloc o).heap.size (w.alloc o) w' := fun o =>
    placeOfField_any fs gf.1 (w.alloc o) g cf hfl (fun i f hi => by
      obtain ⟨p1, p2, p3, q1, q2, q3, _, k0, k1, k2, k3, k4, k5, k6⟩ := hcells i f hi
      exact ⟨p1, p2, p3, q1, q2, q3, cell_new _ k0, cell_new _ k1, cell_new _ k2, cell_new _ k3, cell_new _ k4, cell_new _ k5, cell_new _ k6⟩)
  rcases plF_zip gf.1 fs vs hlen with ⟨h1, h2⟩ | ⟨i, f, v, h1, hi, hf, hv, h2⟩
  · rw [h1] at hpl
    have hP : rdFld (rdT m) (fs.zip vs) gf = if gf.2.2.size = 0 then none else some gf.2.2 := by unfold rdFld; rw [h2]
    clear hcells hparts hok hoT h1 h2
    by_cases hz : gf.2.2.size = 0
    · have hr' : Hid (rdFld (rdT m) (fs.zip vs) gf = none) := by show _ = _; rw [hP, if_pos hz]
      have hze : gf.2.2 = ByteArray.empty := bytes_eq hz (fun i hi => by omega)
      clear hP hz
      rw [hze]
      go_enter Tryd.func81, Tryd.ntmps81
      go_wp2_with (first | (go_at_call 85; refine (hpl _).mono ?_; rintro e w1 ⟨rfl, hb1⟩; obtain ⟨hc1, hf1⟩ := bcell hb1))
      have e6 : w1.cell? ⟨w.heap.size, 6, none⟩ = some (.string ByteArray.empty) := cell_keep hb1 (cell_last rfl rfl)
      go_region_held3 (fun w' => w'.cell? ⟨w.heap.size, 6, none⟩ = some (.string ByteArray.empty)) (go_keep) (fail)
      go_wp2_with fail
      go_ret2
      rw [hr'.out]
      exact ⟨rfl, ((hB _).thn hb1).drew⟩
    · have hr' : Hid (rdFld (rdT m) (fs.zip vs) gf = some gf.2.2) := by show _ = _; rw [hP, if_neg hz]
      clear hP
      generalize gf.2.2 = E at hr' hz
      go_enter Tryd.func81, Tryd.ntmps81
      go_wp2_with (first | (go_at_call 85; refine (hpl _).mono ?_; rintro e w1 ⟨rfl, hb1⟩; obtain ⟨hc1, hf1⟩ := bcell hb1))
      have e6 : w1.cell? ⟨w.heap.size, 6, none⟩ = some (.string E) := cell_keep hb1 (cell_last rfl rfl)
      go_region_held3 (fun w' => w'.cell? ⟨w.heap.size, 6, none⟩ = some (.string E)) (go_keep) (fail)
      have hE : E.toList.isEmpty = false := isEmpty_no (by omega)
      go_wp2_with fail
      go_ret2
      rw [hr'.out]
      refine ⟨?_, ((hB _).thn hb1).drew⟩
      show Ending.returned (.tuple #[.string E, .bool (!E.toList.isEmpty)]) = _
      rw [hE]; rfl
  · rw [h1] at hpl
    obtain ⟨p1, p2, p3, q1, q2, q3, hrep, k0, k1, k2, k3, k4, k5, k6⟩ := hcells i f hf
    have hpv := hparts i v hv
    have hvk : okV nw f.2.1 v := hok (f, v) (zip_get hf hv)
    have hokf := (hoT f (List.mem_of_getElem? hf)).2
    have hvs : (datV nw v).size ≤ 64 := by
      have := cat_mem (l := vs.map (datV nw)) (x := datV nw v) (List.mem_map.2 ⟨v, List.mem_of_getElem? hv, rfl⟩)
      omega
    have hr' : Hid (rdFld (rdT m) (fs.zip vs) gf = rdT m f.2.1 gf.2.1 v) := by show _ = _; unfold rdFld; rw [h2]
    have hrd := fun (W : World) (hb : Below w.heap.size w W) => IH nw nr f.2.1 gf.2.1 v W p1 q1 p2 p3 q2 q3 bi bf mi di mf df hm hnw hnr (F.1 _ _ hb hT) hokf hog (hrep.keep hb) (hrg.keep hb) hvk hvs hwt
    obtain ⟨V, hV⟩ : ∃ V, V = datV nw v := ⟨_, rfl⟩
    rw [← hV] at hpv hrd
    have hgl : g < w.heap.size := lt_of_cell k0
    have hpl2 : pb < w.heap.size := lt_of_cell hpv
    clear hcells hparts hok hoT h1 h2 hV hvs hvk hf hv
    cases hy : rdT m f.2.1 gf.2.1 v with
    | none =>
      rw [hy] at hr'
      rw [hy] at hrd
      simp only [dRet] at hrd
      clear hy
      go_enter Tryd.func81, Tryd.ntmps81
      go_wp2_with (first | (go_at_call 85; refine (hpl _).mono ?_; rintro e w1 ⟨rfl, hb1⟩; obtain ⟨hc1, hf1⟩ := bcell hb1))
      have e5 := keep5 hb1 (field_box w gf bi mi di bf mf df)
      have e7 := keep5 hb1 ⟨cell_new _ k1, cell_new _ k2, cell_new _ k3, cell_new _ k4, cell_new _ k5⟩
      have e8 := cell_keep hb1 (cell_new _ hpv)
      go_region_held3 (fun w' => (w'.cell? ⟨w.heap.size, 1, none⟩ = some (.int .i64 gf.2.1.kind) ∧ w'.cell? ⟨w.heap.size, 2, none⟩ = some (.string gf.2.1.letters) ∧ w'.cell? ⟨w.heap.size, 3, none⟩ = some (.bool gf.2.1.op) ∧ w'.cell? ⟨w.heap.size, 4, none⟩ = some (.slice bi mi di) ∧ w'.cell? ⟨w.heap.size, 5, none⟩ = some (.slice bf mf df)) ∧ (w'.cell? ⟨g, i * 7 + 1, none⟩ = some (.int .i64 f.2.1.kind) ∧ w'.cell? ⟨g, i * 7 + 2, none⟩ = some (.string f.2.1.letters) ∧ w'.cell? ⟨g, i * 7 + 3, none⟩ = some (.bool f.2.1.op) ∧ w'.cell? ⟨g, i * 7 + 4, none⟩ = some (.slice p1 p2 p3) ∧ w'.cell? ⟨g, i * 7 + 5, none⟩ = some (.slice q1 q2 q3)) ∧ w'.cell? ⟨pb, i, none⟩ = some (.string V)) (go_keep) (first | (go_at_call 27; refine (hrd _ (by first | exact ((hB _).thn hb1).drew | exact (hB _).thn hb1)).mono ?_; rintro e w2 ⟨rfl, hb2⟩; have e5' := keep5 hb2 e5; have e7' := keep5 hb2 e7; have e8' := cell_keep hb2 e8))
      go_wp2_with fail
      go_ret2
      rw [hr'.out]
      exact ⟨rfl, ((hB _).thn hb1).drew.thn hb2⟩
    | some y =>
      rw [hy] at hr'
      rw [hy] at hrd
      simp only [dRet] at hrd
      clear hy
      go_enter Tryd.func81, Tryd.ntmps81
      go_wp2_with (first | (go_at_call 85; refine (hpl _).mono ?_; rintro e w1 ⟨rfl, hb1⟩; obtain ⟨hc1, hf1⟩ := bcell hb1))
      have e5 := keep5 hb1 (field_box w gf bi mi di bf mf df)
      have e7 := keep5 hb1 ⟨cell_new _ k1, cell_new _ k2, cell_new _ k3, cell_new _ k4, cell_new _ k5⟩
      have e8 := cell_keep hb1 (cell_new _ hpv)
      go_region_held3 (fun w' => (w'.cell? ⟨w.heap.size, 1, none⟩ = some (.int .i64 gf.2.1.kind) ∧ w'.cell? ⟨w.heap.size, 2, none⟩ = some (.string gf.2.1.letters) ∧ w'.cell? ⟨w.heap.size, 3, none⟩ = some (.bool gf.2.1.op) ∧ w'.cell? ⟨w.heap.size, 4, none⟩ = some (.slice bi mi di) ∧ w'.cell? ⟨w.heap.size, 5, none⟩ = some (.slice bf mf df)) ∧ (w'.cell? ⟨g, i * 7 + 1, none⟩ = some (.int .i64 f.2.1.kind) ∧ w'.cell? ⟨g, i * 7 + 2, none⟩ = some (.string f.2.1.letters) ∧ w'.cell? ⟨g, i * 7 + 3, none⟩ = some (.bool f.2.1.op) ∧ w'.cell? ⟨g, i * 7 + 4, none⟩ = some (.slice p1 p2 p3) ∧ w'.cell? ⟨g, i * 7 + 5, none⟩ = some (.slice q1 q2 q3)) ∧ w'.cell? ⟨pb, i, none⟩ = some (.string V)) (go_keep) (first | (go_at_call 27; refine (hrd _ (by first | exact ((hB _).thn hb1).drew | exact (hB _).thn hb1)).mono ?_; rintro e w2 ⟨rfl, hb2⟩; have e5' := keep5 hb2 e5; have e7' := keep5 hb2 e7; have e8' := cell_keep hb2 e8))
      go_wp2_with fail
      go_ret2
      rw [hr'.out]
      exact ⟨rfl, ((hB _).thn hb1).drew.thn hb2⟩
end
section
set_option maxRecDepth 4000
open Go.RowKit

theorem sum_small {α : Type} (c : α → Nat) (K : Nat) : ∀ (l : List α) (x : α), x ∈ l → (l.map c).sum ≤ K → c x ≤ K
  | y :: l, x, h, hk => by
    simp at hk
    rcases List.mem_cons.1 h with rfl | h
    · omega
    · exact sum_small c K l x h (by omega)
set_option maxHeartbeats 1000000 in
theorem readRecord_any {Tab : World → Prop} (F : FmtOK Tab) {m : Nat} (IH : ReadOK Tab m) (nw nr : Nat) (hm : nw + nr ≤ m) (hnw : nw ≤ 100) (hnr : nr ≤ 100) (fs gs : List (Nat × Ty × ByteArray)) (vs : List Val) (D : ByteArray) (w : World) (af bf : Option Addr) (lf cf mf df : Nat)
    (hlf : lf = fs.length) (hmf : mf = gs.length) (hfl : fs.length ≤ 9000000) (hgl : gs.length ≤ 9000000) (hfn : fs ≠ []) (hgn : gs ≠ []) (hT : Tab w) (hoT : ∀ f ∈ fs, f.1 < 256 ∧ okT nw f.2.1) (hoG : ∀ f ∈ gs, f.1 < 256 ∧ okT nr f.2.1) (hlen : vs.length = fs.length) (hok : ∀ p ∈ fs.zip vs, okV nw p.1.2.1 p.2)
    (hD : D = catB (vs.map (datV nw))) (hDs : D.size ≤ 64) (hr : RepF nw w af fs) (hrg : RepF nr w bf gs) (hwt : (gs.map fun f => wt m f.2.1 + f.2.2.size + 4).sum ≤ 20000) :
    Calls Tryd.prog 45 #[.slice af lf cf, .slice bf mf df, .string D] w fun e w' => e = .returned (dRet (rdFlds (rdFld (rdT m) (fs.zip vs)) gs ⟨#[123]⟩ ByteArray.empty)) ∧ Below w.heap.size w w' := by
  subst hlf hmf
  have hfd := fieldData_any F hnw fs vs D w af fs.length cf rfl hfl hT hoT hr hlen hok hD hDs
  obtain ⟨R, hR⟩ : ∃ R, R = rdFlds (rdFld (rdT m) (fs.zip vs)) gs ⟨#[123]⟩ ByteArray.empty := ⟨_, rfl⟩
  rw [← hR]
  have HR : Hid (R = rdFlds (rdFld (rdT m) (fs.zip vs)) gs ⟨#[123]⟩ ByteArray.empty) := hR
  have hDc : (catB (vs.map (datV nw))).size ≤ 64 := by rw [← hD]; exact hDs
  have hpos : 1 ≤ D.size := by
    have := datV_pos (nw + 1) ⟨123, ByteArray.empty, false, [], fs⟩ (.rcd vs) (okV_rcd ⟨rfl, hfn, hlen, hok⟩)
    rw [datV_rcd, ← hD] at this; exact this
  rcases hr with ⟨hr, _⟩ | ⟨g, rfl, hcells⟩
  · exact absurd hr hfn
  rcases hrg with ⟨hrg, _⟩ | ⟨h, rfl, hcellg⟩
  · exact absurd hrg hgn
  have hszf : ∀ gf ∈ gs, ∀ y, rdFld (rdT m) (fs.zip vs) gf = some y → y.size ≤ (wt m gf.2.1 + gf.2.2.size) * D.size := fun gf _ y hy => by
    rw [Nat.add_mul]
    unfold rdFld at hy
    split at hy
    · split at hy
      · cases hy
      · cases hy
        have := Nat.le_mul_of_pos_right gf.2.2.size hpos
        omega
    · rename_i p hp'
      have hmm := find_mem hp'
      have h1 := rdT_size m nw _ _ _ _ (hok p hmm) hy
      have h2 := cat_mem (l := vs.map (datV nw)) (x := datV nw p.2) (List.mem_map.2 ⟨p.2, (List.of_mem_zip (a := p.1) (b := p.2) hmm).2, rfl⟩)
      rw [← hD] at h2
      have h3 := Nat.mul_le_mul_left (wt m gf.2.1) h2
      omega
  clear hR hD hfn hgn
  go_enter Tryd.func45, Tryd.ntmps45
  go_wp2_with (first | (go_at_call 80; refine hfd.mono ?_; rintro e w1 ⟨pb, pc, rfl, hparts, hb1⟩))
  have hT1 : Tab w1 := F.1 _ _ hb1 hT
  clear hfd
  go_loopw [10, 11, 26] (fun vd vm vi wr => ∃ (i : Nat) (mk d : ByteArray), i ≤ gs.length ∧ vi = .int .i64 i ∧ vm = .string mk ∧ vd = .string d ∧ mk.size = 1 ∧ Hid (R = rdFlds (rdFld (rdT m) (fs.zip vs)) (gs.drop i) mk d) ∧ Hid (d.size + ((gs.drop i).map fun f => (wt m f.2.1 + f.2.2.size + 4) * D.size).sum ≤ 20000 * D.size) ∧ Below w1.heap.size w1 wr) (fun _ _ i _ => gs.length - (intOf i).toNat)
  case atStart =>
    refine ⟨0, ⟨#[123]⟩, ByteArray.empty, Nat.zero_le _, rfl, rfl, rfl, rfl, HR, ?_, Below.refl _ _⟩
    show _ ≤ _
    rw [List.drop_zero, mul_sum (fun f : Nat × Ty × ByteArray => wt m f.2.1 + f.2.2.size + 4), show ByteArray.empty.size = 0 from rfl, Nat.zero_add]
    exact Nat.mul_le_mul_right _ hwt
  case round =>
    obtain ⟨i, mk, d, hi, rfl, rfl, rfl, hmk, hR, hd, hb⟩ := hrel
    have hbw : Below w.heap.size w wr := hb1.thn hb
    have hTw : Tab wr := F.1 _ _ hb hT1
    have one1 : (⟨#[125]⟩ : ByteArray).size = 1 := rfl
    have one2 : (⟨#[58]⟩ : ByteArray).size = 1 := rfl
    have hK : 20000 * D.size ≤ 1280000 := by omega
    have hds : d.size ≤ 1280000 := by have := hd.out; omega
    by_cases hlt : i < gs.length
    · obtain ⟨gf, hf⟩ : ∃ f, gs[i]? = some f := ⟨gs[i], List.getElem?_eq_getElem hlt⟩
      have hdrop : gs.drop i = gf :: gs.drop (i + 1) := by
        rw [List.drop_eq_getElem_cons hlt]; rw [List.getElem?_eq_getElem hlt] at hf; simp at hf; rw [hf]
      have hmem := List.mem_of_getElem? hf
      obtain ⟨hf256, hokf⟩ := hoG gf hmem
      obtain ⟨p1, p2, p3, q1, q2, q3, hrep, k0, k1, k2, k3, k4, k5, k6⟩ := hcellg i gf hf
      have k0 := cell_keep hbw k0
      have k1 := cell_keep hbw k1
      have k2 := cell_keep hbw k2
      have k3 := cell_keep hbw k3
      have k4 := cell_keep hbw k4
      have k5 := cell_keep hbw k5
      have k6 := cell_keep hbw k6
      have hg' : h < wr.heap.size := lt_of_cell k0
      have hrepw := hrep.keep hbw
      have hBa : ∀ o, Below wr.heap.size wr (wr.alloc o) := fun o => (Below.refl _ _).alloc (Nat.le_refl _) _
      have hwf : wt m gf.2.1 ≤ 20000 := by
        have := sum_small (fun f : Nat × Ty × ByteArray => wt m f.2.1 + f.2.2.size + 4) 20000 gs gf hmem hwt
        omega
      have hfc := fun o => readField_any F IH nw nr hm hnw hnr fs vs gf (wr.alloc o) g cf pb pc p1 q1 p2 p3 q2 q3 hfl (F.1 _ _ (hBa o) hTw) hoT hlen hok hDc
        (fun j f hj => by
          obtain ⟨a1, a2, a3, b1, b2, b3, c0, c1, c2, c3, c4, c5, c6, c7⟩ := hcells j f hj
          have hq := hbw.thn (hBa o)
          exact ⟨a1, a2, a3, b1, b2, b3, c0.keep hq, cell_keep hq c1, cell_keep hq c2, cell_keep hq c3, cell_keep hq c4, cell_keep hq c5, cell_keep hq c6, cell_keep hq c7⟩)
        (fun j v hj => cell_keep (hb.thn (hBa o)) (hparts j v hj)) hokf (hrepw.keep (hBa o)) hwf
      cases hy : rdFld (rdT m) (fs.zip vs) gf with
      | none =>
        have hr' : Hid (R = none) := by show _ = _; rw [hR.out, hdrop, rdFlds, hy]
        rw [hy] at hfc
        simp only [dRet] at hfc
        clear hy hdrop hcells hcellg hparts hok hoT hoG hszf
        go_wp2_with (first | (go_at_call 81; refine (hfc _).mono ?_; rintro e w2 ⟨rfl, hb2⟩))
        go_ret2
        rw [hr'.out]
        exact ⟨rfl, (hbw.thn (hBa _)).thn hb2⟩
      | some x =>
        have hxs := hszf gf hmem x hy
        have hso : (oneB gf.1).size = 1 := rfl
        have hz1 : (mk ++ oneB gf.1).size = 2 := by rw [ByteArray.size_append, hmk, hso]
        have hz2 : (mk ++ oneB gf.1 ++ ⟨#[58]⟩).size = 3 := by rw [ByteArray.size_append, hz1, one2]
        have hz3 : (mk ++ oneB gf.1 ++ ⟨#[58]⟩ ++ x).size = 3 + x.size := by rw [ByteArray.size_append, hz2]
        have hsum : d.size + 3 + x.size + ((gs.drop (i + 1)).map fun f => (wt m f.2.1 + f.2.2.size + 4) * D.size).sum ≤ 20000 * D.size := by
          have h1 := hd.out
          rw [hdrop, List.map_cons, List.sum_cons, Nat.add_mul] at h1
          omega
        have HS : Hid ((d ++ (mk ++ oneB gf.1 ++ ⟨#[58]⟩ ++ x)).size + ((gs.drop (i + 1)).map fun f => (wt m f.2.1 + f.2.2.size + 4) * D.size).sum ≤ 20000 * D.size) := by
          show _ ≤ _
          rw [ByteArray.size_append, hz3]; omega
        have hs1 : x.size ≤ 1280000 := by omega
        have hr' : Hid (R = rdFlds (rdFld (rdT m) (fs.zip vs)) (gs.drop (i + 1)) ⟨#[44]⟩ (d ++ (mk ++ oneB gf.1 ++ ⟨#[58]⟩ ++ x))) := by show _ = _; rw [hR.out, hdrop, rdFlds, hy]
        rw [hy] at hfc
        simp only [dRet] at hfc
        clear hy hdrop hcells hcellg hparts hok hoT hoG hszf hxs hsum
        go_wp2_with (first | (go_at_call 81; refine (hfc _).mono ?_; rintro e w2 ⟨rfl, hb2⟩; obtain ⟨hc1, hf1⟩ := bcell hb2) | (go_at_call 79; refine (oneByte_any gf.1 _ (by omega)).mono ?_; rintro e w3 ⟨rfl, hb3⟩))
        go_roundw
        case rel => exact ⟨i + 1, ⟨#[44]⟩, d ++ (mk ++ oneB gf.1 ++ ⟨#[58]⟩ ++ x), by omega, by go_num, rfl, rfl, rfl, hr', HS, ((hb.thn (hBa _)).thn hb2).thn hb3⟩
        case measure => simp [intOf]; omega
    · have hnil : gs.drop i = [] := List.drop_of_length_le (by omega)
      have hr' : Hid (R = some (d ++ ⟨#[125]⟩)) := by show _ = _; rw [hR.out, hnil, rdFlds]
      go_wp2_with fail
      go_ret2
      rw [hr'.out]
      exact ⟨rfl, hbw⟩
end
section
set_option maxRecDepth 4000
open Go.RowKit

set_option maxHeartbeats 2000000 in
theorem read_w63 (x r : Ty) (w : World) (ai : Option Addr) (li ci : Nat) (af : Option Addr) (lf cf : Nat) (bi : Option Addr) (mi di : Nat) (bf : Option Addr) (mf df : Nat) (D t : ByteArray) (b : Bool)
    (h1 : ((x.kind : Int) == 63) = true) (nw : Nat) (hin : ∀ W, Below w.heap.size w W → Calls Tryd.prog 41 #[.agg #[.int .i64 x.kind, .string x.letters, .bool x.op, .slice ai li ci, .slice af lf cf]] W fun e w' => ∃ p1 p2 p3 p4 p5 p6, e = .returned (.agg #[.int .i64 x.in.kind, .string x.in.letters, .bool x.in.op, .slice p1 p2 p3, .slice p4 p5 p6]) ∧ Rep nw w' p1 p2 p3 p4 p5 p6 x.in ∧ Below W.heap.size W w') (hcall : ∀ (W : World) (p1 : Option Addr) (p2 p3 : Nat) (p4 : Option Addr) (p5 p6 : Nat), Below w.heap.size w W → Rep nw W p1 p2 p3 p4 p5 p6 x.in → Calls Tryd.prog 40 #[.agg #[.int .i64 x.in.kind, .string x.in.letters, .bool x.in.op, .slice p1 p2 p3, .slice p4 p5 p6], .agg #[.int .i64 r.kind, .string r.letters, .bool r.op, .slice bi mi di, .slice bf mf df], .string D] W fun e w' => e = .returned (.tuple #[.string t, .bool b]) ∧ Below W.heap.size W w') :
    Calls Tryd.prog 27 #[.agg #[.int .i64 x.kind, .string x.letters, .bool x.op, .slice ai li ci, .slice af lf cf], .agg #[.int .i64 r.kind, .string r.letters, .bool r.op, .slice bi mi di, .slice bf mf df], .string D] w fun e w' => e = .returned (.tuple #[.string t, .bool b]) ∧ Below w.heap.size w w' := by
  have e0 := boxes2 w x r ai li ci af lf cf bi mi di bf mf df
  go_enter Tryd.func27, Tryd.ntmps27
  go_wp2_with fail
  go_region_held3 (fun w' => w'.cell? ⟨w.heap.size, 0, none⟩ = some (.int .i64 x.kind) ∧ w'.cell? ⟨w.heap.size, 1, none⟩ = some (.string x.letters) ∧ w'.cell? ⟨w.heap.size, 2, none⟩ = some (.bool x.op) ∧ w'.cell? ⟨w.heap.size, 3, none⟩ = some (.slice ai li ci) ∧ w'.cell? ⟨w.heap.size, 4, none⟩ = some (.slice af lf cf) ∧ w'.cell? ⟨w.heap.size + 1, 0, none⟩ = some (.int .i64 r.kind) ∧ w'.cell? ⟨w.heap.size + 1, 1, none⟩ = some (.string r.letters) ∧ w'.cell? ⟨w.heap.size + 1, 2, none⟩ = some (.bool r.op) ∧ w'.cell? ⟨w.heap.size + 1, 3, none⟩ = some (.slice bi mi di) ∧ w'.cell? ⟨w.heap.size + 1, 4, none⟩ = some (.slice bf mf df)) (go_keep) (first | (go_at_call 41; refine (hin _ (by first | exact (BB w _ _).drew | exact BB w _ _)).mono ?_; rintro e w1 ⟨p1, p2, p3, p4, p5, p6, rfl, hr1, hb1⟩; have e1 := keep10 hb1 e0) | (go_at_call 40; refine (hcall _ _ _ _ _ _ _ (by first | exact (BB w _ _).drew.thn hb1 | exact (BB w _ _).thn hb1) hr1).mono ?_; rintro e w2 ⟨rfl, hb2⟩; have e2 := keep10 hb2 e1))
  go_wp2_with fail
  go_ret2
  exact ⟨rfl, ((BB w _ _).drew.thn hb1).thn hb2⟩

set_option maxHeartbeats 2000000 in
theorem read_r63 (x r : Ty) (w : World) (ai : Option Addr) (li ci : Nat) (af : Option Addr) (lf cf : Nat) (bi : Option Addr) (mi di : Nat) (bf : Option Addr) (mf df : Nat) (D t : ByteArray) (b : Bool)
    (h1 : ((x.kind : Int) == 63) = false) (h2 : ((r.kind : Int) == 63) = true) (nr : Nat) (hin : ∀ W, Below w.heap.size w W → Calls Tryd.prog 41 #[.agg #[.int .i64 r.kind, .string r.letters, .bool r.op, .slice bi mi di, .slice bf mf df]] W fun e w' => ∃ p1 p2 p3 p4 p5 p6, e = .returned (.agg #[.int .i64 r.in.kind, .string r.in.letters, .bool r.in.op, .slice p1 p2 p3, .slice p4 p5 p6]) ∧ Rep nr w' p1 p2 p3 p4 p5 p6 r.in ∧ Below W.heap.size W w') (hcall : ∀ (W : World) (p1 : Option Addr) (p2 p3 : Nat) (p4 : Option Addr) (p5 p6 : Nat), Below w.heap.size w W → Rep nr W p1 p2 p3 p4 p5 p6 r.in → Calls Tryd.prog 27 #[.agg #[.int .i64 x.kind, .string x.letters, .bool x.op, .slice ai li ci, .slice af lf cf], .agg #[.int .i64 r.in.kind, .string r.in.letters, .bool r.in.op, .slice p1 p2 p3, .slice p4 p5 p6], .string D] W fun e w' => e = .returned (.tuple #[.string t, .bool b]) ∧ Below W.heap.size W w') :
    Calls Tryd.prog 27 #[.agg #[.int .i64 x.kind, .string x.letters, .bool x.op, .slice ai li ci, .slice af lf cf], .agg #[.int .i64 r.kind, .string r.letters, .bool r.op, .slice bi mi di, .slice bf mf df], .string D] w fun e w' => e = .returned (.tuple #[.string t, .bool b]) ∧ Below w.heap.size w w' := by
  have e0 := boxes2 w x r ai li ci af lf cf bi mi di bf mf df
  go_enter Tryd.func27, Tryd.ntmps27
  go_wp2_with fail
  go_region_held3 (fun w' => w'.cell? ⟨w.heap.size, 0, none⟩ = some (.int .i64 x.kind) ∧ w'.cell? ⟨w.heap.size, 1, none⟩ = some (.string x.letters) ∧ w'.cell? ⟨w.heap.size, 2, none⟩ = some (.bool x.op) ∧ w'.cell? ⟨w.heap.size, 3, none⟩ = some (.slice ai li ci) ∧ w'.cell? ⟨w.heap.size, 4, none⟩ = some (.slice af lf cf) ∧ w'.cell? ⟨w.heap.size + 1, 0, none⟩ = some (.int .i64 r.kind) ∧ w'.cell? ⟨w.heap.size + 1, 1, none⟩ = some (.string r.letters) ∧ w'.cell? ⟨w.heap.size + 1, 2, none⟩ = some (.bool r.op) ∧ w'.cell? ⟨w.heap.size + 1, 3, none⟩ = some (.slice bi mi di) ∧ w'.cell? ⟨w.heap.size + 1, 4, none⟩ = some (.slice bf mf df)) (go_keep) (first | (go_at_call 41; refine (hin _ (by first | exact (BB w _ _).drew | exact BB w _ _)).mono ?_; rintro e w1 ⟨p1, p2, p3, p4, p5, p6, rfl, hr1, hb1⟩; have e1 := keep10 hb1 e0) | (go_at_call 27; refine (hcall _ _ _ _ _ _ _ (by first | exact (BB w _ _).drew.thn hb1 | exact (BB w _ _).thn hb1) hr1).mono ?_; rintro e w2 ⟨rfl, hb2⟩; have e2 := keep10 hb2 e1))
  go_wp2_with fail
  go_ret2
  exact ⟨rfl, ((BB w _ _).drew.thn hb1).thn hb2⟩

set_option maxHeartbeats 2000000 in
theorem read_same (x r : Ty) (w : World) (ai : Option Addr) (li ci : Nat) (af : Option Addr) (lf cf : Nat) (bi : Option Addr) (mi di : Nat) (bf : Option Addr) (mf df : Nat) (D t : ByteArray) (b : Bool)
    (h1 : ((x.kind : Int) == 63) = false) (h2 : ((r.kind : Int) == 63) = false) (hs : sameK x.kind r.kind = true) (hcall : ∀ (W : World) , Below w.heap.size w W →  Calls Tryd.prog 21 #[.agg #[.int .i64 x.kind, .string x.letters, .bool x.op, .slice ai li ci, .slice af lf cf], .string D] W fun e w' => e = .returned (.tuple #[.string t, .bool b]) ∧ Below W.heap.size W w') :
    Calls Tryd.prog 27 #[.agg #[.int .i64 x.kind, .string x.letters, .bool x.op, .slice ai li ci, .slice af lf cf], .agg #[.int .i64 r.kind, .string r.letters, .bool r.op, .slice bi mi di, .slice bf mf df], .string D] w fun e w' => e = .returned (.tuple #[.string t, .bool b]) ∧ Below w.heap.size w w' := by
  have e0 := boxes2 w x r ai li ci af lf cf bi mi di bf mf df
  go_enter Tryd.func27, Tryd.ntmps27
  go_wp2_with (first | (go_at_call 42; refine (sameValue_any _ _ _).mono ?_; rintro e _ ⟨rfl, rfl⟩; rw [hs]) | (go_at_call 21; refine (hcall _ (BB w _ _)).mono ?_; rintro e w1 ⟨rfl, hb1⟩))
  go_ret2
  exact ⟨rfl, (BB w _ _).thn hb1⟩

set_option maxHeartbeats 2000000 in
theorem read_no (x r : Ty) (w : World) (ai : Option Addr) (li ci : Nat) (af : Option Addr) (lf cf : Nat) (bi : Option Addr) (mi di : Nat) (bf : Option Addr) (mf df : Nat) (D t : ByteArray) (b : Bool)
    (h1 : ((x.kind : Int) == 63) = false) (h2 : ((r.kind : Int) == 63) = false) (hs : sameK x.kind r.kind = false) (h3 : ((x.kind : Int) != (r.kind : Int)) = true) (ht : t = ByteArray.empty) (hb : b = false) :
    Calls Tryd.prog 27 #[.agg #[.int .i64 x.kind, .string x.letters, .bool x.op, .slice ai li ci, .slice af lf cf], .agg #[.int .i64 r.kind, .string r.letters, .bool r.op, .slice bi mi di, .slice bf mf df], .string D] w fun e w' => e = .returned (.tuple #[.string t, .bool b]) ∧ Below w.heap.size w w' := by
  have e0 := boxes2 w x r ai li ci af lf cf bi mi di bf mf df
  go_enter Tryd.func27, Tryd.ntmps27
  subst ht hb
  go_wp2_with (first | (go_at_call 42; refine (sameValue_any _ _ _).mono ?_; rintro e _ ⟨rfl, rfl⟩; rw [hs]))
  go_ret2
  exact ⟨rfl, BB w _ _⟩

set_option maxHeartbeats 2000000 in
theorem read_cho (x r : Ty) (w : World) (ai : Option Addr) (li ci : Nat) (af : Option Addr) (lf cf : Nat) (bi : Option Addr) (mi di : Nat) (bf : Option Addr) (mf df : Nat) (D t : ByteArray) (b : Bool)
    (h1 : ((x.kind : Int) == 63) = false) (h2 : ((r.kind : Int) == 63) = false) (hs : sameK x.kind r.kind = false) (h3 : ((x.kind : Int) != (r.kind : Int)) = false) (k60 : ((x.kind : Int) == 60) = true) (hcall : ∀ (W : World) , Below w.heap.size w W →  Calls Tryd.prog 43 #[.agg #[.int .i64 x.kind, .string x.letters, .bool x.op, .slice ai li ci, .slice af lf cf], .agg #[.int .i64 r.kind, .string r.letters, .bool r.op, .slice bi mi di, .slice bf mf df], .string D] W fun e w' => e = .returned (.tuple #[.string t, .bool b]) ∧ Below W.heap.size W w') :
    Calls Tryd.prog 27 #[.agg #[.int .i64 x.kind, .string x.letters, .bool x.op, .slice ai li ci, .slice af lf cf], .agg #[.int .i64 r.kind, .string r.letters, .bool r.op, .slice bi mi di, .slice bf mf df], .string D] w fun e w' => e = .returned (.tuple #[.string t, .bool b]) ∧ Below w.heap.size w w' := by
  have e0 := boxes2 w x r ai li ci af lf cf bi mi di bf mf df
  go_enter Tryd.func27, Tryd.ntmps27
  go_wp2_with (first | (go_at_call 42; refine (sameValue_any _ _ _).mono ?_; rintro e _ ⟨rfl, rfl⟩; rw [hs]) | (go_at_call 43; refine (hcall _ (BB w _ _)).mono ?_; rintro e w1 ⟨rfl, hb1⟩))
  go_ret2
  exact ⟨rfl, (BB w _ _).thn hb1⟩

set_option maxHeartbeats 2000000 in
theorem read_lst (x r : Ty) (w : World) (ai : Option Addr) (li ci : Nat) (af : Option Addr) (lf cf : Nat) (bi : Option Addr) (mi di : Nat) (bf : Option Addr) (mf df : Nat) (D t : ByteArray) (b : Bool)
    (h1 : ((x.kind : Int) == 63) = false) (h2 : ((r.kind : Int) == 63) = false) (hs : sameK x.kind r.kind = false) (h3 : ((x.kind : Int) != (r.kind : Int)) = false) (k60 : ((x.kind : Int) == 60) = false) (k91 : ((x.kind : Int) == 91) = true) (nw nr : Nat) (hin : ∀ W, Below w.heap.size w W → Calls Tryd.prog 41 #[.agg #[.int .i64 x.kind, .string x.letters, .bool x.op, .slice ai li ci, .slice af lf cf]] W fun e w' => ∃ p1 p2 p3 p4 p5 p6, e = .returned (.agg #[.int .i64 x.in.kind, .string x.in.letters, .bool x.in.op, .slice p1 p2 p3, .slice p4 p5 p6]) ∧ Rep nw w' p1 p2 p3 p4 p5 p6 x.in ∧ Below W.heap.size W w') (hin2 : ∀ W, Below w.heap.size w W → Calls Tryd.prog 41 #[.agg #[.int .i64 r.kind, .string r.letters, .bool r.op, .slice bi mi di, .slice bf mf df]] W fun e w' => ∃ p1 p2 p3 p4 p5 p6, e = .returned (.agg #[.int .i64 r.in.kind, .string r.in.letters, .bool r.in.op, .slice p1 p2 p3, .slice p4 p5 p6]) ∧ Rep nr w' p1 p2 p3 p4 p5 p6 r.in ∧ Below W.heap.size W w') (hcall : ∀ (W : World) (p1 : Option Addr) (p2 p3 : Nat) (p4 : Option Addr) (p5 p6 : Nat) (q1 : Option Addr) (q2 q3 : Nat) (q4 : Option Addr) (q5 q6 : Nat), Below w.heap.size w W → Rep nw W p1 p2 p3 p4 p5 p6 x.in → Rep nr W q1 q2 q3 q4 q5 q6 r.in → Calls Tryd.prog 44 #[.agg #[.int .i64 x.in.kind, .string x.in.letters, .bool x.in.op, .slice p1 p2 p3, .slice p4 p5 p6], .agg #[.int .i64 r.in.kind, .string r.in.letters, .bool r.in.op, .slice q1 q2 q3, .slice q4 q5 q6], .string D] W fun e w' => e = .returned (.tuple #[.string t, .bool b]) ∧ Below W.heap.size W w') :
    Calls Tryd.prog 27 #[.agg #[.int .i64 x.kind, .string x.letters, .bool x.op, .slice ai li ci, .slice af lf cf], .agg #[.int .i64 r.kind, .string r.letters, .bool r.op, .slice bi mi di, .slice bf mf df], .string D] w fun e w' => e = .returned (.tuple #[.string t, .bool b]) ∧ Below w.heap.size w w' := by
  have e0 := boxes2 w x r ai li ci af lf cf bi mi di bf mf df
  go_enter Tryd.func27, Tryd.ntmps27
  go_wp2_with (first | (go_at_call 42; refine (sameValue_any _ _ _).mono ?_; rintro e _ ⟨rfl, rfl⟩; rw [hs]))
  go_region_held3 (fun w' => w'.cell? ⟨w.heap.size, 0, none⟩ = some (.int .i64 x.kind) ∧ w'.cell? ⟨w.heap.size, 1, none⟩ = some (.string x.letters) ∧ w'.cell? ⟨w.heap.size, 2, none⟩ = some (.bool x.op) ∧ w'.cell? ⟨w.heap.size, 3, none⟩ = some (.slice ai li ci) ∧ w'.cell? ⟨w.heap.size, 4, none⟩ = some (.slice af lf cf) ∧ w'.cell? ⟨w.heap.size + 1, 0, none⟩ = some (.int .i64 r.kind) ∧ w'.cell? ⟨w.heap.size + 1, 1, none⟩ = some (.string r.letters) ∧ w'.cell? ⟨w.heap.size + 1, 2, none⟩ = some (.bool r.op) ∧ w'.cell? ⟨w.heap.size + 1, 3, none⟩ = some (.slice bi mi di) ∧ w'.cell? ⟨w.heap.size + 1, 4, none⟩ = some (.slice bf mf df)) (go_keep) (first | (go_at_call 41; have hq := hb1; refine (hin2 _ (by first | exact (BB w _ _).drew.thn hb1 | exact (BB w _ _).thn hb1)).mono ?_; rintro e w2 ⟨q1, q2, q3, q4, q5, q6, rfl, hr2, hb2⟩; have e2 := keep10 hb2 e1) | (go_at_call 41; refine (hin _ (by first | exact (BB w _ _).drew | exact BB w _ _)).mono ?_; rintro e w1 ⟨p1, p2, p3, p4, p5, p6, rfl, hr1, hb1⟩; have e1 := keep10 hb1 e0) | (go_at_call 44; refine (hcall _ _ _ _ _ _ _ _ _ _ _ _ _ (by first | exact ((BB w _ _).drew.thn hb1).thn hb2 | exact ((BB w _ _).thn hb1).thn hb2) (hr1.keep hb2) hr2).mono ?_; rintro e w3 ⟨rfl, hb3⟩; have e3 := keep10 hb3 e2))
  go_wp2_with fail
  go_ret2
  exact ⟨rfl, (((BB w _ _).drew.thn hb1).thn hb2).thn hb3⟩

set_option maxHeartbeats 2000000 in
theorem read_rcd (x r : Ty) (w : World) (ai : Option Addr) (li ci : Nat) (af : Option Addr) (lf cf : Nat) (bi : Option Addr) (mi di : Nat) (bf : Option Addr) (mf df : Nat) (D t : ByteArray) (b : Bool)
    (h1 : ((x.kind : Int) == 63) = false) (h2 : ((r.kind : Int) == 63) = false) (hs : sameK x.kind r.kind = false) (h3 : ((x.kind : Int) != (r.kind : Int)) = false) (k60 : ((x.kind : Int) == 60) = false) (k91 : ((x.kind : Int) == 91) = false) (k123 : ((x.kind : Int) == 123) = true) (hcall : ∀ (W : World) , Below w.heap.size w W →  Calls Tryd.prog 45 #[.slice af lf cf, .slice bf mf df, .string D] W fun e w' => e = .returned (.tuple #[.string t, .bool b]) ∧ Below W.heap.size W w') :
    Calls Tryd.prog 27 #[.agg #[.int .i64 x.kind, .string x.letters, .bool x.op, .slice ai li ci, .slice af lf cf], .agg #[.int .i64 r.kind, .string r.letters, .bool r.op, .slice bi mi di, .slice bf mf df], .string D] w fun e w' => e = .returned (.tuple #[.string t, .bool b]) ∧ Below w.heap.size w w' := by
  have e0 := boxes2 w x r ai li ci af lf cf bi mi di bf mf df
  go_enter Tryd.func27, Tryd.ntmps27
  go_wp2_with (first | (go_at_call 42; refine (sameValue_any _ _ _).mono ?_; rintro e _ ⟨rfl, rfl⟩; rw [hs]) | (go_at_call 45; refine (hcall _ (BB w _ _)).mono ?_; rintro e w1 ⟨rfl, hb1⟩))
  go_ret2
  exact ⟨rfl, (BB w _ _).thn hb1⟩
end
section
set_option maxRecDepth 4000
open Go.RowKit

theorem wt_in {m : Nat} {r : Ty} (h : r.inner ≠ []) : wt m r.in + 70 ≤ wt (m + 1) r := by
  unfold Ty.in
  rcases hi : r.inner with _ | ⟨t, ts⟩
  · exact absurd hi h
  · rw [wt, hi]; simp; omega
theorem decAll_val {n : Nat} {x : Ty} {v : Val} (h : okV n x v) : decAll (datV n v) n x = some (txtV n x v) := by
  unfold decAll
  rw [dec_mk n x v 0 h (At.self _)]
  simp
def outT : Option ByteArray → ByteArray
  | none => ByteArray.empty
  | some t => t
theorem dRet_eq (o : Option ByteArray) : dRet o = .tuple #[.string (outT o), .bool o.isSome] := by cases o <;> rfl
theorem kB {a b : Nat} (h : a = b) : ((a : Int) == (b : Int)) = true := by simp; omega
theorem kN {a b : Nat} (h : a ≠ b) : ((a : Int) == (b : Int)) = false := by simp; omega

theorem read_succ {Tab : World → Prop} (F : FmtOK Tab) {m : Nat} (IH : ReadOK Tab m) : ReadOK Tab (m + 1) := by
  intro nw nr x r v w ai af li ci lf cf bi bf mi di mf df hm hnw hnr hT hox hor hx hr hv hsz hwt
  cases nw with
  | zero => exact hx.elim
  | succ nw =>
  cases nr with
  | zero => exact hr.elim
  | succ nr =>
  have hwt' : wt m r ≤ 20000 := Nat.le_trans (wt_mono m r) hwt
  show Calls _ _ _ _ (fun e w' => e = .returned (dRet (rdStep (rdT m) x r v)) ∧ Below w.heap.size w w')
  rw [dRet_eq]
  have hx8 : x.letters.size ≤ 8 := hx.1
  have hr8 : r.letters.size ≤ 8 := hr.1
  have hinx := fun (hne : x.inner ≠ []) (W : World) (hb : Below w.heap.size w W) => inner_any nw W ai af li ci lf cf x (hx.keep hb) hne
  have hinr := fun (hne : r.inner ≠ []) (W : World) (hb : Below w.heap.size w W) => inner_any nr W bi bf mi di mf df r (hr.keep hb) hne
  by_cases h63 : x.kind = 63
  · have hne : x.inner ≠ [] := hx.2.2.2.1.1 (.inr h63)
    rcases hv with ⟨y, rfl, hv⟩ | ⟨s, rfl, hv⟩ | ⟨i, rfl, hv⟩ | ⟨vs, rfl, hv⟩ | ⟨rfl, hv⟩ | ⟨u, rfl, hv⟩ | ⟨vs, rfl, hv⟩
    · omega
    · omega
    · omega
    · omega
    · rw [show rdStep (rdT m) x r .non = if r.kind = 63 then some ⟨#[95]⟩ else none by unfold rdStep; rw [if_pos h63]; rfl, datV_non]
      refine read_w63 x r w ai li ci af lf cf bi mi di bf mf df _ _ _ (kB h63) nw (hinx hne) (fun W p1 p2 p3 p4 p5 p6 hb hp => ?_)
      have := readMaybe_non x.in r p1 p2 p3 p4 p5 p6 bi mi di bf mf df W
      rw [dRet_eq] at this; exact this
    · rw [show rdStep (rdT m) x r (.som u) = rdT m x.in r u by unfold rdStep; rw [if_pos h63]; rfl]
      rw [datV_som] at hsz ⊢
      rw [ByteArray.size_append, oneB_size] at hsz
      refine read_w63 x r w ai li ci af lf cf bi mi di bf mf df _ _ _ (kB h63) nw (hinx hne) (fun W p1 p2 p3 p4 p5 p6 hb hp => ?_)
      have := readMaybe_som F IH nw (nr + 1) x.in r u W p1 p4 p2 p3 p5 p6 bi bf mi di mf df (by omega) (by omega) hnr (F.1 _ _ hb hT) (hox.in hne) hor hp (hr.keep hb) hv.2 (by omega) hwt'
      rw [dRet_eq] at this; exact this
    · omega
  · by_cases hr63 : r.kind = 63
    · have hne : r.inner ≠ [] := hr.2.2.2.1.1 (.inr hr63)
      rw [show rdStep (rdT m) x r v = rdT m x r.in v by unfold rdStep; rw [if_neg h63, if_pos hr63]]
      have hwi := wt_in (m := m) hne
      refine read_r63 x r w ai li ci af lf cf bi mi di bf mf df _ _ _ (kN h63) (kB hr63) nr (hinr hne) (fun W p1 p2 p3 p4 p5 p6 hb hp => ?_)
      have := IH (nw + 1) nr x r.in v W ai af li ci lf cf p1 p4 p2 p3 p5 p6 (by omega) hnw (by omega) (F.1 _ _ hb hT) hox (hor.in hne) (hx.keep hb) hp hv hsz (by omega)
      rw [dRet_eq] at this; exact this
    · cases hsame : sameK x.kind r.kind with
      | true =>
        rw [show rdStep (rdT m) x r v = some (leafT v) by unfold rdStep; rw [if_neg h63, if_neg hr63, if_pos hsame]]
        have htx : txtV (nw + 1) x v = leafT v := by
          have hk : x.kind = 105 ∨ x.kind = 108 ∨ x.kind = 115 := by simp [sameK] at hsame; omega
          rcases hv with ⟨y, rfl, hv⟩ | ⟨s, rfl, hv⟩ | ⟨i, rfl, hv⟩ | ⟨vs, rfl, hv⟩ | ⟨rfl, hv⟩ | ⟨u, rfl, hv⟩ | ⟨vs, rfl, hv⟩
          · rfl
          · rfl
          · omega
          · omega
          · omega
          · omega
          · omega
        refine read_same x r w ai li ci af lf cf bi mi di bf mf df _ _ _ (kN h63) (kN hr63) hsame (fun W hb => ?_)
        have := sDecode_any F (t := datV (nw + 1) v) (by omega) (show nw + 1 ≤ 100 by omega) x W ai af li ci lf cf (F.1 _ _ hb hT) hox (hx.keep hb)
        rw [decAll_val hv, htx, dRet_eq] at this; exact this
      | false =>
        by_cases hkk : x.kind = r.kind
        · have h3 : ((x.kind : Int) != (r.kind : Int)) = false := by simp; omega
          have hstep : rdStep (rdT m) x r v = if v.tag = 2 then rdCho x.letters r.letters r.op v.n.toNat else if v.tag = 3 then rdItems (rdT m x.in r.in) v.vs 0 ⟨#[91]⟩ else if v.tag = 6 then rdFlds (rdFld (rdT m) (x.fields.zip v.vs)) r.fields ⟨#[123]⟩ ByteArray.empty else none := by
            unfold rdStep; rw [if_neg h63, if_neg hr63, if_neg (by rw [hsame]; simp), if_neg (by simp [hkk])]
          rcases hv with ⟨y, rfl, hv⟩ | ⟨s, rfl, hv⟩ | ⟨i, rfl, hv⟩ | ⟨vs, rfl, hv⟩ | ⟨rfl, hv⟩ | ⟨u, rfl, hv⟩ | ⟨vs, rfl, hv⟩
          · exfalso; simp [sameK] at hsame; omega
          · exfalso; simp [sameK] at hsame; omega
          · rw [show rdStep (rdT m) x r (.cho i) = rdCho x.letters r.letters r.op i from hstep, datV_cho]
            refine read_cho x r w ai li ci af lf cf bi mi di bf mf df _ _ _ (kN h63) (kN hr63) hsame h3 (kB hv.1) (fun W hb => ?_)
            have := readChoice_any x r ai li ci af lf cf bi mi di bf mf df i W hx8 hr8 hv.2.1
            rw [dRet_eq] at this; exact this
          · have hn1 : x.inner ≠ [] := hx.2.2.2.1.1 (.inl hv.1)
            have hn2 : r.inner ≠ [] := hr.2.2.2.1.1 (.inl (by omega))
            have hwi := wt_in (m := m) hn2
            rw [show rdStep (rdT m) x r (.lst vs) = rdItems (rdT m x.in r.in) vs 0 ⟨#[91]⟩ from hstep]
            rw [datV_lst] at hsz ⊢
            refine read_lst x r w ai li ci af lf cf bi mi di bf mf df _ _ _ (kN h63) (kN hr63) hsame h3 (kN (b := 60) (by omega)) (kB hv.1) nw nr (hinx hn1) (hinr hn2) (fun W p1 p2 p3 p4 p5 p6 q1 q2 q3 q4 q5 q6 hb hp hq => ?_)
            have := readList_any F IH nw nr x.in r.in vs W p1 p4 p2 p3 p5 p6 q1 q4 q2 q3 q5 q6 (by omega) (by omega) (by omega) (F.1 _ _ hb hT) (hox.in hn1) (hor.in hn2) hp hq hv.2.1 hv.2.2 hsz (by omega)
            rw [dRet_eq] at this; exact this
          · omega
          · omega
          · rw [show rdStep (rdT m) x r (.rcd vs) = rdFlds (rdFld (rdT m) (x.fields.zip vs)) r.fields ⟨#[123]⟩ ByteArray.empty from hstep]
            rw [datV_rcd] at hsz ⊢
            have hlx := hx.flds
            have hlr := hr.flds
            have hrn : r.fields ≠ [] := hr.2.2.2.1.2 (by omega)
            refine read_rcd x r w ai li ci af lf cf bi mi di bf mf df _ _ _ (kN h63) (kN hr63) hsame h3 (kN (b := 60) (by omega)) (kN (b := 91) (by omega)) (kB hv.1) (fun W hb => ?_)
            have := readRecord_any F IH nw nr (by omega) (by omega) (by omega) x.fields r.fields vs _ W af bf lf cf mf df hlx.1 hlr.1 hlx.2.1 hlr.2.1 hv.2.1 hrn (F.1 _ _ hb hT) hox.2 hor.2 hv.2.2.1 hv.2.2.2 rfl hsz (hx.keep hb).flds.2.2 (hr.keep hb).flds.2.2 (by rw [wt] at hwt; omega)
            rw [dRet_eq] at this; exact this
        · rw [show rdStep (rdT m) x r v = none by unfold rdStep; rw [if_neg h63, if_neg hr63, if_neg (by rw [hsame]; simp), if_pos hkk]]
          exact read_no x r w ai li ci af lf cf bi mi di bf mf df _ _ _ (kN h63) (kN hr63) hsame (by simp; omega) rfl rfl
theorem read_all {Tab : World → Prop} (F : FmtOK Tab) : ∀ m, ReadOK Tab m
  | 0 => fun nw nr x r v w ai af li ci lf cf bi bf mi di mf df hm hnw hnr hT hox hor hx hr hv hsz hwt => by
    obtain rfl : nw = 0 := by omega
    exact hx.elim
  | m + 1 => read_succ F (read_all F m)

/-- What a schema's type weighs. -/
theorem pFlds_wt {pf : Nat → Option ((Nat × Ty × ByteArray) × Nat)} {s : ByteArray} {N : Nat} (hp : ∀ i f k, pf i = some (f, k) → i < k ∧ k ≤ s.size ∧ wt N f.2.1 + f.2.2.size + 84 ≤ 80 * (k - i)) :
    ∀ (m a : Nat) (acc fs : List (Nat × Ty × ByteArray)) (k : Nat), pFlds pf s m a acc = some (fs, k) → a < k ∧ k ≤ s.size ∧ (fs.map fun f => wt N f.2.1 + f.2.2.size + 4).sum ≤ (acc.map fun f => wt N f.2.1 + f.2.2.size + 4).sum + 80 * (k - a)
  | 0, a, acc, fs, k, h => by simp [pFlds] at h
  | m + 1, a, acc, fs, k, h => by
    rw [pFlds] at h
    split at h
    · cases h
    · rename_i f k' hf
      have h1 := hp _ _ _ hf
      split at h
      · cases h
      · split at h
        · rename_i h125
          have := bAt_lt (s := s) (i := k') (by omega)
          simp only [Option.some.injEq, Prod.mk.injEq] at h
          obtain ⟨rfl, rfl⟩ := h
          rw [List.map_append, List.sum_append]
          simp
          omega
        · split at h
          · have := pFlds_wt hp m (k' + 1) (acc ++ [f]) fs k h
            rw [List.map_append, List.sum_append] at this
            simp at this ⊢
            omega
          · cases h
theorem pType_wt (st : Bool) (s : ByteArray) (N : Nat) : ∀ (n i : Nat) (ty : Ty) (k : Nat), pType st s n i = some (ty, k) → wt N ty ≤ 80 * (k - i) := by
  intro n
  induction n generalizing N with
  | zero => intro i ty k h; simp [pType] at h
  | succ n IH =>
    intro i ty k h
    have hbd := pType_bd st s _ _ _ _ h
    cases N with
    | zero => rw [wt]; omega
    | succ N =>
    have hpl : ∀ q : Nat, wt (N + 1) (plainTy q) ≤ 80 * (i + 1 - i) := fun q => by rw [wt]; simp [plainTy]
    rw [pType] at h
    split at h
    · cases h; exact hpl _
    · split at h
      · cases h; exact hpl _
      · split at h
        · cases h; exact hpl _
        · split at h
          · simp only [pChoice] at h
            split at h
            · cases h
            · split at h
              · split at h
                · cases h; rw [wt]; simp; omega
                · cases h
              · split at h
                · cases h; rw [wt]; simp; omega
                · cases h
          · split at h
            · unfold pList at h
              split at h
              · cases h
              · rename_i t k' ht
                split at h
                · cases h
                  have := IH N _ _ _ ht
                  have := pType_bd st s _ _ _ _ ht
                  rw [wt]; simp; omega
                · cases h
            · split at h
              · unfold pMaybe at h
                split at h
                · cases h
                · rename_i t k' ht
                  have := IH N _ _ _ ht
                  have := pType_bd st s _ _ _ _ ht
                  split at h
                  · cases h
                  · cases h; rw [wt]; simp; omega
              · split at h
                · unfold pRec at h
                  split at h
                  · cases h
                  · rename_i fs k' hfs
                    cases h
                    have := pFlds_wt (N := N) (fun i f k hf => by
                      unfold pField at hf
                      split at hf
                      · split at hf
                        · cases hf
                        · rename_i t k' ht
                          have h1 := IH N _ _ _ ht
                          have h2 := pType_bd st s _ _ _ _ ht
                          split at hf
                          · split at hf
                            · cases hf
                            · rename_i d m' he
                              cases hf
                              have h3 := enc_bd he
                              have h4 := size_extract s (k' + 1) k (by omega) (by omega)
                              refine ⟨by omega, by omega, ?_⟩
                              show wt N t + (s.extract (k' + 1) k).size + 84 ≤ _
                              omega
                          · cases hf
                            refine ⟨by omega, by omega, ?_⟩
                            show wt N t + 0 + 84 ≤ _
                            omega
                      · cases hf) _ _ _ _ _ hfs
                    rw [wt]; simp at this ⊢; omega
                · cases h
end
end Go.Proofs.YtkkekopomiehlaaDoor
