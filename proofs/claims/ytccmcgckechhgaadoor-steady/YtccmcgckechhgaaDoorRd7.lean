import Derived.Test.YtccmcgckechhgaaDoorRd6
set_option linter.unusedVariables false
set_option linter.unusedSimpArgs false
set_option maxRecDepth 4000
namespace Go.Proofs.YtccmcgckechhgaaDoor
open Go.RowKit

set_option maxHeartbeats 2000000 in
theorem read_w63 (x r : Ty) (w : World) (ai : Option Addr) (li ci : Nat) (af : Option Addr) (lf cf : Nat) (bi : Option Addr) (mi di : Nat) (bf : Option Addr) (mf df : Nat) (D t : ByteArray) (b : Bool)
    (h1 : ((x.kind : Int) == 63) = true) (nw : Nat) (hin : ∀ W, Below w.heap.size w W → Calls Tryd.prog 41 #[.agg #[.int .i64 x.kind, .string x.letters, .bool x.op, .slice ai li ci, .slice af lf cf]] W fun e w' => ∃ p1 p2 p3 p4 p5 p6, e = .returned (.agg #[.int .i64 x.in.kind, .string x.in.letters, .bool x.in.op, .slice p1 p2 p3, .slice p4 p5 p6]) ∧ Rep nw w' p1 p2 p3 p4 p5 p6 x.in ∧ Below W.heap.size W w') (hcall : ∀ (W : World) (p1 : Option Addr) (p2 p3 : Nat) (p4 : Option Addr) (p5 p6 : Nat), Below w.heap.size w W → Rep nw W p1 p2 p3 p4 p5 p6 x.in → Calls Tryd.prog 40 #[.agg #[.int .i64 x.in.kind, .string x.in.letters, .bool x.in.op, .slice p1 p2 p3, .slice p4 p5 p6], .agg #[.int .i64 r.kind, .string r.letters, .bool r.op, .slice bi mi di, .slice bf mf df], .string D] W fun e w' => e = .returned (.tuple #[.string t, .bool b]) ∧ Below W.heap.size W w') :
    Calls Tryd.prog 27 #[.agg #[.int .i64 x.kind, .string x.letters, .bool x.op, .slice ai li ci, .slice af lf cf], .agg #[.int .i64 r.kind, .string r.letters, .bool r.op, .slice bi mi di, .slice bf mf df], .string D] w fun e w' => e = .returned (.tuple #[.string t, .bool b]) ∧ Below w.heap.size w w' := by
  have e0 := boxes2 w x r ai li ci af lf cf bi mi di bf mf df
  go_enter Tryd.func27, Tryd.ntmps27
  go_wp2_with fail
  go_region_held3 (fun w' => w'.cell? ⟨w.heap.size, 0, none⟩ = some (.int .i64 x.kind) ∧ w'.cell? ⟨w.heap.size, 1, none⟩ = some (.string x.letters) ∧ w'.cell? ⟨w.heap.size, 2, none⟩ = some (.bool x.op) ∧ w'.cell? ⟨w.heap.size, 3, none⟩ = some (.slice ai li ci) ∧ w'.cell? ⟨w.heap.size, 4, none⟩ = some (.slice af lf cf) ∧ w'.cell? ⟨w.heap.size + 1, 0, none⟩ = some (.int .i64 r.kind) ∧ w'.cell? ⟨w.heap.size + 1, 1, none⟩ = some (.string r.letters) ∧ w'.cell? ⟨w.heap.size + 1, 2, none⟩ = some (.bool r.op) ∧ w'.cell? ⟨w.heap.size + 1, 3, none⟩ = some (.slice bi mi di) ∧ w'.cell? ⟨w.heap.size + 1, 4, none⟩ = some (.slice bf mf df)) (go_keep) (first | (go_at_call 41; refine (hin _ (by first | exact (BB w _ _).drew | exact BB w _ _)).mono ?_; rintro e w1 ⟨p1, p2, p3, p4, p5, p6, rfl, hr1, hb1⟩; have e1 := keep10 hb1 e0) | (go_at_call 40; refine (hcall _ _ _ _ _ _ _ (by first | exact (BB w _ _).drew.thn hb1 | exact (BB w _ _).thn hb1) hr1).mono ?_; rintro e w2 ⟨rfl, hb2⟩; have e2 := keep10 hb2 e1))
  go_wp2_with fail
  go_ret2
  exact ⟨rfl, ((BB w _ _).drew.thn hb1).thn hb2⟩

set_option maxHeartbeats 2000000 in
theorem read_r63 (x r : Ty) (w : World) (ai : Option Addr) (li ci : Nat) (af : Option Addr) (lf cf : Nat) (bi : Option Addr) (mi di : Nat) (bf : Option Addr) (mf df : Nat) (D t : ByteArray) (b : Bool)
    (h1 : ((x.kind : Int) == 63) = false) (h2 : ((r.kind : Int) == 63) = true) (nr : Nat) (hin : ∀ W, Below w.heap.size w W → Calls Tryd.prog 41 #[.agg #[.int .i64 r.kind, .string r.letters, .bool r.op, .slice bi mi di, .slice bf mf df]] W fun e w' => ∃ p1 p2 p3 p4 p5 p6, e = .returned (.agg #[.int .i64 r.in.kind, .string r.in.letters, .bool r.in.op, .slice p1 p2 p3, .slice p4 p5 p6]) ∧ Rep nr w' p1 p2 p3 p4 p5 p6 r.in ∧ Below W.heap.size W w') (hcall : ∀ (W : World) (p1 : Option Addr) (p2 p3 : Nat) (p4 : Option Addr) (p5 p6 : Nat), Below w.heap.size w W → Rep nr W p1 p2 p3 p4 p5 p6 r.in → Calls Tryd.prog 27 #[.agg #[.int .i64 x.kind, .string x.letters, .bool x.op, .slice ai li ci, .slice af lf cf], .agg #[.int .i64 r.in.kind, .string r.in.letters, .bool r.in.op, .slice p1 p2 p3, .slice p4 p5 p6], .string D] W fun e w' => e = .returned (.tuple #[.string t, .bool b]) ∧ Below W.heap.size W w') :
    Calls Tryd.prog 27 #[.agg #[.int .i64 x.kind, .string x.letters, .bool x.op, .slice ai li ci, .slice af lf cf], .agg #[.int .i64 r.kind, .string r.letters, .bool r.op, .slice bi mi di, .slice bf mf df], .string D] w fun e w' => e = .returned (.tuple #[.string t, .bool b]) ∧ Below w.heap.size w w' := by
  have e0 := boxes2 w x r ai li ci af lf cf bi mi di bf mf df
  go_enter Tryd.func27, Tryd.ntmps27
  go_wp2_with fail
  go_region_held3 (fun w' => w'.cell? ⟨w.heap.size, 0, none⟩ = some (.int .i64 x.kind) ∧ w'.cell? ⟨w.heap.size, 1, none⟩ = some (.string x.letters) ∧ w'.cell? ⟨w.heap.size, 2, none⟩ = some (.bool x.op) ∧ w'.cell? ⟨w.heap.size, 3, none⟩ = some (.slice ai li ci) ∧ w'.cell? ⟨w.heap.size, 4, none⟩ = some (.slice af lf cf) ∧ w'.cell? ⟨w.heap.size + 1, 0, none⟩ = some (.int .i64 r.kind) ∧ w'.cell? ⟨w.heap.size + 1, 1, none⟩ = some (.string r.letters) ∧ w'.cell? ⟨w.heap.size + 1, 2, none⟩ = some (.bool r.op) ∧ w'.cell? ⟨w.heap.size + 1, 3, none⟩ = some (.slice bi mi di) ∧ w'.cell? ⟨w.heap.size + 1, 4, none⟩ = some (.slice bf mf df)) (go_keep) (first | (go_at_call 41; refine (hin _ (by first | exact (BB w _ _).drew | exact BB w _ _)).mono ?_; rintro e w1 ⟨p1, p2, p3, p4, p5, p6, rfl, hr1, hb1⟩; have e1 := keep10 hb1 e0) | (go_at_call 27; refine (hcall _ _ _ _ _ _ _ (by first | exact (BB w _ _).drew.thn hb1 | exact (BB w _ _).thn hb1) hr1).mono ?_; rintro e w2 ⟨rfl, hb2⟩; have e2 := keep10 hb2 e1))
  go_wp2_with fail
  go_ret2
  exact ⟨rfl, ((BB w _ _).drew.thn hb1).thn hb2⟩

set_option maxHeartbeats 2000000 in
theorem read_same (x r : Ty) (w : World) (ai : Option Addr) (li ci : Nat) (af : Option Addr) (lf cf : Nat) (bi : Option Addr) (mi di : Nat) (bf : Option Addr) (mf df : Nat) (D t : ByteArray) (b : Bool)
    (h1 : ((x.kind : Int) == 63) = false) (h2 : ((r.kind : Int) == 63) = false) (hs : sameK x.kind r.kind = true) (hcall : ∀ (W : World) , Below w.heap.size w W →  Calls Tryd.prog 21 #[.agg #[.int .i64 x.kind, .string x.letters, .bool x.op, .slice ai li ci, .slice af lf cf], .string D] W fun e w' => e = .returned (.tuple #[.string t, .bool b]) ∧ Below W.heap.size W w') :
    Calls Tryd.prog 27 #[.agg #[.int .i64 x.kind, .string x.letters, .bool x.op, .slice ai li ci, .slice af lf cf], .agg #[.int .i64 r.kind, .string r.letters, .bool r.op, .slice bi mi di, .slice bf mf df], .string D] w fun e w' => e = .returned (.tuple #[.string t, .bool b]) ∧ Below w.heap.size w w' := by
  have e0 := boxes2 w x r ai li ci af lf cf bi mi di bf mf df
  go_enter Tryd.func27, Tryd.ntmps27
  go_wp2_with (first | (go_at_call 42; refine (sameValue_any _ _ _).mono ?_; rintro e _ ⟨rfl, rfl⟩; rw [hs]) | (go_at_call 21; refine (hcall _ (BB w _ _)).mono ?_; rintro e w1 ⟨rfl, hb1⟩))
  go_ret2
  exact ⟨rfl, (BB w _ _).thn hb1⟩

set_option maxHeartbeats 2000000 in
theorem read_no (x r : Ty) (w : World) (ai : Option Addr) (li ci : Nat) (af : Option Addr) (lf cf : Nat) (bi : Option Addr) (mi di : Nat) (bf : Option Addr) (mf df : Nat) (D t : ByteArray) (b : Bool)
    (h1 : ((x.kind : Int) == 63) = false) (h2 : ((r.kind : Int) == 63) = false) (hs : sameK x.kind r.kind = false) (h3 : ((x.kind : Int) != (r.kind : Int)) = true) (ht : t = ByteArray.empty) (hb : b = false) :
    Calls Tryd.prog 27 #[.agg #[.int .i64 x.kind, .string x.letters, .bool x.op, .slice ai li ci, .slice af lf cf], .agg #[.int .i64 r.kind, .string r.letters, .bool r.op, .slice bi mi di, .slice bf mf df], .string D] w fun e w' => e = .returned (.tuple #[.string t, .bool b]) ∧ Below w.heap.size w w' := by
  have e0 := boxes2 w x r ai li ci af lf cf bi mi di bf mf df
  go_enter Tryd.func27, Tryd.ntmps27
  subst ht hb
  go_wp2_with (first | (go_at_call 42; refine (sameValue_any _ _ _).mono ?_; rintro e _ ⟨rfl, rfl⟩; rw [hs]))
  go_ret2
  exact ⟨rfl, BB w _ _⟩

set_option maxHeartbeats 2000000 in
theorem read_cho (x r : Ty) (w : World) (ai : Option Addr) (li ci : Nat) (af : Option Addr) (lf cf : Nat) (bi : Option Addr) (mi di : Nat) (bf : Option Addr) (mf df : Nat) (D t : ByteArray) (b : Bool)
    (h1 : ((x.kind : Int) == 63) = false) (h2 : ((r.kind : Int) == 63) = false) (hs : sameK x.kind r.kind = false) (h3 : ((x.kind : Int) != (r.kind : Int)) = false) (k60 : ((x.kind : Int) == 60) = true) (hcall : ∀ (W : World) , Below w.heap.size w W →  Calls Tryd.prog 43 #[.agg #[.int .i64 x.kind, .string x.letters, .bool x.op, .slice ai li ci, .slice af lf cf], .agg #[.int .i64 r.kind, .string r.letters, .bool r.op, .slice bi mi di, .slice bf mf df], .string D] W fun e w' => e = .returned (.tuple #[.string t, .bool b]) ∧ Below W.heap.size W w') :
    Calls Tryd.prog 27 #[.agg #[.int .i64 x.kind, .string x.letters, .bool x.op, .slice ai li ci, .slice af lf cf], .agg #[.int .i64 r.kind, .string r.letters, .bool r.op, .slice bi mi di, .slice bf mf df], .string D] w fun e w' => e = .returned (.tuple #[.string t, .bool b]) ∧ Below w.heap.size w w' := by
  have e0 := boxes2 w x r ai li ci af lf cf bi mi di bf mf df
  go_enter Tryd.func27, Tryd.ntmps27
  go_wp2_with (first | (go_at_call 42; refine (sameValue_any _ _ _).mono ?_; rintro e _ ⟨rfl, rfl⟩; rw [hs]) | (go_at_call 43; refine (hcall _ (BB w _ _)).mono ?_; rintro e w1 ⟨rfl, hb1⟩))
  go_ret2
  exact ⟨rfl, (BB w _ _).thn hb1⟩

set_option maxHeartbeats 2000000 in
theorem read_lst (x r : Ty) (w : World) (ai : Option Addr) (li ci : Nat) (af : Option Addr) (lf cf : Nat) (bi : Option Addr) (mi di : Nat) (bf : Option Addr) (mf df : Nat) (D t : ByteArray) (b : Bool)
    (h1 : ((x.kind : Int) == 63) = false) (h2 : ((r.kind : Int) == 63) = false) (hs : sameK x.kind r.kind = false) (h3 : ((x.kind : Int) != (r.kind : Int)) = false) (k60 : ((x.kind : Int) == 60) = false) (k91 : ((x.kind : Int) == 91) = true) (nw nr : Nat) (hin : ∀ W, Below w.heap.size w W → Calls Tryd.prog 41 #[.agg #[.int .i64 x.kind, .string x.letters, .bool x.op, .slice ai li ci, .slice af lf cf]] W fun e w' => ∃ p1 p2 p3 p4 p5 p6, e = .returned (.agg #[.int .i64 x.in.kind, .string x.in.letters, .bool x.in.op, .slice p1 p2 p3, .slice p4 p5 p6]) ∧ Rep nw w' p1 p2 p3 p4 p5 p6 x.in ∧ Below W.heap.size W w') (hin2 : ∀ W, Below w.heap.size w W → Calls Tryd.prog 41 #[.agg #[.int .i64 r.kind, .string r.letters, .bool r.op, .slice bi mi di, .slice bf mf df]] W fun e w' => ∃ p1 p2 p3 p4 p5 p6, e = .returned (.agg #[.int .i64 r.in.kind, .string r.in.letters, .bool r.in.op, .slice p1 p2 p3, .slice p4 p5 p6]) ∧ Rep nr w' p1 p2 p3 p4 p5 p6 r.in ∧ Below W.heap.size W w') (hcall : ∀ (W : World) (p1 : Option Addr) (p2 p3 : Nat) (p4 : Option Addr) (p5 p6 : Nat) (q1 : Option Addr) (q2 q3 : Nat) (q4 : Option Addr) (q5 q6 : Nat), Below w.heap.size w W → Rep nw W p1 p2 p3 p4 p5 p6 x.in → Rep nr W q1 q2 q3 q4 q5 q6 r.in → Calls Tryd.prog 44 #[.agg #[.int .i64 x.in.kind, .string x.in.letters, .bool x.in.op, .slice p1 p2 p3, .slice p4 p5 p6], .agg #[.int .i64 r.in.kind, .string r.in.letters, .bool r.in.op, .slice q1 q2 q3, .slice q4 q5 q6], .string D] W fun e w' => e = .returned (.tuple #[.string t, .bool b]) ∧ Below W.heap.size W w') :
    Calls Tryd.prog 27 #[.agg #[.int .i64 x.kind, .string x.letters, .bool x.op, .slice ai li ci, .slice af lf cf], .agg #[.int .i64 r.kind, .string r.letters, .bool r.op, .slice bi mi di, .slice bf mf df], .string D] w fun e w' => e = .returned (.tuple #[.string t, .bool b]) ∧ Below w.heap.size w w' := by
  have e0 := boxes2 w x r ai li ci af lf cf bi mi di bf mf df
  go_enter Tryd.func27, Tryd.ntmps27
  go_wp2_with (first | (go_at_call 42; refine (sameValue_any _ _ _).mono ?_; rintro e _ ⟨rfl, rfl⟩; rw [hs]))
  go_region_held3 (fun w' => w'.cell? ⟨w.heap.size, 0, none⟩ = some (.int .i64 x.kind) ∧ w'.cell? ⟨w.heap.size, 1, none⟩ = some (.string x.letters) ∧ w'.cell? ⟨w.heap.size, 2, none⟩ = some (.bool x.op) ∧ w'.cell? ⟨w.heap.size, 3, none⟩ = some (.slice ai li ci) ∧ w'.cell? ⟨w.heap.size, 4, none⟩ = some (.slice af lf cf) ∧ w'.cell? ⟨w.heap.size + 1, 0, none⟩ = some (.int .i64 r.kind) ∧ w'.cell? ⟨w.heap.size + 1, 1, none⟩ = some (.string r.letters) ∧ w'.cell? ⟨w.heap.size + 1, 2, none⟩ = some (.bool r.op) ∧ w'.cell? ⟨w.heap.size + 1, 3, none⟩ = some (.slice bi mi di) ∧ w'.cell? ⟨w.heap.size + 1, 4, none⟩ = some (.slice bf mf df)) (go_keep) (first | (go_at_call 41; have hq := hb1; refine (hin2 _ (by first | exact (BB w _ _).drew.thn hb1 | exact (BB w _ _).thn hb1)).mono ?_; rintro e w2 ⟨q1, q2, q3, q4, q5, q6, rfl, hr2, hb2⟩; have e2 := keep10 hb2 e1) | (go_at_call 41; refine (hin _ (by first | exact (BB w _ _).drew | exact BB w _ _)).mono ?_; rintro e w1 ⟨p1, p2, p3, p4, p5, p6, rfl, hr1, hb1⟩; have e1 := keep10 hb1 e0) | (go_at_call 44; refine (hcall _ _ _ _ _ _ _ _ _ _ _ _ _ (by first | exact ((BB w _ _).drew.thn hb1).thn hb2 | exact ((BB w _ _).thn hb1).thn hb2) (hr1.keep hb2) hr2).mono ?_; rintro e w3 ⟨rfl, hb3⟩; have e3 := keep10 hb3 e2))
  go_wp2_with fail
  go_ret2
  exact ⟨rfl, (((BB w _ _).drew.thn hb1).thn hb2).thn hb3⟩

set_option maxHeartbeats 2000000 in
theorem read_rcd (x r : Ty) (w : World) (ai : Option Addr) (li ci : Nat) (af : Option Addr) (lf cf : Nat) (bi : Option Addr) (mi di : Nat) (bf : Option Addr) (mf df : Nat) (D t : ByteArray) (b : Bool)
    (h1 : ((x.kind : Int) == 63) = false) (h2 : ((r.kind : Int) == 63) = false) (hs : sameK x.kind r.kind = false) (h3 : ((x.kind : Int) != (r.kind : Int)) = false) (k60 : ((x.kind : Int) == 60) = false) (k91 : ((x.kind : Int) == 91) = false) (k123 : ((x.kind : Int) == 123) = true) (hcall : ∀ (W : World) , Below w.heap.size w W →  Calls Tryd.prog 45 #[.slice af lf cf, .slice bf mf df, .string D] W fun e w' => e = .returned (.tuple #[.string t, .bool b]) ∧ Below W.heap.size W w') :
    Calls Tryd.prog 27 #[.agg #[.int .i64 x.kind, .string x.letters, .bool x.op, .slice ai li ci, .slice af lf cf], .agg #[.int .i64 r.kind, .string r.letters, .bool r.op, .slice bi mi di, .slice bf mf df], .string D] w fun e w' => e = .returned (.tuple #[.string t, .bool b]) ∧ Below w.heap.size w w' := by
  have e0 := boxes2 w x r ai li ci af lf cf bi mi di bf mf df
  go_enter Tryd.func27, Tryd.ntmps27
  go_wp2_with (first | (go_at_call 42; refine (sameValue_any _ _ _).mono ?_; rintro e _ ⟨rfl, rfl⟩; rw [hs]) | (go_at_call 45; refine (hcall _ (BB w _ _)).mono ?_; rintro e w1 ⟨rfl, hb1⟩))
  go_ret2
  exact ⟨rfl, (BB w _ _).thn hb1⟩

end Go.Proofs.YtccmcgckechhgaaDoor
