import Derived.Test.YtkkekopomiehlaaFt3
import Derived.Test.YtkkekopomiehlaaParse3
set_option linter.unusedVariables false
set_option linter.unusedSimpArgs false
set_option maxRecDepth 4000
namespace Go.Proofs.Ytkkekopomiehlaa
open Go.RowKit

theorem bx (w : World) (o o2 : Obj) : Below w.heap.size w ((w.alloc o).alloc o2) := ((Below.refl _ _).alloc (Nat.le_refl _) _).alloc (by simp) _
theorem kp10 {W w1 : World} (hb : Below W.heap.size W w1) {b c : Nat} {v0 v1 v2 v3 v4 u0 u1 u2 u3 u4 : Value} (h : W.cell? ⟨b, 0, none⟩ = some v0 ∧ W.cell? ⟨b, 1, none⟩ = some v1 ∧ W.cell? ⟨b, 2, none⟩ = some v2 ∧ W.cell? ⟨b, 3, none⟩ = some v3 ∧ W.cell? ⟨b, 4, none⟩ = some v4 ∧ W.cell? ⟨c, 0, none⟩ = some u0 ∧ W.cell? ⟨c, 1, none⟩ = some u1 ∧ W.cell? ⟨c, 2, none⟩ = some u2 ∧ W.cell? ⟨c, 3, none⟩ = some u3 ∧ W.cell? ⟨c, 4, none⟩ = some u4) :
    w1.cell? ⟨b, 0, none⟩ = some v0 ∧ w1.cell? ⟨b, 1, none⟩ = some v1 ∧ w1.cell? ⟨b, 2, none⟩ = some v2 ∧ w1.cell? ⟨b, 3, none⟩ = some v3 ∧ w1.cell? ⟨b, 4, none⟩ = some v4 ∧ w1.cell? ⟨c, 0, none⟩ = some u0 ∧ w1.cell? ⟨c, 1, none⟩ = some u1 ∧ w1.cell? ⟨c, 2, none⟩ = some u2 ∧ w1.cell? ⟨c, 3, none⟩ = some u3 ∧ w1.cell? ⟨c, 4, none⟩ = some u4 := by
  obtain ⟨h0, h1, h2, h3, h4, k0, k1, k2, k3, k4⟩ := h
  exact ⟨cell_keep hb h0, cell_keep hb h1, cell_keep hb h2, cell_keep hb h3, cell_keep hb h4, cell_keep hb k0, cell_keep hb k1, cell_keep hb k2, cell_keep hb k3, cell_keep hb k4⟩
theorem bx2 (w : World) (x r : Ty) (ai : Option Addr) (li ci : Nat) (af : Option Addr) (lf cf : Nat) (bi : Option Addr) (mi di : Nat) (bf : Option Addr) (mf df : Nat) :
    ((w.alloc (.cells #[.int .i64 x.kind, .string x.letters, .bool x.op, .slice ai li ci, .slice af lf cf] 41)).alloc (.cells #[.int .i64 r.kind, .string r.letters, .bool r.op, .slice bi mi di, .slice bf mf df] 41)).cell? ⟨w.heap.size, 0, none⟩ = some (.int .i64 x.kind) ∧ ((w.alloc (.cells #[.int .i64 x.kind, .string x.letters, .bool x.op, .slice ai li ci, .slice af lf cf] 41)).alloc (.cells #[.int .i64 r.kind, .string r.letters, .bool r.op, .slice bi mi di, .slice bf mf df] 41)).cell? ⟨w.heap.size, 1, none⟩ = some (.string x.letters) ∧ ((w.alloc (.cells #[.int .i64 x.kind, .string x.letters, .bool x.op, .slice ai li ci, .slice af lf cf] 41)).alloc (.cells #[.int .i64 r.kind, .string r.letters, .bool r.op, .slice bi mi di, .slice bf mf df] 41)).cell? ⟨w.heap.size, 2, none⟩ = some (.bool x.op) ∧ ((w.alloc (.cells #[.int .i64 x.kind, .string x.letters, .bool x.op, .slice ai li ci, .slice af lf cf] 41)).alloc (.cells #[.int .i64 r.kind, .string r.letters, .bool r.op, .slice bi mi di, .slice bf mf df] 41)).cell? ⟨w.heap.size, 3, none⟩ = some (.slice ai li ci) ∧ ((w.alloc (.cells #[.int .i64 x.kind, .string x.letters, .bool x.op, .slice ai li ci, .slice af lf cf] 41)).alloc (.cells #[.int .i64 r.kind, .string r.letters, .bool r.op, .slice bi mi di, .slice bf mf df] 41)).cell? ⟨w.heap.size, 4, none⟩ = some (.slice af lf cf) ∧ ((w.alloc (.cells #[.int .i64 x.kind, .string x.letters, .bool x.op, .slice ai li ci, .slice af lf cf] 41)).alloc (.cells #[.int .i64 r.kind, .string r.letters, .bool r.op, .slice bi mi di, .slice bf mf df] 41)).cell? ⟨w.heap.size + 1, 0, none⟩ = some (.int .i64 r.kind) ∧ ((w.alloc (.cells #[.int .i64 x.kind, .string x.letters, .bool x.op, .slice ai li ci, .slice af lf cf] 41)).alloc (.cells #[.int .i64 r.kind, .string r.letters, .bool r.op, .slice bi mi di, .slice bf mf df] 41)).cell? ⟨w.heap.size + 1, 1, none⟩ = some (.string r.letters) ∧ ((w.alloc (.cells #[.int .i64 x.kind, .string x.letters, .bool x.op, .slice ai li ci, .slice af lf cf] 41)).alloc (.cells #[.int .i64 r.kind, .string r.letters, .bool r.op, .slice bi mi di, .slice bf mf df] 41)).cell? ⟨w.heap.size + 1, 2, none⟩ = some (.bool r.op) ∧ ((w.alloc (.cells #[.int .i64 x.kind, .string x.letters, .bool x.op, .slice ai li ci, .slice af lf cf] 41)).alloc (.cells #[.int .i64 r.kind, .string r.letters, .bool r.op, .slice bi mi di, .slice bf mf df] 41)).cell? ⟨w.heap.size + 1, 3, none⟩ = some (.slice bi mi di) ∧ ((w.alloc (.cells #[.int .i64 x.kind, .string x.letters, .bool x.op, .slice ai li ci, .slice af lf cf] 41)).alloc (.cells #[.int .i64 r.kind, .string r.letters, .bool r.op, .slice bi mi di, .slice bf mf df] 41)).cell? ⟨w.heap.size + 1, 4, none⟩ = some (.slice bf mf df) := by
  have h : (w.alloc (.cells #[.int .i64 x.kind, .string x.letters, .bool x.op, .slice ai li ci, .slice af lf cf] 41)).heap.size = w.heap.size + 1 := by simp
  refine ⟨cell_new _ (cell_last rfl rfl), cell_new _ (cell_last rfl rfl), cell_new _ (cell_last rfl rfl), cell_new _ (cell_last rfl rfl), cell_new _ (cell_last rfl rfl), ?_⟩
  rw [← h]
  exact ⟨cell_last rfl rfl, cell_last rfl rfl, cell_last rfl rfl, cell_last rfl rfl, cell_last rfl rfl⟩

set_option maxHeartbeats 2000000 in
theorem un_both (x r : Ty) (w : World) (ai : Option Addr) (li ci : Nat) (af : Option Addr) (lf cf : Nat) (bi : Option Addr) (mi di : Nat) (bf : Option Addr) (mf df : Nat) (t : ByteArray) (b : Bool)
    (h1 : ((x.kind : Int) == 63) = true) (h2 : ((r.kind : Int) == 63) = true) (nw nr : Nat) (hin : ∀ W, Below w.heap.size w W → Calls Try.prog 44 #[.agg #[.int .i64 x.kind, .string x.letters, .bool x.op, .slice ai li ci, .slice af lf cf]] W fun e w' => ∃ p1 p2 p3 p4 p5 p6, e = .returned (.agg #[.int .i64 x.in.kind, .string x.in.letters, .bool x.in.op, .slice p1 p2 p3, .slice p4 p5 p6]) ∧ Rep nw w' p1 p2 p3 p4 p5 p6 x.in ∧ Below W.heap.size W w') (hin2 : ∀ W, Below w.heap.size w W → Calls Try.prog 44 #[.agg #[.int .i64 r.kind, .string r.letters, .bool r.op, .slice bi mi di, .slice bf mf df]] W fun e w' => ∃ p1 p2 p3 p4 p5 p6, e = .returned (.agg #[.int .i64 r.in.kind, .string r.in.letters, .bool r.in.op, .slice p1 p2 p3, .slice p4 p5 p6]) ∧ Rep nr w' p1 p2 p3 p4 p5 p6 r.in ∧ Below W.heap.size W w') (hcall : ∀ (W : World) (p1 : Option Addr) (p2 p3 : Nat) (p4 : Option Addr) (p5 p6 : Nat) (q1 : Option Addr) (q2 q3 : Nat) (q4 : Option Addr) (q5 q6 : Nat), Below w.heap.size w W → Rep nw W p1 p2 p3 p4 p5 p6 x.in → Rep nr W q1 q2 q3 q4 q5 q6 r.in → Calls Try.prog 22 #[.agg #[.int .i64 x.in.kind, .string x.in.letters, .bool x.in.op, .slice p1 p2 p3, .slice p4 p5 p6], .agg #[.int .i64 r.in.kind, .string r.in.letters, .bool r.in.op, .slice q1 q2 q3, .slice q4 q5 q6]] W fun e w' => e = .returned (.tuple #[.string t, .bool b]) ∧ Below W.heap.size W w') :
    Calls Try.prog 22 #[.agg #[.int .i64 x.kind, .string x.letters, .bool x.op, .slice ai li ci, .slice af lf cf], .agg #[.int .i64 r.kind, .string r.letters, .bool r.op, .slice bi mi di, .slice bf mf df]] w fun e w' => e = .returned (.tuple #[.string t, .bool b]) ∧ Below w.heap.size w w' := by
  have e0 := bx2 w x r ai li ci af lf cf bi mi di bf mf df
  go_enter Try.func22, Try.ntmps22
  go_wp2_with fail
  go_region_held3 (fun w' => w'.cell? ⟨w.heap.size, 0, none⟩ = some (.int .i64 x.kind) ∧ w'.cell? ⟨w.heap.size, 1, none⟩ = some (.string x.letters) ∧ w'.cell? ⟨w.heap.size, 2, none⟩ = some (.bool x.op) ∧ w'.cell? ⟨w.heap.size, 3, none⟩ = some (.slice ai li ci) ∧ w'.cell? ⟨w.heap.size, 4, none⟩ = some (.slice af lf cf) ∧ w'.cell? ⟨w.heap.size + 1, 0, none⟩ = some (.int .i64 r.kind) ∧ w'.cell? ⟨w.heap.size + 1, 1, none⟩ = some (.string r.letters) ∧ w'.cell? ⟨w.heap.size + 1, 2, none⟩ = some (.bool r.op) ∧ w'.cell? ⟨w.heap.size + 1, 3, none⟩ = some (.slice bi mi di) ∧ w'.cell? ⟨w.heap.size + 1, 4, none⟩ = some (.slice bf mf df)) (go_keep) (first | (go_at_call 44; have hq := hb1; refine (hin2 _ (by first | exact thn2 (bx w _ _).drew hb1 | exact thn2 (bx w _ _) hb1)).mono ?_; rintro e w2 ⟨q1, q2, q3, q4, q5, q6, rfl, hr2, hb2⟩; have e2 := kp10 hb2 e1) | (go_at_call 44; refine (hin _ (by first | exact (bx w _ _).drew | exact bx w _ _)).mono ?_; rintro e w1 ⟨p1, p2, p3, p4, p5, p6, rfl, hr1, hb1⟩; have e1 := kp10 hb1 e0) | (go_at_call 22; refine (hcall _ _ _ _ _ _ _ _ _ _ _ _ _ (by first | exact thn2 (thn2 (bx w _ _).drew hb1) hb2 | exact thn2 (thn2 (bx w _ _) hb1) hb2) (hr1.keep hb2) hr2).mono ?_; rintro e w3 ⟨rfl, hb3⟩; have e3 := kp10 hb3 e2))
  go_wp2_with fail
  go_ret2
  exact ⟨rfl, thn2 (thn2 (thn2 (bx w _ _).drew hb1) hb2) hb3⟩

set_option maxHeartbeats 2000000 in
theorem un_rdr (x r : Ty) (w : World) (ai : Option Addr) (li ci : Nat) (af : Option Addr) (lf cf : Nat) (bi : Option Addr) (mi di : Nat) (bf : Option Addr) (mf df : Nat) (t : ByteArray) (b : Bool)
    (h1 : ((x.kind : Int) == 63) = false) (h2 : ((r.kind : Int) == 63) = true) (nr : Nat) (hin : ∀ W, Below w.heap.size w W → Calls Try.prog 44 #[.agg #[.int .i64 r.kind, .string r.letters, .bool r.op, .slice bi mi di, .slice bf mf df]] W fun e w' => ∃ p1 p2 p3 p4 p5 p6, e = .returned (.agg #[.int .i64 r.in.kind, .string r.in.letters, .bool r.in.op, .slice p1 p2 p3, .slice p4 p5 p6]) ∧ Rep nr w' p1 p2 p3 p4 p5 p6 r.in ∧ Below W.heap.size W w') (hcall : ∀ (W : World) (p1 : Option Addr) (p2 p3 : Nat) (p4 : Option Addr) (p5 p6 : Nat), Below w.heap.size w W → Rep nr W p1 p2 p3 p4 p5 p6 r.in → Calls Try.prog 22 #[.agg #[.int .i64 x.kind, .string x.letters, .bool x.op, .slice ai li ci, .slice af lf cf], .agg #[.int .i64 r.in.kind, .string r.in.letters, .bool r.in.op, .slice p1 p2 p3, .slice p4 p5 p6]] W fun e w' => e = .returned (.tuple #[.string t, .bool b]) ∧ Below W.heap.size W w') :
    Calls Try.prog 22 #[.agg #[.int .i64 x.kind, .string x.letters, .bool x.op, .slice ai li ci, .slice af lf cf], .agg #[.int .i64 r.kind, .string r.letters, .bool r.op, .slice bi mi di, .slice bf mf df]] w fun e w' => e = .returned (.tuple #[.string t, .bool b]) ∧ Below w.heap.size w w' := by
  have e0 := bx2 w x r ai li ci af lf cf bi mi di bf mf df
  go_enter Try.func22, Try.ntmps22
  go_wp2_with fail
  go_region_held3 (fun w' => w'.cell? ⟨w.heap.size, 0, none⟩ = some (.int .i64 x.kind) ∧ w'.cell? ⟨w.heap.size, 1, none⟩ = some (.string x.letters) ∧ w'.cell? ⟨w.heap.size, 2, none⟩ = some (.bool x.op) ∧ w'.cell? ⟨w.heap.size, 3, none⟩ = some (.slice ai li ci) ∧ w'.cell? ⟨w.heap.size, 4, none⟩ = some (.slice af lf cf) ∧ w'.cell? ⟨w.heap.size + 1, 0, none⟩ = some (.int .i64 r.kind) ∧ w'.cell? ⟨w.heap.size + 1, 1, none⟩ = some (.string r.letters) ∧ w'.cell? ⟨w.heap.size + 1, 2, none⟩ = some (.bool r.op) ∧ w'.cell? ⟨w.heap.size + 1, 3, none⟩ = some (.slice bi mi di) ∧ w'.cell? ⟨w.heap.size + 1, 4, none⟩ = some (.slice bf mf df)) (go_keep) (first | (go_at_call 44; refine (hin _ (by first | exact (bx w _ _).drew | exact bx w _ _)).mono ?_; rintro e w1 ⟨p1, p2, p3, p4, p5, p6, rfl, hr1, hb1⟩; have e1 := kp10 hb1 e0) | (go_at_call 22; refine (hcall _ _ _ _ _ _ _ (by first | exact thn2 (bx w _ _).drew hb1 | exact thn2 (bx w _ _) hb1) hr1).mono ?_; rintro e w2 ⟨rfl, hb2⟩; have e2 := kp10 hb2 e1))
  go_wp2_with fail
  go_ret2
  exact ⟨rfl, thn2 (thn2 (bx w _ _).drew hb1) hb2⟩

set_option maxHeartbeats 2000000 in
theorem un_samea (x r : Ty) (w : World) (ai : Option Addr) (li ci : Nat) (af : Option Addr) (lf cf : Nat) (bi : Option Addr) (mi di : Nat) (bf : Option Addr) (mf df : Nat) (t : ByteArray) (b : Bool)
    (h1 : ((x.kind : Int) == 63) = true) (h2 : ((r.kind : Int) == 63) = false) (hs : sameK x.kind r.kind = true) (ht : t = ByteArray.empty) (hb : b = false) :
    Calls Try.prog 22 #[.agg #[.int .i64 x.kind, .string x.letters, .bool x.op, .slice ai li ci, .slice af lf cf], .agg #[.int .i64 r.kind, .string r.letters, .bool r.op, .slice bi mi di, .slice bf mf df]] w fun e w' => e = .returned (.tuple #[.string t, .bool b]) ∧ Below w.heap.size w w' := by
  have e0 := bx2 w x r ai li ci af lf cf bi mi di bf mf df
  go_enter Try.func22, Try.ntmps22
  subst ht hb
  go_wp2_with (first | (go_at_call 45; refine (sameValue_any _ _ _).mono ?_; rintro e _ ⟨rfl, rfl⟩; rw [hs]))
  go_ret2
  exact ⟨rfl, bx w _ _⟩

set_option maxHeartbeats 2000000 in
theorem un_diffa (x r : Ty) (w : World) (ai : Option Addr) (li ci : Nat) (af : Option Addr) (lf cf : Nat) (bi : Option Addr) (mi di : Nat) (bf : Option Addr) (mf df : Nat) (t : ByteArray) (b : Bool)
    (h1 : ((x.kind : Int) == 63) = true) (h2 : ((r.kind : Int) == 63) = false) (hs : sameK x.kind r.kind = false) (h3 : ((x.kind : Int) != (r.kind : Int)) = true) (hb : b = true) (hcall : ∀ (W : World) , Below w.heap.size w W →  Calls Try.prog 46 #[.agg #[.int .i64 x.kind, .string x.letters, .bool x.op, .slice ai li ci, .slice af lf cf]] W fun e w' => e = .returned (.string t) ∧ Below W.heap.size W w') :
    Calls Try.prog 22 #[.agg #[.int .i64 x.kind, .string x.letters, .bool x.op, .slice ai li ci, .slice af lf cf], .agg #[.int .i64 r.kind, .string r.letters, .bool r.op, .slice bi mi di, .slice bf mf df]] w fun e w' => e = .returned (.tuple #[.string t, .bool b]) ∧ Below w.heap.size w w' := by
  have e0 := bx2 w x r ai li ci af lf cf bi mi di bf mf df
  go_enter Try.func22, Try.ntmps22
  subst hb
  go_wp2_with (first | (go_at_call 45; refine (sameValue_any _ _ _).mono ?_; rintro e _ ⟨rfl, rfl⟩; rw [hs]) | (go_at_call 46; refine (hcall _ (bx w _ _)).mono ?_; rintro e w1 ⟨rfl, hb1⟩))
  go_ret2
  exact ⟨rfl, thn2 (bx w _ _) hb1⟩

set_option maxHeartbeats 2000000 in
theorem un_sameb (x r : Ty) (w : World) (ai : Option Addr) (li ci : Nat) (af : Option Addr) (lf cf : Nat) (bi : Option Addr) (mi di : Nat) (bf : Option Addr) (mf df : Nat) (t : ByteArray) (b : Bool)
    (h1 : ((x.kind : Int) == 63) = false) (h2 : ((r.kind : Int) == 63) = false) (hs : sameK x.kind r.kind = true) (ht : t = ByteArray.empty) (hb : b = false) :
    Calls Try.prog 22 #[.agg #[.int .i64 x.kind, .string x.letters, .bool x.op, .slice ai li ci, .slice af lf cf], .agg #[.int .i64 r.kind, .string r.letters, .bool r.op, .slice bi mi di, .slice bf mf df]] w fun e w' => e = .returned (.tuple #[.string t, .bool b]) ∧ Below w.heap.size w w' := by
  have e0 := bx2 w x r ai li ci af lf cf bi mi di bf mf df
  go_enter Try.func22, Try.ntmps22
  subst ht hb
  go_wp2_with (first | (go_at_call 45; refine (sameValue_any _ _ _).mono ?_; rintro e _ ⟨rfl, rfl⟩; rw [hs]))
  go_ret2
  exact ⟨rfl, bx w _ _⟩

set_option maxHeartbeats 2000000 in
theorem un_diffb (x r : Ty) (w : World) (ai : Option Addr) (li ci : Nat) (af : Option Addr) (lf cf : Nat) (bi : Option Addr) (mi di : Nat) (bf : Option Addr) (mf df : Nat) (t : ByteArray) (b : Bool)
    (h1 : ((x.kind : Int) == 63) = false) (h2 : ((r.kind : Int) == 63) = false) (hs : sameK x.kind r.kind = false) (h3 : ((x.kind : Int) != (r.kind : Int)) = true) (hb : b = true) (hcall : ∀ (W : World) , Below w.heap.size w W →  Calls Try.prog 46 #[.agg #[.int .i64 x.kind, .string x.letters, .bool x.op, .slice ai li ci, .slice af lf cf]] W fun e w' => e = .returned (.string t) ∧ Below W.heap.size W w') :
    Calls Try.prog 22 #[.agg #[.int .i64 x.kind, .string x.letters, .bool x.op, .slice ai li ci, .slice af lf cf], .agg #[.int .i64 r.kind, .string r.letters, .bool r.op, .slice bi mi di, .slice bf mf df]] w fun e w' => e = .returned (.tuple #[.string t, .bool b]) ∧ Below w.heap.size w w' := by
  have e0 := bx2 w x r ai li ci af lf cf bi mi di bf mf df
  go_enter Try.func22, Try.ntmps22
  subst hb
  go_wp2_with (first | (go_at_call 45; refine (sameValue_any _ _ _).mono ?_; rintro e _ ⟨rfl, rfl⟩; rw [hs]) | (go_at_call 46; refine (hcall _ (bx w _ _)).mono ?_; rintro e w1 ⟨rfl, hb1⟩))
  go_ret2
  exact ⟨rfl, thn2 (bx w _ _) hb1⟩

set_option maxHeartbeats 2000000 in
theorem un_cho (x r : Ty) (w : World) (ai : Option Addr) (li ci : Nat) (af : Option Addr) (lf cf : Nat) (bi : Option Addr) (mi di : Nat) (bf : Option Addr) (mf df : Nat) (t : ByteArray) (b : Bool)
    (h1 : ((x.kind : Int) == 63) = false) (h2 : ((r.kind : Int) == 63) = false) (hs : sameK x.kind r.kind = false) (h3 : ((x.kind : Int) != (r.kind : Int)) = false) (k60 : ((x.kind : Int) == 60) = true) (hcall : ∀ (W : World) , Below w.heap.size w W →  Calls Try.prog 47 #[.agg #[.int .i64 x.kind, .string x.letters, .bool x.op, .slice ai li ci, .slice af lf cf], .agg #[.int .i64 r.kind, .string r.letters, .bool r.op, .slice bi mi di, .slice bf mf df]] W fun e w' => e = .returned (.tuple #[.string t, .bool b]) ∧ Below W.heap.size W w') :
    Calls Try.prog 22 #[.agg #[.int .i64 x.kind, .string x.letters, .bool x.op, .slice ai li ci, .slice af lf cf], .agg #[.int .i64 r.kind, .string r.letters, .bool r.op, .slice bi mi di, .slice bf mf df]] w fun e w' => e = .returned (.tuple #[.string t, .bool b]) ∧ Below w.heap.size w w' := by
  have e0 := bx2 w x r ai li ci af lf cf bi mi di bf mf df
  go_enter Try.func22, Try.ntmps22
  go_wp2_with (first | (go_at_call 45; refine (sameValue_any _ _ _).mono ?_; rintro e _ ⟨rfl, rfl⟩; rw [hs]) | (go_at_call 47; refine (hcall _ (bx w _ _)).mono ?_; rintro e w1 ⟨rfl, hb1⟩))
  go_ret2
  exact ⟨rfl, thn2 (bx w _ _) hb1⟩

set_option maxHeartbeats 2000000 in
theorem un_lst (x r : Ty) (w : World) (ai : Option Addr) (li ci : Nat) (af : Option Addr) (lf cf : Nat) (bi : Option Addr) (mi di : Nat) (bf : Option Addr) (mf df : Nat) (t : ByteArray) (b : Bool)
    (h1 : ((x.kind : Int) == 63) = false) (h2 : ((r.kind : Int) == 63) = false) (hs : sameK x.kind r.kind = false) (h3 : ((x.kind : Int) != (r.kind : Int)) = false) (k60 : ((x.kind : Int) == 60) = false) (k91 : ((x.kind : Int) == 91) = true) (nw nr : Nat) (hin : ∀ W, Below w.heap.size w W → Calls Try.prog 44 #[.agg #[.int .i64 x.kind, .string x.letters, .bool x.op, .slice ai li ci, .slice af lf cf]] W fun e w' => ∃ p1 p2 p3 p4 p5 p6, e = .returned (.agg #[.int .i64 x.in.kind, .string x.in.letters, .bool x.in.op, .slice p1 p2 p3, .slice p4 p5 p6]) ∧ Rep nw w' p1 p2 p3 p4 p5 p6 x.in ∧ Below W.heap.size W w') (hin2 : ∀ W, Below w.heap.size w W → Calls Try.prog 44 #[.agg #[.int .i64 r.kind, .string r.letters, .bool r.op, .slice bi mi di, .slice bf mf df]] W fun e w' => ∃ p1 p2 p3 p4 p5 p6, e = .returned (.agg #[.int .i64 r.in.kind, .string r.in.letters, .bool r.in.op, .slice p1 p2 p3, .slice p4 p5 p6]) ∧ Rep nr w' p1 p2 p3 p4 p5 p6 r.in ∧ Below W.heap.size W w') (hcall : ∀ (W : World) (p1 : Option Addr) (p2 p3 : Nat) (p4 : Option Addr) (p5 p6 : Nat) (q1 : Option Addr) (q2 q3 : Nat) (q4 : Option Addr) (q5 q6 : Nat), Below w.heap.size w W → Rep nw W p1 p2 p3 p4 p5 p6 x.in → Rep nr W q1 q2 q3 q4 q5 q6 r.in → Calls Try.prog 48 #[.agg #[.int .i64 x.in.kind, .string x.in.letters, .bool x.in.op, .slice p1 p2 p3, .slice p4 p5 p6], .agg #[.int .i64 r.in.kind, .string r.in.letters, .bool r.in.op, .slice q1 q2 q3, .slice q4 q5 q6]] W fun e w' => e = .returned (.tuple #[.string t, .bool b]) ∧ Below W.heap.size W w') :
    Calls Try.prog 22 #[.agg #[.int .i64 x.kind, .string x.letters, .bool x.op, .slice ai li ci, .slice af lf cf], .agg #[.int .i64 r.kind, .string r.letters, .bool r.op, .slice bi mi di, .slice bf mf df]] w fun e w' => e = .returned (.tuple #[.string t, .bool b]) ∧ Below w.heap.size w w' := by
  have e0 := bx2 w x r ai li ci af lf cf bi mi di bf mf df
  go_enter Try.func22, Try.ntmps22
  go_wp2_with (first | (go_at_call 45; refine (sameValue_any _ _ _).mono ?_; rintro e _ ⟨rfl, rfl⟩; rw [hs]))
  go_region_held3 (fun w' => w'.cell? ⟨w.heap.size, 0, none⟩ = some (.int .i64 x.kind) ∧ w'.cell? ⟨w.heap.size, 1, none⟩ = some (.string x.letters) ∧ w'.cell? ⟨w.heap.size, 2, none⟩ = some (.bool x.op) ∧ w'.cell? ⟨w.heap.size, 3, none⟩ = some (.slice ai li ci) ∧ w'.cell? ⟨w.heap.size, 4, none⟩ = some (.slice af lf cf) ∧ w'.cell? ⟨w.heap.size + 1, 0, none⟩ = some (.int .i64 r.kind) ∧ w'.cell? ⟨w.heap.size + 1, 1, none⟩ = some (.string r.letters) ∧ w'.cell? ⟨w.heap.size + 1, 2, none⟩ = some (.bool r.op) ∧ w'.cell? ⟨w.heap.size + 1, 3, none⟩ = some (.slice bi mi di) ∧ w'.cell? ⟨w.heap.size + 1, 4, none⟩ = some (.slice bf mf df)) (go_keep) (first | (go_at_call 44; have hq := hb1; refine (hin2 _ (by first | exact thn2 (bx w _ _).drew hb1 | exact thn2 (bx w _ _) hb1)).mono ?_; rintro e w2 ⟨q1, q2, q3, q4, q5, q6, rfl, hr2, hb2⟩; have e2 := kp10 hb2 e1) | (go_at_call 44; refine (hin _ (by first | exact (bx w _ _).drew | exact bx w _ _)).mono ?_; rintro e w1 ⟨p1, p2, p3, p4, p5, p6, rfl, hr1, hb1⟩; have e1 := kp10 hb1 e0) | (go_at_call 48; refine (hcall _ _ _ _ _ _ _ _ _ _ _ _ _ (by first | exact thn2 (thn2 (bx w _ _).drew hb1) hb2 | exact thn2 (thn2 (bx w _ _) hb1) hb2) (hr1.keep hb2) hr2).mono ?_; rintro e w3 ⟨rfl, hb3⟩; have e3 := kp10 hb3 e2))
  go_wp2_with fail
  go_ret2
  exact ⟨rfl, thn2 (thn2 (thn2 (bx w _ _).drew hb1) hb2) hb3⟩

set_option maxHeartbeats 2000000 in
theorem un_rcd (x r : Ty) (w : World) (ai : Option Addr) (li ci : Nat) (af : Option Addr) (lf cf : Nat) (bi : Option Addr) (mi di : Nat) (bf : Option Addr) (mf df : Nat) (t : ByteArray) (b : Bool)
    (h1 : ((x.kind : Int) == 63) = false) (h2 : ((r.kind : Int) == 63) = false) (hs : sameK x.kind r.kind = false) (h3 : ((x.kind : Int) != (r.kind : Int)) = false) (k60 : ((x.kind : Int) == 60) = false) (k91 : ((x.kind : Int) == 91) = false) (k123 : ((x.kind : Int) == 123) = true) (hcall : ∀ (W : World) , Below w.heap.size w W →  Calls Try.prog 49 #[.slice af lf cf, .slice bf mf df] W fun e w' => e = .returned (.tuple #[.string t, .bool b]) ∧ Below W.heap.size W w') :
    Calls Try.prog 22 #[.agg #[.int .i64 x.kind, .string x.letters, .bool x.op, .slice ai li ci, .slice af lf cf], .agg #[.int .i64 r.kind, .string r.letters, .bool r.op, .slice bi mi di, .slice bf mf df]] w fun e w' => e = .returned (.tuple #[.string t, .bool b]) ∧ Below w.heap.size w w' := by
  have e0 := bx2 w x r ai li ci af lf cf bi mi di bf mf df
  go_enter Try.func22, Try.ntmps22
  go_wp2_with (first | (go_at_call 45; refine (sameValue_any _ _ _).mono ?_; rintro e _ ⟨rfl, rfl⟩; rw [hs]) | (go_at_call 49; refine (hcall _ (bx w _ _)).mono ?_; rintro e w1 ⟨rfl, hb1⟩))
  go_ret2
  exact ⟨rfl, thn2 (bx w _ _) hb1⟩

end Go.Proofs.Ytkkekopomiehlaa
