import Derived.Test.YtkkekopomiehlabHFt3
set_option linter.unusedVariables false
set_option linter.unusedSimpArgs false
set_option maxHeartbeats 40000000
set_option maxRecDepth 4000
namespace Go.Proofs.Ytkkekopomiehlab
section
open Go.RowKit
theorem bx (w : World) (o o2 : Obj) : Below w.heap.size w ((w.alloc o).alloc o2):=((Below.refl _ _).alloc (Nat.le_refl _) _).alloc (by simp) _
theorem kp10 {W w1 : World} (hb : Below W.heap.size W w1) {b c : Nat} {v0 v1 v2 v3 v4 u0 u1 u2 u3 u4 : Value} (h : W.cell? ⟨b,0,none⟩ = some v0 /\ W.cell? ⟨b,1,none⟩ = some v1 /\ W.cell? ⟨b,2,none⟩ = some v2 /\ W.cell? ⟨b,3,none⟩ = some v3 /\ W.cell? ⟨b,4,none⟩ = some v4 /\ W.cell? ⟨c,0,none⟩ = some u0 /\ W.cell? ⟨c,1,none⟩ = some u1 /\ W.cell? ⟨c,2,none⟩ = some u2 /\ W.cell? ⟨c,3,none⟩ = some u3 /\ W.cell? ⟨c,4,none⟩ = some u4) :
  w1.cell? ⟨b,0,none⟩ = some v0 /\ w1.cell? ⟨b,1,none⟩ = some v1 /\ w1.cell? ⟨b,2,none⟩ = some v2 /\ w1.cell? ⟨b,3,none⟩ = some v3 /\ w1.cell? ⟨b,4,none⟩ = some v4 /\ w1.cell? ⟨c,0,none⟩ = some u0 /\ w1.cell? ⟨c,1,none⟩ = some u1 /\ w1.cell? ⟨c,2,none⟩ = some u2 /\ w1.cell? ⟨c,3,none⟩ = some u3 /\ w1.cell? ⟨c,4,none⟩ = some u4:=by
 obtain ⟨h0,h1,h2,h3,h4,k0,k1,k2,k3,k4⟩:=h
 exact ⟨zaa hb h0,zaa hb h1,zaa hb h2,zaa hb h3,zaa hb h4,zaa hb k0,zaa hb k1,zaa hb k2,zaa hb k3,zaa hb k4⟩
theorem bx2 (w : World) (x r : Ty) (ai : Option Addr) (li ci : Nat) (af : Option Addr) (lf cf : Nat) (bi : Option Addr) (mi di : Nat) (bf : Option Addr) (mf df : Nat) :
  ((w.alloc (.cells #[.int .i64 x.kind,.string x.letters,.bool x.op,.slice ai li ci,.slice af lf cf] 99)).alloc (.cells #[.int .i64 r.kind,.string r.letters,.bool r.op,.slice bi mi di,.slice bf mf df] 99)).cell? ⟨w.heap.size,0,none⟩ = some (.int .i64 x.kind) /\ ((w.alloc (.cells #[.int .i64 x.kind,.string x.letters,.bool x.op,.slice ai li ci,.slice af lf cf] 99)).alloc (.cells #[.int .i64 r.kind,.string r.letters,.bool r.op,.slice bi mi di,.slice bf mf df] 99)).cell? ⟨w.heap.size,1,none⟩ = some (.string x.letters) /\ ((w.alloc (.cells #[.int .i64 x.kind,.string x.letters,.bool x.op,.slice ai li ci,.slice af lf cf] 99)).alloc (.cells #[.int .i64 r.kind,.string r.letters,.bool r.op,.slice bi mi di,.slice bf mf df] 99)).cell? ⟨w.heap.size,2,none⟩ = some (.bool x.op) /\ ((w.alloc (.cells #[.int .i64 x.kind,.string x.letters,.bool x.op,.slice ai li ci,.slice af lf cf] 99)).alloc (.cells #[.int .i64 r.kind,.string r.letters,.bool r.op,.slice bi mi di,.slice bf mf df] 99)).cell? ⟨w.heap.size,3,none⟩ = some (.slice ai li ci) /\ ((w.alloc (.cells #[.int .i64 x.kind,.string x.letters,.bool x.op,.slice ai li ci,.slice af lf cf] 99)).alloc (.cells #[.int .i64 r.kind,.string r.letters,.bool r.op,.slice bi mi di,.slice bf mf df] 99)).cell? ⟨w.heap.size,4,none⟩ = some (.slice af lf cf) /\ ((w.alloc (.cells #[.int .i64 x.kind,.string x.letters,.bool x.op,.slice ai li ci,.slice af lf cf] 99)).alloc (.cells #[.int .i64 r.kind,.string r.letters,.bool r.op,.slice bi mi di,.slice bf mf df] 99)).cell? ⟨w.heap.size + 1,0,none⟩ = some (.int .i64 r.kind) /\ ((w.alloc (.cells #[.int .i64 x.kind,.string x.letters,.bool x.op,.slice ai li ci,.slice af lf cf] 99)).alloc (.cells #[.int .i64 r.kind,.string r.letters,.bool r.op,.slice bi mi di,.slice bf mf df] 99)).cell? ⟨w.heap.size + 1,1,none⟩ = some (.string r.letters) /\ ((w.alloc (.cells #[.int .i64 x.kind,.string x.letters,.bool x.op,.slice ai li ci,.slice af lf cf] 99)).alloc (.cells #[.int .i64 r.kind,.string r.letters,.bool r.op,.slice bi mi di,.slice bf mf df] 99)).cell? ⟨w.heap.size + 1,2,none⟩ = some (.bool r.op) /\ ((w.alloc (.cells #[.int .i64 x.kind,.string x.letters,.bool x.op,.slice ai li ci,.slice af lf cf] 99)).alloc (.cells #[.int .i64 r.kind,.string r.letters,.bool r.op,.slice bi mi di,.slice bf mf df] 99)).cell? ⟨w.heap.size + 1,3,none⟩ = some (.slice bi mi di) /\ ((w.alloc (.cells #[.int .i64 x.kind,.string x.letters,.bool x.op,.slice ai li ci,.slice af lf cf] 99)).alloc (.cells #[.int .i64 r.kind,.string r.letters,.bool r.op,.slice bi mi di,.slice bf mf df] 99)).cell? ⟨w.heap.size + 1,4,none⟩ = some (.slice bf mf df):=by
 have h : (w.alloc (.cells #[.int .i64 x.kind,.string x.letters,.bool x.op,.slice ai li ci,.slice af lf cf] 99)).heap.size = w.heap.size + 1:=by simp
 refine ⟨zar _ (zau rfl rfl),zar _ (zau rfl rfl),zar _ (zau rfl rfl),zar _ (zau rfl rfl),zar _ (zau rfl rfl),?_⟩
 rw [<- h]
 exact ⟨zau rfl rfl,zau rfl rfl,zau rfl rfl,zau rfl rfl,zau rfl rfl⟩
theorem zpg (x r : Ty) (w : World) (ai : Option Addr) (li ci : Nat) (af : Option Addr) (lf cf : Nat) (bi : Option Addr) (mi di : Nat) (bf : Option Addr) (mf df : Nat) (t : ByteArray) (b : Bool)
  (h1 : ((x.kind : Int) == 63) = true) (h2 : ((r.kind : Int) == 63) = true) (nw nr : Nat) (hin : ∀ W,Below w.heap.size w W -> Calls Try.prog 57 #[.agg #[.int .i64 x.kind,.string x.letters,.bool x.op,.slice ai li ci,.slice af lf cf]] W fun e w' => ∃ p1 p2 p3 p4 p5 p6,e = .returned (.agg #[.int .i64 x.in.kind,.string x.in.letters,.bool x.in.op,.slice p1 p2 p3,.slice p4 p5 p6]) /\ Rep nw w' p1 p2 p3 p4 p5 p6 x.in /\ Below W.heap.size W w') (hin2 : ∀ W,Below w.heap.size w W -> Calls Try.prog 57 #[.agg #[.int .i64 r.kind,.string r.letters,.bool r.op,.slice bi mi di,.slice bf mf df]] W fun e w' => ∃ p1 p2 p3 p4 p5 p6,e = .returned (.agg #[.int .i64 r.in.kind,.string r.in.letters,.bool r.in.op,.slice p1 p2 p3,.slice p4 p5 p6]) /\ Rep nr w' p1 p2 p3 p4 p5 p6 r.in /\ Below W.heap.size W w') (hcall : ∀ (W : World) (p1 : Option Addr) (p2 p3 : Nat) (p4 : Option Addr) (p5 p6 : Nat) (q1 : Option Addr) (q2 q3 : Nat) (q4 : Option Addr) (q5 q6 : Nat),Below w.heap.size w W -> Rep nw W p1 p2 p3 p4 p5 p6 x.in -> Rep nr W q1 q2 q3 q4 q5 q6 r.in -> Calls Try.prog 48 #[.agg #[.int .i64 x.in.kind,.string x.in.letters,.bool x.in.op,.slice p1 p2 p3,.slice p4 p5 p6],.agg #[.int .i64 r.in.kind,.string r.in.letters,.bool r.in.op,.slice q1 q2 q3,.slice q4 q5 q6]] W fun e w' => e = .returned (.tuple #[.string t,.bool b]) /\ Below W.heap.size W w') :
  Calls Try.prog 48 #[.agg #[.int .i64 x.kind,.string x.letters,.bool x.op,.slice ai li ci,.slice af lf cf],.agg #[.int .i64 r.kind,.string r.letters,.bool r.op,.slice bi mi di,.slice bf mf df]] w fun e w' => e = .returned (.tuple #[.string t,.bool b]) /\ Below w.heap.size w w':=by
 have e0:=bx2 w x r ai li ci af lf cf bi mi di bf mf df
 go_enter Try.func48,Try.ntmps48
 go_wp2_with fail
 go_region_held3 (fun w' => w'.cell? ⟨w.heap.size,0,none⟩ = some (.int .i64 x.kind) /\ w'.cell? ⟨w.heap.size,1,none⟩ = some (.string x.letters) /\ w'.cell? ⟨w.heap.size,2,none⟩ = some (.bool x.op) /\ w'.cell? ⟨w.heap.size,3,none⟩ = some (.slice ai li ci) /\ w'.cell? ⟨w.heap.size,4,none⟩ = some (.slice af lf cf) /\ w'.cell? ⟨w.heap.size + 1,0,none⟩ = some (.int .i64 r.kind) /\ w'.cell? ⟨w.heap.size + 1,1,none⟩ = some (.string r.letters) /\ w'.cell? ⟨w.heap.size + 1,2,none⟩ = some (.bool r.op) /\ w'.cell? ⟨w.heap.size + 1,3,none⟩ = some (.slice bi mi di) /\ w'.cell? ⟨w.heap.size + 1,4,none⟩ = some (.slice bf mf df)) (go_keep) (first | (go_at_call 57;have hq:=hb1;refine (hin2 _ (by first | exact thn2 (bx w _ _).drew hb1 | exact thn2 (bx w _ _) hb1)).mono ?_;rintro e w2 ⟨q1,q2,q3,q4,q5,q6,rfl,hr2,hb2⟩;have e2:=kp10 hb2 e1) | (go_at_call 57;refine (hin _ (by first | exact (bx w _ _).drew | exact bx w _ _)).mono ?_;rintro e w1 ⟨p1,p2,p3,p4,p5,p6,rfl,hr1,hb1⟩;have e1:=kp10 hb1 e0) | (go_at_call 48;refine (hcall _ _ _ _ _ _ _ _ _ _ _ _ _ (by first | exact thn2 (thn2 (bx w _ _).drew hb1) hb2 | exact thn2 (thn2 (bx w _ _) hb1) hb2) (hr1.keep hb2) hr2).mono ?_;rintro e w3 ⟨rfl,hb3⟩;have e3:=kp10 hb3 e2))
 go_wp2_with fail
 go_ret2
 exact ⟨rfl,thn2 (thn2 (thn2 (bx w _ _).drew hb1) hb2) hb3⟩
theorem zpm (x r : Ty) (w : World) (ai : Option Addr) (li ci : Nat) (af : Option Addr) (lf cf : Nat) (bi : Option Addr) (mi di : Nat) (bf : Option Addr) (mf df : Nat) (t : ByteArray) (b : Bool)
  (h1 : ((x.kind : Int) == 63) = false) (h2 : ((r.kind : Int) == 63) = true) (nr : Nat) (hin : ∀ W,Below w.heap.size w W -> Calls Try.prog 57 #[.agg #[.int .i64 r.kind,.string r.letters,.bool r.op,.slice bi mi di,.slice bf mf df]] W fun e w' => ∃ p1 p2 p3 p4 p5 p6,e = .returned (.agg #[.int .i64 r.in.kind,.string r.in.letters,.bool r.in.op,.slice p1 p2 p3,.slice p4 p5 p6]) /\ Rep nr w' p1 p2 p3 p4 p5 p6 r.in /\ Below W.heap.size W w') (hcall : ∀ (W : World) (p1 : Option Addr) (p2 p3 : Nat) (p4 : Option Addr) (p5 p6 : Nat),Below w.heap.size w W -> Rep nr W p1 p2 p3 p4 p5 p6 r.in -> Calls Try.prog 48 #[.agg #[.int .i64 x.kind,.string x.letters,.bool x.op,.slice ai li ci,.slice af lf cf],.agg #[.int .i64 r.in.kind,.string r.in.letters,.bool r.in.op,.slice p1 p2 p3,.slice p4 p5 p6]] W fun e w' => e = .returned (.tuple #[.string t,.bool b]) /\ Below W.heap.size W w') :
  Calls Try.prog 48 #[.agg #[.int .i64 x.kind,.string x.letters,.bool x.op,.slice ai li ci,.slice af lf cf],.agg #[.int .i64 r.kind,.string r.letters,.bool r.op,.slice bi mi di,.slice bf mf df]] w fun e w' => e = .returned (.tuple #[.string t,.bool b]) /\ Below w.heap.size w w':=by
 have e0:=bx2 w x r ai li ci af lf cf bi mi di bf mf df
 go_enter Try.func48,Try.ntmps48
 go_wp2_with fail
 go_region_held3 (fun w' => w'.cell? ⟨w.heap.size,0,none⟩ = some (.int .i64 x.kind) /\ w'.cell? ⟨w.heap.size,1,none⟩ = some (.string x.letters) /\ w'.cell? ⟨w.heap.size,2,none⟩ = some (.bool x.op) /\ w'.cell? ⟨w.heap.size,3,none⟩ = some (.slice ai li ci) /\ w'.cell? ⟨w.heap.size,4,none⟩ = some (.slice af lf cf) /\ w'.cell? ⟨w.heap.size + 1,0,none⟩ = some (.int .i64 r.kind) /\ w'.cell? ⟨w.heap.size + 1,1,none⟩ = some (.string r.letters) /\ w'.cell? ⟨w.heap.size + 1,2,none⟩ = some (.bool r.op) /\ w'.cell? ⟨w.heap.size + 1,3,none⟩ = some (.slice bi mi di) /\ w'.cell? ⟨w.heap.size + 1,4,none⟩ = some (.slice bf mf df)) (go_keep) (first | (go_at_call 57;refine (hin _ (by first | exact (bx w _ _).drew | exact bx w _ _)).mono ?_;rintro e w1 ⟨p1,p2,p3,p4,p5,p6,rfl,hr1,hb1⟩;have e1:=kp10 hb1 e0) | (go_at_call 48;refine (hcall _ _ _ _ _ _ _ (by first | exact thn2 (bx w _ _).drew hb1 | exact thn2 (bx w _ _) hb1) hr1).mono ?_;rintro e w2 ⟨rfl,hb2⟩;have e2:=kp10 hb2 e1))
 go_wp2_with fail
 go_ret2
 exact ⟨rfl,thn2 (thn2 (bx w _ _).drew hb1) hb2⟩
theorem zpi (x r : Ty) (w : World) (ai : Option Addr) (li ci : Nat) (af : Option Addr) (lf cf : Nat) (bi : Option Addr) (mi di : Nat) (bf : Option Addr) (mf df : Nat) (t : ByteArray) (b : Bool)
  (h1 : ((x.kind : Int) == 63) = true) (h2 : ((r.kind : Int) == 63) = false) (hs : za3 x.kind r.kind = false) (h3 : ((x.kind : Int) != (r.kind : Int)) = true) (hb : b = true) (hcall : ∀ (W : World) ,Below w.heap.size w W ->  Calls Try.prog 59 #[.agg #[.int .i64 x.kind,.string x.letters,.bool x.op,.slice ai li ci,.slice af lf cf]] W fun e w' => e = .returned (.string t) /\ Below W.heap.size W w') :
  Calls Try.prog 48 #[.agg #[.int .i64 x.kind,.string x.letters,.bool x.op,.slice ai li ci,.slice af lf cf],.agg #[.int .i64 r.kind,.string r.letters,.bool r.op,.slice bi mi di,.slice bf mf df]] w fun e w' => e = .returned (.tuple #[.string t,.bool b]) /\ Below w.heap.size w w':=by
 have e0:=bx2 w x r ai li ci af lf cf bi mi di bf mf df
 go_enter Try.func48,Try.ntmps48
 subst hb
 go_wp2_with (first | (go_at_call 58;refine (zc1 _ _ _).mono ?_;rintro e _ ⟨rfl,rfl⟩;rw [hs]) | (go_at_call 59;refine (hcall _ (bx w _ _)).mono ?_;rintro e w1 ⟨rfl,hb1⟩))
 go_ret2
 exact ⟨rfl,thn2 (bx w _ _) hb1⟩
theorem zpn (x r : Ty) (w : World) (ai : Option Addr) (li ci : Nat) (af : Option Addr) (lf cf : Nat) (bi : Option Addr) (mi di : Nat) (bf : Option Addr) (mf df : Nat) (t : ByteArray) (b : Bool)
  (h1 : ((x.kind : Int) == 63) = false) (h2 : ((r.kind : Int) == 63) = false) (hs : za3 x.kind r.kind = true) (ht : t = ByteArray.empty) (hb : b = false) :
  Calls Try.prog 48 #[.agg #[.int .i64 x.kind,.string x.letters,.bool x.op,.slice ai li ci,.slice af lf cf],.agg #[.int .i64 r.kind,.string r.letters,.bool r.op,.slice bi mi di,.slice bf mf df]] w fun e w' => e = .returned (.tuple #[.string t,.bool b]) /\ Below w.heap.size w w':=by
 have e0:=bx2 w x r ai li ci af lf cf bi mi di bf mf df
 go_enter Try.func48,Try.ntmps48
 subst ht hb
 go_wp2_with (first | (go_at_call 58;refine (zc1 _ _ _).mono ?_;rintro e _ ⟨rfl,rfl⟩;rw [hs]))
 go_ret2
 exact ⟨rfl,bx w _ _⟩
theorem zpj (x r : Ty) (w : World) (ai : Option Addr) (li ci : Nat) (af : Option Addr) (lf cf : Nat) (bi : Option Addr) (mi di : Nat) (bf : Option Addr) (mf df : Nat) (t : ByteArray) (b : Bool)
  (h1 : ((x.kind : Int) == 63) = false) (h2 : ((r.kind : Int) == 63) = false) (hs : za3 x.kind r.kind = false) (h3 : ((x.kind : Int) != (r.kind : Int)) = true) (hb : b = true) (hcall : ∀ (W : World) ,Below w.heap.size w W ->  Calls Try.prog 59 #[.agg #[.int .i64 x.kind,.string x.letters,.bool x.op,.slice ai li ci,.slice af lf cf]] W fun e w' => e = .returned (.string t) /\ Below W.heap.size W w') :
  Calls Try.prog 48 #[.agg #[.int .i64 x.kind,.string x.letters,.bool x.op,.slice ai li ci,.slice af lf cf],.agg #[.int .i64 r.kind,.string r.letters,.bool r.op,.slice bi mi di,.slice bf mf df]] w fun e w' => e = .returned (.tuple #[.string t,.bool b]) /\ Below w.heap.size w w':=by
 have e0:=bx2 w x r ai li ci af lf cf bi mi di bf mf df
 go_enter Try.func48,Try.ntmps48
 subst hb
 go_wp2_with (first | (go_at_call 58;refine (zc1 _ _ _).mono ?_;rintro e _ ⟨rfl,rfl⟩;rw [hs]) | (go_at_call 59;refine (hcall _ (bx w _ _)).mono ?_;rintro e w1 ⟨rfl,hb1⟩))
 go_ret2
 exact ⟨rfl,thn2 (bx w _ _) hb1⟩
theorem zph (x r : Ty) (w : World) (ai : Option Addr) (li ci : Nat) (af : Option Addr) (lf cf : Nat) (bi : Option Addr) (mi di : Nat) (bf : Option Addr) (mf df : Nat) (t : ByteArray) (b : Bool)
  (h1 : ((x.kind : Int) == 63) = false) (h2 : ((r.kind : Int) == 63) = false) (hs : za3 x.kind r.kind = false) (h3 : ((x.kind : Int) != (r.kind : Int)) = false) (k60 : ((x.kind : Int) == 60) = true) (hcall : ∀ (W : World) ,Below w.heap.size w W ->  Calls Try.prog 60 #[.agg #[.int .i64 x.kind,.string x.letters,.bool x.op,.slice ai li ci,.slice af lf cf],.agg #[.int .i64 r.kind,.string r.letters,.bool r.op,.slice bi mi di,.slice bf mf df]] W fun e w' => e = .returned (.tuple #[.string t,.bool b]) /\ Below W.heap.size W w') :
  Calls Try.prog 48 #[.agg #[.int .i64 x.kind,.string x.letters,.bool x.op,.slice ai li ci,.slice af lf cf],.agg #[.int .i64 r.kind,.string r.letters,.bool r.op,.slice bi mi di,.slice bf mf df]] w fun e w' => e = .returned (.tuple #[.string t,.bool b]) /\ Below w.heap.size w w':=by
 have e0:=bx2 w x r ai li ci af lf cf bi mi di bf mf df
 go_enter Try.func48,Try.ntmps48
 go_wp2_with (first | (go_at_call 58;refine (zc1 _ _ _).mono ?_;rintro e _ ⟨rfl,rfl⟩;rw [hs]) | (go_at_call 60;refine (hcall _ (bx w _ _)).mono ?_;rintro e w1 ⟨rfl,hb1⟩))
 go_ret2
 exact ⟨rfl,thn2 (bx w _ _) hb1⟩
theorem zpk (x r : Ty) (w : World) (ai : Option Addr) (li ci : Nat) (af : Option Addr) (lf cf : Nat) (bi : Option Addr) (mi di : Nat) (bf : Option Addr) (mf df : Nat) (t : ByteArray) (b : Bool)
  (h1 : ((x.kind : Int) == 63) = false) (h2 : ((r.kind : Int) == 63) = false) (hs : za3 x.kind r.kind = false) (h3 : ((x.kind : Int) != (r.kind : Int)) = false) (k60 : ((x.kind : Int) == 60) = false) (k91 : ((x.kind : Int) == 91) = true) (nw nr : Nat) (hin : ∀ W,Below w.heap.size w W -> Calls Try.prog 57 #[.agg #[.int .i64 x.kind,.string x.letters,.bool x.op,.slice ai li ci,.slice af lf cf]] W fun e w' => ∃ p1 p2 p3 p4 p5 p6,e = .returned (.agg #[.int .i64 x.in.kind,.string x.in.letters,.bool x.in.op,.slice p1 p2 p3,.slice p4 p5 p6]) /\ Rep nw w' p1 p2 p3 p4 p5 p6 x.in /\ Below W.heap.size W w') (hin2 : ∀ W,Below w.heap.size w W -> Calls Try.prog 57 #[.agg #[.int .i64 r.kind,.string r.letters,.bool r.op,.slice bi mi di,.slice bf mf df]] W fun e w' => ∃ p1 p2 p3 p4 p5 p6,e = .returned (.agg #[.int .i64 r.in.kind,.string r.in.letters,.bool r.in.op,.slice p1 p2 p3,.slice p4 p5 p6]) /\ Rep nr w' p1 p2 p3 p4 p5 p6 r.in /\ Below W.heap.size W w') (hcall : ∀ (W : World) (p1 : Option Addr) (p2 p3 : Nat) (p4 : Option Addr) (p5 p6 : Nat) (q1 : Option Addr) (q2 q3 : Nat) (q4 : Option Addr) (q5 q6 : Nat),Below w.heap.size w W -> Rep nw W p1 p2 p3 p4 p5 p6 x.in -> Rep nr W q1 q2 q3 q4 q5 q6 r.in -> Calls Try.prog 61 #[.agg #[.int .i64 x.in.kind,.string x.in.letters,.bool x.in.op,.slice p1 p2 p3,.slice p4 p5 p6],.agg #[.int .i64 r.in.kind,.string r.in.letters,.bool r.in.op,.slice q1 q2 q3,.slice q4 q5 q6]] W fun e w' => e = .returned (.tuple #[.string t,.bool b]) /\ Below W.heap.size W w') :
  Calls Try.prog 48 #[.agg #[.int .i64 x.kind,.string x.letters,.bool x.op,.slice ai li ci,.slice af lf cf],.agg #[.int .i64 r.kind,.string r.letters,.bool r.op,.slice bi mi di,.slice bf mf df]] w fun e w' => e = .returned (.tuple #[.string t,.bool b]) /\ Below w.heap.size w w':=by
 have e0:=bx2 w x r ai li ci af lf cf bi mi di bf mf df
 go_enter Try.func48,Try.ntmps48
 go_wp2_with (first | (go_at_call 58;refine (zc1 _ _ _).mono ?_;rintro e _ ⟨rfl,rfl⟩;rw [hs]))
 go_region_held3 (fun w' => w'.cell? ⟨w.heap.size,0,none⟩ = some (.int .i64 x.kind) /\ w'.cell? ⟨w.heap.size,1,none⟩ = some (.string x.letters) /\ w'.cell? ⟨w.heap.size,2,none⟩ = some (.bool x.op) /\ w'.cell? ⟨w.heap.size,3,none⟩ = some (.slice ai li ci) /\ w'.cell? ⟨w.heap.size,4,none⟩ = some (.slice af lf cf) /\ w'.cell? ⟨w.heap.size + 1,0,none⟩ = some (.int .i64 r.kind) /\ w'.cell? ⟨w.heap.size + 1,1,none⟩ = some (.string r.letters) /\ w'.cell? ⟨w.heap.size + 1,2,none⟩ = some (.bool r.op) /\ w'.cell? ⟨w.heap.size + 1,3,none⟩ = some (.slice bi mi di) /\ w'.cell? ⟨w.heap.size + 1,4,none⟩ = some (.slice bf mf df)) (go_keep) (first | (go_at_call 57;have hq:=hb1;refine (hin2 _ (by first | exact thn2 (bx w _ _).drew hb1 | exact thn2 (bx w _ _) hb1)).mono ?_;rintro e w2 ⟨q1,q2,q3,q4,q5,q6,rfl,hr2,hb2⟩;have e2:=kp10 hb2 e1) | (go_at_call 57;refine (hin _ (by first | exact (bx w _ _).drew | exact bx w _ _)).mono ?_;rintro e w1 ⟨p1,p2,p3,p4,p5,p6,rfl,hr1,hb1⟩;have e1:=kp10 hb1 e0) | (go_at_call 61;refine (hcall _ _ _ _ _ _ _ _ _ _ _ _ _ (by first | exact thn2 (thn2 (bx w _ _).drew hb1) hb2 | exact thn2 (thn2 (bx w _ _) hb1) hb2) (hr1.keep hb2) hr2).mono ?_;rintro e w3 ⟨rfl,hb3⟩;have e3:=kp10 hb3 e2))
 go_wp2_with fail
 go_ret2
 exact ⟨rfl,thn2 (thn2 (thn2 (bx w _ _).drew hb1) hb2) hb3⟩
theorem zpl (x r : Ty) (w : World) (ai : Option Addr) (li ci : Nat) (af : Option Addr) (lf cf : Nat) (bi : Option Addr) (mi di : Nat) (bf : Option Addr) (mf df : Nat) (t : ByteArray) (b : Bool)
  (h1 : ((x.kind : Int) == 63) = false) (h2 : ((r.kind : Int) == 63) = false) (hs : za3 x.kind r.kind = false) (h3 : ((x.kind : Int) != (r.kind : Int)) = false) (k60 : ((x.kind : Int) == 60) = false) (k91 : ((x.kind : Int) == 91) = false) (k123 : ((x.kind : Int) == 123) = true) (hcall : ∀ (W : World) ,Below w.heap.size w W ->  Calls Try.prog 62 #[.slice af lf cf,.slice bf mf df] W fun e w' => e = .returned (.tuple #[.string t,.bool b]) /\ Below W.heap.size W w') :
  Calls Try.prog 48 #[.agg #[.int .i64 x.kind,.string x.letters,.bool x.op,.slice ai li ci,.slice af lf cf],.agg #[.int .i64 r.kind,.string r.letters,.bool r.op,.slice bi mi di,.slice bf mf df]] w fun e w' => e = .returned (.tuple #[.string t,.bool b]) /\ Below w.heap.size w w':=by
 have e0:=bx2 w x r ai li ci af lf cf bi mi di bf mf df
 go_enter Try.func48,Try.ntmps48
 go_wp2_with (first | (go_at_call 58;refine (zc1 _ _ _).mono ?_;rintro e _ ⟨rfl,rfl⟩;rw [hs]) | (go_at_call 62;refine (hcall _ (bx w _ _)).mono ?_;rintro e w1 ⟨rfl,hb1⟩))
 go_ret2
 exact ⟨rfl,thn2 (bx w _ _) hb1⟩
end
section
open Go.RowKit
def tyG : Nat -> Ty -> Prop
 | 0,_ => True
 | n + 1,ty => (ty.kind = 60 -> ∀ i,i < ty.letters.size -> isL (bAt ty.letters i) = true /\ ∀ j,j < i -> bAt ty.letters j ≠ bAt ty.letters i) /\ (ty.kind = 63 -> ty.in.kind ≠ 63) /\ (ty.kind = 91 \/ ty.kind = 63 -> tyG n ty.in) /\ ∀ f ∈ ty.fields,f.1 < 256 /\ tyG n f.2.1
end
section
open Go.RowKit
end
section
open Go.RowKit
end
section
open Go.RowKit
end
section
open Go.RowKit
end
section
open Go.RowKit
end
section
open Go.RowKit
end
section
open Go.RowKit
theorem zgf {s : ByteArray} {n i k : Nat} {ty : Ty} (h : zaf true s n i = some (ty,k)) : bAt s i = ty.kind /\ ∃ n',n = n' + 1 /\
  (ty.kind = 60 -> zby s (i + 1) = some (ty,k)) /\ (ty.kind = 91 \/ ty.kind = 63 -> ∃ k',zaf true s n' (i + 1) = some (ty.in,k')) /\ (ty.kind = 63 -> ty.in.kind ≠ 63) /\
  (ty.kind = 123 -> ∃ k',zat (zal (zaf true s n') (enc true s n') s) s (s.size - (i + 1)) (i + 1) [] = some (ty.fields,k')) /\ (ty.kind = 105 \/ ty.kind = 108 \/ ty.kind = 115 \/ ty.kind = 60 \/ ty.kind = 91 \/ ty.kind = 63 \/ ty.kind = 123):=by
 cases n with
 | zero => simp [zaf] at h
 | succ n =>
  have his : i < s.size:=by have:=zbt true s _ _ _ _ h;omega
  rw [zaf] at h
  split at h
  ·rename_i hb;cases h;exact ⟨hb,n,rfl,(fun h => by cases h),(fun h => by rcases h with h | h <;> cases h),(fun h => by cases h),(fun h => by cases h),.inl rfl⟩
  ·split at h
   ·rename_i hb;cases h;exact ⟨hb,n,rfl,(fun h => by cases h),(fun h => by rcases h with h | h <;> cases h),(fun h => by cases h),(fun h => by cases h),.inr (.inl rfl)⟩
   ·split at h
    ·rename_i hb;cases h;exact ⟨hb,n,rfl,(fun h => by cases h),(fun h => by rcases h with h | h <;> cases h),(fun h => by cases h),(fun h => by cases h),.inr (.inr (.inl rfl))⟩
    ·split at h
     ·rename_i hb
      rw [zfz s (i + 1) (by omega)] at h
      have hk:=(zi0 h).1
      rw [hb,hk]
      exact ⟨rfl,n,rfl,fun _ => h,(fun h => by omega),(fun h => by omega),(fun h => by omega),by omega⟩
     ·split at h
      ·rename_i hb
       unfold zbe at h
       split at h
       ·cases h
       ·rename_i t k' ht
        split at h
        ·cases h
         exact ⟨hb,n,rfl,(fun h => by cases h),fun _ => ⟨k',ht⟩,(fun h => by cases h),(fun h => by cases h),.inr (.inr (.inr (.inr (.inl rfl))))⟩
        ·cases h
      ·split at h
       ·rename_i hb
        unfold zbf at h
        split at h
        ·cases h
        ·rename_i t k' ht
         split at h
         ·cases h
         ·rename_i hne
          cases h
          exact ⟨hb,n,rfl,(fun h => by cases h),fun _ => ⟨_,ht⟩,fun _ => hne,(fun h => by cases h),.inr (.inr (.inr (.inr (.inr (.inl rfl)))))⟩
       ·split at h
        ·rename_i hb
         unfold pRec at h
         split at h
         ·cases h
         ·rename_i fs k' hfs
          cases h
          exact ⟨hb,n,rfl,(fun h => by cases h),(fun h => by rcases h with h | h <;> cases h),(fun h => by cases h),fun _ => ⟨_,hfs⟩,.inr (.inr (.inr (.inr (.inr (.inr rfl)))))⟩
        ·cases h
theorem zi1 {s : ByteArray} {a k : Nat} {ty : Ty} (ha : a <= s.size) (h : zby s a = some (ty,k)) : ty.letters = s.extract a (zao isL s (s.size - a) a) /\ zao isL s (s.size - a) a = a + ty.letters.size /\ 1 <= ty.letters.size /\ ty.letters.size <= 8 /\ ty.op = (bAt s (a + ty.letters.size) == 43):=by
 obtain ⟨_,h2,h3⟩:=zi0 h
 have hle:=zcb isL s (s.size - a) a
 have hsz : ty.letters.size = zao isL s (s.size - a) a - a:=by rw [h2,ByteArray.size_extract];omega
 unfold zby at h
 simp only at h
 generalize hE : zao isL s (s.size - a) a = E at h hle hsz h2
 split at h
 ·cases h
 ·rename_i hc
  have he : E = a + ty.letters.size:=by omega
  refine ⟨h2,he,by omega,h3,?_⟩
  rw [<- he]
  split at h
  ·rename_i h43
   split at h
   ·simp only [Option.some.injEq,Prod.mk.injEq] at h;rw [<- h.1,h43];rfl
   ·cases h
  ·rename_i h43
   split at h
   ·simp only [Option.some.injEq,Prod.mk.injEq] at h;rw [<- h.1];simp [h43]
   ·cases h
end
section
open Go.RowKit
def tyN : Nat -> Ty -> Prop
 | 0,_ => True
 | n + 1,ty => (ty.fields.map (·.1)).Nodup /\ (ty.kind = 91 \/ ty.kind = 63 -> tyN n ty.in) /\ ∀ f ∈ ty.fields,tyN n f.2.1
theorem zf1 {pf : Nat -> Option ((Nat × Ty × ByteArray) × Nat)} {s : ByteArray} {Q : (Nat × Ty × ByteArray) -> Prop} (hp : ∀ i f k,pf i = some (f,k) -> Q f) :
  ∀ (m a : Nat) (acc fs : List (Nat × Ty × ByteArray)) (k : Nat),zat pf s m a acc = some (fs,k) -> (∀ f ∈ acc,Q f) -> (acc.map (·.1)).Nodup -> (∀ f ∈ fs,Q f) /\ (fs.map (·.1)).Nodup
 | 0,a,acc,fs,k,h,_,_ => by simp [zat] at h
 | m + 1,a,acc,fs,k,h,hq,hn => by
  rw [zat] at h
  split at h
  ·cases h
  ·rename_i f k' hf
   split at h
   ·cases h
   ·rename_i hany
    have hq' : ∀ g ∈ acc ++ [f],Q g:=fun g hg => by
     rcases List.mem_append.1 hg with hg | hg
     ·exact hq g hg
     ·rw [List.mem_singleton.1 hg];exact hp _ _ _ hf
    have hn' : ((acc ++ [f]).map (·.1)).Nodup:=by
     rw [List.map_append,List.nodup_append]
     refine ⟨hn,by simp,fun a ha b hb => ?_⟩
     obtain ⟨g,hg,rfl⟩:=List.mem_map.1 ha
     simp at hb
     subst hb
     intro he
     apply hany
     rw [List.any_eq_true]
     exact ⟨g,hg,by simp [he]⟩
    split at h
    ·cases h;exact ⟨hq',hn'⟩
    ·split at h
     ·exact zf1 hp m _ _ _ _ h hq' hn'
     ·cases h
theorem zjw {s : ByteArray} : ∀ (n i : Nat) (ty : Ty) (k : Nat),zaf true s n i = some (ty,k) -> tyG n ty /\ tyN n ty
 | 0,i,ty,k,h => by simp [zaf] at h
 | n + 1,i,ty,k,h => by
  have ih:=zjw (s:=s) n
  have his : i < s.size:=by have:=zbt true s _ _ _ _ h;omega
  obtain ⟨_,n',hn,h60,hin,hne,h123,hk⟩:=zgf h
  obtain rfl : n' = n:=by omega
  have hfs : (∀ f ∈ ty.fields,f.1 < 256 /\ tyG n' f.2.1 /\ tyN n' f.2.1) /\ (ty.fields.map (·.1)).Nodup:=by
   by_cases h3 : ty.kind = 123
   ·obtain ⟨k',hk'⟩:=h123 h3
    exact zf1 (Q:=fun f => f.1 < 256 /\ tyG n' f.2.1 /\ tyN n' f.2.1) (fun i f k hf => by
     have h256:=zh9 hf
     unfold zal at hf
     split at hf
     ·split at hf
      ·cases hf
      ·rename_i t k' ht
       have h1:=ih _ _ _ ht
       split at hf
       ·split at hf
        ·cases hf
        ·cases hf;exact ⟨h256,h1.1,h1.2⟩
       ·cases hf;exact ⟨h256,h1.1,h1.2⟩
     ·cases hf) _ _ _ _ _ hk' (fun f hf => absurd hf List.not_mem_nil) (by simp)
   ·have : ty.fields = []:=by
     rw [zaf] at h
     split at h
     ·cases h;rfl
     ·split at h
      ·cases h;rfl
      ·split at h
       ·cases h;rfl
       ·split at h
        ·rw [zfz s (i + 1) (by omega)] at h
         unfold zby at h
         simp only at h
         split at h
         ·cases h
         ·split at h
          iterate 2
           ·split at h
            ·cases h;rfl
            ·cases h
        ·split at h
         ·unfold zbe at h
          split at h
          ·cases h
          ·split at h
           ·cases h;rfl
           ·cases h
         ·split at h
          ·unfold zbf at h
           split at h
           ·cases h
           ·split at h
            ·cases h
            ·cases h;rfl
          ·split at h
           ·unfold pRec at h
            split at h
            ·cases h
            ·cases h;exact absurd rfl h3
           ·cases h
    rw [this]
    exact ⟨fun f hf => absurd hf List.not_mem_nil,by simp⟩
  have hinn : ty.kind = 91 \/ ty.kind = 63 -> tyG n' ty.in /\ tyN n' ty.in:=fun h => by
   obtain ⟨k',hk'⟩:=hin h
   exact ih _ _ _ hk'
  refine ⟨⟨fun h6 j hj => ?_,hne,fun h => (hinn h).1,fun f hf => ⟨(hfs.1 f hf).1,(hfs.1 f hf).2.1⟩⟩,hfs.2,fun h => (hinn h).2,fun f hf => (hfs.1 f hf).2.2⟩
  have hr:=h60 h6
  obtain ⟨l1,l2,l3,l4,l5⟩:=zi1 (by omega) hr
  have hle:=zcb isL s (s.size - (i + 1)) (i + 1)
  have hb : ∀ q,q < ty.letters.size -> bAt ty.letters q = bAt s (i + 1 + q):=fun q hq => by
   rw [l1,zcf s (i + 1) _ q (by omega) (by omega)]
  constructor
  ·rw [hb j hj]
   exact zes isL s (s.size - (i + 1)) (i + 1) (i + 1 + j) (by omega) (by omega)
  ·intro q hq he
   unfold zby at hr
   simp only at hr
   split at hr
   ·cases hr
   ·rename_i hc
    apply hc
    refine .inr (.inr ?_)
    rw [<- l1]
    exact zjt hq hj he.symm
end
end Go.Proofs.Ytkkekopomiehlab
