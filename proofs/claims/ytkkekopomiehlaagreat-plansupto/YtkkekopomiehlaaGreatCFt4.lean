import Derived.Test.YtkkekopomiehlaaGreatCFt3
set_option linter.unusedVariables false
set_option linter.unusedSimpArgs false
set_option maxHeartbeats 40000000
set_option maxRecDepth 4000
namespace Go.Proofs.YtkkekopomiehlaaGreat
section
open Go.RowKit
theorem bx (w : World) (o o2 : Obj) : Below w.heap.size w ((w.alloc o).alloc o2):=((Below.refl _ _).alloc (Nat.le_refl _) _).alloc (by simp) _
theorem kp10 {W w1 : World} (hb : Below W.heap.size W w1) {b c : Nat} {v0 v1 v2 v3 v4 u0 u1 u2 u3 u4 : Value} (h : W.cell? ⟨b,0,none⟩ = some v0 /\ W.cell? ⟨b,1,none⟩ = some v1 /\ W.cell? ⟨b,2,none⟩ = some v2 /\ W.cell? ⟨b,3,none⟩ = some v3 /\ W.cell? ⟨b,4,none⟩ = some v4 /\ W.cell? ⟨c,0,none⟩ = some u0 /\ W.cell? ⟨c,1,none⟩ = some u1 /\ W.cell? ⟨c,2,none⟩ = some u2 /\ W.cell? ⟨c,3,none⟩ = some u3 /\ W.cell? ⟨c,4,none⟩ = some u4) :
  w1.cell? ⟨b,0,none⟩ = some v0 /\ w1.cell? ⟨b,1,none⟩ = some v1 /\ w1.cell? ⟨b,2,none⟩ = some v2 /\ w1.cell? ⟨b,3,none⟩ = some v3 /\ w1.cell? ⟨b,4,none⟩ = some v4 /\ w1.cell? ⟨c,0,none⟩ = some u0 /\ w1.cell? ⟨c,1,none⟩ = some u1 /\ w1.cell? ⟨c,2,none⟩ = some u2 /\ w1.cell? ⟨c,3,none⟩ = some u3 /\ w1.cell? ⟨c,4,none⟩ = some u4:=by
 obtain ⟨h0,h1,h2,h3,h4,k0,k1,k2,k3,k4⟩:=h
 exact ⟨zaa hb h0,zaa hb h1,zaa hb h2,zaa hb h3,zaa hb h4,zaa hb k0,zaa hb k1,zaa hb k2,zaa hb k3,zaa hb k4⟩
theorem bx2 (w : World) (x r : Ty) (ai : Option Addr) (li ci : Nat) (af : Option Addr) (lf cf : Nat) (bi : Option Addr) (mi di : Nat) (bf : Option Addr) (mf df : Nat) :
  ((w.alloc (.cells #[.int .i64 x.kind,.string x.letters,.bool x.op,.slice ai li ci,.slice af lf cf] 135)).alloc (.cells #[.int .i64 r.kind,.string r.letters,.bool r.op,.slice bi mi di,.slice bf mf df] 135)).cell? ⟨w.heap.size,0,none⟩ = some (.int .i64 x.kind) /\ ((w.alloc (.cells #[.int .i64 x.kind,.string x.letters,.bool x.op,.slice ai li ci,.slice af lf cf] 135)).alloc (.cells #[.int .i64 r.kind,.string r.letters,.bool r.op,.slice bi mi di,.slice bf mf df] 135)).cell? ⟨w.heap.size,1,none⟩ = some (.string x.letters) /\ ((w.alloc (.cells #[.int .i64 x.kind,.string x.letters,.bool x.op,.slice ai li ci,.slice af lf cf] 135)).alloc (.cells #[.int .i64 r.kind,.string r.letters,.bool r.op,.slice bi mi di,.slice bf mf df] 135)).cell? ⟨w.heap.size,2,none⟩ = some (.bool x.op) /\ ((w.alloc (.cells #[.int .i64 x.kind,.string x.letters,.bool x.op,.slice ai li ci,.slice af lf cf] 135)).alloc (.cells #[.int .i64 r.kind,.string r.letters,.bool r.op,.slice bi mi di,.slice bf mf df] 135)).cell? ⟨w.heap.size,3,none⟩ = some (.slice ai li ci) /\ ((w.alloc (.cells #[.int .i64 x.kind,.string x.letters,.bool x.op,.slice ai li ci,.slice af lf cf] 135)).alloc (.cells #[.int .i64 r.kind,.string r.letters,.bool r.op,.slice bi mi di,.slice bf mf df] 135)).cell? ⟨w.heap.size,4,none⟩ = some (.slice af lf cf) /\ ((w.alloc (.cells #[.int .i64 x.kind,.string x.letters,.bool x.op,.slice ai li ci,.slice af lf cf] 135)).alloc (.cells #[.int .i64 r.kind,.string r.letters,.bool r.op,.slice bi mi di,.slice bf mf df] 135)).cell? ⟨w.heap.size + 1,0,none⟩ = some (.int .i64 r.kind) /\ ((w.alloc (.cells #[.int .i64 x.kind,.string x.letters,.bool x.op,.slice ai li ci,.slice af lf cf] 135)).alloc (.cells #[.int .i64 r.kind,.string r.letters,.bool r.op,.slice bi mi di,.slice bf mf df] 135)).cell? ⟨w.heap.size + 1,1,none⟩ = some (.string r.letters) /\ ((w.alloc (.cells #[.int .i64 x.kind,.string x.letters,.bool x.op,.slice ai li ci,.slice af lf cf] 135)).alloc (.cells #[.int .i64 r.kind,.string r.letters,.bool r.op,.slice bi mi di,.slice bf mf df] 135)).cell? ⟨w.heap.size + 1,2,none⟩ = some (.bool r.op) /\ ((w.alloc (.cells #[.int .i64 x.kind,.string x.letters,.bool x.op,.slice ai li ci,.slice af lf cf] 135)).alloc (.cells #[.int .i64 r.kind,.string r.letters,.bool r.op,.slice bi mi di,.slice bf mf df] 135)).cell? ⟨w.heap.size + 1,3,none⟩ = some (.slice bi mi di) /\ ((w.alloc (.cells #[.int .i64 x.kind,.string x.letters,.bool x.op,.slice ai li ci,.slice af lf cf] 135)).alloc (.cells #[.int .i64 r.kind,.string r.letters,.bool r.op,.slice bi mi di,.slice bf mf df] 135)).cell? ⟨w.heap.size + 1,4,none⟩ = some (.slice bf mf df):=by
 have h : (w.alloc (.cells #[.int .i64 x.kind,.string x.letters,.bool x.op,.slice ai li ci,.slice af lf cf] 135)).heap.size = w.heap.size + 1:=by simp
 refine ⟨zaw _ (za5 rfl rfl),zaw _ (za5 rfl rfl),zaw _ (za5 rfl rfl),zaw _ (za5 rfl rfl),zaw _ (za5 rfl rfl),?_⟩
 rw [<- h]
 exact ⟨za5 rfl rfl,za5 rfl rfl,za5 rfl rfl,za5 rfl rfl,za5 rfl rfl⟩
theorem yaao (x r : Ty) (w : World) (ai : Option Addr) (li ci : Nat) (af : Option Addr) (lf cf : Nat) (bi : Option Addr) (mi di : Nat) (bf : Option Addr) (mf df : Nat) (t : ByteArray) (b : Bool)
  (h1 : ((x.kind : Int) == 63) = true) (h2 : ((r.kind : Int) == 63) = true) (nw nr : Nat) (hin : ∀ W,Below w.heap.size w W -> Calls Tryz.prog 84 #[.agg #[.int .i64 x.kind,.string x.letters,.bool x.op,.slice ai li ci,.slice af lf cf]] W fun e w' => ∃ p1 p2 p3 p4 p5 p6,e = .returned (.agg #[.int .i64 x.in.kind,.string x.in.letters,.bool x.in.op,.slice p1 p2 p3,.slice p4 p5 p6]) /\ Rep nw w' p1 p2 p3 p4 p5 p6 x.in /\ Below W.heap.size W w') (hin2 : ∀ W,Below w.heap.size w W -> Calls Tryz.prog 84 #[.agg #[.int .i64 r.kind,.string r.letters,.bool r.op,.slice bi mi di,.slice bf mf df]] W fun e w' => ∃ p1 p2 p3 p4 p5 p6,e = .returned (.agg #[.int .i64 r.in.kind,.string r.in.letters,.bool r.in.op,.slice p1 p2 p3,.slice p4 p5 p6]) /\ Rep nr w' p1 p2 p3 p4 p5 p6 r.in /\ Below W.heap.size W w') (hcall : ∀ (W : World) (p1 : Option Addr) (p2 p3 : Nat) (p4 : Option Addr) (p5 p6 : Nat) (q1 : Option Addr) (q2 q3 : Nat) (q4 : Option Addr) (q5 q6 : Nat),Below w.heap.size w W -> Rep nw W p1 p2 p3 p4 p5 p6 x.in -> Rep nr W q1 q2 q3 q4 q5 q6 r.in -> Calls Tryz.prog 70 #[.agg #[.int .i64 x.in.kind,.string x.in.letters,.bool x.in.op,.slice p1 p2 p3,.slice p4 p5 p6],.agg #[.int .i64 r.in.kind,.string r.in.letters,.bool r.in.op,.slice q1 q2 q3,.slice q4 q5 q6]] W fun e w' => e = .returned (.tuple #[.string t,.bool b]) /\ Below W.heap.size W w') :
  Calls Tryz.prog 70 #[.agg #[.int .i64 x.kind,.string x.letters,.bool x.op,.slice ai li ci,.slice af lf cf],.agg #[.int .i64 r.kind,.string r.letters,.bool r.op,.slice bi mi di,.slice bf mf df]] w fun e w' => e = .returned (.tuple #[.string t,.bool b]) /\ Below w.heap.size w w':=by
 have e0:=bx2 w x r ai li ci af lf cf bi mi di bf mf df
 go_enter Tryz.func70,Tryz.ntmps70
 go_wp2_with fail
 go_region_held3 (fun w' => w'.cell? ⟨w.heap.size,0,none⟩ = some (.int .i64 x.kind) /\ w'.cell? ⟨w.heap.size,1,none⟩ = some (.string x.letters) /\ w'.cell? ⟨w.heap.size,2,none⟩ = some (.bool x.op) /\ w'.cell? ⟨w.heap.size,3,none⟩ = some (.slice ai li ci) /\ w'.cell? ⟨w.heap.size,4,none⟩ = some (.slice af lf cf) /\ w'.cell? ⟨w.heap.size + 1,0,none⟩ = some (.int .i64 r.kind) /\ w'.cell? ⟨w.heap.size + 1,1,none⟩ = some (.string r.letters) /\ w'.cell? ⟨w.heap.size + 1,2,none⟩ = some (.bool r.op) /\ w'.cell? ⟨w.heap.size + 1,3,none⟩ = some (.slice bi mi di) /\ w'.cell? ⟨w.heap.size + 1,4,none⟩ = some (.slice bf mf df)) (go_keep) (first | (go_at_call 84;have hq:=hb1;refine (hin2 _ (by first | exact thn2 (bx w _ _).drew hb1 | exact thn2 (bx w _ _) hb1)).mono ?_;rintro e w2 ⟨q1,q2,q3,q4,q5,q6,rfl,hr2,hb2⟩;have e2:=kp10 hb2 e1) | (go_at_call 84;refine (hin _ (by first | exact (bx w _ _).drew | exact bx w _ _)).mono ?_;rintro e w1 ⟨p1,p2,p3,p4,p5,p6,rfl,hr1,hb1⟩;have e1:=kp10 hb1 e0) | (go_at_call 70;refine (hcall _ _ _ _ _ _ _ _ _ _ _ _ _ (by first | exact thn2 (thn2 (bx w _ _).drew hb1) hb2 | exact thn2 (thn2 (bx w _ _) hb1) hb2) (hr1.keep hb2) hr2).mono ?_;rintro e w3 ⟨rfl,hb3⟩;have e3:=kp10 hb3 e2))
 go_wp2_with fail
 go_ret2
 exact ⟨rfl,thn2 (thn2 (thn2 (bx w _ _).drew hb1) hb2) hb3⟩
theorem yaau (x r : Ty) (w : World) (ai : Option Addr) (li ci : Nat) (af : Option Addr) (lf cf : Nat) (bi : Option Addr) (mi di : Nat) (bf : Option Addr) (mf df : Nat) (t : ByteArray) (b : Bool)
  (h1 : ((x.kind : Int) == 63) = false) (h2 : ((r.kind : Int) == 63) = true) (nr : Nat) (hin : ∀ W,Below w.heap.size w W -> Calls Tryz.prog 84 #[.agg #[.int .i64 r.kind,.string r.letters,.bool r.op,.slice bi mi di,.slice bf mf df]] W fun e w' => ∃ p1 p2 p3 p4 p5 p6,e = .returned (.agg #[.int .i64 r.in.kind,.string r.in.letters,.bool r.in.op,.slice p1 p2 p3,.slice p4 p5 p6]) /\ Rep nr w' p1 p2 p3 p4 p5 p6 r.in /\ Below W.heap.size W w') (hcall : ∀ (W : World) (p1 : Option Addr) (p2 p3 : Nat) (p4 : Option Addr) (p5 p6 : Nat),Below w.heap.size w W -> Rep nr W p1 p2 p3 p4 p5 p6 r.in -> Calls Tryz.prog 70 #[.agg #[.int .i64 x.kind,.string x.letters,.bool x.op,.slice ai li ci,.slice af lf cf],.agg #[.int .i64 r.in.kind,.string r.in.letters,.bool r.in.op,.slice p1 p2 p3,.slice p4 p5 p6]] W fun e w' => e = .returned (.tuple #[.string t,.bool b]) /\ Below W.heap.size W w') :
  Calls Tryz.prog 70 #[.agg #[.int .i64 x.kind,.string x.letters,.bool x.op,.slice ai li ci,.slice af lf cf],.agg #[.int .i64 r.kind,.string r.letters,.bool r.op,.slice bi mi di,.slice bf mf df]] w fun e w' => e = .returned (.tuple #[.string t,.bool b]) /\ Below w.heap.size w w':=by
 have e0:=bx2 w x r ai li ci af lf cf bi mi di bf mf df
 go_enter Tryz.func70,Tryz.ntmps70
 go_wp2_with fail
 go_region_held3 (fun w' => w'.cell? ⟨w.heap.size,0,none⟩ = some (.int .i64 x.kind) /\ w'.cell? ⟨w.heap.size,1,none⟩ = some (.string x.letters) /\ w'.cell? ⟨w.heap.size,2,none⟩ = some (.bool x.op) /\ w'.cell? ⟨w.heap.size,3,none⟩ = some (.slice ai li ci) /\ w'.cell? ⟨w.heap.size,4,none⟩ = some (.slice af lf cf) /\ w'.cell? ⟨w.heap.size + 1,0,none⟩ = some (.int .i64 r.kind) /\ w'.cell? ⟨w.heap.size + 1,1,none⟩ = some (.string r.letters) /\ w'.cell? ⟨w.heap.size + 1,2,none⟩ = some (.bool r.op) /\ w'.cell? ⟨w.heap.size + 1,3,none⟩ = some (.slice bi mi di) /\ w'.cell? ⟨w.heap.size + 1,4,none⟩ = some (.slice bf mf df)) (go_keep) (first | (go_at_call 84;refine (hin _ (by first | exact (bx w _ _).drew | exact bx w _ _)).mono ?_;rintro e w1 ⟨p1,p2,p3,p4,p5,p6,rfl,hr1,hb1⟩;have e1:=kp10 hb1 e0) | (go_at_call 70;refine (hcall _ _ _ _ _ _ _ (by first | exact thn2 (bx w _ _).drew hb1 | exact thn2 (bx w _ _) hb1) hr1).mono ?_;rintro e w2 ⟨rfl,hb2⟩;have e2:=kp10 hb2 e1))
 go_wp2_with fail
 go_ret2
 exact ⟨rfl,thn2 (thn2 (bx w _ _).drew hb1) hb2⟩
theorem yaaq (x r : Ty) (w : World) (ai : Option Addr) (li ci : Nat) (af : Option Addr) (lf cf : Nat) (bi : Option Addr) (mi di : Nat) (bf : Option Addr) (mf df : Nat) (t : ByteArray) (b : Bool)
  (h1 : ((x.kind : Int) == 63) = true) (h2 : ((r.kind : Int) == 63) = false) (hs : zba x.kind r.kind = false) (h3 : ((x.kind : Int) != (r.kind : Int)) = true) (hb : b = true) (hcall : ∀ (W : World) ,Below w.heap.size w W ->  Calls Tryz.prog 86 #[.agg #[.int .i64 x.kind,.string x.letters,.bool x.op,.slice ai li ci,.slice af lf cf]] W fun e w' => e = .returned (.string t) /\ Below W.heap.size W w') :
  Calls Tryz.prog 70 #[.agg #[.int .i64 x.kind,.string x.letters,.bool x.op,.slice ai li ci,.slice af lf cf],.agg #[.int .i64 r.kind,.string r.letters,.bool r.op,.slice bi mi di,.slice bf mf df]] w fun e w' => e = .returned (.tuple #[.string t,.bool b]) /\ Below w.heap.size w w':=by
 have e0:=bx2 w x r ai li ci af lf cf bi mi di bf mf df
 go_enter Tryz.func70,Tryz.ntmps70
 subst hb
 go_wp2_with (first | (go_at_call 85;refine (zft _ _ _).mono ?_;rintro e _ ⟨rfl,rfl⟩;rw [hs]) | (go_at_call 86;refine (hcall _ (bx w _ _)).mono ?_;rintro e w1 ⟨rfl,hb1⟩))
 go_ret2
 exact ⟨rfl,thn2 (bx w _ _) hb1⟩
theorem yaav (x r : Ty) (w : World) (ai : Option Addr) (li ci : Nat) (af : Option Addr) (lf cf : Nat) (bi : Option Addr) (mi di : Nat) (bf : Option Addr) (mf df : Nat) (t : ByteArray) (b : Bool)
  (h1 : ((x.kind : Int) == 63) = false) (h2 : ((r.kind : Int) == 63) = false) (hs : zba x.kind r.kind = true) (ht : t = ByteArray.empty) (hb : b = false) :
  Calls Tryz.prog 70 #[.agg #[.int .i64 x.kind,.string x.letters,.bool x.op,.slice ai li ci,.slice af lf cf],.agg #[.int .i64 r.kind,.string r.letters,.bool r.op,.slice bi mi di,.slice bf mf df]] w fun e w' => e = .returned (.tuple #[.string t,.bool b]) /\ Below w.heap.size w w':=by
 have e0:=bx2 w x r ai li ci af lf cf bi mi di bf mf df
 go_enter Tryz.func70,Tryz.ntmps70
 subst ht hb
 go_wp2_with (first | (go_at_call 85;refine (zft _ _ _).mono ?_;rintro e _ ⟨rfl,rfl⟩;rw [hs]))
 go_ret2
 exact ⟨rfl,bx w _ _⟩
theorem yaar (x r : Ty) (w : World) (ai : Option Addr) (li ci : Nat) (af : Option Addr) (lf cf : Nat) (bi : Option Addr) (mi di : Nat) (bf : Option Addr) (mf df : Nat) (t : ByteArray) (b : Bool)
  (h1 : ((x.kind : Int) == 63) = false) (h2 : ((r.kind : Int) == 63) = false) (hs : zba x.kind r.kind = false) (h3 : ((x.kind : Int) != (r.kind : Int)) = true) (hb : b = true) (hcall : ∀ (W : World) ,Below w.heap.size w W ->  Calls Tryz.prog 86 #[.agg #[.int .i64 x.kind,.string x.letters,.bool x.op,.slice ai li ci,.slice af lf cf]] W fun e w' => e = .returned (.string t) /\ Below W.heap.size W w') :
  Calls Tryz.prog 70 #[.agg #[.int .i64 x.kind,.string x.letters,.bool x.op,.slice ai li ci,.slice af lf cf],.agg #[.int .i64 r.kind,.string r.letters,.bool r.op,.slice bi mi di,.slice bf mf df]] w fun e w' => e = .returned (.tuple #[.string t,.bool b]) /\ Below w.heap.size w w':=by
 have e0:=bx2 w x r ai li ci af lf cf bi mi di bf mf df
 go_enter Tryz.func70,Tryz.ntmps70
 subst hb
 go_wp2_with (first | (go_at_call 85;refine (zft _ _ _).mono ?_;rintro e _ ⟨rfl,rfl⟩;rw [hs]) | (go_at_call 86;refine (hcall _ (bx w _ _)).mono ?_;rintro e w1 ⟨rfl,hb1⟩))
 go_ret2
 exact ⟨rfl,thn2 (bx w _ _) hb1⟩
theorem yaap (x r : Ty) (w : World) (ai : Option Addr) (li ci : Nat) (af : Option Addr) (lf cf : Nat) (bi : Option Addr) (mi di : Nat) (bf : Option Addr) (mf df : Nat) (t : ByteArray) (b : Bool)
  (h1 : ((x.kind : Int) == 63) = false) (h2 : ((r.kind : Int) == 63) = false) (hs : zba x.kind r.kind = false) (h3 : ((x.kind : Int) != (r.kind : Int)) = false) (k60 : ((x.kind : Int) == 60) = true) (hcall : ∀ (W : World) ,Below w.heap.size w W ->  Calls Tryz.prog 87 #[.agg #[.int .i64 x.kind,.string x.letters,.bool x.op,.slice ai li ci,.slice af lf cf],.agg #[.int .i64 r.kind,.string r.letters,.bool r.op,.slice bi mi di,.slice bf mf df]] W fun e w' => e = .returned (.tuple #[.string t,.bool b]) /\ Below W.heap.size W w') :
  Calls Tryz.prog 70 #[.agg #[.int .i64 x.kind,.string x.letters,.bool x.op,.slice ai li ci,.slice af lf cf],.agg #[.int .i64 r.kind,.string r.letters,.bool r.op,.slice bi mi di,.slice bf mf df]] w fun e w' => e = .returned (.tuple #[.string t,.bool b]) /\ Below w.heap.size w w':=by
 have e0:=bx2 w x r ai li ci af lf cf bi mi di bf mf df
 go_enter Tryz.func70,Tryz.ntmps70
 go_wp2_with (first | (go_at_call 85;refine (zft _ _ _).mono ?_;rintro e _ ⟨rfl,rfl⟩;rw [hs]) | (go_at_call 87;refine (hcall _ (bx w _ _)).mono ?_;rintro e w1 ⟨rfl,hb1⟩))
 go_ret2
 exact ⟨rfl,thn2 (bx w _ _) hb1⟩
theorem yaas (x r : Ty) (w : World) (ai : Option Addr) (li ci : Nat) (af : Option Addr) (lf cf : Nat) (bi : Option Addr) (mi di : Nat) (bf : Option Addr) (mf df : Nat) (t : ByteArray) (b : Bool)
  (h1 : ((x.kind : Int) == 63) = false) (h2 : ((r.kind : Int) == 63) = false) (hs : zba x.kind r.kind = false) (h3 : ((x.kind : Int) != (r.kind : Int)) = false) (k60 : ((x.kind : Int) == 60) = false) (k91 : ((x.kind : Int) == 91) = true) (nw nr : Nat) (hin : ∀ W,Below w.heap.size w W -> Calls Tryz.prog 84 #[.agg #[.int .i64 x.kind,.string x.letters,.bool x.op,.slice ai li ci,.slice af lf cf]] W fun e w' => ∃ p1 p2 p3 p4 p5 p6,e = .returned (.agg #[.int .i64 x.in.kind,.string x.in.letters,.bool x.in.op,.slice p1 p2 p3,.slice p4 p5 p6]) /\ Rep nw w' p1 p2 p3 p4 p5 p6 x.in /\ Below W.heap.size W w') (hin2 : ∀ W,Below w.heap.size w W -> Calls Tryz.prog 84 #[.agg #[.int .i64 r.kind,.string r.letters,.bool r.op,.slice bi mi di,.slice bf mf df]] W fun e w' => ∃ p1 p2 p3 p4 p5 p6,e = .returned (.agg #[.int .i64 r.in.kind,.string r.in.letters,.bool r.in.op,.slice p1 p2 p3,.slice p4 p5 p6]) /\ Rep nr w' p1 p2 p3 p4 p5 p6 r.in /\ Below W.heap.size W w') (hcall : ∀ (W : World) (p1 : Option Addr) (p2 p3 : Nat) (p4 : Option Addr) (p5 p6 : Nat) (q1 : Option Addr) (q2 q3 : Nat) (q4 : Option Addr) (q5 q6 : Nat),Below w.heap.size w W -> Rep nw W p1 p2 p3 p4 p5 p6 x.in -> Rep nr W q1 q2 q3 q4 q5 q6 r.in -> Calls Tryz.prog 88 #[.agg #[.int .i64 x.in.kind,.string x.in.letters,.bool x.in.op,.slice p1 p2 p3,.slice p4 p5 p6],.agg #[.int .i64 r.in.kind,.string r.in.letters,.bool r.in.op,.slice q1 q2 q3,.slice q4 q5 q6]] W fun e w' => e = .returned (.tuple #[.string t,.bool b]) /\ Below W.heap.size W w') :
  Calls Tryz.prog 70 #[.agg #[.int .i64 x.kind,.string x.letters,.bool x.op,.slice ai li ci,.slice af lf cf],.agg #[.int .i64 r.kind,.string r.letters,.bool r.op,.slice bi mi di,.slice bf mf df]] w fun e w' => e = .returned (.tuple #[.string t,.bool b]) /\ Below w.heap.size w w':=by
 have e0:=bx2 w x r ai li ci af lf cf bi mi di bf mf df
 go_enter Tryz.func70,Tryz.ntmps70
 go_wp2_with (first | (go_at_call 85;refine (zft _ _ _).mono ?_;rintro e _ ⟨rfl,rfl⟩;rw [hs]))
 go_region_held3 (fun w' => w'.cell? ⟨w.heap.size,0,none⟩ = some (.int .i64 x.kind) /\ w'.cell? ⟨w.heap.size,1,none⟩ = some (.string x.letters) /\ w'.cell? ⟨w.heap.size,2,none⟩ = some (.bool x.op) /\ w'.cell? ⟨w.heap.size,3,none⟩ = some (.slice ai li ci) /\ w'.cell? ⟨w.heap.size,4,none⟩ = some (.slice af lf cf) /\ w'.cell? ⟨w.heap.size + 1,0,none⟩ = some (.int .i64 r.kind) /\ w'.cell? ⟨w.heap.size + 1,1,none⟩ = some (.string r.letters) /\ w'.cell? ⟨w.heap.size + 1,2,none⟩ = some (.bool r.op) /\ w'.cell? ⟨w.heap.size + 1,3,none⟩ = some (.slice bi mi di) /\ w'.cell? ⟨w.heap.size + 1,4,none⟩ = some (.slice bf mf df)) (go_keep) (first | (go_at_call 84;have hq:=hb1;refine (hin2 _ (by first | exact thn2 (bx w _ _).drew hb1 | exact thn2 (bx w _ _) hb1)).mono ?_;rintro e w2 ⟨q1,q2,q3,q4,q5,q6,rfl,hr2,hb2⟩;have e2:=kp10 hb2 e1) | (go_at_call 84;refine (hin _ (by first | exact (bx w _ _).drew | exact bx w _ _)).mono ?_;rintro e w1 ⟨p1,p2,p3,p4,p5,p6,rfl,hr1,hb1⟩;have e1:=kp10 hb1 e0) | (go_at_call 88;refine (hcall _ _ _ _ _ _ _ _ _ _ _ _ _ (by first | exact thn2 (thn2 (bx w _ _).drew hb1) hb2 | exact thn2 (thn2 (bx w _ _) hb1) hb2) (hr1.keep hb2) hr2).mono ?_;rintro e w3 ⟨rfl,hb3⟩;have e3:=kp10 hb3 e2))
 go_wp2_with fail
 go_ret2
 exact ⟨rfl,thn2 (thn2 (thn2 (bx w _ _).drew hb1) hb2) hb3⟩
theorem yaat (x r : Ty) (w : World) (ai : Option Addr) (li ci : Nat) (af : Option Addr) (lf cf : Nat) (bi : Option Addr) (mi di : Nat) (bf : Option Addr) (mf df : Nat) (t : ByteArray) (b : Bool)
  (h1 : ((x.kind : Int) == 63) = false) (h2 : ((r.kind : Int) == 63) = false) (hs : zba x.kind r.kind = false) (h3 : ((x.kind : Int) != (r.kind : Int)) = false) (k60 : ((x.kind : Int) == 60) = false) (k91 : ((x.kind : Int) == 91) = false) (k123 : ((x.kind : Int) == 123) = true) (hcall : ∀ (W : World) ,Below w.heap.size w W ->  Calls Tryz.prog 89 #[.slice af lf cf,.slice bf mf df] W fun e w' => e = .returned (.tuple #[.string t,.bool b]) /\ Below W.heap.size W w') :
  Calls Tryz.prog 70 #[.agg #[.int .i64 x.kind,.string x.letters,.bool x.op,.slice ai li ci,.slice af lf cf],.agg #[.int .i64 r.kind,.string r.letters,.bool r.op,.slice bi mi di,.slice bf mf df]] w fun e w' => e = .returned (.tuple #[.string t,.bool b]) /\ Below w.heap.size w w':=by
 have e0:=bx2 w x r ai li ci af lf cf bi mi di bf mf df
 go_enter Tryz.func70,Tryz.ntmps70
 go_wp2_with (first | (go_at_call 85;refine (zft _ _ _).mono ?_;rintro e _ ⟨rfl,rfl⟩;rw [hs]) | (go_at_call 89;refine (hcall _ (bx w _ _)).mono ?_;rintro e w1 ⟨rfl,hb1⟩))
 go_ret2
 exact ⟨rfl,thn2 (bx w _ _) hb1⟩
end
section
open Go.RowKit
def tyG : Nat -> Ty -> Prop
 | 0,_ => True
 | n + 1,ty => (ty.kind = 60 -> ∀ i,i < ty.letters.size -> isL (bAt ty.letters i) = true /\ ∀ j,j < i -> bAt ty.letters j ≠ bAt ty.letters i) /\ (ty.kind = 63 -> ty.in.kind ≠ 63) /\ (ty.kind = 91 \/ ty.kind = 63 -> tyG n ty.in) /\ ∀ f ∈ ty.fields,f.1 < 256 /\ tyG n f.2.1
end
section
open Go.RowKit
def sepT : List ByteArray -> ByteArray
 | [] => ⟨#[93]⟩
 | x :: xs => ⟨#[44]⟩ ++ (x ++ sepT xs)
theorem zod : ∀ (xs : List ByteArray) (k : Nat) (t : ByteArray),zdx (k + 1) xs t = t ++ sepT xs
 | [],k,t => rfl
 | x :: xs,k,t => by
  rw [zdx,if_pos (by omega),zod xs (k + 1),sepT]
  simp only [ByteArray.append_assoc]
def recT : List (Nat × ByteArray) -> ByteArray -> ByteArray
 | [],_ => ⟨#[125]⟩
 | p :: ps,mk => (mk ++ (oneB p.1 ++ (⟨#[58]⟩ ++ p.2))) ++ recT ps ⟨#[44]⟩
theorem zj9 : ∀ (ps : List (Nat × ByteArray)) (mk t : ByteArray),zdl ps mk t = t ++ recT ps mk
 | [],mk,t => rfl
 | p :: ps,mk,t => by
  rw [zdl,zj9 ps,recT]
  simp only [ByteArray.append_assoc]
theorem sz1 (c : UInt8) : (⟨#[c]⟩ : ByteArray).size = 1:=rfl
end
section
open Go.RowKit
def TellOK (n : Nat) (s t : ByteArray) : Prop:=∀ (i j : Nat) (w : World) (ty : Ty) (k : Nat),zac true s n i = some (ty,k) -> s.size <= i + n -> j <= t.size ->
 Calls Tryz.prog 97 #[.string s,.int .i64 i,.string t,.int .i64 j] w fun e w' => e = .returned (zbx (dec t n ty j)) /\ Below w.heap.size w w'
theorem TellOK.no {n : Nat} {s t : ByteArray} (IH : TellOK n s t) {i j : Nat} (w : World) {ty : Ty} {k : Nat} (hp : zac true s n i = some (ty,k)) (hi : s.size <= i + n) (hj : j <= t.size) (hx : dec t n ty j = none) :
  Calls Tryz.prog 97 #[.string s,.int .i64 i,.string t,.int .i64 j] w fun e w' => e = .returned (.tuple #[.string ByteArray.empty,.int .i64 (-1)]) /\ Below w.heap.size w w':=by
 have:=IH i j w ty k hp hi hj;rw [hx] at this;exact this
theorem TellOK.yes {n : Nat} {s t : ByteArray} (IH : TellOK n s t) {i j : Nat} (w : World) {ty : Ty} {k : Nat} (hp : zac true s n i = some (ty,k)) (hi : s.size <= i + n) (hj : j <= t.size) {d : ByteArray} {m : Nat} (hx : dec t n ty j = some (d,m)) :
  Calls Tryz.prog 97 #[.string s,.int .i64 i,.string t,.int .i64 j] w fun e w' => e = .returned (.tuple #[.string d,.int .i64 m]) /\ Below w.heap.size w w':=by
 have:=IH i j w ty k hp hi hj;rw [hx] at this;exact this
theorem zg4 {n a b c : Nat} {d : ByteArray} (h : d.size <= (4 * n + c) * (b - a)) (hc : c <= 30) (hn : n <= 100) (hb : b <= 4096) : d.size <= 4000000:=by
 have h1 : (4 * n + c) * (b - a) <= 430 * (b - a):=Nat.mul_le_mul_right _ (by omega)
 omega
theorem zq9 (s : ByteArray) (a : Nat) (w : World) (_hs : s.size <= 9000000) (ha : a < s.size) :
  Calls Tryz.prog 118 #[.string s,.int .i64 a] w fun e w' => e = .returned (zbx (zb6 s a)) /\ w = w':=by
 obtain ⟨L,hL⟩ : ∃ L,L = s[a].toNat:=⟨_,rfl⟩
 have hb : bAt s a = (L : Int):=by rw [hL];exact za1 s a ha
 have hL256 : L < 256:=by rw [hL];exact s[a].toNat_lt
 have hP : zb6 s a = if 60 < L then none else if allS s L (a + 1) = true then some (quo ++ s.extract (a + 1) (a + 1 + L) ++ quo,a + 1 + L) else none:=by
  unfold zb6;rw [hb];simp only [Int.toNat_natCast]
  by_cases h : 60 < L
  ·rw [if_pos (by omega),if_pos h]
  ·rw [if_neg (by omega),if_neg h]
 by_cases h60 : 60 < L
 ·have hr : Hid (zb6 s a = none):=by show _ = _;rw [hP,if_pos h60]
  rw [hL] at h60
  clear hP hb
  go_enter Tryz.func118,Tryz.ntmps118
  go_wp2_with fail
  go_ret2
  rw [hr.out]
  exact ⟨rfl,rfl⟩
 ·by_cases hlen : s.size < a + 1 + L
  ·have hr : Hid (zb6 s a = none):=by
    show _ = _;rw [hP,if_neg h60,if_neg]
    intro h
    rcases zjh s _ _ h with h | h <;> omega
   rw [hL] at h60 hlen
   clear hP hb
   go_enter Tryz.func118,Tryz.ntmps118
   go_wp2_with fail
   go_ret2
   rw [hr.out]
   exact ⟨rfl,rfl⟩
  ·obtain ⟨R,hR⟩ : ∃ R,R = allS s L (a + 1):=⟨_,rfl⟩
   rw [if_neg h60,<- hR] at hP
   have HP : Hid (zb6 s a = if R = true then some (quo ++ s.extract (a + 1) (a + 1 + L) ++ quo,a + 1 + L) else none):=hP
   have HR : Hid (R = allS s L (a + 1)):=hR
   clear hP hR hb
   subst hL
   have h60' : ¬ (60 : Int) < (s[a].toNat : Int):=by omega
   have hlen' : ¬ (s.size : Int) < (a : Int) + 1 + (s[a].toNat : Int):=by omega
   go_enter Tryz.func118,Tryz.ntmps118
   go_wp2_with fail
   go_loop [7] (fun v => ∃ k : Nat,a + 1 <= k /\ k <= a + 1 + s[a].toNat /\ v = .int .i64 k /\ Hid (R = allS s (a + 1 + s[a].toNat - k) k)) (fun v => a + 1 + s[a].toNat - (intOf v).toNat)
   case atStart => exact ⟨a + 1,Nat.le_refl _,by omega,by go_num,by rw [show a + 1 + s[a].toNat - (a + 1) = s[a].toNat by omega];exact HR⟩
   case round =>
    obtain ⟨k,hk1,hk2,rfl,hp⟩:=hrel
    by_cases hlt : k < a + 1 + s[a].toNat
    ·have hks : k < s.size:=by omega
     have hlt' : (k : Int) <= (a : Int) + (s[a].toNat : Int):=by omega
     have hbk : bAt s k = s[k].toNat:=za1 s k hks
     have hstep : Hid (R = (inS (s[k].toNat : Int) && allS s (a + 1 + s[a].toNat - (k + 1)) (k + 1))):=by
      show _ = _;rw [hp.out,show a + 1 + s[a].toNat - k = (a + 1 + s[a].toNat - (k + 1)) + 1 by omega,allS,hbk]
     clear hbk
     cases hd : inS (s[k].toNat : Int) with
     | true =>
      have hp2 : Hid (R = allS s (a + 1 + s[a].toNat - (k + 1)) (k + 1)):=by show _ = _;rw [hstep.out,hd];rfl
      go_wp2_with (go_at_call 133;refine (zfn _ _).mono ?_;rintro e w' ⟨rfl,rfl⟩)
      go_round
      case rel => exact ⟨k + 1,by omega,by omega,by go_num,hp2⟩
      case measure => simp [intOf];omega
     | false =>
      have hr : Hid (zb6 s a = none):=by show _ = _;rw [HP.out,hstep.out,hd];rfl
      clear hstep HP
      go_wp2_with (go_at_call 133;refine (zfn _ _).mono ?_;rintro e w' ⟨rfl,rfl⟩)
      go_ret2
      rw [hr.out]
      exact ⟨rfl,rfl⟩
    ·have hlt' : ¬ (k : Int) <= (a : Int) + (s[a].toNat : Int):=by omega
     have hRt : R = true:=by rw [hp.out,show a + 1 + s[a].toNat - k = 0 by omega];rfl
     have hr : Hid (zb6 s a = some (quo ++ s.extract (a + 1) (a + 1 + s[a].toNat) ++ quo,a + 1 + s[a].toNat)):=by show _ = _;rw [HP.out,if_pos hRt]
     have hsx:=size_extract s (a + 1) (a + 1 + s[a].toNat) (by omega) (by omega)
     have hq1 : (⟨#[34]⟩ : ByteArray).size = 1:=rfl
     have hsy : ((⟨#[34]⟩ : ByteArray) ++ s.extract (a + 1) (a + 1 + s[a].toNat)).size = 1 + s[a].toNat:=by rw [ByteArray.size_append,hq1,hsx];omega
     have i1 : (0 : Int) <= (a : Int) + 1:=by omega
     have i2 : (a : Int) + 1 <= (a : Int) + 1 + (s[a].toNat : Int):=by omega
     have i3 : (a : Int) + 1 + (s[a].toNat : Int) <= (s.size : Int):=by omega
     clear HP hRt hp
     go_wp2_with fail
     go_ret2
     rw [hr.out]
     refine ⟨ret2 (zl4 ?_) (zbz ?_),rfl⟩
     ·rfl
     ·omega
end
section
open Go.RowKit
theorem zq7 {n : Nat} {s t : ByteArray} (IH : TellOK n s t) (ht : t.size <= 4096) (hn : n <= 100) (i j : Nat) (w : World) {ty : Ty} {k0 : Nat} (hp : zac true s n i = some (ty,k0)) (hi : s.size <= i + n) (hj : j < t.size) :
  Calls Tryz.prog 119 #[.string s,.int .i64 i,.string t,.int .i64 j] w fun e w' => e = .returned (zbx (zc0 (dec t n ty) t j)) /\ Below w.heap.size w w':=by
 have _hs : t.size <= 9000000:=by omega
 obtain ⟨L,hL⟩ : ∃ L,L = t[j].toNat:=⟨_,rfl⟩
 have hL256 : t[j].toNat < 256:=t[j].toNat_lt
 have hb : bAt t j = (L : Int):=by rw [hL];exact za1 t j hj
 have hP : zc0 (dec t n ty) t j = if 16 < L then none else zb1 (dec t n ty) L 0 (j + 1) ⟨#[91]⟩:=by
  unfold zc0;rw [hb];simp only [Int.toNat_natCast]
  by_cases h : 16 < L
  ·rw [if_pos (by omega),if_pos h]
  ·rw [if_neg (by omega),if_neg h]
 by_cases h16 : 16 < L
 ·have hr : Hid (zc0 (dec t n ty) t j = none):=by show _ = _;rw [hP,if_pos h16]
  rw [hL] at h16
  clear hP hb hp
  go_enter Tryz.func119,Tryz.ntmps119
  go_wp2_with fail
  go_ret2
  rw [hr.out]
  exact ⟨rfl,Below.refl _ _⟩
 ·rw [if_neg h16] at hP
  obtain ⟨R,hR⟩ : ∃ R,R = zb1 (dec t n ty) L 0 (j + 1) ⟨#[91]⟩:=⟨_,rfl⟩
  rw [hP,<- hR]
  have HR : Hid (R = zb1 (dec t n ty) L 0 (j + 1) ⟨#[91]⟩):=hR
  clear hP hR hb
  subst hL
  have h16' : ¬ (16 : Int) < (t[j].toNat : Int):=by omega
  go_enter Tryz.func119,Tryz.ntmps119
  go_wp2_with fail
  go_loopw [11,12,13] (fun vd vb vc wr => ∃ (m c b : Nat) (d : ByteArray),c + m = t[j].toNat /\ j + 1 <= b /\ b <= t.size /\ vc = .int .i64 c /\ vb = .int .i64 b /\ vd = .string d /\ Hid (R = zb1 (dec t n ty) m c b d) /\ Hid (d.size <= (4 * n + 21) * (b - j)) /\ Below w.heap.size w wr) (fun _ _ c _ => 17 - (intOf c).toNat)
  case atStart => exact ⟨t[j].toNat,0,j + 1,⟨#[91]⟩,by omega,Nat.le_refl _,hj,rfl,by go_num,rfl,HR,(by show (1 : Nat) <= _;rw [show j + 1 - j = 1 by omega];omega),Below.refl _ _⟩
  case round =>
   obtain ⟨m,c,b,d,hcm,hjb,hbt,rfl,rfl,rfl,hR,hd,hb⟩:=hrel
   have hs2:=zg4 hd.out (by omega) hn (by omega)
   have one1 : (⟨#[93]⟩ : ByteArray).size = 1:=rfl
   have one2 : (⟨#[44]⟩ : ByteArray).size = 1:=rfl
   cases m with
   | zero =>
    have hcL : ¬ (c : Int) < (t[j].toNat : Int):=by omega
    have hr' : Hid (R = some (d ++ ⟨#[93]⟩,b)):=hR
    go_wp2_with fail
    go_ret2
    rw [hr'.out]
    exact ⟨rfl,hb⟩
   | succ m =>
    have hcL : (c : Int) < (t[j].toNat : Int):=by omega
    have hsz : (d ++ ⟨#[44]⟩).size = d.size + 1:=by rw [ByteArray.size_append,one2]
    by_cases hc0 : c = 0
    ·subst hc0
     cases hx : dec t n ty b with
     | none =>
      have hr' : Hid (R = none):=by show _ = _;rw [hR.out,zb1,hx]
      have hcall:=fun w => IH.no w hp hi hbt hx
      clear hx hp
      go_wp2_with (go_at_call 97;refine (hcall _).mono ?_;rintro e w' ⟨rfl,hbw⟩)
      go_ret2
      rw [hr'.out]
      exact ⟨rfl,hb.trans (hbw.mono hb.size)⟩
     | some p =>
      obtain ⟨x,k⟩:=p
      obtain ⟨hb1,hb2,hb3⟩:=zhp hx
      have hs1:=zg4 hb3 (by omega) hn (by omega)
      have hr' : Hid (R = zb1 (dec t n ty) m (0 + 1) k (d ++ x)):=by show _ = _;rw [hR.out,zb1,hx];rfl
      have HS : Hid ((d ++ x).size <= (4 * n + 21) * (k - j)):=by
       show _ <= _
       rw [ByteArray.size_append]
       have h1:=zcj (C:=4 * n + 21) (show j <= b by omega) (show b <= k by omega)
       have h2 : (4 * n + 21) * (k - b) = (4 * n + 20) * (k - b) + (k - b):=by rw [show 4 * n + 21 = (4 * n + 20) + 1 by omega,Nat.add_mul,Nat.one_mul]
       have:=hd.out
       omega
      have hcall:=fun w => IH.yes w hp hi hbt hx
      clear hx hp hb3
      go_wp2_with (go_at_call 97;refine (hcall _).mono ?_;rintro e w' ⟨rfl,hbw⟩)
      go_roundw
      case rel => exact ⟨m,0 + 1,k,d ++ x,by omega,by omega,by omega,by go_num,rfl,rfl,hr',HS,hb.trans (hbw.mono hb.size)⟩
      case measure => simp [intOf]
    ·have hc0' : (0 : Int) < (c : Int):=by omega
     cases hx : dec t n ty b with
     | none =>
      have hr' : Hid (R = none):=by show _ = _;rw [hR.out,zb1,hx]
      have hcall:=fun w => IH.no w hp hi hbt hx
      clear hx hp
      go_wp2_with (go_at_call 97;refine (hcall _).mono ?_;rintro e w' ⟨rfl,hbw⟩)
      go_ret2
      rw [hr'.out]
      exact ⟨rfl,hb.trans (hbw.mono hb.size)⟩
     | some p =>
      obtain ⟨x,k⟩:=p
      obtain ⟨hb1,hb2,hb3⟩:=zhp hx
      have hs1:=zg4 hb3 (by omega) hn (by omega)
      have hr' : Hid (R = zb1 (dec t n ty) m (c + 1) k (d ++ ⟨#[44]⟩ ++ x)):=by show _ = _;rw [hR.out,zb1,hx];simp only [if_pos (show 0 < c by omega)]
      have HS : Hid ((d ++ ⟨#[44]⟩ ++ x).size <= (4 * n + 21) * (k - j)):=by
       show _ <= _
       rw [ByteArray.size_append,hsz]
       have h1:=zcj (C:=4 * n + 21) (show j <= b by omega) (show b <= k by omega)
       have h2 : (4 * n + 21) * (k - b) = (4 * n + 20) * (k - b) + (k - b):=by rw [show 4 * n + 21 = (4 * n + 20) + 1 by omega,Nat.add_mul,Nat.one_mul]
       have:=hd.out
       omega
      have hcall:=fun w => IH.yes w hp hi hbt hx
      clear hx hp hb3
      go_wp2_with (go_at_call 97;refine (hcall _).mono ?_;rintro e w' ⟨rfl,hbw⟩)
      go_roundw
      case rel => exact ⟨m,c + 1,k,d ++ ⟨#[44]⟩ ++ x,by omega,by omega,by omega,by go_num,rfl,rfl,hr',HS,hb.trans (hbw.mono hb.size)⟩
      case measure => simp [intOf];omega
end
end Go.Proofs.YtkkekopomiehlaaGreat
