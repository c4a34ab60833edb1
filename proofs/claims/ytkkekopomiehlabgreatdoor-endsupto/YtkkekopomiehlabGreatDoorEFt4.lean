import Derived.Test.YtkkekopomiehlabGreatDoorEFt2
set_option linter.unusedVariables false
set_option linter.unusedSimpArgs false
set_option maxHeartbeats 40000000
set_option maxRecDepth 4000
open ByteArray renaming size_append->xe,append_assoc->xg,empty_append->xj,empty->xq
open Nat renaming le_refl->xf,add_zero->xh,lt_irrefl->xu
open List renaming map_cons->xm,zip_cons_cons->xo,length_cons->xp,map_nil->xv
open Go.ByteArray renaming toList_eq->xy
open Prod renaming ext->xz
open Go.RowKit
namespace Go.Proofs.YtkkekopomiehlabGreatDoor
section
theorem bx (w:World)(o o2:Obj):Below w.heap.size w ((w.alloc o).alloc o2):=((Below.refl _ _).alloc (xf _) _).alloc (by simp) _
theorem kp10 {W w1:World}(hb:Below W.heap.size W w1){b c:Nat}{v0 v1 v2 v3 v4 u0 u1 u2 u3 u4:Value}(h:W.cell? ⟨b,0,none⟩=some v0/\W.cell? ⟨b,1,none⟩=some v1/\W.cell? ⟨b,2,none⟩=some v2/\W.cell? ⟨b,3,none⟩=some v3/\W.cell? ⟨b,4,none⟩=some v4/\W.cell? ⟨c,0,none⟩=some u0/\W.cell? ⟨c,1,none⟩=some u1/\W.cell? ⟨c,2,none⟩=some u2/\W.cell? ⟨c,3,none⟩=some u3/\W.cell? ⟨c,4,none⟩=some u4) :
  w1.cell? ⟨b,0,none⟩=some v0/\w1.cell? ⟨b,1,none⟩=some v1/\w1.cell? ⟨b,2,none⟩=some v2/\w1.cell? ⟨b,3,none⟩=some v3/\w1.cell? ⟨b,4,none⟩=some v4/\w1.cell? ⟨c,0,none⟩=some u0/\w1.cell? ⟨c,1,none⟩=some u1/\w1.cell? ⟨c,2,none⟩=some u2/\w1.cell? ⟨c,3,none⟩=some u3/\w1.cell? ⟨c,4,none⟩=some u4:=by
 obtain⟨h0,h1,h2,h3,h4,k0,k1,k2,k3,k4⟩:=h;exact⟨zab hb h0,zab hb h1,zab hb h2,zab hb h3,zab hb h4,zab hb k0,zab hb k1,zab hb k2,zab hb k3,zab hb k4⟩
theorem bx2 (w:World)(x r:Ty)(ai:Option Addr)(li ci:Nat)(af:Option Addr)(lf cf:Nat)(bi:Option Addr)(mi di:Nat)(bf:Option Addr)(mf df:Nat) :
  ((w.alloc (.cells #[.int .i64 x.kind,.string x.letters,.bool x.op,.slice ai li ci,.slice af lf cf] 201)).alloc (.cells #[.int .i64 r.kind,.string r.letters,.bool r.op,.slice bi mi di,.slice bf mf df] 201)).cell? ⟨w.heap.size,0,none⟩=some (.int .i64 x.kind)/\((w.alloc (.cells #[.int .i64 x.kind,.string x.letters,.bool x.op,.slice ai li ci,.slice af lf cf] 201)).alloc (.cells #[.int .i64 r.kind,.string r.letters,.bool r.op,.slice bi mi di,.slice bf mf df] 201)).cell? ⟨w.heap.size,1,none⟩=some (.string x.letters)/\((w.alloc (.cells #[.int .i64 x.kind,.string x.letters,.bool x.op,.slice ai li ci,.slice af lf cf] 201)).alloc (.cells #[.int .i64 r.kind,.string r.letters,.bool r.op,.slice bi mi di,.slice bf mf df] 201)).cell? ⟨w.heap.size,2,none⟩=some (.bool x.op)/\((w.alloc (.cells #[.int .i64 x.kind,.string x.letters,.bool x.op,.slice ai li ci,.slice af lf cf] 201)).alloc (.cells #[.int .i64 r.kind,.string r.letters,.bool r.op,.slice bi mi di,.slice bf mf df] 201)).cell? ⟨w.heap.size,3,none⟩=some (.slice ai li ci)/\((w.alloc (.cells #[.int .i64 x.kind,.string x.letters,.bool x.op,.slice ai li ci,.slice af lf cf] 201)).alloc (.cells #[.int .i64 r.kind,.string r.letters,.bool r.op,.slice bi mi di,.slice bf mf df] 201)).cell? ⟨w.heap.size,4,none⟩=some (.slice af lf cf)/\((w.alloc (.cells #[.int .i64 x.kind,.string x.letters,.bool x.op,.slice ai li ci,.slice af lf cf] 201)).alloc (.cells #[.int .i64 r.kind,.string r.letters,.bool r.op,.slice bi mi di,.slice bf mf df] 201)).cell? ⟨w.heap.size+1,0,none⟩=some (.int .i64 r.kind)/\((w.alloc (.cells #[.int .i64 x.kind,.string x.letters,.bool x.op,.slice ai li ci,.slice af lf cf] 201)).alloc (.cells #[.int .i64 r.kind,.string r.letters,.bool r.op,.slice bi mi di,.slice bf mf df] 201)).cell? ⟨w.heap.size+1,1,none⟩=some (.string r.letters)/\((w.alloc (.cells #[.int .i64 x.kind,.string x.letters,.bool x.op,.slice ai li ci,.slice af lf cf] 201)).alloc (.cells #[.int .i64 r.kind,.string r.letters,.bool r.op,.slice bi mi di,.slice bf mf df] 201)).cell? ⟨w.heap.size+1,2,none⟩=some (.bool r.op)/\((w.alloc (.cells #[.int .i64 x.kind,.string x.letters,.bool x.op,.slice ai li ci,.slice af lf cf] 201)).alloc (.cells #[.int .i64 r.kind,.string r.letters,.bool r.op,.slice bi mi di,.slice bf mf df] 201)).cell? ⟨w.heap.size+1,3,none⟩=some (.slice bi mi di)/\((w.alloc (.cells #[.int .i64 x.kind,.string x.letters,.bool x.op,.slice ai li ci,.slice af lf cf] 201)).alloc (.cells #[.int .i64 r.kind,.string r.letters,.bool r.op,.slice bi mi di,.slice bf mf df] 201)).cell? ⟨w.heap.size+1,4,none⟩=some (.slice bf mf df):=by
 have h:(w.alloc (.cells #[.int .i64 x.kind,.string x.letters,.bool x.op,.slice ai li ci,.slice af lf cf] 201)).heap.size=w.heap.size+1:=by simp
 refine⟨zah _ (zam rfl rfl),zah _ (zam rfl rfl),zah _ (zam rfl rfl),zah _ (zam rfl rfl),zah _ (zam rfl rfl),?_⟩;rw[<- h];exact⟨zam rfl rfl,zam rfl rfl,zam rfl rfl,zam rfl rfl,zam rfl rfl⟩
theorem yaed (x r:Ty)(w:World)(ai:Option Addr)(li ci:Nat)(af:Option Addr)(lf cf:Nat)(bi:Option Addr)(mi di:Nat)(bf:Option Addr)(mf df:Nat)(t:ByteArray)(b:Bool)
  (h1:((x.kind:Int) == 63)=true) (h2:((r.kind:Int) == 63)=true) (nw nr:Nat) (hin:∀ W,Below w.heap.size w W->Calls Tryz.prog 194 #[.agg #[.int .i64 x.kind,.string x.letters,.bool x.op,.slice ai li ci,.slice af lf cf]] W fun e w'=>∃ p1 p2 p3 p4 p5 p6,e=.returned (.agg #[.int .i64 x.in.kind,.string x.in.letters,.bool x.in.op,.slice p1 p2 p3,.slice p4 p5 p6])/\Rep nw w' p1 p2 p3 p4 p5 p6 x.in/\Below W.heap.size W w') (hin2:∀ W,Below w.heap.size w W->Calls Tryz.prog 194 #[.agg #[.int .i64 r.kind,.string r.letters,.bool r.op,.slice bi mi di,.slice bf mf df]] W fun e w'=>∃ p1 p2 p3 p4 p5 p6,e=.returned (.agg #[.int .i64 r.in.kind,.string r.in.letters,.bool r.in.op,.slice p1 p2 p3,.slice p4 p5 p6])/\Rep nr w' p1 p2 p3 p4 p5 p6 r.in/\Below W.heap.size W w') (hcall:∀ (W:World) (p1:Option Addr) (p2 p3:Nat) (p4:Option Addr) (p5 p6:Nat) (q1:Option Addr) (q2 q3:Nat) (q4:Option Addr) (q5 q6:Nat),Below w.heap.size w W->Rep nw W p1 p2 p3 p4 p5 p6 x.in->Rep nr W q1 q2 q3 q4 q5 q6 r.in->Calls Tryz.prog 179 #[.agg #[.int .i64 x.in.kind,.string x.in.letters,.bool x.in.op,.slice p1 p2 p3,.slice p4 p5 p6],.agg #[.int .i64 r.in.kind,.string r.in.letters,.bool r.in.op,.slice q1 q2 q3,.slice q4 q5 q6]] W fun e w'=>e=.returned (.tuple #[.string t,.bool b])/\Below W.heap.size W w') :
  Calls Tryz.prog 179 #[.agg #[.int .i64 x.kind,.string x.letters,.bool x.op,.slice ai li ci,.slice af lf cf],.agg #[.int .i64 r.kind,.string r.letters,.bool r.op,.slice bi mi di,.slice bf mf df]] w fun e w'=>e=.returned (.tuple #[.string t,.bool b])/\Below w.heap.size w w':=by
 have e0:=bx2 w x r ai li ci af lf cf bi mi di bf mf df
 go_enter Tryz.func179,Tryz.ntmps179
 go_wp2_with fail
 go_region_held3 (fun w'=>w'.cell? ⟨w.heap.size,0,none⟩=some (.int .i64 x.kind)/\w'.cell? ⟨w.heap.size,1,none⟩=some (.string x.letters)/\w'.cell? ⟨w.heap.size,2,none⟩=some (.bool x.op)/\w'.cell? ⟨w.heap.size,3,none⟩=some (.slice ai li ci)/\w'.cell? ⟨w.heap.size,4,none⟩=some (.slice af lf cf)/\w'.cell? ⟨w.heap.size+1,0,none⟩=some (.int .i64 r.kind)/\w'.cell? ⟨w.heap.size+1,1,none⟩=some (.string r.letters)/\w'.cell? ⟨w.heap.size+1,2,none⟩=some (.bool r.op)/\w'.cell? ⟨w.heap.size+1,3,none⟩=some (.slice bi mi di)/\w'.cell? ⟨w.heap.size+1,4,none⟩=some (.slice bf mf df)) (go_keep) (first|(go_at_call 194;have hq:=hb1;refine(hin2 _ (by first|exact thn2 (bx w _ _).drew hb1|exact thn2 (bx w _ _) hb1)).mono ?_;rintro e w2 ⟨q1,q2,q3,q4,q5,q6,rfl,hr2,hb2⟩;have e2:=kp10 hb2 e1)|(go_at_call 194;refine(hin _ (by first|exact(bx w _ _).drew|exact bx w _ _)).mono ?_;rintro e w1 ⟨p1,p2,p3,p4,p5,p6,rfl,hr1,hb1⟩;have e1:=kp10 hb1 e0)|(go_at_call 179;refine(hcall _ _ _ _ _ _ _ _ _ _ _ _ _ (by first|exact thn2 (thn2 (bx w _ _).drew hb1) hb2|exact thn2 (thn2 (bx w _ _) hb1) hb2) (hr1.keep hb2) hr2).mono ?_;rintro e w3 ⟨rfl,hb3⟩;have e3:=kp10 hb3 e2))
 go_wp2_with fail
 go_ret2
 exact⟨rfl,thn2 (thn2 (thn2 (bx w _ _).drew hb1) hb2) hb3⟩
theorem yaej (x r:Ty)(w:World)(ai:Option Addr)(li ci:Nat)(af:Option Addr)(lf cf:Nat)(bi:Option Addr)(mi di:Nat)(bf:Option Addr)(mf df:Nat)(t:ByteArray)(b:Bool)
  (h1:((x.kind:Int) == 63)=false) (h2:((r.kind:Int) == 63)=true) (nr:Nat) (hin:∀ W,Below w.heap.size w W->Calls Tryz.prog 194 #[.agg #[.int .i64 r.kind,.string r.letters,.bool r.op,.slice bi mi di,.slice bf mf df]] W fun e w'=>∃ p1 p2 p3 p4 p5 p6,e=.returned (.agg #[.int .i64 r.in.kind,.string r.in.letters,.bool r.in.op,.slice p1 p2 p3,.slice p4 p5 p6])/\Rep nr w' p1 p2 p3 p4 p5 p6 r.in/\Below W.heap.size W w') (hcall:∀ (W:World) (p1:Option Addr) (p2 p3:Nat) (p4:Option Addr) (p5 p6:Nat),Below w.heap.size w W->Rep nr W p1 p2 p3 p4 p5 p6 r.in->Calls Tryz.prog 179 #[.agg #[.int .i64 x.kind,.string x.letters,.bool x.op,.slice ai li ci,.slice af lf cf],.agg #[.int .i64 r.in.kind,.string r.in.letters,.bool r.in.op,.slice p1 p2 p3,.slice p4 p5 p6]] W fun e w'=>e=.returned (.tuple #[.string t,.bool b])/\Below W.heap.size W w') :
  Calls Tryz.prog 179 #[.agg #[.int .i64 x.kind,.string x.letters,.bool x.op,.slice ai li ci,.slice af lf cf],.agg #[.int .i64 r.kind,.string r.letters,.bool r.op,.slice bi mi di,.slice bf mf df]] w fun e w'=>e=.returned (.tuple #[.string t,.bool b])/\Below w.heap.size w w':=by
 have e0:=bx2 w x r ai li ci af lf cf bi mi di bf mf df
 go_enter Tryz.func179,Tryz.ntmps179
 go_wp2_with fail
 go_region_held3 (fun w'=>w'.cell? ⟨w.heap.size,0,none⟩=some (.int .i64 x.kind)/\w'.cell? ⟨w.heap.size,1,none⟩=some (.string x.letters)/\w'.cell? ⟨w.heap.size,2,none⟩=some (.bool x.op)/\w'.cell? ⟨w.heap.size,3,none⟩=some (.slice ai li ci)/\w'.cell? ⟨w.heap.size,4,none⟩=some (.slice af lf cf)/\w'.cell? ⟨w.heap.size+1,0,none⟩=some (.int .i64 r.kind)/\w'.cell? ⟨w.heap.size+1,1,none⟩=some (.string r.letters)/\w'.cell? ⟨w.heap.size+1,2,none⟩=some (.bool r.op)/\w'.cell? ⟨w.heap.size+1,3,none⟩=some (.slice bi mi di)/\w'.cell? ⟨w.heap.size+1,4,none⟩=some (.slice bf mf df)) (go_keep) (first|(go_at_call 194;refine(hin _ (by first|exact(bx w _ _).drew|exact bx w _ _)).mono ?_;rintro e w1 ⟨p1,p2,p3,p4,p5,p6,rfl,hr1,hb1⟩;have e1:=kp10 hb1 e0)|(go_at_call 179;refine(hcall _ _ _ _ _ _ _ (by first|exact thn2 (bx w _ _).drew hb1|exact thn2 (bx w _ _) hb1) hr1).mono ?_;rintro e w2 ⟨rfl,hb2⟩;have e2:=kp10 hb2 e1))
 go_wp2_with fail
 go_ret2
 exact⟨rfl,thn2 (thn2 (bx w _ _).drew hb1) hb2⟩
theorem yaef (x r:Ty)(w:World)(ai:Option Addr)(li ci:Nat)(af:Option Addr)(lf cf:Nat)(bi:Option Addr)(mi di:Nat)(bf:Option Addr)(mf df:Nat)(t:ByteArray)(b:Bool)
  (h1:((x.kind:Int) == 63)=true) (h2:((r.kind:Int) == 63)=false) (hs:zax x.kind r.kind=false) (h3:((x.kind:Int) != (r.kind:Int))=true) (hb:b=true) (hcall:∀ (W:World) ,Below w.heap.size w W-> Calls Tryz.prog 228 #[.agg #[.int .i64 x.kind,.string x.letters,.bool x.op,.slice ai li ci,.slice af lf cf]] W fun e w'=>e=.returned (.string t)/\Below W.heap.size W w') :
  Calls Tryz.prog 179 #[.agg #[.int .i64 x.kind,.string x.letters,.bool x.op,.slice ai li ci,.slice af lf cf],.agg #[.int .i64 r.kind,.string r.letters,.bool r.op,.slice bi mi di,.slice bf mf df]] w fun e w'=>e=.returned (.tuple #[.string t,.bool b])/\Below w.heap.size w w':=by
 have e0:=bx2 w x r ai li ci af lf cf bi mi di bf mf df
 go_enter Tryz.func179,Tryz.ntmps179
 subst hb
 go_wp2_with (first|(go_at_call 195;refine(zdg _ _ _).mono ?_;rintro e _ ⟨rfl,rfl⟩;rw[hs])|(go_at_call 228;refine(hcall _ (bx w _ _)).mono ?_;rintro e w1 ⟨rfl,hb1⟩))
 go_ret2
 exact⟨rfl,thn2 (bx w _ _) hb1⟩
theorem yaek (x r:Ty)(w:World)(ai:Option Addr)(li ci:Nat)(af:Option Addr)(lf cf:Nat)(bi:Option Addr)(mi di:Nat)(bf:Option Addr)(mf df:Nat)(t:ByteArray)(b:Bool)
  (h1:((x.kind:Int) == 63)=false) (h2:((r.kind:Int) == 63)=false) (hs:zax x.kind r.kind=true) (ht:t=xq) (hb:b=false) :
  Calls Tryz.prog 179 #[.agg #[.int .i64 x.kind,.string x.letters,.bool x.op,.slice ai li ci,.slice af lf cf],.agg #[.int .i64 r.kind,.string r.letters,.bool r.op,.slice bi mi di,.slice bf mf df]] w fun e w'=>e=.returned (.tuple #[.string t,.bool b])/\Below w.heap.size w w':=by
 have e0:=bx2 w x r ai li ci af lf cf bi mi di bf mf df
 go_enter Tryz.func179,Tryz.ntmps179
 subst ht hb
 go_wp2_with (first|(go_at_call 195;refine(zdg _ _ _).mono ?_;rintro e _ ⟨rfl,rfl⟩;rw[hs]))
 go_ret2
 exact⟨rfl,bx w _ _⟩
theorem yaeg (x r:Ty)(w:World)(ai:Option Addr)(li ci:Nat)(af:Option Addr)(lf cf:Nat)(bi:Option Addr)(mi di:Nat)(bf:Option Addr)(mf df:Nat)(t:ByteArray)(b:Bool)
  (h1:((x.kind:Int) == 63)=false) (h2:((r.kind:Int) == 63)=false) (hs:zax x.kind r.kind=false) (h3:((x.kind:Int) != (r.kind:Int))=true) (hb:b=true) (hcall:∀ (W:World) ,Below w.heap.size w W-> Calls Tryz.prog 228 #[.agg #[.int .i64 x.kind,.string x.letters,.bool x.op,.slice ai li ci,.slice af lf cf]] W fun e w'=>e=.returned (.string t)/\Below W.heap.size W w') :
  Calls Tryz.prog 179 #[.agg #[.int .i64 x.kind,.string x.letters,.bool x.op,.slice ai li ci,.slice af lf cf],.agg #[.int .i64 r.kind,.string r.letters,.bool r.op,.slice bi mi di,.slice bf mf df]] w fun e w'=>e=.returned (.tuple #[.string t,.bool b])/\Below w.heap.size w w':=by
 have e0:=bx2 w x r ai li ci af lf cf bi mi di bf mf df
 go_enter Tryz.func179,Tryz.ntmps179
 subst hb
 go_wp2_with (first|(go_at_call 195;refine(zdg _ _ _).mono ?_;rintro e _ ⟨rfl,rfl⟩;rw[hs])|(go_at_call 228;refine(hcall _ (bx w _ _)).mono ?_;rintro e w1 ⟨rfl,hb1⟩))
 go_ret2
 exact⟨rfl,thn2 (bx w _ _) hb1⟩
theorem yaee (x r:Ty)(w:World)(ai:Option Addr)(li ci:Nat)(af:Option Addr)(lf cf:Nat)(bi:Option Addr)(mi di:Nat)(bf:Option Addr)(mf df:Nat)(t:ByteArray)(b:Bool)
  (h1:((x.kind:Int) == 63)=false) (h2:((r.kind:Int) == 63)=false) (hs:zax x.kind r.kind=false) (h3:((x.kind:Int) != (r.kind:Int))=false) (k60:((x.kind:Int) == 60)=true) (hcall:∀ (W:World) ,Below w.heap.size w W-> Calls Tryz.prog 229 #[.agg #[.int .i64 x.kind,.string x.letters,.bool x.op,.slice ai li ci,.slice af lf cf],.agg #[.int .i64 r.kind,.string r.letters,.bool r.op,.slice bi mi di,.slice bf mf df]] W fun e w'=>e=.returned (.tuple #[.string t,.bool b])/\Below W.heap.size W w') :
  Calls Tryz.prog 179 #[.agg #[.int .i64 x.kind,.string x.letters,.bool x.op,.slice ai li ci,.slice af lf cf],.agg #[.int .i64 r.kind,.string r.letters,.bool r.op,.slice bi mi di,.slice bf mf df]] w fun e w'=>e=.returned (.tuple #[.string t,.bool b])/\Below w.heap.size w w':=by
 have e0:=bx2 w x r ai li ci af lf cf bi mi di bf mf df
 go_enter Tryz.func179,Tryz.ntmps179
 go_wp2_with (first|(go_at_call 195;refine(zdg _ _ _).mono ?_;rintro e _ ⟨rfl,rfl⟩;rw[hs])|(go_at_call 229;refine(hcall _ (bx w _ _)).mono ?_;rintro e w1 ⟨rfl,hb1⟩))
 go_ret2
 exact⟨rfl,thn2 (bx w _ _) hb1⟩
theorem yaeh (x r:Ty)(w:World)(ai:Option Addr)(li ci:Nat)(af:Option Addr)(lf cf:Nat)(bi:Option Addr)(mi di:Nat)(bf:Option Addr)(mf df:Nat)(t:ByteArray)(b:Bool)
  (h1:((x.kind:Int) == 63)=false) (h2:((r.kind:Int) == 63)=false) (hs:zax x.kind r.kind=false) (h3:((x.kind:Int) != (r.kind:Int))=false) (k60:((x.kind:Int) == 60)=false) (k91:((x.kind:Int) == 91)=true) (nw nr:Nat) (hin:∀ W,Below w.heap.size w W->Calls Tryz.prog 194 #[.agg #[.int .i64 x.kind,.string x.letters,.bool x.op,.slice ai li ci,.slice af lf cf]] W fun e w'=>∃ p1 p2 p3 p4 p5 p6,e=.returned (.agg #[.int .i64 x.in.kind,.string x.in.letters,.bool x.in.op,.slice p1 p2 p3,.slice p4 p5 p6])/\Rep nw w' p1 p2 p3 p4 p5 p6 x.in/\Below W.heap.size W w') (hin2:∀ W,Below w.heap.size w W->Calls Tryz.prog 194 #[.agg #[.int .i64 r.kind,.string r.letters,.bool r.op,.slice bi mi di,.slice bf mf df]] W fun e w'=>∃ p1 p2 p3 p4 p5 p6,e=.returned (.agg #[.int .i64 r.in.kind,.string r.in.letters,.bool r.in.op,.slice p1 p2 p3,.slice p4 p5 p6])/\Rep nr w' p1 p2 p3 p4 p5 p6 r.in/\Below W.heap.size W w') (hcall:∀ (W:World) (p1:Option Addr) (p2 p3:Nat) (p4:Option Addr) (p5 p6:Nat) (q1:Option Addr) (q2 q3:Nat) (q4:Option Addr) (q5 q6:Nat),Below w.heap.size w W->Rep nw W p1 p2 p3 p4 p5 p6 x.in->Rep nr W q1 q2 q3 q4 q5 q6 r.in->Calls Tryz.prog 230 #[.agg #[.int .i64 x.in.kind,.string x.in.letters,.bool x.in.op,.slice p1 p2 p3,.slice p4 p5 p6],.agg #[.int .i64 r.in.kind,.string r.in.letters,.bool r.in.op,.slice q1 q2 q3,.slice q4 q5 q6]] W fun e w'=>e=.returned (.tuple #[.string t,.bool b])/\Below W.heap.size W w') :
  Calls Tryz.prog 179 #[.agg #[.int .i64 x.kind,.string x.letters,.bool x.op,.slice ai li ci,.slice af lf cf],.agg #[.int .i64 r.kind,.string r.letters,.bool r.op,.slice bi mi di,.slice bf mf df]] w fun e w'=>e=.returned (.tuple #[.string t,.bool b])/\Below w.heap.size w w':=by
 have e0:=bx2 w x r ai li ci af lf cf bi mi di bf mf df
 go_enter Tryz.func179,Tryz.ntmps179
 go_wp2_with (first|(go_at_call 195;refine(zdg _ _ _).mono ?_;rintro e _ ⟨rfl,rfl⟩;rw[hs]))
 go_region_held3 (fun w'=>w'.cell? ⟨w.heap.size,0,none⟩=some (.int .i64 x.kind)/\w'.cell? ⟨w.heap.size,1,none⟩=some (.string x.letters)/\w'.cell? ⟨w.heap.size,2,none⟩=some (.bool x.op)/\w'.cell? ⟨w.heap.size,3,none⟩=some (.slice ai li ci)/\w'.cell? ⟨w.heap.size,4,none⟩=some (.slice af lf cf)/\w'.cell? ⟨w.heap.size+1,0,none⟩=some (.int .i64 r.kind)/\w'.cell? ⟨w.heap.size+1,1,none⟩=some (.string r.letters)/\w'.cell? ⟨w.heap.size+1,2,none⟩=some (.bool r.op)/\w'.cell? ⟨w.heap.size+1,3,none⟩=some (.slice bi mi di)/\w'.cell? ⟨w.heap.size+1,4,none⟩=some (.slice bf mf df)) (go_keep) (first|(go_at_call 194;have hq:=hb1;refine(hin2 _ (by first|exact thn2 (bx w _ _).drew hb1|exact thn2 (bx w _ _) hb1)).mono ?_;rintro e w2 ⟨q1,q2,q3,q4,q5,q6,rfl,hr2,hb2⟩;have e2:=kp10 hb2 e1)|(go_at_call 194;refine(hin _ (by first|exact(bx w _ _).drew|exact bx w _ _)).mono ?_;rintro e w1 ⟨p1,p2,p3,p4,p5,p6,rfl,hr1,hb1⟩;have e1:=kp10 hb1 e0)|(go_at_call 230;refine(hcall _ _ _ _ _ _ _ _ _ _ _ _ _ (by first|exact thn2 (thn2 (bx w _ _).drew hb1) hb2|exact thn2 (thn2 (bx w _ _) hb1) hb2) (hr1.keep hb2) hr2).mono ?_;rintro e w3 ⟨rfl,hb3⟩;have e3:=kp10 hb3 e2))
 go_wp2_with fail
 go_ret2
 exact⟨rfl,thn2 (thn2 (thn2 (bx w _ _).drew hb1) hb2) hb3⟩
theorem yaei (x r:Ty)(w:World)(ai:Option Addr)(li ci:Nat)(af:Option Addr)(lf cf:Nat)(bi:Option Addr)(mi di:Nat)(bf:Option Addr)(mf df:Nat)(t:ByteArray)(b:Bool)
  (h1:((x.kind:Int) == 63)=false) (h2:((r.kind:Int) == 63)=false) (hs:zax x.kind r.kind=false) (h3:((x.kind:Int) != (r.kind:Int))=false) (k60:((x.kind:Int) == 60)=false) (k91:((x.kind:Int) == 91)=false) (k123:((x.kind:Int) == 123)=true) (hcall:∀ (W:World) ,Below w.heap.size w W-> Calls Tryz.prog 231 #[.slice af lf cf,.slice bf mf df] W fun e w'=>e=.returned (.tuple #[.string t,.bool b])/\Below W.heap.size W w') :
  Calls Tryz.prog 179 #[.agg #[.int .i64 x.kind,.string x.letters,.bool x.op,.slice ai li ci,.slice af lf cf],.agg #[.int .i64 r.kind,.string r.letters,.bool r.op,.slice bi mi di,.slice bf mf df]] w fun e w'=>e=.returned (.tuple #[.string t,.bool b])/\Below w.heap.size w w':=by
 have e0:=bx2 w x r ai li ci af lf cf bi mi di bf mf df
 go_enter Tryz.func179,Tryz.ntmps179
 go_wp2_with (first|(go_at_call 195;refine(zdg _ _ _).mono ?_;rintro e _ ⟨rfl,rfl⟩;rw[hs])|(go_at_call 231;refine(hcall _ (bx w _ _)).mono ?_;rintro e w1 ⟨rfl,hb1⟩))
 go_ret2
 exact⟨rfl,thn2 (bx w _ _) hb1⟩
end
def tyG:Nat->Ty->Prop
 |0,_=>True
 |n+1,ty=>(ty.kind=60->∀ i,i<ty.letters.size->isL (bAt ty.letters i)=true/\∀ j,j<i->bAt ty.letters j≠bAt ty.letters i)/\(ty.kind=63->ty.in.kind≠63)/\(ty.kind=91\/ty.kind=63->tyG n ty.in)/\∀ f∈ty.fields,f.1<256/\tyG n f.2.1
def DL (st:Bool)(b:Int):Prop:=isD b=false/\(st=true->b≠45)
theorem znf {t:ByteArray}:∀ (m n a:Nat),n<10 ^ (m+1)->At t a (decS m n)->dVal t a (decS m n).size=n
 |0,n,a,hn,h=>by
  rw[decS]at h ⊢;rw[At.one (by omega)]at h;rw[zak,dVal,dVal,xh,h];omega
 |m+1,n,a,hn,h=>by
  rw[decS]at h ⊢;split at h
  ·rw[At.one (by omega)]at h;rw[if_pos (by assumption),zak,dVal,dVal,xh,h];omega
  ·rw[if_neg (by assumption)];rw[At.app,At.one (by omega)]at h;rw[xe,zak,dVal,znf m (n / 10) a (by rw[Nat.pow_succ]at hn;omega) h.1,h.2];omega
theorem zpx {t:ByteArray}{n a:Nat}(hn:n<=1000000000000000)(h:At t a (decS 18 n))(hd:isD (bAt t (a+(decS 18 n).size))=false):pDig t a=some ((n:Int),a+(decS 18 n).size):=by
 have hp:=zgg 18 n;have hl:=zj3 15 18 n (by omega);have hle:=h.le;have e:=zzg (s:=t) (a:=a) (e:=a+(decS 18 n).size) (by omega) hle (fun i h1 h2=>by
  have:=h.2 (i-a) (by omega);rw[show a+(i-a)=i by omega]at this;rw[this];exact zxy (zhu 18 n (i-a) (by omega) (by omega))) hd (by omega) (fun h1=>by
   have h2:=h.2 0 hp;rw[xh]at h2;rw[h2];exact znr 18 n (by omega) (zv1 18 n (by omega) (by omega)))
 rw[e,show a+(decS 18 n).size-a=(decS 18 n).size by omega,znf 18 n a (by omega) h]
theorem zzn {t:ByteArray}{n:Int}{a:Nat}(h1:-1000000000000000<=n)(h2:n<=1000000000000000)(h:At t a (decI n))(hd:isD (bAt t (a+(decI n).size))=false):pNum t a=some (n,a+(decI n).size):=by
 unfold decI at h hd ⊢;by_cases hn:n<0
 ·rw[if_pos hn]at h hd ⊢;rw[At.app]at h;have e1:(⟨#[45]⟩:ByteArray).size=1:=rfl;rw[e1]at h;have h45:bAt t a=45:=by have:=h.1.2 0 (by rw[e1];omega);rw[xh]at this;rw[this];rfl
  rw[xe,e1]at hd ⊢;unfold pNum;rw[if_pos h45,zpx (by omega) h.2 (by rw[show a+1+(decS 18 (-n).toNat).size=a+(1+(decS 18 (-n).toNat).size) by omega];exact hd)];simp only;rw[if_neg (by omega)]
  congr 1
  refine xz ?_ ?_
  ·show -((-n).toNat:Int)=n;omega
  ·show a+1+_=a+(1+_);omega
 ·rw[if_neg hn]at h hd ⊢;have hb:=zhu 18 n.toNat 0 (by omega) (zgg _ _);have h0:=h.2 0 (zgg _ _);rw[xh]at h0;unfold pNum;rw[if_neg (by rw[h0];omega),zpx (by omega) h hd]
  congr 1
  refine xz ?_ rfl;show ((n.toNat:Nat):Int)=n;omega
theorem zoc {st:Bool}{lo hi n:Int}{t:ByteArray}{a:Nat}(hl:-1000000000000000<=lo)(hh:hi<=1000000000000000)(h1:lo<=n)(h2:n<=hi)(h:At t a (decI n))(hd:DL st (bAt t (a+(decI n).size))):zbf st lo hi t a=some (zcp n,a+(decI n).size):=by
 unfold zbf;rw[zzn (by omega) (by omega) h hd.1];simp only;rw[if_neg (by omega),if_neg (fun hc=>hd.2 hc.1 hc.2)]
theorem zmo {s:ByteArray}:∀ (m k:Nat),allS s m k=true->∀ i,i<m->inS (bAt s (k+i))=true
 |0,k,h,i,hi=>by omega
 |m+1,k,h,i,hi=>by
  rw[allS,Bool.and_eq_true]at h;cases i with
  |zero=>rw[xh];exact h.1
  |succ i=>rw[show k+(i+1)=k+1+i by omega];exact zmo m (k+1) h.2 i (by omega)
theorem zwe {s t:ByteArray}{a:Nat}(h1:s.size<=60)(h2:allS s s.size 0=true)(h:At t a (quo++s++quo)):zb2 t a=some (oneB s.size++s,a+(quo++s++quo).size):=by
 rw[At.app,At.app,xe,zcf]at h;obtain⟨⟨h3,h4⟩,h5⟩:=h;have hq:bAt quo 0=34:=rfl;have a0:bAt t a=34:=by have:=h3.2 0 (by rw[zcf];omega);rw[xh]at this;rw[this];exact hq
 have a1:bAt t (a+1+s.size)=34:=by have:=h5.2 0 (by rw[zcf];omega);rw[xh,show a+(1+s.size)=a+1+s.size by omega]at this;rw[this];exact hq
 have hE:=zlg inS t s.size (a+1) (a+1+s.size) rfl h4.le (fun i hi1 hi2=>by
  have:=h4.2 (i-(a+1)) (by omega);rw[show a+1+(i-(a+1))=i by omega]at this;rw[this];have:=zmo _ _ h2 (i-(a+1)) (by omega);rw[Nat.zero_add]at this;exact this) (by rw[a1];rfl)
 unfold zb2;rw[if_pos a0];simp only;rw[hE,if_pos ⟨a1,by omega⟩,show a+1+s.size-(a+1)=s.size by omega,h4.ext,xe,xe,zcf]
 congr 2;omega
theorem zp6 {l:ByteArray}{c:Int}{i:Nat}(hb:bAt l i=c):∀ (m k:Nat),k<=i->i<k+m->(∀ j,k<=j->j<i->bAt l j≠c)->za6 l c m k=i
 |0,k,h1,h2,h3=>by omega
 |m+1,k,h1,h2,h3=>by
  rw[za6];by_cases hk:k=i
  ·subst hk;rw[if_pos hb]
  ·rw[if_neg (h3 k (xf _) (by omega))];exact zp6 hb m (k+1) (by omega) (by omega) (fun j hj1 hj2=>h3 j (by omega) hj2)
theorem zzo {l:ByteArray}{i:Nat}(hi:i<l.size)(hd:∀ j,j<i->bAt l j≠bAt l i):pOf l (bAt l i)=i:=by
 unfold pOf;exact zp6 rfl l.size 0 (Nat.zero_le _) (by omega) (fun j _ hj=>hd j hj)
def sepT:List ByteArray->ByteArray
 |[]=>⟨#[93]⟩
 |x::xs=>⟨#[44]⟩++(x++sepT xs)
theorem zh6:∀ (xs:List ByteArray) (k:Nat) (t:ByteArray),zcc (k+1) xs t=t++sepT xs
 |[],k,t=>rfl
 |x::xs,k,t=>by
  rw[zcc,if_pos (by omega),zh6 xs (k+1),sepT];simp only[xg]
def recT:List (Nat×ByteArray)->ByteArray->ByteArray
 |[],_=>⟨#[125]⟩
 |p::ps,mk=>(mk++(oneB p.1++(⟨#[58]⟩++p.2)))++recT ps ⟨#[44]⟩
theorem zgh:∀ (ps:List (Nat×ByteArray)) (mk t:ByteArray),zcb ps mk t=t++recT ps mk
 |[],mk,t=>rfl
 |p::ps,mk,t=>by
  rw[zcb,zgh ps,recT];simp only[xg]
theorem at0 {t x:ByteArray}{j:Nat}(h:At t j x)(hx:1<=x.size):bAt t j=bAt x 0:=by
 have:=h.2 0 hx;rw[xh]at this;exact this
theorem zdm {x y:ByteArray}(h:1<=x.size):bAt (x++y) 0=bAt x 0:=zep _ _ _ h
theorem sz1 (c:UInt8):(⟨#[c]⟩:ByteArray).size=1:=rfl
theorem yabg (ps:List (Nat×ByteArray)):(bAt (recT ps ⟨#[44]⟩) 0=125\/bAt (recT ps ⟨#[44]⟩) 0=44)/\1<=(recT ps ⟨#[44]⟩).size:=by
 cases ps with
 |nil=>exact⟨.inl rfl,xf _⟩
 |cons p ps =>
  rw[recT];have e:1<=(⟨#[44]⟩++(oneB p.1++(⟨#[58]⟩++p.2)):ByteArray).size:=by rw[xe,sz1];omega
  refine⟨.inr ?_,by rw[xe];omega⟩;rw[zdm e,zdm (by rw[sz1];omega)];rfl
theorem zfw {st:Bool}{b:Int}(h:b=93\/b=44\/b=125\/b=-1):DL st b:=by
 rcases h with rfl|rfl|rfl|rfl<;>exact⟨rfl,fun _=>by omega⟩
theorem zi1:∀ (n:Nat) (ty:Ty) (v:Val),okV n ty v->tyG n ty->1<=(txtV n ty v).size/\bAt (txtV n ty v) 0≠93/\(ty.kind≠63->bAt (txtV n ty v) 0≠95)
 |0,ty,v,h,_=>h.elim
 |n+1,ty,v,h,hg=>by
  rcases h with⟨x,rfl,h⟩|⟨s,rfl,h⟩|⟨i,rfl,h⟩|⟨vs,rfl,h⟩|⟨rfl,h⟩|⟨v,rfl,h⟩|⟨vs,rfl,h⟩
  ·rw[zi0];unfold decI;split
   ·have e1:1<=(⟨#[45]⟩:ByteArray).size:=xf _;refine⟨by rw[xe];omega,?_,?_⟩
    ·rw[zdm e1];decide
    ·intro _;rw[zdm e1];decide
   ·have h1:=zgg 18 x.toNat;have h2:=zhu 18 x.toNat 0 (by omega) h1;exact⟨h1,by omega,fun _=>by omega⟩
  ·rw[zg6];have e:bAt (quo++s++quo) 0=34:=by rw[zdm (by rw[xe,zcf];omega),zdm (by rw[zcf];omega)];rfl
   exact⟨by rw[xe,xe,zcf];omega,by omega,fun _=>by omega⟩
  ·rw[zdy];have hl:=zgk ((hg.1 h.1 i h.2.1).1);have e:bAt (oneB (bAt ty.letters i).toNat) 0=bAt ty.letters i:=by rw[zcu _ (by omega)];omega
   exact⟨by rw[zak];omega,by omega,fun _=>by omega⟩
  ·rw[zeb];have e:1<=(zcc 0 (vs.map (txtV n ty.in)) ⟨#[91]⟩).size/\bAt (zcc 0 (vs.map (txtV n ty.in)) ⟨#[91]⟩) 0=91:=by
    cases vs with
    |nil=>exact⟨by show 1<=(⟨#[91]⟩++⟨#[93]⟩:ByteArray).size;decide,rfl⟩
    |cons v vs =>
     rw[xm,zcc,zh6];simp only[xu,if_false];have e1:1<=(⟨#[91]⟩++txtV n ty.in v:ByteArray).size:=by rw[xe,sz1];omega
     refine⟨by rw[xe];omega,?_⟩;rw[zdm e1,zdm (by rw[sz1];omega)];rfl
   exact⟨e.1,by omega,fun _=>by omega⟩
  ·rw[zfr];exact⟨xf _,by decide,fun hk=>absurd h hk⟩
  ·rw[ze9];have:=zi1 n ty.in v h.2 (hg.2.2.1 (.inr h.1));exact⟨this.1,this.2.1,fun hk=>absurd h.1 hk⟩
  ·rw[zdh,zgh,xj];rcases hf:ty.fields with _|⟨g,fs⟩
   ·exact absurd hf h.2.1
   ·rcases vs with _|⟨v,vs⟩
    ·rw[hf]at h;simp at h
    ·rw[xo,xm,recT];have e:∀ y:ByteArray,1<=(⟨#[123]⟩++y:ByteArray).size:=fun y=>by rw[xe,sz1];omega
     have e1:∀ y z:ByteArray,bAt ((⟨#[123]⟩++y:ByteArray)++z) 0=123:=fun y z=>by rw[zdm (e y),zdm (by rw[sz1];omega)];rfl
     rw[e1];exact⟨by rw[xe,xe,sz1];omega,by omega,fun _=>by omega⟩
theorem zn8 {st:Bool}{t:ByteArray}{f:Nat->Option (ByteArray×Nat)}{dv tv:Val->ByteArray}:∀ (us:List Val) (v:Val) (m c b:Nat) (d:ByteArray),us.length<m->(∀ u,u=v\/u∈us->∀ j,At t j (tv u)->DL st (bAt t (j+(tv u).size))->f j=some (dv u,j+(tv u).size)) ->
  At t (b+1) (tv v++sepT (us.map tv))->zbh f t m c b d=some (oneB (c+us.length)++(d++(dv v++catB (us.map dv))),b+1+(tv v++sepT (us.map tv)).size)
 |us,v,0,c,b,d,hm,hf,h=>by omega
 |[],v,m+1,c,b,d,hm,hf,h=>by
  rw[At.app]at h;have h1:bAt t (b+1+(tv v).size)=93:=by rw[at0 h.2 (xf _)];rfl
  rw[zbh,hf v (.inl rfl) (b+1) h.1 (by rw[h1];exact zfw (.inl rfl))];simp only;rw[if_pos h1,xe];simp[catB,sepT];rfl
 |u::us,v,m+1,c,b,d,hm,hf,h=>by
  rw[At.app]at h;have h0:=h;rw[xm,sepT,At.app,sz1]at h0;have h1:bAt t (b+1+(tv v).size)=44:=by rw[at0 h0.2.1 (xf _)];rfl
  rw[zbh,hf v (.inl rfl) (b+1) h.1 (by rw[h1];exact zfw (.inr (.inl rfl)))];simp only;rw[if_neg (by rw[h1];omega),if_pos h1,zn8 us u m (c+1) _ _ (by simp at hm;omega) (fun w hw=>hf w (.inr (by rcases hw with rfl|hw<;>simp[*]))) h0.2.2]
  congr 2
  ·rw[xp,xm,catB,show c+1+us.length=c+(us.length+1) by omega];simp only[xg]
  ·rw[xm,sepT];simp only[xe,sz1];omega
theorem zn3 {st:Bool}{t:ByteArray}{f:Ty->Nat->Option (ByteArray×Nat)}{dv:Val->ByteArray}{tv:Ty->Val->ByteArray}:∀ (fs:List (Nat×Ty×ByteArray)) (vs:List Val) (mk:UInt8) (b:Nat) (d:ByteArray),vs.length=fs.length->(∀ g∈fs,g.1<256) ->
  (∀ p∈fs.zip vs,∀ j,At t j (tv p.1.2.1 p.2)->DL st (bAt t (j+(tv p.1.2.1 p.2).size))->f p.1.2.1 j=some (dv p.2,j+(tv p.1.2.1 p.2).size)) ->
  At t b (recT ((fs.zip vs).map fun p=>(p.1.1,tv p.1.2.1 p.2)) ⟨#[mk]⟩)->za0 f t fs (mk.toNat:Int) b d=some (d++catB (vs.map dv),b+(recT ((fs.zip vs).map fun p=>(p.1.1,tv p.1.2.1 p.2)) ⟨#[mk]⟩).size)\/fs=[]
 |[],vs,mk,b,d,hl,hg,hf,h=>.inr rfl
 |g::fs,[],mk,b,d,hl,hg,hf,h=>by simp at hl
 |g::fs,v::vs,mk,b,d,hl,hg,hf,h=>by
  left;simp only[xo,xm,recT]at h ⊢;have h256:=hg g (by simp);have h0:=h;rw[At.app,At.app,At.app,At.app,At.one h256]at h0;simp only[xe,sz1,zak]at h0;obtain⟨⟨h1,h2,h3,h4⟩,h5⟩:=h0;have b0:bAt t b=(mk.toNat:Int):=by rw[at0 h1 (xf _)];rfl
  have b2:bAt t (b+2)=58:=by have:=at0 h3 (xf _);rw[show b+1+1=b+2 by omega]at this;rw[this];rfl
  have hfirst:=yabg ((fs.zip vs).map fun p=>(p.1.1,tv p.1.2.1 p.2));rw[show b+1+1+1=b+3 by omega]at h4;rw[show b+(1+(1+(1+(tv g.2.1 v).size)))=b+3+(tv g.2.1 v).size by omega]at h5;have hnext:bAt t (b+3+(tv g.2.1 v).size)=125\/bAt t (b+3+(tv g.2.1 v).size)=44:=by rw[at0 h5 hfirst.2];exact hfirst.1
  rw[za0,if_pos ⟨b0,h2,b2⟩,hf (g,v) (by simp) (b+3) h4 (zfw (by rcases hnext with h|h;exact .inr (.inr (.inl h));exact .inr (.inl h)))];simp only;have hsz:(⟨#[mk]⟩++(oneB g.1++(⟨#[58]⟩++tv g.2.1 v))++recT ((fs.zip vs).map fun p=>(p.1.1,tv p.1.2.1 p.2)) ⟨#[44]⟩:ByteArray).size=3+(tv g.2.1 v).size+(recT ((fs.zip vs).map fun p=>(p.1.1,tv p.1.2.1 p.2)) ⟨#[44]⟩).size:=by
   simp only[xe,sz1,zak];omega
  rw[hsz];rcases zn3 (st:=st) fs vs 44 (b+3+(tv g.2.1 v).size) (d++dv v) (by simpa using hl) (fun g' h'=>hg g' (by simp[h'])) (fun p hp=>hf p (by simp[hp])) h5 with e|e
  ·rw[show ((44:UInt8).toNat:Int)=44 from rfl]at e;rw[e,catB]
   congr 2
   ·simp only[xg]
   ·omega
  ·subst e;obtain rfl:vs=[]:=by simpa using hl
   have h125:bAt t (b+3+(tv g.2.1 v).size)=125:=by rw[at0 h5 hfirst.2];rfl
   rw[za0,if_pos h125];simp only[List.zip_nil_left,xv,recT,catB,sz1,ByteArray.append_empty]
   congr 2
   omega
theorem zka {st:Bool}{t:ByteArray}:∀ (n:Nat) (ty:Ty) (v:Val) (j:Nat),okV n ty v->tyG n ty->At t j (txtV n ty v)->DL st (bAt t (j+(txtV n ty v).size))->enc st t n ty j=some (datV n v,j+(txtV n ty v).size)
 |0,ty,v,j,hv,_,_,_=>hv.elim
 |n+1,ty,v,j,hv,hg,h,hd=>by
  have ih:=zka (st:=st) (t:=t) n;have hv0:=hv;rcases hv with⟨x,rfl,hv⟩|⟨s,rfl,hv⟩|⟨i,rfl,hv⟩|⟨vs,rfl,hv⟩|⟨rfl,hv⟩|⟨v,rfl,hv⟩|⟨vs,rfl,hv⟩
  ·rw[zi0]at h hd ⊢;rw[zj1];rcases hv with⟨hk,h1,h2⟩|⟨hk,h1,h2⟩
   ·rw[enc,if_pos hk,zoc (by omega) (by omega) h1 h2 h hd]
   ·rw[enc,if_neg (by omega),if_pos hk,zoc (by omega) (by omega) h1 h2 h hd]
  ·rw[zg6]at h hd ⊢;rw[zht,enc,if_neg (by omega),if_neg (by omega),if_pos hv.1,zwe hv.2.1 hv.2.2 h]
  ·have hl:=hg.1 hv.1 i hv.2.1;have hl2:=zgk hl.1;rw[zdy]at h hd ⊢;rw[At.one (by omega)]at h;rw[zhr,enc,if_neg (by omega),if_neg (by omega),if_neg (by omega),if_pos hv.1];have hb:bAt t j=bAt ty.letters i:=by omega
   rw[hb,zzo hv.2.1 hl.2,if_neg (by omega),zak];rfl
  ·rw[zeb]at h hd ⊢;rw[zge,enc,if_neg (by omega),if_neg (by omega),if_neg (by omega),if_neg (by omega),if_pos hv.1];unfold zb1;cases vs with
   |nil =>
    simp only[xv,zcc]at h hd ⊢;rw[At.app,sz1]at h;have b0:bAt t j=91:=by rw[at0 h.1 (xf _)];rfl
    have b1:bAt t (j+1)=93:=by rw[at0 h.2 (xf _)];rfl
    rw[if_pos b0,if_pos b1];simp[catB];rfl
   |cons v vs =>
    simp only[xm,zcc,zh6,xu,if_false,xg]at h hd ⊢;rw[At.app,sz1]at h;have b0:bAt t j=91:=by rw[at0 h.1 (xf _)];rfl
    have hf:=zi1 n ty.in v (hv.2.2 v (by simp)) (hg.2.2.1 (.inl hv.1));have b1:bAt t (j+1)≠93:=by rw[at0 (At.app.1 h.2).1 hf.1];exact hf.2.1
    have hl16:vs.length<16:=by have:=hv.2.1;simp at this;omega
    rw[if_pos b0,if_neg b1,zn8 (st:=st) (dv:=datV n) (tv:=txtV n ty.in) vs v 16 1 j _ hl16 (fun u hu j h hd=>ih ty.in u j (hv.2.2 u (by rcases hu with rfl|hu<;>simp[*])) (hg.2.2.1 (.inl hv.1)) h hd) h.2];rw[xe (a:=⟨#[91]⟩),sz1,xp,catB,xj,Nat.add_comm 1 vs.length,Nat.add_assoc]
  ·rw[zfr]at h hd ⊢;have b0:bAt t j=95:=by rw[at0 h (xf _)];rfl
   rw[zhs,enc,if_neg (by omega),if_neg (by omega),if_neg (by omega),if_neg (by omega),if_neg (by omega),if_pos hv];unfold zbq;rw[if_pos b0];rfl
  ·rw[ze9]at h hd ⊢;have hgi:=hg.2.2.1 (.inr hv.1);have hf:=zi1 n ty.in v hv.2 hgi;have b0:bAt t j≠95:=by rw[at0 h hf.1];exact hf.2.2 (hg.2.1 hv.1)
   rw[zgf,enc,if_neg (by omega),if_neg (by omega),if_neg (by omega),if_neg (by omega),if_neg (by omega),if_pos hv.1];unfold zbq;rw[if_neg b0,ih ty.in v j hv.2 hgi h hd]
  ·rw[zdh,zgh,xj]at h hd ⊢;rw[zeg,enc,if_neg (by omega),if_neg (by omega),if_neg (by omega),if_neg (by omega),if_neg (by omega),if_neg (by omega),if_pos hv.1];rcases zn3 (st:=st) (t:=t) (f:=enc st t n) (dv:=datV n) (tv:=txtV n) ty.fields vs 123 j xq hv.2.2.1 (fun g hg'=>(hg.2.2.2 g hg').1) (fun p hp j h hd=>ih p.1.2.1 p.2 j (hv.2.2.2 p hp) (hg.2.2.2 p.1 (List.of_mem_zip (a:=p.1) (b:=p.2) hp).1).2 h hd) h with e|e
   ·rw[show ((123:UInt8).toNat:Int)=123 from rfl]at e;rw[e,xj]
   ·exact absurd e hv.2.1
section
end
section
end
section
theorem zyl {d:ByteArray}(h:1<=d.size):d.toList.isEmpty=false:=by
 rw[xy];cases hl:d.data.toList with
 |nil =>
  have h2:d.data.size=0:=by rw[<- Array.length_toList,hl];rfl
  have h3:d.size=d.data.size:=rfl;omega
 |cons _ _=>rfl
end
section
end
section
end
end Go.Proofs.YtkkekopomiehlabGreatDoor
