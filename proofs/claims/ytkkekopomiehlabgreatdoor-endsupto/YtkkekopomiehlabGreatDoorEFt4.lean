import Derived.Test.YtkkekopomiehlabGreatDoorEEq3
set_option linter.unusedVariables false
set_option linter.unusedSimpArgs false
set_option maxHeartbeats 40000000
set_option maxRecDepth 4000
open ByteArray renaming size_append->xe,empty_append->xo,append_assoc->xp,empty->xq,size_extract->qo
open List renaming map_cons->xf,not_mem_nil->xh,zip_cons_cons->xj,mem_cons->xu,mem_of_getElem?->qf,length_cons->qh,map_nil->qn
open Nat renaming add_zero->xg,le_refl->xm,zero_le->qd,lt_irrefl->qg,add_assoc->qk,zero_add->qm
open Option.some renaming injEq->xv
open Option renaming map_eq_none_iff->xy,map_map->qe
open Classical renaming byContradiction->xz
open Bool renaming and_eq_true->qi
open Prod.mk renaming injEq->qj
open Go.Op renaming stringOp->qp
open Go.ByteArray renaming toList_eq->qq
open Prod renaming ext->qu
open Go.RowKit
namespace Go.Proofs.YtkkekopomiehlabGreatDoor
section
theorem bx (w:World)(o o2:Obj):Below w.heap.size w ((w.alloc o).alloc o2):=((Below.refl _ _).alloc (xm _) _).alloc (by simp) _
theorem kp10 {W w1:World}(hb:Below W.heap.size W w1){b c:Nat}{v0 v1 v2 v3 v4 u0 u1 u2 u3 u4:Value}(h:W.cell? ⟨b,0,none⟩=some v0/\W.cell? ⟨b,1,none⟩=some v1/\W.cell? ⟨b,2,none⟩=some v2/\W.cell? ⟨b,3,none⟩=some v3/\W.cell? ⟨b,4,none⟩=some v4/\W.cell? ⟨c,0,none⟩=some u0/\W.cell? ⟨c,1,none⟩=some u1/\W.cell? ⟨c,2,none⟩=some u2/\W.cell? ⟨c,3,none⟩=some u3/\W.cell? ⟨c,4,none⟩=some u4) :
  w1.cell? ⟨b,0,none⟩=some v0/\w1.cell? ⟨b,1,none⟩=some v1/\w1.cell? ⟨b,2,none⟩=some v2/\w1.cell? ⟨b,3,none⟩=some v3/\w1.cell? ⟨b,4,none⟩=some v4/\w1.cell? ⟨c,0,none⟩=some u0/\w1.cell? ⟨c,1,none⟩=some u1/\w1.cell? ⟨c,2,none⟩=some u2/\w1.cell? ⟨c,3,none⟩=some u3/\w1.cell? ⟨c,4,none⟩=some u4:=by
 obtain⟨h0,h1,h2,h3,h4,k0,k1,k2,k3,k4⟩:=h;exact⟨zab hb h0,zab hb h1,zab hb h2,zab hb h3,zab hb h4,zab hb k0,zab hb k1,zab hb k2,zab hb k3,zab hb k4⟩
theorem bx2 (w:World)(x r:Ty)(ai:Option Addr)(li ci:Nat)(af:Option Addr)(lf cf:Nat)(bi:Option Addr)(mi di:Nat)(bf:Option Addr)(mf df:Nat) :
  ((w.alloc (.cells #[.int .i64 x.kind,.string x.letters,.bool x.op,.slice ai li ci,.slice af lf cf] 201)).alloc (.cells #[.int .i64 r.kind,.string r.letters,.bool r.op,.slice bi mi di,.slice bf mf df] 201)).cell? ⟨w.heap.size,0,none⟩=some (.int .i64 x.kind)/\((w.alloc (.cells #[.int .i64 x.kind,.string x.letters,.bool x.op,.slice ai li ci,.slice af lf cf] 201)).alloc (.cells #[.int .i64 r.kind,.string r.letters,.bool r.op,.slice bi mi di,.slice bf mf df] 201)).cell? ⟨w.heap.size,1,none⟩=some (.string x.letters)/\((w.alloc (.cells #[.int .i64 x.kind,.string x.letters,.bool x.op,.slice ai li ci,.slice af lf cf] 201)).alloc (.cells #[.int .i64 r.kind,.string r.letters,.bool r.op,.slice bi mi di,.slice bf mf df] 201)).cell? ⟨w.heap.size,2,none⟩=some (.bool x.op)/\((w.alloc (.cells #[.int .i64 x.kind,.string x.letters,.bool x.op,.slice ai li ci,.slice af lf cf] 201)).alloc (.cells #[.int .i64 r.kind,.string r.letters,.bool r.op,.slice bi mi di,.slice bf mf df] 201)).cell? ⟨w.heap.size,3,none⟩=some (.slice ai li ci)/\((w.alloc (.cells #[.int .i64 x.kind,.string x.letters,.bool x.op,.slice ai li ci,.slice af lf cf] 201)).alloc (.cells #[.int .i64 r.kind,.string r.letters,.bool r.op,.slice bi mi di,.slice bf mf df] 201)).cell? ⟨w.heap.size,4,none⟩=some (.slice af lf cf)/\((w.alloc (.cells #[.int .i64 x.kind,.string x.letters,.bool x.op,.slice ai li ci,.slice af lf cf] 201)).alloc (.cells #[.int .i64 r.kind,.string r.letters,.bool r.op,.slice bi mi di,.slice bf mf df] 201)).cell? ⟨w.heap.size+1,0,none⟩=some (.int .i64 r.kind)/\((w.alloc (.cells #[.int .i64 x.kind,.string x.letters,.bool x.op,.slice ai li ci,.slice af lf cf] 201)).alloc (.cells #[.int .i64 r.kind,.string r.letters,.bool r.op,.slice bi mi di,.slice bf mf df] 201)).cell? ⟨w.heap.size+1,1,none⟩=some (.string r.letters)/\((w.alloc (.cells #[.int .i64 x.kind,.string x.letters,.bool x.op,.slice ai li ci,.slice af lf cf] 201)).alloc (.cells #[.int .i64 r.kind,.string r.letters,.bool r.op,.slice bi mi di,.slice bf mf df] 201)).cell? ⟨w.heap.size+1,2,none⟩=some (.bool r.op)/\((w.alloc (.cells #[.int .i64 x.kind,.string x.letters,.bool x.op,.slice ai li ci,.slice af lf cf] 201)).alloc (.cells #[.int .i64 r.kind,.string r.letters,.bool r.op,.slice bi mi di,.slice bf mf df] 201)).cell? ⟨w.heap.size+1,3,none⟩=some (.slice bi mi di)/\((w.alloc (.cells #[.int .i64 x.kind,.string x.letters,.bool x.op,.slice ai li ci,.slice af lf cf] 201)).alloc (.cells #[.int .i64 r.kind,.string r.letters,.bool r.op,.slice bi mi di,.slice bf mf df] 201)).cell? ⟨w.heap.size+1,4,none⟩=some (.slice bf mf df):=by
 have h:(w.alloc (.cells #[.int .i64 x.kind,.string x.letters,.bool x.op,.slice ai li ci,.slice af lf cf] 201)).heap.size=w.heap.size+1:=by simp
 refine⟨zah _ (zam rfl rfl),zah _ (zam rfl rfl),zah _ (zam rfl rfl),zah _ (zam rfl rfl),zah _ (zam rfl rfl),?_⟩;rw[<- h];exact⟨zam rfl rfl,zam rfl rfl,zam rfl rfl,zam rfl rfl,zam rfl rfl⟩
theorem yaed (x r:Ty)(w:World)(ai:Option Addr)(li ci:Nat)(af:Option Addr)(lf cf:Nat)(bi:Option Addr)(mi di:Nat)(bf:Option Addr)(mf df:Nat)(t:ByteArray)(b:Bool)
  (h1:((x.kind:Int) == 63)=true) (h2:((r.kind:Int) == 63)=true) (nw nr:Nat) (hin:∀ W,Below w.heap.size w W->Calls Tryz.prog 194 #[.agg #[.int .i64 x.kind,.string x.letters,.bool x.op,.slice ai li ci,.slice af lf cf]] W fun e w'=>∃ p1 p2 p3 p4 p5 p6,e=.returned (.agg #[.int .i64 x.in.kind,.string x.in.letters,.bool x.in.op,.slice p1 p2 p3,.slice p4 p5 p6])/\Rep nw w' p1 p2 p3 p4 p5 p6 x.in/\Below W.heap.size W w') (hin2:∀ W,Below w.heap.size w W->Calls Tryz.prog 194 #[.agg #[.int .i64 r.kind,.string r.letters,.bool r.op,.slice bi mi di,.slice bf mf df]] W fun e w'=>∃ p1 p2 p3 p4 p5 p6,e=.returned (.agg #[.int .i64 r.in.kind,.string r.in.letters,.bool r.in.op,.slice p1 p2 p3,.slice p4 p5 p6])/\Rep nr w' p1 p2 p3 p4 p5 p6 r.in/\Below W.heap.size W w') (hcall:∀ (W:World) (p1:Option Addr) (p2 p3:Nat) (p4:Option Addr) (p5 p6:Nat) (q1:Option Addr) (q2 q3:Nat) (q4:Option Addr) (q5 q6:Nat),Below w.heap.size w W->Rep nw W p1 p2 p3 p4 p5 p6 x.in->Rep nr W q1 q2 q3 q4 q5 q6 r.in->Calls Tryz.prog 179 #[.agg #[.int .i64 x.in.kind,.string x.in.letters,.bool x.in.op,.slice p1 p2 p3,.slice p4 p5 p6],.agg #[.int .i64 r.in.kind,.string r.in.letters,.bool r.in.op,.slice q1 q2 q3,.slice q4 q5 q6]] W fun e w'=>e=.returned (.tuple #[.string t,.bool b])/\Below W.heap.size W w') :
  Calls Tryz.prog 179 #[.agg #[.int .i64 x.kind,.string x.letters,.bool x.op,.slice ai li ci,.slice af lf cf],.agg #[.int .i64 r.kind,.string r.letters,.bool r.op,.slice bi mi di,.slice bf mf df]] w fun e w'=>e=.returned (.tuple #[.string t,.bool b])/\Below w.heap.size w w':=by
 have e0:=bx2 w x r ai li ci af lf cf bi mi di bf mf df
 go_enter Tryz.func179,Tryz.ntmps179
 go_wp2_with fail
 go_region_held3 (fun w'=>w'.cell? ⟨w.heap.size,0,none⟩=some (.int .i64 x.kind)/\w'.cell? ⟨w.heap.size,1,none⟩=some (.string x.letters)/\w'.cell? ⟨w.heap.size,2,none⟩=some (.bool x.op)/\w'.cell? ⟨w.heap.size,3,none⟩=some (.slice ai li ci)/\w'.cell? ⟨w.heap.size,4,none⟩=some (.slice af lf cf)/\w'.cell? ⟨w.heap.size+1,0,none⟩=some (.int .i64 r.kind)/\w'.cell? ⟨w.heap.size+1,1,none⟩=some (.string r.letters)/\w'.cell? ⟨w.heap.size+1,2,none⟩=some (.bool r.op)/\w'.cell? ⟨w.heap.size+1,3,none⟩=some (.slice bi mi di)/\w'.cell? ⟨w.heap.size+1,4,none⟩=some (.slice bf mf df)) (go_keep) (first|(go_at_call 194;have hq:=hb1;refine(hin2 _ (by first|exact thn2 (bx w _ _).drew hb1|exact thn2 (bx w _ _) hb1)).mono ?_;rintro e w2 ⟨q1,q2,q3,q4,q5,q6,rfl,hr2,hb2⟩;have e2:=kp10 hb2 e1)|(go_at_call 194;refine(hin _ (by first|exact(bx w _ _).drew|exact bx w _ _)).mono ?_;rintro e w1 ⟨p1,p2,p3,p4,p5,p6,rfl,hr1,hb1⟩;have e1:=kp10 hb1 e0)|(go_at_call 179;refine(hcall _ _ _ _ _ _ _ _ _ _ _ _ _ (by first|exact thn2 (thn2 (bx w _ _).drew hb1) hb2|exact thn2 (thn2 (bx w _ _) hb1) hb2) (hr1.keep hb2) hr2).mono ?_;rintro e w3 ⟨rfl,hb3⟩;have e3:=kp10 hb3 e2))
 go_wp2_with fail
 go_ret2
 exact⟨rfl,thn2 (thn2 (thn2 (bx w _ _).drew hb1) hb2) hb3⟩
theorem yaej (x r:Ty)(w:World)(ai:Option Addr)(li ci:Nat)(af:Option Addr)(lf cf:Nat)(bi:Option Addr)(mi di:Nat)(bf:Option Addr)(mf df:Nat)(t:ByteArray)(b:Bool)
  (h1:((x.kind:Int) == 63)=false) (h2:((r.kind:Int) == 63)=true) (nr:Nat) (hin:∀ W,Below w.heap.size w W->Calls Tryz.prog 194 #[.agg #[.int .i64 r.kind,.string r.letters,.bool r.op,.slice bi mi di,.slice bf mf df]] W fun e w'=>∃ p1 p2 p3 p4 p5 p6,e=.returned (.agg #[.int .i64 r.in.kind,.string r.in.letters,.bool r.in.op,.slice p1 p2 p3,.slice p4 p5 p6])/\Rep nr w' p1 p2 p3 p4 p5 p6 r.in/\Below W.heap.size W w') (hcall:∀ (W:World) (p1:Option Addr) (p2 p3:Nat) (p4:Option Addr) (p5 p6:Nat),Below w.heap.size w W->Rep nr W p1 p2 p3 p4 p5 p6 r.in->Calls Tryz.prog 179 #[.agg #[.int .i64 x.kind,.string x.letters,.bool x.op,.slice ai li ci,.slice af lf cf],.agg #[.int .i64 r.in.kind,.string r.in.letters,.bool r.in.op,.slice p1 p2 p3,.slice p4 p5 p6]] W fun e w'=>e=.returned (.tuple #[.string t,.bool b])/\Below W.heap.size W w') :
  Calls Tryz.prog 179 #[.agg #[.int .i64 x.kind,.string x.letters,.bool x.op,.slice ai li ci,.slice af lf cf],.agg #[.int .i64 r.kind,.string r.letters,.bool r.op,.slice bi mi di,.slice bf mf df]] w fun e w'=>e=.returned (.tuple #[.string t,.bool b])/\Below w.heap.size w w':=by
 have e0:=bx2 w x r ai li ci af lf cf bi mi di bf mf df
 go_enter Tryz.func179,Tryz.ntmps179
 go_wp2_with fail
 go_region_held3 (fun w'=>w'.cell? ⟨w.heap.size,0,none⟩=some (.int .i64 x.kind)/\w'.cell? ⟨w.heap.size,1,none⟩=some (.string x.letters)/\w'.cell? ⟨w.heap.size,2,none⟩=some (.bool x.op)/\w'.cell? ⟨w.heap.size,3,none⟩=some (.slice ai li ci)/\w'.cell? ⟨w.heap.size,4,none⟩=some (.slice af lf cf)/\w'.cell? ⟨w.heap.size+1,0,none⟩=some (.int .i64 r.kind)/\w'.cell? ⟨w.heap.size+1,1,none⟩=some (.string r.letters)/\w'.cell? ⟨w.heap.size+1,2,none⟩=some (.bool r.op)/\w'.cell? ⟨w.heap.size+1,3,none⟩=some (.slice bi mi di)/\w'.cell? ⟨w.heap.size+1,4,none⟩=some (.slice bf mf df)) (go_keep) (first|(go_at_call 194;refine(hin _ (by first|exact(bx w _ _).drew|exact bx w _ _)).mono ?_;rintro e w1 ⟨p1,p2,p3,p4,p5,p6,rfl,hr1,hb1⟩;have e1:=kp10 hb1 e0)|(go_at_call 179;refine(hcall _ _ _ _ _ _ _ (by first|exact thn2 (bx w _ _).drew hb1|exact thn2 (bx w _ _) hb1) hr1).mono ?_;rintro e w2 ⟨rfl,hb2⟩;have e2:=kp10 hb2 e1))
 go_wp2_with fail
 go_ret2
 exact⟨rfl,thn2 (thn2 (bx w _ _).drew hb1) hb2⟩
theorem yaef (x r:Ty)(w:World)(ai:Option Addr)(li ci:Nat)(af:Option Addr)(lf cf:Nat)(bi:Option Addr)(mi di:Nat)(bf:Option Addr)(mf df:Nat)(t:ByteArray)(b:Bool)
  (h1:((x.kind:Int) == 63)=true) (h2:((r.kind:Int) == 63)=false) (hs:zax x.kind r.kind=false) (h3:((x.kind:Int) != (r.kind:Int))=true) (hb:b=true) (hcall:∀ (W:World) ,Below w.heap.size w W-> Calls Tryz.prog 228 #[.agg #[.int .i64 x.kind,.string x.letters,.bool x.op,.slice ai li ci,.slice af lf cf]] W fun e w'=>e=.returned (.string t)/\Below W.heap.size W w') :
  Calls Tryz.prog 179 #[.agg #[.int .i64 x.kind,.string x.letters,.bool x.op,.slice ai li ci,.slice af lf cf],.agg #[.int .i64 r.kind,.string r.letters,.bool r.op,.slice bi mi di,.slice bf mf df]] w fun e w'=>e=.returned (.tuple #[.string t,.bool b])/\Below w.heap.size w w':=by
 have e0:=bx2 w x r ai li ci af lf cf bi mi di bf mf df
 go_enter Tryz.func179,Tryz.ntmps179
 subst hb
 go_wp2_with (first|(go_at_call 195;refine(zdg _ _ _).mono ?_;rintro e _ ⟨rfl,rfl⟩;rw[hs])|(go_at_call 228;refine(hcall _ (bx w _ _)).mono ?_;rintro e w1 ⟨rfl,hb1⟩))
 go_ret2
 exact⟨rfl,thn2 (bx w _ _) hb1⟩
theorem yaek (x r:Ty)(w:World)(ai:Option Addr)(li ci:Nat)(af:Option Addr)(lf cf:Nat)(bi:Option Addr)(mi di:Nat)(bf:Option Addr)(mf df:Nat)(t:ByteArray)(b:Bool)
  (h1:((x.kind:Int) == 63)=false) (h2:((r.kind:Int) == 63)=false) (hs:zax x.kind r.kind=true) (ht:t=xq) (hb:b=false) :
  Calls Tryz.prog 179 #[.agg #[.int .i64 x.kind,.string x.letters,.bool x.op,.slice ai li ci,.slice af lf cf],.agg #[.int .i64 r.kind,.string r.letters,.bool r.op,.slice bi mi di,.slice bf mf df]] w fun e w'=>e=.returned (.tuple #[.string t,.bool b])/\Below w.heap.size w w':=by
 have e0:=bx2 w x r ai li ci af lf cf bi mi di bf mf df
 go_enter Tryz.func179,Tryz.ntmps179
 subst ht hb
 go_wp2_with (first|(go_at_call 195;refine(zdg _ _ _).mono ?_;rintro e _ ⟨rfl,rfl⟩;rw[hs]))
 go_ret2
 exact⟨rfl,bx w _ _⟩
theorem yaeg (x r:Ty)(w:World)(ai:Option Addr)(li ci:Nat)(af:Option Addr)(lf cf:Nat)(bi:Option Addr)(mi di:Nat)(bf:Option Addr)(mf df:Nat)(t:ByteArray)(b:Bool)
  (h1:((x.kind:Int) == 63)=false) (h2:((r.kind:Int) == 63)=false) (hs:zax x.kind r.kind=false) (h3:((x.kind:Int) != (r.kind:Int))=true) (hb:b=true) (hcall:∀ (W:World) ,Below w.heap.size w W-> Calls Tryz.prog 228 #[.agg #[.int .i64 x.kind,.string x.letters,.bool x.op,.slice ai li ci,.slice af lf cf]] W fun e w'=>e=.returned (.string t)/\Below W.heap.size W w') :
  Calls Tryz.prog 179 #[.agg #[.int .i64 x.kind,.string x.letters,.bool x.op,.slice ai li ci,.slice af lf cf],.agg #[.int .i64 r.kind,.string r.letters,.bool r.op,.slice bi mi di,.slice bf mf df]] w fun e w'=>e=.returned (.tuple #[.string t,.bool b])/\Below w.heap.size w w':=by
 have e0:=bx2 w x r ai li ci af lf cf bi mi di bf mf df
 go_enter Tryz.func179,Tryz.ntmps179
 subst hb
 go_wp2_with (first|(go_at_call 195;refine(zdg _ _ _).mono ?_;rintro e _ ⟨rfl,rfl⟩;rw[hs])|(go_at_call 228;refine(hcall _ (bx w _ _)).mono ?_;rintro e w1 ⟨rfl,hb1⟩))
 go_ret2
 exact⟨rfl,thn2 (bx w _ _) hb1⟩
theorem yaee (x r:Ty)(w:World)(ai:Option Addr)(li ci:Nat)(af:Option Addr)(lf cf:Nat)(bi:Option Addr)(mi di:Nat)(bf:Option Addr)(mf df:Nat)(t:ByteArray)(b:Bool)
  (h1:((x.kind:Int) == 63)=false) (h2:((r.kind:Int) == 63)=false) (hs:zax x.kind r.kind=false) (h3:((x.kind:Int) != (r.kind:Int))=false) (k60:((x.kind:Int) == 60)=true) (hcall:∀ (W:World) ,Below w.heap.size w W-> Calls Tryz.prog 229 #[.agg #[.int .i64 x.kind,.string x.letters,.bool x.op,.slice ai li ci,.slice af lf cf],.agg #[.int .i64 r.kind,.string r.letters,.bool r.op,.slice bi mi di,.slice bf mf df]] W fun e w'=>e=.returned (.tuple #[.string t,.bool b])/\Below W.heap.size W w') :
  Calls Tryz.prog 179 #[.agg #[.int .i64 x.kind,.string x.letters,.bool x.op,.slice ai li ci,.slice af lf cf],.agg #[.int .i64 r.kind,.string r.letters,.bool r.op,.slice bi mi di,.slice bf mf df]] w fun e w'=>e=.returned (.tuple #[.string t,.bool b])/\Below w.heap.size w w':=by
 have e0:=bx2 w x r ai li ci af lf cf bi mi di bf mf df
 go_enter Tryz.func179,Tryz.ntmps179
 go_wp2_with (first|(go_at_call 195;refine(zdg _ _ _).mono ?_;rintro e _ ⟨rfl,rfl⟩;rw[hs])|(go_at_call 229;refine(hcall _ (bx w _ _)).mono ?_;rintro e w1 ⟨rfl,hb1⟩))
 go_ret2
 exact⟨rfl,thn2 (bx w _ _) hb1⟩
theorem yaeh (x r:Ty)(w:World)(ai:Option Addr)(li ci:Nat)(af:Option Addr)(lf cf:Nat)(bi:Option Addr)(mi di:Nat)(bf:Option Addr)(mf df:Nat)(t:ByteArray)(b:Bool)
  (h1:((x.kind:Int) == 63)=false) (h2:((r.kind:Int) == 63)=false) (hs:zax x.kind r.kind=false) (h3:((x.kind:Int) != (r.kind:Int))=false) (k60:((x.kind:Int) == 60)=false) (k91:((x.kind:Int) == 91)=true) (nw nr:Nat) (hin:∀ W,Below w.heap.size w W->Calls Tryz.prog 194 #[.agg #[.int .i64 x.kind,.string x.letters,.bool x.op,.slice ai li ci,.slice af lf cf]] W fun e w'=>∃ p1 p2 p3 p4 p5 p6,e=.returned (.agg #[.int .i64 x.in.kind,.string x.in.letters,.bool x.in.op,.slice p1 p2 p3,.slice p4 p5 p6])/\Rep nw w' p1 p2 p3 p4 p5 p6 x.in/\Below W.heap.size W w') (hin2:∀ W,Below w.heap.size w W->Calls Tryz.prog 194 #[.agg #[.int .i64 r.kind,.string r.letters,.bool r.op,.slice bi mi di,.slice bf mf df]] W fun e w'=>∃ p1 p2 p3 p4 p5 p6,e=.returned (.agg #[.int .i64 r.in.kind,.string r.in.letters,.bool r.in.op,.slice p1 p2 p3,.slice p4 p5 p6])/\Rep nr w' p1 p2 p3 p4 p5 p6 r.in/\Below W.heap.size W w') (hcall:∀ (W:World) (p1:Option Addr) (p2 p3:Nat) (p4:Option Addr) (p5 p6:Nat) (q1:Option Addr) (q2 q3:Nat) (q4:Option Addr) (q5 q6:Nat),Below w.heap.size w W->Rep nw W p1 p2 p3 p4 p5 p6 x.in->Rep nr W q1 q2 q3 q4 q5 q6 r.in->Calls Tryz.prog 230 #[.agg #[.int .i64 x.in.kind,.string x.in.letters,.bool x.in.op,.slice p1 p2 p3,.slice p4 p5 p6],.agg #[.int .i64 r.in.kind,.string r.in.letters,.bool r.in.op,.slice q1 q2 q3,.slice q4 q5 q6]] W fun e w'=>e=.returned (.tuple #[.string t,.bool b])/\Below W.heap.size W w') :
  Calls Tryz.prog 179 #[.agg #[.int .i64 x.kind,.string x.letters,.bool x.op,.slice ai li ci,.slice af lf cf],.agg #[.int .i64 r.kind,.string r.letters,.bool r.op,.slice bi mi di,.slice bf mf df]] w fun e w'=>e=.returned (.tuple #[.string t,.bool b])/\Below w.heap.size w w':=by
 have e0:=bx2 w x r ai li ci af lf cf bi mi di bf mf df
 go_enter Tryz.func179,Tryz.ntmps179
 go_wp2_with (first|(go_at_call 195;refine(zdg _ _ _).mono ?_;rintro e _ ⟨rfl,rfl⟩;rw[hs]))
 go_region_held3 (fun w'=>w'.cell? ⟨w.heap.size,0,none⟩=some (.int .i64 x.kind)/\w'.cell? ⟨w.heap.size,1,none⟩=some (.string x.letters)/\w'.cell? ⟨w.heap.size,2,none⟩=some (.bool x.op)/\w'.cell? ⟨w.heap.size,3,none⟩=some (.slice ai li ci)/\w'.cell? ⟨w.heap.size,4,none⟩=some (.slice af lf cf)/\w'.cell? ⟨w.heap.size+1,0,none⟩=some (.int .i64 r.kind)/\w'.cell? ⟨w.heap.size+1,1,none⟩=some (.string r.letters)/\w'.cell? ⟨w.heap.size+1,2,none⟩=some (.bool r.op)/\w'.cell? ⟨w.heap.size+1,3,none⟩=some (.slice bi mi di)/\w'.cell? ⟨w.heap.size+1,4,none⟩=some (.slice bf mf df)) (go_keep) (first|(go_at_call 194;have hq:=hb1;refine(hin2 _ (by first|exact thn2 (bx w _ _).drew hb1|exact thn2 (bx w _ _) hb1)).mono ?_;rintro e w2 ⟨q1,q2,q3,q4,q5,q6,rfl,hr2,hb2⟩;have e2:=kp10 hb2 e1)|(go_at_call 194;refine(hin _ (by first|exact(bx w _ _).drew|exact bx w _ _)).mono ?_;rintro e w1 ⟨p1,p2,p3,p4,p5,p6,rfl,hr1,hb1⟩;have e1:=kp10 hb1 e0)|(go_at_call 230;refine(hcall _ _ _ _ _ _ _ _ _ _ _ _ _ (by first|exact thn2 (thn2 (bx w _ _).drew hb1) hb2|exact thn2 (thn2 (bx w _ _) hb1) hb2) (hr1.keep hb2) hr2).mono ?_;rintro e w3 ⟨rfl,hb3⟩;have e3:=kp10 hb3 e2))
 go_wp2_with fail
 go_ret2
 exact⟨rfl,thn2 (thn2 (thn2 (bx w _ _).drew hb1) hb2) hb3⟩
theorem yaei (x r:Ty)(w:World)(ai:Option Addr)(li ci:Nat)(af:Option Addr)(lf cf:Nat)(bi:Option Addr)(mi di:Nat)(bf:Option Addr)(mf df:Nat)(t:ByteArray)(b:Bool)
  (h1:((x.kind:Int) == 63)=false) (h2:((r.kind:Int) == 63)=false) (hs:zax x.kind r.kind=false) (h3:((x.kind:Int) != (r.kind:Int))=false) (k60:((x.kind:Int) == 60)=false) (k91:((x.kind:Int) == 91)=false) (k123:((x.kind:Int) == 123)=true) (hcall:∀ (W:World) ,Below w.heap.size w W-> Calls Tryz.prog 231 #[.slice af lf cf,.slice bf mf df] W fun e w'=>e=.returned (.tuple #[.string t,.bool b])/\Below W.heap.size W w') :
  Calls Tryz.prog 179 #[.agg #[.int .i64 x.kind,.string x.letters,.bool x.op,.slice ai li ci,.slice af lf cf],.agg #[.int .i64 r.kind,.string r.letters,.bool r.op,.slice bi mi di,.slice bf mf df]] w fun e w'=>e=.returned (.tuple #[.string t,.bool b])/\Below w.heap.size w w':=by
 have e0:=bx2 w x r ai li ci af lf cf bi mi di bf mf df
 go_enter Tryz.func179,Tryz.ntmps179
 go_wp2_with (first|(go_at_call 195;refine(zdg _ _ _).mono ?_;rintro e _ ⟨rfl,rfl⟩;rw[hs])|(go_at_call 231;refine(hcall _ (bx w _ _)).mono ?_;rintro e w1 ⟨rfl,hb1⟩))
 go_ret2
 exact⟨rfl,thn2 (bx w _ _) hb1⟩
end
def tyG:Nat->Ty->Prop
 |0,_=>True
 |n+1,ty=>(ty.kind=60->∀ i,i<ty.letters.size->isL (bAt ty.letters i)=true/\∀ j,j<i->bAt ty.letters j≠bAt ty.letters i)/\(ty.kind=63->ty.in.kind≠63)/\(ty.kind=91\/ty.kind=63->tyG n ty.in)/\∀ f∈ty.fields,f.1<256/\tyG n f.2.1
def DL (st:Bool)(b:Int):Prop:=isD b=false/\(st=true->b≠45)
theorem znf {t:ByteArray}:∀ (m n a:Nat),n<10 ^ (m+1)->At t a (decS m n)->dVal t a (decS m n).size=n
 |0,n,a,hn,h=>by
  rw[decS]at h ⊢;rw[At.one (by omega)]at h;rw[zak,dVal,dVal,xg,h];omega
 |m+1,n,a,hn,h=>by
  rw[decS]at h ⊢;split at h
  ·rw[At.one (by omega)]at h;rw[if_pos (by assumption),zak,dVal,dVal,xg,h];omega
  ·rw[if_neg (by assumption)];rw[At.app,At.one (by omega)]at h;rw[xe,zak,dVal,znf m (n / 10) a (by rw[Nat.pow_succ]at hn;omega) h.1,h.2];omega
theorem zpx {t:ByteArray}{n a:Nat}(hn:n<=1000000000000000)(h:At t a (decS 18 n))(hd:isD (bAt t (a+(decS 18 n).size))=false):pDig t a=some ((n:Int),a+(decS 18 n).size):=by
 have hp:=zgg 18 n;have hl:=zj3 15 18 n (by omega);have hle:=h.le;have e:=zzg (s:=t) (a:=a) (e:=a+(decS 18 n).size) (by omega) hle (fun i h1 h2=>by
  have:=h.2 (i-a) (by omega);rw[show a+(i-a)=i by omega]at this;rw[this];exact zxy (zhu 18 n (i-a) (by omega) (by omega))) hd (by omega) (fun h1=>by
   have h2:=h.2 0 hp;rw[xg]at h2;rw[h2];exact znr 18 n (by omega) (zv1 18 n (by omega) (by omega)))
 rw[e,show a+(decS 18 n).size-a=(decS 18 n).size by omega,znf 18 n a (by omega) h]
theorem zzn {t:ByteArray}{n:Int}{a:Nat}(h1:-1000000000000000<=n)(h2:n<=1000000000000000)(h:At t a (decI n))(hd:isD (bAt t (a+(decI n).size))=false):pNum t a=some (n,a+(decI n).size):=by
 unfold decI at h hd ⊢;by_cases hn:n<0
 ·rw[if_pos hn]at h hd ⊢;rw[At.app]at h;have e1:(⟨#[45]⟩:ByteArray).size=1:=rfl;rw[e1]at h;have h45:bAt t a=45:=by have:=h.1.2 0 (by rw[e1];omega);rw[xg]at this;rw[this];rfl
  rw[xe,e1]at hd ⊢;unfold pNum;rw[if_pos h45,zpx (by omega) h.2 (by rw[show a+1+(decS 18 (-n).toNat).size=a+(1+(decS 18 (-n).toNat).size) by omega];exact hd)];simp only;rw[if_neg (by omega)]
  congr 1
  refine qu ?_ ?_
  ·show -((-n).toNat:Int)=n;omega
  ·show a+1+_=a+(1+_);omega
 ·rw[if_neg hn]at h hd ⊢;have hb:=zhu 18 n.toNat 0 (by omega) (zgg _ _);have h0:=h.2 0 (zgg _ _);rw[xg]at h0;unfold pNum;rw[if_neg (by rw[h0];omega),zpx (by omega) h hd]
  congr 1
  refine qu ?_ rfl;show ((n.toNat:Nat):Int)=n;omega
theorem zoc {st:Bool}{lo hi n:Int}{t:ByteArray}{a:Nat}(hl:-1000000000000000<=lo)(hh:hi<=1000000000000000)(h1:lo<=n)(h2:n<=hi)(h:At t a (decI n))(hd:DL st (bAt t (a+(decI n).size))):zbf st lo hi t a=some (zcp n,a+(decI n).size):=by
 unfold zbf;rw[zzn (by omega) (by omega) h hd.1];simp only;rw[if_neg (by omega),if_neg (fun hc=>hd.2 hc.1 hc.2)]
theorem zmo {s:ByteArray}:∀ (m k:Nat),allS s m k=true->∀ i,i<m->inS (bAt s (k+i))=true
 |0,k,h,i,hi=>by omega
 |m+1,k,h,i,hi=>by
  rw[allS,qi]at h;cases i with
  |zero=>rw[xg];exact h.1
  |succ i=>rw[show k+(i+1)=k+1+i by omega];exact zmo m (k+1) h.2 i (by omega)
theorem zwe {s t:ByteArray}{a:Nat}(h1:s.size<=60)(h2:allS s s.size 0=true)(h:At t a (quo++s++quo)):zb2 t a=some (oneB s.size++s,a+(quo++s++quo).size):=by
 rw[At.app,At.app,xe,zcf]at h;obtain⟨⟨h3,h4⟩,h5⟩:=h;have hq:bAt quo 0=34:=rfl;have a0:bAt t a=34:=by have:=h3.2 0 (by rw[zcf];omega);rw[xg]at this;rw[this];exact hq
 have a1:bAt t (a+1+s.size)=34:=by have:=h5.2 0 (by rw[zcf];omega);rw[xg,show a+(1+s.size)=a+1+s.size by omega]at this;rw[this];exact hq
 have hE:=zlg inS t s.size (a+1) (a+1+s.size) rfl h4.le (fun i hi1 hi2=>by
  have:=h4.2 (i-(a+1)) (by omega);rw[show a+1+(i-(a+1))=i by omega]at this;rw[this];have:=zmo _ _ h2 (i-(a+1)) (by omega);rw[qm]at this;exact this) (by rw[a1];rfl)
 unfold zb2;rw[if_pos a0];simp only;rw[hE,if_pos ⟨a1,by omega⟩,show a+1+s.size-(a+1)=s.size by omega,h4.ext,xe,xe,zcf]
 congr 2;omega
theorem zp6 {l:ByteArray}{c:Int}{i:Nat}(hb:bAt l i=c):∀ (m k:Nat),k<=i->i<k+m->(∀ j,k<=j->j<i->bAt l j≠c)->za6 l c m k=i
 |0,k,h1,h2,h3=>by omega
 |m+1,k,h1,h2,h3=>by
  rw[za6];by_cases hk:k=i
  ·subst hk;rw[if_pos hb]
  ·rw[if_neg (h3 k (xm _) (by omega))];exact zp6 hb m (k+1) (by omega) (by omega) (fun j hj1 hj2=>h3 j (by omega) hj2)
theorem zzo {l:ByteArray}{i:Nat}(hi:i<l.size)(hd:∀ j,j<i->bAt l j≠bAt l i):pOf l (bAt l i)=i:=by
 unfold pOf;exact zp6 rfl l.size 0 (qd _) (by omega) (fun j _ hj=>hd j hj)
def sepT:List ByteArray->ByteArray
 |[]=>⟨#[93]⟩
 |x::xs=>⟨#[44]⟩++(x++sepT xs)
theorem zh6:∀ (xs:List ByteArray) (k:Nat) (t:ByteArray),zcc (k+1) xs t=t++sepT xs
 |[],k,t=>rfl
 |x::xs,k,t=>by
  rw[zcc,if_pos (by omega),zh6 xs (k+1),sepT];simp only[xp]
def recT:List (Nat×ByteArray)->ByteArray->ByteArray
 |[],_=>⟨#[125]⟩
 |p::ps,mk=>(mk++(oneB p.1++(⟨#[58]⟩++p.2)))++recT ps ⟨#[44]⟩
theorem zgh:∀ (ps:List (Nat×ByteArray)) (mk t:ByteArray),zcb ps mk t=t++recT ps mk
 |[],mk,t=>rfl
 |p::ps,mk,t=>by
  rw[zcb,zgh ps,recT];simp only[xp]
theorem at0 {t x:ByteArray}{j:Nat}(h:At t j x)(hx:1<=x.size):bAt t j=bAt x 0:=by
 have:=h.2 0 hx;rw[xg]at this;exact this
theorem zdm {x y:ByteArray}(h:1<=x.size):bAt (x++y) 0=bAt x 0:=zep _ _ _ h
theorem sz1 (c:UInt8):(⟨#[c]⟩:ByteArray).size=1:=rfl
theorem yabg (ps:List (Nat×ByteArray)):(bAt (recT ps ⟨#[44]⟩) 0=125\/bAt (recT ps ⟨#[44]⟩) 0=44)/\1<=(recT ps ⟨#[44]⟩).size:=by
 cases ps with
 |nil=>exact⟨.inl rfl,xm _⟩
 |cons p ps =>
  rw[recT];have e:1<=(⟨#[44]⟩++(oneB p.1++(⟨#[58]⟩++p.2)):ByteArray).size:=by rw[xe,sz1];omega
  refine⟨.inr ?_,by rw[xe];omega⟩;rw[zdm e,zdm (by rw[sz1];omega)];rfl
theorem zfw {st:Bool}{b:Int}(h:b=93\/b=44\/b=125\/b=-1):DL st b:=by
 rcases h with rfl|rfl|rfl|rfl<;>exact⟨rfl,fun _=>by omega⟩
theorem zi1:∀ (n:Nat) (ty:Ty) (v:Val),okV n ty v->tyG n ty->1<=(txtV n ty v).size/\bAt (txtV n ty v) 0≠93/\(ty.kind≠63->bAt (txtV n ty v) 0≠95)
 |0,ty,v,h,_=>h.elim
 |n+1,ty,v,h,hg=>by
  rcases h with⟨x,rfl,h⟩|⟨s,rfl,h⟩|⟨i,rfl,h⟩|⟨vs,rfl,h⟩|⟨rfl,h⟩|⟨v,rfl,h⟩|⟨vs,rfl,h⟩
  ·rw[zi0];unfold decI;split
   ·have e1:1<=(⟨#[45]⟩:ByteArray).size:=xm _;refine⟨by rw[xe];omega,?_,?_⟩
    ·rw[zdm e1];decide
    ·intro _;rw[zdm e1];decide
   ·have h1:=zgg 18 x.toNat;have h2:=zhu 18 x.toNat 0 (by omega) h1;exact⟨h1,by omega,fun _=>by omega⟩
  ·rw[zg6];have e:bAt (quo++s++quo) 0=34:=by rw[zdm (by rw[xe,zcf];omega),zdm (by rw[zcf];omega)];rfl
   exact⟨by rw[xe,xe,zcf];omega,by omega,fun _=>by omega⟩
  ·rw[zdy];have hl:=zgk ((hg.1 h.1 i h.2.1).1);have e:bAt (oneB (bAt ty.letters i).toNat) 0=bAt ty.letters i:=by rw[zcu _ (by omega)];omega
   exact⟨by rw[zak];omega,by omega,fun _=>by omega⟩
  ·rw[zeb];have e:1<=(zcc 0 (vs.map (txtV n ty.in)) ⟨#[91]⟩).size/\bAt (zcc 0 (vs.map (txtV n ty.in)) ⟨#[91]⟩) 0=91:=by
    cases vs with
    |nil=>exact⟨by show 1<=(⟨#[91]⟩++⟨#[93]⟩:ByteArray).size;decide,rfl⟩
    |cons v vs =>
     rw[xf,zcc,zh6];simp only[qg,if_false];have e1:1<=(⟨#[91]⟩++txtV n ty.in v:ByteArray).size:=by rw[xe,sz1];omega
     refine⟨by rw[xe];omega,?_⟩;rw[zdm e1,zdm (by rw[sz1];omega)];rfl
   exact⟨e.1,by omega,fun _=>by omega⟩
  ·rw[zfr];exact⟨xm _,by decide,fun hk=>absurd h hk⟩
  ·rw[ze9];have:=zi1 n ty.in v h.2 (hg.2.2.1 (.inr h.1));exact⟨this.1,this.2.1,fun hk=>absurd h.1 hk⟩
  ·rw[zdh,zgh,xo];rcases hf:ty.fields with _|⟨g,fs⟩
   ·exact absurd hf h.2.1
   ·rcases vs with _|⟨v,vs⟩
    ·rw[hf]at h;simp at h
    ·rw[xj,xf,recT];have e:∀ y:ByteArray,1<=(⟨#[123]⟩++y:ByteArray).size:=fun y=>by rw[xe,sz1];omega
     have e1:∀ y z:ByteArray,bAt ((⟨#[123]⟩++y:ByteArray)++z) 0=123:=fun y z=>by rw[zdm (e y),zdm (by rw[sz1];omega)];rfl
     rw[e1];exact⟨by rw[xe,xe,sz1];omega,by omega,fun _=>by omega⟩
theorem zn8 {st:Bool}{t:ByteArray}{f:Nat->Option (ByteArray×Nat)}{dv tv:Val->ByteArray}:∀ (us:List Val) (v:Val) (m c b:Nat) (d:ByteArray),us.length<m->(∀ u,u=v\/u∈us->∀ j,At t j (tv u)->DL st (bAt t (j+(tv u).size))->f j=some (dv u,j+(tv u).size)) ->
  At t (b+1) (tv v++sepT (us.map tv))->zbh f t m c b d=some (oneB (c+us.length)++(d++(dv v++catB (us.map dv))),b+1+(tv v++sepT (us.map tv)).size)
 |us,v,0,c,b,d,hm,hf,h=>by omega
 |[],v,m+1,c,b,d,hm,hf,h=>by
  rw[At.app]at h;have h1:bAt t (b+1+(tv v).size)=93:=by rw[at0 h.2 (xm _)];rfl
  rw[zbh,hf v (.inl rfl) (b+1) h.1 (by rw[h1];exact zfw (.inl rfl))];simp only;rw[if_pos h1,xe];simp[catB,sepT];rfl
 |u::us,v,m+1,c,b,d,hm,hf,h=>by
  rw[At.app]at h;have h0:=h;rw[xf,sepT,At.app,sz1]at h0;have h1:bAt t (b+1+(tv v).size)=44:=by rw[at0 h0.2.1 (xm _)];rfl
  rw[zbh,hf v (.inl rfl) (b+1) h.1 (by rw[h1];exact zfw (.inr (.inl rfl)))];simp only;rw[if_neg (by rw[h1];omega),if_pos h1,zn8 us u m (c+1) _ _ (by simp at hm;omega) (fun w hw=>hf w (.inr (by rcases hw with rfl|hw<;>simp[*]))) h0.2.2]
  congr 2
  ·rw[qh,xf,catB,show c+1+us.length=c+(us.length+1) by omega];simp only[xp]
  ·rw[xf,sepT];simp only[xe,sz1];omega
theorem zn3 {st:Bool}{t:ByteArray}{f:Ty->Nat->Option (ByteArray×Nat)}{dv:Val->ByteArray}{tv:Ty->Val->ByteArray}:∀ (fs:List (Nat×Ty×ByteArray)) (vs:List Val) (mk:UInt8) (b:Nat) (d:ByteArray),vs.length=fs.length->(∀ g∈fs,g.1<256) ->
  (∀ p∈fs.zip vs,∀ j,At t j (tv p.1.2.1 p.2)->DL st (bAt t (j+(tv p.1.2.1 p.2).size))->f p.1.2.1 j=some (dv p.2,j+(tv p.1.2.1 p.2).size)) ->
  At t b (recT ((fs.zip vs).map fun p=>(p.1.1,tv p.1.2.1 p.2)) ⟨#[mk]⟩)->za0 f t fs (mk.toNat:Int) b d=some (d++catB (vs.map dv),b+(recT ((fs.zip vs).map fun p=>(p.1.1,tv p.1.2.1 p.2)) ⟨#[mk]⟩).size)\/fs=[]
 |[],vs,mk,b,d,hl,hg,hf,h=>.inr rfl
 |g::fs,[],mk,b,d,hl,hg,hf,h=>by simp at hl
 |g::fs,v::vs,mk,b,d,hl,hg,hf,h=>by
  left;simp only[xj,xf,recT]at h ⊢;have h256:=hg g (by simp);have h0:=h;rw[At.app,At.app,At.app,At.app,At.one h256]at h0;simp only[xe,sz1,zak]at h0;obtain⟨⟨h1,h2,h3,h4⟩,h5⟩:=h0;have b0:bAt t b=(mk.toNat:Int):=by rw[at0 h1 (xm _)];rfl
  have b2:bAt t (b+2)=58:=by have:=at0 h3 (xm _);rw[show b+1+1=b+2 by omega]at this;rw[this];rfl
  have hfirst:=yabg ((fs.zip vs).map fun p=>(p.1.1,tv p.1.2.1 p.2));rw[show b+1+1+1=b+3 by omega]at h4;rw[show b+(1+(1+(1+(tv g.2.1 v).size)))=b+3+(tv g.2.1 v).size by omega]at h5;have hnext:bAt t (b+3+(tv g.2.1 v).size)=125\/bAt t (b+3+(tv g.2.1 v).size)=44:=by rw[at0 h5 hfirst.2];exact hfirst.1
  rw[za0,if_pos ⟨b0,h2,b2⟩,hf (g,v) (by simp) (b+3) h4 (zfw (by rcases hnext with h|h;exact .inr (.inr (.inl h));exact .inr (.inl h)))];simp only;have hsz:(⟨#[mk]⟩++(oneB g.1++(⟨#[58]⟩++tv g.2.1 v))++recT ((fs.zip vs).map fun p=>(p.1.1,tv p.1.2.1 p.2)) ⟨#[44]⟩:ByteArray).size=3+(tv g.2.1 v).size+(recT ((fs.zip vs).map fun p=>(p.1.1,tv p.1.2.1 p.2)) ⟨#[44]⟩).size:=by
   simp only[xe,sz1,zak];omega
  rw[hsz];rcases zn3 (st:=st) fs vs 44 (b+3+(tv g.2.1 v).size) (d++dv v) (by simpa using hl) (fun g' h'=>hg g' (by simp[h'])) (fun p hp=>hf p (by simp[hp])) h5 with e|e
  ·rw[show ((44:UInt8).toNat:Int)=44 from rfl]at e;rw[e,catB]
   congr 2
   ·simp only[xp]
   ·omega
  ·subst e;obtain rfl:vs=[]:=by simpa using hl
   have h125:bAt t (b+3+(tv g.2.1 v).size)=125:=by rw[at0 h5 hfirst.2];rfl
   rw[za0,if_pos h125];simp only[List.zip_nil_left,qn,recT,catB,sz1,ByteArray.append_empty]
   congr 2
   omega
theorem zka {st:Bool}{t:ByteArray}:∀ (n:Nat) (ty:Ty) (v:Val) (j:Nat),okV n ty v->tyG n ty->At t j (txtV n ty v)->DL st (bAt t (j+(txtV n ty v).size))->enc st t n ty j=some (datV n v,j+(txtV n ty v).size)
 |0,ty,v,j,hv,_,_,_=>hv.elim
 |n+1,ty,v,j,hv,hg,h,hd=>by
  have ih:=zka (st:=st) (t:=t) n;have hv0:=hv;rcases hv with⟨x,rfl,hv⟩|⟨s,rfl,hv⟩|⟨i,rfl,hv⟩|⟨vs,rfl,hv⟩|⟨rfl,hv⟩|⟨v,rfl,hv⟩|⟨vs,rfl,hv⟩
  ·rw[zi0]at h hd ⊢;rw[zj1];rcases hv with⟨hk,h1,h2⟩|⟨hk,h1,h2⟩
   ·rw[enc,if_pos hk,zoc (by omega) (by omega) h1 h2 h hd]
   ·rw[enc,if_neg (by omega),if_pos hk,zoc (by omega) (by omega) h1 h2 h hd]
  ·rw[zg6]at h hd ⊢;rw[zht,enc,if_neg (by omega),if_neg (by omega),if_pos hv.1,zwe hv.2.1 hv.2.2 h]
  ·have hl:=hg.1 hv.1 i hv.2.1;have hl2:=zgk hl.1;rw[zdy]at h hd ⊢;rw[At.one (by omega)]at h;rw[zhr,enc,if_neg (by omega),if_neg (by omega),if_neg (by omega),if_pos hv.1];have hb:bAt t j=bAt ty.letters i:=by omega
   rw[hb,zzo hv.2.1 hl.2,if_neg (by omega),zak];rfl
  ·rw[zeb]at h hd ⊢;rw[zge,enc,if_neg (by omega),if_neg (by omega),if_neg (by omega),if_neg (by omega),if_pos hv.1];unfold zb1;cases vs with
   |nil =>
    simp only[qn,zcc]at h hd ⊢;rw[At.app,sz1]at h;have b0:bAt t j=91:=by rw[at0 h.1 (xm _)];rfl
    have b1:bAt t (j+1)=93:=by rw[at0 h.2 (xm _)];rfl
    rw[if_pos b0,if_pos b1];simp[catB];rfl
   |cons v vs =>
    simp only[xf,zcc,zh6,qg,if_false,xp]at h hd ⊢;rw[At.app,sz1]at h;have b0:bAt t j=91:=by rw[at0 h.1 (xm _)];rfl
    have hf:=zi1 n ty.in v (hv.2.2 v (by simp)) (hg.2.2.1 (.inl hv.1));have b1:bAt t (j+1)≠93:=by rw[at0 (At.app.1 h.2).1 hf.1];exact hf.2.1
    have hl16:vs.length<16:=by have:=hv.2.1;simp at this;omega
    rw[if_pos b0,if_neg b1,zn8 (st:=st) (dv:=datV n) (tv:=txtV n ty.in) vs v 16 1 j _ hl16 (fun u hu j h hd=>ih ty.in u j (hv.2.2 u (by rcases hu with rfl|hu<;>simp[*])) (hg.2.2.1 (.inl hv.1)) h hd) h.2];rw[xe (a:=⟨#[91]⟩),sz1,qh,catB,xo,Nat.add_comm 1 vs.length,qk]
  ·rw[zfr]at h hd ⊢;have b0:bAt t j=95:=by rw[at0 h (xm _)];rfl
   rw[zhs,enc,if_neg (by omega),if_neg (by omega),if_neg (by omega),if_neg (by omega),if_neg (by omega),if_pos hv];unfold zbq;rw[if_pos b0];rfl
  ·rw[ze9]at h hd ⊢;have hgi:=hg.2.2.1 (.inr hv.1);have hf:=zi1 n ty.in v hv.2 hgi;have b0:bAt t j≠95:=by rw[at0 h hf.1];exact hf.2.2 (hg.2.1 hv.1)
   rw[zgf,enc,if_neg (by omega),if_neg (by omega),if_neg (by omega),if_neg (by omega),if_neg (by omega),if_pos hv.1];unfold zbq;rw[if_neg b0,ih ty.in v j hv.2 hgi h hd]
  ·rw[zdh,zgh,xo]at h hd ⊢;rw[zeg,enc,if_neg (by omega),if_neg (by omega),if_neg (by omega),if_neg (by omega),if_neg (by omega),if_neg (by omega),if_pos hv.1];rcases zn3 (st:=st) (t:=t) (f:=enc st t n) (dv:=datV n) (tv:=txtV n) ty.fields vs 123 j xq hv.2.2.1 (fun g hg'=>(hg.2.2.2 g hg').1) (fun p hp j h hd=>ih p.1.2.1 p.2 j (hv.2.2.2 p hp) (hg.2.2.2 p.1 (List.of_mem_zip (a:=p.1) (b:=p.2) hp).1).2 h hd) h with e|e
   ·rw[show ((123:UInt8).toNat:Int)=123 from rfl]at e;rw[e,xo]
   ·exact absurd e hv.2.1
section
end
section
end
section
theorem zyl {d:ByteArray}(h:1<=d.size):d.toList.isEmpty=false:=by
 rw[qq];cases hl:d.data.toList with
 |nil =>
  have h2:d.data.size=0:=by rw[<- Array.length_toList,hl];rfl
  have h3:d.size=d.data.size:=rfl;omega
 |cons _ _=>rfl
end
section
end
section
end
section
theorem zi3 {s:ByteArray}{n i k:Nat}{ty:Ty}(h:zae true s n i=some (ty,k)):bAt s i=ty.kind/\∃ n',n=n'+1 /\
  (ty.kind=60->zdr s (i+1)=some (ty,k))/\(ty.kind=91\/ty.kind=63->∃ k',zae true s n' (i+1)=some (ty.in,k'))/\(ty.kind=63->ty.in.kind≠63) /\
  (ty.kind=123->∃ k',za1 (zar (zae true s n') (enc true s n') s) s (s.size-(i+1)) (i+1) []=some (ty.fields,k'))/\(ty.kind=105\/ty.kind=108\/ty.kind=115\/ty.kind=60\/ty.kind=91\/ty.kind=63\/ty.kind=123):=by
 cases n with
 |zero=>simp[zae]at h
 |succ n =>
  have his:i<s.size:=by have:=zcz true s _ _ _ _ h;omega
  rw[zae]at h;split at h
  ·rename_i hb;cases h;exact⟨hb,n,rfl,(fun h=>by cases h),(fun h=>by rcases h with h|h<;>cases h),(fun h=>by cases h),(fun h=>by cases h),.inl rfl⟩
  ·split at h
   ·rename_i hb;cases h;exact⟨hb,n,rfl,(fun h=>by cases h),(fun h=>by rcases h with h|h<;>cases h),(fun h=>by cases h),(fun h=>by cases h),.inr (.inl rfl)⟩
   ·split at h
    ·rename_i hb;cases h;exact⟨hb,n,rfl,(fun h=>by cases h),(fun h=>by rcases h with h|h<;>cases h),(fun h=>by cases h),(fun h=>by cases h),.inr (.inr (.inl rfl))⟩
    ·split at h
     ·rename_i hb;rw[zk0 s (i+1) (by omega)]at h;have hk:=(zq0 h).1;rw[hb,hk];exact⟨rfl,n,rfl,fun _=>h,(fun h=>by omega),(fun h=>by omega),(fun h=>by omega),by omega⟩
     ·split at h
      ·rename_i hb;unfold zcd at h;split at h
       ·cases h
       ·rename_i t k' ht;split at h
        ·cases h;exact⟨hb,n,rfl,(fun h=>by cases h),fun _=>⟨k',ht⟩,(fun h=>by cases h),(fun h=>by cases h),.inr (.inr (.inr (.inr (.inl rfl))))⟩
        ·cases h
      ·split at h
       ·rename_i hb;unfold zce at h;split at h
        ·cases h
        ·rename_i t k' ht;split at h
         ·cases h
         ·rename_i hne;cases h;exact⟨hb,n,rfl,(fun h=>by cases h),fun _=>⟨_,ht⟩,fun _=>hne,(fun h=>by cases h),.inr (.inr (.inr (.inr (.inr (.inl rfl)))))⟩
       ·split at h
        ·rename_i hb;unfold pRec at h;split at h
         ·cases h
         ·rename_i fs k' hfs;cases h;exact⟨hb,n,rfl,(fun h=>by cases h),(fun h=>by rcases h with h|h<;>cases h),(fun h=>by cases h),fun _=>⟨_,hfs⟩,.inr (.inr (.inr (.inr (.inr (.inr rfl)))))⟩
        ·cases h
theorem zk8 {s:ByteArray}{a k:Nat}{ty:Ty}(ha:a<=s.size)(h:zdr s a=some (ty,k)):ty.letters=s.extract a (zaz isL s (s.size-a) a)/\zaz isL s (s.size-a) a=a+ty.letters.size/\1<=ty.letters.size/\ty.letters.size<=8/\ty.op=(bAt s (a+ty.letters.size) == 43):=by
 obtain⟨_,h2,h3⟩:=zq0 h;have hle:=zdt isL s (s.size-a) a;have hsz:ty.letters.size=zaz isL s (s.size-a) a-a:=by rw[h2,qo];omega
 unfold zdr at h;simp only at h;generalize hE:zaz isL s (s.size-a) a=E at h hle hsz h2;split at h
 ·cases h
 ·rename_i hc;have he:E=a+ty.letters.size:=by omega
  refine⟨h2,he,by omega,h3,?_⟩;rw[<- he];split at h
  ·rename_i h43;split at h
   ·simp only[xv,qj]at h;rw[<- h.1,h43];rfl
   ·cases h
  ·rename_i h43;split at h
   ·simp only[xv,qj]at h;rw[<- h.1];simp[h43]
   ·cases h
end
def tyN:Nat->Ty->Prop
 |0,_=>True
 |n+1,ty=>(ty.fields.map (·.1)).Nodup/\(ty.kind=91\/ty.kind=63->tyN n ty.in)/\∀ f∈ty.fields,tyN n f.2.1
theorem zih {pf:Nat->Option ((Nat×Ty×ByteArray)×Nat)}{s:ByteArray}{Q:(Nat×Ty×ByteArray)->Prop}(hp:∀ i f k,pf i=some (f,k)->Q f) :
  ∀ (m a:Nat) (acc fs:List (Nat×Ty×ByteArray)) (k:Nat),za1 pf s m a acc=some (fs,k)->(∀ f∈acc,Q f)->(acc.map (·.1)).Nodup->(∀ f∈fs,Q f)/\(fs.map (·.1)).Nodup
 |0,a,acc,fs,k,h,_,_=>by simp[za1]at h
 |m+1,a,acc,fs,k,h,hq,hn=>by
  rw[za1]at h;split at h
  ·cases h
  ·rename_i f k' hf;split at h
   ·cases h
   ·rename_i hany;have hq':∀ g∈acc++[f],Q g:=fun g hg=>by
     rcases List.mem_append.1 hg with hg|hg
     ·exact hq g hg
     ·rw[List.mem_singleton.1 hg];exact hp _ _ _ hf
    have hn':((acc++[f]).map (·.1)).Nodup:=by
     rw[List.map_append,List.nodup_append];refine⟨hn,by simp,fun a ha b hb=>?_⟩;obtain⟨g,hg,rfl⟩:=List.mem_map.1 ha;simp at hb;subst hb;intro he;apply hany;rw[List.any_eq_true];exact⟨g,hg,by simp[he]⟩
    split at h
    ·cases h;exact⟨hq',hn'⟩
    ·split at h
     ·exact zih hp m _ _ _ _ h hq' hn'
     ·cases h
theorem zft {s:ByteArray}:∀ (n i:Nat) (ty:Ty) (k:Nat),zae true s n i=some (ty,k)->tyG n ty/\tyN n ty
 |0,i,ty,k,h=>by simp[zae]at h
 |n+1,i,ty,k,h=>by
  have ih:=zft (s:=s) n;have his:i<s.size:=by have:=zcz true s _ _ _ _ h;omega
  obtain⟨_,n',hn,h60,hin,hne,h123,hk⟩:=zi3 h;obtain rfl:n'=n:=by omega
  have hfs:(∀ f∈ty.fields,f.1<256/\tyG n' f.2.1/\tyN n' f.2.1)/\(ty.fields.map (·.1)).Nodup:=by
   by_cases h3:ty.kind=123
   ·obtain⟨k',hk'⟩:=h123 h3;exact zih (Q:=fun f=>f.1<256/\tyG n' f.2.1/\tyN n' f.2.1) (fun i f k hf=>by
     have h256:=zpz hf;unfold zar at hf;split at hf
     ·split at hf
      ·cases hf
      ·rename_i t k' ht;have h1:=ih _ _ _ ht;split at hf
       ·split at hf
        ·cases hf
        ·cases hf;exact⟨h256,h1.1,h1.2⟩
       ·cases hf;exact⟨h256,h1.1,h1.2⟩
     ·cases hf) _ _ _ _ _ hk' (fun f hf=>absurd hf xh) (by simp)
   ·have:ty.fields=[]:=by
     rw[zae]at h;split at h
     ·cases h;rfl
     ·split at h
      ·cases h;rfl
      ·split at h
       ·cases h;rfl
       ·split at h
        ·rw[zk0 s (i+1) (by omega)]at h;unfold zdr at h;simp only at h;split at h
         ·cases h
         ·split at h
          iterate 2
           ·split at h
            ·cases h;rfl
            ·cases h
        ·split at h
         ·unfold zcd at h;split at h
          ·cases h
          ·split at h
           ·cases h;rfl
           ·cases h
         ·split at h
          ·unfold zce at h;split at h
           ·cases h
           ·split at h
            ·cases h
            ·cases h;rfl
          ·split at h
           ·unfold pRec at h;split at h
            ·cases h
            ·cases h;exact absurd rfl h3
           ·cases h
    rw[this];exact⟨fun f hf=>absurd hf xh,by simp⟩
  have hinn:ty.kind=91\/ty.kind=63->tyG n' ty.in/\tyN n' ty.in:=fun h=>by
   obtain⟨k',hk'⟩:=hin h;exact ih _ _ _ hk'
  refine⟨⟨fun h6 j hj=>?_,hne,fun h=>(hinn h).1,fun f hf=>⟨(hfs.1 f hf).1,(hfs.1 f hf).2.1⟩⟩,hfs.2,fun h=>(hinn h).2,fun f hf=>(hfs.1 f hf).2.2⟩;have hr:=h60 h6;obtain⟨l1,l2,l3,l4,l5⟩:=zk8 (by omega) hr;have hle:=zdt isL s (s.size-(i+1)) (i+1);have hb:∀ q,q<ty.letters.size->bAt ty.letters q=bAt s (i+1+q):=fun q hq=>by
   rw[l1,zct s (i+1) _ q (by omega) (by omega)]
  constructor
  ·rw[hb j hj];exact zfm isL s (s.size-(i+1)) (i+1) (i+1+j) (by omega) (by omega)
  ·intro q hq he;unfold zdr at hr;simp only at hr;split at hr
   ·cases hr
   ·rename_i hc;apply hc;refine .inr (.inr ?_);rw[<- l1];exact zsj hq hj he.symm
section
def outU:Option ByteArray->ByteArray
 |none=>xq
 |some t=>t
theorem zg7 (o:Option ByteArray):uR o=.tuple #[.string (outU o),.bool o.isSome]:=by cases o<;>rfl
theorem iB {a b:Nat}(h:a=b):((a:Int) == (b:Int))=true:=by simp;omega
theorem iN {a b:Nat}(h:a≠b):((a:Int) == (b:Int))=false:=by simp;omega
theorem yaem {m:Nat}(IH:zhi m):zhi (m+1):=by
 intro nw nr x r w ai af li ci lf cf bi bf mi di mf df hm hk hwt hx hr;cases nw with
 |zero=>exact hx.elim
 |succ n =>
 cases nr with
 |zero=>exact hr.elim
 |succ q =>
 show Calls _ _ _ _ (fun e w'=>e=.returned (uR ((zda (unV m n) (unV m (n+1)) n x r).map (txtV (n+1) x)))/\Below w.heap.size w w');rw[zg7];have hx8:x.letters.size<=8:=hx.1;have hr8:r.letters.size<=8:=hr.1;have hinx:=fun (hne:x.inner≠[]) (W:World) (hb:Below w.heap.size w W)=>zei n W ai af li ci lf cf x (hx.keep hb) hne;have hinr:=fun (hne:r.inner≠[]) (W:World) (hb:Below w.heap.size w W)=>zei q W bi bf mi di mf df r (hr.keep hb) hne;by_cases hr63:r.kind=63
 ·have hnr:r.inner≠[]:=hr.2.2.2.1.1 (.inr hr63);by_cases hx63:x.kind=63
  ·have hi:=hk.2.2.1 (.inr hx63);have hwi:=wtI (m:=n) hi.1;rw[show (zda (unV m n) (unV m (n+1)) n x r).map (txtV (n+1) x)=(unV m n x.in r.in).map (txtV n x.in) by unfold zda;rw[if_pos ⟨hx63,hr63⟩,qe];rfl];refine yaed x r w ai li ci af lf cf bi mi di bf mf df _ _ (iB hx63) (iB hr63) n q (hinx hi.1) (hinr hnr) (fun W p1 p2 p3 p4 p5 p6 q1 q2 q3 q4 q5 q6 hb hp hq=>?_);have:=IH n q x.in r.in W p1 p4 p2 p3 p5 p6 q1 q4 q2 q3 q5 q6 (by omega) hi.2 (by omega) hp hq;rw[zg7]at this;exact this
  ·rw[show zda (unV m n) (unV m (n+1)) n x r=unV m (n+1) x r.in by unfold zda;rw[if_neg (fun h=>hx63 h.1),if_pos hr63]];refine yaej x r w ai li ci af lf cf bi mi di bf mf df _ _ (iN hx63) (iB hr63) q (hinr hnr) (fun W p1 p2 p3 p4 p5 p6 hb hp=>?_);have:=IH (n+1) q x r.in W ai af li ci lf cf p1 p4 p2 p3 p5 p6 (by omega) hk hwt (hx.keep hb) hp;rw[zg7]at this;exact this
 ·have hst:zda (unV m n) (unV m (n+1)) n x r=if zax x.kind r.kind=true then none else if x.kind≠r.kind then some (lv (n+1) x) else if x.kind=60 then (unL x.letters r.letters r.op x.letters.size 0).map Val.cho else if x.kind=91 then (unV m n x.in r.in).map fun u=>.lst [u] else if x.kind=123 then unF (unV m n) n x.fields r.fields else none:=by
   unfold zda;rw[if_neg (fun h=>hr63 h.2),if_neg hr63]
  have h2:=iN (b:=63) hr63;cases hs:zax x.kind r.kind with
  |true =>
   rw[hst,if_pos hs];have hx63:x.kind≠63:=by simp[zax]at hs;omega
   exact yaek x r w ai li ci af lf cf bi mi di bf mf df _ _ (iN hx63) h2 hs rfl rfl
  |false =>
   have hs':¬ zax x.kind r.kind=true:=by rw[hs];simp
   by_cases hkk:x.kind=r.kind
   ·have hx63:x.kind≠63:=by omega
    have h1:=iN (b:=63) hx63;have h3:((x.kind:Int) != (r.kind:Int))=false:=by simp;omega
    rw[hst,if_neg hs',if_neg (by simp[hkk])];rcases hk.1 with h|h|h|h|h|h|h
    iterate 3
     ·exfalso;rw[<- hkk,h]at hs;cases hs
    ·rw[if_pos h,qe];refine yaee x r w ai li ci af lf cf bi mi di bf mf df _ _ h1 h2 hs h3 (iB h) (fun W hb=>?_);have:=yaen x r ai li ci af lf cf bi mi di bf mf df W hx8 hr8;refine this.mono (fun e w' he=>⟨?_,he.2⟩);rw[he.1];cases unL x.letters r.letters r.op x.letters.size 0<;>rfl
    ·have hi:=hk.2.2.1 (.inl h);have hnr:r.inner≠[]:=hr.2.2.2.1.1 (.inl (by omega));have hwi:=wtI (m:=n) hi.1;rw[if_neg (by omega),if_pos h,qe];refine yaeh x r w ai li ci af lf cf bi mi di bf mf df _ _ h1 h2 hs h3 (iN (b:=60) (by omega)) (iB h) n q (hinx hi.1) (hinr hnr) (fun W p1 p2 p3 p4 p5 p6 q1 q2 q3 q4 q5 q6 hb hp hq=>?_);cases hu:unV m n x.in r.in with
     |none =>
      have:=zst x.in r.in W p1 p2 p3 p4 p5 p6 q1 q2 q3 q4 q5 q6 xq false (qd _) (fun W' hb'=>by
       have:=IH n q x.in r.in W' p1 p4 p2 p3 p5 p6 q1 q4 q2 q3 q5 q6 (by omega) hi.2 (by omega) (hp.keep hb') (hq.keep hb');rw[hu]at this;exact this)
      exact this
     |some u =>
      have hus:=zfu m n x.in r.in u hi.2 hu;have:=zst x.in r.in W p1 p2 p3 p4 p5 p6 q1 q2 q3 q4 q5 q6 (txtV n x.in u) true (by omega) (fun W' hb'=>by
       have:=IH n q x.in r.in W' p1 p4 p2 p3 p5 p6 q1 q4 q2 q3 q5 q6 (by omega) hi.2 (by omega) (hp.keep hb') (hq.keep hb');rw[hu]at this;exact this)
      exact this
    ·omega
    ·rw[if_neg (by omega),if_neg (by omega),if_pos h];have hfx:=hx.flds;have hfr:=hr.flds;refine yaei x r w ai li ci af lf cf bi mi di bf mf df _ _ h1 h2 hs h3 (iN (b:=60) (by omega)) (iN (b:=91) (by omega)) (iB h) (fun W hb=>?_);have:=yaeo IH n q (by omega) x r.fields W af bf lf cf mf df hfx.1 hfr.1 hfx.2.1 hfr.2.1 (hx.2.2.2.1.2 h) hk.2.2.2 (by rw[wt]at hwt;omega) (hx.keep hb).flds.2.2 (hr.keep hb).flds.2.2;rw[zg7]at this;exact this
   ·have h3:((x.kind:Int) != (r.kind:Int))=true:=by simp;omega
    rw[hst,if_neg hs',if_pos hkk];by_cases hx63:x.kind=63
    ·exact yaef x r w ai li ci af lf cf bi mi di bf mf df _ _ (iB hx63) h2 hs h3 rfl (fun W hb=>zgm (n+1) x W ai af li ci lf cf hk hwt (hx.keep hb))
    ·exact yaeg x r w ai li ci af lf cf bi mi di bf mf df _ _ (iN hx63) h2 hs h3 rfl (fun W hb=>zgm (n+1) x W ai af li ci lf cf hk hwt (hx.keep hb))
theorem zss:∀ m,zhi m
 |0=>fun nw nr x r w ai af li ci lf cf bi bf mi di mf df hm hk hwt hx hr=>by
  obtain rfl:nw=0:=by omega
  exact hx.elim
 |m+1=>yaem (zss m)
theorem zos {s:ByteArray}{n i k:Nat}{ty:Ty}(h:zae true s (n+1) i=some (ty,k))(h3:¬ ty.kind=123):ty.fields=[]:=by
 have his:i<s.size:=by have:=zcz true s _ _ _ _ h;omega
 rw[zae]at h;split at h
 ·cases h;rfl
 ·split at h
  ·cases h;rfl
  ·split at h
   ·cases h;rfl
   ·split at h
    ·rw[zk0 s (i+1) (by omega)]at h;unfold zdr at h;simp only at h;split at h
     ·cases h
     ·split at h
      iterate 2
       ·split at h
        ·cases h;rfl
        ·cases h
    ·split at h
     ·unfold zcd at h;split at h
      ·cases h
      ·split at h
       ·cases h;rfl
       ·cases h
     ·split at h
      ·unfold zce at h;split at h
       ·cases h
       ·split at h
        ·cases h
        ·cases h;rfl
      ·split at h
       ·unfold pRec at h;split at h
        ·cases h
        ·cases h;exact absurd rfl h3
       ·cases h
theorem zsl {s:ByteArray}:∀ (n i:Nat) (ty:Ty) (k:Nat),zae true s n i=some (ty,k)->tyK n ty
 |0,i,ty,k,h=>by simp[zae]at h
 |n+1,i,ty,k,h=>by
  have ih:=zsl (s:=s) n;have his:i<s.size:=by have:=zcz true s _ _ _ _ h;omega
  obtain⟨_,n',hn,h60,hin,hne,h123,hk⟩:=zi3 h;obtain rfl:n'=n:=by omega
  have hg:=zft _ _ _ _ h;refine⟨hk,fun h6=>(zk8 (by omega) (h60 h6)).2.2.1,fun hh=>?_,fun f hf=>?_⟩
  ·obtain⟨k',hk'⟩:=hin hh;refine⟨fun hi=>?_,ih _ _ _ hk'⟩;have:ty.in=za3 0:=by unfold Ty.in;rw[hi];rfl
   rw[this]at hk';obtain⟨_,_,_,_,_,_,_,h7⟩:=zi3 hk';have h0:(za3 0).kind=0:=rfl;omega
  ·have h3:ty.kind=123:=by
    rcases Nat.lt_or_ge 0 0 with h|_
    ·omega
    ·apply xz;intro h3;have:ty.fields=[]:=zos h h3;rw[this]at hf;exact absurd hf xh
   obtain⟨k',hk'⟩:=h123 h3;exact(zih (Q:=fun f=>f.1<256/\tyK n' f.2.1) (fun i f k hf=>by
     have h256:=zpz hf;unfold zar at hf;split at hf
     ·split at hf
      ·cases hf
      ·rename_i t k' ht;have h1:=ih _ _ _ ht;split at hf
       ·split at hf
        ·cases hf
        ·cases hf;exact⟨h256,h1⟩
       ·cases hf;exact⟨h256,h1⟩
     ·cases hf) _ _ _ _ _ hk' (fun f hf=>absurd hf xh) (by simp)).1 f hf
theorem zpv {st:Bool}{s:ByteArray}{ty:Ty}(hx:pAll st s=some ty):zae st s s.size 0=some (ty,s.size):=by
 unfold pAll at hx;rcases hq:zae st s s.size 0 with _|⟨ty',k⟩
 ·rw[hq]at hx;cases hx
 ·rw[hq]at hx;simp only at hx;split at hx
  ·rename_i h;cases hx;rw[h]
  ·cases hx
end
def tyL:Nat->Ty->Prop
 |0,_=>False
 |n+1,ty=>(ty.kind=105\/ty.kind=108\/ty.kind=115\/ty.kind=60\/ty.kind=91\/ty.kind=63\/ty.kind=123)/\(ty.kind=60->1<=ty.letters.size/\ty.letters.size<=8)/\(ty.kind=91\/ty.kind=63->tyL n ty.in)/\(ty.kind=63->ty.in.kind≠63)/\(ty.kind=123->ty.fields≠[]/\∀ f∈ty.fields,tyL n f.2.1)
theorem zs3 (c:Nat):∀ (fs:List (Nat×Ty×ByteArray)) (vs:List Val),vs.length=fs.length ->
  (fs.findIdx? (fun g=>g.1 == c)=none->(fs.zip vs).find? (fun p=>p.1.1 == c)=none) /\
  (∀ p,fs.findIdx? (fun g=>g.1 == c)=some p->∃ f v,fs[p]?=some f/\vs[p]?=some v/\(fs.zip vs).find? (fun p=>p.1.1 == c)=some (f,v))
 |[],vs,h=>⟨fun _=>rfl,fun p hp=>by simp at hp⟩
 |f::fs,[],h=>by simp at h
 |f::fs,v::vs,h=>by
  have ih:=zs3 c fs vs (by simpa using h);rw[List.findIdx?_cons,xj,List.find?_cons];by_cases hc:(f.1 == c)=true
  ·rw[if_pos hc];refine⟨fun h=>by simp at h,fun p hp=>?_⟩;cases hp;refine⟨f,v,rfl,rfl,?_⟩;rw[show ((f,v).1.1 == c)=true from hc]
  ·rw[if_neg hc,show ((f,v).1.1 == c)=false by simpa using hc];refine⟨fun h=>ih.1 (by simpa using h),fun p hp=>?_⟩;obtain⟨q,hq,rfl⟩:=Option.map_eq_some_iff.1 hp;obtain⟨f',v',h1,h2,h3⟩:=ih.2 q hq;exact⟨f',v',by simpa using h1,by simpa using h2,h3⟩
theorem zsr {wl rl:ByteArray}{op:Bool}:∀ (m k j:Nat),unL wl rl op m k=none->k<=j->j<k+m->op=true\/0<=pOf rl (bAt wl j)
 |0,k,j,h,h1,h2=>by omega
 |m+1,k,j,h,h1,h2=>by
  rw[unL]at h;split at h
  ·rename_i hc;by_cases hk:j=k
   ·subst hk;simpa using hc
   ·exact zsr m (k+1) j h (by omega) (by omega)
  ·cases h
def ln:Nat->Ty->Nat
 |0,_=>0
 |n+1,ty=>if ty.kind=91 then ln n ty.in+2 else if ty.kind=63 then ln n ty.in+1 else if ty.kind=123 then (ty.fields.map fun f=>ln n f.2.1+3).sum+1 else 1
theorem zrb {f:Val->Option ByteArray}:∀ (vs:List Val) (k:Nat) (t:ByteArray),(∀ v∈vs,f v≠none)->zbg f vs k t≠none
 |[],k,t,h=>by simp[zbg]
 |v::vs,k,t,h=>by
  rw[zbg];have h1:=h v (by simp);cases hv:f v with
  |none=>exact absurd hv h1
  |some x=>exact zrb vs _ _ (fun v hv=>h v (by simp[hv]))
theorem zq8 {f:Nat×Ty×ByteArray->Option ByteArray}:∀ (gs:List (Nat×Ty×ByteArray)) (mk t:ByteArray),(∀ g∈gs,f g≠none)->zbj f gs mk t≠none
 |[],mk,t,h=>by simp[zbj]
 |g::gs,mk,t,h=>by
  rw[zbj];have h1:=h g (by simp);cases hv:f g with
  |none=>exact absurd hv h1
  |some x=>exact zq8 gs _ _ (fun g hg=>h g (by simp[hg]))
theorem zly {f:Ty->Ty->Option Val}{n:Nat}{wf:List (Nat×Ty×ByteArray)}:∀ (gs:List (Nat×Ty×ByteArray)),unF f n wf gs=none->∀ g∈gs,(wf.findIdx? (fun h=>h.1 == g.1)=none/\g.2.2.size≠0)\/∃ p q,wf.findIdx? (fun h=>h.1 == g.1)=some p/\wf[p]?=some q/\f q.2.1 g.2.1=none
 |[],h,g,hg=>absurd hg xh
 |k::gs,h,g,hg=>by
  rw[unF]at h;split at h
  ·rename_i hfi;split at h
   ·cases h
   ·rename_i hz;rcases xu.1 hg with rfl|hg
    ·exact .inl ⟨hfi,hz⟩
    ·exact zly gs h g hg
  ·rename_i p hfi;have hpl:p<wf.length:=by rw[List.findIdx?_eq_some_iff_getElem]at hfi;exact hfi.1
   obtain⟨q,hq⟩:∃ q,wf[p]?=some q:=⟨wf[p],List.getElem?_eq_getElem hpl⟩;rw[zkk hq]at h;split at h
   ·rename_i hn;rcases xu.1 hg with rfl|hg
    ·exact .inr ⟨p,q,hfi,hq,hn⟩
    ·exact zly gs h g hg
   ·cases h
theorem zg8:∀ (m k n q:Nat) (x r:Ty) (v:Val),n+q<=m->n+q<=k->tyL n x->tyL q r->unV m n x r=none->okV n x v->rdT k x r v≠none
 |m,k,0,q,x,r,v,h1,h2,hx,hr,h,hv=>hx.elim
 |m,k,n+1,0,x,r,v,h1,h2,hx,hr,h,hv=>hr.elim
 |0,k,n+1,q+1,x,r,v,h1,h2,hx,hr,h,hv=>by omega
 |m+1,0,n+1,q+1,x,r,v,h1,h2,hx,hr,h,hv=>by omega
 |m+1,1,n+1,q+1,x,r,v,h1,h2,hx,hr,h,hv=>by omega
 |m+1,k+2,n+1,q+1,x,r,v,h1,h2,hx,hr,h,hv=>by
  change zda (unV m n) (unV m (n+1)) n x r=none at h;unfold zda at h;show zbc (rdT (k+1)) x r v≠none;unfold zbc;split at h
  ·rename_i hc;rw[xy]at h;rw[if_pos hc.1];rcases hv with⟨y,rfl,hv⟩|⟨s,rfl,hv⟩|⟨i,rfl,hv⟩|⟨vs,rfl,hv⟩|⟨rfl,hv⟩|⟨u,rfl,hv⟩|⟨vs,rfl,hv⟩
   iterate 4
    ·omega
   ·show (if r.kind=63 then some (⟨#[95]⟩:ByteArray) else none)≠none;rw[if_pos hc.2];simp
   ·show zbc (rdT k) x.in r u≠none;unfold zbc;rw[if_neg (hx.2.2.2.1 hc.1),if_pos hc.2];exact zg8 m k n q x.in r.in u (by omega) (by omega) (hx.2.2.1 (.inr hc.1)) (hr.2.2.1 (.inr hc.2)) h hv.2
   ·omega
  ·rename_i hc;split at h
   ·rename_i hr63;rw[if_neg (fun h=>hc ⟨h,hr63⟩),if_pos hr63];exact zg8 m (k+1) (n+1) q x r.in v (by omega) (by omega) hx (hr.2.2.1 (.inr hr63)) h hv
   ·rename_i hr63;split at h
    ·rename_i hs;have hx63:x.kind≠63:=by simp[zax]at hs;omega
     rw[if_neg hx63,if_neg hr63,if_pos hs];simp
    ·rename_i hs;split at h
     ·cases h
     ·rename_i hkk;have hkk':x.kind=r.kind:=by simpa using hkk
      have hx63:x.kind≠63:=by omega
      rw[if_neg hx63,if_neg hr63,if_neg hs,if_neg hkk];rcases hv with⟨y,rfl,hv⟩|⟨s,rfl,hv⟩|⟨i,rfl,hv⟩|⟨vs,rfl,hv⟩|⟨rfl,hv⟩|⟨u,rfl,hv⟩|⟨vs,rfl,hv⟩
      ·exfalso;apply hs;rw[<- hkk'];rcases hv with h|h<;>simp[zax,h.1]
      ·exfalso;apply hs;rw[<- hkk'];simp[zax,hv.1]
      ·rw[if_pos hv.1,xy]at h;show zc0 x.letters r.letters r.op i≠none;unfold zc0;have:=zsr _ _ i h (qd _) (by omega);split
       ·rename_i hp;rw[if_pos (by rcases this with h|h;exact h;omega)];simp
       ·simp
      ·rw[if_neg (by omega),if_pos hv.1,xy]at h;show zbg (rdT (k+1) x.in r.in) vs 0 ⟨#[91]⟩≠none;exact zrb vs _ _ (fun u hu=>zg8 m (k+1) n q x.in r.in u (by omega) (by omega) (hx.2.2.1 (.inl hv.1)) (hr.2.2.1 (.inl (by omega))) h (hv.2.2 u hu))
      iterate 2
       ·omega
      ·rw[if_neg (by omega),if_neg (by omega),if_pos hv.1]at h;show zbj (zbi (rdT (k+1)) (x.fields.zip vs)) r.fields ⟨#[123]⟩ xq≠none;have hxf:=hx.2.2.2.2 hv.1;have hrf:=hr.2.2.2.2 (by omega);refine zq8 r.fields _ _ (fun g hg=>?_);unfold zbi;have hz:=zs3 g.1 x.fields vs hv.2.2.1;rcases zly r.fields h g hg with⟨e1,e2⟩|⟨p,f,e1,e2,e3⟩
       ·rw[hz.1 e1];simp only;rw[if_neg e2];simp
       ·obtain⟨f',w,g1,g2,g3⟩:=hz.2 p e1;rw[e2]at g1;cases g1;rw[g3];simp only;exact zg8 m (k+1) n q f.2.1 g.2.1 w (by omega) (by omega) (hxf.2 f (qf e2)) (hrf.2 g hg) e3 (hv.2.2.2 (f,w) (by
         refine qf (i:=p) ?_;rw[List.getElem?_zip_eq_some];exact⟨e2,g2⟩))
def tyF:Nat->Ty->Prop
 |0,_=>True
 |n+1,ty=>(ty.kind=60->ty.letters.size<=8)/\(ty.kind=91\/ty.kind=63->tyF n ty.in)/\(ty.kind=123->ty.fields≠[])/\∀ f∈ty.fields,tyF n f.2.1
theorem znh (t:ByteArray)(a:Nat):∀ m,(∀ i,i<m->isD (bAt t (a+i))=true)->0<=dVal t a m
 |0,h=>Int.le_refl _
 |m+1,h=>by
  have h1:=znh t a m (fun i hi=>h i (by omega));have h2:=zkn (h m (by omega));rw[dVal];omega
theorem zpy {t:ByteArray}{a e:Nat}{n:Int}(h:pDig t a=some (n,e)):0<=n/\a<e/\e<=t.size/\decS 18 n.toNat=t.extract a e:=by
 obtain⟨h1,h2,h3,h4,h5,h6,h7⟩:=zzf h;have hd:∀ i,i<e-a->isD (bAt t (a+i))=true:=fun i hi=>h3 (a+i) (by omega) (by omega);refine⟨by rw[h7];exact znh t a _ hd,h1,h2,?_⟩;have:=zns t a (e-a-1) 18 (fun j hj=>zkn (hd j (by omega))) (fun hm=>by have:=zkn (hd 0 (by omega));rw[xg]at this;have:=h6 (by omega);omega) (by omega) (by omega);rw[show e-a-1+1=e-a by omega,<- h7,show a+(e-a-1)+1=e by omega]at this;exact this
theorem zof {st:Bool}{lo hi:Int}{t d:ByteArray}{j e:Nat}(h:zbf st lo hi t j=some (d,e)):∃ x,lo<=x/\x<=hi/\At t j (decI x)/\e=j+(decI x).size/\d=zcp x:=by
 unfold zbf at h;split at h
 ·cases h
 ·rename_i n e' hn;split at h
  ·cases h
  ·rename_i hr;split at h
   ·cases h
   ·cases h;refine⟨n,by omega,by omega,?_⟩;unfold pNum at hn;split at hn
    ·rename_i h45;split at hn
     ·cases hn
     ·rename_i n0 e0 hp;split at hn
      ·cases hn
      ·rename_i hn0;cases hn;obtain⟨p1,p2,p3,p4⟩:=zpy hp;have hdI:decI (-n0)=⟨#[45]⟩++t.extract (j+1) e:=by unfold decI;rw[if_pos (by omega),<- p4];congr 2;omega
       have hs:=size_extract t (j+1) e (by omega) p3;have e1:(⟨#[45]⟩:ByteArray).size=1:=rfl;have hjt:j<t.size:=zaw (by omega);rw[hdI];refine⟨At.app.2 ⟨⟨by rw[e1];omega,fun i hi=>?_⟩,by rw[e1];exact At.of (by omega) p3⟩,by rw[xe,hs,e1];omega,rfl⟩;rw[e1]at hi;obtain rfl:i=0:=by omega
       rw[xg,h45];rfl
    ·obtain⟨p1,p2,p3,p4⟩:=zpy hn;have hdI:decI n=t.extract j e:=by unfold decI;rw[if_neg (by omega),p4]
     rw[hdI];exact⟨At.of (by omega) p3,by rw[size_extract t j e (by omega) p3];omega,rfl⟩
theorem zmr {s:ByteArray}:∀ (m k:Nat),(∀ i,i<m->inS (bAt s (k+i))=true)->allS s m k=true
 |0,k,h=>rfl
 |m+1,k,h=>by
  rw[allS,qi];exact⟨by have:=h 0 (by omega);rw[xg]at this;exact this,zmr m (k+1) (fun i hi=>by have:=h (i+1) (by omega);rw[show k+(i+1)=k+1+i by omega]at this;exact this)⟩
theorem zwg {t d:ByteArray}{j e:Nat}(h:zb2 t j=some (d,e)):∃ s:ByteArray,s.size<=60/\allS s s.size 0=true/\At t j (quo++s++quo)/\e=j+(quo++s++quo).size/\d=oneB s.size++s:=by
 unfold zb2 at h;split at h
 ·rename_i h34;simp only at h;have hrl:=zdt inS t (t.size-(j+1)) (j+1);have hra:=zfm inS t (t.size-(j+1)) (j+1);generalize zaz inS t (t.size-(j+1)) (j+1)=E at h hrl hra;split at h
  ·rename_i hc;cases h;have hE:E<t.size:=zaw (by omega);have hjt:j<t.size:=zaw (by omega);have hs:=size_extract t (j+1) E (by omega) (by omega);refine⟨t.extract (j+1) E,by omega,zmr _ _ (fun i hi=>?_),?_,?_,by rw[hs]⟩
   ·rw[qm,zct t (j+1) E i (by omega) (by omega)];exact hra _ (by omega) (by omega)
   ·rw[At.app,At.app,xe,zcf,hs];refine⟨⟨⟨by rw[zcf];omega,fun i hi=>?_⟩,At.of (by omega) (by omega)⟩,⟨by rw[zcf];omega,fun i hi=>?_⟩⟩
    ·rw[zcf]at hi;obtain rfl:i=0:=by omega
     rw[xg,h34];rfl
    ·rw[zcf]at hi;obtain rfl:i=0:=by omega
     rw[show j+(1+(E-(j+1)))+0=E by omega,hc.1];rfl
   ·rw[xe,xe,zcf,hs];omega
  ·cases h
 ·cases h
theorem zk3 {l:ByteArray}{c:Int}:∀ (m k:Nat),0<=za6 l c m k->∃ i:Nat,za6 l c m k=i/\k<=i/\i<k+m/\bAt l i=c
 |0,k,h=>by simp[za6]at h
 |m+1,k,h=>by
  rw[za6]at h ⊢;split at h
  ·rename_i hb;rw[if_pos hb];exact⟨k,rfl,xm _,by omega,hb⟩
  ·rename_i hb;rw[if_neg hb];obtain⟨i,h1,h2,h3,h4⟩:=zk3 m (k+1) h;exact⟨i,h1,by omega,by omega,h4⟩
theorem At.one' {t:ByteArray}{j:Nat}(c:UInt8)(h:bAt t j=(c.toNat:Int)):At t j ⟨#[c]⟩:=by
 have hj:j<t.size:=zaw (by omega);refine⟨by rw[sz1];omega,fun i hi=>?_⟩;rw[sz1]at hi;obtain rfl:i=0:=by omega
 rw[xg,h];rfl
theorem zob {t:ByteArray}{f:Nat->Option (ByteArray×Nat)}{tv:Val->ByteArray}{ok:Val->Prop}(hf:∀ j d k,f j=some (d,k)->∃ v,ok v/\At t j (tv v)/\k=j+(tv v).size) :
  ∀ (m c b:Nat) (d d':ByteArray) (k:Nat),zbh f t m c b d=some (d',k)->∃ (v:Val) (us:List Val),us.length<m/\ok v/\(∀ u∈us,ok u)/\At t (b+1) (tv v++sepT (us.map tv))/\k=b+1+(tv v++sepT (us.map tv)).size
 |0,c,b,d,d',k,h=>by simp[zbh]at h
 |m+1,c,b,d,d',k,h=>by
  rw[zbh]at h;split at h
  ·cases h
  ·rename_i x k' hx;obtain⟨v,hv1,hv2,hv3⟩:=hf _ _ _ hx;split at h
   ·rename_i h93;cases h;refine⟨v,[],by simp,hv1,fun u hu=>absurd hu xh,?_,?_⟩
    ·rw[At.app];refine⟨hv2,?_⟩;rw[<- hv3];exact At.one' 93 h93
    ·rw[xe,<- qk,<- hv3];rfl
   ·split at h
    ·rename_i h44;obtain⟨w,us,h1,h2,h3,h4,h5⟩:=zob hf m _ _ _ _ _ h;refine⟨v,w::us,by simp;omega,hv1,fun u hu=>by rcases xu.1 hu with rfl|hu;exact h2;exact h3 u hu,?_,?_⟩
     ·rw[At.app,<- hv3,xf,sepT,At.app,sz1];exact⟨hv2,At.one' 44 h44,h4⟩
     ·rw[xf,sepT,xe,xe,sz1];omega
    ·cases h
theorem zn7 {t:ByteArray}{f:Ty->Nat->Option (ByteArray×Nat)}{tv:Ty->Val->ByteArray}{ok:Ty->Val->Prop} :
  ∀ (fs:List (Nat×Ty×ByteArray)) (mk:UInt8) (b:Nat) (d d':ByteArray) (k:Nat),(∀ g∈fs,∀ j d k,f g.2.1 j=some (d,k)->∃ v,ok g.2.1 v/\At t j (tv g.2.1 v)/\k=j+(tv g.2.1 v).size)->(∀ g∈fs,g.1<256)->za0 f t fs (mk.toNat:Int) b d=some (d',k)->∃ vs:List Val,vs.length=fs.length/\(∀ p∈fs.zip vs,ok p.1.2.1 p.2)/\At t b (recT ((fs.zip vs).map fun p=>(p.1.1,tv p.1.2.1 p.2)) ⟨#[mk]⟩)/\k=b+(recT ((fs.zip vs).map fun p=>(p.1.1,tv p.1.2.1 p.2)) ⟨#[mk]⟩).size
 |[],mk,b,d,d',k,hf,hg,h=>by
  rw[za0]at h;split at h
  ·rename_i h125;cases h;exact⟨[],rfl,fun p hp=>absurd hp (by simp),At.one' 125 h125,rfl⟩
  ·cases h
 |g::fs,mk,b,d,d',k,hf,hg,h=>by
  rw[za0]at h;split at h
  ·rename_i hc;split at h
   ·cases h
   ·rename_i x k' hx;obtain⟨v,hv1,hv2,hv3⟩:=hf g (by simp) _ _ _ hx;obtain⟨vs,h1,h2,h3,h4⟩:=zn7 (ok:=ok) fs 44 _ _ _ _ (fun g' hg'=>hf g' (by simp[hg'])) (fun g' hg'=>hg g' (by simp[hg'])) h;have h256:=hg g (by simp);refine⟨v::vs,by simp[h1],fun p hp=>?_,?_,?_⟩
    ·rw[xj]at hp;rcases xu.1 hp with rfl|hp
     ·exact hv1
     ·exact h2 p hp
    ·simp only[xj,xf,recT];rw[At.app,At.app,At.app,At.app,At.one h256];simp only[xe,sz1,zak];refine⟨⟨At.one' mk hc.1,hc.2.1,?_,?_⟩,?_⟩
     ·rw[show b+1+1=b+2 by omega];exact At.one' 58 hc.2.2
     ·rw[show b+1+1+1=b+3 by omega];exact hv2
     ·rw[show b+(1+(1+(1+(tv g.2.1 v).size)))=k' by omega];exact h3
    ·simp only[xj,xf,recT,xe,sz1,zak];omega
  ·cases h
theorem zkb {st:Bool}{t:ByteArray}:∀ (n:Nat) (ty:Ty) (j:Nat) (d:ByteArray) (k:Nat),tyG n ty->tyF n ty->enc st t n ty j=some (d,k)->∃ v,okV n ty v/\At t j (txtV n ty v)/\k=j+(txtV n ty v).size
 |0,ty,j,d,k,_,_,h=>by simp[enc]at h
 |n+1,ty,j,d,k,hg,hF,h=>by
  have ih:=zkb (st:=st) (t:=t) n;rw[enc]at h;split at h
  ·rename_i hk;obtain⟨x,h1,h2,h3,h4,_⟩:=zof h;exact⟨.num x,ze0 (.inl ⟨hk,h1,h2⟩),h3,h4⟩
  ·split at h
   ·rename_i hk;obtain⟨x,h1,h2,h3,h4,_⟩:=zof h;exact⟨.num x,ze0 (.inr ⟨hk,h1,h2⟩),h3,h4⟩
   ·split at h
    ·rename_i hk;obtain⟨s,h1,h2,h3,h4,_⟩:=zwg h;exact⟨.str s,zkx ⟨hk,h1,h2⟩,h3,h4⟩
    ·split at h
     ·rename_i hk;split at h
      ·cases h
      ·rename_i hp;cases h;obtain⟨i,h1,h2,h3,h4⟩:=zk3 (l:=ty.letters) (c:=bAt t j) ty.letters.size 0 (by unfold pOf at hp;omega);have hl:=(hF.1 hk);have hj:j<t.size:=by
        have:=(hg.1 hk i (by omega)).1;rw[h4]at this;have:=zgk this;exact zaw (by omega)
       have hhi:=zeq t j;have hL:=zgk ((hg.1 hk i (by omega)).1);refine⟨.cho i,zkv ⟨hk,by omega,by omega⟩,?_,?_⟩
       ·rw[zdy,At.one (by omega)];omega
       ·rw[zdy,zak]
     ·split at h
      ·rename_i hk;unfold zb1 at h;split at h
       ·rename_i h91;split at h
        ·rename_i h93;cases h;refine⟨.lst [],zkw ⟨hk,qd _,fun v hv=>absurd hv xh⟩,?_,?_⟩
         ·rw[zeb];show At t j (⟨#[91]⟩++⟨#[93]⟩);rw[At.app,sz1];exact⟨At.one' 91 h91,At.one' 93 h93⟩
         ·rw[zeb];rfl
        ·obtain⟨v,us,h1,h2,h3,h4,h5⟩:=zob (tv:=txtV n ty.in) (ok:=okV n ty.in) (fun j d k h=>ih ty.in j d k (hg.2.2.1 (.inl hk)) (hF.2.1 (.inl hk)) h) _ _ _ _ _ _ h;have hT:txtV (n+1) ty (.lst (v::us))=⟨#[91]⟩++(txtV n ty.in v++sepT (us.map (txtV n ty.in))):=by
          rw[zeb];simp only[xf,zcc,zh6,qg,if_false,xp]
         refine⟨.lst (v::us),zkw ⟨hk,by simp;omega,fun u hu=>by rcases xu.1 hu with rfl|hu;exact h2;exact h3 u hu⟩,?_,?_⟩
         ·rw[hT,At.app,sz1];exact⟨At.one' 91 h91,h4⟩
         ·rw[hT,xe,sz1];omega
       ·cases h
      ·split at h
       ·rename_i hk;unfold zbq at h;split at h
        ·rename_i h95;cases h;refine⟨.non,zps hk,?_,?_⟩
         ·rw[zfr];exact At.one' 95 h95
         ·rw[zfr];rfl
        ·split at h
         ·cases h
         ·rename_i d0 k0 h0;cases h;obtain⟨v,h1,h2,h3⟩:=ih ty.in j d0 k (hg.2.2.1 (.inr hk)) (hF.2.1 (.inr hk)) h0;exact⟨.som v,zpt ⟨hk,h1⟩,by rw[ze9];exact h2,by rw[ze9];exact h3⟩
       ·split at h
        ·rename_i hk;obtain⟨vs,h1,h2,h3,h4⟩:=zn7 (tv:=txtV n) (ok:=fun t v=>okV n t v) ty.fields 123 j xq d k (fun f hf j d k h=>ih f.2.1 j d k (hg.2.2.2 f hf).2 (hF.2.2.2 f hf) h) (fun g hg'=>(hg.2.2.2 g hg').1) h;refine⟨.rcd vs,zgr ⟨hk,hF.2.2.1 hk,h1,h2⟩,?_,?_⟩
         ·rw[zdh,zgh,xo];exact h3
         ·rw[zdh,zgh,xo];exact h4
        ·cases h
def tyD:Nat->Ty->Prop
 |0,_=>True
 |n+1,ty=>(ty.kind=91\/ty.kind=63->tyD n ty.in)/\∀ f∈ty.fields,tyD n f.2.1/\(f.2.2.size≠0->∃ v,okV n f.2.1 v/\f.2.2=txtV n f.2.1 v)
theorem zi2 {s:ByteArray}:∀ (n i:Nat) (ty:Ty) (k:Nat),zae true s n i=some (ty,k)->tyL n ty/\tyF n ty/\tyD n ty
 |0,i,ty,k,h=>by simp[zae]at h
 |n+1,i,ty,k,h=>by
  have ih:=zi2 (s:=s) n;have his:i<s.size:=by have:=zcz true s _ _ _ _ h;omega
  obtain⟨_,n',hn,h60,hin,hne,h123,hk⟩:=zi3 h;obtain rfl:n'=n:=by omega
  have h6:ty.kind=60->1<=ty.letters.size/\ty.letters.size<=8:=fun h=>by
   obtain⟨_,_,l3,l4,_⟩:=zk8 (by omega) (h60 h);exact⟨l3,l4⟩
  have hi:ty.kind=91\/ty.kind=63->tyL n' ty.in/\tyF n' ty.in/\tyD n' ty.in:=fun h=>by
   obtain⟨k',hk'⟩:=hin h;exact ih _ _ _ hk'
  have hfs:ty.kind=123->ty.fields≠[]/\∀ f∈ty.fields,tyL n' f.2.1/\tyF n' f.2.1/\tyD n' f.2.1/\(f.2.2.size≠0->∃ v,okV n' f.2.1 v/\f.2.2=txtV n' f.2.1 v):=fun h3=>by
   obtain⟨k',hk'⟩:=h123 h3;have hpf:∀ i f k,zar (zae true s n') (enc true s n') s i=some (f,k)->(i<k/\k<=s.size)/\tyL n' f.2.1/\tyF n' f.2.1/\tyD n' f.2.1/\(f.2.2.size≠0->∃ v,okV n' f.2.1 v/\f.2.2=txtV n' f.2.1 v):=fun i f k hf=>by
    unfold zar at hf;split at hf
    ·split at hf
     ·cases hf
     ·rename_i t k' ht;have h1:=ih _ _ _ ht;have h2:=zcz true s _ _ _ _ ht;split at hf
      ·split at hf
       ·cases hf
       ·rename_i d m' he;cases hf;have h3:=zdf he;obtain⟨v,e1,e2,e3⟩:=zkb n' t _ _ _ (zft _ _ _ _ ht).1 h1.2.1 he;refine⟨⟨by omega,by omega⟩,h1.1,h1.2.1,h1.2.2,fun _=>⟨v,e1,?_⟩⟩;show s.extract (k'+1) k=txtV n' t v;rw[e3];exact e2.ext
      ·cases hf;exact⟨⟨by omega,by omega⟩,h1.1,h1.2.1,h1.2.2,fun h=>absurd rfl h⟩
    ·cases hf
   have hl:=zp2 (fun a f k hf=>(hpf a f k hf).1) (qd _) hk';refine⟨fun hf=>by rw[hf]at hl;simp at hl,?_⟩;exact(zih (Q:=fun f=>tyL n' f.2.1/\tyF n' f.2.1/\tyD n' f.2.1/\(f.2.2.size≠0->∃ v,okV n' f.2.1 v/\f.2.2=txtV n' f.2.1 v)) (fun i f k hf=>(hpf i f k hf).2) _ _ _ _ _ hk' (fun f hf=>absurd hf xh) (by simp)).1
  have hff:∀ f∈ty.fields,ty.kind=123:=fun f hf=>by
   apply xz;intro h3;rw[zos h h3]at hf;exact absurd hf xh
  exact⟨⟨hk,h6,fun h=>(hi h).1,hne,fun h3=>⟨(hfs h3).1,fun f hf=>((hfs h3).2 f hf).1⟩⟩,
   ⟨fun h=>(h6 h).2,fun h=>(hi h).2.1,fun h3=>(hfs h3).1,fun f hf=>((hfs (hff f hf)).2 f hf).2.1⟩,
   ⟨fun h=>(hi h).2.2,fun f hf=>((hfs (hff f hf)).2 f hf).2.2⟩⟩
theorem zra {f:Val->Option ByteArray}{tv:Val->ByteArray}{ok:Val->Prop}:∀ (vs:List Val) (k:Nat) (t y:ByteArray),(∀ v∈vs,∀ z,f v=some z->∃ w,ok w/\z=tv w)->zbg f vs k t=some y->∃ ws:List Val,ws.length=vs.length/\(∀ w∈ws,ok w)/\y=zcc k (ws.map tv) t
 |[],k,t,y,h,hy=>by
  simp only[zbg,xv]at hy;exact⟨[],rfl,fun w hw=>absurd hw xh,hy.symm⟩
 |v::vs,k,t,y,h,hy=>by
  rw[zbg]at hy;split at hy
  ·cases hy
  ·rename_i z hz;obtain⟨w,h1,h2⟩:=h v (by simp) z hz;obtain⟨ws,g1,g2,g3⟩:=zra (tv:=tv) (ok:=ok) vs _ _ _ (fun v hv=>h v (by simp[hv])) hy;refine⟨w::ws,by simp[g1],fun u hu=>by rcases xu.1 hu with rfl|hu;exact h1;exact g2 u hu,?_⟩;rw[xf,zcc,<- h2];exact g3
theorem zq7 {f:Nat×Ty×ByteArray->Option ByteArray}{tv:Ty->Val->ByteArray}{ok:Ty->Val->Prop}:∀ (gs:List (Nat×Ty×ByteArray)) (mk t y:ByteArray),(∀ g∈gs,∀ z,f g=some z->∃ w,ok g.2.1 w/\z=tv g.2.1 w)->zbj f gs mk t=some y->∃ ws:List Val,ws.length=gs.length/\(∀ p∈gs.zip ws,ok p.1.2.1 p.2)/\y=zcb ((gs.zip ws).map fun p=>(p.1.1,tv p.1.2.1 p.2)) mk t
 |[],mk,t,y,h,hy=>by
  simp only[zbj,xv]at hy;exact⟨[],rfl,fun p hp=>absurd hp (by simp),hy.symm⟩
 |g::gs,mk,t,y,h,hy=>by
  rw[zbj]at hy;split at hy
  ·cases hy
  ·rename_i z hz;obtain⟨w,h1,h2⟩:=h g (by simp) z hz;obtain⟨ws,g1,g2,g3⟩:=zq7 (tv:=tv) (ok:=ok) gs _ _ _ (fun g hg=>h g (by simp[hg])) hy;refine⟨w::ws,by simp[g1],fun p hp=>?_,?_⟩
   ·rw[xj]at hp;rcases xu.1 hp with rfl|hp
    ·exact h1
    ·exact g2 p hp
   ·simp only[xj,xf,zcb];rw[<- h2];exact g3
theorem zgw:∀ (k n q:Nat) (x r:Ty) (v:Val) (y:ByteArray),okV n x v->tyL q r->tyD q r->rdT k x r v=some y->∃ w,okV q r w/\y=txtV q r w
 |0,n,q,x,r,v,y,hv,hl,hD,h=>by simp[rdT]at h
 |k+1,0,q,x,r,v,y,hv,hl,hD,h=>hv.elim
 |k+1,n+1,0,x,r,v,y,hv,hl,hD,h=>hl.elim
 |k+1,n+1,q+1,x,r,v,y,hv,hl,hD,h=>by
  change zbc (rdT k) x r v=some y at h;unfold zbc at h;split at h
  ·rename_i hx;rcases hv with⟨z,rfl,hv⟩|⟨z,rfl,hv⟩|⟨i,rfl,hv⟩|⟨vs,rfl,hv⟩|⟨rfl,hv⟩|⟨u,rfl,hv⟩|⟨vs,rfl,hv⟩
   iterate 4
    ·omega
   ·change (if r.kind=63 then some (⟨#[95]⟩:ByteArray) else none)=some y at h;split at h
    ·rename_i hr;cases h;exact⟨.non,zps hr,rfl⟩
    ·cases h
   ·exact zgw k n (q+1) x.in r u y hv.2 hl hD h
   ·omega
  ·rename_i hx;split at h
   ·rename_i hr;obtain⟨w,h1,h2⟩:=zgw k (n+1) q x r.in v y hv (hl.2.2.1 (.inr hr)) (hD.1 (.inr hr)) h;exact⟨.som w,zpt ⟨hr,h1⟩,by rw[ze9];exact h2⟩
   ·rename_i hr;split at h
    ·rename_i hs;cases h;rcases hv with⟨z,rfl,hv⟩|⟨z,rfl,hv⟩|⟨i,rfl,hv⟩|⟨vs,rfl,hv⟩|⟨rfl,hv⟩|⟨u,rfl,hv⟩|⟨vs,rfl,hv⟩
     ·refine⟨.num z,ze0 ?_,rfl⟩;simp[zax]at hs;omega
     ·refine⟨.str z,zkx ⟨?_,hv.2⟩,rfl⟩;simp[zax]at hs;omega
     iterate 5
      ·exfalso;simp[zax]at hs;omega
    ·split at h
     ·cases h
     ·rename_i hs hkk;have hkk':x.kind=r.kind:=by simpa using hkk
      rcases hv with⟨z,rfl,hv⟩|⟨z,rfl,hv⟩|⟨i,rfl,hv⟩|⟨vs,rfl,hv⟩|⟨rfl,hv⟩|⟨u,rfl,hv⟩|⟨vs,rfl,hv⟩
      iterate 2
       ·cases h
      ·change zc0 x.letters r.letters r.op i=some y at h;unfold zc0 at h;have h68:=hl.2.1 (by omega);split at h
       ·split at h
        ·cases h;exact⟨.cho 0,zkv ⟨by omega,by omega,by omega⟩,by rw[zdy];exact zoq r.letters 0 (by omega)⟩
        ·cases h
       ·rename_i hp;cases h;obtain⟨j,e1,e2,e3,e4⟩:=zk3 (l:=r.letters) (c:=bAt x.letters i) r.letters.size 0 (by unfold pOf at hp;omega);exact⟨.cho j,zkv ⟨by omega,by omega,by omega⟩,by rw[zdy,e4]⟩
      ·change zbg (rdT k x.in r.in) vs 0 ⟨#[91]⟩=some y at h;obtain⟨ws,g1,g2,g3⟩:=zra (tv:=txtV q r.in) (ok:=okV q r.in) vs _ _ _ (fun v hv' z hz=>zgw k n q x.in r.in v z (hv.2.2 v hv') (hl.2.2.1 (.inl (by omega))) (hD.1 (.inl (by omega))) hz) h;exact⟨.lst ws,zkw ⟨by omega,by omega,g2⟩,by rw[zeb];exact g3⟩
      iterate 2
       ·cases h
      ·change zbj (zbi (rdT k) (x.fields.zip vs)) r.fields ⟨#[123]⟩ xq=some y at h;have h5:=hl.2.2.2.2 (by omega);obtain⟨ws,g1,g2,g3⟩:=zq7 (tv:=txtV q) (ok:=okV q) r.fields _ _ _ (fun g hg z hz=>by
        unfold zbi at hz;split at hz
        ·split at hz
         ·cases hz
         ·rename_i he;cases hz;exact(hD.2 g hg).2 he
        ·rename_i p hp;exact zgw k n q p.1.2.1 g.2.1 p.2 z (hv.2.2.2 p (zkf hp)) (h5.2 g hg) (hD.2 g hg).1 hz) h
       exact⟨.rcd ws,zgr ⟨by omega,h5.1,g1,g2⟩,by rw[zdh];exact g3⟩
section
end
section
end
section
end
section
end
section
end
section
end
section
theorem zdk {a b:ByteArray}(h:a.size+b.size<=9000000):qp .add a b=(pure (.string (a++b)):Sem Value):=by
 unfold qp;simp only;rw[if_neg];rw[show IntKind.i64.max=9223372036854775807 from rfl];omega
end
section
end
end Go.Proofs.YtkkekopomiehlabGreatDoor
