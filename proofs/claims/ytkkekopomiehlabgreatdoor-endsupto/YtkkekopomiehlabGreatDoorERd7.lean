import Derived.Test.YtkkekopomiehlabGreatDoorEBk3
set_option linter.unusedVariables false
set_option linter.unusedSimpArgs false
set_option maxHeartbeats 40000000
set_option maxRecDepth 4000
open List renaming getElem?_eq_getElem->xe,getD_eq_getElem?_getD->xf,getElem?_eq_some_iff->xg,mem_of_getElem?->xh,getElem?_map->xm,replicate->qd
open ByteArray renaming empty->xj,size_append->qf
open Nat renaming zero_le->xo,le_refl->xu,lt_of_lt_of_le->xy,zero_add->xz
open Int renaming toNat_natCast->xp
open Prod.mk renaming inj->xq
open Bool renaming and_eq_true->xv
open Go.World renaming frozen?->qe
open Go.World.ownsRow renaming cellAt->qg,lt->qh
open Option.some renaming inj->qi
open Go.RowKit
namespace Go.Proofs.YtkkekopomiehlabGreatDoor
section
theorem zrg (x r:Ty)(w:World)(ai:Option Addr)(li ci:Nat)(af:Option Addr)(lf cf:Nat)(bi:Option Addr)(mi di:Nat)(bf:Option Addr)(mf df:Nat)(D t:ByteArray)(b:Bool)
  (h1:((x.kind:Int) == 63)=true) (nw:Nat) (hin:∀ W,Below w.heap.size w W->Calls Tryz.prog 194 #[.agg #[.int .i64 x.kind,.string x.letters,.bool x.op,.slice ai li ci,.slice af lf cf]] W fun e w'=>∃ p1 p2 p3 p4 p5 p6,e=.returned (.agg #[.int .i64 x.in.kind,.string x.in.letters,.bool x.in.op,.slice p1 p2 p3,.slice p4 p5 p6])/\Rep nw w' p1 p2 p3 p4 p5 p6 x.in/\Below W.heap.size W w') (hcall:∀ (W:World) (p1:Option Addr) (p2 p3:Nat) (p4:Option Addr) (p5 p6:Nat),Below w.heap.size w W->Rep nw W p1 p2 p3 p4 p5 p6 x.in->Calls Tryz.prog 193 #[.agg #[.int .i64 x.in.kind,.string x.in.letters,.bool x.in.op,.slice p1 p2 p3,.slice p4 p5 p6],.agg #[.int .i64 r.kind,.string r.letters,.bool r.op,.slice bi mi di,.slice bf mf df],.string D] W fun e w'=>e=.returned (.tuple #[.string t,.bool b])/\Below W.heap.size W w') :
  Calls Tryz.prog 130 #[.agg #[.int .i64 x.kind,.string x.letters,.bool x.op,.slice ai li ci,.slice af lf cf],.agg #[.int .i64 r.kind,.string r.letters,.bool r.op,.slice bi mi di,.slice bf mf df],.string D] w fun e w'=>e=.returned (.tuple #[.string t,.bool b])/\Below w.heap.size w w':=by
 have e0:=zc3 w x r ai li ci af lf cf bi mi di bf mf df
 go_enter Tryz.func130,Tryz.ntmps130
 go_wp2_with fail
 go_region_held3 (fun w'=>w'.cell? ⟨w.heap.size,0,none⟩=some (.int .i64 x.kind)/\w'.cell? ⟨w.heap.size,1,none⟩=some (.string x.letters)/\w'.cell? ⟨w.heap.size,2,none⟩=some (.bool x.op)/\w'.cell? ⟨w.heap.size,3,none⟩=some (.slice ai li ci)/\w'.cell? ⟨w.heap.size,4,none⟩=some (.slice af lf cf)/\w'.cell? ⟨w.heap.size+1,0,none⟩=some (.int .i64 r.kind)/\w'.cell? ⟨w.heap.size+1,1,none⟩=some (.string r.letters)/\w'.cell? ⟨w.heap.size+1,2,none⟩=some (.bool r.op)/\w'.cell? ⟨w.heap.size+1,3,none⟩=some (.slice bi mi di)/\w'.cell? ⟨w.heap.size+1,4,none⟩=some (.slice bf mf df)) (go_keep) (first|(go_at_call 194;refine(hin _ (by first|exact(BB w _ _).drew|exact BB w _ _)).mono ?_;rintro e w1 ⟨p1,p2,p3,p4,p5,p6,rfl,hr1,hb1⟩;have e1:=zbu hb1 e0)|(go_at_call 193;refine(hcall _ _ _ _ _ _ _ (by first|exact(BB w _ _).drew.thn hb1|exact(BB w _ _).thn hb1) hr1).mono ?_;rintro e w2 ⟨rfl,hb2⟩;have e2:=zbu hb2 e1))
 go_wp2_with fail
 go_ret2
 exact⟨rfl,((BB w _ _).drew.thn hb1).thn hb2⟩
theorem yaba (x r:Ty)(w:World)(ai:Option Addr)(li ci:Nat)(af:Option Addr)(lf cf:Nat)(bi:Option Addr)(mi di:Nat)(bf:Option Addr)(mf df:Nat)(D t:ByteArray)(b:Bool)
  (h1:((x.kind:Int) == 63)=false) (h2:((r.kind:Int) == 63)=true) (nr:Nat) (hin:∀ W,Below w.heap.size w W->Calls Tryz.prog 194 #[.agg #[.int .i64 r.kind,.string r.letters,.bool r.op,.slice bi mi di,.slice bf mf df]] W fun e w'=>∃ p1 p2 p3 p4 p5 p6,e=.returned (.agg #[.int .i64 r.in.kind,.string r.in.letters,.bool r.in.op,.slice p1 p2 p3,.slice p4 p5 p6])/\Rep nr w' p1 p2 p3 p4 p5 p6 r.in/\Below W.heap.size W w') (hcall:∀ (W:World) (p1:Option Addr) (p2 p3:Nat) (p4:Option Addr) (p5 p6:Nat),Below w.heap.size w W->Rep nr W p1 p2 p3 p4 p5 p6 r.in->Calls Tryz.prog 130 #[.agg #[.int .i64 x.kind,.string x.letters,.bool x.op,.slice ai li ci,.slice af lf cf],.agg #[.int .i64 r.in.kind,.string r.in.letters,.bool r.in.op,.slice p1 p2 p3,.slice p4 p5 p6],.string D] W fun e w'=>e=.returned (.tuple #[.string t,.bool b])/\Below W.heap.size W w') :
  Calls Tryz.prog 130 #[.agg #[.int .i64 x.kind,.string x.letters,.bool x.op,.slice ai li ci,.slice af lf cf],.agg #[.int .i64 r.kind,.string r.letters,.bool r.op,.slice bi mi di,.slice bf mf df],.string D] w fun e w'=>e=.returned (.tuple #[.string t,.bool b])/\Below w.heap.size w w':=by
 have e0:=zc3 w x r ai li ci af lf cf bi mi di bf mf df
 go_enter Tryz.func130,Tryz.ntmps130
 go_wp2_with fail
 go_region_held3 (fun w'=>w'.cell? ⟨w.heap.size,0,none⟩=some (.int .i64 x.kind)/\w'.cell? ⟨w.heap.size,1,none⟩=some (.string x.letters)/\w'.cell? ⟨w.heap.size,2,none⟩=some (.bool x.op)/\w'.cell? ⟨w.heap.size,3,none⟩=some (.slice ai li ci)/\w'.cell? ⟨w.heap.size,4,none⟩=some (.slice af lf cf)/\w'.cell? ⟨w.heap.size+1,0,none⟩=some (.int .i64 r.kind)/\w'.cell? ⟨w.heap.size+1,1,none⟩=some (.string r.letters)/\w'.cell? ⟨w.heap.size+1,2,none⟩=some (.bool r.op)/\w'.cell? ⟨w.heap.size+1,3,none⟩=some (.slice bi mi di)/\w'.cell? ⟨w.heap.size+1,4,none⟩=some (.slice bf mf df)) (go_keep) (first|(go_at_call 194;refine(hin _ (by first|exact(BB w _ _).drew|exact BB w _ _)).mono ?_;rintro e w1 ⟨p1,p2,p3,p4,p5,p6,rfl,hr1,hb1⟩;have e1:=zbu hb1 e0)|(go_at_call 130;refine(hcall _ _ _ _ _ _ _ (by first|exact(BB w _ _).drew.thn hb1|exact(BB w _ _).thn hb1) hr1).mono ?_;rintro e w2 ⟨rfl,hb2⟩;have e2:=zbu hb2 e1))
 go_wp2_with fail
 go_ret2
 exact⟨rfl,((BB w _ _).drew.thn hb1).thn hb2⟩
theorem yabc (x r:Ty)(w:World)(ai:Option Addr)(li ci:Nat)(af:Option Addr)(lf cf:Nat)(bi:Option Addr)(mi di:Nat)(bf:Option Addr)(mf df:Nat)(D t:ByteArray)(b:Bool)
  (h1:((x.kind:Int) == 63)=false) (h2:((r.kind:Int) == 63)=false) (hs:zax x.kind r.kind=true) (hcall:∀ (W:World) ,Below w.heap.size w W-> Calls Tryz.prog 129 #[.agg #[.int .i64 x.kind,.string x.letters,.bool x.op,.slice ai li ci,.slice af lf cf],.string D] W fun e w'=>e=.returned (.tuple #[.string t,.bool b])/\Below W.heap.size W w') :
  Calls Tryz.prog 130 #[.agg #[.int .i64 x.kind,.string x.letters,.bool x.op,.slice ai li ci,.slice af lf cf],.agg #[.int .i64 r.kind,.string r.letters,.bool r.op,.slice bi mi di,.slice bf mf df],.string D] w fun e w'=>e=.returned (.tuple #[.string t,.bool b])/\Below w.heap.size w w':=by
 have e0:=zc3 w x r ai li ci af lf cf bi mi di bf mf df
 go_enter Tryz.func130,Tryz.ntmps130
 go_wp2_with (first|(go_at_call 195;refine(zdg _ _ _).mono ?_;rintro e _ ⟨rfl,rfl⟩;rw[hs])|(go_at_call 129;refine(hcall _ (BB w _ _)).mono ?_;rintro e w1 ⟨rfl,hb1⟩))
 go_ret2
 exact⟨rfl,(BB w _ _).thn hb1⟩
theorem yaa8 (x r:Ty)(w:World)(ai:Option Addr)(li ci:Nat)(af:Option Addr)(lf cf:Nat)(bi:Option Addr)(mi di:Nat)(bf:Option Addr)(mf df:Nat)(D t:ByteArray)(b:Bool)
  (h1:((x.kind:Int) == 63)=false) (h2:((r.kind:Int) == 63)=false) (hs:zax x.kind r.kind=false) (h3:((x.kind:Int) != (r.kind:Int))=true) (ht:t=xj) (hb:b=false) :
  Calls Tryz.prog 130 #[.agg #[.int .i64 x.kind,.string x.letters,.bool x.op,.slice ai li ci,.slice af lf cf],.agg #[.int .i64 r.kind,.string r.letters,.bool r.op,.slice bi mi di,.slice bf mf df],.string D] w fun e w'=>e=.returned (.tuple #[.string t,.bool b])/\Below w.heap.size w w':=by
 have e0:=zc3 w x r ai li ci af lf cf bi mi di bf mf df
 go_enter Tryz.func130,Tryz.ntmps130
 subst ht hb
 go_wp2_with (first|(go_at_call 195;refine(zdg _ _ _).mono ?_;rintro e _ ⟨rfl,rfl⟩;rw[hs]))
 go_ret2
 exact⟨rfl,BB w _ _⟩
theorem yaa6 (x r:Ty)(w:World)(ai:Option Addr)(li ci:Nat)(af:Option Addr)(lf cf:Nat)(bi:Option Addr)(mi di:Nat)(bf:Option Addr)(mf df:Nat)(D t:ByteArray)(b:Bool)
  (h1:((x.kind:Int) == 63)=false) (h2:((r.kind:Int) == 63)=false) (hs:zax x.kind r.kind=false) (h3:((x.kind:Int) != (r.kind:Int))=false) (k60:((x.kind:Int) == 60)=true) (hcall:∀ (W:World) ,Below w.heap.size w W-> Calls Tryz.prog 196 #[.agg #[.int .i64 x.kind,.string x.letters,.bool x.op,.slice ai li ci,.slice af lf cf],.agg #[.int .i64 r.kind,.string r.letters,.bool r.op,.slice bi mi di,.slice bf mf df],.string D] W fun e w'=>e=.returned (.tuple #[.string t,.bool b])/\Below W.heap.size W w') :
  Calls Tryz.prog 130 #[.agg #[.int .i64 x.kind,.string x.letters,.bool x.op,.slice ai li ci,.slice af lf cf],.agg #[.int .i64 r.kind,.string r.letters,.bool r.op,.slice bi mi di,.slice bf mf df],.string D] w fun e w'=>e=.returned (.tuple #[.string t,.bool b])/\Below w.heap.size w w':=by
 have e0:=zc3 w x r ai li ci af lf cf bi mi di bf mf df
 go_enter Tryz.func130,Tryz.ntmps130
 go_wp2_with (first|(go_at_call 195;refine(zdg _ _ _).mono ?_;rintro e _ ⟨rfl,rfl⟩;rw[hs])|(go_at_call 196;refine(hcall _ (BB w _ _)).mono ?_;rintro e w1 ⟨rfl,hb1⟩))
 go_ret2
 exact⟨rfl,(BB w _ _).thn hb1⟩
theorem yaa7 (x r:Ty)(w:World)(ai:Option Addr)(li ci:Nat)(af:Option Addr)(lf cf:Nat)(bi:Option Addr)(mi di:Nat)(bf:Option Addr)(mf df:Nat)(D t:ByteArray)(b:Bool)
  (h1:((x.kind:Int) == 63)=false) (h2:((r.kind:Int) == 63)=false) (hs:zax x.kind r.kind=false) (h3:((x.kind:Int) != (r.kind:Int))=false) (k60:((x.kind:Int) == 60)=false) (k91:((x.kind:Int) == 91)=true) (nw nr:Nat) (hin:∀ W,Below w.heap.size w W->Calls Tryz.prog 194 #[.agg #[.int .i64 x.kind,.string x.letters,.bool x.op,.slice ai li ci,.slice af lf cf]] W fun e w'=>∃ p1 p2 p3 p4 p5 p6,e=.returned (.agg #[.int .i64 x.in.kind,.string x.in.letters,.bool x.in.op,.slice p1 p2 p3,.slice p4 p5 p6])/\Rep nw w' p1 p2 p3 p4 p5 p6 x.in/\Below W.heap.size W w') (hin2:∀ W,Below w.heap.size w W->Calls Tryz.prog 194 #[.agg #[.int .i64 r.kind,.string r.letters,.bool r.op,.slice bi mi di,.slice bf mf df]] W fun e w'=>∃ p1 p2 p3 p4 p5 p6,e=.returned (.agg #[.int .i64 r.in.kind,.string r.in.letters,.bool r.in.op,.slice p1 p2 p3,.slice p4 p5 p6])/\Rep nr w' p1 p2 p3 p4 p5 p6 r.in/\Below W.heap.size W w') (hcall:∀ (W:World) (p1:Option Addr) (p2 p3:Nat) (p4:Option Addr) (p5 p6:Nat) (q1:Option Addr) (q2 q3:Nat) (q4:Option Addr) (q5 q6:Nat),Below w.heap.size w W->Rep nw W p1 p2 p3 p4 p5 p6 x.in->Rep nr W q1 q2 q3 q4 q5 q6 r.in->Calls Tryz.prog 197 #[.agg #[.int .i64 x.in.kind,.string x.in.letters,.bool x.in.op,.slice p1 p2 p3,.slice p4 p5 p6],.agg #[.int .i64 r.in.kind,.string r.in.letters,.bool r.in.op,.slice q1 q2 q3,.slice q4 q5 q6],.string D] W fun e w'=>e=.returned (.tuple #[.string t,.bool b])/\Below W.heap.size W w') :
  Calls Tryz.prog 130 #[.agg #[.int .i64 x.kind,.string x.letters,.bool x.op,.slice ai li ci,.slice af lf cf],.agg #[.int .i64 r.kind,.string r.letters,.bool r.op,.slice bi mi di,.slice bf mf df],.string D] w fun e w'=>e=.returned (.tuple #[.string t,.bool b])/\Below w.heap.size w w':=by
 have e0:=zc3 w x r ai li ci af lf cf bi mi di bf mf df
 go_enter Tryz.func130,Tryz.ntmps130
 go_wp2_with (first|(go_at_call 195;refine(zdg _ _ _).mono ?_;rintro e _ ⟨rfl,rfl⟩;rw[hs]))
 go_region_held3 (fun w'=>w'.cell? ⟨w.heap.size,0,none⟩=some (.int .i64 x.kind)/\w'.cell? ⟨w.heap.size,1,none⟩=some (.string x.letters)/\w'.cell? ⟨w.heap.size,2,none⟩=some (.bool x.op)/\w'.cell? ⟨w.heap.size,3,none⟩=some (.slice ai li ci)/\w'.cell? ⟨w.heap.size,4,none⟩=some (.slice af lf cf)/\w'.cell? ⟨w.heap.size+1,0,none⟩=some (.int .i64 r.kind)/\w'.cell? ⟨w.heap.size+1,1,none⟩=some (.string r.letters)/\w'.cell? ⟨w.heap.size+1,2,none⟩=some (.bool r.op)/\w'.cell? ⟨w.heap.size+1,3,none⟩=some (.slice bi mi di)/\w'.cell? ⟨w.heap.size+1,4,none⟩=some (.slice bf mf df)) (go_keep) (first|(go_at_call 194;have hq:=hb1;refine(hin2 _ (by first|exact(BB w _ _).drew.thn hb1|exact(BB w _ _).thn hb1)).mono ?_;rintro e w2 ⟨q1,q2,q3,q4,q5,q6,rfl,hr2,hb2⟩;have e2:=zbu hb2 e1)|(go_at_call 194;refine(hin _ (by first|exact(BB w _ _).drew|exact BB w _ _)).mono ?_;rintro e w1 ⟨p1,p2,p3,p4,p5,p6,rfl,hr1,hb1⟩;have e1:=zbu hb1 e0)|(go_at_call 197;refine(hcall _ _ _ _ _ _ _ _ _ _ _ _ _ (by first|exact((BB w _ _).drew.thn hb1).thn hb2|exact((BB w _ _).thn hb1).thn hb2) (hr1.keep hb2) hr2).mono ?_;rintro e w3 ⟨rfl,hb3⟩;have e3:=zbu hb3 e2))
 go_wp2_with fail
 go_ret2
 exact⟨rfl,(((BB w _ _).drew.thn hb1).thn hb2).thn hb3⟩
theorem yabb (x r:Ty)(w:World)(ai:Option Addr)(li ci:Nat)(af:Option Addr)(lf cf:Nat)(bi:Option Addr)(mi di:Nat)(bf:Option Addr)(mf df:Nat)(D t:ByteArray)(b:Bool)
  (h1:((x.kind:Int) == 63)=false) (h2:((r.kind:Int) == 63)=false) (hs:zax x.kind r.kind=false) (h3:((x.kind:Int) != (r.kind:Int))=false) (k60:((x.kind:Int) == 60)=false) (k91:((x.kind:Int) == 91)=false) (k123:((x.kind:Int) == 123)=true) (hcall:∀ (W:World) ,Below w.heap.size w W-> Calls Tryz.prog 198 #[.slice af lf cf,.slice bf mf df,.string D] W fun e w'=>e=.returned (.tuple #[.string t,.bool b])/\Below W.heap.size W w') :
  Calls Tryz.prog 130 #[.agg #[.int .i64 x.kind,.string x.letters,.bool x.op,.slice ai li ci,.slice af lf cf],.agg #[.int .i64 r.kind,.string r.letters,.bool r.op,.slice bi mi di,.slice bf mf df],.string D] w fun e w'=>e=.returned (.tuple #[.string t,.bool b])/\Below w.heap.size w w':=by
 have e0:=zc3 w x r ai li ci af lf cf bi mi di bf mf df
 go_enter Tryz.func130,Tryz.ntmps130
 go_wp2_with (first|(go_at_call 195;refine(zdg _ _ _).mono ?_;rintro e _ ⟨rfl,rfl⟩;rw[hs])|(go_at_call 198;refine(hcall _ (BB w _ _)).mono ?_;rintro e w1 ⟨rfl,hb1⟩))
 go_ret2
 exact⟨rfl,(BB w _ _).thn hb1⟩
end
section
theorem zs2 {m:Nat}{r:Ty}(h:r.inner≠[]):wt m r.in+70<=wt (m+1) r:=by
 unfold Ty.in;rcases hi:r.inner with _|⟨t,ts⟩
 ·exact absurd hi h
 ·rw[wt,hi];simp;omega
theorem znk {n:Nat}{x:Ty}{v:Val}(h:okV n x v):zd3 (datV n v) n x=some (txtV n x v):=by
 unfold zd3;rw[zhv n x v 0 h (At.self _)];simp
def outT:Option ByteArray->ByteArray
 |none=>xj
 |some t=>t
theorem zef (o:Option ByteArray):dRet o=.tuple #[.string (outT o),.bool o.isSome]:=by cases o<;>rfl
theorem kEqB {a b:Nat}(h:a=b):((a:Int) == (b:Int))=true:=by simp;omega
theorem kNeB {a b:Nat}(h:a≠b):((a:Int) == (b:Int))=false:=by simp;omega
theorem yabd {Tab:World->Prop}(F:zch Tab){m:Nat}(IH:zeo Tab m):zeo Tab (m+1):=by
 intro nw nr x r v w ai af li ci lf cf bi bf mi di mf df hm hnw hnr hT hox hor hx hr hv hsz hwt;cases nw with
 |zero=>exact hx.elim
 |succ nw =>
 cases nr with
 |zero=>exact hr.elim
 |succ nr =>
 have hwt':wt m r<=20000:=Nat.le_trans (zi7 m r) hwt;show Calls _ _ _ _ (fun e w'=>e=.returned (dRet (zbc (rdT m) x r v))/\Below w.heap.size w w');rw[zef];have hx8:x.letters.size<=8:=hx.1;have hr8:r.letters.size<=8:=hr.1;have hinx:=fun (hne:x.inner≠[]) (W:World) (hb:Below w.heap.size w W)=>zei nw W ai af li ci lf cf x (hx.keep hb) hne;have hinr:=fun (hne:r.inner≠[]) (W:World) (hb:Below w.heap.size w W)=>zei nr W bi bf mi di mf df r (hr.keep hb) hne;by_cases h63:x.kind=63
 ·have hne:x.inner≠[]:=hx.2.2.2.1.1 (.inr h63);rcases hv with⟨y,rfl,hv⟩|⟨s,rfl,hv⟩|⟨i,rfl,hv⟩|⟨vs,rfl,hv⟩|⟨rfl,hv⟩|⟨u,rfl,hv⟩|⟨vs,rfl,hv⟩
  iterate 4
   ·omega
  ·rw[show zbc (rdT m) x r .non=if r.kind=63 then some ⟨#[95]⟩ else none by unfold zbc;rw[if_pos h63];rfl,zhs];refine zrg x r w ai li ci af lf cf bi mi di bf mf df _ _ _ (kEqB h63) nw (hinx hne) (fun W p1 p2 p3 p4 p5 p6 hb hp=>?_);have:=yaa3 x.in r p1 p2 p3 p4 p5 p6 bi mi di bf mf df W;rw[zef]at this;exact this
  ·rw[show zbc (rdT m) x r (.som u)=rdT m x.in r u by unfold zbc;rw[if_pos h63];rfl];rw[zgf]at hsz ⊢;rw[qf,zak]at hsz;refine zrg x r w ai li ci af lf cf bi mi di bf mf df _ _ _ (kEqB h63) nw (hinx hne) (fun W p1 p2 p3 p4 p5 p6 hb hp=>?_);have:=yaa4 F IH nw (nr+1) x.in r u W p1 p4 p2 p3 p5 p6 bi bf mi di mf df (by omega) (by omega) hnr (F.1 _ _ hb hT) (hox.in hne) hor hp (hr.keep hb) hv.2 (by omega) hwt';rw[zef]at this;exact this
  ·omega
 ·by_cases hr63:r.kind=63
  ·have hne:r.inner≠[]:=hr.2.2.2.1.1 (.inr hr63);rw[show zbc (rdT m) x r v=rdT m x r.in v by unfold zbc;rw[if_neg h63,if_pos hr63]];have hwi:=zs2 (m:=m) hne;refine yaba x r w ai li ci af lf cf bi mi di bf mf df _ _ _ (kNeB h63) (kEqB hr63) nr (hinr hne) (fun W p1 p2 p3 p4 p5 p6 hb hp=>?_);have:=IH (nw+1) nr x r.in v W ai af li ci lf cf p1 p4 p2 p3 p5 p6 (by omega) hnw (by omega) (F.1 _ _ hb hT) hox (hor.in hne) (hx.keep hb) hp hv hsz (by omega);rw[zef]at this;exact this
  ·cases hsame:zax x.kind r.kind with
   |true =>
    rw[show zbc (rdT m) x r v=some (zh8 v) by unfold zbc;rw[if_neg h63,if_neg hr63,if_pos hsame]];have htx:txtV (nw+1) x v=zh8 v:=by
     have hk:x.kind=105\/x.kind=108\/x.kind=115:=by simp[zax]at hsame;omega
     rcases hv with⟨y,rfl,hv⟩|⟨s,rfl,hv⟩|⟨i,rfl,hv⟩|⟨vs,rfl,hv⟩|⟨rfl,hv⟩|⟨u,rfl,hv⟩|⟨vs,rfl,hv⟩
     iterate 2
      ·rfl
     iterate 5
      ·omega
    refine yabc x r w ai li ci af lf cf bi mi di bf mf df _ _ _ (kNeB h63) (kNeB hr63) hsame (fun W hb=>?_);have:=zrm F (t:=datV (nw+1) v) (by omega) (show nw+1<=100 by omega) x W ai af li ci lf cf (F.1 _ _ hb hT) hox (hx.keep hb);rw[znk hv,htx,zef]at this;exact this
   |false =>
    by_cases hkk:x.kind=r.kind
    ·have h3:((x.kind:Int) != (r.kind:Int))=false:=by simp;omega
     have hstep:zbc (rdT m) x r v=if v.tag=2 then zc0 x.letters r.letters r.op v.n.toNat else if v.tag=3 then zbg (rdT m x.in r.in) v.vs 0 ⟨#[91]⟩ else if v.tag=6 then zbj (zbi (rdT m) (x.fields.zip v.vs)) r.fields ⟨#[123]⟩ xj else none:=by
      unfold zbc;rw[if_neg h63,if_neg hr63,if_neg (by rw[hsame];simp),if_neg (by simp[hkk])]
     rcases hv with⟨y,rfl,hv⟩|⟨s,rfl,hv⟩|⟨i,rfl,hv⟩|⟨vs,rfl,hv⟩|⟨rfl,hv⟩|⟨u,rfl,hv⟩|⟨vs,rfl,hv⟩
     iterate 2
      ·exfalso;simp[zax]at hsame;omega
     ·rw[show zbc (rdT m) x r (.cho i)=zc0 x.letters r.letters r.op i from hstep,zhr];refine yaa6 x r w ai li ci af lf cf bi mi di bf mf df _ _ _ (kNeB h63) (kNeB hr63) hsame h3 (kEqB hv.1) (fun W hb=>?_);have:=yaa0 x r ai li ci af lf cf bi mi di bf mf df i W hx8 hr8 hv.2.1;rw[zef]at this;exact this
     ·have hn1:x.inner≠[]:=hx.2.2.2.1.1 (.inl hv.1);have hn2:r.inner≠[]:=hr.2.2.2.1.1 (.inl (by omega));have hwi:=zs2 (m:=m) hn2;rw[show zbc (rdT m) x r (.lst vs)=zbg (rdT m x.in r.in) vs 0 ⟨#[91]⟩from hstep];rw[zge]at hsz ⊢;refine yaa7 x r w ai li ci af lf cf bi mi di bf mf df _ _ _ (kNeB h63) (kNeB hr63) hsame h3 (kNeB (b:=60) (by omega)) (kEqB hv.1) nw nr (hinx hn1) (hinr hn2) (fun W p1 p2 p3 p4 p5 p6 q1 q2 q3 q4 q5 q6 hb hp hq=>?_);have:=yaa2 F IH nw nr x.in r.in vs W p1 p4 p2 p3 p5 p6 q1 q4 q2 q3 q5 q6 (by omega) (by omega) (by omega) (F.1 _ _ hb hT) (hox.in hn1) (hor.in hn2) hp hq hv.2.1 hv.2.2 hsz (by omega);rw[zef]at this;exact this
     iterate 2
      ·omega
     ·rw[show zbc (rdT m) x r (.rcd vs)=zbj (zbi (rdT m) (x.fields.zip vs)) r.fields ⟨#[123]⟩ xj from hstep];rw[zeg]at hsz ⊢;have hlx:=hx.flds;have hlr:=hr.flds;have hrn:r.fields≠[]:=hr.2.2.2.1.2 (by omega);refine yabb x r w ai li ci af lf cf bi mi di bf mf df _ _ _ (kNeB h63) (kNeB hr63) hsame h3 (kNeB (b:=60) (by omega)) (kNeB (b:=91) (by omega)) (kEqB hv.1) (fun W hb=>?_);have:=yaa5 F IH nw nr (by omega) (by omega) (by omega) x.fields r.fields vs _ W af bf lf cf mf df hlx.1 hlr.1 hlx.2.1 hlr.2.1 hv.2.1 hrn (F.1 _ _ hb hT) hox.2 hor.2 hv.2.2.1 hv.2.2.2 rfl hsz (hx.keep hb).flds.2.2 (hr.keep hb).flds.2.2 (by rw[wt]at hwt;omega);rw[zef]at this;exact this
    ·rw[show zbc (rdT m) x r v=none by unfold zbc;rw[if_neg h63,if_neg hr63,if_neg (by rw[hsame];simp),if_pos hkk]];exact yaa8 x r w ai li ci af lf cf bi mi di bf mf df _ _ _ (kNeB h63) (kNeB hr63) hsame (by simp;omega) rfl rfl
theorem zrf {Tab:World->Prop}(F:zch Tab):∀ m,zeo Tab m
 |0=>fun nw nr x r v w ai af li ci lf cf bi bf mi di mf df hm hnw hnr hT hox hor hx hr hv hsz hwt=>by
  obtain rfl:nw=0:=by omega
  exact hx.elim
 |m+1=>yabd F (zrf F m)
end
section
theorem yae7 {w w1:World}(hb:Below ((w.alloc (.cells #[.int .i64 0,.string ⟨#[]⟩,.bool false,.slice none 0 0,.slice none 0 0] 201)).alloc (.cells #[.int .i64 0,.string ⟨#[]⟩,.bool false,.slice none 0 0,.slice none 0 0] 201)).heap.size ((w.alloc (.cells #[.int .i64 0,.string ⟨#[]⟩,.bool false,.slice none 0 0,.slice none 0 0] 201)).alloc (.cells #[.int .i64 0,.string ⟨#[]⟩,.bool false,.slice none 0 0,.slice none 0 0] 201)) w1) :
  w1.cell? ⟨w.heap.size,0,none⟩=some (.int .i64 0)/\w1.cell? ⟨w.heap.size,1,none⟩=some (.string ⟨#[]⟩)/\w1.cell? ⟨w.heap.size,2,none⟩=some (.bool false)/\w1.cell? ⟨w.heap.size,3,none⟩=some (.slice none 0 0)/\w1.cell? ⟨w.heap.size,4,none⟩=some (.slice none 0 0)/\w1.cell? ⟨w.heap.size+1,0,none⟩=some (.int .i64 0)/\w1.cell? ⟨w.heap.size+1,1,none⟩=some (.string ⟨#[]⟩)/\w1.cell? ⟨w.heap.size+1,2,none⟩=some (.bool false)/\w1.cell? ⟨w.heap.size+1,3,none⟩=some (.slice none 0 0)/\w1.cell? ⟨w.heap.size+1,4,none⟩=some (.slice none 0 0):=by
 have h:(w.alloc (.cells #[.int .i64 0,.string ⟨#[]⟩,.bool false,.slice none 0 0,.slice none 0 0] 201)).heap.size=w.heap.size+1:=by simp
 refine⟨zab hb (zah _ (zam rfl rfl)),zab hb (zah _ (zam rfl rfl)),zab hb (zah _ (zam rfl rfl)),zab hb (zah _ (zam rfl rfl)),zab hb (zah _ (zam rfl rfl)),?_⟩;rw[<- h];exact⟨zab hb (zam rfl rfl),zab hb (zam rfl rfl),zab hb (zam rfl rfl),zab hb (zam rfl rfl),zab hb (zam rfl rfl)⟩
theorem yae8 {w w1 w2:World}{o o2:Obj}(hb:Below ((w.alloc (.cells #[.int .i64 0,.string ⟨#[]⟩,.bool false,.slice none 0 0,.slice none 0 0] 201)).alloc (.cells #[.int .i64 0,.string ⟨#[]⟩,.bool false,.slice none 0 0,.slice none 0 0] 201)).heap.size ((w.alloc (.cells #[.int .i64 0,.string ⟨#[]⟩,.bool false,.slice none 0 0,.slice none 0 0] 201)).alloc (.cells #[.int .i64 0,.string ⟨#[]⟩,.bool false,.slice none 0 0,.slice none 0 0] 201)) w1)(hb2:Below (w1.alloc o).heap.size (w1.alloc o) w2) :
  (w2.alloc o2).cell? ⟨w.heap.size,0,none⟩=some (.int .i64 0)/\(w2.alloc o2).cell? ⟨w.heap.size,1,none⟩=some (.string ⟨#[]⟩)/\(w2.alloc o2).cell? ⟨w.heap.size,2,none⟩=some (.bool false)/\(w2.alloc o2).cell? ⟨w.heap.size,3,none⟩=some (.slice none 0 0)/\(w2.alloc o2).cell? ⟨w.heap.size,4,none⟩=some (.slice none 0 0)/\(w2.alloc o2).cell? ⟨w.heap.size+1,0,none⟩=some (.int .i64 0)/\(w2.alloc o2).cell? ⟨w.heap.size+1,1,none⟩=some (.string ⟨#[]⟩)/\(w2.alloc o2).cell? ⟨w.heap.size+1,2,none⟩=some (.bool false)/\(w2.alloc o2).cell? ⟨w.heap.size+1,3,none⟩=some (.slice none 0 0)/\(w2.alloc o2).cell? ⟨w.heap.size+1,4,none⟩=some (.slice none 0 0):=by
 obtain⟨h0,h1,h2,h3,h4,k0,k1,k2,k3,k4⟩:=yae7 hb;have q:∀ {b i:Nat} {v:Value},w1.cell? ⟨b,i,none⟩=some v->(w2.alloc o2).cell? ⟨b,i,none⟩=some v:=fun h=>zah _ (zab hb2 (zah _ h));exact⟨q h0,q h1,q h2,q h3,q h4,q k0,q k1,q k2,q k3,q k4⟩
theorem thnT {w W w1:World}(h:Below w.heap.size w W)(k:Below W.heap.size W w1):Below w.heap.size w w1:=h.trans (k.mono h.size)
theorem BBt (w:World)(o o2:Obj):Below w.heap.size w ((w.alloc o).alloc o2):=((Below.refl _ _).alloc (xu _) _).alloc (by simp) _
theorem zsm {s t:ByteArray}(hs:s.size<=60)(ht:t.size<=60){x r:Ty}(hx:pAll false s=some x)(hr:pAll false t=some r)(w:World) :
  Calls Tryz.prog 128 #[.string s,.string t] w fun e w'=>∃ ai li ci af lf cf bi mi di bf mf df,e=.returned (.tuple #[.agg #[.int .i64 x.kind,.string x.letters,.bool x.op,.slice ai li ci,.slice af lf cf],.agg #[.int .i64 r.kind,.string r.letters,.bool r.op,.slice bi mi di,.slice bf mf df],.int .i64 0]) /\
   RepB (fun b=>w.heap.size<=b) s.size w' ai li ci af lf cf x/\RepB (fun b=>w.heap.size<=b) t.size w' bi mi di bf mf df r/\Below w.heap.size w w':=by
 have hcall:=fun w=>zfy (zfs hs w) hx;have hcall2:=fun w=>zfy (zfs ht w) hr;clear hx hr
 go_enter Tryz.func128,Tryz.ntmps128
 go_wp2_with (first|(go_at_call 131;have hq:=hb1;refine(hcall2 _).mono ?_;rintro e w2 ⟨bi,mi,di,bf,mf,df,rfl,hr2,hb2⟩;obtain⟨hc2,hf2⟩:=zap hb2;have hy1:w1.heap.size<w2.heap.size:=(by have:=hb2.size;simp at this;omega);have hy2:w.heap.size<w2.heap.size:=(by omega);have hy3:w.heap.size+1<w2.heap.size:=(by omega))|(go_at_call 131;refine(hcall _).mono ?_;rintro e w1 ⟨ai,li,ci,af,lf,cf,rfl,hr1,hb1⟩;obtain⟨hc1,hf1⟩:=zap hb1;have hz1:w.heap.size+1<w1.heap.size:=(by have:=hb1.size;simp at this;omega);have hz2:w.heap.size<w1.heap.size:=(by omega)))
 have k1:(w2.alloc (.cells #[.int .i64 r.kind,.string r.letters,.bool r.op,.slice bi mi di,.slice bf mf df] 201)).cell? ⟨w1.heap.size,0,none⟩=some (.int .i64 x.kind)/\(w2.alloc (.cells #[.int .i64 r.kind,.string r.letters,.bool r.op,.slice bi mi di,.slice bf mf df] 201)).cell? ⟨w1.heap.size,1,none⟩=some (.string x.letters)/\(w2.alloc (.cells #[.int .i64 r.kind,.string r.letters,.bool r.op,.slice bi mi di,.slice bf mf df] 201)).cell? ⟨w1.heap.size,2,none⟩=some (.bool x.op)/\(w2.alloc (.cells #[.int .i64 r.kind,.string r.letters,.bool r.op,.slice bi mi di,.slice bf mf df] 201)).cell? ⟨w1.heap.size,3,none⟩=some (.slice ai li ci)/\(w2.alloc (.cells #[.int .i64 r.kind,.string r.letters,.bool r.op,.slice bi mi di,.slice bf mf df] 201)).cell? ⟨w1.heap.size,4,none⟩=some (.slice af lf cf):=by
  refine⟨zah _ (zab hb2 (zam rfl rfl)),zah _ (zab hb2 (zam rfl rfl)),zah _ (zab hb2 (zam rfl rfl)),zah _ (zab hb2 (zam rfl rfl)),zah _ (zab hb2 (zam rfl rfl))⟩
 have k2:(w2.alloc (.cells #[.int .i64 r.kind,.string r.letters,.bool r.op,.slice bi mi di,.slice bf mf df] 201)).cell? ⟨w2.heap.size,0,none⟩=some (.int .i64 r.kind)/\(w2.alloc (.cells #[.int .i64 r.kind,.string r.letters,.bool r.op,.slice bi mi di,.slice bf mf df] 201)).cell? ⟨w2.heap.size,1,none⟩=some (.string r.letters)/\(w2.alloc (.cells #[.int .i64 r.kind,.string r.letters,.bool r.op,.slice bi mi di,.slice bf mf df] 201)).cell? ⟨w2.heap.size,2,none⟩=some (.bool r.op)/\(w2.alloc (.cells #[.int .i64 r.kind,.string r.letters,.bool r.op,.slice bi mi di,.slice bf mf df] 201)).cell? ⟨w2.heap.size,3,none⟩=some (.slice bi mi di)/\(w2.alloc (.cells #[.int .i64 r.kind,.string r.letters,.bool r.op,.slice bi mi di,.slice bf mf df] 201)).cell? ⟨w2.heap.size,4,none⟩=some (.slice bf mf df):=⟨zam rfl rfl,zam rfl rfl,zam rfl rfl,zam rfl rfl,zam rfl rfl⟩;have kz:=yae8 hb1 hb2 (o:=.cells #[.int .i64 x.kind,.string x.letters,.bool x.op,.slice ai li ci,.slice af lf cf] 201) (o2:=.cells #[.int .i64 r.kind,.string r.letters,.bool r.op,.slice bi mi di,.slice bf mf df] 201);have hbW:Below w.heap.size w (w2.alloc (.cells #[.int .i64 r.kind,.string r.letters,.bool r.op,.slice bi mi di,.slice bf mf df] 201)):=Below.alloc' (thnT (Below.alloc' (thnT (BBt w _ _) hb1) _) hb2) _;have hR1:RepB (fun b=>w.heap.size+2<=b) s.size (w2.alloc (.cells #[.int .i64 r.kind,.string r.letters,.bool r.op,.slice bi mi di,.slice bf mf df] 201)) ai li ci af lf cf x:=(hr1.keep (fun b o v hS h=>zah _ (zab hb2 (zah _ h)))).imp (fun b _ h=>by simp at h;omega);have hR2:RepB (fun b=>w.heap.size+2<=b) t.size (w2.alloc (.cells #[.int .i64 r.kind,.string r.letters,.bool r.op,.slice bi mi di,.slice bf mf df] 201)) bi mi di bf mf df r:=(hr2.keep (fun b o v hS h=>zah _ h)).imp (fun b _ h=>by simp at h;omega);have fz:∀ o,(w2.alloc (.cells #[.int .i64 r.kind,.string r.letters,.bool r.op,.slice bi mi di,.slice bf mf df] 201)).frozen? ⟨w.heap.size,o,none⟩=false:=fun o=>by
  rw[frozen?_alloc_cells,hf2 _ _ (by simp;omega),frozen?_alloc_cells,hf1 _ _ (by simp;omega),frozen?_alloc_cells,frozen?_alloc_cells];simp[qe]
 have fz2:∀ o,(w2.alloc (.cells #[.int .i64 r.kind,.string r.letters,.bool r.op,.slice bi mi di,.slice bf mf df] 201)).frozen? ⟨w.heap.size+1,o,none⟩=false:=fun o=>by
  rw[frozen?_alloc_cells,hf2 _ _ (by simp;omega),frozen?_alloc_cells,hf1 _ _ (by simp),frozen?_alloc_cells,frozen?_alloc_cells];simp[qe]
 have n1:¬ w1.heap.size=w.heap.size:=by omega
 have n2:¬ w1.heap.size=w.heap.size+1:=by omega
 have n3:¬ w2.heap.size=w.heap.size:=by omega
 have n4:¬ w2.heap.size=w.heap.size+1:=by omega
 have n5:¬ w.heap.size=w1.heap.size:=by omega
 have n6:¬ w.heap.size+1=w1.heap.size:=by omega
 have n7:¬ w.heap.size=w2.heap.size:=by omega
 have n8:¬ w.heap.size+1=w2.heap.size:=by omega
 generalize (w2.alloc (.cells #[.int .i64 r.kind,.string r.letters,.bool r.op,.slice bi mi di,.slice bf mf df] 201))=W3 at k1 k2 kz fz fz2 hbW hR1 hR2 ⊢
 go_region_held3 (fun w'=>(w'.cell? ⟨w1.heap.size,0,none⟩=some (.int .i64 x.kind)/\w'.cell? ⟨w1.heap.size,1,none⟩=some (.string x.letters)/\w'.cell? ⟨w1.heap.size,2,none⟩=some (.bool x.op)/\w'.cell? ⟨w1.heap.size,3,none⟩=some (.slice ai li ci)/\w'.cell? ⟨w1.heap.size,4,none⟩=some (.slice af lf cf))/\w'.cell? ⟨w2.heap.size,0,none⟩=some (.int .i64 r.kind)/\w'.cell? ⟨w2.heap.size,1,none⟩=some (.string r.letters)/\w'.cell? ⟨w2.heap.size,2,none⟩=some (.bool r.op)/\w'.cell? ⟨w2.heap.size,3,none⟩=some (.slice bi mi di)/\w'.cell? ⟨w2.heap.size,4,none⟩=some (.slice bf mf df)) (go_keep) (fail)
 go_wp2_with fail
 refine bodyPost_ret (v:=.tuple #[.agg #[.int .i64 x.kind,.string x.letters,.bool x.op,.slice ai li ci,.slice af lf cf],.agg #[.int .i64 r.kind,.string r.letters,.bool r.op,.slice bi mi di,.slice bf mf df],.int .i64 0]) (by simp[results,Tryz.results128,go_sem,kz]) rfl ?_;exact⟨ai,li,ci,af,lf,cf,bi,mi,di,bf,mf,df,rfl,(hR1.keep (fun b o v hS h=>zjv (zco (zco h (by omega)) (by omega)))).imp (fun b _ h=>by show w.heap.size<=b;omega),
  (hR2.keep (fun b o v hS h=>zjv (zco (zco h (by omega)) (by omega)))).imp (fun b _ h=>by show w.heap.size<=b;omega),(Below.set5 (Below.set5 hbW (xu _)) (by omega)).drew⟩
end
section
theorem zif {st:Bool}{s:ByteArray}{ty:Ty}(hx:pAll st s=some ty):zae st s s.size 0=some (ty,s.size):=by
 unfold pAll at hx;rcases hq:zae st s s.size 0 with _|⟨ty',k⟩
 ·rw[hq]at hx;cases hx
 ·rw[hq]at hx;simp only at hx;split at hx
  ·rename_i h;cases hx;rw[h]
  ·cases hx
end
section
theorem zto (s t d T y:ByteArray)(hd:d.size<=64)(w:World)(x r:Ty)(n m:Nat)
  (hcall:∀ w,Calls Tryz.prog 128 #[.string s,.string t] w fun e w'=>∃ ai li ci af lf cf bi mi di bf mf df,e=.returned (.tuple #[.agg #[.int .i64 x.kind,.string x.letters,.bool x.op,.slice ai li ci,.slice af lf cf],.agg #[.int .i64 r.kind,.string r.letters,.bool r.op,.slice bi mi di,.slice bf mf df],.int .i64 0]) /\
   RepB (fun b=>w.heap.size<=b) n w' ai li ci af lf cf x/\RepB (fun b=>w.heap.size<=b) m w' bi mi di bf mf df r/\Below w.heap.size w w')
  (hdec:∀ (W:World) (ai af:Option Addr) (li ci lf cf:Nat),Below w.heap.size w W->Rep n W ai li ci af lf cf x->Calls Tryz.prog 129 #[.agg #[.int .i64 x.kind,.string x.letters,.bool x.op,.slice ai li ci,.slice af lf cf],.string d] W fun e w'=>e=.returned (.tuple #[.string T,.bool true])/\Below W.heap.size W w')
  (hrd:∀ (W:World) (ai af:Option Addr) (li ci lf cf:Nat) (bi bf:Option Addr) (mi di mf df:Nat),Below w.heap.size w W->Rep n W ai li ci af lf cf x->Rep m W bi mi di bf mf df r->Calls Tryz.prog 130 #[.agg #[.int .i64 x.kind,.string x.letters,.bool x.op,.slice ai li ci,.slice af lf cf],.agg #[.int .i64 r.kind,.string r.letters,.bool r.op,.slice bi mi di,.slice bf mf df],.string d] W fun e w'=>e=.returned (.tuple #[.string y,.bool false])/\Below W.heap.size W w') :
  Calls Tryz.prog 66 #[.string s,.string t,.string d] w fun e w'=>e=.returned (.tuple #[.string xj,.int .i64 6])/\Below w.heap.size w w':=by
 go_enter Tryz.func66,Tryz.ntmps66
 go_wp2_with (first|(go_at_call 128;refine(hcall _).mono ?_;rintro e w1 ⟨ai,li,ci,af,lf,cf,bi,mi,di,bf,mf,df,rfl,hr1,hr2,hb1⟩)|(go_at_call 129;refine(hdec _ _ _ _ _ _ _ (Below.alloc' (Below.alloc' hb1 _) _) (hr1.rep.keep (BB w1 _ _))).mono ?_;rintro e w2 ⟨rfl,hb2⟩;have e2:=zbu hb2 (zc3 w1 x r ai li ci af lf cf bi mi di bf mf df))|(go_at_call 130;refine(hrd _ _ _ _ _ _ _ _ _ _ _ _ _ ((Below.alloc' (Below.alloc' hb1 _) _).thn hb2) (hr1.rep.keep ((BB w1 _ _).thn hb2)) (hr2.rep.keep ((BB w1 _ _).thn hb2))).mono ?_;rintro e w3 ⟨rfl,hb3⟩))
 go_ret2
 exact⟨rfl,((Below.alloc' (Below.alloc' hb1 _) _).thn hb2).thn hb3⟩
theorem ztn (s t d T y:ByteArray)(hd:d.size<=64)(w:World)(x r:Ty)(n m:Nat)
  (hcall:∀ w,Calls Tryz.prog 128 #[.string s,.string t] w fun e w'=>∃ ai li ci af lf cf bi mi di bf mf df,e=.returned (.tuple #[.agg #[.int .i64 x.kind,.string x.letters,.bool x.op,.slice ai li ci,.slice af lf cf],.agg #[.int .i64 r.kind,.string r.letters,.bool r.op,.slice bi mi di,.slice bf mf df],.int .i64 0]) /\
   RepB (fun b=>w.heap.size<=b) n w' ai li ci af lf cf x/\RepB (fun b=>w.heap.size<=b) m w' bi mi di bf mf df r/\Below w.heap.size w w')
  (hdec:∀ (W:World) (ai af:Option Addr) (li ci lf cf:Nat),Below w.heap.size w W->Rep n W ai li ci af lf cf x->Calls Tryz.prog 129 #[.agg #[.int .i64 x.kind,.string x.letters,.bool x.op,.slice ai li ci,.slice af lf cf],.string d] W fun e w'=>e=.returned (.tuple #[.string T,.bool true])/\Below W.heap.size W w')
  (hrd:∀ (W:World) (ai af:Option Addr) (li ci lf cf:Nat) (bi bf:Option Addr) (mi di mf df:Nat),Below w.heap.size w W->Rep n W ai li ci af lf cf x->Rep m W bi mi di bf mf df r->Calls Tryz.prog 130 #[.agg #[.int .i64 x.kind,.string x.letters,.bool x.op,.slice ai li ci,.slice af lf cf],.agg #[.int .i64 r.kind,.string r.letters,.bool r.op,.slice bi mi di,.slice bf mf df],.string d] W fun e w'=>e=.returned (.tuple #[.string y,.bool true])/\Below W.heap.size W w') :
  Calls Tryz.prog 66 #[.string s,.string t,.string d] w fun e w'=>e=.returned (.tuple #[.string y,.int .i64 0])/\Below w.heap.size w w':=by
 go_enter Tryz.func66,Tryz.ntmps66
 go_wp2_with (first|(go_at_call 128;refine(hcall _).mono ?_;rintro e w1 ⟨ai,li,ci,af,lf,cf,bi,mi,di,bf,mf,df,rfl,hr1,hr2,hb1⟩)|(go_at_call 129;refine(hdec _ _ _ _ _ _ _ (Below.alloc' (Below.alloc' hb1 _) _) (hr1.rep.keep (BB w1 _ _))).mono ?_;rintro e w2 ⟨rfl,hb2⟩;have e2:=zbu hb2 (zc3 w1 x r ai li ci af lf cf bi mi di bf mf df))|(go_at_call 130;refine(hrd _ _ _ _ _ _ _ _ _ _ _ _ _ ((Below.alloc' (Below.alloc' hb1 _) _).thn hb2) (hr1.rep.keep ((BB w1 _ _).thn hb2)) (hr2.rep.keep ((BB w1 _ _).thn hb2))).mono ?_;rintro e w3 ⟨rfl,hb3⟩))
 go_ret2
 exact⟨rfl,((Below.alloc' (Below.alloc' hb1 _) _).thn hb2).thn hb3⟩
def zrc:Option ByteArray->ByteArray×Int
 |none=>(xj,6)
 |some t=>(t,0)
end
section
end
theorem zte (s:ByteArray)(hm:s.size<=maxLen)(w:World) :
  Calls Tryz.prog 69 #[.string s] w fun e w'=>e=.returned (.int .i64 (chk false s))/\Below w.heap.size w w':=by
 by_cases hs:60<s.size
 ·have hr':Hid (chk false s=1):=by show _=_;unfold chk;rw[if_pos hs]
  have hcall:=fun w=>zsk hs hm w;clear hs hm
  go_enter Tryz.func69,Tryz.ntmps69
  go_wp2_with (go_at_call 131;refine(hcall _).mono ?_;rintro e w1 ⟨rfl,hb1⟩)
  go_ret;exact⟨zck hr'.out.symm,Below.alloc' hb1 _⟩
 ·cases hx:pAll false s with
  |none =>
   have hr':Hid (chk false s=2):=by show _=_;unfold chk;rw[if_neg hs,hx];rfl
   have hcall:=fun w=>zjf (zfs (s:=s) (by omega) w) hx;clear hs hm hx
   go_enter Tryz.func69,Tryz.ntmps69
   go_wp2_with (go_at_call 131;refine(hcall _).mono ?_;rintro e w1 ⟨rfl,hb1⟩)
   go_ret;exact⟨zck hr'.out.symm,Below.alloc' hb1 _⟩
  |some ty =>
   have hr':Hid (chk false s=0):=by show _=_;unfold chk;rw[if_neg hs,hx];rfl
   have hcall:=fun w=>zfy (zfs (s:=s) (by omega) w) hx;clear hs hm hx
   go_enter Tryz.func69,Tryz.ntmps69
   go_wp2_with (go_at_call 131;refine(hcall _).mono ?_;rintro e w1 ⟨ai,li,ci,af,lf,cf,rfl,hr1,hb1⟩)
   go_ret;exact⟨zck hr'.out.symm,Below.alloc' hb1 _⟩
section
theorem ztp (s t d:ByteArray)(x r:Ty)(v:Val)(hs:s.size<=60)(ht:t.size<=60)(hd:d.size<=64)(hx:pAll false s=some x)(hr:pAll false t=some r)(hv:okV s.size x v)(hdv:d=datV s.size v)(w:World)(hT:Tab w) :
  Calls Tryz.prog 66 #[.string s,.string t,.string d] w fun e w'=>e=.returned (.tuple #[.string (zrc (rdT (s.size+t.size) x r v)).1,.int .i64 (zrc (rdT (s.size+t.size) x r v)).2])/\Below w.heap.size w w':=by
 have hdec:=fun (W:World) (ai af:Option Addr) (li ci lf cf:Nat) (hb:Below w.heap.size w W) (h:Rep s.size W ai li ci af lf cf x)=>zrm zow (t:=d) (by omega) (show s.size<=100 by omega) x W ai af li ci lf cf (hT.keep hb) (zkz hx) h;have hd0:=znk hv;rw[<- hdv]at hd0;rw[hd0]at hdec;have hrd:=fun (W:World) (ai af:Option Addr) (li ci lf cf:Nat) (bi bf:Option Addr) (mi di mf df:Nat) (hb:Below w.heap.size w W) (h:Rep s.size W ai li ci af lf cf x) (h':Rep t.size W bi mi di bf mf df r) =>
  zrf zow (s.size+t.size) s.size t.size x r v W ai af li ci lf cf bi bf mi di mf df (xu _) (by omega) (by omega) (hT.keep hb) (zkz hx) (zkz hr) h h' hv (by rw[<- hdv];omega) (zpw hr ht _)
 rw[<- hdv]at hrd;cases hz:rdT (s.size+t.size) x r v with
 |none=>rw[hz]at hrd;exact zto s t d _ _ hd w x r _ _ (fun w=>zsm hs ht hx hr w) hdec hrd
 |some y=>rw[hz]at hrd;exact ztn s t d _ y hd w x r _ _ (fun w=>zsm hs ht hx hr w) hdec hrd
theorem zoh {s:ByteArray}{x:Ty}{v:Val}(hs:s.size<=60)(hx:pAll false s=some x)(hv:okV s.size x v)(hT:(txtV s.size x v).size<=4096):zau false s (txtV s.size x v)=if 64<(datV s.size v).size then (xj,4) else (datV s.size v,0):=by
 have hp:=zif (show pAll true s=some x by rw[zgs];exact hx);have hg:=zft _ _ _ _ hp;have he:=zka (st:=false) (t:=txtV s.size x v) s.size x v 0 hv hg.1 (At.self _) (by rw[zd0 _ _ (by omega)];exact zfw (by omega));rw[xz]at he;unfold zau;rw[if_neg (by omega),hx];simp only;rw[show zci false (txtV s.size x v) s.size x=some (datV s.size v) by unfold zci;rw[he];simp]
end
section
theorem zwh {s text d:ByteArray}(he:zau false s text=(d,0)):s.size<=60/\d.size<=64/\∃ x v,pAll false s=some x/\okV s.size x v/\d=datV s.size v:=by
 unfold zau at he;split at he
 ·exact absurd (xq he).2 (by decide)
 ·rename_i hl;cases hx:pAll false s with
  |none=>rw[hx]at he;exact absurd (xq he).2 (by decide)
  |some x =>
   rw[hx]at he;simp only at he;have hp:=zif (show pAll true s=some x by rw[zgs];exact hx);have hg:=zft _ _ _ _ hp;have hax:=zi2 _ _ _ _ hp;cases hy:zci false text s.size x with
   |none=>rw[hy]at he;exact absurd (xq he).2 (by decide)
   |some d' =>
    rw[hy]at he;simp only at he;split at he
    ·exact absurd (xq he).2 (by decide)
    ·rename_i h64;obtain rfl:d'=d:=(xq he).1;unfold zci at hy;rcases hen:enc false text s.size x 0 with _|⟨d2,k⟩
     ·rw[hen]at hy;cases hy
     ·rw[hen]at hy;simp only at hy;split at hy
      ·rename_i hk;obtain rfl:d2=d':=by simpa using hy
       obtain⟨v,hv,hat,hkk⟩:=zkb s.size x 0 d2 k hg.1 hax.2.1 hen;have ha:=zka (st:=false) (t:=text) s.size x v 0 hv hg.1 hat (by rw[zd0 _ _ (by omega)];exact zfw (by omega));rw[hen]at ha;have:d2=datV s.size v:=by simpa using(xq (qi ha)).1
       exact⟨by omega,by omega,x,v,rfl,hv,this⟩
      ·cases hy
theorem yaa9 {s t text d:ByteArray}(hfit:fitB s t=true)(ht:t.size<=60)(he:zau false s text=(d,0)):∃ y:ByteArray,y.toList.isEmpty=false/\∀ w,Tab w->Calls Tryz.prog 66 #[.string s,.string t,.string d] w fun e w'=>e=.returned (.tuple #[.string y,.int .i64 0])/\Below w.heap.size w w':=by
 obtain⟨hs,hd,x,v,hx,hv,hdv⟩:=zwh he;unfold fitB at hfit;rw[hx]at hfit;cases hr:pAll false t with
 |none=>rw[hr]at hfit;cases hfit
 |some r =>
  rw[hr]at hfit;simp only at hfit;have hp:=zif (show pAll true s=some x by rw[zgs];exact hx);have hq:=zif (show pAll true t=some r by rw[zgs];exact hr);have hax:=zi2 _ _ _ _ hp;have har:=zi2 _ _ _ _ hq;have hgr:=zft _ _ _ _ hq;have hu:unV (s.size+t.size) s.size x r=none:=by
   cases e:unV (s.size+t.size) s.size x r with
   |none=>rfl
   |some u=>rw[e]at hfit;cases hfit
  cases hz:rdT (s.size+t.size) x r v with
  |none=>exact absurd hz (zg8 _ _ _ _ x r v (xu _) (xu _) hax.1 har.1 hu hv)
  |some y =>
   obtain⟨v',e1,e2⟩:=zgw _ _ _ x r v y hv har.1 har.2.2 hz;have hfi:=zi1 _ _ _ e1 hgr.1;refine⟨y,by rw[e2];exact zyl hfi.1,fun w hT=>?_⟩;have:=ztp s t d x r v hs ht hd hx hr hv hdv w hT;rw[hz]at this;exact this
end
section
variable {w0 w W:World}{L:Nat->Nat}{gb r:Nat}{b:zav}
def zfv (b:zav)(en:Bool)(s:Nat)(v:SvcD):Int:=if en then hasI v.now b.ms s b.ms.length else v.now
structure ztd (w:World)(gb r:Nat)(b:zav)(va ma:Option Addr)(vc mc:Nat):Prop where
 x2:w.cell? ⟨gb,2,none⟩=some (.slice va b.f.vs.length vc)
 x3:w.cell? ⟨gb,3,none⟩=some (.slice ma b.ms.length mc)
 x5:w.cell? ⟨gb,5,none⟩=some (.pointer (some ⟨r,0,none⟩))
 vs:SvcsAt (RelSl PinSl) w va b.f.vs
 ms:MvsAt w ma b.ms
theorem BookE.v (h:BookE w0 w L gb r b):∃ va ma vc mc,∀ W,Below w.heap.size w W->ztd W gb r b va ma vc mc/\RunE W L r b.P:=by
 obtain⟨sa,ta,va,ma,sl,sc,tl,tc,vl,vc,mc,nv,h⟩:=h;refine⟨va,ma,vc,mc,fun W hb=>?_⟩;have h':=h.keep hb;refine⟨⟨?_,h'.row.cell rfl,h'.row.cell rfl,(h'.flt.keep h'.bel).v3,h'.mvs.keep h'.bel⟩,h'.run⟩;have:=h'.row.cell (j:=2) rfl;rw[h'.flt.v1]at this;exact this
theorem zm1 (en:Bool)(hv:b.f.vs.length<=2000000)(hm:b.ms.length<=2000000)(hsz:∀ v∈b.f.vs,v.size<=2000000)(hat:∀ (s:Nat) v,b.f.vs[s]?=some v->∀ i:Nat,(i:Int)<v.size->hasB b.P.vs s i=true/\(insG b.P.vs s i).r=zfv b en s v)(h:BookE w0 w L gb r b):Calls Tryz.prog 54 #[.pointer (some ⟨gb,0,none⟩),.bool en] w fun e W=>e=.returned (.bool true)/\Below w.heap.size w W:=by
 obtain⟨va,ma,vc,mc,hV⟩:=h.v;have HV:=zaa hV;have HAT:=zaa hat;have HSZ:=zaa hsz;obtain⟨nv,hnv⟩:∃ nv,nv=b.f.vs.length:=⟨_,rfl⟩;obtain⟨nm,hnm⟩:∃ nm,nm=b.ms.length:=⟨_,rfl⟩;have HX:Hid (∀ W,Below w.heap.size w W->W.cell? ⟨gb,2,none⟩=some (.slice va nv vc)/\W.cell? ⟨gb,3,none⟩=some (.slice ma nm mc)/\W.cell? ⟨gb,5,none⟩=some (.pointer (some ⟨r,0,none⟩))):=by
  show ∀ _,_;intro W hb;rw[hnv,hnm];exact⟨(hV W hb).1.x2,(hV W hb).1.x3,(hV W hb).1.x5⟩
 rw[<- hnv]at hv;rw[<- hnm]at hm;have HNV:=zaa hnv;have HNM:=zaa hnm;clear hV hat hsz h hnv hnm;obtain⟨k2,k3,k5⟩:=HX.out w (Below.refl _ _)
 go_enter Tryz.func54,Tryz.ntmps54
 go_wp2_with fail
 go_loopw [5] (fun vi wr=>∃ s:Nat,s<=nv/\vi=.int .i64 s/\Below w.heap.size w wr) (fun i _=>nv-(intOf i).toNat)
 case atStart=>exact⟨0,xo _,rfl,Below.refl _ _⟩
 case round =>
  obtain⟨s,hs,rfl,hb⟩:=hrel
  rename World=>w1
  obtain⟨a2,a3,a5⟩:=HX.out w1 hb;have hs0 := znn s;by_cases hsl:s<nv
  ·obtain⟨v,hv0⟩:∃ v,b.f.vs[s]?=some v:=⟨b.f.vs[s]'(by have:=HNV.out;omega),xe _⟩;obtain⟨bk,o,ra,rl,rc,rfl,e0,e1,e2,e3,_⟩:=(HV.out w1 hb).1.vs s v hv0;have hsi:(s:Int)<(nv:Int):=by omega
   have HV0:=zaa hv0;clear hv0;have hvz:v.size<=2000000:=HSZ.out v (xh HV0.out)
   go_wp2_with fail
   go_loopw [6,7] (fun vw vk wr=>∃ k:Nat,k<=nm/\vk=.int .i64 k/\vw=.int .i64 (hasI v.now b.ms s k)/\Below w.heap.size w wr/\Hid (en=false->k=0)) (fun _ k _=>nm-(intOf k).toNat)
   case atStart=>exact⟨0,xo _,rfl,rfl,hb,fun _=>rfl⟩
   case round =>
    obtain⟨k,hk,rfl,rfl,hb3,hen⟩:=hrel
    rename World=>w3
    obtain⟨c2,c3,c5⟩:=HX.out w3 hb3;have hk0 := znn k;by_cases hgo:k<nm/\en=true
    ·obtain⟨g1,rfl⟩:=hgo;obtain⟨m,hm0⟩:∃ m,b.ms[k]?=some m:=⟨b.ms[k]'(by have:=HNM.out;omega),xe _⟩;obtain⟨mb,mo,rfl,m0,m1⟩:=(HV.out w3 hb3).1.ms k m hm0;have hki:(k:Int)<(nm:Int):=by omega
     have HMM:Hid (hasI v.now b.ms s (k+1)=if m.1=s then m.2 else hasI v.now b.ms s k):=by
      show _=_;rw[zgj];unfold mvAt;rw[xf,hm0];rfl
     clear hm0;generalize hasI v.now b.ms s k=y at *;by_cases hms:m.1=(s:Int)
     ·go_wp2_with fail
      go_roundw
      case rel=>exact⟨k+1,by omega,by go_num,by rw[HMM.out,if_pos hms],hb3,fun h=>by simp at h⟩
      case measure=>simp[intOf];omega
     ·go_wp2_with fail
      go_roundw
      case rel=>exact⟨k+1,by omega,by go_num,by rw[HMM.out,if_neg hms],hb3,fun h=>by simp at h⟩
      case measure=>simp[intOf];omega
    ·have HW:Hid (hasI v.now b.ms s k=zfv b en s v):=by
      show _=_;unfold zfv;cases en with
      |true=>obtain rfl:k=nm:=(by by_cases q:k<nm;exact absurd ⟨q,rfl⟩ hgo;omega);rw[HNM.out];rfl
      |false=>rw[hen.out rfl];rfl
     generalize hasI v.now b.ms s k=y at *;have hgo':(decide ((k:Int)<(nm:Int))&&en)=false:=by
      cases en with
      |true=>simp;by_cases q:k<nm;exact absurd ⟨q,rfl⟩ hgo;omega
      |false=>simp
     clear hgo;by_cases hkk:k<nm
     ·obtain rfl:en=false:=by simpa[hkk]using hgo'
      have hki:(k:Int)<(nm:Int):=by omega
      go_wp2_with fail
      go_loopw [8] (fun vi wr=>∃ i:Nat,i<=v.size.toNat/\vi=.int .i64 i/\Below w.heap.size w wr) (fun i _=>v.size.toNat-(intOf i).toNat)
      case atStart=>exact⟨0,xo _,rfl,hb3⟩
      case round =>
       obtain⟨i,hi,rfl,hb4⟩:=hrel
       rename World=>w4
       obtain⟨t2,t3,t5⟩:=HX.out w4 hb4;obtain⟨bk',o',ra',rl',rc',hq,d0,d1,d2,d3,_⟩:=(HV.out w4 hb4).1.vs s v HV0.out;obtain⟨rfl,rfl⟩:bk=bk'/\o=o':=by simpa using hq
       clear hq;have hi0 := znn i;by_cases hiz:(i:Int)<v.size
       ·have cR:=zjb s i (HAT.out s v HV0.out i hiz).1 (HV.out w4 hb4).2;rw[(HAT.out s v HV0.out i hiz).2,<- HW.out]at cR
        go_wp2_with (first|(go_at_call 102;refine cR.mono ?_;rintro e _ ⟨rfl,rfl⟩))
        go_roundw
        case rel=>exact⟨i+1,by omega,by go_num,hb4⟩
        case measure=>simp[intOf];omega
       ·go_wp2_with fail
        go_roundw
        case rel=>exact⟨s+1,by omega,by go_num,hb4⟩
        case measure=>simp[intOf];omega
     ·obtain rfl:k=nm:=by omega
      go_wp2_with fail
      go_loopw [8] (fun vi wr=>∃ i:Nat,i<=v.size.toNat/\vi=.int .i64 i/\Below w.heap.size w wr) (fun i _=>v.size.toNat-(intOf i).toNat)
      case atStart=>exact⟨0,xo _,rfl,hb3⟩
      case round =>
       obtain⟨i,hi,rfl,hb4⟩:=hrel
       rename World=>w4
       obtain⟨t2,t3,t5⟩:=HX.out w4 hb4;obtain⟨bk',o',ra',rl',rc',hq,d0,d1,d2,d3,_⟩:=(HV.out w4 hb4).1.vs s v HV0.out;obtain⟨rfl,rfl⟩:bk=bk'/\o=o':=by simpa using hq
       clear hq;have hi0 := znn i;by_cases hiz:(i:Int)<v.size
       ·have cR:=zjb s i (HAT.out s v HV0.out i hiz).1 (HV.out w4 hb4).2;rw[(HAT.out s v HV0.out i hiz).2,<- HW.out]at cR
        go_wp2_with (first|(go_at_call 102;refine cR.mono ?_;rintro e _ ⟨rfl,rfl⟩))
        go_roundw
        case rel=>exact⟨i+1,by omega,by go_num,hb4⟩
        case measure=>simp[intOf];omega
       ·go_wp2_with fail
        go_roundw
        case rel=>exact⟨s+1,by omega,by go_num,hb4⟩
        case measure=>simp[intOf];omega
  ·obtain rfl:s=nv:=by omega
   go_wp2_with fail
   go_ret;exact⟨rfl,hb⟩
end
section
variable {w0 w W:World}{L:Nat->Nat}{gb r:Nat}{b:zav}
theorem yace (hv:b.f.vs.length<=2000000)(hm:b.ms.length<=2000000)(hsz:∀ v∈b.f.vs,v.size<=2000000)(hst:b.P.c.st=if b.ab then 4 else 3)(hat:∀ (s:Nat) v,b.f.vs[s]?=some v->∀ i:Nat,(i:Int)<v.size->hasB b.P.vs s i=true/\(insG b.P.vs s i).r=zfv b (!b.ab) s v)(h:BookE w0 w L gb r b):Calls Tryz.prog 30 #[.pointer (some ⟨gb,0,none⟩)] w fun e W=>e=.returned (.bool true)/\Below w.heap.size w W:=by
 have c1:=zje h.x.2.2.2;have c2:=fun (W:World) (hb:Below w.heap.size w W)=>zm1 (!b.ab) hv hm hsz hat (h.keep hb);have k8:=fun (W:World) (hb:Below w.heap.size w W)=>(h.keep hb).y.2.1;have k5:=h.y.1;have hlt:=h.y.2.2.2;have H8:=zaa k8;rw[hst]at c1;clear hst hat h hv hm hsz k8;generalize b.ab=ab at *;generalize b.P.c.pos=u1 at *;generalize b.P.ti=u2 at *;generalize b.P.c.nu=u3 at *;generalize b.P.c.wk=u4 at *;generalize b.P.c.pa=u5 at *;cases ab with
 |true =>
  simp only[if_true,Bool.not_true]at c1 c2
  go_enter Tryz.func30,Tryz.ntmps30
  go_wp2_with (first
   |(go_at_call 36;refine c1.mono ?_;rintro e w2 ⟨rfl,hb2⟩;have z8:=H8.out _ hb2;have zl:gb<w2.heap.size:=xy hlt hb2.size)
   |(go_at_call 54;refine(c2 _ (thn3 hb2 (bel1 _ _))).mono ?_;rintro e w3 ⟨rfl,hb3⟩))
  go_ret;exact⟨rfl,thn3 (thn3 hb2 (bel1 _ _)) hb3⟩
 |false =>
  simp only[Bool.false_eq_true,if_false,Bool.not_false]at c1 c2
  go_enter Tryz.func30,Tryz.ntmps30
  go_wp2_with (first
   |(go_at_call 36;refine c1.mono ?_;rintro e w2 ⟨rfl,hb2⟩;have z8:=H8.out _ hb2;have zl:gb<w2.heap.size:=xy hlt hb2.size)
   |(go_at_call 54;refine(c2 _ (thn3 hb2 (bel1 _ _))).mono ?_;rintro e w3 ⟨rfl,hb3⟩))
  go_ret;exact⟨rfl,thn3 (thn3 hb2 (bel1 _ _)) hb3⟩
end
section
variable {w0 w W:World}{L:Nat->Nat}{gb r:Nat}{b:zav}
def Sees (w:World)(r:Nat)(s i t:Nat):Prop:=Calls Tryz.prog 64 #[.pointer (some ⟨r,0,none⟩),.int .i64 s,.int .i64 i,.int .i64 t] w fun e W=>∃ (ad:Option Addr) (n cp:Nat) (er:Int),e=.returned (.tuple #[.slice ad n cp,.int .i64 er])/\n<=12/\(er=0\/er=15/\n=0)/\(∀ k:Nat,k<n->∃ g o x,ad=some ⟨g,o,none⟩/\g<W.heap.size/\W.cell? ⟨g,o+k,none⟩=some (.string x)/\x.toList.isEmpty=false)/\Below w.heap.size w W
theorem BookE.t (h:BookE w0 w L gb r b):∃ ta tc,∀ W,Below w.heap.size w W->W.cell? ⟨gb,1,none⟩=some (.slice ta b.f.ts.length tc)/\W.cell? ⟨gb,5,none⟩=some (.pointer (some ⟨r,0,none⟩)):=by
 obtain⟨sa,ta,va,ma,sl,sc,tl,tc,vl,vc,mc,nv,h⟩:=h;refine⟨ta,tc,fun W hb=>?_⟩;have h':=h.keep hb;have:=h'.row.cell (j:=1) rfl;rw[h'.flt.t1]at this;exact⟨this,h'.row.cell rfl⟩
theorem zuv (s i:Nat)(ht:b.f.ts.length<=2000000)(hS:∀ t:Nat,t<b.f.ts.length->∀ W,Below w.heap.size w W->Sees W r s i t)(h:BookE w0 w L gb r b):Calls Tryz.prog 62 #[.pointer (some ⟨gb,0,none⟩),.int .i64 s,.int .i64 i] w fun e W=>e=.returned (.bool true)/\Below w.heap.size w W:=by
 obtain⟨ta,tc,hV⟩:=h.t;have HX:=zaa hV;have HS:=zaa hS;clear hV hS h;generalize b.f.ts.length=nt at *;obtain⟨k1,k5⟩:=HX.out w (Below.refl _ _)
 go_enter Tryz.func62,Tryz.ntmps62
 go_wp2_with fail
 go_loopw [7] (fun vi wr=>∃ t:Nat,t<=nt/\vi=.int .i64 t/\Below w.heap.size w wr) (fun i _=>nt-(intOf i).toNat)
 case atStart=>exact⟨0,xo _,rfl,Below.refl _ _⟩
 case round =>
  obtain⟨t,htt,rfl,hb⟩:=hrel
  rename World=>w1
  obtain⟨a1,a5⟩:=HX.out w1 hb;have ht0 := znn t;by_cases htl:t<nt
  ·have cS:=HS.out t htl w1 hb;unfold Sees at cS;have hti:(t:Int)<(nt:Int):=by omega
   go_wp2_with (first|(go_at_call 64;refine cS.mono ?_;rintro e w2 ⟨ad,n,cp,er,rfl,hn,her,hcell,hb2⟩;have HER:=zaa her;have HC:=zaa hcell;clear hcell;have hb12:=Below.trans hb (hb2.mono hb.size);rcases her with rfl|⟨rfl,rfl⟩))
   ·go_loopw [10] (fun vi wr=>∃ k:Nat,k<=n/\vi=.int .i64 k/\w2=wr) (fun i _=>n-(intOf i).toNat)
    case atStart=>exact⟨0,xo _,rfl,rfl⟩
    case round =>
     obtain⟨k,hk,rfl,rfl⟩:=hrel;have hk0 := znn k;by_cases hkn:k<n
     ·obtain⟨g,o,x,rfl,hg,hc,hx⟩:=HC.out k hkn;have hki:(k:Int)<(n:Int):=by omega
      go_wp2_with fail
      go_roundw
      case rel=>exact⟨k+1,by omega,by go_num,trivial⟩
      case measure=>simp[intOf];omega
     ·obtain rfl:k=n:=by omega
      go_wp2_with fail
      go_roundw
      case rel=>exact⟨t+1,by omega,by go_num,hb12⟩
      case measure=>simp[intOf];omega
   ·go_loopw [10] (fun vi wr=>vi=.int .i64 0/\w2=wr) (fun _ _=>0)
    case atStart=>exact⟨rfl,rfl⟩
    case round =>
     obtain⟨rfl,rfl⟩:=hrel
     go_wp2_with fail
     go_roundw
     case rel=>exact⟨t+1,by omega,by go_num,hb12⟩
     case measure=>simp[intOf];omega
  ·obtain rfl:t=nt:=by omega
   go_wp2_with fail
   go_ret;exact⟨rfl,hb⟩
end
section
variable {w0 w W:World}{L:Nat->Nat}{gb r:Nat}{b:zav}
theorem zm2 (s i a:Nat){v:SvcD}{ps:List PinD}{p:PinD}(hv:b.f.vs[s]?=some v)(hvl:b.f.vs.length<=2000000)(hh:hasB b.P.vs s i=true)(hr:(insG b.P.vs s i).r=a)(hps:v.rels[a]?=some ps)(hp:ps[0]?=some p)(h:BookE w0 w L gb r b):Calls Tryz.prog 63 #[.pointer (some ⟨gb,0,none⟩),.int .i64 s,.int .i64 i] w fun e W=>e=.returned (.tuple #[.int .i64 p.w,.int .i64 p.r,.bool true])/\Below w.heap.size w W:=by
 obtain⟨va,ma,vc,mc,hV⟩:=h.v;obtain⟨hV,hR⟩:=hV w (Below.refl _ _);have c1:=zjb s i hh hR;rw[hr]at c1;obtain⟨bk,o,ra,rl,rc,rfl,e0,e1,e2,e3,q1,q2,q3,q4,q5⟩:=hV.vs s v hv;obtain⟨rb,ro,pa,pl,pc,rfl,g0,n1,n2,n3,n4,n5⟩:=q5 a ps hps;obtain⟨pb,po,rfl,t0,t1,t2⟩:=n5 0 p hp;have x2:=hV.x2;have x5:=hV.x5;have hsl:s<b.f.vs.length:=(xg.1 hv).1;have hal:a<rl:=by rw[q1];exact(xg.1 hps).1
 have hpl:0<pl:=by rw[n1];exact(xg.1 hp).1
 clear hV hR h hv hh hr hps hp q1 q5 n1 n5;generalize b.f.vs.length=nv at *;simp only[Nat.zero_mul,Nat.add_zero,xz]at t0 t1 t2;have s0 := znn s;have s1:(s:Int)<(nv:Int):=by omega
 have a0 := znn a;have a1:(a:Int)<(rl:Int):=by omega
 have p1:(0:Int)<(pl:Int):=by omega
 go_enter Tryz.func63,Tryz.ntmps63
 go_wp2_with (first|(go_at_call 102;refine c1.mono ?_;rintro e _ ⟨rfl,rfl⟩))
 go_quiet (fail)
 go_wp2_with fail
 refine bodyPost_ret (v:=.tuple #[.int .i64 p.w,.int .i64 p.r,.bool true]) (by simp[results,Tryz.results63,go_sem]) rfl ⟨rfl,?_⟩;have hb:=bel1 w (.cells #[.int .i64 p.t,.int .i64 p.w,.int .i64 p.r] 165);exact⟨hb.os,hb.tape,hb.output,hb.size,hb.block⟩
end
section
variable {w0 w W:World}{L:Nat->Nat}{gb r:Nat}{b:zav}
def VwOk (w:World)(gb:Nat)(s i:Nat):Prop:=Calls Tryz.prog 24 #[.pointer (some ⟨gb,0,none⟩),.int .i64 s,.int .i64 i] w fun e W=>e=.returned (.bool true)/\Below w.heap.size w W
theorem BookE.ta (h:BookE w0 w L gb r b):w.cell? ⟨gb,4,none⟩=some (.bool b.tale):=by
 obtain⟨sa,ta,va,ma,sl,sc,tl,tc,vl,vc,mc,nv,h⟩:=h;exact h.row.cell rfl
theorem yaeu (s i:Nat)(hta:b.tale=false)(ht:b.f.ts.length<=2000000)(hS:∀ t:Nat,t<b.f.ts.length->∀ W,Below w.heap.size w W->Sees W r s i t)(h:BookE w0 w L gb r b):VwOk w gb s i:=by
 have c1:=zuv s i ht hS h;have k4:=h.ta;rw[hta]at k4;clear h hS hta ht;unfold VwOk
 go_enter Tryz.func24,Tryz.ntmps24
 go_wp2_with (first|(go_at_call 62;refine c1.mono ?_;rintro e w2 ⟨rfl,hb2⟩))
 go_ret;exact⟨rfl,hb2⟩
theorem zud (hv:b.f.vs.length<=2000000)(hsz:∀ v∈b.f.vs,v.size<=2000000)(hS:∀ (s:Nat) v,b.f.vs[s]?=some v->∀ i:Nat,(i:Int)<v.size->∀ W,Below w.heap.size w W->VwOk W gb s i)(h:BookE w0 w L gb r b):Calls Tryz.prog 12 #[.pointer (some ⟨gb,0,none⟩)] w fun e W=>e=.returned (.bool true)/\Below w.heap.size w W:=by
 obtain⟨va,ma,vc,mc,hV⟩:=h.v;have HV:=zaa hV;have HS:=zaa hS;have HSZ:=zaa hsz;obtain⟨nv,hnv⟩:∃ nv,nv=b.f.vs.length:=⟨_,rfl⟩;have HX:Hid (∀ W,Below w.heap.size w W->W.cell? ⟨gb,2,none⟩=some (.slice va nv vc)):=by
  show ∀ _,_;intro W hb;rw[hnv];exact(hV W hb).1.x2
 rw[<- hnv]at hv;have HNV:=zaa hnv;clear hV hS hsz h hnv
 go_enter Tryz.func12,Tryz.ntmps12
 go_wp2_with fail
 go_loopw [3] (fun vi wr=>∃ s:Nat,s<=nv/\vi=.int .i64 s/\Below w.heap.size w wr) (fun i _=>nv-(intOf i).toNat)
 case atStart=>exact⟨0,xo _,rfl,Below.refl _ _⟩
 case round =>
  obtain⟨s,hs,rfl,hb⟩:=hrel
  rename World=>w1
  have a2:=HX.out w1 hb;have hs0 := znn s;by_cases hsl:s<nv
  ·obtain⟨v,hv0⟩:∃ v,b.f.vs[s]?=some v:=⟨b.f.vs[s]'(by have:=HNV.out;omega),xe _⟩;have hsi:(s:Int)<(nv:Int):=by omega
   have HV0:=zaa hv0;clear hv0;have hvz:v.size<=2000000:=HSZ.out v (xh HV0.out)
   go_wp2_with fail
   go_loopw [4] (fun vi wr=>∃ i:Nat,i<=v.size.toNat/\vi=.int .i64 i/\Below w.heap.size w wr) (fun i _=>v.size.toNat-(intOf i).toNat)
   case atStart=>exact⟨0,xo _,rfl,hb⟩
   case round =>
    obtain⟨i,hi,rfl,hb4⟩:=hrel
    rename World=>w4
    have t2:=HX.out w4 hb4;obtain⟨bk,o,ra,rl,rc,rfl,d0,d1,d2,d3,_⟩:=(HV.out w4 hb4).1.vs s v HV0.out;have hi0 := znn i;by_cases hiz:(i:Int)<v.size
    ·have cR:=HS.out s v HV0.out i hiz w4 hb4;unfold VwOk at cR
     go_wp2_with (first|(go_at_call 24;refine cR.mono ?_;rintro e w5 ⟨rfl,hb5⟩))
     go_roundw
     case rel=>exact⟨i+1,by omega,by go_num,hb4.trans (hb5.mono hb4.size)⟩
     case measure=>simp[intOf];omega
    ·go_wp2_with fail
     go_roundw
     case rel=>exact⟨s+1,by omega,by go_num,hb4⟩
     case measure=>simp[intOf];omega
  ·obtain rfl:s=nv:=by omega
   go_wp2_with fail
   go_ret;exact⟨rfl,hb⟩
end
section
theorem zu9 {f:zac}{ms:List (Int×Int)}(h:Sfe f ms){s:Nat}{v:SvcD}(hv:f.vs[s]?=some v):∀ k,k<=ms.length->∃ (a:Nat) (ps:List PinD),(zb8 f ms).cfg k s=a/\v.rels[a]?=some ps:=by
 have ho:=zb3 h.ob;have hp:=ho.parts (xh hv);have e0:∀ k,(zb8 f ms).cfg k s=hasI v.now ms s k:=fun k=>by
  show hasI (nowI f (s:Int).toNat) ms s k=_;rw[xp,zib hv]
 intro k
 induction k with
 |zero =>
  intro _;refine⟨v.now.toNat,v.rels[v.now.toNat]'(by omega),?_,xe _⟩;rw[e0];show v.now=_;omega
 |succ k ih =>
  intro hk;obtain⟨a,ps,q1,q2⟩:=ih (by omega);rw[e0]at q1;rw[e0,zgj];split
  ·rename_i e;obtain⟨x,y,hxy,hx,hy,_⟩:=ze3 ho (h.rm k (by omega));rw[hxy]at e ⊢;have e:x=s:=by simp at e;omega
   subst e;unfold rlen at hy;rw[hv]at hy;exact⟨y,v.rels[y]'hy,rfl,xe _⟩
  ·exact⟨a,ps,q1,q2⟩
structure zhd (b:zav)(s i:Nat)(v:SvcD)(V:SrvD)(y:InsD)(a:Nat)(ps:List PinD):Prop where
 hV:b.P.vs[s]?=some V
 hy:V.ins[i]?=some y
 hr:y.r=a
 hps:V.rels[a]?=some ps
 pv:v.rels[a]?=some ps
 hb:hasB b.P.vs s i=true
 ig:insG b.P.vs s i=y
 l4:ps.length<=4
 pb:za7 b.f.ss.length b.f.ts.length ps=true
theorem Inv.inst {N:Int}{b:zav}(h:Inv N b){s i:Nat}{v:SvcD}(hv:b.f.vs[s]?=some v)(hi:(i:Int)<v.size):∃ V y a ps,zhd b s i v V y a ps:=by
 have ho:=zb3 h.sf.ob;have hp:=ho.parts (xh hv);have hs:=(xg.1 hv).1;have r1:(b.P.vs.map SrvD.rels)[s]?=some v.rels:=by
  rw[h.sm.rl];show ((b.f.vs.map fun v=>(⟨qd v.size.toNat ⟨v.now,0⟩,v.rels⟩:SrvD)).map SrvD.rels)[s]?=_;rw[xm,xm,hv];rfl
 have r2:(b.P.vs.map (fun V=>V.ins.length))[s]?=some v.size.toNat:=by
  rw[h.sm.sz];show ((b.f.vs.map fun v=>(⟨qd v.size.toNat ⟨v.now,0⟩,v.rels⟩:SrvD)).map fun V=>V.ins.length)[s]?=_;rw[xm,xm,hv];simp
 rw[xm]at r1 r2;cases hV:b.P.vs[s]? with
 |none=>rw[hV]at r1;cases r1
 |some V =>
  rw[hV]at r1 r2;have r1:V.rels=v.rels:=by simpa using r1
  have r2:V.ins.length=v.size.toNat:=by simpa using r2
  have hil:i<V.ins.length:=by omega
  have hsl:=(xg.1 hV).1;have hb:hasB b.P.vs s i=true:=by
   rw[zd4,xp,xf,hV];show 0<=_/\_<_/\0<=_/\(i:Int)<(V.ins.length:Int);omega
  obtain⟨y,hy⟩:∃ y,V.ins[i]?=some y:=⟨V.ins[i]'hil,xe _⟩;have hg:insG b.P.vs s i=y:=by
   unfold insG;rw[xp,xp,xf (l:=b.P.vs),hV];show V.ins.getD i ins0=y;rw[xf,hy];rfl
  have ha:=h.pi.nt.i1 s i hb;obtain⟨k,hk,hr,_⟩:=h.pi.sh.been ha;obtain⟨a,ps,q1,q2⟩:=zu9 h.sf hv k hk;rw[hg,q1]at hr;have hpb:=hp.2.2.2.2 ps (xh q2);refine⟨V,y,a,ps,hV,hy,hr,by rw[r1];exact q2,q2,hb,hg,?_,hpb⟩;unfold za7 at hpb;rw[xv]at hpb;simpa using hpb.1
theorem Inv.ss {N:Int}{b:zav}(h:Inv N b):b.P.ss=b.f.ss:=h.sm.ss
theorem Inv.kp {N:Int}{b:zav}(h:Inv N b):b.P.ts.map TopD.keep=b.f.ts:=by
 rw[h.sm.kp];show (b.f.ts.map fun k=>(⟨k,[]⟩:TopD)).map TopD.keep=_;rw[List.map_map];show b.f.ts.map id=_;simp
theorem Inv.tl {N:Int}{b:zav}(h:Inv N b):b.P.ts.length=b.f.ts.length:=by
 have:=congrArg List.length h.kp;simpa using this
theorem yab5 {f:zac}(ho:Ord f){s:ByteArray}(hs:s∈f.ss):s.size<=60:=by
 have:=ho.sch;unfold zc1 at this;rw[xv,List.all_eq_true]at this;have:=this.2 s hs;unfold schB at this;rw[xv]at this;simpa using this.1
theorem zlj {f:zac}(ho:Ord f){k:Int}:(schO f.ss k).size<=60:=by
 unfold schO;split
 ·rename_i hn;obtain⟨i,rfl,hi⟩:=zgp hn;have:=ho.sch;rw[xp,xf,xe hi];exact yab5 ho (List.getElem_mem hi)
 ·show 0<=60;omega
def RdIs (s t d y:ByteArray):Prop:=y.toList.isEmpty=false/\∀ w,Tab w->Calls Tryz.prog 66 #[.string s,.string t,.string d] w fun e w'=>e=.returned (.tuple #[.string y,.int .i64 0])/\Below w.heap.size w w'
open Classical in
theorem yaay {ts:List RecD}{t:ByteArray}(h:∀ x∈ts,∃ y,RdIs x.sc t x.da y):∃ RT:RecD->ByteArray,∀ x∈ts,RdIs x.sc t x.da (RT x):=by
 refine⟨fun x=>if q:∃ y,RdIs x.sc t x.da y then Classical.choose q else xj,fun x hx=>?_⟩;dsimp only;rw[dif_pos (h x hx)];exact Classical.choose_spec (h x hx)
theorem Inv.reads {N:Int}{b:zav}(h:Inv N b){s i:Nat}{v:SvcD}(hv:b.f.vs[s]?=some v){V:SrvD}{y:InsD}{a:Nat}{ps:List PinD}(hA:zhd b s i v V y a ps){t:Nat}{T:TopD}(hT:b.P.ts[t]?=some T)(hr:numB (pinO ps t).r b.f.ss.length=true):∃ RT:RecD->ByteArray,∀ x∈T.recs,RdIs x.sc (schO b.f.ss (pinO ps t).r) x.da (RT x):=by
 refine yaay fun x hx=>?_;obtain⟨h1,text,h2⟩:=yabr h.sf h.pi h.kp hT hx hA.hb hv (by rw[hA.ig];exact hA.hr) hA.pv hr;exact yaa9 h1 (zlj (zb3 h.sf.ob)) h2
variable {w0 w W:World}{L:Nat->Nat}{gb r:Nat}{b:zav}
theorem BookE.tab (h:BookE w0 w L gb r b)(hT:Tab w0):Tab w/\RunE w L r b.P:=by
 obtain⟨sa,ta,va,ma,sl,sc,tl,tc,vl,vc,mc,nv,h⟩:=h;exact⟨hT.keep h.bel,h.run⟩
theorem Inv.sees {N:Int}(h:Inv N b){s i t:Nat}{v:SvcD}(hv:b.f.vs[s]?=some v)(hi:(i:Int)<v.size)(ht:t<b.f.ts.length)(hT:Tab w0)(hB:BookE w0 w L gb r b):Sees w r s i t:=by
 obtain⟨V,y,a,ps,hA⟩:=h.inst hv hi;obtain⟨hTw,hR⟩:=hB.tab hT;have htl:t<b.P.ts.length:=by rw[h.tl];exact ht
 obtain⟨T,hTt⟩:∃ T,b.P.ts[t]?=some T:=⟨b.P.ts[t]'htl,xe _⟩;have hl4:=hA.l4;unfold Sees;cases hn:numB (pinO ps t).r b.f.ss.length with
 |false =>
  refine(zmj s i a V y ps t htl hA.hV hA.hy hA.hr hA.hps (by omega) (by rw[h.ss];exact hn) hR).mono ?_;rintro e W ⟨rfl,hb⟩;exact⟨none,0,0,15,rfl,by omega,.inr ⟨rfl,rfl⟩,fun k hk=>by omega,hb⟩
 |true =>
  obtain⟨RT,hRT⟩:=h.reads hv hA hTt hn;have hl12:=(h.bn.rc t T hTt).1;refine(zmk s i a V y ps t T RT hTt hl12 hA.hV hA.hy hA.hr hA.hps (by omega) (by rw[h.ss];exact hn) (fun x hx W hb=>?_) hR).mono ?_
  ·rw[h.ss];refine((hRT x hx).2 W (hTw.keep hb)).mono ?_;rintro e W' ⟨rfl,hb'⟩;exact⟨⟨0,rfl⟩,hb'⟩
  ·rintro e W ⟨u,rfl,ho,hb⟩;rcases ho.2 with⟨q1,q2⟩|⟨g,cap,cur,rfl,q3,q4,q5,q6,q7⟩
   ·subst q1;exact⟨none,0,0,0,rfl,by omega,.inl rfl,fun k hk=>by omega,hb⟩
   ·refine⟨some ⟨g,0,none⟩,T.recs.length,cap,0,rfl,hl12,.inl rfl,fun k hk=>?_,hb⟩;obtain⟨x,hx⟩:∃ x,T.recs[k]?=some x:=⟨T.recs[k]'hk,xe _⟩;refine⟨g,0,RT x,rfl,(qh ho g rfl).2,?_,(hRT x (xh hx)).1⟩;rw[xz,qg ho k (by omega),xm,hx];rfl
end
section
theorem Inv.wrt {N:Int}{b:zav}(h:Inv N b){s i:Nat}{v:SvcD}(hv:b.f.vs[s]?=some v){V:SrvD}{y:InsD}{a:Nat}{ps:List PinD}(hA:zhd b s i v V y a ps){k:Nat}{T:TopD}(hT:b.P.ts[k]?=some T)(hw:numB (pinO ps k).w b.f.ss.length=true){text d:ByteArray}(he:zau false (schO b.f.ss (pinO ps k).w) text=(d,0))(hl:T.recs.length<12){ns:List zdj}(hns:(b.tale=false/\ns=b.notes)\/(k=0/\ns=b.notes++[⟨b.ti,(pinO ps k).w,d⟩])) :
  Inv (N+1) { b with P:=wrtP b.P k (schO b.f.ss (pinO ps k).w) d,notes:=ns }:=by
 have hW:Wrt b.f k s (insG b.P.vs s i).r ⟨schO b.f.ss (pinO ps k).w,d,b.P.ti⟩:=⟨s,a,v,ps,rfl,by rw[hA.ig];exact hA.hr,hv,hA.pv,hw,rfl,text,he⟩;have hk:=(h.pi.rc.kp k T hT).1;refine⟨h.sf,h.pi.wrt hA.hb hW,h.ex.wrt _ _ _,(h.bn.wrt fun T' hT'=>by rw[hT]at hT';cases hT';exact hl).mono (by omega),h.ti,h.sm.trans (Sme.wrt _ _ _ _),h.ab,?_,fun ht T' hT'=>?_⟩
 ·have:=h.nn;rcases hns with⟨_,rfl⟩|⟨_,rfl⟩
  ·show (b.notes.length:Int)<=N+1;omega
  ·show ((b.notes++[_]).length:Int)<=N+1;simp;omega
 ·rcases hns with⟨q,_⟩|⟨rfl,rfl⟩
  ·have ht:b.tale=true:=ht;rw[q]at ht;cases ht
  ·have hT2:(b.P.ts.modify 0 fun T=>{ T with recs:=T.recs++[⟨schO b.f.ss (pinO ps 0).w,d,b.P.ti⟩] })[0]?=some T':=hT';rw[List.getElem?_modify,hT]at hT2;simp at hT2;subst hT2;obtain⟨r1,r2⟩:=h.nt ht T hT;show T.recs++[_]=((b.notes++[_]).filter (zay T.keep b.ti)).map (zcy b.f.ss)/\_;have hp:∀ z,zay T.keep b.ti ⟨b.ti,z,d⟩=true:=fun z=>by
    unfold zay;simp;omega
   rw[List.filter_append,List.map_append,<- r1];refine⟨?_,fun x hx=>?_⟩
   ·rw[List.filter_cons_of_pos (hp _)];simp[zcy,h.ti]
   ·have hx:x∈b.notes++[_]:=hx;rw[List.mem_append,List.mem_singleton]at hx;rcases hx with q|rfl
    ·exact r2 x q
    ·exact⟨⟨by show 0<=b.ti;rw[h.ti];exact h.bn.ti.1,Int.le_refl _⟩,hw⟩
end
section
structure StD where
 k:Int
 a:Int
 b:Int
 c:Int
 s:ByteArray
def stV (x:StD):Value:=.agg #[.int .i64 x.k,.int .i64 x.a,.int .i64 x.b,.int .i64 x.c,.string x.s]
def StsAt (w:World)(ad:Option Addr)(xs:List StD):Prop:=∀ i x,xs[i]?=some x->∃ b o,ad=some ⟨b,o,none⟩/\w.cell? ⟨b,o+i*5,none⟩=some (.int .i64 x.k)/\w.cell? ⟨b,o+i*5+1,none⟩=some (.int .i64 x.a)/\w.cell? ⟨b,o+i*5+2,none⟩=some (.int .i64 x.b)/\w.cell? ⟨b,o+i*5+3,none⟩=some (.int .i64 x.c)/\w.cell? ⟨b,o+i*5+4,none⟩=some (.string x.s)
theorem zqu {w:World}{gb cp:Nat}{ad:Option Addr}{xs:List StD}(I:Nat->World->Prop)(hl:xs.length<=2000000)(hat:∀ k W,I k W->StsAt W ad xs)(hst:∀ k x W,xs[k]?=some x->I k W->Calls Tryz.prog 23 #[.pointer (some ⟨gb,0,none⟩),stV x] W fun e W'=>e=.returned (.bool true)/\I (k+1) W')(h0:I 0 w):Calls Tryz.prog 11 #[.pointer (some ⟨gb,0,none⟩),.slice ad xs.length cp] w fun e W=>e=.returned (.bool true)/\I xs.length W:=by
 have HAT:=zaa hat;have HST:=zaa hst;clear hat hst;obtain⟨n,hn⟩:∃ n,n=xs.length:=⟨_,rfl⟩;have HN:=zaa hn;rw[<- hn]at hl ⊢;clear hn
 go_enter Tryz.func11,Tryz.ntmps11
 go_wp2_with fail
 go_loopw [5] (fun vi wr=>∃ k:Nat,k<=n/\vi=.int .i64 k/\I k wr) (fun i _=>n-(intOf i).toNat)
 case atStart=>exact⟨0,xo _,rfl,h0⟩
 case round =>
  obtain⟨k,hk,rfl,hI⟩:=hrel
  rename World=>w1
  have hk0 := znn k;by_cases hkn:k<n
  ·obtain⟨x,hx⟩:∃ x,xs[k]?=some x:=⟨xs[k]'(by have:=HN.out;omega),xe _⟩;have c1:=HST.out k x w1 hx hI;obtain⟨bk,o,rfl,d0,d1,d2,d3,d4⟩:=HAT.out k w1 hI k x hx;have hki:(k:Int)<(n:Int):=by omega
   unfold stV at c1;clear hx
   go_wp2_with (first|(go_at_call 23;refine c1.mono ?_;rintro e w2 ⟨rfl,hI2⟩))
   go_roundw
   case rel=>exact⟨k+1,by omega,by go_num,hI2⟩
   case measure=>simp[intOf];omega
  ·obtain rfl:k=n:=by omega
   go_wp2_with fail
   go_ret;exact⟨rfl,hI⟩
end
end Go.Proofs.YtkkekopomiehlabGreatDoor
