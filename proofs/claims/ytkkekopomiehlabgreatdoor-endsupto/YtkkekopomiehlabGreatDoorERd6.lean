import Derived.Test.YtkkekopomiehlabGreatDoorERd3
set_option linter.unusedVariables false
set_option linter.unusedSimpArgs false
set_option maxHeartbeats 40000000
open ByteArray renaming empty->xe,size_append->xf
open List renaming getElem?_eq_getElem->xg
open Nat renaming le_refl->xh,add_mul->xm
open Go.World renaming frozen?->xj
open Go.RowKit
set_option maxRecDepth 4000
namespace Go.Proofs.YtkkekopomiehlabGreatDoor
theorem zr7 {α:Type}(c:α->Nat)(K:Nat):∀ (l:List α) (x:α),x∈l->(l.map c).sum<=K->c x<=K
 |y::l,x,h,hk=>by
  simp at hk;rcases List.mem_cons.1 h with rfl|h
  ·omega
  ·exact zr7 c K l x h (by omega)
theorem yaa5 {Tab:World->Prop}(F:zch Tab){m:Nat}(IH:zeo Tab m)(nw nr:Nat)(hm:nw+nr<=m)(hnw:nw<=100)(hnr:nr<=100)(fs gs:List (Nat×Ty×ByteArray))(vs:List Val)(D:ByteArray)(w:World)(af bf:Option Addr)(lf cf mf df:Nat)
  (hlf:lf=fs.length) (hmf:mf=gs.length) (hfl:fs.length<=9000000) (hgl:gs.length<=9000000) (hfn:fs≠[]) (hgn:gs≠[]) (hT:Tab w) (hoT:∀ f∈fs,f.1<256/\okT nw f.2.1) (hoG:∀ f∈gs,f.1<256/\okT nr f.2.1) (hlen:vs.length=fs.length) (hok:∀ p∈fs.zip vs,okV nw p.1.2.1 p.2)
  (hD:D=catB (vs.map (datV nw))) (hDs:D.size<=64) (hr:RepF nw w af fs) (hrg:RepF nr w bf gs) (hwt:(gs.map fun f=>wt m f.2.1+f.2.2.size+4).sum<=20000) :
  Calls Tryz.prog 198 #[.slice af lf cf,.slice bf mf df,.string D] w fun e w'=>e=.returned (dRet (zbj (zbi (rdT m) (fs.zip vs)) gs ⟨#[123]⟩ xe))/\Below w.heap.size w w':=by
 subst hlf hmf;have hfd:=zw4 F hnw fs vs D w af fs.length cf rfl hfl hT hoT hr hlen hok hD hDs;obtain⟨R,hR⟩:∃ R,R=zbj (zbi (rdT m) (fs.zip vs)) gs ⟨#[123]⟩ xe:=⟨_,rfl⟩;rw[<- hR];have HR:Hid (R=zbj (zbi (rdT m) (fs.zip vs)) gs ⟨#[123]⟩ xe):=hR;have hDc:(catB (vs.map (datV nw))).size<=64:=by rw[<- hD];exact hDs
 have hpos:1<=D.size:=by
  have:=zfe (nw+1) ⟨123,xe,false,[],fs⟩ (.rcd vs) (zgr ⟨rfl,hfn,hlen,hok⟩);rw[zeg,<- hD]at this;exact this
 rcases hr with⟨hr,_⟩|⟨g,rfl,hcells⟩
 ·exact absurd hr hfn
 rcases hrg with⟨hrg,_⟩|⟨h,rfl,hcellg⟩
 ·exact absurd hrg hgn
 have hszf:∀ gf∈gs,∀ y,zbi (rdT m) (fs.zip vs) gf=some y->y.size<=(wt m gf.2.1+gf.2.2.size)*D.size:=fun gf _ y hy=>by
  rw[xm];unfold zbi at hy;split at hy
  ·split at hy
   ·cases hy
   ·cases hy;have:=Nat.le_mul_of_pos_right gf.2.2.size hpos;omega
  ·rename_i p hp';have hmm:=zkf hp';have h1:=zfl m nw _ _ _ _ (hok p hmm) hy;have h2:=zho (l:=vs.map (datV nw)) (x:=datV nw p.2) (List.mem_map.2 ⟨p.2,(List.of_mem_zip (a:=p.1) (b:=p.2) hmm).2,rfl⟩);rw[<- hD]at h2;have h3:=Nat.mul_le_mul_left (wt m gf.2.1) h2;omega
 clear hR hD hfn hgn
 go_enter Tryz.func198,Tryz.ntmps198
 go_wp2_with (first|(go_at_call 252;refine hfd.mono ?_;rintro e w1 ⟨pb,pc,rfl,hparts,hb1⟩))
 have hT1:Tab w1:=F.1 _ _ hb1 hT;clear hfd
 go_loopw [10,11,26] (fun vd vm vi wr=>∃ (i:Nat) (mk d:ByteArray),i<=gs.length/\vi=.int .i64 i/\vm=.string mk/\vd=.string d/\mk.size=1/\Hid (R=zbj (zbi (rdT m) (fs.zip vs)) (gs.drop i) mk d)/\Hid (d.size+((gs.drop i).map fun f=>(wt m f.2.1+f.2.2.size+4)*D.size).sum<=20000*D.size)/\Below w1.heap.size w1 wr) (fun _ _ i _=>gs.length-(intOf i).toNat)
 case atStart =>
  refine⟨0,⟨#[123]⟩,xe,Nat.zero_le _,rfl,rfl,rfl,rfl,HR,?_,Below.refl _ _⟩;show _<=_;rw[List.drop_zero,zks (fun f:Nat×Ty×ByteArray=>wt m f.2.1+f.2.2.size+4),show ByteArray.empty.size=0 from rfl,Nat.zero_add];exact Nat.mul_le_mul_right _ hwt
 case round =>
  obtain⟨i,mk,d,hi,rfl,rfl,rfl,hmk,hR,hd,hb⟩:=hrel;have hbw:Below w.heap.size w wr:=hb1.thn hb;have hTw:Tab wr:=F.1 _ _ hb hT1;have one1:(⟨#[125]⟩:ByteArray).size=1:=rfl;have one2:(⟨#[58]⟩:ByteArray).size=1:=rfl;have hK:20000*D.size<=1280000:=by omega
  have hds:d.size<=1280000:=by have:=hd.out;omega
  by_cases hlt:i<gs.length
  ·obtain⟨gf,hf⟩:∃ f,gs[i]?=some f:=⟨gs[i],xg hlt⟩;have hdrop:gs.drop i=gf::gs.drop (i+1):=by
    rw[List.drop_eq_getElem_cons hlt];rw[xg hlt]at hf;simp at hf;rw[hf]
   have hmem:=List.mem_of_getElem? hf;obtain⟨hf256,hokf⟩:=hoG gf hmem;obtain⟨p1,p2,p3,q1,q2,q3,hrep,k0,k1,k2,k3,k4,k5,k6⟩:=hcellg i gf hf;have k0:=zab hbw k0;have k1:=zab hbw k1;have k2:=zab hbw k2;have k3:=zab hbw k3;have k4:=zab hbw k4;have k5:=zab hbw k5;have k6:=zab hbw k6;have hg':h<wr.heap.size:=zag k0;have hrepw:=hrep.keep hbw;have hBa:∀ o,Below wr.heap.size wr (wr.alloc o):=fun o=>(Below.refl _ _).alloc (xh _) _;have hwf:wt m gf.2.1<=20000:=by
    have:=zr7 (fun f:Nat×Ty×ByteArray=>wt m f.2.1+f.2.2.size+4) 20000 gs gf hmem hwt;omega
   have hfc:=fun o=>yaa1 F IH nw nr hm hnw hnr fs vs gf (wr.alloc o) g cf pb pc p1 q1 p2 p3 q2 q3 hfl (F.1 _ _ (hBa o) hTw) hoT hlen hok hDc
    (fun j f hj=>by
     obtain⟨a1,a2,a3,b1,b2,b3,c0,c1,c2,c3,c4,c5,c6,c7⟩:=hcells j f hj;have hq:=hbw.thn (hBa o);exact⟨a1,a2,a3,b1,b2,b3,c0.keep hq,zab hq c1,zab hq c2,zab hq c3,zab hq c4,zab hq c5,zab hq c6,zab hq c7⟩)
    (fun j v hj=>zab (hb.thn (hBa o)) (hparts j v hj)) hokf (hrepw.keep (hBa o)) hwf
   cases hy:zbi (rdT m) (fs.zip vs) gf with
   |none =>
    have hr':Hid (R=none):=by show _=_;rw[hR.out,hdrop,zbj,hy]
    rw[hy]at hfc;simp only[dRet]at hfc;clear hy hdrop hcells hcellg hparts hok hoT hoG hszf
    go_wp2_with (first|(go_at_call 253;refine(hfc _).mono ?_;rintro e w2 ⟨rfl,hb2⟩))
    go_ret2
    rw[hr'.out];exact⟨rfl,(hbw.thn (hBa _)).thn hb2⟩
   |some x =>
    have hxs:=hszf gf hmem x hy;have hso:(oneB gf.1).size=1:=rfl;have hz1:(mk++oneB gf.1).size=2:=by rw[xf,hmk,hso]
    have hz2:(mk++oneB gf.1++⟨#[58]⟩).size=3:=by rw[xf,hz1,one2]
    have hz3:(mk++oneB gf.1++⟨#[58]⟩++x).size=3+x.size:=by rw[xf,hz2]
    have hsum:d.size+3+x.size+((gs.drop (i+1)).map fun f=>(wt m f.2.1+f.2.2.size+4)*D.size).sum<=20000*D.size:=by
     have h1:=hd.out;rw[hdrop,List.map_cons,List.sum_cons,xm]at h1;omega
    have HS:Hid ((d++(mk++oneB gf.1++⟨#[58]⟩++x)).size+((gs.drop (i+1)).map fun f=>(wt m f.2.1+f.2.2.size+4)*D.size).sum<=20000*D.size):=by
     show _<=_;rw[xf,hz3];omega
    have hs1:x.size<=1280000:=by omega
    have hr':Hid (R=zbj (zbi (rdT m) (fs.zip vs)) (gs.drop (i+1)) ⟨#[44]⟩ (d++(mk++oneB gf.1++⟨#[58]⟩++x))):=by show _=_;rw[hR.out,hdrop,zbj,hy]
    rw[hy]at hfc;simp only[dRet]at hfc;clear hy hdrop hcells hcellg hparts hok hoT hoG hszf hxs hsum
    go_wp2_with (first|(go_at_call 253;refine(hfc _).mono ?_;rintro e w2 ⟨rfl,hb2⟩;obtain⟨hc1,hf1⟩:=zap hb2)|(go_at_call 251;refine(zdp gf.1 _ (by omega)).mono ?_;rintro e w3 ⟨rfl,hb3⟩))
    go_roundw
    case rel=>exact⟨i+1,⟨#[44]⟩,d++(mk++oneB gf.1++⟨#[58]⟩++x),by omega,by go_num,rfl,rfl,rfl,hr',HS,((hb.thn (hBa _)).thn hb2).thn hb3⟩
    case measure=>simp[intOf];omega
  ·have hnil:gs.drop i=[]:=List.drop_of_length_le (by omega);have hr':Hid (R=some (d++⟨#[125]⟩)):=by show _=_;rw[hR.out,hnil,zbj]
   go_wp2_with fail
   go_ret2
   rw[hr'.out];exact⟨rfl,hbw⟩
theorem zrg (x r:Ty)(w:World)(ai:Option Addr)(li ci:Nat)(af:Option Addr)(lf cf:Nat)(bi:Option Addr)(mi di:Nat)(bf:Option Addr)(mf df:Nat)(D t:ByteArray)(b:Bool)
  (h1:((x.kind:Int) == 63)=true) (nw:Nat) (hin:∀ W,Below w.heap.size w W->Calls Tryz.prog 194 #[.agg #[.int .i64 x.kind,.string x.letters,.bool x.op,.slice ai li ci,.slice af lf cf]] W fun e w'=>∃ p1 p2 p3 p4 p5 p6,e=.returned (.agg #[.int .i64 x.in.kind,.string x.in.letters,.bool x.in.op,.slice p1 p2 p3,.slice p4 p5 p6])/\Rep nw w' p1 p2 p3 p4 p5 p6 x.in/\Below W.heap.size W w') (hcall:∀ (W:World) (p1:Option Addr) (p2 p3:Nat) (p4:Option Addr) (p5 p6:Nat),Below w.heap.size w W->Rep nw W p1 p2 p3 p4 p5 p6 x.in->Calls Tryz.prog 193 #[.agg #[.int .i64 x.in.kind,.string x.in.letters,.bool x.in.op,.slice p1 p2 p3,.slice p4 p5 p6],.agg #[.int .i64 r.kind,.string r.letters,.bool r.op,.slice bi mi di,.slice bf mf df],.string D] W fun e w'=>e=.returned (.tuple #[.string t,.bool b])/\Below W.heap.size W w') :
  Calls Tryz.prog 130 #[.agg #[.int .i64 x.kind,.string x.letters,.bool x.op,.slice ai li ci,.slice af lf cf],.agg #[.int .i64 r.kind,.string r.letters,.bool r.op,.slice bi mi di,.slice bf mf df],.string D] w fun e w'=>e=.returned (.tuple #[.string t,.bool b])/\Below w.heap.size w w':=by
 have e0:=zc3 w x r ai li ci af lf cf bi mi di bf mf df
 go_enter Tryz.func130,Tryz.ntmps130
 go_wp2_with fail
 go_region_held3 (fun w'=>w'.cell? ⟨w.heap.size,0,none⟩=some (.int .i64 x.kind)/\w'.cell? ⟨w.heap.size,1,none⟩=some (.string x.letters)/\w'.cell? ⟨w.heap.size,2,none⟩=some (.bool x.op)/\w'.cell? ⟨w.heap.size,3,none⟩=some (.slice ai li ci)/\w'.cell? ⟨w.heap.size,4,none⟩=some (.slice af lf cf)/\w'.cell? ⟨w.heap.size+1,0,none⟩=some (.int .i64 r.kind)/\w'.cell? ⟨w.heap.size+1,1,none⟩=some (.string r.letters)/\w'.cell? ⟨w.heap.size+1,2,none⟩=some (.bool r.op)/\w'.cell? ⟨w.heap.size+1,3,none⟩=some (.slice bi mi di)/\w'.cell? ⟨w.heap.size+1,4,none⟩=some (.slice bf mf df)) (go_keep) (first|(go_at_call 194;refine(hin _ (by first|exact(BB w _ _).drew|exact BB w _ _)).mono ?_;rintro e w1 ⟨p1,p2,p3,p4,p5,p6,rfl,hr1,hb1⟩;have e1:=zbu hb1 e0)|(go_at_call 193;refine(hcall _ _ _ _ _ _ _ (by first|exact(BB w _ _).drew.thn hb1|exact(BB w _ _).thn hb1) hr1).mono ?_;rintro e w2 ⟨rfl,hb2⟩;have e2:=zbu hb2 e1))
 go_wp2_with fail
 go_ret2
 exact⟨rfl,((BB w _ _).drew.thn hb1).thn hb2⟩
theorem yaba (x r:Ty)(w:World)(ai:Option Addr)(li ci:Nat)(af:Option Addr)(lf cf:Nat)(bi:Option Addr)(mi di:Nat)(bf:Option Addr)(mf df:Nat)(D t:ByteArray)(b:Bool)
  (h1:((x.kind:Int) == 63)=false) (h2:((r.kind:Int) == 63)=true) (nr:Nat) (hin:∀ W,Below w.heap.size w W->Calls Tryz.prog 194 #[.agg #[.int .i64 r.kind,.string r.letters,.bool r.op,.slice bi mi di,.slice bf mf df]] W fun e w'=>∃ p1 p2 p3 p4 p5 p6,e=.returned (.agg #[.int .i64 r.in.kind,.string r.in.letters,.bool r.in.op,.slice p1 p2 p3,.slice p4 p5 p6])/\Rep nr w' p1 p2 p3 p4 p5 p6 r.in/\Below W.heap.size W w') (hcall:∀ (W:World) (p1:Option Addr) (p2 p3:Nat) (p4:Option Addr) (p5 p6:Nat),Below w.heap.size w W->Rep nr W p1 p2 p3 p4 p5 p6 r.in->Calls Tryz.prog 130 #[.agg #[.int .i64 x.kind,.string x.letters,.bool x.op,.slice ai li ci,.slice af lf cf],.agg #[.int .i64 r.in.kind,.string r.in.letters,.bool r.in.op,.slice p1 p2 p3,.slice p4 p5 p6],.string D] W fun e w'=>e=.returned (.tuple #[.string t,.bool b])/\Below W.heap.size W w') :
  Calls Tryz.prog 130 #[.agg #[.int .i64 x.kind,.string x.letters,.bool x.op,.slice ai li ci,.slice af lf cf],.agg #[.int .i64 r.kind,.string r.letters,.bool r.op,.slice bi mi di,.slice bf mf df],.string D] w fun e w'=>e=.returned (.tuple #[.string t,.bool b])/\Below w.heap.size w w':=by
 have e0:=zc3 w x r ai li ci af lf cf bi mi di bf mf df
 go_enter Tryz.func130,Tryz.ntmps130
 go_wp2_with fail
 go_region_held3 (fun w'=>w'.cell? ⟨w.heap.size,0,none⟩=some (.int .i64 x.kind)/\w'.cell? ⟨w.heap.size,1,none⟩=some (.string x.letters)/\w'.cell? ⟨w.heap.size,2,none⟩=some (.bool x.op)/\w'.cell? ⟨w.heap.size,3,none⟩=some (.slice ai li ci)/\w'.cell? ⟨w.heap.size,4,none⟩=some (.slice af lf cf)/\w'.cell? ⟨w.heap.size+1,0,none⟩=some (.int .i64 r.kind)/\w'.cell? ⟨w.heap.size+1,1,none⟩=some (.string r.letters)/\w'.cell? ⟨w.heap.size+1,2,none⟩=some (.bool r.op)/\w'.cell? ⟨w.heap.size+1,3,none⟩=some (.slice bi mi di)/\w'.cell? ⟨w.heap.size+1,4,none⟩=some (.slice bf mf df)) (go_keep) (first|(go_at_call 194;refine(hin _ (by first|exact(BB w _ _).drew|exact BB w _ _)).mono ?_;rintro e w1 ⟨p1,p2,p3,p4,p5,p6,rfl,hr1,hb1⟩;have e1:=zbu hb1 e0)|(go_at_call 130;refine(hcall _ _ _ _ _ _ _ (by first|exact(BB w _ _).drew.thn hb1|exact(BB w _ _).thn hb1) hr1).mono ?_;rintro e w2 ⟨rfl,hb2⟩;have e2:=zbu hb2 e1))
 go_wp2_with fail
 go_ret2
 exact⟨rfl,((BB w _ _).drew.thn hb1).thn hb2⟩
theorem yabc (x r:Ty)(w:World)(ai:Option Addr)(li ci:Nat)(af:Option Addr)(lf cf:Nat)(bi:Option Addr)(mi di:Nat)(bf:Option Addr)(mf df:Nat)(D t:ByteArray)(b:Bool)
  (h1:((x.kind:Int) == 63)=false) (h2:((r.kind:Int) == 63)=false) (hs:zax x.kind r.kind=true) (hcall:∀ (W:World) ,Below w.heap.size w W-> Calls Tryz.prog 129 #[.agg #[.int .i64 x.kind,.string x.letters,.bool x.op,.slice ai li ci,.slice af lf cf],.string D] W fun e w'=>e=.returned (.tuple #[.string t,.bool b])/\Below W.heap.size W w') :
  Calls Tryz.prog 130 #[.agg #[.int .i64 x.kind,.string x.letters,.bool x.op,.slice ai li ci,.slice af lf cf],.agg #[.int .i64 r.kind,.string r.letters,.bool r.op,.slice bi mi di,.slice bf mf df],.string D] w fun e w'=>e=.returned (.tuple #[.string t,.bool b])/\Below w.heap.size w w':=by
 have e0:=zc3 w x r ai li ci af lf cf bi mi di bf mf df
 go_enter Tryz.func130,Tryz.ntmps130
 go_wp2_with (first|(go_at_call 195;refine(zdg _ _ _).mono ?_;rintro e _ ⟨rfl,rfl⟩;rw[hs])|(go_at_call 129;refine(hcall _ (BB w _ _)).mono ?_;rintro e w1 ⟨rfl,hb1⟩))
 go_ret2
 exact⟨rfl,(BB w _ _).thn hb1⟩
theorem yaa8 (x r:Ty)(w:World)(ai:Option Addr)(li ci:Nat)(af:Option Addr)(lf cf:Nat)(bi:Option Addr)(mi di:Nat)(bf:Option Addr)(mf df:Nat)(D t:ByteArray)(b:Bool)
  (h1:((x.kind:Int) == 63)=false) (h2:((r.kind:Int) == 63)=false) (hs:zax x.kind r.kind=false) (h3:((x.kind:Int) != (r.kind:Int))=true) (ht:t=xe) (hb:b=false) :
  Calls Tryz.prog 130 #[.agg #[.int .i64 x.kind,.string x.letters,.bool x.op,.slice ai li ci,.slice af lf cf],.agg #[.int .i64 r.kind,.string r.letters,.bool r.op,.slice bi mi di,.slice bf mf df],.string D] w fun e w'=>e=.returned (.tuple #[.string t,.bool b])/\Below w.heap.size w w':=by
 have e0:=zc3 w x r ai li ci af lf cf bi mi di bf mf df
 go_enter Tryz.func130,Tryz.ntmps130
 subst ht hb
 go_wp2_with (first|(go_at_call 195;refine(zdg _ _ _).mono ?_;rintro e _ ⟨rfl,rfl⟩;rw[hs]))
 go_ret2
 exact⟨rfl,BB w _ _⟩
theorem yaa6 (x r:Ty)(w:World)(ai:Option Addr)(li ci:Nat)(af:Option Addr)(lf cf:Nat)(bi:Option Addr)(mi di:Nat)(bf:Option Addr)(mf df:Nat)(D t:ByteArray)(b:Bool)
  (h1:((x.kind:Int) == 63)=false) (h2:((r.kind:Int) == 63)=false) (hs:zax x.kind r.kind=false) (h3:((x.kind:Int) != (r.kind:Int))=false) (k60:((x.kind:Int) == 60)=true) (hcall:∀ (W:World) ,Below w.heap.size w W-> Calls Tryz.prog 196 #[.agg #[.int .i64 x.kind,.string x.letters,.bool x.op,.slice ai li ci,.slice af lf cf],.agg #[.int .i64 r.kind,.string r.letters,.bool r.op,.slice bi mi di,.slice bf mf df],.string D] W fun e w'=>e=.returned (.tuple #[.string t,.bool b])/\Below W.heap.size W w') :
  Calls Tryz.prog 130 #[.agg #[.int .i64 x.kind,.string x.letters,.bool x.op,.slice ai li ci,.slice af lf cf],.agg #[.int .i64 r.kind,.string r.letters,.bool r.op,.slice bi mi di,.slice bf mf df],.string D] w fun e w'=>e=.returned (.tuple #[.string t,.bool b])/\Below w.heap.size w w':=by
 have e0:=zc3 w x r ai li ci af lf cf bi mi di bf mf df
 go_enter Tryz.func130,Tryz.ntmps130
 go_wp2_with (first|(go_at_call 195;refine(zdg _ _ _).mono ?_;rintro e _ ⟨rfl,rfl⟩;rw[hs])|(go_at_call 196;refine(hcall _ (BB w _ _)).mono ?_;rintro e w1 ⟨rfl,hb1⟩))
 go_ret2
 exact⟨rfl,(BB w _ _).thn hb1⟩
theorem yaa7 (x r:Ty)(w:World)(ai:Option Addr)(li ci:Nat)(af:Option Addr)(lf cf:Nat)(bi:Option Addr)(mi di:Nat)(bf:Option Addr)(mf df:Nat)(D t:ByteArray)(b:Bool)
  (h1:((x.kind:Int) == 63)=false) (h2:((r.kind:Int) == 63)=false) (hs:zax x.kind r.kind=false) (h3:((x.kind:Int) != (r.kind:Int))=false) (k60:((x.kind:Int) == 60)=false) (k91:((x.kind:Int) == 91)=true) (nw nr:Nat) (hin:∀ W,Below w.heap.size w W->Calls Tryz.prog 194 #[.agg #[.int .i64 x.kind,.string x.letters,.bool x.op,.slice ai li ci,.slice af lf cf]] W fun e w'=>∃ p1 p2 p3 p4 p5 p6,e=.returned (.agg #[.int .i64 x.in.kind,.string x.in.letters,.bool x.in.op,.slice p1 p2 p3,.slice p4 p5 p6])/\Rep nw w' p1 p2 p3 p4 p5 p6 x.in/\Below W.heap.size W w') (hin2:∀ W,Below w.heap.size w W->Calls Tryz.prog 194 #[.agg #[.int .i64 r.kind,.string r.letters,.bool r.op,.slice bi mi di,.slice bf mf df]] W fun e w'=>∃ p1 p2 p3 p4 p5 p6,e=.returned (.agg #[.int .i64 r.in.kind,.string r.in.letters,.bool r.in.op,.slice p1 p2 p3,.slice p4 p5 p6])/\Rep nr w' p1 p2 p3 p4 p5 p6 r.in/\Below W.heap.size W w') (hcall:∀ (W:World) (p1:Option Addr) (p2 p3:Nat) (p4:Option Addr) (p5 p6:Nat) (q1:Option Addr) (q2 q3:Nat) (q4:Option Addr) (q5 q6:Nat),Below w.heap.size w W->Rep nw W p1 p2 p3 p4 p5 p6 x.in->Rep nr W q1 q2 q3 q4 q5 q6 r.in->Calls Tryz.prog 197 #[.agg #[.int .i64 x.in.kind,.string x.in.letters,.bool x.in.op,.slice p1 p2 p3,.slice p4 p5 p6],.agg #[.int .i64 r.in.kind,.string r.in.letters,.bool r.in.op,.slice q1 q2 q3,.slice q4 q5 q6],.string D] W fun e w'=>e=.returned (.tuple #[.string t,.bool b])/\Below W.heap.size W w') :
  Calls Tryz.prog 130 #[.agg #[.int .i64 x.kind,.string x.letters,.bool x.op,.slice ai li ci,.slice af lf cf],.agg #[.int .i64 r.kind,.string r.letters,.bool r.op,.slice bi mi di,.slice bf mf df],.string D] w fun e w'=>e=.returned (.tuple #[.string t,.bool b])/\Below w.heap.size w w':=by
 have e0:=zc3 w x r ai li ci af lf cf bi mi di bf mf df
 go_enter Tryz.func130,Tryz.ntmps130
 go_wp2_with (first|(go_at_call 195;refine(zdg _ _ _).mono ?_;rintro e _ ⟨rfl,rfl⟩;rw[hs]))
 go_region_held3 (fun w'=>w'.cell? ⟨w.heap.size,0,none⟩=some (.int .i64 x.kind)/\w'.cell? ⟨w.heap.size,1,none⟩=some (.string x.letters)/\w'.cell? ⟨w.heap.size,2,none⟩=some (.bool x.op)/\w'.cell? ⟨w.heap.size,3,none⟩=some (.slice ai li ci)/\w'.cell? ⟨w.heap.size,4,none⟩=some (.slice af lf cf)/\w'.cell? ⟨w.heap.size+1,0,none⟩=some (.int .i64 r.kind)/\w'.cell? ⟨w.heap.size+1,1,none⟩=some (.string r.letters)/\w'.cell? ⟨w.heap.size+1,2,none⟩=some (.bool r.op)/\w'.cell? ⟨w.heap.size+1,3,none⟩=some (.slice bi mi di)/\w'.cell? ⟨w.heap.size+1,4,none⟩=some (.slice bf mf df)) (go_keep) (first|(go_at_call 194;have hq:=hb1;refine(hin2 _ (by first|exact(BB w _ _).drew.thn hb1|exact(BB w _ _).thn hb1)).mono ?_;rintro e w2 ⟨q1,q2,q3,q4,q5,q6,rfl,hr2,hb2⟩;have e2:=zbu hb2 e1)|(go_at_call 194;refine(hin _ (by first|exact(BB w _ _).drew|exact BB w _ _)).mono ?_;rintro e w1 ⟨p1,p2,p3,p4,p5,p6,rfl,hr1,hb1⟩;have e1:=zbu hb1 e0)|(go_at_call 197;refine(hcall _ _ _ _ _ _ _ _ _ _ _ _ _ (by first|exact((BB w _ _).drew.thn hb1).thn hb2|exact((BB w _ _).thn hb1).thn hb2) (hr1.keep hb2) hr2).mono ?_;rintro e w3 ⟨rfl,hb3⟩;have e3:=zbu hb3 e2))
 go_wp2_with fail
 go_ret2
 exact⟨rfl,(((BB w _ _).drew.thn hb1).thn hb2).thn hb3⟩
theorem yabb (x r:Ty)(w:World)(ai:Option Addr)(li ci:Nat)(af:Option Addr)(lf cf:Nat)(bi:Option Addr)(mi di:Nat)(bf:Option Addr)(mf df:Nat)(D t:ByteArray)(b:Bool)
  (h1:((x.kind:Int) == 63)=false) (h2:((r.kind:Int) == 63)=false) (hs:zax x.kind r.kind=false) (h3:((x.kind:Int) != (r.kind:Int))=false) (k60:((x.kind:Int) == 60)=false) (k91:((x.kind:Int) == 91)=false) (k123:((x.kind:Int) == 123)=true) (hcall:∀ (W:World) ,Below w.heap.size w W-> Calls Tryz.prog 198 #[.slice af lf cf,.slice bf mf df,.string D] W fun e w'=>e=.returned (.tuple #[.string t,.bool b])/\Below W.heap.size W w') :
  Calls Tryz.prog 130 #[.agg #[.int .i64 x.kind,.string x.letters,.bool x.op,.slice ai li ci,.slice af lf cf],.agg #[.int .i64 r.kind,.string r.letters,.bool r.op,.slice bi mi di,.slice bf mf df],.string D] w fun e w'=>e=.returned (.tuple #[.string t,.bool b])/\Below w.heap.size w w':=by
 have e0:=zc3 w x r ai li ci af lf cf bi mi di bf mf df
 go_enter Tryz.func130,Tryz.ntmps130
 go_wp2_with (first|(go_at_call 195;refine(zdg _ _ _).mono ?_;rintro e _ ⟨rfl,rfl⟩;rw[hs])|(go_at_call 198;refine(hcall _ (BB w _ _)).mono ?_;rintro e w1 ⟨rfl,hb1⟩))
 go_ret2
 exact⟨rfl,(BB w _ _).thn hb1⟩
theorem zs2 {m:Nat}{r:Ty}(h:r.inner≠[]):wt m r.in+70<=wt (m+1) r:=by
 unfold Ty.in;rcases hi:r.inner with _|⟨t,ts⟩
 ·exact absurd hi h
 ·rw[wt,hi];simp;omega
theorem znk {n:Nat}{x:Ty}{v:Val}(h:okV n x v):zd3 (datV n v) n x=some (txtV n x v):=by
 unfold zd3;rw[zhv n x v 0 h (At.self _)];simp
def outT:Option ByteArray->ByteArray
 |none=>xe
 |some t=>t
theorem zef (o:Option ByteArray):dRet o=.tuple #[.string (outT o),.bool o.isSome]:=by cases o<;>rfl
theorem kEqB {a b:Nat}(h:a=b):((a:Int) == (b:Int))=true:=by simp;omega
theorem kNeB {a b:Nat}(h:a≠b):((a:Int) == (b:Int))=false:=by simp;omega
theorem yabd {Tab:World->Prop}(F:zch Tab){m:Nat}(IH:zeo Tab m):zeo Tab (m+1):=by
 intro nw nr x r v w ai af li ci lf cf bi bf mi di mf df hm hnw hnr hT hox hor hx hr hv hsz hwt;cases nw with
 |zero=>exact hx.elim
 |succ nw =>
 cases nr with
 |zero=>exact hr.elim
 |succ nr =>
 have hwt':wt m r<=20000:=Nat.le_trans (zi7 m r) hwt;show Calls _ _ _ _ (fun e w'=>e=.returned (dRet (zbc (rdT m) x r v))/\Below w.heap.size w w');rw[zef];have hx8:x.letters.size<=8:=hx.1;have hr8:r.letters.size<=8:=hr.1;have hinx:=fun (hne:x.inner≠[]) (W:World) (hb:Below w.heap.size w W)=>zei nw W ai af li ci lf cf x (hx.keep hb) hne;have hinr:=fun (hne:r.inner≠[]) (W:World) (hb:Below w.heap.size w W)=>zei nr W bi bf mi di mf df r (hr.keep hb) hne;by_cases h63:x.kind=63
 ·have hne:x.inner≠[]:=hx.2.2.2.1.1 (.inr h63);rcases hv with⟨y,rfl,hv⟩|⟨s,rfl,hv⟩|⟨i,rfl,hv⟩|⟨vs,rfl,hv⟩|⟨rfl,hv⟩|⟨u,rfl,hv⟩|⟨vs,rfl,hv⟩
  iterate 4
   ·omega
  ·rw[show zbc (rdT m) x r .non=if r.kind=63 then some ⟨#[95]⟩ else none by unfold zbc;rw[if_pos h63];rfl,zhs];refine zrg x r w ai li ci af lf cf bi mi di bf mf df _ _ _ (kEqB h63) nw (hinx hne) (fun W p1 p2 p3 p4 p5 p6 hb hp=>?_);have:=yaa3 x.in r p1 p2 p3 p4 p5 p6 bi mi di bf mf df W;rw[zef]at this;exact this
  ·rw[show zbc (rdT m) x r (.som u)=rdT m x.in r u by unfold zbc;rw[if_pos h63];rfl];rw[zgf]at hsz ⊢;rw[xf,zak]at hsz;refine zrg x r w ai li ci af lf cf bi mi di bf mf df _ _ _ (kEqB h63) nw (hinx hne) (fun W p1 p2 p3 p4 p5 p6 hb hp=>?_);have:=yaa4 F IH nw (nr+1) x.in r u W p1 p4 p2 p3 p5 p6 bi bf mi di mf df (by omega) (by omega) hnr (F.1 _ _ hb hT) (hox.in hne) hor hp (hr.keep hb) hv.2 (by omega) hwt';rw[zef]at this;exact this
  ·omega
 ·by_cases hr63:r.kind=63
  ·have hne:r.inner≠[]:=hr.2.2.2.1.1 (.inr hr63);rw[show zbc (rdT m) x r v=rdT m x r.in v by unfold zbc;rw[if_neg h63,if_pos hr63]];have hwi:=zs2 (m:=m) hne;refine yaba x r w ai li ci af lf cf bi mi di bf mf df _ _ _ (kNeB h63) (kEqB hr63) nr (hinr hne) (fun W p1 p2 p3 p4 p5 p6 hb hp=>?_);have:=IH (nw+1) nr x r.in v W ai af li ci lf cf p1 p4 p2 p3 p5 p6 (by omega) hnw (by omega) (F.1 _ _ hb hT) hox (hor.in hne) (hx.keep hb) hp hv hsz (by omega);rw[zef]at this;exact this
  ·cases hsame:zax x.kind r.kind with
   |true =>
    rw[show zbc (rdT m) x r v=some (zh8 v) by unfold zbc;rw[if_neg h63,if_neg hr63,if_pos hsame]];have htx:txtV (nw+1) x v=zh8 v:=by
     have hk:x.kind=105\/x.kind=108\/x.kind=115:=by simp[zax]at hsame;omega
     rcases hv with⟨y,rfl,hv⟩|⟨s,rfl,hv⟩|⟨i,rfl,hv⟩|⟨vs,rfl,hv⟩|⟨rfl,hv⟩|⟨u,rfl,hv⟩|⟨vs,rfl,hv⟩
     iterate 2
      ·rfl
     iterate 5
      ·omega
    refine yabc x r w ai li ci af lf cf bi mi di bf mf df _ _ _ (kNeB h63) (kNeB hr63) hsame (fun W hb=>?_);have:=zrm F (t:=datV (nw+1) v) (by omega) (show nw+1<=100 by omega) x W ai af li ci lf cf (F.1 _ _ hb hT) hox (hx.keep hb);rw[znk hv,htx,zef]at this;exact this
   |false =>
    by_cases hkk:x.kind=r.kind
    ·have h3:((x.kind:Int) != (r.kind:Int))=false:=by simp;omega
     have hstep:zbc (rdT m) x r v=if v.tag=2 then zc0 x.letters r.letters r.op v.n.toNat else if v.tag=3 then zbg (rdT m x.in r.in) v.vs 0 ⟨#[91]⟩ else if v.tag=6 then zbj (zbi (rdT m) (x.fields.zip v.vs)) r.fields ⟨#[123]⟩ xe else none:=by
      unfold zbc;rw[if_neg h63,if_neg hr63,if_neg (by rw[hsame];simp),if_neg (by simp[hkk])]
     rcases hv with⟨y,rfl,hv⟩|⟨s,rfl,hv⟩|⟨i,rfl,hv⟩|⟨vs,rfl,hv⟩|⟨rfl,hv⟩|⟨u,rfl,hv⟩|⟨vs,rfl,hv⟩
     iterate 2
      ·exfalso;simp[zax]at hsame;omega
     ·rw[show zbc (rdT m) x r (.cho i)=zc0 x.letters r.letters r.op i from hstep,zhr];refine yaa6 x r w ai li ci af lf cf bi mi di bf mf df _ _ _ (kNeB h63) (kNeB hr63) hsame h3 (kEqB hv.1) (fun W hb=>?_);have:=yaa0 x r ai li ci af lf cf bi mi di bf mf df i W hx8 hr8 hv.2.1;rw[zef]at this;exact this
     ·have hn1:x.inner≠[]:=hx.2.2.2.1.1 (.inl hv.1);have hn2:r.inner≠[]:=hr.2.2.2.1.1 (.inl (by omega));have hwi:=zs2 (m:=m) hn2;rw[show zbc (rdT m) x r (.lst vs)=zbg (rdT m x.in r.in) vs 0 ⟨#[91]⟩from hstep];rw[zge]at hsz ⊢;refine yaa7 x r w ai li ci af lf cf bi mi di bf mf df _ _ _ (kNeB h63) (kNeB hr63) hsame h3 (kNeB (b:=60) (by omega)) (kEqB hv.1) nw nr (hinx hn1) (hinr hn2) (fun W p1 p2 p3 p4 p5 p6 q1 q2 q3 q4 q5 q6 hb hp hq=>?_);have:=yaa2 F IH nw nr x.in r.in vs W p1 p4 p2 p3 p5 p6 q1 q4 q2 q3 q5 q6 (by omega) (by omega) (by omega) (F.1 _ _ hb hT) (hox.in hn1) (hor.in hn2) hp hq hv.2.1 hv.2.2 hsz (by omega);rw[zef]at this;exact this
     iterate 2
      ·omega
     ·rw[show zbc (rdT m) x r (.rcd vs)=zbj (zbi (rdT m) (x.fields.zip vs)) r.fields ⟨#[123]⟩ xe from hstep];rw[zeg]at hsz ⊢;have hlx:=hx.flds;have hlr:=hr.flds;have hrn:r.fields≠[]:=hr.2.2.2.1.2 (by omega);refine yabb x r w ai li ci af lf cf bi mi di bf mf df _ _ _ (kNeB h63) (kNeB hr63) hsame h3 (kNeB (b:=60) (by omega)) (kNeB (b:=91) (by omega)) (kEqB hv.1) (fun W hb=>?_);have:=yaa5 F IH nw nr (by omega) (by omega) (by omega) x.fields r.fields vs _ W af bf lf cf mf df hlx.1 hlr.1 hlx.2.1 hlr.2.1 hv.2.1 hrn (F.1 _ _ hb hT) hox.2 hor.2 hv.2.2.1 hv.2.2.2 rfl hsz (hx.keep hb).flds.2.2 (hr.keep hb).flds.2.2 (by rw[wt]at hwt;omega);rw[zef]at this;exact this
    ·rw[show zbc (rdT m) x r v=none by unfold zbc;rw[if_neg h63,if_neg hr63,if_neg (by rw[hsame];simp),if_pos hkk]];exact yaa8 x r w ai li ci af lf cf bi mi di bf mf df _ _ _ (kNeB h63) (kNeB hr63) hsame (by simp;omega) rfl rfl
theorem zrf {Tab:World->Prop}(F:zch Tab):∀ m,zeo Tab m
 |0=>fun nw nr x r v w ai af li ci lf cf bi bf mi di mf df hm hnw hnr hT hox hor hx hr hv hsz hwt=>by
  obtain rfl:nw=0:=by omega
  exact hx.elim
 |m+1=>yabd F (zrf F m)
theorem yae7 {w w1:World}(hb:Below ((w.alloc (.cells #[.int .i64 0,.string ⟨#[]⟩,.bool false,.slice none 0 0,.slice none 0 0] 201)).alloc (.cells #[.int .i64 0,.string ⟨#[]⟩,.bool false,.slice none 0 0,.slice none 0 0] 201)).heap.size ((w.alloc (.cells #[.int .i64 0,.string ⟨#[]⟩,.bool false,.slice none 0 0,.slice none 0 0] 201)).alloc (.cells #[.int .i64 0,.string ⟨#[]⟩,.bool false,.slice none 0 0,.slice none 0 0] 201)) w1) :
  w1.cell? ⟨w.heap.size,0,none⟩=some (.int .i64 0)/\w1.cell? ⟨w.heap.size,1,none⟩=some (.string ⟨#[]⟩)/\w1.cell? ⟨w.heap.size,2,none⟩=some (.bool false)/\w1.cell? ⟨w.heap.size,3,none⟩=some (.slice none 0 0)/\w1.cell? ⟨w.heap.size,4,none⟩=some (.slice none 0 0)/\w1.cell? ⟨w.heap.size+1,0,none⟩=some (.int .i64 0)/\w1.cell? ⟨w.heap.size+1,1,none⟩=some (.string ⟨#[]⟩)/\w1.cell? ⟨w.heap.size+1,2,none⟩=some (.bool false)/\w1.cell? ⟨w.heap.size+1,3,none⟩=some (.slice none 0 0)/\w1.cell? ⟨w.heap.size+1,4,none⟩=some (.slice none 0 0):=by
 have h:(w.alloc (.cells #[.int .i64 0,.string ⟨#[]⟩,.bool false,.slice none 0 0,.slice none 0 0] 201)).heap.size=w.heap.size+1:=by simp
 refine⟨zab hb (zah _ (zam rfl rfl)),zab hb (zah _ (zam rfl rfl)),zab hb (zah _ (zam rfl rfl)),zab hb (zah _ (zam rfl rfl)),zab hb (zah _ (zam rfl rfl)),?_⟩;rw[<- h];exact⟨zab hb (zam rfl rfl),zab hb (zam rfl rfl),zab hb (zam rfl rfl),zab hb (zam rfl rfl),zab hb (zam rfl rfl)⟩
theorem yae8 {w w1 w2:World}{o o2:Obj}(hb:Below ((w.alloc (.cells #[.int .i64 0,.string ⟨#[]⟩,.bool false,.slice none 0 0,.slice none 0 0] 201)).alloc (.cells #[.int .i64 0,.string ⟨#[]⟩,.bool false,.slice none 0 0,.slice none 0 0] 201)).heap.size ((w.alloc (.cells #[.int .i64 0,.string ⟨#[]⟩,.bool false,.slice none 0 0,.slice none 0 0] 201)).alloc (.cells #[.int .i64 0,.string ⟨#[]⟩,.bool false,.slice none 0 0,.slice none 0 0] 201)) w1)(hb2:Below (w1.alloc o).heap.size (w1.alloc o) w2) :
  (w2.alloc o2).cell? ⟨w.heap.size,0,none⟩=some (.int .i64 0)/\(w2.alloc o2).cell? ⟨w.heap.size,1,none⟩=some (.string ⟨#[]⟩)/\(w2.alloc o2).cell? ⟨w.heap.size,2,none⟩=some (.bool false)/\(w2.alloc o2).cell? ⟨w.heap.size,3,none⟩=some (.slice none 0 0)/\(w2.alloc o2).cell? ⟨w.heap.size,4,none⟩=some (.slice none 0 0)/\(w2.alloc o2).cell? ⟨w.heap.size+1,0,none⟩=some (.int .i64 0)/\(w2.alloc o2).cell? ⟨w.heap.size+1,1,none⟩=some (.string ⟨#[]⟩)/\(w2.alloc o2).cell? ⟨w.heap.size+1,2,none⟩=some (.bool false)/\(w2.alloc o2).cell? ⟨w.heap.size+1,3,none⟩=some (.slice none 0 0)/\(w2.alloc o2).cell? ⟨w.heap.size+1,4,none⟩=some (.slice none 0 0):=by
 obtain⟨h0,h1,h2,h3,h4,k0,k1,k2,k3,k4⟩:=yae7 hb;have q:∀ {b i:Nat} {v:Value},w1.cell? ⟨b,i,none⟩=some v->(w2.alloc o2).cell? ⟨b,i,none⟩=some v:=fun h=>zah _ (zab hb2 (zah _ h));exact⟨q h0,q h1,q h2,q h3,q h4,q k0,q k1,q k2,q k3,q k4⟩
theorem thnT {w W w1:World}(h:Below w.heap.size w W)(k:Below W.heap.size W w1):Below w.heap.size w w1:=h.trans (k.mono h.size)
theorem BBt (w:World)(o o2:Obj):Below w.heap.size w ((w.alloc o).alloc o2):=((Below.refl _ _).alloc (xh _) _).alloc (by simp) _
theorem zsm {s t:ByteArray}(hs:s.size<=60)(ht:t.size<=60){x r:Ty}(hx:pAll false s=some x)(hr:pAll false t=some r)(w:World) :
  Calls Tryz.prog 128 #[.string s,.string t] w fun e w'=>∃ ai li ci af lf cf bi mi di bf mf df,e=.returned (.tuple #[.agg #[.int .i64 x.kind,.string x.letters,.bool x.op,.slice ai li ci,.slice af lf cf],.agg #[.int .i64 r.kind,.string r.letters,.bool r.op,.slice bi mi di,.slice bf mf df],.int .i64 0]) /\
   RepB (fun b=>w.heap.size<=b) s.size w' ai li ci af lf cf x/\RepB (fun b=>w.heap.size<=b) t.size w' bi mi di bf mf df r/\Below w.heap.size w w':=by
 have hcall:=fun w=>zfy (zfs hs w) hx;have hcall2:=fun w=>zfy (zfs ht w) hr;clear hx hr
 go_enter Tryz.func128,Tryz.ntmps128
 go_wp2_with (first|(go_at_call 131;have hq:=hb1;refine(hcall2 _).mono ?_;rintro e w2 ⟨bi,mi,di,bf,mf,df,rfl,hr2,hb2⟩;obtain⟨hc2,hf2⟩:=zap hb2;have hy1:w1.heap.size<w2.heap.size:=(by have:=hb2.size;simp at this;omega);have hy2:w.heap.size<w2.heap.size:=(by omega);have hy3:w.heap.size+1<w2.heap.size:=(by omega))|(go_at_call 131;refine(hcall _).mono ?_;rintro e w1 ⟨ai,li,ci,af,lf,cf,rfl,hr1,hb1⟩;obtain⟨hc1,hf1⟩:=zap hb1;have hz1:w.heap.size+1<w1.heap.size:=(by have:=hb1.size;simp at this;omega);have hz2:w.heap.size<w1.heap.size:=(by omega)))
 have k1:(w2.alloc (.cells #[.int .i64 r.kind,.string r.letters,.bool r.op,.slice bi mi di,.slice bf mf df] 201)).cell? ⟨w1.heap.size,0,none⟩=some (.int .i64 x.kind)/\(w2.alloc (.cells #[.int .i64 r.kind,.string r.letters,.bool r.op,.slice bi mi di,.slice bf mf df] 201)).cell? ⟨w1.heap.size,1,none⟩=some (.string x.letters)/\(w2.alloc (.cells #[.int .i64 r.kind,.string r.letters,.bool r.op,.slice bi mi di,.slice bf mf df] 201)).cell? ⟨w1.heap.size,2,none⟩=some (.bool x.op)/\(w2.alloc (.cells #[.int .i64 r.kind,.string r.letters,.bool r.op,.slice bi mi di,.slice bf mf df] 201)).cell? ⟨w1.heap.size,3,none⟩=some (.slice ai li ci)/\(w2.alloc (.cells #[.int .i64 r.kind,.string r.letters,.bool r.op,.slice bi mi di,.slice bf mf df] 201)).cell? ⟨w1.heap.size,4,none⟩=some (.slice af lf cf):=by
  refine⟨zah _ (zab hb2 (zam rfl rfl)),zah _ (zab hb2 (zam rfl rfl)),zah _ (zab hb2 (zam rfl rfl)),zah _ (zab hb2 (zam rfl rfl)),zah _ (zab hb2 (zam rfl rfl))⟩
 have k2:(w2.alloc (.cells #[.int .i64 r.kind,.string r.letters,.bool r.op,.slice bi mi di,.slice bf mf df] 201)).cell? ⟨w2.heap.size,0,none⟩=some (.int .i64 r.kind)/\(w2.alloc (.cells #[.int .i64 r.kind,.string r.letters,.bool r.op,.slice bi mi di,.slice bf mf df] 201)).cell? ⟨w2.heap.size,1,none⟩=some (.string r.letters)/\(w2.alloc (.cells #[.int .i64 r.kind,.string r.letters,.bool r.op,.slice bi mi di,.slice bf mf df] 201)).cell? ⟨w2.heap.size,2,none⟩=some (.bool r.op)/\(w2.alloc (.cells #[.int .i64 r.kind,.string r.letters,.bool r.op,.slice bi mi di,.slice bf mf df] 201)).cell? ⟨w2.heap.size,3,none⟩=some (.slice bi mi di)/\(w2.alloc (.cells #[.int .i64 r.kind,.string r.letters,.bool r.op,.slice bi mi di,.slice bf mf df] 201)).cell? ⟨w2.heap.size,4,none⟩=some (.slice bf mf df):=⟨zam rfl rfl,zam rfl rfl,zam rfl rfl,zam rfl rfl,zam rfl rfl⟩;have kz:=yae8 hb1 hb2 (o:=.cells #[.int .i64 x.kind,.string x.letters,.bool x.op,.slice ai li ci,.slice af lf cf] 201) (o2:=.cells #[.int .i64 r.kind,.string r.letters,.bool r.op,.slice bi mi di,.slice bf mf df] 201);have hbW:Below w.heap.size w (w2.alloc (.cells #[.int .i64 r.kind,.string r.letters,.bool r.op,.slice bi mi di,.slice bf mf df] 201)):=Below.alloc' (thnT (Below.alloc' (thnT (BBt w _ _) hb1) _) hb2) _;have hR1:RepB (fun b=>w.heap.size+2<=b) s.size (w2.alloc (.cells #[.int .i64 r.kind,.string r.letters,.bool r.op,.slice bi mi di,.slice bf mf df] 201)) ai li ci af lf cf x:=(hr1.keep (fun b o v hS h=>zah _ (zab hb2 (zah _ h)))).imp (fun b _ h=>by simp at h;omega);have hR2:RepB (fun b=>w.heap.size+2<=b) t.size (w2.alloc (.cells #[.int .i64 r.kind,.string r.letters,.bool r.op,.slice bi mi di,.slice bf mf df] 201)) bi mi di bf mf df r:=(hr2.keep (fun b o v hS h=>zah _ h)).imp (fun b _ h=>by simp at h;omega);have fz:∀ o,(w2.alloc (.cells #[.int .i64 r.kind,.string r.letters,.bool r.op,.slice bi mi di,.slice bf mf df] 201)).frozen? ⟨w.heap.size,o,none⟩=false:=fun o=>by
  rw[frozen?_alloc_cells,hf2 _ _ (by simp;omega),frozen?_alloc_cells,hf1 _ _ (by simp;omega),frozen?_alloc_cells,frozen?_alloc_cells];simp[xj]
 have fz2:∀ o,(w2.alloc (.cells #[.int .i64 r.kind,.string r.letters,.bool r.op,.slice bi mi di,.slice bf mf df] 201)).frozen? ⟨w.heap.size+1,o,none⟩=false:=fun o=>by
  rw[frozen?_alloc_cells,hf2 _ _ (by simp;omega),frozen?_alloc_cells,hf1 _ _ (by simp),frozen?_alloc_cells,frozen?_alloc_cells];simp[xj]
 have n1:¬ w1.heap.size=w.heap.size:=by omega
 have n2:¬ w1.heap.size=w.heap.size+1:=by omega
 have n3:¬ w2.heap.size=w.heap.size:=by omega
 have n4:¬ w2.heap.size=w.heap.size+1:=by omega
 have n5:¬ w.heap.size=w1.heap.size:=by omega
 have n6:¬ w.heap.size+1=w1.heap.size:=by omega
 have n7:¬ w.heap.size=w2.heap.size:=by omega
 have n8:¬ w.heap.size+1=w2.heap.size:=by omega
 generalize (w2.alloc (.cells #[.int .i64 r.kind,.string r.letters,.bool r.op,.slice bi mi di,.slice bf mf df] 201))=W3 at k1 k2 kz fz fz2 hbW hR1 hR2 ⊢
 go_region_held3 (fun w'=>(w'.cell? ⟨w1.heap.size,0,none⟩=some (.int .i64 x.kind)/\w'.cell? ⟨w1.heap.size,1,none⟩=some (.string x.letters)/\w'.cell? ⟨w1.heap.size,2,none⟩=some (.bool x.op)/\w'.cell? ⟨w1.heap.size,3,none⟩=some (.slice ai li ci)/\w'.cell? ⟨w1.heap.size,4,none⟩=some (.slice af lf cf))/\w'.cell? ⟨w2.heap.size,0,none⟩=some (.int .i64 r.kind)/\w'.cell? ⟨w2.heap.size,1,none⟩=some (.string r.letters)/\w'.cell? ⟨w2.heap.size,2,none⟩=some (.bool r.op)/\w'.cell? ⟨w2.heap.size,3,none⟩=some (.slice bi mi di)/\w'.cell? ⟨w2.heap.size,4,none⟩=some (.slice bf mf df)) (go_keep) (fail)
 go_wp2_with fail
 refine bodyPost_ret (v:=.tuple #[.agg #[.int .i64 x.kind,.string x.letters,.bool x.op,.slice ai li ci,.slice af lf cf],.agg #[.int .i64 r.kind,.string r.letters,.bool r.op,.slice bi mi di,.slice bf mf df],.int .i64 0]) (by simp[results,Tryz.results128,go_sem,kz]) rfl ?_;exact⟨ai,li,ci,af,lf,cf,bi,mi,di,bf,mf,df,rfl,(hR1.keep (fun b o v hS h=>zjv (zco (zco h (by omega)) (by omega)))).imp (fun b _ h=>by show w.heap.size<=b;omega),
  (hR2.keep (fun b o v hS h=>zjv (zco (zco h (by omega)) (by omega)))).imp (fun b _ h=>by show w.heap.size<=b;omega),(Below.set5 (Below.set5 hbW (xh _)) (by omega)).drew⟩
theorem zif {st:Bool}{s:ByteArray}{ty:Ty}(hx:pAll st s=some ty):zae st s s.size 0=some (ty,s.size):=by
 unfold pAll at hx;rcases hq:zae st s s.size 0 with _|⟨ty',k⟩
 ·rw[hq]at hx;cases hx
 ·rw[hq]at hx;simp only at hx;split at hx
  ·rename_i h;cases hx;rw[h]
  ·cases hx
end Go.Proofs.YtkkekopomiehlabGreatDoor
