import Derived.Test.YtkkekopomiehlabGreatDoorEBk2
set_option linter.unusedVariables false
set_option linter.unusedSimpArgs false
set_option maxHeartbeats 40000000
open ByteArray renaming size_append->xe,empty->xo
open List renaming mem_of_getElem?->xf,getElem?_eq_getElem->xg,zip_cons_cons->xj,findIdx?_cons->xm,find?_cons->xp,map_cons->xq
open Nat renaming le_refl->xh,zero_le->xu
open Go.ByteArray renaming toList_eq->xv
open Int renaming toNat->xy
open Go.RowKit
set_option maxRecDepth 4000
namespace Go.Proofs.YtkkekopomiehlabGreatDoor
def zeo (Tab:World->Prop)(m:Nat):Prop:=∀ (nw nr:Nat) (x r:Ty) (v:Val) (w:World) (ai af:Option Addr) (li ci lf cf:Nat) (bi bf:Option Addr) (mi di mf df:Nat),
 nw+nr<=m->nw<=100->nr<=100->Tab w->okT nw x->okT nr r->Rep nw w ai li ci af lf cf x->Rep nr w bi mi di bf mf df r->okV nw x v->(datV nw v).size<=64->wt m r<=20000 ->
 Calls Tryz.prog 130 #[.agg #[.int .i64 x.kind,.string x.letters,.bool x.op,.slice ai li ci,.slice af lf cf],.agg #[.int .i64 r.kind,.string r.letters,.bool r.op,.slice bi mi di,.slice bf mf df],.string (datV nw v)] w fun e w'=>e=.returned (dRet (rdT m x r v))/\Below w.heap.size w w'
theorem cat1 {a:Nat}(b:ByteArray)(ha:a<256):(oneB a++b).size=1+b.size/\bAt (oneB a++b) (xy 0)=a/\(oneB a++b).extract 1 (oneB a++b).size=b:=by
 have h1:(oneB a++b).size=1+b.size:=by rw[xe,zak]
 refine⟨h1,?_,?_⟩
 ·show bAt (oneB a++b) 0=a;rw[zep _ _ _ (by rw[zak];omega),zcu a ha]
 ·have:=(At.self (oneB a++b));rw[At.app,zak]at this;have h2:=this.2.ext;rw[show 0+1=1 by omega]at h2;rw[h1];exact h2
theorem zbu {W w1:World}(hb:Below W.heap.size W w1){b c:Nat}{v0 v1 v2 v3 v4 u0 u1 u2 u3 u4:Value}(h:W.cell? ⟨b,0,none⟩=some v0/\W.cell? ⟨b,1,none⟩=some v1/\W.cell? ⟨b,2,none⟩=some v2/\W.cell? ⟨b,3,none⟩=some v3/\W.cell? ⟨b,4,none⟩=some v4/\W.cell? ⟨c,0,none⟩=some u0/\W.cell? ⟨c,1,none⟩=some u1/\W.cell? ⟨c,2,none⟩=some u2/\W.cell? ⟨c,3,none⟩=some u3/\W.cell? ⟨c,4,none⟩=some u4) :
  w1.cell? ⟨b,0,none⟩=some v0/\w1.cell? ⟨b,1,none⟩=some v1/\w1.cell? ⟨b,2,none⟩=some v2/\w1.cell? ⟨b,3,none⟩=some v3/\w1.cell? ⟨b,4,none⟩=some v4/\w1.cell? ⟨c,0,none⟩=some u0/\w1.cell? ⟨c,1,none⟩=some u1/\w1.cell? ⟨c,2,none⟩=some u2/\w1.cell? ⟨c,3,none⟩=some u3/\w1.cell? ⟨c,4,none⟩=some u4:=by
 obtain⟨h0,h1,h2,h3,h4,k0,k1,k2,k3,k4⟩:=h;exact⟨zab hb h0,zab hb h1,zab hb h2,zab hb h3,zab hb h4,zab hb k0,zab hb k1,zab hb k2,zab hb k3,zab hb k4⟩
theorem zc3 (w:World)(x r:Ty)(ai:Option Addr)(li ci:Nat)(af:Option Addr)(lf cf:Nat)(bi:Option Addr)(mi di:Nat)(bf:Option Addr)(mf df:Nat) :
  ((w.alloc (.cells #[.int .i64 x.kind,.string x.letters,.bool x.op,.slice ai li ci,.slice af lf cf] 201)).alloc (.cells #[.int .i64 r.kind,.string r.letters,.bool r.op,.slice bi mi di,.slice bf mf df] 201)).cell? ⟨w.heap.size,0,none⟩=some (.int .i64 x.kind)/\((w.alloc (.cells #[.int .i64 x.kind,.string x.letters,.bool x.op,.slice ai li ci,.slice af lf cf] 201)).alloc (.cells #[.int .i64 r.kind,.string r.letters,.bool r.op,.slice bi mi di,.slice bf mf df] 201)).cell? ⟨w.heap.size,1,none⟩=some (.string x.letters)/\((w.alloc (.cells #[.int .i64 x.kind,.string x.letters,.bool x.op,.slice ai li ci,.slice af lf cf] 201)).alloc (.cells #[.int .i64 r.kind,.string r.letters,.bool r.op,.slice bi mi di,.slice bf mf df] 201)).cell? ⟨w.heap.size,2,none⟩=some (.bool x.op)/\((w.alloc (.cells #[.int .i64 x.kind,.string x.letters,.bool x.op,.slice ai li ci,.slice af lf cf] 201)).alloc (.cells #[.int .i64 r.kind,.string r.letters,.bool r.op,.slice bi mi di,.slice bf mf df] 201)).cell? ⟨w.heap.size,3,none⟩=some (.slice ai li ci)/\((w.alloc (.cells #[.int .i64 x.kind,.string x.letters,.bool x.op,.slice ai li ci,.slice af lf cf] 201)).alloc (.cells #[.int .i64 r.kind,.string r.letters,.bool r.op,.slice bi mi di,.slice bf mf df] 201)).cell? ⟨w.heap.size,4,none⟩=some (.slice af lf cf)/\((w.alloc (.cells #[.int .i64 x.kind,.string x.letters,.bool x.op,.slice ai li ci,.slice af lf cf] 201)).alloc (.cells #[.int .i64 r.kind,.string r.letters,.bool r.op,.slice bi mi di,.slice bf mf df] 201)).cell? ⟨w.heap.size+1,0,none⟩=some (.int .i64 r.kind)/\((w.alloc (.cells #[.int .i64 x.kind,.string x.letters,.bool x.op,.slice ai li ci,.slice af lf cf] 201)).alloc (.cells #[.int .i64 r.kind,.string r.letters,.bool r.op,.slice bi mi di,.slice bf mf df] 201)).cell? ⟨w.heap.size+1,1,none⟩=some (.string r.letters)/\((w.alloc (.cells #[.int .i64 x.kind,.string x.letters,.bool x.op,.slice ai li ci,.slice af lf cf] 201)).alloc (.cells #[.int .i64 r.kind,.string r.letters,.bool r.op,.slice bi mi di,.slice bf mf df] 201)).cell? ⟨w.heap.size+1,2,none⟩=some (.bool r.op)/\((w.alloc (.cells #[.int .i64 x.kind,.string x.letters,.bool x.op,.slice ai li ci,.slice af lf cf] 201)).alloc (.cells #[.int .i64 r.kind,.string r.letters,.bool r.op,.slice bi mi di,.slice bf mf df] 201)).cell? ⟨w.heap.size+1,3,none⟩=some (.slice bi mi di)/\((w.alloc (.cells #[.int .i64 x.kind,.string x.letters,.bool x.op,.slice ai li ci,.slice af lf cf] 201)).alloc (.cells #[.int .i64 r.kind,.string r.letters,.bool r.op,.slice bi mi di,.slice bf mf df] 201)).cell? ⟨w.heap.size+1,4,none⟩=some (.slice bf mf df):=by
 have h:(w.alloc (.cells #[.int .i64 x.kind,.string x.letters,.bool x.op,.slice ai li ci,.slice af lf cf] 201)).heap.size=w.heap.size+1:=by simp
 refine⟨zah _ (zam rfl rfl),zah _ (zam rfl rfl),zah _ (zam rfl rfl),zah _ (zam rfl rfl),zah _ (zam rfl rfl),?_⟩;rw[<- h];exact⟨zam rfl rfl,zam rfl rfl,zam rfl rfl,zam rfl rfl,zam rfl rfl⟩
theorem yaa3 (x r:Ty)(ai:Option Addr)(li ci:Nat)(af:Option Addr)(lf cf:Nat)(bi:Option Addr)(mi di:Nat)(bf:Option Addr)(mf df:Nat)(w:World) :
  Calls Tryz.prog 193 #[.agg #[.int .i64 x.kind,.string x.letters,.bool x.op,.slice ai li ci,.slice af lf cf],.agg #[.int .i64 r.kind,.string r.letters,.bool r.op,.slice bi mi di,.slice bf mf df],.string (oneB 0)] w fun e w'=>e=.returned (dRet (if r.kind=63 then some ⟨#[95]⟩ else none))/\Below w.heap.size w w':=by
 obtain⟨D,hD⟩:∃ D,D=oneB 0:=⟨_,rfl⟩;have hDs:D.size<=9000000:=by rw[hD,zak];omega
 have hb0:bAt D (xy 0)=(0:Nat):=by rw[hD];exact zcu 0 (by omega)
 rw[<- hD];have hna:=fun w=>zym r bi mi di bf mf df w;clear hD;by_cases hk:r.kind=63
 ·rw[if_pos hk];rw[if_pos hk]at hna;clear hk
  go_enter Tryz.func193,Tryz.ntmps193
  go_wp2_with (first|(go_at_call 245;refine(zan _ _ _ (by omega) hDs).mono ?_;rintro e _ ⟨rfl,rfl⟩;rw[hb0])|(go_at_call 246;refine(hna _).mono ?_;rintro e w1 ⟨rfl,hb1⟩))
  go_ret2
  exact⟨rfl,(BB w _ _).thn hb1⟩
 ·rw[if_neg hk];rw[if_neg hk]at hna;clear hk
  go_enter Tryz.func193,Tryz.ntmps193
  go_wp2_with (first|(go_at_call 245;refine(zan _ _ _ (by omega) hDs).mono ?_;rintro e _ ⟨rfl,rfl⟩;rw[hb0])|(go_at_call 246;refine(hna _).mono ?_;rintro e w1 ⟨rfl,hb1⟩))
  go_ret2
  exact⟨rfl,(BB w _ _).thn hb1⟩
theorem yaa4 {Tab:World->Prop}(F:zch Tab){m:Nat}(IH:zeo Tab m)(nw nr:Nat)(x r:Ty)(v:Val)(w:World)(ai af:Option Addr)(li ci lf cf:Nat)(bi bf:Option Addr)(mi di mf df:Nat)
  (hm:nw+nr<=m) (hnw:nw<=100) (hnr:nr<=100) (hT:Tab w) (hox:okT nw x) (hor:okT nr r) (hx:Rep nw w ai li ci af lf cf x) (hr:Rep nr w bi mi di bf mf df r) (hv:okV nw x v) (hsz:(datV nw v).size<=63) (hwt:wt m r<=20000) :
  Calls Tryz.prog 193 #[.agg #[.int .i64 x.kind,.string x.letters,.bool x.op,.slice ai li ci,.slice af lf cf],.agg #[.int .i64 r.kind,.string r.letters,.bool r.op,.slice bi mi di,.slice bf mf df],.string (oneB 1++datV nw v)] w fun e w'=>e=.returned (dRet (rdT m x r v))/\Below w.heap.size w w':=by
 obtain⟨h1,h2,h3⟩:=cat1 (a:=1) (datV nw v) (by omega);obtain⟨D,hD⟩:∃ D,D=oneB 1++datV nw v:=⟨_,rfl⟩;rw[<- hD]at h1 h2 h3 ⊢;have hDs:D.size<=9000000:=by omega
 have hsp:=fun w=>zcq D 1 D.size w (by omega) (xh _) hDs;rw[h3]at hsp;have hcall:=fun (W:World) (hb:Below w.heap.size w W)=>IH nw nr x r v W ai af li ci lf cf bi bf mi di mf df hm hnw hnr (F.1 _ _ hb hT) hox hor (hx.keep hb) (hr.keep hb) hv (by omega) hwt;simp only[Int.cast_ofNat_Int]at hsp;generalize datV nw v=V at hcall hsp;clear hD h3 hx hr hv IH h1;cases hy:rdT m x r v with
 |none =>
  rw[hy]at hcall;simp only[dRet]at hcall;clear hy
  go_enter Tryz.func193,Tryz.ntmps193
  go_wp2_with (first|(go_at_call 245;refine(zan _ _ _ (by omega) hDs).mono ?_;rintro e _ ⟨rfl,rfl⟩;rw[h2]))
  have e0:=zc3 w x r ai li ci af lf cf bi mi di bf mf df
  go_region_held3 (fun w'=>w'.cell? ⟨w.heap.size,0,none⟩=some (.int .i64 x.kind)/\w'.cell? ⟨w.heap.size,1,none⟩=some (.string x.letters)/\w'.cell? ⟨w.heap.size,2,none⟩=some (.bool x.op)/\w'.cell? ⟨w.heap.size,3,none⟩=some (.slice ai li ci)/\w'.cell? ⟨w.heap.size,4,none⟩=some (.slice af lf cf)/\w'.cell? ⟨w.heap.size+1,0,none⟩=some (.int .i64 r.kind)/\w'.cell? ⟨w.heap.size+1,1,none⟩=some (.string r.letters)/\w'.cell? ⟨w.heap.size+1,2,none⟩=some (.bool r.op)/\w'.cell? ⟨w.heap.size+1,3,none⟩=some (.slice bi mi di)/\w'.cell? ⟨w.heap.size+1,4,none⟩=some (.slice bf mf df)) (go_keep) (first|(go_at_call 247;refine(hsp _).mono ?_;rintro e _ ⟨rfl,rfl⟩)|(go_at_call 130;refine(hcall _ (by first|exact(BB w _ _).drew|exact BB w _ _)).mono ?_;rintro e w1 ⟨rfl,hb1⟩;have e1:=zbu hb1 e0))
  go_wp2_with fail
  go_ret2
  exact⟨rfl,(BB w _ _).drew.thn hb1⟩
 |some y =>
  rw[hy]at hcall;simp only[dRet]at hcall;clear hy
  go_enter Tryz.func193,Tryz.ntmps193
  go_wp2_with (first|(go_at_call 245;refine(zan _ _ _ (by omega) hDs).mono ?_;rintro e _ ⟨rfl,rfl⟩;rw[h2]))
  have e0:=zc3 w x r ai li ci af lf cf bi mi di bf mf df
  go_region_held3 (fun w'=>w'.cell? ⟨w.heap.size,0,none⟩=some (.int .i64 x.kind)/\w'.cell? ⟨w.heap.size,1,none⟩=some (.string x.letters)/\w'.cell? ⟨w.heap.size,2,none⟩=some (.bool x.op)/\w'.cell? ⟨w.heap.size,3,none⟩=some (.slice ai li ci)/\w'.cell? ⟨w.heap.size,4,none⟩=some (.slice af lf cf)/\w'.cell? ⟨w.heap.size+1,0,none⟩=some (.int .i64 r.kind)/\w'.cell? ⟨w.heap.size+1,1,none⟩=some (.string r.letters)/\w'.cell? ⟨w.heap.size+1,2,none⟩=some (.bool r.op)/\w'.cell? ⟨w.heap.size+1,3,none⟩=some (.slice bi mi di)/\w'.cell? ⟨w.heap.size+1,4,none⟩=some (.slice bf mf df)) (go_keep) (first|(go_at_call 247;refine(hsp _).mono ?_;rintro e _ ⟨rfl,rfl⟩)|(go_at_call 130;refine(hcall _ (by first|exact(BB w _ _).drew|exact BB w _ _)).mono ?_;rintro e w1 ⟨rfl,hb1⟩;have e1:=zbu hb1 e0))
  go_wp2_with fail
  go_ret2
  exact⟨rfl,(BB w _ _).drew.thn hb1⟩
theorem zre {C b:Nat}{t:ByteArray}(h:t.size<=C*b)(hC:C<=20001)(hb:b<=65):t.size<=1300100:=by
 have h1:=Nat.mul_le_mul hC hb;omega
theorem yaa2 {Tab:World->Prop}(F:zch Tab){m:Nat}(IH:zeo Tab m)(nw nr:Nat)(x r:Ty)(vs:List Val)(w:World)(ai af:Option Addr)(li ci lf cf:Nat)(bi bf:Option Addr)(mi di mf df:Nat)
  (hm:nw+nr<=m) (hnw:nw<=100) (hnr:nr<=100) (hT:Tab w) (hox:okT nw x) (hor:okT nr r) (hx:Rep nw w ai li ci af lf cf x) (hr:Rep nr w bi mi di bf mf df r) (hvl:vs.length<=16) (hv:∀ v∈vs,okV nw x v)
  (hsz:(oneB vs.length++catB (vs.map (datV nw))).size<=64) (hwt:wt m r<=20000) :
  Calls Tryz.prog 197 #[.agg #[.int .i64 x.kind,.string x.letters,.bool x.op,.slice ai li ci,.slice af lf cf],.agg #[.int .i64 r.kind,.string r.letters,.bool r.op,.slice bi mi di,.slice bf mf df],.string (oneB vs.length++catB (vs.map (datV nw)))] w fun e w'=>e=.returned (dRet (zbg (rdT m x r) vs 0 ⟨#[91]⟩))/\Below w.heap.size w w':=by
 obtain⟨h1,h2,_⟩:=cat1 (a:=vs.length) (catB (vs.map (datV nw))) (by omega);have hat:At (oneB vs.length++catB (vs.map (datV nw))) 1 (catB (vs.map (datV nw))):=by
  have:=At.self (oneB vs.length++catB (vs.map (datV nw)));rw[At.app,zak]at this;exact this.2
 obtain⟨D,hD⟩:∃ D,D=oneB vs.length++catB (vs.map (datV nw)):=⟨_,rfl⟩;rw[<- hD]at h1 h2 hat hsz ⊢;have hDs:D.size<=9000000:=by omega
 obtain⟨R,hR⟩:∃ R,R=zbg (rdT m x r) vs 0 ⟨#[91]⟩:=⟨_,rfl⟩;rw[<- hR];have HR:Hid (R=zbg (rdT m x r) vs 0 ⟨#[91]⟩):=hR;have HD:Hid (D.size=1+(catB (vs.map (datV nw))).size):=h1;have HV:Hid (∀ v∈vs,okV nw x v):=hv;have DA:=zhw F (s:=D) (by omega) nw (by omega);clear hD hR h1 hv
 go_enter Tryz.func197,Tryz.ntmps197
 go_wp2_with (go_at_call 245;refine(zan _ _ _ (by omega) hDs).mono ?_;rintro e _ ⟨rfl,rfl⟩;rw[h2])
 clear h2
 go_loopw [9,10,11] (fun vd vb vc wr=>∃ (c b:Nat) (us:List Val) (t:ByteArray),c+us.length=vs.length/\1<=b/\b<=D.size/\vc=.int .i64 c/\vb=.int .i64 b/\vd=.string t/\Hid (R=zbg (rdT m x r) us c t)/\Hid (At D b (catB (us.map (datV nw))))/\Hid (∀ u∈us,okV nw x u)/\Hid (t.size<=(wt m r+1)*b)/\Below (w.heap.size+2) ((w.alloc (.cells #[.int .i64 x.kind,.string x.letters,.bool x.op,.slice ai li ci,.slice af lf cf] 201)).alloc (.cells #[.int .i64 r.kind,.string r.letters,.bool r.op,.slice bi mi di,.slice bf mf df] 201)) wr) (fun _ _ c _=>17-(intOf c).toNat)
 case atStart=>exact⟨0,1,vs,⟨#[91]⟩,by omega,xh _,by have:=HD.out;omega,rfl,by go_num,rfl,HR,hat,HV,(by show (1:Nat)<=_;omega),Below.refl _ _⟩
 case round =>
  obtain⟨c,b,us,t,hcm,hb1,hbt,rfl,rfl,rfl,hR,hA,hU,ht,hb⟩:=hrel;have hbW:Below w.heap.size w wr:=(BB w _ _).trans (hb.mono (by omega));have e0:=zbu (W:=((w.alloc (.cells #[.int .i64 x.kind,.string x.letters,.bool x.op,.slice ai li ci,.slice af lf cf] 201)).alloc (.cells #[.int .i64 r.kind,.string r.letters,.bool r.op,.slice bi mi di,.slice bf mf df] 201))) (w1:=wr) (hb.mono (by simp)) (zc3 w x r ai li ci af lf cf bi mi di bf mf df);have hTw:Tab wr:=F.1 _ _ hbW hT;have hs2:=zre ht.out (by omega) (by omega);have hsw:w.heap.size+2<=wr.heap.size:=by have:=hb.size;simpa using this
  have one1:(⟨#[93]⟩:ByteArray).size=1:=rfl;have one2:(⟨#[44]⟩:ByteArray).size=1:=rfl;cases us with
  |nil =>
   have hcL:¬ (c:Int)<(vs.length:Int):=by simp at hcm;omega
   have hr':Hid (R=some (t++⟨#[93]⟩)):=hR
   go_wp2_with fail
   go_ret2
   rw[hr'.out];exact⟨rfl,hbW⟩
  |cons u us =>
   have hcL:(c:Int)<(vs.length:Int):=by simp at hcm;omega
   have hA2:At D b (datV nw u)/\At D (b+(datV nw u).size) (catB (us.map (datV nw))):=by
    have:=hA.out;simp only[xq,catB]at this;exact At.app.1 this
   have hu:=hU.out u (by simp);have hdx:=zhv nw x u b hu hA2.1;obtain⟨k,hk⟩:∃ k,k=b+(datV nw u).size:=⟨_,rfl⟩;rw[<- hk]at hdx hA2;have hk1:=hA2.1.le;have hku:=zfe _ _ _ hu;have hext:D.extract b k=datV nw u:=by rw[hk];exact hA2.1.ext
   have hcall:=DA.yes hbt hTw hox (hx.keep hbW) hdx;have hsp:=fun w=>zcq D b k w (by omega) (by omega) hDs;rw[hext]at hsp;have hrd:=fun (W:World) (hb':Below wr.heap.size wr W)=>IH nw nr x r u W ai af li ci lf cf bi bf mi di mf df hm hnw hnr (F.1 _ _ (hbW.thn hb') hT) hox hor (hx.keep (hbW.thn hb')) (hr.keep (hbW.thn hb')) hu (by omega) hwt;have HA:Hid (At D k (catB (us.map (datV nw)))):=hA2.2;have HU:Hid (∀ v∈us,okV nw x v):=fun v hv=>hU.out v (by simp[hv]);have hkD:k<=D.size:=by omega
   have hbk:b<k:=by omega
   have hxs:=fun y (hy:rdT m x r u=some y)=>zfl m nw x r u y hu hy;have hkb:(datV nw u).size=k-b:=by omega
   rw[hkb]at hxs;have hlen:c+1+us.length=vs.length:=by simp at hcm;omega
   generalize datV nw u=V at hsp hrd;clear hdx hA2 hext hk hU hA hk1 hku hkb hcm;cases hy:rdT m x r u with
   |none =>
    have hr':Hid (R=none):=by show _=_;rw[hR.out,zbg,hy]
    rw[hy]at hrd;simp only[dRet]at hrd;clear hy hxs
    go_wp2_with (first|(go_at_call 192;refine hcall.mono ?_;rintro e w1 ⟨rfl,hb1⟩;have e1:=zbu hb1 e0))
    go_region_held3 (fun w'=>w'.cell? ⟨w.heap.size,0,none⟩=some (.int .i64 x.kind)/\w'.cell? ⟨w.heap.size,1,none⟩=some (.string x.letters)/\w'.cell? ⟨w.heap.size,2,none⟩=some (.bool x.op)/\w'.cell? ⟨w.heap.size,3,none⟩=some (.slice ai li ci)/\w'.cell? ⟨w.heap.size,4,none⟩=some (.slice af lf cf)/\w'.cell? ⟨w.heap.size+1,0,none⟩=some (.int .i64 r.kind)/\w'.cell? ⟨w.heap.size+1,1,none⟩=some (.string r.letters)/\w'.cell? ⟨w.heap.size+1,2,none⟩=some (.bool r.op)/\w'.cell? ⟨w.heap.size+1,3,none⟩=some (.slice bi mi di)/\w'.cell? ⟨w.heap.size+1,4,none⟩=some (.slice bf mf df)) (go_keep) (first|(go_at_call 247;refine(hsp _).mono ?_;rintro e _ ⟨rfl,rfl⟩)|(go_at_call 130;refine(hrd _ (by first|exact hb1.drew|exact hb1)).mono ?_;rintro e w2 ⟨rfl,hb2⟩;have e2:=zbu hb2 e1))
    go_wp2_with fail
    go_ret2
    rw[hr'.out];exact⟨rfl,(hbW.thn hb1).drew.thn hb2⟩
   |some y =>
    have hys:=hxs y hy;rw[hy]at hrd;simp only[dRet]at hrd;have hsum:t.size+1+y.size<=(wt m r+1)*k:=by
     have h1:=zdo (C:=wt m r+1) (show 0<=b by omega) (show b<=k by omega);have h2:(wt m r+1)*(k-b)=wt m r*(k-b)+(k-b):=by rw[Nat.add_mul,Nat.one_mul]
     have:=ht.out;simp only[Nat.sub_zero]at h1;omega
    have hs3:y.size<=1300100:=by
     have h3:y.size<=(wt m r+1)*k:=by omega
     exact zre h3 (by omega) (by omega)
    by_cases hc0:c=0
    ·subst hc0;have hr':Hid (R=zbg (rdT m x r) us (0+1) (t++y)):=by show _=_;rw[hR.out,zbg,hy];rfl
     have HS:Hid ((t++y).size<=(wt m r+1)*k):=by show _<=_;rw[xe];omega
     clear hy hxs hsum hys
     go_wp2_with (first|(go_at_call 192;refine hcall.mono ?_;rintro e w1 ⟨rfl,hb1⟩;have e1:=zbu hb1 e0))
     go_region_held3 (fun w'=>w'.cell? ⟨w.heap.size,0,none⟩=some (.int .i64 x.kind)/\w'.cell? ⟨w.heap.size,1,none⟩=some (.string x.letters)/\w'.cell? ⟨w.heap.size,2,none⟩=some (.bool x.op)/\w'.cell? ⟨w.heap.size,3,none⟩=some (.slice ai li ci)/\w'.cell? ⟨w.heap.size,4,none⟩=some (.slice af lf cf)/\w'.cell? ⟨w.heap.size+1,0,none⟩=some (.int .i64 r.kind)/\w'.cell? ⟨w.heap.size+1,1,none⟩=some (.string r.letters)/\w'.cell? ⟨w.heap.size+1,2,none⟩=some (.bool r.op)/\w'.cell? ⟨w.heap.size+1,3,none⟩=some (.slice bi mi di)/\w'.cell? ⟨w.heap.size+1,4,none⟩=some (.slice bf mf df)) (go_keep) (first|(go_at_call 247;refine(hsp _).mono ?_;rintro e _ ⟨rfl,rfl⟩)|(go_at_call 130;refine(hrd _ (by first|exact hb1.drew|exact hb1)).mono ?_;rintro e w2 ⟨rfl,hb2⟩;have e2:=zbu hb2 e1))
     go_wp2_with fail
     go_roundw
     case rel=>exact⟨0+1,k,us,t++y,hlen,by omega,hkD,by go_num,rfl,rfl,hr',HA,HU,HS,hb.trans ((hb1.drew.thn hb2).mono hsw)⟩
     case measure=>simp[intOf]
    ·have hc0':(0:Int)<(c:Int):=by omega
     have hr':Hid (R=zbg (rdT m x r) us (c+1) (t++⟨#[44]⟩++y)):=by show _=_;rw[hR.out,zbg,hy];simp only[if_pos (show 0<c by omega)]
     have hsz1:(t++⟨#[44]⟩).size=t.size+1:=by rw[xe,one2]
     have HS:Hid ((t++⟨#[44]⟩++y).size<=(wt m r+1)*k):=by show _<=_;rw[xe,hsz1];omega
     clear hy hxs hsum hys
     go_wp2_with (first|(go_at_call 192;refine hcall.mono ?_;rintro e w1 ⟨rfl,hb1⟩;have e1:=zbu hb1 e0))
     go_region_held3 (fun w'=>w'.cell? ⟨w.heap.size,0,none⟩=some (.int .i64 x.kind)/\w'.cell? ⟨w.heap.size,1,none⟩=some (.string x.letters)/\w'.cell? ⟨w.heap.size,2,none⟩=some (.bool x.op)/\w'.cell? ⟨w.heap.size,3,none⟩=some (.slice ai li ci)/\w'.cell? ⟨w.heap.size,4,none⟩=some (.slice af lf cf)/\w'.cell? ⟨w.heap.size+1,0,none⟩=some (.int .i64 r.kind)/\w'.cell? ⟨w.heap.size+1,1,none⟩=some (.string r.letters)/\w'.cell? ⟨w.heap.size+1,2,none⟩=some (.bool r.op)/\w'.cell? ⟨w.heap.size+1,3,none⟩=some (.slice bi mi di)/\w'.cell? ⟨w.heap.size+1,4,none⟩=some (.slice bf mf df)) (go_keep) (first|(go_at_call 247;refine(hsp _).mono ?_;rintro e _ ⟨rfl,rfl⟩)|(go_at_call 130;refine(hrd _ (by first|exact hb1.drew|exact hb1)).mono ?_;rintro e w2 ⟨rfl,hb2⟩;have e2:=zbu hb2 e1))
     go_wp2_with fail
     go_roundw
     case rel=>exact⟨c+1,k,us,t++⟨#[44]⟩++y,hlen,by omega,hkD,by go_num,rfl,rfl,hr',HA,HU,HS,hb.trans ((hb1.drew.thn hb2).mono hsw)⟩
     case measure=>simp[intOf];omega
theorem Tryz.infoStr:(Tryz.prog.info? 9).map (fun i=>(i.zero,i.size,i.bytes))=some (some (.string ⟨#[]⟩),1,16):=by kernel_rfl
theorem zs4 {α β:Type}{fs:List α}{vs:List β}{i:Nat}{f:α}{v:β}(hf:fs[i]?=some f)(hv:vs[i]?=some v):(f,v)∈fs.zip vs:=by
 refine xf (i:=i) ?_;rw[List.getElem?_zip_eq_some];exact⟨hf,hv⟩
theorem zw4 {Tab:World->Prop}(F:zch Tab){nw:Nat}(hnw:nw<=100)(fs:List (Nat×Ty×ByteArray))(vs:List Val)(D:ByteArray)(w:World)(af:Option Addr)(lf cf:Nat)(hlf:lf=fs.length)(hfl:fs.length<=9000000)(hT:Tab w)(hoT:∀ f∈fs,f.1<256/\okT nw f.2.1)(hr:RepF nw w af fs)
  (hlen:vs.length=fs.length) (hok:∀ p∈fs.zip vs,okV nw p.1.2.1 p.2) (hD:D=catB (vs.map (datV nw))) (hDs:D.size<=64) :
  Calls Tryz.prog 252 #[.slice af lf cf,.string D] w fun e w'=>∃ g cap,e=.returned (.tuple #[.slice (some ⟨g,0,none⟩) fs.length cap,.bool true])/\(∀ i v,vs[i]?=some v->w'.cell? ⟨g,i,none⟩=some (.string (datV nw v)))/\Below w.heap.size w w':=by
 subst hlf;have _hs:D.size<=9000000:=by omega
 have HA:Hid (At D 0 (catB (vs.map (datV nw)))):=by rw[<- hD];exact At.self D
 have DA:=zhw F (s:=D) (by omega) nw (by omega);clear hD
 go_enter Tryz.func252,Tryz.ntmps252
 go_wp2_with fail
 go_loopw [6,7,16] (fun vp vb vi wr=>∃ (i b g cap:Nat) (xs:List Value),i<=fs.length/\b<=D.size/\i<=b/\vi=.int .i64 i/\vb=.int .i64 b/\vp=.slice (some ⟨g,0,none⟩) i cap /\
   wr.ownsRow w.heap.size 9 1 (.slice (some ⟨g,0,none⟩) i cap) i xs/\Hid (xs=(vs.take i).map fun v=>.string (datV nw v))/\Hid (At D b (catB ((vs.drop i).map (datV nw))))/\Below w.heap.size w wr) (fun _ _ i _=>fs.length-(intOf i).toNat)
 case atStart =>
  refine⟨0,0,w.heap.size,0,[],xu _,xu _,xh _,rfl,rfl,rfl,?_,by show _=_;simp,HA,(Below.refl _ _).alloc (xh _) _⟩;exact World.ownsRow_made (base:=w.heap.size) (e:=9) (size:=1) w #[] 0 (xh _) (by unfold maxLen;omega) rfl
 case round =>
  obtain⟨i,b,g,cap,xs,hi,hbD,hib,rfl,rfl,rfl,hown,hxs,hA,hb⟩:=hrel;have hTw:Tab wr:=F.1 _ _ hb hT;by_cases hlt:i<fs.length
  ·obtain⟨f,hf⟩:∃ f,fs[i]?=some f:=⟨fs[i],xg hlt⟩;obtain⟨v,hv⟩:∃ v,vs[i]?=some v:=⟨vs[i],xg (by omega)⟩;obtain⟨hf256,hokf⟩:=hoT f (xf hf);have hvk:okV nw f.2.1 v:=hok (f,v) (zs4 hf hv);have hdrop:vs.drop i=v::vs.drop (i+1):=by
    rw[List.drop_eq_getElem_cons (by omega)];rw[xg (by omega)]at hv;simp at hv;rw[hv]
   have htake:vs.take (i+1)=vs.take i++[v]:=by rw[List.take_add_one,hv];rfl
   have hA2:At D b (datV nw v)/\At D (b+(datV nw v).size) (catB ((vs.drop (i+1)).map (datV nw))):=by
    have:=hA.out;rw[hdrop]at this;simp only[xq,catB]at this;exact At.app.1 this
   have hdx:=zhv nw f.2.1 v b hvk hA2.1;obtain⟨k,hk⟩:∃ k,k=b+(datV nw v).size:=⟨_,rfl⟩;rw[<- hk]at hdx hA2;have hk1:=hA2.1.le;have hku:=zfe _ _ _ hvk;have hext:D.extract b k=datV nw v:=by rw[hk];exact hA2.1.ext
   have hsp:∀ w,Calls Tryz.prog 247 #[.string D,.int .i64 b,.int .i64 k] w fun e w'=>e=.returned (.string (datV nw v))/\w=w':=fun w=>by
    have:=zcq D b k w (by omega) (by omega) _hs;rw[hext]at this;exact this.mono (fun _ _ ⟨h1,h2⟩=>⟨h1,h2.symm⟩)
   rcases hr with⟨hr,_⟩|⟨h,rfl,hcells⟩
   ·rw[hr]at hf;simp at hf
   ·obtain⟨p1,p2,p3,q1,q2,q3,hrep,k0,k1,k2,k3,k4,k5,k6⟩:=hcells i f hf;have k0:=zab hb k0;have k1:=zab hb k1;have k2:=zab hb k2;have k3:=zab hb k3;have k4:=zab hb k4;have k5:=zab hb k5;have k6:=zab hb k6;have hg':h<wr.heap.size:=zag k0;have hrepw:=hrep.keep hb;have hBa:∀ o,Below wr.heap.size wr (wr.alloc o):=fun o=>(Below.refl _ _).alloc (xh _) _;have hTa:∀ o,Tab (wr.alloc o):=fun o=>F.1 _ _ (hBa o) hTw;have hcall:=fun o=>DA.yes hbD (hTa o) hokf (hrepw.keep (hBa o)) hdx;have HA2:Hid (At D k (catB ((vs.drop (i+1)).map (datV nw)))):=hA2.2;obtain⟨V,hV⟩:∃ V,V=datV nw v:=⟨_,rfl⟩;rw[<- hV]at hsp;have HX:Hid (xs++[.string V]=(vs.take (i+1)).map fun v=>.string (datV nw v)):=by show _=_;rw[htake,List.map_append,<- hxs.out,hV];rfl
    have hbk:b<k:=by omega
    have hkD:k<=D.size:=by omega
    obtain⟨i0,hi0,hz0,hzz1,hzz2⟩:=info_parts Tryz.infoStr;have hgl:=hown.lt g rfl;have hzr:w.heap.size<=wr.heap.size:=hb.size;have hown3:∀ (w1:World) (o:Obj) (o2:Obj),Below (wr.alloc o).heap.size (wr.alloc o) w1->(w1.alloc o2).ownsRow w.heap.size 9 1 (.slice (some ⟨g,0,none⟩) i cap) i xs:=fun w1 o o2 hb1=>(zas (hown.alloc o) hb1).alloc o2;have hbig:∀ (w1 w3:World) (o o2:Obj),Below (wr.alloc o).heap.size (wr.alloc o) w1->(w1.alloc o2).grownBy w3 (some g)->Below w.heap.size w w3:=fun w1 w3 o o2 hb1 hgrow=>by
     have z1:=hb1.size;simp at z1;have c1:=(hb.alloc hzr o).thn hb1;exact Below.grown (c1.alloc (by omega) o2) hgrow (by simp;omega) (fun k hk=>by cases hk;omega)
    clear hcells hA hdrop hk hA2 hext hku hk1 hdx htake hV hvk hrep hrepw hxs
    go_wp2_with (first|(go_at_call 192;refine(hcall _).mono ?_;rintro e w1 ⟨rfl,hb1⟩;obtain⟨hc1,hf1⟩:=zap hb1;have hz1:wr.heap.size<=w1.heap.size:=(by have:=hb1.size;simp at this;omega))|(go_at_call 247;refine(hsp _).mono ?_;rintro e _ ⟨rfl,rfl⟩)|(at_builtin;refine wpList_append_lies _ rfl _ _ _ rfl w.heap.size 9 i0 _ 1 16 Tryz.underlying22 hi0 hz0 hzz1 hzz2 rfl (by omega) _ i xs rfl (hown3 _ _ _ hb1) ⟨w1.heap.size,0,none⟩ 1 1 [.string V] rfl rfl (World.news_of_block (heap_alloc_new w1 _)) (by simp[Value.oneCell']) (by omega) (by unfold maxLen;omega) (by omega) (by simp;omega) (w1.heap.size+1) (by simp) ?_;intro g' cap' w3 hown' hgrow hat hlt3;have hb3:=hbig _ _ _ _ hb1 hgrow))
    go_roundw
    case rel=>exact⟨i+1,k,g',cap',xs++[.string V],by omega,hkD,by omega,by go_num,rfl,rfl,hown',HX,HA2,hb3⟩
    case measure=>simp[intOf];omega
  ·obtain rfl:i=fs.length:=by omega
   go_wp2_with fail
   go_ret2
   refine⟨g,cap,rfl,fun j u hu=>zbm hown ?_,hb⟩;rw[hxs.out,List.getElem?_map,List.getElem?_take,if_pos (by rcases Nat.lt_or_ge j vs.length with h|h;omega;rw[List.getElem?_eq_none h]at hu;cases hu),hu];rfl
theorem zqq (c:Nat):∀ (fs:List (Nat×Ty×ByteArray)) (vs:List Val),vs.length=fs.length ->
  (plF fs c=-1/\(fs.zip vs).find? (fun p=>p.1.1 == c)=none) \/
  ∃ i f v,plF fs c=(i:Nat)/\i<fs.length/\fs[i]?=some f/\vs[i]?=some v/\(fs.zip vs).find? (fun p=>p.1.1 == c)=some (f,v)
 |[],vs,h=>.inl ⟨rfl,rfl⟩
 |f::fs,[],h=>by simp at h
 |f::fs,v::vs,h=>by
  by_cases hc:(f.1 == c)=true
  ·right;refine⟨0,f,v,?_,by simp,rfl,rfl,?_⟩
   ·unfold plF;rw[xm,if_pos hc]
   ·rw[xj,List.find?_cons_of_pos (by exact hc)]
  ·have hc'':((f,v).1.1 == c)=false:=by simpa using hc
   rcases zqq c fs vs (by simpa using h) with⟨h1,h2⟩|⟨i,f',v',h1,h2,h3,h4,h5⟩
   ·left;constructor
    ·unfold plF at h1 ⊢;rw[xm,if_neg hc];cases hx:List.findIdx? (fun g=>g.1 == c) fs with
     |none=>rfl
     |some k=>rw[hx]at h1;simp only at h1;omega
    ·rw[xj,xp,hc''];exact h2
   ·right;refine⟨i+1,f',v',?_,by simp;omega,by simpa using h3,by simpa using h4,?_⟩
    ·unfold plF at h1 ⊢;rw[xm,if_neg hc];cases hx:List.findIdx? (fun g=>g.1 == c) fs with
     |none=>rw[hx]at h1;simp only at h1;omega
     |some k=>rw[hx]at h1;simp only at h1;simp only[Option.map_some];omega
    ·rw[xj,xp,hc''];exact h5
theorem zxz {d:ByteArray}(h:1<=d.size):d.toList.isEmpty=false:=by
 rw[xv];cases hl:d.data.toList with
 |nil =>
  have h2:d.data.size=0:=by rw[<- Array.length_toList,hl];rfl
  have h3:d.size=d.data.size:=rfl;omega
 |cons _ _=>rfl
theorem zor (w:World)(gf:Nat×Ty×ByteArray)(bi:Option Addr)(mi di:Nat)(bf:Option Addr)(mf df:Nat) :
  (w.alloc (.cells #[.int .i64 gf.1,.int .i64 gf.2.1.kind,.string gf.2.1.letters,.bool gf.2.1.op,.slice bi mi di,.slice bf mf df,.string gf.2.2] 315)).cell? ⟨w.heap.size,1,none⟩=some (.int .i64 gf.2.1.kind)/\(w.alloc (.cells #[.int .i64 gf.1,.int .i64 gf.2.1.kind,.string gf.2.1.letters,.bool gf.2.1.op,.slice bi mi di,.slice bf mf df,.string gf.2.2] 315)).cell? ⟨w.heap.size,2,none⟩=some (.string gf.2.1.letters)/\(w.alloc (.cells #[.int .i64 gf.1,.int .i64 gf.2.1.kind,.string gf.2.1.letters,.bool gf.2.1.op,.slice bi mi di,.slice bf mf df,.string gf.2.2] 315)).cell? ⟨w.heap.size,3,none⟩=some (.bool gf.2.1.op)/\(w.alloc (.cells #[.int .i64 gf.1,.int .i64 gf.2.1.kind,.string gf.2.1.letters,.bool gf.2.1.op,.slice bi mi di,.slice bf mf df,.string gf.2.2] 315)).cell? ⟨w.heap.size,4,none⟩=some (.slice bi mi di)/\(w.alloc (.cells #[.int .i64 gf.1,.int .i64 gf.2.1.kind,.string gf.2.1.letters,.bool gf.2.1.op,.slice bi mi di,.slice bf mf df,.string gf.2.2] 315)).cell? ⟨w.heap.size,5,none⟩=some (.slice bf mf df) :=
 ⟨zam rfl rfl,zam rfl rfl,zam rfl rfl,zam rfl rfl,zam rfl rfl⟩
theorem zej {W w1:World}(hb:Below W.heap.size W w1){b o0 o1 o2 o3 o4:Nat}{v0 v1 v2 v3 v4:Value}(h:W.cell? ⟨b,o0,none⟩=some v0/\W.cell? ⟨b,o1,none⟩=some v1/\W.cell? ⟨b,o2,none⟩=some v2/\W.cell? ⟨b,o3,none⟩=some v3/\W.cell? ⟨b,o4,none⟩=some v4) :
  w1.cell? ⟨b,o0,none⟩=some v0/\w1.cell? ⟨b,o1,none⟩=some v1/\w1.cell? ⟨b,o2,none⟩=some v2/\w1.cell? ⟨b,o3,none⟩=some v3/\w1.cell? ⟨b,o4,none⟩=some v4:=by
 obtain⟨h0,h1,h2,h3,h4⟩:=h;exact⟨zab hb h0,zab hb h1,zab hb h2,zab hb h3,zab hb h4⟩
theorem yaa1 {Tab:World->Prop}(F:zch Tab){m:Nat}(IH:zeo Tab m)(nw nr:Nat)(hm:nw+nr<=m)(hnw:nw<=100)(hnr:nr<=100)(fs:List (Nat×Ty×ByteArray))(vs:List Val)(gf:Nat×Ty×ByteArray)(w:World)(g cf pb pc:Nat)(bi bf:Option Addr)(mi di mf df:Nat)
  (hfl:fs.length<=9000000) (hT:Tab w) (hoT:∀ f∈fs,f.1<256/\okT nw f.2.1) (hlen:vs.length=fs.length) (hok:∀ p∈fs.zip vs,okV nw p.1.2.1 p.2) (hDs:(catB (vs.map (datV nw))).size<=64)
  (hcells:∀ i f,fs[i]?=some f->∃ p1 p2 p3 q1 q2 q3,Rep nw w p1 p2 p3 q1 q2 q3 f.2.1/\w.cell? ⟨g,i*7,none⟩=some (.int .i64 f.1)/\w.cell? ⟨g,i*7+1,none⟩=some (.int .i64 f.2.1.kind)/\w.cell? ⟨g,i*7+2,none⟩=some (.string f.2.1.letters)/\w.cell? ⟨g,i*7+3,none⟩=some (.bool f.2.1.op)/\w.cell? ⟨g,i*7+4,none⟩=some (.slice p1 p2 p3)/\w.cell? ⟨g,i*7+5,none⟩=some (.slice q1 q2 q3)/\w.cell? ⟨g,i*7+6,none⟩=some (.string f.2.2))
  (hparts:∀ i v,vs[i]?=some v->w.cell? ⟨pb,i,none⟩=some (.string (datV nw v)))
  (hog:okT nr gf.2.1) (hrg:Rep nr w bi mi di bf mf df gf.2.1) (hwt:wt m gf.2.1<=20000) :
  Calls Tryz.prog 253 #[.slice (some ⟨g,0,none⟩) fs.length cf,.slice (some ⟨pb,0,none⟩) fs.length pc,.agg #[.int .i64 gf.1,.int .i64 gf.2.1.kind,.string gf.2.1.letters,.bool gf.2.1.op,.slice bi mi di,.slice bf mf df,.string gf.2.2]] w fun e w'=>e=.returned (dRet (zbi (rdT m) (fs.zip vs) gf))/\Below w.heap.size w w':=by
 have hB:∀ o,Below w.heap.size w (w.alloc o):=fun o=>(Below.refl _ _).alloc (xh _) _;have hpl:∀ o,Calls Tryz.prog 284 #[.slice (some ⟨g,0,none⟩) fs.length cf,.int .i64 gf.1] (w.alloc o) fun e w'=>e=.returned (.int .i64 (plF fs gf.1))/\Below (w.alloc o).heap.size (w.alloc o) w':=fun o =>
  zk6 fs gf.1 (w.alloc o) g cf hfl (fun i f hi=>by
   obtain⟨p1,p2,p3,q1,q2,q3,_,k0,k1,k2,k3,k4,k5,k6⟩:=hcells i f hi;exact⟨p1,p2,p3,q1,q2,q3,zah _ k0,zah _ k1,zah _ k2,zah _ k3,zah _ k4,zah _ k5,zah _ k6⟩)
 rcases zqq gf.1 fs vs hlen with⟨h1,h2⟩|⟨i,f,v,h1,hi,hf,hv,h2⟩
 ·rw[h1]at hpl;have hP:zbi (rdT m) (fs.zip vs) gf=if gf.2.2.size=0 then none else some gf.2.2:=by unfold zbi;rw[h2]
  clear hcells hparts hok hoT h1 h2;by_cases hz:gf.2.2.size=0
  ·have hr':Hid (zbi (rdT m) (fs.zip vs) gf=none):=by show _=_;rw[hP,if_pos hz]
   have hze:gf.2.2=xo:=zfa hz (fun i hi=>by omega);clear hP hz;rw[hze]
   go_enter Tryz.func253,Tryz.ntmps253
   go_wp2_with (first|(go_at_call 284;refine(hpl _).mono ?_;rintro e w1 ⟨rfl,hb1⟩;obtain⟨hc1,hf1⟩:=zap hb1))
   have e6:w1.cell? ⟨w.heap.size,6,none⟩=some (.string xo):=zab hb1 (zam rfl rfl)
   go_region_held3 (fun w'=>w'.cell? ⟨w.heap.size,6,none⟩=some (.string xo)) (go_keep) (fail)
   go_wp2_with fail
   go_ret2
   rw[hr'.out];exact⟨rfl,((hB _).thn hb1).drew⟩
  ·have hr':Hid (zbi (rdT m) (fs.zip vs) gf=some gf.2.2):=by show _=_;rw[hP,if_neg hz]
   clear hP;generalize gf.2.2=E at hr' hz
   go_enter Tryz.func253,Tryz.ntmps253
   go_wp2_with (first|(go_at_call 284;refine(hpl _).mono ?_;rintro e w1 ⟨rfl,hb1⟩;obtain⟨hc1,hf1⟩:=zap hb1))
   have e6:w1.cell? ⟨w.heap.size,6,none⟩=some (.string E):=zab hb1 (zam rfl rfl)
   go_region_held3 (fun w'=>w'.cell? ⟨w.heap.size,6,none⟩=some (.string E)) (go_keep) (fail)
   have hE:E.toList.isEmpty=false:=zxz (by omega)
   go_wp2_with fail
   go_ret2
   rw[hr'.out];refine⟨?_,((hB _).thn hb1).drew⟩;show Ending.returned (.tuple #[.string E,.bool (!E.toList.isEmpty)])=_;rw[hE];rfl
 ·rw[h1]at hpl;obtain⟨p1,p2,p3,q1,q2,q3,hrep,k0,k1,k2,k3,k4,k5,k6⟩:=hcells i f hf;have hpv:=hparts i v hv;have hvk:okV nw f.2.1 v:=hok (f,v) (zs4 hf hv);have hokf:=(hoT f (xf hf)).2;have hvs:(datV nw v).size<=64:=by
   have:=zho (l:=vs.map (datV nw)) (x:=datV nw v) (List.mem_map.2 ⟨v,xf hv,rfl⟩);omega
  have hr':Hid (zbi (rdT m) (fs.zip vs) gf=rdT m f.2.1 gf.2.1 v):=by show _=_;unfold zbi;rw[h2]
  have hrd:=fun (W:World) (hb:Below w.heap.size w W)=>IH nw nr f.2.1 gf.2.1 v W p1 q1 p2 p3 q2 q3 bi bf mi di mf df hm hnw hnr (F.1 _ _ hb hT) hokf hog (hrep.keep hb) (hrg.keep hb) hvk hvs hwt;obtain⟨V,hV⟩:∃ V,V=datV nw v:=⟨_,rfl⟩;rw[<- hV]at hpv hrd;have hgl:g<w.heap.size:=zag k0;have hpl2:pb<w.heap.size:=zag hpv;clear hcells hparts hok hoT h1 h2 hV hvs hvk hf hv;cases hy:rdT m f.2.1 gf.2.1 v with
  |none =>
   rw[hy]at hr';rw[hy]at hrd;simp only[dRet]at hrd;clear hy
   go_enter Tryz.func253,Tryz.ntmps253
   go_wp2_with (first|(go_at_call 284;refine(hpl _).mono ?_;rintro e w1 ⟨rfl,hb1⟩;obtain⟨hc1,hf1⟩:=zap hb1))
   have e5:=zej hb1 (zor w gf bi mi di bf mf df);have e7:=zej hb1 ⟨zah _ k1,zah _ k2,zah _ k3,zah _ k4,zah _ k5⟩;have e8:=zab hb1 (zah _ hpv)
   go_region_held3 (fun w'=>(w'.cell? ⟨w.heap.size,1,none⟩=some (.int .i64 gf.2.1.kind)/\w'.cell? ⟨w.heap.size,2,none⟩=some (.string gf.2.1.letters)/\w'.cell? ⟨w.heap.size,3,none⟩=some (.bool gf.2.1.op)/\w'.cell? ⟨w.heap.size,4,none⟩=some (.slice bi mi di)/\w'.cell? ⟨w.heap.size,5,none⟩=some (.slice bf mf df))/\(w'.cell? ⟨g,i*7+1,none⟩=some (.int .i64 f.2.1.kind)/\w'.cell? ⟨g,i*7+2,none⟩=some (.string f.2.1.letters)/\w'.cell? ⟨g,i*7+3,none⟩=some (.bool f.2.1.op)/\w'.cell? ⟨g,i*7+4,none⟩=some (.slice p1 p2 p3)/\w'.cell? ⟨g,i*7+5,none⟩=some (.slice q1 q2 q3))/\w'.cell? ⟨pb,i,none⟩=some (.string V)) (go_keep) (first|(go_at_call 130;refine(hrd _ (by first|exact((hB _).thn hb1).drew|exact(hB _).thn hb1)).mono ?_;rintro e w2 ⟨rfl,hb2⟩;have e5':=zej hb2 e5;have e7':=zej hb2 e7;have e8':=zab hb2 e8))
   go_wp2_with fail
   go_ret2
   rw[hr'.out];exact⟨rfl,((hB _).thn hb1).drew.thn hb2⟩
  |some y =>
   rw[hy]at hr';rw[hy]at hrd;simp only[dRet]at hrd;clear hy
   go_enter Tryz.func253,Tryz.ntmps253
   go_wp2_with (first|(go_at_call 284;refine(hpl _).mono ?_;rintro e w1 ⟨rfl,hb1⟩;obtain⟨hc1,hf1⟩:=zap hb1))
   have e5:=zej hb1 (zor w gf bi mi di bf mf df);have e7:=zej hb1 ⟨zah _ k1,zah _ k2,zah _ k3,zah _ k4,zah _ k5⟩;have e8:=zab hb1 (zah _ hpv)
   go_region_held3 (fun w'=>(w'.cell? ⟨w.heap.size,1,none⟩=some (.int .i64 gf.2.1.kind)/\w'.cell? ⟨w.heap.size,2,none⟩=some (.string gf.2.1.letters)/\w'.cell? ⟨w.heap.size,3,none⟩=some (.bool gf.2.1.op)/\w'.cell? ⟨w.heap.size,4,none⟩=some (.slice bi mi di)/\w'.cell? ⟨w.heap.size,5,none⟩=some (.slice bf mf df))/\(w'.cell? ⟨g,i*7+1,none⟩=some (.int .i64 f.2.1.kind)/\w'.cell? ⟨g,i*7+2,none⟩=some (.string f.2.1.letters)/\w'.cell? ⟨g,i*7+3,none⟩=some (.bool f.2.1.op)/\w'.cell? ⟨g,i*7+4,none⟩=some (.slice p1 p2 p3)/\w'.cell? ⟨g,i*7+5,none⟩=some (.slice q1 q2 q3))/\w'.cell? ⟨pb,i,none⟩=some (.string V)) (go_keep) (first|(go_at_call 130;refine(hrd _ (by first|exact((hB _).thn hb1).drew|exact(hB _).thn hb1)).mono ?_;rintro e w2 ⟨rfl,hb2⟩;have e5':=zej hb2 e5;have e7':=zej hb2 e7;have e8':=zab hb2 e8))
   go_wp2_with fail
   go_ret2
   rw[hr'.out];exact⟨rfl,((hB _).thn hb1).drew.thn hb2⟩
end Go.Proofs.YtkkekopomiehlabGreatDoor
