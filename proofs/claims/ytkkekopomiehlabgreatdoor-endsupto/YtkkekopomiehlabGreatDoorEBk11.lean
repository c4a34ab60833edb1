import Derived.Test.YtkkekopomiehlabGreatDoorERd7
import Derived.ChangeKeysEq
set_option linter.unusedVariables false
set_option linter.unusedSimpArgs false
set_option maxHeartbeats 40000000
set_option maxRecDepth 4000
open List renaming getElem?_eq_some_iff->xe,getElem?_eq_getElem->xf,replicate->xh,mem_of_getElem?->xj,getElem?_map->xm,length_map->xp,getElem?_append_left->xy,getElem?_of_mem->qf,flatMap_append->qg,mem_range->qh,getElem?_append_right->qi,getD_eq_getElem?_getD->qj,take_of_length_le->qk,range->qm,getElem?_eq_none->qn,length_append->qu,map_map->qx,any_eq_true->qy,getD->ue
open Go.World.ownsRow renaming lt->xg,alloc->qq
open Go.World renaming news_of_block->xo,ownsRow_nil->xq,drewN->qo
open Go.Value renaming ownBlock->xu,oneCell'->xz
open Nat renaming zero_le->xv,zero_add->qd,le_refl->qe,lt_trichotomy->qv,add_zero->uf
open Array renaming toList_extract->qp,toList_inj->ua
open Bool renaming and_eq_true->q9
open Go.Op renaming equalIn->uc,eqItems->ud
open Option.some renaming injEq->ug
namespace Go.Proofs.YtkkekopomiehlabGreatDoor
section
open Go.RowKit
variable {w0 w W:World}{L:Nat->Nat}{gb r:Nat}{b:zav}
theorem yacy {x:StD}(hx:x.k=1)(hok:zhh b.P)(hbt:0<=b.ti/\b.ti<=3000000000)(hz:w0.heap.size<=gb)(h:BookE w0 w L gb r b):Calls Tryz.prog 23 #[.pointer (some ⟨gb,0,none⟩),stV x] w fun e W=>e=.returned (.bool true)/\∃ L',BookE w0 W L' gb r { b with P:=tckP b.P,ti:=b.ti+1 }:=by
 have c1:=fun (W:World) (hb:Below w.heap.size w W)=>(zk9 hok (h.keep hb).x.2.2.2).mono fun e W' q=>(⟨q.1,(h.keep hb).turn q.2⟩:e=Ending.returned (.tuple #[])/\∃ L2,BookE w0 W' L2 gb r { b with P:=tckP b.P });have k5:=h.y.1;have hlt:=h.y.2.2.2;obtain⟨Q,hQ⟩:∃ Q:World->Prop,Q=fun W=>∃ L',BookE w0 W L' gb r { b with P:=tckP b.P,ti:=b.ti+1 }:=⟨_,rfl⟩;show Calls _ _ _ _ fun e W=>e=.returned (.bool true)/\(fun W=>∃ L',BookE w0 W L' gb r { b with P:=tckP b.P,ti:=b.ti+1 }) W;rw[<- hQ];have HQ:Hid (∀ W L',BookE w0 W L' gb r { b with P:=tckP b.P,ti:=b.ti+1 }->Q W):=by
  show ∀ _,_;rw[hQ];exact fun W L' h=>⟨L',h⟩
 clear hQ h hok;unfold stV;rw[hx];clear hx
 go_enter Tryz.func23,Tryz.ntmps23
 go_wp2_with (first
  |(go_at_call 55;refine(c1 _ (bel1 _ _)).mono ?_;rintro e w2 ⟨rfl,L2,hB⟩;have HB:=zaa hB;obtain⟨x5,x6,y6,_⟩:=hB.x;clear hB))
 go_ret;exact⟨rfl,HQ.out _ L2 (HB.out.tick hz (b.ti+1))⟩
theorem yacp {x:StD}{Q:World->Prop}(hx:x.k=6)(h:BookE w0 w L gb r b)
  (c1:∀ W,Below w.heap.size w W->Calls Tryz.prog 61 #[.pointer (some ⟨gb,0,none⟩)] W fun e W=>e=.returned (.bool true)/\Q W) :
  Calls Tryz.prog 23 #[.pointer (some ⟨gb,0,none⟩),stV x] w fun e W=>e=.returned (.bool true)/\Q W:=by
 have hlt:=h.y.2.2.2;have k5:=h.y.1;clear h;unfold stV;rw[hx];clear hx
 go_enter Tryz.func23,Tryz.ntmps23
 go_wp2_with (first|(go_at_call 61;refine(c1 _ (bel1 _ _)).mono ?_;rintro e w2 ⟨rfl,hq⟩))
 go_ret;exact⟨rfl,hq⟩
theorem yacx {x:StD}{Q:World->Prop}(hx:x.k=9)(h:BookE w0 w L gb r b)
  (c1:∀ W,Below w.heap.size w W->Calls Tryz.prog 29 #[.pointer (some ⟨gb,0,none⟩)] W fun e W=>e=.returned (.bool true)/\Q W) :
  Calls Tryz.prog 23 #[.pointer (some ⟨gb,0,none⟩),stV x] w fun e W=>e=.returned (.bool true)/\Q W:=by
 have hlt:=h.y.2.2.2;have k5:=h.y.1;clear h;unfold stV;rw[hx];clear hx
 go_enter Tryz.func23,Tryz.ntmps23
 go_wp2_with (first|(go_at_call 29;refine(c1 _ (bel1 _ _)).mono ?_;rintro e w2 ⟨rfl,hq⟩))
 go_ret;exact⟨rfl,hq⟩
theorem yacq {x:StD}{Q:World->Prop}(hx:x.k=11)(h:BookE w0 w L gb r b)
  (c1:∀ W,Below w.heap.size w W->Calls Tryz.prog 12 #[.pointer (some ⟨gb,0,none⟩)] W fun e W=>e=.returned (.bool true)/\Q W) :
  Calls Tryz.prog 23 #[.pointer (some ⟨gb,0,none⟩),stV x] w fun e W=>e=.returned (.bool true)/\Q W:=by
 have hlt:=h.y.2.2.2;have k5:=h.y.1;clear h;unfold stV;rw[hx];clear hx
 go_enter Tryz.func23,Tryz.ntmps23
 go_wp2_with (first|(go_at_call 12;refine(c1 _ (bel1 _ _)).mono ?_;rintro e w2 ⟨rfl,hq⟩))
 go_ret;exact⟨rfl,hq⟩
theorem yacs {x:StD}{Q:World->Prop}(hx:x.k=8)(h:BookE w0 w L gb r b)
  (c1:∀ W,Below w.heap.size w W->Calls Tryz.prog 32 #[.pointer (some ⟨r,0,none⟩)] W fun e W=>e=.returned (.tuple #[])/\Q W) :
  Calls Tryz.prog 23 #[.pointer (some ⟨gb,0,none⟩),stV x] w fun e W=>e=.returned (.bool true)/\Q W:=by
 have hlt:=h.y.2.2.2;have k5:=h.y.1;clear h;unfold stV;rw[hx];clear hx
 go_enter Tryz.func23,Tryz.ntmps23
 go_wp2_with (first|(go_at_call 32;refine(c1 _ (bel1 _ _)).mono ?_;rintro e w2 ⟨rfl,hq⟩))
 go_ret;exact⟨rfl,hq⟩
theorem yacw {x:StD}{Q:World->Prop}(hx:x.k=7)(h:BookE w0 w L gb r b)
  (c1:∀ W,Below w.heap.size w W->Calls Tryz.prog 28 #[.pointer (some ⟨r,0,none⟩),.bool (decide (x.a=1))] W fun e W=>(∃ n,e=.returned (.int .i64 n))/\Q W) :
  Calls Tryz.prog 23 #[.pointer (some ⟨gb,0,none⟩),stV x] w fun e W=>e=.returned (.bool true)/\Q W:=by
 have hlt:=h.y.2.2.2;have k5:=h.y.1;clear h;unfold stV;rw[hx];clear hx
 go_enter Tryz.func23,Tryz.ntmps23
 generalize x.a=xa at *
 go_wp2_with fail
 go_region_with (go_at_call 28;refine(c1 _ (bel1 _ _).drew).mono ?_;rintro e w2 ⟨⟨n,rfl⟩,hq⟩)
 all_goals
  go_wp2_with fail
  go_ret;exact⟨rfl,hq⟩
theorem yact {x:StD}{Q:World->Prop}(hx:x.k=2)(ha:-9223372036854775808<=x.a/\x.a<=9223372036854775807)(hl:b.P.ms.length<=40)(h:BookE w0 w L gb r b)
  (c2:∀ (k:Int) W,Below w.heap.size w W->Calls Tryz.prog 57 #[.pointer (some ⟨r,0,none⟩),.int .i64 k] W fun e W=>(∃ n,e=.returned (.int .i64 n))/\Q W) :
  Calls Tryz.prog 23 #[.pointer (some ⟨gb,0,none⟩),stV x] w fun e W=>e=.returned (.bool true)/\Q W:=by
 have c1:=fun (W:World) (hb:Below w.heap.size w W)=>zjr x.a ha hl (h.keep hb);have K5:Hid (∀ W,Below w.heap.size w W->W.cell? ⟨gb,5,none⟩=some (.pointer (some ⟨r,0,none⟩))):=fun W hb=>(h.keep hb).y.1;have hlt:=h.y.2.2.2;have HB:Hid (∀ {W W':World},Below w.heap.size w W->Below W.heap.size W W'->Below w.heap.size w W'):=fun a b=>a.trans (b.mono a.size);clear h ha hl;unfold stV;rw[hx];clear hx;generalize x.a=xa at *
 go_enter Tryz.func23,Tryz.ntmps23
 go_wp2_with (first
  |(go_at_call 56;refine(c1 _ (bel1 _ _)).mono ?_;rintro e w2 ⟨⟨k,rfl⟩,hb2⟩;have hbb:=HB.out (bel1 _ _) hb2;have k5:=K5.out _ hbb)
  |(go_at_call 57;refine(c2 k _ hbb).mono ?_;rintro e w3 ⟨⟨n,rfl⟩,hq⟩))
 go_ret;exact⟨rfl,hq⟩
theorem yacu {x:StD}{Q:World->Prop}(hx:x.k=3)(ha:-9223372036854775808<=x.a/\x.a<=9223372036854775807)(hl:b.P.ms.length<=40)(h:BookE w0 w L gb r b)
  (c2:∀ (k:Int) W,Below w.heap.size w W->Calls Tryz.prog 58 #[.pointer (some ⟨r,0,none⟩),.int .i64 k] W fun e W=>(∃ n,e=.returned (.int .i64 n))/\Q W) :
  Calls Tryz.prog 23 #[.pointer (some ⟨gb,0,none⟩),stV x] w fun e W=>e=.returned (.bool true)/\Q W:=by
 have c1:=fun (W:World) (hb:Below w.heap.size w W)=>zjr x.a ha hl (h.keep hb);have K5:Hid (∀ W,Below w.heap.size w W->W.cell? ⟨gb,5,none⟩=some (.pointer (some ⟨r,0,none⟩))):=fun W hb=>(h.keep hb).y.1;have hlt:=h.y.2.2.2;have HB:Hid (∀ {W W':World},Below w.heap.size w W->Below W.heap.size W W'->Below w.heap.size w W'):=fun a b=>a.trans (b.mono a.size);clear h ha hl;unfold stV;rw[hx];clear hx;generalize x.a=xa at *
 go_enter Tryz.func23,Tryz.ntmps23
 go_wp2_with (first
  |(go_at_call 56;refine(c1 _ (bel1 _ _)).mono ?_;rintro e w2 ⟨⟨k,rfl⟩,hb2⟩;have hbb:=HB.out (bel1 _ _) hb2;have k5:=K5.out _ hbb)
  |(go_at_call 58;refine(c2 k _ hbb).mono ?_;rintro e w3 ⟨⟨n,rfl⟩,hq⟩))
 go_ret;exact⟨rfl,hq⟩
theorem yacr {x:StD}{Q:World->Prop}(hx:x.k=4)(ha:-9223372036854775808<=x.a/\x.a<=9223372036854775807)(hl:b.P.ms.length<=40)(h:BookE w0 w L gb r b)
  (c2:∀ (k:Int) W,Below w.heap.size w W->Calls Tryz.prog 59 #[.pointer (some ⟨r,0,none⟩),.int .i64 k] W fun e W=>(∃ n,e=.returned (.int .i64 n))/\Q W) :
  Calls Tryz.prog 23 #[.pointer (some ⟨gb,0,none⟩),stV x] w fun e W=>e=.returned (.bool true)/\Q W:=by
 have c1:=fun (W:World) (hb:Below w.heap.size w W)=>zjr x.a ha hl (h.keep hb);have K5:Hid (∀ W,Below w.heap.size w W->W.cell? ⟨gb,5,none⟩=some (.pointer (some ⟨r,0,none⟩))):=fun W hb=>(h.keep hb).y.1;have hlt:=h.y.2.2.2;have HB:Hid (∀ {W W':World},Below w.heap.size w W->Below W.heap.size W W'->Below w.heap.size w W'):=fun a b=>a.trans (b.mono a.size);clear h ha hl;unfold stV;rw[hx];clear hx;generalize x.a=xa at *
 go_enter Tryz.func23,Tryz.ntmps23
 go_wp2_with (first
  |(go_at_call 56;refine(c1 _ (bel1 _ _)).mono ?_;rintro e w2 ⟨⟨k,rfl⟩,hb2⟩;have hbb:=HB.out (bel1 _ _) hb2;have k5:=K5.out _ hbb)
  |(go_at_call 59;refine(c2 k _ hbb).mono ?_;rintro e w3 ⟨⟨n,rfl⟩,hq⟩))
 go_ret;exact⟨rfl,hq⟩
end
section
open Go.RowKit
theorem yacv {w:World}{gb:Nat}{x:StD}(hx:x.k<1\/11<x.k):Calls Tryz.prog 23 #[.pointer (some ⟨gb,0,none⟩),stV x] w fun e W=>e=.returned (.bool true)/\Below w.heap.size w W:=by
 unfold stV;generalize x.k=k at *;have h1:¬ k=1:=by omega
 have h2:¬ k=2:=by omega
 have h3:¬ k=3:=by omega
 have h4:¬ k=4:=by omega
 have h5:¬ k=5:=by omega
 have h6:¬ k=6:=by omega
 have h7:¬ k=7:=by omega
 have h8:¬ k=8:=by omega
 have h9:¬ k=9:=by omega
 have h10:¬ k=10:=by omega
 have h11:¬ k=11:=by omega
 clear hx
 go_enter Tryz.func23,Tryz.ntmps23
 go_wp2_with fail
 go_ret;exact⟨rfl,bel1 _ _⟩
end
section
open Go.RowKit
variable {w0 w W:World}{L:Nat->Nat}{gb r:Nat}{b:zav}
theorem yacz {x:StD}{Q:World->Prop}{v:SvcD}(hx:x.k=10)(ha:-9223372036854775808<=x.a/\x.a<=9223372036854775807)(hb:-9223372036854775808<=x.b/\x.b<=9223372036854775807)(hl0:0<b.f.vs.length)(hl:b.f.vs.length<=2000000)(hv:b.f.vs[pckN x.a b.f.vs.length]?=some v){z:Nat}(hvz:v.size=z)(hz0:0<z)(hz:z<=2000000)(h:BookE w0 w L gb r b)
  (c3:∀ W,Below w.heap.size w W->Calls Tryz.prog 24 #[.pointer (some ⟨gb,0,none⟩),.int .i64 (pckN x.a b.f.vs.length:Nat),.int .i64 (pckN x.b z:Nat)] W fun e W=>e=.returned (.bool true)/\Q W) :
  Calls Tryz.prog 23 #[.pointer (some ⟨gb,0,none⟩),stV x] w fun e W=>e=.returned (.bool true)/\Q W:=by
 have c1:=fun W=>zcj x.a b.f.vs.length ha hl0 hl W;have c2:=fun W=>zcj x.b z hb hz0 hz W;have hlt:=h.y.2.2.2;obtain⟨va,ma,vc,mc,hV⟩:=h.v;have hsl:=zbn x.a hl0;obtain⟨bk,o,ra,rl,rc,hva,_⟩:=(hV w (Below.refl _ _)).1.vs _ v hv;subst hva;have HV:Hid (∀ W,Below w.heap.size w W->W.cell? ⟨gb,2,none⟩=some (.slice (some ⟨bk,o,none⟩) b.f.vs.length vc)/\W.cell? ⟨bk,o+pckN x.a b.f.vs.length*4,none⟩=some (.int .i64 z)):=by
  show ∀ _,_;intro W hbb;refine⟨(hV W hbb).1.x2,?_⟩;obtain⟨bk',o',ra',rl',rc',hq,d0,_⟩:=(hV W hbb).1.vs _ v hv;obtain⟨rfl,rfl⟩:bk=bk'/\o=o':=by simpa using hq
  rw[<- hvz];exact d0
 clear hV h hv hvz;generalize pckN x.a b.f.vs.length=s at *;generalize pckN x.b z=i at *;generalize b.f.vs.length=n at *;have hs0 := znn s;have hs1:(s:Int)<(n:Int):=by omega
 unfold stV;rw[hx];clear hx ha hb;obtain⟨w1,hw1⟩:∃ w1,w1=w.alloc (.cells #[.int .i64 10,.int .i64 x.a,.int .i64 x.b,.int .i64 x.c,.string x.s] 66):=⟨_,rfl⟩;have HB1:Hid (Below w.heap.size w w1):=by rw[hw1];exact bel1 _ _
 have R1:RowIs w1 w.heap.size 66 [.int .i64 10,.int .i64 x.a,.int .i64 x.b,.int .i64 x.c,.string x.s]:=by rw[hw1];exact zal _ _
 have m1:w1.cell? ⟨w.heap.size,1,none⟩=some (.int .i64 x.a):=R1.cell (j:=1) rfl;have m2:w1.cell? ⟨w.heap.size,2,none⟩=some (.int .i64 x.b):=R1.cell (j:=2) rfl;clear R1;obtain⟨n2,n3⟩:=HV.out w1 HB1.out;generalize x.a=xa at *;generalize x.b=xb at *;have HW:=zaa hw1;clear hw1
 go_enter Tryz.func23,Tryz.ntmps23
 go_wp2_with fail
 rw[<- HW.out];clear HW;generalize w.heap.size=gx at *
 go_quiet ((go_at_call 42;exact Calls.quiet_of_same ((c1 _).mono fun e W q=>⟨q.1,q.2.symm⟩)))
 go_wp2_with fail
 have HB5:Hid (Below gx w (w1.drewN nq)):=⟨HB1.out.os,HB1.out.tape,HB1.out.output,HB1.out.size,HB1.out.block⟩;have p2:(w1.drewN nq).cell? ⟨gx,2,none⟩=some (.int .i64 xb):=m2;have p3:(w1.drewN nq).cell? ⟨gb,2,none⟩=some (.slice (some ⟨bk,o,none⟩) n vc):=n2;have p4:(w1.drewN nq).cell? ⟨bk,o+s*4,none⟩=some (.int .i64 z):=n3;generalize w1.drewN nq=w5 at *;clear m1 m2 n2 n3 HB1 c1 HV;have HD:Hid (∀ W,Below gx w W->Below gx w W.drew):=fun W h=>h.drew
 go_region_with (first
  |(go_at_call 42;refine(c2 _).mono ?_;rintro e _ ⟨rfl,rfl⟩)
  |(go_at_call 24;refine(c3 _ (by first|exact HB5.out.drew|exact HB5.out)).mono ?_;rintro e w9 ⟨rfl,hq⟩))
 all_goals
  go_wp2_with fail
  go_ret;exact⟨rfl,hq⟩
end
section
open Go.RowKit
def Std (w0:World)(gb r:Nat)(f:zac)(ms:List (Int×Int))(tale:Bool)(N:Int)(W:World):Prop:=∃ b L,BookE w0 W L gb r b/\Inv N b/\b.f=f/\b.ms=ms/\b.tale=tale
variable {w0 w W:World}{L:Nat->Nat}{gb r:Nat}{f:zac}{ms:List (Int×Int)}{tale:Bool}{N:Int}
theorem Std.keep (h:Std w0 gb r f ms tale N w)(hb:Below w.heap.size w W):Std w0 gb r f ms tale N W:=by
 obtain⟨b,L,h1,h2⟩:=h;exact⟨b,L,h1.keep hb,h2⟩
theorem Std.mono (h:Std w0 gb r f ms tale N w){M:Int}(hn:N<=M):Std w0 gb r f ms tale M w:=by
 obtain⟨b,L,h1,h2,h3⟩:=h;exact⟨b,L,h1,h2.mono hn,h3⟩
theorem zg1 {f:zac}(ho:Ord f){s:Nat}{v:SvcD}(hv:f.vs[s]?=some v):1<=v.size/\v.size<=3:=by
 have:=ho.svc v (xj hv);unfold svcB numB at this;simp only[q9,decide_eq_true_eq]at this;omega
theorem zr2 {x:StD}(ha:-9223372036854775808<=x.a/\x.a<=9223372036854775807)(hb:-9223372036854775808<=x.b/\x.b<=9223372036854775807)(hN:N<=3000000000)(hz:w0.heap.size<=gb)(h:Std w0 gb r f ms tale N w)
  (hV:∀ (s:Nat) v (i:Nat) W,f.vs[s]?=some v->(i:Int)<v.size->Std w0 gb r f ms tale N W->VwOk W gb s i)
  (hP:∀ W,x.k=5->Std w0 gb r f ms tale N W->Calls Tryz.prog 23 #[.pointer (some ⟨gb,0,none⟩),stV x] W fun e W'=>e=.returned (.bool true)/\Std w0 gb r f ms tale (N+1) W') :
  Calls Tryz.prog 23 #[.pointer (some ⟨gb,0,none⟩),stV x] w fun e W=>e=.returned (.bool true)/\Std w0 gb r f ms tale (N+1) W:=by
 have hstd:=h;obtain⟨b,L,hB,hI,rfl,rfl,rfl⟩:=h;have ho:=zb3 hI.sf.ob;have hmo:=zph hI.pi hI.ex hI.bn hN;have hto:=zlu hI.pi hI.bn hN;have hti:=hI.bn.ti;have hbt:0<=b.ti/\b.ti<=3000000000:=by rw[hI.ti];omega
 have hr6:=hI.ex.r6;have hr0:=hI.ex.r0;have hl40:=hI.ex.l40;have hst:∀ {W':World} {P':zad} {M:Int},M<=N+1->Inv M { b with P:=P' }->(∃ L',BookE w0 W' L' gb r { b with P:=P' })->Std w0 gb r b.f b.ms b.tale (N+1) W':=fun {W' P' M} hM hi hB'=>by
  obtain⟨L',hB'⟩:=hB';exact⟨_,L',hB',hi.mono hM,rfl,rfl,rfl⟩
 by_cases k1:x.k=1
 ·refine(yacy k1 hto hbt hz hB).mono ?_;rintro e W ⟨rfl,L',hB'⟩;exact⟨rfl,_,L',hB',hI.tck,rfl,rfl,rfl⟩
 by_cases k2:x.k=2
 ·refine yact k2 ha hl40 hB fun k W hbw=>?_;obtain⟨sa,ta,va,ma,sl,sc,tl,tc,vl,vc,mc,nv,hM⟩:=hB.keep hbw;refine(zl4 k hmo hM.run).mono ?_;rintro e W' ⟨rfl,ht⟩;exact⟨⟨_,rfl⟩,hst (by omega) (hI.del k) ((hB.keep hbw).turn ht)⟩
 by_cases k3:x.k=3
 ·refine yacu k3 ha hl40 hB fun k W hbw=>?_;obtain⟨sa,ta,va,ma,sl,sc,tl,tc,vl,vc,mc,nv,hM⟩:=hB.keep hbw;refine(ztg k hl40 hM.run).mono ?_;rintro e W' ⟨he,ht⟩;exact⟨he,hst (by omega) (hI.drp k) ((hB.keep hbw).turn ht)⟩
 by_cases k4:x.k=4
 ·refine yacr k4 ha hl40 hB fun k W hbw=>?_;obtain⟨sa,ta,va,ma,sl,sc,tl,tc,vl,vc,mc,nv,hM⟩:=hB.keep hbw;refine(ztf k hM.run).mono ?_;rintro e W' ⟨he,ht⟩;exact⟨he,hst (by omega) (hI.cpy k) ((hB.keep hbw).turn ht)⟩
 by_cases k5:x.k=5
 ·exact hP w k5 hstd
 by_cases k6:x.k=6
 ·refine yacp k6 hB fun W hbw=>?_;have h4:=hI.pi.sh.p0;have h5:=hI.pi.sh.pn;have h6:(zb8 b.f b.ms).n=b.ms.length:=rfl;have h7:=hI.sf.l200;refine(zuk hI.pi (by omega) hI.ab hz (hB.keep hbw)).mono ?_;rintro e W' ⟨rfl,L',hB'⟩;exact⟨rfl,_,L',hB',hI.abt.mono (by omega),rfl,rfl,rfl⟩
 by_cases k7:x.k=7
 ·refine yacw k7 hB fun W hbw=>?_;obtain⟨sa,ta,va,ma,sl,sc,tl,tc,vl,vc,mc,nv,hM⟩:=hB.keep hbw;refine(zq4 _ hM.run).mono ?_;rintro e W' ⟨he,ht⟩;exact⟨he,hst (by omega) (hI.pau _) ((hB.keep hbw).turn ht)⟩
 by_cases k8:x.k=8
 ·refine yacs k8 hB fun W hbw=>?_;obtain⟨sa,ta,va,ma,sl,sc,tl,tc,vl,vc,mc,nv,hM⟩:=hB.keep hbw;refine(zq1 (by omega) hM.run).mono ?_;rintro e W' ⟨he,ht⟩;exact⟨he,hst (by omega) hI.crs ((hB.keep hbw).turn ht)⟩
 by_cases k9:x.k=9
 ·refine yacx k9 hB fun W hbw=>?_;refine(zk7 hI.pi hI.ex hI.bn hN hbt hz (hB.keep hbw)).mono ?_;rintro e W' ⟨rfl,L',hB'⟩;exact⟨rfl,_,L',hB',hI.qui,rfl,rfl,rfl⟩
 by_cases k10:x.k=10
 ·have hv1:=ho.vs1;have hv3:=ho.vs3;have hpl:pckN x.a b.f.vs.length<b.f.vs.length:=zbn _ (by omega);obtain⟨v,hv⟩:∃ v,b.f.vs[pckN x.a b.f.vs.length]?=some v:=⟨b.f.vs[pckN x.a b.f.vs.length]'hpl,xf _⟩;obtain⟨s1,s3⟩:=zg1 ho hv;have hz2:v.size=(v.size.toNat:Nat):=by omega
  have hp2:pckN x.b v.size.toNat<v.size.toNat:=zbn _ (by omega);refine yacz (Q:=fun W=>Std w0 gb r b.f b.ms b.tale (N+1) W) k10 ha hb (by omega) (by omega) hv hz2 (by omega) (by omega) hB fun W hbw=>?_;exact Calls.mono (hV _ v _ W hv (by omega) (hstd.keep hbw)) fun e W' q=>⟨q.1,((hstd.keep hbw).keep q.2).mono (by omega)⟩
 by_cases k11:x.k=11
 ·refine yacq (Q:=fun W=>Std w0 gb r b.f b.ms b.tale (N+1) W) k11 hB fun W hbw=>?_;have hv3:=ho.vs3;refine(zud (by omega) (fun v hv=>?_) (fun s v hv i hi W' hb'=>hV s v i W' hv hi ((hstd.keep hbw).keep hb')) (hB.keep hbw)).mono fun e W' q=>⟨q.1,((hstd.keep hbw).keep q.2).mono (by omega)⟩;obtain⟨s,hs⟩:=qf hv;have:=(zg1 ho hs).2;omega
 ·refine(yacv (by omega)).mono ?_;rintro e W ⟨rfl,hbw⟩;exact⟨rfl,(hstd.keep hbw).mono (by omega)⟩
end
section
open Go.RowKit
theorem nw3' (W:World)(a b c:Obj):(((W.alloc a).alloc b).alloc c).heap[W.heap.size+2]?=some c:=by
 have:=heap_alloc_new ((W.alloc a).alloc b) c;rw[show ((W.alloc a).alloc b).heap.size=W.heap.size+2 by simp]at this;exact this
theorem zzb {w:World}{b b' k k' n n':Nat}{e e':TypeId}{v v':Value}{xs xs':List Value}(h:w.ownsRow b e k v n xs)(h':w.ownsRow b' e' k' v' n' xs')(he:e≠e'):v.ownBlock=none\/v.ownBlock≠v'.ownBlock:=by
 rcases h.2 with⟨rfl,_⟩|⟨g,cap,cur,rfl,_,hg,_⟩
 ·exact .inl rfl
 ·right;intro q;rcases h'.2 with⟨rfl,_⟩|⟨g',cap',cur',rfl,_,hg',_⟩
  ·cases q
  ·have:g=g':=by simpa[xu]using q
   subst this;rw[hg]at hg';simp at hg';exact he hg'.2
def pinF (p:PinD):List Value:=[.int .i64 p.t,.int .i64 p.w,.int .i64 p.r]
def RelN (w:World)(B:Nat)(v:Value)(rels:List (List PinD)):Prop:=∃ pv:List Value,w.ownsRow B 106 1 v rels.length pv/\∀ (i:Nat) (ps:List PinD) (u:Value),rels[i]?=some ps->pv[i]?=some u->w.ownsRow B 165 3 u ps.length (ps.flatMap pinF)
theorem Tryz.infoInsK:(Tryz.prog.info? 266).map (fun i=>(i.zero,i.size,i.bytes))=some (some (.agg #[.int .i64 0,.int .i64 0]),2,16):=by kernel_rfl
theorem Tryz.infoPinK:(Tryz.prog.info? 165).map (fun i=>(i.zero,i.size,i.bytes))=some (some (.agg #[.int .i64 0,.int .i64 0,.int .i64 0]),3,24):=by kernel_rfl
theorem Tryz.infoPinSK:(Tryz.prog.info? 106).map (fun i=>(i.zero,i.size,i.bytes))=some (some (.slice none 0 0),1,24):=by kernel_rfl
theorem yabj (n:Int)(i:Nat):(xh (i+1) (⟨n,0⟩:InsD)).flatMap insF=(xh i (⟨n,0⟩:InsD)).flatMap insF++[.int .i64 n,.int .i64 0]:=by
 rw[List.replicate_succ',qg];simp[insF]
theorem yaca (v:SvcD)(z:Nat)(ra:Option Addr)(rl rc:Nat)(w:World)(hz:v.size=z)(hz3:z<=3)(hr:RelSl PinSl w ra rl rc v.rels)(hr3:v.rels.length<=3)(hp4:∀ ps∈v.rels,ps.length<=4) :
  Calls Tryz.prog 134 #[.agg #[.int .i64 v.size,.int .i64 v.now,.int .i64 v.want,.slice ra rl rc]] w fun e W=>∃ iv rv,e=.returned (.agg #[iv,rv])/\W.ownsRow w.heap.size 266 2 iv z ((xh z ⟨v.now,0⟩).flatMap insF)/\RelN W w.heap.size rv v.rels/\Below w.heap.size w W:=by
 obtain⟨iI,hiI,zI0,zI1,zI2⟩:=info_parts Tryz.infoInsK;obtain⟨iP,hiP,zP0,zP1,zP2⟩:=info_parts Tryz.infoPinK;obtain⟨iS,hiS,zS0,zS1,zS2⟩:=info_parts Tryz.infoPinSK;obtain⟨hrl,hr2,hr4,hr5,hra⟩:=hr;have HR:=zaa hra;have HP4:=zaa hp4;obtain⟨vz,vn,vw,rels⟩:=v;simp only at hz hrl hr3 HR HP4 ⊢;subst hz;have HRL:=zaa hrl;have hrl3:rl<=3:=by omega
 clear hra hp4 hrl hr2 hr3;have M0:=zaa (show RowIs (((w.alloc (.cells #[.int .i64 (z:Int),.int .i64 vn,.int .i64 vw,.slice ra rl rc] 73)).alloc (.cells #[.slice none 0 0,.slice none 0 0] 213)).alloc (.cells #[.slice none 0 0,.slice none 0 0] 213)) (w.heap.size+2) 213 [.slice none 0 0,.slice none 0 0]from nw3' _ _ _ _);have B0:=zaa (thn3 (thn3 (bel1 w (.cells #[.int .i64 (z:Int),.int .i64 vn,.int .i64 vw,.slice ra rl rc] 73)) (bel1 _ (.cells #[.slice none 0 0,.slice none 0 0] 213))) (bel1 _ (.cells #[.slice none 0 0,.slice none 0 0] 213)));have G0:=zaa (((show RowIs (w.alloc (.cells #[.int .i64 (z:Int),.int .i64 vn,.int .i64 vw,.slice ra rl rc] 73)) w.heap.size 73 [.int .i64 (z:Int),.int .i64 vn,.int .i64 vw,.slice ra rl rc]from zal _ _).keep (bel1 _ (.cells #[.slice none 0 0,.slice none 0 0] 213))).keep (bel1 _ (.cells #[.slice none 0 0,.slice none 0 0] 213)));obtain⟨W0,hW0⟩:∃ W0,W0=(((w.alloc (.cells #[.int .i64 (z:Int),.int .i64 vn,.int .i64 vw,.slice ra rl rc] 73)).alloc (.cells #[.slice none 0 0,.slice none 0 0] 213)).alloc (.cells #[.slice none 0 0,.slice none 0 0] 213)):=⟨_,rfl⟩;have hs0:W0.heap.size=w.heap.size+3:=by rw[hW0];simp
 rw[<- hW0]at M0 B0 G0;have HW0:=zaa hW0;clear hW0
 go_enter Tryz.func134,Tryz.ntmps134
 go_wp2_with fail
 go_loopw [4] (fun vi wr=>∃ (i:Nat) (vt:Value),i<=z/\vi=.int .i64 i/\RowIs wr (w.heap.size+2) 213 [vt,.slice none 0 0]/\wr.ownsRow (w.heap.size+3) 266 2 vt i ((xh i ⟨vn,0⟩).flatMap insF)/\Below (w.heap.size+2) W0 wr) (fun i _=>z-(intOf i).toNat)
 case atStart=>exact⟨0,.slice none 0 0,xv _,rfl,by rw[<- HW0.out];exact M0.out,xq _ _ _ _,by rw[<- HW0.out];exact Below.refl _ _⟩
 case round =>
  obtain⟨i,vt,hi,rfl,hM,hown,hb⟩:=hrel
  rename World=>w5
  have HM:=zaa hM;have HOWN:=zaa hown;have HB:=zaa hb;have zb:=hb.size;have hx0 := znn i;have G5:=zaa (show RowIs w5 w.heap.size 73 [.int .i64 (z:Int),.int .i64 vn,.int .i64 vw,.slice ra rl rc]from by have h1:=hb.block w.heap.size (by omega);have h2:=G0.out;unfold RowIs at h2 ⊢;rw[h1];exact h2);have g0:=G5.out.cell (j:=0) rfl;have g1:=G5.out.cell (j:=1) rfl;have g3:=G5.out.cell (j:=3) rfl;have m0:=hM.cell (j:=0) rfl;have y0:=hM.frozen 0;have ls:w.heap.size+3<=w5.heap.size:=by omega
  by_cases hlt:i<z
  ·have hx1:(i:Int)<(z:Int):=by omega
   have hx2:(i:Int)<3:=by omega
   have HE:=zaa (yabj vn i);have hne:vt.ownBlock≠some (w.heap.size+2):=fun e=>by have:=(xg hown _ e).1;omega
   clear hM hown hb
   go_wp2_with (at_builtin;refine wpList_append_lies _ rfl _ _ _ rfl (w.heap.size+3) 266 iI _ 2 16 Tryz.underlying210 hiI zI0 zI1 zI2 rfl (by omega) vt i _ rfl (HOWN.out.alloc _) ⟨w5.heap.size,0,none⟩ 1 1 [.int .i64 vn,.int .i64 0] rfl rfl (xo (heap_alloc_new w5 _)) (by simp[xz]) (by omega) (by unfold maxLen;omega) (by omega) (by simp;omega) (w5.heap.size+1) (by simp) ?_;intro g2 cap2 w8 hown2 hgrow2 hat2 hlt2;have M8:=zaa ((HM.out.keep (bel1 w5 (.cells #[.int .i64 vn,.int .i64 0] 266))).grown hgrow2 hne);have q0:=M8.out.cell (j:=0) rfl;have q1:=M8.out.frozen 0)
   go_roundw
   case rel =>
    refine⟨i+1,.slice (some ⟨g2,0,none⟩) (i+1) cap2,by omega,by go_num,M8.out.set 0 _,?_,?_⟩
    ·rw[HE.out];exact((Chg.refl (·= w.heap.size+2) w8).set (p:=⟨w.heap.size+2,0,none⟩) (.inl rfl) _).own hown2 (fun b hb e=>by have:=(xg hown2 b hb).1;omega)
    ·exact(Below.grown (HB.out.alloc (by omega) _) hgrow2 (by simp;omega) (fun k hk=>by have:=(HOWN.out.lt k hk).1;omega)).setCell (p:=⟨w.heap.size+2,0,none⟩) (qe _) _
   case measure=>simp[intOf];omega
  ·obtain rfl:z=i:=by omega
   have hx3:(z:Int)<=3:=by omega
   have HI:=HOWN;clear hM hown hb
   go_wp2_with fail
   go_loopw [31] (fun vi wr=>∃ (j:Nat) (rv:Value) (pv:List Value),j<=rl/\vi=.int .i64 j/\RowIs wr (w.heap.size+2) 213 [vt,rv]/\wr.ownsRow (w.heap.size+3) 266 2 vt z ((xh z ⟨vn,0⟩).flatMap insF)/\wr.ownsRow (w.heap.size+3) 106 1 rv j pv/\Hid (∀ (i:Nat) (ps:List PinD) (u:Value),rels[i]?=some ps->pv[i]?=some u->wr.ownsRow (w.heap.size+3) 165 3 u ps.length (ps.flatMap pinF))/\Below (w.heap.size+2) W0 wr) (fun i _=>rl-(intOf i).toNat)
   case atStart=>exact⟨0,.slice none 0 0,[],xv _,rfl,HM.out,HI.out,xq _ _ _ _,(fun _ _ _ _ h=>by simp at h),HB.out⟩
   case round =>
    obtain⟨j,rv,pv,hj,rfl,hM6,hI6,hrv,hpv,hb6⟩:=hrel
    rename World=>w6
    have HM6:=zaa hM6;have HI6:=zaa hI6;have HRV:=zaa hrv;have HB6:=zaa hb6;have zb6:=hb6.size;have ls6:w.heap.size+3<=w6.heap.size:=by omega
    have hy0 := znn j;have hbw6:=zaa (B0.out.trans (hb6.mono (by omega)));have Z6:=zaa (show RowIs w6 (w.heap.size+1) 213 [.slice none 0 0,.slice none 0 0]from by have h1:=hb6.block (w.heap.size+1) (by omega);have h2:=((nw2 w (.cells #[.int .i64 (z:Int),.int .i64 vn,.int .i64 vw,.slice ra rl rc] 73) (.cells #[.slice none 0 0,.slice none 0 0] 213)));have h3:RowIs W0 (w.heap.size+1) 213 [.slice none 0 0,.slice none 0 0]:=(by rw[HW0.out];exact RowIs.keep (show RowIs _ (w.heap.size+1) 213 [.slice none 0 0,.slice none 0 0]from h2) (bel1 _ _));unfold RowIs at h3 ⊢;rw[h1];exact h3);by_cases hlt2:j<rl
    ·obtain⟨ps,hps⟩:∃ ps,rels[j]?=some ps:=⟨rels[j]'(by rw[<- HRL.out];exact hlt2),xf _⟩;obtain⟨b,o,pa,pl,pc,rfl,c0,hpl,hp2,hp3,hp5,hpin⟩:=HR.out j ps hps;have c0:=zab hbw6.out c0;have lb:=zag c0;have hp44:=HP4.out ps (xj hps);have hy1:(j:Int)<(rl:Int):=by omega
     have HPL:=zaa hpl;have pl4:pl<=4:=by omega
     have HPIN:=zaa hpin;have HPS:=zaa hps;have r1:=hM6.cell (j:=1) rfl;have s1:=hM6.frozen 1;have O1:=zaa (World.ownsRow_made (base:=w6.heap.size+1) (e:=165) (size:=3) (w6.alloc (.cells #[.slice pa pl pc] 108)) #[] 0 (by simp) (by unfold maxLen;omega) rfl);clear hM6 hI6 hrv hb6 hpl hp2 hpin hps
     go_wp2_with fail
     go_loopw [7,39] (fun vq vi wr=>∃ q:Nat,q<=pl/\vi=.int .i64 q/\wr.ownsRow (w6.heap.size+1) 165 3 vq q ((ps.take q).flatMap pinF)/\Below (w6.heap.size+1) (w6.alloc (.cells #[.slice pa pl pc] 108)) wr) (fun _ q _=>pl-(intOf q).toNat)
     case atStart=>exact⟨0,xv _,rfl,by simpa using O1.out,(Below.refl _ _).alloc (by simp) _⟩
     case round =>
      obtain⟨q,hq,rfl,hown7,hb7⟩:=hrel
      rename World=>w7
      have HO7:=zaa hown7;have HB7:=zaa hb7;have zb7:=hb7.size;have hb67:Below w6.heap.size w6 w7:=thn3 (bel1 _ _) (hb7.mono (by simp));have HB67:=zaa hb67;have hz0 := znn q;have ls7:w6.heap.size+1<=w7.heap.size:=by simpa using zb7
      by_cases hlt3:q<pl
      ·obtain⟨p,hp⟩:∃ p,ps[q]?=some p:=⟨ps[q]'(by rw[<- HPL.out];exact hlt3),xf _⟩;obtain⟨b',o',rfl,d0,d1,d2⟩:=HPIN.out q p hp;have d0:=zab hb67 (zab hbw6.out d0);have d1:=zab hb67 (zab hbw6.out d1);have d2:=zab hb67 (zab hbw6.out d2);have lb7:=zag d0;have hz1:(q:Int)<(pl:Int):=by omega
       have HE:=zaa (zh2 (f:=pinF) hp);obtain⟨pt,pw,pr⟩:=p;simp only at d0 d1 d2;clear hown7 hb7 hb67 hp c0
       go_wp2_with (at_builtin;refine wpList_append_lies _ rfl _ _ _ rfl (w6.heap.size+1) 165 iP _ 3 24 Tryz.underlying106 hiP zP0 zP1 zP2 rfl (by omega) u7 q _ rfl ((HO7.out.alloc _).alloc _) ⟨w7.heap.size+1,0,none⟩ 1 1 [.int .i64 pt,.int .i64 pw,.int .i64 pr] rfl rfl (xo (nw2 _ _ _)) (by simp[xz]) (by omega) (by unfold maxLen;omega) (by omega) (by simp;omega) (w7.heap.size+2) (by simp) ?_;intro g2 cap2 w8 hown2 hgrow2 hat2 hlt4)
       go_roundw
       case rel =>
        refine⟨q+1,by omega,by go_num,by rw[HE.out];exact hown2,?_⟩;exact Below.grown ((HB7.out.alloc (by omega) _).alloc (by simp;omega) _) hgrow2 (by simp;omega) (fun k hk=>(HO7.out.lt k hk).1)
       case measure=>simp[intOf];omega
      ·obtain rfl:pl=q:=by omega
       obtain⟨a',cap',hu⟩:∃ a' cap',u7=.slice a' pl cap':=by
        rcases hown7.2 with⟨h1,h2⟩|⟨g,cap',cur,h1,_⟩
        ·exact⟨none,0,by rw[h1,h2]⟩
        ·exact⟨_,cap',h1⟩
       subst hu;have HQ:Hid (w7.ownsRow (w6.heap.size+1) 165 3 (.slice a' pl cap') ps.length (ps.flatMap pinF)):=by
        have:=hown7;rw[HPL.out,List.take_length]at this;rw[HPL.out];exact this
       have HM7:=zaa (HM6.out.keep hb67);have HI7:=zaa (zas HI6.out hb67);have HRV7:=zaa (zas HRV.out hb67);have r7:=HM7.out.cell (j:=1) rfl;have hne:rv.ownBlock≠some (w.heap.size+2):=fun e=>by have:=(xg HRV.out _ e).1;omega
       clear hown7 hb7 hb67 r1 s1
       go_wp2_with (at_builtin;refine wpList_append_lies _ rfl _ _ _ rfl (w.heap.size+3) 106 iS _ 1 24 Tryz.underlying211 hiS zS0 zS1 zS2 rfl (by omega) rv j _ rfl (HRV7.out.alloc _) ⟨w7.heap.size,0,none⟩ 1 1 [.slice a' pl cap'] rfl rfl (xo (heap_alloc_new w7 _)) (by simp[xz]) (by omega) (by unfold maxLen;omega) (by omega) (by simp;omega) (w7.heap.size+1) (by simp) ?_;intro g2 cap2 w8 hown2 hgrow2 hat2 hlt4;have M8:=zaa ((HM7.out.keep (bel1 w7 (.cells #[.slice a' pl cap'] 106))).grown hgrow2 hne);have q1:=M8.out.cell (j:=1) rfl;have f1:=M8.out.frozen 1)
       go_roundw
       case rel =>
        have hX:=(Chg.refl (·= w.heap.size+2) w8).set (p:=⟨w.heap.size+2,1,none⟩) (.inl rfl) (.slice (some ⟨g2,0,none⟩) (j+1) cap2);have keep:∀ {e:TypeId} {k n:Nat} {v:Value} {xs:List Value},w7.ownsRow (w.heap.size+3) e k v n xs->e≠106->(w8.setCell ⟨w.heap.size+2,1,none⟩ (.slice (some ⟨g2,0,none⟩) (j+1) cap2)).ownsRow (w.heap.size+3) e k v n xs:=fun h he =>
         hX.own ((h.alloc _).kept hgrow2 (zzb h HRV7.out he)) (fun b hb e=>by have:=(xg h b hb).1;omega)
        have hpl:pv.length=j:=by have:=HRV.out.1;omega
        refine⟨j+1,.slice (some ⟨g2,0,none⟩) (j+1) cap2,pv++[.slice a' pl cap'],by omega,by go_num,M8.out.set 1 _,keep HI7.out (by decide),hX.own hown2 (fun b hb e=>by have:=(xg hown2 b hb).1;omega),(fun i ps' u h1 h2=>?_),?_⟩
        ·by_cases hij:i<j
         ·rw[xy (by omega)]at h2;exact keep (zas (hpv.out i ps' u h1 h2) HB67.out) (by decide)
         ·have hi2:=(xe.1 h2).1;obtain rfl:i=j:=by simp at hi2;omega
          rw[qi (by omega),hpl,Nat.sub_self]at h2;obtain rfl:Value.slice a' pl cap'=u:=by simpa using h2
          rw[HPS.out]at h1;obtain rfl:ps=ps':=by simpa using h1
          exact keep (HQ.out.mono (by omega)) (by decide)
        ·have b7:=HB6.out.trans (HB67.out.mono (by omega));exact(Below.grown (b7.alloc (by omega) _) hgrow2 (by simp;omega) (fun k hk=>by have:=(HRV.out.lt k hk).1;omega)).setCell (p:=⟨w.heap.size+2,1,none⟩) (by show w.heap.size+2<=w.heap.size+2;omega) _
       case measure=>simp[intOf];omega
    ·obtain rfl:rl=j:=by omega
     have t0:=hM6.cell (j:=0) rfl;have t1:=hM6.cell (j:=1) rfl;have p0:=Z6.out.cell (j:=0) rfl;have p1:=Z6.out.cell (j:=1) rfl;have f0:=Z6.out.frozen 0;have f1:=Z6.out.frozen 1;obtain⟨ia,ic,hiv⟩:∃ a' cap',vt=.slice a' z cap':=by
      rcases hI6.2 with⟨h1,h2⟩|⟨g,cap',cur,h1,_⟩
      ·exact⟨none,0,by rw[h1,h2]⟩
      ·exact⟨_,cap',h1⟩
     obtain⟨ra2,rc2,hrv2⟩:∃ a' cap',rv=.slice a' rl cap':=by
      rcases hrv.2 with⟨h1,h2⟩|⟨g,cap',cur,h1,_⟩
      ·exact⟨none,0,by rw[h1,h2]⟩
      ·exact⟨_,cap',h1⟩
     subst hiv hrv2;clear hM6 hI6 hrv hb6
     go_wp2_with fail
     have Z7:=(Z6.out.set 0 (.slice ia z ic)).set 1 (.slice ra2 rl rc2);have o0:=Z7.cell (j:=0) rfl;have o1:=Z7.cell (j:=1) rfl;refine bodyPost_ret (v:=.agg #[.slice ia z ic,.slice ra2 rl rc2]) (by simp[results,Tryz.results134,go_sem,o0,o1]) rfl ?_;have hX:=((Chg.refl (·= w.heap.size+1) w6).set (p:=⟨w.heap.size+1,0,none⟩) (.inl rfl) (.slice ia z ic)).set (p:=⟨w.heap.size+1,1,none⟩) (.inl rfl) (.slice ra2 rl rc2);have keep:∀ {e:TypeId} {k n:Nat} {v:Value} {xs:List Value},w6.ownsRow (w.heap.size+3) e k v n xs->((w6.setCell ⟨w.heap.size+1,0,none⟩ (.slice ia z ic)).setCell ⟨w.heap.size+1,1,none⟩ (.slice ra2 rl rc2)).ownsRow w.heap.size e k v n xs:=fun h =>
      (hX.own h (fun b hb e=>by have:=(xg h b hb).1;omega)).mono (by omega)
     refine⟨_,_,rfl,keep HI6.out,⟨pv,by rw[<- HRL.out];exact keep HRV.out,fun i ps u h1 h2=>keep (hpv.out i ps u h1 h2)⟩,?_⟩;exact(hbw6.out.setCell (p:=⟨w.heap.size+1,0,none⟩) (by show w.heap.size<=w.heap.size+1;omega) _).setCell (p:=⟨w.heap.size+1,1,none⟩) (by show w.heap.size<=w.heap.size+1;omega) _
end
section
open Go.RowKit
structure BegF (W:World)(B:Nat)(f:zac)(ms:List (Int×Int))(gt tc:Nat)(v t s:Value)(sv:List (Value×Value)):Prop where
 tsk:W.ownsRow B 303 4 (.slice (some ⟨gt,0,none⟩) ms.length tc) ms.length ((tskN (lst0 f.vs) ms).flatMap tskF)
 sl:sv.length=f.vs.length
 srv:W.ownsRow B 213 2 v f.vs.length (sv.flatMap fun q=>[q.1,q.2])
 ins:∀ (i:Nat) (V:SvcD) (q:Value×Value),f.vs[i]?=some V->sv[i]?=some q->W.ownsRow B 266 2 q.1 V.size.toNat ((xh V.size.toNat ⟨V.now,0⟩).flatMap insF)
 rel:∀ (i:Nat) (V:SvcD) (q:Value×Value),f.vs[i]?=some V->sv[i]?=some q->RelN W B q.2 V.rels
 dif:∀ (i j:Nat) (p q:Value×Value) (b:Nat),i<j->sv[i]?=some p->sv[j]?=some q->p.1.ownBlock=some b->q.1.ownBlock≠some b
 top:W.ownsRow B 216 2 t f.ts.length (f.ts.flatMap fun k=>[.int .i64 k,.slice none 0 0])
 sch:W.ownsRow B 9 1 s f.ss.length (f.ss.map Value.string)
def typL (e:TypeId)(n:Nat):Nat:=if e=303\/e=213\/e=106\/e=165\/e=9 then 2 else if e=149 then 1 else if e=216 then 5 else if e=266 then n else 0
def insL (sv:List (Value×Value))(b:Nat):Nat:=match (qm sv.length).find? (fun i=>(sv.getD i (.bool false,.bool false)).1.ownBlock == some b) with
 |some i=>10+2*i
 |none=>0
def begL (W:World)(B:Nat)(sv:List (Value×Value))(b:Nat):Nat:=if b<B then 0 else match W.heap[b]? with
 |some (.cells _ e _)=>typL e (insL sv b)
 |_=>0
theorem zmw {W:World}{B:Nat}{sv:List (Value×Value)}{b:Nat}{cur:Array Value}{e:TypeId}{z:Nat×Nat}(hb:B<=b)(h:W.heap[b]?=some (.cells cur e z)):begL W B sv b=typL e (insL sv b):=by
 unfold begL;rw[if_neg (by omega),h]
theorem zie {W:World}{B k n:Nat}{e:TypeId}{v:Value}{xs:List Value}(h:W.ownsRow B e k v n xs){b:Nat}(hb:v.ownBlock=some b):B<=b/\∃ cur,W.heap[b]?=some (.cells cur e (0,0)):=by
 rcases h.2 with⟨rfl,_⟩|⟨g,cap,cur,rfl,h1,h2,_⟩
 ·simp[xu]at hb
 ·simp[xu]at hb;subst hb;exact⟨h1,cur,h2⟩
theorem ze2 {W:World}{B k n:Nat}{e:TypeId}{v:Value}{xs:List Value}{sv:List (Value×Value)}(h:W.ownsRow B e k v n xs){b:Nat}(hb:v.ownBlock=some b):begL W B sv b=typL e (insL sv b):=by
 obtain⟨h1,cur,h2⟩:=zie h hb;exact zmw h1 h2
theorem zbb {W:World}{B k n:Nat}{e:TypeId}{v:Value}{xs:List Value}(h:W.ownsRow B e k v n xs)(hk:0<k):∃ a c,v=.slice a n c/\n<=c/\∀ i u,xs[i]?=some u->∃ b,a=some ⟨b,0,none⟩/\v.ownBlock=some b/\W.cell? ⟨b,i,none⟩=some u:=by
 have h0:=h;rcases h.2 with⟨hv,hn⟩|⟨g,cap,cur,hv,h1,h2,h3,h4,h5,h6⟩
 ·subst hn;refine⟨none,0,hv,qe _,fun i u hi=>?_⟩;have:=h.1;rw[Nat.zero_mul]at this;have:=(xe.1 hi).1;omega
 ·subst hv;refine⟨_,cap,rfl,h3,fun i u hi=>⟨g,rfl,rfl,?_⟩⟩;rw[h0.cellAt i (by have:=(xe.1 hi).1;have:=h.1;omega)];exact hi
theorem zxc {sv:List (Value×Value)}(hd:∀ (i j:Nat) (p q:Value×Value) (b:Nat),i<j->sv[i]?=some p->sv[j]?=some q->p.1.ownBlock=some b->q.1.ownBlock≠some b){i b:Nat}{q:Value×Value}(hq:sv[i]?=some q)(hb:q.1.ownBlock=some b):insL sv b=10+2*i:=by
 have hi:=(xe.1 hq).1;have hf:(qm sv.length).find? (fun i=>(sv.getD i (.bool false,.bool false)).1.ownBlock == some b)=some i:=by
  cases hc:(qm sv.length).find? (fun i=>(sv.getD i (.bool false,.bool false)).1.ownBlock == some b) with
  |none =>
   have:=List.find?_eq_none.1 hc i (qh.2 hi);rw[qj,hq]at this;simp[hb]at this
  |some j =>
   have h1:=qh.1 (List.mem_of_find?_eq_some hc);have h2:=List.find?_some hc;have h3:sv[j]?=some (sv[j]'h1):=xf h1;rw[qj,h3]at h2;have h2:(sv[j]'h1).1.ownBlock=some b:=by simpa using h2
   rcases qv i j with e|e|e
   ·exact absurd h2 (hd i j _ _ b e hq h3 hb)
   ·rw[e]
   ·exact absurd hb (hd j i _ _ b e h3 hq h2)
 unfold insL;rw[hf]
theorem yabq {W:World}{B r:Nat}{f:zac}{ms:List (Int×Int)}{gt tc:Nat}{v t s:Value}{sv:List (Value×Value)}(h:BegF W B f ms gt tc v t s sv)(hvs:1<=f.vs.length)(hB:B<=r)
  (hr:RowIs W r 149 (RunC 0 (.slice (some ⟨gt,0,none⟩) ms.length tc) (begP f ms).c (.slice none 0 0) v t s)):RunE W (begL W B sv) r (begP f ms)/\∀ k,k<B->begL W B sv k=0:=by
 have hlow:∀ k,k<B->begL W B sv k=0:=fun k hk=>by unfold begL;rw[if_pos hk]
 refine⟨?_,hlow⟩;obtain⟨va,vc,hv,hvc,hvcell⟩:=zbb h.srv (by omega);have hv0:(sv.flatMap fun q=>[q.1,q.2])[0]?=some (sv[0]'(by have:=h.sl;omega)).1:=by
  have h0:sv[0]?=some (sv[0]'(by have:=h.sl;omega)):=xf _;have:=za2 (f:=fun q:Value×Value=>[q.1,q.2]) (k:=2) (fun _=>rfl) h0 (j:=0) (by omega);simpa using this
 obtain⟨gv,hva,hvo,_⟩:=hvcell 0 _ hv0;subst hva;subst hv;have hgt:xu (.slice (some ⟨gt,0,none⟩) ms.length tc)=some gt:=rfl;have lgt:=ze2 (sv:=sv) h.tsk hgt;have lgv:=ze2 (sv:=sv) h.srv hvo;have t2:∀ e n,(e=303\/e=213\/e=106\/e=165\/e=9)->typL e n=2:=fun e n he=>by unfold typL;rw[if_pos he]
 rw[t2 _ _ (by simp)]at lgt lgv;have hlen:(tskN (lst0 f.vs) ms).length=ms.length:=zg5 _ _;have hrow:RowIs W r 149 (RunC 0 (.slice (some ⟨gt,0,none⟩) (tskN (lst0 f.vs) ms).length tc) (begP f ms).c (.slice none 0 0) (.slice (some ⟨gv,0,none⟩) (begP f ms).vs.length vc) t s):=by
  rw[hlen];show RowIs W r _ (RunC 0 _ _ _ (.slice (some ⟨gv,0,none⟩) (f.vs.map _).length vc) t s);rw[xp];exact hr
 obtain⟨sa,sc,hs,hsc,hscell⟩:=zbb h.sch (by omega);refine⟨gt,tc,.slice none 0 0,gv,vc,t,s,sv,f.ts.map fun k=>(k,.slice none 0 0),hrow,?_,fun b hb=>?_,?_,?_,?_,⟨lgt,fun i q hq=>?_,lgv,?_,fun i q hq=>?_,fun i q R hq hR=>?_,sa,sc,hs,fun i x hx=>?_⟩,⟨xq _ _ _ _,fun b hb=>by simp[xu]at hb⟩,fun i V q hV hq=>?_,⟨?_,fun b hb=>?_⟩,?_,fun i T q hT hq=>?_⟩
 ·have:=zmw (sv:=sv) hB (show W.heap[r]?=some (.cells _ 149 (0,0))from hr);rw[this];rfl
 ·unfold begL;split
  ·rfl
  ·rw[Array.getElem?_eq_none (by omega)]
 ·exact(xg h.tsk gt hgt).2
 ·exact(xg h.srv gv hvo).2
 ·show (f.vs.map _).length<=vc;rw[xp];exact hvc
 ·have:=(xe.1 hq).1;exact zpu h.tsk hq (by have:(begP f ms).c.ts.length=ms.length:=hlen;omega)
 ·show sv.length=((f.vs.map _).map SrvD.rels).length;rw[xp,xp];exact h.sl
 ·have c0:=za2 (f:=fun q:Value×Value=>[q.1,q.2]) (k:=2) (fun _=>rfl) hq (j:=0) (by omega);have c1:=za2 (f:=fun q:Value×Value=>[q.1,q.2]) (k:=2) (fun _=>rfl) hq (j:=1) (by omega);obtain⟨b0,e0,_,k0⟩:=hvcell _ _ c0;obtain⟨b1,e1,_,k1⟩:=hvcell _ _ c1;cases e0;cases e1;exact⟨k0,k1⟩
 ·have hR':((f.vs.map fun v=>(⟨xh v.size.toNat ⟨v.now,0⟩,v.rels⟩:SrvD)).map SrvD.rels)[i]?=some R:=hR;rw[qx,xm]at hR';cases hV:f.vs[i]? with
  |none=>rw[hV]at hR';cases hR'
  |some V =>
   rw[hV]at hR';obtain rfl:V.rels=R:=by simpa using hR'
   obtain⟨pv,p1,p2⟩:=h.rel i V q hV hq;obtain⟨ra,rc,e1,_,e2⟩:=zbb p1 (by omega);have hpl:pv.length=V.rels.length:=by have:=p1.1;omega
   refine⟨ra,rc,e1,fun j ps hj=>?_⟩;have hjl:=(xe.1 hj).1;obtain⟨u,hu⟩:∃ u,pv[j]?=some u:=⟨pv[j]'(by omega),xf _⟩;obtain⟨b,q1,q2,q3⟩:=e2 j u hu;have o1:=p2 j ps u hj hu;obtain⟨pa,pc,n1,_,n2⟩:=zbb o1 (by omega);refine⟨b,0,pa,pc,q1,?_,by rw[qd,q3,n1],fun k p hp=>?_⟩
   ·rw[ze2 p1 q2,t2 _ _ (by simp)]
   ·have d:=fun (z:Nat) (hz:z<3)=>za2 (f:=pinF) (k:=3) (fun _=>rfl) hp (j:=z) hz;obtain⟨b0,f0,g0,k0⟩:=n2 _ _ (d 0 (by omega));obtain⟨b1,f1,g1,k1⟩:=n2 _ _ (d 1 (by omega));obtain⟨b2,f2,g2,k2⟩:=n2 _ _ (d 2 (by omega));rw[f0]at f1 f2;cases f1;cases f2;refine⟨b0,0,f0,?_,by rw[qd];exact k0,by rw[qd];exact k1,by rw[qd];exact k2⟩;rw[ze2 o1 g0,t2 _ _ (by simp)]
 ·obtain⟨b,q1,q2,q3⟩:=hscell i (.string x) (by rw[xm];have hx':f.ss[i]?=some x:=hx;rw[hx'];rfl);exact⟨b,0,q1,by rw[ze2 h.sch q2,t2 _ _ (by simp)],by rw[qd];exact q3⟩
 ·have hV':(f.vs.map fun v=>(⟨xh v.size.toNat ⟨v.now,0⟩,v.rels⟩:SrvD))[i]?=some V:=hV;rw[xm]at hV';cases hF:f.vs[i]? with
  |none=>rw[hF]at hV';cases hV'
  |some F =>
   rw[hF]at hV';obtain rfl:(⟨xh F.size.toNat ⟨F.now,0⟩,F.rels⟩:SrvD)=V:=by simpa using hV'
   have ho:=h.ins i F q hF hq;refine⟨?_,fun b hb=>?_⟩
   ·show W.ownsRow 0 _ _ _ (xh F.size.toNat (⟨F.now,0⟩:InsD)).length _;rw[List.length_replicate];exact ho.mono (xv _)
   ·rw[ze2 ho hb];show insL sv b=_;exact zxc h.dif hq hb
 ·show W.ownsRow 0 _ _ _ (f.ts.map _).length _;rw[xp];have:=h.top.mono (xv _);rw[show (f.ts.map fun k=>((k,.slice none 0 0):Int×Value)).flatMap topF=f.ts.flatMap fun k=>[.int .i64 k,.slice none 0 0] by rw[List.flatMap_map];rfl];exact this
 ·rw[ze2 h.top hb];rfl
 ·show (f.ts.map _).map Prod.fst=(f.ts.map _).map TopD.keep;rw[qx,qx];rfl
 ·have hT':(f.ts.map fun k=>(⟨k,[]⟩:TopD))[i]?=some T:=hT;rw[xm]at hT' hq;cases hk:f.ts[i]? with
  |none=>rw[hk]at hT';cases hT'
  |some k =>
   rw[hk]at hT' hq;obtain rfl:(⟨k,[]⟩:TopD)=T:=by simpa using hT'
   obtain rfl:((k,.slice none 0 0):Int×Value)=q:=by simpa using hq
   exact⟨xq _ _ _ _,fun b hb=>by simp[xu]at hb⟩
end
section
open Go.RowKit
variable {w0 w W:World}{L:Nat->Nat}{gb r:Nat}{b:zav}
theorem BookE.n (h:BookE w0 w L gb r b):∃ ta tc nv,∀ W,Below w.heap.size w W->W.cell? ⟨gb,1,none⟩=some (.slice ta b.f.ts.length tc)/\W.cell? ⟨gb,6,none⟩=some (.int .i64 b.ti)/\W.cell? ⟨gb,7,none⟩=some nv/\IntsAt W ta b.f.ts/\W.ownsRow w0.heap.size 135 3 nv b.notes.length (b.notes.flatMap zcx):=by
 obtain⟨sa,ta,va,ma,sl,sc,tl,tc,vl,vc,mc,nv,h⟩:=h;refine⟨ta,tc,nv,fun W hb=>?_⟩;have h':=h.keep hb;refine⟨?_,h'.row.cell rfl,h'.row.cell rfl,(h'.flt.keep h'.bel).t3,h'.nts⟩;have:=h'.row.cell (j:=1) rfl;rw[h'.flt.t1]at this;exact this
theorem Tryz.infoNotK:(Tryz.prog.info? 135).map (fun i=>(i.zero,i.size,i.bytes))=some (some (.agg #[.int .i64 0,.int .i64 0,.string ⟨#[]⟩]),3,32):=by kernel_rfl
theorem zw6 {α:Type}{l:List α}{i:Nat}{x:α}(p:α->Bool)(h:l[i]?=some x):(l.take (i+1)).filter p=if p x then (l.take i).filter p++[x] else (l.take i).filter p:=by
 rw[List.take_add_one,h,List.filter_append];cases hp:p x<;>simp[hp]
theorem zqx (k:Int)(hk:b.f.ts[0]?=some k)(hk6:0<=k/\k<=6)(hti:0<=b.ti/\b.ti<=3000000000)(hnl:b.notes.length<=2100000)(hnt:∀ x∈b.notes,0<=x.ti/\x.ti<=b.ti)(hB:BookE w0 w L gb r b) :
  Calls Tryz.prog 65 #[.pointer (some ⟨gb,0,none⟩)] w fun e W=>∃ v,e=.returned v/\W.ownsRow w.heap.size 135 3 v (b.notes.filter (zay k b.ti)).length ((b.notes.filter (zay k b.ti)).flatMap zcx)/\Below w.heap.size w W:=by
 obtain⟨iN,hiN,zN0,zN1,zN2⟩:=info_parts Tryz.infoNotK;obtain⟨ta,tc,nv,hV⟩:=hB.n;have HV:=zaa hV;have HNT:=zaa hnt;obtain⟨k1,_,_,ha,ho⟩:=hV w (Below.refl _ _);have hgl:=zag k1;obtain⟨tb,to,rfl,d0⟩:=ha 0 k hk;obtain⟨na,nc,rfl,_⟩:∃ a c,nv=.slice a b.notes.length c/\True:=by
  obtain⟨a,c,e,_⟩:=zbb ho (by omega);exact⟨a,c,e,trivial⟩
 have htl:0<b.f.ts.length:=(xe.1 hk).1;obtain⟨Q,hQ⟩:∃ Q:Ending->World->Prop,Q=fun e W=>∃ v,e=.returned v/\W.ownsRow w.heap.size 135 3 v (b.notes.filter (zay k b.ti)).length ((b.notes.filter (zay k b.ti)).flatMap zcx)/\Below w.heap.size w W:=⟨_,rfl⟩;show Calls _ _ _ _ fun e W=>(fun e W=>∃ v,e=.returned v/\W.ownsRow w.heap.size 135 3 v (b.notes.filter (zay k b.ti)).length ((b.notes.filter (zay k b.ti)).flatMap zcx)/\Below w.heap.size w W) e W;rw[<- hQ];have HQ:=zaa hQ;have HX:Hid (∀ W,Below w.heap.size w W->W.cell? ⟨gb,6,none⟩=some (.int .i64 b.ti)/\W.cell? ⟨gb,7,none⟩=some (.slice na b.notes.length nc)):=fun W hb=>⟨(hV W hb).2.1,(hV W hb).2.2.1⟩;clear hQ hV hnt ha ho hB hk;rw[uf]at d0;generalize b.f.ts.length=nt at *;obtain⟨n,hn⟩:∃ n,n=b.notes.length:=⟨_,rfl⟩;have HN:=zaa hn;rw[<- hn]at hnl HX;clear hn;obtain⟨T,hT⟩:∃ T,T=b.ti:=⟨_,rfl⟩;have HT:=zaa hT;rw[<- hT]at hti HX;clear hT;obtain⟨y6,y7⟩:=HX.out w (Below.refl _ _);have hnt1:(0:Int)<(nt:Int):=by omega
 go_enter Tryz.func65,Tryz.ntmps65
 go_wp2_with fail
 clear y6 y7 k1 d0
 go_loopw [3,5] (fun vl vi wr=>∃ i:Nat,i<=n/\vi=.int .i64 i/\wr.ownsRow w.heap.size 135 3 vl ((b.notes.take i).filter (zay k T)).length (((b.notes.take i).filter (zay k T)).flatMap zcx)/\Below w.heap.size w wr) (fun _ i _=>n-(intOf i).toNat)
 case atStart=>exact⟨0,xv _,rfl,xq _ _ _ _,Below.refl _ _⟩
 case round =>
  obtain⟨i,hi,rfl,hO,hb⟩:=hrel
  rename World=>w1
  have HO:=zaa hO;have HB:=zaa hb;obtain⟨x6,x7⟩:=HX.out w1 hb;have hi0 := znn i;by_cases hin:i<n
  ·obtain⟨x,hx⟩:∃ x,b.notes[i]?=some x:=⟨b.notes[i]'(by have:=HN.out;omega),xf _⟩;obtain⟨_,_,_,_,hOn⟩:=HV.out w1 hb;have dz:=fun (z:Nat) (hz:z<3)=>za2 (f:=zcx) (k:=3) (fun _=>rfl) hx (j:=z) hz;obtain⟨a',c',e',_,hcs⟩:=zbb hOn (by omega);cases e';obtain⟨g0,q0,_,n0⟩:=hcs _ _ (dz 0 (by omega));obtain⟨g1,q1,_,n1⟩:=hcs _ _ (dz 1 (by omega));obtain⟨g2,q2,_,n2⟩:=hcs _ _ (dz 2 (by omega));subst q0;cases q1;cases q2;obtain⟨hx0,hxT⟩:=HNT.out x (xj hx);rw[<- HT.out]at hxT;have HE:=zaa (zw6 (zay k T) hx);have hlt1:((b.notes.take i).filter (zay k T)).length<=2100000:=Nat.le_trans (List.length_filter_le _ _) (by rw[List.length_take];omega);have hii:(i:Int)<(n:Int):=by omega
   have lg:=zag n0;obtain⟨xt,xb,xd⟩:=x;simp only[uf]at n0 n1 n2 hx0 hxT;clear hO hb hx hOn dz hcs;generalize hG:((b.notes.take i).filter (zay k T)).flatMap zcx=ys at *;generalize hH:((b.notes.take i).filter (zay k T)).length=m at *;have HGY:=zaa hG;have HHM:=zaa hH;clear hG hH;have h0:=HB.out.size;have lgb:gb<w1.heap.size:=zag x6;by_cases hk0:k=0
   ·subst hk0;have hpr:zay 0 T ⟨xt,xb,xd⟩=true:=by simp[zay]
    go_wp2_with fail
    go_quiet (fail)
    go_wp2_with (at_builtin;refine wpList_append_lies _ rfl _ _ _ rfl w.heap.size 135 iN _ 3 32 Tryz.underlying68 hiN zN0 zN1 zN2 rfl (by omega) u3 m _ rfl (qq (show (qo _ _).ownsRow _ _ _ _ _ _ from HO.out) _) ⟨w1.heap.size,0,none⟩ 1 1 [.int .i64 xt,.int .i64 xb,.string xd] rfl rfl (xo (heap_alloc_new (qo _ _) _)) (by simp[xz]) (by omega) (by unfold maxLen;omega) (by omega) (by have:=HB.out.size;simp;omega) (w1.heap.size+1) (by simp) ?_;intro g2' cap2 w8 hown2 hgrow2 hat2 hlt2)
    go_roundw
    case rel =>
     refine⟨i+1,by omega,by go_num,?_,?_⟩
     ·rw[HE.out,if_pos hpr,qu,qg,HGY.out,HHM.out];exact hown2
     ·exact Below.grown (Below.alloc' (below_drewN HB.out _) _) hgrow2 (by have:=HB.out.size;simp;omega) (fun k hk=>(xg HO.out k hk).1)
    case measure=>simp[intOf];omega
   ·have e1:(k == 0)=false:=by simp[hk0]
    have e2:decide (k=0)=false:=by simp[hk0]
    by_cases hd:T-xt<k
    ·have hpr:zay k T ⟨xt,xb,xd⟩=true:=by simp[zay,hd]
     go_wp2_with fail
     go_quiet (fail)
     go_wp2_with (at_builtin;refine wpList_append_lies _ rfl _ _ _ rfl w.heap.size 135 iN _ 3 32 Tryz.underlying68 hiN zN0 zN1 zN2 rfl (by omega) u3 m _ rfl (qq (show (qo _ _).ownsRow _ _ _ _ _ _ from HO.out) _) ⟨w1.heap.size,0,none⟩ 1 1 [.int .i64 xt,.int .i64 xb,.string xd] rfl rfl (xo (heap_alloc_new (qo _ _) _)) (by simp[xz]) (by omega) (by unfold maxLen;omega) (by omega) (by have:=HB.out.size;simp;omega) (w1.heap.size+1) (by simp) ?_;intro g2' cap2 w8 hown2 hgrow2 hat2 hlt2)
     go_roundw
     case rel =>
      refine⟨i+1,by omega,by go_num,?_,?_⟩
      ·rw[HE.out,if_pos hpr,qu,qg,HGY.out,HHM.out];exact hown2
      ·exact Below.grown (Below.alloc' (below_drewN HB.out _) _) hgrow2 (by have:=HB.out.size;simp;omega) (fun k hk=>(xg HO.out k hk).1)
     case measure=>simp[intOf];omega
    ·have hpr:¬ zay k T ⟨xt,xb,xd⟩=true:=by simp[zay,hd,hk0]
     go_wp2_with fail
     go_quiet (fail)
     go_wp2_with fail
     go_roundw
     case rel =>
      refine⟨i+1,by omega,by go_num,?_,below_drewN HB.out _⟩;rw[HE.out,if_neg hpr,HGY.out,HHM.out];exact HO.out
     case measure=>simp[intOf];omega
  ·obtain rfl:n=i:=by omega
   go_wp2_with fail
   have hO2:=hO;rw[qk (by have:=HN.out;omega),HT.out]at hO2;obtain⟨va',vc',hv,_⟩:∃ a c,u3=.slice a (b.notes.filter (zay k b.ti)).length c/\True:=by
    obtain⟨a,c,e,_⟩:=zbb hO2 (by omega);exact⟨a,c,e,trivial⟩
   rw[HQ.out];exact⟨u3,rfl,hO2,hb⟩
end
section
open Go.RowKit
theorem yaet {w:World}{gb r:Nat}(s i:Nat)(pw pr:Int)(hpr:pr<0)(hx:∀ W,Below w.heap.size w W->W.cell? ⟨gb,4,none⟩=some (.bool true)/\W.cell? ⟨gb,5,none⟩=some (.pointer (some ⟨r,0,none⟩)))
  (c1:∀ W,Below w.heap.size w W->Calls Tryz.prog 63 #[.pointer (some ⟨gb,0,none⟩),.int .i64 s,.int .i64 i] W fun e W'=>e=.returned (.tuple #[.int .i64 pw,.int .i64 pr,.bool true])/\Below W.heap.size W W')
  (c2:∀ W,Below w.heap.size w W->Calls Tryz.prog 64 #[.pointer (some ⟨r,0,none⟩),.int .i64 s,.int .i64 i,.int .i64 0] W fun e W'=>e=.returned (.tuple #[.slice none 0 0,.int .i64 15])/\Below W.heap.size W W'):VwOk w gb s i:=by
 have HX:=zaa hx;obtain⟨k4,_⟩:=hx w (Below.refl _ _);unfold VwOk;clear hx
 go_enter Tryz.func24,Tryz.ntmps24
 go_wp2_with (first
  |(go_at_call 63;refine(c1 _ (Below.refl _ _)).mono ?_;rintro e w1 ⟨rfl,hb1⟩;have k5:=(HX.out w1 hb1).2)
  |(go_at_call 64;refine(c2 _ hb1).mono ?_;rintro e w2 ⟨rfl,hb2⟩))
 go_ret;exact⟨rfl,thn3 hb1 hb2⟩
theorem yaev {w:World}{gb r:Nat}(s i:Nat)(pw:Int)(rN:Nat)(ss:List ByteArray)(sb so sc:Nat)(pr:List zdj)(RT:zdj->ByteArray)(s2:ByteArray)(hr:ss[rN]?=some s2)(hsl:ss.length<=2000000)(hnp:pr.length<=12)
  (hx:∀ W,Below w.heap.size w W->W.cell? ⟨gb,4,none⟩=some (.bool true)/\W.cell? ⟨gb,5,none⟩=some (.pointer (some ⟨r,0,none⟩))/\W.cell? ⟨gb,0,none⟩=some (.slice (some ⟨sb,so,none⟩) ss.length sc)/\StrsAt W (some ⟨sb,so,none⟩) ss)
  (hby:∀ x∈pr,∃ (y:Nat) (s1:ByteArray),x.by'=y/\ss[y]?=some s1/\RdIs s1 s2 x.da (RT x)) (hT:∀ W,Below w.heap.size w W->Tab W)
  (c1:∀ W,Below w.heap.size w W->Calls Tryz.prog 63 #[.pointer (some ⟨gb,0,none⟩),.int .i64 s,.int .i64 i] W fun e W'=>e=.returned (.tuple #[.int .i64 pw,.int .i64 rN,.bool true])/\Below W.heap.size W W')
  (c2:∀ W,Below w.heap.size w W->Calls Tryz.prog 64 #[.pointer (some ⟨r,0,none⟩),.int .i64 s,.int .i64 i,.int .i64 0] W fun e W'=>∃ v,e=.returned (.tuple #[v,.int .i64 0])/\W'.ownsRow W.heap.size 9 1 v pr.length (pr.map fun x=>.string (RT x))/\Below W.heap.size W W')
  (c3:∀ W,Below w.heap.size w W->Calls Tryz.prog 65 #[.pointer (some ⟨gb,0,none⟩)] W fun e W'=>∃ v,e=.returned v/\W'.ownsRow W.heap.size 135 3 v pr.length (pr.flatMap zcx)/\Below W.heap.size W W'):VwOk w gb s i:=by
 have HX:=zaa hx;have HBY:=zaa hby;have HT:=zaa hT;have HRS:=zaa hr;obtain⟨k4,_,_,_⟩:=hx w (Below.refl _ _);have hrl:=(xe.1 hr).1;unfold VwOk;clear hx hby hT hr;obtain⟨n,hn⟩:∃ n,n=pr.length:=⟨_,rfl⟩;have HN:=zaa hn;rw[<- hn]at hnp c2 c3;clear hn;generalize hsn:ss.length=sn at *;have HSN:=zaa hsn;clear hsn;have hr0 := znn rN;have hr1:(rN:Int)<(sn:Int):=by omega
 go_enter Tryz.func24,Tryz.ntmps24
 go_wp2_with (first
  |(go_at_call 63;refine(c1 _ (Below.refl _ _)).mono ?_;rintro e w1 ⟨rfl,hb1⟩;have k5:=(HX.out w1 hb1).2.1)
  |(go_at_call 64;refine(c2 _ hb1).mono ?_;rintro e w2 ⟨v,rfl,ho,hb2⟩;obtain⟨va,vc,rfl,_⟩:∃ a c,v=.slice a n c/\True:=(by obtain⟨a,c,e,_⟩:=zbb ho (by omega);exact⟨a,c,e,trivial⟩);have HV:=zaa ho;have B2:=zaa (thn3 hb1 hb2);clear ho)
  |(go_at_call 65;refine(c3 _ B2.out).mono ?_;rintro e w3 ⟨v3,rfl,ho3,hb3⟩;obtain⟨na,nc,rfl,_⟩:∃ a c,v3=.slice a n c/\True:=(by obtain⟨a,c,e,_⟩:=zbb ho3 (by omega);exact⟨a,c,e,trivial⟩);have HP:=zaa ho3;have HV3:=zaa (zas HV.out hb3);have B3:=zaa (thn3 B2.out hb3);clear ho3))
 clear c1 c2 c3 k4 k5
 go_loopw [13] (fun vi wr=>∃ k:Nat,k<=n/\vi=.int .i64 k/\Below w3.heap.size w3 wr) (fun i _=>n-(intOf i).toNat)
 case atStart=>exact⟨0,xv _,rfl,Below.refl _ _⟩
 case round =>
  obtain⟨k,hk,rfl,hb4⟩:=hrel
  rename World=>w4
  have hk0 := znn k;by_cases hkn:k<n
  ·obtain⟨x,hxk⟩:∃ x,pr[k]?=some x:=⟨pr[k]'(by have:=HN.out;omega),xf _⟩;have B4:=zaa (thn3 B3.out hb4);obtain⟨y,s1,hy,hs1,hRd⟩:=HBY.out x (xj hxk);obtain⟨_,_,z0,hst⟩:=HX.out w4 B4.out;obtain⟨b1,o1,q1,t1⟩:=hst y s1 hs1;obtain⟨b2,o2,q2,t2⟩:=hst rN s2 HRS.out;cases q1;cases q2;have hyl:=(xe.1 hs1).1;obtain⟨a',c',e',_,hcs⟩:=zbb (zas HP.out hb4) (by omega);cases e';have dz:=fun (z:Nat) (hz:z<3)=>za2 (f:=zcx) (k:=3) (fun _=>rfl) hxk (j:=z) hz;obtain⟨g1,p1,_,n1⟩:=hcs _ _ (dz 1 (by omega));obtain⟨g2,p2,_,n2⟩:=hcs _ _ (dz 2 (by omega));subst p1;cases p2;obtain⟨a'',c'',e'',_,hcv⟩:=zbb (zas HV3.out hb4) (by omega);cases e'';obtain⟨g3,p3,_,n3⟩:=hcv k (.string (RT x)) (by rw[xm,hxk];rfl);subst p3;have hrd:=hRd.2 w4.drew (Tab.keep (Below.refl _ _).drew (HT.out w4 B4.out));have hne:=hRd.1;obtain⟨xt,xb,xd⟩:=x;simp only at hy;subst hy;have hy0 := znn y;have hy1:(y:Int)<(sn:Int):=by have:=HSN.out;omega
   have hki:(k:Int)<(n:Int):=by omega
   generalize RT ⟨xt,(y:Int),xd⟩=rt at *;simp only[zcx,List.getElem?_cons_succ,List.getElem?_cons_zero,ug]at n1 n2;clear hcs hcv dz hst hxk hs1 hRd;have lz0:=zag z0;have lt1:=zag t1;have ln1:=zag n1;have ln3:=zag n3
   go_wp2_with fail
   go_region_held3 (fun w'=>w'.cell? ⟨gb,0,none⟩=some (.slice (some ⟨sb,so,none⟩) sn sc)/\w'.cell? ⟨g1,k*3+1,none⟩=some (.int .i64 (y:Int))/\w'.cell? ⟨g1,k*3+2,none⟩=some (.string xd)/\w'.cell? ⟨sb,so+y,none⟩=some (.string s1)/\w'.cell? ⟨sb,so+rN,none⟩=some (.string s2)) (first|exact⟨z0,n1,n2,t1,t2⟩|exact⟨zab hb5 z0,zab hb5 n1,zab hb5 n2,zab hb5 t1,zab hb5 t2⟩) (first
    |(go_at_call 66;refine hrd.mono ?_;rintro e w5 ⟨rfl,hb5⟩;have n35:=zab hb5 (show w4.drew.cell? _=_ from n3);have ln5:=zag n35))
   go_wp2_with fail
   go_roundw
   case rel=>exact⟨k+1,by omega,by go_num,thn3 hb4 (show Below w4.heap.size w4 w5 from⟨hb5.os,hb5.tape,hb5.output,hb5.size,hb5.block⟩)⟩
   case measure=>simp[intOf];omega
  ·obtain rfl:n=k:=by omega
   go_wp2_with fail
   go_ret;exact⟨rfl,thn3 B3.out hb4⟩
end
section
structure TS (α:Type) where
 now:α
 fr:Nat
 to:Nat
section
variable {α:Type}
structure TInv (nx:α->Nat->Option α)(L:List (TS α))(t:Nat):Prop where
 nd:∀ (i j:Nat) (a b:TS α),L[i]?=some a->L[j]?=some b->a.now=b.now->i=j
 tm:∀ (j:Nat) (a:TS α),L[j+1]?=some a->9*a.fr+a.to<t/\a.fr<j+1/\a.to<9/\∃ b,L[a.fr]?=some b/\nx b.now a.to=some a.now
 mono:∀ (i j:Nat) (a b:TS α),i<j->L[i+1]?=some a->L[j+1]?=some b->9*a.fr+a.to<9*b.fr+b.to
 ev:∀ (i:Nat) (a:TS α) (p:Nat) (y:α),L[i]?=some a->p<9->nx a.now p=some y->9*i+p<t->∃ j b,L[j]?=some b/\b.now=y/\(j=0\/9*b.fr+b.to<=9*i+p)
theorem ze6 {β:Type}{L:List β}{x a:β}{i:Nat}(h:(L++[x])[i]?=some a):L[i]?=some a\/(i=L.length/\a=x):=by
 rcases qv i L.length with h1|h1|h1
 ·rw[xy h1]at h;exact .inl h
 ·subst h1;rw[qi (qe _)]at h;simp at h;exact .inr ⟨rfl,h.symm⟩
 ·rw[qn (by simp;omega)]at h;cases h
theorem ziq {β:Type}{L:List β}{x a:β}{i:Nat}(h:L[i]?=some a):(L++[x])[i]?=some a:=by
 rw[xy (xe.1 h).1];exact h
theorem TInv.skip {nx:α->Nat->Option α}{L:List (TS α)}{k p:Nat}{a:TS α}(h:TInv nx L (9*k+p))(ha:L[k]?=some a)(hp:p<9)(hy:nx a.now p=none):TInv nx L (9*k+p+1):=by
 refine⟨h.nd,fun j a ha=>⟨by have:=(h.tm j a ha).1;omega,(h.tm j a ha).2⟩,h.mono,fun i a' q z hi hq hz ht=>?_⟩;by_cases he:9*i+q<9*k+p
 ·exact h.ev i a' q z hi hq hz he
 ·have:i=k/\q=p:=by omega
  obtain⟨rfl,rfl⟩:=this;rw[ha]at hi;cases hi;rw[hy]at hz;cases hz
end
theorem SiD.eq_iff {s t:SiD}:s=t↔s.has=t.has/\s.had=t.had:=by
 constructor
 ·rintro rfl;exact⟨rfl,rfl⟩
 ·obtain⟨a,b⟩:=s;obtain⟨c,d⟩:=t;rintro ⟨h1,h2⟩;simp only at h1 h2;rw[h1,h2]
def zg0 (s t:SiD):Bool:=decide (s.has=t.has)&&decide (s.had=t.had)
theorem zrx {s t:SiD}:zg0 s t=true↔s=t:=by unfold zg0;rw[q9,decide_eq_true_eq,decide_eq_true_eq,SiD.eq_iff]
section
def tins (k:Nat)(L:List (TS SiD))(p:Nat)(y:SiD):List (TS SiD) :=
 if L.any (fun t=>zg0 t.now y)=true then L else L++[⟨y,k,p⟩]
def tin (nx:SiD->Nat->Option SiD)(k:Nat)(s:SiD):Nat->List (TS SiD)->List (TS SiD)
 |0,L=>L
 |p+1,L=>match nx s p with
  |some y=>tins k (tin nx k s p L) p y
  |none=>tin nx k s p L
def tou (nx:SiD->Nat->Option SiD)(s0:SiD):Nat->List (TS SiD)
 |0=>[⟨s0,0,0⟩]
 |k+1=>match (tou nx s0 k)[k]? with
  |some a=>tin nx k a.now 9 (tou nx s0 k)
  |none=>tou nx s0 k
theorem yado {k p i:Nat}{L:List (TS SiD)}{y:SiD}{a:TS SiD}(h:L[i]?=some a):(tins k L p y)[i]?=some a:=by
 unfold tins;split
 ·exact h
 ·exact ziq h
theorem TInv.step {nx:SiD->Nat->Option SiD}{L:List (TS SiD)}{k p:Nat}{a:TS SiD}{y:SiD}(h:TInv nx L (9*k+p))(ha:L[k]?=some a)(hp:p<9)(hy:nx a.now p=some y):TInv nx (tins k L p y) (9*k+p+1):=by
 have hk:=(xe.1 ha).1;unfold tins;by_cases hr:L.any (fun t=>zg0 t.now y)=true
 ·rw[if_pos hr];obtain⟨b,hb,hby⟩:=qy.1 hr;obtain⟨j,hj⟩:=qf hb;refine⟨h.nd,fun j a ha=>⟨by have:=(h.tm j a ha).1;omega,(h.tm j a ha).2⟩,h.mono,fun i a' q z hi hq hz ht=>?_⟩;by_cases he:9*i+q<9*k+p
  ·exact h.ev i a' q z hi hq hz he
  ·have:i=k/\q=p:=by omega
   obtain⟨rfl,rfl⟩:=this;rw[ha]at hi;cases hi;rw[hy]at hz;cases hz;refine⟨j,b,hj,zrx.1 hby,?_⟩;cases j with
   |zero=>exact .inl rfl
   |succ j=>exact .inr (by have:=(h.tm j b hj).1;omega)
 ·rw[if_neg hr];have hno:∀ (i:Nat) (b:TS SiD),L[i]?=some b->b.now≠y:=fun i b hi he=>hr (qy.2 ⟨b,xj hi,zrx.2 he⟩);refine⟨fun i j a b hi hj he=>?_,fun j b hj=>?_,fun i j b c hij hi hj=>?_,fun i b q z hi hq hz ht=>?_⟩
  ·rcases ze6 hi with hi|⟨rfl,rfl⟩<;>rcases ze6 hj with hj|⟨rfl,rfl⟩
   ·exact h.nd i j a b hi hj he
   ·exact absurd he (hno i a hi)
   ·exact absurd he.symm (hno j b hj)
   ·rfl
  ·rcases ze6 hj with hj|⟨hl,rfl⟩
   ·obtain⟨h1,h2,h3,c,h4,h5⟩:=h.tm j b hj;exact⟨by omega,h2,h3,c,ziq h4,h5⟩
   ·exact⟨by simp,by simp;omega,hp,a,ziq ha,hy⟩
  ·rcases ze6 hi with hi|⟨hl,rfl⟩<;>rcases ze6 hj with hj|⟨hl2,rfl⟩
   ·exact h.mono i j b c hij hi hj
   ·exact(h.tm i b hi).1
   ·have:=(xe.1 hj).1;omega
   ·omega
  ·rcases ze6 hi with hi'|⟨rfl,rfl⟩
   ·clear hi;have hi:=hi';by_cases he:9*i+q<9*k+p
    ·obtain⟨j,c,h1,h2,h3⟩:=h.ev i b q z hi hq hz he;exact⟨j,c,ziq h1,h2,h3⟩
    ·have:i=k/\q=p:=by omega
     obtain⟨rfl,rfl⟩:=this;rw[ha]at hi;cases hi;rw[hy]at hz;cases hz;exact⟨L.length,⟨y,i,q⟩,by simp,rfl,.inr (by simp)⟩
   ·omega
theorem zfq {nx:SiD->Nat->Option SiD}{k i:Nat}{s:SiD}{L:List (TS SiD)}{a:TS SiD}(h:L[i]?=some a):∀ p,(tin nx k s p L)[i]?=some a
 |0=>h
 |p+1=>by
  rw[tin];split
  ·exact yado (zfq h p)
  ·exact zfq h p
theorem TInv.tin {nx:SiD->Nat->Option SiD}{L:List (TS SiD)}{k:Nat}{a:TS SiD}(h:TInv nx L (9*k))(ha:L[k]?=some a):∀ p,p<=9->TInv nx (tin nx k a.now p L) (9*k+p)
 |0,_=>h
 |p+1,hp=>by
  have ih:=TInv.tin h ha p (by omega);rw[Go.Proofs.YtkkekopomiehlabGreatDoor.tin];split
  ·rename_i y hy;exact ih.step (zfq ha p) (by omega) hy
  ·rename_i hy;exact ih.skip (zfq ha p) (by omega) hy
theorem yad4 {nx:SiD->Nat->Option SiD}{s0:SiD}{k i:Nat}{a:TS SiD}(h:(tou nx s0 k)[i]?=some a):(tou nx s0 (k+1))[i]?=some a:=by
 rw[tou];split
 ·exact zfq h 9
 ·exact h
theorem ziy (nx:SiD->Nat->Option SiD)(s0:SiD):∀ k,k<=(tou nx s0 k).length->TInv nx (tou nx s0 k) (9*k)/\∀ j,j<=k->j<=(tou nx s0 j).length
 |0,h=>by
  refine⟨⟨fun i j a b hi hj _=>?_,fun j a hj=>by simp[tou]at hj,fun i j a b _ hi=>by simp[tou]at hi,fun i a p y _ _ _ ht=>by omega⟩,fun j hj=>by omega⟩;have h1:=(xe.1 hi).1;have h2:=(xe.1 hj).1;simp[tou]at h1 h2;omega
 |k+1,h=>by
  have hk:k<(tou nx s0 k).length:=by
   apply Nat.lt_of_not_le;intro hc;have:(tou nx s0 k)[k]?=none:=qn hc;rw[tou,this]at h;simp only at h;omega
  obtain⟨h1,h2⟩:=ziy nx s0 k (Nat.le_of_lt hk);obtain⟨a,ha⟩:∃ a,(tou nx s0 k)[k]?=some a:=⟨_,xf hk⟩;refine⟨?_,fun j hj=>?_⟩
  ·have:=h1.tin ha 9 (qe _);rw[tou,ha];simpa[Nat.mul_add]using this
  ·rcases Nat.lt_or_ge j (k+1)with hj'|hj'
   ·exact h2 j (by omega)
   ·have:j=k+1:=by omega
    subst this;exact h
end
end
section
section
variable {α:Type}
structure Way (L:List (TS α))(g D:Nat)(v:Nat->Nat):Prop where
 zero:v 0=0
 last:v D=g
 step:∀ t,t<D->0<v (t+1)/\v t<v (t+1)/\∃ a,L[v (t+1)]?=some a/\a.fr=v t
theorem yae1 {nx:α->Nat->Option α}{L:List (TS α)}{t:Nat}(h:TInv nx L t):∀ n g,g<=n->g<L.length->∃ D v,Way L g D v:=by
 intro n
 induction n with
 |zero=>exact fun g hg _=>⟨0,fun _=>0,rfl,by omega,fun t ht=>by omega⟩
 |succ n ih =>
  intro g hg hl;cases g with
  |zero=>exact⟨0,fun _=>0,rfl,rfl,fun t ht=>by omega⟩
  |succ g =>
   obtain⟨a,ha⟩:∃ a,L[g+1]?=some a:=⟨_,xf hl⟩;obtain⟨_,h2,_,_⟩:=h.tm g a ha;obtain⟨D,v,hv⟩:=ih a.fr (by omega) (by omega);refine⟨D+1,fun t=>if t<=D then v t else g+1,?_,?_,fun t ht=>?_⟩
   ·simp only[xv,if_true];exact hv.zero
   ·simp only[show ¬ D+1<=D by omega,if_false]
   ·by_cases htD:t<D
    ·simp only[show t<=D by omega,show t+1<=D by omega,if_true];exact hv.step t htD
    ·obtain rfl:t=D:=by omega
     simp only[qe,show ¬ t+1<=t by omega,if_true,if_false];exact⟨by omega,by rw[hv.last];exact h2,a,ha,hv.last.symm⟩
section
variable {nx:α->Nat->Option α}{L:List (TS α)}{E:List (Nat×Nat×Nat)}{G:Nat->Bool}{g D:Nat}{v:Nat->Nat}
end
end
section
variable {α:Type}{nx:α->Nat->Option α}{L:List (TS α)}{E:List (Nat×Nat×Nat)}{G:Nat->Bool}{g D:Nat}{v:Nat->Nat}
end
end
section
theorem zpp:∀ (N:Nat) (l:List Nat),l.Nodup->(∀ x∈l,x<N)->l.length<=N
 |0,[],_,_=>qe _
 |0,a::l,_,h=>absurd (h a (by simp)) (Nat.not_lt_zero _)
 |N+1,l,hn,h=>by
  have h1:=zpp N (l.erase N) (hn.erase N) fun x hx=>by
   have:=(hn.mem_erase_iff).1 hx;have:=h x this.2;omega
  rw[List.length_erase]at h1;split at h1<;>omega
theorem zyk {l:List Nat}(h:∀ (i j:Nat) (a:Nat),l[i]?=some a->l[j]?=some a->i=j):l.Nodup:=by
 unfold List.Nodup;rw[List.pairwise_iff_getElem];intro i j hi hj hij he;have:=h i j l[j] (by rw[xf hi,he]) (xf hj);omega
def bitC:List Bool->Nat
 |[]=>0
 |b::l=>(if b=true then 1 else 0)+2*bitC l
theorem zf2:∀ l,bitC l<2 ^ l.length
 |[]=>by simp[bitC]
 |b::l=>by
  have:=zf2 l;rw[bitC,List.length_cons,Nat.pow_succ];split<;>omega
theorem zjq:∀ (l m:List Bool),l.length=m.length->bitC l=bitC m->l=m
 |[],[],_,_=>rfl
 |[],a::m,h,_=>by simp at h
 |a::l,[],h,_=>by simp at h
 |a::l,b::m,h,he=>by
  rw[bitC,bitC]at he;have h1:bitC l=bitC m:=by split at he<;>split at he<;>omega
  have h2:a=b:=by cases a<;>cases b<;>simp at he ⊢<;>omega
  rw[h2,zjq l m (by simpa using h) h1]
section
variable {α:Type}
theorem TInv.len {P:α->Prop}{nx:α->Nat->Option α}{L:List (TS α)}{t N:Nat}(h:TInv nx L t)(hP:∀ (j:Nat) (a:TS α),L[j]?=some a->P a.now)(code:α->Nat)(hinj:∀ x y,P x->P y->code x=code y->x=y)(hlt:∀ x,P x->code x<N):L.length<=N:=by
 have:=zpp N (L.map fun t=>code t.now) (zyk fun i j a hi hj=>by
  rw[xm,Option.map_eq_some_iff]at hi hj;obtain⟨x,hx,hxa⟩:=hi;obtain⟨y,hy,hya⟩:=hj;exact h.nd i j x y hx hy (hinj _ _ (hP i x hx) (hP j y hy) (hxa.trans hya.symm))) fun c hc=>by
   obtain⟨x,hx,rfl⟩:=List.mem_map.1 hc;obtain⟨j,hj⟩:=qf hx;exact hlt _ (hP j x hj)
 rwa [xp]at this
end
section
theorem yadn {P:SiD->Prop}{k p:Nat}{L:List (TS SiD)}{y:SiD}(h:∀ (j:Nat) (a:TS SiD),L[j]?=some a->P a.now)(hy:P y):∀ (j:Nat) (a:TS SiD),(tins k L p y)[j]?=some a->P a.now:=by
 unfold tins;split
 ·exact h
 ·intro j a ha;rcases ze6 ha with ha|⟨_,rfl⟩
  ·exact h j a ha
  ·exact hy
theorem ziw {P:SiD->Prop}{nx:SiD->Nat->Option SiD}{k:Nat}{s:SiD}{L:List (TS SiD)}(hs:∀ s p y,P s->nx s p=some y->P y)(h0:P s)(h:∀ (j:Nat) (a:TS SiD),L[j]?=some a->P a.now):∀ p (j:Nat) (a:TS SiD),(tin nx k s p L)[j]?=some a->P a.now
 |0=>h
 |p+1=>by
  rw[tin];split
  ·rename_i y hy;exact yadn (ziw hs h0 h p) (hs s p y h0 hy)
  ·exact ziw hs h0 h p
theorem zix {P:SiD->Prop}{nx:SiD->Nat->Option SiD}{s0:SiD}(h0:P s0)(hs:∀ s p y,P s->nx s p=some y->P y):∀ k (j:Nat) (a:TS SiD),(tou nx s0 k)[j]?=some a->P a.now
 |0=>fun j a ha=>by
  have hj:=(xe.1 ha).1;simp[tou]at hj;subst hj;simp[tou]at ha;rw[<- ha];exact h0
 |k+1=>by
  rw[tou];split
  ·rename_i a ha;exact ziw hs (zix h0 hs k k a ha) (zix h0 hs k) 9
  ·exact zix h0 hs k
end
end
section
open Go.RowKit
open Go.Lib (below_setCells)
theorem zop {P:Program}(w:World)(d:Nat){e:TypeId}(he:P.underlying e=some .bool)(xs ys:List Bool):∀ (is:List Nat),(∀ i∈is,i<xs.length/\i<ys.length) ->
  (ud (d+1) e 1 (xs.map Value.bool).toArray (ys.map Value.bool).toArray is).run P w=.ok (is.all fun i=>xs.getD i false == ys.getD i false) w
 |[],_=>by simp[ud]
 |i::is,h=>by
  obtain⟨h1,h2⟩:=h i (by simp);have ih:=zop w d he xs ys is (fun j hj=>h j (by simp[hj]));have hp:P.plainKey e=true:=by simp[Program.plainKey,he]
  have p1:=run_part_plain (P:=P) w hp (xs:=(xs.map Value.bool).toArray) (off:=i*1) (v:=.bool xs[i]) (by simp[h1]);have p2:=run_part_plain (P:=P) w hp (xs:=(ys.map Value.bool).toArray) (off:=i*1) (v:=.bool ys[i]) (by simp[h2]);have e1:xs.getD i false=xs[i]:=by simp[ue,h1]
  have e2:ys.getD i false=ys[i]:=by simp[ue,h2]
  simp only[ud,Sem.run_bind,p1,p2,Result.andThen_ok,run_equalIn_bool w d e _ _ he,List.all_cons,e1,e2];cases hb:xs[i] == ys[i] with
  |true=>simpa using ih
  |false=>simp
theorem zue {xs ys:List Bool}(hx:xs.length=9)(hy:ys.length=9):((qm 9).all fun i=>xs.getD i false == ys.getD i false)=decide (xs=ys):=by
 by_cases h:xs=ys
 ·subst h;simp
 ·rw[decide_eq_false h];cases hc:(qm 9).all fun i=>xs.getD i false == ys.getD i false with
  |false=>rfl
  |true =>
   refine absurd (List.ext_getElem (by omega) fun i h1 h2=>?_) h;have:=List.all_eq_true.1 hc i (qh.2 (by omega));simpa[ue,h1,h2]using this
theorem Tryz.cellsBool:Tryz.prog.cellsOf 4=1:=by kernel_rfl
theorem Tryz.infoB:∃ i,Tryz.prog.info? 4=some i:=info_of_underlying Tryz.underlying4
theorem zll (w:World)(d:Nat){xs ys:List Bool}(hx:xs.length=9)(hy:ys.length=9) :
  (uc (d+2) 111 (.agg (xs.map Value.bool).toArray) (.agg (ys.map Value.bool).toArray)).run Tryz.prog w=.ok (decide (xs=ys)) w:=by
 obtain⟨i,hi⟩:=Tryz.infoB;rw[run_equalIn_array w (d+1) _ _ Tryz.underlying111 hi,Tryz.cellsBool,zop w d Tryz.underlying4 xs ys _ (fun j hj=>by have:=qh.1 hj;omega),zue hx hy]
theorem Tryz.infoSet2:∃ i,Tryz.prog.info? 111=some i:=info_of_underlying Tryz.underlying111
theorem Tryz.cellsSet:Tryz.prog.cellsOf 111=9:=by kernel_rfl
theorem zk4 (w:World){cs:Array Value}{off:Nat}:(part 111 cs off).run Tryz.prog w=.ok (.agg (cs.extract off (off+9))) w:=by
 obtain⟨i,hi⟩:=Tryz.infoSet2;simp[part,isAgg,run_underlying Tryz.underlying111,run_sizeOf w hi,Tryz.cellsSet]
theorem zry {s:SiD}(h:s.ok):s.cells.toArray.extract 0 9=(s.has.map Value.bool).toArray/\s.cells.toArray.extract 9 18=(s.had.map Value.bool).toArray:=by
 obtain⟨h1,h2⟩:=h;unfold SiD.cells;rw[List.map_append];constructor
 ·apply ua.1;rw[qp];simp[List.extract,h1]
 ·apply ua.1;rw[qp];simp[List.extract,h1];exact qk (by simp[h2])
theorem yaea {α:Type}{l:List α}(h:l.length=2):∃ f g,l=[f,g]:=by
 match l,h with
 |[f,g],_=>exact⟨f,g,rfl⟩
theorem yacl (w:World)(d:Nat){s t:SiD}(hs:s.ok)(ht:t.ok) :
  (uc (d+3) 177 (.agg s.cells.toArray) (.agg t.cells.toArray)).run Tryz.prog w=.ok (zg0 s t) w:=by
 have hm : (Tryz.prog.fieldsOf 177).toList.map (fun f => (f.name, f.type, f.offset)) = [("has", 111, 0), ("had", 111, 9)] := by kernel_rfl
 have hu:Tryz.prog.underlying 177=some (.struct (Tryz.prog.fieldsOf 177)):=by kernel_rfl
 rw [run_equalIn_struct w (d + 2) 177 _ _ hu (by kernel_rfl)];generalize (Tryz.prog.fieldsOf 177).toList = l at hm;obtain ⟨f,g,rfl⟩:=yaea (by simpa using congrArg List.length hm);simp only [List.map_cons,List.map_nil,List.cons.injEq,Prod.mk.injEq,and_true] at hm;obtain ⟨⟨f1,f2,f3⟩,g1,g2,g3⟩:=hm;have hn1 : f.name ≠ "_" := by rw [f1]; decide
 have hn2 : g.name ≠ "_" := by rw [g1]; decide
 obtain⟨c1,c2⟩:=zry hs;obtain⟨d1,d2⟩:=zry ht;have p1:=zk4 w (cs:=s.cells.toArray) (off:=9);have p2:=zk4 w (cs:=t.cells.toArray) (off:=9);rw[show 9+9=18 from rfl,c2]at p1;rw[show 9+9=18 from rfl,d2]at p2;simp only[Op.eqFields,if_pos hn1,if_pos hn2,f2,f3,g2,g3,Sem.run_bind,zk4,qd,c1,d1,zll w d hs.1 ht.1,Result.andThen_ok];unfold zg0;have q:=zll w d hs.2 ht.2;cases decide (s.has=t.has) with
 |false=>simp
 |true =>
  simp only[Bool.not_true,Bool.false_eq_true,if_false,Sem.run_bind,p1,p2,q,Result.andThen_ok,Bool.true_and];cases decide (s.had=t.had)<;>simp
theorem zi4 {P:Program}{ops:Array Oper}{rest:List Oper}{op:Oper}{a:Act}{w:World}{Q:Exit->Act->World->Prop}(hgd:op.guard=none)(t u:TypeId)(x y:Operand)(ho:op.op=.binOp .eql t x y u)(xs ys:Array Value)(hx:a.eval x=.agg xs)(hy:a.eval y=.agg ys)(hm:P.eqGuardType P.depth t=false)(r:Bool)(he:(uc 10000 t (.agg xs) (.agg ys)).run P w=.ok r w)
  (h:wpList P ops Q rest (a.put op.dst (.bool r)) w):wpList P ops Q (op::rest) a w:=by
 refine wpList_plain hgd fun K hK=>?_;unfold Oper.wp execOp;simp only[ho,hx,hy,Sem.run_bind,run_eqGuard_agg w .eql t x y xs ys hm,run_eql_struct w t xs ys,he,Result.andThen_ok,Sem.run_pure];exact hK _ _ h
end
end Go.Proofs.YtkkekopomiehlabGreatDoor
