import Derived.Test.YtkkekopomiehlabGreatDoorERd9
set_option linter.unusedVariables false
set_option linter.unusedSimpArgs false
set_option maxHeartbeats 40000000
open Go.World.ownsRow renaming lt->xe
open List renaming getElem?_eq_getElem->xf,replicate->xg,mem_of_getElem?->xm
open Go.World renaming news_of_block->xh,ownsRow_nil->xo
open Go.Value renaming oneCell'->xj
open Nat renaming zero_le->xp
open Go.RowKit
set_option maxRecDepth 4000
namespace Go.Proofs.YtkkekopomiehlabGreatDoor
section
variable {w0 w W:World}{L:Nat->Nat}{gb r:Nat}{b:zav}
theorem yacy {x:StD}(hx:x.k=1)(hok:zhh b.P)(hbt:0<=b.ti/\b.ti<=3000000000)(hz:w0.heap.size<=gb)(h:BookE w0 w L gb r b):Calls Tryz.prog 23 #[.pointer (some ⟨gb,0,none⟩),stV x] w fun e W=>e=.returned (.bool true)/\∃ L',BookE w0 W L' gb r { b with P:=tckP b.P,ti:=b.ti+1 }:=by
 have c1:=fun (W:World) (hb:Below w.heap.size w W)=>(zk9 hok (h.keep hb).x.2.2.2).mono fun e W' q=>(⟨q.1,(h.keep hb).turn q.2⟩:e=Ending.returned (.tuple #[])/\∃ L2,BookE w0 W' L2 gb r { b with P:=tckP b.P });have k5:=h.y.1;have hlt:=h.y.2.2.2;obtain⟨Q,hQ⟩:∃ Q:World->Prop,Q=fun W=>∃ L',BookE w0 W L' gb r { b with P:=tckP b.P,ti:=b.ti+1 }:=⟨_,rfl⟩;show Calls _ _ _ _ fun e W=>e=.returned (.bool true)/\(fun W=>∃ L',BookE w0 W L' gb r { b with P:=tckP b.P,ti:=b.ti+1 }) W;rw[<- hQ];have HQ:Hid (∀ W L',BookE w0 W L' gb r { b with P:=tckP b.P,ti:=b.ti+1 }->Q W):=by
  show ∀ _,_;rw[hQ];exact fun W L' h=>⟨L',h⟩
 clear hQ h hok;unfold stV;rw[hx];clear hx
 go_enter Tryz.func23,Tryz.ntmps23
 go_wp2_with (first
  |(go_at_call 55;refine(c1 _ (bel1 _ _)).mono ?_;rintro e w2 ⟨rfl,L2,hB⟩;have HB:=zaa hB;obtain⟨x5,x6,y6,_⟩:=hB.x;clear hB))
 go_ret;exact⟨rfl,HQ.out _ L2 (HB.out.tick hz (b.ti+1))⟩
theorem yacp {x:StD}{Q:World->Prop}(hx:x.k=6)(h:BookE w0 w L gb r b)
  (c1:∀ W,Below w.heap.size w W->Calls Tryz.prog 61 #[.pointer (some ⟨gb,0,none⟩)] W fun e W=>e=.returned (.bool true)/\Q W) :
  Calls Tryz.prog 23 #[.pointer (some ⟨gb,0,none⟩),stV x] w fun e W=>e=.returned (.bool true)/\Q W:=by
 have hlt:=h.y.2.2.2;have k5:=h.y.1;clear h;unfold stV;rw[hx];clear hx
 go_enter Tryz.func23,Tryz.ntmps23
 go_wp2_with (first|(go_at_call 61;refine(c1 _ (bel1 _ _)).mono ?_;rintro e w2 ⟨rfl,hq⟩))
 go_ret;exact⟨rfl,hq⟩
theorem yacx {x:StD}{Q:World->Prop}(hx:x.k=9)(h:BookE w0 w L gb r b)
  (c1:∀ W,Below w.heap.size w W->Calls Tryz.prog 29 #[.pointer (some ⟨gb,0,none⟩)] W fun e W=>e=.returned (.bool true)/\Q W) :
  Calls Tryz.prog 23 #[.pointer (some ⟨gb,0,none⟩),stV x] w fun e W=>e=.returned (.bool true)/\Q W:=by
 have hlt:=h.y.2.2.2;have k5:=h.y.1;clear h;unfold stV;rw[hx];clear hx
 go_enter Tryz.func23,Tryz.ntmps23
 go_wp2_with (first|(go_at_call 29;refine(c1 _ (bel1 _ _)).mono ?_;rintro e w2 ⟨rfl,hq⟩))
 go_ret;exact⟨rfl,hq⟩
theorem yacq {x:StD}{Q:World->Prop}(hx:x.k=11)(h:BookE w0 w L gb r b)
  (c1:∀ W,Below w.heap.size w W->Calls Tryz.prog 12 #[.pointer (some ⟨gb,0,none⟩)] W fun e W=>e=.returned (.bool true)/\Q W) :
  Calls Tryz.prog 23 #[.pointer (some ⟨gb,0,none⟩),stV x] w fun e W=>e=.returned (.bool true)/\Q W:=by
 have hlt:=h.y.2.2.2;have k5:=h.y.1;clear h;unfold stV;rw[hx];clear hx
 go_enter Tryz.func23,Tryz.ntmps23
 go_wp2_with (first|(go_at_call 12;refine(c1 _ (bel1 _ _)).mono ?_;rintro e w2 ⟨rfl,hq⟩))
 go_ret;exact⟨rfl,hq⟩
theorem yacs {x:StD}{Q:World->Prop}(hx:x.k=8)(h:BookE w0 w L gb r b)
  (c1:∀ W,Below w.heap.size w W->Calls Tryz.prog 32 #[.pointer (some ⟨r,0,none⟩)] W fun e W=>e=.returned (.tuple #[])/\Q W) :
  Calls Tryz.prog 23 #[.pointer (some ⟨gb,0,none⟩),stV x] w fun e W=>e=.returned (.bool true)/\Q W:=by
 have hlt:=h.y.2.2.2;have k5:=h.y.1;clear h;unfold stV;rw[hx];clear hx
 go_enter Tryz.func23,Tryz.ntmps23
 go_wp2_with (first|(go_at_call 32;refine(c1 _ (bel1 _ _)).mono ?_;rintro e w2 ⟨rfl,hq⟩))
 go_ret;exact⟨rfl,hq⟩
theorem yacw {x:StD}{Q:World->Prop}(hx:x.k=7)(h:BookE w0 w L gb r b)
  (c1:∀ W,Below w.heap.size w W->Calls Tryz.prog 28 #[.pointer (some ⟨r,0,none⟩),.bool (decide (x.a=1))] W fun e W=>(∃ n,e=.returned (.int .i64 n))/\Q W) :
  Calls Tryz.prog 23 #[.pointer (some ⟨gb,0,none⟩),stV x] w fun e W=>e=.returned (.bool true)/\Q W:=by
 have hlt:=h.y.2.2.2;have k5:=h.y.1;clear h;unfold stV;rw[hx];clear hx
 go_enter Tryz.func23,Tryz.ntmps23
 generalize x.a=xa at *
 go_wp2_with fail
 go_region_with (go_at_call 28;refine(c1 _ (bel1 _ _).drew).mono ?_;rintro e w2 ⟨⟨n,rfl⟩,hq⟩)
 all_goals
  go_wp2_with fail
  go_ret;exact⟨rfl,hq⟩
theorem yact {x:StD}{Q:World->Prop}(hx:x.k=2)(ha:-9223372036854775808<=x.a/\x.a<=9223372036854775807)(hl:b.P.ms.length<=40)(h:BookE w0 w L gb r b)
  (c2:∀ (k:Int) W,Below w.heap.size w W->Calls Tryz.prog 57 #[.pointer (some ⟨r,0,none⟩),.int .i64 k] W fun e W=>(∃ n,e=.returned (.int .i64 n))/\Q W) :
  Calls Tryz.prog 23 #[.pointer (some ⟨gb,0,none⟩),stV x] w fun e W=>e=.returned (.bool true)/\Q W:=by
 have c1:=fun (W:World) (hb:Below w.heap.size w W)=>zjr x.a ha hl (h.keep hb);have K5:Hid (∀ W,Below w.heap.size w W->W.cell? ⟨gb,5,none⟩=some (.pointer (some ⟨r,0,none⟩))):=fun W hb=>(h.keep hb).y.1;have hlt:=h.y.2.2.2;have HB:Hid (∀ {W W':World},Below w.heap.size w W->Below W.heap.size W W'->Below w.heap.size w W'):=fun a b=>a.trans (b.mono a.size);clear h ha hl;unfold stV;rw[hx];clear hx;generalize x.a=xa at *
 go_enter Tryz.func23,Tryz.ntmps23
 go_wp2_with (first
  |(go_at_call 56;refine(c1 _ (bel1 _ _)).mono ?_;rintro e w2 ⟨⟨k,rfl⟩,hb2⟩;have hbb:=HB.out (bel1 _ _) hb2;have k5:=K5.out _ hbb)
  |(go_at_call 57;refine(c2 k _ hbb).mono ?_;rintro e w3 ⟨⟨n,rfl⟩,hq⟩))
 go_ret;exact⟨rfl,hq⟩
theorem yacu {x:StD}{Q:World->Prop}(hx:x.k=3)(ha:-9223372036854775808<=x.a/\x.a<=9223372036854775807)(hl:b.P.ms.length<=40)(h:BookE w0 w L gb r b)
  (c2:∀ (k:Int) W,Below w.heap.size w W->Calls Tryz.prog 58 #[.pointer (some ⟨r,0,none⟩),.int .i64 k] W fun e W=>(∃ n,e=.returned (.int .i64 n))/\Q W) :
  Calls Tryz.prog 23 #[.pointer (some ⟨gb,0,none⟩),stV x] w fun e W=>e=.returned (.bool true)/\Q W:=by
 have c1:=fun (W:World) (hb:Below w.heap.size w W)=>zjr x.a ha hl (h.keep hb);have K5:Hid (∀ W,Below w.heap.size w W->W.cell? ⟨gb,5,none⟩=some (.pointer (some ⟨r,0,none⟩))):=fun W hb=>(h.keep hb).y.1;have hlt:=h.y.2.2.2;have HB:Hid (∀ {W W':World},Below w.heap.size w W->Below W.heap.size W W'->Below w.heap.size w W'):=fun a b=>a.trans (b.mono a.size);clear h ha hl;unfold stV;rw[hx];clear hx;generalize x.a=xa at *
 go_enter Tryz.func23,Tryz.ntmps23
 go_wp2_with (first
  |(go_at_call 56;refine(c1 _ (bel1 _ _)).mono ?_;rintro e w2 ⟨⟨k,rfl⟩,hb2⟩;have hbb:=HB.out (bel1 _ _) hb2;have k5:=K5.out _ hbb)
  |(go_at_call 58;refine(c2 k _ hbb).mono ?_;rintro e w3 ⟨⟨n,rfl⟩,hq⟩))
 go_ret;exact⟨rfl,hq⟩
theorem yacr {x:StD}{Q:World->Prop}(hx:x.k=4)(ha:-9223372036854775808<=x.a/\x.a<=9223372036854775807)(hl:b.P.ms.length<=40)(h:BookE w0 w L gb r b)
  (c2:∀ (k:Int) W,Below w.heap.size w W->Calls Tryz.prog 59 #[.pointer (some ⟨r,0,none⟩),.int .i64 k] W fun e W=>(∃ n,e=.returned (.int .i64 n))/\Q W) :
  Calls Tryz.prog 23 #[.pointer (some ⟨gb,0,none⟩),stV x] w fun e W=>e=.returned (.bool true)/\Q W:=by
 have c1:=fun (W:World) (hb:Below w.heap.size w W)=>zjr x.a ha hl (h.keep hb);have K5:Hid (∀ W,Below w.heap.size w W->W.cell? ⟨gb,5,none⟩=some (.pointer (some ⟨r,0,none⟩))):=fun W hb=>(h.keep hb).y.1;have hlt:=h.y.2.2.2;have HB:Hid (∀ {W W':World},Below w.heap.size w W->Below W.heap.size W W'->Below w.heap.size w W'):=fun a b=>a.trans (b.mono a.size);clear h ha hl;unfold stV;rw[hx];clear hx;generalize x.a=xa at *
 go_enter Tryz.func23,Tryz.ntmps23
 go_wp2_with (first
  |(go_at_call 56;refine(c1 _ (bel1 _ _)).mono ?_;rintro e w2 ⟨⟨k,rfl⟩,hb2⟩;have hbb:=HB.out (bel1 _ _) hb2;have k5:=K5.out _ hbb)
  |(go_at_call 59;refine(c2 k _ hbb).mono ?_;rintro e w3 ⟨⟨n,rfl⟩,hq⟩))
 go_ret;exact⟨rfl,hq⟩
end
theorem yacv {w:World}{gb:Nat}{x:StD}(hx:x.k<1\/11<x.k):Calls Tryz.prog 23 #[.pointer (some ⟨gb,0,none⟩),stV x] w fun e W=>e=.returned (.bool true)/\Below w.heap.size w W:=by
 unfold stV;generalize x.k=k at *;have h1:¬ k=1:=by omega
 have h2:¬ k=2:=by omega
 have h3:¬ k=3:=by omega
 have h4:¬ k=4:=by omega
 have h5:¬ k=5:=by omega
 have h6:¬ k=6:=by omega
 have h7:¬ k=7:=by omega
 have h8:¬ k=8:=by omega
 have h9:¬ k=9:=by omega
 have h10:¬ k=10:=by omega
 have h11:¬ k=11:=by omega
 clear hx
 go_enter Tryz.func23,Tryz.ntmps23
 go_wp2_with fail
 go_ret;exact⟨rfl,bel1 _ _⟩
section
variable {w0 w W:World}{L:Nat->Nat}{gb r:Nat}{b:zav}
theorem yacz {x:StD}{Q:World->Prop}{v:SvcD}(hx:x.k=10)(ha:-9223372036854775808<=x.a/\x.a<=9223372036854775807)(hb:-9223372036854775808<=x.b/\x.b<=9223372036854775807)(hl0:0<b.f.vs.length)(hl:b.f.vs.length<=2000000)(hv:b.f.vs[pckN x.a b.f.vs.length]?=some v){z:Nat}(hvz:v.size=z)(hz0:0<z)(hz:z<=2000000)(h:BookE w0 w L gb r b)
  (c3:∀ W,Below w.heap.size w W->Calls Tryz.prog 24 #[.pointer (some ⟨gb,0,none⟩),.int .i64 (pckN x.a b.f.vs.length:Nat),.int .i64 (pckN x.b z:Nat)] W fun e W=>e=.returned (.bool true)/\Q W) :
  Calls Tryz.prog 23 #[.pointer (some ⟨gb,0,none⟩),stV x] w fun e W=>e=.returned (.bool true)/\Q W:=by
 have c1:=fun W=>zcj x.a b.f.vs.length ha hl0 hl W;have c2:=fun W=>zcj x.b z hb hz0 hz W;have hlt:=h.y.2.2.2;obtain⟨va,ma,vc,mc,hV⟩:=h.v;have hsl:=zbn x.a hl0;obtain⟨bk,o,ra,rl,rc,hva,_⟩:=(hV w (Below.refl _ _)).1.vs _ v hv;subst hva;have HV:Hid (∀ W,Below w.heap.size w W->W.cell? ⟨gb,2,none⟩=some (.slice (some ⟨bk,o,none⟩) b.f.vs.length vc)/\W.cell? ⟨bk,o+pckN x.a b.f.vs.length*4,none⟩=some (.int .i64 z)):=by
  show ∀ _,_;intro W hbb;refine⟨(hV W hbb).1.x2,?_⟩;obtain⟨bk',o',ra',rl',rc',hq,d0,_⟩:=(hV W hbb).1.vs _ v hv;obtain⟨rfl,rfl⟩:bk=bk'/\o=o':=by simpa using hq
  rw[<- hvz];exact d0
 clear hV h hv hvz;generalize pckN x.a b.f.vs.length=s at *;generalize pckN x.b z=i at *;generalize b.f.vs.length=n at *;have hs0 := znn s;have hs1:(s:Int)<(n:Int):=by omega
 unfold stV;rw[hx];clear hx ha hb;obtain⟨w1,hw1⟩:∃ w1,w1=w.alloc (.cells #[.int .i64 10,.int .i64 x.a,.int .i64 x.b,.int .i64 x.c,.string x.s] 66):=⟨_,rfl⟩;have HB1:Hid (Below w.heap.size w w1):=by rw[hw1];exact bel1 _ _
 have R1:RowIs w1 w.heap.size 66 [.int .i64 10,.int .i64 x.a,.int .i64 x.b,.int .i64 x.c,.string x.s]:=by rw[hw1];exact zal _ _
 have m1:w1.cell? ⟨w.heap.size,1,none⟩=some (.int .i64 x.a):=R1.cell (j:=1) rfl;have m2:w1.cell? ⟨w.heap.size,2,none⟩=some (.int .i64 x.b):=R1.cell (j:=2) rfl;clear R1;obtain⟨n2,n3⟩:=HV.out w1 HB1.out;generalize x.a=xa at *;generalize x.b=xb at *;have HW:=zaa hw1;clear hw1
 go_enter Tryz.func23,Tryz.ntmps23
 go_wp2_with fail
 rw[<- HW.out];clear HW;generalize w.heap.size=gx at *
 go_quiet ((go_at_call 42;exact Calls.quiet_of_same ((c1 _).mono fun e W q=>⟨q.1,q.2.symm⟩)))
 go_wp2_with fail
 have HB5:Hid (Below gx w (w1.drewN nq)):=⟨HB1.out.os,HB1.out.tape,HB1.out.output,HB1.out.size,HB1.out.block⟩;have p2:(w1.drewN nq).cell? ⟨gx,2,none⟩=some (.int .i64 xb):=m2;have p3:(w1.drewN nq).cell? ⟨gb,2,none⟩=some (.slice (some ⟨bk,o,none⟩) n vc):=n2;have p4:(w1.drewN nq).cell? ⟨bk,o+s*4,none⟩=some (.int .i64 z):=n3;generalize w1.drewN nq=w5 at *;clear m1 m2 n2 n3 HB1 c1 HV;have HD:Hid (∀ W,Below gx w W->Below gx w W.drew):=fun W h=>h.drew
 go_region_with (first
  |(go_at_call 42;refine(c2 _).mono ?_;rintro e _ ⟨rfl,rfl⟩)
  |(go_at_call 24;refine(c3 _ (by first|exact HB5.out.drew|exact HB5.out)).mono ?_;rintro e w9 ⟨rfl,hq⟩))
 all_goals
  go_wp2_with fail
  go_ret;exact⟨rfl,hq⟩
end
section
def Std (w0:World)(gb r:Nat)(f:zac)(ms:List (Int×Int))(tale:Bool)(N:Int)(W:World):Prop:=∃ b L,BookE w0 W L gb r b/\Inv N b/\b.f=f/\b.ms=ms/\b.tale=tale
variable {w0 w W:World}{L:Nat->Nat}{gb r:Nat}{f:zac}{ms:List (Int×Int)}{tale:Bool}{N:Int}
theorem Std.keep (h:Std w0 gb r f ms tale N w)(hb:Below w.heap.size w W):Std w0 gb r f ms tale N W:=by
 obtain⟨b,L,h1,h2⟩:=h;exact⟨b,L,h1.keep hb,h2⟩
theorem Std.mono (h:Std w0 gb r f ms tale N w){M:Int}(hn:N<=M):Std w0 gb r f ms tale M w:=by
 obtain⟨b,L,h1,h2,h3⟩:=h;exact⟨b,L,h1,h2.mono hn,h3⟩
theorem zg1 {f:zac}(ho:Ord f){s:Nat}{v:SvcD}(hv:f.vs[s]?=some v):1<=v.size/\v.size<=3:=by
 have:=ho.svc v (xm hv);unfold svcB numB at this;simp only[Bool.and_eq_true,decide_eq_true_eq]at this;omega
theorem zr2 {x:StD}(ha:-9223372036854775808<=x.a/\x.a<=9223372036854775807)(hb:-9223372036854775808<=x.b/\x.b<=9223372036854775807)(hN:N<=3000000000)(hz:w0.heap.size<=gb)(h:Std w0 gb r f ms tale N w)
  (hV:∀ (s:Nat) v (i:Nat) W,f.vs[s]?=some v->(i:Int)<v.size->Std w0 gb r f ms tale N W->VwOk W gb s i)
  (hP:∀ W,x.k=5->Std w0 gb r f ms tale N W->Calls Tryz.prog 23 #[.pointer (some ⟨gb,0,none⟩),stV x] W fun e W'=>e=.returned (.bool true)/\Std w0 gb r f ms tale (N+1) W') :
  Calls Tryz.prog 23 #[.pointer (some ⟨gb,0,none⟩),stV x] w fun e W=>e=.returned (.bool true)/\Std w0 gb r f ms tale (N+1) W:=by
 have hstd:=h;obtain⟨b,L,hB,hI,rfl,rfl,rfl⟩:=h;have ho:=zb3 hI.sf.ob;have hmo:=zph hI.pi hI.ex hI.bn hN;have hto:=zlu hI.pi hI.bn hN;have hti:=hI.bn.ti;have hbt:0<=b.ti/\b.ti<=3000000000:=by rw[hI.ti];omega
 have hr6:=hI.ex.r6;have hr0:=hI.ex.r0;have hl40:=hI.ex.l40;have hst:∀ {W':World} {P':zad} {M:Int},M<=N+1->Inv M { b with P:=P' }->(∃ L',BookE w0 W' L' gb r { b with P:=P' })->Std w0 gb r b.f b.ms b.tale (N+1) W':=fun {W' P' M} hM hi hB'=>by
  obtain⟨L',hB'⟩:=hB';exact⟨_,L',hB',hi.mono hM,rfl,rfl,rfl⟩
 by_cases k1:x.k=1
 ·refine(yacy k1 hto hbt hz hB).mono ?_;rintro e W ⟨rfl,L',hB'⟩;exact⟨rfl,_,L',hB',hI.tck,rfl,rfl,rfl⟩
 by_cases k2:x.k=2
 ·refine yact k2 ha hl40 hB fun k W hbw=>?_;obtain⟨sa,ta,va,ma,sl,sc,tl,tc,vl,vc,mc,nv,hM⟩:=hB.keep hbw;refine(zl4 k hmo hM.run).mono ?_;rintro e W' ⟨rfl,ht⟩;exact⟨⟨_,rfl⟩,hst (by omega) (hI.del k) ((hB.keep hbw).turn ht)⟩
 by_cases k3:x.k=3
 ·refine yacu k3 ha hl40 hB fun k W hbw=>?_;obtain⟨sa,ta,va,ma,sl,sc,tl,tc,vl,vc,mc,nv,hM⟩:=hB.keep hbw;refine(ztg k hl40 hM.run).mono ?_;rintro e W' ⟨he,ht⟩;exact⟨he,hst (by omega) (hI.drp k) ((hB.keep hbw).turn ht)⟩
 by_cases k4:x.k=4
 ·refine yacr k4 ha hl40 hB fun k W hbw=>?_;obtain⟨sa,ta,va,ma,sl,sc,tl,tc,vl,vc,mc,nv,hM⟩:=hB.keep hbw;refine(ztf k hM.run).mono ?_;rintro e W' ⟨he,ht⟩;exact⟨he,hst (by omega) (hI.cpy k) ((hB.keep hbw).turn ht)⟩
 by_cases k5:x.k=5
 ·exact hP w k5 hstd
 by_cases k6:x.k=6
 ·refine yacp k6 hB fun W hbw=>?_;have h4:=hI.pi.sh.p0;have h5:=hI.pi.sh.pn;have h6:(zb8 b.f b.ms).n=b.ms.length:=rfl;have h7:=hI.sf.l200;refine(zuk hI.pi (by omega) hI.ab hz (hB.keep hbw)).mono ?_;rintro e W' ⟨rfl,L',hB'⟩;exact⟨rfl,_,L',hB',hI.abt.mono (by omega),rfl,rfl,rfl⟩
 by_cases k7:x.k=7
 ·refine yacw k7 hB fun W hbw=>?_;obtain⟨sa,ta,va,ma,sl,sc,tl,tc,vl,vc,mc,nv,hM⟩:=hB.keep hbw;refine(zq4 _ hM.run).mono ?_;rintro e W' ⟨he,ht⟩;exact⟨he,hst (by omega) (hI.pau _) ((hB.keep hbw).turn ht)⟩
 by_cases k8:x.k=8
 ·refine yacs k8 hB fun W hbw=>?_;obtain⟨sa,ta,va,ma,sl,sc,tl,tc,vl,vc,mc,nv,hM⟩:=hB.keep hbw;refine(zq1 (by omega) hM.run).mono ?_;rintro e W' ⟨he,ht⟩;exact⟨he,hst (by omega) hI.crs ((hB.keep hbw).turn ht)⟩
 by_cases k9:x.k=9
 ·refine yacx k9 hB fun W hbw=>?_;refine(zk7 hI.pi hI.ex hI.bn hN hbt hz (hB.keep hbw)).mono ?_;rintro e W' ⟨rfl,L',hB'⟩;exact⟨rfl,_,L',hB',hI.qui,rfl,rfl,rfl⟩
 by_cases k10:x.k=10
 ·have hv1:=ho.vs1;have hv3:=ho.vs3;have hpl:pckN x.a b.f.vs.length<b.f.vs.length:=zbn _ (by omega);obtain⟨v,hv⟩:∃ v,b.f.vs[pckN x.a b.f.vs.length]?=some v:=⟨b.f.vs[pckN x.a b.f.vs.length]'hpl,xf _⟩;obtain⟨s1,s3⟩:=zg1 ho hv;have hz2:v.size=(v.size.toNat:Nat):=by omega
  have hp2:pckN x.b v.size.toNat<v.size.toNat:=zbn _ (by omega);refine yacz (Q:=fun W=>Std w0 gb r b.f b.ms b.tale (N+1) W) k10 ha hb (by omega) (by omega) hv hz2 (by omega) (by omega) hB fun W hbw=>?_;exact Calls.mono (hV _ v _ W hv (by omega) (hstd.keep hbw)) fun e W' q=>⟨q.1,((hstd.keep hbw).keep q.2).mono (by omega)⟩
 by_cases k11:x.k=11
 ·refine yacq (Q:=fun W=>Std w0 gb r b.f b.ms b.tale (N+1) W) k11 hB fun W hbw=>?_;have hv3:=ho.vs3;refine(zud (by omega) (fun v hv=>?_) (fun s v hv i hi W' hb'=>hV s v i W' hv hi ((hstd.keep hbw).keep hb')) (hB.keep hbw)).mono fun e W' q=>⟨q.1,((hstd.keep hbw).keep q.2).mono (by omega)⟩;obtain⟨s,hs⟩:=List.getElem?_of_mem hv;have:=(zg1 ho hs).2;omega
 ·refine(yacv (by omega)).mono ?_;rintro e W ⟨rfl,hbw⟩;exact⟨rfl,(hstd.keep hbw).mono (by omega)⟩
end
theorem nw3' (W:World)(a b c:Obj):(((W.alloc a).alloc b).alloc c).heap[W.heap.size+2]?=some c:=by
 have:=heap_alloc_new ((W.alloc a).alloc b) c;rw[show ((W.alloc a).alloc b).heap.size=W.heap.size+2 by simp]at this;exact this
theorem zzb {w:World}{b b' k k' n n':Nat}{e e':TypeId}{v v':Value}{xs xs':List Value}(h:w.ownsRow b e k v n xs)(h':w.ownsRow b' e' k' v' n' xs')(he:e≠e'):v.ownBlock=none\/v.ownBlock≠v'.ownBlock:=by
 rcases h.2 with⟨rfl,_⟩|⟨g,cap,cur,rfl,_,hg,_⟩
 ·exact .inl rfl
 ·right;intro q;rcases h'.2 with⟨rfl,_⟩|⟨g',cap',cur',rfl,_,hg',_⟩
  ·cases q
  ·have:g=g':=by simpa[Value.ownBlock]using q
   subst this;rw[hg]at hg';simp at hg';exact he hg'.2
def pinF (p:PinD):List Value:=[.int .i64 p.t,.int .i64 p.w,.int .i64 p.r]
def RelN (w:World)(B:Nat)(v:Value)(rels:List (List PinD)):Prop:=∃ pv:List Value,w.ownsRow B 106 1 v rels.length pv/\∀ (i:Nat) (ps:List PinD) (u:Value),rels[i]?=some ps->pv[i]?=some u->w.ownsRow B 165 3 u ps.length (ps.flatMap pinF)
theorem Tryz.infoInsK:(Tryz.prog.info? 266).map (fun i=>(i.zero,i.size,i.bytes))=some (some (.agg #[.int .i64 0,.int .i64 0]),2,16):=by kernel_rfl
theorem Tryz.infoPinK:(Tryz.prog.info? 165).map (fun i=>(i.zero,i.size,i.bytes))=some (some (.agg #[.int .i64 0,.int .i64 0,.int .i64 0]),3,24):=by kernel_rfl
theorem Tryz.infoPinSK:(Tryz.prog.info? 106).map (fun i=>(i.zero,i.size,i.bytes))=some (some (.slice none 0 0),1,24):=by kernel_rfl
theorem yabj (n:Int)(i:Nat):(xg (i+1) (⟨n,0⟩:InsD)).flatMap insF=(xg i (⟨n,0⟩:InsD)).flatMap insF++[.int .i64 n,.int .i64 0]:=by
 rw[List.replicate_succ',List.flatMap_append];simp[insF]
theorem yaca (v:SvcD)(z:Nat)(ra:Option Addr)(rl rc:Nat)(w:World)(hz:v.size=z)(hz3:z<=3)(hr:RelSl PinSl w ra rl rc v.rels)(hr3:v.rels.length<=3)(hp4:∀ ps∈v.rels,ps.length<=4) :
  Calls Tryz.prog 134 #[.agg #[.int .i64 v.size,.int .i64 v.now,.int .i64 v.want,.slice ra rl rc]] w fun e W=>∃ iv rv,e=.returned (.agg #[iv,rv])/\W.ownsRow w.heap.size 266 2 iv z ((xg z ⟨v.now,0⟩).flatMap insF)/\RelN W w.heap.size rv v.rels/\Below w.heap.size w W:=by
 obtain⟨iI,hiI,zI0,zI1,zI2⟩:=info_parts Tryz.infoInsK;obtain⟨iP,hiP,zP0,zP1,zP2⟩:=info_parts Tryz.infoPinK;obtain⟨iS,hiS,zS0,zS1,zS2⟩:=info_parts Tryz.infoPinSK;obtain⟨hrl,hr2,hr4,hr5,hra⟩:=hr;have HR:=zaa hra;have HP4:=zaa hp4;obtain⟨vz,vn,vw,rels⟩:=v;simp only at hz hrl hr3 HR HP4 ⊢;subst hz;have HRL:=zaa hrl;have hrl3:rl<=3:=by omega
 clear hra hp4 hrl hr2 hr3;have M0:=zaa (show RowIs (((w.alloc (.cells #[.int .i64 (z:Int),.int .i64 vn,.int .i64 vw,.slice ra rl rc] 73)).alloc (.cells #[.slice none 0 0,.slice none 0 0] 213)).alloc (.cells #[.slice none 0 0,.slice none 0 0] 213)) (w.heap.size+2) 213 [.slice none 0 0,.slice none 0 0]from nw3' _ _ _ _);have B0:=zaa (thn3 (thn3 (bel1 w (.cells #[.int .i64 (z:Int),.int .i64 vn,.int .i64 vw,.slice ra rl rc] 73)) (bel1 _ (.cells #[.slice none 0 0,.slice none 0 0] 213))) (bel1 _ (.cells #[.slice none 0 0,.slice none 0 0] 213)));have G0:=zaa (((show RowIs (w.alloc (.cells #[.int .i64 (z:Int),.int .i64 vn,.int .i64 vw,.slice ra rl rc] 73)) w.heap.size 73 [.int .i64 (z:Int),.int .i64 vn,.int .i64 vw,.slice ra rl rc]from zal _ _).keep (bel1 _ (.cells #[.slice none 0 0,.slice none 0 0] 213))).keep (bel1 _ (.cells #[.slice none 0 0,.slice none 0 0] 213)));obtain⟨W0,hW0⟩:∃ W0,W0=(((w.alloc (.cells #[.int .i64 (z:Int),.int .i64 vn,.int .i64 vw,.slice ra rl rc] 73)).alloc (.cells #[.slice none 0 0,.slice none 0 0] 213)).alloc (.cells #[.slice none 0 0,.slice none 0 0] 213)):=⟨_,rfl⟩;have hs0:W0.heap.size=w.heap.size+3:=by rw[hW0];simp
 rw[<- hW0]at M0 B0 G0;have HW0:=zaa hW0;clear hW0
 go_enter Tryz.func134,Tryz.ntmps134
 go_wp2_with fail
 go_loopw [4] (fun vi wr=>∃ (i:Nat) (vt:Value),i<=z/\vi=.int .i64 i/\RowIs wr (w.heap.size+2) 213 [vt,.slice none 0 0]/\wr.ownsRow (w.heap.size+3) 266 2 vt i ((xg i ⟨vn,0⟩).flatMap insF)/\Below (w.heap.size+2) W0 wr) (fun i _=>z-(intOf i).toNat)
 case atStart=>exact⟨0,.slice none 0 0,xp _,rfl,by rw[<- HW0.out];exact M0.out,xo _ _ _ _,by rw[<- HW0.out];exact Below.refl _ _⟩
 case round =>
  obtain⟨i,vt,hi,rfl,hM,hown,hb⟩:=hrel
  rename World=>w5
  have HM:=zaa hM;have HOWN:=zaa hown;have HB:=zaa hb;have zb:=hb.size;have hx0 := znn i;have G5:=zaa (show RowIs w5 w.heap.size 73 [.int .i64 (z:Int),.int .i64 vn,.int .i64 vw,.slice ra rl rc]from by have h1:=hb.block w.heap.size (by omega);have h2:=G0.out;unfold RowIs at h2 ⊢;rw[h1];exact h2);have g0:=G5.out.cell (j:=0) rfl;have g1:=G5.out.cell (j:=1) rfl;have g3:=G5.out.cell (j:=3) rfl;have m0:=hM.cell (j:=0) rfl;have y0:=hM.frozen 0;have ls:w.heap.size+3<=w5.heap.size:=by omega
  by_cases hlt:i<z
  ·have hx1:(i:Int)<(z:Int):=by omega
   have hx2:(i:Int)<3:=by omega
   have HE:=zaa (yabj vn i);have hne:vt.ownBlock≠some (w.heap.size+2):=fun e=>by have:=(xe hown _ e).1;omega
   clear hM hown hb
   go_wp2_with (at_builtin;refine wpList_append_lies _ rfl _ _ _ rfl (w.heap.size+3) 266 iI _ 2 16 Tryz.underlying210 hiI zI0 zI1 zI2 rfl (by omega) vt i _ rfl (HOWN.out.alloc _) ⟨w5.heap.size,0,none⟩ 1 1 [.int .i64 vn,.int .i64 0] rfl rfl (xh (heap_alloc_new w5 _)) (by simp[xj]) (by omega) (by unfold maxLen;omega) (by omega) (by simp;omega) (w5.heap.size+1) (by simp) ?_;intro g2 cap2 w8 hown2 hgrow2 hat2 hlt2;have M8:=zaa ((HM.out.keep (bel1 w5 (.cells #[.int .i64 vn,.int .i64 0] 266))).grown hgrow2 hne);have q0:=M8.out.cell (j:=0) rfl;have q1:=M8.out.frozen 0)
   go_roundw
   case rel =>
    refine⟨i+1,.slice (some ⟨g2,0,none⟩) (i+1) cap2,by omega,by go_num,M8.out.set 0 _,?_,?_⟩
    ·rw[HE.out];exact((Chg.refl (·= w.heap.size+2) w8).set (p:=⟨w.heap.size+2,0,none⟩) (.inl rfl) _).own hown2 (fun b hb e=>by have:=(xe hown2 b hb).1;omega)
    ·exact(Below.grown (HB.out.alloc (by omega) _) hgrow2 (by simp;omega) (fun k hk=>by have:=(HOWN.out.lt k hk).1;omega)).setCell (p:=⟨w.heap.size+2,0,none⟩) (Nat.le_refl _) _
   case measure=>simp[intOf];omega
  ·obtain rfl:z=i:=by omega
   have hx3:(z:Int)<=3:=by omega
   have HI:=HOWN;clear hM hown hb
   go_wp2_with fail
   go_loopw [31] (fun vi wr=>∃ (j:Nat) (rv:Value) (pv:List Value),j<=rl/\vi=.int .i64 j/\RowIs wr (w.heap.size+2) 213 [vt,rv]/\wr.ownsRow (w.heap.size+3) 266 2 vt z ((xg z ⟨vn,0⟩).flatMap insF)/\wr.ownsRow (w.heap.size+3) 106 1 rv j pv/\Hid (∀ (i:Nat) (ps:List PinD) (u:Value),rels[i]?=some ps->pv[i]?=some u->wr.ownsRow (w.heap.size+3) 165 3 u ps.length (ps.flatMap pinF))/\Below (w.heap.size+2) W0 wr) (fun i _=>rl-(intOf i).toNat)
   case atStart=>exact⟨0,.slice none 0 0,[],xp _,rfl,HM.out,HI.out,xo _ _ _ _,(fun _ _ _ _ h=>by simp at h),HB.out⟩
   case round =>
    obtain⟨j,rv,pv,hj,rfl,hM6,hI6,hrv,hpv,hb6⟩:=hrel
    rename World=>w6
    have HM6:=zaa hM6;have HI6:=zaa hI6;have HRV:=zaa hrv;have HB6:=zaa hb6;have zb6:=hb6.size;have ls6:w.heap.size+3<=w6.heap.size:=by omega
    have hy0 := znn j;have hbw6:=zaa (B0.out.trans (hb6.mono (by omega)));have Z6:=zaa (show RowIs w6 (w.heap.size+1) 213 [.slice none 0 0,.slice none 0 0]from by have h1:=hb6.block (w.heap.size+1) (by omega);have h2:=((nw2 w (.cells #[.int .i64 (z:Int),.int .i64 vn,.int .i64 vw,.slice ra rl rc] 73) (.cells #[.slice none 0 0,.slice none 0 0] 213)));have h3:RowIs W0 (w.heap.size+1) 213 [.slice none 0 0,.slice none 0 0]:=(by rw[HW0.out];exact RowIs.keep (show RowIs _ (w.heap.size+1) 213 [.slice none 0 0,.slice none 0 0]from h2) (bel1 _ _));unfold RowIs at h3 ⊢;rw[h1];exact h3);by_cases hlt2:j<rl
    ·obtain⟨ps,hps⟩:∃ ps,rels[j]?=some ps:=⟨rels[j]'(by rw[<- HRL.out];exact hlt2),xf _⟩;obtain⟨b,o,pa,pl,pc,rfl,c0,hpl,hp2,hp3,hp5,hpin⟩:=HR.out j ps hps;have c0:=zab hbw6.out c0;have lb:=zag c0;have hp44:=HP4.out ps (xm hps);have hy1:(j:Int)<(rl:Int):=by omega
     have HPL:=zaa hpl;have pl4:pl<=4:=by omega
     have HPIN:=zaa hpin;have HPS:=zaa hps;have r1:=hM6.cell (j:=1) rfl;have s1:=hM6.frozen 1;have O1:=zaa (World.ownsRow_made (base:=w6.heap.size+1) (e:=165) (size:=3) (w6.alloc (.cells #[.slice pa pl pc] 108)) #[] 0 (by simp) (by unfold maxLen;omega) rfl);clear hM6 hI6 hrv hb6 hpl hp2 hpin hps
     go_wp2_with fail
     go_loopw [7,39] (fun vq vi wr=>∃ q:Nat,q<=pl/\vi=.int .i64 q/\wr.ownsRow (w6.heap.size+1) 165 3 vq q ((ps.take q).flatMap pinF)/\Below (w6.heap.size+1) (w6.alloc (.cells #[.slice pa pl pc] 108)) wr) (fun _ q _=>pl-(intOf q).toNat)
     case atStart=>exact⟨0,xp _,rfl,by simpa using O1.out,(Below.refl _ _).alloc (by simp) _⟩
     case round =>
      obtain⟨q,hq,rfl,hown7,hb7⟩:=hrel
      rename World=>w7
      have HO7:=zaa hown7;have HB7:=zaa hb7;have zb7:=hb7.size;have hb67:Below w6.heap.size w6 w7:=thn3 (bel1 _ _) (hb7.mono (by simp));have HB67:=zaa hb67;have hz0 := znn q;have ls7:w6.heap.size+1<=w7.heap.size:=by simpa using zb7
      by_cases hlt3:q<pl
      ·obtain⟨p,hp⟩:∃ p,ps[q]?=some p:=⟨ps[q]'(by rw[<- HPL.out];exact hlt3),xf _⟩;obtain⟨b',o',rfl,d0,d1,d2⟩:=HPIN.out q p hp;have d0:=zab hb67 (zab hbw6.out d0);have d1:=zab hb67 (zab hbw6.out d1);have d2:=zab hb67 (zab hbw6.out d2);have lb7:=zag d0;have hz1:(q:Int)<(pl:Int):=by omega
       have HE:=zaa (zh2 (f:=pinF) hp);obtain⟨pt,pw,pr⟩:=p;simp only at d0 d1 d2;clear hown7 hb7 hb67 hp c0
       go_wp2_with (at_builtin;refine wpList_append_lies _ rfl _ _ _ rfl (w6.heap.size+1) 165 iP _ 3 24 Tryz.underlying106 hiP zP0 zP1 zP2 rfl (by omega) u7 q _ rfl ((HO7.out.alloc _).alloc _) ⟨w7.heap.size+1,0,none⟩ 1 1 [.int .i64 pt,.int .i64 pw,.int .i64 pr] rfl rfl (xh (nw2 _ _ _)) (by simp[xj]) (by omega) (by unfold maxLen;omega) (by omega) (by simp;omega) (w7.heap.size+2) (by simp) ?_;intro g2 cap2 w8 hown2 hgrow2 hat2 hlt4)
       go_roundw
       case rel =>
        refine⟨q+1,by omega,by go_num,by rw[HE.out];exact hown2,?_⟩;exact Below.grown ((HB7.out.alloc (by omega) _).alloc (by simp;omega) _) hgrow2 (by simp;omega) (fun k hk=>(HO7.out.lt k hk).1)
       case measure=>simp[intOf];omega
      ·obtain rfl:pl=q:=by omega
       obtain⟨a',cap',hu⟩:∃ a' cap',u7=.slice a' pl cap':=by
        rcases hown7.2 with⟨h1,h2⟩|⟨g,cap',cur,h1,_⟩
        ·exact⟨none,0,by rw[h1,h2]⟩
        ·exact⟨_,cap',h1⟩
       subst hu;have HQ:Hid (w7.ownsRow (w6.heap.size+1) 165 3 (.slice a' pl cap') ps.length (ps.flatMap pinF)):=by
        have:=hown7;rw[HPL.out,List.take_length]at this;rw[HPL.out];exact this
       have HM7:=zaa (HM6.out.keep hb67);have HI7:=zaa (zas HI6.out hb67);have HRV7:=zaa (zas HRV.out hb67);have r7:=HM7.out.cell (j:=1) rfl;have hne:rv.ownBlock≠some (w.heap.size+2):=fun e=>by have:=(xe HRV.out _ e).1;omega
       clear hown7 hb7 hb67 r1 s1
       go_wp2_with (at_builtin;refine wpList_append_lies _ rfl _ _ _ rfl (w.heap.size+3) 106 iS _ 1 24 Tryz.underlying211 hiS zS0 zS1 zS2 rfl (by omega) rv j _ rfl (HRV7.out.alloc _) ⟨w7.heap.size,0,none⟩ 1 1 [.slice a' pl cap'] rfl rfl (xh (heap_alloc_new w7 _)) (by simp[xj]) (by omega) (by unfold maxLen;omega) (by omega) (by simp;omega) (w7.heap.size+1) (by simp) ?_;intro g2 cap2 w8 hown2 hgrow2 hat2 hlt4;have M8:=zaa ((HM7.out.keep (bel1 w7 (.cells #[.slice a' pl cap'] 106))).grown hgrow2 hne);have q1:=M8.out.cell (j:=1) rfl;have f1:=M8.out.frozen 1)
       go_roundw
       case rel =>
        have hX:=(Chg.refl (·= w.heap.size+2) w8).set (p:=⟨w.heap.size+2,1,none⟩) (.inl rfl) (.slice (some ⟨g2,0,none⟩) (j+1) cap2);have keep:∀ {e:TypeId} {k n:Nat} {v:Value} {xs:List Value},w7.ownsRow (w.heap.size+3) e k v n xs->e≠106->(w8.setCell ⟨w.heap.size+2,1,none⟩ (.slice (some ⟨g2,0,none⟩) (j+1) cap2)).ownsRow (w.heap.size+3) e k v n xs:=fun h he =>
         hX.own ((h.alloc _).kept hgrow2 (zzb h HRV7.out he)) (fun b hb e=>by have:=(xe h b hb).1;omega)
        have hpl:pv.length=j:=by have:=HRV.out.1;omega
        refine⟨j+1,.slice (some ⟨g2,0,none⟩) (j+1) cap2,pv++[.slice a' pl cap'],by omega,by go_num,M8.out.set 1 _,keep HI7.out (by decide),hX.own hown2 (fun b hb e=>by have:=(xe hown2 b hb).1;omega),(fun i ps' u h1 h2=>?_),?_⟩
        ·by_cases hij:i<j
         ·rw[List.getElem?_append_left (by omega)]at h2;exact keep (zas (hpv.out i ps' u h1 h2) HB67.out) (by decide)
         ·have hi2:=(List.getElem?_eq_some_iff.1 h2).1;obtain rfl:i=j:=by simp at hi2;omega
          rw[List.getElem?_append_right (by omega),hpl,Nat.sub_self]at h2;obtain rfl:Value.slice a' pl cap'=u:=by simpa using h2
          rw[HPS.out]at h1;obtain rfl:ps=ps':=by simpa using h1
          exact keep (HQ.out.mono (by omega)) (by decide)
        ·have b7:=HB6.out.trans (HB67.out.mono (by omega));exact(Below.grown (b7.alloc (by omega) _) hgrow2 (by simp;omega) (fun k hk=>by have:=(HRV.out.lt k hk).1;omega)).setCell (p:=⟨w.heap.size+2,1,none⟩) (by show w.heap.size+2<=w.heap.size+2;omega) _
       case measure=>simp[intOf];omega
    ·obtain rfl:rl=j:=by omega
     have t0:=hM6.cell (j:=0) rfl;have t1:=hM6.cell (j:=1) rfl;have p0:=Z6.out.cell (j:=0) rfl;have p1:=Z6.out.cell (j:=1) rfl;have f0:=Z6.out.frozen 0;have f1:=Z6.out.frozen 1;obtain⟨ia,ic,hiv⟩:∃ a' cap',vt=.slice a' z cap':=by
      rcases hI6.2 with⟨h1,h2⟩|⟨g,cap',cur,h1,_⟩
      ·exact⟨none,0,by rw[h1,h2]⟩
      ·exact⟨_,cap',h1⟩
     obtain⟨ra2,rc2,hrv2⟩:∃ a' cap',rv=.slice a' rl cap':=by
      rcases hrv.2 with⟨h1,h2⟩|⟨g,cap',cur,h1,_⟩
      ·exact⟨none,0,by rw[h1,h2]⟩
      ·exact⟨_,cap',h1⟩
     subst hiv hrv2;clear hM6 hI6 hrv hb6
     go_wp2_with fail
     have Z7:=(Z6.out.set 0 (.slice ia z ic)).set 1 (.slice ra2 rl rc2);have o0:=Z7.cell (j:=0) rfl;have o1:=Z7.cell (j:=1) rfl;refine bodyPost_ret (v:=.agg #[.slice ia z ic,.slice ra2 rl rc2]) (by simp[results,Tryz.results134,go_sem,o0,o1]) rfl ?_;have hX:=((Chg.refl (·= w.heap.size+1) w6).set (p:=⟨w.heap.size+1,0,none⟩) (.inl rfl) (.slice ia z ic)).set (p:=⟨w.heap.size+1,1,none⟩) (.inl rfl) (.slice ra2 rl rc2);have keep:∀ {e:TypeId} {k n:Nat} {v:Value} {xs:List Value},w6.ownsRow (w.heap.size+3) e k v n xs->((w6.setCell ⟨w.heap.size+1,0,none⟩ (.slice ia z ic)).setCell ⟨w.heap.size+1,1,none⟩ (.slice ra2 rl rc2)).ownsRow w.heap.size e k v n xs:=fun h =>
      (hX.own h (fun b hb e=>by have:=(xe h b hb).1;omega)).mono (by omega)
     refine⟨_,_,rfl,keep HI6.out,⟨pv,by rw[<- HRL.out];exact keep HRV.out,fun i ps u h1 h2=>keep (hpv.out i ps u h1 h2)⟩,?_⟩;exact(hbw6.out.setCell (p:=⟨w.heap.size+1,0,none⟩) (by show w.heap.size<=w.heap.size+1;omega) _).setCell (p:=⟨w.heap.size+1,1,none⟩) (by show w.heap.size<=w.heap.size+1;omega) _
end Go.Proofs.YtkkekopomiehlabGreatDoor
