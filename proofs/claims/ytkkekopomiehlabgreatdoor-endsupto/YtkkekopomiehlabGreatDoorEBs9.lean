import Derived.Test.YtkkekopomiehlabGreatDoorESp7
import Derived.Lib.ConvBytes
import Derived.Laws.IdiomStrings
set_option linter.unusedVariables false
set_option linter.unusedSimpArgs false
set_option maxHeartbeats 40000000
open List renaming setIfInBounds_toArray->xe,getElem_cons_zero->xf,getElem_cons_succ->xg,getElem_toArray->xh,set_cons_zero->xj,set_cons_succ->xm,getElem?_eq_getElem->xu,mem_of_getElem?->xy,getD_eq_getElem?_getD->xz,getElem?_set_ne->qe,length_append->qg,size_toArray->qh,append_assoc->qi
open Go.AllReadyH renaming cons->xo,nil->xq
open Go.Act renaming put->xp
open Or renaming inl->xv
open Go.Value renaming ownBlock->qd,oneCell'->qj
open Go.World renaming news_of_block->qf
open Nat renaming zero_add->qk
open Go.World.ownsRow renaming lt->qm
open Prod renaming ext->qn
open Go.RowKit
set_option maxRecDepth 4000
namespace Go.Proofs.YtkkekopomiehlabGreatDoor
section
variable {w0 w W:World}{L:Nat->Nat}{gb r:Nat}{b:zav}
theorem yaat {x:StD}{Q:World->Prop}{v:SvcD}(hta:b.tale=true)(ha:-9223372036854775808<=x.a/\x.a<=9223372036854775807)(hb:-9223372036854775808<=x.b/\x.b<=9223372036854775807)(hl0:0<b.f.vs.length)(hl:b.f.vs.length<=2000000)(hv:b.f.vs[pckN x.a b.f.vs.length]?=some v){z:Nat}(hvz:v.size=z)(hz0:0<z)(hz:z<=2000000)(h:BookE w0 w L gb r b)(pw pr:Int)(hpw:pw<0)
  (c3:∀ W,Below w.heap.size w W->Calls Tryz.prog 63 #[.pointer (some ⟨gb,0,none⟩),.int .i64 (pckN x.a b.f.vs.length:Nat),.int .i64 (pckN x.b z:Nat)] W fun e W'=>e=.returned (.tuple #[.int .i64 pw,.int .i64 pr,.bool true])/\Below W.heap.size W W')
  (c4:∀ W,Below w.heap.size w W->Calls Tryz.prog 94 #[.pointer (some ⟨r,0,none⟩),.int .i64 (pckN x.a b.f.vs.length:Nat),.int .i64 (pckN x.b z:Nat),.int .i64 0,.string ⟨#[53]⟩] W fun e W=>e=.returned (.int .i64 15)/\Q W) :
  Calls Tryz.prog 60 #[.pointer (some ⟨gb,0,none⟩),stV x] w fun e W=>e=.returned (.bool true)/\Q W:=by
 have c1:=fun W=>zcj x.a b.f.vs.length ha hl0 hl W;have c2:=fun W=>zcj x.b z hb hz0 hz W;have hlt:=h.y.2.2.2;obtain⟨va,ma,vc,mc,hV⟩:=h.v;have hsl:=zbn x.a hl0;obtain⟨bk,o,ra,rl,rc,hva,_⟩:=(hV w (Below.refl _ _)).1.vs _ v hv;subst hva;have HV:Hid (∀ W,Below w.heap.size w W->W.cell? ⟨gb,2,none⟩=some (.slice (some ⟨bk,o,none⟩) b.f.vs.length vc)/\W.cell? ⟨bk,o+pckN x.a b.f.vs.length*4,none⟩=some (.int .i64 z)/\W.cell? ⟨gb,4,none⟩=some (.bool true)/\W.cell? ⟨gb,5,none⟩=some (.pointer (some ⟨r,0,none⟩))):=by
  show ∀ _,_;intro W hbb;refine⟨(hV W hbb).1.x2,?_,by rw[<- hta];exact(h.keep hbb).ta,(hV W hbb).1.x5⟩;obtain⟨bk',o',ra',rl',rc',hq,d0,_⟩:=(hV W hbb).1.vs _ v hv;obtain⟨rfl,rfl⟩:bk=bk'/\o=o':=by simpa using hq
  rw[<- hvz];exact d0
 clear hV h hv hvz hta;generalize pckN x.a b.f.vs.length=s at *;generalize pckN x.b z=i at *;generalize b.f.vs.length=n at *;have hs0 := znn s;have hs1:(s:Int)<(n:Int):=by omega
 unfold stV;clear ha hb;obtain⟨xk,xa,xb,xc,xs⟩:=x;simp only at *;obtain⟨w1,hw1⟩:∃ w1,w1=w.alloc (.cells #[.int .i64 xk,.int .i64 xa,.int .i64 xb,.int .i64 xc,.string xs] 66):=⟨_,rfl⟩;have HB1:Hid (Below w.heap.size w w1):=by rw[hw1];exact bel1 _ _
 have R1:RowIs w1 w.heap.size 66 [.int .i64 xk,.int .i64 xa,.int .i64 xb,.int .i64 xc,.string xs]:=by rw[hw1];exact zal _ _
 have m1:w1.cell? ⟨w.heap.size,1,none⟩=some (.int .i64 xa):=R1.cell (j:=1) rfl;have m2:w1.cell? ⟨w.heap.size,2,none⟩=some (.int .i64 xb):=R1.cell (j:=2) rfl;have m3:w1.cell? ⟨w.heap.size,3,none⟩=some (.int .i64 xc):=R1.cell (j:=3) rfl;have m4:w1.cell? ⟨w.heap.size,4,none⟩=some (.string xs):=R1.cell (j:=4) rfl;clear R1;obtain⟨n2,n3,n4,n5⟩:=HV.out w1 HB1.out;have HW:=zaa hw1;clear hw1
 go_enter Tryz.func60,Tryz.ntmps60
 go_wp2_with fail
 rw[<- HW.out];clear HW;have hgz:w.heap.size<=w1.heap.size:=HB1.out.size;generalize w.heap.size=gx at *
 go_quiet ((go_at_call 42;exact Calls.quiet_of_same ((c1 _).mono fun e W q=>⟨q.1,q.2.symm⟩)))
 go_wp2_with fail
 have HB5:Hid (Below gx w (w1.drewN nq)):=⟨HB1.out.os,HB1.out.tape,HB1.out.output,HB1.out.size,HB1.out.block⟩;have p2:(w1.drewN nq).cell? ⟨gx,2,none⟩=some (.int .i64 xb):=m2;have p3:(w1.drewN nq).cell? ⟨gb,2,none⟩=some (.slice (some ⟨bk,o,none⟩) n vc):=n2;have p4:(w1.drewN nq).cell? ⟨bk,o+s*4,none⟩=some (.int .i64 z):=n3;have p5:(w1.drewN nq).cell? ⟨gb,4,none⟩=some (.bool true):=n4;have p6:(w1.drewN nq).cell? ⟨gb,5,none⟩=some (.pointer (some ⟨r,0,none⟩)):=n5;have p7:(w1.drewN nq).cell? ⟨gx,3,none⟩=some (.int .i64 xc):=m3;have p8:(w1.drewN nq).cell? ⟨gx,4,none⟩=some (.string xs):=m4;have hgz5:gx<=(w1.drewN nq).heap.size:=hgz;generalize w1.drewN nq=w5 at *;clear m1 m2 m3 m4 n2 n3 n4 n5 HB1 c1 HV
 go_quiet ((go_at_call 42;exact Calls.quiet_of_same ((c2 _).mono fun e W q=>⟨q.1,q.2.symm⟩)))
 have HB6:Hid (Below gx w (w5.drewN nq)):=⟨HB5.out.os,HB5.out.tape,HB5.out.output,HB5.out.size,HB5.out.block⟩;have q5:(w5.drewN nq).cell? ⟨gb,4,none⟩=some (.bool true):=p5;have q6:(w5.drewN nq).cell? ⟨gb,5,none⟩=some (.pointer (some ⟨r,0,none⟩)):=p6;have q7:(w5.drewN nq).cell? ⟨gx,3,none⟩=some (.int .i64 xc):=p7;have q8:(w5.drewN nq).cell? ⟨gx,4,none⟩=some (.string xs):=p8;have HGX:Hid (gx<=(w5.drewN nq).heap.size):=hgz5;generalize w5.drewN nq=w6 at *;clear p2 p3 p4 p5 p6 p7 p8 HB5
 go_wp2_with (first
  |(go_at_call 63;refine(c3 _ HB6.out).mono ?_;rintro e w7 ⟨rfl,hb7⟩;have r6:=zab hb7 q6)
  |(go_at_call 94;refine(c4 _ (HB6.out.trans (hb7.mono HGX.out))).mono ?_;rintro e w9 ⟨rfl,hq⟩))
 go_ret;exact⟨rfl,hq⟩
theorem yaav {x:StD}{Q:World->Prop}{v:SvcD}(hta:b.tale=true)(ha:-9223372036854775808<=x.a/\x.a<=9223372036854775807)(hb:-9223372036854775808<=x.b/\x.b<=9223372036854775807)(hl0:0<b.f.vs.length)(hl:b.f.vs.length<=2000000)(hv:b.f.vs[pckN x.a b.f.vs.length]?=some v){z:Nat}(hvz:v.size=z)(hz0:0<z)(hz:z<=2000000)(h:BookE w0 w L gb r b)(hc:-9223372036854775808<=x.c/\x.c<=9223372036854775807)(R:ByteArray->World->Prop)(pr:Int)(nn wN sn sb so sc:Nat)(sch:ByteArray)(hn:nn<=12)(hwN:wN<sn)(hsn:sn<=2000000)
  (hx:∀ W,Below w.heap.size w W->W.cell? ⟨gb,0,none⟩=some (.slice (some ⟨sb,so,none⟩) sn sc)/\W.cell? ⟨sb,so+wN,none⟩=some (.string sch))
  (c3:∀ W,Below w.heap.size w W->Calls Tryz.prog 63 #[.pointer (some ⟨gb,0,none⟩),.int .i64 (pckN x.a b.f.vs.length:Nat),.int .i64 (pckN x.b z:Nat)] W fun e W'=>e=.returned (.tuple #[.int .i64 wN,.int .i64 pr,.bool true])/\Below W.heap.size W W')
  (c4:∀ W,Calls Tryz.prog 123 #[.string sch,.int .i64 x.c] W fun e W'=>zbz sch W e W')
  (c5:∀ t W,(zau false sch t).2=0->t.size<=4096->Calls Tryz.prog 124 #[.string sch,.string t] W fun e W'=>e=.returned (.tuple #[.string (zau false sch t).1,.int .i64 0])/\Below W.heap.size W W')
  (c6:∀ W,Below w.heap.size w W->Calls Tryz.prog 65 #[.pointer (some ⟨gb,0,none⟩)] W fun e W'=>∃ a c,e=.returned (.slice a nn c)/\Below W.heap.size W W')
  (c7:∀ t W,(zau false sch t).2=0->t.size<=4096->Below w.heap.size w W->Calls Tryz.prog 94 #[.pointer (some ⟨r,0,none⟩),.int .i64 (pckN x.a b.f.vs.length:Nat),.int .i64 (pckN x.b z:Nat),.int .i64 0,.string t] W fun e W'=>e=.returned (.int .i64 (if nn<12 then 0 else 16))/\R (zau false sch t).1 W')
  (hR:∀ d W,R d W->12<=nn->Q W)
  (hR2:∀ d W,R d W->nn<12->∃ (T:Int) (nv:Value) (m B:Nat) (ys cs:List Value),RowIs W gb 70 cs/\cs[6]?=some (.int .i64 T)/\cs[7]?=some nv/\W.ownsRow B 135 3 nv m ys/\B<=W.heap.size/\m<=2100000/\nv.ownBlock≠some gb/\∀ W3 g cap W2,Below W.heap.size W W3->W2.ownsRow B 135 3 (.slice (some ⟨g,0,none⟩) (m+1) cap) (m+1) (ys++[.int .i64 T,.int .i64 wN,.string d])->W3.grownBy W2 nv.ownBlock->(nv.ownBlock=some g\/W3.heap.size<=g)->Q (W2.setCell ⟨gb,7,none⟩ (.slice (some ⟨g,0,none⟩) (m+1) cap))) :
  Calls Tryz.prog 60 #[.pointer (some ⟨gb,0,none⟩),stV x] w fun e W=>e=.returned (.bool true)/\Q W:=by
 obtain⟨iN,hiN,zN0,zN1,zN2⟩:=info_parts Tryz.infoNotK;have HX:=zaa hx;clear hx;have HR:=zaa hR;have HR2:=zaa hR2;clear hR hR2;have c1:=fun W=>zcj x.a b.f.vs.length ha hl0 hl W;have c2:=fun W=>zcj x.b z hb hz0 hz W;have hlt:=h.y.2.2.2;obtain⟨va,ma,vc,mc,hV⟩:=h.v;have hsl:=zbn x.a hl0;obtain⟨bk,o,ra,rl,rc,hva,_⟩:=(hV w (Below.refl _ _)).1.vs _ v hv;subst hva;have HV:Hid (∀ W,Below w.heap.size w W->W.cell? ⟨gb,2,none⟩=some (.slice (some ⟨bk,o,none⟩) b.f.vs.length vc)/\W.cell? ⟨bk,o+pckN x.a b.f.vs.length*4,none⟩=some (.int .i64 z)/\W.cell? ⟨gb,4,none⟩=some (.bool true)/\W.cell? ⟨gb,5,none⟩=some (.pointer (some ⟨r,0,none⟩))):=by
  show ∀ _,_;intro W hbb;refine⟨(hV W hbb).1.x2,?_,by rw[<- hta];exact(h.keep hbb).ta,(hV W hbb).1.x5⟩;obtain⟨bk',o',ra',rl',rc',hq,d0,_⟩:=(hV W hbb).1.vs _ v hv;obtain⟨rfl,rfl⟩:bk=bk'/\o=o':=by simpa using hq
  rw[<- hvz];exact d0
 clear hV h hv hvz hta;generalize pckN x.a b.f.vs.length=s at *;generalize pckN x.b z=i at *;generalize b.f.vs.length=n at *;have hs0 := znn s;have hs1:(s:Int)<(n:Int):=by omega
 unfold stV;clear ha hb;obtain⟨xk,xa,xb,xc,xs⟩:=x;simp only at *;obtain⟨w1,hw1⟩:∃ w1,w1=w.alloc (.cells #[.int .i64 xk,.int .i64 xa,.int .i64 xb,.int .i64 xc,.string xs] 66):=⟨_,rfl⟩;have HB1:Hid (Below w.heap.size w w1):=by rw[hw1];exact bel1 _ _
 have R1:RowIs w1 w.heap.size 66 [.int .i64 xk,.int .i64 xa,.int .i64 xb,.int .i64 xc,.string xs]:=by rw[hw1];exact zal _ _
 have m1:w1.cell? ⟨w.heap.size,1,none⟩=some (.int .i64 xa):=R1.cell (j:=1) rfl;have m2:w1.cell? ⟨w.heap.size,2,none⟩=some (.int .i64 xb):=R1.cell (j:=2) rfl;have m3:w1.cell? ⟨w.heap.size,3,none⟩=some (.int .i64 xc):=R1.cell (j:=3) rfl;have m4:w1.cell? ⟨w.heap.size,4,none⟩=some (.string xs):=R1.cell (j:=4) rfl;clear R1;obtain⟨n2,n3,n4,n5⟩:=HV.out w1 HB1.out;have HW:=zaa hw1;clear hw1
 go_enter Tryz.func60,Tryz.ntmps60
 go_wp2_with fail
 rw[<- HW.out];clear HW;have hgz:w.heap.size<=w1.heap.size:=HB1.out.size;generalize w.heap.size=gx at *
 go_quiet ((go_at_call 42;exact Calls.quiet_of_same ((c1 _).mono fun e W q=>⟨q.1,q.2.symm⟩)))
 go_wp2_with fail
 have HB5:Hid (Below gx w (w1.drewN nq)):=⟨HB1.out.os,HB1.out.tape,HB1.out.output,HB1.out.size,HB1.out.block⟩;have p2:(w1.drewN nq).cell? ⟨gx,2,none⟩=some (.int .i64 xb):=m2;have p3:(w1.drewN nq).cell? ⟨gb,2,none⟩=some (.slice (some ⟨bk,o,none⟩) n vc):=n2;have p4:(w1.drewN nq).cell? ⟨bk,o+s*4,none⟩=some (.int .i64 z):=n3;have p5:(w1.drewN nq).cell? ⟨gb,4,none⟩=some (.bool true):=n4;have p6:(w1.drewN nq).cell? ⟨gb,5,none⟩=some (.pointer (some ⟨r,0,none⟩)):=n5;have p7:(w1.drewN nq).cell? ⟨gx,3,none⟩=some (.int .i64 xc):=m3;have p8:(w1.drewN nq).cell? ⟨gx,4,none⟩=some (.string xs):=m4;have hgz5:gx<=(w1.drewN nq).heap.size:=hgz;generalize w1.drewN nq=w5 at *;clear m1 m2 m3 m4 n2 n3 n4 n5 HB1 c1 HV
 go_quiet ((go_at_call 42;exact Calls.quiet_of_same ((c2 _).mono fun e W q=>⟨q.1,q.2.symm⟩)))
 have HB6:Hid (Below gx w (w5.drewN nq)):=⟨HB5.out.os,HB5.out.tape,HB5.out.output,HB5.out.size,HB5.out.block⟩;have q5:(w5.drewN nq).cell? ⟨gb,4,none⟩=some (.bool true):=p5;have q6:(w5.drewN nq).cell? ⟨gb,5,none⟩=some (.pointer (some ⟨r,0,none⟩)):=p6;have q7:(w5.drewN nq).cell? ⟨gx,3,none⟩=some (.int .i64 xc):=p7;have q8:(w5.drewN nq).cell? ⟨gx,4,none⟩=some (.string xs):=p8;have HGX:Hid (gx<=(w5.drewN nq).heap.size):=hgz5;generalize w5.drewN nq=w6 at *;clear p2 p3 p4 p5 p6 p7 p8 HB5;have hw0 := znn wN;have hw1':(wN:Int)<(sn:Int):=by omega
 have hn0 := znn nn
 go_wp2_with (first
  |(go_at_call 63;refine(c3 _ HB6.out).mono ?_;rintro e w7 ⟨rfl,hb7⟩;have B7:=zaa (HB6.out.trans (hb7.mono HGX.out));have r6:=zab hb7 q6;have r7:=zab hb7 q7;obtain⟨z0,z1⟩:=HX.out w7 B7.out;have lz0:=zag z0;have lz1:=zag z1;have lr7:=zag r7))
 go_region_held3 (fun w'=>w'.cell? ⟨gb,0,none⟩=some (.slice (some ⟨sb,so,none⟩) sn sc)/\w'.cell? ⟨sb,so+wN,none⟩=some (.string sch)/\w'.cell? ⟨gx,3,none⟩=some (.int .i64 xc)) (first|exact⟨z0,z1,r7⟩|exact⟨zab hb8 z0,zab hb8 z1,zab hb8 r7⟩) (first
  |(go_at_call 123;refine(c4 _).mono ?_;rintro e w8 hP8;obtain⟨t,rfl,ht1,ht2,hb8⟩:=hP8;have B8:=zaa (B7.out.trans (show Below gx w7 w8 from⟨hb8.os,hb8.tape,hb8.output,hb8.size,fun k hk=>hb8.block k (by have:=HGX.out;have:=hb7.size;show k<w7.heap.size;omega)⟩));have a0:=zab hb8 (show w7.drew.cell? _=_ from z0);have a1:=zab hb8 (show w7.drew.cell? _=_ from z1);have a6:=zab hb8 (show w7.drew.cell? _=_ from r6);have HT1:=zaa ht1;have HT2:=zaa ht2;clear ht1 ht2))
 by_cases hlt12:nn<12
 ·rw[if_pos hlt12]at c7;have hni:(nn:Int)<12:=by omega
  go_wp2_with (first
   |(go_at_call 124;refine(c5 t _ HT1.out HT2.out).mono ?_;rintro e w9 ⟨rfl,hb9⟩;have B9:=zaa (B8.out.trans (hb9.mono (by have:=HGX.out;have:=hb7.size;have:w7.heap.size<=w8.heap.size:=hb8.size;omega)));have e6:=zab hb9 a6;have z9:=hb9.size)
   |(go_at_call 65;refine(c6 _ B9.out).mono ?_;rintro e w10 ⟨pa,pc,rfl,hb10⟩;have B10:=zaa (B9.out.trans (hb10.mono (by have:=HGX.out;have:=hb7.size;have:w7.heap.size<=w8.heap.size:=hb8.size;omega)));have g6:=zab hb10 e6)
   |(go_at_call 94;refine(c7 t _ HT1.out HT2.out B10.out).mono ?_;rintro e w11 ⟨rfl,hRR⟩))
  generalize (zau false sch t).1=d at *;obtain⟨T,nv,m,B,ys,cs,hrow,h6,h7,hown,hBs,hm,hnvb,hQQ⟩:=HR2.out d w11 hRR hlt12;have HROW:=zaa hrow;have H6:=zaa h6;have H7:=zaa h7;have HOW:=zaa hown;have HQQ:=zaa hQQ;have k6:=hrow.cell h6;have k7:=hrow.cell h7;have lgb:=hrow.lt;clear hrow h6 h7 hown hQQ;refine wp_region_held_drew (S:=fun w'=>w'.cell? ⟨gb,6,none⟩=some (.int .i64 T)) (by kernel_rfl) k6 (fun hHeld=>?_);refine wpAnyH_take (i:=0) (v:=?_) rfl (by kernel_rfl) (by kernel_rfl) (by kernel_rfl) (fun _ _ _ h=>h) (xv ⟨by rfl,?_⟩) (by assumption) ?_;rotate_left
  ·intro w9' hSw
   (try dsimp only at hSw)
   go_simp
   all_goals with_reducible rfl
  (try simp only[xp,xe,xj,xm,xh,xf,xg])
  refine wpAnyH_take (i:=1) (v:=?_) rfl (by kernel_rfl) (by kernel_rfl) (by kernel_rfl) (fun _ _ _ h=>h) (xv ⟨by rfl,?_⟩) (by assumption) ?_;rotate_left
  ·intro w9' hSw
   (try dsimp only at hSw)
   go_simp
   all_goals with_reducible rfl
  (try simp only[xp,xe,xj,xm,xh,xf,xg])
  refine wpAnyH_take (i:=2) (v:=?_) rfl (by kernel_rfl) (by kernel_rfl) (by kernel_rfl) (fun _ _ _ h=>h) (xv ⟨by rfl,?_⟩) (by assumption) ?_;rotate_left
  ·intro w9' hSw
   (try dsimp only at hSw)
   go_simp
   all_goals with_reducible rfl
  (try simp only[xp,xe,xj,xm,xh,xf,xg])
  refine wpAnyH_take (i:=3) (v:=?_) rfl (by kernel_rfl) (by kernel_rfl) (by kernel_rfl) (fun _ _ _ h=>h) (xv ⟨by rfl,?_⟩) (by assumption) ?_;rotate_left
  ·intro w9' hSw
   (try dsimp only at hSw)
   go_simp
   all_goals with_reducible rfl
  (try simp only[xp,xe,xj,xm,xh,xf,xg])
  refine wpAnyH_take (i:=5) (v:=?_) rfl (by kernel_rfl) (by kernel_rfl) (by kernel_rfl) (fun _ _ _ h=>h) (xv ⟨by rfl,?_⟩) (by assumption) ?_;rotate_left
  ·intro w9' hSw
   (try dsimp only at hSw)
   go_simp
   all_goals with_reducible rfl
  (try simp only[xp,xe,xj,xm,xh,xf,xg])
  refine wpAnyH_take (i:=6) (v:=?_) rfl (by kernel_rfl) (by kernel_rfl) (by kernel_rfl) (fun _ _ _ h=>h) (xv ⟨by rfl,?_⟩) (by assumption) ?_;rotate_left
  ·intro w9' hSw
   (try dsimp only at hSw)
   go_simp
   all_goals with_reducible rfl
  (try simp only[xp,xe,xj,xm,xh,xf,xg])
  refine wpAnyH_take (i:=7) (v:=?_) rfl (by kernel_rfl) (by kernel_rfl) (by kernel_rfl) (fun _ _ _ h=>h) (xv ⟨by rfl,?_⟩) (by assumption) ?_;rotate_left
  ·intro w9' hSw
   (try dsimp only at hSw)
   go_simp
   all_goals with_reducible rfl
  (try simp only[xp,xe,xj,xm,xh,xf,xg])
  refine wpAnyH_take (i:=8) (v:=?_) rfl (by kernel_rfl) (by kernel_rfl) (by kernel_rfl) (fun _ _ _ h=>h) (xv ⟨by rfl,?_⟩) (by assumption) ?_;rotate_left
  ·intro w9' hSw
   (try dsimp only at hSw)
   go_simp
   all_goals with_reducible rfl
  (try simp only[xp,xe,xj,xm,xh,xf,xg])
  refine wpAnyH_take (i:=9) (v:=?_) rfl (by kernel_rfl) (by kernel_rfl) (by kernel_rfl) (fun _ _ _ h=>h) (xv ⟨by rfl,?_⟩) (by assumption) ?_;rotate_left
  ·intro w9' hSw
   (try dsimp only at hSw)
   go_simp
   all_goals with_reducible rfl
  (try simp only[xp,xe,xj,xm,xh,xf,xg])
  refine wpAnyH_take (i:=10) (v:=?_) rfl (by kernel_rfl) (by kernel_rfl) (by kernel_rfl) (fun _ _ _ h=>h) (xv ⟨by rfl,?_⟩) (by assumption) ?_;rotate_left
  ·intro w9' hSw
   (try dsimp only at hSw)
   go_simp
   all_goals with_reducible rfl
  (try simp only[xp,xe,xj,xm,xh,xf,xg])
  refine wpAnyH_take (i:=11) (v:=?_) rfl (by kernel_rfl) (by kernel_rfl) (by kernel_rfl) (fun _ _ _ h=>h) (xv ⟨by rfl,?_⟩) (by assumption) ?_;rotate_left
  ·intro w9' hSw
   (try dsimp only at hSw)
   go_simp
   all_goals with_reducible rfl
  (try simp only[xp,xe,xj,xm,xh,xf,xg])
  refine wpAnyH_ready (rs:=[4,12]) (by kernel_rfl) (by simp) ?_;refine xo rfl (fun K hK=>?_) (xo rfl (fun K hK=>?_) xq)
  ·skip
   go_simp
   refine hK.out _ _ k6 (fun hHeld=>?_);clear hK K
   (try simp only[xp,xe,xj,xm,xh,xf,xg])
   refine wpAnyH_ready (rs:=[12]) (by kernel_rfl) (by simp) ?_;refine xo rfl (fun K hK=>?_) xq
   go_simp
   refine hK.out _ _ (zah _ k6) (fun hHeld=>?_);clear hK K
   (try simp only[xp,xe,xj,xm,xh,xf,xg])
   refine wpAnyH_ready (rs:=[13]) (by kernel_rfl) (by simp) ?_;refine xo rfl (fun K hK=>?_) xq;refine step_append_lies _ (by rfl) _ _ _ (by rfl) B 135 iN _ 3 32 Tryz.underlying68 hiN zN0 zN1 zN2 rfl (by omega) nv m _ (by rfl) (HOW.out.drew.alloc _) ⟨w11.heap.size,0,none⟩ 1 1 [.int .i64 T,.int .i64 wN,.string d] (by rfl) (by rfl) (qf (heap_alloc_new w11.drew _)) (by simp[qj]) (by omega) (by unfold maxLen;omega) (by omega) (by simp;omega) (w11.heap.size+1) (by simp) ?_;intro g2 cap2 w12 hown2 hgrow2 hat2 hlt2;have M12:=zaa ((RowIs.keep (show RowIs w11.drew gb 70 cs from HROW.out) (bel1 w11.drew (.cells #[.int .i64 T,.int .i64 wN,.string d] 135))).grown hgrow2 hnvb);have m6:=M12.out.cell H6.out;have m7:=M12.out.cell H7.out;have f7:=M12.out.frozen 7;have HO2:=zaa hown2;have HG2:=zaa hgrow2;clear hown2 hgrow2;refine hK.out _ _ m6 (fun hHeld=>?_);clear hK K
   (try simp only[xp,xe,xj,xm,xh,xf,xg])
   refine wpAnyH_take (i:=14) (v:=?_) rfl (by kernel_rfl) (by kernel_rfl) (by kernel_rfl) (fun _ _ _ h=>h) (xv ⟨by rfl,?_⟩) (by assumption) ?_;rotate_left
   ·intro w9' hSw
    (try dsimp only at hSw)
    go_simp
    all_goals with_reducible rfl
   (try simp only[xp,xe,xj,xm,xh,xf,xg])
   refine wpAnyH_take (i:=15) (v:=?_) rfl (by kernel_rfl) (by kernel_rfl) (by kernel_rfl) (fun _ _ _ h=>h) (xv ⟨by rfl,?_⟩) (by assumption) ?_;rotate_left
   ·intro w9' hSw
    (try dsimp only at hSw)
    go_simp
    all_goals with_reducible rfl
   (try simp only[xp,xe,xj,xm,xh,xf,xg])
   refine wpAnyH_ready (rs:=[16]) (by kernel_rfl) (by simp) ?_;refine xo rfl (fun K hK=>?_) xq
   go_simp
   refine hK.out _ _ ((M12.out.set 7 _).cell (show (cs.set 7 _)[6]?=some (.int .i64 T) from(by rw[qe (by omega)];exact H6.out))) (fun hHeld=>?_);clear hK K;refine wpAnyH_done (by kernel_rfl) ?_ _
   go_wp2_with fail
   go_ret;exact⟨rfl,HQQ.out _ _ _ _ (show Below w11.heap.size w11 (w11.drew.alloc (.cells #[.int .i64 T,.int .i64 wN,.string d] 135))from thn3 ((Below.refl w11.heap.size w11).drew) (bel1 w11.drew _)) HO2.out HG2.out (hat2.imp id fun e=>by rw[e];simp)⟩
  ·skip
   go_simp
   refine hK.out _ _ (zah _ k6) (fun hHeld=>?_);clear hK K
   (try simp only[xp,xe,xj,xm,xh,xf,xg])
   refine wpAnyH_ready (rs:=[4]) (by kernel_rfl) (by simp) ?_;refine xo rfl (fun K hK=>?_) xq
   go_simp
   refine hK.out _ _ (zah _ k6) (fun hHeld=>?_);clear hK K
   (try simp only[xp,xe,xj,xm,xh,xf,xg])
   refine wpAnyH_ready (rs:=[13]) (by kernel_rfl) (by simp) ?_;refine xo rfl (fun K hK=>?_) xq;refine step_append_lies _ (by rfl) _ _ _ (by rfl) B 135 iN _ 3 32 Tryz.underlying68 hiN zN0 zN1 zN2 rfl (by omega) nv m _ (by rfl) (HOW.out.drew.alloc _) ⟨w11.heap.size,0,none⟩ 1 1 [.int .i64 T,.int .i64 wN,.string d] (by rfl) (by rfl) (qf (heap_alloc_new w11.drew _)) (by simp[qj]) (by omega) (by unfold maxLen;omega) (by omega) (by simp;omega) (w11.heap.size+1) (by simp) ?_;intro g2 cap2 w12 hown2 hgrow2 hat2 hlt2;have M12:=zaa ((RowIs.keep (show RowIs w11.drew gb 70 cs from HROW.out) (bel1 w11.drew (.cells #[.int .i64 T,.int .i64 wN,.string d] 135))).grown hgrow2 hnvb);have m6:=M12.out.cell H6.out;have m7:=M12.out.cell H7.out;have f7:=M12.out.frozen 7;have HO2:=zaa hown2;have HG2:=zaa hgrow2;clear hown2 hgrow2;refine hK.out _ _ m6 (fun hHeld=>?_);clear hK K
   (try simp only[xp,xe,xj,xm,xh,xf,xg])
   refine wpAnyH_take (i:=14) (v:=?_) rfl (by kernel_rfl) (by kernel_rfl) (by kernel_rfl) (fun _ _ _ h=>h) (xv ⟨by rfl,?_⟩) (by assumption) ?_;rotate_left
   ·intro w9' hSw
    (try dsimp only at hSw)
    go_simp
    all_goals with_reducible rfl
   (try simp only[xp,xe,xj,xm,xh,xf,xg])
   refine wpAnyH_take (i:=15) (v:=?_) rfl (by kernel_rfl) (by kernel_rfl) (by kernel_rfl) (fun _ _ _ h=>h) (xv ⟨by rfl,?_⟩) (by assumption) ?_;rotate_left
   ·intro w9' hSw
    (try dsimp only at hSw)
    go_simp
    all_goals with_reducible rfl
   (try simp only[xp,xe,xj,xm,xh,xf,xg])
   refine wpAnyH_ready (rs:=[16]) (by kernel_rfl) (by simp) ?_;refine xo rfl (fun K hK=>?_) xq
   go_simp
   refine hK.out _ _ ((M12.out.set 7 _).cell (show (cs.set 7 _)[6]?=some (.int .i64 T) from(by rw[qe (by omega)];exact H6.out))) (fun hHeld=>?_);clear hK K;refine wpAnyH_done (by kernel_rfl) ?_ _
   go_wp2_with fail
   go_ret;exact⟨rfl,HQQ.out _ _ _ _ (show Below w11.heap.size w11 (w11.drew.alloc (.cells #[.int .i64 T,.int .i64 wN,.string d] 135))from thn3 ((Below.refl w11.heap.size w11).drew) (bel1 w11.drew _)) HO2.out HG2.out (hat2.imp id fun e=>by rw[e];simp)⟩
 ·rw[if_neg hlt12]at c7;have hni:¬ (nn:Int)<12:=by omega
  go_wp2_with (first
   |(go_at_call 124;refine(c5 t _ HT1.out HT2.out).mono ?_;rintro e w9 ⟨rfl,hb9⟩;have B9:=zaa (B8.out.trans (hb9.mono (by have:=HGX.out;have:=hb7.size;have:w7.heap.size<=w8.heap.size:=hb8.size;omega)));have e6:=zab hb9 a6;have z9:=hb9.size)
   |(go_at_call 65;refine(c6 _ B9.out).mono ?_;rintro e w10 ⟨pa,pc,rfl,hb10⟩;have B10:=zaa (B9.out.trans (hb10.mono (by have:=HGX.out;have:=hb7.size;have:w7.heap.size<=w8.heap.size:=hb8.size;omega)));have g6:=zab hb10 e6)
   |(go_at_call 94;refine(c7 t _ HT1.out HT2.out B10.out).mono ?_;rintro e w11 ⟨rfl,hRR⟩))
  go_ret;exact⟨rfl,HR.out _ _ hRR (by omega)⟩
end
theorem zr1 {w:World}{gb:Nat}{x:StD}{Q:World->Prop}(hx:x.k=5)
  (c1:∀ W,Below w.heap.size w W->Calls Tryz.prog 60 #[.pointer (some ⟨gb,0,none⟩),stV x] W fun e W=>e=.returned (.bool true)/\Q W) :
  Calls Tryz.prog 23 #[.pointer (some ⟨gb,0,none⟩),stV x] w fun e W=>e=.returned (.bool true)/\Q W:=by
 have c2:=c1 (w.alloc (.cells #[.int .i64 5,.int .i64 x.a,.int .i64 x.b,.int .i64 x.c,.string x.s] 66)) (bel1 _ _);unfold stV at *;rw[hx]at *;clear hx c1
 go_enter Tryz.func23,Tryz.ntmps23
 go_wp2_with (first|(go_at_call 60;refine c2.mono ?_;rintro e w1 ⟨rfl,hq⟩))
 go_ret;exact⟨rfl,hq⟩
theorem zrj {b:Nat}{t:TypeId}:∀ (vs old pre:List Value) (w:World),RowIs w b t (pre++old)->old.length=vs.length->RowIs (w.setCells b pre.length vs) b t (pre++vs)
 |[],old,pre,w,h,hl=>by
  have:old=[]:=List.eq_nil_of_length_eq_zero (by simpa using hl);subst this;exact h
 |v::vs,[],pre,w,h,hl=>by simp at hl
 |v::vs,o::old,pre,w,h,hl=>by
  have h1:RowIs (w.setCell ⟨b,pre.length,none⟩ v) b t (pre++[v]++old):=by
   have:=h.set pre.length v;rw[List.set_append_right _ _ (Nat.le_refl _),Nat.sub_self,xj]at this;rw[qi];exact this
  have h2:=zrj vs old (pre++[v]) _ h1 (by simpa using hl);rw[qg,qi]at h2;exact h2
theorem zm7 {b:Nat}{S:Nat->Prop}{a:World}:∀ (vs:List Value) (o:Nat) (w:World),Chg S a w->(S b\/a.heap.size<=b)->Chg S a (w.setCells b o vs)
 |[],_,_,h,_=>h
 |v::vs,o,w,h,hb=>zm7 vs (o+1) _ (h.set (p:=⟨b,o,none⟩) hb v) hb
theorem yabn {w:World}{b:Nat}{t:TypeId}{cs:List Value}(h:RowIs w b t cs){n:Nat}(hn:cs.length=n):w.there b 0 n:=fun j hj=>by
 rw[qk];exact⟨by rw[h.cell (xu (by omega))];rfl,h.frozen j⟩
theorem zi6 {P:Program}{op:Oper}{a:Act}{w:World}{K:Act->World->Prop}{Q:Exit->Act->World->Prop}(ty:TypeId)(x y:Operand)(ho:op.op=.store ty x y)(b:Nat)(cs old:List Value)(t:TypeId)(hx:a.eval x=.pointer (some ⟨b,0,none⟩))(hy:a.eval y=.agg cs.toArray)(hr:RowIs w b t old)(hl:old.length=cs.length)(hi:(P.info? ty).map (·.size)=some cs.length)(h1:∀ v∈cs,v.oneCell'=true)
  (h:∀ W,RowIs W b t cs->Chg (·= b) w W->K (a.put op.dst undef) W):op.wp P a w K Q :=
 wp_store_mid ty x y ho b 0 cs.toArray hx hy (by rw[qh];exact yabn hr hl) (by rw[qh];exact hi) (all_oneCell_toArray h1) (h _ (zrj cs old [] w hr hl) (zm7 _ _ _ (Chg.refl _ _) (.inl rfl)))
theorem zdd {P:Program}{ops:Array Oper}{rest:List Oper}{op:Oper}{a:Act}{w:World}{Q:Exit->Act->World->Prop}(hgd:op.guard=none)(ty:TypeId)(x y:Operand)(ho:op.op=.store ty x y)(b:Nat)(cs old:List Value)(t:TypeId)(hx:a.eval x=.pointer (some ⟨b,0,none⟩))(hy:a.eval y=.agg cs.toArray)(hr:RowIs w b t old)(hl:old.length=cs.length)(hi:(P.info? ty).map (·.size)=some cs.length)(h1:∀ v∈cs,v.oneCell'=true)
  (h:∀ W,RowIs W b t cs->Chg (·= b) w W->wpList P ops Q rest (a.put op.dst undef) W):wpList P ops Q (op::rest) a w :=
 wpList_plain hgd fun _ hK=>zi6 ty x y ho b cs old t hx hy hr hl hi h1 fun W k1 k2=>hK _ _ (h W k1 k2)
theorem zik {w:World}{b:Nat}{t:TypeId}{cs:List Value}(h:RowIs w b t cs):w.rangeAt b 0 cs:=fun j v hj=>by
 rw[qk];exact h.cell hj
def CtlC (ta:Value)(rest st:Int):List Value:=[ta,.int .i64 rest,.int .i64 st,.int .i64 0,.bool false,.bool false,.int .i64 0,.int .i64 0,.int .i64 0,.bool false,.bool false,.bool false]
theorem zlp (g n tc:Nat)(a:Option Addr)(rest:Int)(w:World)(h:RowIs w g 142 (CtlC (.slice a n tc) rest 1)):Calls Tryz.prog 201 #[.pointer (some ⟨g,0,none⟩)] w fun e W=>e=.returned (.tuple #[])/\RowIs W g 142 (CtlC (.slice a n tc) rest (if n=0 then 3 else 1))/\Chg (·= g) w W:=by
 have k0:w.cell? ⟨g,0,none⟩=some (.slice a n tc):=h.cell rfl;have k2:w.cell? ⟨g,2,none⟩=some (.int .i64 1):=h.cell rfl;have k3:w.cell? ⟨g,3,none⟩=some (.int .i64 0):=h.cell rfl;have x2:=h.frozen 2;have x2':∀ n,(w.drewN n).frozen? ⟨g,2,none⟩=false:=fun _=>x2;have H:=zaa h;clear h;by_cases hn:n=0
 ·subst hn
  go_enter Tryz.func201,Tryz.ntmps201
  go_wp2_with fail
  go_quiet (fail)
  go_wp2_with fail
  refine bodyPost_end (v:=.tuple #[]) (results_none rfl _ _ _) rfl ?_;exact⟨rfl,H.out.set 2 _,((Chg.refl (·= g) w).set (p:=⟨g,2,none⟩) (.inl rfl) _).drewN _⟩
 ·rw[if_neg hn];have hn:(0:Int)<(n:Int):=by omega
  go_enter Tryz.func201,Tryz.ntmps201
  go_wp2_with fail
  go_quiet (fail)
  go_wp2_with fail
  refine bodyPost_end (v:=.tuple #[]) (results_none rfl _ _ _) rfl ?_;exact⟨rfl,H.out,(Chg.refl (·= g) w).drewN _⟩
theorem Tryz.infoCtl:(Tryz.prog.info? 142).map (·.size)=some 12:=by kernel_rfl
theorem zfd {a:Option Addr}{n c:Nat}{R st:Int}:∀ v∈CtlC (.slice a n c) R st,v.oneCell'=true:=fun v hv=>by
 simp only[CtlC,List.mem_cons,List.not_mem_nil,or_false]at hv;rcases hv with rfl|rfl|rfl|rfl|rfl|rfl|rfl|rfl|rfl|rfl|rfl|rfl<;>rfl
theorem zbw {w:World}{B k n:Nat}{e t:TypeId}{v:Value}{xs cs:List Value}{b:Nat}(h:w.ownsRow B e k v n xs)(hr:RowIs w b t cs)(ht:e≠t):∀ g,v.ownBlock=some g->¬ g=b:=fun g hg q=>by
 subst q;rcases h.2 with⟨rfl,_⟩|⟨g',cap,cur,rfl,h1,h2,_⟩
 ·simp[qd]at hg
 ·simp[qd]at hg;subst hg;unfold RowIs at hr;rw[h2]at hr;simp at hr;exact ht hr.2
def ctl0:List Value:=CtlC (.slice none 0 0) 0 0
theorem zvp (sa ta va ma:Option Addr)(sl sc tl tc vl vc n mc:Nat)(R:Int)(xs:List Value)(w:World)
  (c1:∀ W,Below w.heap.size w W->Calls Tryz.prog 199 #[.slice va vl vc,.slice ma n mc] W fun e W'=>∃ g cap,e=.returned (.slice (some ⟨g,0,none⟩) n cap)/\W'.ownsRow W.heap.size 303 4 (.slice (some ⟨g,0,none⟩) n cap) n xs/\Below W.heap.size W W')
  (c2:∀ W,Below w.heap.size w W->Calls Tryz.prog 200 #[.slice ta tl tc] W fun e W'=>e=.returned (.int .i64 R)/\Below W.heap.size W W') :
  Calls Tryz.prog 133 #[.agg #[.slice sa sl sc,.slice ta tl tc,.slice va vl vc],.slice ma n mc] w fun e W=>∃ g cap,e=.returned (.agg (CtlC (.slice (some ⟨g,0,none⟩) n cap) R (if n=0 then 3 else 1)).toArray)/\W.ownsRow w.heap.size 303 4 (.slice (some ⟨g,0,none⟩) n cap) n xs/\Below w.heap.size w W:=by
 obtain⟨W1,hW1⟩:∃ W1,W1=(w.alloc (.cells #[.slice sa sl sc,.slice ta tl tc,.slice va vl vc] 26)).alloc (.cells #[.slice none 0 0,.int .i64 0,.int .i64 0,.int .i64 0,.bool false,.bool false,.int .i64 0,.int .i64 0,.int .i64 0,.bool false,.bool false,.bool false] 142):=⟨_,rfl⟩;have hz1:W1.heap.size=w.heap.size+2:=by rw[hW1];simp
 have FB:RowIs W1 w.heap.size 26 [.slice sa sl sc,.slice ta tl tc,.slice va vl vc]:=by rw[hW1];exact RowIs.keep (show RowIs _ w.heap.size _ _ from zal _ _) (bel1 _ _)
 have ZB:RowIs W1 (w.heap.size+1) 142 ctl0:=by rw[hW1];exact nw2 _ _ _
 have HB:Below w.heap.size w W1:=by rw[hW1];exact thn3 (bel1 _ _) (bel1 _ _)
 obtain⟨st,hst0⟩:∃ st:Int,st=if n=0 then 3 else 1:=⟨_,rfl⟩
 rw[<- hst0];have HST:=zaa hst0;clear hst0
 go_enter Tryz.func133,Tryz.ntmps133
 go_wp2_with fail
 rw[<- hW1];clear hW1;have k1:=FB.cell (j:=1) rfl;have k2:=FB.cell (j:=2) rfl;refine wp_region_held_drew (S:=fun w'=>w'.cell? ⟨w.heap.size,2,none⟩=some (.slice va vl vc)/\w'.cell? ⟨w.heap.size,1,none⟩=some (.slice ta tl tc)) (by kernel_rfl) ?_ (fun hHeld=>?_)
 ·exact⟨k2,k1⟩
 refine wpAnyH_take (i:=0) (v:=?_) rfl (by kernel_rfl) (by kernel_rfl) (by kernel_rfl) (fun _ _ _ h=>h) (xv ⟨by rfl,?_⟩) (by assumption) ?_;rotate_left
 ·intro w9 hSw
  (try dsimp only at hSw)
  go_simp
  all_goals with_reducible rfl
 (try simp only[xp,xe,xj,xm,xh,xf,xg])
 refine wpAnyH_take (i:=2) (v:=?_) rfl (by kernel_rfl) (by kernel_rfl) (by kernel_rfl) (fun _ _ _ h=>h) (xv ⟨by rfl,?_⟩) (by assumption) ?_;rotate_left
 ·intro w9 hSw
  (try dsimp only at hSw)
  go_simp
  all_goals with_reducible rfl
 (try simp only[xp,xe,xj,xm,xh,xf,xg])
 refine wpAnyH_take (i:=4) (v:=?_) rfl (by kernel_rfl) (by kernel_rfl) (by kernel_rfl) (fun _ _ _ h=>h) (xv ⟨by rfl,?_⟩) (by assumption) ?_;rotate_left
 ·intro w9 hSw
  (try dsimp only at hSw)
  go_simp
  all_goals with_reducible rfl
 (try simp only[xp,xe,xj,xm,xh,xf,xg])
 refine wpAnyH_take (i:=1) (v:=?_) rfl (by kernel_rfl) (by kernel_rfl) (by kernel_rfl) (fun _ _ _ h=>h) (xv ⟨by rfl,?_⟩) (by assumption) ?_;rotate_left
 ·intro w9 hSw
  (try dsimp only at hSw)
  go_simp
  all_goals with_reducible rfl
 (try simp only[xp,xe,xj,xm,xh,xf,xg])
 refine wpAnyH_take (i:=5) (v:=?_) rfl (by kernel_rfl) (by kernel_rfl) (by kernel_rfl) (fun _ _ _ h=>h) (xv ⟨by rfl,?_⟩) (by assumption) ?_;rotate_left
 ·intro w9 hSw
  (try dsimp only at hSw)
  go_simp
  all_goals with_reducible rfl
 (try simp only[xp,xe,xj,xm,xh,xf,xg])
 have HX:=HB.drew;have ZX:RowIs W1.drew (w.heap.size+1) 142 ctl0:=ZB;refine wpAnyH_ready (rs:=[3,8]) (by kernel_rfl) (by simp) ?_;refine xo rfl (fun K hK=>?_) (xo rfl (fun K hK=>?_) xq)
 ·skip
  go_simp
  go_at_call 199
  refine(c1 _ HX).mono ?_;rintro e w1 ⟨g,cap,rfl,HO,hb1⟩
  (try go_wp2_with fail)
  refine hK.out _ _ ⟨zab hb1 hHeld.1,zab hb1 hHeld.2⟩ (fun hHeld=>?_);clear hK K
  (try simp only[xp,xe,xj,xm,xh,xf,xg])
  have HO:=HO.mono HX.size;have ZX:=ZX.keep hb1;have HX:=thn3 HX hb1;refine wpAnyH_ready (rs:=[6,8]) (by kernel_rfl) (by simp) ?_;refine xo rfl (fun K hK=>?_) (xo rfl (fun K hK=>?_) xq)
  ·skip
   go_simp
   go_at_call 200
   refine(c2 _ HX).mono ?_;rintro e w2 ⟨rfl,hb2⟩
   (try go_wp2_with fail)
   refine hK.out _ _ ⟨zab hb2 hHeld.1,zab hb2 hHeld.2⟩ (fun hHeld=>?_);clear hK K
   (try simp only[xp,xe,xj,xm,xh,xf,xg])
   have HO:=zas HO hb2;have ZX:=ZX.keep hb2;have HX:=thn3 HX hb2;refine wpAnyH_take (i:=7) (v:=?_) rfl (by kernel_rfl) (by kernel_rfl) (by kernel_rfl) (fun _ _ _ h=>h) (xv ⟨by rfl,?_⟩) (by assumption) ?_;rotate_left
   ·intro w9 hSw
    (try dsimp only at hSw)
    go_simp
    all_goals with_reducible rfl
   (try simp only[xp,xe,xj,xm,xh,xf,xg])
   refine wpAnyH_ready (rs:=[8]) (by kernel_rfl) (by simp) ?_;refine xo rfl (fun K hK=>?_) xq
   go_simp
   have hba:Below (w2).heap.size (w2) (w2.alloc (.cells #[.slice none 0 0,.int .i64 0,.int .i64 0,.int .i64 0,.bool false,.bool false,.int .i64 0,.int .i64 0,.int .i64 0,.bool false,.bool false,.bool false] 142)):=bel1 (w2) (.cells #[.slice none 0 0,.int .i64 0,.int .i64 0,.int .i64 0,.bool false,.bool false,.int .i64 0,.int .i64 0,.int .i64 0,.bool false,.bool false,.bool false] 142);have ZA:RowIs (w2.alloc (.cells #[.slice none 0 0,.int .i64 0,.int .i64 0,.int .i64 0,.bool false,.bool false,.int .i64 0,.int .i64 0,.int .i64 0,.bool false,.bool false,.bool false] 142)) (w2).heap.size 142 ctl0:=zal (w2) (.cells #[.slice none 0 0,.int .i64 0,.int .i64 0,.int .i64 0,.bool false,.bool false,.int .i64 0,.int .i64 0,.int .i64 0,.bool false,.bool false,.bool false] 142);have nz:=ZX.lt;refine hK.out _ _ ⟨zab hba hHeld.1,zab hba hHeld.2⟩ (fun hHeld=>?_);clear hK K
   (try simp only[xp,xe,xj,xm,xh,xf,xg])
   generalize w2.alloc (.cells #[.slice none 0 0,.int .i64 0,.int .i64 0,.int .i64 0,.bool false,.bool false,.int .i64 0,.int .i64 0,.int .i64 0,.bool false,.bool false,.bool false] 142)=wa at hba ZA hHeld ⊢;have ZX:=ZX.keep hba;have HX:=thn3 HX hba;have HO:=zas HO hba;refine wpAnyH_ready (rs:=[9]) (by kernel_rfl) (by simp) ?_;refine xo rfl (fun K hK=>?_) xq;rw[if_pos (by rfl)];refine zi6 _ _ _ rfl _ (CtlC (.slice (some ⟨g,0,none⟩) n cap) R 1) ctl0 _ rfl rfl ZA rfl Tryz.infoCtl zfd ?_;intro W3 R3 C3;refine hK.out _ _ ⟨C3.cell (by omega) hHeld.1,C3.cell (by omega) hHeld.2⟩ (fun _=>?_);clear hK K;refine wpAnyH_done (by kernel_rfl) ?_ _;have HO:=C3.own HO (zbw HO ZA (by decide));have HX:=HX.trans (C3.bel HX.size (fun k hk q=>by omega));have ZX:=C3.row ZX (by omega);clear ZA C3;generalize w2.heap.size=b5 at nz R3 ⊢;have hst:=zlp b5 n cap (some ⟨g,0,none⟩) R W3 R3;clear c1 c2 HB FB k1 k2 ZB;rw[<- HST.out]at hst;have lz:=ZX.lt;have l5:=R3.lt
   go_wp2_with (first
    |(go_at_call 201;refine hst.mono ?_;rintro e w4 ⟨rfl,R4,C4⟩;have Z4:=C4.row ZX (by omega);have HO4:=C4.own HO (zbw HO R3 (by decide));have HX4:=HX.trans (C4.bel HX.size (fun k hk q=>by omega)))
    |(refine wpList_load_mid rfl 142 _ rfl b5 0 rfl (CtlC (.slice (some ⟨g,0,none⟩) n cap) R st) _ (zik R4) Tryz.underlying142 rfl Tryz.infoCtl ?_;(try simp only[xp,xe,xj,xm,xh,xf,xg]))
    |(refine zdd rfl 142 _ _ rfl (w.heap.size+1) (CtlC (.slice (some ⟨g,0,none⟩) n cap) R st) ctl0 _ rfl rfl Z4 rfl Tryz.infoCtl zfd ?_;intro w5 R5 C5;(try simp only[xp,xe,xj,xm,xh,xf,xg])))
   have o0:=R5.cell (j:=0) rfl;have o1:=R5.cell (j:=1) rfl;have o2:=R5.cell (j:=2) rfl;have o3:=R5.cell (j:=3) rfl;have o4:=R5.cell (j:=4) rfl;have o5:=R5.cell (j:=5) rfl;have o6:=R5.cell (j:=6) rfl;have o7:=R5.cell (j:=7) rfl;have o8:=R5.cell (j:=8) rfl;have o9:=R5.cell (j:=9) rfl;have o10:=R5.cell (j:=10) rfl;have o11:=R5.cell (j:=11) rfl;refine bodyPost_ret (v:=.agg (CtlC (.slice (some ⟨g,0,none⟩) n cap) R st).toArray) (by simp[results,Tryz.results133,go_sem,CtlC,o0,o1,o2,o3,o4,o5,o6,o7,o8,o9,o10,o11]) rfl ?_;exact⟨g,cap,rfl,C5.own HO4 (zbw HO4 Z4 (by decide)),HX4.trans (C5.bel HX4.size (fun k hk q=>by omega))⟩
  ·skip
   go_simp
   have hba:Below (w1).heap.size (w1) (w1.alloc (.cells #[.slice none 0 0,.int .i64 0,.int .i64 0,.int .i64 0,.bool false,.bool false,.int .i64 0,.int .i64 0,.int .i64 0,.bool false,.bool false,.bool false] 142)):=bel1 (w1) (.cells #[.slice none 0 0,.int .i64 0,.int .i64 0,.int .i64 0,.bool false,.bool false,.int .i64 0,.int .i64 0,.int .i64 0,.bool false,.bool false,.bool false] 142);have ZA:RowIs (w1.alloc (.cells #[.slice none 0 0,.int .i64 0,.int .i64 0,.int .i64 0,.bool false,.bool false,.int .i64 0,.int .i64 0,.int .i64 0,.bool false,.bool false,.bool false] 142)) (w1).heap.size 142 ctl0:=zal (w1) (.cells #[.slice none 0 0,.int .i64 0,.int .i64 0,.int .i64 0,.bool false,.bool false,.int .i64 0,.int .i64 0,.int .i64 0,.bool false,.bool false,.bool false] 142);have nz:=ZX.lt;refine hK.out _ _ ⟨zab hba hHeld.1,zab hba hHeld.2⟩ (fun hHeld=>?_);clear hK K
   (try simp only[xp,xe,xj,xm,xh,xf,xg])
   generalize w1.alloc (.cells #[.slice none 0 0,.int .i64 0,.int .i64 0,.int .i64 0,.bool false,.bool false,.int .i64 0,.int .i64 0,.int .i64 0,.bool false,.bool false,.bool false] 142)=wa at hba ZA hHeld ⊢;have ZX:=ZX.keep hba;have HX:=thn3 HX hba;have HO:=zas HO hba;refine wpAnyH_ready (rs:=[6]) (by kernel_rfl) (by simp) ?_;refine xo rfl (fun K hK=>?_) xq
   go_simp
   go_at_call 200
   refine(c2 _ HX).mono ?_;rintro e w2 ⟨rfl,hb2⟩
   (try go_wp2_with fail)
   refine hK.out _ _ ⟨zab hb2 hHeld.1,zab hb2 hHeld.2⟩ (fun hHeld=>?_);clear hK K
   (try simp only[xp,xe,xj,xm,xh,xf,xg])
   have HO:=zas HO hb2;have ZX:=ZX.keep hb2;have HX:=thn3 HX hb2;have ZA:=ZA.keep hb2;refine wpAnyH_take (i:=7) (v:=?_) rfl (by kernel_rfl) (by kernel_rfl) (by kernel_rfl) (fun _ _ _ h=>h) (xv ⟨by rfl,?_⟩) (by assumption) ?_;rotate_left
   ·intro w9 hSw
    (try dsimp only at hSw)
    go_simp
    all_goals with_reducible rfl
   (try simp only[xp,xe,xj,xm,xh,xf,xg])
   refine wpAnyH_ready (rs:=[9]) (by kernel_rfl) (by simp) ?_;refine xo rfl (fun K hK=>?_) xq;rw[if_pos (by rfl)];refine zi6 _ _ _ rfl _ (CtlC (.slice (some ⟨g,0,none⟩) n cap) R 1) ctl0 _ rfl rfl ZA rfl Tryz.infoCtl zfd ?_;intro W3 R3 C3;refine hK.out _ _ ⟨C3.cell (by omega) hHeld.1,C3.cell (by omega) hHeld.2⟩ (fun _=>?_);clear hK K;refine wpAnyH_done (by kernel_rfl) ?_ _;have HO:=C3.own HO (zbw HO ZA (by decide));have HX:=HX.trans (C3.bel HX.size (fun k hk q=>by omega));have ZX:=C3.row ZX (by omega);clear ZA C3;generalize w1.heap.size=b5 at nz R3 ⊢;have hst:=zlp b5 n cap (some ⟨g,0,none⟩) R W3 R3;clear c1 c2 HB FB k1 k2 ZB;rw[<- HST.out]at hst;have lz:=ZX.lt;have l5:=R3.lt
   go_wp2_with (first
    |(go_at_call 201;refine hst.mono ?_;rintro e w4 ⟨rfl,R4,C4⟩;have Z4:=C4.row ZX (by omega);have HO4:=C4.own HO (zbw HO R3 (by decide));have HX4:=HX.trans (C4.bel HX.size (fun k hk q=>by omega)))
    |(refine wpList_load_mid rfl 142 _ rfl b5 0 rfl (CtlC (.slice (some ⟨g,0,none⟩) n cap) R st) _ (zik R4) Tryz.underlying142 rfl Tryz.infoCtl ?_;(try simp only[xp,xe,xj,xm,xh,xf,xg]))
    |(refine zdd rfl 142 _ _ rfl (w.heap.size+1) (CtlC (.slice (some ⟨g,0,none⟩) n cap) R st) ctl0 _ rfl rfl Z4 rfl Tryz.infoCtl zfd ?_;intro w5 R5 C5;(try simp only[xp,xe,xj,xm,xh,xf,xg])))
   have o0:=R5.cell (j:=0) rfl;have o1:=R5.cell (j:=1) rfl;have o2:=R5.cell (j:=2) rfl;have o3:=R5.cell (j:=3) rfl;have o4:=R5.cell (j:=4) rfl;have o5:=R5.cell (j:=5) rfl;have o6:=R5.cell (j:=6) rfl;have o7:=R5.cell (j:=7) rfl;have o8:=R5.cell (j:=8) rfl;have o9:=R5.cell (j:=9) rfl;have o10:=R5.cell (j:=10) rfl;have o11:=R5.cell (j:=11) rfl;refine bodyPost_ret (v:=.agg (CtlC (.slice (some ⟨g,0,none⟩) n cap) R st).toArray) (by simp[results,Tryz.results133,go_sem,CtlC,o0,o1,o2,o3,o4,o5,o6,o7,o8,o9,o10,o11]) rfl ?_;exact⟨g,cap,rfl,C5.own HO4 (zbw HO4 Z4 (by decide)),HX4.trans (C5.bel HX4.size (fun k hk q=>by omega))⟩
 ·skip
  go_simp
  have hba:Below (W1.drew).heap.size (W1.drew) ((W1.alloc (.cells #[.slice none 0 0,.int .i64 0,.int .i64 0,.int .i64 0,.bool false,.bool false,.int .i64 0,.int .i64 0,.int .i64 0,.bool false,.bool false,.bool false] 142)).drew):=bel1 (W1.drew) (.cells #[.slice none 0 0,.int .i64 0,.int .i64 0,.int .i64 0,.bool false,.bool false,.int .i64 0,.int .i64 0,.int .i64 0,.bool false,.bool false,.bool false] 142);have ZA:RowIs ((W1.alloc (.cells #[.slice none 0 0,.int .i64 0,.int .i64 0,.int .i64 0,.bool false,.bool false,.int .i64 0,.int .i64 0,.int .i64 0,.bool false,.bool false,.bool false] 142)).drew) (W1.drew).heap.size 142 ctl0:=zal (W1.drew) (.cells #[.slice none 0 0,.int .i64 0,.int .i64 0,.int .i64 0,.bool false,.bool false,.int .i64 0,.int .i64 0,.int .i64 0,.bool false,.bool false,.bool false] 142);have e2:W1.drew.heap.size=w.heap.size+2:=hz1;rw[e2]at ZA;have nz:w.heap.size+1<w.heap.size+2:=by omega
  refine hK.out _ _ ⟨zab hba hHeld.1,zab hba hHeld.2⟩ (fun hHeld=>?_);clear hK K
  (try simp only[xp,xe,xj,xm,xh,xf,xg])
  generalize (W1.alloc (.cells #[.slice none 0 0,.int .i64 0,.int .i64 0,.int .i64 0,.bool false,.bool false,.int .i64 0,.int .i64 0,.int .i64 0,.bool false,.bool false,.bool false] 142)).drew=wa at hba ZA hHeld ⊢;have ZX:=ZX.keep hba;have HX:=thn3 HX hba;refine wpAnyH_ready (rs:=[3]) (by kernel_rfl) (by simp) ?_;refine xo rfl (fun K hK=>?_) xq
  go_simp
  go_at_call 199
  refine(c1 _ HX).mono ?_;rintro e w1 ⟨g,cap,rfl,HO,hb1⟩
  (try go_wp2_with fail)
  refine hK.out _ _ ⟨zab hb1 hHeld.1,zab hb1 hHeld.2⟩ (fun hHeld=>?_);clear hK K
  (try simp only[xp,xe,xj,xm,xh,xf,xg])
  have HO:=HO.mono HX.size;have ZX:=ZX.keep hb1;have HX:=thn3 HX hb1;have ZA:=ZA.keep hb1;refine wpAnyH_ready (rs:=[6]) (by kernel_rfl) (by simp) ?_;refine xo rfl (fun K hK=>?_) xq
  go_simp
  go_at_call 200
  refine(c2 _ HX).mono ?_;rintro e w2 ⟨rfl,hb2⟩
  (try go_wp2_with fail)
  refine hK.out _ _ ⟨zab hb2 hHeld.1,zab hb2 hHeld.2⟩ (fun hHeld=>?_);clear hK K
  (try simp only[xp,xe,xj,xm,xh,xf,xg])
  have HO:=zas HO hb2;have ZX:=ZX.keep hb2;have HX:=thn3 HX hb2;have ZA:=ZA.keep hb2;refine wpAnyH_take (i:=7) (v:=?_) rfl (by kernel_rfl) (by kernel_rfl) (by kernel_rfl) (fun _ _ _ h=>h) (xv ⟨by rfl,?_⟩) (by assumption) ?_;rotate_left
  ·intro w9 hSw
   (try dsimp only at hSw)
   go_simp
   all_goals with_reducible rfl
  (try simp only[xp,xe,xj,xm,xh,xf,xg])
  refine wpAnyH_ready (rs:=[9]) (by kernel_rfl) (by simp) ?_;refine xo rfl (fun K hK=>?_) xq;rw[if_pos (by rfl)];refine zi6 _ _ _ rfl _ (CtlC (.slice (some ⟨g,0,none⟩) n cap) R 1) ctl0 _ rfl rfl ZA rfl Tryz.infoCtl zfd ?_;intro W3 R3 C3;refine hK.out _ _ ⟨C3.cell (by omega) hHeld.1,C3.cell (by omega) hHeld.2⟩ (fun _=>?_);clear hK K;refine wpAnyH_done (by kernel_rfl) ?_ _;have HO:=C3.own HO (zbw HO ZA (by decide));have HX:=HX.trans (C3.bel HX.size (fun k hk q=>by omega));have ZX:=C3.row ZX (by omega);clear ZA C3;generalize w.heap.size+2=b5 at nz R3 ⊢;have hst:=zlp b5 n cap (some ⟨g,0,none⟩) R W3 R3;clear c1 c2 HB FB k1 k2 ZB;rw[<- HST.out]at hst;have lz:=ZX.lt;have l5:=R3.lt
  go_wp2_with (first
   |(go_at_call 201;refine hst.mono ?_;rintro e w4 ⟨rfl,R4,C4⟩;have Z4:=C4.row ZX (by omega);have HO4:=C4.own HO (zbw HO R3 (by decide));have HX4:=HX.trans (C4.bel HX.size (fun k hk q=>by omega)))
   |(refine wpList_load_mid rfl 142 _ rfl b5 0 rfl (CtlC (.slice (some ⟨g,0,none⟩) n cap) R st) _ (zik R4) Tryz.underlying142 rfl Tryz.infoCtl ?_;(try simp only[xp,xe,xj,xm,xh,xf,xg]))
   |(refine zdd rfl 142 _ _ rfl (w.heap.size+1) (CtlC (.slice (some ⟨g,0,none⟩) n cap) R st) ctl0 _ rfl rfl Z4 rfl Tryz.infoCtl zfd ?_;intro w5 R5 C5;(try simp only[xp,xe,xj,xm,xh,xf,xg])))
  have o0:=R5.cell (j:=0) rfl;have o1:=R5.cell (j:=1) rfl;have o2:=R5.cell (j:=2) rfl;have o3:=R5.cell (j:=3) rfl;have o4:=R5.cell (j:=4) rfl;have o5:=R5.cell (j:=5) rfl;have o6:=R5.cell (j:=6) rfl;have o7:=R5.cell (j:=7) rfl;have o8:=R5.cell (j:=8) rfl;have o9:=R5.cell (j:=9) rfl;have o10:=R5.cell (j:=10) rfl;have o11:=R5.cell (j:=11) rfl;refine bodyPost_ret (v:=.agg (CtlC (.slice (some ⟨g,0,none⟩) n cap) R st).toArray) (by simp[results,Tryz.results133,go_sem,CtlC,o0,o1,o2,o3,o4,o5,o6,o7,o8,o9,o10,o11]) rfl ?_;exact⟨g,cap,rfl,C5.own HO4 (zbw HO4 Z4 (by decide)),HX4.trans (C5.bel HX4.size (fun k hk q=>by omega))⟩
theorem zvn (f:zac)(sa ta va:Option Addr)(sl sc tl tc vl vc:Nat)(ms:List (Int×Int))(ma:Option Addr)(mc:Nat)(w:World)(hf:FleetAt w sa sl sc ta tl tc va vl vc f)(hm:MvsAt w ma ms)(hvl:f.vs.length<=3)(htl:f.ts.length<=4)(hml:ms.length<=200)(hok:∀ m∈ms,numB m.1 f.vs.length=true) :
  Calls Tryz.prog 133 #[.agg #[.slice sa sl sc,.slice ta tl tc,.slice va vl vc],.slice ma ms.length mc] w fun e W=>∃ g cap,e=.returned (.agg (CtlC (.slice (some ⟨g,0,none⟩) ms.length cap) (rstN f.ts) (if ms.length=0 then 3 else 1)).toArray)/\W.ownsRow w.heap.size 303 4 (.slice (some ⟨g,0,none⟩) ms.length cap) ms.length ((tskN (lst0 f.vs) ms).flatMap tskF)/\Below w.heap.size w W:=by
 have c1:=fun (W:World) (h:Below w.heap.size w W)=>yadj f.vs ms W va ma vc mc ((hf.keep h).v3) (hm.keep h) hvl hml hok;have c2:=fun (W:World) (h:Below w.heap.size w W)=>yabk f.ts W ta tc htl ((hf.keep h).t3);rw[<- hf.v1]at c1;rw[<- hf.t1]at c2;exact zvp sa ta va ma sl sc tl tc vl vc ms.length mc (rstN f.ts) _ w c1 c2
section
variable {w0 w W:World}{L:Nat->Nat}{gb r:Nat}{b:zav}{f:zac}{ms:List (Int×Int)}{N:Int}
theorem yaaq {N:Int}(h:Inv N b){s i:Nat}{v:SvcD}(hv:b.f.vs[s]?=some v){V:SrvD}{y:InsD}{a:Nat}{ps:List PinD}(hA:zhd b s i v V y a ps)(hta:b.tale=false)(k:Int)(text:ByteArray):Inv (N+1) { b with P:=if numB k b.P.ts.length/\numB (pinO ps k).w b.P.ss.length/\(zau false (schO b.P.ss (pinO ps k).w) text).2=0/\(b.P.ts.getD k.toNat ⟨0,[]⟩).recs.length<12 then wrtP b.P k.toNat (schO b.P.ss (pinO ps k).w) (zau false (schO b.P.ss (pinO ps k).w) text).1 else b.P }:=by
 split
 ·rename_i hc;obtain⟨h1,h2,h3,h4⟩:=hc;obtain⟨kk,rfl,hkk⟩:=zgp h1;rw[Int.toNat_natCast]at h4 ⊢;rw[h.ss]at h2 h3 ⊢;have hT:b.P.ts[kk]?=some b.P.ts[kk]:=xu hkk;rw[xz,hT]at h4;exact h.wrt hv hA hT h2 (qn rfl h3) h4 (.inl ⟨hta,rfl⟩)
 ·exact h.mono (by omega)
theorem yaar {x:StD}(hx:x.k=5)(ha:-9223372036854775808<=x.a/\x.a<=9223372036854775807)(hb:-9223372036854775808<=x.b/\x.b<=9223372036854775807)(hxs:x.s.size<=maxLen)(h:Std w0 gb r f ms false N w):Calls Tryz.prog 23 #[.pointer (some ⟨gb,0,none⟩),stV x] w fun e W'=>e=.returned (.bool true)/\Std w0 gb r f ms false (N+1) W':=by
 obtain⟨b,L,hB,hI,rfl,rfl,hta⟩:=h;have ho:=zb3 hI.sf.ob;have hv1:=ho.vs1;have hv3:=ho.vs3;have hpl:pckN x.a b.f.vs.length<b.f.vs.length:=zbn _ (by omega);obtain⟨v,hv⟩:∃ v,b.f.vs[pckN x.a b.f.vs.length]?=some v:=⟨b.f.vs[pckN x.a b.f.vs.length]'hpl,xu _⟩;obtain⟨s1,s3⟩:=zg1 ho hv;have hz2:v.size=(v.size.toNat:Nat):=by omega
 have hp2:pckN x.b v.size.toNat<v.size.toNat:=zbn _ (by omega);obtain⟨V,y,a,ps,hA⟩:=hI.inst hv (show ((pckN x.b v.size.toNat:Nat):Int)<v.size by omega);have hl4:=hA.l4;refine zr1 hx fun W hbw=>?_;refine yaau (Q:=fun W'=>Std w0 gb r b.f b.ms false (N+1) W') hta ha hb (by omega) (by omega) hv hz2 (by omega) (by omega) (hB.keep hbw) fun W2 hbw2=>?_;obtain⟨sa,ta,va,ma,sl,sc,tl,tc,vl,vc,mc,nv,hM⟩:=(hB.keep hbw).keep hbw2;refine(zja _ _ a V y ps x.c x.s hA.hV hA.hy hA.hr hA.hps (by omega) hxs (by rw[hI.ss];have:=zlj (f:=b.f) ho (k:=(pinO ps x.c).w);unfold maxLen;omega) hM.run).mono ?_;rintro e W3 ⟨rfl,ht⟩;obtain⟨L',hB'⟩:=((hB.keep hbw).keep hbw2).turn ht;exact⟨⟨_,rfl⟩,_,L',hB',yaaq hI hv hA hta x.c x.s,rfl,rfl,hta⟩
theorem BookE.note (h:BookE w0 W L gb r b)(hz:w0.heap.size<=gb):∃ (T:Int) (nv:Value) (m B:Nat) (ys cs:List Value),RowIs W gb 70 cs/\cs[6]?=some (.int .i64 T)/\cs[7]?=some nv/\W.ownsRow B 135 3 nv m ys/\B<=W.heap.size/\m=b.notes.length/\nv.ownBlock≠some gb/\T=b.ti/\∀ W3 g cap W2 wN d,Below W.heap.size W W3->W2.ownsRow B 135 3 (.slice (some ⟨g,0,none⟩) (m+1) cap) (m+1) (ys++[.int .i64 T,.int .i64 wN,.string d])->W3.grownBy W2 nv.ownBlock->(nv.ownBlock=some g\/W3.heap.size<=g)->BookE w0 (W2.setCell ⟨gb,7,none⟩ (.slice (some ⟨g,0,none⟩) (m+1) cap)) L gb r { b with notes:=b.notes++[⟨T,wN,d⟩] }:=by
 obtain⟨sa,ta,va,ma,sl,sc,tl,tc,vl,vc,mc,nv,h⟩:=h;have hne:nv.ownBlock≠some gb:=fun e=>(h.ln gb e).2 rfl;refine⟨b.ti,nv,b.notes.length,w0.heap.size,b.notes.flatMap zcx,_,h.row,rfl,rfl,h.nts,h.bel.size,rfl,hne,rfl,fun W3 g cap W2 wN d hb3 ho hg hat=>?_⟩;have h3:=h.keep hb3;obtain⟨gt,tc',m',gv,vc',t,s,sv,tv,hr⟩:=h3.run;have hgb3:=h3.row.lt;have hc:Chg (fun k=>nv.ownBlock=some k\/k=gb) W3 (W2.setCell ⟨gb,7,none⟩ (.slice (some ⟨g,0,none⟩) (b.notes.length+1) cap)):=((Chg.refl (fun k=>nv.ownBlock=some k\/k=gb) W3).grown hg (fun k hk=>.inl (.inl hk))).set (p:=⟨gb,7,none⟩) (.inl (.inr rfl)) _;have hrow2:=h3.row.grown hg hne;refine⟨sa,ta,va,ma,sl,sc,tl,tc,vl,vc,mc,.slice (some ⟨g,0,none⟩) (b.notes.length+1) cap,hrow2.set 7 _,h3.lb,⟨gt,tc',m',gv,vc',t,s,sv,tv,hr.out hc (fun k hk=>?_)⟩,h3.low,h3.bel.trans (hc.bel h3.bel.size (fun k hk q=>?_)),h3.flt,h3.mvs,?_,fun k hk=>?_⟩
 ·rcases hk with q|rfl
  ·exact(h3.ln k q).1
  ·exact h3.lb
 ·rcases q with q|rfl
  ·have:=(qm h3.nts k q).1;omega
  ·omega
 ·show World.ownsRow _ _ _ _ _ (b.notes++[_]).length ((b.notes++[_]).flatMap zcx);rw[qg,List.flatMap_append];exact((Chg.refl (·= gb) W2).set (p:=⟨gb,7,none⟩) (.inl rfl) _).own ho (zbw ho hrow2 (by decide))
 ·have hk:g=k:=by simpa[qd]using hk
  subst hk;refine⟨?_,fun q=>?_⟩
  ·rcases hat with q|q
   ·exact(h3.ln g q).1
   ·exact hr.fr g q
  ·exact zbw ho hrow2 (by decide) g rfl q
theorem yaas {x:StD}(hx:x.k=5)(ha:-9223372036854775808<=x.a/\x.a<=9223372036854775807)(hb:-9223372036854775808<=x.b/\x.b<=9223372036854775807)(hc:-9223372036854775808<=x.c/\x.c<=9223372036854775807)(htl:Tlf f)(hN:N<=2100000)(hz:w0.heap.size<=gb)
  (hSay:∀ v∈f.vs,∀ ps∈v.rels,∀ p∈ps,numB p.w f.ss.length=true->∀ W,Calls Tryz.prog 123 #[.string (schO f.ss p.w),.int .i64 x.c] W fun e W'=>zbz (schO f.ss p.w) W e W')
  (h:Std w0 gb r f ms true N w):Calls Tryz.prog 23 #[.pointer (some ⟨gb,0,none⟩),stV x] w fun e W'=>e=.returned (.bool true)/\Std w0 gb r f ms true (N+1) W':=by
 obtain⟨b,L,hB,hI,rfl,rfl,hta⟩:=h;have ho:=zb3 hI.sf.ob;have hv1:=ho.vs1;have hv3:=ho.vs3;have hs8:=ho.ss8;have hpl:pckN x.a b.f.vs.length<b.f.vs.length:=zbn _ (by omega);obtain⟨v,hv⟩:∃ v,b.f.vs[pckN x.a b.f.vs.length]?=some v:=⟨b.f.vs[pckN x.a b.f.vs.length]'hpl,xu _⟩;obtain⟨s1,s3⟩:=zg1 ho hv;have hz2:v.size=(v.size.toNat:Nat):=by omega
 have hp2:pckN x.b v.size.toNat<v.size.toNat:=zbn _ (by omega);obtain⟨V,y,a,ps,hA⟩:=hI.inst hv (show ((pckN x.b v.size.toNat:Nat):Int)<v.size by omega);obtain⟨p,rfl,hpt⟩:=htl.pin v (xy hv) ps (xy hA.pv);obtain⟨k,hts,hk0,hk6⟩:=htl.ts;have hpo:=zqm hpt;have hpo':pinO [p] 0=p:=hpo;have htl1:b.P.ts.length=1:=by rw[hI.tl,hts];rfl
 obtain⟨T,hTt⟩:∃ T,b.P.ts[0]?=some T:=⟨b.P.ts[0]'(by omega),xu _⟩;have hTd:b.P.ts.getD (0:Int).toNat ⟨0,[]⟩=T:=by rw[xz,show (0:Int).toNat=0 from rfl,hTt];rfl
 have hn0:numB 0 b.P.ts.length=true:=by rw[htl1];rfl
 have hnn:=hI.nn;refine zr1 hx fun W0 hbw=>?_;have hB0:=hB.keep hbw;have c1:∀ W,Below W0.heap.size W0 W->Calls Tryz.prog 63 #[.pointer (some ⟨gb,0,none⟩),.int .i64 (pckN x.a b.f.vs.length:Nat),.int .i64 (pckN x.b v.size.toNat:Nat)] W fun e W'=>e=.returned (.tuple #[.int .i64 p.w,.int .i64 p.r,.bool true])/\Below W.heap.size W W':=fun W hb=>zm2 _ _ a hv (by omega) hA.hb (by rw[hA.ig];exact hA.hr) hA.pv rfl (hB0.keep hb);have hsz:=zlj (f:=b.f) ho (k:=p.w);rcases (zqo hA.pb).1 with hw|hw
 ·refine yaat (Q:=fun W'=>Std w0 gb r b.f b.ms true (N+1) W') hta ha hb (by omega) (by omega) hv hz2 (by omega) (by omega) hB0 p.w p.r (by omega) c1 fun W2 hbw2=>?_;obtain⟨sa,ta,va,ma,sl,sc,tl,tc,vl,vc,mc,nv,hM⟩:=hB0.keep hbw2;refine(zja _ _ a V y [p] 0 ⟨#[53]⟩ hA.hV hA.hy hA.hr hA.hps (by simp) (by decide) (by rw[hI.ss,hpo'];unfold maxLen;omega) hM.run).mono ?_;have hnb:numB (pinO [p] 0).w b.P.ss.length=false:=by rw[hpo',hw];rfl
  rw[hn0,hnb];rintro e W3 ⟨rfl,ht⟩;obtain⟨L',hB'⟩:=(hB0.keep hbw2).turn ht;refine⟨rfl,_,L',hB',?_,rfl,rfl,hta⟩;rw[if_neg (by simp)];exact hI.mono (by omega)
 ·obtain⟨wN,sch,ew,hxw,esw⟩:=zgy hw;obtain⟨sa,sc,hx'⟩:=hB0.s;obtain⟨sb,so,hsa⟩:∃ sb so,sa=some ⟨sb,so,none⟩:=by
   obtain⟨_,_,_,hst⟩:=hx' W0 (Below.refl _ _);obtain⟨sb,so,q,_⟩:=hst wN sch hxw;exact⟨sb,so,q⟩
  subst hsa;have hwl:=(List.getElem?_eq_some_iff.1 hxw).1;obtain⟨nt1,nt2⟩:=hI.nt hta T hTt;have hkT:T.keep=k:=by
   have:=hI.kp;rw[hts]at this;have h2:=congrArg (fun l=>l[0]?) this;simp only[List.getElem?_map,hTt]at h2;simpa using h2
  rw[hkT]at nt1;have hl12:=(hI.bn.rc 0 T hTt).1;have hlen:T.recs.length=(b.notes.filter (zay k b.ti)).length:=by rw[nt1,List.length_map]
  have hsay:=hSay v (xy hv) [p] (xy hA.pv) p (by simp) hw;rw[esw]at hsay hsz;rw[ew]at c1;have hti:=hI.bn.ti;have hnb:numB (pinO [p] 0).w b.P.ss.length=true:=by rw[hpo',hI.ss];exact hw
  have hsp:schO b.P.ss (pinO [p] 0).w=sch:=by rw[hpo',hI.ss];exact esw
  refine yaav (Q:=fun W'=>Std w0 gb r b.f b.ms true (N+1) W') hta ha hb (by omega) (by omega) hv hz2 (by omega) (by omega) hB0 hc (fun d W'=>∃ t L',zau false sch t=(d,0)/\BookE w0 W' L' gb r { b with P:=if T.recs.length<12 then wrtP b.P 0 sch d else b.P }) p.r T.recs.length wN b.f.ss.length sb so sc sch hl12 hwl (by omega) (fun W hbb=>?_) c1 hsay (fun t W h1 h2=>?_) (fun W hbb=>?_) (fun t W h1 h2 hbb=>?_) (fun d W hR h12=>?_) (fun d W hR h12=>?_)
  ·obtain⟨h1,_,_,h4⟩:=hx' W hbb;obtain⟨sb',so',q,h5⟩:=h4 wN sch hxw;cases q;exact⟨h1,h5⟩
  ·have:=zl5 sch t (by unfold maxLen;omega) (by unfold maxLen;omega) W;rw[h1]at this;exact this
  ·refine(zqx k (by rw[hts];rfl) ⟨hk0,hk6⟩ (by rw[hI.ti];omega) (by omega) (fun x hx''=>(nt2 x hx'').1) (hB0.keep hbb)).mono ?_;rintro e W' ⟨u,rfl,hO,hb'⟩;obtain⟨a',c',q,_⟩:=zbb hO (by omega);rw[hlen];exact⟨a',c',by rw[q],hb'⟩
  ·obtain⟨sa',ta,va,ma,sl,sc',tl,tc,vl,vc,mc,nv,hM⟩:=hB0.keep hbb;refine(zja _ _ a V y [p] 0 t hA.hV hA.hy hA.hr hA.hps (by simp) (by unfold maxLen;omega) (by rw[hsp];unfold maxLen;omega) hM.run).mono ?_;rw[hn0,hnb,hsp,hTd,h1];rintro e W3 ⟨rfl,ht⟩;obtain⟨L',hB'⟩:=(hB0.keep hbb).turn ht;refine⟨by simp,t,L',qn rfl h1,?_⟩;have e1:(if true=true/\true=true/\(0:Int)=0/\T.recs.length<12 then wrtP b.P (0:Int).toNat sch (zau false sch t).1 else b.P)=if T.recs.length<12 then wrtP b.P 0 sch (zau false sch t).1 else b.P:=by simp
   rw[<- e1];exact hB'
  ·obtain⟨t,L',_,hB'⟩:=hR;rw[if_neg (by omega)]at hB';exact⟨_,L',hB',hI.mono (by omega),rfl,rfl,hta⟩
  ·obtain⟨t,L',he,hB'⟩:=hR;rw[if_pos h12]at hB';obtain⟨T',nv,m,B,ys,cs,e1,e2,e3,e4,e5,e6,e7,e8,e9⟩:=hB'.note hz;refine⟨T',nv,m,B,ys,cs,e1,e2,e3,e4,e5,?_,e7,fun W3 g cap W2 g1 g2 g3 g4=>?_⟩
   ·rw[e6];show b.notes.length<=2100000;omega
   ·have hE:=e9 W3 g cap W2 wN d g1 g2 g3 g4;refine⟨_,L',hE,?_,rfl,rfl,hta⟩;have hw':(pinO [p] (0:Nat)).w=wN:=by rw[hpo,ew]
    have hW:=hI.wrt hv hA (k:=0) hTt (by rw[hpo];exact hw) (text:=t) (d:=d) (by rw[hpo,esw];exact he) h12 (ns:=b.notes++[⟨T',wN,d⟩]) (.inr ⟨rfl,by rw[hw',e8]⟩);rw[hpo,esw]at hW;exact hW
end
theorem zu2 (w:World)(e:TypeId)(s:ByteArray):Below w.heap.size w (Lib.bytesWorld w e s) :=
 ⟨rfl,rfl,rfl,by rw[Lib.bytesWorld_size];omega,fun k hk=>Lib.bytesWorld_at_old w e s k hk⟩
theorem yae3 {P:Program}{ops:Array Oper}{rest:List Oper}{o:Oper}{a:Act}{w:World}{Q:Exit->Act->World->Prop}(hgd:o.guard=none)(src dst e:TypeId)(x:Operand)(ho:o.op=.convert src dst x)(s:ByteArray)(hx:a.eval x=.string s){u:TypeDesc}(hs:P.underlying src=some u)(hd:P.underlying dst=some (.slice e))(he:P.underlying e=some (.int .u8))
  (h:∀ c w',Below w.heap.size w w'->w'.heap.size=w.heap.size+1->(∀ j (hj:j<s.data.toList.length),w'.cell? ⟨w.heap.size,j,none⟩=some (.int .u8 (s.data.toList[j].toNat:Int)))->wpList P ops Q rest (a.put o.dst (.slice (some ⟨w.heap.size,0,none⟩) s.size c)) w'):wpList P ops Q (o::rest) a w:=by
 refine wpList_plain hgd fun K hK=>?_;unfold Oper.wp execOp;simp only[ho,hx,Sem.run_bind,Lib.run_convert_string_bytes w src dst e s hs hd he,Result.andThen_ok,Sem.run_pure];refine hK _ _ (h _ _ (zu2 w e s) (Lib.bytesWorld_size w e s) fun j hj=>?_);rw[Lib.bytesWorld_cell w e s j (by simpa using hj),xz,xu hj];rfl
theorem yae4 {P:Program}{ops:Array Oper}{rest:List Oper}{o:Oper}{a:Act}{w:World}{Q:Exit->Act->World->Prop}(hgd:o.guard=none)(src dst e:TypeId)(x:Operand)(ho:o.op=.convert src dst x)(s:ByteArray)(g c:Nat)(hx:a.eval x=.slice (some ⟨g,0,none⟩) s.size c)(hs:P.underlying src=some (.slice e))(hd:P.underlying dst=some .string)(he:P.underlying e=some (.int .u8))
  (hc:∀ j (hj:j<s.data.toList.length),w.cell? ⟨g,j,none⟩=some (.int .u8 (s.data.toList[j].toNat:Int)))
  (h:wpList P ops Q rest (a.put o.dst (.string s)) w):wpList P ops Q (o::rest) a w:=by
 refine wpList_plain hgd fun K hK=>?_;have hr:=run_convert_bytes_back (P:=P) w src dst e ⟨g,0,none⟩ c s.data.toList hs he hd (fun j hj=>by
  have:=hc j hj;rw[show (⟨g,0,none⟩:Addr).add j=⟨g,j,none⟩ by
   unfold Addr.add;by_cases h0:j=0
   ·subst h0;rfl
   ·rw[if_neg h0];simp]
  exact this)
 have hz:s.data.toList.length=s.size:=by rw[Array.length_toList];rfl
 have he2:(⟨s.data.toList.toArray⟩:ByteArray)=s:=by cases s;rfl
 rw[hz,he2]at hr;unfold Oper.wp execOp;simp only[ho,hx,Sem.run_bind,hr,Result.andThen_ok,Sem.run_pure];exact hK _ _ h
end Go.Proofs.YtkkekopomiehlabGreatDoor
