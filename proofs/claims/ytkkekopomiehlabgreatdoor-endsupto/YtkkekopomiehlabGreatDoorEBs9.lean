import Derived.Test.YtkkekopomiehlabGreatDoorETl2
set_option linter.unusedVariables false
set_option linter.unusedSimpArgs false
set_option maxHeartbeats 40000000
open List renaming setIfInBounds_toArray->xe,getElem_cons_zero->xf,getElem_cons_succ->xg,getElem_toArray->xh,set_cons_zero->xj,set_cons_succ->xm,getElem?_set_ne->xv
open Go.Act renaming put->xo
open Go.AllReadyH renaming cons->xp,nil->xq
open Or renaming inl->xu
open Go.World renaming news_of_block->xy
open Go.Value renaming oneCell'->xz
open Go.RowKit
set_option maxRecDepth 4000
namespace Go.Proofs.YtkkekopomiehlabGreatDoor
section
variable {w0 w W:World}{L:Nat->Nat}{gb r:Nat}{b:zav}
theorem yaat {x:StD}{Q:World->Prop}{v:SvcD}(hta:b.tale=true)(ha:-9223372036854775808<=x.a/\x.a<=9223372036854775807)(hb:-9223372036854775808<=x.b/\x.b<=9223372036854775807)(hl0:0<b.f.vs.length)(hl:b.f.vs.length<=2000000)(hv:b.f.vs[pckN x.a b.f.vs.length]?=some v){z:Nat}(hvz:v.size=z)(hz0:0<z)(hz:z<=2000000)(h:BookE w0 w L gb r b)(pw pr:Int)(hpw:pw<0)
  (c3:∀ W,Below w.heap.size w W->Calls Tryz.prog 63 #[.pointer (some ⟨gb,0,none⟩),.int .i64 (pckN x.a b.f.vs.length:Nat),.int .i64 (pckN x.b z:Nat)] W fun e W'=>e=.returned (.tuple #[.int .i64 pw,.int .i64 pr,.bool true])/\Below W.heap.size W W')
  (c4:∀ W,Below w.heap.size w W->Calls Tryz.prog 94 #[.pointer (some ⟨r,0,none⟩),.int .i64 (pckN x.a b.f.vs.length:Nat),.int .i64 (pckN x.b z:Nat),.int .i64 0,.string ⟨#[53]⟩] W fun e W=>e=.returned (.int .i64 15)/\Q W) :
  Calls Tryz.prog 60 #[.pointer (some ⟨gb,0,none⟩),stV x] w fun e W=>e=.returned (.bool true)/\Q W:=by
 have c1:=fun W=>zcj x.a b.f.vs.length ha hl0 hl W;have c2:=fun W=>zcj x.b z hb hz0 hz W;have hlt:=h.y.2.2.2;obtain⟨va,ma,vc,mc,hV⟩:=h.v;have hsl:=zbn x.a hl0;obtain⟨bk,o,ra,rl,rc,hva,_⟩:=(hV w (Below.refl _ _)).1.vs _ v hv;subst hva;have HV:Hid (∀ W,Below w.heap.size w W->W.cell? ⟨gb,2,none⟩=some (.slice (some ⟨bk,o,none⟩) b.f.vs.length vc)/\W.cell? ⟨bk,o+pckN x.a b.f.vs.length*4,none⟩=some (.int .i64 z)/\W.cell? ⟨gb,4,none⟩=some (.bool true)/\W.cell? ⟨gb,5,none⟩=some (.pointer (some ⟨r,0,none⟩))):=by
  show ∀ _,_;intro W hbb;refine⟨(hV W hbb).1.x2,?_,by rw[<- hta];exact(h.keep hbb).ta,(hV W hbb).1.x5⟩;obtain⟨bk',o',ra',rl',rc',hq,d0,_⟩:=(hV W hbb).1.vs _ v hv;obtain⟨rfl,rfl⟩:bk=bk'/\o=o':=by simpa using hq
  rw[<- hvz];exact d0
 clear hV h hv hvz hta;generalize pckN x.a b.f.vs.length=s at *;generalize pckN x.b z=i at *;generalize b.f.vs.length=n at *;have hs0 := znn s;have hs1:(s:Int)<(n:Int):=by omega
 unfold stV;clear ha hb;obtain⟨xk,xa,xb,xc,xs⟩:=x;simp only at *;obtain⟨w1,hw1⟩:∃ w1,w1=w.alloc (.cells #[.int .i64 xk,.int .i64 xa,.int .i64 xb,.int .i64 xc,.string xs] 66):=⟨_,rfl⟩;have HB1:Hid (Below w.heap.size w w1):=by rw[hw1];exact bel1 _ _
 have R1:RowIs w1 w.heap.size 66 [.int .i64 xk,.int .i64 xa,.int .i64 xb,.int .i64 xc,.string xs]:=by rw[hw1];exact zal _ _
 have m1:w1.cell? ⟨w.heap.size,1,none⟩=some (.int .i64 xa):=R1.cell (j:=1) rfl;have m2:w1.cell? ⟨w.heap.size,2,none⟩=some (.int .i64 xb):=R1.cell (j:=2) rfl;have m3:w1.cell? ⟨w.heap.size,3,none⟩=some (.int .i64 xc):=R1.cell (j:=3) rfl;have m4:w1.cell? ⟨w.heap.size,4,none⟩=some (.string xs):=R1.cell (j:=4) rfl;clear R1;obtain⟨n2,n3,n4,n5⟩:=HV.out w1 HB1.out;have HW:=zaa hw1;clear hw1
 go_enter Tryz.func60,Tryz.ntmps60
 go_wp2_with fail
 rw[<- HW.out];clear HW;have hgz:w.heap.size<=w1.heap.size:=HB1.out.size;generalize w.heap.size=gx at *
 go_quiet ((go_at_call 42;exact Calls.quiet_of_same ((c1 _).mono fun e W q=>⟨q.1,q.2.symm⟩)))
 go_wp2_with fail
 have HB5:Hid (Below gx w (w1.drewN nq)):=⟨HB1.out.os,HB1.out.tape,HB1.out.output,HB1.out.size,HB1.out.block⟩;have p2:(w1.drewN nq).cell? ⟨gx,2,none⟩=some (.int .i64 xb):=m2;have p3:(w1.drewN nq).cell? ⟨gb,2,none⟩=some (.slice (some ⟨bk,o,none⟩) n vc):=n2;have p4:(w1.drewN nq).cell? ⟨bk,o+s*4,none⟩=some (.int .i64 z):=n3;have p5:(w1.drewN nq).cell? ⟨gb,4,none⟩=some (.bool true):=n4;have p6:(w1.drewN nq).cell? ⟨gb,5,none⟩=some (.pointer (some ⟨r,0,none⟩)):=n5;have p7:(w1.drewN nq).cell? ⟨gx,3,none⟩=some (.int .i64 xc):=m3;have p8:(w1.drewN nq).cell? ⟨gx,4,none⟩=some (.string xs):=m4;have hgz5:gx<=(w1.drewN nq).heap.size:=hgz;generalize w1.drewN nq=w5 at *;clear m1 m2 m3 m4 n2 n3 n4 n5 HB1 c1 HV
 go_quiet ((go_at_call 42;exact Calls.quiet_of_same ((c2 _).mono fun e W q=>⟨q.1,q.2.symm⟩)))
 have HB6:Hid (Below gx w (w5.drewN nq)):=⟨HB5.out.os,HB5.out.tape,HB5.out.output,HB5.out.size,HB5.out.block⟩;have q5:(w5.drewN nq).cell? ⟨gb,4,none⟩=some (.bool true):=p5;have q6:(w5.drewN nq).cell? ⟨gb,5,none⟩=some (.pointer (some ⟨r,0,none⟩)):=p6;have q7:(w5.drewN nq).cell? ⟨gx,3,none⟩=some (.int .i64 xc):=p7;have q8:(w5.drewN nq).cell? ⟨gx,4,none⟩=some (.string xs):=p8;have HGX:Hid (gx<=(w5.drewN nq).heap.size):=hgz5;generalize w5.drewN nq=w6 at *;clear p2 p3 p4 p5 p6 p7 p8 HB5
 go_wp2_with (first
  |(go_at_call 63;refine(c3 _ HB6.out).mono ?_;rintro e w7 ⟨rfl,hb7⟩;have r6:=zab hb7 q6)
  |(go_at_call 94;refine(c4 _ (HB6.out.trans (hb7.mono HGX.out))).mono ?_;rintro e w9 ⟨rfl,hq⟩))
 go_ret;exact⟨rfl,hq⟩
theorem yaav {x:StD}{Q:World->Prop}{v:SvcD}(hta:b.tale=true)(ha:-9223372036854775808<=x.a/\x.a<=9223372036854775807)(hb:-9223372036854775808<=x.b/\x.b<=9223372036854775807)(hl0:0<b.f.vs.length)(hl:b.f.vs.length<=2000000)(hv:b.f.vs[pckN x.a b.f.vs.length]?=some v){z:Nat}(hvz:v.size=z)(hz0:0<z)(hz:z<=2000000)(h:BookE w0 w L gb r b)(hc:-9223372036854775808<=x.c/\x.c<=9223372036854775807)(R:ByteArray->World->Prop)(pr:Int)(nn wN sn sb so sc:Nat)(sch:ByteArray)(hn:nn<=12)(hwN:wN<sn)(hsn:sn<=2000000)
  (hx:∀ W,Below w.heap.size w W->W.cell? ⟨gb,0,none⟩=some (.slice (some ⟨sb,so,none⟩) sn sc)/\W.cell? ⟨sb,so+wN,none⟩=some (.string sch))
  (c3:∀ W,Below w.heap.size w W->Calls Tryz.prog 63 #[.pointer (some ⟨gb,0,none⟩),.int .i64 (pckN x.a b.f.vs.length:Nat),.int .i64 (pckN x.b z:Nat)] W fun e W'=>e=.returned (.tuple #[.int .i64 wN,.int .i64 pr,.bool true])/\Below W.heap.size W W')
  (c4:∀ W,Calls Tryz.prog 123 #[.string sch,.int .i64 x.c] W fun e W'=>zbz sch W e W')
  (c5:∀ t W,(zau false sch t).2=0->t.size<=4096->Calls Tryz.prog 124 #[.string sch,.string t] W fun e W'=>e=.returned (.tuple #[.string (zau false sch t).1,.int .i64 0])/\Below W.heap.size W W')
  (c6:∀ W,Below w.heap.size w W->Calls Tryz.prog 65 #[.pointer (some ⟨gb,0,none⟩)] W fun e W'=>∃ a c,e=.returned (.slice a nn c)/\Below W.heap.size W W')
  (c7:∀ t W,(zau false sch t).2=0->t.size<=4096->Below w.heap.size w W->Calls Tryz.prog 94 #[.pointer (some ⟨r,0,none⟩),.int .i64 (pckN x.a b.f.vs.length:Nat),.int .i64 (pckN x.b z:Nat),.int .i64 0,.string t] W fun e W'=>e=.returned (.int .i64 (if nn<12 then 0 else 16))/\R (zau false sch t).1 W')
  (hR:∀ d W,R d W->12<=nn->Q W)
  (hR2:∀ d W,R d W->nn<12->∃ (T:Int) (nv:Value) (m B:Nat) (ys cs:List Value),RowIs W gb 70 cs/\cs[6]?=some (.int .i64 T)/\cs[7]?=some nv/\W.ownsRow B 135 3 nv m ys/\B<=W.heap.size/\m<=2100000/\nv.ownBlock≠some gb/\∀ W3 g cap W2,Below W.heap.size W W3->W2.ownsRow B 135 3 (.slice (some ⟨g,0,none⟩) (m+1) cap) (m+1) (ys++[.int .i64 T,.int .i64 wN,.string d])->W3.grownBy W2 nv.ownBlock->(nv.ownBlock=some g\/W3.heap.size<=g)->Q (W2.setCell ⟨gb,7,none⟩ (.slice (some ⟨g,0,none⟩) (m+1) cap))) :
  Calls Tryz.prog 60 #[.pointer (some ⟨gb,0,none⟩),stV x] w fun e W=>e=.returned (.bool true)/\Q W:=by
 obtain⟨iN,hiN,zN0,zN1,zN2⟩:=info_parts Tryz.infoNotK;have HX:=zaa hx;clear hx;have HR:=zaa hR;have HR2:=zaa hR2;clear hR hR2;have c1:=fun W=>zcj x.a b.f.vs.length ha hl0 hl W;have c2:=fun W=>zcj x.b z hb hz0 hz W;have hlt:=h.y.2.2.2;obtain⟨va,ma,vc,mc,hV⟩:=h.v;have hsl:=zbn x.a hl0;obtain⟨bk,o,ra,rl,rc,hva,_⟩:=(hV w (Below.refl _ _)).1.vs _ v hv;subst hva;have HV:Hid (∀ W,Below w.heap.size w W->W.cell? ⟨gb,2,none⟩=some (.slice (some ⟨bk,o,none⟩) b.f.vs.length vc)/\W.cell? ⟨bk,o+pckN x.a b.f.vs.length*4,none⟩=some (.int .i64 z)/\W.cell? ⟨gb,4,none⟩=some (.bool true)/\W.cell? ⟨gb,5,none⟩=some (.pointer (some ⟨r,0,none⟩))):=by
  show ∀ _,_;intro W hbb;refine⟨(hV W hbb).1.x2,?_,by rw[<- hta];exact(h.keep hbb).ta,(hV W hbb).1.x5⟩;obtain⟨bk',o',ra',rl',rc',hq,d0,_⟩:=(hV W hbb).1.vs _ v hv;obtain⟨rfl,rfl⟩:bk=bk'/\o=o':=by simpa using hq
  rw[<- hvz];exact d0
 clear hV h hv hvz hta;generalize pckN x.a b.f.vs.length=s at *;generalize pckN x.b z=i at *;generalize b.f.vs.length=n at *;have hs0 := znn s;have hs1:(s:Int)<(n:Int):=by omega
 unfold stV;clear ha hb;obtain⟨xk,xa,xb,xc,xs⟩:=x;simp only at *;obtain⟨w1,hw1⟩:∃ w1,w1=w.alloc (.cells #[.int .i64 xk,.int .i64 xa,.int .i64 xb,.int .i64 xc,.string xs] 66):=⟨_,rfl⟩;have HB1:Hid (Below w.heap.size w w1):=by rw[hw1];exact bel1 _ _
 have R1:RowIs w1 w.heap.size 66 [.int .i64 xk,.int .i64 xa,.int .i64 xb,.int .i64 xc,.string xs]:=by rw[hw1];exact zal _ _
 have m1:w1.cell? ⟨w.heap.size,1,none⟩=some (.int .i64 xa):=R1.cell (j:=1) rfl;have m2:w1.cell? ⟨w.heap.size,2,none⟩=some (.int .i64 xb):=R1.cell (j:=2) rfl;have m3:w1.cell? ⟨w.heap.size,3,none⟩=some (.int .i64 xc):=R1.cell (j:=3) rfl;have m4:w1.cell? ⟨w.heap.size,4,none⟩=some (.string xs):=R1.cell (j:=4) rfl;clear R1;obtain⟨n2,n3,n4,n5⟩:=HV.out w1 HB1.out;have HW:=zaa hw1;clear hw1
 go_enter Tryz.func60,Tryz.ntmps60
 go_wp2_with fail
 rw[<- HW.out];clear HW;have hgz:w.heap.size<=w1.heap.size:=HB1.out.size;generalize w.heap.size=gx at *
 go_quiet ((go_at_call 42;exact Calls.quiet_of_same ((c1 _).mono fun e W q=>⟨q.1,q.2.symm⟩)))
 go_wp2_with fail
 have HB5:Hid (Below gx w (w1.drewN nq)):=⟨HB1.out.os,HB1.out.tape,HB1.out.output,HB1.out.size,HB1.out.block⟩;have p2:(w1.drewN nq).cell? ⟨gx,2,none⟩=some (.int .i64 xb):=m2;have p3:(w1.drewN nq).cell? ⟨gb,2,none⟩=some (.slice (some ⟨bk,o,none⟩) n vc):=n2;have p4:(w1.drewN nq).cell? ⟨bk,o+s*4,none⟩=some (.int .i64 z):=n3;have p5:(w1.drewN nq).cell? ⟨gb,4,none⟩=some (.bool true):=n4;have p6:(w1.drewN nq).cell? ⟨gb,5,none⟩=some (.pointer (some ⟨r,0,none⟩)):=n5;have p7:(w1.drewN nq).cell? ⟨gx,3,none⟩=some (.int .i64 xc):=m3;have p8:(w1.drewN nq).cell? ⟨gx,4,none⟩=some (.string xs):=m4;have hgz5:gx<=(w1.drewN nq).heap.size:=hgz;generalize w1.drewN nq=w5 at *;clear m1 m2 m3 m4 n2 n3 n4 n5 HB1 c1 HV
 go_quiet ((go_at_call 42;exact Calls.quiet_of_same ((c2 _).mono fun e W q=>⟨q.1,q.2.symm⟩)))
 have HB6:Hid (Below gx w (w5.drewN nq)):=⟨HB5.out.os,HB5.out.tape,HB5.out.output,HB5.out.size,HB5.out.block⟩;have q5:(w5.drewN nq).cell? ⟨gb,4,none⟩=some (.bool true):=p5;have q6:(w5.drewN nq).cell? ⟨gb,5,none⟩=some (.pointer (some ⟨r,0,none⟩)):=p6;have q7:(w5.drewN nq).cell? ⟨gx,3,none⟩=some (.int .i64 xc):=p7;have q8:(w5.drewN nq).cell? ⟨gx,4,none⟩=some (.string xs):=p8;have HGX:Hid (gx<=(w5.drewN nq).heap.size):=hgz5;generalize w5.drewN nq=w6 at *;clear p2 p3 p4 p5 p6 p7 p8 HB5;have hw0 := znn wN;have hw1':(wN:Int)<(sn:Int):=by omega
 have hn0 := znn nn
 go_wp2_with (first
  |(go_at_call 63;refine(c3 _ HB6.out).mono ?_;rintro e w7 ⟨rfl,hb7⟩;have B7:=zaa (HB6.out.trans (hb7.mono HGX.out));have r6:=zab hb7 q6;have r7:=zab hb7 q7;obtain⟨z0,z1⟩:=HX.out w7 B7.out;have lz0:=zag z0;have lz1:=zag z1;have lr7:=zag r7))
 go_region_held3 (fun w'=>w'.cell? ⟨gb,0,none⟩=some (.slice (some ⟨sb,so,none⟩) sn sc)/\w'.cell? ⟨sb,so+wN,none⟩=some (.string sch)/\w'.cell? ⟨gx,3,none⟩=some (.int .i64 xc)) (first|exact⟨z0,z1,r7⟩|exact⟨zab hb8 z0,zab hb8 z1,zab hb8 r7⟩) (first
  |(go_at_call 123;refine(c4 _).mono ?_;rintro e w8 hP8;obtain⟨t,rfl,ht1,ht2,hb8⟩:=hP8;have B8:=zaa (B7.out.trans (show Below gx w7 w8 from⟨hb8.os,hb8.tape,hb8.output,hb8.size,fun k hk=>hb8.block k (by have:=HGX.out;have:=hb7.size;show k<w7.heap.size;omega)⟩));have a0:=zab hb8 (show w7.drew.cell? _=_ from z0);have a1:=zab hb8 (show w7.drew.cell? _=_ from z1);have a6:=zab hb8 (show w7.drew.cell? _=_ from r6);have HT1:=zaa ht1;have HT2:=zaa ht2;clear ht1 ht2))
 by_cases hlt12:nn<12
 ·rw[if_pos hlt12]at c7;have hni:(nn:Int)<12:=by omega
  go_wp2_with (first
   |(go_at_call 124;refine(c5 t _ HT1.out HT2.out).mono ?_;rintro e w9 ⟨rfl,hb9⟩;have B9:=zaa (B8.out.trans (hb9.mono (by have:=HGX.out;have:=hb7.size;have:w7.heap.size<=w8.heap.size:=hb8.size;omega)));have e6:=zab hb9 a6;have z9:=hb9.size)
   |(go_at_call 65;refine(c6 _ B9.out).mono ?_;rintro e w10 ⟨pa,pc,rfl,hb10⟩;have B10:=zaa (B9.out.trans (hb10.mono (by have:=HGX.out;have:=hb7.size;have:w7.heap.size<=w8.heap.size:=hb8.size;omega)));have g6:=zab hb10 e6)
   |(go_at_call 94;refine(c7 t _ HT1.out HT2.out B10.out).mono ?_;rintro e w11 ⟨rfl,hRR⟩))
  generalize (zau false sch t).1=d at *;obtain⟨T,nv,m,B,ys,cs,hrow,h6,h7,hown,hBs,hm,hnvb,hQQ⟩:=HR2.out d w11 hRR hlt12;have HROW:=zaa hrow;have H6:=zaa h6;have H7:=zaa h7;have HOW:=zaa hown;have HQQ:=zaa hQQ;have k6:=hrow.cell h6;have k7:=hrow.cell h7;have lgb:=hrow.lt;clear hrow h6 h7 hown hQQ;refine wp_region_held_drew (S:=fun w'=>w'.cell? ⟨gb,6,none⟩=some (.int .i64 T)) (by kernel_rfl) k6 (fun hHeld=>?_);refine wpAnyH_take (i:=0) (v:=?_) rfl (by kernel_rfl) (by kernel_rfl) (by kernel_rfl) (fun _ _ _ h=>h) (xu ⟨by rfl,?_⟩) (by assumption) ?_;rotate_left
  ·intro w9' hSw
   (try dsimp only at hSw)
   go_simp
   all_goals with_reducible rfl
  (try simp only[xo,xe,xj,xm,xh,xf,xg])
  refine wpAnyH_take (i:=1) (v:=?_) rfl (by kernel_rfl) (by kernel_rfl) (by kernel_rfl) (fun _ _ _ h=>h) (xu ⟨by rfl,?_⟩) (by assumption) ?_;rotate_left
  ·intro w9' hSw
   (try dsimp only at hSw)
   go_simp
   all_goals with_reducible rfl
  (try simp only[xo,xe,xj,xm,xh,xf,xg])
  refine wpAnyH_take (i:=2) (v:=?_) rfl (by kernel_rfl) (by kernel_rfl) (by kernel_rfl) (fun _ _ _ h=>h) (xu ⟨by rfl,?_⟩) (by assumption) ?_;rotate_left
  ·intro w9' hSw
   (try dsimp only at hSw)
   go_simp
   all_goals with_reducible rfl
  (try simp only[xo,xe,xj,xm,xh,xf,xg])
  refine wpAnyH_take (i:=3) (v:=?_) rfl (by kernel_rfl) (by kernel_rfl) (by kernel_rfl) (fun _ _ _ h=>h) (xu ⟨by rfl,?_⟩) (by assumption) ?_;rotate_left
  ·intro w9' hSw
   (try dsimp only at hSw)
   go_simp
   all_goals with_reducible rfl
  (try simp only[xo,xe,xj,xm,xh,xf,xg])
  refine wpAnyH_take (i:=5) (v:=?_) rfl (by kernel_rfl) (by kernel_rfl) (by kernel_rfl) (fun _ _ _ h=>h) (xu ⟨by rfl,?_⟩) (by assumption) ?_;rotate_left
  ·intro w9' hSw
   (try dsimp only at hSw)
   go_simp
   all_goals with_reducible rfl
  (try simp only[xo,xe,xj,xm,xh,xf,xg])
  refine wpAnyH_take (i:=6) (v:=?_) rfl (by kernel_rfl) (by kernel_rfl) (by kernel_rfl) (fun _ _ _ h=>h) (xu ⟨by rfl,?_⟩) (by assumption) ?_;rotate_left
  ·intro w9' hSw
   (try dsimp only at hSw)
   go_simp
   all_goals with_reducible rfl
  (try simp only[xo,xe,xj,xm,xh,xf,xg])
  refine wpAnyH_take (i:=7) (v:=?_) rfl (by kernel_rfl) (by kernel_rfl) (by kernel_rfl) (fun _ _ _ h=>h) (xu ⟨by rfl,?_⟩) (by assumption) ?_;rotate_left
  ·intro w9' hSw
   (try dsimp only at hSw)
   go_simp
   all_goals with_reducible rfl
  (try simp only[xo,xe,xj,xm,xh,xf,xg])
  refine wpAnyH_take (i:=8) (v:=?_) rfl (by kernel_rfl) (by kernel_rfl) (by kernel_rfl) (fun _ _ _ h=>h) (xu ⟨by rfl,?_⟩) (by assumption) ?_;rotate_left
  ·intro w9' hSw
   (try dsimp only at hSw)
   go_simp
   all_goals with_reducible rfl
  (try simp only[xo,xe,xj,xm,xh,xf,xg])
  refine wpAnyH_take (i:=9) (v:=?_) rfl (by kernel_rfl) (by kernel_rfl) (by kernel_rfl) (fun _ _ _ h=>h) (xu ⟨by rfl,?_⟩) (by assumption) ?_;rotate_left
  ·intro w9' hSw
   (try dsimp only at hSw)
   go_simp
   all_goals with_reducible rfl
  (try simp only[xo,xe,xj,xm,xh,xf,xg])
  refine wpAnyH_take (i:=10) (v:=?_) rfl (by kernel_rfl) (by kernel_rfl) (by kernel_rfl) (fun _ _ _ h=>h) (xu ⟨by rfl,?_⟩) (by assumption) ?_;rotate_left
  ·intro w9' hSw
   (try dsimp only at hSw)
   go_simp
   all_goals with_reducible rfl
  (try simp only[xo,xe,xj,xm,xh,xf,xg])
  refine wpAnyH_take (i:=11) (v:=?_) rfl (by kernel_rfl) (by kernel_rfl) (by kernel_rfl) (fun _ _ _ h=>h) (xu ⟨by rfl,?_⟩) (by assumption) ?_;rotate_left
  ·intro w9' hSw
   (try dsimp only at hSw)
   go_simp
   all_goals with_reducible rfl
  (try simp only[xo,xe,xj,xm,xh,xf,xg])
  refine wpAnyH_ready (rs:=[4,12]) (by kernel_rfl) (by simp) ?_;refine xp rfl (fun K hK=>?_) (xp rfl (fun K hK=>?_) xq)
  ·skip
   go_simp
   refine hK.out _ _ k6 (fun hHeld=>?_);clear hK K
   (try simp only[xo,xe,xj,xm,xh,xf,xg])
   refine wpAnyH_ready (rs:=[12]) (by kernel_rfl) (by simp) ?_;refine xp rfl (fun K hK=>?_) xq
   go_simp
   refine hK.out _ _ (zah _ k6) (fun hHeld=>?_);clear hK K
   (try simp only[xo,xe,xj,xm,xh,xf,xg])
   refine wpAnyH_ready (rs:=[13]) (by kernel_rfl) (by simp) ?_;refine xp rfl (fun K hK=>?_) xq;refine step_append_lies _ (by rfl) _ _ _ (by rfl) B 135 iN _ 3 32 Tryz.underlying68 hiN zN0 zN1 zN2 rfl (by omega) nv m _ (by rfl) (HOW.out.drew.alloc _) ⟨w11.heap.size,0,none⟩ 1 1 [.int .i64 T,.int .i64 wN,.string d] (by rfl) (by rfl) (xy (heap_alloc_new w11.drew _)) (by simp[xz]) (by omega) (by unfold maxLen;omega) (by omega) (by simp;omega) (w11.heap.size+1) (by simp) ?_;intro g2 cap2 w12 hown2 hgrow2 hat2 hlt2;have M12:=zaa ((RowIs.keep (show RowIs w11.drew gb 70 cs from HROW.out) (bel1 w11.drew (.cells #[.int .i64 T,.int .i64 wN,.string d] 135))).grown hgrow2 hnvb);have m6:=M12.out.cell H6.out;have m7:=M12.out.cell H7.out;have f7:=M12.out.frozen 7;have HO2:=zaa hown2;have HG2:=zaa hgrow2;clear hown2 hgrow2;refine hK.out _ _ m6 (fun hHeld=>?_);clear hK K
   (try simp only[xo,xe,xj,xm,xh,xf,xg])
   refine wpAnyH_take (i:=14) (v:=?_) rfl (by kernel_rfl) (by kernel_rfl) (by kernel_rfl) (fun _ _ _ h=>h) (xu ⟨by rfl,?_⟩) (by assumption) ?_;rotate_left
   ·intro w9' hSw
    (try dsimp only at hSw)
    go_simp
    all_goals with_reducible rfl
   (try simp only[xo,xe,xj,xm,xh,xf,xg])
   refine wpAnyH_take (i:=15) (v:=?_) rfl (by kernel_rfl) (by kernel_rfl) (by kernel_rfl) (fun _ _ _ h=>h) (xu ⟨by rfl,?_⟩) (by assumption) ?_;rotate_left
   ·intro w9' hSw
    (try dsimp only at hSw)
    go_simp
    all_goals with_reducible rfl
   (try simp only[xo,xe,xj,xm,xh,xf,xg])
   refine wpAnyH_ready (rs:=[16]) (by kernel_rfl) (by simp) ?_;refine xp rfl (fun K hK=>?_) xq
   go_simp
   refine hK.out _ _ ((M12.out.set 7 _).cell (show (cs.set 7 _)[6]?=some (.int .i64 T) from(by rw[xv (by omega)];exact H6.out))) (fun hHeld=>?_);clear hK K;refine wpAnyH_done (by kernel_rfl) ?_ _
   go_wp2_with fail
   go_ret;exact⟨rfl,HQQ.out _ _ _ _ (show Below w11.heap.size w11 (w11.drew.alloc (.cells #[.int .i64 T,.int .i64 wN,.string d] 135))from thn3 ((Below.refl w11.heap.size w11).drew) (bel1 w11.drew _)) HO2.out HG2.out (hat2.imp id fun e=>by rw[e];simp)⟩
  ·skip
   go_simp
   refine hK.out _ _ (zah _ k6) (fun hHeld=>?_);clear hK K
   (try simp only[xo,xe,xj,xm,xh,xf,xg])
   refine wpAnyH_ready (rs:=[4]) (by kernel_rfl) (by simp) ?_;refine xp rfl (fun K hK=>?_) xq
   go_simp
   refine hK.out _ _ (zah _ k6) (fun hHeld=>?_);clear hK K
   (try simp only[xo,xe,xj,xm,xh,xf,xg])
   refine wpAnyH_ready (rs:=[13]) (by kernel_rfl) (by simp) ?_;refine xp rfl (fun K hK=>?_) xq;refine step_append_lies _ (by rfl) _ _ _ (by rfl) B 135 iN _ 3 32 Tryz.underlying68 hiN zN0 zN1 zN2 rfl (by omega) nv m _ (by rfl) (HOW.out.drew.alloc _) ⟨w11.heap.size,0,none⟩ 1 1 [.int .i64 T,.int .i64 wN,.string d] (by rfl) (by rfl) (xy (heap_alloc_new w11.drew _)) (by simp[xz]) (by omega) (by unfold maxLen;omega) (by omega) (by simp;omega) (w11.heap.size+1) (by simp) ?_;intro g2 cap2 w12 hown2 hgrow2 hat2 hlt2;have M12:=zaa ((RowIs.keep (show RowIs w11.drew gb 70 cs from HROW.out) (bel1 w11.drew (.cells #[.int .i64 T,.int .i64 wN,.string d] 135))).grown hgrow2 hnvb);have m6:=M12.out.cell H6.out;have m7:=M12.out.cell H7.out;have f7:=M12.out.frozen 7;have HO2:=zaa hown2;have HG2:=zaa hgrow2;clear hown2 hgrow2;refine hK.out _ _ m6 (fun hHeld=>?_);clear hK K
   (try simp only[xo,xe,xj,xm,xh,xf,xg])
   refine wpAnyH_take (i:=14) (v:=?_) rfl (by kernel_rfl) (by kernel_rfl) (by kernel_rfl) (fun _ _ _ h=>h) (xu ⟨by rfl,?_⟩) (by assumption) ?_;rotate_left
   ·intro w9' hSw
    (try dsimp only at hSw)
    go_simp
    all_goals with_reducible rfl
   (try simp only[xo,xe,xj,xm,xh,xf,xg])
   refine wpAnyH_take (i:=15) (v:=?_) rfl (by kernel_rfl) (by kernel_rfl) (by kernel_rfl) (fun _ _ _ h=>h) (xu ⟨by rfl,?_⟩) (by assumption) ?_;rotate_left
   ·intro w9' hSw
    (try dsimp only at hSw)
    go_simp
    all_goals with_reducible rfl
   (try simp only[xo,xe,xj,xm,xh,xf,xg])
   refine wpAnyH_ready (rs:=[16]) (by kernel_rfl) (by simp) ?_;refine xp rfl (fun K hK=>?_) xq
   go_simp
   refine hK.out _ _ ((M12.out.set 7 _).cell (show (cs.set 7 _)[6]?=some (.int .i64 T) from(by rw[xv (by omega)];exact H6.out))) (fun hHeld=>?_);clear hK K;refine wpAnyH_done (by kernel_rfl) ?_ _
   go_wp2_with fail
   go_ret;exact⟨rfl,HQQ.out _ _ _ _ (show Below w11.heap.size w11 (w11.drew.alloc (.cells #[.int .i64 T,.int .i64 wN,.string d] 135))from thn3 ((Below.refl w11.heap.size w11).drew) (bel1 w11.drew _)) HO2.out HG2.out (hat2.imp id fun e=>by rw[e];simp)⟩
 ·rw[if_neg hlt12]at c7;have hni:¬ (nn:Int)<12:=by omega
  go_wp2_with (first
   |(go_at_call 124;refine(c5 t _ HT1.out HT2.out).mono ?_;rintro e w9 ⟨rfl,hb9⟩;have B9:=zaa (B8.out.trans (hb9.mono (by have:=HGX.out;have:=hb7.size;have:w7.heap.size<=w8.heap.size:=hb8.size;omega)));have e6:=zab hb9 a6;have z9:=hb9.size)
   |(go_at_call 65;refine(c6 _ B9.out).mono ?_;rintro e w10 ⟨pa,pc,rfl,hb10⟩;have B10:=zaa (B9.out.trans (hb10.mono (by have:=HGX.out;have:=hb7.size;have:w7.heap.size<=w8.heap.size:=hb8.size;omega)));have g6:=zab hb10 e6)
   |(go_at_call 94;refine(c7 t _ HT1.out HT2.out B10.out).mono ?_;rintro e w11 ⟨rfl,hRR⟩))
  go_ret;exact⟨rfl,HR.out _ _ hRR (by omega)⟩
end
theorem zr1 {w:World}{gb:Nat}{x:StD}{Q:World->Prop}(hx:x.k=5)
  (c1:∀ W,Below w.heap.size w W->Calls Tryz.prog 60 #[.pointer (some ⟨gb,0,none⟩),stV x] W fun e W=>e=.returned (.bool true)/\Q W) :
  Calls Tryz.prog 23 #[.pointer (some ⟨gb,0,none⟩),stV x] w fun e W=>e=.returned (.bool true)/\Q W:=by
 have c2:=c1 (w.alloc (.cells #[.int .i64 5,.int .i64 x.a,.int .i64 x.b,.int .i64 x.c,.string x.s] 66)) (bel1 _ _);unfold stV at *;rw[hx]at *;clear hx c1
 go_enter Tryz.func23,Tryz.ntmps23
 go_wp2_with (first|(go_at_call 60;refine c2.mono ?_;rintro e w1 ⟨rfl,hq⟩))
 go_ret;exact⟨rfl,hq⟩
end Go.Proofs.YtkkekopomiehlabGreatDoor
