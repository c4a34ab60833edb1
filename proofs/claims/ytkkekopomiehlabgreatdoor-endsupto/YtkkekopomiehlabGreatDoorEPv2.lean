import Derived.Test.YtkkekopomiehlabGreatDoorEPy4
import Derived.Deep.Onto
set_option linter.unusedVariables false
set_option linter.unusedSimpArgs false
set_option maxHeartbeats 40000000
set_option maxRecDepth 4000
open Nat renaming lt_of_lt_of_le->xe,succ_mul->xj,le_trans->xu,zero_mul->xy,zero_add->xz
open List renaming mem_cons_of_mem->xf,flatMap_cons->xg,mem_of_mem_eraseIdx->xm,getElem?_cons_succ->xp,mem_cons_self->xq
open Int renaming le_refl->xh
open Go.World.ownsRow renaming lt->xo,frozenAt->xv,cellAt->qd
namespace Go.Proofs.YtkkekopomiehlabGreatDoor
section
open Go.RowKit
theorem Alw.mono {X:WayD}{c c':CtlD}{s r:Int}(hp:c'.pos=c.pos)(hs:c'.st=c.st)(hw:c.wk=true->c'.wk=true)(h:Alw X c s r):Alw X c' s r:=by
 unfold Alw aim at *;rw[hp,hs];rcases h with h|⟨h,h'⟩
 ·exact .inl h
 ·exact .inr ⟨hw h,h'⟩
theorem zgc {c c':CtlD}(ht:c'.ts=c.ts)(hp:c'.pos=c.pos)(hs:c'.st=c.st):curT c'=curT c:=by
 unfold curT numC;rw[ht,hp,hs]
theorem Net.beg {X:WayD}{vs:List SrvD}{c:CtlD}{ms:List MsgD}(h:Net X vs c ms):Net X vs (begC c) ms where
 i1:=fun s i hi=>Alw.mono (c:=c) (c':=begC c) rfl rfl (fun _=>rfl) (h.i1 s i hi)
 i4:=fun _ s i hi hh=>absurd (h.i5 s i hi) (by have:(begC c).ba=c.nu:=rfl;omega)
 i5:=h.i5
 i7:=fun _ i hz ha=>by simp[ansB,begC]at ha
 m0:=h.m0
 m2:=fun m hm hk=>(h.m2 m hm hk).imp id fun q=>Alw.mono (c:=c) (c':=begC c) rfl rfl (fun _=>rfl) q
 m3:=fun _ m hm hn=>absurd (h.m0 m hm).2.1 (by have:(begC c).ba=c.nu:=rfl;omega)
 m6:=h.m6
theorem Shp.beg {X:WayD}{vs:List SrvD}{c:CtlD}(h:Shp X vs c)(ho:zaj c=false):Shp X vs (begC c) where
 len:=h.len
 tsk:=h.tsk
 p0:=h.p0
 pn:=h.pn
 st:=by
  unfold zaj at ho;have:=h.st;simp at ho;show (c.st=1/\c.pos<X.n)\/(c.st=2/\0<c.pos)\/(c.st=3/\c.pos=X.n/\true=false)\/(c.st=4/\c.pos=0/\true=false);omega
 ba:=xh _
theorem Shp.num {X:WayD}{vs:List SrvD}{c:CtlD}(h:Shp X vs c):Shp X vs (cmdC c):=by
 unfold cmdC;split
 ·exact⟨h.len,h.tsk,h.p0,h.pn,h.st,by have:=h.ba;show c.ba<=c.nu+1;omega⟩
 ·exact h
theorem zoy {a0 a1 a2:Bool}{z:Int}(h:frst a0 a1 a2 z<z):0<=frst a0 a1 a2 z/\frst a0 a1 a2 z<3:=by
 unfold frst at h ⊢;split<;>(try split)<;>(try split)<;>(first|omega|skip)
 all_goals simp_all
theorem Net.cmd {X:WayD}{vs:List SrvD}{c:CtlD}{ms:List MsgD}(hs:Shp X vs c)(h:Net X vs c ms)(hw:c.wk=true)(hb:cmdB c=true):Net X vs (cmdC c) (za8 ms (cmdM c)):=by
 have hst:c.st=1\/c.st=2:=by have:=hs.st;rw[hw]at this;simp at this;omega
 obtain⟨t,ht,e1,e2,e3,e4,e5,e6,e7⟩:=zgd hs hst;have hb':frst c.a0 c.a1 c.a2 (curT c).z<(curT c).z:=by unfold cmdB at hb;simpa using hb
 have hf:=zoy hb';have hm:cmdM c=⟨1,c.nu+1,(curT c).s,frst c.a0 c.a1 c.a2 (curT c).z,(curT c).r⟩:=by unfold cmdM;rw[if_pos hb]
 have hc:cmdC c={ c with nu:=c.nu+1 }:=by unfold cmdC;rw[if_pos hb]
 have hcur:curT (cmdC c)=curT c:=by rw[hc];exact zgc rfl rfl rfl
 have haim:aim (cmdC c)=aim c:=by rw[hc];rfl
 have hin:hasB vs (curT c).s (frst c.a0 c.a1 c.a2 (curT c).z)=true:=by rw[e1];exact(e4 _).2 ⟨hf.1,by omega⟩
 have halw:∀ s r,Alw X c s r->Alw X (cmdC c) s r:=fun s r q=>by rw[hc];exact q
 refine⟨fun s i hi=>halw _ _ (h.i1 s i hi),?_,fun s i hi=>?_,?_,fun m hx=>?_,fun m hx hk=>?_,fun _ m hx hn=>?_,fun m hx hk=>?_⟩
 ·rw[haim,hc];exact h.i4
 ·have:=h.i5 s i hi;rw[hc];show _<=c.nu+1;omega
 ·rw[hcur,hc];exact h.i7
 ·rcases zd7 hx with q|q
  ·obtain⟨a,b,d⟩:=h.m0 m q;exact⟨a,by rw[hc];show _<=c.nu+1;omega,d⟩
  ·subst q;rw[hm,hc];exact⟨hin,xh _,hf.2⟩
 ·rcases zd7 hx with q|q
  ·exact(h.m2 m q hk).imp id (halw _ _)
  ·subst q;right;apply halw;right;rw[hm];exact⟨hw,by show (curT c).r=X.cfg (aim c) (curT c).s;rw[e3,e1]⟩
 ·rw[hcur,haim];rcases zd7 hx with q|q
  ·exact h.m3 hw m q (by rw[hc]at hn;exact hn)
  ·subst q;rw[hm];exact⟨rfl,by show (curT c).r=X.cfg (aim c) (curT c).s;rw[e3,e1]⟩
 ·rcases zd7 hx with q|q
  ·exact h.m6 m q hk
  ·subst q;rw[hm]at hk;cases hk
theorem Shp.stop {X:WayD}{vs:List SrvD}{c:CtlD}(len:c.ts.length=X.n)(tsk:∀ j t,c.ts[j]?=some t->(∀ i,hasB vs t.s i=true↔0<=i/\i<t.z)/\1<=t.z/\t.z<=3/\X.cfg j t.s=t.b/\X.cfg (j+1) t.s=t.r/\∀ s,s≠t.s->X.cfg (j+1) s=X.cfg j s)
  (p0:0<=c.pos) (pn:c.pos<=X.n) (ba:c.ba<=c.nu) (st:c.st=1\/c.st=2) (hw:c.wk=true->0<c.pos/\c.pos<=X.n/\c.st=2):Shp X vs (zat c):=by
 rcases st with q|q
 ·by_cases hp:(c.ts.length:Int)<=c.pos
  ·have e1:zbr c={ c with st:=3 }:=by unfold zbr;rw[if_pos ⟨q,hp⟩]
   have e2:zat c={ c with st:=3 }:=by unfold zat zcr;rw[e1,if_neg (by simp)]
   rw[e2];refine⟨len,tsk,p0,pn,.inr (.inr (.inl ⟨rfl,by show c.pos=_;omega,?_⟩)),ba⟩;cases e:c.wk with
   |false=>rfl
   |true=>have:=(hw e).2.2;omega
  ·have e1:zbr c=c:=by unfold zbr;rw[if_neg (fun e=>hp e.2)]
   have e2:zat c=c:=by unfold zat zcr;rw[e1,if_neg (by omega)]
   rw[e2];exact⟨len,tsk,p0,pn,.inl ⟨q,by omega⟩,ba⟩
 ·have e1:zbr c=c:=by unfold zbr;rw[if_neg (by omega)]
  by_cases hp:c.pos<=0
  ·have e2:zat c={ c with st:=4 }:=by unfold zat zcr;rw[e1,if_pos ⟨q,hp⟩]
   rw[e2];refine⟨len,tsk,p0,pn,.inr (.inr (.inr ⟨rfl,by show c.pos=_;omega,?_⟩)),ba⟩;cases e:c.wk with
   |false=>rfl
   |true=>have:=(hw e).1;omega
  ·have e2:zat c=c:=by unfold zat zcr;rw[e1,if_neg (fun e=>hp e.2)]
   rw[e2];exact⟨len,tsk,p0,pn,.inr (.inl ⟨q,by omega⟩),ba⟩
theorem zcg (c:CtlD):(zat c).ts=c.ts/\(zat c).pos=c.pos/\(zat c).wk=c.wk/\(zat c).ba=c.ba/\(zat c).nu=c.nu/\(zat c).rest=c.rest/\(zat c).un=c.un/\(zat c).pa=c.pa:=by
 unfold zat zcr zbr;split<;>split<;>exact⟨rfl,rfl,rfl,rfl,rfl,rfl,rfl,rfl⟩
theorem zr4 {c:CtlD}(hp:0<c.pos)(h:c.st=2):zat c=c:=by
 have e1:zbr c=c:=by unfold zbr;rw[if_neg (by omega)]
 unfold zat zcr;rw[e1,if_neg (by omega)]
theorem Net.fin {X:WayD}{vs:List SrvD}{c:CtlD}{ms:List MsgD}(hs:Shp X vs c)(h:Net X vs c ms)(hw:c.wk=true)(ha:frst c.a0 c.a1 c.a2 (curT c).z=(curT c).z)(time:Int):Net X vs (finC c time) ms/\Shp X vs (finC c time)/\(finC c time).wk=false/\(finC c time).pos.toNat=aim c/\(finC c time).rest=c.rest/\(finC c time).un=time+c.rest/\aim c<=X.n:=by
 have hst:c.st=1\/c.st=2:=by have:=hs.st;rw[hw]at this;simp at this;omega
 obtain⟨t,ht,e1,e2,e3,e4,e5,e6,e7⟩:=zgd hs hst;have hp:(finC c time).pos.toNat=aim c:=by
  unfold finC aim;rw[(zcg _).2.1];show (if c.st=2 then c.pos-1 else c.pos+1).toNat=_;have:=hs.p0;split<;>omega
 have hwk:(finC c time).wk=false:=by unfold finC;rw[(zcg _).2.2.1]
 have hnu:(finC c time).nu=c.nu:=by unfold finC;rw[(zcg _).2.2.2.2.1]
 have hp2:=hs.pn;have hp3:=hs.p0;have hp4:=hs.st;have hn:aim c<=X.n:=by
  unfold aim;split<;>omega
 have all:∀ i,0<=i->i<(curT c).z->ansB c i=true:=fun i h0 hz=>by
  obtain⟨q0,q1,q2⟩:=zxi (by omega) ha;unfold ansB;have:i=0\/i=1\/i=2:=by omega
  rcases this with rfl|rfl|rfl
  ·rw[if_pos rfl];exact q0 (by omega)
  ·rw[if_neg (by omega),if_pos rfl];exact q1 (by omega)
  ·rw[if_neg (by omega),if_neg (by omega),if_pos rfl];exact q2 (by omega)
 have hi:∀ i,hasB vs t.s i=true->c.ba<(insG vs t.s i).h:=fun i q=>by
  have q':=(e4 i).1 q;have:=h.i7 hw i (by rw[e1];exact q) (all i q'.1 (by omega));rw[e1]at this;exact this
 have key:∀ s r,s≠t.s->Alw X c s r->r=X.cfg (aim c) s:=fun s r hne q=>by
  rcases q with q|q
  ·rw[q,e7 s hne]
  ·exact q.2
 refine⟨⟨fun s i hh=>?_,fun q=>absurd q (by rw[hwk];simp),fun s i hh=>(by rw[hnu];exact h.i5 s i hh),fun q=>absurd q (by rw[hwk];simp),fun m hm=>(by rw[hnu];exact h.m0 m hm),fun m hm hk=>?_,fun q=>absurd q (by rw[hwk];simp),h.m6⟩,?_,hwk,hp,by unfold finC;rw[(zcg _).2.2.2.2.2.1],by unfold finC;rw[(zcg _).2.2.2.2.2.2.1],hn⟩
 ·left;rw[hp];by_cases hne:s=t.s
  ·subst hne;exact h.i4 hw _ i hh (hi i hh)
  ·exact key _ _ hne (h.i1 s i hh)
 ·by_cases hb:c.ba<m.n
  ·right;left;rw[hp];exact(h.m3 hw m hm hb).2
  ·by_cases hne:m.s=t.s
   ·left;have h0:=(h.m0 m hm).1;rw[hne]at h0 ⊢;have:=hi m.i h0;omega
   ·rcases h.m2 m hm hk with q|q
    ·exact .inl q
    ·right;left;rw[hp];exact key _ _ hne q
 ·unfold finC;refine Shp.stop hs.len hs.tsk ?_ ?_ hs.ba ?_ (fun q=>by cases q)
  ·show 0<=(if c.st=2 then c.pos-1 else c.pos+1);split<;>omega
  ·show (if c.st=2 then c.pos-1 else c.pos+1)<=_;split<;>omega
  ·exact hst
theorem Net.ans {X:WayD}{vs:List SrvD}{c:CtlD}{ms:List MsgD}{m:MsgD}(hs:Shp X vs c)(h:Net X vs c ms)(hw:c.wk=true)(hi:m.s=(curT c).s)(hn:c.ba<m.n)(hh:m.n<=(insG vs m.s m.i).h):Net X vs (ansC c m.i) ms/\Shp X vs (ansC c m.i):=by
 have hcur:curT (ansC c m.i)=curT c:=zgc rfl rfl rfl;refine⟨⟨h.i1,h.i4,h.i5,fun _ i hz ha=>?_,h.m0,h.m2,?_,h.m6⟩,⟨hs.len,hs.tsk,hs.p0,hs.pn,hs.st,hs.ba⟩⟩
 ·rw[hcur]at hz ⊢;by_cases e:i=m.i
  ·subst e;rw[<- hi];show c.ba<_;omega
  ·refine h.i7 hw i hz ?_;unfold ansB ansC at ha;unfold ansB;simp only at ha;split at ha
   ·rename_i q;rw[if_pos q];subst q;simpa[e,Ne.symm e]using ha
   ·rename_i q;rw[if_neg q];split at ha
    ·rename_i q;rw[if_pos q];subst q;simpa[e,Ne.symm e]using ha
    ·rename_i q;rw[if_neg q];split at ha
     ·rename_i q;rw[if_pos q];subst q;simpa[e,Ne.symm e]using ha
     ·cases ha
 ·rw[hcur];exact h.m3
theorem Net.sub {X:WayD}{vs:List SrvD}{c:CtlD}{ms ms':List MsgD}(h:Net X vs c ms)(hs:∀ m,m∈ms'->m∈ms):Net X vs c ms' :=
 ⟨h.i1,h.i4,h.i5,h.i7,fun m hm=>h.m0 m (hs m hm),fun m hm=>h.m2 m (hs m hm),fun hw m hm=>h.m3 hw m (hs m hm),fun m hm=>h.m6 m (hs m hm)⟩
theorem Net.fol {X:WayD}{vs:List SrvD}{c:CtlD}{ms:List MsgD}{m:MsgD}(h:Net X vs c (m::ms))(hk:m.k≠2)(hf:folB vs m=true):Net X (folV vs m) c (za8 ms { m with k:=2 }):=by
 have hf':hasB vs m.s m.i=true/\(insG vs m.s m.i).h<=m.n:=by
  unfold folB at hf;simp only[Bool.and_eq_true,Bool.not_eq_true',decide_eq_false_iff_not]at hf;exact⟨hf.1,by omega⟩
 have e:folV vs m=setI vs m.s m.i ⟨m.r,m.n⟩:=by unfold folV;rw[if_pos hf]
 have hin:m∈m::ms:=xq;have ha:Alw X c m.s m.r:=by
  rcases h.m2 m hin hk with q|q
  ·omega
  ·exact q
 have up:∀ a b,hasB vs a b=true->(insG vs a b).h<=(insG (folV vs m) a b).h:=fun a b q=>by
  rw[e,zgz hf'.1 q];split
  ·rename_i q';obtain⟨rfl,rfl⟩:=q';exact hf'.2
  ·exact xh _
 have hs:∀ a b,hasB (folV vs m) a b=hasB vs a b:=fun a b=>by rw[e,zrq]
 refine⟨fun s i hi=>?_,fun hw s i hi hh=>?_,fun s i hi=>?_,fun hw i h0 hh=>?_,fun x hx=>?_,fun x hx hk=>?_,fun hw x hx hn=>?_,fun x hx hk=>?_⟩
 ·rw[hs]at hi;rw[e,zgz hf'.1 hi];split
  ·rename_i q;obtain⟨rfl,rfl⟩:=q;exact ha
  ·exact h.i1 s i hi
 ·rw[hs]at hi;rw[e,zgz hf'.1 hi]at hh ⊢;split at hh
  ·rename_i q;rw[if_pos q];obtain⟨rfl,rfl⟩:=q;exact(h.m3 hw m hin hh).2
  ·rename_i q;rw[if_neg q];exact h.i4 hw s i hi hh
 ·rw[hs]at hi;rw[e,zgz hf'.1 hi];split
  ·exact(h.m0 m hin).2.1
  ·exact h.i5 s i hi
 ·rw[hs]at h0;have q:=h.i7 hw i h0 hh;have:=up _ _ h0;omega
 ·rw[hs];rcases zd7 hx with q|q
  ·exact h.m0 x (xf _ q)
  ·subst q;exact h.m0 m hin
 ·rcases zd7 hx with q|q
  ·have q':=xf m q;rcases h.m2 x q' hk with q3|q3
   ·left;have:=up _ _ (h.m0 x q').1;omega
   ·exact .inr q3
  ·subst q;exact absurd rfl hk
 ·rcases zd7 hx with q|q
  ·exact h.m3 hw x (xf _ q) hn
  ·subst q;exact h.m3 hw m hin hn
 ·rcases zd7 hx with q|q
  ·have q':=xf m q;have:=up _ _ (h.m0 x q').1;have:=h.m6 x q' hk;omega
  ·subst q;show m.n<=(insG (folV vs m) m.s m.i).h;rw[e,zgz hf'.1 hf'.1,if_pos ⟨rfl,rfl⟩];exact xh _
def ztq (X:WayD)(W:Nat->Int->Int->RecD->Prop)(c:CtlD)(keep:Int)(t:Nat)(x:RecD):Prop :=
 ∃ u q,W t u q x/\(keep=0->∃ k,k<=X.n/\q=X.cfg k u)/\(0<keep->Alw X c u q\/(c.wk=false/\x.ti<=c.un-c.rest/\∃ k,k<=X.n/\(k=c.pos.toNat+1\/k+1=c.pos.toNat)/\q=X.cfg k u))
structure Rcd (X:WayD)(W:Nat->Int->Int->RecD->Prop)(c:CtlD)(ti:Int)(ts:List TopD):Prop where
 kp:∀ (t:Nat) (T:TopD),ts[t]?=some T->0<=T.keep/\T.keep<=c.rest
 ol:∀ (t:Nat) (T:TopD) (x:RecD),ts[t]?=some T->x∈T.recs->x.ti<=ti/\(0<T.keep->ti-x.ti<T.keep)
 ok:∀ (t:Nat) (T:TopD) (x:RecD),ts[t]?=some T->x∈T.recs->ztq X W c T.keep t x
theorem Rcd.ctl {X:WayD}{W:Nat->Int->Int->RecD->Prop}{c c':CtlD}{ti:Int}{ts:List TopD}(h:Rcd X W c ti ts)(hr:c'.rest=c.rest)
  (hk:∀ (x:RecD) u q,x.ti<=ti->(Alw X c u q\/(c.wk=false/\x.ti<=c.un-c.rest/\∃ k,k<=X.n/\(k=c.pos.toNat+1\/k+1=c.pos.toNat)/\q=X.cfg k u))->Alw X c' u q\/(c'.wk=false/\x.ti<=c'.un-c'.rest/\∃ k,k<=X.n/\(k=c'.pos.toNat+1\/k+1=c'.pos.toNat)/\q=X.cfg k u)):Rcd X W c' ti ts :=
 ⟨fun t T ht=>by rw[hr];exact h.kp t T ht,h.ol,fun t T x ht hx=>by
  obtain⟨u,q,h1,h2,h3⟩:=h.ok t T x ht hx;exact⟨u,q,h1,h2,fun h0=>hk x u q (h.ol t T x ht hx).1 (h3 h0)⟩⟩
theorem Rcd.same {X:WayD}{W:Nat->Int->Int->RecD->Prop}{c c':CtlD}{ti:Int}{ts:List TopD}(h:Rcd X W c ti ts)(hr:c'.rest=c.rest)(hp:c'.pos=c.pos)(hs:c'.st=c.st)(hw:c'.wk=c.wk)(hu:c'.un=c.un):Rcd X W c' ti ts :=
 h.ctl hr fun x u q _ hx=>by
  unfold Alw aim at *;rw[hr,hp,hs,hw,hu];exact hx
structure PInv (X:WayD)(W:Nat->Int->Int->RecD->Prop)(P:zad):Prop where
 sh:Shp X P.vs P.c
 nt:Net X P.vs P.c P.ms
 rc:Rcd X W P.c P.ti P.ts
variable {X:WayD}{W:Nat->Int->Int->RecD->Prop}{P:zad}
theorem PInv.drp (h:PInv X W P)(k:Int):PInv X W (drpP P k):=by
 unfold drpP;split
 ·exact⟨h.sh,h.nt.sub fun m hm=>xm hm,h.rc⟩
 ·exact h
theorem zo0 {l:List MsgD}{k:Int}(h:numB k l.length=true):l.getD k.toNat msg0∈l:=by
 unfold numB at h;simp at h;rw[List.getD_eq_getElem?_getD,List.getElem?_eq_getElem (by omega)];exact List.getElem_mem _
theorem PInv.cpy (h:PInv X W P)(k:Int):PInv X W (cpyP P k):=by
 unfold cpyP;split
 ·rename_i hk;refine⟨h.sh,h.nt.sub fun m hm=>?_,h.rc⟩;rcases zd7 hm with q|q
  ·exact q
  ·subst q;exact zo0 hk
 ·exact h
theorem Shp.fol {vs:List SrvD}{c:CtlD}{m:MsgD}(h:Shp X vs c):Shp X (folV vs m) c:=by
 refine⟨h.len,fun j t ht=>?_,h.p0,h.pn,h.st,h.ba⟩;obtain⟨a,b⟩:=h.tsk j t ht;refine⟨fun i=>?_,b⟩;rw[<- a i];unfold folV;split
 ·rw[zrq]
 ·rfl
theorem PInv.hear {m:MsgD}{ms:List MsgD}(hs:Shp X P.vs P.c)(hn:Net X P.vs P.c (m::ms))(hr:Rcd X W P.c P.ti P.ts)(hk:m.k=2):Shp X P.vs (za4 P.c m P.ti)/\Net X P.vs (za4 P.c m P.ti) ms/\Rcd X W (za4 P.c m P.ti) P.ti P.ts:=by
 have hn':Net X P.vs P.c ms:=hn.sub fun _ q=>xf _ q;have hin:m∈m::ms:=xq;unfold za4;split
 ·rename_i hb;have hb':P.c.wk=true/\P.c.ba<m.n:=by unfold earB at hb;simp at hb;exact hb.1
  obtain⟨a1,a2⟩:=Net.ans hs hn' hb'.1 (hn.m3 hb'.1 m hin hb'.2).1 hb'.2 (hn.m6 m hin hk);have hr2:Rcd X W (ansC P.c m.i) P.ti P.ts:=hr.same rfl rfl rfl rfl rfl;split
  ·rename_i hf;obtain⟨f1,f2,f3,f4,f5,f6,f7⟩:=Net.fin a2 a1 hb'.1 hf P.ti;refine⟨f2,f1,hr2.ctl f5 fun x u q hx hq=>?_⟩;rcases hq with(q1|q1)|q1
   ·refine .inr ⟨f3,by rw[f6,f5];omega,(ansC P.c m.i).pos.toNat,by have:=a2.pn;omega,?_,q1⟩;rw[f4];have h3:=a2.st;have h4:(ansC P.c m.i).wk=true:=hb'.1;rw[h4]at h3;simp at h3;unfold aim;have:=a2.p0;split<;>omega
   ·left;left;rw[f4];exact q1.2
   ·have h4:(ansC P.c m.i).wk=true:=hb'.1;rw[h4]at q1;exact absurd q1.1 (by simp)
  ·exact⟨a2,a1,hr2⟩
 ·exact⟨hs,hn',hr⟩
theorem PInv.arr {m:MsgD}{ms:List MsgD}(hs:Shp X P.vs P.c)(hn:Net X P.vs P.c (m::ms))(hr:Rcd X W P.c P.ti P.ts):PInv X W (arrP { P with ms:=ms } m):=by
 unfold arrP;split
 ·rename_i hk;obtain⟨a,b,c⟩:=PInv.hear hs hn hr hk;exact⟨a,b,c⟩
 ·rename_i hk;split
  ·rename_i hf;exact⟨hs.fol,hn.fol hk hf,hr⟩
  ·exact⟨hs,hn.sub fun _ q=>xf _ q,hr⟩
theorem PInv.del (h:PInv X W P)(k:Int):PInv X W (delP P k):=by
 unfold delP;split
 ·rename_i hk;refine PInv.arr h.sh (h.nt.sub fun m hm=>?_) h.rc;rcases List.mem_cons.1 hm with q|q
  ·subst q;exact zo0 hk
  ·exact xm q
 ·exact h
theorem Rcd.tick {c:CtlD}{ti:Int}{ts:List TopD}(h:Rcd X W c ti ts):Rcd X W c (ti+1) (ts.map (fgtT (ti+1))):=by
 have key:∀ (t:Nat) (T:TopD),(ts.map (fgtT (ti+1)))[t]?=some T->∃ T0,ts[t]?=some T0/\T.keep=T0.keep/\(∀ x,x∈T.recs->x∈T0.recs/\(0<T0.keep->ti+1-x.ti<T0.keep)):=fun t T ht=>by
  rw[List.getElem?_map]at ht;cases h0:ts[t]? with
  |none=>rw[h0]at ht;cases ht
  |some T0 =>
   rw[h0]at ht;have:fgtT (ti+1) T0=T:=by simpa using ht
   subst this;refine⟨T0,rfl,?_,fun x hx=>?_⟩
   ·unfold fgtT;split<;>rfl
   ·unfold fgtT at hx;split at hx
    ·exact⟨hx,fun q=>by omega⟩
    ·simp at hx;exact⟨hx.1,fun _=>hx.2⟩
 refine⟨fun t T ht=>?_,fun t T x ht hx=>?_,fun t T x ht hx=>?_⟩
 ·obtain⟨T0,h0,e,_⟩:=key t T ht;rw[e];exact h.kp t T0 h0
 ·obtain⟨T0,h0,e,hm⟩:=key t T ht;rw[e];have:=(h.ol t T0 x h0 (hm x hx).1).1;exact⟨by omega,(hm x hx).2⟩
 ·obtain⟨T0,h0,e,hm⟩:=key t T ht;rw[e];exact h.ok t T0 x h0 (hm x hx).1
theorem Rcd.beg {c:CtlD}{ti:Int}{ts:List TopD}(h:Rcd X W c ti ts)(hu:c.wk=false->c.un<=ti):Rcd X W (begC c) ti ts:=by
 refine⟨h.kp,h.ol,fun t T x ht hx=>?_⟩;obtain⟨u,q,h1,h2,h3⟩:=h.ok t T x ht hx;refine⟨u,q,h1,h2,fun h0=>.inl ?_⟩;rcases h3 h0 with q1|⟨q1,q2,_⟩
 ·exact Alw.mono (c:=c) (c':=begC c) rfl rfl (fun _=>rfl) q1
 ·have:=(h.ol t T x ht hx).2 h0;have:=(h.kp t T ht).2;have:=hu q1;omega
theorem PInv.tck (h:PInv X W P):PInv X W (tckP P):=by
 have hr:=h.rc.tick;have hs:=h.sh;have hn:=h.nt;unfold tckP;generalize P.ti+1=ti at hr;have key:Shp X P.vs (actC P.c ti)/\Net X P.vs (actC P.c ti) (if actB P.c ti then za8 P.ms (actM P.c ti) else P.ms)/\Rcd X W (actC P.c ti) ti (P.ts.map (fgtT ti)):=by
  generalize P.ts.map (fgtT ti)=ts at hr;unfold actC actB actM;by_cases hb:(P.c.pa||zaj P.c)=true
  ·rw[if_pos hb,hb];exact⟨hs,by simpa using hn,hr⟩
  ·rw[if_neg hb,if_neg hb];have ho:zaj P.c=false:=by
    cases e:zaj P.c with
    |false=>rfl
    |true=>rw[e]at hb;simp at hb
   have hA:Shp X P.vs (actA P.c ti)/\Net X P.vs (actA P.c ti) P.ms/\Rcd X W (actA P.c ti) ti ts:=by
    unfold actA;split
    ·rename_i q;exact⟨hs.beg ho,hn.beg,hr.beg fun _=>q.2⟩
    ·exact⟨hs,hn,hr⟩
   obtain⟨s1,n1,r1⟩:=hA;have hb2:(P.c.pa||zaj P.c)=false:=by simpa using hb
   rw[hb2];generalize actA P.c ti=c at s1 n1 r1;by_cases hw:c.wk=true
   ·rw[if_pos hw,if_pos hw,hw];by_cases hc:cmdB c=true
    ·rw[hc];refine⟨s1.num,by simpa using Net.cmd s1 n1 hw hc,?_⟩;have e:cmdC c={ c with nu:=c.nu+1 }:=by unfold cmdC;rw[if_pos hc]
     rw[e];exact r1.same rfl rfl rfl rfl rfl
    ·have e:cmdC c=c:=by unfold cmdC;rw[if_neg hc]
     have hc':cmdB c=false:=by simpa using hc
     rw[hc',e];exact⟨s1,by simpa using n1,r1⟩
   ·rw[if_neg hw,if_neg hw];have hw':c.wk=false:=by simpa using hw
    rw[hw'];exact⟨s1,by simpa using n1,r1⟩
 exact⟨key.1,key.2.1,key.2.2⟩
def trnP (P:zad):zad:={ P with c:=zc9 P.c }
def crsP (P:zad):zad:={ P with c:=crsC P.c P.ti }
def pauP (P:zad)(on:Bool):zad:={ P with c:={ P.c with pa:=on } }
def wrtP (P:zad)(t:Nat)(sc da:ByteArray):zad:={ P with ts:=P.ts.modify t fun T=>{ T with recs:=T.recs++[⟨sc,da,P.ti⟩] } }
theorem PInv.pau (h:PInv X W P)(on:Bool):PInv X W (pauP P on) :=
 ⟨⟨h.sh.len,h.sh.tsk,h.sh.p0,h.sh.pn,h.sh.st,h.sh.ba⟩,⟨h.nt.i1,h.nt.i4,h.nt.i5,h.nt.i7,h.nt.m0,h.nt.m2,h.nt.m3,h.nt.m6⟩,h.rc.same rfl rfl rfl rfl rfl⟩
theorem PInv.crs (h:PInv X W P):PInv X W (crsP P):=by
 unfold crsP crsC;split
 ·exact h
 ·rename_i ho;split
  ·rename_i hw;exact⟨h.sh.beg (by simpa using ho),h.nt.beg,h.rc.beg fun q=>by rw[hw]at q;cases q⟩
  ·refine⟨⟨h.sh.len,h.sh.tsk,h.sh.p0,h.sh.pn,h.sh.st,h.sh.ba⟩,⟨h.nt.i1,h.nt.i4,h.nt.i5,h.nt.i7,h.nt.m0,h.nt.m2,h.nt.m3,h.nt.m6⟩,h.rc.ctl rfl fun x u q hx hq=>?_⟩;rcases hq with q1|⟨q1,q2,q3⟩
   ·exact .inl q1
   ·exact .inr ⟨q1,by show x.ti<=P.ti+P.c.rest-P.c.rest;omega,q3⟩
theorem PInv.trn (h:PInv X W P)(h1:P.c.st=1):PInv X W (trnP P):=by
 have hst:=h.sh.st;have hp:=h.sh.p0;have hpn:=h.sh.pn;unfold trnP zc9;by_cases hw:P.c.wk=true
 ·rw[if_pos hw];have hpos:P.c.pos<X.n:=by omega
  rw[zr4 (by show 0<P.c.pos+1;omega) rfl];have ha:∀ s r,Alw X P.c s r->Alw X { P.c with st:=2,pos:=P.c.pos+1 } s r:=fun s r q=>by
   unfold Alw aim at *;rw[if_neg (by omega)]at q;simp only[if_true];have e1:(P.c.pos+1).toNat=P.c.pos.toNat+1:=by omega
   rw[e1];rcases q with q|q
   ·right;exact⟨hw,by simpa using q⟩
   ·left;exact q.2
  refine⟨⟨h.sh.len,h.sh.tsk,by show 0<=P.c.pos+1;omega,by show P.c.pos+1<=X.n;omega,.inr (.inl ⟨rfl,by show 0<P.c.pos+1;omega⟩),xh _⟩,⟨fun s i hi=>Alw.mono (c:={ P.c with st:=2,pos:=P.c.pos+1 }) rfl rfl (fun _=>rfl) (ha _ _ (h.nt.i1 s i hi)),fun _ s i hi hh=>absurd (h.nt.i5 s i hi) (by have:P.c.nu<(insG P.vs s i).h:=hh;omega),h.nt.i5,fun _ i _ hh=>by simp[ansB,begC]at hh,h.nt.m0,fun m hm hk=>(h.nt.m2 m hm hk).imp id fun q=>Alw.mono (c:={ P.c with st:=2,pos:=P.c.pos+1 }) rfl rfl (fun _=>rfl) (ha _ _ q),fun _ m hm hn=>absurd (h.nt.m0 m hm).2.1 (by have:P.c.nu<m.n:=hn;omega),h.nt.m6⟩,h.rc.ctl rfl fun x u q hx hq=>?_⟩;rcases hq with q1|⟨q1,_⟩
  ·exact .inl (Alw.mono (c:={ P.c with st:=2,pos:=P.c.pos+1 }) rfl rfl (fun _=>rfl) (ha _ _ q1))
  ·rw[hw]at q1;cases q1
 ·rw[if_neg hw];have hw':P.c.wk=false:=by simpa using hw
  obtain⟨e1,e2,e3,e4,e5,e6,e7,e8⟩:=zcg { P.c with st:=2 };have ew:(zat { P.c with st:=2 }).wk=false:=by rw[e3];exact hw'
  have ha:∀ s r,Alw X P.c s r->Alw X (zat { P.c with st:=2 }) s r:=fun s r q=>by
   rcases q with q|q
   ·left;rw[e2];exact q
   ·rw[hw']at q;exact absurd q.1 (by simp)
  refine⟨Shp.stop h.sh.len h.sh.tsk hp hpn h.sh.ba (.inr rfl) (fun q=>absurd q (by show ¬ P.c.wk=true;exact hw)),⟨fun s i hi=>ha _ _ (h.nt.i1 s i hi),fun q=>absurd q (by rw[ew];simp),fun s i hi=>by rw[e5];exact h.nt.i5 s i hi,fun q=>absurd q (by rw[ew];simp),fun m hm=>by rw[e5];exact h.nt.m0 m hm,fun m hm hk=>(h.nt.m2 m hm hk).imp id (ha _ _),fun q=>absurd q (by rw[ew];simp),h.nt.m6⟩,h.rc.ctl e6 fun x u q hx hq=>?_⟩;rcases hq with q1|q1
  ·exact .inl (ha _ _ q1)
  ·right;rw[e2,e7,e6];exact⟨ew,q1.2⟩
theorem Shp.been {vs:List SrvD}{c:CtlD}(h:Shp X vs c){s r:Int}(ha:Alw X c s r):∃ k,k<=X.n/\r=X.cfg k s/\(k=c.pos.toNat\/(c.wk=true/\k=aim c)):=by
 have h1:=h.p0;have h2:=h.pn;have h3:=h.st;rcases ha with q|q
 ·exact⟨_,by omega,q,.inl rfl⟩
 ·refine⟨aim c,?_,q.2,.inr ⟨q.1,rfl⟩⟩;rw[q.1]at h3;simp at h3;unfold aim;split<;>omega
theorem PInv.wrt (h:PInv X W P){t:Nat}{s i:Int}{sc da:ByteArray}(hi:hasB P.vs s i=true)(hw:W t s (insG P.vs s i).r ⟨sc,da,P.ti⟩):PInv X W (wrtP P t sc da):=by
 refine⟨h.sh,h.nt,?_⟩;have key:∀ (k:Nat) (T:TopD),(wrtP P t sc da).ts[k]?=some T->∃ T0,P.ts[k]?=some T0/\T.keep=T0.keep/\∀ x,x∈T.recs->x∈T0.recs\/(k=t/\x=⟨sc,da,P.ti⟩):=fun k T hT=>by
  unfold wrtP at hT;simp only[List.getElem?_modify]at hT;cases h0:P.ts[k]? with
  |none=>rw[h0]at hT;cases hT
  |some T0 =>
   rw[h0]at hT;simp at hT;subst hT;refine⟨T0,rfl,?_,fun x hx=>?_⟩
   ·split<;>rfl
   ·split at hx
    ·rename_i e;simp at hx;rcases hx with q|q
     ·exact .inl q
     ·exact .inr ⟨e.symm,q⟩
    ·exact .inl hx
 have ha:=h.nt.i1 s i hi;refine⟨fun k T hT=>?_,fun k T x hT hx=>?_,fun k T x hT hx=>?_⟩
 ·obtain⟨T0,h0,e,_⟩:=key k T hT;rw[e];exact h.rc.kp k T0 h0
 ·obtain⟨T0,h0,e,hm⟩:=key k T hT;rw[e];rcases hm x hx with q|⟨_,q⟩
  ·exact h.rc.ol k T0 x h0 q
  ·subst q;exact⟨xh _,fun q=>by show P.ti-P.ti<_;omega⟩
 ·obtain⟨T0,h0,e,hm⟩:=key k T hT;rw[e];rcases hm x hx with q|⟨q1,q⟩
  ·exact h.rc.ok k T0 x h0 q
  ·subst q;subst q1;refine⟨s,_,hw,fun _=>?_,fun _=>.inl ha⟩;obtain⟨k',h1,h2,_⟩:=h.sh.been ha;exact⟨k',h1,h2⟩
theorem PInv.read (h:PInv X W P){t:Nat}{T:TopD}{x:RecD}(hT:P.ts[t]?=some T)(hx:x∈T.recs){s i:Int}(hi:hasB P.vs s i=true) :
  ∃ u q,W t u q x/\((T.keep=0/\∃ k k',k<=X.n/\k'<=X.n/\q=X.cfg k u/\(insG P.vs s i).r=X.cfg k' s)\/∃ k k',k<=X.n/\k'<=X.n/\k<=k'+1/\k'<=k+1/\q=X.cfg k u/\(insG P.vs s i).r=X.cfg k' s):=by
 obtain⟨u,q,h1,h2,h3⟩:=h.rc.ok t T x hT hx;have h0:=(h.rc.kp t T hT).1;obtain⟨k',l1,l2,l3⟩:=h.sh.been (h.nt.i1 s i hi);have p0:=h.sh.p0;have hst:=h.sh.st;have ad:P.c.wk=true->aim P.c<=P.c.pos.toNat+1/\P.c.pos.toNat<=aim P.c+1:=fun hw=>by
  rw[hw]at hst;simp at hst;unfold aim;split<;>omega
 refine⟨u,q,h1,?_⟩;by_cases hk:T.keep=0
 ·obtain⟨k,h4,h5⟩:=h2 hk;exact .inl ⟨hk,k,k',h4,l1,h5,l2⟩
 ·right;rcases h3 (by omega)with q1|⟨q1,_,k,h4,h5,h6⟩
  ·obtain⟨k,h4,h5,h6⟩:=h.sh.been q1;refine⟨k,k',h4,l1,?_,?_,h5,l2⟩
   iterate 2
    ·rcases h6 with h6|h6<;>rcases l3 with l3|l3
     ·omega
     ·have:=ad l3.1;omega
     ·have:=ad h6.1;omega
     ·omega
  ·rcases l3 with l3|l3
   ·exact⟨k,k',h4,l1,by omega,by omega,h6,l2⟩
   ·rw[q1]at l3;exact absurd l3.1 (by simp)
end
section
open Go.RowKit
theorem zov {α:Type}{f:α->List Value}{k:Nat}(hf:∀ x,(f x).length=k)(l:List α):(l.flatMap f).length=l.length*k:=by
 induction l with
 |nil=>simp
 |cons a l ih=>rw[xg,List.length_append,ih,hf,List.length_cons,xj];omega
theorem za2 {α:Type}{f:α->List Value}{k:Nat}(hf:∀ x,(f x).length=k){l:List α}{i:Nat}{x:α}(h:l[i]?=some x){j:Nat}(hj:j<k):(l.flatMap f)[i*k+j]?=(f x)[j]?:=by
 induction l generalizing i with
 |nil=>cases h
 |cons a l ih =>
  rw[xg];cases i with
  |zero=>simp at h;subst h;rw[xy,xz,List.getElem?_append_left (by rw[hf];exact hj)]
  |succ i =>
   rw[xp]at h;rw[List.getElem?_append_right (by rw[hf,xj];omega),hf,show (i+1)*k+j-k=i*k+j by rw[xj];omega];exact ih h
theorem zeh {α:Type}{f:α->List Value}{k:Nat}(hf:∀ x,(f x).length=k){l:List α}{i:Nat}{x y:α}(h:l[i]?=some x){j:Nat}{u:Value}(hj:j<k)(hy:f y=(f x).set j u):(l.flatMap f).set (i*k+j) u=(l.set i y).flatMap f:=by
 induction l generalizing i with
 |nil=>cases h
 |cons a l ih =>
  cases i with
  |zero =>
   simp at h;subst h;rw[List.set_cons_zero,xg,xg,hy,xy,xz,List.set_append_left _ _ (by rw[hf];exact hj)]
  |succ i =>
   rw[xp]at h;rw[List.set_cons_succ,xg,xg,List.set_append_right _ _ (by rw[hf,xj];omega),hf,show (i+1)*k+j-k=i*k+j by rw[xj];omega,ih h]
def msgF (m:MsgD):List Value:=[.int .i64 m.k,.int .i64 m.n,.int .i64 m.s,.int .i64 m.i,.int .i64 m.r]
def insF (x:InsD):List Value:=[.int .i64 x.r,.int .i64 x.h]
def recF (x:RecD):List Value:=[.string x.sc,.string x.da,.int .i64 x.ti]
def topF (q:Int×Value):List Value:=[.int .i64 q.1,q.2]
def Own (w:World)(L:Nat->Nat)(k:Nat)(e:TypeId)(size:Nat)(v:Value)(n:Nat)(xs:List Value):Prop:=w.ownsRow 0 e size v n xs/\∀ b,v.ownBlock=some b->L b=k
def Lab (w:World)(L L':Nat->Nat):Prop:=∀ b,b<w.heap.size->L' b=L b
theorem Lab.refl (w:World)(L:Nat->Nat):Lab w L L:=fun _ _=>rfl
theorem Lab.trans {w W:World}{L L' L'':Nat->Nat}(h:Lab w L L')(hs:w.heap.size<=W.heap.size)(k:Lab W L' L''):Lab w L L'':=fun b hb=>(k b (by omega)).trans (h b hb)
section
variable {S:Nat->Prop}{w W:World}{L L':Nat->Nat}{k size n:Nat}{e:TypeId}{v:Value}{xs:List Value}
theorem Chg.own {base:Nat}(hc:Chg S w W)(h:w.ownsRow base e size v n xs)(hS:∀ b,v.ownBlock=some b->¬ S b):W.ownsRow base e size v n xs:=by
 refine⟨h.1,h.2.imp id ?_⟩;rintro ⟨g,cap,cur,rfl,h1,h2,h3⟩;refine⟨g,cap,cur,rfl,h1,?_,h3⟩;rw[hc.block g (xo h g rfl).2 (hS g rfl)];exact h2
theorem Own.chg (h:Own w L k e size v n xs)(hc:Chg S w W)(hS:∀ b,L b=k->¬ S b):Own W L k e size v n xs:=⟨hc.own h.1 fun b hb=>hS b (h.2 b hb),h.2⟩
theorem Own.keep (h:Own w L k e size v n xs)(hb:Below w.heap.size w W):Own W L k e size v n xs:=⟨zas h.1 hb,h.2⟩
theorem Own.to (h:Own w L k e size v n xs)(hc:Chg S w W)(hS:∀ b,L b=k->¬ S b)(hL:Lab w L L'):Own W L' k e size v n xs:=⟨hc.own h.1 fun b hb=>hS b (h.2 b hb),fun b hb=>(hL b (xo h.1 b hb).2).trans (h.2 b hb)⟩
theorem Own.some (h:Own w L k e size v n xs)(hn:0<n):∃ g cap,v=.slice (.some ⟨g,0,none⟩) n cap/\L g=k/\n<=cap/\cap<=maxLen/\g<w.heap.size/\(∀ j u,xs[j]?=.some u->w.cell? ⟨g,j,none⟩=.some u)/\∀ j,w.frozen? ⟨g,j,none⟩=false:=by
 obtain⟨⟨h0,h1⟩,h2⟩:=h;rcases h1 with⟨_,h1⟩|⟨g,cap,cur,rfl,hb,hg,hc,hm,hs,ht⟩
 ·omega
 ·have ho:w.ownsRow 0 e size (.slice (.some ⟨g,0,none⟩) n cap) n xs:=⟨h0,.inr ⟨g,cap,cur,rfl,hb,hg,hc,hm,hs,ht⟩⟩;exact⟨g,cap,rfl,h2 g rfl,hc,hm,(xo ho g rfl).2,fun j u hu=>by
   rw[qd ho j (by have:=(List.getElem?_eq_some_iff.1 hu).1;omega)];exact hu,fun j=>xv ho j⟩
theorem Own.len (h:Own w L k e size v n xs):∃ a cap,v=.slice a n cap/\n<=cap/\cap<=maxLen:=by
 rcases h.1.2 with⟨rfl,rfl⟩|⟨g,cap,cur,rfl,hb,hg,hc,hm,_⟩
 ·exact⟨none,0,rfl,Nat.le_refl _,by unfold maxLen;omega⟩
 ·exact⟨_,cap,rfl,hc,hm⟩
end
def PinL (w:World)(L:Nat->Nat)(a:Option Addr)(ps:List PinD):Prop:=∀ j p,ps[j]?=some p->∃ b o,a=some ⟨b,o,none⟩/\L b=2/\w.cell? ⟨b,o+j*3,none⟩=some (.int .i64 p.t)/\w.cell? ⟨b,o+j*3+1,none⟩=some (.int .i64 p.w)/\w.cell? ⟨b,o+j*3+2,none⟩=some (.int .i64 p.r)
def RelL (w:World)(L:Nat->Nat)(v:Value)(rels:List (List PinD)):Prop:=∃ ra rc,v=.slice ra rels.length rc/\∀ i ps,rels[i]?=some ps->∃ b o pa pc,ra=some ⟨b,o,none⟩/\L b=2/\w.cell? ⟨b,o+i,none⟩=some (.slice pa ps.length pc)/\PinL w L pa ps
structure Sta (w:World)(L:Nat->Nat)(gt gv:Nat)(ts:List TskD)(sv:List (Value×Value))(rs:List (List (List PinD)))(s:Value)(ss:List ByteArray):Prop where
 lt:L gt=2
 tsk:TsksAt w gt ts
 lv:L gv=2
 sl:sv.length=rs.length
 srv:∀ (i:Nat) (q:Value×Value),sv[i]?=some q->w.cell? ⟨gv,i*2,none⟩=some q.1/\w.cell? ⟨gv,i*2+1,none⟩=some q.2
 rel:∀ (i:Nat) (q:Value×Value) (R:List (List PinD)),sv[i]?=some q->rs[i]?=some R->RelL w L q.2 R
 sch:∃ sa sc,s=.slice sa ss.length sc/\∀ i x,ss[i]?=some x->∃ b o,sa=some ⟨b,o,none⟩/\L b=2/\w.cell? ⟨b,o+i,none⟩=some (.string x)
theorem Sta.turn {w W:World}{L L':Nat->Nat}{gt gv:Nat}{ts:List TskD}{sv:List (Value×Value)}{rs:List (List (List PinD))}{s:Value}{ss:List ByteArray}(h:Sta w L gt gv ts sv rs s ss)(hgt:L' gt=2)(hgv:L' gv=2)
  (hc:∀ b o v,L b=2->w.cell? ⟨b,o,none⟩=some v->L' b=2/\W.cell? ⟨b,o,none⟩=some v):Sta W L' gt gv ts sv rs s ss:=by
 refine⟨hgt,fun i t hi=>?_,hgv,h.sl,fun i q hq=>?_,fun i q R hq hR=>?_,?_⟩
 ·obtain⟨a,b,c,d⟩:=h.tsk i t hi;exact⟨(hc _ _ _ h.lt a).2,(hc _ _ _ h.lt b).2,(hc _ _ _ h.lt c).2,(hc _ _ _ h.lt d).2⟩
 ·obtain⟨a,b⟩:=h.srv i q hq;exact⟨(hc _ _ _ h.lv a).2,(hc _ _ _ h.lv b).2⟩
 ·obtain⟨ra,rc,e,hr⟩:=h.rel i q R hq hR;refine⟨ra,rc,e,fun i ps hi=>?_⟩;obtain⟨b,o,pa,pc,h1,h2,h3,h4⟩:=hr i ps hi;refine⟨b,o,pa,pc,h1,(hc _ _ _ h2 h3).1,(hc _ _ _ h2 h3).2,fun j p hp=>?_⟩;obtain⟨b',o',k1,k2,k3,k4,k5⟩:=h4 j p hp;exact⟨b',o',k1,(hc _ _ _ k2 k3).1,(hc _ _ _ k2 k3).2,(hc _ _ _ k2 k4).2,(hc _ _ _ k2 k5).2⟩
 ·obtain⟨sa,sc,e,hs⟩:=h.sch;refine⟨sa,sc,e,fun i x hx=>?_⟩;obtain⟨b,o,k1,k2,k3⟩:=hs i x hx;exact⟨b,o,k1,(hc _ _ _ k2 k3).1,(hc _ _ _ k2 k3).2⟩
section
variable {S:Nat->Prop}{w W:World}{L L':Nat->Nat}{gt gv:Nat}{ts:List TskD}{sv:List (Value×Value)}{rs:List (List (List PinD))}{s:Value}{ss:List ByteArray}
theorem Sta.chg (h:Sta w L gt gv ts sv rs s ss)(hc:Chg S w W)(hS:∀ b,L b=2->¬ S b):Sta W L gt gv ts sv rs s ss :=
 h.turn h.lt h.lv fun b o v hb hv=>⟨hb,hc.cell (hS b hb) hv⟩
theorem Sta.to (h:Sta w L gt gv ts sv rs s ss)(hgt:gt<w.heap.size)(hgv:gv<w.heap.size)(hc:Chg S w W)(hS:∀ b,L b=2->¬ S b)(hL:Lab w L L'):Sta W L' gt gv ts sv rs s ss :=
 h.turn ((hL gt hgt).trans h.lt) ((hL gv hgv).trans h.lv) fun b o v hb hv=>⟨(hL b (zag hv)).trans hb,hc.cell (hS b hb) hv⟩
end
structure RunM (w:World)(L:Nat->Nat)(r:Nat)(P:zad)(gt tc:Nat)(m:Value)(gv vc:Nat)(t s:Value)(sv:List (Value×Value))(tv:List (Int×Value)):Prop where
 row:RowIs w r 149 (RunC P.ti (.slice (some ⟨gt,0,none⟩) P.c.ts.length tc) P.c m (.slice (some ⟨gv,0,none⟩) P.vs.length vc) t s)
 lr:L r=1
 fr:∀ b,w.heap.size<=b->L b=0
 gtl:gt<w.heap.size
 gvl:gv<w.heap.size
 vcl:P.vs.length<=vc
 sta:Sta w L gt gv P.c.ts sv (P.vs.map SrvD.rels) s P.ss
 msg:Own w L 3 100 5 m P.ms.length (P.ms.flatMap msgF)
 ins:∀ (i:Nat) (V:SrvD) (q:Value×Value),P.vs[i]?=some V->sv[i]?=some q->Own w L (10+2*i) 266 2 q.1 V.ins.length (V.ins.flatMap insF)
 top:Own w L 5 216 2 t P.ts.length (tv.flatMap topF)
 tk:tv.map Prod.fst=P.ts.map TopD.keep
 rcs:∀ (i:Nat) (T:TopD) (q:Int×Value),P.ts[i]?=some T->tv[i]?=some q->Own w L (11+2*i) 197 3 q.2 T.recs.length (T.recs.flatMap recF)
section
variable {S:Nat->Prop}{w W:World}{L L':Nat->Nat}{r:Nat}{P:zad}{gt tc:Nat}{m:Value}{gv vc:Nat}{t s:Value}{sv:List (Value×Value)}{tv:List (Int×Value)}
theorem RunM.keep (h:RunM w L r P gt tc m gv vc t s sv tv)(hb:Below w.heap.size w W):RunM W L r P gt tc m gv vc t s sv tv :=
 ⟨h.row.keep hb,h.lr,fun b hb'=>h.fr b (xu hb.size hb'),xe h.gtl hb.size,xe h.gvl hb.size,h.vcl,h.sta.chg (S:=fun _=>False) (Chg.of hb) (fun _ _ q=>q),h.msg.keep hb,fun i V q h1 h2=>(h.ins i V q h1 h2).keep hb,h.top.keep hb,h.tk,fun i T q h1 h2=>(h.rcs i T q h1 h2).keep hb⟩
theorem RunM.ctl (h:RunM w L r P gt tc m gv vc t s sv tv){c':CtlD}(hts:c'.ts=P.c.ts)(hc:Chg (·= r) w W)(hr:RowIs W r 149 (RunC P.ti (.slice (some ⟨gt,0,none⟩) c'.ts.length tc) c' m (.slice (some ⟨gv,0,none⟩) P.vs.length vc) t s)):RunM W L r { P with c:=c' } gt tc m gv vc t s sv tv:=by
 have key:∀ k,k≠1->∀ b,L b=k->¬ b=r:=fun k hk b hb e=>by subst e;rw[h.lr]at hb;omega
 refine⟨hr,h.lr,fun b hb'=>h.fr b (xu hc.size hb'),xe h.gtl hc.size,xe h.gvl hc.size,h.vcl,?_,h.msg.chg hc (key 3 (by omega)),fun i V q h1 h2=>(h.ins i V q h1 h2).chg hc (key _ (by omega)),h.top.chg hc (key 5 (by omega)),h.tk,fun i T q h1 h2=>(h.rcs i T q h1 h2).chg hc (key _ (by omega))⟩;show Sta W L gt gv c'.ts sv _ s P.ss;rw[hts];exact h.sta.chg hc (key 2 (by omega))
theorem RunM.mail (h:RunM w L r P gt tc m gv vc t s sv tv){ms':List MsgD}{m':Value}(hc:Chg (fun b=>L b=1\/L b=3) w W)(hL:Lab w L L')(hf:∀ b,W.heap.size<=b->L' b=0)(hr:RowIs W r 149 (RunC P.ti (.slice (some ⟨gt,0,none⟩) P.c.ts.length tc) P.c m' (.slice (some ⟨gv,0,none⟩) P.vs.length vc) t s))(hm:Own W L' 3 100 5 m' ms'.length (ms'.flatMap msgF)):RunM W L' r { P with ms:=ms' } gt tc m' gv vc t s sv tv :=
 ⟨hr,(hL r h.row.lt).trans h.lr,hf,xe h.gtl hc.size,xe h.gvl hc.size,h.vcl,h.sta.to h.gtl h.gvl hc (fun b hb=>by omega) hL,hm,fun i V q h1 h2=>(h.ins i V q h1 h2).to hc (fun b hb=>by omega) hL,h.top.to hc (fun b hb=>by omega) hL,h.tk,fun i T q h1 h2=>(h.rcs i T q h1 h2).to hc (fun b hb=>by omega) hL⟩
theorem RunM.out (h:RunM w L r P gt tc m gv vc t s sv tv)(hc:Chg S w W)(hS:∀ b,S b->L b=0):RunM W L r P gt tc m gv vc t s sv tv:=by
 have key:∀ k,k≠0->∀ b,L b=k->¬ S b:=fun k hk b hb hs=>by have:=hS b hs;omega
 exact⟨hc.row h.row (key 1 (by omega) r h.lr),h.lr,fun b hb'=>h.fr b (xu hc.size hb'),xe h.gtl hc.size,xe h.gvl hc.size,h.vcl,h.sta.chg hc (key 2 (by omega)),h.msg.chg hc (key 3 (by omega)),fun i V q h1 h2=>(h.ins i V q h1 h2).chg hc (key _ (by omega)),h.top.chg hc (key 5 (by omega)),h.tk,fun i T q h1 h2=>(h.rcs i T q h1 h2).chg hc (key _ (by omega))⟩
end
end
end Go.Proofs.YtkkekopomiehlabGreatDoor
