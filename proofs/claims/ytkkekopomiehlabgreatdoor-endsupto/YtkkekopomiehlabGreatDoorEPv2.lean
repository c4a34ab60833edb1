import Derived.Test.YtkkekopomiehlabGreatDoorEPy2
import Derived.Deep.Onto
set_option linter.unusedVariables false
set_option linter.unusedSimpArgs false
set_option maxHeartbeats 40000000
set_option maxRecDepth 4000
open Nat renaming lt_of_lt_of_le->xe,le_refl->xj,succ_mul->xy,le_trans->qi,zero_le->qn,zero_mul->qu,zero_add->qv
open List renaming getElem?_eq_some_iff->xf,mem_cons_of_mem->xg,flatMap_cons->xh,eraseIdx_of_length_le->xm,getElem?_eq_getElem->xp,flatMap_append->xv,length_append->xz,mem_of_mem_eraseIdx->qd,getElem?_cons_succ->qe,mem_cons_self->qh,take_add_one->qj,take_length->qk,length_take->qm
open Go.World.ownsRow renaming lt->xo,frozenAt->qq,cellAt->qx
open Int renaming le_refl->xq
open Go.World renaming news_of_block->xu,ownsRow_made->qg,setCell->qp
open Go.Value renaming oneCell'->qf,ownBlock->qo
namespace Go.Proofs.YtkkekopomiehlabGreatDoor
section
open Go.RowKit
theorem Alw.mono {X:WayD}{c c':CtlD}{s r:Int}(hp:c'.pos=c.pos)(hs:c'.st=c.st)(hw:c.wk=true->c'.wk=true)(h:Alw X c s r):Alw X c' s r:=by
 unfold Alw aim at *;rw[hp,hs];rcases h with h|⟨h,h'⟩
 ·exact .inl h
 ·exact .inr ⟨hw h,h'⟩
theorem zgc {c c':CtlD}(ht:c'.ts=c.ts)(hp:c'.pos=c.pos)(hs:c'.st=c.st):curT c'=curT c:=by
 unfold curT numC;rw[ht,hp,hs]
theorem Net.beg {X:WayD}{vs:List SrvD}{c:CtlD}{ms:List MsgD}(h:Net X vs c ms):Net X vs (begC c) ms where
 i1:=fun s i hi=>Alw.mono (c:=c) (c':=begC c) rfl rfl (fun _=>rfl) (h.i1 s i hi)
 i4:=fun _ s i hi hh=>absurd (h.i5 s i hi) (by have:(begC c).ba=c.nu:=rfl;omega)
 i5:=h.i5
 i7:=fun _ i hz ha=>by simp[ansB,begC]at ha
 m0:=h.m0
 m2:=fun m hm hk=>(h.m2 m hm hk).imp id fun q=>Alw.mono (c:=c) (c':=begC c) rfl rfl (fun _=>rfl) q
 m3:=fun _ m hm hn=>absurd (h.m0 m hm).2.1 (by have:(begC c).ba=c.nu:=rfl;omega)
 m6:=h.m6
theorem Shp.beg {X:WayD}{vs:List SrvD}{c:CtlD}(h:Shp X vs c)(ho:zaj c=false):Shp X vs (begC c) where
 len:=h.len
 tsk:=h.tsk
 p0:=h.p0
 pn:=h.pn
 st:=by
  unfold zaj at ho;have:=h.st;simp at ho;show (c.st=1/\c.pos<X.n)\/(c.st=2/\0<c.pos)\/(c.st=3/\c.pos=X.n/\true=false)\/(c.st=4/\c.pos=0/\true=false);omega
 ba:=xq _
theorem Shp.num {X:WayD}{vs:List SrvD}{c:CtlD}(h:Shp X vs c):Shp X vs (cmdC c):=by
 unfold cmdC;split
 ·exact⟨h.len,h.tsk,h.p0,h.pn,h.st,by have:=h.ba;show c.ba<=c.nu+1;omega⟩
 ·exact h
theorem zoy {a0 a1 a2:Bool}{z:Int}(h:frst a0 a1 a2 z<z):0<=frst a0 a1 a2 z/\frst a0 a1 a2 z<3:=by
 unfold frst at h ⊢;split<;>(try split)<;>(try split)<;>(first|omega|skip)
 all_goals simp_all
theorem Net.cmd {X:WayD}{vs:List SrvD}{c:CtlD}{ms:List MsgD}(hs:Shp X vs c)(h:Net X vs c ms)(hw:c.wk=true)(hb:cmdB c=true):Net X vs (cmdC c) (za8 ms (cmdM c)):=by
 have hst:c.st=1\/c.st=2:=by have:=hs.st;rw[hw]at this;simp at this;omega
 obtain⟨t,ht,e1,e2,e3,e4,e5,e6,e7⟩:=zgd hs hst;have hb':frst c.a0 c.a1 c.a2 (curT c).z<(curT c).z:=by unfold cmdB at hb;simpa using hb
 have hf:=zoy hb';have hm:cmdM c=⟨1,c.nu+1,(curT c).s,frst c.a0 c.a1 c.a2 (curT c).z,(curT c).r⟩:=by unfold cmdM;rw[if_pos hb]
 have hc:cmdC c={ c with nu:=c.nu+1 }:=by unfold cmdC;rw[if_pos hb]
 have hcur:curT (cmdC c)=curT c:=by rw[hc];exact zgc rfl rfl rfl
 have haim:aim (cmdC c)=aim c:=by rw[hc];rfl
 have hin:hasB vs (curT c).s (frst c.a0 c.a1 c.a2 (curT c).z)=true:=by rw[e1];exact(e4 _).2 ⟨hf.1,by omega⟩
 have halw:∀ s r,Alw X c s r->Alw X (cmdC c) s r:=fun s r q=>by rw[hc];exact q
 refine⟨fun s i hi=>halw _ _ (h.i1 s i hi),?_,fun s i hi=>?_,?_,fun m hx=>?_,fun m hx hk=>?_,fun _ m hx hn=>?_,fun m hx hk=>?_⟩
 ·rw[haim,hc];exact h.i4
 ·have:=h.i5 s i hi;rw[hc];show _<=c.nu+1;omega
 ·rw[hcur,hc];exact h.i7
 ·rcases zd7 hx with q|q
  ·obtain⟨a,b,d⟩:=h.m0 m q;exact⟨a,by rw[hc];show _<=c.nu+1;omega,d⟩
  ·subst q;rw[hm,hc];exact⟨hin,xq _,hf.2⟩
 ·rcases zd7 hx with q|q
  ·exact(h.m2 m q hk).imp id (halw _ _)
  ·subst q;right;apply halw;right;rw[hm];exact⟨hw,by show (curT c).r=X.cfg (aim c) (curT c).s;rw[e3,e1]⟩
 ·rw[hcur,haim];rcases zd7 hx with q|q
  ·exact h.m3 hw m q (by rw[hc]at hn;exact hn)
  ·subst q;rw[hm];exact⟨rfl,by show (curT c).r=X.cfg (aim c) (curT c).s;rw[e3,e1]⟩
 ·rcases zd7 hx with q|q
  ·exact h.m6 m q hk
  ·subst q;rw[hm]at hk;cases hk
theorem Shp.stop {X:WayD}{vs:List SrvD}{c:CtlD}(len:c.ts.length=X.n)(tsk:∀ j t,c.ts[j]?=some t->(∀ i,hasB vs t.s i=true↔0<=i/\i<t.z)/\1<=t.z/\t.z<=3/\X.cfg j t.s=t.b/\X.cfg (j+1) t.s=t.r/\∀ s,s≠t.s->X.cfg (j+1) s=X.cfg j s)
  (p0:0<=c.pos) (pn:c.pos<=X.n) (ba:c.ba<=c.nu) (st:c.st=1\/c.st=2) (hw:c.wk=true->0<c.pos/\c.pos<=X.n/\c.st=2):Shp X vs (zat c):=by
 rcases st with q|q
 ·by_cases hp:(c.ts.length:Int)<=c.pos
  ·have e1:zbr c={ c with st:=3 }:=by unfold zbr;rw[if_pos ⟨q,hp⟩]
   have e2:zat c={ c with st:=3 }:=by unfold zat zcr;rw[e1,if_neg (by simp)]
   rw[e2];refine⟨len,tsk,p0,pn,.inr (.inr (.inl ⟨rfl,by show c.pos=_;omega,?_⟩)),ba⟩;cases e:c.wk with
   |false=>rfl
   |true=>have:=(hw e).2.2;omega
  ·have e1:zbr c=c:=by unfold zbr;rw[if_neg (fun e=>hp e.2)]
   have e2:zat c=c:=by unfold zat zcr;rw[e1,if_neg (by omega)]
   rw[e2];exact⟨len,tsk,p0,pn,.inl ⟨q,by omega⟩,ba⟩
 ·have e1:zbr c=c:=by unfold zbr;rw[if_neg (by omega)]
  by_cases hp:c.pos<=0
  ·have e2:zat c={ c with st:=4 }:=by unfold zat zcr;rw[e1,if_pos ⟨q,hp⟩]
   rw[e2];refine⟨len,tsk,p0,pn,.inr (.inr (.inr ⟨rfl,by show c.pos=_;omega,?_⟩)),ba⟩;cases e:c.wk with
   |false=>rfl
   |true=>have:=(hw e).1;omega
  ·have e2:zat c=c:=by unfold zat zcr;rw[e1,if_neg (fun e=>hp e.2)]
   rw[e2];exact⟨len,tsk,p0,pn,.inr (.inl ⟨q,by omega⟩),ba⟩
theorem zcg (c:CtlD):(zat c).ts=c.ts/\(zat c).pos=c.pos/\(zat c).wk=c.wk/\(zat c).ba=c.ba/\(zat c).nu=c.nu/\(zat c).rest=c.rest/\(zat c).un=c.un/\(zat c).pa=c.pa:=by
 unfold zat zcr zbr;split<;>split<;>exact⟨rfl,rfl,rfl,rfl,rfl,rfl,rfl,rfl⟩
theorem zr4 {c:CtlD}(hp:0<c.pos)(h:c.st=2):zat c=c:=by
 have e1:zbr c=c:=by unfold zbr;rw[if_neg (by omega)]
 unfold zat zcr;rw[e1,if_neg (by omega)]
theorem Net.fin {X:WayD}{vs:List SrvD}{c:CtlD}{ms:List MsgD}(hs:Shp X vs c)(h:Net X vs c ms)(hw:c.wk=true)(ha:frst c.a0 c.a1 c.a2 (curT c).z=(curT c).z)(time:Int):Net X vs (finC c time) ms/\Shp X vs (finC c time)/\(finC c time).wk=false/\(finC c time).pos.toNat=aim c/\(finC c time).rest=c.rest/\(finC c time).un=time+c.rest/\aim c<=X.n:=by
 have hst:c.st=1\/c.st=2:=by have:=hs.st;rw[hw]at this;simp at this;omega
 obtain⟨t,ht,e1,e2,e3,e4,e5,e6,e7⟩:=zgd hs hst;have hp:(finC c time).pos.toNat=aim c:=by
  unfold finC aim;rw[(zcg _).2.1];show (if c.st=2 then c.pos-1 else c.pos+1).toNat=_;have:=hs.p0;split<;>omega
 have hwk:(finC c time).wk=false:=by unfold finC;rw[(zcg _).2.2.1]
 have hnu:(finC c time).nu=c.nu:=by unfold finC;rw[(zcg _).2.2.2.2.1]
 have hp2:=hs.pn;have hp3:=hs.p0;have hp4:=hs.st;have hn:aim c<=X.n:=by
  unfold aim;split<;>omega
 have all:∀ i,0<=i->i<(curT c).z->ansB c i=true:=fun i h0 hz=>by
  obtain⟨q0,q1,q2⟩:=zxi (by omega) ha;unfold ansB;have:i=0\/i=1\/i=2:=by omega
  rcases this with rfl|rfl|rfl
  ·rw[if_pos rfl];exact q0 (by omega)
  ·rw[if_neg (by omega),if_pos rfl];exact q1 (by omega)
  ·rw[if_neg (by omega),if_neg (by omega),if_pos rfl];exact q2 (by omega)
 have hi:∀ i,hasB vs t.s i=true->c.ba<(insG vs t.s i).h:=fun i q=>by
  have q':=(e4 i).1 q;have:=h.i7 hw i (by rw[e1];exact q) (all i q'.1 (by omega));rw[e1]at this;exact this
 have key:∀ s r,s≠t.s->Alw X c s r->r=X.cfg (aim c) s:=fun s r hne q=>by
  rcases q with q|q
  ·rw[q,e7 s hne]
  ·exact q.2
 refine⟨⟨fun s i hh=>?_,fun q=>absurd q (by rw[hwk];simp),fun s i hh=>(by rw[hnu];exact h.i5 s i hh),fun q=>absurd q (by rw[hwk];simp),fun m hm=>(by rw[hnu];exact h.m0 m hm),fun m hm hk=>?_,fun q=>absurd q (by rw[hwk];simp),h.m6⟩,?_,hwk,hp,by unfold finC;rw[(zcg _).2.2.2.2.2.1],by unfold finC;rw[(zcg _).2.2.2.2.2.2.1],hn⟩
 ·left;rw[hp];by_cases hne:s=t.s
  ·subst hne;exact h.i4 hw _ i hh (hi i hh)
  ·exact key _ _ hne (h.i1 s i hh)
 ·by_cases hb:c.ba<m.n
  ·right;left;rw[hp];exact(h.m3 hw m hm hb).2
  ·by_cases hne:m.s=t.s
   ·left;have h0:=(h.m0 m hm).1;rw[hne]at h0 ⊢;have:=hi m.i h0;omega
   ·rcases h.m2 m hm hk with q|q
    ·exact .inl q
    ·right;left;rw[hp];exact key _ _ hne q
 ·unfold finC;refine Shp.stop hs.len hs.tsk ?_ ?_ hs.ba ?_ (fun q=>by cases q)
  ·show 0<=(if c.st=2 then c.pos-1 else c.pos+1);split<;>omega
  ·show (if c.st=2 then c.pos-1 else c.pos+1)<=_;split<;>omega
  ·exact hst
theorem Net.ans {X:WayD}{vs:List SrvD}{c:CtlD}{ms:List MsgD}{m:MsgD}(hs:Shp X vs c)(h:Net X vs c ms)(hw:c.wk=true)(hi:m.s=(curT c).s)(hn:c.ba<m.n)(hh:m.n<=(insG vs m.s m.i).h):Net X vs (ansC c m.i) ms/\Shp X vs (ansC c m.i):=by
 have hcur:curT (ansC c m.i)=curT c:=zgc rfl rfl rfl;refine⟨⟨h.i1,h.i4,h.i5,fun _ i hz ha=>?_,h.m0,h.m2,?_,h.m6⟩,⟨hs.len,hs.tsk,hs.p0,hs.pn,hs.st,hs.ba⟩⟩
 ·rw[hcur]at hz ⊢;by_cases e:i=m.i
  ·subst e;rw[<- hi];show c.ba<_;omega
  ·refine h.i7 hw i hz ?_;unfold ansB ansC at ha;unfold ansB;simp only at ha;split at ha
   ·rename_i q;rw[if_pos q];subst q;simpa[e,Ne.symm e]using ha
   ·rename_i q;rw[if_neg q];split at ha
    ·rename_i q;rw[if_pos q];subst q;simpa[e,Ne.symm e]using ha
    ·rename_i q;rw[if_neg q];split at ha
     ·rename_i q;rw[if_pos q];subst q;simpa[e,Ne.symm e]using ha
     ·cases ha
 ·rw[hcur];exact h.m3
theorem Net.sub {X:WayD}{vs:List SrvD}{c:CtlD}{ms ms':List MsgD}(h:Net X vs c ms)(hs:∀ m,m∈ms'->m∈ms):Net X vs c ms' :=
 ⟨h.i1,h.i4,h.i5,h.i7,fun m hm=>h.m0 m (hs m hm),fun m hm=>h.m2 m (hs m hm),fun hw m hm=>h.m3 hw m (hs m hm),fun m hm=>h.m6 m (hs m hm)⟩
theorem Net.fol {X:WayD}{vs:List SrvD}{c:CtlD}{ms:List MsgD}{m:MsgD}(h:Net X vs c (m::ms))(hk:m.k≠2)(hf:folB vs m=true):Net X (folV vs m) c (za8 ms { m with k:=2 }):=by
 have hf':hasB vs m.s m.i=true/\(insG vs m.s m.i).h<=m.n:=by
  unfold folB at hf;simp only[Bool.and_eq_true,Bool.not_eq_true',decide_eq_false_iff_not]at hf;exact⟨hf.1,by omega⟩
 have e:folV vs m=setI vs m.s m.i ⟨m.r,m.n⟩:=by unfold folV;rw[if_pos hf]
 have hin:m∈m::ms:=qh;have ha:Alw X c m.s m.r:=by
  rcases h.m2 m hin hk with q|q
  ·omega
  ·exact q
 have up:∀ a b,hasB vs a b=true->(insG vs a b).h<=(insG (folV vs m) a b).h:=fun a b q=>by
  rw[e,zgz hf'.1 q];split
  ·rename_i q';obtain⟨rfl,rfl⟩:=q';exact hf'.2
  ·exact xq _
 have hs:∀ a b,hasB (folV vs m) a b=hasB vs a b:=fun a b=>by rw[e,zrq]
 refine⟨fun s i hi=>?_,fun hw s i hi hh=>?_,fun s i hi=>?_,fun hw i h0 hh=>?_,fun x hx=>?_,fun x hx hk=>?_,fun hw x hx hn=>?_,fun x hx hk=>?_⟩
 ·rw[hs]at hi;rw[e,zgz hf'.1 hi];split
  ·rename_i q;obtain⟨rfl,rfl⟩:=q;exact ha
  ·exact h.i1 s i hi
 ·rw[hs]at hi;rw[e,zgz hf'.1 hi]at hh ⊢;split at hh
  ·rename_i q;rw[if_pos q];obtain⟨rfl,rfl⟩:=q;exact(h.m3 hw m hin hh).2
  ·rename_i q;rw[if_neg q];exact h.i4 hw s i hi hh
 ·rw[hs]at hi;rw[e,zgz hf'.1 hi];split
  ·exact(h.m0 m hin).2.1
  ·exact h.i5 s i hi
 ·rw[hs]at h0;have q:=h.i7 hw i h0 hh;have:=up _ _ h0;omega
 ·rw[hs];rcases zd7 hx with q|q
  ·exact h.m0 x (xg _ q)
  ·subst q;exact h.m0 m hin
 ·rcases zd7 hx with q|q
  ·have q':=xg m q;rcases h.m2 x q' hk with q3|q3
   ·left;have:=up _ _ (h.m0 x q').1;omega
   ·exact .inr q3
  ·subst q;exact absurd rfl hk
 ·rcases zd7 hx with q|q
  ·exact h.m3 hw x (xg _ q) hn
  ·subst q;exact h.m3 hw m hin hn
 ·rcases zd7 hx with q|q
  ·have q':=xg m q;have:=up _ _ (h.m0 x q').1;have:=h.m6 x q' hk;omega
  ·subst q;show m.n<=(insG (folV vs m) m.s m.i).h;rw[e,zgz hf'.1 hf'.1,if_pos ⟨rfl,rfl⟩];exact xq _
def ztq (X:WayD)(W:Nat->Int->Int->RecD->Prop)(c:CtlD)(keep:Int)(t:Nat)(x:RecD):Prop :=
 ∃ u q,W t u q x/\(keep=0->∃ k,k<=X.n/\q=X.cfg k u)/\(0<keep->Alw X c u q\/(c.wk=false/\x.ti<=c.un-c.rest/\∃ k,k<=X.n/\(k=c.pos.toNat+1\/k+1=c.pos.toNat)/\q=X.cfg k u))
structure Rcd (X:WayD)(W:Nat->Int->Int->RecD->Prop)(c:CtlD)(ti:Int)(ts:List TopD):Prop where
 kp:∀ (t:Nat) (T:TopD),ts[t]?=some T->0<=T.keep/\T.keep<=c.rest
 ol:∀ (t:Nat) (T:TopD) (x:RecD),ts[t]?=some T->x∈T.recs->x.ti<=ti/\(0<T.keep->ti-x.ti<T.keep)
 ok:∀ (t:Nat) (T:TopD) (x:RecD),ts[t]?=some T->x∈T.recs->ztq X W c T.keep t x
theorem Rcd.ctl {X:WayD}{W:Nat->Int->Int->RecD->Prop}{c c':CtlD}{ti:Int}{ts:List TopD}(h:Rcd X W c ti ts)(hr:c'.rest=c.rest)
  (hk:∀ (x:RecD) u q,x.ti<=ti->(Alw X c u q\/(c.wk=false/\x.ti<=c.un-c.rest/\∃ k,k<=X.n/\(k=c.pos.toNat+1\/k+1=c.pos.toNat)/\q=X.cfg k u))->Alw X c' u q\/(c'.wk=false/\x.ti<=c'.un-c'.rest/\∃ k,k<=X.n/\(k=c'.pos.toNat+1\/k+1=c'.pos.toNat)/\q=X.cfg k u)):Rcd X W c' ti ts :=
 ⟨fun t T ht=>by rw[hr];exact h.kp t T ht,h.ol,fun t T x ht hx=>by
  obtain⟨u,q,h1,h2,h3⟩:=h.ok t T x ht hx;exact⟨u,q,h1,h2,fun h0=>hk x u q (h.ol t T x ht hx).1 (h3 h0)⟩⟩
theorem Rcd.same {X:WayD}{W:Nat->Int->Int->RecD->Prop}{c c':CtlD}{ti:Int}{ts:List TopD}(h:Rcd X W c ti ts)(hr:c'.rest=c.rest)(hp:c'.pos=c.pos)(hs:c'.st=c.st)(hw:c'.wk=c.wk)(hu:c'.un=c.un):Rcd X W c' ti ts :=
 h.ctl hr fun x u q _ hx=>by
  unfold Alw aim at *;rw[hr,hp,hs,hw,hu];exact hx
structure PInv (X:WayD)(W:Nat->Int->Int->RecD->Prop)(P:zad):Prop where
 sh:Shp X P.vs P.c
 nt:Net X P.vs P.c P.ms
 rc:Rcd X W P.c P.ti P.ts
variable {X:WayD}{W:Nat->Int->Int->RecD->Prop}{P:zad}
theorem PInv.drp (h:PInv X W P)(k:Int):PInv X W (drpP P k):=by
 unfold drpP;split
 ·exact⟨h.sh,h.nt.sub fun m hm=>qd hm,h.rc⟩
 ·exact h
theorem zo0 {l:List MsgD}{k:Int}(h:numB k l.length=true):l.getD k.toNat msg0∈l:=by
 unfold numB at h;simp at h;rw[List.getD_eq_getElem?_getD,xp (by omega)];exact List.getElem_mem _
theorem PInv.cpy (h:PInv X W P)(k:Int):PInv X W (cpyP P k):=by
 unfold cpyP;split
 ·rename_i hk;refine⟨h.sh,h.nt.sub fun m hm=>?_,h.rc⟩;rcases zd7 hm with q|q
  ·exact q
  ·subst q;exact zo0 hk
 ·exact h
theorem Shp.fol {vs:List SrvD}{c:CtlD}{m:MsgD}(h:Shp X vs c):Shp X (folV vs m) c:=by
 refine⟨h.len,fun j t ht=>?_,h.p0,h.pn,h.st,h.ba⟩;obtain⟨a,b⟩:=h.tsk j t ht;refine⟨fun i=>?_,b⟩;rw[<- a i];unfold folV;split
 ·rw[zrq]
 ·rfl
theorem PInv.hear {m:MsgD}{ms:List MsgD}(hs:Shp X P.vs P.c)(hn:Net X P.vs P.c (m::ms))(hr:Rcd X W P.c P.ti P.ts)(hk:m.k=2):Shp X P.vs (za4 P.c m P.ti)/\Net X P.vs (za4 P.c m P.ti) ms/\Rcd X W (za4 P.c m P.ti) P.ti P.ts:=by
 have hn':Net X P.vs P.c ms:=hn.sub fun _ q=>xg _ q;have hin:m∈m::ms:=qh;unfold za4;split
 ·rename_i hb;have hb':P.c.wk=true/\P.c.ba<m.n:=by unfold earB at hb;simp at hb;exact hb.1
  obtain⟨a1,a2⟩:=Net.ans hs hn' hb'.1 (hn.m3 hb'.1 m hin hb'.2).1 hb'.2 (hn.m6 m hin hk);have hr2:Rcd X W (ansC P.c m.i) P.ti P.ts:=hr.same rfl rfl rfl rfl rfl;split
  ·rename_i hf;obtain⟨f1,f2,f3,f4,f5,f6,f7⟩:=Net.fin a2 a1 hb'.1 hf P.ti;refine⟨f2,f1,hr2.ctl f5 fun x u q hx hq=>?_⟩;rcases hq with(q1|q1)|q1
   ·refine .inr ⟨f3,by rw[f6,f5];omega,(ansC P.c m.i).pos.toNat,by have:=a2.pn;omega,?_,q1⟩;rw[f4];have h3:=a2.st;have h4:(ansC P.c m.i).wk=true:=hb'.1;rw[h4]at h3;simp at h3;unfold aim;have:=a2.p0;split<;>omega
   ·left;left;rw[f4];exact q1.2
   ·have h4:(ansC P.c m.i).wk=true:=hb'.1;rw[h4]at q1;exact absurd q1.1 (by simp)
  ·exact⟨a2,a1,hr2⟩
 ·exact⟨hs,hn',hr⟩
theorem PInv.arr {m:MsgD}{ms:List MsgD}(hs:Shp X P.vs P.c)(hn:Net X P.vs P.c (m::ms))(hr:Rcd X W P.c P.ti P.ts):PInv X W (arrP { P with ms:=ms } m):=by
 unfold arrP;split
 ·rename_i hk;obtain⟨a,b,c⟩:=PInv.hear hs hn hr hk;exact⟨a,b,c⟩
 ·rename_i hk;split
  ·rename_i hf;exact⟨hs.fol,hn.fol hk hf,hr⟩
  ·exact⟨hs,hn.sub fun _ q=>xg _ q,hr⟩
theorem PInv.del (h:PInv X W P)(k:Int):PInv X W (delP P k):=by
 unfold delP;split
 ·rename_i hk;refine PInv.arr h.sh (h.nt.sub fun m hm=>?_) h.rc;rcases List.mem_cons.1 hm with q|q
  ·subst q;exact zo0 hk
  ·exact qd q
 ·exact h
theorem Rcd.tick {c:CtlD}{ti:Int}{ts:List TopD}(h:Rcd X W c ti ts):Rcd X W c (ti+1) (ts.map (fgtT (ti+1))):=by
 have key:∀ (t:Nat) (T:TopD),(ts.map (fgtT (ti+1)))[t]?=some T->∃ T0,ts[t]?=some T0/\T.keep=T0.keep/\(∀ x,x∈T.recs->x∈T0.recs/\(0<T0.keep->ti+1-x.ti<T0.keep)):=fun t T ht=>by
  rw[List.getElem?_map]at ht;cases h0:ts[t]? with
  |none=>rw[h0]at ht;cases ht
  |some T0 =>
   rw[h0]at ht;have:fgtT (ti+1) T0=T:=by simpa using ht
   subst this;refine⟨T0,rfl,?_,fun x hx=>?_⟩
   ·unfold fgtT;split<;>rfl
   ·unfold fgtT at hx;split at hx
    ·exact⟨hx,fun q=>by omega⟩
    ·simp at hx;exact⟨hx.1,fun _=>hx.2⟩
 refine⟨fun t T ht=>?_,fun t T x ht hx=>?_,fun t T x ht hx=>?_⟩
 ·obtain⟨T0,h0,e,_⟩:=key t T ht;rw[e];exact h.kp t T0 h0
 ·obtain⟨T0,h0,e,hm⟩:=key t T ht;rw[e];have:=(h.ol t T0 x h0 (hm x hx).1).1;exact⟨by omega,(hm x hx).2⟩
 ·obtain⟨T0,h0,e,hm⟩:=key t T ht;rw[e];exact h.ok t T0 x h0 (hm x hx).1
theorem Rcd.beg {c:CtlD}{ti:Int}{ts:List TopD}(h:Rcd X W c ti ts)(hu:c.wk=false->c.un<=ti):Rcd X W (begC c) ti ts:=by
 refine⟨h.kp,h.ol,fun t T x ht hx=>?_⟩;obtain⟨u,q,h1,h2,h3⟩:=h.ok t T x ht hx;refine⟨u,q,h1,h2,fun h0=>.inl ?_⟩;rcases h3 h0 with q1|⟨q1,q2,_⟩
 ·exact Alw.mono (c:=c) (c':=begC c) rfl rfl (fun _=>rfl) q1
 ·have:=(h.ol t T x ht hx).2 h0;have:=(h.kp t T ht).2;have:=hu q1;omega
theorem PInv.tck (h:PInv X W P):PInv X W (tckP P):=by
 have hr:=h.rc.tick;have hs:=h.sh;have hn:=h.nt;unfold tckP;generalize P.ti+1=ti at hr;have key:Shp X P.vs (actC P.c ti)/\Net X P.vs (actC P.c ti) (if actB P.c ti then za8 P.ms (actM P.c ti) else P.ms)/\Rcd X W (actC P.c ti) ti (P.ts.map (fgtT ti)):=by
  generalize P.ts.map (fgtT ti)=ts at hr;unfold actC actB actM;by_cases hb:(P.c.pa||zaj P.c)=true
  ·rw[if_pos hb,hb];exact⟨hs,by simpa using hn,hr⟩
  ·rw[if_neg hb,if_neg hb];have ho:zaj P.c=false:=by
    cases e:zaj P.c with
    |false=>rfl
    |true=>rw[e]at hb;simp at hb
   have hA:Shp X P.vs (actA P.c ti)/\Net X P.vs (actA P.c ti) P.ms/\Rcd X W (actA P.c ti) ti ts:=by
    unfold actA;split
    ·rename_i q;exact⟨hs.beg ho,hn.beg,hr.beg fun _=>q.2⟩
    ·exact⟨hs,hn,hr⟩
   obtain⟨s1,n1,r1⟩:=hA;have hb2:(P.c.pa||zaj P.c)=false:=by simpa using hb
   rw[hb2];generalize actA P.c ti=c at s1 n1 r1;by_cases hw:c.wk=true
   ·rw[if_pos hw,if_pos hw,hw];by_cases hc:cmdB c=true
    ·rw[hc];refine⟨s1.num,by simpa using Net.cmd s1 n1 hw hc,?_⟩;have e:cmdC c={ c with nu:=c.nu+1 }:=by unfold cmdC;rw[if_pos hc]
     rw[e];exact r1.same rfl rfl rfl rfl rfl
    ·have e:cmdC c=c:=by unfold cmdC;rw[if_neg hc]
     have hc':cmdB c=false:=by simpa using hc
     rw[hc',e];exact⟨s1,by simpa using n1,r1⟩
   ·rw[if_neg hw,if_neg hw];have hw':c.wk=false:=by simpa using hw
    rw[hw'];exact⟨s1,by simpa using n1,r1⟩
 exact⟨key.1,key.2.1,key.2.2⟩
def trnP (P:zad):zad:={ P with c:=zc9 P.c }
def crsP (P:zad):zad:={ P with c:=crsC P.c P.ti }
def pauP (P:zad)(on:Bool):zad:={ P with c:={ P.c with pa:=on } }
def wrtP (P:zad)(t:Nat)(sc da:ByteArray):zad:={ P with ts:=P.ts.modify t fun T=>{ T with recs:=T.recs++[⟨sc,da,P.ti⟩] } }
theorem PInv.pau (h:PInv X W P)(on:Bool):PInv X W (pauP P on) :=
 ⟨⟨h.sh.len,h.sh.tsk,h.sh.p0,h.sh.pn,h.sh.st,h.sh.ba⟩,⟨h.nt.i1,h.nt.i4,h.nt.i5,h.nt.i7,h.nt.m0,h.nt.m2,h.nt.m3,h.nt.m6⟩,h.rc.same rfl rfl rfl rfl rfl⟩
theorem PInv.crs (h:PInv X W P):PInv X W (crsP P):=by
 unfold crsP crsC;split
 ·exact h
 ·rename_i ho;split
  ·rename_i hw;exact⟨h.sh.beg (by simpa using ho),h.nt.beg,h.rc.beg fun q=>by rw[hw]at q;cases q⟩
  ·refine⟨⟨h.sh.len,h.sh.tsk,h.sh.p0,h.sh.pn,h.sh.st,h.sh.ba⟩,⟨h.nt.i1,h.nt.i4,h.nt.i5,h.nt.i7,h.nt.m0,h.nt.m2,h.nt.m3,h.nt.m6⟩,h.rc.ctl rfl fun x u q hx hq=>?_⟩;rcases hq with q1|⟨q1,q2,q3⟩
   ·exact .inl q1
   ·exact .inr ⟨q1,by show x.ti<=P.ti+P.c.rest-P.c.rest;omega,q3⟩
theorem PInv.trn (h:PInv X W P)(h1:P.c.st=1):PInv X W (trnP P):=by
 have hst:=h.sh.st;have hp:=h.sh.p0;have hpn:=h.sh.pn;unfold trnP zc9;by_cases hw:P.c.wk=true
 ·rw[if_pos hw];have hpos:P.c.pos<X.n:=by omega
  rw[zr4 (by show 0<P.c.pos+1;omega) rfl];have ha:∀ s r,Alw X P.c s r->Alw X { P.c with st:=2,pos:=P.c.pos+1 } s r:=fun s r q=>by
   unfold Alw aim at *;rw[if_neg (by omega)]at q;simp only[if_true];have e1:(P.c.pos+1).toNat=P.c.pos.toNat+1:=by omega
   rw[e1];rcases q with q|q
   ·right;exact⟨hw,by simpa using q⟩
   ·left;exact q.2
  refine⟨⟨h.sh.len,h.sh.tsk,by show 0<=P.c.pos+1;omega,by show P.c.pos+1<=X.n;omega,.inr (.inl ⟨rfl,by show 0<P.c.pos+1;omega⟩),xq _⟩,⟨fun s i hi=>Alw.mono (c:={ P.c with st:=2,pos:=P.c.pos+1 }) rfl rfl (fun _=>rfl) (ha _ _ (h.nt.i1 s i hi)),fun _ s i hi hh=>absurd (h.nt.i5 s i hi) (by have:P.c.nu<(insG P.vs s i).h:=hh;omega),h.nt.i5,fun _ i _ hh=>by simp[ansB,begC]at hh,h.nt.m0,fun m hm hk=>(h.nt.m2 m hm hk).imp id fun q=>Alw.mono (c:={ P.c with st:=2,pos:=P.c.pos+1 }) rfl rfl (fun _=>rfl) (ha _ _ q),fun _ m hm hn=>absurd (h.nt.m0 m hm).2.1 (by have:P.c.nu<m.n:=hn;omega),h.nt.m6⟩,h.rc.ctl rfl fun x u q hx hq=>?_⟩;rcases hq with q1|⟨q1,_⟩
  ·exact .inl (Alw.mono (c:={ P.c with st:=2,pos:=P.c.pos+1 }) rfl rfl (fun _=>rfl) (ha _ _ q1))
  ·rw[hw]at q1;cases q1
 ·rw[if_neg hw];have hw':P.c.wk=false:=by simpa using hw
  obtain⟨e1,e2,e3,e4,e5,e6,e7,e8⟩:=zcg { P.c with st:=2 };have ew:(zat { P.c with st:=2 }).wk=false:=by rw[e3];exact hw'
  have ha:∀ s r,Alw X P.c s r->Alw X (zat { P.c with st:=2 }) s r:=fun s r q=>by
   rcases q with q|q
   ·left;rw[e2];exact q
   ·rw[hw']at q;exact absurd q.1 (by simp)
  refine⟨Shp.stop h.sh.len h.sh.tsk hp hpn h.sh.ba (.inr rfl) (fun q=>absurd q (by show ¬ P.c.wk=true;exact hw)),⟨fun s i hi=>ha _ _ (h.nt.i1 s i hi),fun q=>absurd q (by rw[ew];simp),fun s i hi=>by rw[e5];exact h.nt.i5 s i hi,fun q=>absurd q (by rw[ew];simp),fun m hm=>by rw[e5];exact h.nt.m0 m hm,fun m hm hk=>(h.nt.m2 m hm hk).imp id (ha _ _),fun q=>absurd q (by rw[ew];simp),h.nt.m6⟩,h.rc.ctl e6 fun x u q hx hq=>?_⟩;rcases hq with q1|q1
  ·exact .inl (ha _ _ q1)
  ·right;rw[e2,e7,e6];exact⟨ew,q1.2⟩
theorem Shp.been {vs:List SrvD}{c:CtlD}(h:Shp X vs c){s r:Int}(ha:Alw X c s r):∃ k,k<=X.n/\r=X.cfg k s/\(k=c.pos.toNat\/(c.wk=true/\k=aim c)):=by
 have h1:=h.p0;have h2:=h.pn;have h3:=h.st;rcases ha with q|q
 ·exact⟨_,by omega,q,.inl rfl⟩
 ·refine⟨aim c,?_,q.2,.inr ⟨q.1,rfl⟩⟩;rw[q.1]at h3;simp at h3;unfold aim;split<;>omega
theorem PInv.wrt (h:PInv X W P){t:Nat}{s i:Int}{sc da:ByteArray}(hi:hasB P.vs s i=true)(hw:W t s (insG P.vs s i).r ⟨sc,da,P.ti⟩):PInv X W (wrtP P t sc da):=by
 refine⟨h.sh,h.nt,?_⟩;have key:∀ (k:Nat) (T:TopD),(wrtP P t sc da).ts[k]?=some T->∃ T0,P.ts[k]?=some T0/\T.keep=T0.keep/\∀ x,x∈T.recs->x∈T0.recs\/(k=t/\x=⟨sc,da,P.ti⟩):=fun k T hT=>by
  unfold wrtP at hT;simp only[List.getElem?_modify]at hT;cases h0:P.ts[k]? with
  |none=>rw[h0]at hT;cases hT
  |some T0 =>
   rw[h0]at hT;simp at hT;subst hT;refine⟨T0,rfl,?_,fun x hx=>?_⟩
   ·split<;>rfl
   ·split at hx
    ·rename_i e;simp at hx;rcases hx with q|q
     ·exact .inl q
     ·exact .inr ⟨e.symm,q⟩
    ·exact .inl hx
 have ha:=h.nt.i1 s i hi;refine⟨fun k T hT=>?_,fun k T x hT hx=>?_,fun k T x hT hx=>?_⟩
 ·obtain⟨T0,h0,e,_⟩:=key k T hT;rw[e];exact h.rc.kp k T0 h0
 ·obtain⟨T0,h0,e,hm⟩:=key k T hT;rw[e];rcases hm x hx with q|⟨_,q⟩
  ·exact h.rc.ol k T0 x h0 q
  ·subst q;exact⟨xq _,fun q=>by show P.ti-P.ti<_;omega⟩
 ·obtain⟨T0,h0,e,hm⟩:=key k T hT;rw[e];rcases hm x hx with q|⟨q1,q⟩
  ·exact h.rc.ok k T0 x h0 q
  ·subst q;subst q1;refine⟨s,_,hw,fun _=>?_,fun _=>.inl ha⟩;obtain⟨k',h1,h2,_⟩:=h.sh.been ha;exact⟨k',h1,h2⟩
theorem PInv.read (h:PInv X W P){t:Nat}{T:TopD}{x:RecD}(hT:P.ts[t]?=some T)(hx:x∈T.recs){s i:Int}(hi:hasB P.vs s i=true) :
  ∃ u q,W t u q x/\((T.keep=0/\∃ k k',k<=X.n/\k'<=X.n/\q=X.cfg k u/\(insG P.vs s i).r=X.cfg k' s)\/∃ k k',k<=X.n/\k'<=X.n/\k<=k'+1/\k'<=k+1/\q=X.cfg k u/\(insG P.vs s i).r=X.cfg k' s):=by
 obtain⟨u,q,h1,h2,h3⟩:=h.rc.ok t T x hT hx;have h0:=(h.rc.kp t T hT).1;obtain⟨k',l1,l2,l3⟩:=h.sh.been (h.nt.i1 s i hi);have p0:=h.sh.p0;have hst:=h.sh.st;have ad:P.c.wk=true->aim P.c<=P.c.pos.toNat+1/\P.c.pos.toNat<=aim P.c+1:=fun hw=>by
  rw[hw]at hst;simp at hst;unfold aim;split<;>omega
 refine⟨u,q,h1,?_⟩;by_cases hk:T.keep=0
 ·obtain⟨k,h4,h5⟩:=h2 hk;exact .inl ⟨hk,k,k',h4,l1,h5,l2⟩
 ·right;rcases h3 (by omega)with q1|⟨q1,_,k,h4,h5,h6⟩
  ·obtain⟨k,h4,h5,h6⟩:=h.sh.been q1;refine⟨k,k',h4,l1,?_,?_,h5,l2⟩
   iterate 2
    ·rcases h6 with h6|h6<;>rcases l3 with l3|l3
     ·omega
     ·have:=ad l3.1;omega
     ·have:=ad h6.1;omega
     ·omega
  ·rcases l3 with l3|l3
   ·exact⟨k,k',h4,l1,by omega,by omega,h6,l2⟩
   ·rw[q1]at l3;exact absurd l3.1 (by simp)
end
section
open Go.RowKit
theorem zov {α:Type}{f:α->List Value}{k:Nat}(hf:∀ x,(f x).length=k)(l:List α):(l.flatMap f).length=l.length*k:=by
 induction l with
 |nil=>simp
 |cons a l ih=>rw[xh,xz,ih,hf,List.length_cons,xy];omega
theorem za2 {α:Type}{f:α->List Value}{k:Nat}(hf:∀ x,(f x).length=k){l:List α}{i:Nat}{x:α}(h:l[i]?=some x){j:Nat}(hj:j<k):(l.flatMap f)[i*k+j]?=(f x)[j]?:=by
 induction l generalizing i with
 |nil=>cases h
 |cons a l ih =>
  rw[xh];cases i with
  |zero=>simp at h;subst h;rw[qu,qv,List.getElem?_append_left (by rw[hf];exact hj)]
  |succ i =>
   rw[qe]at h;rw[List.getElem?_append_right (by rw[hf,xy];omega),hf,show (i+1)*k+j-k=i*k+j by rw[xy];omega];exact ih h
theorem zeh {α:Type}{f:α->List Value}{k:Nat}(hf:∀ x,(f x).length=k){l:List α}{i:Nat}{x y:α}(h:l[i]?=some x){j:Nat}{u:Value}(hj:j<k)(hy:f y=(f x).set j u):(l.flatMap f).set (i*k+j) u=(l.set i y).flatMap f:=by
 induction l generalizing i with
 |nil=>cases h
 |cons a l ih =>
  cases i with
  |zero =>
   simp at h;subst h;rw[List.set_cons_zero,xh,xh,hy,qu,qv,List.set_append_left _ _ (by rw[hf];exact hj)]
  |succ i =>
   rw[qe]at h;rw[List.set_cons_succ,xh,xh,List.set_append_right _ _ (by rw[hf,xy];omega),hf,show (i+1)*k+j-k=i*k+j by rw[xy];omega,ih h]
def msgF (m:MsgD):List Value:=[.int .i64 m.k,.int .i64 m.n,.int .i64 m.s,.int .i64 m.i,.int .i64 m.r]
def insF (x:InsD):List Value:=[.int .i64 x.r,.int .i64 x.h]
def recF (x:RecD):List Value:=[.string x.sc,.string x.da,.int .i64 x.ti]
def topF (q:Int×Value):List Value:=[.int .i64 q.1,q.2]
def Own (w:World)(L:Nat->Nat)(k:Nat)(e:TypeId)(size:Nat)(v:Value)(n:Nat)(xs:List Value):Prop:=w.ownsRow 0 e size v n xs/\∀ b,v.ownBlock=some b->L b=k
def Lab (w:World)(L L':Nat->Nat):Prop:=∀ b,b<w.heap.size->L' b=L b
theorem Lab.refl (w:World)(L:Nat->Nat):Lab w L L:=fun _ _=>rfl
theorem Lab.trans {w W:World}{L L' L'':Nat->Nat}(h:Lab w L L')(hs:w.heap.size<=W.heap.size)(k:Lab W L' L''):Lab w L L'':=fun b hb=>(k b (by omega)).trans (h b hb)
section
variable {S:Nat->Prop}{w W:World}{L L':Nat->Nat}{k size n:Nat}{e:TypeId}{v:Value}{xs:List Value}
theorem Chg.own {base:Nat}(hc:Chg S w W)(h:w.ownsRow base e size v n xs)(hS:∀ b,v.ownBlock=some b->¬ S b):W.ownsRow base e size v n xs:=by
 refine⟨h.1,h.2.imp id ?_⟩;rintro ⟨g,cap,cur,rfl,h1,h2,h3⟩;refine⟨g,cap,cur,rfl,h1,?_,h3⟩;rw[hc.block g (xo h g rfl).2 (hS g rfl)];exact h2
theorem Own.chg (h:Own w L k e size v n xs)(hc:Chg S w W)(hS:∀ b,L b=k->¬ S b):Own W L k e size v n xs:=⟨hc.own h.1 fun b hb=>hS b (h.2 b hb),h.2⟩
theorem Own.keep (h:Own w L k e size v n xs)(hb:Below w.heap.size w W):Own W L k e size v n xs:=⟨zas h.1 hb,h.2⟩
theorem Own.to (h:Own w L k e size v n xs)(hc:Chg S w W)(hS:∀ b,L b=k->¬ S b)(hL:Lab w L L'):Own W L' k e size v n xs:=⟨hc.own h.1 fun b hb=>hS b (h.2 b hb),fun b hb=>(hL b (xo h.1 b hb).2).trans (h.2 b hb)⟩
theorem Own.some (h:Own w L k e size v n xs)(hn:0<n):∃ g cap,v=.slice (.some ⟨g,0,none⟩) n cap/\L g=k/\n<=cap/\cap<=maxLen/\g<w.heap.size/\(∀ j u,xs[j]?=.some u->w.cell? ⟨g,j,none⟩=.some u)/\∀ j,w.frozen? ⟨g,j,none⟩=false:=by
 obtain⟨⟨h0,h1⟩,h2⟩:=h;rcases h1 with⟨_,h1⟩|⟨g,cap,cur,rfl,hb,hg,hc,hm,hs,ht⟩
 ·omega
 ·have ho:w.ownsRow 0 e size (.slice (.some ⟨g,0,none⟩) n cap) n xs:=⟨h0,.inr ⟨g,cap,cur,rfl,hb,hg,hc,hm,hs,ht⟩⟩;exact⟨g,cap,rfl,h2 g rfl,hc,hm,(xo ho g rfl).2,fun j u hu=>by
   rw[qx ho j (by have:=(xf.1 hu).1;omega)];exact hu,fun j=>qq ho j⟩
theorem Own.len (h:Own w L k e size v n xs):∃ a cap,v=.slice a n cap/\n<=cap/\cap<=maxLen:=by
 rcases h.1.2 with⟨rfl,rfl⟩|⟨g,cap,cur,rfl,hb,hg,hc,hm,_⟩
 ·exact⟨none,0,rfl,xj _,by unfold maxLen;omega⟩
 ·exact⟨_,cap,rfl,hc,hm⟩
end
def PinL (w:World)(L:Nat->Nat)(a:Option Addr)(ps:List PinD):Prop:=∀ j p,ps[j]?=some p->∃ b o,a=some ⟨b,o,none⟩/\L b=2/\w.cell? ⟨b,o+j*3,none⟩=some (.int .i64 p.t)/\w.cell? ⟨b,o+j*3+1,none⟩=some (.int .i64 p.w)/\w.cell? ⟨b,o+j*3+2,none⟩=some (.int .i64 p.r)
def RelL (w:World)(L:Nat->Nat)(v:Value)(rels:List (List PinD)):Prop:=∃ ra rc,v=.slice ra rels.length rc/\∀ i ps,rels[i]?=some ps->∃ b o pa pc,ra=some ⟨b,o,none⟩/\L b=2/\w.cell? ⟨b,o+i,none⟩=some (.slice pa ps.length pc)/\PinL w L pa ps
structure Sta (w:World)(L:Nat->Nat)(gt gv:Nat)(ts:List TskD)(sv:List (Value×Value))(rs:List (List (List PinD)))(s:Value)(ss:List ByteArray):Prop where
 lt:L gt=2
 tsk:TsksAt w gt ts
 lv:L gv=2
 sl:sv.length=rs.length
 srv:∀ (i:Nat) (q:Value×Value),sv[i]?=some q->w.cell? ⟨gv,i*2,none⟩=some q.1/\w.cell? ⟨gv,i*2+1,none⟩=some q.2
 rel:∀ (i:Nat) (q:Value×Value) (R:List (List PinD)),sv[i]?=some q->rs[i]?=some R->RelL w L q.2 R
 sch:∃ sa sc,s=.slice sa ss.length sc/\∀ i x,ss[i]?=some x->∃ b o,sa=some ⟨b,o,none⟩/\L b=2/\w.cell? ⟨b,o+i,none⟩=some (.string x)
theorem Sta.turn {w W:World}{L L':Nat->Nat}{gt gv:Nat}{ts:List TskD}{sv:List (Value×Value)}{rs:List (List (List PinD))}{s:Value}{ss:List ByteArray}(h:Sta w L gt gv ts sv rs s ss)(hgt:L' gt=2)(hgv:L' gv=2)
  (hc:∀ b o v,L b=2->w.cell? ⟨b,o,none⟩=some v->L' b=2/\W.cell? ⟨b,o,none⟩=some v):Sta W L' gt gv ts sv rs s ss:=by
 refine⟨hgt,fun i t hi=>?_,hgv,h.sl,fun i q hq=>?_,fun i q R hq hR=>?_,?_⟩
 ·obtain⟨a,b,c,d⟩:=h.tsk i t hi;exact⟨(hc _ _ _ h.lt a).2,(hc _ _ _ h.lt b).2,(hc _ _ _ h.lt c).2,(hc _ _ _ h.lt d).2⟩
 ·obtain⟨a,b⟩:=h.srv i q hq;exact⟨(hc _ _ _ h.lv a).2,(hc _ _ _ h.lv b).2⟩
 ·obtain⟨ra,rc,e,hr⟩:=h.rel i q R hq hR;refine⟨ra,rc,e,fun i ps hi=>?_⟩;obtain⟨b,o,pa,pc,h1,h2,h3,h4⟩:=hr i ps hi;refine⟨b,o,pa,pc,h1,(hc _ _ _ h2 h3).1,(hc _ _ _ h2 h3).2,fun j p hp=>?_⟩;obtain⟨b',o',k1,k2,k3,k4,k5⟩:=h4 j p hp;exact⟨b',o',k1,(hc _ _ _ k2 k3).1,(hc _ _ _ k2 k3).2,(hc _ _ _ k2 k4).2,(hc _ _ _ k2 k5).2⟩
 ·obtain⟨sa,sc,e,hs⟩:=h.sch;refine⟨sa,sc,e,fun i x hx=>?_⟩;obtain⟨b,o,k1,k2,k3⟩:=hs i x hx;exact⟨b,o,k1,(hc _ _ _ k2 k3).1,(hc _ _ _ k2 k3).2⟩
section
variable {S:Nat->Prop}{w W:World}{L L':Nat->Nat}{gt gv:Nat}{ts:List TskD}{sv:List (Value×Value)}{rs:List (List (List PinD))}{s:Value}{ss:List ByteArray}
theorem Sta.chg (h:Sta w L gt gv ts sv rs s ss)(hc:Chg S w W)(hS:∀ b,L b=2->¬ S b):Sta W L gt gv ts sv rs s ss :=
 h.turn h.lt h.lv fun b o v hb hv=>⟨hb,hc.cell (hS b hb) hv⟩
theorem Sta.to (h:Sta w L gt gv ts sv rs s ss)(hgt:gt<w.heap.size)(hgv:gv<w.heap.size)(hc:Chg S w W)(hS:∀ b,L b=2->¬ S b)(hL:Lab w L L'):Sta W L' gt gv ts sv rs s ss :=
 h.turn ((hL gt hgt).trans h.lt) ((hL gv hgv).trans h.lv) fun b o v hb hv=>⟨(hL b (zag hv)).trans hb,hc.cell (hS b hb) hv⟩
end
structure RunM (w:World)(L:Nat->Nat)(r:Nat)(P:zad)(gt tc:Nat)(m:Value)(gv vc:Nat)(t s:Value)(sv:List (Value×Value))(tv:List (Int×Value)):Prop where
 row:RowIs w r 149 (RunC P.ti (.slice (some ⟨gt,0,none⟩) P.c.ts.length tc) P.c m (.slice (some ⟨gv,0,none⟩) P.vs.length vc) t s)
 lr:L r=1
 fr:∀ b,w.heap.size<=b->L b=0
 gtl:gt<w.heap.size
 gvl:gv<w.heap.size
 vcl:P.vs.length<=vc
 sta:Sta w L gt gv P.c.ts sv (P.vs.map SrvD.rels) s P.ss
 msg:Own w L 3 100 5 m P.ms.length (P.ms.flatMap msgF)
 ins:∀ (i:Nat) (V:SrvD) (q:Value×Value),P.vs[i]?=some V->sv[i]?=some q->Own w L (10+2*i) 266 2 q.1 V.ins.length (V.ins.flatMap insF)
 top:Own w L 5 216 2 t P.ts.length (tv.flatMap topF)
 tk:tv.map Prod.fst=P.ts.map TopD.keep
 rcs:∀ (i:Nat) (T:TopD) (q:Int×Value),P.ts[i]?=some T->tv[i]?=some q->Own w L (11+2*i) 197 3 q.2 T.recs.length (T.recs.flatMap recF)
section
variable {S:Nat->Prop}{w W:World}{L L':Nat->Nat}{r:Nat}{P:zad}{gt tc:Nat}{m:Value}{gv vc:Nat}{t s:Value}{sv:List (Value×Value)}{tv:List (Int×Value)}
theorem RunM.keep (h:RunM w L r P gt tc m gv vc t s sv tv)(hb:Below w.heap.size w W):RunM W L r P gt tc m gv vc t s sv tv :=
 ⟨h.row.keep hb,h.lr,fun b hb'=>h.fr b (qi hb.size hb'),xe h.gtl hb.size,xe h.gvl hb.size,h.vcl,h.sta.chg (S:=fun _=>False) (Chg.of hb) (fun _ _ q=>q),h.msg.keep hb,fun i V q h1 h2=>(h.ins i V q h1 h2).keep hb,h.top.keep hb,h.tk,fun i T q h1 h2=>(h.rcs i T q h1 h2).keep hb⟩
theorem RunM.ctl (h:RunM w L r P gt tc m gv vc t s sv tv){c':CtlD}(hts:c'.ts=P.c.ts)(hc:Chg (·= r) w W)(hr:RowIs W r 149 (RunC P.ti (.slice (some ⟨gt,0,none⟩) c'.ts.length tc) c' m (.slice (some ⟨gv,0,none⟩) P.vs.length vc) t s)):RunM W L r { P with c:=c' } gt tc m gv vc t s sv tv:=by
 have key:∀ k,k≠1->∀ b,L b=k->¬ b=r:=fun k hk b hb e=>by subst e;rw[h.lr]at hb;omega
 refine⟨hr,h.lr,fun b hb'=>h.fr b (qi hc.size hb'),xe h.gtl hc.size,xe h.gvl hc.size,h.vcl,?_,h.msg.chg hc (key 3 (by omega)),fun i V q h1 h2=>(h.ins i V q h1 h2).chg hc (key _ (by omega)),h.top.chg hc (key 5 (by omega)),h.tk,fun i T q h1 h2=>(h.rcs i T q h1 h2).chg hc (key _ (by omega))⟩;show Sta W L gt gv c'.ts sv _ s P.ss;rw[hts];exact h.sta.chg hc (key 2 (by omega))
theorem RunM.mail (h:RunM w L r P gt tc m gv vc t s sv tv){ms':List MsgD}{m':Value}(hc:Chg (fun b=>L b=1\/L b=3) w W)(hL:Lab w L L')(hf:∀ b,W.heap.size<=b->L' b=0)(hr:RowIs W r 149 (RunC P.ti (.slice (some ⟨gt,0,none⟩) P.c.ts.length tc) P.c m' (.slice (some ⟨gv,0,none⟩) P.vs.length vc) t s))(hm:Own W L' 3 100 5 m' ms'.length (ms'.flatMap msgF)):RunM W L' r { P with ms:=ms' } gt tc m' gv vc t s sv tv :=
 ⟨hr,(hL r h.row.lt).trans h.lr,hf,xe h.gtl hc.size,xe h.gvl hc.size,h.vcl,h.sta.to h.gtl h.gvl hc (fun b hb=>by omega) hL,hm,fun i V q h1 h2=>(h.ins i V q h1 h2).to hc (fun b hb=>by omega) hL,h.top.to hc (fun b hb=>by omega) hL,h.tk,fun i T q h1 h2=>(h.rcs i T q h1 h2).to hc (fun b hb=>by omega) hL⟩
theorem RunM.out (h:RunM w L r P gt tc m gv vc t s sv tv)(hc:Chg S w W)(hS:∀ b,S b->L b=0):RunM W L r P gt tc m gv vc t s sv tv:=by
 have key:∀ k,k≠0->∀ b,L b=k->¬ S b:=fun k hk b hb hs=>by have:=hS b hs;omega
 exact⟨hc.row h.row (key 1 (by omega) r h.lr),h.lr,fun b hb'=>h.fr b (qi hc.size hb'),xe h.gtl hc.size,xe h.gvl hc.size,h.vcl,h.sta.chg hc (key 2 (by omega)),h.msg.chg hc (key 3 (by omega)),fun i V q h1 h2=>(h.ins i V q h1 h2).chg hc (key _ (by omega)),h.top.chg hc (key 5 (by omega)),h.tk,fun i T q h1 h2=>(h.rcs i T q h1 h2).chg hc (key _ (by omega))⟩
end
end
section
open Go.RowKit
variable {w:World}{L:Nat->Nat}{r:Nat}{P:zad}{gt tc:Nat}{m:Value}{gv vc:Nat}{t s:Value}{sv:List (Value×Value)}{tv:List (Int×Value)}
theorem box5 (w:World):RowIs (w.alloc (.cells #[.int .i64 0,.int .i64 0,.int .i64 0,.int .i64 0,.int .i64 0] 100)) w.heap.size 100 [.int .i64 0,.int .i64 0,.int .i64 0,.int .i64 0,.int .i64 0]:=zal _ _
theorem zl7 (k:Int)(hk:numB k P.ms.length=false)(h:RunM w L r P gt tc m gv vc t s sv tv):Calls Tryz.prog 121 #[.pointer (some ⟨r,0,none⟩),.int .i64 k] w fun e W=>e=.returned (.tuple #[.agg #[.int .i64 0,.int .i64 0,.int .i64 0,.int .i64 0,.int .i64 0],.bool false])/\Below w.heap.size w W:=by
 obtain⟨a,cap,rfl,hc1,hc2⟩:=h.msg.len;have k13:w.cell? ⟨r,13,none⟩=some (.slice a P.ms.length cap):=h.row.cell rfl;have lr:=h.row.lt;have hn:=fun W=>za5 k (P.ms.length:Int) W;rw[hk]at hn;clear h hk;generalize P.ms.length=n at *
 go_enter Tryz.func121,Tryz.ntmps121
 go_wp2_with (first|(go_at_call 178;refine(hn _).mono ?_;rintro e _ ⟨rfl,rfl⟩))
 exact bodyPost_ret (v:=.tuple #[.agg #[.int .i64 0,.int .i64 0,.int .i64 0,.int .i64 0,.int .i64 0],.bool false]) (by simp[results,Tryz.results121,go_sem]) rfl ⟨rfl,bel1 _ _⟩
theorem RunM.msg5 (h:RunM w L r P gt tc m gv vc t s sv tv){k:Nat}{x:MsgD}(hk:P.ms[k]?=some x):∃ g cap,m=.slice (some ⟨g,0,none⟩) P.ms.length cap/\g<w.heap.size/\L g=3/\w.cell? ⟨g,k*5,none⟩=some (.int .i64 x.k)/\w.cell? ⟨g,k*5+1,none⟩=some (.int .i64 x.n)/\w.cell? ⟨g,k*5+2,none⟩=some (.int .i64 x.s)/\w.cell? ⟨g,k*5+3,none⟩=some (.int .i64 x.i)/\w.cell? ⟨g,k*5+4,none⟩=some (.int .i64 x.r):=by
 have hlt:=(xf.1 hk).1;obtain⟨g,cap,rfl,hg,hc1,hc2,lg,hcell,_⟩:=h.msg.some (by omega);exact⟨g,cap,rfl,lg,hg,hcell (k*5+0) _ (za2 (f:=msgF) (fun _=>rfl) hk (by omega)),hcell (k*5+1) _ (za2 (f:=msgF) (fun _=>rfl) hk (by omega)),hcell (k*5+2) _ (za2 (f:=msgF) (fun _=>rfl) hk (by omega)),hcell (k*5+3) _ (za2 (f:=msgF) (fun _=>rfl) hk (by omega)),hcell (k*5+4) _ (za2 (f:=msgF) (fun _=>rfl) hk (by omega))⟩
theorem zl8 (k:Nat)(x:MsgD)(hk:P.ms[k]?=some x)(h:RunM w L r P gt tc m gv vc t s sv tv):Calls Tryz.prog 121 #[.pointer (some ⟨r,0,none⟩),.int .i64 k] w fun e W=>e=.returned (.tuple #[.agg #[.int .i64 x.k,.int .i64 x.n,.int .i64 x.s,.int .i64 x.i,.int .i64 x.r],.bool true])/\Below w.heap.size w W:=by
 have hlt:=(xf.1 hk).1;obtain⟨g,cap,rfl,lg,_,c0,c1,c2,c3,c4⟩:=h.msg5 hk;have k13:w.cell? ⟨r,13,none⟩=some (.slice (some ⟨g,0,none⟩) P.ms.length cap):=h.row.cell rfl;have lr:=h.row.lt;have hn:=fun W=>za5 k (P.ms.length:Int) W;rw[show numB (k:Int) (P.ms.length:Int)=true by unfold numB;simp;omega]at hn;have hx0:(0:Int)<=(k:Int):=by omega
 have hx1:(k:Int)<(P.ms.length:Int):=by omega
 obtain⟨xk,xn,xs,xi,xr⟩:=x;simp only at c0 c1 c2 c3 c4;clear h hk hlt;generalize P.ms.length=n at *
 go_enter Tryz.func121,Tryz.ntmps121
 go_wp2_with (first|(go_at_call 178;refine(hn _).mono ?_;rintro e _ ⟨rfl,rfl⟩))
 exact bodyPost_ret (v:=.tuple #[.agg #[.int .i64 xk,.int .i64 xn,.int .i64 xs,.int .i64 xi,.int .i64 xr],.bool true]) (by simp[results,Tryz.results121,go_sem]) rfl ⟨rfl,bel1 _ _⟩
theorem Tryz.infoMsgK:(Tryz.prog.info? 100).map (fun i=>(i.zero,i.size,i.bytes))=some (some (.agg #[.int .i64 0,.int .i64 0,.int .i64 0,.int .i64 0,.int .i64 0]),5,40):=by kernel_rfl
theorem zmd (x:MsgD)(hl:40<=P.ms.length)(h:RunM w L r P gt tc m gv vc t s sv tv):Calls Tryz.prog 122 #[.pointer (some ⟨r,0,none⟩),.agg #[.int .i64 x.k,.int .i64 x.n,.int .i64 x.s,.int .i64 x.i,.int .i64 x.r]] w fun e W=>e=.returned (.bool false)/\Below w.heap.size w W:=by
 obtain⟨a,cap,rfl,hc1,hc2⟩:=h.msg.len;have k13:w.cell? ⟨r,13,none⟩=some (.slice a P.ms.length cap):=h.row.cell rfl;have lr:=h.row.lt;clear h;generalize P.ms.length=n at *
 go_enter Tryz.func122,Tryz.ntmps122
 go_wp2_with fail
 go_ret;exact⟨rfl,bel1 _ _⟩
theorem yab7 (x:MsgD){W w6:World}{g1 cap1 z:Nat}(h:RunM w L r P gt tc m gv vc t s sv tv)(hb:Below w.heap.size w W)(hown:w6.ownsRow 0 100 5 (.slice (some ⟨g1,0,none⟩) (P.ms.length+1) cap1) (P.ms.length+1) (P.ms.flatMap msgF++msgF x))(hgrow:W.grownBy w6 m.ownBlock)(hat:m.ownBlock=some g1\/g1=z)(hz:w.heap.size<=z) :
  ∃ m' L',RunM (w6.setCell ⟨r,13,none⟩ (.slice (some ⟨g1,0,none⟩) (P.ms.length+1) cap1)) L' r { P with ms:=P.ms++[x] } gt tc m' gv vc t s sv tv/\Lab w L L'/\Chg (fun b=>L b=1\/L b=3) w (w6.setCell ⟨r,13,none⟩ (.slice (some ⟨g1,0,none⟩) (P.ms.length+1) cap1)):=by
 have hne:m.ownBlock≠some r:=fun e=>by have:=h.msg.2 r e;rw[h.lr]at this;omega
 have lr:=h.row.lt;have hg:g1≠r:=fun e=>by
  subst e;rcases hat with q|q
  ·exact hne q
  ·omega
 have hL:Lab w L (fun b=>if b=g1 then 3 else L b):=fun b hb=>by
  show (if b=g1 then 3 else L b)=L b;split
  ·rename_i e;subst e;rcases hat with q|q
   ·exact(h.msg.2 _ q).symm
   ·omega
  ·rfl
 have hc:Chg (fun b=>L b=1\/L b=3) w (w6.setCell ⟨r,13,none⟩ (.slice (some ⟨g1,0,none⟩) (P.ms.length+1) cap1)) :=
  ((Chg.of (S:=fun b=>L b=1\/L b=3) hb).grown hgrow (fun k hk=>.inl (.inr (h.msg.2 k hk)))).set (p:=⟨r,13,none⟩) (.inl (.inl h.lr)) _
 have hlt:=xo hown g1 rfl;refine⟨_,_,h.mail hc hL (fun b hb'=>?_) (((h.row.keep hb).grown hgrow hne).set 13 _) ⟨?_,fun b hb=>?_⟩,hL,hc⟩
 ·have hz1:w6.heap.size<=b:=by simpa[qp]using hb'
  have hz2:=hgrow.size;have hz3:=hb.size;show (if b=g1 then 3 else L b)=0;rw[if_neg (by omega)];exact h.fr b (by omega)
 ·rw[xz,xv];have hob:∀ b,(Value.slice (some ⟨g1,0,none⟩) (P.ms.length+1) cap1).ownBlock=some b->¬ b=r:=fun b hb e=>by
   have:g1=b:=by simpa[qo]using hb
   omega
  have:=((Chg.refl (·= r) w6).set (p:=⟨r,13,none⟩) (.inl rfl) (.slice (some ⟨g1,0,none⟩) (P.ms.length+1) cap1)).own hown hob;have e:[x].flatMap msgF=msgF x:=by simp
  rw[e];exact this
 ·have:g1=b:=by simpa[qo]using hb
  subst this;show (if g1=g1 then 3 else L g1)=3;rw[if_pos rfl]
theorem zme (x:MsgD)(hl:P.ms.length<40)(h:RunM w L r P gt tc m gv vc t s sv tv):Calls Tryz.prog 122 #[.pointer (some ⟨r,0,none⟩),.agg #[.int .i64 x.k,.int .i64 x.n,.int .i64 x.s,.int .i64 x.i,.int .i64 x.r]] w fun e W=>e=.returned (.bool true)/\∃ m' L',RunM W L' r { P with ms:=P.ms++[x] } gt tc m' gv vc t s sv tv/\Lab w L L'/\Chg (fun b=>L b=1\/L b=3) w W:=by
 obtain⟨iM,hiM,zM0,zM1,zM2⟩:=info_parts Tryz.infoMsgK;obtain⟨a,cap,hm,hc1,hc2⟩:=h.msg.len;have k13:w.cell? ⟨r,13,none⟩=some m:=h.row.cell rfl;have x13:=h.row.frozen 13;have k13s:w.cell? ⟨r,13,none⟩=some (.slice a P.ms.length cap):=by rw[<- hm];exact k13
 have lr:=h.row.lt;have H:=zaa h;have HO:=zaa h.msg.1;have hne:m.ownBlock≠some r:=fun e=>by have:=h.msg.2 r e;rw[h.lr]at this;omega
 clear h k13;obtain⟨n,hn⟩:∃ n,n=P.ms.length:=⟨_,rfl⟩;rw[<- hn]at HO hl k13s hm;subst hm;have HN:=zaa hn;clear hn;obtain⟨xk,xn,xs,xi,xr⟩:=x;have hnew:Hid (((w.alloc (.cells #[.int .i64 xk,.int .i64 xn,.int .i64 xs,.int .i64 xi,.int .i64 xr] 100)).alloc (.cells #[.int .i64 xk,.int .i64 xn,.int .i64 xs,.int .i64 xi,.int .i64 xr] 100)).heap[w.heap.size+1]?=some (.cells #[.int .i64 xk,.int .i64 xn,.int .i64 xs,.int .i64 xi,.int .i64 xr] 100)):=by
  have:=heap_alloc_new (w.alloc (.cells #[.int .i64 xk,.int .i64 xn,.int .i64 xs,.int .i64 xi,.int .i64 xr] 100)) (.cells #[.int .i64 xk,.int .i64 xn,.int .i64 xs,.int .i64 xi,.int .i64 xr] 100);rw[show (w.alloc (.cells #[.int .i64 xk,.int .i64 xn,.int .i64 xs,.int .i64 xi,.int .i64 xr] 100)).heap.size=w.heap.size+1 by simp]at this;exact this
 go_enter Tryz.func122,Tryz.ntmps122
 go_wp2_with fail
 go_region_law (first|(refine step_append_lies _ (by rfl) _ _ _ (by rfl) 0 100 iM _ 5 40 Tryz.underlying94 hiM zM0 zM1 zM2 rfl (by omega) (.slice a n cap) n _ (by rfl) (((HO.out.alloc _).alloc _).drew) ⟨w.heap.size+1,0,none⟩ 1 1 [.int .i64 xk,.int .i64 xn,.int .i64 xs,.int .i64 xi,.int .i64 xr] (by rfl) (by rfl) (xu hnew.out) (by simp[qf]) (by omega) (by unfold maxLen;omega) (by omega) (by simp) (w.heap.size+2) (by simp) ?_;intro g1 cap1 w6 hown1 hgrow1 hat1 hlt1;have R6:=zaa (((H.out.row.keep (bel1 w (.cells #[.int .i64 xk,.int .i64 xn,.int .i64 xs,.int .i64 xi,.int .i64 xr] 100))).keep (bel1 _ (.cells #[.int .i64 xk,.int .i64 xn,.int .i64 xs,.int .i64 xi,.int .i64 xr] 100))).drew.grown hgrow1 hne);have j13:w6.cell? ⟨r,13,none⟩=some (.slice a n cap):=(R6.out.cell rfl);have y13:=R6.out.frozen 13))
 all_goals
  go_wp2_with fail
  go_ret;refine⟨rfl,?_⟩;have hn:=HN.out;subst hn;exact yab7 ⟨xk,xn,xs,xi,xr⟩ H.out (thn3 (bel1 w (.cells #[.int .i64 xk,.int .i64 xn,.int .i64 xs,.int .i64 xi,.int .i64 xr] 100)) (bel1 _ (.cells #[.int .i64 xk,.int .i64 xn,.int .i64 xs,.int .i64 xi,.int .i64 xr] 100))).drew hown1 hgrow1 hat1 (by omega)
end
section
open Go.RowKit
theorem nw2 (w:World)(o p:Obj):((w.alloc o).alloc p).heap[w.heap.size+1]?=some p:=by
 have:=heap_alloc_new (w.alloc o) p;rw[show (w.alloc o).heap.size=w.heap.size+1 by simp]at this;exact this
theorem zh2 {α:Type}{f:α->List Value}{l:List α}{i:Nat}{x:α}(h:l[i]?=some x):(l.take (i+1)).flatMap f=(l.take i).flatMap f++f x:=by
 rw[qj,h,xv];simp
theorem Chg.set5 {S:Nat->Prop}{a w:World}(h:Chg S a w){z:Nat}(hz:S z\/a.heap.size<=z)(v0 v1 v2 v3 v4:Value):Chg S a (((((w.setCell ⟨z,0,none⟩ v0).setCell ⟨z,1,none⟩ v1).setCell ⟨z,2,none⟩ v2).setCell ⟨z,3,none⟩ v3).setCell ⟨z,4,none⟩ v4) :=
 ((((h.set (p:=⟨z,0,none⟩) hz v0).set (p:=⟨z,1,none⟩) hz v1).set (p:=⟨z,2,none⟩) hz v2).set (p:=⟨z,3,none⟩) hz v3).set (p:=⟨z,4,none⟩) hz v4
variable {w:World}{L:Nat->Nat}{r:Nat}{P:zad}{gt tc:Nat}{m:Value}{gv vc:Nat}{t s:Value}{sv:List (Value×Value)}{tv:List (Int×Value)}
theorem ztl (hl:P.ms.length<=40)(h:RunM w L r P gt tc m gv vc t s sv tv):Calls Tryz.prog 117 #[.pointer (some ⟨r,0,none⟩)] w fun e W=>∃ v,e=.returned v/\W.ownsRow w.heap.size 100 5 v P.ms.length (P.ms.flatMap msgF)/\Below w.heap.size w W:=by
 obtain⟨iM,hiM,zM0,zM1,zM2⟩:=info_parts Tryz.infoMsgK;obtain⟨a,cap,hm,hc1,hc2⟩:=h.msg.len;have k13:w.cell? ⟨r,13,none⟩=some (.slice a P.ms.length cap):=by rw[<- hm];exact h.row.cell rfl
 have lr:=h.row.lt;have H:=zaa h;clear h;obtain⟨n,hn⟩:∃ n,n=P.ms.length:=⟨_,rfl⟩;rw[<- hn]at k13 hm hl hc1 ⊢;subst hm;have HN:=zaa hn;clear hn;have O0:=zaa (qg (base:=w.heap.size) (e:=100) (size:=5) w #[] 0 (xj _) (by unfold maxLen;omega) rfl)
 go_enter Tryz.func117,Tryz.ntmps117
 go_wp2_with fail
 go_loopw [3,12] (fun vt vi wr=>∃ i:Nat,i<=n/\vi=.int .i64 i/\wr.ownsRow w.heap.size 100 5 vt i ((P.ms.take i).flatMap msgF)/\Below w.heap.size w wr) (fun _ i _=>n-(intOf i).toNat)
 case atStart=>exact⟨0,qn _,rfl,O0.out,bel1 _ _⟩
 case round =>
  obtain⟨i,hi,rfl,hown,hb⟩:=hrel
  rename World=>w5
  have HOWN:=zaa hown;have HB:=zaa hb;have zb:=hb.size;have hx0 := znn i;by_cases hlt:i<n
  ·obtain⟨x,hx⟩:∃ x,P.ms[i]?=some x:=⟨P.ms[i]'(by rw[<- HN.out];exact hlt),xp _⟩;obtain⟨g,cp,hsl,lg,_,c0,c1,c2,c3,c4⟩:=(H.out.keep hb).msg5 hx;have HF:=zaa (zh2 (f:=msgF) hx);rw[<- HN.out]at hsl;obtain⟨rfl,rfl⟩:a=some ⟨g,0,none⟩/\cap=cp:=by simpa using hsl
   obtain⟨xk,xn,xs,xi,xr⟩:=x;simp only at c0 c1 c2 c3 c4;have hx1:(i:Int)<(n:Int):=by omega
   have nsz:g≠w5.heap.size:=by omega
   clear hown hb hx hsl
   go_wp2_with (at_builtin;refine wpList_append_lies _ rfl _ _ _ rfl w.heap.size 100 iM _ 5 40 Tryz.underlying94 hiM zM0 zM1 zM2 rfl (by omega) u3 i _ rfl ((HOWN.out.alloc _).alloc _) ⟨w5.heap.size+1,0,none⟩ 1 1 [.int .i64 xk,.int .i64 xn,.int .i64 xs,.int .i64 xi,.int .i64 xr] rfl rfl (xu (nw2 _ _ _)) (by simp[qf]) (by omega) (by unfold maxLen;omega) (by omega) (by simp;omega) (w5.heap.size+2) (by simp) ?_;intro g2 cap2 w8 hown2 hgrow2 hat2 hlt2)
   go_roundw
   case rel =>
    refine⟨i+1,by omega,by go_num,by rw[HF.out];exact hown2,?_⟩;exact Below.grown ((HB.out.alloc (by omega) _).alloc (by simp;omega) _) hgrow2 (by simp;omega) (fun k hk=>(HOWN.out.lt k hk).1)
   case measure=>simp[intOf];omega
  ·obtain rfl:n=i:=by omega
   go_wp2_with fail
   go_ret;refine⟨_,rfl,?_,HB.out⟩;have:=HOWN.out;rw[HN.out,qk,<- HN.out]at this;exact this
theorem yadh {W:World}{base n:Nat}{v:Value}{ms':List MsgD}(h:RunM w L r P gt tc m gv vc t s sv tv)(hb:Below w.heap.size w W)(hn:n=ms'.length)(hown:W.ownsRow base 100 5 v n (ms'.flatMap msgF))(hz:w.heap.size<=base) :
  ∃ L',RunM (W.setCell ⟨r,13,none⟩ v) L' r { P with ms:=ms' } gt tc v gv vc t s sv tv/\Lab w L L'/\Chg (fun b=>L b=1\/L b=3) w (W.setCell ⟨r,13,none⟩ v)/\∀ b,b<base->L' b=L b:=by
 have lr:=h.row.lt;have hlt:=xo hown;have hg:∀ b,v.ownBlock=some b->¬ b=r:=fun b hb e=>by have:=(hlt b hb).1;omega
 have hL:∀ b,b<base->(if v.ownBlock=some b then 3 else L b)=L b:=fun b hb=>by
  rw[if_neg (fun e=>by have:=(hlt b e).1;omega)]
 have hc:Chg (fun b=>L b=1\/L b=3) w (W.setCell ⟨r,13,none⟩ v):=(Chg.of (S:=fun b=>L b=1\/L b=3) hb).set (p:=⟨r,13,none⟩) (.inl (.inl h.lr)) _;refine⟨fun b=>if v.ownBlock=some b then 3 else L b,h.mail hc (fun b hb=>hL b (by omega)) (fun b hb'=>?_) ((h.row.keep hb).set 13 _) ⟨?_,fun b hb=>if_pos hb⟩,fun b hb=>hL b (by omega),hc,hL⟩
 ·have hz1:W.heap.size<=b:=by simpa[qp]using hb'
  have hz3:=hb.size;show (if v.ownBlock=some b then 3 else L b)=0;rw[if_neg (fun e=>by have:=(hlt b e).2;omega)];exact h.fr b (by omega)
 ·have:=((Chg.refl (·= r) W).set (p:=⟨r,13,none⟩) (.inl rfl) v).own hown hg;rw[<- hn];exact this.mono (qn _)
theorem zww {l:List MsgD}{i k:Nat}{x:MsgD}(h:l[i]?=some x):(l.take (i+1)).eraseIdx k=if i=k then (l.take i).eraseIdx k else (l.take i).eraseIdx k++[x]:=by
 have hlt:=(xf.1 h).1;have hl:(l.take i).length=i:=by rw[qm];omega
 rw[qj,h];show (l.take i++[x]).eraseIdx k=_;by_cases h1:i=k
 ·subst h1;have e2:(l.take i).eraseIdx i=l.take i:=xm (by omega);rw[if_pos rfl,List.eraseIdx_append_of_length_le (by omega),hl,Nat.sub_self,e2];simp
 ·rw[if_neg h1];by_cases h2:k<i
  ·rw[List.eraseIdx_append_of_lt_length (by omega)]
  ·rw[xm (by simp;omega),xm (by omega)]
theorem zmh (k:Int)(hk:numB k P.ms.length=false)(h:RunM w L r P gt tc m gv vc t s sv tv):Calls Tryz.prog 119 #[.pointer (some ⟨r,0,none⟩),.int .i64 k] w fun e W=>e=.returned (.tuple #[.agg #[.int .i64 0,.int .i64 0,.int .i64 0,.int .i64 0,.int .i64 0],.bool false])/\Below w.heap.size w W:=by
 have c1:=fun (W:World) (hb:Below w.heap.size w W)=>zl7 k hk (h.keep hb);have lr:=h.row.lt;clear h hk
 go_enter Tryz.func119,Tryz.ntmps119
 go_wp2_with (first|(go_at_call 121;refine(c1 _ (bel1 _ _)).mono ?_;rintro e w1 ⟨rfl,hb1⟩;have B1:=thn3 (bel1 w _) hb1;have Z1:=zaa (((box5 w).keep hb1).keep (bel1 w1 (.cells #[.int .i64 0,.int .i64 0,.int .i64 0,.int .i64 0,.int .i64 0] 100)));have y0:=Z1.out.cell (j:=0) rfl;have y1:=Z1.out.cell (j:=1) rfl;have y2:=Z1.out.cell (j:=2) rfl;have y3:=Z1.out.cell (j:=3) rfl;have y4:=Z1.out.cell (j:=4) rfl;have f0:=Z1.out.frozen 0;have f1:=Z1.out.frozen 1;have f2:=Z1.out.frozen 2;have f3:=Z1.out.frozen 3;have f4:=Z1.out.frozen 4;have zb:=B1.size))
 have Z3:=((((Z1.out.set 0 (.int .i64 0)).set 1 (.int .i64 0)).set 2 (.int .i64 0)).set 3 (.int .i64 0)).set 4 (.int .i64 0);have o0:=Z3.cell (j:=0) rfl;have o1:=Z3.cell (j:=1) rfl;have o2:=Z3.cell (j:=2) rfl;have o3:=Z3.cell (j:=3) rfl;have o4:=Z3.cell (j:=4) rfl;refine bodyPost_ret (v:=.tuple #[.agg #[.int .i64 0,.int .i64 0,.int .i64 0,.int .i64 0,.int .i64 0],.bool false]) (by simp[results,Tryz.results119,go_sem,o0,o1,o2,o3,o4]) rfl ⟨rfl,?_⟩;exact(((((thn3 B1 (bel1 _ _)).setCell (p:=⟨w.heap.size,0,none⟩) (xj _) _).setCell (p:=⟨w.heap.size,1,none⟩) (xj _) _).setCell (p:=⟨w.heap.size,2,none⟩) (xj _) _).setCell (p:=⟨w.heap.size,3,none⟩) (xj _) _).setCell (p:=⟨w.heap.size,4,none⟩) (xj _) _
theorem zmi (k:Nat)(y:MsgD)(hl:P.ms.length<=40)(hk:P.ms[k]?=some y)(h:RunM w L r P gt tc m gv vc t s sv tv):Calls Tryz.prog 119 #[.pointer (some ⟨r,0,none⟩),.int .i64 k] w fun e W=>e=.returned (.tuple #[.agg #[.int .i64 y.k,.int .i64 y.n,.int .i64 y.s,.int .i64 y.i,.int .i64 y.r],.bool true])/\∃ m' L',RunM W L' r { P with ms:=P.ms.eraseIdx k } gt tc m' gv vc t s sv tv/\Lab w L L'/\Chg (fun b=>L b=1\/L b=3) w W:=by
 have c1:=fun (W:World) (hb:Below w.heap.size w W)=>zl8 k y hk (h.keep hb);obtain⟨iM,hiM,zM0,zM1,zM2⟩:=info_parts Tryz.infoMsgK;obtain⟨a,cap,hm,hc1,hc2⟩:=h.msg.len;have lr:=h.row.lt;have H:=zaa h;have hkl:=(xf.1 hk).1;have hk13:=fun (W:World) (hb:Below w.heap.size w W)=>(show W.cell? ⟨r,13,none⟩=some m from(h.row.keep hb).cell rfl);have hf13:=fun (W:World) (hb:Below w.heap.size w W)=>(h.row.keep hb).frozen 13;clear h hk;obtain⟨n,hn⟩:∃ n,n=P.ms.length:=⟨_,rfl⟩;rw[<- hn]at hm hl hc1 hkl;subst hm;have HN:=zaa hn;clear hn;obtain⟨yk,yn,ys,yi,yr⟩:=y;simp only at c1 ⊢
 go_enter Tryz.func119,Tryz.ntmps119
 go_wp2_with (first|(go_at_call 121;refine(c1 _ (bel1 _ _)).mono ?_;rintro e w1 ⟨rfl,hb1⟩;have B1:=zaa (thn3 (thn3 (bel1 w (.cells #[.int .i64 0,.int .i64 0,.int .i64 0,.int .i64 0,.int .i64 0] 100)) hb1) (bel1 w1 (.cells #[.int .i64 yk,.int .i64 yn,.int .i64 ys,.int .i64 yi,.int .i64 yr] 100)));have Z1:=zaa (((box5 w).keep hb1).keep (bel1 w1 (.cells #[.int .i64 yk,.int .i64 yn,.int .i64 ys,.int .i64 yi,.int .i64 yr] 100)));have T1:=zaa (show RowIs (w1.alloc (.cells #[.int .i64 yk,.int .i64 yn,.int .i64 ys,.int .i64 yi,.int .i64 yr] 100)) w1.heap.size 100 [.int .i64 yk,.int .i64 yn,.int .i64 ys,.int .i64 yi,.int .i64 yr]from zal _ _);have l1:w.heap.size<w1.heap.size:=(by have:=hb1.size;simp at this;omega);have k13:=hk13 _ (thn3 B1.out (bel1 _ (.cells #[] 100)));have O0:=zaa (qg (base:=w1.heap.size+1) (e:=100) (size:=5) (w1.alloc (.cells #[.int .i64 yk,.int .i64 yn,.int .i64 ys,.int .i64 yi,.int .i64 yr] 100)) #[] 0 (by simp) (by unfold maxLen;omega) rfl)))
 go_loopw [8,26] (fun vt vi wr=>∃ i:Nat,i<=n/\vi=.int .i64 i/\wr.ownsRow (w1.heap.size+1) 100 5 vt ((P.ms.take i).eraseIdx k).length (((P.ms.take i).eraseIdx k).flatMap msgF)/\Below (w1.heap.size+1) (w1.alloc (.cells #[.int .i64 yk,.int .i64 yn,.int .i64 ys,.int .i64 yi,.int .i64 yr] 100)) wr) (fun _ i _=>n-(intOf i).toNat)
 case atStart=>exact⟨0,qn _,rfl,by simpa using O0.out,(Below.refl _ _).alloc (by simp) _⟩
 case round =>
  obtain⟨i,hi,rfl,hown,hb⟩:=hrel
  rename World=>w5
  have HOWN:=zaa hown;have HB:=zaa hb;have zb:=hb.size;have hbw:Below w.heap.size w w5:=thn3 B1.out (hb.mono (by simp));have hx0 := znn i;have hll:((P.ms.take i).eraseIdx k).length<=40:=by
   have:=List.length_eraseIdx_le (P.ms.take i) k;rw[qm]at this;omega
  by_cases hlt:i<n
  ·obtain⟨x,hx⟩:∃ x,P.ms[i]?=some x:=⟨P.ms[i]'(by rw[<- HN.out];exact hlt),xp _⟩;obtain⟨g,cp,hsl,lg,_,c0,c1,c2,c3,c4⟩:=(H.out.keep hbw).msg5 hx;have HE:=zaa (zww (k:=k) hx);rw[<- HN.out]at hsl;obtain⟨rfl,rfl⟩:a=some ⟨g,0,none⟩/\cap=cp:=by simpa using hsl
   obtain⟨xk,xn,xs,xi,xr⟩:=x;simp only at c0 c1 c2 c3 c4;have hx1:(i:Int)<(n:Int):=by omega
   have nsz:g≠w5.heap.size:=by omega
   have hsz:w1.heap.size+1<=w5.heap.size:=by simp at zb;omega
   clear hown hb hx hsl hk13 hf13 zb;by_cases hik:i=k
   ·subst hik
    go_wp2_with fail
    go_roundw
    case rel =>
     refine⟨i+1,by omega,by go_num,by rw[HE.out,if_pos rfl];exact HOWN.out.alloc _,?_⟩;exact HB.out.alloc (by omega) _
    case measure=>simp[intOf];omega
   ·have hik':¬ ((i:Int)=(k:Int)):=by omega
    generalize hJ:((P.ms.take i).eraseIdx k).length=J at *
    go_wp2_with (at_builtin;refine wpList_append_lies _ rfl _ _ _ rfl (w1.heap.size+1) 100 iM _ 5 40 Tryz.underlying94 hiM zM0 zM1 zM2 rfl (by omega) u8 J _ rfl ((HOWN.out.alloc _).alloc _) ⟨w5.heap.size+1,0,none⟩ 1 1 [.int .i64 xk,.int .i64 xn,.int .i64 xs,.int .i64 xi,.int .i64 xr] rfl rfl (xu (nw2 _ _ _)) (by simp[qf]) (by omega) (by unfold maxLen;omega) (by omega) (by simp;omega) (w5.heap.size+2) (by simp) ?_;intro g2 cap2 w8 hown2 hgrow2 hat2 hlt2)
    go_roundw
    case rel =>
     refine⟨i+1,by omega,by go_num,?_,?_⟩
     ·rw[HE.out,if_neg hik,xz,hJ,xv];simpa[msgF]using hown2
     ·exact Below.grown ((HB.out.alloc (by omega) _).alloc (by simp;omega) _) hgrow2 (by simp;omega) (fun k hk=>(HOWN.out.lt k hk).1)
    case measure=>simp[intOf];omega
  ·obtain rfl:n=i:=by omega
   obtain⟨a',cap',hu⟩:∃ a' cap',u8=.slice a' ((P.ms.take n).eraseIdx k).length cap':=by
    rcases hown.2 with⟨h1,h2⟩|⟨g,cap',cur,h1,_⟩
    ·exact⟨none,0,by rw[h1,h2]⟩
    ·exact⟨_,cap',h1⟩
   have HE:Hid ((P.ms.take n).eraseIdx k=P.ms.eraseIdx k):=by show _=_;rw[HN.out,qk]
   have hT5:=zaa ((T1.out.keep (hb.mono (by simp))));have hYa:=zaa ((Z1.out.keep (hb.mono (by simp))));have k13':=hk13 _ hbw;have x13:=hf13 _ hbw;have n1:w1.heap.size≠r:=by omega
   have n2:w.heap.size≠r:=by omega
   have n3:w.heap.size≠w1.heap.size:=by omega
   generalize hJ:((P.ms.take n).eraseIdx k).length=J at *;subst hu;have T6:=zaa (hT5.out.setOther (p:=⟨r,13,none⟩) n1.symm (.slice a' J cap'));have Z6:=zaa (hYa.out.setOther (p:=⟨r,13,none⟩) n2.symm (.slice a' J cap'));have t0:=T6.out.cell (j:=0) rfl;have t1:=T6.out.cell (j:=1) rfl;have t2:=T6.out.cell (j:=2) rfl;have t3:=T6.out.cell (j:=3) rfl;have t4:=T6.out.cell (j:=4) rfl;have y0:=Z6.out.cell (j:=0) rfl;have y1:=Z6.out.cell (j:=1) rfl;have y2:=Z6.out.cell (j:=2) rfl;have y3:=Z6.out.cell (j:=3) rfl;have y4:=Z6.out.cell (j:=4) rfl;have f0:=Z6.out.frozen 0;have f1:=Z6.out.frozen 1;have f2:=Z6.out.frozen 2;have f3:=Z6.out.frozen 3;have f4:=Z6.out.frozen 4;clear hown hb hk13 hf13 hll zb
   go_wp2_with fail
   have Z7:=((((Z6.out.set 0 (.int .i64 yk)).set 1 (.int .i64 yn)).set 2 (.int .i64 ys)).set 3 (.int .i64 yi)).set 4 (.int .i64 yr);have o0:=Z7.cell (j:=0) rfl;have o1:=Z7.cell (j:=1) rfl;have o2:=Z7.cell (j:=2) rfl;have o3:=Z7.cell (j:=3) rfl;have o4:=Z7.cell (j:=4) rfl;refine bodyPost_ret (v:=.tuple #[.agg #[.int .i64 yk,.int .i64 yn,.int .i64 ys,.int .i64 yi,.int .i64 yr],.bool true]) (by simp[results,Tryz.results119,go_sem,o0,o1,o2,o3,o4]) rfl ⟨rfl,?_⟩;have ho:w5.ownsRow (w1.heap.size+1) 100 5 (.slice a' J cap') J ((P.ms.eraseIdx k).flatMap msgF):=by
    have:=HOWN.out;rw[HE.out]at this;exact this
   have hn':J=(P.ms.eraseIdx k).length:=by rw[<- HE.out];exact hJ.symm
   obtain⟨L',hM,hL,hC,hlow⟩:=yadh H.out hbw hn' ho (by omega);have hz0:L' w.heap.size=0:=by rw[hlow _ (by omega)];exact H.out.fr _ (xj _)
   have hX:=(Chg.refl (·= w.heap.size) (w5.setCell ⟨r,13,none⟩ (.slice a' J cap'))).set5 (z:=w.heap.size) (.inl rfl) (.int .i64 yk) (.int .i64 yn) (.int .i64 ys) (.int .i64 yi) (.int .i64 yr);exact⟨_,L',hM.out hX (fun b hb=>by rw[hb];exact hz0),hL,hC.set5 (.inr (xj _)) _ _ _ _ _⟩
end
end Go.Proofs.YtkkekopomiehlabGreatDoor
