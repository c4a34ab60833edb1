import Derived.Test.YtkkekopomiehlabGreatDoorESf15
set_option linter.unusedVariables false
set_option linter.unusedSimpArgs false
set_option maxHeartbeats 40000000
set_option maxRecDepth 4000
open List renaming all_eq_true->xe,getElem?_eq_some_iff->xf,mem_range->xg,getD_eq_getElem?_getD->xh,getElem?_eq_getElem->xm,mem_of_getElem?->xp,range->xq,getElem?_map->xu,replicate->qe,getElem?_set_self->qf,take_length->qi,length_map->qj,getElem?_of_mem->qo,take_add_one->qv,set_set->qx,getElem?_set->qy,foldl_append->q9,length_cons->ua,getD->uc,drop_length->ud,any_eq_true->ue,drop_zero->uh,all_cons->uj
open Int renaming toNat_natCast->xj,toNat_of_nonneg->xv,emod_nonneg->qk,le_refl->qp
open Bool renaming and_eq_true->xo,or_eq_true->qh,eq_iff_iff->qm,true_and->uk,not_true->ul,false_or->um
open Go.World.ownsRow renaming frozenAt->xy,stored->xz,lt->qg,cellAt->uq
open Nat renaming zero_le->qd,le_refl->qn,add_zero->uo
open Go.World renaming news_of_block->qq,ownsRow_made->qu
open Prod.mk renaming inj->uf
open Go.Value renaming oneCell'->ug
open Classical renaming byContradiction->ui
open Option.some renaming inj->ut
namespace Go.Proofs.YtkkekopomiehlabGreatDoor
section
open Go.RowKit
theorem yaad {ns nt:Nat}{ps:List PinD}(h:za7 ns nt ps=true):zfk ns nt ps:=fun p hp=>by
 unfold za7 at h;rw[xo,xe]at h;obtain⟨k,hk⟩:=qo hp;have hkl:=(xf.1 hk).1;have:=h.2 k (xg.2 hkl);unfold pinK at this;rw[hk]at this;simp only[xo]at this;have h1:=this.1;unfold pinB numB at h1;simp only[xo,qh,decide_eq_true_eq,beq_iff_eq]at h1;obtain⟨⟨a1,a2⟩,a3⟩:=h1;refine⟨a1,?_,?_,?_,?_⟩<;>omega
theorem zii {f:zac}(h:Ord f)(p:Nat):zfk f.ss.length f.ts.length (plOf f p):=by
 unfold plOf;split
 ·rename_i v hv;have hv':=(h.parts (xp hv)).2.2.2.2;rw[uc];cases hr:v.rels[p % 3]? with
  |none=>exact fun q hq=>by simp at hq
  |some ps=>exact yaad (hv' ps (xp hr))
 ·exact fun q hq=>by simp at hq
theorem znc {ss:List ByteArray}(h8:ss.length<=8){x y:Int}(hx:-1<=x/\x<ss.length)(hy:-1<=y/\y<ss.length):crB (za9 ss) x y=((decide (x<0)||decide (y<0))||tabI ss x.toNat y.toNat):=by
 unfold crB;by_cases h1:x=-1
 ·subst h1;simp
 by_cases h2:y=-1
 ·subst h2;simp
 have e1:(x == -1)=false:=by simp[h1]
 have e2:(y == -1)=false:=by simp[h2]
 have e3:numB x 8=true:=by unfold numB;simp;omega
 have e4:numB y 8=true:=by unfold numB;simp;omega
 have e5:decide (x<0)=false:=by simp;omega
 have e6:decide (y<0)=false:=by simp;omega
 rw[e1,e2,e3,e4,e5,e6,yac9 _ (by omega) (by omega)];simp
theorem zoz {ss:List ByteArray}{nt:Nat}(h8:ss.length<=8){p q:PinD}(hp:p.w<ss.length/\p.r<ss.length/\-1<=p.w/\-1<=p.r)(hq:q.w<ss.length/\q.r<ss.length/\-1<=q.w/\-1<=q.r):gaB (za9 ss) p q=(rdB ss p q&&rdB ss q p):=by
 unfold gaB rdB;rw[znc h8 ⟨hp.2.2.1,hp.1⟩ ⟨hq.2.2.2,hq.2.1⟩,znc h8 ⟨hq.2.2.1,hq.1⟩ ⟨hp.2.2.2,hp.2.1⟩]
theorem zhj {α:Type}{l:List α}{F G:α->Bool}(h:∀ x∈l,F x=G x):l.all F=l.all G:=by
 induction l with
 |nil=>rfl
 |cons a l ih=>rw[uj,uj,h a (by simp),ih (fun x hx=>h x (by simp[hx]))]
theorem zvj {ss:List ByteArray}{ts:List Int}(h8:ss.length<=8){ps qs:List PinD}(hp:zfk ss.length ts.length ps)(hq:zfk ss.length ts.length qs):cmpA (za9 ss) ps qs=metB ss ts false ps qs:=by
 unfold cmpA metB;refine zhj fun p hpm=>zhj fun q hqm=>?_;unfold cpA meB;rw[zoz (nt:=0) h8 (hp p hpm).2 (hq q hqm).2];simp
theorem zvk {ss:List ByteArray}{ts:List Int}(h8:ss.length<=8){ps qs:List PinD}(hp:zfk ss.length ts.length ps)(hq:zfk ss.length ts.length qs):cmpF (za9 ss) ts ps qs=metB ss ts true ps qs:=by
 unfold cmpF metB;refine zhj fun p hpm=>zhj fun q hqm=>?_;unfold cpF cpA meB;rw[zoz (nt:=0) h8 (hp p hpm).2 (hq q hqm).2];have:=(hp p hpm).1;rw[show numB p.t ts.length=true by unfold numB;simp;omega];rw[show (ts.getD p.t.toNat 0 != 0)=!(ts.getD p.t.toNat 0 == 0)from rfl];generalize (ts.getD p.t.toNat 0 == 0)=c;generalize (p.t != q.t)=a;generalize (rdB ss p q&&rdB ss q p)=b;cases a<;>cases b<;>cases c<;>rfl
def eB (f:zac)(x y:Nat):Bool:=metB f.ss f.ts false (plOf f x) (plOf f y)
def kB (f:zac)(x y:Nat):Bool:=metB f.ss f.ts true (plOf f x) (plOf f y)
theorem zf0 {f:zac}(h:Ord f){p q:Nat}(hp:p<9)(hq:q<9):((zai f).alg.getD p []).getD q false=eB f p q:=by
 rw[zvg f hp hq,zvj (ts:=f.ts) h.ss8 (zii h p) (zii h q)];rfl
theorem zke {f:zac}(h:Ord f){p q:Nat}(hp:p<9)(hq:q<9):((zai f).fev.getD p []).getD q false=kB f p q:=by
 rw[zvh f hp hq,zvk h.ss8 (zii h p) (zii h q)];rfl
def nowI (f:zac)(s:Nat):Int:=match f.vs[s]? with|some v=>v.now|none=>0
def mvAt (ms:List (Int×Int))(j:Nat):Int×Int:=ms.getD j (-1,0)
def rmB (f:zac)(ms:List (Int×Int))(j:Nat):Bool:=(numB (mvAt ms j).1 f.vs.length&&numB (mvAt ms j).2 (rlen f.vs (mvAt ms j).1.toNat))&&!(hasI (nowI f (mvAt ms j).1.toNat) ms (mvAt ms j).1 j == (mvAt ms j).2)
def plc (m:Int×Int):Nat:=m.1.toNat * 3+m.2.toNat
def hsP (f:zac)(ms:List (Int×Int))(j s:Nat):Nat:=s*3+(hasI (nowI f s) ms s j).toNat
def nwP (f:zac)(s:Nat):Nat:=s*3+(nowI f s).toNat
def rsB (f:zac)(ms:List (Int×Int))(j:Nat):Bool :=
 eB f (plc (mvAt ms j)) (plc (mvAt ms j))&&((xq f.vs.length).all fun s=>eB f (plc (mvAt ms j)) (hsP f ms j s))&&(((xq f.vs.length).all fun s=>kB f (plc (mvAt ms j)) (nwP f s))&&(xq j).all fun i=>kB f (plc (mvAt ms j)) (plc (mvAt ms i)))
def rndB (f:zac):Bool:=(xq f.vs.length).all fun s=>(xq f.vs.length).all fun t=>eB f (nwP f s) (nwP f t)
def rN (F:Nat->Bool):Nat->Nat->Nat
 |0,j=>j
 |n+1,j=>if F j=true then rN F n (j+1) else j
theorem yabl {vs:List SvcD}{s:Nat}{v:SvcD}(h:vs[s]?=some v):rlen vs s=v.rels.length:=by unfold rlen;rw[h]
theorem zib {f:zac}{s:Nat}{v:SvcD}(h:f.vs[s]?=some v):nowI f s=v.now:=by unfold nowI;rw[h]
theorem zg2 (f:zac)(x y:Nat)(hy:y<3):thB f (x*3+y)=(decide (x<f.vs.length)&&decide (y<rlen f.vs x)):=by
 unfold thB rlen;rw[show (x*3+y) / 3=x by omega,show (x*3+y) % 3=y by omega];cases h:f.vs[x]? with
 |none=>simp
 |some v=>have:=(xf.1 h).1;simp[this]
theorem zgi {f:zac}(p:Nat):fsB f p=(thB f p&&(nowI f (p / 3) == ((p % 3:Nat):Int))):=by
 unfold fsB thB nowI;cases h:f.vs[p / 3]? with
 |none=>simp
 |some v =>
  simp only;rw[show (((p % 3:Nat):Int) == v.now)=(v.now == ((p % 3:Nat):Int))from Bool.beq_comm]
theorem Ord.rl {f:zac}(h:Ord f){s:Nat}(hs:s<f.vs.length):1<=rlen f.vs s/\rlen f.vs s<=3/\0<=nowI f s/\nowI f s<rlen f.vs s:=by
 obtain⟨v,hv⟩:∃ v,f.vs[s]?=some v:=⟨f.vs[s],xm hs⟩;have:=h.parts (xp hv);rw[yabl hv,zib hv];exact⟨this.1,this.2.1,this.2.2.1.1,this.2.2.1.2⟩
structure St (f:zac)(ms:List (Int×Int))(j:Nat)(S:SiD):Prop where
 ok:S.ok
 has:∀ p,p<9->S.has.getD p false=(thB f p&&(hasI (nowI f (p / 3)) ms ((p / 3:Nat):Int) j == ((p % 3:Nat):Int)))
 had:∀ p,p<9->S.had.getD p false=(fsB f p||(xq j).any fun i=>plc (mvAt ms i) == p)
theorem St.zero {f:zac}{ms:List (Int×Int)}:St f ms 0 (begD (zai f)):=by
 refine⟨zd1 (zf9 f),fun p hp=>?_,fun p hp=>?_⟩
 ·show (zai f).fst.getD p false=_;rw[zfc f hp,zgi];rfl
 ·show (zai f).fst.getD p false=_;rw[zfc f hp];simp
theorem ze3 {f:zac}{ms:List (Int×Int)}{j:Nat}(ho:Ord f)(h:rmB f ms j=true):∃ x y:Nat,mvAt ms j=(((x:Nat):Int),((y:Nat):Int))/\x<f.vs.length/\y<rlen f.vs x/\x<3/\y<3/\hasI (nowI f x) ms x j≠y:=by
 unfold rmB numB at h;simp only[xo,decide_eq_true_eq,Bool.not_eq_true']at h;obtain⟨⟨⟨a1,a2⟩,a3,a4⟩,a5⟩:=h;have h3:=ho.vs3;have hr:=(ho.rl (s:=(mvAt ms j).1.toNat) (by omega)).2.1;refine⟨(mvAt ms j).1.toNat,(mvAt ms j).2.toNat,?_,by omega,by omega,by omega,by omega,?_⟩
 ·rw[xv a1,xv a3]
 ·rw[xv a1,xv a3];intro hc;rw[hc]at a5;simp at a5
theorem zk5 {x y:Nat}(hx:x<3)(hy:y<3):plI (x:Int) (y:Int)=((x*3+y:Nat):Int):=by
 unfold plI;rw[show numB (x:Int) 3=true by unfold numB;simp;omega,show numB (y:Int) 3=true by unfold numB;simp;omega];simp
theorem zo1 {l:List Bool}{i p:Nat}{b:Bool}(hi:i<l.length):(l.set i b).getD p false=if i=p then b else l.getD p false:=by
 rw[uc,qy];by_cases h:i=p
 ·rw[if_pos h,if_pos hi,if_pos h];rfl
 ·rw[if_neg h,if_neg h];rfl
theorem zgj {now:Int}{ms:List (Int×Int)}{s:Int}{j:Nat}:hasI now ms s (j+1)=if (mvAt ms j).1=s then (mvAt ms j).2 else hasI now ms s j:=rfl
theorem St.step {f:zac}{ms:List (Int×Int)}{j:Nat}{S:SiD}(ho:Ord f)(h:St f ms j S)(hm:rmB f ms j=true):St f ms (j+1) (aft S (plI (mvAt ms j).1 (mvAt ms j).2)):=by
 obtain⟨x,y,hxy,hx,hy,hx3,hy3,hne⟩:=ze3 ho hm;rw[hxy];simp only;rw[zk5 hx3 hy3];refine⟨zfz h.ok _,fun p hp=>?_,fun p hp=>?_⟩
 ·unfold aft;rw[if_pos (by omega),xj];unfold aftD;simp only;rw[zo1 (by simp;omega),ze4 _ _ hp,zgj,hxy];simp only;by_cases h1:p / 3=x
  ·rw[if_pos (show ((x:Nat):Int)=((p / 3:Nat):Int) by omega)];by_cases h2:x*3+y=p
   ·rw[if_pos h2,<- h2,zg2 f x y hy3,show (x*3+y) % 3=y by omega];simp[hx,hy]
   ·rw[if_neg h2,if_pos (by omega),show (((y:Nat):Int) == ((p % 3:Nat):Int))=false by simp;omega];simp
  ·rw[if_neg (by omega),if_neg (by omega),if_neg (by omega)];exact h.has p hp
 ·unfold aft;rw[if_pos (by omega),xj];unfold aftD;simp only;rw[zo1 (by rw[h.ok.2];omega),List.range_succ,List.any_append,h.had p hp,show ([j].any fun i=>plc (mvAt ms i) == p)=(x*3+y == p) by simp[plc,hxy]];by_cases h2:x*3+y=p
  ·rw[if_pos h2];simp[h2]
  ·rw[if_neg h2];rw[show (x*3+y == p)=false by simp[h2]];rw[Bool.or_false]
theorem zo2 {f:zac}{ms:List (Int×Int)}(ho:Ord f){s:Nat}(hs:s<f.vs.length):∀ j,(∀ i,i<j->rmB f ms i=true)->0<=hasI (nowI f s) ms s j/\hasI (nowI f s) ms s j<rlen f.vs s
 |0,_=>(ho.rl hs).2.2
 |j+1,h=>by
  rw[zgj];obtain⟨x,y,hxy,hx,hy,_⟩:=ze3 ho (h j (by omega));rw[hxy];simp only;by_cases hc:((x:Nat):Int)=(s:Int)
  ·rw[if_pos hc];obtain rfl:x=s:=by omega
   omega
  ·rw[if_neg hc];exact zo2 ho hs j (fun i hi=>h i (by omega))
theorem zyg {f:zac}{ms:List (Int×Int)}{j:Nat}{S:SiD}(ho:Ord f)(h:St f ms j S):mvB (zai f) S (plI (mvAt ms j).1 (mvAt ms j).2)=rmB f ms j:=by
 have h3:=ho.vs3;by_cases hin:(0<=(mvAt ms j).1/\(mvAt ms j).1<3)/\0<=(mvAt ms j).2/\(mvAt ms j).2<3
 ·obtain⟨x,hx⟩:∃ x:Nat,(mvAt ms j).1=x:=⟨(mvAt ms j).1.toNat,by omega⟩;obtain⟨y,hy⟩:∃ y:Nat,(mvAt ms j).2=y:=⟨(mvAt ms j).2.toNat,by omega⟩;unfold mvB rmB;rw[hx,hy]at hin ⊢;rw[zk5 (by omega) (by omega),xj,xj,zvi f (by omega),h.has _ (by omega),zg2 f x y (by omega),show (x*3+y) / 3=x by omega,show (x*3+y) % 3=y by omega];rw[show numB ((x*3+y:Nat):Int) 9=true by unfold numB;simp;omega,show numB (x:Int) f.vs.length=decide (x<f.vs.length) by unfold numB;simp,show numB (y:Int) (rlen f.vs x)=decide (y<rlen f.vs x) by unfold numB;simp];cases decide (x<f.vs.length)<;>cases decide (y<rlen f.vs x)<;>simp
 ·have e1:plI (mvAt ms j).1 (mvAt ms j).2=-1:=by
   unfold plI;rw[if_neg];unfold numB;simp only[xo,decide_eq_true_eq];exact hin
  rw[e1];have e2:mvB (zai f) S (-1)=false:=by unfold mvB numB;simp
  rw[e2];cases hr:rmB f ms j with
  |false=>rfl
  |true =>
   exfalso;obtain⟨x,y,hxy,_,_,hx3,hy3,_⟩:=ze3 ho hr;rw[hxy]at hin;simp only at hin;omega
theorem zpm {c:ChD}{S:SiD}{ms:List (Int×Int)}{j:Nat}(hj:j<ms.length):ms.drop j=mvAt ms j::ms.drop (j+1):=by
 rw[List.drop_eq_getElem_cons hj];simp[mvAt,uc,xm hj]
theorem zpn {f:zac}{ms:List (Int×Int)}(ho:Ord f):∀ (n j:Nat) (S:SiD),n=ms.length-j->j<=ms.length->St f ms j S->(∀ i,i<j->rmB f ms i=true)->mvsB (zai f) S (ms.drop j)=(xq ms.length).all (rmB f ms)
 |0,j,S,hn,hj,hS,hall=>by
  obtain rfl:j=ms.length:=by omega
  rw[ud,mvsB,eq_comm,xe];exact fun i hi=>hall i (xg.1 hi)
 |n+1,j,S,hn,hj,hS,hall=>by
  rw[zpm (c:=zai f) (S:=S) (by omega),mvsB,zyg ho hS];cases hr:rmB f ms j with
  |false=>rw[Bool.false_and];exact(zjk (show j<ms.length by omega) hr).symm
  |true =>
   rw[uk];exact zpn ho n (j+1) _ (by omega) (by omega) (hS.step ho hr) (fun i hi=>by
    rcases Nat.lt_succ_iff_lt_or_eq.1 hi with h|h
    ·exact hall i h
    ·rw[h];exact hr)
theorem yacf {f:zac}{ms:List (Int×Int)}{j:Nat}{S:SiD}(ho:Ord f)(h:St f ms j S)(hall:∀ i,i<j->rmB f ms i=true)(hm:rmB f ms j=true):sfB (zai f) S (plI (mvAt ms j).1 (mvAt ms j).2)=rsB f ms j:=by
 obtain⟨x,y,hxy,hx,hy,hx3,hy3,hne⟩:=ze3 ho hm;have h3:=ho.vs3;have hp9:x*3+y<9:=by omega
 have hpl:plc (mvAt ms j)=x*3+y:=by rw[hxy];simp[plc]
 unfold sfB rsB;rw[hpl,hxy];simp only;rw[zk5 hx3 hy3,xj,zf0 ho hp9 hp9,show numB ((x*3+y:Nat):Int) 9=true by unfold numB;simp;omega,uk];have e1:algB S.has ((zai f).alg.getD (x*3+y) [])=(xq f.vs.length).all fun s=>eB f (x*3+y) (hsP f ms j s):=by
  rw[qm];unfold algB;rw[xe,xe];constructor
  ·intro H s hs;have hs:=xg.1 hs;have hin:=zo2 (ms:=ms) ho hs j hall;have hr:=ho.rl hs;have hlt:hsP f ms j s<9:=by unfold hsP;omega
   have:=H (hsP f ms j s) (xg.2 hlt);rw[h.has _ hlt,zf0 ho hp9 hlt]at this;have e:hsP f ms j s=s*3+(hasI (nowI f s) ms s j).toNat:=rfl;rw[e,zg2 f s _ (by omega),show (s*3+(hasI (nowI f s) ms s j).toNat) / 3=s by omega,show (s*3+(hasI (nowI f s) ms s j).toNat) % 3=(hasI (nowI f s) ms s j).toNat by omega]at this;rw[show decide (s<f.vs.length)=true by simp[hs],show decide ((hasI (nowI f s) ms s j).toNat<rlen f.vs s)=true by simp;omega,show (hasI (nowI f s) ms s j == (((hasI (nowI f s) ms s j).toNat:Nat):Int))=true by simp;omega]at this;show eB f (x*3+y) (s*3+(hasI (nowI f s) ms s j).toNat)=true;simpa using this
  ·intro H p hp;have hp:=xg.1 hp;rw[h.has _ hp,zf0 ho hp9 hp];cases ht:thB f p with
   |false=>simp
   |true =>
    obtain⟨v,hv,hr⟩:=zlt ht;have hs:=(xf.1 hv).1;by_cases hc:hasI (nowI f (p / 3)) ms ((p / 3:Nat):Int) j=((p % 3:Nat):Int)
    ·have:=H (p / 3) (xg.2 hs);unfold hsP at this;rw[hc,xj,show p / 3*3+p % 3=p by omega]at this;simp[this]
    ·rw[beq_false_of_ne hc];simp
 have e2:algB S.had ((zai f).fev.getD (x*3+y) [])=(((xq f.vs.length).all fun s=>kB f (x*3+y) (nwP f s))&&(xq j).all fun i=>kB f (x*3+y) (plc (mvAt ms i))):=by
  rw[qm];unfold algB;rw[xo,xe,xe,xe];constructor
  ·intro H;constructor
   ·intro s hs;have hs:=xg.1 hs;have hr:=ho.rl hs;have hlt:nwP f s<9:=by unfold nwP;omega
    have:=H (nwP f s) (xg.2 hlt);rw[h.had _ hlt,zke ho hp9 hlt]at this;have ef:fsB f (nwP f s)=true:=by
     have e:nwP f s=s*3+(nowI f s).toNat:=rfl;rw[zgi,e,zg2 f s _ (by omega),show (s*3+(nowI f s).toNat) / 3=s by omega,show (s*3+(nowI f s).toNat) % 3=(nowI f s).toNat by omega];rw[show decide (s<f.vs.length)=true by simp[hs],show decide ((nowI f s).toNat<rlen f.vs s)=true by simp;omega,show (nowI f s == (((nowI f s).toNat:Nat):Int))=true by simp;omega];rfl
    rw[ef]at this;simpa using this
   ·intro i hi;have hi:=xg.1 hi;obtain⟨x',y',hxy',hx',hy',hx3',hy3',_⟩:=ze3 ho (hall i hi);have hpl':plc (mvAt ms i)=x'*3+y':=by rw[hxy'];simp[plc]
    have hlt:plc (mvAt ms i)<9:=by omega
    have:=H (plc (mvAt ms i)) (xg.2 hlt);rw[h.had _ hlt,zke ho hp9 hlt]at this;have ea:((xq j).any fun k=>plc (mvAt ms k) == plc (mvAt ms i))=true:=by
     rw[ue];exact⟨i,xg.2 hi,by simp⟩
    rw[ea]at this;simpa using this
  ·rintro ⟨H1,H2⟩ p hp;have hp:=xg.1 hp;rw[h.had _ hp,zke ho hp9 hp];cases hf:fsB f p with
   |true =>
    rw[zgi,xo]at hf;obtain⟨v,hv,hr⟩:=zlt hf.1;have hs:=(xf.1 hv).1;have hn:nowI f (p / 3)=((p % 3:Nat):Int):=by simpa using hf.2
    have:=H1 (p / 3) (xg.2 hs);unfold nwP at this;rw[hn,xj,show p / 3*3+p % 3=p by omega]at this;simp[this]
   |false =>
    cases ha:(xq j).any fun i=>plc (mvAt ms i) == p with
    |false=>simp
    |true =>
     rw[ue]at ha;obtain⟨i,hi,he⟩:=ha;have:=H2 i hi;rw[show plc (mvAt ms i)=p by simpa using he]at this;simp[this]
 rw[e1,e2]
theorem zrw {f:zac}{ms:List (Int×Int)}(ho:Ord f)(hv:∀ i,i<ms.length->rmB f ms i=true):∀ (n j:Nat) (S:SiD),n=ms.length-j->j<=ms.length->St f ms j S->sfN (zai f) S (ms.drop j)+j=rN (rsB f ms) n j
 |0,j,S,hn,hj,hS=>by
  obtain rfl:j=ms.length:=by omega
  rw[ud,sfN,rN];omega
 |n+1,j,S,hn,hj,hS=>by
  rw[zpm (c:=zai f) (S:=S) (by omega),sfN,rN,yacf ho hS (fun i hi=>hv i (by omega)) (hv j (by omega))];by_cases hr:rsB f ms j=true
  ·rw[if_pos hr,if_pos hr,<- zrw ho hv n (j+1) _ (by omega) (by omega) (hS.step ho (hv j (by omega)))];omega
  ·rw[if_neg hr,if_neg hr];omega
theorem yacm {f:zac}(ho:Ord f):sndB (zai f)=rndB f:=by
 have h3:=ho.vs3;rw[qm];unfold sndB rndB algB;rw[xe,xe];have hn:∀ s,s<f.vs.length->nwP f s<9/\fsB f (nwP f s)=true:=fun s hs=>by
  have hr:=ho.rl hs;refine⟨by unfold nwP;omega,?_⟩;have e:nwP f s=s*3+(nowI f s).toNat:=rfl;rw[zgi,e,zg2 f s _ (by omega),show (s*3+(nowI f s).toNat) / 3=s by omega,show (s*3+(nowI f s).toNat) % 3=(nowI f s).toNat by omega];rw[show decide (s<f.vs.length)=true by simp[hs],show decide ((nowI f s).toNat<rlen f.vs s)=true by simp;omega,show (nowI f s == (((nowI f s).toNat:Nat):Int))=true by simp;omega];rfl
 have hb:∀ p,p<9->fsB f p=true->∃ s,s<f.vs.length/\p=nwP f s:=fun p hp hf=>by
  rw[zgi,xo]at hf;obtain⟨v,hv,hr⟩:=zlt hf.1;have hs:=(xf.1 hv).1;have hn:nowI f (p / 3)=((p % 3:Nat):Int):=by simpa using hf.2
  refine⟨p / 3,hs,?_⟩;unfold nwP;rw[hn,xj];omega
 constructor
 ·intro H s hs;have hs:=xg.1 hs;rw[xe];intro t ht;have ht:=xg.1 ht;obtain⟨a1,a2⟩:=hn s hs;obtain⟨b1,b2⟩:=hn t ht;have:=H (nwP f s) (xg.2 a1);rw[zfc f a1,a2]at this;simp only[ul,um]at this;rw[xe]at this;have:=this (nwP f t) (xg.2 b1);rw[zfc f b1,b2,zf0 ho a1 b1]at this;simpa using this
 ·intro H p hp;have hp:=xg.1 hp;rw[zfc f hp];cases hf:fsB f p with
  |false=>simp
  |true =>
   obtain⟨s,hs,rfl⟩:=hb p hp hf;simp only[ul,um];rw[xe];intro q hq;have hq:=xg.1 hq;rw[zfc f hq,zf0 ho hp hq];cases hg:fsB f q with
   |false=>simp
   |true =>
    obtain⟨t,ht,rfl⟩:=hb q hq hg;have:=H s (xg.2 hs);rw[xe]at this;simp[this t (xg.2 ht)]
end
section
open Go.RowKit
theorem zia {ss:List ByteArray}{ts:List Int}{kept:Bool}{ps qs:List PinD}:metB ss ts kept ps qs=true↔∀ p∈ps,∀ q∈qs,p.t=q.t->(kept=true->ts.getD p.t.toNat 0=0)->rdB ss p q=true/\rdB ss q p=true:=by
 unfold metB;rw[xe];refine⟨fun h p hp q hq h1 h2=>?_,fun h p hp=>?_⟩
 ·have:=xe.1 (h p hp) q hq;unfold meB at this;simp only[qh,xo,bne_iff_ne,ne_eq]at this;rcases this with(h3|⟨h3,h4⟩)|h3
  ·exact(h3 h1).elim
  ·exact(h4 (h2 h3)).elim
  ·exact h3
 ·rw[xe];intro q hq;unfold meB;simp only[qh,xo,bne_iff_ne,ne_eq];by_cases h1:p.t=q.t
  ·by_cases h2:kept=true->ts.getD p.t.toNat 0=0
   ·exact .inr (h p hp q hq h1 h2)
   ·exact .inl (.inr ⟨ui fun h3=>h2 fun h4=>(h3 h4).elim,fun h3=>h2 fun _=>h3⟩)
  ·exact .inl (.inl h1)
theorem yaaz {ss:List ByteArray}{p q:PinD}:rdB ss p q=true↔(0<=p.w->0<=q.r->tabI ss p.w.toNat q.r.toNat=true):=by
 unfold rdB;simp only[qh,decide_eq_true_eq];constructor
 ·intro h h1 h2;rcases h with(h|h)|h
  iterate 2
   ·omega
  ·exact h
 ·intro h;by_cases h1:p.w<0
  ·exact .inl (.inl h1)
  ·by_cases h2:q.r<0
   ·exact .inl (.inr h2)
   ·exact .inr (h (by omega) (by omega))
end
section
open Go.RowKit
theorem zlh {f:zac}{ms:List (Int×Int)}(ho:Ord f)(hob:ordB f=true):zbd f ms=if ms.length<=200/\(xq ms.length).all (rmB f ms)=true then (if rndB f=true then (((rN (rsB f ms) ms.length 0:Nat):Int),(0:Int)) else (0,10)) else (0,9):=by
 unfold zbd;rw[if_pos hob];have h1:=zpn (ms:=ms) ho ms.length 0 _ (by omega) (qd _) St.zero (fun i hi=>by omega);rw[uh]at h1;have ham:amB (zai f) ms=true↔ms.length<=200/\(xq ms.length).all (rmB f ms)=true:=by
  unfold amB;rw[xo,decide_eq_true_eq,h1]
 by_cases hc:ms.length<=200/\(xq ms.length).all (rmB f ms)=true
 ·rw[if_pos hc,if_pos (ham.2 hc),yacm ho];have h2:=zrw (ms:=ms) ho (fun i hi=>xe.1 hc.2 i (xg.2 hi)) ms.length 0 _ (by omega) (qd _) St.zero;rw[uh,uo]at h2;rw[h2]
 ·rw[if_neg hc,if_neg (fun h=>hc (ham.1 h))]
theorem zq2 {F:Nat->Bool}:∀ n j,rN F n j=j+n->∀ i,j<=i->i<j+n->F i=true
 |0,j,_,i,h1,h2=>by omega
 |n+1,j,h,i,h1,h2=>by
  rw[rN]at h;by_cases e:F j=true
  ·rw[if_pos e]at h;by_cases e2:i=j
   ·rw[e2];exact e
   ·exact zq2 n (j+1) (by omega) i (by omega) (by omega)
  ·rw[if_neg e]at h;omega
structure Sfe (f:zac)(ms:List (Int×Int)):Prop where
 ob:ordB f=true
 l200:ms.length<=200
 rm:∀ j,j<ms.length->rmB f ms j=true
 rs:∀ j,j<ms.length->rsB f ms j=true
 rnd:rndB f=true
theorem zlm {f:zac}{ms:List (Int×Int)}(h:zbd f ms=((ms.length:Int),0)):Sfe f ms:=by
 have hob:ordB f=true:=by
  cases e:ordB f with
  |true=>rfl
  |false=>unfold zbd at h;rw[e]at h;simp at h
 rw[zlh (zb3 hob) hob]at h;split at h
 ·rename_i hc;split at h
  ·rename_i hr;have h1:rN (rsB f ms) ms.length 0=0+ms.length:=by
    have:=(uf h).1;omega
   exact⟨hob,hc.1,fun j hj=>xe.1 hc.2 j (xg.2 hj),fun j hj=>zq2 _ 0 h1 j (qd _) (by omega),hr⟩
  ·exact absurd (uf h).2 (by decide)
 ·exact absurd (uf h).2 (by decide)
theorem zrn {f:zac}{ms:List (Int×Int)}(h:Sfe f ms):zbd f ms=((ms.length:Int),0):=by
 rw[zlh (zb3 h.ob) h.ob,if_pos ⟨h.l200,xe.2 fun j hj=>h.rm j (xg.1 hj)⟩,if_pos h.rnd];have key:∀ n j,j+n<=ms.length->rN (rsB f ms) n j=j+n:=fun n=>by
  induction n with
  |zero=>intro j _;rfl
  |succ n ih=>intro j hj;rw[rN,if_pos (h.rs j (by omega)),ih (j+1) (by omega)];omega
 rw[key ms.length 0 (by omega),Nat.zero_add]
theorem zkq {ss:List ByteArray}{ts:List Int}{k:Bool}{ps qs:List PinD}(h:metB ss ts k ps qs=true):metB ss ts k qs ps=true:=by
 rw[zia]at h ⊢;exact fun q hq p hp e hk=>(h p hp q hq e.symm (by rw[<- e];exact hk)).symm
theorem zpg {ss:List ByteArray}{ts:List Int}{ps qs:List PinD}(h:metB ss ts false ps qs=true):metB ss ts true ps qs=true:=by
 rw[zia]at h ⊢;exact fun p hp q hq e _=>h p hp q hq e (fun h=>by cases h)
def zb8 (f:zac)(ms:List (Int×Int)):WayD:=⟨ms.length,fun k s=>hasI (nowI f s.toNat) ms s k⟩
theorem zh4 {f:zac}{ms:List (Int×Int)}{j s:Nat}:hsP f ms (j+1) s=if (mvAt ms j).1=(s:Int) then plc (mvAt ms j) else hsP f ms j s:=by
 unfold hsP;rw[zgj];split
 ·rename_i e;unfold plc;rw[e];rfl
 ·rfl
theorem Sfe.e {f:zac}{ms:List (Int×Int)}(h:Sfe f ms):∀ j,j<=ms.length->∀ s u,s<f.vs.length->u<f.vs.length->eB f (hsP f ms j s) (hsP f ms j u)=true
 |0,_,s,u,hs,hu=>xe.1 (xe.1 h.rnd s (xg.2 hs)) u (xg.2 hu)
 |j+1,hj,s,u,hs,hu=>by
  have hr:=h.rs j (by omega);unfold rsB at hr;simp only[xo]at hr;obtain⟨⟨h1,h2⟩,h3⟩:=hr;have h2':∀ s,s<f.vs.length->eB f (plc (mvAt ms j)) (hsP f ms j s)=true:=fun s hs=>xe.1 h2 s (xg.2 hs);have ih:=h.e j (by omega) s u hs hu;rw[zh4,zh4];split
  ·split
   ·exact h1
   ·exact h2' u hu
  ·split
   ·exact zkq (h2' s hs)
   ·exact ih
theorem Sfe.e1 {f:zac}{ms:List (Int×Int)}(h:Sfe f ms){j s u:Nat}(hj:j<ms.length)(hs:s<f.vs.length)(hu:u<f.vs.length):eB f (hsP f ms (j+1) s) (hsP f ms j u)=true:=by
 have hr:=h.rs j (by omega);unfold rsB at hr;simp only[xo]at hr;rw[zh4];split
 ·exact xe.1 hr.1.2 u (xg.2 hu)
 ·exact h.e j (by omega) s u hs hu
def Ben (f:zac)(ms:List (Int×Int))(j p:Nat):Prop:=(∃ s,s<f.vs.length/\p=nwP f s)\/∃ i,i<j/\p=plc (mvAt ms i)
theorem zjp {f:zac}{ms:List (Int×Int)}{s:Nat}(hs:s<f.vs.length):∀ j,Ben f ms j (hsP f ms j s)
 |0=>.inl ⟨s,hs,rfl⟩
 |j+1=>by
  rw[zh4];split
  ·exact .inr ⟨j,by omega,rfl⟩
  ·rcases zjp hs j with q|⟨i,q1,q2⟩
   ·exact .inl q
   ·exact .inr ⟨i,by omega,q2⟩
theorem Sfe.k {f:zac}{ms:List (Int×Int)}(h:Sfe f ms):∀ j,j<=ms.length->∀ p q,Ben f ms j p->Ben f ms j q->kB f p q=true
 |0,_,p,q,hp,hq=>by
  rcases hp with⟨s,hs,rfl⟩|⟨i,hi,_⟩
  ·rcases hq with⟨u,hu,rfl⟩|⟨i,hi,_⟩
   ·exact zpg (xe.1 (xe.1 h.rnd s (xg.2 hs)) u (xg.2 hu))
   ·omega
  ·omega
 |j+1,hj,p,q,hp,hq=>by
  have hr:=h.rs j (by omega);unfold rsB at hr;simp only[xo]at hr;obtain⟨⟨h1,h2⟩,h3,h4⟩:=hr;have part:∀ p,Ben f ms (j+1) p->Ben f ms j p\/p=plc (mvAt ms j):=fun p hp=>by
   rcases hp with q|⟨i,q1,q2⟩
   ·exact .inl (.inl q)
   ·by_cases e:i=j
    ·subst e;exact .inr q2
    ·exact .inl (.inr ⟨i,by omega,q2⟩)
  have key:∀ p,Ben f ms j p->kB f (plc (mvAt ms j)) p=true:=fun p hp=>by
   rcases hp with⟨s,hs,rfl⟩|⟨i,hi,rfl⟩
   ·exact xe.1 h3 s (xg.2 hs)
   ·exact xe.1 h4 i (xg.2 hi)
  rcases part p hp with q1|q1<;>rcases part q hq with q2|q2
  ·exact h.k j (by omega) p q q1 q2
  ·rw[q2];exact zkq (key p q1)
  ·rw[q1];exact key q q2
  ·rw[q1,q2];exact zpg h1
theorem Ben.mono {f:zac}{ms:List (Int×Int)}{i j p:Nat}(hij:i<=j)(h:Ben f ms i p):Ben f ms j p:=h.imp id fun ⟨k,h1,h2⟩=>⟨k,by omega,h2⟩
theorem Sfe.meet {f:zac}{ms:List (Int×Int)}(h:Sfe f ms){u s:Nat}(hu:u<f.vs.length)(hs:s<f.vs.length){k k':Nat}(hk:k<=ms.length)(hk':k'<=ms.length){t:Nat}
  (hm:(f.ts.getD t 0=0)\/(k<=k'+1/\k'<=k+1)) {p q:PinD} (hp:p∈plOf f (hsP f ms k u)) (hq:q∈plOf f (hsP f ms k' s)) (hpt:p.t=(t:Int)) (hqt:q.t=(t:Int)):rdB f.ss p q=true:=by
 rcases hm with hm|hm
 ·have:=h.k ms.length (qn _) _ _ ((zjp (ms:=ms) hu k).mono hk) ((zjp (ms:=ms) hs k').mono hk');unfold kB at this;rw[zia]at this;exact(this p hp q hq (by rw[hpt,hqt]) (fun _=>by rw[hpt];simpa using hm)).1
 ·have:eB f (hsP f ms k u) (hsP f ms k' s)=true:=by
   rcases Nat.lt_trichotomy k k' with e|e|e
   ·obtain rfl:k'=k+1:=by omega
    exact zkq (h.e1 (by omega) hs hu)
   ·subst e;exact h.e k hk u s hu hs
   ·obtain rfl:k=k'+1:=by omega
    exact h.e1 (by omega) hu hs
  unfold eB at this;rw[zia]at this;exact(this p hp q hq (by rw[hpt,hqt]) (fun h=>by cases h)).1
end
section
open Go.RowKit
def rstN (ts:List Int):Int:=ts.foldl (fun a k=>if a<k then k else a) 0
theorem zrl {ts:List Int}{j:Nat}{k:Int}(h:ts[j]?=some k):rstN (ts.take (j+1))=if rstN (ts.take j)<k then k else rstN (ts.take j):=by
 unfold rstN;rw[qv,h,q9];rfl
theorem yabo {ts:List Int}:∀ (j:Nat) (k:Int),ts[j]?=some k->k<=rstN ts:=by
 have key:∀ n,n<=ts.length->∀ j k,j<n->ts[j]?=some k->k<=rstN (ts.take n):=fun n=>by
  induction n with
  |zero=>intro _ j k hj;omega
  |succ n ih =>
   intro hn j k hj hk;obtain⟨x,hx⟩:∃ x,ts[n]?=some x:=⟨ts[n]'(by omega),xm _⟩;rw[zrl hx];by_cases e:j=n
   ·subst e;rw[hk]at hx;cases hx;split<;>omega
   ·have:=ih (by omega) j k (by omega) hk;split<;>omega
 intro j k hk;have:=key ts.length (qn _) j k (xf.1 hk).1 hk;rw[qi]at this;exact this
theorem yabp {ts:List Int}{M:Int}(hM:0<=M)(h:∀ k∈ts,k<=M):0<=rstN ts/\rstN ts<=M:=by
 unfold rstN;have key:∀ (l:List Int) (a:Int),0<=a->a<=M->(∀ k∈l,k<=M)->0<=l.foldl (fun a k=>if a<k then k else a) a/\l.foldl (fun a k=>if a<k then k else a) a<=M:=fun l=>by
  induction l with
  |nil=>exact fun a h0 h1 _=>⟨h0,h1⟩
  |cons x l ih =>
   intro a h0 h1 hl;rw[List.foldl_cons];have:=hl x (by simp);refine ih _ ?_ ?_ (fun k hk=>hl k (by simp[hk]))
   iterate 2
    ·split<;>omega
 exact key ts 0 (qp _) hM h
theorem yabk (ts:List Int)(w:World)(ta:Option Addr)(tc:Nat)(hl:ts.length<=4)(ht:IntsAt w ta ts):Calls Tryz.prog 200 #[.slice ta ts.length tc] w fun e W=>e=.returned (.int .i64 (rstN ts))/\Below w.heap.size w W:=by
 obtain⟨n,hn⟩:∃ n,n=ts.length:=⟨_,rfl⟩;rw[<- hn]at hl ⊢;have HN:=zaa hn;have HT:=zaa ht;clear hn ht;obtain⟨R,hR⟩:∃ R,R=rstN ts:=⟨_,rfl⟩;rw[<- hR];have HR:=zaa hR;clear hR
 go_enter Tryz.func200,Tryz.ntmps200
 go_wp2_with fail
 go_loopw [3,8] (fun va vi wr=>∃ (j:Nat) (a:Int),j<=n/\vi=.int .i64 j/\va=.int .i64 a/\Hid (a=rstN (ts.take j))/\Below w.heap.size w wr) (fun _ i _=>n-(intOf i).toNat)
 case atStart=>exact⟨0,0,qd _,rfl,rfl,(by show _=_;rfl),Below.refl _ _⟩
 case round =>
  obtain⟨j,a,hj,rfl,rfl,ha,hb⟩:=hrel
  rename World=>w5
  have hx0 := znn j;by_cases hlt:j<n
  ·obtain⟨k,hk⟩:∃ k,ts[j]?=some k:=⟨ts[j]'(by rw[<- HN.out];exact hlt),xm _⟩;obtain⟨b,o,rfl,c0⟩:=HT.out j k hk;have c0:=zab hb c0;have lb:=zag c0;have hx1:(j:Int)<(n:Int):=by omega
   have HE:=zaa (zrl hk);have HB:=zaa hb;have zb:=hb.size;clear hb hk;by_cases hak:a<k
   ·go_wp2_with fail
    go_roundw
    case rel=>exact⟨j+1,k,by omega,by go_num,rfl,by show _=_;rw[HE.out,<- ha.out,if_pos hak],HB.out.alloc (by omega) _⟩
    case measure=>simp[intOf];omega
   ·go_wp2_with fail
    go_roundw
    case rel=>exact⟨j+1,a,by omega,by go_num,rfl,by show _=_;rw[HE.out,<- ha.out,if_neg hak],HB.out.alloc (by omega) _⟩
    case measure=>simp[intOf];omega
  ·obtain rfl:n=j:=by omega
   have hq:Hid (R=a):=by show _=_;rw[HR.out,ha.out,HN.out,qi]
   obtain rfl:=hq.out;clear ha hq HR
   go_wp2_with fail
   go_ret;exact⟨rfl,hb⟩
end
section
open Go.RowKit
theorem zgp {k:Int}{n:Nat}(h:numB k n=true):∃ i:Nat,k=i/\i<n:=by
 unfold numB at h;simp at h;exact⟨k.toNat,by omega,by omega⟩
def tskF (t:TskD):List Value:=[.int .i64 t.s,.int .i64 t.z,.int .i64 t.b,.int .i64 t.r]
def lst0 (vs:List SvcD):List TskD:=(xq vs.length).map fun (s:Nat)=>⟨(s:Nat),(vs.getD s ⟨0,0,0,[]⟩).size,0,(vs.getD s ⟨0,0,0,[]⟩).now⟩
def tskS (l:List TskD)(m:Int×Int):TskD:={ l.getD m.1.toNat tsk0 with b:=(l.getD m.1.toNat tsk0).r,r:=m.2 }
def lstS (l:List TskD)(m:Int×Int):List TskD:=l.set m.1.toNat (tskS l m)
def lstN (l:List TskD)(ms:List (Int×Int)):List TskD:=ms.foldl lstS l
def tskN (l:List TskD):List (Int×Int)->List TskD
 |[]=>[]
 |m::ms=>tskS l m::tskN (lstS l m) ms
theorem zsg (l:List TskD)(a b:List (Int×Int)):tskN l (a++b)=tskN l a++tskN (lstN l a) b:=by
 induction a generalizing l with
 |nil=>rfl
 |cons m a ih=>show tskS l m::tskN (lstS l m) (a++b)=_;rw[ih];rfl
theorem zlx {l:List TskD}{ms:List (Int×Int)}{j:Nat}{m:Int×Int}(h:ms[j]?=some m):tskN l (ms.take (j+1))=tskN l (ms.take j)++[tskS (lstN l (ms.take j)) m]/\lstN l (ms.take (j+1))=lstS (lstN l (ms.take j)) m:=by
 rw[qv,h];show tskN l (ms.take j++[m])=_/\lstN l (ms.take j++[m])=_;rw[zsg];refine⟨rfl,?_⟩;unfold lstN;rw[q9];rfl
theorem zyd (l:List TskD)(ms:List (Int×Int)):(lstN l ms).length=l.length:=by
 induction ms generalizing l with
 |nil=>rfl
 |cons m ms ih=>show (lstN (lstS l m) ms).length=_;rw[ih];simp[lstS]
theorem zg5 (l:List TskD)(ms:List (Int×Int)):(tskN l ms).length=ms.length:=by
 induction ms generalizing l with
 |nil=>rfl
 |cons m ms ih=>show (tskS l m::tskN (lstS l m) ms).length=_;rw[ua,ih,ua]
theorem zkp {vs:List SvcD}{s:Nat}{v:SvcD}(h:vs[s]?=some v):(lst0 vs)[s]?=some ⟨s,v.size,0,v.now⟩:=by
 unfold lst0;rw[xu,List.getElem?_range (xf.1 h).1];show some (⟨(s:Int),(vs.getD s ⟨0,0,0,[]⟩).size,0,(vs.getD s ⟨0,0,0,[]⟩).now⟩:TskD)=_;rw[xh,h];rfl
theorem zpu {w:World}{base g n cl x:Nat}{l:List TskD}{q:TskD}(h:w.ownsRow base 303 4 (.slice (some ⟨g,0,none⟩) n cl) n (l.flatMap tskF))(hq:l[x]?=some q)(hx:x<n):w.cell? ⟨g,x*4,none⟩=some (.int .i64 q.s)/\w.cell? ⟨g,x*4+1,none⟩=some (.int .i64 q.z)/\w.cell? ⟨g,x*4+2,none⟩=some (.int .i64 q.b)/\w.cell? ⟨g,x*4+3,none⟩=some (.int .i64 q.r):=by
 have hcl:=fun (z:Nat) (hz:z<4)=>uq h (x*4+z) (by omega);exact⟨(hcl 0 (by omega)).trans (za2 (f:=tskF) (k:=4) (fun _=>rfl) hq (by omega)),(hcl 1 (by omega)).trans (za2 (f:=tskF) (k:=4) (fun _=>rfl) hq (by omega)),(hcl 2 (by omega)).trans (za2 (f:=tskF) (k:=4) (fun _=>rfl) hq (by omega)),(hcl 3 (by omega)).trans (za2 (f:=tskF) (k:=4) (fun _=>rfl) hq (by omega))⟩
theorem nw3 {W:World}{z:Nat}(hz:W.heap.size=z)(a b c:Obj):(((W.alloc a).alloc b).alloc c).heap[z+2]?=some c:=by
 have:=heap_alloc_new ((W.alloc a).alloc b) c;rw[show ((W.alloc a).alloc b).heap.size=z+2 by simp[hz]]at this;exact this
theorem Chg.set4 {S:Nat->Prop}{a w:World}(h:Chg S a w){z k:Nat}(hz:S z\/a.heap.size<=z)(v0 v1 v2 v3:Value):Chg S a ((((w.setCell ⟨z,k,none⟩ v0).setCell ⟨z,k+1,none⟩ v1).setCell ⟨z,k+2,none⟩ v2).setCell ⟨z,k+3,none⟩ v3) :=
 (((h.set (p:=⟨z,k,none⟩) hz v0).set (p:=⟨z,k+1,none⟩) hz v1).set (p:=⟨z,k+2,none⟩) hz v2).set (p:=⟨z,k+3,none⟩) hz v3
theorem zzc {w:World}{base g n cl x:Nat}{l:List TskD}{q y:TskD}(h:w.ownsRow base 303 4 (.slice (some ⟨g,0,none⟩) n cl) n (l.flatMap tskF))(hq:l[x]?=some q):((((w.setCell ⟨g,x*4,none⟩ (.int .i64 y.s)).setCell ⟨g,x*4+1,none⟩ (.int .i64 y.z)).setCell ⟨g,x*4+2,none⟩ (.int .i64 y.b)).setCell ⟨g,x*4+3,none⟩ (.int .i64 y.r)).ownsRow base 303 4 (.slice (some ⟨g,0,none⟩) n cl) n ((l.set x y).flatMap tskF):=by
 have hx:=(xf.1 hq).1;have s1:=(xz h (x*4) (.int .i64 y.s)).1;have e1:=zeh (f:=tskF) (k:=4) (fun _=>rfl) hq (j:=0) (u:=.int .i64 y.s) (y:=⟨y.s,q.z,q.b,q.r⟩) (by omega) rfl;rw[uo]at e1;rw[e1]at s1;have s2:=(xz s1 (x*4+1) (.int .i64 y.z)).1;rw[zeh (f:=tskF) (k:=4) (fun _=>rfl) (x:=⟨y.s,q.z,q.b,q.r⟩) (by rw[qf hx]) (j:=1) (u:=.int .i64 y.z) (y:=⟨y.s,y.z,q.b,q.r⟩) (by omega) rfl,qx]at s2;have s3:=(xz s2 (x*4+2) (.int .i64 y.b)).1;rw[zeh (f:=tskF) (k:=4) (fun _=>rfl) (x:=⟨y.s,y.z,q.b,q.r⟩) (by rw[qf hx]) (j:=2) (u:=.int .i64 y.b) (y:=⟨y.s,y.z,y.b,q.r⟩) (by omega) rfl,qx]at s3;have s4:=(xz s3 (x*4+3) (.int .i64 y.r)).1;rw[zeh (f:=tskF) (k:=4) (fun _=>rfl) (x:=⟨y.s,y.z,y.b,q.r⟩) (by rw[qf hx]) (j:=3) (u:=.int .i64 y.r) (y:=y) (by omega) rfl,qx]at s4;exact s4
theorem Tryz.infoTskK:(Tryz.prog.info? 303).map (fun i=>(i.zero,i.size,i.bytes))=some (some (.agg #[.int .i64 0,.int .i64 0,.int .i64 0,.int .i64 0]),4,32):=by kernel_rfl
theorem yadj (vs:List SvcD)(ms:List (Int×Int))(w:World)(va ma:Option Addr)(vc mc:Nat)(hv:SvcsAt (RelSl PinSl) w va vs)(hm:MvsAt w ma ms)(hvl:vs.length<=3)(hml:ms.length<=200)(hok:∀ m∈ms,numB m.1 vs.length=true) :
  Calls Tryz.prog 199 #[.slice va vs.length vc,.slice ma ms.length mc] w fun e W=>∃ g cap,e=.returned (.slice (some ⟨g,0,none⟩) ms.length cap)/\W.ownsRow w.heap.size 303 4 (.slice (some ⟨g,0,none⟩) ms.length cap) ms.length ((tskN (lst0 vs) ms).flatMap tskF)/\Below w.heap.size w W:=by
 obtain⟨iM,hiM,zM0,zM1,zM2⟩:=info_parts Tryz.infoTskK;obtain⟨n,hn⟩:∃ n,n=vs.length:=⟨_,rfl⟩;obtain⟨k,hk⟩:∃ k,k=ms.length:=⟨_,rfl⟩;rw[<- hn]at hvl hok ⊢;rw[<- hk]at hml ⊢;have HN:=zaa hn;have HK:=zaa hk;have HV:=zaa hv;have HM:=zaa hm;have HOK:=zaa hok;clear hn hk hv hm hok;have O0:=zaa (qu (base:=w.heap.size) (e:=303) (size:=4) w #[] 0 (qn _) (by unfold maxLen;omega) rfl)
 go_enter Tryz.func199,Tryz.ntmps199
 go_wp2_with fail
 go_loopw [5,15] (fun vt vi wr=>∃ i:Nat,i<=n/\vi=.int .i64 i/\wr.ownsRow w.heap.size 303 4 vt i (((lst0 vs).take i).flatMap tskF)/\(∃ g cap,vt=.slice (some ⟨g,0,none⟩) i cap)/\Below w.heap.size w wr) (fun _ i _=>n-(intOf i).toNat)
 case atStart=>exact⟨0,qd _,rfl,by simpa using O0.out,⟨_,_,rfl⟩,bel1 _ _⟩
 case round =>
  obtain⟨i,hi,rfl,hown,⟨gl,cl,rfl⟩,hb⟩:=hrel
  rename World=>w5
  have HOWN:=zaa hown;have HB:=zaa hb;have zb:=hb.size;have hx0 := znn i;by_cases hlt:i<n
  ·obtain⟨v,hv⟩:∃ v,vs[i]?=some v:=⟨vs[i]'(by rw[<- HN.out];exact hlt),xm _⟩;obtain⟨b,o,ra,rl,rc,rfl,c0,c1,c2,c3,_⟩:=HV.out i v hv;have c0:=zab hb c0;have c1:=zab hb c1;have c2:=zab hb c2;have c3:=zab hb c3;have lb:=zag c0;have hx1:(i:Int)<(n:Int):=by omega
   have HE:Hid (((lst0 vs).take (i+1)).flatMap tskF=((lst0 vs).take i).flatMap tskF++[.int .i64 (i:Int),.int .i64 v.size,.int .i64 0,.int .i64 v.now]):=zh2 (f:=tskF) (zkp hv);generalize v.size=vz at *;generalize v.now=vn at *;generalize v.want=vw at *;clear hown hb hv
   go_wp2_with (at_builtin;refine wpList_append_lies _ rfl _ _ _ rfl w.heap.size 303 iM _ 4 32 Tryz.underlying139 hiM zM0 zM1 zM2 rfl (by omega) (.slice (some ⟨gl,0,none⟩) i cl) i _ rfl ((HOWN.out.alloc _).alloc _) ⟨w5.heap.size+1,0,none⟩ 1 1 [.int .i64 (i:Int),.int .i64 vz,.int .i64 0,.int .i64 vn] rfl rfl (qq (nw2 _ _ _)) (by simp[ug]) (by omega) (by unfold maxLen;omega) (by omega) (by simp;omega) (w5.heap.size+2) (by simp) ?_;intro g2 cap2 w8 hown2 hgrow2 hat2 hlt2)
   go_roundw
   case rel =>
    refine⟨i+1,by omega,by go_num,by rw[HE.out];exact hown2,⟨_,_,rfl⟩,?_⟩;exact Below.grown ((HB.out.alloc (by omega) _).alloc (by simp;omega) _) hgrow2 (by simp;omega) (fun k hk=>(HOWN.out.lt k hk).1)
   case measure=>simp[intOf];omega
  ·obtain rfl:n=i:=by omega
   have hlen:(lst0 vs).length=n:=by rw[HN.out];simp[lst0]
   have HL:Hid (w5.ownsRow w.heap.size 303 4 (.slice (some ⟨gl,0,none⟩) n cl) n ((lstN (lst0 vs) (ms.take 0)).flatMap tskF)):=by
    have:=hown;rw[List.take_of_length_le (by omega)]at this;exact this
   have O1:=zaa (qu (base:=w5.heap.size) (e:=303) (size:=4) w5 #[] 0 (qn _) (by unfold maxLen;omega) rfl);have lgl:=(qg hown gl rfl);clear hown hb
   go_wp2_with fail
   go_loopw [8,33] (fun vt vi wr=>∃ j:Nat,j<=k/\vi=.int .i64 j/\wr.ownsRow w.heap.size 303 4 (.slice (some ⟨gl,0,none⟩) n cl) n ((lstN (lst0 vs) (ms.take j)).flatMap tskF)/\wr.ownsRow w5.heap.size 303 4 vt j ((tskN (lst0 vs) (ms.take j)).flatMap tskF)/\(∃ g cap,vt=.slice (some ⟨g,0,none⟩) j cap)/\Below w.heap.size w wr/\w5.heap.size<=wr.heap.size) (fun _ j _=>k-(intOf j).toNat)
   case atStart=>exact⟨0,qd _,rfl,HL.out.alloc _,by simpa[tskN]using O1.out,⟨_,_,rfl⟩,HB.out.alloc (by omega) _,by simp⟩
   case round =>
    obtain⟨j,hj,rfl,hlast,htask,⟨gt,ct,rfl⟩,hb,hz⟩:=hrel
    rename World=>w6
    have HLA:=zaa hlast;have HTA:=zaa htask;have HB6:=zaa hb;have hy0 := znn j;by_cases hlt2:j<k
    ·obtain⟨mv,hmv⟩:∃ mv,ms[j]?=some mv:=⟨ms[j]'(by rw[<- HK.out];exact hlt2),xm _⟩;obtain⟨bm,om,rfl,m0,m1⟩:=HM.out j mv hmv;have m0:=zab hb m0;have m1:=zab hb m1;have lbm:=zag m0;obtain⟨x,hx,hxn⟩:=zgp (HOK.out mv (xp hmv));obtain⟨HT1,HT2⟩:=zlx (l:=lst0 vs) hmv;have HT1:=zaa HT1;have HT2:=zaa HT2;have hll:(lstN (lst0 vs) (ms.take j)).length=n:=by rw[zyd];exact hlen
     obtain⟨q,hq⟩:∃ q,(lstN (lst0 vs) (ms.take j))[x]?=some q:=⟨(lstN (lst0 vs) (ms.take j))[x]'(by omega),xm _⟩;obtain⟨d0,d1,d2,d3⟩:=zpu hlast hq (by omega);have z0:=xy hlast (x*4);have z1:=xy hlast (x*4+1);have z2:=xy hlast (x*4+2);have z3:=xy hlast (x*4+3);have n1:=fun W=>za5 (x:Int) (n:Int) W;rw[show numB (x:Int) (n:Int)=true by unfold numB;simp;omega]at n1;have hx0':(0:Int)<=(x:Int):=by omega
     have hx1':(x:Int)<(n:Int):=by omega
     have hy1:(j:Int)<(k:Int):=by omega
     obtain⟨mx,my⟩:=mv;simp only at hx m0 m1;subst hx;obtain⟨qs,qz,qb,qr⟩:=q;simp only at d0 d1 d2 d3;have lg6:=zag d0;have hqg:(lstN (lst0 vs) (ms.take j)).getD ((x:Int),my).1.toNat tsk0=⟨qs,qz,qb,qr⟩:=by
      show (lstN (lst0 vs) (ms.take j)).getD (x:Int).toNat tsk0=_;rw[xj,xh,hq];rfl
     have hS:tskS (lstN (lst0 vs) (ms.take j)) ((x:Int),my)=⟨qs,qz,qr,my⟩:=by unfold tskS;rw[hqg]
     have HS:=zaa hS;have hSS:lstS (lstN (lst0 vs) (ms.take j)) ((x:Int),my)=(lstN (lst0 vs) (ms.take j)).set x ⟨qs,qz,qr,my⟩:=by
      unfold lstS;rw[hS];show List.set _ (x:Int).toNat _=_;rw[xj]
     have HSS:=zaa hSS;have HL4:=zaa (zzc (y:=⟨qs,qz,qr,my⟩) hlast hq);have X4:=zaa ((Chg.refl (·= gl) w6).set4 (z:=gl) (k:=x*4) (.inl rfl) (.int .i64 qs) (.int .i64 qz) (.int .i64 qr) (.int .i64 my));have HT4:=zaa (X4.out.own htask (fun b hb e=>by have:=(qg htask b hb).1;omega));have HB4:=zaa ((((HB6.out.setCell (p:=⟨gl,x*4,none⟩) lgl.1 (.int .i64 qs)).setCell (p:=⟨gl,x*4+1,none⟩) lgl.1 (.int .i64 qz)).setCell (p:=⟨gl,x*4+2,none⟩) lgl.1 (.int .i64 qr)).setCell (p:=⟨gl,x*4+3,none⟩) lgl.1 (.int .i64 my));have hz4:Hid (((((w6.setCell ⟨gl,x*4,none⟩ (.int .i64 qs)).setCell ⟨gl,x*4+1,none⟩ (.int .i64 qz)).setCell ⟨gl,x*4+2,none⟩ (.int .i64 qr)).setCell ⟨gl,x*4+3,none⟩ (.int .i64 my)).heap.size=w6.heap.size):=by show _=_;simp[World.setCell]
     clear hlast htask hb hmv hll hq hlen hqg hS hSS
     go_wp2_with (first
      |(go_at_call 178;refine(n1 _).mono ?_;rintro e _ ⟨rfl,rfl⟩)
      |(at_builtin;refine wpList_append_lies _ rfl _ _ _ rfl w5.heap.size 303 iM _ 4 32 Tryz.underlying139 hiM zM0 zM1 zM2 rfl (by omega) (.slice (some ⟨gt,0,none⟩) j ct) j _ rfl (((HT4.out.alloc _).alloc _).alloc _) ⟨w6.heap.size+2,0,none⟩ 1 1 [.int .i64 qs,.int .i64 qz,.int .i64 qr,.int .i64 my] rfl rfl (qq (nw3 hz4.out _ _ _)) (by simp[ug]) (by omega) (by unfold maxLen;omega) (by omega) (by simp;omega) (w6.heap.size+3) (by simp[hz4.out]) ?_;intro g2 cap2 w8 hown2 hgrow2 hat2 hlt3))
     have hne:(Value.slice (some ⟨gt,0,none⟩) j ct).ownBlock≠some gl:=fun e=>by have:=(qg HTA.out gl e).1;omega
     go_roundw
     case rel =>
      refine⟨j+1,by omega,by go_num,?_,?_,⟨_,_,rfl⟩,?_,?_⟩
      ·rw[HT2.out,HSS.out];exact(((HL4.out.alloc _).alloc _).alloc _).kept hgrow2 (.inr (fun e=>hne e.symm))
      ·rw[HT1.out,HS.out,List.flatMap_append];simpa[tskF]using hown2
      ·exact Below.grown (((HB4.out.alloc (by rw[hz4.out];exact HB6.out.size) _).alloc (by simp[hz4.out];have:=HB6.out.size;omega) _).alloc (by simp[hz4.out];have:=HB6.out.size;omega) _) hgrow2 (by simp[hz4.out];have:=HB6.out.size;omega) (fun k hk=>by have:=(HTA.out.lt k hk).1;omega)
      ·have:=hgrow2.size;simp[hz4.out]at this;omega
     case measure=>simp[intOf];omega
    ·obtain rfl:k=j:=by omega
     have HE:Hid (w6.ownsRow w.heap.size 303 4 (.slice (some ⟨gt,0,none⟩) k ct) k ((tskN (lst0 vs) ms).flatMap tskF)):=by
      have:=htask.mono zb;rw[HK.out,qi,<- HK.out]at this;exact this
     clear hlast htask HLA HTA
     go_wp2_with fail
     go_ret;exact⟨gt,ct,rfl,HE.out,HB6.out⟩
end
section
open Go.RowKit
def begP (f:zac)(ms:List (Int×Int)):zad:=⟨0,⟨tskN (lst0 f.vs) ms,rstN f.ts,if ms.length=0 then 3 else 1,0,false,false,0,0,0,false,false,false⟩,[],f.vs.map fun v=>⟨qe v.size.toNat ⟨v.now,0⟩,v.rels⟩,f.ts.map fun k=>⟨k,[]⟩,f.ss⟩
theorem zpf {f:zac}{ms:List (Int×Int)}{s:Nat}{v:SvcD}(hv:f.vs[s]?=some v)(hok:∀ m∈ms,∃ i:Nat,m.1=i):∀ j,j<=ms.length->∃ q,(lstN (lst0 f.vs) (ms.take j))[s]?=some q/\q.s=s/\q.z=v.size/\q.r=hasI v.now ms s j
 |0,_=>⟨_,zkp hv,rfl,rfl,rfl⟩
 |j+1,hj=>by
  obtain⟨m,hm⟩:∃ m,ms[j]?=some m:=⟨ms[j]'(by omega),xm _⟩;obtain⟨q,h1,h2,h3,h4⟩:=zpf hv hok j (by omega);obtain⟨i,hi⟩:=hok m (xp hm);have hs:s<(lstN (lst0 f.vs) (ms.take j)).length:=(xf.1 h1).1;have hg:ms.getD j (-1,0)=m:=by rw[xh,hm];rfl
  rw[(zlx hm).2];unfold lstS;have hh:hasI v.now ms s (j+1)=if m.1=(s:Int) then m.2 else hasI v.now ms s j:=by rw[hasI,hg]
  rw[hh,hi,xj,qy];by_cases e:i=s
  ·subst e;have hq:(lstN (lst0 f.vs) (ms.take j)).getD m.1.toNat tsk0=q:=by rw[hi,xj,xh,h1];rfl
   rw[if_pos rfl,if_pos hs,if_pos rfl];refine⟨_,rfl,?_,?_,?_⟩
   ·unfold tskS;rw[hq];exact h2
   ·unfold tskS;rw[hq];exact h3
   ·rfl
  ·rw[if_neg e,if_neg (by omega)];exact⟨q,h1,h2,h3,h4⟩
theorem zsh {f:zac}{ms:List (Int×Int)}{j:Nat}{m:Int×Int}(hm:ms[j]?=some m):(tskN (lst0 f.vs) ms)[j]?=some (tskS (lstN (lst0 f.vs) (ms.take j)) m):=by
 have hj:=(xf.1 hm).1;have e:ms=ms.take (j+1)++ms.drop (j+1):=(List.take_append_drop _ _).symm;have hl:(tskN (lst0 f.vs) (ms.take j)).length=j:=by rw[zg5,List.length_take];omega
 conv=>lhs;rw[e,zsg,(zlx hm).1]
 rw[List.getElem?_append_left (by simp[hl]),List.getElem?_append_right (by omega),hl,Nat.sub_self];rfl
theorem zhn {f:zac}{ms:List (Int×Int)}{a b:Int}:hasB (begP f ms).vs a b=true↔∃ (s:Nat) (v:SvcD),a=s/\f.vs[s]?=some v/\0<=b/\b<v.size:=by
 rw[zd4];show 0<=a/\a<((f.vs.map fun v=>(⟨qe v.size.toNat ⟨v.now,0⟩,v.rels⟩:SrvD)).length:Int)/\0<=b/\b<(((f.vs.map fun v=>(⟨qe v.size.toNat ⟨v.now,0⟩,v.rels⟩:SrvD)).getD a.toNat srv0).ins.length:Int)↔_;constructor
 ·rintro ⟨h1,h2,h3,h4⟩;rw[qj]at h2;have hv:f.vs[a.toNat]?=some (f.vs[a.toNat]'(by omega)):=xm _;refine⟨a.toNat,_,by omega,hv,h3,?_⟩;rw[xh,xu,hv]at h4;simp at h4;omega
 ·rintro ⟨s,v,rfl,hv,h3,h4⟩;have:=(xf.1 hv).1;rw[qj,xj,xh,xu,hv];refine⟨by omega,by omega,h3,?_⟩;simp;omega
theorem zjl {f:zac}{ms:List (Int×Int)}{s:Nat}{b:Int}{v:SvcD}(hv:f.vs[s]?=some v)(h0:0<=b)(h1:b<v.size):insG (begP f ms).vs s b=⟨v.now,0⟩:=by
 unfold insG;show ((f.vs.map fun v=>(⟨qe v.size.toNat ⟨v.now,0⟩,v.rels⟩:SrvD)).getD (s:Int).toNat srv0).ins.getD b.toNat ins0=_;rw[xj,xh (l:=f.vs.map _),xu,hv];show (qe v.size.toNat (⟨v.now,0⟩:InsD)).getD b.toNat ins0=_;rw[xh,List.getElem?_replicate,if_pos (by omega)];rfl
theorem zjm {f:zac}{ms:List (Int×Int)}(h:Sfe f ms)(W:Nat->Int->Int->RecD->Prop):PInv (zb8 f ms) W (begP f ms)/\Ext (begP f ms):=by
 have ho:=zb3 h.ob;have hsz:∀ (s:Nat) (v:SvcD),f.vs[s]?=some v->1<=v.size/\v.size<=3:=fun s v hv=>by
  have:=ho.svc v (xp hv);unfold svcB numB at this;simp only[xo,decide_eq_true_eq]at this;omega
 have htp:∀ k∈f.ts,0<=k/\k<=6:=fun k hk=>by
  have:zc2 f.ts=true:=by
   have:=h.ob;unfold ordB at this;rw[xo,xo]at this;exact this.1.2
  unfold zc2 at this;rw[xo,xe]at this;have:=this.2 k hk;unfold topB at this;simp at this;omega
 have hrs:=yabp (ts:=f.ts) (M:=6) (by omega) (fun k hk=>(htp k hk).2);have hmv:∀ (j:Nat) (m:Int×Int),ms[j]?=some m->∃ x y:Nat,m=((x:Int),(y:Int))/\x<f.vs.length:=fun j m hm=>by
  have hj:=(xf.1 hm).1;obtain⟨x,y,e,hx,_⟩:=ze3 ho (h.rm j hj);refine⟨x,y,?_,hx⟩;rw[<- e];unfold mvAt;rw[xh,hm];rfl
 have hok:∀ m∈ms,∃ i:Nat,m.1=i:=fun m hm=>by
  obtain⟨j,hj⟩:=qo hm;obtain⟨x,y,rfl,_⟩:=hmv j m hj;exact⟨x,rfl⟩
 have hcfg:∀ (k:Nat) (s:Nat) (v:SvcD),f.vs[s]?=some v->(zb8 f ms).cfg k s=hasI v.now ms s k:=fun k s v hv=>by
  show hasI (nowI f (s:Int).toNat) ms s k=_;rw[xj,zib hv]
 refine⟨⟨⟨?_,fun j t ht=>?_,qp _,by show (0:Int)<=(ms.length:Int);omega,?_,qp _⟩,⟨fun a b hb=>?_,fun q=>absurd q (by show ¬ false=true;simp),fun a b hb=>?_,fun q=>absurd q (by show ¬ false=true;simp),fun m hm=>absurd hm (by show m∉[];simp),fun m hm=>absurd hm (by show m∉[];simp),fun q=>absurd q (by show ¬ false=true;simp),fun m hm=>absurd hm (by show m∉[];simp)⟩,⟨fun t T hT=>?_,fun t T x hT hx=>?_,fun t T x hT hx=>?_⟩⟩,⟨by show 0<=40;omega,fun q=>absurd q (by show ¬ false=true;simp),?_,hrs.2,hrs.1⟩⟩
 ·exact zg5 _ _
 ·have hj:j<ms.length:=by have:=(xf.1 ht).1;rw[show (begP f ms).c.ts=tskN (lst0 f.vs) ms from rfl,zg5]at this;exact this
  obtain⟨m,hm⟩:∃ m,ms[j]?=some m:=⟨ms[j]'hj,xm _⟩;obtain⟨x,y,rfl,hx⟩:=hmv j m hm;obtain⟨v,hv⟩:∃ v,f.vs[x]?=some v:=⟨f.vs[x]'hx,xm _⟩;obtain⟨q,q1,q2,q3,q4⟩:=zpf hv hok j (by omega);have ht':(tskN (lst0 f.vs) ms)[j]?=some t:=ht;rw[zsh hm]at ht';have hq:(lstN (lst0 f.vs) (ms.take j)).getD ((x:Int),(y:Int)).1.toNat tsk0=q:=by
   show uc _ (x:Int).toNat _=_;rw[xj,xh,q1];rfl
  obtain rfl:{ q with b:=q.r,r:=(y:Int) }=t:=by
   have:=ut ht';unfold tskS at this;rw[hq]at this;exact this
  have hs:=hsz x v hv;have hg:ms.getD j (-1,0)=((x:Int),(y:Int)):=by rw[xh,hm];rfl
  refine⟨fun i=>?_,by show 1<=q.z;omega,by show q.z<=3;omega,?_,?_,fun s hne=>?_⟩
  ·rw[zhn];show (∃ (s:Nat) (v:SvcD),q.s=s/\_)↔0<=i/\i<q.z;rw[q2,q3];constructor
   ·rintro ⟨s,v',e,hv',h1,h2⟩;obtain rfl:x=s:=by omega
    rw[hv]at hv';cases hv';exact⟨h1,h2⟩
   ·rintro ⟨h1,h2⟩;exact⟨x,v,rfl,hv,h1,h2⟩
  ·show (zb8 f ms).cfg j q.s=q.r;rw[q2,hcfg j x v hv,q4]
  ·show (zb8 f ms).cfg (j+1) q.s=(y:Int);rw[q2,hcfg (j+1) x v hv,hasI,hg,if_pos rfl]
  ·have hne:s≠(x:Int):=by rw[<- q2];exact hne
   show hasI (nowI f s.toNat) ms s (j+1)=hasI (nowI f s.toNat) ms s j;rw[hasI,hg,if_neg (fun e=>hne e.symm)]
 ·show ((if ms.length=0 then (3:Int) else 1)=1/\(0:Int)<(ms.length:Int))\/((if ms.length=0 then (3:Int) else 1)=2/\(0:Int)<0)\/((if ms.length=0 then (3:Int) else 1)=3/\(0:Int)=(ms.length:Int)/\false=false)\/((if ms.length=0 then (3:Int) else 1)=4/\(0:Int)=0/\false=false);split
  ·right;right;left;exact⟨rfl,by omega,rfl⟩
  ·left;exact⟨rfl,by omega⟩
 ·obtain⟨s,v,rfl,hv,h0,h1⟩:=zhn.1 hb;rw[zjl hv h0 h1];left;show v.now=(zb8 f ms).cfg (0:Int).toNat s;rw[show (0:Int).toNat=0 from rfl,hcfg 0 s v hv];rfl
 ·obtain⟨s,v,rfl,hv,h0,h1⟩:=zhn.1 hb;rw[zjl hv h0 h1];exact qp _
 ·have hT':(f.ts.map fun k=>(⟨k,[]⟩:TopD))[t]?=some T:=hT;rw[xu]at hT';cases hk:f.ts[t]? with
  |none=>rw[hk]at hT';cases hT'
  |some k =>
   rw[hk]at hT';obtain rfl:(⟨k,[]⟩:TopD)=T:=by simpa using hT'
   exact⟨(htp k (xp hk)).1,yabo t k hk⟩
 iterate 2
  ·have hT':(f.ts.map fun k=>(⟨k,[]⟩:TopD))[t]?=some T:=hT;rw[xu]at hT';cases hk:f.ts[t]? with
   |none=>rw[hk]at hT';cases hT'
   |some k =>
    rw[hk]at hT';obtain rfl:(⟨k,[]⟩:TopD)=T:=by simpa using hT'
    cases hx
 ·show (0:Int)<=0+rstN f.ts;have:=hrs.1;omega
end
section
open Go.RowKit
def Wrt (f:zac)(t:Nat)(u q:Int)(x:RecD):Prop:=∃ (s a:Nat) (v:SvcD) (ps:List PinD),u=s/\q=a/\f.vs[s]?=some v/\v.rels[a]?=some ps/\numB (pinO ps t).w f.ss.length=true/\x.sc=schO f.ss (pinO ps t).w/\∃ text,zau false x.sc text=(x.da,0)
theorem zql {ps:List PinD}{t:Int}(h:(pinO ps t).w≠-1\/(pinO ps t).r≠-1):pinO ps t∈ps/\(pinO ps t).t=t:=by
 unfold pinO at *;cases hf:ps.find? (fun p=>p.t == t) with
 |none=>rw[hf]at h;simp at h
 |some p =>
  simp only;exact⟨List.mem_of_find?_eq_some hf,by simpa using List.find?_some hf⟩
theorem zgy {ss:List ByteArray}{k:Int}(h:numB k ss.length=true):∃ (i:Nat) (x:ByteArray),k=i/\ss[i]?=some x/\schO ss k=x:=by
 obtain⟨i,rfl,hi⟩:=zgp h;refine⟨i,ss[i],rfl,xm hi,?_⟩;unfold schO;rw[if_pos h,xj,xh,xm hi];rfl
theorem yabr {f:zac}{ms:List (Int×Int)}{P:zad}(hs:Sfe f ms)(h:PInv (zb8 f ms) (Wrt f) P)(hk:P.ts.map TopD.keep=f.ts){t:Nat}{T:TopD}{x:RecD}(hT:P.ts[t]?=some T)(hx:x∈T.recs){s:Nat}{i:Int}(hi:hasB P.vs s i=true){v:SvcD}(hv:f.vs[s]?=some v){a:Nat}{ps:List PinD}(ha:(insG P.vs s i).r=a)(hps:v.rels[a]?=some ps)(hr:numB (pinO ps t).r f.ss.length=true) :
  fitB x.sc (schO f.ss (pinO ps t).r)=true/\∃ text,zau false x.sc text=(x.da,0):=by
 have ho:=zb3 hs.ob;obtain⟨u,q,⟨su,aq,vu,psu,rfl,rfl,hvu,hpu,hwu,hsc,text,hen⟩,hc⟩:=h.read hT hx hi;refine⟨?_,text,hen⟩;have hsl:=(xf.1 hv).1;have hul:=(xf.1 hvu).1;have hkt:f.ts.getD t 0=T.keep:=by
  rw[<- hk,xh,xu,hT];rfl
 have hrel:∀ {s:Nat} {v:SvcD} {k a:Nat},f.vs[s]?=some v->(a:Int)=(zb8 f ms).cfg k s->v.rels.length<=3->a<v.rels.length->∀ {ps:List PinD},v.rels[a]?=some ps->plOf f (hsP f ms k s)=ps:=fun {s v k a} hv he h3 hl {ps} hps=>by
  have e:(zb8 f ms).cfg k s=hasI (nowI f s) ms s k:=by show hasI (nowI f (s:Int).toNat) ms s k=_;rw[xj]
  unfold hsP;rw[<- e,<- he,xj];unfold plOf;rw[show (s*3+a) / 3=s by omega,show (s*3+a) % 3=a by omega,hv];show v.rels.getD a []=ps;rw[xh,hps];rfl
 have p1:=ho.parts (xp hv);have p2:=ho.parts (xp hvu);have hal:=(xf.1 hps).1;have hql:=(xf.1 hpu).1;obtain⟨iw,xw,ew,hxw,esw⟩:=zgy hwu;obtain⟨ir,xr,er,hxr,esr⟩:=zgy hr;obtain⟨m1,m2⟩:=zql (ps:=psu) (t:=t) (.inl (by omega));obtain⟨m3,m4⟩:=zql (ps:=ps) (t:=t) (.inr (by omega));have key:rdB f.ss (pinO psu t) (pinO ps t)=true:=by
  rcases hc with⟨h0,k,k',h1,h2,h3,h4⟩|⟨k,k',h1,h2,h5,h6,h3,h4⟩
  ·rw[ha]at h4;exact hs.meet hul hsl h1 h2 (t:=t) (.inl (by rw[hkt];exact h0)) (by rw[hrel hvu h3 p2.2.1 hql hpu];exact m1) (by rw[hrel hv h4 p1.2.1 hal hps];exact m3) m2 m4
  ·rw[ha]at h4;exact hs.meet hul hsl h1 h2 (t:=t) (.inr ⟨h5,h6⟩) (by rw[hrel hvu h3 p2.2.1 hql hpu];exact m1) (by rw[hrel hv h4 p1.2.1 hal hps];exact m3) m2 m4
 rw[yaaz]at key;have:=key (by omega) (by omega);rw[hsc,esw,esr];rw[ew,er,xj,xj,yada hxw hxr]at this;exact this
end
section
open Go.RowKit
def pckN (c:Int)(n:Nat):Nat:=((if c<0 then -(c+1) else c) % (n:Int)).toNat
theorem zbn (c:Int){n:Nat}(hn:0<n):pckN c n<n:=by
 unfold pckN;have h1:=qk (if c<0 then -(c+1) else c) (show (n:Int)≠0 by omega);have h2:=Int.emod_lt_of_pos (if c<0 then -(c+1) else c) (show (0:Int)<n by omega);omega
theorem zcj (c:Int)(n:Nat)(hc:-9223372036854775808<=c/\c<=9223372036854775807)(hn:0<n)(hn2:n<=2000000)(w:World):Calls Tryz.prog 42 #[.int .i64 c,.int .i64 n] w fun e W=>e=.returned (.int .i64 (pckN c n:Nat))/\w=W:=by
 have hn0:(0:Int)<(n:Int):=by omega
 by_cases h0:c<0
 ·obtain⟨d,hd⟩:∃ d:Int,d=-(c+1):=⟨_,rfl⟩;have hd0:0<=d:=by omega
  have hp:((pckN c n:Nat):Int)=d % (n:Int):=by
   unfold pckN;rw[if_pos h0,<- hd];exact xv (qk _ (by omega))
  rw[hp]
  go_enter Tryz.func42,Tryz.ntmps42
  go_wp2_with fail
  go_ret;refine⟨zck ?_,rfl⟩;rw[<- Int.tmod_eq_emod_of_nonneg hd0,hd,Int.neg_tmod]
 ·have hp:((pckN c n:Nat):Int)=c % (n:Int):=by
   unfold pckN;rw[if_neg h0];exact xv (qk _ (by omega))
  rw[hp];have h0:0<=c:=by omega
  go_enter Tryz.func42,Tryz.ntmps42
  go_wp2_with fail
  go_ret;exact⟨rfl,rfl⟩
end
section
open Go.RowKit
structure zdj where
 ti:Int
 by':Int
 da:ByteArray
structure zav where
 f:zac
 ms:List (Int×Int)
 tale:Bool
 P:zad
 ti:Int
 notes:List zdj
 ab:Bool
def zcx (x:zdj):List Value:=[.int .i64 x.ti,.int .i64 x.by',.string x.da]
structure BookM (w0 w:World)(L:Nat->Nat)(gb r:Nat)(b:zav)(sa ta va ma:Option Addr)(sl sc tl tc vl vc mc:Nat)(nv:Value):Prop where
 row:RowIs w gb 70 [.slice sa sl sc,.slice ta tl tc,.slice va vl vc,.slice ma b.ms.length mc,.bool b.tale,.pointer (some ⟨r,0,none⟩),.int .i64 b.ti,nv,.bool b.ab]
 lb:L gb=0
 run:RunE w L r b.P
 low:∀ k,k<w0.heap.size->L k=0
 bel:Below w0.heap.size w0 w
 flt:FleetAt w0 sa sl sc ta tl tc va vl vc b.f
 mvs:MvsAt w0 ma b.ms
 nts:w.ownsRow w0.heap.size 135 3 nv b.notes.length (b.notes.flatMap zcx)
 ln:∀ k,nv.ownBlock=some k->L k=0/\k≠gb
def BookE (w0 w:World)(L:Nat->Nat)(gb r:Nat)(b:zav):Prop:=∃ sa ta va ma sl sc tl tc vl vc mc nv,BookM w0 w L gb r b sa ta va ma sl sc tl tc vl vc mc nv
section
variable {w0 w W:World}{L:Nat->Nat}{gb r:Nat}{b:zav}{sa ta va ma:Option Addr}{sl sc tl tc vl vc mc:Nat}{nv:Value}
theorem BookM.turn (h:BookM w0 w L gb r b sa ta va ma sl sc tl tc vl vc mc nv){P':zad}(ht:Turn w L r W P'):∃ L',BookM w0 W L' gb r { b with P:=P' } sa ta va ma sl sc tl tc vl vc mc nv:=by
 obtain⟨L',h1,h2,h3⟩:=ht;have hz:=h.bel.size;have hlow:∀ k,k<w0.heap.size->L' k=0:=fun k hk=>(h2 k (by omega)).trans (h.low k hk);refine⟨L',h3.row h.row (by rw[h.lb];simp),(h2 gb h.row.lt).trans h.lb,h1,hlow,?_,h.flt,h.mvs,?_,fun k hk=>?_⟩
 ·exact h.bel.trans (h3.bel hz (fun k hk q=>q (h.low k hk)))
 ·exact h3.own h.nts (fun k hk q=>q ((h.ln k hk).1))
 ·exact⟨(h2 k (qg h.nts k hk).2).trans (h.ln k hk).1,(h.ln k hk).2⟩
theorem BookM.keep (h:BookM w0 w L gb r b sa ta va ma sl sc tl tc vl vc mc nv)(hb:Below w.heap.size w W):BookM w0 W L gb r b sa ta va ma sl sc tl tc vl vc mc nv :=
 ⟨h.row.keep hb,h.lb,h.run.keep hb,h.low,h.bel.trans (hb.mono h.bel.size),h.flt,h.mvs,zas h.nts hb,h.ln⟩
theorem BookE.keep (h:BookE w0 w L gb r b)(hb:Below w.heap.size w W):BookE w0 W L gb r b:=by
 obtain⟨sa,ta,va,ma,sl,sc,tl,tc,vl,vc,mc,nv,h⟩:=h;exact⟨sa,ta,va,ma,sl,sc,tl,tc,vl,vc,mc,nv,h.keep hb⟩
theorem BookE.turn (h:BookE w0 w L gb r b){P':zad}(ht:Turn w L r W P'):∃ L',BookE w0 W L' gb r { b with P:=P' }:=by
 obtain⟨sa,ta,va,ma,sl,sc,tl,tc,vl,vc,mc,nv,h⟩:=h;obtain⟨L',h⟩:=h.turn ht;exact⟨L',sa,ta,va,ma,sl,sc,tl,tc,vl,vc,mc,nv,h⟩
theorem zjr (c:Int)(hc:-9223372036854775808<=c/\c<=9223372036854775807)(hl:b.P.ms.length<=40)(h:BookE w0 w L gb r b):Calls Tryz.prog 56 #[.pointer (some ⟨gb,0,none⟩),.int .i64 c] w fun e W=>(∃ k:Int,e=.returned (.int .i64 k))/\Below w.heap.size w W:=by
 obtain⟨sa,ta,va,ma,sl,sc,tl,tc,vl,vc,mc,nv,h⟩:=h;have c1:=zgv hl h.run;have c2:=fun (n:Nat) (hn:0<n) (hn2:n<=2000000) W=>zcj c n hc hn hn2 W;have k5:w.cell? ⟨gb,5,none⟩=some (.pointer (some ⟨r,0,none⟩)):=h.row.cell rfl;clear h;generalize b.P.ms.flatMap msgF=xs at *;generalize b.P.ms.length=n at *;by_cases hn:n=0
 ·subst hn
  go_enter Tryz.func56,Tryz.ntmps56
  go_wp2_with (first|(go_at_call 53;refine c1.mono ?_;rintro e w1 ⟨v,rfl,ho,hb1⟩;obtain⟨ad,cp,rfl⟩:∃ ad cp,v=.slice ad 0 cp:=(by rcases ho.2 with⟨q1,q2⟩|⟨g,cp,cur,q1,_⟩;exact⟨none,0,q1⟩;exact⟨_,cp,q1⟩);clear ho))
  go_ret;exact⟨⟨_,rfl⟩,hb1⟩
 ·have c3:=c2 n (by omega) (by omega);have hn0:(0:Int)<(n:Int):=by omega
  go_enter Tryz.func56,Tryz.ntmps56
  go_wp2_with (first
   |(go_at_call 53;refine c1.mono ?_;rintro e w1 ⟨v,rfl,ho,hb1⟩;obtain⟨ad,cp,rfl⟩:∃ ad cp,v=.slice ad n cp:=(by rcases ho.2 with⟨q1,q2⟩|⟨g,cp,cur,q1,_⟩;exact⟨none,0,by rw[q1,q2]⟩;exact⟨_,cp,q1⟩);clear ho)
   |(go_at_call 42;refine(c3 _).mono ?_;rintro e _ ⟨rfl,rfl⟩))
  go_ret;exact⟨⟨_,rfl⟩,hb1⟩
end
end
section
open Go.RowKit
structure Bnd (N:Int)(P:zad):Prop where
 ti:0<=P.ti/\P.ti<=N
 nu:0<=P.c.nu/\P.c.nu<=N
 t200:P.c.ts.length<=200
 ts4:P.ts.length<=4
 rc:∀ (i:Nat) (T:TopD),P.ts[i]?=some T->T.recs.length<=12/\∀ x∈T.recs,0<=x.ti
theorem Bnd.same {N:Int}{P Q:zad}(h:Bnd N P)(h1:Q.ti=P.ti)(h2:Q.c.nu=P.c.nu)(h3:Q.c.ts=P.c.ts)(h4:Q.ts=P.ts):Bnd N Q :=
 ⟨by rw[h1];exact h.ti,by rw[h2];exact h.nu,by rw[h3];exact h.t200,by rw[h4];exact h.ts4,by rw[h4];exact h.rc⟩
theorem Bnd.mono {N M:Int}{P:zad}(h:Bnd N P)(hn:N<=M):Bnd M P:=⟨⟨h.ti.1,by have:=h.ti.2;omega⟩,⟨h.nu.1,by have:=h.nu.2;omega⟩,h.t200,h.ts4,h.rc⟩
theorem zxs (c:CtlD)(x:MsgD)(ti:Int):(za4 c x ti).nu=c.nu:=by
 unfold za4;split
 ·split
  ·unfold finC;rw[(zcg _).2.2.2.2.1];rfl
  ·rfl
 ·rfl
theorem zj5 (P:zad)(k:Int):(delP P k).ti=P.ti/\(delP P k).c.nu=P.c.nu/\(delP P k).c.ts=P.c.ts/\(delP P k).ts=P.ts/\(delP P k).ss=P.ss:=by
 unfold delP;split
 ·unfold arrP;split
  ·exact⟨rfl,zxs _ _ _,zo3 _ _ _,rfl,rfl⟩
  ·split<;>exact⟨rfl,rfl,rfl,rfl,rfl⟩
 ·exact⟨rfl,rfl,rfl,rfl,rfl⟩
theorem Bnd.del {N:Int}{P:zad}(h:Bnd N P)(k:Int):Bnd N (delP P k):=by
 obtain⟨a,b,c,d,_⟩:=zj5 P k;exact h.same a b c d
theorem Bnd.drp {N:Int}{P:zad}(h:Bnd N P)(k:Int):Bnd N (drpP P k):=by
 unfold drpP;split
 ·exact h.same rfl rfl rfl rfl
 ·exact h
theorem Bnd.cpy {N:Int}{P:zad}(h:Bnd N P)(k:Int):Bnd N (cpyP P k):=by
 unfold cpyP;split
 ·exact h.same rfl rfl rfl rfl
 ·exact h
theorem Bnd.pau {N:Int}{P:zad}(h:Bnd N P)(on:Bool):Bnd N (pauP P on):=h.same rfl rfl rfl rfl
theorem Bnd.crs {N:Int}{P:zad}(h:Bnd N P):Bnd N (crsP P):=by
 refine h.same rfl ?_ (znd _ _) rfl;show (crsC P.c P.ti).nu=P.c.nu;unfold crsC;split
 ·rfl
 ·split<;>rfl
theorem Bnd.trn {N:Int}{P:zad}(h:Bnd N P):Bnd N (trnP P):=by
 refine h.same rfl ?_ (zsi _) rfl;show (zc9 P.c).nu=P.c.nu;unfold zc9;rw[(zcg _).2.2.2.2.1];split<;>rfl
theorem Bnd.wrt {N:Int}{P:zad}(h:Bnd N P){t:Nat}{sc da:ByteArray}(hl:∀ T,P.ts[t]?=some T->T.recs.length<12):Bnd N (wrtP P t sc da):=by
 refine⟨h.ti,h.nu,h.t200,by show (P.ts.modify t _).length<=4;rw[List.length_modify];exact h.ts4,fun i T hT=>?_⟩;have hT':(P.ts.modify t fun T=>{ T with recs:=T.recs++[⟨sc,da,P.ti⟩] })[i]?=some T:=hT;rw[List.getElem?_modify]at hT';cases h0:P.ts[i]? with
 |none=>rw[h0]at hT';cases hT'
 |some T0 =>
  rw[h0]at hT';simp at hT';obtain⟨r1,r2⟩:=h.rc i T0 h0;split at hT'
  ·rename_i e;subst e;subst hT';have:=hl T0 h0;refine⟨by simp;omega,fun x hx=>?_⟩;simp at hx;rcases hx with q|q
   ·exact r2 x q
   ·subst q;exact h.ti.1
  ·subst hT';exact⟨r1,r2⟩
theorem zt7 (c:CtlD)(ti:Int):(actC c ti).nu=c.nu\/(actC c ti).nu=c.nu+1:=by
 have e2:(actA c ti).nu=c.nu:=by unfold actA;split<;>rfl
 unfold actC;split
 ·exact .inl rfl
 ·split
  ·unfold cmdC;split
   ·right;show (actA c ti).nu+1=_;rw[e2]
   ·exact .inl e2
  ·exact .inl e2
theorem Bnd.tck {N:Int}{P:zad}(h:Bnd N P):Bnd (N+1) (tckP P):=by
 have h1:=h.ti;have h2:=h.nu;refine⟨by show 0<=P.ti+1/\P.ti+1<=N+1;omega,?_,?_,by show (P.ts.map _).length<=4;rw[qj];exact h.ts4,fun i T hT=>?_⟩
 ·show 0<=(actC P.c (P.ti+1)).nu/\(actC P.c (P.ti+1)).nu<=N+1;rcases zt7 P.c (P.ti+1)with q|q<;>rw[q]<;>omega
 ·show (actC P.c (P.ti+1)).ts.length<=200;rw[zmm];exact h.t200
 ·have hT':(P.ts.map (fgtT (P.ti+1)))[i]?=some T:=hT;rw[xu]at hT';cases h0:P.ts[i]? with
  |none=>rw[h0]at hT';cases hT'
  |some T0 =>
   rw[h0]at hT';obtain rfl:fgtT (P.ti+1) T0=T:=by simpa using hT'
   obtain⟨r1,r2⟩:=h.rc i T0 h0;unfold fgtT;split
   ·exact⟨r1,r2⟩
   ·refine⟨Nat.le_trans (List.length_filter_le _ _) r1,fun x hx=>r2 x ?_⟩;simp at hx;exact hx.1
variable {X:WayD}{W:Nat->Int->Int->RecD->Prop}{P:zad}
theorem zne (h:Shp X P.vs P.c)(h2:P.c.ts.length<=200)(ho:zaj P.c=false):zby P.c:=by
 have h3:=h.st;have h4:=h.p0;have h5:=h.pn;have h6:=h.len;unfold zaj at ho;have ho:=of_decide_eq_false ho;exact⟨h2,by omega⟩
theorem zph (hi:PInv X W P)(he:Ext P){N:Int}(hb:Bnd N P)(hN:N<=3000000000):zma P:=by
 have h1:=hb.ti;have h2:=he.r0;have h3:=he.r6;refine⟨he.l40,fun x hx=>?_,fun hw=>?_,h1.1,by omega,h2,by omega⟩
 ·obtain⟨q1,q2,q3⟩:=hi.nt.m0 x hx;have:=(zd4.1 q1).2.2.1;exact⟨this,q3,q1⟩
 ·refine zne hi.sh hb.t200 ?_;have:=hi.sh.st;rw[hw]at this;simp at this;unfold zaj;exact decide_eq_false (by omega)
theorem zlu (hi:PInv X W P){N:Int}(hb:Bnd N P)(hN:N<=3000000000):zhh P:=by
 have h1:=hb.ti;have h2:=hb.nu;refine⟨⟨h1.1,by omega⟩,⟨h2.1,by omega⟩,zne hi.sh hb.t200,hb.ts4,fun i T hT=>?_⟩;obtain⟨r1,r2⟩:=hb.rc i T hT;refine⟨r1,fun x hx=>⟨r2 x hx,?_⟩⟩;have:=(hi.rc.ol i T x hT hx).1;omega
end
section
open Go.RowKit
def itD:Nat->zad->zad
 |0,P=>P
 |n+1,P=>delP (itD n P) 0
theorem zo7 (n:Nat)(P:zad):itD (n+1) P=itD n (delP P 0):=by
 induction n with
 |zero=>rfl
 |succ n ih=>show delP (itD (n+1) P) 0=delP (itD n (delP P 0)) 0;rw[ih]
theorem zn2:∀ (n j:Nat) (P:zad),j<=n->(∀ i,i<j->(itD i P).ms≠[])->dlvN n P=dlvN (n-j) (itD j P)
 |n,0,P,_,_=>rfl
 |0,j+1,P,h,_=>by omega
 |n+1,j+1,P,h,hne=>by
  have h0:P.ms≠[]:=hne 0 (by omega);rw[dlvN,if_neg h0,zn2 n j (delP P 0) (by omega) (fun i hi=>by rw[<- zo7];exact hne (i+1) (by omega)),zo7]
  congr 1
  omega
theorem zo8 {X:WayD}{W:Nat->Int->Int->RecD->Prop}{P:zad}{N:Int}(hi:PInv X W P)(he:Ext P)(hb:Bnd N P):∀ n,PInv X W (itD n P)/\Ext (itD n P)/\Bnd N (itD n P)
 |0=>⟨hi,he,hb⟩
 |n+1=>by
  obtain⟨a,b,c⟩:=zo8 hi he hb n;exact⟨a.del 0,b.del 0,c.del 0⟩
variable {w0 w W:World}{L:Nat->Nat}{gb r:Nat}{b:zav}
theorem BookE.tick (h:BookE w0 w L gb r b)(hz:w0.heap.size<=gb)(x:Int):BookE w0 (w.setCell ⟨gb,6,none⟩ (.int .i64 x)) L gb r { b with ti:=x }:=by
 obtain⟨sa,ta,va,ma,sl,sc,tl,tc,vl,vc,mc,nv,h⟩:=h;have hc:=(Chg.refl (·= gb) w).set (p:=⟨gb,6,none⟩) (.inl rfl) (.int .i64 x);obtain⟨gt,tc',m,gv,vc',t,s,sv,tv,hr⟩:=h.run;refine⟨sa,ta,va,ma,sl,sc,tl,tc,vl,vc,mc,nv,h.row.set 6 _,h.lb,⟨gt,tc',m,gv,vc',t,s,sv,tv,hr.out hc (fun k hk=>by rw[hk];exact h.lb)⟩,h.low,h.bel.setCell (p:=⟨gb,6,none⟩) hz _,h.flt,h.mvs,hc.own h.nts (fun k hk e=>(h.ln k hk).2 e),h.ln⟩
theorem BookE.x (h:BookE w0 w L gb r b):w.cell? ⟨gb,5,none⟩=some (.pointer (some ⟨r,0,none⟩))/\w.cell? ⟨gb,6,none⟩=some (.int .i64 b.ti)/\w.frozen? ⟨gb,6,none⟩=false/\RunE w L r b.P:=by
 obtain⟨sa,ta,va,ma,sl,sc,tl,tc,vl,vc,mc,nv,h⟩:=h;exact⟨h.row.cell rfl,h.row.cell rfl,h.row.frozen 6,h.run⟩
theorem zk7 {X:WayD}{WW:Nat->Int->Int->RecD->Prop}{N:Int}(hi:PInv X WW b.P)(he:Ext b.P)(hb:Bnd N b.P)(hN:N<=3000000000)(hbt:0<=b.ti/\b.ti<=3000000000)(hz:w0.heap.size<=gb)(h:BookE w0 w L gb r b):Calls Tryz.prog 29 #[.pointer (some ⟨gb,0,none⟩)] w fun e W=>e=.returned (.bool true)/\∃ L',BookE w0 W L' gb r { b with P:=quiP b.P,ti:=b.ti+1 }:=by
 have hall:=fun n=>zo8 hi he hb n;have hem:=zj7 he.l40;obtain⟨k5,_,_,hrun⟩:=h.x;have c1:=zgv he.l40 hrun;have HALL:=zaa hall;have HEM:=zaa hem;have H:=zaa h;clear h hrun hall hem hi he hb;obtain⟨Q,hQ⟩:∃ Q:World->Prop,Q=fun W=>∃ L',BookE w0 W L' gb r { b with P:=quiP b.P,ti:=b.ti+1 }:=⟨_,rfl⟩;show Calls _ _ _ _ fun e W=>e=.returned (.bool true)/\(fun W=>∃ L',BookE w0 W L' gb r { b with P:=quiP b.P,ti:=b.ti+1 }) W;rw[<- hQ];have HQ:Hid (∀ W L',BookE w0 W L' gb r { b with P:=quiP b.P,ti:=b.ti+1 }->Q W):=by
  show ∀ _,_;rw[hQ];exact fun W L' h=>⟨L',h⟩
 clear hQ;obtain⟨n0,hn0⟩:∃ n0,n0=b.P.ms.length:=⟨_,rfl⟩;rw[<- hn0]at c1;have HN0:=zaa hn0;clear hn0
 go_enter Tryz.func29,Tryz.ntmps29
 go_wp2_with (first|(go_at_call 53;refine c1.mono ?_;rintro e w1 ⟨v,rfl,ho,hb1⟩;obtain⟨ad,cp,rfl⟩:∃ ad cp,v=.slice ad n0 cp:=(by rcases ho.2 with⟨q1,q2⟩|⟨g,cp,cur,q1,_⟩;exact⟨none,0,by rw[q1,q2]⟩;exact⟨_,cp,q1⟩);clear ho))
 go_loopw [3,4] (fun vl vi wr=>∃ (j:Nat) (L':Nat->Nat) (ad:Option Addr) (n cp:Nat),j<=80/\vi=.int .i64 j/\vl=.slice ad n cp/\Hid (n=(itD j b.P).ms.length)/\BookE w0 wr L' gb r { b with P:=itD j b.P }/\Hid (∀ i,i<j->(itD i b.P).ms≠[])) (fun _ i _=>80-(intOf i).toNat)
 case atStart=>exact⟨0,L,_,_,_,qd _,rfl,rfl,HN0,H.out.keep hb1,(fun i hi=>by omega)⟩
 case round =>
  obtain⟨j,L',ad',n,cp',hj,rfl,rfl,hn,hB,hne⟩:=hrel
  rename World=>w5
  have HB:=zaa hB;obtain⟨e5,e6,f6,hr5⟩:=hB.x;obtain⟨i1,i2,i3⟩:=HALL.out j;have hx0 := znn j;by_cases hgo:j<80/\0<n
  ·obtain⟨g1,g2⟩:=hgo;have hk:numB 0 ((itD j b.P).ms.length:Int)=true:=by unfold numB;simp;have:=hn.out;omega
   have c2:=(zl4 0 (zph i1 i2 i3 hN) hr5).mono fun e W q=>(⟨by rw[q.1,if_pos hk],hB.turn q.2⟩:e=Ending.returned (.int .i64 0)/\∃ L2,BookE w0 W L2 gb r { b with P:=itD (j+1) b.P });have c3:=fun (W:World) (L2:Nat->Nat) (h:BookE w0 W L2 gb r { b with P:=itD (j+1) b.P })=>zgv (P:=itD (j+1) b.P) (HALL.out (j+1)).2.1.l40 h.x.2.2.2;have hx1:(j:Int)<80:=by omega
   have hx2:(0:Int)<(n:Int):=by omega
   have HNE:Hid (∀ i,i<j+1->(itD i b.P).ms≠[]):=fun i hi=>by
    by_cases e:i=j
    ·subst e;intro q;rw[q]at hn;have:=hn.out;simp at this;omega
    ·exact hne.out i (by omega)
   clear hB hr5 i1 i2 i3 hk;obtain⟨n2,hn2⟩:∃ n2,n2=(itD (j+1) b.P).ms.length:=⟨_,rfl⟩;rw[<- hn2]at c3;have HN2:=zaa hn2;clear hn2
   go_wp2_with (first
    |(go_at_call 57;refine c2.mono ?_;rintro e w6 ⟨rfl,L2,hB6⟩;have HB6:=zaa hB6;have x5:=hB6.x.1;clear hB6)
    |(go_at_call 53;refine(c3 _ _ HB6.out).mono ?_;rintro e w7 ⟨v,rfl,ho,hb7⟩;obtain⟨ad2,cp2,rfl⟩:∃ ad cp,v=.slice ad n2 cp:=(by rcases ho.2 with⟨q1,q2⟩|⟨g,cp,cur,q1,_⟩;exact⟨none,0,by rw[q1,q2]⟩;exact⟨_,cp,q1⟩);clear ho))
   go_roundw
   case rel=>exact⟨j+1,L2,_,_,_,by omega,by go_num,rfl,HN2,HB6.out.keep hb7,HNE⟩
   case measure=>simp[intOf];omega
  ·have hD:dlvN 80 b.P=itD j b.P:=by
    rw[zn2 80 j b.P hj hne.out];by_cases e:j=80
    ·subst e;rfl
    ·have:(itD j b.P).ms=[]:=List.eq_nil_of_length_eq_zero (by have:=hn.out;omega);exact zhy this _
   have hn0:n=0:=by
    have:=HEM.out;rw[hD]at this;rw[hn.out,this];rfl
   subst hn0;have c4:=(zk9 (zlu i1 i3 hN) hr5).mono fun e W q=>(⟨q.1,hB.turn q.2⟩:e=Ending.returned (.tuple #[])/\∃ L2,BookE w0 W L2 gb r { b with P:=tckP (itD j b.P) });have HP:Hid (quiP b.P=tckP (itD j b.P)):=by show _=_;unfold quiP;rw[hD]
   clear hB hr5 i1 i2 i3 hgo hD;by_cases hj80:j<80
   ·have hx1:(j:Int)<80:=by omega
    go_wp2_with (first
     |(go_at_call 55;refine c4.mono ?_;rintro e w6 ⟨rfl,L2,hB6⟩;have HB6:=zaa hB6;obtain⟨x5,x6,y6,_⟩:=hB6.x;clear hB6))
    go_ret;exact⟨rfl,HQ.out _ L2 (by rw[HP.out];exact HB6.out.tick hz (b.ti+1))⟩
   ·obtain rfl:j=80:=by omega
    go_wp2_with (first
     |(go_at_call 55;refine c4.mono ?_;rintro e w6 ⟨rfl,L2,hB6⟩;have HB6:=zaa hB6;obtain⟨x5,x6,y6,_⟩:=hB6.x;clear hB6))
    go_ret;exact⟨rfl,HQ.out _ L2 (by rw[HP.out];exact HB6.out.tick hz (b.ti+1))⟩
end
end Go.Proofs.YtkkekopomiehlabGreatDoor
