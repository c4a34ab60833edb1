import Derived.Test.YtkkekopomiehlabGreatDoorESf9
set_option linter.unusedVariables false
set_option linter.unusedSimpArgs false
set_option maxHeartbeats 40000000
open List renaming mem_range->xe,all_eq_true->xf,getElem?_eq_some_iff->xh,range->xj,getElem?_eq_getElem->xo,mem_of_getElem?->xq,take_length->xz,drop_length->qd,any_eq_true->qe,drop_zero->qg,all_cons->qi,getD->qn
open Bool renaming and_eq_true->xg,or_eq_true->xu,eq_iff_iff->xv,true_and->qj,not_true->qk,false_or->qm
open Int renaming toNat_natCast->xm,toNat_of_nonneg->xp
open Nat renaming zero_le->xy,le_refl->qo
open Prod.mk renaming inj->qf
open Classical renaming byContradiction->qh
open Go.RowKit
set_option maxRecDepth 4000
namespace Go.Proofs.YtkkekopomiehlabGreatDoor
theorem yaad {ns nt:Nat}{ps:List PinD}(h:za7 ns nt ps=true):zfk ns nt ps:=fun p hp=>by
 unfold za7 at h;rw[xg,xf]at h;obtain⟨k,hk⟩:=List.getElem?_of_mem hp;have hkl:=(xh.1 hk).1;have:=h.2 k (xe.2 hkl);unfold pinK at this;rw[hk]at this;simp only[xg]at this;have h1:=this.1;unfold pinB numB at h1;simp only[xg,xu,decide_eq_true_eq,beq_iff_eq]at h1;obtain⟨⟨a1,a2⟩,a3⟩:=h1;refine⟨a1,?_,?_,?_,?_⟩<;>omega
theorem zii {f:zac}(h:Ord f)(p:Nat):zfk f.ss.length f.ts.length (plOf f p):=by
 unfold plOf;split
 ·rename_i v hv;have hv':=(h.parts (xq hv)).2.2.2.2;rw[qn];cases hr:v.rels[p % 3]? with
  |none=>exact fun q hq=>by simp at hq
  |some ps=>exact yaad (hv' ps (xq hr))
 ·exact fun q hq=>by simp at hq
theorem znc {ss:List ByteArray}(h8:ss.length<=8){x y:Int}(hx:-1<=x/\x<ss.length)(hy:-1<=y/\y<ss.length):crB (za9 ss) x y=((decide (x<0)||decide (y<0))||tabI ss x.toNat y.toNat):=by
 unfold crB;by_cases h1:x=-1
 ·subst h1;simp
 by_cases h2:y=-1
 ·subst h2;simp
 have e1:(x == -1)=false:=by simp[h1]
 have e2:(y == -1)=false:=by simp[h2]
 have e3:numB x 8=true:=by unfold numB;simp;omega
 have e4:numB y 8=true:=by unfold numB;simp;omega
 have e5:decide (x<0)=false:=by simp;omega
 have e6:decide (y<0)=false:=by simp;omega
 rw[e1,e2,e3,e4,e5,e6,yac9 _ (by omega) (by omega)];simp
theorem zoz {ss:List ByteArray}{nt:Nat}(h8:ss.length<=8){p q:PinD}(hp:p.w<ss.length/\p.r<ss.length/\-1<=p.w/\-1<=p.r)(hq:q.w<ss.length/\q.r<ss.length/\-1<=q.w/\-1<=q.r):gaB (za9 ss) p q=(rdB ss p q&&rdB ss q p):=by
 unfold gaB rdB;rw[znc h8 ⟨hp.2.2.1,hp.1⟩ ⟨hq.2.2.2,hq.2.1⟩,znc h8 ⟨hq.2.2.1,hq.1⟩ ⟨hp.2.2.2,hp.2.1⟩]
theorem zhj {α:Type}{l:List α}{F G:α->Bool}(h:∀ x∈l,F x=G x):l.all F=l.all G:=by
 induction l with
 |nil=>rfl
 |cons a l ih=>rw[qi,qi,h a (by simp),ih (fun x hx=>h x (by simp[hx]))]
theorem zvj {ss:List ByteArray}{ts:List Int}(h8:ss.length<=8){ps qs:List PinD}(hp:zfk ss.length ts.length ps)(hq:zfk ss.length ts.length qs):cmpA (za9 ss) ps qs=metB ss ts false ps qs:=by
 unfold cmpA metB;refine zhj fun p hpm=>zhj fun q hqm=>?_;unfold cpA meB;rw[zoz (nt:=0) h8 (hp p hpm).2 (hq q hqm).2];simp
theorem zvk {ss:List ByteArray}{ts:List Int}(h8:ss.length<=8){ps qs:List PinD}(hp:zfk ss.length ts.length ps)(hq:zfk ss.length ts.length qs):cmpF (za9 ss) ts ps qs=metB ss ts true ps qs:=by
 unfold cmpF metB;refine zhj fun p hpm=>zhj fun q hqm=>?_;unfold cpF cpA meB;rw[zoz (nt:=0) h8 (hp p hpm).2 (hq q hqm).2];have:=(hp p hpm).1;rw[show numB p.t ts.length=true by unfold numB;simp;omega];rw[show (ts.getD p.t.toNat 0 != 0)=!(ts.getD p.t.toNat 0 == 0)from rfl];generalize (ts.getD p.t.toNat 0 == 0)=c;generalize (p.t != q.t)=a;generalize (rdB ss p q&&rdB ss q p)=b;cases a<;>cases b<;>cases c<;>rfl
def eB (f:zac)(x y:Nat):Bool:=metB f.ss f.ts false (plOf f x) (plOf f y)
def kB (f:zac)(x y:Nat):Bool:=metB f.ss f.ts true (plOf f x) (plOf f y)
theorem zf0 {f:zac}(h:Ord f){p q:Nat}(hp:p<9)(hq:q<9):((zai f).alg.getD p []).getD q false=eB f p q:=by
 rw[zvg f hp hq,zvj (ts:=f.ts) h.ss8 (zii h p) (zii h q)];rfl
theorem zke {f:zac}(h:Ord f){p q:Nat}(hp:p<9)(hq:q<9):((zai f).fev.getD p []).getD q false=kB f p q:=by
 rw[zvh f hp hq,zvk h.ss8 (zii h p) (zii h q)];rfl
def nowI (f:zac)(s:Nat):Int:=match f.vs[s]? with|some v=>v.now|none=>0
def mvAt (ms:List (Int×Int))(j:Nat):Int×Int:=ms.getD j (-1,0)
def rmB (f:zac)(ms:List (Int×Int))(j:Nat):Bool:=(numB (mvAt ms j).1 f.vs.length&&numB (mvAt ms j).2 (rlen f.vs (mvAt ms j).1.toNat))&&!(hasI (nowI f (mvAt ms j).1.toNat) ms (mvAt ms j).1 j == (mvAt ms j).2)
def plc (m:Int×Int):Nat:=m.1.toNat * 3+m.2.toNat
def hsP (f:zac)(ms:List (Int×Int))(j s:Nat):Nat:=s*3+(hasI (nowI f s) ms s j).toNat
def nwP (f:zac)(s:Nat):Nat:=s*3+(nowI f s).toNat
def rsB (f:zac)(ms:List (Int×Int))(j:Nat):Bool :=
 eB f (plc (mvAt ms j)) (plc (mvAt ms j))&&((xj f.vs.length).all fun s=>eB f (plc (mvAt ms j)) (hsP f ms j s))&&(((xj f.vs.length).all fun s=>kB f (plc (mvAt ms j)) (nwP f s))&&(xj j).all fun i=>kB f (plc (mvAt ms j)) (plc (mvAt ms i)))
def rndB (f:zac):Bool:=(xj f.vs.length).all fun s=>(xj f.vs.length).all fun t=>eB f (nwP f s) (nwP f t)
def rN (F:Nat->Bool):Nat->Nat->Nat
 |0,j=>j
 |n+1,j=>if F j=true then rN F n (j+1) else j
theorem yabl {vs:List SvcD}{s:Nat}{v:SvcD}(h:vs[s]?=some v):rlen vs s=v.rels.length:=by unfold rlen;rw[h]
theorem zib {f:zac}{s:Nat}{v:SvcD}(h:f.vs[s]?=some v):nowI f s=v.now:=by unfold nowI;rw[h]
theorem zg2 (f:zac)(x y:Nat)(hy:y<3):thB f (x*3+y)=(decide (x<f.vs.length)&&decide (y<rlen f.vs x)):=by
 unfold thB rlen;rw[show (x*3+y) / 3=x by omega,show (x*3+y) % 3=y by omega];cases h:f.vs[x]? with
 |none=>simp
 |some v=>have:=(xh.1 h).1;simp[this]
theorem zgi {f:zac}(p:Nat):fsB f p=(thB f p&&(nowI f (p / 3) == ((p % 3:Nat):Int))):=by
 unfold fsB thB nowI;cases h:f.vs[p / 3]? with
 |none=>simp
 |some v =>
  simp only;rw[show (((p % 3:Nat):Int) == v.now)=(v.now == ((p % 3:Nat):Int))from Bool.beq_comm]
theorem Ord.rl {f:zac}(h:Ord f){s:Nat}(hs:s<f.vs.length):1<=rlen f.vs s/\rlen f.vs s<=3/\0<=nowI f s/\nowI f s<rlen f.vs s:=by
 obtain⟨v,hv⟩:∃ v,f.vs[s]?=some v:=⟨f.vs[s],xo hs⟩;have:=h.parts (xq hv);rw[yabl hv,zib hv];exact⟨this.1,this.2.1,this.2.2.1.1,this.2.2.1.2⟩
structure St (f:zac)(ms:List (Int×Int))(j:Nat)(S:SiD):Prop where
 ok:S.ok
 has:∀ p,p<9->S.has.getD p false=(thB f p&&(hasI (nowI f (p / 3)) ms ((p / 3:Nat):Int) j == ((p % 3:Nat):Int)))
 had:∀ p,p<9->S.had.getD p false=(fsB f p||(xj j).any fun i=>plc (mvAt ms i) == p)
theorem St.zero {f:zac}{ms:List (Int×Int)}:St f ms 0 (begD (zai f)):=by
 refine⟨zd1 (zf9 f),fun p hp=>?_,fun p hp=>?_⟩
 ·show (zai f).fst.getD p false=_;rw[zfc f hp,zgi];rfl
 ·show (zai f).fst.getD p false=_;rw[zfc f hp];simp
theorem ze3 {f:zac}{ms:List (Int×Int)}{j:Nat}(ho:Ord f)(h:rmB f ms j=true):∃ x y:Nat,mvAt ms j=(((x:Nat):Int),((y:Nat):Int))/\x<f.vs.length/\y<rlen f.vs x/\x<3/\y<3/\hasI (nowI f x) ms x j≠y:=by
 unfold rmB numB at h;simp only[xg,decide_eq_true_eq,Bool.not_eq_true']at h;obtain⟨⟨⟨a1,a2⟩,a3,a4⟩,a5⟩:=h;have h3:=ho.vs3;have hr:=(ho.rl (s:=(mvAt ms j).1.toNat) (by omega)).2.1;refine⟨(mvAt ms j).1.toNat,(mvAt ms j).2.toNat,?_,by omega,by omega,by omega,by omega,?_⟩
 ·rw[xp a1,xp a3]
 ·rw[xp a1,xp a3];intro hc;rw[hc]at a5;simp at a5
theorem zk5 {x y:Nat}(hx:x<3)(hy:y<3):plI (x:Int) (y:Int)=((x*3+y:Nat):Int):=by
 unfold plI;rw[show numB (x:Int) 3=true by unfold numB;simp;omega,show numB (y:Int) 3=true by unfold numB;simp;omega];simp
theorem zo1 {l:List Bool}{i p:Nat}{b:Bool}(hi:i<l.length):(l.set i b).getD p false=if i=p then b else l.getD p false:=by
 rw[qn,List.getElem?_set];by_cases h:i=p
 ·rw[if_pos h,if_pos hi,if_pos h];rfl
 ·rw[if_neg h,if_neg h];rfl
theorem zgj {now:Int}{ms:List (Int×Int)}{s:Int}{j:Nat}:hasI now ms s (j+1)=if (mvAt ms j).1=s then (mvAt ms j).2 else hasI now ms s j:=rfl
theorem St.step {f:zac}{ms:List (Int×Int)}{j:Nat}{S:SiD}(ho:Ord f)(h:St f ms j S)(hm:rmB f ms j=true):St f ms (j+1) (aft S (plI (mvAt ms j).1 (mvAt ms j).2)):=by
 obtain⟨x,y,hxy,hx,hy,hx3,hy3,hne⟩:=ze3 ho hm;rw[hxy];simp only;rw[zk5 hx3 hy3];refine⟨zfz h.ok _,fun p hp=>?_,fun p hp=>?_⟩
 ·unfold aft;rw[if_pos (by omega),xm];unfold aftD;simp only;rw[zo1 (by simp;omega),ze4 _ _ hp,zgj,hxy];simp only;by_cases h1:p / 3=x
  ·rw[if_pos (show ((x:Nat):Int)=((p / 3:Nat):Int) by omega)];by_cases h2:x*3+y=p
   ·rw[if_pos h2,<- h2,zg2 f x y hy3,show (x*3+y) % 3=y by omega];simp[hx,hy]
   ·rw[if_neg h2,if_pos (by omega),show (((y:Nat):Int) == ((p % 3:Nat):Int))=false by simp;omega];simp
  ·rw[if_neg (by omega),if_neg (by omega),if_neg (by omega)];exact h.has p hp
 ·unfold aft;rw[if_pos (by omega),xm];unfold aftD;simp only;rw[zo1 (by rw[h.ok.2];omega),List.range_succ,List.any_append,h.had p hp,show ([j].any fun i=>plc (mvAt ms i) == p)=(x*3+y == p) by simp[plc,hxy]];by_cases h2:x*3+y=p
  ·rw[if_pos h2];simp[h2]
  ·rw[if_neg h2];rw[show (x*3+y == p)=false by simp[h2]];rw[Bool.or_false]
theorem zo2 {f:zac}{ms:List (Int×Int)}(ho:Ord f){s:Nat}(hs:s<f.vs.length):∀ j,(∀ i,i<j->rmB f ms i=true)->0<=hasI (nowI f s) ms s j/\hasI (nowI f s) ms s j<rlen f.vs s
 |0,_=>(ho.rl hs).2.2
 |j+1,h=>by
  rw[zgj];obtain⟨x,y,hxy,hx,hy,_⟩:=ze3 ho (h j (by omega));rw[hxy];simp only;by_cases hc:((x:Nat):Int)=(s:Int)
  ·rw[if_pos hc];obtain rfl:x=s:=by omega
   omega
  ·rw[if_neg hc];exact zo2 ho hs j (fun i hi=>h i (by omega))
theorem zyg {f:zac}{ms:List (Int×Int)}{j:Nat}{S:SiD}(ho:Ord f)(h:St f ms j S):mvB (zai f) S (plI (mvAt ms j).1 (mvAt ms j).2)=rmB f ms j:=by
 have h3:=ho.vs3;by_cases hin:(0<=(mvAt ms j).1/\(mvAt ms j).1<3)/\0<=(mvAt ms j).2/\(mvAt ms j).2<3
 ·obtain⟨x,hx⟩:∃ x:Nat,(mvAt ms j).1=x:=⟨(mvAt ms j).1.toNat,by omega⟩;obtain⟨y,hy⟩:∃ y:Nat,(mvAt ms j).2=y:=⟨(mvAt ms j).2.toNat,by omega⟩;unfold mvB rmB;rw[hx,hy]at hin ⊢;rw[zk5 (by omega) (by omega),xm,xm,zvi f (by omega),h.has _ (by omega),zg2 f x y (by omega),show (x*3+y) / 3=x by omega,show (x*3+y) % 3=y by omega];rw[show numB ((x*3+y:Nat):Int) 9=true by unfold numB;simp;omega,show numB (x:Int) f.vs.length=decide (x<f.vs.length) by unfold numB;simp,show numB (y:Int) (rlen f.vs x)=decide (y<rlen f.vs x) by unfold numB;simp];cases decide (x<f.vs.length)<;>cases decide (y<rlen f.vs x)<;>simp
 ·have e1:plI (mvAt ms j).1 (mvAt ms j).2=-1:=by
   unfold plI;rw[if_neg];unfold numB;simp only[xg,decide_eq_true_eq];exact hin
  rw[e1];have e2:mvB (zai f) S (-1)=false:=by unfold mvB numB;simp
  rw[e2];cases hr:rmB f ms j with
  |false=>rfl
  |true =>
   exfalso;obtain⟨x,y,hxy,_,_,hx3,hy3,_⟩:=ze3 ho hr;rw[hxy]at hin;simp only at hin;omega
theorem zpm {c:ChD}{S:SiD}{ms:List (Int×Int)}{j:Nat}(hj:j<ms.length):ms.drop j=mvAt ms j::ms.drop (j+1):=by
 rw[List.drop_eq_getElem_cons hj];simp[mvAt,qn,xo hj]
theorem zpn {f:zac}{ms:List (Int×Int)}(ho:Ord f):∀ (n j:Nat) (S:SiD),n=ms.length-j->j<=ms.length->St f ms j S->(∀ i,i<j->rmB f ms i=true)->mvsB (zai f) S (ms.drop j)=(xj ms.length).all (rmB f ms)
 |0,j,S,hn,hj,hS,hall=>by
  obtain rfl:j=ms.length:=by omega
  rw[qd,mvsB,eq_comm,xf];exact fun i hi=>hall i (xe.1 hi)
 |n+1,j,S,hn,hj,hS,hall=>by
  rw[zpm (c:=zai f) (S:=S) (by omega),mvsB,zyg ho hS];cases hr:rmB f ms j with
  |false=>rw[Bool.false_and];exact(zjk (show j<ms.length by omega) hr).symm
  |true =>
   rw[qj];exact zpn ho n (j+1) _ (by omega) (by omega) (hS.step ho hr) (fun i hi=>by
    rcases Nat.lt_succ_iff_lt_or_eq.1 hi with h|h
    ·exact hall i h
    ·rw[h];exact hr)
theorem yacf {f:zac}{ms:List (Int×Int)}{j:Nat}{S:SiD}(ho:Ord f)(h:St f ms j S)(hall:∀ i,i<j->rmB f ms i=true)(hm:rmB f ms j=true):sfB (zai f) S (plI (mvAt ms j).1 (mvAt ms j).2)=rsB f ms j:=by
 obtain⟨x,y,hxy,hx,hy,hx3,hy3,hne⟩:=ze3 ho hm;have h3:=ho.vs3;have hp9:x*3+y<9:=by omega
 have hpl:plc (mvAt ms j)=x*3+y:=by rw[hxy];simp[plc]
 unfold sfB rsB;rw[hpl,hxy];simp only;rw[zk5 hx3 hy3,xm,zf0 ho hp9 hp9,show numB ((x*3+y:Nat):Int) 9=true by unfold numB;simp;omega,qj];have e1:algB S.has ((zai f).alg.getD (x*3+y) [])=(xj f.vs.length).all fun s=>eB f (x*3+y) (hsP f ms j s):=by
  rw[xv];unfold algB;rw[xf,xf];constructor
  ·intro H s hs;have hs:=xe.1 hs;have hin:=zo2 (ms:=ms) ho hs j hall;have hr:=ho.rl hs;have hlt:hsP f ms j s<9:=by unfold hsP;omega
   have:=H (hsP f ms j s) (xe.2 hlt);rw[h.has _ hlt,zf0 ho hp9 hlt]at this;have e:hsP f ms j s=s*3+(hasI (nowI f s) ms s j).toNat:=rfl;rw[e,zg2 f s _ (by omega),show (s*3+(hasI (nowI f s) ms s j).toNat) / 3=s by omega,show (s*3+(hasI (nowI f s) ms s j).toNat) % 3=(hasI (nowI f s) ms s j).toNat by omega]at this;rw[show decide (s<f.vs.length)=true by simp[hs],show decide ((hasI (nowI f s) ms s j).toNat<rlen f.vs s)=true by simp;omega,show (hasI (nowI f s) ms s j == (((hasI (nowI f s) ms s j).toNat:Nat):Int))=true by simp;omega]at this;show eB f (x*3+y) (s*3+(hasI (nowI f s) ms s j).toNat)=true;simpa using this
  ·intro H p hp;have hp:=xe.1 hp;rw[h.has _ hp,zf0 ho hp9 hp];cases ht:thB f p with
   |false=>simp
   |true =>
    obtain⟨v,hv,hr⟩:=zlt ht;have hs:=(xh.1 hv).1;by_cases hc:hasI (nowI f (p / 3)) ms ((p / 3:Nat):Int) j=((p % 3:Nat):Int)
    ·have:=H (p / 3) (xe.2 hs);unfold hsP at this;rw[hc,xm,show p / 3*3+p % 3=p by omega]at this;simp[this]
    ·rw[beq_false_of_ne hc];simp
 have e2:algB S.had ((zai f).fev.getD (x*3+y) [])=(((xj f.vs.length).all fun s=>kB f (x*3+y) (nwP f s))&&(xj j).all fun i=>kB f (x*3+y) (plc (mvAt ms i))):=by
  rw[xv];unfold algB;rw[xg,xf,xf,xf];constructor
  ·intro H;constructor
   ·intro s hs;have hs:=xe.1 hs;have hr:=ho.rl hs;have hlt:nwP f s<9:=by unfold nwP;omega
    have:=H (nwP f s) (xe.2 hlt);rw[h.had _ hlt,zke ho hp9 hlt]at this;have ef:fsB f (nwP f s)=true:=by
     have e:nwP f s=s*3+(nowI f s).toNat:=rfl;rw[zgi,e,zg2 f s _ (by omega),show (s*3+(nowI f s).toNat) / 3=s by omega,show (s*3+(nowI f s).toNat) % 3=(nowI f s).toNat by omega];rw[show decide (s<f.vs.length)=true by simp[hs],show decide ((nowI f s).toNat<rlen f.vs s)=true by simp;omega,show (nowI f s == (((nowI f s).toNat:Nat):Int))=true by simp;omega];rfl
    rw[ef]at this;simpa using this
   ·intro i hi;have hi:=xe.1 hi;obtain⟨x',y',hxy',hx',hy',hx3',hy3',_⟩:=ze3 ho (hall i hi);have hpl':plc (mvAt ms i)=x'*3+y':=by rw[hxy'];simp[plc]
    have hlt:plc (mvAt ms i)<9:=by omega
    have:=H (plc (mvAt ms i)) (xe.2 hlt);rw[h.had _ hlt,zke ho hp9 hlt]at this;have ea:((xj j).any fun k=>plc (mvAt ms k) == plc (mvAt ms i))=true:=by
     rw[qe];exact⟨i,xe.2 hi,by simp⟩
    rw[ea]at this;simpa using this
  ·rintro ⟨H1,H2⟩ p hp;have hp:=xe.1 hp;rw[h.had _ hp,zke ho hp9 hp];cases hf:fsB f p with
   |true =>
    rw[zgi,xg]at hf;obtain⟨v,hv,hr⟩:=zlt hf.1;have hs:=(xh.1 hv).1;have hn:nowI f (p / 3)=((p % 3:Nat):Int):=by simpa using hf.2
    have:=H1 (p / 3) (xe.2 hs);unfold nwP at this;rw[hn,xm,show p / 3*3+p % 3=p by omega]at this;simp[this]
   |false =>
    cases ha:(xj j).any fun i=>plc (mvAt ms i) == p with
    |false=>simp
    |true =>
     rw[qe]at ha;obtain⟨i,hi,he⟩:=ha;have:=H2 i hi;rw[show plc (mvAt ms i)=p by simpa using he]at this;simp[this]
 rw[e1,e2]
theorem zrw {f:zac}{ms:List (Int×Int)}(ho:Ord f)(hv:∀ i,i<ms.length->rmB f ms i=true):∀ (n j:Nat) (S:SiD),n=ms.length-j->j<=ms.length->St f ms j S->sfN (zai f) S (ms.drop j)+j=rN (rsB f ms) n j
 |0,j,S,hn,hj,hS=>by
  obtain rfl:j=ms.length:=by omega
  rw[qd,sfN,rN];omega
 |n+1,j,S,hn,hj,hS=>by
  rw[zpm (c:=zai f) (S:=S) (by omega),sfN,rN,yacf ho hS (fun i hi=>hv i (by omega)) (hv j (by omega))];by_cases hr:rsB f ms j=true
  ·rw[if_pos hr,if_pos hr,<- zrw ho hv n (j+1) _ (by omega) (by omega) (hS.step ho (hv j (by omega)))];omega
  ·rw[if_neg hr,if_neg hr];omega
theorem yacm {f:zac}(ho:Ord f):sndB (zai f)=rndB f:=by
 have h3:=ho.vs3;rw[xv];unfold sndB rndB algB;rw[xf,xf];have hn:∀ s,s<f.vs.length->nwP f s<9/\fsB f (nwP f s)=true:=fun s hs=>by
  have hr:=ho.rl hs;refine⟨by unfold nwP;omega,?_⟩;have e:nwP f s=s*3+(nowI f s).toNat:=rfl;rw[zgi,e,zg2 f s _ (by omega),show (s*3+(nowI f s).toNat) / 3=s by omega,show (s*3+(nowI f s).toNat) % 3=(nowI f s).toNat by omega];rw[show decide (s<f.vs.length)=true by simp[hs],show decide ((nowI f s).toNat<rlen f.vs s)=true by simp;omega,show (nowI f s == (((nowI f s).toNat:Nat):Int))=true by simp;omega];rfl
 have hb:∀ p,p<9->fsB f p=true->∃ s,s<f.vs.length/\p=nwP f s:=fun p hp hf=>by
  rw[zgi,xg]at hf;obtain⟨v,hv,hr⟩:=zlt hf.1;have hs:=(xh.1 hv).1;have hn:nowI f (p / 3)=((p % 3:Nat):Int):=by simpa using hf.2
  refine⟨p / 3,hs,?_⟩;unfold nwP;rw[hn,xm];omega
 constructor
 ·intro H s hs;have hs:=xe.1 hs;rw[xf];intro t ht;have ht:=xe.1 ht;obtain⟨a1,a2⟩:=hn s hs;obtain⟨b1,b2⟩:=hn t ht;have:=H (nwP f s) (xe.2 a1);rw[zfc f a1,a2]at this;simp only[qk,qm]at this;rw[xf]at this;have:=this (nwP f t) (xe.2 b1);rw[zfc f b1,b2,zf0 ho a1 b1]at this;simpa using this
 ·intro H p hp;have hp:=xe.1 hp;rw[zfc f hp];cases hf:fsB f p with
  |false=>simp
  |true =>
   obtain⟨s,hs,rfl⟩:=hb p hp hf;simp only[qk,qm];rw[xf];intro q hq;have hq:=xe.1 hq;rw[zfc f hq,zf0 ho hp hq];cases hg:fsB f q with
   |false=>simp
   |true =>
    obtain⟨t,ht,rfl⟩:=hb q hq hg;have:=H s (xe.2 hs);rw[xf]at this;simp[this t (xe.2 ht)]
theorem zia {ss:List ByteArray}{ts:List Int}{kept:Bool}{ps qs:List PinD}:metB ss ts kept ps qs=true↔∀ p∈ps,∀ q∈qs,p.t=q.t->(kept=true->ts.getD p.t.toNat 0=0)->rdB ss p q=true/\rdB ss q p=true:=by
 unfold metB;rw[xf];refine⟨fun h p hp q hq h1 h2=>?_,fun h p hp=>?_⟩
 ·have:=xf.1 (h p hp) q hq;unfold meB at this;simp only[xu,xg,bne_iff_ne,ne_eq]at this;rcases this with(h3|⟨h3,h4⟩)|h3
  ·exact(h3 h1).elim
  ·exact(h4 (h2 h3)).elim
  ·exact h3
 ·rw[xf];intro q hq;unfold meB;simp only[xu,xg,bne_iff_ne,ne_eq];by_cases h1:p.t=q.t
  ·by_cases h2:kept=true->ts.getD p.t.toNat 0=0
   ·exact .inr (h p hp q hq h1 h2)
   ·exact .inl (.inr ⟨qh fun h3=>h2 fun h4=>(h3 h4).elim,fun h3=>h2 fun _=>h3⟩)
  ·exact .inl (.inl h1)
theorem yaaz {ss:List ByteArray}{p q:PinD}:rdB ss p q=true↔(0<=p.w->0<=q.r->tabI ss p.w.toNat q.r.toNat=true):=by
 unfold rdB;simp only[xu,decide_eq_true_eq];constructor
 ·intro h h1 h2;rcases h with(h|h)|h
  iterate 2
   ·omega
  ·exact h
 ·intro h;by_cases h1:p.w<0
  ·exact .inl (.inl h1)
  ·by_cases h2:q.r<0
   ·exact .inl (.inr h2)
   ·exact .inr (h (by omega) (by omega))
theorem zlh {f:zac}{ms:List (Int×Int)}(ho:Ord f)(hob:ordB f=true):zbd f ms=if ms.length<=200/\(xj ms.length).all (rmB f ms)=true then (if rndB f=true then (((rN (rsB f ms) ms.length 0:Nat):Int),(0:Int)) else (0,10)) else (0,9):=by
 unfold zbd;rw[if_pos hob];have h1:=zpn (ms:=ms) ho ms.length 0 _ (by omega) (xy _) St.zero (fun i hi=>by omega);rw[qg]at h1;have ham:amB (zai f) ms=true↔ms.length<=200/\(xj ms.length).all (rmB f ms)=true:=by
  unfold amB;rw[xg,decide_eq_true_eq,h1]
 by_cases hc:ms.length<=200/\(xj ms.length).all (rmB f ms)=true
 ·rw[if_pos hc,if_pos (ham.2 hc),yacm ho];have h2:=zrw (ms:=ms) ho (fun i hi=>xf.1 hc.2 i (xe.2 hi)) ms.length 0 _ (by omega) (xy _) St.zero;rw[qg,Nat.add_zero]at h2;rw[h2]
 ·rw[if_neg hc,if_neg (fun h=>hc (ham.1 h))]
theorem zq2 {F:Nat->Bool}:∀ n j,rN F n j=j+n->∀ i,j<=i->i<j+n->F i=true
 |0,j,_,i,h1,h2=>by omega
 |n+1,j,h,i,h1,h2=>by
  rw[rN]at h;by_cases e:F j=true
  ·rw[if_pos e]at h;by_cases e2:i=j
   ·rw[e2];exact e
   ·exact zq2 n (j+1) (by omega) i (by omega) (by omega)
  ·rw[if_neg e]at h;omega
structure Sfe (f:zac)(ms:List (Int×Int)):Prop where
 ob:ordB f=true
 l200:ms.length<=200
 rm:∀ j,j<ms.length->rmB f ms j=true
 rs:∀ j,j<ms.length->rsB f ms j=true
 rnd:rndB f=true
theorem zlm {f:zac}{ms:List (Int×Int)}(h:zbd f ms=((ms.length:Int),0)):Sfe f ms:=by
 have hob:ordB f=true:=by
  cases e:ordB f with
  |true=>rfl
  |false=>unfold zbd at h;rw[e]at h;simp at h
 rw[zlh (zb3 hob) hob]at h;split at h
 ·rename_i hc;split at h
  ·rename_i hr;have h1:rN (rsB f ms) ms.length 0=0+ms.length:=by
    have:=(qf h).1;omega
   exact⟨hob,hc.1,fun j hj=>xf.1 hc.2 j (xe.2 hj),fun j hj=>zq2 _ 0 h1 j (xy _) (by omega),hr⟩
  ·exact absurd (qf h).2 (by decide)
 ·exact absurd (qf h).2 (by decide)
theorem zrn {f:zac}{ms:List (Int×Int)}(h:Sfe f ms):zbd f ms=((ms.length:Int),0):=by
 rw[zlh (zb3 h.ob) h.ob,if_pos ⟨h.l200,xf.2 fun j hj=>h.rm j (xe.1 hj)⟩,if_pos h.rnd];have key:∀ n j,j+n<=ms.length->rN (rsB f ms) n j=j+n:=fun n=>by
  induction n with
  |zero=>intro j _;rfl
  |succ n ih=>intro j hj;rw[rN,if_pos (h.rs j (by omega)),ih (j+1) (by omega)];omega
 rw[key ms.length 0 (by omega),Nat.zero_add]
theorem zkq {ss:List ByteArray}{ts:List Int}{k:Bool}{ps qs:List PinD}(h:metB ss ts k ps qs=true):metB ss ts k qs ps=true:=by
 rw[zia]at h ⊢;exact fun q hq p hp e hk=>(h p hp q hq e.symm (by rw[<- e];exact hk)).symm
theorem zpg {ss:List ByteArray}{ts:List Int}{ps qs:List PinD}(h:metB ss ts false ps qs=true):metB ss ts true ps qs=true:=by
 rw[zia]at h ⊢;exact fun p hp q hq e _=>h p hp q hq e (fun h=>by cases h)
def zb8 (f:zac)(ms:List (Int×Int)):WayD:=⟨ms.length,fun k s=>hasI (nowI f s.toNat) ms s k⟩
theorem zh4 {f:zac}{ms:List (Int×Int)}{j s:Nat}:hsP f ms (j+1) s=if (mvAt ms j).1=(s:Int) then plc (mvAt ms j) else hsP f ms j s:=by
 unfold hsP;rw[zgj];split
 ·rename_i e;unfold plc;rw[e];rfl
 ·rfl
theorem Sfe.e {f:zac}{ms:List (Int×Int)}(h:Sfe f ms):∀ j,j<=ms.length->∀ s u,s<f.vs.length->u<f.vs.length->eB f (hsP f ms j s) (hsP f ms j u)=true
 |0,_,s,u,hs,hu=>xf.1 (xf.1 h.rnd s (xe.2 hs)) u (xe.2 hu)
 |j+1,hj,s,u,hs,hu=>by
  have hr:=h.rs j (by omega);unfold rsB at hr;simp only[xg]at hr;obtain⟨⟨h1,h2⟩,h3⟩:=hr;have h2':∀ s,s<f.vs.length->eB f (plc (mvAt ms j)) (hsP f ms j s)=true:=fun s hs=>xf.1 h2 s (xe.2 hs);have ih:=h.e j (by omega) s u hs hu;rw[zh4,zh4];split
  ·split
   ·exact h1
   ·exact h2' u hu
  ·split
   ·exact zkq (h2' s hs)
   ·exact ih
theorem Sfe.e1 {f:zac}{ms:List (Int×Int)}(h:Sfe f ms){j s u:Nat}(hj:j<ms.length)(hs:s<f.vs.length)(hu:u<f.vs.length):eB f (hsP f ms (j+1) s) (hsP f ms j u)=true:=by
 have hr:=h.rs j (by omega);unfold rsB at hr;simp only[xg]at hr;rw[zh4];split
 ·exact xf.1 hr.1.2 u (xe.2 hu)
 ·exact h.e j (by omega) s u hs hu
def Ben (f:zac)(ms:List (Int×Int))(j p:Nat):Prop:=(∃ s,s<f.vs.length/\p=nwP f s)\/∃ i,i<j/\p=plc (mvAt ms i)
theorem zjp {f:zac}{ms:List (Int×Int)}{s:Nat}(hs:s<f.vs.length):∀ j,Ben f ms j (hsP f ms j s)
 |0=>.inl ⟨s,hs,rfl⟩
 |j+1=>by
  rw[zh4];split
  ·exact .inr ⟨j,by omega,rfl⟩
  ·rcases zjp hs j with q|⟨i,q1,q2⟩
   ·exact .inl q
   ·exact .inr ⟨i,by omega,q2⟩
theorem Sfe.k {f:zac}{ms:List (Int×Int)}(h:Sfe f ms):∀ j,j<=ms.length->∀ p q,Ben f ms j p->Ben f ms j q->kB f p q=true
 |0,_,p,q,hp,hq=>by
  rcases hp with⟨s,hs,rfl⟩|⟨i,hi,_⟩
  ·rcases hq with⟨u,hu,rfl⟩|⟨i,hi,_⟩
   ·exact zpg (xf.1 (xf.1 h.rnd s (xe.2 hs)) u (xe.2 hu))
   ·omega
  ·omega
 |j+1,hj,p,q,hp,hq=>by
  have hr:=h.rs j (by omega);unfold rsB at hr;simp only[xg]at hr;obtain⟨⟨h1,h2⟩,h3,h4⟩:=hr;have part:∀ p,Ben f ms (j+1) p->Ben f ms j p\/p=plc (mvAt ms j):=fun p hp=>by
   rcases hp with q|⟨i,q1,q2⟩
   ·exact .inl (.inl q)
   ·by_cases e:i=j
    ·subst e;exact .inr q2
    ·exact .inl (.inr ⟨i,by omega,q2⟩)
  have key:∀ p,Ben f ms j p->kB f (plc (mvAt ms j)) p=true:=fun p hp=>by
   rcases hp with⟨s,hs,rfl⟩|⟨i,hi,rfl⟩
   ·exact xf.1 h3 s (xe.2 hs)
   ·exact xf.1 h4 i (xe.2 hi)
  rcases part p hp with q1|q1<;>rcases part q hq with q2|q2
  ·exact h.k j (by omega) p q q1 q2
  ·rw[q2];exact zkq (key p q1)
  ·rw[q1];exact key q q2
  ·rw[q1,q2];exact zpg h1
theorem Ben.mono {f:zac}{ms:List (Int×Int)}{i j p:Nat}(hij:i<=j)(h:Ben f ms i p):Ben f ms j p:=h.imp id fun ⟨k,h1,h2⟩=>⟨k,by omega,h2⟩
theorem Sfe.meet {f:zac}{ms:List (Int×Int)}(h:Sfe f ms){u s:Nat}(hu:u<f.vs.length)(hs:s<f.vs.length){k k':Nat}(hk:k<=ms.length)(hk':k'<=ms.length){t:Nat}
  (hm:(f.ts.getD t 0=0)\/(k<=k'+1/\k'<=k+1)) {p q:PinD} (hp:p∈plOf f (hsP f ms k u)) (hq:q∈plOf f (hsP f ms k' s)) (hpt:p.t=(t:Int)) (hqt:q.t=(t:Int)):rdB f.ss p q=true:=by
 rcases hm with hm|hm
 ·have:=h.k ms.length (qo _) _ _ ((zjp (ms:=ms) hu k).mono hk) ((zjp (ms:=ms) hs k').mono hk');unfold kB at this;rw[zia]at this;exact(this p hp q hq (by rw[hpt,hqt]) (fun _=>by rw[hpt];simpa using hm)).1
 ·have:eB f (hsP f ms k u) (hsP f ms k' s)=true:=by
   rcases Nat.lt_trichotomy k k' with e|e|e
   ·obtain rfl:k'=k+1:=by omega
    exact zkq (h.e1 (by omega) hs hu)
   ·subst e;exact h.e k hk u s hu hs
   ·obtain rfl:k=k'+1:=by omega
    exact h.e1 (by omega) hu hs
  unfold eB at this;rw[zia]at this;exact(this p hp q hq (by rw[hpt,hqt]) (fun h=>by cases h)).1
def rstN (ts:List Int):Int:=ts.foldl (fun a k=>if a<k then k else a) 0
theorem zrl {ts:List Int}{j:Nat}{k:Int}(h:ts[j]?=some k):rstN (ts.take (j+1))=if rstN (ts.take j)<k then k else rstN (ts.take j):=by
 unfold rstN;rw[List.take_add_one,h,List.foldl_append];rfl
theorem yabo {ts:List Int}:∀ (j:Nat) (k:Int),ts[j]?=some k->k<=rstN ts:=by
 have key:∀ n,n<=ts.length->∀ j k,j<n->ts[j]?=some k->k<=rstN (ts.take n):=fun n=>by
  induction n with
  |zero=>intro _ j k hj;omega
  |succ n ih =>
   intro hn j k hj hk;obtain⟨x,hx⟩:∃ x,ts[n]?=some x:=⟨ts[n]'(by omega),xo _⟩;rw[zrl hx];by_cases e:j=n
   ·subst e;rw[hk]at hx;cases hx;split<;>omega
   ·have:=ih (by omega) j k (by omega) hk;split<;>omega
 intro j k hk;have:=key ts.length (qo _) j k (xh.1 hk).1 hk;rw[xz]at this;exact this
theorem yabp {ts:List Int}{M:Int}(hM:0<=M)(h:∀ k∈ts,k<=M):0<=rstN ts/\rstN ts<=M:=by
 unfold rstN;have key:∀ (l:List Int) (a:Int),0<=a->a<=M->(∀ k∈l,k<=M)->0<=l.foldl (fun a k=>if a<k then k else a) a/\l.foldl (fun a k=>if a<k then k else a) a<=M:=fun l=>by
  induction l with
  |nil=>exact fun a h0 h1 _=>⟨h0,h1⟩
  |cons x l ih =>
   intro a h0 h1 hl;rw[List.foldl_cons];have:=hl x (by simp);refine ih _ ?_ ?_ (fun k hk=>hl k (by simp[hk]))
   iterate 2
    ·split<;>omega
 exact key ts 0 (Int.le_refl _) hM h
theorem yabk (ts:List Int)(w:World)(ta:Option Addr)(tc:Nat)(hl:ts.length<=4)(ht:IntsAt w ta ts):Calls Tryz.prog 200 #[.slice ta ts.length tc] w fun e W=>e=.returned (.int .i64 (rstN ts))/\Below w.heap.size w W:=by
 obtain⟨n,hn⟩:∃ n,n=ts.length:=⟨_,rfl⟩;rw[<- hn]at hl ⊢;have HN:=zaa hn;have HT:=zaa ht;clear hn ht;obtain⟨R,hR⟩:∃ R,R=rstN ts:=⟨_,rfl⟩;rw[<- hR];have HR:=zaa hR;clear hR
 go_enter Tryz.func200,Tryz.ntmps200
 go_wp2_with fail
 go_loopw [3,8] (fun va vi wr=>∃ (j:Nat) (a:Int),j<=n/\vi=.int .i64 j/\va=.int .i64 a/\Hid (a=rstN (ts.take j))/\Below w.heap.size w wr) (fun _ i _=>n-(intOf i).toNat)
 case atStart=>exact⟨0,0,xy _,rfl,rfl,(by show _=_;rfl),Below.refl _ _⟩
 case round =>
  obtain⟨j,a,hj,rfl,rfl,ha,hb⟩:=hrel
  rename World=>w5
  have hx0 := znn j;by_cases hlt:j<n
  ·obtain⟨k,hk⟩:∃ k,ts[j]?=some k:=⟨ts[j]'(by rw[<- HN.out];exact hlt),xo _⟩;obtain⟨b,o,rfl,c0⟩:=HT.out j k hk;have c0:=zab hb c0;have lb:=zag c0;have hx1:(j:Int)<(n:Int):=by omega
   have HE:=zaa (zrl hk);have HB:=zaa hb;have zb:=hb.size;clear hb hk;by_cases hak:a<k
   ·go_wp2_with fail
    go_roundw
    case rel=>exact⟨j+1,k,by omega,by go_num,rfl,by show _=_;rw[HE.out,<- ha.out,if_pos hak],HB.out.alloc (by omega) _⟩
    case measure=>simp[intOf];omega
   ·go_wp2_with fail
    go_roundw
    case rel=>exact⟨j+1,a,by omega,by go_num,rfl,by show _=_;rw[HE.out,<- ha.out,if_neg hak],HB.out.alloc (by omega) _⟩
    case measure=>simp[intOf];omega
  ·obtain rfl:n=j:=by omega
   have hq:Hid (R=a):=by show _=_;rw[HR.out,ha.out,HN.out,xz]
   obtain rfl:=hq.out;clear ha hq HR
   go_wp2_with fail
   go_ret;exact⟨rfl,hb⟩
end Go.Proofs.YtkkekopomiehlabGreatDoor
