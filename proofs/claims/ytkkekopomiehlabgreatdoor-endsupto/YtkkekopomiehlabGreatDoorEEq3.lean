import Derived.Test.YtkkekopomiehlabGreatDoorESf3
set_option linter.unusedVariables false
set_option linter.unusedSimpArgs false
set_option maxHeartbeats 40000000
set_option maxRecDepth 4000
open ByteArray renaming size_append->xe,empty->xf,size_extract->xo,ext->qq
open List renaming getElem?_eq_getElem->xg,getElem?_map->xm,mem_of_getElem?->xq,findIdx?_eq_some_iff_getElem->xu,drop_eq_getElem_cons->qd,map_cons->qf,drop_of_length_le->qg,mem_cons->qj
open Nat renaming le_refl->xh,mul_le_mul_right->xj,add_mul->xy,mul_le_mul_left->xz,zero_le->qe,zero_add->qk,lt_or_ge->qm,add_zero->qn,mul_add->qo
open Option.some renaming injEq->xp
open Option renaming map_eq_some_iff->xv,map_some->qh
open Prod.mk renaming injEq->qi
open Go.ByteArray renaming toList_eq->qp
namespace Go.Proofs.YtkkekopomiehlabGreatDoor
theorem zp9 (l:ByteArray)(c:Int):∀ m k,(∀ i,k<=i->i<k+m->bAt l i≠c)->za6 l c m k=-1
 |0,k,_=>rfl
 |m+1,k,h=>by rw[za6,if_neg (h k (by omega) (by omega))];exact zp9 l c m (k+1) (fun i h1 h2=>h i (by omega) (by omega))
theorem zqa (l:ByteArray)(c:Int):∀ m k i,k<=i->i<k+m->bAt l i=c->0<=za6 l c m k
 |0,k,i,h1,h2,_=>by omega
 |m+1,k,i,h1,h2,h3=>by
  rw[za6];split
  ·omega
  ·rename_i h;by_cases e:i=k
   ·subst e;exact absurd h3 h
   ·exact zqa l c m (k+1) i (by omega) (by omega) h3
theorem zzq (s:ByteArray)(a e:Nat)(h1:a<=e)(h2:e<=s.size)(c:Int)(h:∀ i,a<=i->i<e->bAt s i≠c):pOf (s.extract a e) c<0:=by
 have hs:=size_extract s a e h1 h2;unfold pOf;rw[zp9 _ _ _ _ (fun i _ hi=>by rw[zct s a e i (by omega) h2];exact h _ (by omega) (by omega))];omega
theorem zzr (s:ByteArray)(a e i:Nat)(h2:e<=s.size)(c:Int)(h3:a<=i)(h4:i<e)(h:bAt s i=c):0<=pOf (s.extract a e) c:=by
 have hs:=size_extract s a e (by omega) h2;exact zqa _ _ _ _ (i-a) (by omega) (by omega) (by rw[zct s a e (i-a) (by omega) h2,show a+(i-a)=i by omega];exact h)
theorem zpa (s:ByteArray)(a:Nat):∀ (m e:Nat),a<=e->e+m<=s.size->(∀ i,a<=i->i<e->isL (bAt s i)=true)->(∀ i j,a<=j->j<i->i<e->bAt s i≠bAt s j) ->
  (∀ i,a<=i->i<lEnd s a m e->isL (bAt s i)=true)/\(∀ i j,a<=j->j<i->i<lEnd s a m e->bAt s i≠bAt s j)/\(lEnd s a m e=e+m\/isL (bAt s (lEnd s a m e))=false\/∃ j,a<=j/\j<lEnd s a m e/\bAt s (lEnd s a m e)=bAt s j)
 |0,e,h1,h2,h3,h4=>⟨h3,h4,.inl rfl⟩
 |m+1,e,h1,h2,h3,h4=>by
  rw[lEnd];by_cases h:isL (bAt s e)=true/\pOf (s.extract a e) (bAt s e)<0
  ·rw[if_pos h];have ih:=zpa s a m (e+1) (by omega) (by omega) (fun i i1 i2=>by
    by_cases x:i=e
    ·subst x;exact h.1
    ·exact h3 i i1 (by omega)) (fun i j j1 j2 i2=>by
    by_cases x:i=e
    ·subst x;intro hh;have:=zzr s a i j (by omega) (bAt s i) j1 j2 hh.symm;omega
    ·exact h4 i j j1 j2 (by omega))
   refine⟨ih.1,ih.2.1,?_⟩;rcases ih.2.2 with h5|h5
   ·left;omega
   ·exact .inr h5
  ·rw[if_neg h];refine⟨h3,h4,.inr ?_⟩;cases hl:isL (bAt s e) with
   |false=>exact .inl rfl
   |true =>
    right;rcases Classical.em (∃ j,a<=j/\j<e/\bAt s e=bAt s j)with h5|h5
    ·exact h5
    ·exfalso;apply h;exact⟨hl,zzq s a e h1 (by omega) _ (fun i i1 i2 hh=>h5 ⟨i,i1,i2,hh.symm⟩)⟩
def zdr (s:ByteArray)(a:Nat):Option (Ty×Nat) :=
 let E:=zaz isL s (s.size-a) a
 if E-a<1\/8<E-a\/tw (s.extract a E)=true then none
 else if bAt s E=43 then (if bAt s (E+1)=62 then some (⟨60,s.extract a E,true,[],[]⟩,E+2) else none)
 else if bAt s E=62 then some (⟨60,s.extract a E,false,[],[]⟩,E+1) else none
theorem zgk {b:Int}(h:isL b=true):97<=b/\b<=122:=by simpa[isL]using h
theorem zk0 (s:ByteArray)(a:Nat)(ha:a<=s.size):zb4 s a=zdr s a:=by
 unfold zb4 zdr;simp only;obtain⟨E,hE⟩:∃ E,E=zaz isL s (s.size-a) a:=⟨_,rfl⟩;obtain⟨X,hX⟩:∃ X,X=lEnd s a (s.size-a) a:=⟨_,rfl⟩;have hsp:=zpa s a (s.size-a) a (xh _) (by omega) (fun i h1 h2=>by omega) (fun i j h1 h2 h3=>by omega);have hXl:=zh7 s a (s.size-a) a;have hEl:=zdt isL s (s.size-a) a;rw[<- hX]at hsp hXl ⊢;rw[<- hE]at hEl ⊢;have hall:∀ i,a<=i->i<E->isL (bAt s i)=true:=fun i h1 h2=>zfm isL s (s.size-a) a i h1 (by rw[<- hE];exact h2);have hnot:isL (bAt s E)=false:=by rw[hE];exact zld isL s rfl _ _ (by omega)
 obtain⟨s1,s2,s3⟩:=hsp;have hXE:X<=E:=by
  rcases qm E X with h|h
  ·rw[s1 E (by omega) h]at hnot;cases hnot
  ·exact h
 have hsz:=size_extract s a E (by omega) (by omega);by_cases hlt:X<E
 ·have hlet:=zgk (hall X (by omega) hlt);have htw:tw (s.extract a E)=true:=by
   rcases s3 with h|h|⟨j,j1,j2,j3⟩
   ·omega
   ·rw[hall X (by omega) hlt]at h;cases h
   ·refine zsj (i:=X-a) (j:=j-a) (by omega) (by omega) ?_;rw[zct s a E (X-a) (by omega) (by omega),zct s a E (j-a) (by omega) (by omega),show a+(X-a)=X by omega,show a+(j-a)=j by omega];exact j3
  rw[if_pos (show E-a<1\/8<E-a\/tw (s.extract a E)=true from .inr (.inr htw))];split
  ·rfl
  ·rw[if_neg (by omega),if_neg (by omega)]
 ·obtain rfl:X=E:=by omega
  have htw:tw (s.extract a X)=false:=yad9 (fun i j h1 h2 h3=>by
   rw[zct s a X i (by omega) (by omega),zct s a X j (by omega) (by omega)]at h3;exact s2 (a+i) (a+j) (by omega) (by omega) (by omega) h3)
  simp only[htw,Bool.false_eq_true,or_false]
section
open Go.RowKit
abbrev Fld:=Nat×Ty×ByteArray
def zh8 (v:Val):ByteArray:=if v.tag=0 then decI v.n else if v.tag=1 then quo++v.s++quo else xf
def zax (a b:Nat):Bool:=(a == 105&&(b == 105||b == 108))||((a == 108||a == 115)&&b == a)
def zbg (f:Val->Option ByteArray):List Val->Nat->ByteArray->Option ByteArray
 |[],_,t=>some (t++⟨#[93]⟩)
 |v::vs,k,t =>
  match f v with
  |none=>none
  |some x=>zbg f vs (k+1) ((if 0<k then t++⟨#[44]⟩ else t)++x)
def zbi (f:Ty->Ty->Val->Option ByteArray)(ps:List (Fld×Val))(g:Fld):Option ByteArray :=
 match ps.find? (fun p=>p.1.1 == g.1) with
 |none=>if g.2.2.size=0 then none else some g.2.2
 |some p=>f p.1.2.1 g.2.1 p.2
def zbj (f:Fld->Option ByteArray):List Fld->ByteArray->ByteArray->Option ByteArray
 |[],_,t=>some (t++⟨#[125]⟩)
 |g::gs,mk,t =>
  match f g with
  |none=>none
  |some x=>zbj f gs ⟨#[44]⟩ (t++(((mk++oneB g.1)++⟨#[58]⟩)++x))
def zc0 (wl rl:ByteArray)(op:Bool)(i:Nat):Option ByteArray :=
 if pOf rl (bAt wl i)<0 then (if op=true then some (rl.extract 0 1) else none) else some (oneB (bAt wl i).toNat)
def zbc (f:Ty->Ty->Val->Option ByteArray)(w r:Ty)(v:Val):Option ByteArray :=
 if w.kind=63 then (if v.tag=4 then (if r.kind=63 then some ⟨#[95]⟩ else none) else if v.tag=5 then f w.in r v.hd else none)
 else if r.kind=63 then f w r.in v
 else if zax w.kind r.kind=true then some (zh8 v)
 else if w.kind≠r.kind then none
 else if v.tag=2 then zc0 w.letters r.letters r.op v.n.toNat
 else if v.tag=3 then zbg (f w.in r.in) v.vs 0 ⟨#[91]⟩
 else if v.tag=6 then zbj (zbi f (w.fields.zip v.vs)) r.fields ⟨#[123]⟩ xf
 else none
def rdT:Nat->Ty->Ty->Val->Option ByteArray
 |0,_,_,_=>none
 |m+1,w,r,v=>zbc (rdT m) w r v
def wt:Nat->Ty->Nat
 |0,_=>0
 |n+1,ty=>70+(ty.inner.map (wt n)).sum+(ty.fields.map fun f=>wt n f.2.1+f.2.2.size+4).sum
theorem zlq {α:Type}(f g:α->Nat):∀ (l:List α),(∀ x∈l,f x<=g x)->(l.map f).sum<=(l.map g).sum
 |[],_=>by simp
 |x::l,h=>by
  have h1:=h x (by simp);have h2:=zlq f g l (fun y hy=>h y (by simp[hy]));simp;omega
theorem zi7:∀ (n:Nat) (ty:Ty),wt n ty<=wt (n+1) ty
 |0,ty=>by simp[wt]
 |n+1,ty=>by
  rw[wt,wt];have h1:=zlq (wt n) (wt (n+1)) ty.inner (fun t _=>zi7 n t);have h2:=zlq (fun f:Nat×Ty×ByteArray=>wt n f.2.1+f.2.2.size+4) (fun f=>wt (n+1) f.2.1+f.2.2.size+4) ty.fields (fun f _=>by have:=zi7 n f.2.1;omega);omega
theorem zha (n:Nat)(ty:Ty):70<=wt (n+1) ty:=by rw[wt];omega
theorem zvl (m:Nat)(u:Nat):1<=(codU m xf u).size:=by
 cases m with
 |zero=>simp[codU,zak]
 |succ m =>
  by_cases h:128<=u
  ·rw[zjz h,xe,zak];omega
  ·rw[zhq (by omega),zak];omega
theorem zfe:∀ (n:Nat) (ty:Ty) (v:Val),okV n ty v->1<=(datV n v).size
 |0,ty,v,h=>h.elim
 |n+1,ty,v,h=>by
  rcases h with⟨x,rfl,h⟩|⟨s,rfl,h⟩|⟨i,rfl,h⟩|⟨vs,rfl,h⟩|⟨rfl,h⟩|⟨v,rfl,h⟩|⟨vs,rfl,h⟩
  ·rw[zj1];exact zvl _ _
  ·rw[zht,xe,zak];omega
  ·rw[zhr,zak];omega
  ·rw[zge,xe,zak];omega
  ·rw[zhs,zak];omega
  ·rw[zgf,xe,zak];omega
  ·obtain⟨_,h1,h2,h3⟩:=h;rw[zeg];rcases hf:ty.fields with _|⟨g,fs⟩
   ·exact absurd hf h1
   ·rcases vs with _|⟨v,vs⟩
    ·rw[hf]at h2;simp at h2
    ·rw[hf]at h3;have:=zfe n g.2.1 v (h3 (g,v) (by simp));simp only[qf,catB,xe];omega
theorem zq9 {f:Val->Option ByteArray}{dv:Val->ByteArray}{W:Nat}:∀ (vs:List Val) (k:Nat) (t x:ByteArray),(∀ v∈vs,1<=(dv v).size/\∀ y,f v=some y->y.size<=W*(dv v).size)->zbg f vs k t=some x ->
  x.size<=t.size+1+(W+1)*(catB (vs.map dv)).size
 |[],k,t,x,hf,h=>by
  simp only[zbg,xp]at h;rw[<- h,xe,zbv];omega
 |v::vs,k,t,x,hf,h=>by
  rw[zbg]at h;split at h
  ·cases h
  ·rename_i y hy;have h1:=zq9 vs (k+1) _ x (fun v hv=>hf v (by simp[hv])) h;have h2:=hf v (by simp);have h3:=h2.2 y hy;have hs:((if 0<k then t++⟨#[44]⟩ else t)++y).size<=t.size+1+y.size:=by
    rw[xe];split
    ·rw[xe,zbv];omega
    ·omega
   simp only[qf,catB,xe];rw[qo,xy W 1 (dv v).size];omega
theorem zq6 {f:Fld->Option ByteArray}{c:Fld->Nat}:∀ (gs:List Fld) (mk t x:ByteArray),mk.size=1->(∀ g∈gs,∀ y,f g=some y->y.size+3<=c g)->zbj f gs mk t=some x ->
  x.size<=t.size+1+(gs.map c).sum
 |[],mk,t,x,hm,hf,h=>by
  simp only[zbj,xp]at h;rw[<- h,xe,zbv];simp
 |g::gs,mk,t,x,hm,hf,h=>by
  rw[zbj]at h;split at h
  ·cases h
  ·rename_i y hy;have h1:=zq6 gs _ _ x (zbv 44) (fun g hg=>hf g (by simp[hg])) h;have h2:=hf g (by simp) y hy;simp only[xe,zbv,zak,hm]at h1;simp;omega
theorem zks {α:Type}(f:α->Nat)(c:Nat):∀ (l:List α),(l.map fun x=>f x*c).sum=(l.map f).sum*c
 |[]=>by simp
 |x::l=>by simp[zks f c l,xy]
theorem zho {x:ByteArray}:∀ {l:List ByteArray},x∈l->x.size<=(catB l).size
 |y::l,h=>by
  rw[catB,xe];rcases qj.1 h with rfl|h
  ·omega
  ·have:=zho h;omega
theorem zkf {l:List (Fld×Val)}{q:Fld×Val->Bool}{p:Fld×Val}(h:l.find? q=some p):p∈l:=List.mem_of_find?_eq_some h
theorem zys {n:Nat}{ty:Ty}{v:Val}(h:okV n ty v):ty.kind≠0:=by
 cases n with
 |zero=>exact h.elim
 |succ n =>
  rcases h with⟨x,rfl,h⟩|⟨s,rfl,h⟩|⟨i,rfl,h⟩|⟨vs,rfl,h⟩|⟨rfl,h⟩|⟨v,rfl,h⟩|⟨vs,rfl,h⟩<;>omega
theorem zrd:∀ (m n:Nat) (w:Ty) (v:Val),okV n w v->rdT m w (za3 0) v=none
 |0,n,w,v,h=>rfl
 |m+1,0,w,v,h=>h.elim
 |m+1,n+1,w,v,h=>by
  have hk:=zys h;have h0:(za3 0).kind=0:=rfl;show zbc _ _ _ _=_;unfold zbc;split
  ·rename_i h63;rcases h with⟨x,rfl,h⟩|⟨s,rfl,h⟩|⟨i,rfl,h⟩|⟨vs,rfl,h⟩|⟨rfl,h⟩|⟨v,rfl,h⟩|⟨vs,rfl,h⟩
   iterate 5
    ·rfl
   ·exact zrd m n _ _ h.2
   ·rfl
  ·rw[if_neg (by rw[h0];omega),if_neg,if_pos (by rw[h0];exact hk)];simp[zax,h0];omega
theorem zo4 {m n:Nat}{w r:Ty}{v:Val}{x:ByteArray}(hv:okV n w v)(h:rdT m w r.in v=some x):wt m r.in+70<=wt (m+1) r:=by
 unfold Ty.in at h ⊢;rcases hi:r.inner with _|⟨t,ts⟩
 ·rw[hi]at h;simp only[List.headD_nil]at h;rw[zrd _ _ _ _ hv]at h;cases h
 ·rw[wt,hi];simp;omega
theorem zfl:∀ (m n:Nat) (w r:Ty) (v:Val) (x:ByteArray),okV n w v->rdT m w r v=some x->x.size<=wt m r*(datV n v).size
 |0,n,w,r,v,x,hv,h=>by simp[rdT]at h
 |m+1,0,w,r,v,x,hv,h=>hv.elim
 |m+1,n+1,w,r,v,x,hv,h=>by
  have hp:=zfe _ _ _ hv;have h70:70*(datV (n+1) v).size<=wt (m+1) r*(datV (n+1) v).size:=xj _ (zha m r);change zbc (rdT m) w r v=some x at h;unfold zbc at h;split at h
  ·rename_i hk;split at h
   ·split at h
    ·cases h;rw[zbv];omega
    ·cases h
   ·split at h
    ·rename_i h4 h5;rcases hv with⟨x,rfl,hv⟩|⟨s,rfl,hv⟩|⟨i,rfl,hv⟩|⟨vs,rfl,hv⟩|⟨rfl,hv⟩|⟨v,rfl,hv⟩|⟨vs,rfl,hv⟩
     iterate 5
      ·cases h5
     ·have:=zfl m n w.in r v x hv.2 h;rw[zgf,xe,zak];have e1:=xj (datV n v).size (zi7 m r);have e2:=xz (wt (m+1) r) (show (datV n v).size<=1+(datV n v).size by omega);omega
     ·cases h5
    ·cases h
  ·split at h
   ·rename_i hk;have h1:=zfl m (n+1) w r.in v x hv h;have h2:=zo4 hv h;have:=xj (datV (n+1) v).size (show wt m r.in<=wt (m+1) r by omega);omega
   ·split at h
    ·rename_i h63 hs;cases h;have e0:ByteArray.empty.size=0:=rfl;unfold zh8;split
     ·have:=zj2 v.n;omega
     ·split
      ·rename_i h1;rcases hv with⟨x,rfl,hv⟩|⟨s,rfl,hv⟩|⟨i,rfl,hv⟩|⟨vs,rfl,hv⟩|⟨rfl,hv⟩|⟨v,rfl,hv⟩|⟨vs,rfl,hv⟩
       ·cases h1
       ·rw[xe,xe,zcf,show (Val.str s).s=s from rfl];omega
       iterate 5
        ·cases h1
      ·omega
    ·split at h
     ·cases h
     ·split at h
      ·unfold zc0 at h;split at h
       ·split at h
        ·cases h;have:(r.letters.extract 0 1).size<=1:=by rw[xo];omega
         omega
        ·cases h
       ·cases h;rw[zak];omega
      ·split at h
       ·rename_i h3;rcases hv with⟨x,rfl,hv⟩|⟨s,rfl,hv⟩|⟨i,rfl,hv⟩|⟨vs,rfl,hv⟩|⟨rfl,hv⟩|⟨v,rfl,hv⟩|⟨vs,rfl,hv⟩
        iterate 3
         ·cases h3
        ·rw[show (Val.lst vs).vs=vs from rfl]at h;rw[zge]at h70 hp ⊢;rw[xe,zak]at h70 hp ⊢;rcases hvs:vs with _|⟨u,us⟩
         ·rw[hvs]at h;simp only[zbg,xp]at h;rw[<- h,xe,zbv,zbv];rw[hvs]at h70 hp;omega
         ·have hW:∀ v∈vs,1<=(datV n v).size/\∀ y,rdT m w.in r.in v=some y->y.size<=(wt (m+1) r-70)*(datV n v).size:=fun v hv'=>by
           refine⟨zfe _ _ _ (hv.2.2 v hv'),fun y hy=>?_⟩;have h1:=zfl m n _ _ _ _ (hv.2.2 v hv') hy;have h2:=zo4 (hv.2.2 v hv') hy;have:=xj (datV n v).size (show wt m r.in<=wt (m+1) r-70 by omega);omega
          have:=zq9 (dv:=datV n) vs 0 _ x hW h;rw[zbv]at this;rw[<- hvs];have hw:=zha m r;have e1:=xj (catB (vs.map (datV n))).size (show wt (m+1) r-70+1<=wt (m+1) r by omega);rw[qo];omega
        iterate 3
         ·cases h3
       ·split at h
        ·rename_i h6;rcases hv with⟨x,rfl,hv⟩|⟨s,rfl,hv⟩|⟨i,rfl,hv⟩|⟨vs,rfl,hv⟩|⟨rfl,hv⟩|⟨v,rfl,hv⟩|⟨vs,rfl,hv⟩
         iterate 6
          ·cases h6
         ·rw[show (Val.rcd vs).vs=vs from rfl]at h;rw[zeg]at h70 hp ⊢;have:=zq6 (c:=fun g=>(wt m g.2.1+g.2.2.size+4)*(catB (vs.map (datV n))).size) r.fields _ _ x (zbv 123) (fun g hg y hy=>by
           have e3:4<=4*(catB (vs.map (datV n))).size:=by omega
           rw[xy,xy];unfold zbi at hy;split at hy
           ·split at hy
            ·cases hy
            ·cases hy;have:=Nat.le_mul_of_pos_right g.2.2.size hp;omega
           ·rename_i p hp';have hm:=zkf hp';have h1:=zfl m n _ _ _ _ (hv.2.2.2 p hm) hy;have h2:=zho (l:=vs.map (datV n)) (x:=datV n p.2) (List.mem_map.2 ⟨p.2,(List.of_mem_zip (a:=p.1) (b:=p.2) hm).2,rfl⟩);have h3:=xz (wt m g.2.1) h2;omega) h
          have e0:ByteArray.empty.size=0:=rfl;rw[zks (fun g:Nat×Ty×ByteArray=>wt m g.2.1+g.2.2.size+4),e0]at this;have e1:wt (m+1) r*(catB (vs.map (datV n))).size=(70+(r.inner.map (wt m)).sum)*(catB (vs.map (datV n))).size+(r.fields.map fun f=>wt m f.2.1+f.2.2.size+4).sum*(catB (vs.map (datV n))).size:=by rw[wt,xy]
          rw[e1,xy];omega
        ·cases h
end
section
open Go.RowKit
theorem beqK (b k:Nat):((b:Int) == (k:Int))=(b == k):=by
 by_cases h:b=k
 ·subst h;simp
 ·rw[show (b == k)=false by simpa using h];simp;omega
theorem zdg (a b:Nat)(w:World) :
  Calls Tryz.prog 195 #[.int .i64 a,.int .i64 b] w fun e w'=>e=.returned (.bool (zax a b))/\w=w':=by
 by_cases h1:a=105
 ·subst h1;by_cases h2:b=105
  ·subst h2
   go_enter Tryz.func195,Tryz.ntmps195
   go_wp2_with fail
   go_ret;exact⟨rfl,rfl⟩
  ·have h2':((b:Int) == 105)=false:=by simp;omega
   have hr:Hid (zax 105 b=((b:Int) == 108)):=by
    show _=_;rw[show ((b:Int) == 108)=(b == 108)from beqK b 108];simp[zax,h2]
   clear h2
   go_enter Tryz.func195,Tryz.ntmps195
   go_wp2_with fail
   go_ret;exact⟨zbx (by rw[hr.out]),rfl⟩
 ·have h1':((a:Int) == 105)=false:=by simp;omega
  by_cases h2:a=108
  ·subst h2;have hr:Hid (zax 108 b=((b:Int) == 108)):=by
    show _=_;rw[show ((b:Int) == 108)=(b == 108)from beqK b 108];simp[zax]
   go_enter Tryz.func195,Tryz.ntmps195
   go_wp2_with fail
   go_ret;exact⟨zbx (by rw[hr.out]),rfl⟩
  ·have h2':((a:Int) == 108)=false:=by simp;omega
   by_cases h3:a=115
   ·subst h3;have hr:Hid (zax 115 b=((b:Int) == 115)):=by
     show _=_;rw[show ((b:Int) == 115)=(b == 115)from beqK b 115];simp[zax]
    go_enter Tryz.func195,Tryz.ntmps195
    go_wp2_with fail
    go_ret;exact⟨zbx (by rw[hr.out]),rfl⟩
   ·have h3':((a:Int) == 115)=false:=by simp;omega
    have hr:Hid (zax a b=false):=by show _=_;simp[zax,h1,h2,h3]
    clear h1 h2 h3
    go_enter Tryz.func195,Tryz.ntmps195
    go_wp2_with fail
    go_ret;exact⟨zbx (by rw[hr.out]),rfl⟩
theorem zr8 (ty:Ty)(ai:Option Addr)(li ci:Nat)(af:Option Addr)(lf cf:Nat)(c:Int)(w:World)(hl:ty.letters.size<=8) :
  Calls Tryz.prog 248 #[.agg #[.int .i64 ty.kind,.string ty.letters,.bool ty.op,.slice ai li ci,.slice af lf cf],.int .i64 c] w fun e w'=>e=.returned (.bool (ty.op||decide (0<=pOf ty.letters c)))/\Below w.heap.size w w':=by
 have _hl:ty.letters.size<=9000000:=by omega
 have hB:∀ o,Below w.heap.size w (w.alloc o):=fun o=>(Below.refl _ _).alloc (xh _) _;cases hop:ty.op with
 |true =>
  go_enter Tryz.func248,Tryz.ntmps248
  go_wp2_with (go_at_call 249;refine(zd6 _ _ _ _hl).mono ?_;rintro e w' ⟨rfl,rfl⟩)
  go_ret;exact⟨rfl,by first|exact hB _|exact Below.refl _ _⟩
 |false =>
  go_enter Tryz.func248,Tryz.ntmps248
  go_wp2_with (go_at_call 249;refine(zd6 _ _ _ _hl).mono ?_;rintro e w' ⟨rfl,rfl⟩)
  go_ret;exact⟨zbx (by simp),by first|exact hB _|exact Below.refl _ _⟩
theorem yacn (s:ByteArray)(a b:Nat)(w:World)(h:s.size<b)(_hs:s.size<=9000000)(hb:b<=9000000) :
  Calls Tryz.prog 247 #[.string s,.int .i64 a,.int .i64 b] w fun e w'=>e=.returned (.string xf)/\w'=w:=by
 by_cases hab:b<a
 iterate 2
  ·go_enter Tryz.func247,Tryz.ntmps247
   go_wp2_with fail
   go_ret;exact⟨rfl,rfl⟩
theorem zot (ty:Ty)(ai:Option Addr)(li ci:Nat)(af:Option Addr)(lf cf:Nat)(w:World)(hl:ty.letters.size<=8) :
  Calls Tryz.prog 250 #[.agg #[.int .i64 ty.kind,.string ty.letters,.bool ty.op,.slice ai li ci,.slice af lf cf]] w fun e w'=>e=.returned (.string (ty.letters.extract 0 1))/\Below w.heap.size w w':=by
 have _hl:ty.letters.size<=9000000:=by omega
 have hB:∀ o,Below w.heap.size w (w.alloc o):=fun o=>(Below.refl _ _).alloc (xh _) _;have hsp:∀ w,Calls Tryz.prog 247 #[.string ty.letters,.int .i64 0,.int .i64 1] w fun e w'=>e=.returned (.string (ty.letters.extract 0 1))/\w'=w:=fun w=>by
  by_cases h1:1<=ty.letters.size
  ·exact zcq ty.letters 0 1 w (by omega) h1 _hl
  ·rw[show ty.letters.extract 0 1=xf from zfa (by rw[xo];show _=0;omega) (fun i hi=>by rw[xo]at hi;omega)];exact yacn ty.letters 0 1 w (by omega) _hl (by omega)
 go_enter Tryz.func250,Tryz.ntmps250
 go_wp2_with (go_at_call 247;refine(hsp _).mono ?_;rintro e w' ⟨rfl,rfl⟩)
 go_ret;exact⟨rfl,by first|exact hB _|exact Below.refl _ _⟩
end
section
open Go.RowKit
theorem zoq (s:ByteArray)(p:Nat)(h:p<s.size):s.extract p (p+1)=oneB (bAt s p).toNat:=by
 rw[zee s p h];apply qq;have:p<s.data.size:=h;apply Array.ext
 ·simp[oneB];omega
 ·intro i h1 h2;simp[oneB]at h2;subst h2;simp[oneB];rfl
end
section
open Go.RowKit
def tyK:Nat->Ty->Prop
 |0,_=>True
 |n+1,ty=>(ty.kind=105\/ty.kind=108\/ty.kind=115\/ty.kind=60\/ty.kind=91\/ty.kind=63\/ty.kind=123)/\(ty.kind=60->1<=ty.letters.size)/\(ty.kind=91\/ty.kind=63->ty.inner≠[]/\tyK n ty.in)/\∀ f∈ty.fields,f.1<256/\tyK n f.2.1
def lv:Nat->Ty->Val
 |0,_=>.non
 |n+1,ty=>if ty.kind=105\/ty.kind=108 then .num 0 else if ty.kind=115 then .str xf else if ty.kind=60 then .cho 0 else if ty.kind=91 then .lst [] else if ty.kind=63 then .non else .rcd (ty.fields.map fun f=>lv n f.2.1)
def rwT (f:Ty->ByteArray)(x:ByteArray)(p:Int):List (Nat×Ty×ByteArray)->Nat->ByteArray->ByteArray->ByteArray
 |[],_,_,t=>t++⟨#[125]⟩
 |g::gs,k,mk,t=>rwT f x p gs (k+1) ⟨#[44]⟩ (t++(((mk++oneB g.1)++⟨#[58]⟩)++(if (k:Int)=p then x else f g.2.1)))
theorem zfn (f:Ty->ByteArray)(tv:Ty->Val->ByteArray)(x:ByteArray)(p:Int):∀ (fs:List (Nat×Ty×ByteArray)) (vs:List Val) (k:Nat) (mk t:ByteArray),vs.length=fs.length ->
  (∀ i g v,fs[i]?=some g->vs[i]?=some v->(if ((k+i:Nat):Int)=p then x else f g.2.1)=tv g.2.1 v)->rwT f x p fs k mk t=zcb ((fs.zip vs).map fun q=>(q.1.1,tv q.1.2.1 q.2)) mk t
 |[],vs,k,mk,t,hl,h=>by cases vs<;>rfl
 |g::fs,[],k,mk,t,hl,h=>by simp at hl
 |g::fs,v::vs,k,mk,t,hl,h=>by
  have h0:=h 0 g v rfl rfl;rw[qn]at h0;rw[rwT,h0,zfn f tv x p fs vs (k+1) _ _ (by simpa using hl) (fun i g' v' hg hv=>by have:=h (i+1) g' v' (by simpa using hg) (by simpa using hv);rw[show k+(i+1)=k+1+i by omega]at this;exact this),List.zip_cons_cons,qf,zcb]
theorem zil {f:Ty->ByteArray}{x:ByteArray}{p:Int}{c:Nat×Ty×ByteArray->Nat}:∀ (gs:List (Nat×Ty×ByteArray)) (k:Nat) (mk t:ByteArray),mk.size=1->(∀ i g,gs[i]?=some g->(if ((k+i:Nat):Int)=p then x else f g.2.1).size+3<=c g)->(rwT f x p gs k mk t).size<=t.size+1+(gs.map c).sum
 |[],k,mk,t,hm,h=>by rw[rwT,xe];have:(⟨#[125]⟩:ByteArray).size=1:=rfl;simp;omega
 |g::gs,k,mk,t,hm,h=>by
  have h0:=h 0 g rfl;simp only[qn]at h0;have ih:=zil (f:=f) (x:=x) (p:=p) (c:=c) gs (k+1) ⟨#[44]⟩ (t++(((mk++oneB g.1)++⟨#[58]⟩)++(if (k:Int)=p then x else f g.2.1))) rfl (fun i g' hg=>by have:=h (i+1) g' (by simpa using hg);rw[show k+(i+1)=k+1+i by omega]at this;exact this);rw[rwT];have e1:(⟨#[58]⟩:ByteArray).size=1:=rfl;simp only[xe,zak,hm,e1]at ih;simp only[qf,List.sum_cons];omega
def zfx (n:Nat):Prop:=∀ (ty:Ty) (w:World) (ai af:Option Addr) (li ci lf cf:Nat),tyK n ty->wt n ty<=20000->Rep n w ai li ci af lf cf ty ->
 Calls Tryz.prog 228 #[.agg #[.int .i64 ty.kind,.string ty.letters,.bool ty.op,.slice ai li ci,.slice af lf cf]] w fun e w'=>e=.returned (.string (txtV n ty (lv n ty)))/\Below w.heap.size w w'
theorem zgo:∀ (n:Nat) (ty:Ty),(txtV n ty (lv n ty)).size<=wt n ty
 |0,ty=>qe _
 |n+1,ty=>by
  have h70:=zha n ty;rw[lv];split
  ·rw[zi0];have:=zj2 0;omega
  ·split
   ·rw[zg6];simp only[xe];have:=zcf;have:ByteArray.empty.size=0:=rfl;omega
   ·split
    ·rw[zdy,zak];omega
    ·split
     ·rw[zeb];show (⟨#[91]⟩++⟨#[93]⟩:ByteArray).size<=_;rw[xe];have:(⟨#[91]⟩:ByteArray).size=1:=rfl;have:(⟨#[93]⟩:ByteArray).size=1:=rfl;omega
     ·split
      ·rw[zfr];have:(⟨#[95]⟩:ByteArray).size=1:=rfl;omega
      ·rw[zdh,<- zfn (fun t=>txtV n t (lv n t)) (txtV n) xf (-1) ty.fields _ 0 _ _ (by simp) (fun i g v hg hv=>by
        rw[xm,hg]at hv;simp at hv;rw[if_neg (by omega),<- hv])]
       have:=zil (f:=fun t=>txtV n t (lv n t)) (x:=xf) (p:=-1) (c:=fun f=>wt n f.2.1+f.2.2.size+4) ty.fields 0 ⟨#[123]⟩ xf rfl (fun i g hg=>by
        rw[if_neg (by omega)];have:=zgo n g.2.1;omega)
       have e:ByteArray.empty.size=0:=rfl;rw[wt];omega
theorem zlr {α:Type}(c:α->Nat)(K:Nat):∀ (l:List α) (x:α),x∈l->(l.map c).sum<=K->c x<=K
 |y::l,x,h,hk=>by
  simp at hk;rcases qj.1 h with rfl|h
  ·omega
  ·exact zlr c K l x h (by omega)
theorem zri {n:Nat}(IH:zfx n)(fs:List (Nat×Ty×ByteArray))(p:Int)(x:ByteArray)(w:World)(af:Option Addr)(lf cf:Nat)(hlf:lf=fs.length)(hfl:fs.length<=9000000)(hx:x.size<=20000)(hk:∀ f∈fs,f.1<256/\tyK n f.2.1)(hwt:(fs.map fun f=>wt n f.2.1+f.2.2.size+4).sum<=20000)(hr:RepF n w af fs) :
  Calls Tryz.prog 285 #[.slice af lf cf,.int .i64 p,.string x] w fun e w'=>e=.returned (.string (rwT (fun t=>txtV n t (lv n t)) x p fs 0 ⟨#[123]⟩ xf))/\Below w.heap.size w w':=by
 subst hlf;obtain⟨R,hR⟩:∃ R,R=rwT (fun t=>txtV n t (lv n t)) x p fs 0 ⟨#[123]⟩ xf:=⟨_,rfl⟩;rw[<- hR];have HR:Hid (R=rwT (fun t=>txtV n t (lv n t)) x p (fs.drop 0) 0 ⟨#[123]⟩ xf):=hR;clear hR;have hfl2:fs.length<=5000:=by
  have:∀ l:List (Nat×Ty×ByteArray),l.length*4<=(l.map fun f=>wt n f.2.1+f.2.2.size+4).sum:=fun l=>by
   induction l with
   |nil=>simp
   |cons a l ih=>simp;omega
  have:=this fs;omega
 go_enter Tryz.func285,Tryz.ntmps285
 go_wp2_with fail
 go_loopw [7,8,14] (fun vt vm vi wr=>∃ (i:Nat) (mk t:ByteArray),i<=fs.length/\vi=.int .i64 i/\vm=.string mk/\vt=.string t/\mk.size=1/\t.size<=20010*i/\Hid (R=rwT (fun t=>txtV n t (lv n t)) x p (fs.drop i) i mk t)/\Below w.heap.size w wr) (fun _ _ i _=>fs.length-(intOf i).toNat)
 case atStart=>exact⟨0,⟨#[123]⟩,xf,qe _,rfl,rfl,rfl,rfl,xh _,HR,Below.refl _ _⟩
 case round =>
  obtain⟨i,mk,t,hi,rfl,rfl,rfl,hmk,hts,hR,hb⟩:=hrel;have one1:(⟨#[125]⟩:ByteArray).size=1:=rfl;have one2:(⟨#[58]⟩:ByteArray).size=1:=rfl;have hmul:20010*i<=20010*5000:=xz _ (by omega);have hts2:t.size<=100050000:=by omega
  by_cases hlt:i<fs.length
  ·obtain⟨f,hf⟩:∃ f,fs[i]?=some f:=⟨fs[i],xg hlt⟩;have hdrop:fs.drop i=f::fs.drop (i+1):=by
    rw[qd hlt];rw[xg hlt]at hf;simp at hf;rw[hf]
   have hmem:=xq hf;obtain⟨h256,hkf⟩:=hk f hmem;have hwf:wt n f.2.1<=20000:=by
    have:=zlr (fun f:Nat×Ty×ByteArray=>wt n f.2.1+f.2.2.size+4) 20000 fs f hmem hwt;omega
   rcases hr with⟨hr,_⟩|⟨g,rfl,hcells⟩
   ·rw[hr]at hf;simp at hf
   ·obtain⟨p1,p2,p3,q1,q2,q3,hrep,k0,k1,k2,k3,k4,k5,k6⟩:=hcells i f hf;have k0:=zab hb k0;have k1:=zab hb k1;have k2:=zab hb k2;have k3:=zab hb k3;have k4:=zab hb k4;have k5:=zab hb k5;have k6:=zab hb k6;have hg':g<wr.heap.size:=zag k0;have hBa:∀ o,Below wr.heap.size wr (wr.alloc o):=fun o=>(Below.refl _ _).alloc (xh _) _;have hcall:=fun o=>IH f.2.1 (wr.alloc o) p1 q1 p2 p3 q2 q3 hkf hwf ((hrep.keep hb).keep (hBa o));have hls:=zgo n f.2.1;have hso:(oneB f.1).size=1:=rfl;have hz1:(mk++oneB f.1).size=2:=by rw[xe,hmk,hso]
    have hz2:(mk++oneB f.1++⟨#[58]⟩).size=3:=by rw[xe,hz1,one2]
    have hmul2:20010*(i+1)=20010*i+20010:=by omega
    by_cases hp:(i:Int)=p
    ·have hp':((i:Int) != p)=false:=by simp[hp]
     have hr':Hid (R=rwT (fun t=>txtV n t (lv n t)) x p (fs.drop (i+1)) (i+1) ⟨#[44]⟩ (t++(mk++oneB f.1++⟨#[58]⟩++x))):=by show _=_;rw[hR.out,hdrop,rwT,if_pos hp]
     have hz3:(mk++oneB f.1++⟨#[58]⟩++x).size=3+x.size:=by rw[xe,hz2]
     have HS:(t++(mk++oneB f.1++⟨#[58]⟩++x)).size<=20010*(i+1):=by rw[xe,hz3];omega
     clear hdrop hf hcells hp hR hrep hls hmul hmul2
     go_wp2_with (first|(go_at_call 251;refine(zdp f.1 _ (by omega)).mono ?_;rintro e w3 ⟨rfl,hb3⟩))
     go_roundw
     case rel=>exact⟨i+1,⟨#[44]⟩,_,by omega,by go_num,rfl,rfl,rfl,HS,hr',hb.trans (((hBa _).trans (hb3.mono (by simp))).mono hb.size)⟩
     case measure=>simp[intOf];omega
    ·have hp':((i:Int) != p)=true:=by simp[hp]
     obtain⟨Y,hY⟩:∃ Y,Y=txtV n f.2.1 (lv n f.2.1):=⟨_,rfl⟩;rw[<- hY]at hcall hls;have hr':Hid (R=rwT (fun t=>txtV n t (lv n t)) x p (fs.drop (i+1)) (i+1) ⟨#[44]⟩ (t++(mk++oneB f.1++⟨#[58]⟩++Y))):=by show _=_;rw[hR.out,hdrop,rwT,if_neg hp,hY]
     have hz3:(mk++oneB f.1++⟨#[58]⟩++Y).size=3+Y.size:=by rw[xe,hz2]
     have HS:(t++(mk++oneB f.1++⟨#[58]⟩++Y)).size<=20010*(i+1):=by rw[xe,hz3];omega
     have hYs:Y.size<=20000:=by omega
     clear hdrop hf hcells hp hR hrep hY hls hmul hmul2
     go_wp2_with (first|(go_at_call 228;refine(hcall _).mono ?_;rintro e w2 ⟨rfl,hb2⟩;obtain⟨hc2,hf2⟩:=zap hb2)|(go_at_call 251;refine(zdp f.1 _ (by omega)).mono ?_;rintro e w3 ⟨rfl,hb3⟩))
     go_roundw
     case rel=>exact⟨i+1,⟨#[44]⟩,_,by omega,by go_num,rfl,rfl,rfl,HS,hr',hb.trans ((((hBa _).trans (hb2.mono (by simp))).trans (hb3.mono (by have:=hb2.size;simp at this;omega))).mono hb.size)⟩
     case measure=>simp[intOf];omega
  ·have hnil:fs.drop i=[]:=qg (by omega);have hr':Hid (R=t++⟨#[125]⟩):=by show _=_;rw[hR.out,hnil,rwT]
   go_wp2_with fail
   go_ret;exact⟨zen hr'.out.symm,hb⟩
end
section
open Go.RowKit
end
section
open Go.RowKit
theorem zp2 {pf:Nat->Option ((Nat×Ty×ByteArray)×Nat)}{s:ByteArray}(hp:∀ a f k,pf a=some (f,k)->a<k/\k<=s.size):∀ {m a k:Nat} {acc fs:List (Nat×Ty×ByteArray)},acc.length<=a->za1 pf s m a acc=some (fs,k)->0<fs.length/\fs.length<=k
 |0,a,k,acc,fs,_,h=>by simp[za1]at h
 |m+1,a,k,acc,fs,ha,h=>by
  rw[za1]at h;split at h
  ·cases h
  ·rename_i f k' hx;have:=hp _ _ _ hx;split at h
   ·cases h
   ·split at h
    ·simp only[xp,qi]at h;obtain⟨rfl,rfl⟩:=h;simp;omega
    ·split at h
     ·exact zp2 hp (by simp;omega) h
     ·cases h
theorem zq0 {s:ByteArray}{a k:Nat}{ty:Ty}(h:zdr s a=some (ty,k)):ty.kind=60/\ty.letters=s.extract a (zaz isL s (s.size-a) a)/\ty.letters.size<=8:=by
 unfold zdr at h;simp only at h;have hle:=zdt isL s (s.size-a) a;generalize hE:zaz isL s (s.size-a) a=E at h hle;split at h
 ·cases h
 ·rename_i hc;have hb:(s.extract a E).size<=8:=by rw[xo];omega
  split at h
  iterate 2
   ·split at h
    ·simp only[xp,qi]at h;rw[<- h.1];exact⟨rfl,rfl,hb⟩
    ·cases h
end
section
open Go.RowKit
end
section
open Go.RowKit
end
section
open Go.RowKit
theorem thn2 {w W w1:World}(h:Below w.heap.size w W)(k:Below W.heap.size W w1):Below w.heap.size w w1:=h.trans (k.mono h.size)
theorem zx8 (w:World)(af:Option Addr)(lf cf:Nat)(R:ByteArray)(h:Calls Tryz.prog 285 #[.slice af lf cf,.int .i64 (-1),.string ⟨#[]⟩] w fun e w'=>e=.returned (.string R)/\Below w.heap.size w w') :
  Calls Tryz.prog 283 #[.slice af lf cf] w fun e w'=>e=.returned (.string R)/\Below w.heap.size w w':=by
 go_enter Tryz.func283,Tryz.ntmps283
 go_wp2_with (first|(go_at_call 285;refine h.mono ?_;rintro e w1 ⟨rfl,hb1⟩))
 go_ret;exact⟨rfl,hb1⟩
theorem zpd {n:Nat}(IH:zfx n)(fs:List (Nat×Ty×ByteArray))(w:World)(af:Option Addr)(lf cf:Nat)(hlf:lf=fs.length)(hfl:fs.length<=9000000)(hk:∀ f∈fs,f.1<256/\tyK n f.2.1)(hwt:(fs.map fun f=>wt n f.2.1+f.2.2.size+4).sum<=20000)(hr:RepF n w af fs) :
  Calls Tryz.prog 283 #[.slice af lf cf] w fun e w'=>e=.returned (.string (rwT (fun t=>txtV n t (lv n t)) ⟨#[]⟩ (-1) fs 0 ⟨#[123]⟩ xf))/\Below w.heap.size w w' :=
 zx8 w af lf cf _ (zri IH fs (-1) ⟨#[]⟩ w af lf cf hlf hfl (qe _) hk hwt hr)
theorem zgn (ty:Ty)(w:World)(ai af:Option Addr)(li ci lf cf:Nat)(k:Nat)(x:ByteArray)(hk:ty.kind=k)(h:(k=105/\x=⟨#[48]⟩)\/(k=108/\x=⟨#[48]⟩)\/(k=115/\x=⟨#[34,34]⟩)\/(k=91/\x=⟨#[91,93]⟩)\/(k=63/\x=⟨#[95]⟩)) :
  Calls Tryz.prog 228 #[.agg #[.int .i64 ty.kind,.string ty.letters,.bool ty.op,.slice ai li ci,.slice af lf cf]] w fun e w'=>e=.returned (.string x)/\Below w.heap.size w w':=by
 have hB:∀ o,Below w.heap.size w (w.alloc o):=fun o=>(Below.refl _ _).alloc (xh _) _;rw[hk];rcases h with⟨rfl,rfl⟩|⟨rfl,rfl⟩|⟨rfl,rfl⟩|⟨rfl,rfl⟩|⟨rfl,rfl⟩<;>(
  clear hk
  go_enter Tryz.func228,Tryz.ntmps228
  go_wp2_with fail
  go_ret;exact⟨rfl,by first|exact hB _|exact Below.refl _ _⟩)
theorem zx9 (ty:Ty)(w:World)(ai af:Option Addr)(li ci lf cf:Nat)(hk:ty.kind=60)(hl:ty.letters.size<=8) :
  Calls Tryz.prog 228 #[.agg #[.int .i64 ty.kind,.string ty.letters,.bool ty.op,.slice ai li ci,.slice af lf cf]] w fun e w'=>e=.returned (.string (ty.letters.extract 0 1))/\Below w.heap.size w w':=by
 have hB:∀ o,Below w.heap.size w (w.alloc o):=fun o=>(Below.refl _ _).alloc (xh _) _;have hfl:=fun W=>zot ty ai li ci af lf cf W hl;rw[hk]at hfl ⊢;clear hk
 go_enter Tryz.func228,Tryz.ntmps228
 go_wp2_with (first|(go_at_call 250;refine(hfl _).mono ?_;rintro e w1 ⟨rfl,hb1⟩))
 go_ret;exact⟨rfl,by first|exact thn2 (hB _) hb1|exact hb1⟩
theorem zya (ty:Ty)(w:World)(ai af:Option Addr)(li ci lf cf:Nat)(hk:ty.kind=123)(x:ByteArray)(h:∀ W,Below w.heap.size w W->Calls Tryz.prog 283 #[.slice af lf cf] W fun e w'=>e=.returned (.string x)/\Below W.heap.size W w') :
  Calls Tryz.prog 228 #[.agg #[.int .i64 ty.kind,.string ty.letters,.bool ty.op,.slice ai li ci,.slice af lf cf]] w fun e w'=>e=.returned (.string x)/\Below w.heap.size w w':=by
 have hB:∀ o,Below w.heap.size w (w.alloc o):=fun o=>(Below.refl _ _).alloc (xh _) _;rw[hk];clear hk
 go_enter Tryz.func228,Tryz.ntmps228
 go_wp2_with (first|(go_at_call 283;refine(h _ (by first|exact hB _|exact Below.refl _ _)).mono ?_;rintro e w1 ⟨rfl,hb1⟩))
 go_ret;exact⟨rfl,by first|exact thn2 (hB _) hb1|exact hb1⟩
theorem zyb {n:Nat}(IH:zfx n):zfx (n+1):=by
 intro ty w ai af li ci lf cf hk hwt hr;obtain⟨hkk,hl1,_,hkf⟩:=hk;have hl8:ty.letters.size<=8:=hr.1;rcases hkk with h|h|h|h|h|h|h
 ·rw[show lv (n+1) ty=.num 0 by rw[lv,if_pos (.inl h)]];exact zgn ty w ai af li ci lf cf _ _ h (.inl ⟨rfl,rfl⟩)
 ·rw[show lv (n+1) ty=.num 0 by rw[lv,if_pos (.inr h)]];exact zgn ty w ai af li ci lf cf _ _ h (.inr (.inl ⟨rfl,rfl⟩))
 ·rw[show lv (n+1) ty=.str xf by rw[lv,if_neg (by omega),if_pos h]];exact zgn ty w ai af li ci lf cf _ _ h (.inr (.inr (.inl ⟨rfl,by show (quo++xf++quo:ByteArray)=_;decide⟩)))
 ·rw[show lv (n+1) ty=.cho 0 by rw[lv,if_neg (by omega),if_neg (by omega),if_pos h],zdy,<- zoq ty.letters 0 (hl1 h)];exact zx9 ty w ai af li ci lf cf h hl8
 ·rw[show lv (n+1) ty=.lst [] by rw[lv,if_neg (by omega),if_neg (by omega),if_neg (by omega),if_pos h]];exact zgn ty w ai af li ci lf cf _ _ h (.inr (.inr (.inr (.inl ⟨rfl,by show (⟨#[91]⟩++⟨#[93]⟩:ByteArray)=_;decide⟩))))
 ·rw[show lv (n+1) ty=.non by rw[lv,if_neg (by omega),if_neg (by omega),if_neg (by omega),if_neg (by omega),if_pos h]];exact zgn ty w ai af li ci lf cf _ _ h (.inr (.inr (.inr (.inr ⟨rfl,rfl⟩))))
 ·rw[show lv (n+1) ty=.rcd (ty.fields.map fun f=>lv n f.2.1) by rw[lv,if_neg (by omega),if_neg (by omega),if_neg (by omega),if_neg (by omega),if_neg (by omega)],zdh,<- zfn (fun t=>txtV n t (lv n t)) (txtV n) ⟨#[]⟩ (-1) ty.fields _ 0 _ _ (by simp) (fun i g v hg hv=>by
        rw[xm,hg]at hv;simp at hv;rw[if_neg (by omega),<- hv])]
  refine zya ty w ai af li ci lf cf h _ (fun W hb=>?_);have hfl:=(hr.keep hb).flds;exact zpd IH ty.fields W af lf cf hfl.1 hfl.2.1 hkf (by rw[wt]at hwt;omega) hfl.2.2
theorem zgm:∀ n,zfx n
 |0=>fun ty w ai af li ci lf cf _ _ hr=>hr.elim
 |n+1=>zyb (zgm n)
def unL (wl rl:ByteArray)(op:Bool):Nat->Nat->Option Nat
 |0,_=>none
 |m+1,k=>if (op||decide (0<=pOf rl (bAt wl k)))=true then unL wl rl op m (k+1) else some k
def zsq (wl:ByteArray):Option Nat->Value
 |some k=>.tuple #[.string (oneB (bAt wl k).toNat),.bool true]
 |none=>.tuple #[.string xf,.bool false]
theorem yaen (x r:Ty)(ai:Option Addr)(li ci:Nat)(af:Option Addr)(lf cf:Nat)(bi:Option Addr)(mi di:Nat)(bf:Option Addr)(mf df:Nat)(w:World)(hx8:x.letters.size<=8)(hr8:r.letters.size<=8) :
  Calls Tryz.prog 229 #[.agg #[.int .i64 x.kind,.string x.letters,.bool x.op,.slice ai li ci,.slice af lf cf],.agg #[.int .i64 r.kind,.string r.letters,.bool r.op,.slice bi mi di,.slice bf mf df]] w fun e w'=>e=.returned (zsq x.letters (unL x.letters r.letters r.op x.letters.size 0))/\Below w.heap.size w w':=by
 have _hx:x.letters.size<=9000000:=by omega
 obtain⟨R,hR⟩:∃ R,R=unL x.letters r.letters r.op x.letters.size 0:=⟨_,rfl⟩;rw[<- hR];have HR:Hid (R=unL x.letters r.letters r.op (x.letters.size-0) 0):=hR;clear hR
 go_enter Tryz.func229,Tryz.ntmps229
 go_wp2_with fail
 go_loopw [6] (fun vk wr=>∃ (k:Nat),k<=x.letters.size/\vk=.int .i64 k/\Hid (R=unL x.letters r.letters r.op (x.letters.size-k) k)/\Below (w.heap.size+2) ((w.alloc (.cells #[.int .i64 x.kind,.string x.letters,.bool x.op,.slice ai li ci,.slice af lf cf] 201)).alloc (.cells #[.int .i64 r.kind,.string r.letters,.bool r.op,.slice bi mi di,.slice bf mf df] 201)) wr) (fun k _=>9-(intOf k).toNat)
 case atStart=>exact⟨0,qe _,rfl,HR,Below.refl _ _⟩
 case round =>
  obtain⟨k,hk,rfl,hR,hb⟩:=hrel;have hbB:Below ((w.alloc (.cells #[.int .i64 x.kind,.string x.letters,.bool x.op,.slice ai li ci,.slice af lf cf] 201)).alloc (.cells #[.int .i64 r.kind,.string r.letters,.bool r.op,.slice bi mi di,.slice bf mf df] 201)).heap.size ((w.alloc (.cells #[.int .i64 x.kind,.string x.letters,.bool x.op,.slice ai li ci,.slice af lf cf] 201)).alloc (.cells #[.int .i64 r.kind,.string r.letters,.bool r.op,.slice bi mi di,.slice bf mf df] 201)) wr:=hb.mono (by simp);obtain⟨hc,hf⟩:=zap hbB;have hsw:w.heap.size+2<=wr.heap.size:=by have:=hb.size;simpa using this
  have hbw:Below w.heap.size w wr:=(((Below.refl _ _).alloc (xh _) _).alloc (by simp) _).trans (hb.mono (by omega));by_cases hlt:k<x.letters.size
  ·have hlt':(k:Int)<(x.letters.size:Int):=by omega
   have hlo:0<=bAt x.letters k:=by rw[zee _ _ hlt];omega
   have hhi:=zeq x.letters k;have hR2:R=if (r.op||decide (0<=pOf r.letters (bAt x.letters k)))=true then unL x.letters r.letters r.op (x.letters.size-(k+1)) (k+1) else some k:=by
    rw[hR.out,show x.letters.size-k=(x.letters.size-(k+1))+1 by omega];rfl
   have hby:=fun W=>zba x.letters k W _hx;have htk:=fun W=>zr8 r bi mi di bf mf df (bAt x.letters k) W hr8;obtain⟨c,hc0⟩:∃ c,c=bAt x.letters k:=⟨_,rfl⟩;rw[<- hc0]at hlo hhi hR2 hby htk;cases hT:(r.op||decide (0<=pOf r.letters c)) with
   |true =>
    rw[hT]at htk;have hr':Hid (R=unL x.letters r.letters r.op (x.letters.size-(k+1)) (k+1)):=by show _=_;rw[hR2,if_pos hT]
    clear hR2 hT hc0
    go_wp2_with (first|(go_at_call 245;refine(hby _).mono ?_;rintro e _ ⟨rfl,rfl⟩)|(go_at_call 248;refine(htk _).mono ?_;rintro e w1 ⟨rfl,hb1⟩))
    go_roundw
    case rel=>exact⟨k+1,by omega,by go_num,hr',hb.trans (hb1.mono hsw)⟩
    case measure=>simp[intOf];omega
   |false =>
    rw[hT]at htk;have hr':Hid (R=some k):=by show _=_;rw[hR2,if_neg (by rw[hT];simp)]
    have HC:Hid (bAt x.letters k=c):=hc0.symm;clear hR2 hT hc0
    go_wp2_with (first|(go_at_call 245;refine(hby _).mono ?_;rintro e _ ⟨rfl,rfl⟩)|(go_at_call 248;refine(htk _).mono ?_;rintro e w1 ⟨rfl,hb1⟩)|(go_at_call 251;refine(zel c _ hlo (by omega)).mono ?_;rintro e w2 ⟨rfl,hb2⟩))
    go_ret2
    rw[hr'.out];simp only[zsq,HC.out];exact⟨rfl,thn2 (thn2 hbw hb1) hb2⟩
  ·have hr':Hid (R=none):=by show _=_;rw[hR.out,show x.letters.size-k=0 by omega];rfl
   go_wp2_with fail
   go_ret2
   rw[hr'.out];exact⟨rfl,hbw⟩
def unF (f:Ty->Ty->Option Val)(n:Nat)(wf:List (Nat×Ty×ByteArray)):List (Nat×Ty×ByteArray)->Option Val
 |[]=>none
 |g::gs =>
  match wf.findIdx? (fun h=>h.1 == g.1) with
  |none=>if g.2.2.size=0 then some (.rcd (wf.map fun f=>lv n f.2.1)) else unF f n wf gs
  |some p =>
   match f ((wf.map fun h=>h.2.1).getD p (za3 0)) g.2.1 with
   |none=>unF f n wf gs
   |some u=>some (.rcd ((wf.map fun f=>lv n f.2.1).set p u))
def zda (f g:Ty->Ty->Option Val)(n:Nat)(w r:Ty):Option Val :=
 if w.kind=63/\r.kind=63 then (f w.in r.in).map Val.som
 else if r.kind=63 then g w r.in
 else if zax w.kind r.kind=true then none
 else if w.kind≠r.kind then some (lv (n+1) w)
 else if w.kind=60 then (unL w.letters r.letters r.op w.letters.size 0).map Val.cho
 else if w.kind=91 then (f w.in r.in).map fun u=>.lst [u]
 else if w.kind=123 then unF f n w.fields r.fields
 else none
def unV:Nat->Nat->Ty->Ty->Option Val
 |0,_,_,_=>none
 |_+1,0,_,_=>none
 |m+1,n+1,w,r=>zda (unV m n) (unV m (n+1)) n w r
def uR:Option ByteArray->Value
 |some t=>.tuple #[.string t,.bool true]
 |none=>.tuple #[.string xf,.bool false]
end
section
open Go.RowKit
theorem zrv {n:Nat}{ty:Ty}{p:Nat}{u:Val}{g:Nat×Ty×ByteArray}(hg:ty.fields[p]?=some g):rwT (fun t=>txtV n t (lv n t)) (txtV n g.2.1 u) (p:Nat) ty.fields 0 ⟨#[123]⟩ xf=txtV (n+1) ty (.rcd ((ty.fields.map fun f=>lv n f.2.1).set p u)):=by
 rw[zdh];refine zfn (fun t=>txtV n t (lv n t)) (txtV n) _ _ ty.fields _ 0 _ _ (by simp) (fun i g' v hg' hv=>?_);rw[qk];by_cases hi:i=p
 ·subst hi;rw[if_pos rfl];rw[hg]at hg';cases hg';rw[List.getElem?_set_self (by rcases qm i ty.fields.length with h|h;simpa using h;rw[List.getElem?_eq_none h]at hg;cases hg)]at hv;cases hv;rfl
 ·rw[if_neg (by omega)];rw[List.getElem?_set_ne (by omega),xm,hg']at hv;simp at hv;rw[<- hv]
theorem zkk {fs:List (Nat×Ty×ByteArray)}{p:Nat}{g:Nat×Ty×ByteArray}(h:fs[p]?=some g):(fs.map fun h=>h.2.1).getD p (za3 0)=g.2.1:=by
 rw[List.getD_eq_getElem?_getD,xm,h];rfl
theorem zlz {f:Ty->Ty->Option Val}{n:Nat}{ty:Ty}(hf:∀ (g:Nat×Ty×ByteArray) r u,g∈ty.fields->f g.2.1 r=some u->(txtV n g.2.1 u).size<=wt n g.2.1):∀ (gs:List (Nat×Ty×ByteArray)) (u:Val),unF f n ty.fields gs=some u->(txtV (n+1) ty u).size<=wt (n+1) ty
 |[],u,h=>by simp[unF]at h
 |g::gs,u,h=>by
  have h70:=zha n ty;have he:ByteArray.empty.size=0:=rfl;rw[unF]at h;split at h
  ·split at h
   ·cases h;rw[zdh,<- zfn (fun t=>txtV n t (lv n t)) (txtV n) ⟨#[]⟩ (-1) ty.fields _ 0 _ _ (by simp) (fun i g v hg hv=>by
        rw[xm,hg]at hv;simp at hv;rw[if_neg (by omega),<- hv])]
    have:=zil (f:=fun t=>txtV n t (lv n t)) (x:=⟨#[]⟩) (p:=-1) (c:=fun f=>wt n f.2.1+f.2.2.size+4) ty.fields 0 ⟨#[123]⟩ xf rfl (fun i g hg=>by
        rw[if_neg (by omega)];have:=zgo n g.2.1;omega)
    rw[wt];omega
   ·exact zlz hf gs u h
  ·rename_i p hp;rw[xu]at hp;obtain⟨hpl,_⟩:=hp;obtain⟨q,hq⟩:∃ q,ty.fields[p]?=some q:=⟨ty.fields[p],xg hpl⟩;rw[zkk hq]at h;split at h
   ·exact zlz hf gs u h
   ·rename_i v hv;cases h;rw[<- zrv hq];have h1:=hf q _ v (xq hq) hv;have:=zil (f:=fun t=>txtV n t (lv n t)) (x:=txtV n q.2.1 v) (p:=(p:Nat)) (c:=fun f=>wt n f.2.1+f.2.2.size+4) ty.fields 0 ⟨#[123]⟩ xf rfl (fun i g hg=>by
     rw[qk];by_cases hi:i=p
     ·subst hi;rw[if_pos rfl];rw[hq]at hg;cases hg;omega
     ·rw[if_neg (by omega)];have:=zgo n g.2.1;omega)
    rw[wt];omega
theorem wtI {m:Nat}{r:Ty}(h:r.inner≠[]):wt m r.in+70<=wt (m+1) r:=by
 unfold Ty.in;rcases hi:r.inner with _|⟨t,ts⟩
 ·exact absurd hi h
 ·rw[wt,hi];simp;omega
theorem zfu:∀ (m n:Nat) (x r:Ty) (u:Val),tyK n x->unV m n x r=some u->(txtV n x u).size<=wt n x
 |0,n,x,r,u,hk,h=>by simp[unV]at h
 |m+1,0,x,r,u,hk,h=>by simp[unV]at h
 |m+1,n+1,x,r,u,hk,h=>by
  have h70:=zha n x;change zda (unV m n) (unV m (n+1)) n x r=some u at h;unfold zda at h;split at h
  ·rename_i hc;obtain⟨v,hv,rfl⟩:=xv.1 h;have hi:=hk.2.2.1 (.inr hc.1);have:=zfu m n x.in r.in v hi.2 hv;have:=wtI (m:=n) hi.1;rw[ze9];omega
  ·split at h
   ·exact zfu m (n+1) x r.in u hk h
   ·split at h
    ·cases h
    ·split at h
     ·cases h;exact zgo (n+1) x
     ·split at h
      ·obtain⟨v,hv,rfl⟩:=xv.1 h;rw[zdy,zak];omega
      ·split at h
       ·rename_i h91;obtain⟨v,hv,rfl⟩:=xv.1 h;have hi:=hk.2.2.1 (.inl h91);have:=zfu m n x.in r.in v hi.2 hv;have:=wtI (m:=n) hi.1;rw[zeb];show (⟨#[91]⟩++txtV n x.in v++⟨#[93]⟩:ByteArray).size<=_;have e1:(⟨#[91]⟩:ByteArray).size=1:=rfl;have e2:(⟨#[93]⟩:ByteArray).size=1:=rfl;rw[xe,xe];omega
       ·split at h
        ·exact zlz (fun g r u hg hu=>zfu m n g.2.1 r u (hk.2.2.2 g hg).2 hu) _ u h
        ·cases h
def zhi (m:Nat):Prop:=∀ (nw nr:Nat) (x r:Ty) (w:World) (ai af:Option Addr) (li ci lf cf:Nat) (bi bf:Option Addr) (mi di mf df:Nat),nw+nr<=m->tyK nw x->wt nw x<=20000->Rep nw w ai li ci af lf cf x->Rep nr w bi mi di bf mf df r ->
 Calls Tryz.prog 179 #[.agg #[.int .i64 x.kind,.string x.letters,.bool x.op,.slice ai li ci,.slice af lf cf],.agg #[.int .i64 r.kind,.string r.letters,.bool r.op,.slice bi mi di,.slice bf mf df]] w fun e w'=>e=.returned (uR ((unV m nw x r).map (txtV nw x)))/\Below w.heap.size w w'
theorem zst (x r:Ty)(w:World)(ai:Option Addr)(li ci:Nat)(af:Option Addr)(lf cf:Nat)(bi:Option Addr)(mi di:Nat)(bf:Option Addr)(mf df:Nat)(y:ByteArray)(b:Bool)(hy:y.size<=20000)
  (h:∀ W,Below w.heap.size w W->Calls Tryz.prog 179 #[.agg #[.int .i64 x.kind,.string x.letters,.bool x.op,.slice ai li ci,.slice af lf cf],.agg #[.int .i64 r.kind,.string r.letters,.bool r.op,.slice bi mi di,.slice bf mf df]] W fun e w'=>e=.returned (.tuple #[.string y,.bool b])/\Below W.heap.size W w') :
  Calls Tryz.prog 230 #[.agg #[.int .i64 x.kind,.string x.letters,.bool x.op,.slice ai li ci,.slice af lf cf],.agg #[.int .i64 r.kind,.string r.letters,.bool r.op,.slice bi mi di,.slice bf mf df]] w fun e w'=>e=.returned (if b=true then .tuple #[.string (⟨#[91]⟩++y++⟨#[93]⟩),.bool true] else .tuple #[.string xf,.bool false])/\Below w.heap.size w w':=by
 have hB:∀ o o2,Below w.heap.size w ((w.alloc o).alloc o2):=fun o o2=>((Below.refl _ _).alloc (xh _) _).alloc (by simp) _;have e1:(⟨#[91]⟩:ByteArray).size=1:=rfl;have e2:(⟨#[93]⟩:ByteArray).size=1:=rfl;have e3:(⟨#[91]⟩++y:ByteArray).size=1+y.size:=by rw[xe,e1]
 cases b with
 |true =>
  rw[if_pos rfl]
  go_enter Tryz.func230,Tryz.ntmps230
  go_wp2_with (first|(go_at_call 179;refine(h _ (hB _ _)).mono ?_;rintro e w1 ⟨rfl,hb1⟩))
  go_ret2
  exact⟨rfl,thn2 (hB _ _) hb1⟩
 |false =>
  rw[if_neg (by simp)]
  go_enter Tryz.func230,Tryz.ntmps230
  go_wp2_with (first|(go_at_call 179;refine(h _ (hB _ _)).mono ?_;rintro e w1 ⟨rfl,hb1⟩))
  go_ret2
  exact⟨rfl,thn2 (hB _ _) hb1⟩
theorem yaag (c:Nat)(fs:List (Nat×Ty×ByteArray)):(plF fs c=-1/\fs.findIdx? (fun g=>g.1 == c)=none)\/∃ i f,plF fs c=(i:Nat)/\i<fs.length/\fs[i]?=some f/\fs.findIdx? (fun g=>g.1 == c)=some i:=by
 unfold plF;cases hx:fs.findIdx? (fun g=>g.1 == c) with
 |none=>exact .inl ⟨rfl,rfl⟩
 |some i =>
  have:=hx;rw[xu]at this;exact .inr ⟨i,fs[i]'this.1,rfl,this.1,xg this.1,rfl⟩
theorem zx0 {d:ByteArray}(h:1<=d.size):d.toList.isEmpty=false:=by
 rw[qp];cases hl:d.data.toList with
 |nil =>
  have h2:d.data.size=0:=by rw[<- Array.length_toList,hl];rfl
  have h3:d.size=d.data.size:=rfl;omega
 |cons _ _=>rfl
theorem zek {W w1:World}(hb:Below W.heap.size W w1){b o0 o1 o2 o3 o4:Nat}{v0 v1 v2 v3 v4:Value}(h:W.cell? ⟨b,o0,none⟩=some v0/\W.cell? ⟨b,o1,none⟩=some v1/\W.cell? ⟨b,o2,none⟩=some v2/\W.cell? ⟨b,o3,none⟩=some v3/\W.cell? ⟨b,o4,none⟩=some v4) :
  w1.cell? ⟨b,o0,none⟩=some v0/\w1.cell? ⟨b,o1,none⟩=some v1/\w1.cell? ⟨b,o2,none⟩=some v2/\w1.cell? ⟨b,o3,none⟩=some v3/\w1.cell? ⟨b,o4,none⟩=some v4:=by
 obtain⟨h0,h1,h2,h3,h4⟩:=h;exact⟨zab hb h0,zab hb h1,zab hb h2,zab hb h3,zab hb h4⟩
theorem zpo {W:World}(o:Obj){b o0 o1 o2 o3 o4:Nat}{v0 v1 v2 v3 v4:Value}(h:W.cell? ⟨b,o0,none⟩=some v0/\W.cell? ⟨b,o1,none⟩=some v1/\W.cell? ⟨b,o2,none⟩=some v2/\W.cell? ⟨b,o3,none⟩=some v3/\W.cell? ⟨b,o4,none⟩=some v4) :
  (W.alloc o).cell? ⟨b,o0,none⟩=some v0/\(W.alloc o).cell? ⟨b,o1,none⟩=some v1/\(W.alloc o).cell? ⟨b,o2,none⟩=some v2/\(W.alloc o).cell? ⟨b,o3,none⟩=some v3/\(W.alloc o).cell? ⟨b,o4,none⟩=some v4:=by
 obtain⟨h0,h1,h2,h3,h4⟩:=h;exact⟨zah _ h0,zah _ h1,zah _ h2,zah _ h3,zah _ h4⟩
theorem box7 (w:World)(gf:Nat×Ty×ByteArray)(bi:Option Addr)(mi di:Nat)(bf:Option Addr)(mf df:Nat) :
  (w.alloc (.cells #[.int .i64 gf.1,.int .i64 gf.2.1.kind,.string gf.2.1.letters,.bool gf.2.1.op,.slice bi mi di,.slice bf mf df,.string gf.2.2] 315)).cell? ⟨w.heap.size,1,none⟩=some (.int .i64 gf.2.1.kind)/\(w.alloc (.cells #[.int .i64 gf.1,.int .i64 gf.2.1.kind,.string gf.2.1.letters,.bool gf.2.1.op,.slice bi mi di,.slice bf mf df,.string gf.2.2] 315)).cell? ⟨w.heap.size,2,none⟩=some (.string gf.2.1.letters)/\(w.alloc (.cells #[.int .i64 gf.1,.int .i64 gf.2.1.kind,.string gf.2.1.letters,.bool gf.2.1.op,.slice bi mi di,.slice bf mf df,.string gf.2.2] 315)).cell? ⟨w.heap.size,3,none⟩=some (.bool gf.2.1.op)/\(w.alloc (.cells #[.int .i64 gf.1,.int .i64 gf.2.1.kind,.string gf.2.1.letters,.bool gf.2.1.op,.slice bi mi di,.slice bf mf df,.string gf.2.2] 315)).cell? ⟨w.heap.size,4,none⟩=some (.slice bi mi di)/\(w.alloc (.cells #[.int .i64 gf.1,.int .i64 gf.2.1.kind,.string gf.2.1.letters,.bool gf.2.1.op,.slice bi mi di,.slice bf mf df,.string gf.2.2] 315)).cell? ⟨w.heap.size,5,none⟩=some (.slice bf mf df) :=
 ⟨zam rfl rfl,zam rfl rfl,zam rfl rfl,zam rfl rfl,zam rfl rfl⟩
theorem yaeo {m:Nat}(IH:zhi m)(nw nr:Nat)(hm:nw+nr<=m)(x:Ty)(gs:List (Nat×Ty×ByteArray))(w:World)(af bf:Option Addr)(lf cf mf df:Nat)(hlf:lf=x.fields.length)(hmf:mf=gs.length)(hfl:x.fields.length<=9000000)(hgl:gs.length<=9000000)(hfn:x.fields≠[])(hk:∀ f∈x.fields,f.1<256/\tyK nw f.2.1)
  (hwt:(x.fields.map fun f=>wt nw f.2.1+f.2.2.size+4).sum<=20000) (hr:RepF nw w af x.fields) (hrg:RepF nr w bf gs) :
  Calls Tryz.prog 231 #[.slice af lf cf,.slice bf mf df] w fun e w'=>e=.returned (uR ((unF (unV m nw) nw x.fields gs).map (txtV (nw+1) x)))/\Below w.heap.size w w':=by
 subst hlf hmf;rcases hr with⟨hr,_⟩|⟨g,rfl,hcells⟩
 ·exact absurd hr hfn
 obtain⟨R,hR⟩:∃ R,R=unF (unV m nw) nw x.fields gs:=⟨_,rfl⟩;rw[<- hR];have HR:Hid (R=unF (unV m nw) nw x.fields (gs.drop 0)):=hR;clear hR;have hrf:∀ W,Below w.heap.size w W->RepF nw W (some ⟨g,0,none⟩) x.fields:=fun W hb=>.inr ⟨g,rfl,fun i f hi=>by
  obtain⟨p1,p2,p3,q1,q2,q3,h0,k0,k1,k2,k3,k4,k5,k6⟩:=hcells i f hi;exact⟨p1,p2,p3,q1,q2,q3,h0.keep hb,zab hb k0,zab hb k1,zab hb k2,zab hb k3,zab hb k4,zab hb k5,zab hb k6⟩⟩
 go_enter Tryz.func231,Tryz.ntmps231
 go_wp2_with fail
 go_loopw [13] (fun vi wr=>∃ (i:Nat),i<=gs.length/\vi=.int .i64 i/\Hid (R=unF (unV m nw) nw x.fields (gs.drop i))/\Below w.heap.size w wr) (fun i _=>gs.length-(intOf i).toNat)
 case atStart=>exact⟨0,qe _,rfl,HR,Below.refl _ _⟩
 case round =>
  obtain⟨i,hi,rfl,hR,hb⟩:=hrel;by_cases hlt:i<gs.length
  ·obtain⟨gf,hf⟩:∃ f,gs[i]?=some f:=⟨gs[i],xg hlt⟩;have hdrop:gs.drop i=gf::gs.drop (i+1):=by
    rw[qd hlt];rw[xg hlt]at hf;simp at hf;rw[hf]
   rcases hrg with⟨hrg,_⟩|⟨h,rfl,hcellg⟩
   ·rw[hrg]at hf;simp at hf
   obtain⟨p1,p2,p3,q1,q2,q3,hrep,k0,k1,k2,k3,k4,k5,k6⟩:=hcellg i gf hf;have k0:=zab hb k0;have k1:=zab hb k1;have k2:=zab hb k2;have k3:=zab hb k3;have k4:=zab hb k4;have k5:=zab hb k5;have k6:=zab hb k6;have hg':h<wr.heap.size:=zag k0;have hBa:∀ o,Below wr.heap.size wr (wr.alloc o):=fun o=>(Below.refl _ _).alloc (xh _) _;have hpl:∀ o,Calls Tryz.prog 284 #[.slice (some ⟨g,0,none⟩) x.fields.length cf,.int .i64 gf.1] (wr.alloc o) fun e w'=>e=.returned (.int .i64 (plF x.fields gf.1))/\Below (wr.alloc o).heap.size (wr.alloc o) w':=fun o =>
    zk6 x.fields gf.1 (wr.alloc o) g cf hfl (fun i f hi=>by
     obtain⟨a1,a2,a3,b1,b2,b3,_,c0,c1,c2,c3,c4,c5,c6⟩:=hcells i f hi;have hq:=thn2 hb (hBa o);exact⟨a1,a2,a3,b1,b2,b3,zab hq c0,zab hq c1,zab hq c2,zab hq c3,zab hq c4,zab hq c5,zab hq c6⟩)
   rcases yaag gf.1 x.fields with⟨hp1,hp2⟩|⟨p,f,hp1,hpl',hpf,hp2⟩
   ·rw[hp1]at hpl;by_cases hz:gf.2.2.size=0
    ·have hze:gf.2.2=xf:=zfa hz (fun i hi=>by omega);have hr':Hid (R=some (.rcd (x.fields.map fun f=>lv nw f.2.1))):=by show _=_;rw[hR.out,hdrop,unF,hp2];simp only;rw[if_pos hz]
     have hlr:=fun (W:World) (hb':Below w.heap.size w W)=>zpd (zgm nw) x.fields W (some ⟨g,0,none⟩) x.fields.length cf rfl hfl hk hwt (hrf W hb');have HT:Hid (rwT (fun t=>txtV nw t (lv nw t)) ⟨#[]⟩ (-1) x.fields 0 ⟨#[123]⟩ xf=txtV (nw+1) x (.rcd (x.fields.map fun f=>lv nw f.2.1))):=by
      show _=_;rw[zdh];exact zfn (fun t=>txtV nw t (lv nw t)) (txtV nw) ⟨#[]⟩ (-1) x.fields _ 0 _ _ (by simp) (fun i g v hg hv=>by rw[xm,hg]at hv;simp at hv;rw[if_neg (by omega),<- hv])
     rw[HT.out]at hlr;obtain⟨Y,hY⟩:∃ Y,Y=txtV (nw+1) x (.rcd (x.fields.map fun f=>lv nw f.2.1)):=⟨_,rfl⟩;rw[<- hY]at hlr;have HY:Hid (txtV (nw+1) x (.rcd (x.fields.map fun f=>lv nw f.2.1))=Y):=hY.symm;rw[hze]at k6;clear hdrop hf hcellg hcells hR hp1 hp2 hz hY HT
     go_wp2_with (first|(go_at_call 284;refine(hpl _).mono ?_;rintro e w1 ⟨rfl,hb1⟩;obtain⟨hc1,hf1⟩:=zap hb1;have hz1:wr.heap.size<w1.heap.size:=(by have:=hb1.size;simp at this;omega))|(go_at_call 283;refine(hlr _ (thn2 (thn2 hb (hBa _)) hb1)).mono ?_;rintro e w2 ⟨rfl,hb2⟩))
     go_ret2
     rw[hr'.out];simp only[qh,uR,HY.out];exact⟨rfl,thn2 (thn2 (thn2 hb (hBa _)) hb1) hb2⟩
    ·have hr':Hid (R=unF (unV m nw) nw x.fields (gs.drop (i+1))):=by show _=_;rw[hR.out,hdrop,unF,hp2];simp only;rw[if_neg hz]
     have hE:gf.2.2.toList.isEmpty=false:=zx0 (by omega);clear hdrop hf hcellg hcells hR hp1 hp2 hz
     go_wp2_with (first|(go_at_call 284;refine(hpl _).mono ?_;rintro e w1 ⟨rfl,hb1⟩;obtain⟨hc1,hf1⟩:=zap hb1;have hz1:wr.heap.size<w1.heap.size:=(by have:=hb1.size;simp at this;omega)))
     go_roundw
     case rel=>exact⟨i+1,by omega,by go_num,hr',thn2 (thn2 hb (hBa _)) hb1⟩
     case measure=>simp[intOf];omega
   ·rw[hp1]at hpl;obtain⟨a1,a2,a3,b1,b2,b3,hrepf,c0,c1,c2,c3,c4,c5,c6⟩:=hcells p f hpf;have hkf:=hk f (xq hpf);have hwf:wt nw f.2.1<=20000:=by
     have:=zlr (fun f:Nat×Ty×ByteArray=>wt nw f.2.1+f.2.2.size+4) 20000 x.fields f (xq hpf) hwt;omega
    have hun:=fun (W:World) (hb':Below wr.heap.size wr W)=>IH nw nr f.2.1 gf.2.1 W a1 b1 a2 a3 b2 b3 p1 q1 p2 p3 q2 q3 hm hkf.2 hwf (hrepf.keep (thn2 hb hb')) (hrep.keep (thn2 hb hb'));have c0':=zab hb c0;have hgw:g<wr.heap.size:=zag c0';have k71:wr.cell? ⟨g,p*7+1,none⟩=some (.int .i64 f.2.1.kind)/\wr.cell? ⟨g,p*7+2,none⟩=some (.string f.2.1.letters)/\wr.cell? ⟨g,p*7+3,none⟩=some (.bool f.2.1.op)/\wr.cell? ⟨g,p*7+4,none⟩=some (.slice a1 a2 a3)/\wr.cell? ⟨g,p*7+5,none⟩=some (.slice b1 b2 b3):=⟨zab hb c1,zab hb c2,zab hb c3,zab hb c4,zab hb c5⟩;have hgd:=zkk hpf;cases hy:unV m nw f.2.1 gf.2.1 with
    |none =>
     have hr':Hid (R=unF (unV m nw) nw x.fields (gs.drop (i+1))):=by show _=_;rw[hR.out,hdrop,unF,hp2];simp only;rw[hgd,hy]
     rw[hy]at hun;simp only[Option.map_none,uR]at hun;clear hdrop hf hcellg hcells hR hp1 hp2 hy hgd hrepf c0 c1 c2 c3 c4 c5 c6 c0' hkf hwf hk hwt hpf
     go_wp2_with (first|(go_at_call 284;refine(hpl _).mono ?_;rintro e w1 ⟨rfl,hb1⟩;obtain⟨hc1,hf1⟩:=zap hb1;have hz1:wr.heap.size<w1.heap.size:=(by have:=hb1.size;simp at this;omega)))
     have e5:=zek hb1 (box7 wr gf p1 p2 p3 q1 q2 q3);have e7:=zek hb1 (zpo (.cells #[.int .i64 gf.1,.int .i64 gf.2.1.kind,.string gf.2.1.letters,.bool gf.2.1.op,.slice p1 p2 p3,.slice q1 q2 q3,.string gf.2.2] 315) k71)
     go_region_held3 (fun w'=>(w'.cell? ⟨wr.heap.size,1,none⟩=some (.int .i64 gf.2.1.kind)/\w'.cell? ⟨wr.heap.size,2,none⟩=some (.string gf.2.1.letters)/\w'.cell? ⟨wr.heap.size,3,none⟩=some (.bool gf.2.1.op)/\w'.cell? ⟨wr.heap.size,4,none⟩=some (.slice p1 p2 p3)/\w'.cell? ⟨wr.heap.size,5,none⟩=some (.slice q1 q2 q3))/\w'.cell? ⟨g,p*7+1,none⟩=some (.int .i64 f.2.1.kind)/\w'.cell? ⟨g,p*7+2,none⟩=some (.string f.2.1.letters)/\w'.cell? ⟨g,p*7+3,none⟩=some (.bool f.2.1.op)/\w'.cell? ⟨g,p*7+4,none⟩=some (.slice a1 a2 a3)/\w'.cell? ⟨g,p*7+5,none⟩=some (.slice b1 b2 b3)) (go_keep) (first|(go_at_call 179;refine(hun _ (by first|exact(thn2 (hBa _) hb1).drew|exact thn2 (hBa _) hb1)).mono ?_;rintro e w2 ⟨rfl,hb2⟩;have e5':=zek hb2 e5;have e7':=zek hb2 e7))
     go_wp2_with fail
     go_roundw
     case rel=>exact⟨i+1,by omega,by go_num,hr',thn2 (thn2 (thn2 hb (hBa _)) hb1).drew hb2⟩
     case measure=>simp[intOf];omega
    |some u =>
     have hr':Hid (R=some (.rcd ((x.fields.map fun f=>lv nw f.2.1).set p u))):=by show _=_;rw[hR.out,hdrop,unF,hp2];simp only;rw[hgd,hy]
     rw[hy]at hun;simp only[qh,uR]at hun;have hus:=zfu m nw f.2.1 gf.2.1 u hkf.2 hy;have hrw:=fun (W:World) (hb':Below w.heap.size w W)=>zri (zgm nw) x.fields (p:Nat) (txtV nw f.2.1 u) W (some ⟨g,0,none⟩) x.fields.length cf rfl hfl (by omega) hk hwt (hrf W hb');rw[zrv hpf]at hrw;obtain⟨Y,hY⟩:∃ Y,Y=txtV (nw+1) x (.rcd ((x.fields.map fun f=>lv nw f.2.1).set p u)):=⟨_,rfl⟩;rw[<- hY]at hrw;have HY:Hid (txtV (nw+1) x (.rcd ((x.fields.map fun f=>lv nw f.2.1).set p u))=Y):=hY.symm;generalize txtV nw f.2.1 u=Z at hun hrw hus;clear hdrop hf hcellg hcells hR hp1 hp2 hy hgd hrepf c0 c1 c2 c3 c4 c5 c6 c0' hkf hwf hk hwt hpf hY hus
     go_wp2_with (first|(go_at_call 284;refine(hpl _).mono ?_;rintro e w1 ⟨rfl,hb1⟩;obtain⟨hc1,hf1⟩:=zap hb1;have hz1:wr.heap.size<w1.heap.size:=(by have:=hb1.size;simp at this;omega)))
     have e5:=zek hb1 (box7 wr gf p1 p2 p3 q1 q2 q3);have e7:=zek hb1 (zpo (.cells #[.int .i64 gf.1,.int .i64 gf.2.1.kind,.string gf.2.1.letters,.bool gf.2.1.op,.slice p1 p2 p3,.slice q1 q2 q3,.string gf.2.2] 315) k71)
     go_region_held3 (fun w'=>(w'.cell? ⟨wr.heap.size,1,none⟩=some (.int .i64 gf.2.1.kind)/\w'.cell? ⟨wr.heap.size,2,none⟩=some (.string gf.2.1.letters)/\w'.cell? ⟨wr.heap.size,3,none⟩=some (.bool gf.2.1.op)/\w'.cell? ⟨wr.heap.size,4,none⟩=some (.slice p1 p2 p3)/\w'.cell? ⟨wr.heap.size,5,none⟩=some (.slice q1 q2 q3))/\w'.cell? ⟨g,p*7+1,none⟩=some (.int .i64 f.2.1.kind)/\w'.cell? ⟨g,p*7+2,none⟩=some (.string f.2.1.letters)/\w'.cell? ⟨g,p*7+3,none⟩=some (.bool f.2.1.op)/\w'.cell? ⟨g,p*7+4,none⟩=some (.slice a1 a2 a3)/\w'.cell? ⟨g,p*7+5,none⟩=some (.slice b1 b2 b3)) (go_keep) (first|(go_at_call 179;refine(hun _ (by first|exact(thn2 (hBa _) hb1).drew|exact thn2 (hBa _) hb1)).mono ?_;rintro e w2 ⟨rfl,hb2⟩;have e5':=zek hb2 e5;have e7':=zek hb2 e7))
     go_wp2_with (first|(go_at_call 285;refine(hrw _ (thn2 (thn2 (thn2 hb (hBa _)) hb1).drew hb2)).mono ?_;rintro e w3 ⟨rfl,hb3⟩))
     go_ret2
     rw[hr'.out];simp only[qh,uR,HY.out];exact⟨rfl,thn2 (thn2 (thn2 (thn2 hb (hBa _)) hb1).drew hb2) hb3⟩
  ·have hnil:gs.drop i=[]:=qg (by omega);have hr':Hid (R=none):=by show _=_;rw[hR.out,hnil,unF]
   go_wp2_with fail
   go_ret2
   rw[hr'.out];exact⟨rfl,hb⟩
end
end Go.Proofs.YtkkekopomiehlabGreatDoor
