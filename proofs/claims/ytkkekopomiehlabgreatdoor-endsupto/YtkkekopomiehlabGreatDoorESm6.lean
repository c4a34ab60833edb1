import Derived.Test.YtkkekopomiehlabGreatDoorEFt4
set_option linter.unusedVariables false
set_option linter.unusedSimpArgs false
set_option maxHeartbeats 40000000
set_option maxRecDepth 4000
open List renaming getElem?_eq_none->xe,getElem?_eq_getElem->xf,getElem?_append_left->xg,range->xh,getElem?_range->xm,getElem?_map->xp,take_of_length_le->xq,mem_of_getElem?->xv,ext_getElem?->xz,getElem?_append_right->qf,all_eq_true->qh,map_append->qi,length_map->qj,take_add_one->qm,length->qn,sum_append->qo,replicate->qq,getD->qx,mem_map->qy
open Bool renaming and_eq_true->xj,and_assoc->qu,false_or->qv
open Option.some renaming injEq->xo
open Go.World renaming rangeAt_setCells_same->xu,rangeAt_setCells_apart->qe,there_setCells->qk
open Prod.mk renaming injEq->xy
open Nat renaming zero_le->qd,le_refl->qg
open ByteArray renaming empty->qp
open Prod renaming fst->q9
namespace Go.Proofs.YtkkekopomiehlabGreatDoor
section
open Go.RowKit
end
section
open Go.RowKit
end
def Rel (t:ByteArray)(f g:Nat->Option (ByteArray×Nat)):Prop:=(∀ j d k,g j=some (d,k)->f j=some (d,k))/\(∀ j d k,f j=some (d,k)->bAt t k≠45->g j=some (d,k))
theorem Rel.refl (t:ByteArray)(f:Nat->Option (ByteArray×Nat)):Rel t f f:=⟨fun _ _ _ h=>h,fun _ _ _ h _=>h⟩
theorem Rel.none {t:ByteArray}{f g:Nat->Option (ByteArray×Nat)}(h:Rel t f g){j:Nat}(hf:f j=none):g j=none:=by
 rcases hg:g j with _|⟨d,k⟩
 ·rfl
 ·rw[h.1 _ _ _ hg]at hf;cases hf
theorem zoe (lo hi:Int)(t:ByteArray):Rel t (zbf false lo hi t) (zbf true lo hi t):=by
 constructor
 ·intro j d k h;unfold zbf at h ⊢;split at h
  ·cases h
  ·split at h
   ·cases h
   ·rename_i hr;split at h
    ·cases h
    ·simp only[if_neg hr];simpa using h
 ·intro j d k h hk;unfold zbf at h ⊢;split at h
  ·cases h
  ·split at h
   ·cases h
   ·rename_i hr;simp only[if_neg hr];simp at h;rw[if_neg (by rw[h.2];exact fun x=>hk x.2)];simp[h]
theorem zoa {t:ByteArray}{f g:Nat->Option (ByteArray×Nat)}(h:Rel t f g):∀ (m c b:Nat) (d:ByteArray),zbh g t m c b d=zbh f t m c b d
 |0,c,b,d=>rfl
 |m+1,c,b,d=>by
  rw[zbh,zbh];rcases hf:f (b+1)with _|⟨x,k⟩
  ·rw[h.none hf]
  ·by_cases h45:bAt t k=45
   ·simp only[if_neg (show ¬ bAt t k=93 by omega),if_neg (show ¬ bAt t k=44 by omega)];rcases hg:g (b+1)with _|⟨x',k'⟩
    ·rfl
    ·have:=h.1 _ _ _ hg;rw[hf]at this;simp only[xo,xy]at this;obtain⟨rfl,rfl⟩:=this;simp only[if_neg (show ¬ bAt t k=93 by omega),if_neg (show ¬ bAt t k=44 by omega)]
   ·rw[h.2 _ _ _ hf h45];simp only;rw[zoa h m (c+1) k (d++x)]
theorem zn5 {t:ByteArray}{f:Ty->Nat->Option (ByteArray×Nat)}{fs:List (Nat×Ty×ByteArray)}{b:Nat}{d:ByteArray}(h:bAt t b=45):za0 f t fs 44 b d=none:=by
 cases fs with
 |nil=>rw[za0,if_neg (by omega)]
 |cons g fs=>rw[za0,if_neg (by omega)]
theorem zn6 {t:ByteArray}{f g:Ty->Nat->Option (ByteArray×Nat)}(h:∀ ty,Rel t (f ty) (g ty)):∀ (fs:List (Nat×Ty×ByteArray)) (mk:Int) (b:Nat) (d:ByteArray),za0 g t fs mk b d=za0 f t fs mk b d
 |[],mk,b,d=>by rw[za0,za0]
 |x::fs,mk,b,d=>by
  rw[za0,za0];split
  ·rcases hf:f x.2.1 (b+3)with _|⟨y,k⟩
   ·rw[(h _).none hf]
   ·by_cases h45:bAt t k=45
    ·simp only;rw[zn5 h45];rcases hg:g x.2.1 (b+3)with _|⟨y',k'⟩
     ·rfl
     ·have:=(h _).1 _ _ _ hg;rw[hf]at this;simp only[xo,xy]at this;obtain⟨rfl,rfl⟩:=this;simp only;exact zn5 h45
    ·rw[(h _).2 _ _ _ hf h45];simp only;exact zn6 h fs 44 k (d++y)
  ·rfl
theorem zwd {t:ByteArray}{f g:Nat->Option (ByteArray×Nat)}(h:Rel t f g):Rel t (zbq f t) (zbq g t):=by
 constructor
 ·intro j d k hj;unfold zbq at hj ⊢;split at hj
  ·rename_i hc;rw[if_pos hc];exact hj
  ·rename_i hc;rw[if_neg hc];rcases hg:g j with _|⟨x,k'⟩
   ·rw[hg]at hj;cases hj
   ·rw[hg]at hj;rw[h.1 _ _ _ hg];exact hj
 ·intro j d k hj hk;unfold zbq at hj ⊢;split at hj
  ·rename_i hc;rw[if_pos hc];exact hj
  ·rename_i hc;rw[if_neg hc];rcases hf:f j with _|⟨x,k'⟩
   ·rw[hf]at hj;cases hj
   ·rw[hf]at hj;simp only[xo,xy]at hj;rw[h.2 _ _ _ hf (by rw[hj.2];exact hk)];simp[hj]
theorem zoi (t:ByteArray):∀ (n:Nat) (ty:Ty),Rel t (enc false t n ty) (enc true t n ty)
 |0,ty=>⟨fun j d k h=>by simp[enc]at h,fun j d k h=>by simp[enc]at h⟩
 |n+1,ty=>by
  have ih:=zoi t n;have eF:∀ j,enc false t (n+1) ty j=_:=fun j=>by rw[enc]
  have eT:∀ j,enc true t (n+1) ty j=_:=fun j=>by rw[enc]
  have key:∀ (a b:Nat->Option (ByteArray×Nat)),(∀ j,enc false t (n+1) ty j=a j)->(∀ j,enc true t (n+1) ty j=b j)->Rel t a b->Rel t (enc false t (n+1) ty) (enc true t (n+1) ty):=fun a b ha hb h =>
   ⟨fun j d k hj=>by rw[ha];rw[hb]at hj;exact h.1 j d k hj,fun j d k hj hk=>by rw[hb];rw[ha]at hj;exact h.2 j d k hj hk⟩
  by_cases h1:ty.kind=105
  ·exact key _ _ (fun j=>by rw[enc,if_pos h1]) (fun j=>by rw[enc,if_pos h1]) (zoe _ _ t)
  by_cases h2:ty.kind=108
  ·exact key _ _ (fun j=>by rw[enc,if_neg h1,if_pos h2]) (fun j=>by rw[enc,if_neg h1,if_pos h2]) (zoe _ _ t)
  by_cases h3:ty.kind=115
  ·exact key _ _ (fun j=>by rw[enc,if_neg h1,if_neg h2,if_pos h3]) (fun j=>by rw[enc,if_neg h1,if_neg h2,if_pos h3]) (Rel.refl t _)
  by_cases h4:ty.kind=60
  ·exact key (zde ty.letters t) (zde ty.letters t) (fun j=>by rw[enc,if_neg h1,if_neg h2,if_neg h3,if_pos h4];rfl) (fun j=>by rw[enc,if_neg h1,if_neg h2,if_neg h3,if_pos h4];rfl) (Rel.refl t _)
  by_cases h5:ty.kind=91
  ·refine key (zb1 (enc false t n ty.in) t) (zb1 (enc false t n ty.in) t) (fun j=>by rw[enc,if_neg h1,if_neg h2,if_neg h3,if_neg h4,if_pos h5]) (fun j=>?_) (Rel.refl t _);rw[enc,if_neg h1,if_neg h2,if_neg h3,if_neg h4,if_pos h5];unfold zb1;rw[zoa (ih ty.in)]
  by_cases h6:ty.kind=63
  ·exact key _ _ (fun j=>by rw[enc,if_neg h1,if_neg h2,if_neg h3,if_neg h4,if_neg h5,if_pos h6]) (fun j=>by rw[enc,if_neg h1,if_neg h2,if_neg h3,if_neg h4,if_neg h5,if_pos h6]) (zwd (ih ty.in))
  by_cases h7:ty.kind=123
  ·exact key (fun j=>za0 (enc false t n) t ty.fields 123 j qp) (fun j=>za0 (enc false t n) t ty.fields 123 j qp) (fun j=>by rw[enc,if_neg h1,if_neg h2,if_neg h3,if_neg h4,if_neg h5,if_neg h6,if_pos h7]) (fun j=>by
    rw[enc,if_neg h1,if_neg h2,if_neg h3,if_neg h4,if_neg h5,if_neg h6,if_pos h7,zn6 ih]) (Rel.refl t _)
  ·exact key (fun _=>none) (fun _=>none) (fun j=>by rw[enc,if_neg h1,if_neg h2,if_neg h3,if_neg h4,if_neg h5,if_neg h6,if_neg h7]) (fun j=>by rw[enc,if_neg h1,if_neg h2,if_neg h3,if_neg h4,if_neg h5,if_neg h6,if_neg h7]) (Rel.refl t _)
theorem zzi {pt:Nat->Option (Ty×Nat)}{ef eg:Ty->Nat->Option (ByteArray×Nat)}{s:ByteArray}(h:∀ ty,Rel s (ef ty) (eg ty)) :
  (∀ a f k,zar pt eg s a=some (f,k)->zar pt ef s a=some (f,k))/\(∀ a f k,zar pt ef s a=some (f,k)->bAt s k≠45->zar pt eg s a=some (f,k)):=by
 constructor
 ·intro a f k hx;unfold zar at hx ⊢;split at hx
  ·rename_i hc;rw[if_pos hc];rcases hp:pt (a+2)with _|⟨ty,k'⟩
   ·rw[hp]at hx;cases hx
   ·rw[hp]at hx;simp only at hx ⊢;split at hx
    ·rename_i h6;rw[if_pos h6];rcases hy:eg ty (k'+1)with _|⟨d,m⟩
     ·rw[hy]at hx;cases hx
     ·rw[hy]at hx;rw[(h ty).1 _ _ _ hy];exact hx
    ·rename_i h6;rw[if_neg h6];exact hx
  ·cases hx
 ·intro a f k hx hk;unfold zar at hx ⊢;split at hx
  ·rename_i hc;rw[if_pos hc];rcases hp:pt (a+2)with _|⟨ty,k'⟩
   ·rw[hp]at hx;cases hx
   ·rw[hp]at hx;simp only at hx ⊢;split at hx
    ·rename_i h6;rw[if_pos h6];rcases hy:ef ty (k'+1)with _|⟨d,m⟩
     ·rw[hy]at hx;cases hx
     ·rw[hy]at hx;have hx2:=hx;simp only[xo,xy]at hx2;rw[(h ty).2 _ _ _ hy (by rw[hx2.2];exact hk)];exact hx
    ·rename_i h6;rw[if_neg h6];exact hx
  ·cases hx
theorem zp4 {pf pg:Nat->Option ((Nat×Ty×ByteArray)×Nat)}{s:ByteArray}(h1:∀ a f k,pg a=some (f,k)->pf a=some (f,k))(h2:∀ a f k,pf a=some (f,k)->bAt s k≠45->pg a=some (f,k)) :
  ∀ (m a:Nat) (acc:List (Nat×Ty×ByteArray)),za1 pg s m a acc=za1 pf s m a acc
 |0,a,acc=>rfl
 |m+1,a,acc=>by
  rw[za1,za1];rcases hf:pf a with _|⟨f,k⟩
  ·rcases hg:pg a with _|⟨f',k'⟩
   ·rfl
   ·rw[h1 _ _ _ hg]at hf;cases hf
  ·by_cases h45:bAt s k=45
   ·simp only[if_neg (show ¬ bAt s k=125 by omega),if_neg (show ¬ bAt s k=44 by omega),ite_self];rcases hg:pg a with _|⟨f',k'⟩
    ·rfl
    ·have:=h1 _ _ _ hg;rw[hf]at this;simp only[xo,xy]at this;obtain⟨rfl,rfl⟩:=this;simp only[if_neg (show ¬ bAt s k=125 by omega),if_neg (show ¬ bAt s k=44 by omega),ite_self]
   ·rw[h2 _ _ _ hf h45];simp only;rw[zp4 h1 h2 m (k+1) (acc++[f])]
theorem zqf (s:ByteArray):∀ (n i:Nat),zae true s n i=zae false s n i
 |0,i=>rfl
 |n+1,i=>by
  have ih:zae true s n=zae false s n:=funext (zqf s n);rw[zae,zae,ih];have hr:=zzi (pt:=zae false s n) (s:=s) (fun ty=>zoi s n ty);have e:∀ a,pRec (zar (zae false s n) (enc true s n) s) s a=pRec (zar (zae false s n) (enc false s n) s) s a:=fun a=>by
   unfold pRec;rw[zp4 hr.1 hr.2]
  rw[e]
theorem zgs (s:ByteArray):pAll true s=pAll false s:=by unfold pAll;rw[zqf]
section
open Go.RowKit
end
section
open Go.RowKit
end
section
open Go.RowKit
theorem zp5 {pf:Nat->Option ((Nat×Ty×ByteArray)×Nat)}{s:ByteArray}{N:Nat}(hp:∀ i f k,pf i=some (f,k)->i<k/\k<=s.size/\wt N f.2.1+f.2.2.size+84<=80*(k-i)) :
  ∀ (m a:Nat) (acc fs:List (Nat×Ty×ByteArray)) (k:Nat),za1 pf s m a acc=some (fs,k)->a<k/\k<=s.size/\(fs.map fun f=>wt N f.2.1+f.2.2.size+4).sum<=(acc.map fun f=>wt N f.2.1+f.2.2.size+4).sum+80*(k-a)
 |0,a,acc,fs,k,h=>by simp[za1]at h
 |m+1,a,acc,fs,k,h=>by
  rw[za1]at h;split at h
  ·cases h
  ·rename_i f k' hf;have h1:=hp _ _ _ hf;split at h
   ·cases h
   ·split at h
    ·rename_i h125;have:=zaw (s:=s) (i:=k') (by omega);simp only[xo,xy]at h;obtain⟨rfl,rfl⟩:=h;rw[qi,qo];simp;omega
    ·split at h
     ·have:=zp5 hp m (k'+1) (acc++[f]) fs k h;rw[qi,qo]at this;simp at this ⊢;omega
     ·cases h
theorem zzw (st:Bool)(s:ByteArray)(N:Nat):∀ (n i:Nat) (ty:Ty) (k:Nat),zae st s n i=some (ty,k)->wt N ty<=80*(k-i):=by
 intro n
 induction n generalizing N with
 |zero=>intro i ty k h;simp[zae]at h
 |succ n IH =>
  intro i ty k h;have hbd:=zcz st s _ _ _ _ h;cases N with
  |zero=>rw[wt];omega
  |succ N =>
  have hpl:∀ q:Nat,wt (N+1) (za3 q)<=80*(i+1-i):=fun q=>by rw[wt];simp[za3]
  rw[zae]at h;split at h
  ·cases h;exact hpl _
  ·split at h
   ·cases h;exact hpl _
   ·split at h
    ·cases h;exact hpl _
    ·split at h
     ·simp only[zb4]at h;split at h
      ·cases h
      ·split at h
       iterate 2
        ·split at h
         ·cases h;rw[wt];simp;omega
         ·cases h
     ·split at h
      ·unfold zcd at h;split at h
       ·cases h
       ·rename_i t k' ht;split at h
        ·cases h;have:=IH N _ _ _ ht;have:=zcz st s _ _ _ _ ht;rw[wt];simp;omega
        ·cases h
      ·split at h
       ·unfold zce at h;split at h
        ·cases h
        ·rename_i t k' ht;have:=IH N _ _ _ ht;have:=zcz st s _ _ _ _ ht;split at h
         ·cases h
         ·cases h;rw[wt];simp;omega
       ·split at h
        ·unfold pRec at h;split at h
         ·cases h
         ·rename_i fs k' hfs;cases h;have:=zp5 (N:=N) (fun i f k hf=>by
           unfold zar at hf;split at hf
           ·split at hf
            ·cases hf
            ·rename_i t k' ht;have h1:=IH N _ _ _ ht;have h2:=zcz st s _ _ _ _ ht;split at hf
             ·split at hf
              ·cases hf
              ·rename_i d m' he;cases hf;have h3:=zdf he;have h4:=size_extract s (k'+1) k (by omega) (by omega);refine⟨by omega,by omega,?_⟩;show wt N t+(s.extract (k'+1) k).size+84<=_;omega
             ·cases hf;refine⟨by omega,by omega,?_⟩;show wt N t+0+84<=_;omega
           ·cases hf) _ _ _ _ _ hfs
          rw[wt];simp at this ⊢;omega
        ·cases h
theorem zpw {st:Bool}{s:ByteArray}{x:Ty}(h:pAll st s=some x)(hs:s.size<=60)(N:Nat):wt N x<=20000:=by
 have:=zzw st s N _ _ _ _ (zpv h);omega
end
section
open Go.RowKit
def fitB (s t:ByteArray):Bool:=match pAll false s,pAll false t with
 |some x,some r=>(unV (s.size+t.size) s.size x r).isNone
 |_,_=>false
end
section
open Go.RowKit
def RowT (S:Nat->Prop)(w:World)(xs:List Value)(es:List (ByteArray×Ty)):Prop :=
 xs.length=es.length*5/\∀ i e,es[i]?=some e->∃ p1 p2 p3 q1 q2 q3,RepB S e.1.size w p1 p2 p3 q1 q2 q3 e.2/\xs[i*5]?=some (.int .i64 e.2.kind) /\
      xs[i*5+1]?=some (.string e.2.letters)/\xs[i*5+2]?=some (.bool e.2.op)/\xs[i*5+3]?=some (.slice p1 p2 p3)/\xs[i*5+4]?=some (.slice q1 q2 q3)
theorem RowT.keep {S:Nat->Prop}{w w':World}{xs:List Value}{es:List (ByteArray×Ty)}(h:RowT S w xs es)(hb:∀ b o v,S b->w.cell? ⟨b,o,none⟩=some v->w'.cell? ⟨b,o,none⟩=some v):RowT S w' xs es :=
 ⟨h.1,fun i f hi=>by obtain⟨p1,p2,p3,q1,q2,q3,h1,h2⟩:=h.2 i f hi;exact⟨p1,p2,p3,q1,q2,q3,h1.keep hb,h2⟩⟩
theorem RowT.imp {S S':Nat->Prop}{w:World}{xs:List Value}{es:List (ByteArray×Ty)}(h:RowT S w xs es)(hS:∀ b,b<w.heap.size->S b->S' b):RowT S' w xs es :=
 ⟨h.1,fun i f hi=>by obtain⟨p1,p2,p3,q1,q2,q3,h1,h2⟩:=h.2 i f hi;exact⟨p1,p2,p3,q1,q2,q3,h1.imp hS,h2⟩⟩
theorem RowT.nil {S:Nat->Prop}{w:World}:RowT S w [] []:=⟨rfl,fun i f hi=>by simp at hi⟩
theorem RowT.snoc {S:Nat->Prop}{w:World}{xs:List Value}{es:List (ByteArray×Ty)}(h:RowT S w xs es){e:ByteArray×Ty}{p1 q1:Option Addr}{p2 p3 q2 q3:Nat}(hr:RepB S e.1.size w p1 p2 p3 q1 q2 q3 e.2) :
  RowT S w (xs++[.int .i64 e.2.kind,.string e.2.letters,.bool e.2.op,.slice p1 p2 p3,.slice q1 q2 q3]) (es++[e]):=by
 refine⟨by simp[h.1];omega,fun i g hi=>?_⟩;by_cases hl:i<es.length
 ·rw[xg hl]at hi;obtain⟨a1,a2,a3,b1,b2,b3,h1,h2⟩:=h.2 i g hi;have hx:=h.1;refine⟨a1,a2,a3,b1,b2,b3,h1,?_⟩;rw[xg (by omega),xg (by omega),xg (by omega),xg (by omega),xg (by omega)];exact h2
 ·rw[qf (by omega)]at hi;obtain rfl:i=es.length:=by
   rcases Nat.eq_or_lt_of_le (Nat.le_of_not_lt hl)with h|h
   ·exact h.symm
   ·rw[xe (by simp;omega)]at hi;cases hi
  simp at hi;subst hi;have hx:=h.1;refine⟨p1,p2,p3,q1,q2,q3,hr,?_⟩;rw[<- hx];refine⟨?_,?_,?_,?_,?_⟩<;>(rw[qf (by omega)];simp)
theorem yabm {H g g':Nat}{wr w1 w2 w3:World}{xs:List Value}{acc:List (ByteArray×Ty)}{f:ByteArray×Ty}{ai af:Option Addr}{li ci lf cf:Nat}
  (hrow:RowT (fun b=>H<=b/\b≠g) wr xs acc) (hr1:RepB (fun b=>wr.heap.size<=b) f.1.size w1 ai li ci af lf cf f.2) (hb1:Below wr.heap.size wr w1) (hb2:Below w1.heap.size w1 w2)
  (hgrow:w2.grownBy w3 (some g)) (hat:some g=some g'\/g'=w2.heap.size) (hH:H<=wr.heap.size) (hg:g<wr.heap.size) :
  RowT (fun b=>H<=b/\b≠g') w3 (xs++[.int .i64 f.2.kind,.string f.2.letters,.bool f.2.op,.slice ai li ci,.slice af lf cf]) (acc++[f]):=by
 have z1:=hb1.size;have z2:=hb2.size;have hg':g'=g\/g'=w2.heap.size:=by
  rcases hat with h|h
  ·left;cases h;rfl
  ·exact .inr h
 have tr:∀ b o v,b≠g->w1.cell? ⟨b,o,none⟩=some v->w3.cell? ⟨b,o,none⟩=some v:=fun b o v hne h =>
  hgrow.cell (zab hb2 h) (fun e=>hne (by cases e;rfl))
 have h1:RowT (fun b=>H<=b/\b≠g/\b≠g') wr xs acc:=hrow.imp (fun b hb h=>⟨h.1,h.2,by omega⟩);have h2:RowT (fun b=>H<=b/\b≠g') w3 xs acc:=(h1.keep (fun b o v hS h=>tr b o v hS.2.1 (zab hb1 h))).imp (fun b _ h=>⟨h.1,h.2.2⟩);have h3:RepB (fun b=>H<=b/\b≠g/\b≠g') f.1.size w1 ai li ci af lf cf f.2:=hr1.imp (fun b hb h=>by refine⟨?_,?_,?_⟩<;>omega);exact h2.snoc ((h3.keep (fun b o v hS h=>tr b o v hS.2.1 h)).imp (fun b _ h=>⟨h.1,h.2.2⟩))
def TysAt (w:World)(g:Nat)(es:List (ByteArray×Ty)):Prop:=∀ i e,es[i]?=some e->∃ p1 p2 p3 q1 q2 q3,Rep e.1.size w p1 p2 p3 q1 q2 q3 e.2/\w.cell? ⟨g,i*5,none⟩=some (.int .i64 e.2.kind) /\
      w.cell? ⟨g,i*5+1,none⟩=some (.string e.2.letters)/\w.cell? ⟨g,i*5+2,none⟩=some (.bool e.2.op)/\w.cell? ⟨g,i*5+3,none⟩=some (.slice p1 p2 p3)/\w.cell? ⟨g,i*5+4,none⟩=some (.slice q1 q2 q3)
theorem yaeb {S:Nat->Prop}{base g cap:Nat}{w:World}{xs:List Value}{es:List (ByteArray×Ty)}(hown:w.ownsRow base 201 5 (.slice (some ⟨g,0,none⟩) es.length cap) es.length xs)(h:RowT S w xs es):TysAt w g es:=fun i e hi=>by
 obtain⟨p1,p2,p3,q1,q2,q3,h1,k0,k1,k2,k3,k4⟩:=h.2 i e hi;exact⟨p1,p2,p3,q1,q2,q3,h1.rep,zbm hown k0,zbm hown k1,zbm hown k2,zbm hown k3,zbm hown k4⟩
theorem TysAt.keep {w w':World}(hb:Below w.heap.size w w'){g:Nat}{es:List (ByteArray×Ty)}(h:TysAt w g es):TysAt w' g es:=fun i e hi=>by
 obtain⟨p1,p2,p3,q1,q2,q3,h1,k0,k1,k2,k3,k4⟩:=h i e hi;exact⟨p1,p2,p3,q1,q2,q3,h1.keep hb,zab hb k0,zab hb k1,zab hb k2,zab hb k3,zab hb k4⟩
def tabI (ss:List ByteArray)(i j:Nat):Bool:=match ss[i]?,ss[j]? with
 |some s,some t=>fitB s t
 |_,_=>false
def za9 (ss:List ByteArray):List (List Bool):=(xh 8).map fun i=>(xh 8).map (tabI ss i)
theorem zfo (ss:List ByteArray):tabOk (za9 ss):=by
 refine⟨by simp[za9],fun r hr=>?_⟩;obtain⟨i,_,rfl⟩:=qy.1 hr;simp
theorem yac9 (ss:List ByteArray){i j:Nat}(hi:i<8)(hj:j<8):tabG (za9 ss) i j=tabI ss i j:=by
 simp[tabG,za9,qx,xm hi,xm hj]
def zcl (ss:List ByteArray)(i j:Nat):List Bool:=(xh 64).map fun k=>decide (k<i*8+j)&&tabI ss (k / 8) (k % 8)
theorem zdx (ss:List ByteArray)(i j:Nat):(zcl ss i j).length=64:=by simp[zcl]
theorem zfp (ss:List ByteArray)(i j k:Nat)(hk:k<64):(zcl ss i j)[k]?=some (decide (k<i*8+j)&&tabI ss (k / 8) (k % 8)):=by
 rw[zcl,xp,xm hk];rfl
theorem zls {ss:List ByteArray}{i j:Nat}(h:ss.length<=i\/ss.length<=j):tabI ss i j=false:=by
 unfold tabI;rcases h with h|h
 ·rw[xe h]
 ·rw[xe h];split<;>first|rfl|(rename_i h1;cases h1)
theorem yade (ss:List ByteArray):zcl ss 0 0=qq 64 false:=by
 apply xz;intro k;by_cases hk:k<64
 ·rw[zfp _ _ _ _ hk,List.getElem?_replicate,if_pos hk];simp
 ·rw[xe (by rw[zdx];omega),xe (by simp;omega)]
theorem yadd (ss:List ByteArray){i j:Nat}(hi:i<8)(hj:j<8):zcl ss i (j+1)=(zcl ss i j).set (i*8+j) (tabI ss i j):=by
 apply xz;intro k;by_cases hk:k<64
 ·rw[zfp _ _ _ _ hk,List.getElem?_set];by_cases hki:i*8+j=k
  ·subst hki;rw[if_pos rfl,if_pos (by rw[zdx];omega),show (i*8+j) / 8=i by omega,show (i*8+j) % 8=j by omega];simp[show i*8+j<i*8+(j+1) by omega]
  ·rw[if_neg hki,zfp _ _ _ _ hk];by_cases h:k<i*8+j
   ·simp[h,show k<i*8+(j+1) by omega]
   ·simp[h,show ¬ k<i*8+(j+1) by omega]
 ·rw[xe (by rw[zdx];omega),xe (by rw[List.length_set,zdx];omega)]
theorem yadc (ss:List ByteArray){i:Nat}(hl:ss.length<=8):zcl ss i ss.length=zcl ss (i+1) 0:=by
 apply xz;intro k;by_cases hk:k<64
 ·rw[zfp _ _ _ _ hk,zfp _ _ _ _ hk];by_cases h:k<i*8+ss.length
  ·rw[show decide (k<i*8+ss.length)=true by simp[h],show decide (k<(i+1)*8+0)=true by simp;omega]
  ·by_cases h2:k<(i+1)*8
   ·rw[zls (ss:=ss) (j:=k % 8) (.inr (by omega))];simp
   ·simp[h,h2]
 ·rw[xe (by rw[zdx];omega),xe (by rw[zdx];omega)]
theorem yadb (ss:List ByteArray)(hl:ss.length<=8):zcl ss ss.length 0=(za9 ss).flatten:=by
 apply xz;intro k;by_cases hk:k<64
 ·have hr:(za9 ss)[k / 8]?=some ((xh 8).map (tabI ss (k / 8))):=by rw[za9,xp,xm (by omega)];rfl
  have hf:=zki (za9 ss) (k / 8) (k % 8) _ (zfo ss).2 hr (by omega);rw[show k / 8*8+k % 8=k by omega]at hf;rw[hf,zfp _ _ _ _ hk,xp,xm (by omega)];by_cases h:k<ss.length*8
  ·simp[h]
  ·rw[zls (ss:=ss) (i:=k / 8) (.inl (by omega))];simp[zls (ss:=ss) (i:=k / 8) (j:=k % 8) (.inl (by omega))]
 ·rw[xe (by rw[zdx];omega),xe (by rw[zkj _ (zfo ss).2,(zfo ss).1];omega)]
end
section
set_option maxRecDepth 8000
open Go.RowKit
open Go.Lib (below_setCells)
theorem Tryz.infoTyp:(Tryz.prog.info? 201).map (fun i=>(i.zero,i.size,i.bytes))=some (some (.agg #[.int .i64 0,.string ⟨#[]⟩,.bool false,.slice none 0 0,.slice none 0 0]),5,80):=by kernel_rfl
theorem zxl (w:World)(o1 o2:Obj):((w.alloc o1).alloc o2).heap[w.heap.size+1]?=some o2:=by
 have:=zal (w.alloc o1) o2;rw[zb5]at this;exact this
theorem ztj {s:ByteArray}{x:Ty}(hs:s.size<=60)(hx:pAll false s=some x)(w:World) :
  Calls Tryz.prog 176 #[.string s] w fun e w'=>∃ ai li ci af lf cf,e=.returned (.tuple #[.agg #[.int .i64 x.kind,.string x.letters,.bool x.op,.slice ai li ci,.slice af lf cf],.bool true])/\RepB (fun b=>w.heap.size<=b) s.size w' ai li ci af lf cf x/\Below w.heap.size w w':=by
 refine(zhg hs w).mono ?_;rintro e w' ⟨h,hb⟩;rw[hx]at h;obtain⟨ai,li,ci,af,lf,cf,h1,h2⟩:=h;exact⟨ai,li,ci,af,lf,cf,h1,h2,hb⟩
theorem yael {s t:ByteArray}{x r:Ty}(hs:s.size<=60)(hx:pAll false s=some x)(hr:pAll false t=some r)(w:World)(ai af:Option Addr)(li ci lf cf:Nat)(bi bf:Option Addr)(mi di mf df:Nat)(h1:Rep s.size w ai li ci af lf cf x)(h2:Rep t.size w bi mi di bf mf df r) :
  Calls Tryz.prog 179 #[.agg #[.int .i64 x.kind,.string x.letters,.bool x.op,.slice ai li ci,.slice af lf cf],.agg #[.int .i64 r.kind,.string r.letters,.bool r.op,.slice bi mi di,.slice bf mf df]] w fun e w'=>∃ y:ByteArray,e=.returned (.tuple #[.string y,.bool (!fitB s t)])/\Below w.heap.size w w':=by
 have hK:=zsl _ _ _ _ (zpv (show pAll true s=some x by rw[zgs];exact hx));have:=zss (s.size+t.size) s.size t.size x r w ai af li ci lf cf bi bf mi di mf df (qg _) hK (zpw hx hs _) h1 h2;refine this.mono ?_;rintro e w' ⟨rfl,hb⟩;have hf:fitB s t=(unV (s.size+t.size) s.size x r).isNone:=by unfold fitB;rw[hx,hr]
 rw[hf,zg7];refine⟨outU ((unV (s.size+t.size) s.size x r).map (txtV s.size x)),?_,hb⟩;cases unV (s.size+t.size) s.size x r<;>rfl
theorem yabe (ss:List ByteArray)(hok:zc1 ss=true)(w:World)(a:Option Addr)(cap:Nat)(hp:StrsAt w a ss) :
  Calls Tryz.prog 108 #[.slice a ss.length cap] w fun e W=>e=.returned (.agg (tabC (za9 ss)).toArray)/\Below w.heap.size w W:=by
 unfold zc1 at hok;rw[xj,qh]at hok;have hl8:ss.length<=8:=of_decide_eq_true hok.1;have hgood:∀ s∈ss,s.size<=60/\∃ x,pAll false s=some x:=fun s hs=>by
  have:=hok.2 s hs;unfold schB at this;rw[xj]at this;exact⟨of_decide_eq_true this.1,Option.isSome_iff_exists.1 this.2⟩
 have HG:= zaa hgood;have HP:= zaa hp;clear hok hgood hp;obtain⟨i0,hi0,hz0,hzz1,hzz2⟩:=info_parts Tryz.infoTyp
 go_enter Tryz.func108,Tryz.ntmps108
 go_wp2_with fail
 generalize hO:(Obj.cells #[.bool false,.bool false,.bool false,.bool false,.bool false,.bool false,.bool false,.bool false,.bool false,.bool false,.bool false,.bool false,.bool false,.bool false,.bool false,.bool false,.bool false,.bool false,.bool false,.bool false,.bool false,.bool false,.bool false,.bool false,.bool false,.bool false,.bool false,.bool false,.bool false,.bool false,.bool false,.bool false,.bool false,.bool false,.bool false,.bool false,.bool false,.bool false,.bool false,.bool false,.bool false,.bool false,.bool false,.bool false,.bool false,.bool false,.bool false,.bool false,.bool false,.bool false,.bool false,.bool false,.bool false,.bool false,.bool false,.bool false,.bool false,.bool false,.bool false,.bool false,.bool false,.bool false,.bool false,.bool false] 171)=O;have HO:= zaa hO;clear hO
 go_loopw [3,18] (fun vt vi wr=>∃ (i g cap:Nat) (es:List (ByteArray×Ty)) (xs:List Value),i<=ss.length/\vi=.int .i64 i/\vt=.slice (some ⟨g,0,none⟩) es.length cap/\es.length=i /\
   wr.ownsRow (w.heap.size+1) 201 5 (.slice (some ⟨g,0,none⟩) es.length cap) es.length xs/\RowT (fun b=>w.heap.size+1<=b/\b≠g) wr xs es/\Hid (es.map q9=ss.take i)/\Hid (∀ e∈es,pAll false e.1=some e.2) /\
   Below (w.heap.size+1) (w.alloc O) wr) (fun _ i _=>ss.length-(intOf i).toNat)
 case atStart =>
  refine⟨0,w.heap.size+1,0,[],[],qd _,rfl,rfl,rfl,?_,RowT.nil,(by show _=_;rfl),(fun e he=>by simp at he),(Below.refl (w.heap.size+1) _).alloc (by simp) _⟩;have h:=World.ownsRow_made (base:=w.heap.size+1) (e:=201) (size:=5) (w.alloc O) #[] 0 (by simp) (by unfold maxLen;omega) rfl;rw[zb5]at h;exact h
 case round =>
  obtain⟨i,g,cp,es,xs,hi,rfl,rfl,hel,hown,hrow,hmap,hpa,hb⟩:=hrel
  rename World=>w5
  have z5:=hb.size;rw[zb5]at z5;have hbw:Below w.heap.size w w5:=(belS w O).trans (hb.mono (by simp));obtain⟨hg1,hg2⟩:=hown.lt g rfl;have hx0 := znn i;by_cases hlt:i<ss.length
  ·obtain⟨s,hsi⟩:∃ s,ss[i]?=some s:=⟨ss[i],xf hlt⟩;obtain⟨b,o,rfl,c0⟩:=HP.out i s hsi;have c0:=zab hbw c0;have hbl:=zag c0;obtain⟨hs60,x,hx⟩:=HG.out s (xv hsi);have hcall:=fun W=>ztj hs60 hx W;have hx1:(i:Int)<(ss.length:Int):=by omega
   have HEL:= zaa hel;have hel8:es.length<=8:=by omega
   have HSI:= zaa hsi;have HX:= zaa hx;have HROW:= zaa hrow;have HOWN:= zaa hown;clear hsi hx hrow hown hel
   go_wp2_with (first
    |(go_at_call 176;refine(hcall _).mono ?_;rintro e w1 ⟨ai,li,ci,af,lf,cf,rfl,hr1,hb1⟩;have hz1:w5.heap.size<=w1.heap.size:=hb1.size)
    |(at_builtin;refine wpList_append_lies _ rfl _ _ _ rfl (w.heap.size+1) 201 i0 _ 5 80 Tryz.underlying198 hi0 hz0 hzz1 hzz2 rfl (by omega) _ es.length xs rfl (((zas HOWN.out hb1).alloc _).alloc _) ⟨w1.heap.size+1,0,none⟩ 1 1 [.int .i64 x.kind,.string x.letters,.bool x.op,.slice ai li ci,.slice af lf cf] rfl rfl (World.news_of_block (zxl w1 _ _)) (by simp[Value.oneCell']) (by omega) (by unfold maxLen;omega) (by omega) (by simp;omega) (w1.heap.size+2) (by simp) ?_;intro g' cap' w3 hown' hgrow hat hlt3))
   go_roundw
   case rel =>
    have hl:(es++[(s,x)]).length=es.length+1:=by simp
    rw[<- hl]at hown';have hr3:=yabm (f:=(s,x)) HROW.out hr1 hb1 (bx w1 _ _) hgrow (by rcases hat with h|h;exact .inl h;right;simpa using h) (by omega) hg2;refine⟨i+1,g',cap',es++[(s,x)],_,by omega,by go_num,by rw[hl],by rw[hl,HEL.out],hown',hr3,?_,?_,?_⟩
    ·show _=_;rw[qi,hmap.out,qm,HSI.out];rfl
    ·intro e he;rcases List.mem_append.1 he with h|h
     ·exact hpa.out e h
     ·simp at h;subst h;exact HX.out
    ·exact Below.grown (((hb.trans (hb1.mono (by omega))).alloc (by omega) _).alloc (by simp;omega) _) hgrow (by simp;omega) (fun k hk=>by cases hk;omega)
   case measure=>simp[intOf];omega
  ·have hie:i=ss.length:=by omega
   have hty:=yaeb hown hrow;have hms:es.map q9=ss:=by rw[hmap.out,hie,List.take_length]
   have HTY:= zaa hty;have HMS:= zaa hms;clear hty hms hmap hown hrow;have hesl:es.length<=8:=by omega
   have HEL:= zaa hel;have HIE:= zaa hie;clear hel hie;have hrowR:RowIs w5 w.heap.size 171 ((qq 64 false).map .bool):=by
    refine RowIs.keep (w:=w.alloc O) ?_ (hb.mono (by simp));rw[<- HO.out];exact zal w _
   have hrow0:RowIs (w5.alloc O) w5.heap.size 171 ((zcl ss 0 0).map .bool):=by
    rw[yade,<- HO.out];exact zal w5 _
   have HRR:= zaa hrowR;have HR0:= zaa hrow0;clear hrowR hrow0
   go_wp2_with fail
   generalize hO2:(Obj.cells #[.bool false,.bool false,.bool false,.bool false,.bool false,.bool false,.bool false,.bool false,.bool false,.bool false,.bool false,.bool false,.bool false,.bool false,.bool false,.bool false,.bool false,.bool false,.bool false,.bool false,.bool false,.bool false,.bool false,.bool false,.bool false,.bool false,.bool false,.bool false,.bool false,.bool false,.bool false,.bool false,.bool false,.bool false,.bool false,.bool false,.bool false,.bool false,.bool false,.bool false,.bool false,.bool false,.bool false,.bool false,.bool false,.bool false,.bool false,.bool false,.bool false,.bool false,.bool false,.bool false,.bool false,.bool false,.bool false,.bool false,.bool false,.bool false,.bool false,.bool false,.bool false,.bool false,.bool false,.bool false] 171)=O2;have hOO:O2=O:=by rw[<- hO2];exact HO.out
   subst hOO;clear hO2
   go_loopw [34] (fun vi wr=>∃ i:Nat,i<=es.length/\vi=.int .i64 i/\RowIs wr w5.heap.size 171 ((zcl ss i 0).map .bool)/\Below w5.heap.size w5 wr) (fun i _=>es.length-(intOf i).toNat)
   case atStart=>exact⟨0,qd _,rfl,HR0.out,belS _ _⟩
   case round =>
    obtain⟨i,hi,rfl,hrow,hbi⟩:=hrel
    rename World=>w6
    have hz6:=hbi.size;have hx0 := znn i;by_cases hlt:i<es.length
    ·obtain⟨e1,he1⟩:∃ e,es[i]?=some e:=⟨es[i],xf hlt⟩;obtain⟨p1,p2,p3,q1,q2,q3,rep1,a0,a1,a2,a3,a4⟩:=HTY.out i e1 he1;have a0:=zab hbi a0;have a1:=zab hbi a1;have a2:=zab hbi a2;have a3:=zab hbi a3;have a4:=zab hbi a4;have hx1:(i:Int)<(es.length:Int):=by omega
     have HE1:= zaa he1;have hal:=zag a0;have HROW:= zaa hrow;have hrl:=hrow.lt;clear he1 hrow;have hbx0:=zal w6 (.cells #[.int .i64 e1.2.kind,.string e1.2.letters,.bool e1.2.op,.slice p1 p2 p3,.slice q1 q2 q3] 201);have hwb:RowIs (w6.alloc (.cells #[.int .i64 e1.2.kind,.string e1.2.letters,.bool e1.2.op,.slice p1 p2 p3,.slice q1 q2 q3] 201)) w6.heap.size 201 [.int .i64 e1.2.kind,.string e1.2.letters,.bool e1.2.op,.slice p1 p2 p3,.slice q1 q2 q3]:=hbx0;have HWB:= zaa hwb;have HREP:= zaa rep1;clear hbx0 hwb rep1
     go_wp2_with fail
     clear a0 a1 a2 a3 a4
     go_loopw [41] (fun vj wr=>∃ j:Nat,j<=es.length/\vj=.int .i64 j/\RowIs wr w5.heap.size 171 ((zcl ss i j).map .bool)/\RowIs wr w6.heap.size 201 [.int .i64 e1.2.kind,.string e1.2.letters,.bool e1.2.op,.slice p1 p2 p3,.slice q1 q2 q3]/\Below w5.heap.size w5 wr) (fun j _=>es.length-(intOf j).toNat)
     case atStart=>exact⟨0,qd _,rfl,HROW.out.keep (belS _ _),HWB.out,hbi.alloc hz6 _⟩
     case round =>
      obtain⟨j,hj,rfl,hrow,hwb,hbj⟩:=hrel;have hrep:=(zaa (HREP.out.keep hbj));have hz7:=hbj.size;have hy0 := znn j;by_cases hjl:j<es.length
      ·obtain⟨e2,he2⟩:∃ e,es[j]?=some e:=⟨es[j],xf hjl⟩;obtain⟨m1,m2,m3,n1,n2,n3,rep2,a0,a1,a2,a3,a4⟩:=HTY.out.keep hbj j e2 he2;have hy1:(j:Int)<(es.length:Int):=by omega
       have hal:=zag a0;have hwl:=hwb.lt;have hs1:ss[i]?=some e1.1:=by rw[<- HMS.out,xp,HE1.out];rfl
       have hs2:ss[j]?=some e2.1:=by rw[<- HMS.out,xp,he2];rfl
       have hcall:=fun W (h:Below wr.heap.size wr W)=>yael (HG.out e1.1 (xv hs1)).1 (hpa.out e1 (xv HE1.out)) (hpa.out e2 (xv he2)) W p1 q1 p2 p3 q2 q3 m1 n1 m2 m3 n2 n3 (hrep.out.keep h) (rep2.keep h);have hi8:i<8:=by omega
       have hj8:j<8:=by omega
       have hi8':(i:Int)<8:=by omega
       have hj8':(j:Int)<8:=by omega
       have hst:=yadd ss hi8 hj8;have htI:tabI ss i j=fitB e1.1 e2.1:=by unfold tabI;rw[hs1,hs2]
       rw[htI]at hst;have HST:= zaa hst;have hcl:wr.cell? ⟨w5.heap.size,i*8+j,none⟩=some (.bool ((zcl ss i j)[i*8+j]'(by rw[zdx];omega))):=hrow.cell (by rw[xp,xf (by rw[zdx];omega)];rfl);generalize (zcl ss i j)[i*8+j]'(by rw[zdx];omega)=u0 at hcl;have hfz:=hrow.frozen (i*8+j);have b0:=hwb.cell (j:=0) rfl;have b1:=hwb.cell (j:=1) rfl;have b2:=hwb.cell (j:=2) rfl;have b3:=hwb.cell (j:=3) rfl;have b4:=hwb.cell (j:=4) rfl;have HROW:= zaa hrow;have HWB:= zaa hwb;have HREP2:= zaa rep2;have hne5:w5.heap.size≠w6.heap.size:=fun h=>by have:=hrl;omega
       have hrl7:=hrow.lt;clear hrow hwb he2 hs1 hs2 htI hst rep2;generalize fitB e1.1 e2.1=F at hcall HST
       go_wp2_with (go_at_call 179;refine(hcall _ (belS _ _)).mono ?_;rintro e w9 ⟨y9,rfl,hb9⟩;have k1:=zab hb9 (zah (.cells #[.int .i64 e2.2.kind,.string e2.2.letters,.bool e2.2.op,.slice m1 m2 m3,.slice n1 n2 n3] 201) hcl);have k2:w9.frozen? ⟨w5.heap.size,i*8+j,none⟩=false:=((HROW.out.keep (belS wr (.cells #[.int .i64 e2.2.kind,.string e2.2.letters,.bool e2.2.op,.slice m1 m2 m3,.slice n1 n2 n3] 201))).keep hb9).frozen _)
       go_roundw
       case rel =>
        have hb8:=thn3 (belS wr (.cells #[.int .i64 e2.2.kind,.string e2.2.letters,.bool e2.2.op,.slice m1 m2 m3,.slice n1 n2 n3] 201)) hb9;have r9:=(HROW.out.keep hb8).set (i*8+j) (.bool F);rw[<- List.map_set,<- HST.out]at r9;exact⟨j+1,by omega,by go_num,r9,(HWB.out.keep hb8).setOther (show w5.heap.size≠w6.heap.size from hne5) _,(hbj.trans (hb8.mono hz7)).setCell (qg _) _⟩
       case measure=>simp[intOf];omega
      ·have hje:j=ss.length:=by have:=congrArg qn HMS.out;rw[qj]at this;omega
       have hesl2:es.length=ss.length:=by have:=congrArg qn HMS.out;rw[qj]at this;exact this
       rw[hje,yadc ss hl8]at hrow;have HR9:= zaa hrow;have HJE:= zaa hje;clear hje hesl2 hrow hwb hrep
       go_wp2_with fail
       go_roundw
       case rel=>exact⟨i+1,by omega,by go_num,HR9.out,hbj⟩
       case measure=>simp[intOf];omega
    ·have hie2:i=ss.length:=by have:=congrArg qn HMS.out;rw[qj]at this;omega
     rw[hie2,yadb ss hl8]at hrow;obtain⟨C,hCe⟩:∃ C,C=tabC (za9 ss):=⟨_,rfl⟩;have hrow:RowIs w6 w5.heap.size 171 C:=by rw[hCe];exact hrow
     have hCl:C.length=64:=by rw[hCe];exact(zfo ss).len
     have hr6:=zbl hrow;have ht6:w6.there w.heap.size 0 C.toArray.size:=by
      rw[show C.toArray.size=64 by simpa using hCl];have:=zcm (HRR.out.keep hbi);simpa using this
     have hi6:(Tryz.prog.info? 171).map (·.size)=some C.length:=by rw[hCe];exact(zfo ss).info
     have hi7:(Tryz.prog.info? 171).map (·.size)=some C.toArray.size:=by rw[List.size_toArray];exact hi6
     have h16:C.toArray.all (·.oneCell')=true:=by rw[hCe];exact zd2 _
     have hbF:=hbw.trans (hbi.mono hbw.size);have HCe:= zaa hCe;clear hCe hrow hCl hie2
     go_wp2_with (first
      |(refine wpList_load_mid (w:=w6) rfl 171 _ rfl w5.heap.size 0 rfl C _ hr6 Tryz.underlying171 rfl hi6 ?_)
      |(refine wpList_store_mid (w:=w6) rfl 171 _ _ rfl w.heap.size 0 C.toArray rfl rfl ht6 hi7 h16 ?_))
     have hrs:=xu w6 w.heap.size 0 C (by simpa using ht6);refine bodyPost_ret (v:=.agg C.toArray) ?_ rfl ⟨by rw[HCe.out],below_setCells w.heap.size (qg _) _ _ hbF⟩;have hlv:=run_loadVar_mid (P:=Tryz.prog) _ w.heap.size 0 171 C _ hrs Tryz.underlying171 rfl hi6;simp[results,Tryz.results108,asAddr,Act.put,hlv]
end
section
open Go.RowKit
def cpA (T:List (List Bool))(p q:PinD):Bool:=(p.t != q.t)||gaB T p q
def cpF (T:List (List Bool))(ts:List Int)(p q:PinD):Bool:=cpA T p q||!(numB p.t ts.length&&(ts.getD p.t.toNat 0 == 0))
def cmpA (T:List (List Bool))(ps qs:List PinD):Bool:=ps.all fun p=>qs.all (cpA T p)
def cmpF (T:List (List Bool))(ts:List Int)(ps qs:List PinD):Bool:=ps.all fun p=>qs.all (cpF T ts p)
theorem zhk {α:Type}{l:List α}{x:Nat}{p:α}(f:α->Bool)(h:l[x]?=some p):(l.take (x+1)).all f=((l.take x).all f&&f p):=by
 rw[qm,h,List.all_append];simp
theorem zvm (T:List (List Bool))(hT:tabOk T)(ts:List Int)(ps qs:List PinD)(ta pa qa:Option Addr)(tc pc qc:Nat)(w:World)(ht:ts.length<=2000000)(hp:ps.length<=2000000)(hq:qs.length<=2000000)(hta:IntsAt w ta ts)(hpa:PinsAt w pa ps)(hqa:PinsAt w qa qs) :
  Calls Tryz.prog 109 #[.slice ta ts.length tc,.agg (tabC T).toArray,.slice pa ps.length pc,.slice qa qs.length qc] w fun e W=>e=.returned (.tuple #[.bool (cmpA T ps qs),.bool (cmpF T ts ps qs)])/\Below w.heap.size w W:=by
 have it:=hT.info;have rt:=zbl (zal w (.cells (tabC T).toArray 171));obtain⟨RA,hRA⟩:∃ R,R=cmpA T ps qs:=⟨_,rfl⟩;obtain⟨RF,hRF⟩:∃ R,R=cmpF T ts ps qs:=⟨_,rfl⟩;rw[<- hRA,<- hRF];have HRA:Hid (RA=ps.all fun p=>qs.all (cpA T p)):=hRA;have HRF:Hid (RF=ps.all fun p=>qs.all (cpF T ts p)):=hRF;have HTA:Hid (IntsAt w ta ts):=hta;have HPA:Hid (PinsAt w pa ps):=hpa;have HQA:Hid (PinsAt w qa qs):=hqa;have HT:Hid (tabOk T):=hT;clear hRA hRF hta hpa hqa hT
 go_enter Tryz.func109,Tryz.ntmps109
 go_wp2_with fail
 go_loopw [10,11,18] (fun va vf vi wr=>∃ (i:Nat) (x y:Bool),i<=ps.length/\vi=.int .i64 i/\va=.bool x/\vf=.bool y/\Hid (x=(ps.take i).all fun p=>qs.all (cpA T p))/\Hid (y=(ps.take i).all fun p=>qs.all (cpF T ts p))/\Below (w.alloc (.cells (tabC T).toArray 171)).heap.size (w.alloc (.cells (tabC T).toArray 171)) wr) (fun _ _ i _=>ps.length-(intOf i).toNat)
 case atStart=>exact⟨0,true,true,qd _,rfl,rfl,rfl,(by show _=_;rfl),(by show _=_;rfl),Below.refl _ _⟩
 case round =>
  obtain⟨i,x0,y0,hi,rfl,rfl,rfl,hx,hy,hb⟩:=hrel
  rename World=>w5
  have hbw:=thn3 (belS w _) hb;by_cases hlt:i<ps.length
  ·obtain⟨p,hpi⟩:∃ p,ps[i]?=some p:=⟨ps[i],xf hlt⟩;obtain⟨b,o,rfl,c0,c1,c2⟩:=HPA.out i p hpi;have c0:=zab hbw c0;have c1:=zab hbw c1;have c2:=zab hbw c2;have hbl:=zag c0;have hsx:=zhk (fun p=>qs.all (cpA T p)) hpi;have hsy:=zhk (fun p=>qs.all (cpF T ts p)) hpi;rw[<- hx.out]at hsx;rw[<- hy.out]at hsy;have HSX:=(show Hid (((ps.take (i+1)).all fun p=>qs.all (cpA T p))=(x0&&qs.all (cpA T p)))from hsx);have HSY:=(show Hid (((ps.take (i+1)).all fun p=>qs.all (cpF T ts p))=(y0&&qs.all (cpF T ts p)))from hsy);have hx0 := znn i;have hx1:(i:Int)<(ps.length:Int):=by omega
   clear hsx hsy hx hy hpi HRA HRF;obtain⟨pt,pw,pr⟩:=p;simp only at c0 c1 c2;have pb0:=box3 w5 (.int .i64 pt) (.int .i64 pw) (.int .i64 pr) 165;have hbP:=thn3 hb (belS w5 (.cells #[.int .i64 pt,.int .i64 pw,.int .i64 pr] 165))
   go_wp2_with fail
   go_loopw [10,11,24] (fun va vf vj wr=>∃ (j:Nat) (x y:Bool),j<=qs.length/\vj=.int .i64 j/\va=.bool x/\vf=.bool y/\Hid (x=(x0&&(qs.take j).all (cpA T ⟨pt,pw,pr⟩)))/\Hid (y=(y0&&(qs.take j).all (cpF T ts ⟨pt,pw,pr⟩)))/\Below (w5.alloc (.cells #[.int .i64 pt,.int .i64 pw,.int .i64 pr] 165)).heap.size (w5.alloc (.cells #[.int .i64 pt,.int .i64 pw,.int .i64 pr] 165)) wr) (fun _ _ j _=>qs.length-(intOf j).toNat)
   case atStart=>exact⟨0,x0,y0,qd _,rfl,rfl,rfl,(by show _=_;simp),(by show _=_;simp),Below.refl _ _⟩
   case round =>
    obtain⟨j,x,y,hj,rfl,rfl,rfl,hxj,hyj,hbq⟩:=hrel;have hbqB:=thn3 hbP hbq;have hbqw:=thn3 (belS w _) hbqB;have pb1:=zaq hbq pb0;by_cases hjl:j<qs.length
    ·obtain⟨q,hqj⟩:∃ q,qs[j]?=some q:=⟨qs[j],xf hjl⟩;obtain⟨b',o',rfl,d0,d1,d2⟩:=HQA.out j q hqj;have d0:=zab hbqw d0;have d1:=zab hbqw d1;have d2:=zab hbqw d2;have hbl2:=zag d0;have hlp:w5.heap.size<wr.heap.size:=zag pb1.1;have ex:=zhk (cpA T ⟨pt,pw,pr⟩) hqj;have ey:=zhk (cpF T ts ⟨pt,pw,pr⟩) hqj;have hy0 := znn j;have hy1:(j:Int)<(qs.length:Int):=by omega
     obtain⟨qt,qw,qr⟩:=q;simp only at d0 d1 d2;have sx:(x0&&(qs.take (j+1)).all (cpA T ⟨pt,pw,pr⟩))=(x&&cpA T ⟨pt,pw,pr⟩ ⟨qt,qw,qr⟩):=by rw[ex,hxj.out,qu]
     have sy:(y0&&(qs.take (j+1)).all (cpF T ts ⟨pt,pw,pr⟩))=(y&&cpF T ts ⟨pt,pw,pr⟩ ⟨qt,qw,qr⟩):=by rw[ey,hyj.out,qu]
     have rt2:=zaf (belS wr (.cells #[.int .i64 qt,.int .i64 qw,.int .i64 qr] 165)) (zaf hbqB rt);have hga:=fun W=>zxk T HT.out ⟨pt,pw,pr⟩ ⟨qt,qw,qr⟩ W;simp only at hga;have hAd:cpA T ⟨pt,pw,pr⟩ ⟨qt,qw,qr⟩=((pt != qt)||gaB T ⟨pt,pw,pr⟩ ⟨qt,qw,qr⟩):=rfl;have hFd:cpF T ts ⟨pt,pw,pr⟩ ⟨qt,qw,qr⟩=(cpA T ⟨pt,pw,pr⟩ ⟨qt,qw,qr⟩||!(numB pt ts.length&&(ts.getD pt.toNat 0 == 0))):=rfl;generalize gaB T ⟨pt,pw,pr⟩ ⟨qt,qw,qr⟩=g at hga hAd;rw[hFd,hAd]at sy;rw[hAd]at sx;clear ex ey hqj hxj hyj hAd hFd;have hBE:=belS wr (.cells #[.int .i64 qt,.int .i64 qw,.int .i64 qr] 165);by_cases hpq:pt=qt
     ·have hne:(pt != qt)=false:=by simp[hpq]
      rw[hne,qv]at sx sy;clear hpq;cases g with
      |true =>
       have hX:Hid (x=(x0&&(qs.take (j+1)).all (cpA T ⟨pt,pw,pr⟩))):=by show _=_;rw[sx,Bool.and_true]
       have hY:Hid (y=(y0&&(qs.take (j+1)).all (cpF T ts ⟨pt,pw,pr⟩))):=by show _=_;rw[sy];simp
       clear sx sy
       go_wp2_with (first|(refine zdi (w:=wr.alloc (.cells #[.int .i64 qt,.int .i64 qw,.int .i64 qr] 165)) (by rfl) 171 _ rfl w.heap.size 0 rfl (tabC T) _ rt2 Tryz.underlying171 rfl it ?_)|(go_at_call 180;refine(hga _).mono ?_;rintro e w2 ⟨rfl,hb2⟩;have pb2:=zaq hb2 (new3 _ pb1)))
       go_roundw
       case rel=>exact⟨j+1,x,y,by omega,by go_num,rfl,rfl,hX,hY,thn3 (thn3 hbq hBE) hb2⟩
       case measure=>simp[intOf];omega
      |false =>
       have hX:Hid (false=(x0&&(qs.take (j+1)).all (cpA T ⟨pt,pw,pr⟩))):=by show _=_;rw[sx,Bool.and_false]
       clear sx;rw[qv]at sy;have hnu:=fun w=>za5 pt ts.length w;by_cases hn:0<=pt/\pt<ts.length
       ·have e1:numB pt ts.length=true:=by unfold numB;simp;omega
        rw[e1]at hnu sy;obtain⟨n,rfl⟩:∃ n:Nat,pt=n:=⟨pt.toNat,by omega⟩;rw[Int.toNat_natCast]at sy;obtain⟨k,hk⟩:∃ k,ts[n]?=some k:=⟨ts[n]'(by omega),xf (by omega)⟩;obtain⟨bt,ot,rfl,t0⟩:=HTA.out n k hk;have t0:=zab hbqw t0;have hn0 := znn n;have hn1:(n:Int)<(ts.length:Int):=hn.2;have hgk:ts.getD n 0=k:=by simp[qx,hk]
        rw[hgk]at sy;clear hk hgk e1 hn;by_cases hk0:k=0
        ·have hk':(k == 0)=true:=by simp[hk0]
         have hY:Hid (false=(y0&&(qs.take (j+1)).all (cpF T ts ⟨n,pw,pr⟩))):=by show _=_;rw[sy,hk'];simp
         clear sy hk0
         go_wp2_with (first|(refine zdi (w:=wr.alloc (.cells #[.int .i64 qt,.int .i64 qw,.int .i64 qr] 165)) (by rfl) 171 _ rfl w.heap.size 0 rfl (tabC T) _ rt2 Tryz.underlying171 rfl it ?_)|(go_at_call 180;refine(hga _).mono ?_;rintro e w2 ⟨rfl,hb2⟩;have t2:=zab hb2 (zah _ t0);have pb2:=zaq hb2 (new3 _ pb1))|(go_at_call 178;refine(hnu _).mono ?_;rintro e _ ⟨rfl,rfl⟩))
         go_roundw
         case rel=>exact⟨j+1,false,false,by omega,by go_num,rfl,rfl,hX,hY,thn3 (thn3 hbq hBE) hb2⟩
         case measure=>simp[intOf];omega
        ·have hk':(k == 0)=false:=by simp[hk0]
         have hY:Hid (y=(y0&&(qs.take (j+1)).all (cpF T ts ⟨n,pw,pr⟩))):=by show _=_;rw[sy,hk'];simp
         clear sy hk0
         go_wp2_with (first|(refine zdi (w:=wr.alloc (.cells #[.int .i64 qt,.int .i64 qw,.int .i64 qr] 165)) (by rfl) 171 _ rfl w.heap.size 0 rfl (tabC T) _ rt2 Tryz.underlying171 rfl it ?_)|(go_at_call 180;refine(hga _).mono ?_;rintro e w2 ⟨rfl,hb2⟩;have t2:=zab hb2 (zah _ t0);have pb2:=zaq hb2 (new3 _ pb1))|(go_at_call 178;refine(hnu _).mono ?_;rintro e _ ⟨rfl,rfl⟩))
         go_roundw
         case rel=>exact⟨j+1,false,y,by omega,by go_num,rfl,rfl,hX,hY,thn3 (thn3 hbq hBE) hb2⟩
         case measure=>simp[intOf];omega
       ·have e1:numB pt ts.length=false:=by unfold numB;simp;omega
        rw[e1]at hnu sy;have hY:Hid (y=(y0&&(qs.take (j+1)).all (cpF T ts ⟨pt,pw,pr⟩))):=by show _=_;rw[sy];simp
        clear sy hn e1
        go_wp2_with (first|(refine zdi (w:=wr.alloc (.cells #[.int .i64 qt,.int .i64 qw,.int .i64 qr] 165)) (by rfl) 171 _ rfl w.heap.size 0 rfl (tabC T) _ rt2 Tryz.underlying171 rfl it ?_)|(go_at_call 180;refine(hga _).mono ?_;rintro e w2 ⟨rfl,hb2⟩;have pb2:=zaq hb2 (new3 _ pb1))|(go_at_call 178;refine(hnu _).mono ?_;rintro e _ ⟨rfl,rfl⟩))
        go_roundw
        case rel=>exact⟨j+1,false,y,by omega,by go_num,rfl,rfl,hX,hY,thn3 (thn3 hbq hBE) hb2⟩
        case measure=>simp[intOf];omega
     ·have hne:(pt != qt)=true:=by simp[hpq]
      rw[hne,Bool.true_or]at sx sy;have hX:Hid (x=(x0&&(qs.take (j+1)).all (cpA T ⟨pt,pw,pr⟩))):=by show _=_;rw[sx,Bool.and_true]
      have hY:Hid (y=(y0&&(qs.take (j+1)).all (cpF T ts ⟨pt,pw,pr⟩))):=by show _=_;rw[sy];simp
      clear sx sy hpq
      go_wp2_with fail
      go_roundw
      case rel=>exact⟨j+1,x,y,by omega,by go_num,rfl,rfl,hX,hY,thn3 hbq hBE⟩
      case measure=>simp[intOf];omega
    ·have hX:Hid (x=(ps.take (i+1)).all fun p=>qs.all (cpA T p)):=by show _=_;rw[HSX.out,hxj.out,xq (by omega)]
     have hY:Hid (y=(ps.take (i+1)).all fun p=>qs.all (cpF T ts p)):=by show _=_;rw[HSY.out,hyj.out,xq (by omega)]
     clear hxj hyj HSX HSY
     go_wp2_with fail
     go_roundw
     case rel=>exact⟨i+1,x,y,by omega,by go_num,rfl,rfl,hX,hY,hbqB⟩
     case measure=>simp[intOf];omega
  ·have h1:RA=x0:=by rw[HRA.out,hx.out,xq (by omega)]
   have h2:RF=y0:=by rw[HRF.out,hy.out,xq (by omega)]
   clear hx hy HRA HRF;subst h1 h2
   go_wp2_with fail
   go_ret2
   exact⟨rfl,hbw⟩
end
section
open Go.RowKit
def plOf (f:zac)(p:Nat):List PinD:=match f.vs[p / 3]? with|some v=>v.rels.getD (p % 3) []|none=>[]
def thB (f:zac)(p:Nat):Bool:=match f.vs[p / 3]? with|some v=>decide (p % 3<v.rels.length)|none=>false
def fsB (f:zac)(p:Nat):Bool:=match f.vs[p / 3]? with|some v=>decide (p % 3<v.rels.length)&&(((p % 3:Nat):Int) == v.now)|none=>false
def wnB (f:zac)(p:Nat):Bool:=match f.vs[p / 3]? with|some v=>decide (p % 3<v.rels.length)&&(((p % 3:Nat):Int) == v.want)|none=>false
def zai (f:zac):ChD:=⟨(xh 9).map (thB f),(xh 9).map (fsB f),(xh 9).map (wnB f),(xh 9).map fun a=>(xh 9).map fun b=>cmpA (za9 f.ss) (plOf f a) (plOf f b),(xh 9).map fun a=>(xh 9).map fun b=>cmpF (za9 f.ss) f.ts (plOf f a) (plOf f b)⟩
theorem zf9 (f:zac):(zai f).ok:=by
 refine⟨by simp[zai],by simp[zai],by simp[zai],by simp[zai],fun r hr=>?_,by simp[zai],fun r hr=>?_⟩
 iterate 2
  ·obtain⟨i,_,rfl⟩:=qy.1 hr;simp
theorem ze4 {α:Type}(F:Nat->α)(d:α){i n:Nat}(h:i<n):((xh n).map F).getD i d=F i:=by simp[qx,xm h]
theorem zvi (f:zac){p:Nat}(h:p<9):(zai f).thr.getD p false=thB f p:=ze4 _ _ h
theorem zfc (f:zac){p:Nat}(h:p<9):(zai f).fst.getD p false=fsB f p:=ze4 _ _ h
theorem zvg (f:zac){p q:Nat}(h:p<9)(hq:q<9):((zai f).alg.getD p []).getD q false=cmpA (za9 f.ss) (plOf f p) (plOf f q):=by
 rw[show (zai f).alg.getD p []=(xh 9).map fun b=>cmpA (za9 f.ss) (plOf f p) (plOf f b)from ze4 _ _ h,ze4 _ _ hq]
theorem zvh (f:zac){p q:Nat}(h:p<9)(hq:q<9):((zai f).fev.getD p []).getD q false=cmpF (za9 f.ss) f.ts (plOf f p) (plOf f q):=by
 rw[show (zai f).fev.getD p []=(xh 9).map fun b=>cmpF (za9 f.ss) f.ts (plOf f p) (plOf f b)from ze4 _ _ h,ze4 _ _ hq]
structure Ord (f:zac):Prop where
 ss8:f.ss.length<=8
 sch:zc1 f.ss=true
 ts4:f.ts.length<=4
 vs1:1<=f.vs.length
 vs3:f.vs.length<=3
 svc:∀ v∈f.vs,svcB f.ss.length f.ts.length v=true
theorem zb3 {f:zac}(h:ordB f=true):Ord f:=by
 unfold ordB at h;rw[xj,xj]at h;obtain⟨⟨h1,h2⟩,h3⟩:=h;have h1':=h1;unfold zc1 at h1;unfold zc2 at h2;unfold zd9 at h3;rw[xj]at h1 h2;rw[xj,xj]at h3;exact⟨of_decide_eq_true h1.1,h1',of_decide_eq_true h2.1,of_decide_eq_true h3.1.1,of_decide_eq_true h3.1.2,qh.1 h3.2⟩
theorem Ord.parts {f:zac}(h:Ord f){v:SvcD}(hv:v∈f.vs):1<=v.rels.length/\v.rels.length<=3/\(0<=v.now/\v.now<v.rels.length)/\(0<=v.want/\v.want<v.rels.length)/\∀ ps∈v.rels,za7 f.ss.length f.ts.length ps=true:=by
 have:=h.svc v hv;unfold svcB numB at this;simp only[xj,decide_eq_true_eq,qh]at this;obtain⟨⟨⟨⟨⟨⟨a1,a2⟩,a3⟩,a4⟩,a5⟩,a6⟩,a7⟩:=this;exact⟨a3,a4,a5,a6,a7⟩
theorem zlt {f:zac}{p:Nat}(h:thB f p=true):∃ v,f.vs[p / 3]?=some v/\p % 3<v.rels.length:=by
 unfold thB at h;split at h
 ·rename_i v hv;exact⟨v,hv,of_decide_eq_true h⟩
 ·cases h
end
section
open Go.RowKit
open Go.Lib (below_setCells)
def sfN (c:ChD):SiD->List (Int×Int)->Nat
 |_,[]=>0
 |s,m::ms=>if sfB c s (plI m.1 m.2)=true then sfN c (aft s (plI m.1 m.2)) ms+1 else 0
theorem ztt (c:ChD)(hc:c.ok)(ms:List (Int×Int))(w:World)(a:Option Addr)(cap:Nat)(hl:ms.length<=200)(hp:zl9 w a ms) :
  Calls Tryz.prog 68 #[.agg c.cells.toArray,.slice a ms.length cap] w fun e W=>e=.returned (.int .i64 (sfN c (begD c) ms:Nat))/\Below w.heap.size w W:=by
 have hq1:=zbl (zal w (.cells c.cells.toArray 114));have ic:(Tryz.prog.info? 114).map (·.size)=some c.cells.length:=by rw[hc.len];exact Tryz.infoCht
 have hbeg:=fun w=>zjo c hc w;obtain⟨b1,b2,b3⟩:=zdv (zd1 hc);have hlen:=(zd1 hc).len;obtain⟨R,hR⟩:∃ R,R=sfN c (begD c) ms:=⟨_,rfl⟩;rw[<- hR];have HR:Hid (R=0+sfN c (begD c) (ms.drop 0)):=by show _=_;rw[Nat.zero_add];exact hR
 have HP:= zaa hp;have HO:=(zaa (zd1 hc));have HCC:= zaa hc;have HLN:= zaa hlen;have hmv:=fun s p (hs:SiD.ok s) w=>zo6 c s p hc hs w;clear hR hp hc hlen
 go_enter Tryz.func68,Tryz.ntmps68
 go_wp2_with (first
  |(refine wpList_load_mid (w:=w.alloc (.cells c.cells.toArray 114)) rfl 114 _ rfl w.heap.size 0 rfl c.cells _ hq1 Tryz.underlying114 rfl ic ?_)
  |(go_at_call 111;refine(hbeg _).mono ?_;rintro e w1 ⟨rfl,hb1⟩;have ht1:(w1.alloc (.cells #[.bool false,.bool false,.bool false,.bool false,.bool false,.bool false,.bool false,.bool false,.bool false,.bool false,.bool false,.bool false,.bool false,.bool false,.bool false,.bool false,.bool false,.bool false] 177)).there w1.heap.size 0 (begD c).cells.toArray.size:=by (rw[show (begD c).cells.toArray.size=18 by simpa using HLN.out];exact zcm (zal w1 (.cells #[.bool false,.bool false,.bool false,.bool false,.bool false,.bool false,.bool false,.bool false,.bool false,.bool false,.bool false,.bool false,.bool false,.bool false,.bool false,.bool false,.bool false,.bool false] 177))))
  |(refine wpList_store_mid (w:=w1.alloc (.cells #[.bool false,.bool false,.bool false,.bool false,.bool false,.bool false,.bool false,.bool false,.bool false,.bool false,.bool false,.bool false,.bool false,.bool false,.bool false,.bool false,.bool false,.bool false] 177)) rfl 177 _ _ rfl w1.heap.size 0 (begD c).cells.toArray rfl rfl ht1 b2 b3 ?_))
 have hB1:Below w.heap.size w w1:=thn3 (belS w _) hb1;have hBA:Below w1.heap.size w1 (w1.alloc (.cells #[.bool false,.bool false,.bool false,.bool false,.bool false,.bool false,.bool false,.bool false,.bool false,.bool false,.bool false,.bool false,.bool false,.bool false,.bool false,.bool false,.bool false,.bool false] 177)):=belS _ _;have rs0:=xu (w1.alloc (.cells #[.bool false,.bool false,.bool false,.bool false,.bool false,.bool false,.bool false,.bool false,.bool false,.bool false,.bool false,.bool false,.bool false,.bool false,.bool false,.bool false,.bool false,.bool false] 177)) w1.heap.size 0 (begD c).cells (by simpa using ht1);have rt0:((w1.alloc (.cells #[.bool false,.bool false,.bool false,.bool false,.bool false,.bool false,.bool false,.bool false,.bool false,.bool false,.bool false,.bool false,.bool false,.bool false,.bool false,.bool false,.bool false,.bool false] 177)).setCells w1.heap.size 0 (begD c).cells).there w1.heap.size 0 18:=qk (zcm (zal w1 (.cells #[.bool false,.bool false,.bool false,.bool false,.bool false,.bool false,.bool false,.bool false,.bool false,.bool false,.bool false,.bool false,.bool false,.bool false,.bool false,.bool false,.bool false,.bool false] 177))) _ _ _;have rc0:((w1.alloc (.cells #[.bool false,.bool false,.bool false,.bool false,.bool false,.bool false,.bool false,.bool false,.bool false,.bool false,.bool false,.bool false,.bool false,.bool false,.bool false,.bool false,.bool false,.bool false] 177)).setCells w1.heap.size 0 (begD c).cells).rangeAt w.heap.size 0 c.cells:=qe (zaf hBA (zaf hb1 hq1)) _ _ _ (.inl (by have:=hb1.size;simp at this;omega));have hB2:Below w1.heap.size w1 ((w1.alloc (.cells #[.bool false,.bool false,.bool false,.bool false,.bool false,.bool false,.bool false,.bool false,.bool false,.bool false,.bool false,.bool false,.bool false,.bool false,.bool false,.bool false,.bool false,.bool false] 177)).setCells w1.heap.size 0 (begD c).cells):=below_setCells w1.heap.size (qg _) _ _ hBA
 go_loopw [13] (fun vi wr=>∃ (i:Nat) (s:SiD),i<=ms.length/\vi=.int .i64 i/\s.ok/\Hid (R=i+sfN c s (ms.drop i))/\wr.rangeAt w1.heap.size 0 s.cells/\wr.there w1.heap.size 0 18/\wr.rangeAt w.heap.size 0 c.cells/\Below w1.heap.size w1 wr) (fun i _=>ms.length-(intOf i).toNat)
 case atStart=>exact⟨0,begD c,qd _,rfl,HO.out,HR,rs0,rt0,rc0,hB2⟩
 case round =>
  obtain⟨i,s,hi,rfl,hso,hr,rs,rt,rc,hb⟩:=hrel
  rename World=>w5
  have hbw:=thn3 hB1 hb;by_cases hlt:i<ms.length
  ·obtain⟨m,hmi⟩:∃ m,ms[i]?=some m:=⟨ms[i],xf hlt⟩;have hdrop:ms.drop i=m::ms.drop (i+1):=by
    rw[List.drop_eq_getElem_cons hlt];rw[xf hlt]at hmi;simp at hmi;rw[hmi]
   obtain⟨b,o,rfl,d0,d1⟩:=HP.out i m hmi;have d0:=zab hbw d0;have d1:=zab hbw d1;have hbl:=zag d0;have hst:R=i+(if sfB c s (plI m.1 m.2)=true then sfN c (aft s (plI m.1 m.2)) (ms.drop (i+1))+1 else 0):=by rw[hr.out,hdrop,sfN]
   obtain⟨x,y⟩:=m;simp only at d0 d1 hst;have hpl:=fun w=>zkh x y w;have hmv1:=fun w=>hmv s (plI x y) hso w;have haf:=fun w=>zji s (plI x y) hso w;have hao:=zfz hso (plI x y);obtain⟨s1,s2,s3⟩:=zdv hso;obtain⟨q1,q2,q3⟩:=zdv hao;have hx0 := znn i;have hx1:(i:Int)<(ms.length:Int):=by omega
   generalize plI x y=p at hpl hmv1 haf hst hao q1 q2 q3;have HAo:= zaa hao;have HAl:= zaa hao.len;generalize sfB c s p=t at hmv1 hst;clear hmi hdrop hr hmv hao;cases t with
   |false =>
    have hR1:R=i:=by simpa using hst
    clear hst haf;subst hR1
    go_wp2_with (first
     |(go_at_call 107;refine(hpl _).mono ?_;rintro e w2 ⟨rfl,hb2⟩;have rs2:=zaf hb2 (zaf (belS _ _) rs);have rc2:=zaf hb2 (zaf (belS _ _) rc))
     |(go_at_call 113;refine(hmv1 _).mono ?_;rintro e w3 ⟨rfl,hb3⟩)
     |(refine wpList_load_mid (w:=w2) rfl 114 _ rfl w.heap.size 0 rfl c.cells _ rc2 Tryz.underlying114 rfl ic ?_)
     |(refine wpList_load_mid (w:=w2) rfl 177 _ rfl w1.heap.size 0 rfl s.cells _ rs2 Tryz.underlying177 rfl s1 ?_))
    go_ret;exact⟨rfl,thn3 (thn3 (thn3 hbw (belS _ _)) hb2) hb3⟩
   |true =>
    have hst':Hid (R=i+1+sfN c (aft s p) (ms.drop (i+1))):=by show _=_;rw[hst,if_pos rfl];omega
    clear hst
    go_wp2_with (first
     |(go_at_call 107;refine(hpl _).mono ?_;rintro e w2 ⟨rfl,hb2⟩;have rs2:=zaf hb2 (zaf (belS _ _) rs);have rc2:=zaf hb2 (zaf (belS _ _) rc);have rt2:=zea hb2 (zea (belS _ _) rt))
     |(go_at_call 113;refine(hmv1 _).mono ?_;rintro e w3 ⟨rfl,hb3⟩;have rs3:=zaf hb3 rs2;have rc3:=zaf hb3 rc2;have rt3:=zea hb3 rt2)
     |(go_at_call 114;refine(haf _).mono ?_;rintro e w4 ⟨rfl,hb4⟩;have rc4:=zaf hb4 rc3;have rt4:=zea hb4 rt3;have rt4':w4.there w1.heap.size 0 (aft s p).cells.toArray.size:=by (rw[show (aft s p).cells.toArray.size=18 by simpa using HAl.out];exact rt4))
     |(have hq:=hb4;refine wpList_store_mid (w:=w4) rfl 177 _ _ rfl w1.heap.size 0 (aft s p).cells.toArray rfl rfl rt4' q2 q3 ?_)
     |(have hq:=hb3;(refine wpList_load_mid (w:=w3) rfl 177 _ rfl w1.heap.size 0 rfl s.cells _ rs3 Tryz.underlying177 rfl s1 ?_))
     |(refine wpList_load_mid (w:=w2) rfl 114 _ rfl w.heap.size 0 rfl c.cells _ rc2 Tryz.underlying114 rfl ic ?_)
     |(refine wpList_load_mid (w:=w2) rfl 177 _ rfl w1.heap.size 0 rfl s.cells _ rs2 Tryz.underlying177 rfl s1 ?_))
    go_roundw
    case rel =>
     have h4:=thn3 (thn3 (thn3 (thn3 hb (belS _ _)) hb2) hb3) hb4;exact⟨i+1,aft s p,by omega,by go_num,HAo.out,hst',xu _ _ _ _ (by simpa using rt4'),qk rt4 _ _ _,qe rc4 _ _ _ (.inl (by have:=hb1.size;simp at this;omega)),below_setCells w1.heap.size (qg _) _ _ h4⟩
    case measure=>simp[intOf];omega
  ·have hR1:R=ms.length:=by rw[hr.out,List.drop_of_length_le (by omega),sfN];omega
   clear hr HR;subst hR1
   go_wp2_with fail
   go_ret;exact⟨rfl,hbw⟩
end
end Go.Proofs.YtkkekopomiehlabGreatDoor
