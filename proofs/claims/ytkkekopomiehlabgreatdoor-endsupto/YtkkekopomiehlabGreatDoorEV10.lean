import Derived.Test.YtkkekopomiehlabGreatDoorESn1
set_option linter.unusedVariables false
set_option linter.unusedSimpArgs false
set_option maxHeartbeats 40000000
set_option maxRecDepth 4000
open List renaming getElem?_eq_none->xe,getElem?_append_left->xf,getElem?_range->xh,ext_getElem?->xm,getElem?_append_right->xo,getElem?_map->xp,not_mem_nil->xq,zip_cons_cons->xv,range->xy,sum_append->xz,map_append->qd,mem_cons->qf,map_cons->qg
open Option.some renaming injEq->xg
open Prod.mk renaming injEq->xj
open ByteArray renaming empty->xu
open Classical renaming byContradiction->qe
open Go.Op renaming stringOp->qh
namespace Go.Proofs.YtkkekopomiehlabGreatDoor
section
open Go.RowKit
def tyD:Nat->Ty->Prop
 |0,_=>True
 |n+1,ty=>(ty.kind=91\/ty.kind=63->tyD n ty.in)/\∀ f∈ty.fields,tyD n f.2.1/\(f.2.2.size≠0->∃ v,okV n f.2.1 v/\f.2.2=txtV n f.2.1 v)
theorem zi2 {s:ByteArray}:∀ (n i:Nat) (ty:Ty) (k:Nat),zae true s n i=some (ty,k)->tyL n ty/\tyF n ty/\tyD n ty
 |0,i,ty,k,h=>by simp[zae]at h
 |n+1,i,ty,k,h=>by
  have ih:=zi2 (s:=s) n;have his:i<s.size:=by have:=zcz true s _ _ _ _ h;omega
  obtain⟨_,n',hn,h60,hin,hne,h123,hk⟩:=zi3 h;obtain rfl:n'=n:=by omega
  have h6:ty.kind=60->1<=ty.letters.size/\ty.letters.size<=8:=fun h=>by
   obtain⟨_,_,l3,l4,_⟩:=zk8 (by omega) (h60 h);exact⟨l3,l4⟩
  have hi:ty.kind=91\/ty.kind=63->tyL n' ty.in/\tyF n' ty.in/\tyD n' ty.in:=fun h=>by
   obtain⟨k',hk'⟩:=hin h;exact ih _ _ _ hk'
  have hfs:ty.kind=123->ty.fields≠[]/\∀ f∈ty.fields,tyL n' f.2.1/\tyF n' f.2.1/\tyD n' f.2.1/\(f.2.2.size≠0->∃ v,okV n' f.2.1 v/\f.2.2=txtV n' f.2.1 v):=fun h3=>by
   obtain⟨k',hk'⟩:=h123 h3;have hpf:∀ i f k,zar (zae true s n') (enc true s n') s i=some (f,k)->(i<k/\k<=s.size)/\tyL n' f.2.1/\tyF n' f.2.1/\tyD n' f.2.1/\(f.2.2.size≠0->∃ v,okV n' f.2.1 v/\f.2.2=txtV n' f.2.1 v):=fun i f k hf=>by
    unfold zar at hf;split at hf
    ·split at hf
     ·cases hf
     ·rename_i t k' ht;have h1:=ih _ _ _ ht;have h2:=zcz true s _ _ _ _ ht;split at hf
      ·split at hf
       ·cases hf
       ·rename_i d m' he;cases hf;have h3:=zdf he;obtain⟨v,e1,e2,e3⟩:=zkb n' t _ _ _ (zft _ _ _ _ ht).1 h1.2.1 he;refine⟨⟨by omega,by omega⟩,h1.1,h1.2.1,h1.2.2,fun _=>⟨v,e1,?_⟩⟩;show s.extract (k'+1) k=txtV n' t v;rw[e3];exact e2.ext
      ·cases hf;exact⟨⟨by omega,by omega⟩,h1.1,h1.2.1,h1.2.2,fun h=>absurd rfl h⟩
    ·cases hf
   have hl:=zp2 (fun a f k hf=>(hpf a f k hf).1) (Nat.zero_le _) hk';refine⟨fun hf=>by rw[hf]at hl;simp at hl,?_⟩;exact(zih (Q:=fun f=>tyL n' f.2.1/\tyF n' f.2.1/\tyD n' f.2.1/\(f.2.2.size≠0->∃ v,okV n' f.2.1 v/\f.2.2=txtV n' f.2.1 v)) (fun i f k hf=>(hpf i f k hf).2) _ _ _ _ _ hk' (fun f hf=>absurd hf xq) (by simp)).1
  have hff:∀ f∈ty.fields,ty.kind=123:=fun f hf=>by
   apply qe;intro h3;rw[zos h h3]at hf;exact absurd hf xq
  exact⟨⟨hk,h6,fun h=>(hi h).1,hne,fun h3=>⟨(hfs h3).1,fun f hf=>((hfs h3).2 f hf).1⟩⟩,
   ⟨fun h=>(h6 h).2,fun h=>(hi h).2.1,fun h3=>(hfs h3).1,fun f hf=>((hfs (hff f hf)).2 f hf).2.1⟩,
   ⟨fun h=>(hi h).2.2,fun f hf=>((hfs (hff f hf)).2 f hf).2.2⟩⟩
theorem zra {f:Val->Option ByteArray}{tv:Val->ByteArray}{ok:Val->Prop}:∀ (vs:List Val) (k:Nat) (t y:ByteArray),(∀ v∈vs,∀ z,f v=some z->∃ w,ok w/\z=tv w)->zbg f vs k t=some y->∃ ws:List Val,ws.length=vs.length/\(∀ w∈ws,ok w)/\y=zcc k (ws.map tv) t
 |[],k,t,y,h,hy=>by
  simp only[zbg,xg]at hy;exact⟨[],rfl,fun w hw=>absurd hw xq,hy.symm⟩
 |v::vs,k,t,y,h,hy=>by
  rw[zbg]at hy;split at hy
  ·cases hy
  ·rename_i z hz;obtain⟨w,h1,h2⟩:=h v (by simp) z hz;obtain⟨ws,g1,g2,g3⟩:=zra (tv:=tv) (ok:=ok) vs _ _ _ (fun v hv=>h v (by simp[hv])) hy;refine⟨w::ws,by simp[g1],fun u hu=>by rcases qf.1 hu with rfl|hu;exact h1;exact g2 u hu,?_⟩;rw[qg,zcc,<- h2];exact g3
theorem zq7 {f:Nat×Ty×ByteArray->Option ByteArray}{tv:Ty->Val->ByteArray}{ok:Ty->Val->Prop}:∀ (gs:List (Nat×Ty×ByteArray)) (mk t y:ByteArray),(∀ g∈gs,∀ z,f g=some z->∃ w,ok g.2.1 w/\z=tv g.2.1 w)->zbj f gs mk t=some y->∃ ws:List Val,ws.length=gs.length/\(∀ p∈gs.zip ws,ok p.1.2.1 p.2)/\y=zcb ((gs.zip ws).map fun p=>(p.1.1,tv p.1.2.1 p.2)) mk t
 |[],mk,t,y,h,hy=>by
  simp only[zbj,xg]at hy;exact⟨[],rfl,fun p hp=>absurd hp (by simp),hy.symm⟩
 |g::gs,mk,t,y,h,hy=>by
  rw[zbj]at hy;split at hy
  ·cases hy
  ·rename_i z hz;obtain⟨w,h1,h2⟩:=h g (by simp) z hz;obtain⟨ws,g1,g2,g3⟩:=zq7 (tv:=tv) (ok:=ok) gs _ _ _ (fun g hg=>h g (by simp[hg])) hy;refine⟨w::ws,by simp[g1],fun p hp=>?_,?_⟩
   ·rw[xv]at hp;rcases qf.1 hp with rfl|hp
    ·exact h1
    ·exact g2 p hp
   ·simp only[xv,qg,zcb];rw[<- h2];exact g3
theorem zgw:∀ (k n q:Nat) (x r:Ty) (v:Val) (y:ByteArray),okV n x v->tyL q r->tyD q r->rdT k x r v=some y->∃ w,okV q r w/\y=txtV q r w
 |0,n,q,x,r,v,y,hv,hl,hD,h=>by simp[rdT]at h
 |k+1,0,q,x,r,v,y,hv,hl,hD,h=>hv.elim
 |k+1,n+1,0,x,r,v,y,hv,hl,hD,h=>hl.elim
 |k+1,n+1,q+1,x,r,v,y,hv,hl,hD,h=>by
  change zbc (rdT k) x r v=some y at h;unfold zbc at h;split at h
  ·rename_i hx;rcases hv with⟨z,rfl,hv⟩|⟨z,rfl,hv⟩|⟨i,rfl,hv⟩|⟨vs,rfl,hv⟩|⟨rfl,hv⟩|⟨u,rfl,hv⟩|⟨vs,rfl,hv⟩
   iterate 4
    ·omega
   ·change (if r.kind=63 then some (⟨#[95]⟩:ByteArray) else none)=some y at h;split at h
    ·rename_i hr;cases h;exact⟨.non,zps hr,rfl⟩
    ·cases h
   ·exact zgw k n (q+1) x.in r u y hv.2 hl hD h
   ·omega
  ·rename_i hx;split at h
   ·rename_i hr;obtain⟨w,h1,h2⟩:=zgw k (n+1) q x r.in v y hv (hl.2.2.1 (.inr hr)) (hD.1 (.inr hr)) h;exact⟨.som w,zpt ⟨hr,h1⟩,by rw[ze9];exact h2⟩
   ·rename_i hr;split at h
    ·rename_i hs;cases h;rcases hv with⟨z,rfl,hv⟩|⟨z,rfl,hv⟩|⟨i,rfl,hv⟩|⟨vs,rfl,hv⟩|⟨rfl,hv⟩|⟨u,rfl,hv⟩|⟨vs,rfl,hv⟩
     ·refine⟨.num z,ze0 ?_,rfl⟩;simp[zax]at hs;omega
     ·refine⟨.str z,zkx ⟨?_,hv.2⟩,rfl⟩;simp[zax]at hs;omega
     iterate 5
      ·exfalso;simp[zax]at hs;omega
    ·split at h
     ·cases h
     ·rename_i hs hkk;have hkk':x.kind=r.kind:=by simpa using hkk
      rcases hv with⟨z,rfl,hv⟩|⟨z,rfl,hv⟩|⟨i,rfl,hv⟩|⟨vs,rfl,hv⟩|⟨rfl,hv⟩|⟨u,rfl,hv⟩|⟨vs,rfl,hv⟩
      iterate 2
       ·cases h
      ·change zc0 x.letters r.letters r.op i=some y at h;unfold zc0 at h;have h68:=hl.2.1 (by omega);split at h
       ·split at h
        ·cases h;exact⟨.cho 0,zkv ⟨by omega,by omega,by omega⟩,by rw[zdy];exact zoq r.letters 0 (by omega)⟩
        ·cases h
       ·rename_i hp;cases h;obtain⟨j,e1,e2,e3,e4⟩:=zk3 (l:=r.letters) (c:=bAt x.letters i) r.letters.size 0 (by unfold pOf at hp;omega);exact⟨.cho j,zkv ⟨by omega,by omega,by omega⟩,by rw[zdy,e4]⟩
      ·change zbg (rdT k x.in r.in) vs 0 ⟨#[91]⟩=some y at h;obtain⟨ws,g1,g2,g3⟩:=zra (tv:=txtV q r.in) (ok:=okV q r.in) vs _ _ _ (fun v hv' z hz=>zgw k n q x.in r.in v z (hv.2.2 v hv') (hl.2.2.1 (.inl (by omega))) (hD.1 (.inl (by omega))) hz) h;exact⟨.lst ws,zkw ⟨by omega,by omega,g2⟩,by rw[zeb];exact g3⟩
      iterate 2
       ·cases h
      ·change zbj (zbi (rdT k) (x.fields.zip vs)) r.fields ⟨#[123]⟩ xu=some y at h;have h5:=hl.2.2.2.2 (by omega);obtain⟨ws,g1,g2,g3⟩:=zq7 (tv:=txtV q) (ok:=okV q) r.fields _ _ _ (fun g hg z hz=>by
        unfold zbi at hz;split at hz
        ·split at hz
         ·cases hz
         ·rename_i he;cases hz;exact(hD.2 g hg).2 he
        ·rename_i p hp;exact zgw k n q p.1.2.1 g.2.1 p.2 z (hv.2.2.2 p (zkf hp)) (h5.2 g hg) (hD.2 g hg).1 hz) h
       exact⟨.rcd ws,zgr ⟨by omega,h5.1,g1,g2⟩,by rw[zdh];exact g3⟩
end
section
open Go.RowKit
end
section
open Go.RowKit
end
section
open Go.RowKit
end
section
open Go.RowKit
end
section
open Go.RowKit
end
section
open Go.RowKit
end
section
open Go.RowKit
end
section
open Go.RowKit
theorem zdk {a b:ByteArray}(h:a.size+b.size<=9000000):qh .add a b=(pure (.string (a++b)):Sem Value):=by
 unfold qh;simp only;rw[if_neg];rw[show IntKind.i64.max=9223372036854775807 from rfl];omega
end
section
open Go.RowKit
end
section
open Go.RowKit
end
section
open Go.RowKit
end
def Rel (t:ByteArray)(f g:Nat->Option (ByteArray×Nat)):Prop:=(∀ j d k,g j=some (d,k)->f j=some (d,k))/\(∀ j d k,f j=some (d,k)->bAt t k≠45->g j=some (d,k))
theorem Rel.refl (t:ByteArray)(f:Nat->Option (ByteArray×Nat)):Rel t f f:=⟨fun _ _ _ h=>h,fun _ _ _ h _=>h⟩
theorem Rel.none {t:ByteArray}{f g:Nat->Option (ByteArray×Nat)}(h:Rel t f g){j:Nat}(hf:f j=none):g j=none:=by
 rcases hg:g j with _|⟨d,k⟩
 ·rfl
 ·rw[h.1 _ _ _ hg]at hf;cases hf
theorem zoe (lo hi:Int)(t:ByteArray):Rel t (zbf false lo hi t) (zbf true lo hi t):=by
 constructor
 ·intro j d k h;unfold zbf at h ⊢;split at h
  ·cases h
  ·split at h
   ·cases h
   ·rename_i hr;split at h
    ·cases h
    ·simp only[if_neg hr];simpa using h
 ·intro j d k h hk;unfold zbf at h ⊢;split at h
  ·cases h
  ·split at h
   ·cases h
   ·rename_i hr;simp only[if_neg hr];simp at h;rw[if_neg (by rw[h.2];exact fun x=>hk x.2)];simp[h]
theorem zoa {t:ByteArray}{f g:Nat->Option (ByteArray×Nat)}(h:Rel t f g):∀ (m c b:Nat) (d:ByteArray),zbh g t m c b d=zbh f t m c b d
 |0,c,b,d=>rfl
 |m+1,c,b,d=>by
  rw[zbh,zbh];rcases hf:f (b+1)with _|⟨x,k⟩
  ·rw[h.none hf]
  ·by_cases h45:bAt t k=45
   ·simp only[if_neg (show ¬ bAt t k=93 by omega),if_neg (show ¬ bAt t k=44 by omega)];rcases hg:g (b+1)with _|⟨x',k'⟩
    ·rfl
    ·have:=h.1 _ _ _ hg;rw[hf]at this;simp only[xg,xj]at this;obtain⟨rfl,rfl⟩:=this;simp only[if_neg (show ¬ bAt t k=93 by omega),if_neg (show ¬ bAt t k=44 by omega)]
   ·rw[h.2 _ _ _ hf h45];simp only;rw[zoa h m (c+1) k (d++x)]
theorem zn5 {t:ByteArray}{f:Ty->Nat->Option (ByteArray×Nat)}{fs:List (Nat×Ty×ByteArray)}{b:Nat}{d:ByteArray}(h:bAt t b=45):za0 f t fs 44 b d=none:=by
 cases fs with
 |nil=>rw[za0,if_neg (by omega)]
 |cons g fs=>rw[za0,if_neg (by omega)]
theorem zn6 {t:ByteArray}{f g:Ty->Nat->Option (ByteArray×Nat)}(h:∀ ty,Rel t (f ty) (g ty)):∀ (fs:List (Nat×Ty×ByteArray)) (mk:Int) (b:Nat) (d:ByteArray),za0 g t fs mk b d=za0 f t fs mk b d
 |[],mk,b,d=>by rw[za0,za0]
 |x::fs,mk,b,d=>by
  rw[za0,za0];split
  ·rcases hf:f x.2.1 (b+3)with _|⟨y,k⟩
   ·rw[(h _).none hf]
   ·by_cases h45:bAt t k=45
    ·simp only;rw[zn5 h45];rcases hg:g x.2.1 (b+3)with _|⟨y',k'⟩
     ·rfl
     ·have:=(h _).1 _ _ _ hg;rw[hf]at this;simp only[xg,xj]at this;obtain⟨rfl,rfl⟩:=this;simp only;exact zn5 h45
    ·rw[(h _).2 _ _ _ hf h45];simp only;exact zn6 h fs 44 k (d++y)
  ·rfl
theorem zwd {t:ByteArray}{f g:Nat->Option (ByteArray×Nat)}(h:Rel t f g):Rel t (zbq f t) (zbq g t):=by
 constructor
 ·intro j d k hj;unfold zbq at hj ⊢;split at hj
  ·rename_i hc;rw[if_pos hc];exact hj
  ·rename_i hc;rw[if_neg hc];rcases hg:g j with _|⟨x,k'⟩
   ·rw[hg]at hj;cases hj
   ·rw[hg]at hj;rw[h.1 _ _ _ hg];exact hj
 ·intro j d k hj hk;unfold zbq at hj ⊢;split at hj
  ·rename_i hc;rw[if_pos hc];exact hj
  ·rename_i hc;rw[if_neg hc];rcases hf:f j with _|⟨x,k'⟩
   ·rw[hf]at hj;cases hj
   ·rw[hf]at hj;simp only[xg,xj]at hj;rw[h.2 _ _ _ hf (by rw[hj.2];exact hk)];simp[hj]
theorem zoi (t:ByteArray):∀ (n:Nat) (ty:Ty),Rel t (enc false t n ty) (enc true t n ty)
 |0,ty=>⟨fun j d k h=>by simp[enc]at h,fun j d k h=>by simp[enc]at h⟩
 |n+1,ty=>by
  have ih:=zoi t n;have eF:∀ j,enc false t (n+1) ty j=_:=fun j=>by rw[enc]
  have eT:∀ j,enc true t (n+1) ty j=_:=fun j=>by rw[enc]
  have key:∀ (a b:Nat->Option (ByteArray×Nat)),(∀ j,enc false t (n+1) ty j=a j)->(∀ j,enc true t (n+1) ty j=b j)->Rel t a b->Rel t (enc false t (n+1) ty) (enc true t (n+1) ty):=fun a b ha hb h =>
   ⟨fun j d k hj=>by rw[ha];rw[hb]at hj;exact h.1 j d k hj,fun j d k hj hk=>by rw[hb];rw[ha]at hj;exact h.2 j d k hj hk⟩
  by_cases h1:ty.kind=105
  ·exact key _ _ (fun j=>by rw[enc,if_pos h1]) (fun j=>by rw[enc,if_pos h1]) (zoe _ _ t)
  by_cases h2:ty.kind=108
  ·exact key _ _ (fun j=>by rw[enc,if_neg h1,if_pos h2]) (fun j=>by rw[enc,if_neg h1,if_pos h2]) (zoe _ _ t)
  by_cases h3:ty.kind=115
  ·exact key _ _ (fun j=>by rw[enc,if_neg h1,if_neg h2,if_pos h3]) (fun j=>by rw[enc,if_neg h1,if_neg h2,if_pos h3]) (Rel.refl t _)
  by_cases h4:ty.kind=60
  ·exact key (zde ty.letters t) (zde ty.letters t) (fun j=>by rw[enc,if_neg h1,if_neg h2,if_neg h3,if_pos h4];rfl) (fun j=>by rw[enc,if_neg h1,if_neg h2,if_neg h3,if_pos h4];rfl) (Rel.refl t _)
  by_cases h5:ty.kind=91
  ·refine key (zb1 (enc false t n ty.in) t) (zb1 (enc false t n ty.in) t) (fun j=>by rw[enc,if_neg h1,if_neg h2,if_neg h3,if_neg h4,if_pos h5]) (fun j=>?_) (Rel.refl t _);rw[enc,if_neg h1,if_neg h2,if_neg h3,if_neg h4,if_pos h5];unfold zb1;rw[zoa (ih ty.in)]
  by_cases h6:ty.kind=63
  ·exact key _ _ (fun j=>by rw[enc,if_neg h1,if_neg h2,if_neg h3,if_neg h4,if_neg h5,if_pos h6]) (fun j=>by rw[enc,if_neg h1,if_neg h2,if_neg h3,if_neg h4,if_neg h5,if_pos h6]) (zwd (ih ty.in))
  by_cases h7:ty.kind=123
  ·exact key (fun j=>za0 (enc false t n) t ty.fields 123 j xu) (fun j=>za0 (enc false t n) t ty.fields 123 j xu) (fun j=>by rw[enc,if_neg h1,if_neg h2,if_neg h3,if_neg h4,if_neg h5,if_neg h6,if_pos h7]) (fun j=>by
    rw[enc,if_neg h1,if_neg h2,if_neg h3,if_neg h4,if_neg h5,if_neg h6,if_pos h7,zn6 ih]) (Rel.refl t _)
  ·exact key (fun _=>none) (fun _=>none) (fun j=>by rw[enc,if_neg h1,if_neg h2,if_neg h3,if_neg h4,if_neg h5,if_neg h6,if_neg h7]) (fun j=>by rw[enc,if_neg h1,if_neg h2,if_neg h3,if_neg h4,if_neg h5,if_neg h6,if_neg h7]) (Rel.refl t _)
theorem zzi {pt:Nat->Option (Ty×Nat)}{ef eg:Ty->Nat->Option (ByteArray×Nat)}{s:ByteArray}(h:∀ ty,Rel s (ef ty) (eg ty)) :
  (∀ a f k,zar pt eg s a=some (f,k)->zar pt ef s a=some (f,k))/\(∀ a f k,zar pt ef s a=some (f,k)->bAt s k≠45->zar pt eg s a=some (f,k)):=by
 constructor
 ·intro a f k hx;unfold zar at hx ⊢;split at hx
  ·rename_i hc;rw[if_pos hc];rcases hp:pt (a+2)with _|⟨ty,k'⟩
   ·rw[hp]at hx;cases hx
   ·rw[hp]at hx;simp only at hx ⊢;split at hx
    ·rename_i h6;rw[if_pos h6];rcases hy:eg ty (k'+1)with _|⟨d,m⟩
     ·rw[hy]at hx;cases hx
     ·rw[hy]at hx;rw[(h ty).1 _ _ _ hy];exact hx
    ·rename_i h6;rw[if_neg h6];exact hx
  ·cases hx
 ·intro a f k hx hk;unfold zar at hx ⊢;split at hx
  ·rename_i hc;rw[if_pos hc];rcases hp:pt (a+2)with _|⟨ty,k'⟩
   ·rw[hp]at hx;cases hx
   ·rw[hp]at hx;simp only at hx ⊢;split at hx
    ·rename_i h6;rw[if_pos h6];rcases hy:ef ty (k'+1)with _|⟨d,m⟩
     ·rw[hy]at hx;cases hx
     ·rw[hy]at hx;have hx2:=hx;simp only[xg,xj]at hx2;rw[(h ty).2 _ _ _ hy (by rw[hx2.2];exact hk)];exact hx
    ·rename_i h6;rw[if_neg h6];exact hx
  ·cases hx
theorem zp4 {pf pg:Nat->Option ((Nat×Ty×ByteArray)×Nat)}{s:ByteArray}(h1:∀ a f k,pg a=some (f,k)->pf a=some (f,k))(h2:∀ a f k,pf a=some (f,k)->bAt s k≠45->pg a=some (f,k)) :
  ∀ (m a:Nat) (acc:List (Nat×Ty×ByteArray)),za1 pg s m a acc=za1 pf s m a acc
 |0,a,acc=>rfl
 |m+1,a,acc=>by
  rw[za1,za1];rcases hf:pf a with _|⟨f,k⟩
  ·rcases hg:pg a with _|⟨f',k'⟩
   ·rfl
   ·rw[h1 _ _ _ hg]at hf;cases hf
  ·by_cases h45:bAt s k=45
   ·simp only[if_neg (show ¬ bAt s k=125 by omega),if_neg (show ¬ bAt s k=44 by omega),ite_self];rcases hg:pg a with _|⟨f',k'⟩
    ·rfl
    ·have:=h1 _ _ _ hg;rw[hf]at this;simp only[xg,xj]at this;obtain⟨rfl,rfl⟩:=this;simp only[if_neg (show ¬ bAt s k=125 by omega),if_neg (show ¬ bAt s k=44 by omega),ite_self]
   ·rw[h2 _ _ _ hf h45];simp only;rw[zp4 h1 h2 m (k+1) (acc++[f])]
theorem zqf (s:ByteArray):∀ (n i:Nat),zae true s n i=zae false s n i
 |0,i=>rfl
 |n+1,i=>by
  have ih:zae true s n=zae false s n:=funext (zqf s n);rw[zae,zae,ih];have hr:=zzi (pt:=zae false s n) (s:=s) (fun ty=>zoi s n ty);have e:∀ a,pRec (zar (zae false s n) (enc true s n) s) s a=pRec (zar (zae false s n) (enc false s n) s) s a:=fun a=>by
   unfold pRec;rw[zp4 hr.1 hr.2]
  rw[e]
theorem zgs (s:ByteArray):pAll true s=pAll false s:=by unfold pAll;rw[zqf]
section
open Go.RowKit
end
section
open Go.RowKit
end
section
open Go.RowKit
theorem zp5 {pf:Nat->Option ((Nat×Ty×ByteArray)×Nat)}{s:ByteArray}{N:Nat}(hp:∀ i f k,pf i=some (f,k)->i<k/\k<=s.size/\wt N f.2.1+f.2.2.size+84<=80*(k-i)) :
  ∀ (m a:Nat) (acc fs:List (Nat×Ty×ByteArray)) (k:Nat),za1 pf s m a acc=some (fs,k)->a<k/\k<=s.size/\(fs.map fun f=>wt N f.2.1+f.2.2.size+4).sum<=(acc.map fun f=>wt N f.2.1+f.2.2.size+4).sum+80*(k-a)
 |0,a,acc,fs,k,h=>by simp[za1]at h
 |m+1,a,acc,fs,k,h=>by
  rw[za1]at h;split at h
  ·cases h
  ·rename_i f k' hf;have h1:=hp _ _ _ hf;split at h
   ·cases h
   ·split at h
    ·rename_i h125;have:=zaw (s:=s) (i:=k') (by omega);simp only[xg,xj]at h;obtain⟨rfl,rfl⟩:=h;rw[qd,xz];simp;omega
    ·split at h
     ·have:=zp5 hp m (k'+1) (acc++[f]) fs k h;rw[qd,xz]at this;simp at this ⊢;omega
     ·cases h
theorem zzw (st:Bool)(s:ByteArray)(N:Nat):∀ (n i:Nat) (ty:Ty) (k:Nat),zae st s n i=some (ty,k)->wt N ty<=80*(k-i):=by
 intro n
 induction n generalizing N with
 |zero=>intro i ty k h;simp[zae]at h
 |succ n IH =>
  intro i ty k h;have hbd:=zcz st s _ _ _ _ h;cases N with
  |zero=>rw[wt];omega
  |succ N =>
  have hpl:∀ q:Nat,wt (N+1) (za3 q)<=80*(i+1-i):=fun q=>by rw[wt];simp[za3]
  rw[zae]at h;split at h
  ·cases h;exact hpl _
  ·split at h
   ·cases h;exact hpl _
   ·split at h
    ·cases h;exact hpl _
    ·split at h
     ·simp only[zb4]at h;split at h
      ·cases h
      ·split at h
       iterate 2
        ·split at h
         ·cases h;rw[wt];simp;omega
         ·cases h
     ·split at h
      ·unfold zcd at h;split at h
       ·cases h
       ·rename_i t k' ht;split at h
        ·cases h;have:=IH N _ _ _ ht;have:=zcz st s _ _ _ _ ht;rw[wt];simp;omega
        ·cases h
      ·split at h
       ·unfold zce at h;split at h
        ·cases h
        ·rename_i t k' ht;have:=IH N _ _ _ ht;have:=zcz st s _ _ _ _ ht;split at h
         ·cases h
         ·cases h;rw[wt];simp;omega
       ·split at h
        ·unfold pRec at h;split at h
         ·cases h
         ·rename_i fs k' hfs;cases h;have:=zp5 (N:=N) (fun i f k hf=>by
           unfold zar at hf;split at hf
           ·split at hf
            ·cases hf
            ·rename_i t k' ht;have h1:=IH N _ _ _ ht;have h2:=zcz st s _ _ _ _ ht;split at hf
             ·split at hf
              ·cases hf
              ·rename_i d m' he;cases hf;have h3:=zdf he;have h4:=size_extract s (k'+1) k (by omega) (by omega);refine⟨by omega,by omega,?_⟩;show wt N t+(s.extract (k'+1) k).size+84<=_;omega
             ·cases hf;refine⟨by omega,by omega,?_⟩;show wt N t+0+84<=_;omega
           ·cases hf) _ _ _ _ _ hfs
          rw[wt];simp at this ⊢;omega
        ·cases h
theorem zpw {st:Bool}{s:ByteArray}{x:Ty}(h:pAll st s=some x)(hs:s.size<=60)(N:Nat):wt N x<=20000:=by
 have:=zzw st s N _ _ _ _ (zpv h);omega
end
section
open Go.RowKit
def fitB (s t:ByteArray):Bool:=match pAll false s,pAll false t with
 |some x,some r=>(unV (s.size+t.size) s.size x r).isNone
 |_,_=>false
end
section
open Go.RowKit
def RowT (S:Nat->Prop)(w:World)(xs:List Value)(es:List (ByteArray×Ty)):Prop :=
 xs.length=es.length*5/\∀ i e,es[i]?=some e->∃ p1 p2 p3 q1 q2 q3,RepB S e.1.size w p1 p2 p3 q1 q2 q3 e.2/\xs[i*5]?=some (.int .i64 e.2.kind) /\
      xs[i*5+1]?=some (.string e.2.letters)/\xs[i*5+2]?=some (.bool e.2.op)/\xs[i*5+3]?=some (.slice p1 p2 p3)/\xs[i*5+4]?=some (.slice q1 q2 q3)
theorem RowT.keep {S:Nat->Prop}{w w':World}{xs:List Value}{es:List (ByteArray×Ty)}(h:RowT S w xs es)(hb:∀ b o v,S b->w.cell? ⟨b,o,none⟩=some v->w'.cell? ⟨b,o,none⟩=some v):RowT S w' xs es :=
 ⟨h.1,fun i f hi=>by obtain⟨p1,p2,p3,q1,q2,q3,h1,h2⟩:=h.2 i f hi;exact⟨p1,p2,p3,q1,q2,q3,h1.keep hb,h2⟩⟩
theorem RowT.imp {S S':Nat->Prop}{w:World}{xs:List Value}{es:List (ByteArray×Ty)}(h:RowT S w xs es)(hS:∀ b,b<w.heap.size->S b->S' b):RowT S' w xs es :=
 ⟨h.1,fun i f hi=>by obtain⟨p1,p2,p3,q1,q2,q3,h1,h2⟩:=h.2 i f hi;exact⟨p1,p2,p3,q1,q2,q3,h1.imp hS,h2⟩⟩
theorem RowT.nil {S:Nat->Prop}{w:World}:RowT S w [] []:=⟨rfl,fun i f hi=>by simp at hi⟩
theorem RowT.snoc {S:Nat->Prop}{w:World}{xs:List Value}{es:List (ByteArray×Ty)}(h:RowT S w xs es){e:ByteArray×Ty}{p1 q1:Option Addr}{p2 p3 q2 q3:Nat}(hr:RepB S e.1.size w p1 p2 p3 q1 q2 q3 e.2) :
  RowT S w (xs++[.int .i64 e.2.kind,.string e.2.letters,.bool e.2.op,.slice p1 p2 p3,.slice q1 q2 q3]) (es++[e]):=by
 refine⟨by simp[h.1];omega,fun i g hi=>?_⟩;by_cases hl:i<es.length
 ·rw[xf hl]at hi;obtain⟨a1,a2,a3,b1,b2,b3,h1,h2⟩:=h.2 i g hi;have hx:=h.1;refine⟨a1,a2,a3,b1,b2,b3,h1,?_⟩;rw[xf (by omega),xf (by omega),xf (by omega),xf (by omega),xf (by omega)];exact h2
 ·rw[xo (by omega)]at hi;obtain rfl:i=es.length:=by
   rcases Nat.eq_or_lt_of_le (Nat.le_of_not_lt hl)with h|h
   ·exact h.symm
   ·rw[xe (by simp;omega)]at hi;cases hi
  simp at hi;subst hi;have hx:=h.1;refine⟨p1,p2,p3,q1,q2,q3,hr,?_⟩;rw[<- hx];refine⟨?_,?_,?_,?_,?_⟩<;>(rw[xo (by omega)];simp)
theorem yabm {H g g':Nat}{wr w1 w2 w3:World}{xs:List Value}{acc:List (ByteArray×Ty)}{f:ByteArray×Ty}{ai af:Option Addr}{li ci lf cf:Nat}
  (hrow:RowT (fun b=>H<=b/\b≠g) wr xs acc) (hr1:RepB (fun b=>wr.heap.size<=b) f.1.size w1 ai li ci af lf cf f.2) (hb1:Below wr.heap.size wr w1) (hb2:Below w1.heap.size w1 w2)
  (hgrow:w2.grownBy w3 (some g)) (hat:some g=some g'\/g'=w2.heap.size) (hH:H<=wr.heap.size) (hg:g<wr.heap.size) :
  RowT (fun b=>H<=b/\b≠g') w3 (xs++[.int .i64 f.2.kind,.string f.2.letters,.bool f.2.op,.slice ai li ci,.slice af lf cf]) (acc++[f]):=by
 have z1:=hb1.size;have z2:=hb2.size;have hg':g'=g\/g'=w2.heap.size:=by
  rcases hat with h|h
  ·left;cases h;rfl
  ·exact .inr h
 have tr:∀ b o v,b≠g->w1.cell? ⟨b,o,none⟩=some v->w3.cell? ⟨b,o,none⟩=some v:=fun b o v hne h =>
  hgrow.cell (zab hb2 h) (fun e=>hne (by cases e;rfl))
 have h1:RowT (fun b=>H<=b/\b≠g/\b≠g') wr xs acc:=hrow.imp (fun b hb h=>⟨h.1,h.2,by omega⟩);have h2:RowT (fun b=>H<=b/\b≠g') w3 xs acc:=(h1.keep (fun b o v hS h=>tr b o v hS.2.1 (zab hb1 h))).imp (fun b _ h=>⟨h.1,h.2.2⟩);have h3:RepB (fun b=>H<=b/\b≠g/\b≠g') f.1.size w1 ai li ci af lf cf f.2:=hr1.imp (fun b hb h=>by refine⟨?_,?_,?_⟩<;>omega);exact h2.snoc ((h3.keep (fun b o v hS h=>tr b o v hS.2.1 h)).imp (fun b _ h=>⟨h.1,h.2.2⟩))
def TysAt (w:World)(g:Nat)(es:List (ByteArray×Ty)):Prop:=∀ i e,es[i]?=some e->∃ p1 p2 p3 q1 q2 q3,Rep e.1.size w p1 p2 p3 q1 q2 q3 e.2/\w.cell? ⟨g,i*5,none⟩=some (.int .i64 e.2.kind) /\
      w.cell? ⟨g,i*5+1,none⟩=some (.string e.2.letters)/\w.cell? ⟨g,i*5+2,none⟩=some (.bool e.2.op)/\w.cell? ⟨g,i*5+3,none⟩=some (.slice p1 p2 p3)/\w.cell? ⟨g,i*5+4,none⟩=some (.slice q1 q2 q3)
theorem yaeb {S:Nat->Prop}{base g cap:Nat}{w:World}{xs:List Value}{es:List (ByteArray×Ty)}(hown:w.ownsRow base 201 5 (.slice (some ⟨g,0,none⟩) es.length cap) es.length xs)(h:RowT S w xs es):TysAt w g es:=fun i e hi=>by
 obtain⟨p1,p2,p3,q1,q2,q3,h1,k0,k1,k2,k3,k4⟩:=h.2 i e hi;exact⟨p1,p2,p3,q1,q2,q3,h1.rep,zbm hown k0,zbm hown k1,zbm hown k2,zbm hown k3,zbm hown k4⟩
theorem TysAt.keep {w w':World}(hb:Below w.heap.size w w'){g:Nat}{es:List (ByteArray×Ty)}(h:TysAt w g es):TysAt w' g es:=fun i e hi=>by
 obtain⟨p1,p2,p3,q1,q2,q3,h1,k0,k1,k2,k3,k4⟩:=h i e hi;exact⟨p1,p2,p3,q1,q2,q3,h1.keep hb,zab hb k0,zab hb k1,zab hb k2,zab hb k3,zab hb k4⟩
def tabI (ss:List ByteArray)(i j:Nat):Bool:=match ss[i]?,ss[j]? with
 |some s,some t=>fitB s t
 |_,_=>false
def za9 (ss:List ByteArray):List (List Bool):=(xy 8).map fun i=>(xy 8).map (tabI ss i)
theorem zfo (ss:List ByteArray):tabOk (za9 ss):=by
 refine⟨by simp[za9],fun r hr=>?_⟩;obtain⟨i,_,rfl⟩:=List.mem_map.1 hr;simp
theorem yac9 (ss:List ByteArray){i j:Nat}(hi:i<8)(hj:j<8):tabG (za9 ss) i j=tabI ss i j:=by
 simp[tabG,za9,List.getD,xh hi,xh hj]
def zcl (ss:List ByteArray)(i j:Nat):List Bool:=(xy 64).map fun k=>decide (k<i*8+j)&&tabI ss (k / 8) (k % 8)
theorem zdx (ss:List ByteArray)(i j:Nat):(zcl ss i j).length=64:=by simp[zcl]
theorem zfp (ss:List ByteArray)(i j k:Nat)(hk:k<64):(zcl ss i j)[k]?=some (decide (k<i*8+j)&&tabI ss (k / 8) (k % 8)):=by
 rw[zcl,xp,xh hk];rfl
theorem zls {ss:List ByteArray}{i j:Nat}(h:ss.length<=i\/ss.length<=j):tabI ss i j=false:=by
 unfold tabI;rcases h with h|h
 ·rw[xe h]
 ·rw[xe h];split<;>first|rfl|(rename_i h1;cases h1)
theorem yade (ss:List ByteArray):zcl ss 0 0=List.replicate 64 false:=by
 apply xm;intro k;by_cases hk:k<64
 ·rw[zfp _ _ _ _ hk,List.getElem?_replicate,if_pos hk];simp
 ·rw[xe (by rw[zdx];omega),xe (by simp;omega)]
theorem yadd (ss:List ByteArray){i j:Nat}(hi:i<8)(hj:j<8):zcl ss i (j+1)=(zcl ss i j).set (i*8+j) (tabI ss i j):=by
 apply xm;intro k;by_cases hk:k<64
 ·rw[zfp _ _ _ _ hk,List.getElem?_set];by_cases hki:i*8+j=k
  ·subst hki;rw[if_pos rfl,if_pos (by rw[zdx];omega),show (i*8+j) / 8=i by omega,show (i*8+j) % 8=j by omega];simp[show i*8+j<i*8+(j+1) by omega]
  ·rw[if_neg hki,zfp _ _ _ _ hk];by_cases h:k<i*8+j
   ·simp[h,show k<i*8+(j+1) by omega]
   ·simp[h,show ¬ k<i*8+(j+1) by omega]
 ·rw[xe (by rw[zdx];omega),xe (by rw[List.length_set,zdx];omega)]
theorem yadc (ss:List ByteArray){i:Nat}(hl:ss.length<=8):zcl ss i ss.length=zcl ss (i+1) 0:=by
 apply xm;intro k;by_cases hk:k<64
 ·rw[zfp _ _ _ _ hk,zfp _ _ _ _ hk];by_cases h:k<i*8+ss.length
  ·rw[show decide (k<i*8+ss.length)=true by simp[h],show decide (k<(i+1)*8+0)=true by simp;omega]
  ·by_cases h2:k<(i+1)*8
   ·rw[zls (ss:=ss) (j:=k % 8) (.inr (by omega))];simp
   ·simp[h,h2]
 ·rw[xe (by rw[zdx];omega),xe (by rw[zdx];omega)]
theorem yadb (ss:List ByteArray)(hl:ss.length<=8):zcl ss ss.length 0=(za9 ss).flatten:=by
 apply xm;intro k;by_cases hk:k<64
 ·have hr:(za9 ss)[k / 8]?=some ((xy 8).map (tabI ss (k / 8))):=by rw[za9,xp,xh (by omega)];rfl
  have hf:=zki (za9 ss) (k / 8) (k % 8) _ (zfo ss).2 hr (by omega);rw[show k / 8*8+k % 8=k by omega]at hf;rw[hf,zfp _ _ _ _ hk,xp,xh (by omega)];by_cases h:k<ss.length*8
  ·simp[h]
  ·rw[zls (ss:=ss) (i:=k / 8) (.inl (by omega))];simp[zls (ss:=ss) (i:=k / 8) (j:=k % 8) (.inl (by omega))]
 ·rw[xe (by rw[zdx];omega),xe (by rw[zkj _ (zfo ss).2,(zfo ss).1];omega)]
end
end Go.Proofs.YtkkekopomiehlabGreatDoor
