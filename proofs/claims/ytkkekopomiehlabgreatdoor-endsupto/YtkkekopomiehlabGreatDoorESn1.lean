import Derived.Test.YtkkekopomiehlabGreatDoorEFt4
set_option linter.unusedVariables false
set_option linter.unusedSimpArgs false
set_option maxHeartbeats 40000000
set_option maxRecDepth 4000
open ByteArray renaming size_append->xe,empty->xo,empty_append->xq,size_extract->qf,append_assoc->qg
open List renaming not_mem_nil->xf,zip_cons_cons->xg,mem_cons->xj,map_cons->xm,mem_of_getElem?->xv
open Option renaming map_eq_none_iff->xh,map_map->xu
open Nat renaming add_zero->xp,zero_le->xz
open Option.some renaming injEq->xy
open Classical renaming byContradiction->qd
open Prod.mk renaming injEq->qe
open Go.RowKit
namespace Go.Proofs.YtkkekopomiehlabGreatDoor
section
theorem zi3 {s:ByteArray}{n i k:Nat}{ty:Ty}(h:zae true s n i=some (ty,k)):bAt s i=ty.kind/\∃ n',n=n'+1 /\
  (ty.kind=60->zdr s (i+1)=some (ty,k))/\(ty.kind=91\/ty.kind=63->∃ k',zae true s n' (i+1)=some (ty.in,k'))/\(ty.kind=63->ty.in.kind≠63) /\
  (ty.kind=123->∃ k',za1 (zar (zae true s n') (enc true s n') s) s (s.size-(i+1)) (i+1) []=some (ty.fields,k'))/\(ty.kind=105\/ty.kind=108\/ty.kind=115\/ty.kind=60\/ty.kind=91\/ty.kind=63\/ty.kind=123):=by
 cases n with
 |zero=>simp[zae]at h
 |succ n =>
  have his:i<s.size:=by have:=zcz true s _ _ _ _ h;omega
  rw[zae]at h;split at h
  ·rename_i hb;cases h;exact⟨hb,n,rfl,(fun h=>by cases h),(fun h=>by rcases h with h|h<;>cases h),(fun h=>by cases h),(fun h=>by cases h),.inl rfl⟩
  ·split at h
   ·rename_i hb;cases h;exact⟨hb,n,rfl,(fun h=>by cases h),(fun h=>by rcases h with h|h<;>cases h),(fun h=>by cases h),(fun h=>by cases h),.inr (.inl rfl)⟩
   ·split at h
    ·rename_i hb;cases h;exact⟨hb,n,rfl,(fun h=>by cases h),(fun h=>by rcases h with h|h<;>cases h),(fun h=>by cases h),(fun h=>by cases h),.inr (.inr (.inl rfl))⟩
    ·split at h
     ·rename_i hb;rw[zk0 s (i+1) (by omega)]at h;have hk:=(zq0 h).1;rw[hb,hk];exact⟨rfl,n,rfl,fun _=>h,(fun h=>by omega),(fun h=>by omega),(fun h=>by omega),by omega⟩
     ·split at h
      ·rename_i hb;unfold zcd at h;split at h
       ·cases h
       ·rename_i t k' ht;split at h
        ·cases h;exact⟨hb,n,rfl,(fun h=>by cases h),fun _=>⟨k',ht⟩,(fun h=>by cases h),(fun h=>by cases h),.inr (.inr (.inr (.inr (.inl rfl))))⟩
        ·cases h
      ·split at h
       ·rename_i hb;unfold zce at h;split at h
        ·cases h
        ·rename_i t k' ht;split at h
         ·cases h
         ·rename_i hne;cases h;exact⟨hb,n,rfl,(fun h=>by cases h),fun _=>⟨_,ht⟩,fun _=>hne,(fun h=>by cases h),.inr (.inr (.inr (.inr (.inr (.inl rfl)))))⟩
       ·split at h
        ·rename_i hb;unfold pRec at h;split at h
         ·cases h
         ·rename_i fs k' hfs;cases h;exact⟨hb,n,rfl,(fun h=>by cases h),(fun h=>by rcases h with h|h<;>cases h),(fun h=>by cases h),fun _=>⟨_,hfs⟩,.inr (.inr (.inr (.inr (.inr (.inr rfl)))))⟩
        ·cases h
theorem zk8 {s:ByteArray}{a k:Nat}{ty:Ty}(ha:a<=s.size)(h:zdr s a=some (ty,k)):ty.letters=s.extract a (zaz isL s (s.size-a) a)/\zaz isL s (s.size-a) a=a+ty.letters.size/\1<=ty.letters.size/\ty.letters.size<=8/\ty.op=(bAt s (a+ty.letters.size) == 43):=by
 obtain⟨_,h2,h3⟩:=zq0 h;have hle:=zdt isL s (s.size-a) a;have hsz:ty.letters.size=zaz isL s (s.size-a) a-a:=by rw[h2,qf];omega
 unfold zdr at h;simp only at h;generalize hE:zaz isL s (s.size-a) a=E at h hle hsz h2;split at h
 ·cases h
 ·rename_i hc;have he:E=a+ty.letters.size:=by omega
  refine⟨h2,he,by omega,h3,?_⟩;rw[<- he];split at h
  ·rename_i h43;split at h
   ·simp only[xy,qe]at h;rw[<- h.1,h43];rfl
   ·cases h
  ·rename_i h43;split at h
   ·simp only[xy,qe]at h;rw[<- h.1];simp[h43]
   ·cases h
end
def tyN:Nat->Ty->Prop
 |0,_=>True
 |n+1,ty=>(ty.fields.map (·.1)).Nodup/\(ty.kind=91\/ty.kind=63->tyN n ty.in)/\∀ f∈ty.fields,tyN n f.2.1
theorem zih {pf:Nat->Option ((Nat×Ty×ByteArray)×Nat)}{s:ByteArray}{Q:(Nat×Ty×ByteArray)->Prop}(hp:∀ i f k,pf i=some (f,k)->Q f) :
  ∀ (m a:Nat) (acc fs:List (Nat×Ty×ByteArray)) (k:Nat),za1 pf s m a acc=some (fs,k)->(∀ f∈acc,Q f)->(acc.map (·.1)).Nodup->(∀ f∈fs,Q f)/\(fs.map (·.1)).Nodup
 |0,a,acc,fs,k,h,_,_=>by simp[za1]at h
 |m+1,a,acc,fs,k,h,hq,hn=>by
  rw[za1]at h;split at h
  ·cases h
  ·rename_i f k' hf;split at h
   ·cases h
   ·rename_i hany;have hq':∀ g∈acc++[f],Q g:=fun g hg=>by
     rcases List.mem_append.1 hg with hg|hg
     ·exact hq g hg
     ·rw[List.mem_singleton.1 hg];exact hp _ _ _ hf
    have hn':((acc++[f]).map (·.1)).Nodup:=by
     rw[List.map_append,List.nodup_append];refine⟨hn,by simp,fun a ha b hb=>?_⟩;obtain⟨g,hg,rfl⟩:=List.mem_map.1 ha;simp at hb;subst hb;intro he;apply hany;rw[List.any_eq_true];exact⟨g,hg,by simp[he]⟩
    split at h
    ·cases h;exact⟨hq',hn'⟩
    ·split at h
     ·exact zih hp m _ _ _ _ h hq' hn'
     ·cases h
theorem zft {s:ByteArray}:∀ (n i:Nat) (ty:Ty) (k:Nat),zae true s n i=some (ty,k)->tyG n ty/\tyN n ty
 |0,i,ty,k,h=>by simp[zae]at h
 |n+1,i,ty,k,h=>by
  have ih:=zft (s:=s) n;have his:i<s.size:=by have:=zcz true s _ _ _ _ h;omega
  obtain⟨_,n',hn,h60,hin,hne,h123,hk⟩:=zi3 h;obtain rfl:n'=n:=by omega
  have hfs:(∀ f∈ty.fields,f.1<256/\tyG n' f.2.1/\tyN n' f.2.1)/\(ty.fields.map (·.1)).Nodup:=by
   by_cases h3:ty.kind=123
   ·obtain⟨k',hk'⟩:=h123 h3;exact zih (Q:=fun f=>f.1<256/\tyG n' f.2.1/\tyN n' f.2.1) (fun i f k hf=>by
     have h256:=zpz hf;unfold zar at hf;split at hf
     ·split at hf
      ·cases hf
      ·rename_i t k' ht;have h1:=ih _ _ _ ht;split at hf
       ·split at hf
        ·cases hf
        ·cases hf;exact⟨h256,h1.1,h1.2⟩
       ·cases hf;exact⟨h256,h1.1,h1.2⟩
     ·cases hf) _ _ _ _ _ hk' (fun f hf=>absurd hf xf) (by simp)
   ·have:ty.fields=[]:=by
     rw[zae]at h;split at h
     ·cases h;rfl
     ·split at h
      ·cases h;rfl
      ·split at h
       ·cases h;rfl
       ·split at h
        ·rw[zk0 s (i+1) (by omega)]at h;unfold zdr at h;simp only at h;split at h
         ·cases h
         ·split at h
          iterate 2
           ·split at h
            ·cases h;rfl
            ·cases h
        ·split at h
         ·unfold zcd at h;split at h
          ·cases h
          ·split at h
           ·cases h;rfl
           ·cases h
         ·split at h
          ·unfold zce at h;split at h
           ·cases h
           ·split at h
            ·cases h
            ·cases h;rfl
          ·split at h
           ·unfold pRec at h;split at h
            ·cases h
            ·cases h;exact absurd rfl h3
           ·cases h
    rw[this];exact⟨fun f hf=>absurd hf xf,by simp⟩
  have hinn:ty.kind=91\/ty.kind=63->tyG n' ty.in/\tyN n' ty.in:=fun h=>by
   obtain⟨k',hk'⟩:=hin h;exact ih _ _ _ hk'
  refine⟨⟨fun h6 j hj=>?_,hne,fun h=>(hinn h).1,fun f hf=>⟨(hfs.1 f hf).1,(hfs.1 f hf).2.1⟩⟩,hfs.2,fun h=>(hinn h).2,fun f hf=>(hfs.1 f hf).2.2⟩;have hr:=h60 h6;obtain⟨l1,l2,l3,l4,l5⟩:=zk8 (by omega) hr;have hle:=zdt isL s (s.size-(i+1)) (i+1);have hb:∀ q,q<ty.letters.size->bAt ty.letters q=bAt s (i+1+q):=fun q hq=>by
   rw[l1,zct s (i+1) _ q (by omega) (by omega)]
  constructor
  ·rw[hb j hj];exact zfm isL s (s.size-(i+1)) (i+1) (i+1+j) (by omega) (by omega)
  ·intro q hq he;unfold zdr at hr;simp only at hr;split at hr
   ·cases hr
   ·rename_i hc;apply hc;refine .inr (.inr ?_);rw[<- l1];exact zsj hq hj he.symm
section
def outU:Option ByteArray->ByteArray
 |none=>xo
 |some t=>t
theorem zg7 (o:Option ByteArray):uR o=.tuple #[.string (outU o),.bool o.isSome]:=by cases o<;>rfl
theorem iB {a b:Nat}(h:a=b):((a:Int) == (b:Int))=true:=by simp;omega
theorem iN {a b:Nat}(h:a≠b):((a:Int) == (b:Int))=false:=by simp;omega
theorem yaem {m:Nat}(IH:zhi m):zhi (m+1):=by
 intro nw nr x r w ai af li ci lf cf bi bf mi di mf df hm hk hwt hx hr;cases nw with
 |zero=>exact hx.elim
 |succ n =>
 cases nr with
 |zero=>exact hr.elim
 |succ q =>
 show Calls _ _ _ _ (fun e w'=>e=.returned (uR ((zda (unV m n) (unV m (n+1)) n x r).map (txtV (n+1) x)))/\Below w.heap.size w w');rw[zg7];have hx8:x.letters.size<=8:=hx.1;have hr8:r.letters.size<=8:=hr.1;have hinx:=fun (hne:x.inner≠[]) (W:World) (hb:Below w.heap.size w W)=>zei n W ai af li ci lf cf x (hx.keep hb) hne;have hinr:=fun (hne:r.inner≠[]) (W:World) (hb:Below w.heap.size w W)=>zei q W bi bf mi di mf df r (hr.keep hb) hne;by_cases hr63:r.kind=63
 ·have hnr:r.inner≠[]:=hr.2.2.2.1.1 (.inr hr63);by_cases hx63:x.kind=63
  ·have hi:=hk.2.2.1 (.inr hx63);have hwi:=wtI (m:=n) hi.1;rw[show (zda (unV m n) (unV m (n+1)) n x r).map (txtV (n+1) x)=(unV m n x.in r.in).map (txtV n x.in) by unfold zda;rw[if_pos ⟨hx63,hr63⟩,xu];rfl];refine yaed x r w ai li ci af lf cf bi mi di bf mf df _ _ (iB hx63) (iB hr63) n q (hinx hi.1) (hinr hnr) (fun W p1 p2 p3 p4 p5 p6 q1 q2 q3 q4 q5 q6 hb hp hq=>?_);have:=IH n q x.in r.in W p1 p4 p2 p3 p5 p6 q1 q4 q2 q3 q5 q6 (by omega) hi.2 (by omega) hp hq;rw[zg7]at this;exact this
  ·rw[show zda (unV m n) (unV m (n+1)) n x r=unV m (n+1) x r.in by unfold zda;rw[if_neg (fun h=>hx63 h.1),if_pos hr63]];refine yaej x r w ai li ci af lf cf bi mi di bf mf df _ _ (iN hx63) (iB hr63) q (hinr hnr) (fun W p1 p2 p3 p4 p5 p6 hb hp=>?_);have:=IH (n+1) q x r.in W ai af li ci lf cf p1 p4 p2 p3 p5 p6 (by omega) hk hwt (hx.keep hb) hp;rw[zg7]at this;exact this
 ·have hst:zda (unV m n) (unV m (n+1)) n x r=if zax x.kind r.kind=true then none else if x.kind≠r.kind then some (lv (n+1) x) else if x.kind=60 then (unL x.letters r.letters r.op x.letters.size 0).map Val.cho else if x.kind=91 then (unV m n x.in r.in).map fun u=>.lst [u] else if x.kind=123 then unF (unV m n) n x.fields r.fields else none:=by
   unfold zda;rw[if_neg (fun h=>hr63 h.2),if_neg hr63]
  have h2:=iN (b:=63) hr63;cases hs:zax x.kind r.kind with
  |true =>
   rw[hst,if_pos hs];have hx63:x.kind≠63:=by simp[zax]at hs;omega
   exact yaek x r w ai li ci af lf cf bi mi di bf mf df _ _ (iN hx63) h2 hs rfl rfl
  |false =>
   have hs':¬ zax x.kind r.kind=true:=by rw[hs];simp
   by_cases hkk:x.kind=r.kind
   ·have hx63:x.kind≠63:=by omega
    have h1:=iN (b:=63) hx63;have h3:((x.kind:Int) != (r.kind:Int))=false:=by simp;omega
    rw[hst,if_neg hs',if_neg (by simp[hkk])];rcases hk.1 with h|h|h|h|h|h|h
    iterate 3
     ·exfalso;rw[<- hkk,h]at hs;cases hs
    ·rw[if_pos h,xu];refine yaee x r w ai li ci af lf cf bi mi di bf mf df _ _ h1 h2 hs h3 (iB h) (fun W hb=>?_);have:=yaen x r ai li ci af lf cf bi mi di bf mf df W hx8 hr8;refine this.mono (fun e w' he=>⟨?_,he.2⟩);rw[he.1];cases unL x.letters r.letters r.op x.letters.size 0<;>rfl
    ·have hi:=hk.2.2.1 (.inl h);have hnr:r.inner≠[]:=hr.2.2.2.1.1 (.inl (by omega));have hwi:=wtI (m:=n) hi.1;rw[if_neg (by omega),if_pos h,xu];refine yaeh x r w ai li ci af lf cf bi mi di bf mf df _ _ h1 h2 hs h3 (iN (b:=60) (by omega)) (iB h) n q (hinx hi.1) (hinr hnr) (fun W p1 p2 p3 p4 p5 p6 q1 q2 q3 q4 q5 q6 hb hp hq=>?_);cases hu:unV m n x.in r.in with
     |none =>
      have:=zst x.in r.in W p1 p2 p3 p4 p5 p6 q1 q2 q3 q4 q5 q6 xo false (xz _) (fun W' hb'=>by
       have:=IH n q x.in r.in W' p1 p4 p2 p3 p5 p6 q1 q4 q2 q3 q5 q6 (by omega) hi.2 (by omega) (hp.keep hb') (hq.keep hb');rw[hu]at this;exact this)
      exact this
     |some u =>
      have hus:=zfu m n x.in r.in u hi.2 hu;have:=zst x.in r.in W p1 p2 p3 p4 p5 p6 q1 q2 q3 q4 q5 q6 (txtV n x.in u) true (by omega) (fun W' hb'=>by
       have:=IH n q x.in r.in W' p1 p4 p2 p3 p5 p6 q1 q4 q2 q3 q5 q6 (by omega) hi.2 (by omega) (hp.keep hb') (hq.keep hb');rw[hu]at this;exact this)
      exact this
    ·omega
    ·rw[if_neg (by omega),if_neg (by omega),if_pos h];have hfx:=hx.flds;have hfr:=hr.flds;refine yaei x r w ai li ci af lf cf bi mi di bf mf df _ _ h1 h2 hs h3 (iN (b:=60) (by omega)) (iN (b:=91) (by omega)) (iB h) (fun W hb=>?_);have:=yaeo IH n q (by omega) x r.fields W af bf lf cf mf df hfx.1 hfr.1 hfx.2.1 hfr.2.1 (hx.2.2.2.1.2 h) hk.2.2.2 (by rw[wt]at hwt;omega) (hx.keep hb).flds.2.2 (hr.keep hb).flds.2.2;rw[zg7]at this;exact this
   ·have h3:((x.kind:Int) != (r.kind:Int))=true:=by simp;omega
    rw[hst,if_neg hs',if_pos hkk];by_cases hx63:x.kind=63
    ·exact yaef x r w ai li ci af lf cf bi mi di bf mf df _ _ (iB hx63) h2 hs h3 rfl (fun W hb=>zgm (n+1) x W ai af li ci lf cf hk hwt (hx.keep hb))
    ·exact yaeg x r w ai li ci af lf cf bi mi di bf mf df _ _ (iN hx63) h2 hs h3 rfl (fun W hb=>zgm (n+1) x W ai af li ci lf cf hk hwt (hx.keep hb))
theorem zss:∀ m,zhi m
 |0=>fun nw nr x r w ai af li ci lf cf bi bf mi di mf df hm hk hwt hx hr=>by
  obtain rfl:nw=0:=by omega
  exact hx.elim
 |m+1=>yaem (zss m)
theorem zos {s:ByteArray}{n i k:Nat}{ty:Ty}(h:zae true s (n+1) i=some (ty,k))(h3:¬ ty.kind=123):ty.fields=[]:=by
 have his:i<s.size:=by have:=zcz true s _ _ _ _ h;omega
 rw[zae]at h;split at h
 ·cases h;rfl
 ·split at h
  ·cases h;rfl
  ·split at h
   ·cases h;rfl
   ·split at h
    ·rw[zk0 s (i+1) (by omega)]at h;unfold zdr at h;simp only at h;split at h
     ·cases h
     ·split at h
      iterate 2
       ·split at h
        ·cases h;rfl
        ·cases h
    ·split at h
     ·unfold zcd at h;split at h
      ·cases h
      ·split at h
       ·cases h;rfl
       ·cases h
     ·split at h
      ·unfold zce at h;split at h
       ·cases h
       ·split at h
        ·cases h
        ·cases h;rfl
      ·split at h
       ·unfold pRec at h;split at h
        ·cases h
        ·cases h;exact absurd rfl h3
       ·cases h
theorem zsl {s:ByteArray}:∀ (n i:Nat) (ty:Ty) (k:Nat),zae true s n i=some (ty,k)->tyK n ty
 |0,i,ty,k,h=>by simp[zae]at h
 |n+1,i,ty,k,h=>by
  have ih:=zsl (s:=s) n;have his:i<s.size:=by have:=zcz true s _ _ _ _ h;omega
  obtain⟨_,n',hn,h60,hin,hne,h123,hk⟩:=zi3 h;obtain rfl:n'=n:=by omega
  have hg:=zft _ _ _ _ h;refine⟨hk,fun h6=>(zk8 (by omega) (h60 h6)).2.2.1,fun hh=>?_,fun f hf=>?_⟩
  ·obtain⟨k',hk'⟩:=hin hh;refine⟨fun hi=>?_,ih _ _ _ hk'⟩;have:ty.in=za3 0:=by unfold Ty.in;rw[hi];rfl
   rw[this]at hk';obtain⟨_,_,_,_,_,_,_,h7⟩:=zi3 hk';have h0:(za3 0).kind=0:=rfl;omega
  ·have h3:ty.kind=123:=by
    rcases Nat.lt_or_ge 0 0 with h|_
    ·omega
    ·apply qd;intro h3;have:ty.fields=[]:=zos h h3;rw[this]at hf;exact absurd hf xf
   obtain⟨k',hk'⟩:=h123 h3;exact(zih (Q:=fun f=>f.1<256/\tyK n' f.2.1) (fun i f k hf=>by
     have h256:=zpz hf;unfold zar at hf;split at hf
     ·split at hf
      ·cases hf
      ·rename_i t k' ht;have h1:=ih _ _ _ ht;split at hf
       ·split at hf
        ·cases hf
        ·cases hf;exact⟨h256,h1⟩
       ·cases hf;exact⟨h256,h1⟩
     ·cases hf) _ _ _ _ _ hk' (fun f hf=>absurd hf xf) (by simp)).1 f hf
theorem zpv {st:Bool}{s:ByteArray}{ty:Ty}(hx:pAll st s=some ty):zae st s s.size 0=some (ty,s.size):=by
 unfold pAll at hx;rcases hq:zae st s s.size 0 with _|⟨ty',k⟩
 ·rw[hq]at hx;cases hx
 ·rw[hq]at hx;simp only at hx;split at hx
  ·rename_i h;cases hx;rw[h]
  ·cases hx
end
def tyL:Nat->Ty->Prop
 |0,_=>False
 |n+1,ty=>(ty.kind=105\/ty.kind=108\/ty.kind=115\/ty.kind=60\/ty.kind=91\/ty.kind=63\/ty.kind=123)/\(ty.kind=60->1<=ty.letters.size/\ty.letters.size<=8)/\(ty.kind=91\/ty.kind=63->tyL n ty.in)/\(ty.kind=63->ty.in.kind≠63)/\(ty.kind=123->ty.fields≠[]/\∀ f∈ty.fields,tyL n f.2.1)
theorem zs3 (c:Nat):∀ (fs:List (Nat×Ty×ByteArray)) (vs:List Val),vs.length=fs.length ->
  (fs.findIdx? (fun g=>g.1 == c)=none->(fs.zip vs).find? (fun p=>p.1.1 == c)=none) /\
  (∀ p,fs.findIdx? (fun g=>g.1 == c)=some p->∃ f v,fs[p]?=some f/\vs[p]?=some v/\(fs.zip vs).find? (fun p=>p.1.1 == c)=some (f,v))
 |[],vs,h=>⟨fun _=>rfl,fun p hp=>by simp at hp⟩
 |f::fs,[],h=>by simp at h
 |f::fs,v::vs,h=>by
  have ih:=zs3 c fs vs (by simpa using h);rw[List.findIdx?_cons,xg,List.find?_cons];by_cases hc:(f.1 == c)=true
  ·rw[if_pos hc];refine⟨fun h=>by simp at h,fun p hp=>?_⟩;cases hp;refine⟨f,v,rfl,rfl,?_⟩;rw[show ((f,v).1.1 == c)=true from hc]
  ·rw[if_neg hc,show ((f,v).1.1 == c)=false by simpa using hc];refine⟨fun h=>ih.1 (by simpa using h),fun p hp=>?_⟩;obtain⟨q,hq,rfl⟩:=Option.map_eq_some_iff.1 hp;obtain⟨f',v',h1,h2,h3⟩:=ih.2 q hq;exact⟨f',v',by simpa using h1,by simpa using h2,h3⟩
theorem zsr {wl rl:ByteArray}{op:Bool}:∀ (m k j:Nat),unL wl rl op m k=none->k<=j->j<k+m->op=true\/0<=pOf rl (bAt wl j)
 |0,k,j,h,h1,h2=>by omega
 |m+1,k,j,h,h1,h2=>by
  rw[unL]at h;split at h
  ·rename_i hc;by_cases hk:j=k
   ·subst hk;simpa using hc
   ·exact zsr m (k+1) j h (by omega) (by omega)
  ·cases h
def ln:Nat->Ty->Nat
 |0,_=>0
 |n+1,ty=>if ty.kind=91 then ln n ty.in+2 else if ty.kind=63 then ln n ty.in+1 else if ty.kind=123 then (ty.fields.map fun f=>ln n f.2.1+3).sum+1 else 1
theorem zrb {f:Val->Option ByteArray}:∀ (vs:List Val) (k:Nat) (t:ByteArray),(∀ v∈vs,f v≠none)->zbg f vs k t≠none
 |[],k,t,h=>by simp[zbg]
 |v::vs,k,t,h=>by
  rw[zbg];have h1:=h v (by simp);cases hv:f v with
  |none=>exact absurd hv h1
  |some x=>exact zrb vs _ _ (fun v hv=>h v (by simp[hv]))
theorem zq8 {f:Nat×Ty×ByteArray->Option ByteArray}:∀ (gs:List (Nat×Ty×ByteArray)) (mk t:ByteArray),(∀ g∈gs,f g≠none)->zbj f gs mk t≠none
 |[],mk,t,h=>by simp[zbj]
 |g::gs,mk,t,h=>by
  rw[zbj];have h1:=h g (by simp);cases hv:f g with
  |none=>exact absurd hv h1
  |some x=>exact zq8 gs _ _ (fun g hg=>h g (by simp[hg]))
theorem zly {f:Ty->Ty->Option Val}{n:Nat}{wf:List (Nat×Ty×ByteArray)}:∀ (gs:List (Nat×Ty×ByteArray)),unF f n wf gs=none->∀ g∈gs,(wf.findIdx? (fun h=>h.1 == g.1)=none/\g.2.2.size≠0)\/∃ p q,wf.findIdx? (fun h=>h.1 == g.1)=some p/\wf[p]?=some q/\f q.2.1 g.2.1=none
 |[],h,g,hg=>absurd hg xf
 |k::gs,h,g,hg=>by
  rw[unF]at h;split at h
  ·rename_i hfi;split at h
   ·cases h
   ·rename_i hz;rcases xj.1 hg with rfl|hg
    ·exact .inl ⟨hfi,hz⟩
    ·exact zly gs h g hg
  ·rename_i p hfi;have hpl:p<wf.length:=by rw[List.findIdx?_eq_some_iff_getElem]at hfi;exact hfi.1
   obtain⟨q,hq⟩:∃ q,wf[p]?=some q:=⟨wf[p],List.getElem?_eq_getElem hpl⟩;rw[zkk hq]at h;split at h
   ·rename_i hn;rcases xj.1 hg with rfl|hg
    ·exact .inr ⟨p,q,hfi,hq,hn⟩
    ·exact zly gs h g hg
   ·cases h
theorem zg8:∀ (m k n q:Nat) (x r:Ty) (v:Val),n+q<=m->n+q<=k->tyL n x->tyL q r->unV m n x r=none->okV n x v->rdT k x r v≠none
 |m,k,0,q,x,r,v,h1,h2,hx,hr,h,hv=>hx.elim
 |m,k,n+1,0,x,r,v,h1,h2,hx,hr,h,hv=>hr.elim
 |0,k,n+1,q+1,x,r,v,h1,h2,hx,hr,h,hv=>by omega
 |m+1,0,n+1,q+1,x,r,v,h1,h2,hx,hr,h,hv=>by omega
 |m+1,1,n+1,q+1,x,r,v,h1,h2,hx,hr,h,hv=>by omega
 |m+1,k+2,n+1,q+1,x,r,v,h1,h2,hx,hr,h,hv=>by
  change zda (unV m n) (unV m (n+1)) n x r=none at h;unfold zda at h;show zbc (rdT (k+1)) x r v≠none;unfold zbc;split at h
  ·rename_i hc;rw[xh]at h;rw[if_pos hc.1];rcases hv with⟨y,rfl,hv⟩|⟨s,rfl,hv⟩|⟨i,rfl,hv⟩|⟨vs,rfl,hv⟩|⟨rfl,hv⟩|⟨u,rfl,hv⟩|⟨vs,rfl,hv⟩
   iterate 4
    ·omega
   ·show (if r.kind=63 then some (⟨#[95]⟩:ByteArray) else none)≠none;rw[if_pos hc.2];simp
   ·show zbc (rdT k) x.in r u≠none;unfold zbc;rw[if_neg (hx.2.2.2.1 hc.1),if_pos hc.2];exact zg8 m k n q x.in r.in u (by omega) (by omega) (hx.2.2.1 (.inr hc.1)) (hr.2.2.1 (.inr hc.2)) h hv.2
   ·omega
  ·rename_i hc;split at h
   ·rename_i hr63;rw[if_neg (fun h=>hc ⟨h,hr63⟩),if_pos hr63];exact zg8 m (k+1) (n+1) q x r.in v (by omega) (by omega) hx (hr.2.2.1 (.inr hr63)) h hv
   ·rename_i hr63;split at h
    ·rename_i hs;have hx63:x.kind≠63:=by simp[zax]at hs;omega
     rw[if_neg hx63,if_neg hr63,if_pos hs];simp
    ·rename_i hs;split at h
     ·cases h
     ·rename_i hkk;have hkk':x.kind=r.kind:=by simpa using hkk
      have hx63:x.kind≠63:=by omega
      rw[if_neg hx63,if_neg hr63,if_neg hs,if_neg hkk];rcases hv with⟨y,rfl,hv⟩|⟨s,rfl,hv⟩|⟨i,rfl,hv⟩|⟨vs,rfl,hv⟩|⟨rfl,hv⟩|⟨u,rfl,hv⟩|⟨vs,rfl,hv⟩
      ·exfalso;apply hs;rw[<- hkk'];rcases hv with h|h<;>simp[zax,h.1]
      ·exfalso;apply hs;rw[<- hkk'];simp[zax,hv.1]
      ·rw[if_pos hv.1,xh]at h;show zc0 x.letters r.letters r.op i≠none;unfold zc0;have:=zsr _ _ i h (xz _) (by omega);split
       ·rename_i hp;rw[if_pos (by rcases this with h|h;exact h;omega)];simp
       ·simp
      ·rw[if_neg (by omega),if_pos hv.1,xh]at h;show zbg (rdT (k+1) x.in r.in) vs 0 ⟨#[91]⟩≠none;exact zrb vs _ _ (fun u hu=>zg8 m (k+1) n q x.in r.in u (by omega) (by omega) (hx.2.2.1 (.inl hv.1)) (hr.2.2.1 (.inl (by omega))) h (hv.2.2 u hu))
      iterate 2
       ·omega
      ·rw[if_neg (by omega),if_neg (by omega),if_pos hv.1]at h;show zbj (zbi (rdT (k+1)) (x.fields.zip vs)) r.fields ⟨#[123]⟩ xo≠none;have hxf:=hx.2.2.2.2 hv.1;have hrf:=hr.2.2.2.2 (by omega);refine zq8 r.fields _ _ (fun g hg=>?_);unfold zbi;have hz:=zs3 g.1 x.fields vs hv.2.2.1;rcases zly r.fields h g hg with⟨e1,e2⟩|⟨p,f,e1,e2,e3⟩
       ·rw[hz.1 e1];simp only;rw[if_neg e2];simp
       ·obtain⟨f',w,g1,g2,g3⟩:=hz.2 p e1;rw[e2]at g1;cases g1;rw[g3];simp only;exact zg8 m (k+1) n q f.2.1 g.2.1 w (by omega) (by omega) (hxf.2 f (xv e2)) (hrf.2 g hg) e3 (hv.2.2.2 (f,w) (by
         refine xv (i:=p) ?_;rw[List.getElem?_zip_eq_some];exact⟨e2,g2⟩))
def tyF:Nat->Ty->Prop
 |0,_=>True
 |n+1,ty=>(ty.kind=60->ty.letters.size<=8)/\(ty.kind=91\/ty.kind=63->tyF n ty.in)/\(ty.kind=123->ty.fields≠[])/\∀ f∈ty.fields,tyF n f.2.1
theorem znh (t:ByteArray)(a:Nat):∀ m,(∀ i,i<m->isD (bAt t (a+i))=true)->0<=dVal t a m
 |0,h=>Int.le_refl _
 |m+1,h=>by
  have h1:=znh t a m (fun i hi=>h i (by omega));have h2:=zkn (h m (by omega));rw[dVal];omega
theorem zpy {t:ByteArray}{a e:Nat}{n:Int}(h:pDig t a=some (n,e)):0<=n/\a<e/\e<=t.size/\decS 18 n.toNat=t.extract a e:=by
 obtain⟨h1,h2,h3,h4,h5,h6,h7⟩:=zzf h;have hd:∀ i,i<e-a->isD (bAt t (a+i))=true:=fun i hi=>h3 (a+i) (by omega) (by omega);refine⟨by rw[h7];exact znh t a _ hd,h1,h2,?_⟩;have:=zns t a (e-a-1) 18 (fun j hj=>zkn (hd j (by omega))) (fun hm=>by have:=zkn (hd 0 (by omega));rw[xp]at this;have:=h6 (by omega);omega) (by omega) (by omega);rw[show e-a-1+1=e-a by omega,<- h7,show a+(e-a-1)+1=e by omega]at this;exact this
theorem zof {st:Bool}{lo hi:Int}{t d:ByteArray}{j e:Nat}(h:zbf st lo hi t j=some (d,e)):∃ x,lo<=x/\x<=hi/\At t j (decI x)/\e=j+(decI x).size/\d=zcp x:=by
 unfold zbf at h;split at h
 ·cases h
 ·rename_i n e' hn;split at h
  ·cases h
  ·rename_i hr;split at h
   ·cases h
   ·cases h;refine⟨n,by omega,by omega,?_⟩;unfold pNum at hn;split at hn
    ·rename_i h45;split at hn
     ·cases hn
     ·rename_i n0 e0 hp;split at hn
      ·cases hn
      ·rename_i hn0;cases hn;obtain⟨p1,p2,p3,p4⟩:=zpy hp;have hdI:decI (-n0)=⟨#[45]⟩++t.extract (j+1) e:=by unfold decI;rw[if_pos (by omega),<- p4];congr 2;omega
       have hs:=size_extract t (j+1) e (by omega) p3;have e1:(⟨#[45]⟩:ByteArray).size=1:=rfl;have hjt:j<t.size:=zaw (by omega);rw[hdI];refine⟨At.app.2 ⟨⟨by rw[e1];omega,fun i hi=>?_⟩,by rw[e1];exact At.of (by omega) p3⟩,by rw[xe,hs,e1];omega,rfl⟩;rw[e1]at hi;obtain rfl:i=0:=by omega
       rw[xp,h45];rfl
    ·obtain⟨p1,p2,p3,p4⟩:=zpy hn;have hdI:decI n=t.extract j e:=by unfold decI;rw[if_neg (by omega),p4]
     rw[hdI];exact⟨At.of (by omega) p3,by rw[size_extract t j e (by omega) p3];omega,rfl⟩
theorem zmr {s:ByteArray}:∀ (m k:Nat),(∀ i,i<m->inS (bAt s (k+i))=true)->allS s m k=true
 |0,k,h=>rfl
 |m+1,k,h=>by
  rw[allS,Bool.and_eq_true];exact⟨by have:=h 0 (by omega);rw[xp]at this;exact this,zmr m (k+1) (fun i hi=>by have:=h (i+1) (by omega);rw[show k+(i+1)=k+1+i by omega]at this;exact this)⟩
theorem zwg {t d:ByteArray}{j e:Nat}(h:zb2 t j=some (d,e)):∃ s:ByteArray,s.size<=60/\allS s s.size 0=true/\At t j (quo++s++quo)/\e=j+(quo++s++quo).size/\d=oneB s.size++s:=by
 unfold zb2 at h;split at h
 ·rename_i h34;simp only at h;have hrl:=zdt inS t (t.size-(j+1)) (j+1);have hra:=zfm inS t (t.size-(j+1)) (j+1);generalize zaz inS t (t.size-(j+1)) (j+1)=E at h hrl hra;split at h
  ·rename_i hc;cases h;have hE:E<t.size:=zaw (by omega);have hjt:j<t.size:=zaw (by omega);have hs:=size_extract t (j+1) E (by omega) (by omega);refine⟨t.extract (j+1) E,by omega,zmr _ _ (fun i hi=>?_),?_,?_,by rw[hs]⟩
   ·rw[Nat.zero_add,zct t (j+1) E i (by omega) (by omega)];exact hra _ (by omega) (by omega)
   ·rw[At.app,At.app,xe,zcf,hs];refine⟨⟨⟨by rw[zcf];omega,fun i hi=>?_⟩,At.of (by omega) (by omega)⟩,⟨by rw[zcf];omega,fun i hi=>?_⟩⟩
    ·rw[zcf]at hi;obtain rfl:i=0:=by omega
     rw[xp,h34];rfl
    ·rw[zcf]at hi;obtain rfl:i=0:=by omega
     rw[show j+(1+(E-(j+1)))+0=E by omega,hc.1];rfl
   ·rw[xe,xe,zcf,hs];omega
  ·cases h
 ·cases h
theorem zk3 {l:ByteArray}{c:Int}:∀ (m k:Nat),0<=za6 l c m k->∃ i:Nat,za6 l c m k=i/\k<=i/\i<k+m/\bAt l i=c
 |0,k,h=>by simp[za6]at h
 |m+1,k,h=>by
  rw[za6]at h ⊢;split at h
  ·rename_i hb;rw[if_pos hb];exact⟨k,rfl,Nat.le_refl _,by omega,hb⟩
  ·rename_i hb;rw[if_neg hb];obtain⟨i,h1,h2,h3,h4⟩:=zk3 m (k+1) h;exact⟨i,h1,by omega,by omega,h4⟩
theorem At.one' {t:ByteArray}{j:Nat}(c:UInt8)(h:bAt t j=(c.toNat:Int)):At t j ⟨#[c]⟩:=by
 have hj:j<t.size:=zaw (by omega);refine⟨by rw[sz1];omega,fun i hi=>?_⟩;rw[sz1]at hi;obtain rfl:i=0:=by omega
 rw[xp,h];rfl
theorem zob {t:ByteArray}{f:Nat->Option (ByteArray×Nat)}{tv:Val->ByteArray}{ok:Val->Prop}(hf:∀ j d k,f j=some (d,k)->∃ v,ok v/\At t j (tv v)/\k=j+(tv v).size) :
  ∀ (m c b:Nat) (d d':ByteArray) (k:Nat),zbh f t m c b d=some (d',k)->∃ (v:Val) (us:List Val),us.length<m/\ok v/\(∀ u∈us,ok u)/\At t (b+1) (tv v++sepT (us.map tv))/\k=b+1+(tv v++sepT (us.map tv)).size
 |0,c,b,d,d',k,h=>by simp[zbh]at h
 |m+1,c,b,d,d',k,h=>by
  rw[zbh]at h;split at h
  ·cases h
  ·rename_i x k' hx;obtain⟨v,hv1,hv2,hv3⟩:=hf _ _ _ hx;split at h
   ·rename_i h93;cases h;refine⟨v,[],by simp,hv1,fun u hu=>absurd hu xf,?_,?_⟩
    ·rw[At.app];refine⟨hv2,?_⟩;rw[<- hv3];exact At.one' 93 h93
    ·rw[xe,<- Nat.add_assoc,<- hv3];rfl
   ·split at h
    ·rename_i h44;obtain⟨w,us,h1,h2,h3,h4,h5⟩:=zob hf m _ _ _ _ _ h;refine⟨v,w::us,by simp;omega,hv1,fun u hu=>by rcases xj.1 hu with rfl|hu;exact h2;exact h3 u hu,?_,?_⟩
     ·rw[At.app,<- hv3,xm,sepT,At.app,sz1];exact⟨hv2,At.one' 44 h44,h4⟩
     ·rw[xm,sepT,xe,xe,sz1];omega
    ·cases h
theorem zn7 {t:ByteArray}{f:Ty->Nat->Option (ByteArray×Nat)}{tv:Ty->Val->ByteArray}{ok:Ty->Val->Prop} :
  ∀ (fs:List (Nat×Ty×ByteArray)) (mk:UInt8) (b:Nat) (d d':ByteArray) (k:Nat),(∀ g∈fs,∀ j d k,f g.2.1 j=some (d,k)->∃ v,ok g.2.1 v/\At t j (tv g.2.1 v)/\k=j+(tv g.2.1 v).size)->(∀ g∈fs,g.1<256)->za0 f t fs (mk.toNat:Int) b d=some (d',k)->∃ vs:List Val,vs.length=fs.length/\(∀ p∈fs.zip vs,ok p.1.2.1 p.2)/\At t b (recT ((fs.zip vs).map fun p=>(p.1.1,tv p.1.2.1 p.2)) ⟨#[mk]⟩)/\k=b+(recT ((fs.zip vs).map fun p=>(p.1.1,tv p.1.2.1 p.2)) ⟨#[mk]⟩).size
 |[],mk,b,d,d',k,hf,hg,h=>by
  rw[za0]at h;split at h
  ·rename_i h125;cases h;exact⟨[],rfl,fun p hp=>absurd hp (by simp),At.one' 125 h125,rfl⟩
  ·cases h
 |g::fs,mk,b,d,d',k,hf,hg,h=>by
  rw[za0]at h;split at h
  ·rename_i hc;split at h
   ·cases h
   ·rename_i x k' hx;obtain⟨v,hv1,hv2,hv3⟩:=hf g (by simp) _ _ _ hx;obtain⟨vs,h1,h2,h3,h4⟩:=zn7 (ok:=ok) fs 44 _ _ _ _ (fun g' hg'=>hf g' (by simp[hg'])) (fun g' hg'=>hg g' (by simp[hg'])) h;have h256:=hg g (by simp);refine⟨v::vs,by simp[h1],fun p hp=>?_,?_,?_⟩
    ·rw[xg]at hp;rcases xj.1 hp with rfl|hp
     ·exact hv1
     ·exact h2 p hp
    ·simp only[xg,xm,recT];rw[At.app,At.app,At.app,At.app,At.one h256];simp only[xe,sz1,zak];refine⟨⟨At.one' mk hc.1,hc.2.1,?_,?_⟩,?_⟩
     ·rw[show b+1+1=b+2 by omega];exact At.one' 58 hc.2.2
     ·rw[show b+1+1+1=b+3 by omega];exact hv2
     ·rw[show b+(1+(1+(1+(tv g.2.1 v).size)))=k' by omega];exact h3
    ·simp only[xg,xm,recT,xe,sz1,zak];omega
  ·cases h
theorem zkb {st:Bool}{t:ByteArray}:∀ (n:Nat) (ty:Ty) (j:Nat) (d:ByteArray) (k:Nat),tyG n ty->tyF n ty->enc st t n ty j=some (d,k)->∃ v,okV n ty v/\At t j (txtV n ty v)/\k=j+(txtV n ty v).size
 |0,ty,j,d,k,_,_,h=>by simp[enc]at h
 |n+1,ty,j,d,k,hg,hF,h=>by
  have ih:=zkb (st:=st) (t:=t) n;rw[enc]at h;split at h
  ·rename_i hk;obtain⟨x,h1,h2,h3,h4,_⟩:=zof h;exact⟨.num x,ze0 (.inl ⟨hk,h1,h2⟩),h3,h4⟩
  ·split at h
   ·rename_i hk;obtain⟨x,h1,h2,h3,h4,_⟩:=zof h;exact⟨.num x,ze0 (.inr ⟨hk,h1,h2⟩),h3,h4⟩
   ·split at h
    ·rename_i hk;obtain⟨s,h1,h2,h3,h4,_⟩:=zwg h;exact⟨.str s,zkx ⟨hk,h1,h2⟩,h3,h4⟩
    ·split at h
     ·rename_i hk;split at h
      ·cases h
      ·rename_i hp;cases h;obtain⟨i,h1,h2,h3,h4⟩:=zk3 (l:=ty.letters) (c:=bAt t j) ty.letters.size 0 (by unfold pOf at hp;omega);have hl:=(hF.1 hk);have hj:j<t.size:=by
        have:=(hg.1 hk i (by omega)).1;rw[h4]at this;have:=zgk this;exact zaw (by omega)
       have hhi:=zeq t j;have hL:=zgk ((hg.1 hk i (by omega)).1);refine⟨.cho i,zkv ⟨hk,by omega,by omega⟩,?_,?_⟩
       ·rw[zdy,At.one (by omega)];omega
       ·rw[zdy,zak]
     ·split at h
      ·rename_i hk;unfold zb1 at h;split at h
       ·rename_i h91;split at h
        ·rename_i h93;cases h;refine⟨.lst [],zkw ⟨hk,xz _,fun v hv=>absurd hv xf⟩,?_,?_⟩
         ·rw[zeb];show At t j (⟨#[91]⟩++⟨#[93]⟩);rw[At.app,sz1];exact⟨At.one' 91 h91,At.one' 93 h93⟩
         ·rw[zeb];rfl
        ·obtain⟨v,us,h1,h2,h3,h4,h5⟩:=zob (tv:=txtV n ty.in) (ok:=okV n ty.in) (fun j d k h=>ih ty.in j d k (hg.2.2.1 (.inl hk)) (hF.2.1 (.inl hk)) h) _ _ _ _ _ _ h;have hT:txtV (n+1) ty (.lst (v::us))=⟨#[91]⟩++(txtV n ty.in v++sepT (us.map (txtV n ty.in))):=by
          rw[zeb];simp only[xm,zcc,zh6,Nat.lt_irrefl,if_false,qg]
         refine⟨.lst (v::us),zkw ⟨hk,by simp;omega,fun u hu=>by rcases xj.1 hu with rfl|hu;exact h2;exact h3 u hu⟩,?_,?_⟩
         ·rw[hT,At.app,sz1];exact⟨At.one' 91 h91,h4⟩
         ·rw[hT,xe,sz1];omega
       ·cases h
      ·split at h
       ·rename_i hk;unfold zbq at h;split at h
        ·rename_i h95;cases h;refine⟨.non,zps hk,?_,?_⟩
         ·rw[zfr];exact At.one' 95 h95
         ·rw[zfr];rfl
        ·split at h
         ·cases h
         ·rename_i d0 k0 h0;cases h;obtain⟨v,h1,h2,h3⟩:=ih ty.in j d0 k (hg.2.2.1 (.inr hk)) (hF.2.1 (.inr hk)) h0;exact⟨.som v,zpt ⟨hk,h1⟩,by rw[ze9];exact h2,by rw[ze9];exact h3⟩
       ·split at h
        ·rename_i hk;obtain⟨vs,h1,h2,h3,h4⟩:=zn7 (tv:=txtV n) (ok:=fun t v=>okV n t v) ty.fields 123 j xo d k (fun f hf j d k h=>ih f.2.1 j d k (hg.2.2.2 f hf).2 (hF.2.2.2 f hf) h) (fun g hg'=>(hg.2.2.2 g hg').1) h;refine⟨.rcd vs,zgr ⟨hk,hF.2.2.1 hk,h1,h2⟩,?_,?_⟩
         ·rw[zdh,zgh,xq];exact h3
         ·rw[zdh,zgh,xq];exact h4
        ·cases h
end Go.Proofs.YtkkekopomiehlabGreatDoor
