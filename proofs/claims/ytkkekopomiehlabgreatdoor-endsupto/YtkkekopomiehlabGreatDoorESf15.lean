import Derived.Test.YtkkekopomiehlabGreatDoorESf13
set_option linter.unusedVariables false
set_option linter.unusedSimpArgs false
set_option maxHeartbeats 40000000
open List renaming setIfInBounds_toArray->xe,getElem_cons_zero->xf,getElem_cons_succ->xg,getElem_toArray->xh,set_cons_zero->xj,set_cons_succ->xm,getElem?_eq_getElem->xo,getElem?_eq_none->xp,length_set->xq,range->xu,getElem?_map->xy,set_append_left->xz,replicate->qd,getElem?_range->qe,ext_getElem?->qh,getElem?_replicate->qi,map_congr_left->qk,size_toArray->qm,getElem?_set->qn,getD->qq
open Go.Act renaming put->xv
open Or renaming inl->qf
open Go.World renaming rangeAt_setCells_same->qg
open Nat renaming zero_le->qj,le_refl->qo,add_assoc->qp
open Option.some renaming inj->qu
open Go.AllReadyH renaming cons->qv,nil->qx
open Go.RowKit
namespace Go.Proofs.YtkkekopomiehlabGreatDoor
section
set_option maxRecDepth 16000
open Go.Lib (below_setCells)
def chTo (P:Nat->Bool)(n k:Nat):List Bool:=(xu n).map fun p=>decide (p<k)&&P p
theorem zc4 (P:Nat->Bool)(n k:Nat):(chTo P n k).length=n:=by simp[chTo]
theorem zjw (P:Nat->Bool)(n k:Nat){p:Nat}(h:p<n):(chTo P n k)[p]?=some (decide (p<k)&&P p):=by rw[chTo,xy,qe h];rfl
theorem zf8 (P:Nat->Bool)(n:Nat):chTo P n 0=qd n false:=by
 apply qh;intro k;by_cases hk:k<n
 ·rw[zjw P n 0 hk,qi,if_pos hk];simp
 ·rw[xp (by rw[zc4];omega),xp (by simp;omega)]
theorem zf7 (P:Nat->Bool){n k:Nat}(hk:k<n):chTo P n (k+1)=(chTo P n k).set k (P k):=by
 apply qh;intro q;by_cases hq:q<n
 ·rw[zjw P n (k+1) hq,qn];by_cases hkq:k=q
  ·subst hkq;rw[if_pos rfl,if_pos (by rw[zc4];exact hk)];simp
  ·rw[if_neg hkq,zjw P n k hq];by_cases h:q<k
   ·simp[h,show q<k+1 by omega]
   ·simp[h,show ¬ q<k+1 by omega]
 ·rw[xp (by rw[zc4];omega),xp (by rw[xq,zc4];omega)]
theorem zjx (P:Nat->Bool){n k k':Nat}(hk:k<=k')(h:∀ p,k<=p->p<k'->P p=false):chTo P n k=chTo P n k':=by
 unfold chTo;refine qk fun p hp=>?_;by_cases h1:p<k
 ·simp[h1,show p<k' by omega]
 ·by_cases h2:p<k'
  ·rw[h p (by omega) h2];simp
  ·simp[h1,h2]
theorem zf6 (P:Nat->Bool)(n k:Nat)(h:∀ p,k<=p->p<n->P p=false):chTo P n k=(xu n).map P:=by
 unfold chTo;refine qk fun p hp=>?_;have:=List.mem_range.1 hp;by_cases h1:p<k
 ·simp[h1]
 ·rw[h p (by omega) this];simp
def chB (f:zac)(A F:Nat->Bool)(k q:Nat):List Bool:=chTo (thB f) 9 k++(chTo (fsB f) 9 k++(chTo (wnB f) 9 k++(chTo A 81 q++chTo F 81 q)))
theorem zf5 (f:zac)(A F:Nat->Bool)(k q:Nat):(chB f A F k q).length=189:=by simp[chB,zc4]
theorem zvd (f:zac)(A F:Nat->Bool):chB f A F 0 0=qd 189 false:=by
 unfold chB;rw[zf8,zf8,zf8,zf8,zf8];rfl
theorem zdu {a b:List Bool}{n i:Nat}(h:a.length=n)(x:Bool):(a++b).set (n+i) x=a++b.set i x:=by
 rw[List.set_append_right _ _ (by omega),h,show n+i-n=i by omega]
theorem set3 {a b c d:List Bool}{k:Nat}(ha:a.length=9)(hb:b.length=9)(hc:c.length=9)(hk:k<9)(x y z:Bool):(((a++(b++(c++d))).set k x).set (9+k) y).set (18+k) z=a.set k x++(b.set k y++(c.set k z++d)):=by
 have e1:(a++(b++(c++d))).set k x=a.set k x++(b++(c++d)):=xz _ _ (by omega);have e2:(a.set k x++(b++(c++d))).set (9+k) y=a.set k x++(b.set k y++(c++d)):=by rw[zdu (by rw[xq];exact ha),xz _ _ (by omega)]
 have e3:(a.set k x++(b.set k y++(c++d))).set (18+k) z=a.set k x++(b.set k y++(c.set k z++d)):=by
  rw[show 18+k=9+(9+k) by omega,zdu (by rw[xq];exact ha),zdu (by rw[xq];exact hb),xz _ _ (by omega)]
 rw[e1,e2,e3]
theorem set2 {a b c d e:List Bool}{q:Nat}(ha:a.length=9)(hb:b.length=9)(hc:c.length=9)(hd:d.length=81)(hq:q<81)(x y:Bool):((a++(b++(c++(d++e)))).set (27+q) x).set (108+q) y=a++(b++(c++(d.set q x++e.set q y))):=by
 have e1:(a++(b++(c++(d++e)))).set (27+q) x=a++(b++(c++(d.set q x++e))):=by
  rw[show 27+q=9+(9+(9+q)) by omega,zdu ha,zdu hb,zdu hc,xz _ _ (by omega)]
 have e2:(a++(b++(c++(d.set q x++e)))).set (108+q) y=a++(b++(c++(d.set q x++e.set q y))):=by
  rw[show 108+q=9+(9+(9+(81+q))) by omega,zdu ha,zdu hb,zdu hc,zdu (by rw[xq];exact hd)]
 rw[e1,e2]
theorem zvc (f:zac)(A F:Nat->Bool){k:Nat}(hk:k<9):chB f A F (k+1) 0=(((chB f A F k 0).set k (thB f k)).set (9+k) (fsB f k)).set (18+k) (wnB f k):=by
 unfold chB;rw[set3 (zc4 _ _ _) (zc4 _ _ _) (zc4 _ _ _) hk,zf7 _ hk,zf7 _ hk,zf7 _ hk]
theorem zvb (f:zac)(A F:Nat->Bool){k q:Nat}(hq:q<81):chB f A F k (q+1)=((chB f A F k q).set (27+q) (A q)).set (108+q) (F q):=by
 unfold chB;rw[set2 (zc4 _ _ _) (zc4 _ _ _) (zc4 _ _ _) (zc4 _ _ _) hq,zf7 _ hq,zf7 _ hq]
theorem zm6 (f:zac)(A F:Nat->Bool){k k':Nat}(hk:k<=k')(h:∀ p,k<=p->p<k'->thB f p=false):chB f A F k 0=chB f A F k' 0:=by
 have h1:∀ p,k<=p->p<k'->fsB f p=false:=fun p a b=>by
  have:=h p a b;unfold thB at this;unfold fsB;cases hv:f.vs[p / 3]? with
  |none=>rfl
  |some v=>rw[hv]at this;simp only at this ⊢;rw[this];rfl
 have h2:∀ p,k<=p->p<k'->wnB f p=false:=fun p a b=>by
  have:=h p a b;unfold thB at this;unfold wnB;cases hv:f.vs[p / 3]? with
  |none=>rfl
  |some v=>rw[hv]at this;simp only at this ⊢;rw[this];rfl
 unfold chB;rw[zjx _ hk h,zjx _ hk h1,zjx _ hk h2]
def PvAt (w:World)(f:zac)(k:Nat)(pv:List Value):Prop:=pv.length=9/\∀ p v,pv[p]?=some v->∃ pa pl pc,v=.slice pa pl pc/\PinSl w pa pl pc (if p<k then plOf f p else [])
theorem PvAt.zero (w:World)(f:zac):PvAt w f 0 (qd 9 (.slice none 0 0)):=by
 refine⟨by simp,fun p v h=>?_⟩;rw[qi]at h;split at h
 ·cases h;exact⟨none,0,0,rfl,by rw[if_neg (by omega)];exact⟨rfl,qj _,qo _,qj _,fun i p hi=>by simp at hi⟩⟩
 ·cases h
theorem PvAt.step {w:World}{f:zac}{k:Nat}{pv:List Value}(h:PvAt w f k pv){pa:Option Addr}{pl pc:Nat}(hp:PinSl w pa pl pc (plOf f k)):PvAt w f (k+1) (pv.set k (.slice pa pl pc)):=by
 refine⟨by simp[h.1],fun p v hv=>?_⟩;rw[qn]at hv;by_cases hk:k=p
 ·subst hk;rw[if_pos rfl]at hv;split at hv
  ·cases hv;exact⟨pa,pl,pc,rfl,by rw[if_pos (by omega)];exact hp⟩
  ·cases hv
 ·rw[if_neg hk]at hv;obtain⟨a,b,c,h1,h2⟩:=h.2 p v hv;refine⟨a,b,c,h1,?_⟩;by_cases hl:p<k
  ·rw[if_pos hl]at h2;rw[if_pos (by omega)];exact h2
  ·rw[if_neg hl]at h2;rw[if_neg (by omega)];exact h2
theorem PvAt.skip {w:World}{f:zac}{k k':Nat}{pv:List Value}(h:PvAt w f k pv)(hk:k<=k')(hn:∀ p,k<=p->p<k'->plOf f p=[]):PvAt w f k' pv:=by
 refine⟨h.1,fun p v hv=>?_⟩;obtain⟨a,b,c,h1,h2⟩:=h.2 p v hv;refine⟨a,b,c,h1,?_⟩;by_cases hl:p<k
 ·rw[if_pos hl]at h2;rw[if_pos (by omega)];exact h2
 ·rw[if_neg hl]at h2;by_cases hl2:p<k'
  ·rw[if_pos hl2,hn p (by omega) hl2];exact h2
  ·rw[if_neg hl2];exact h2
theorem zqr {f:zac}{s p:Nat}{v:SvcD}(hv:f.vs[s]?=some v)(h1:s*3+v.rels.length<=p)(h2:p<(s+1)*3):thB f p=false/\plOf f p=[]:=by
 have e:p / 3=s:=by omega
 unfold thB plOf;rw[e,hv];refine⟨by simp;omega,?_⟩;simp only;rw[qq,xp (by omega)];rfl
theorem zqs {f:zac}{p:Nat}(h:f.vs.length*3<=p):thB f p=false/\plOf f p=[]:=by
 unfold thB plOf;rw[xp (by omega)];exact⟨rfl,rfl⟩
theorem yaaj {f:zac}{s r:Nat}{v:SvcD}{ps:List PinD}(hv:f.vs[s]?=some v)(hr:v.rels[r]?=some ps)(h3:r<3):plOf f (s*3+r)=ps/\thB f (s*3+r)=true/\fsB f (s*3+r)=((r:Int) == v.now)/\wnB f (s*3+r)=((r:Int) == v.want):=by
 have e1:(s*3+r) / 3=s:=by omega
 have e2:(s*3+r) % 3=r:=by omega
 have hl:=(List.getElem?_eq_some_iff.1 hr).1;unfold plOf thB fsB wnB;rw[e1,e2,hv];have hg:v.rels[r]=ps:=by rw[xo hl]at hr;exact qu hr
 simp[qq,hl,hg]
theorem Tryz.zeroCht:Tryz.zeroCells114=((qd 189 false).map Value.bool).toArray:=by kernel_rfl
structure Ck (w:World)(fv:List Value)(wr:World)(bs:List Bool)(pv:List Value):Prop where
 F:RowIs wr w.heap.size 26 fv
 R:RowIs wr (w.heap.size+1) 114 ((qd 189 false).map .bool)
 C:RowIs wr (w.heap.size+1+1) 114 (bs.map .bool)
 P:RowIs wr (w.heap.size+1+1+1) 168 pv
 bl:Below w.heap.size w wr
theorem Ck.keep {w:World}{fv:List Value}{wr wr':World}{bs:List Bool}{pv:List Value}(h:Ck w fv wr bs pv)(hb:Below wr.heap.size wr wr'):Ck w fv wr' bs pv :=
 ⟨h.F.keep hb,h.R.keep hb,h.C.keep hb,h.P.keep hb,h.bl.trans (hb.mono h.bl.size)⟩
theorem Ck.setC {w:World}{fv:List Value}{wr:World}{bs:List Bool}{pv:List Value}(h:Ck w fv wr bs pv)(i:Nat)(x:Bool):Ck w fv (wr.setCell ⟨w.heap.size+1+1,i,none⟩ (.bool x)) (bs.set i x) pv:=by
 refine⟨h.F.setOther (by show w.heap.size+1+1≠w.heap.size;omega) _,h.R.setOther (by show w.heap.size+1+1≠w.heap.size+1;omega) _,?_,h.P.setOther (by show w.heap.size+1+1≠w.heap.size+1+1+1;omega) _,h.bl.setCell (by show w.heap.size<=w.heap.size+1+1;omega) _⟩;rw[List.map_set];exact h.C.set i (.bool x)
theorem Ck.setP {w:World}{fv:List Value}{wr:World}{bs:List Bool}{pv:List Value}(h:Ck w fv wr bs pv)(i:Nat)(v:Value):Ck w fv (wr.setCell ⟨w.heap.size+1+1+1,i,none⟩ v) bs (pv.set i v) :=
 ⟨h.F.setOther (by show w.heap.size+1+1+1≠w.heap.size;omega) _,h.R.setOther (by show w.heap.size+1+1+1≠w.heap.size+1;omega) _,h.C.setOther (by show w.heap.size+1+1+1≠w.heap.size+1+1;omega) _,h.P.set i v,h.bl.setCell (by show w.heap.size<=w.heap.size+1+1+1;omega) _⟩
theorem Ck.drew {w:World}{fv:List Value}{wr:World}{bs:List Bool}{pv:List Value}(h:Ck w fv wr bs pv):Ck w fv wr.drew bs pv:=⟨h.F,h.R,h.C,h.P,h.bl.drew⟩
theorem zq5 {w:World}{b o:Nat}{cs:List Value}(h:w.rangeAt b o cs){p:Addr}(hp:p.block≠b)(u:Value):(w.setCell p u).rangeAt b o cs:=fun j v hj=>by
 rw[World.cell?_setCell_far _ _ _ _ (by exact hp)];exact h j v hj
theorem zou (H:Nat->Nat->Bool):((xu 9).map fun a=>(xu 9).map (H a)).flatten=(xu 81).map fun q=>H (q / 9) (q % 9):=by
 have hr:∀ r∈((xu 9).map fun a=>(xu 9).map (H a)),r.length=9:=fun r hr=>by
  obtain⟨i,_,rfl⟩:=List.mem_map.1 hr;simp
 apply qh;intro k;by_cases hk:k<81
 ·have h1:((xu 9).map fun a=>(xu 9).map (H a))[k / 9]?=some ((xu 9).map (H (k / 9))):=by rw[xy,qe (by omega)];rfl
  have h2:=zh1 _ (k / 9) (k % 9) _ hr h1 (by omega);rw[show k / 9*9+k % 9=k by omega]at h2;rw[h2,xy,xy,qe (by omega),qe hk];rfl
 ·rw[xp (by rw[zff _ hr];simp;omega),xp (by simp;omega)]
theorem zva (f:zac):chB f (fun q=>cmpA (za9 f.ss) (plOf f (q / 9)) (plOf f (q % 9))) (fun q=>cmpF (za9 f.ss) f.ts (plOf f (q / 9)) (plOf f (q % 9))) 9 81=(zai f).bits:=by
 unfold chB ChD.bits zai;rw[zf6 _ 9 9 (fun p a b=>by omega),zf6 _ 9 9 (fun p a b=>by omega),zf6 _ 9 9 (fun p a b=>by omega),zf6 _ 81 81 (fun p a b=>by omega),zf6 _ 81 81 (fun p a b=>by omega)];simp only;rw[zou (fun a b=>cmpA (za9 f.ss) (plOf f a) (plOf f b)),zou (fun a b=>cmpF (za9 f.ss) f.ts (plOf f a) (plOf f b))]
theorem Ck.cellC {w:World}{fv:List Value}{wr:World}{bs:List Bool}{pv:List Value}(h:Ck w fv wr bs pv){i:Nat}(hi:i<bs.length):∃ u,wr.cell? ⟨w.heap.size+1+1,i,none⟩=some u:=⟨_,h.C.cell (by rw[xy,xo hi];rfl)⟩
theorem Ck.cellP {w:World}{fv:List Value}{wr:World}{bs:List Bool}{pv:List Value}(h:Ck w fv wr bs pv){i:Nat}(hi:i<pv.length):∃ u,wr.cell? ⟨w.heap.size+1+1+1,i,none⟩=some u:=⟨_,h.P.cell (xo hi)⟩
theorem zl3 (f:zac)(ho:Ord f)(sa ta va:Option Addr)(sl sc tl tc vl vc:Nat)(w:World)(hf:FleetAt w sa sl sc ta tl tc va vl vc f) :
  Calls Tryz.prog 47 #[.agg #[.slice sa sl sc,.slice ta tl tc,.slice va vl vc]] w fun e W=>e=.returned (.agg (zai f).cells.toArray)/\Below w.heap.size w W:=by
 have hv1:=hf.v1;have h3:=ho.vs3;have HF:= zaa hf;have HOD:= zaa ho;obtain⟨v1a,v1b⟩:vl<=f.vs.length/\f.vs.length<=vl:=by omega
 clear hf ho hv1;obtain⟨A,hA⟩:∃ A:Nat->Bool,A=fun q=>cmpA (za9 f.ss) (plOf f (q / 9)) (plOf f (q % 9)):=⟨_,rfl⟩;obtain⟨F,hFF⟩:∃ F:Nat->Bool,F=fun q=>cmpF (za9 f.ss) f.ts (plOf f (q / 9)) (plOf f (q % 9)):=⟨_,rfl⟩;have HA:= zaa hA;have HFF:= zaa hFF;clear hA hFF;have hck0:∀ W,W=((((w.alloc (.cells #[.slice sa sl sc,.slice ta tl tc,.slice va vl vc] 26)).alloc (.cells Tryz.zeroCells114 114)).alloc (.cells Tryz.zeroCells114 114)).alloc (.cells #[.slice none 0 0,.slice none 0 0,.slice none 0 0,.slice none 0 0,.slice none 0 0,.slice none 0 0,.slice none 0 0,.slice none 0 0,.slice none 0 0] 168))->Ck w [.slice sa sl sc,.slice ta tl tc,.slice va vl vc] W (chB f A F 0 0) (qd 9 (.slice none 0 0)):=fun W hW=>by
  subst hW;have z1:=zb5 w (.cells #[.slice sa sl sc,.slice ta tl tc,.slice va vl vc] 26);refine⟨?_,?_,?_,?_,((((Below.refl _ _).alloc (qo _) _).alloc (by simp) _).alloc (by simp;omega) _).alloc (by simp;omega) _⟩
  ·exact RowIs.keep (RowIs.keep (RowIs.keep (w:=w.alloc (.cells #[.slice sa sl sc,.slice ta tl tc,.slice va vl vc] 26)) (zal w _) (belS _ _)) (belS _ _)) (belS _ _)
  ·refine RowIs.keep (RowIs.keep ?_ (belS _ _)) (belS _ _);have:=zal (w.alloc (.cells #[.slice sa sl sc,.slice ta tl tc,.slice va vl vc] 26)) (.cells Tryz.zeroCells114 114);rw[z1]at this;unfold RowIs;rw[<- Tryz.zeroCht];exact this
  ·refine RowIs.keep ?_ (belS _ _);have:=zal ((w.alloc (.cells #[.slice sa sl sc,.slice ta tl tc,.slice va vl vc] 26)).alloc (.cells Tryz.zeroCells114 114)) (.cells Tryz.zeroCells114 114);rw[zb5,z1]at this;unfold RowIs;rw[zvd,<- Tryz.zeroCht];exact this
  ·have:=zal (((w.alloc (.cells #[.slice sa sl sc,.slice ta tl tc,.slice va vl vc] 26)).alloc (.cells Tryz.zeroCells114 114)).alloc (.cells Tryz.zeroCells114 114)) (.cells #[.slice none 0 0,.slice none 0 0,.slice none 0 0,.slice none 0 0,.slice none 0 0,.slice none 0 0,.slice none 0 0,.slice none 0 0,.slice none 0 0] 168);rw[zb5,zb5,z1]at this;exact this
 have HCK0:= zaa hck0;clear hck0
 go_enter Tryz.func47,Tryz.ntmps47
 go_wp2_with fail
 go_loopw [18] (fun vi wr=>∃ (s:Nat) (pv:List Value),s<=vl/\vi=.int .i64 s/\Hid (Ck w [.slice sa sl sc,.slice ta tl tc,.slice va vl vc] wr (chB f A F (s*3) 0) pv)/\Hid (PvAt w f (s*3) pv)) (fun s _=>vl-(intOf s).toNat)
 case atStart=>exact⟨0,_,qj _,rfl,HCK0.out _ rfl,PvAt.zero w f⟩
 case round =>
  obtain⟨s,pv,hs,rfl,hck,hpv⟩:=hrel
  rename World=>w5
  have hx0 := znn s;have hz5:=hck.out.P.lt;by_cases hlt:s<vl
  ·obtain⟨v,hv⟩:∃ v,f.vs[s]?=some v:=⟨f.vs[s]'(by omega),xo (by omega)⟩;obtain⟨b,o,ra,rl,rc,rfl,c0,c1,c2,c3,hrl⟩:=HF.out.v3 s v hv;have hpt:=HOD.out.parts (List.mem_of_getElem? hv);have hrle:rl=v.rels.length:=hrl.1;obtain⟨rla,rlb⟩:rl<=v.rels.length/\v.rels.length<=rl:=by omega
   have hrl3:rl<=3:=by have:=hpt.2.1;omega
   have c0:=zab hck.out.bl c0;have c1:=zab hck.out.bl c1;have c2:=zab hck.out.bl c2;have c3:=zab hck.out.bl c3;have hbl:=zag c0;have hx1:(s:Int)<(vl:Int):=by omega
   have HV:= zaa hv;have HRL:= zaa hrl.2.2.2.2;have hsb:RowIs (w5.alloc (.cells #[.int .i64 v.size,.int .i64 v.now,.int .i64 v.want,.slice ra rl rc] 73)) w5.heap.size 73 [.int .i64 v.size,.int .i64 v.now,.int .i64 v.want,.slice ra rl rc]:=zal w5 _;have HSB:= zaa hsb;clear hv hrl hpt hrle hsb
   go_wp2_with fail
   clear c0 c1 c2 c3
   go_loopw [26] (fun vr wr=>∃ (r:Nat) (pv:List Value),r<=rl/\vr=.int .i64 r/\Hid (Ck w [.slice sa sl sc,.slice ta tl tc,.slice (some ⟨b,o,none⟩) vl vc] wr (chB f A F (s*3+r) 0) pv)/\Hid (PvAt w f (s*3+r) pv)/\RowIs wr w5.heap.size 73 [.int .i64 v.size,.int .i64 v.now,.int .i64 v.want,.slice ra rl rc]) (fun r _=>rl-(intOf r).toNat)
   case atStart=>exact⟨0,pv,qj _,rfl,hck.out.keep (belS _ _),hpv,HSB.out⟩
   case round =>
    clear hck hpv;obtain⟨r,pv,hr,rfl,hck,hpv,hsv⟩:=hrel;have hy0 := znn r;by_cases hrlt:r<rl
    ·obtain⟨ps,hps⟩:∃ ps,v.rels[r]?=some ps:=⟨v.rels[r]'(by omega),xo (by omega)⟩;obtain⟨bR,oR,pa,pl,pc,rfl,d0,hpsl⟩:=HRL.out r ps hps;obtain⟨e1,e2,e3,e4⟩:=yaaj HV.out hps (by omega);have d0:=zab hck.out.bl d0;have hy1:(r:Int)<(rl:Int):=by omega
     have hpl:=fun W=>zkh (s:Int) (r:Int) W;rw[show plI (s:Int) (r:Int)=((s*3+r:Nat):Int) by
      unfold plI;rw[show numB (s:Int) 3=true by unfold numB;simp;omega,show numB (r:Int) 3=true by unfold numB;simp;omega];simp]at hpl
     have hst:=zvc f A F (k:=s*3+r) (by omega);rw[e2,e3,e4]at hst;have hpp:PinSl w pa pl pc (plOf f (s*3+r)):=by rw[e1];exact hpsl
     have hpst:=hpv.out.step hpp;obtain⟨p0,hp0⟩:∃ p0,p0=s*3+r:=⟨_,rfl⟩;have hp9:p0<9:=by omega
     have hp9':((p0:Nat):Int)<9:=by omega
     have hp90:(0:Int)<=((p0:Nat):Int):=Int.natCast_nonneg _;rw[<- hp0]at hpl;have HP0:= zaa hp0;have HST:= zaa hst;have HPST:= zaa hpst;have s1:wr.cell? ⟨w5.heap.size,1,none⟩=some (.int .i64 v.now):=hsv.cell rfl;have s2:wr.cell? ⟨w5.heap.size,2,none⟩=some (.int .i64 v.want):=hsv.cell rfl;have hsl5:=hsv.lt;have hCl:=hck.out.C.lt;have hPl:=hck.out.P.lt;have HSV:= zaa hsv;clear hps hpsl e1 e2 e3 e4 hst hpst hpp hp0 hsv;have hrest:∀ w9,Below (wr.alloc (.cells #[.slice pa pl pc] 108)).heap.size (wr.alloc (.cells #[.slice pa pl pc] 108)) w9 ->
       ((∃ u,w9.cell? ⟨w.heap.size+1+1,p0,none⟩=some u)/\w9.frozen? ⟨w.heap.size+1+1,p0,none⟩=false) /\
       ((∃ u,(w9.setCell ⟨w.heap.size+1+1,p0,none⟩ (.bool true)).cell? ⟨w.heap.size+1+1,9+p0,none⟩=some u)/\(w9.setCell ⟨w.heap.size+1+1,p0,none⟩ (.bool true)).frozen? ⟨w.heap.size+1+1,9+p0,none⟩=false/\(w9.setCell ⟨w.heap.size+1+1,p0,none⟩ (.bool true)).cell? ⟨w5.heap.size,1,none⟩=some (.int .i64 v.now)) /\
       ((∃ u,((w9.setCell ⟨w.heap.size+1+1,p0,none⟩ (.bool true)).setCell ⟨w.heap.size+1+1,9+p0,none⟩ (.bool ((r:Int) == v.now))).cell? ⟨w.heap.size+1+1,18+p0,none⟩=some u)/\((w9.setCell ⟨w.heap.size+1+1,p0,none⟩ (.bool true)).setCell ⟨w.heap.size+1+1,9+p0,none⟩ (.bool ((r:Int) == v.now))).frozen? ⟨w.heap.size+1+1,18+p0,none⟩=false/\((w9.setCell ⟨w.heap.size+1+1,p0,none⟩ (.bool true)).setCell ⟨w.heap.size+1+1,9+p0,none⟩ (.bool ((r:Int) == v.now))).cell? ⟨w5.heap.size,2,none⟩=some (.int .i64 v.want)) /\
       ((∃ u,(((w9.setCell ⟨w.heap.size+1+1,p0,none⟩ (.bool true)).setCell ⟨w.heap.size+1+1,9+p0,none⟩ (.bool ((r:Int) == v.now))).setCell ⟨w.heap.size+1+1,18+p0,none⟩ (.bool ((r:Int) == v.want))).cell? ⟨w.heap.size+1+1+1,p0,none⟩=some u)/\(((w9.setCell ⟨w.heap.size+1+1,p0,none⟩ (.bool true)).setCell ⟨w.heap.size+1+1,9+p0,none⟩ (.bool ((r:Int) == v.now))).setCell ⟨w.heap.size+1+1,18+p0,none⟩ (.bool ((r:Int) == v.want))).frozen? ⟨w.heap.size+1+1+1,p0,none⟩=false/\(((w9.setCell ⟨w.heap.size+1+1,p0,none⟩ (.bool true)).setCell ⟨w.heap.size+1+1,9+p0,none⟩ (.bool ((r:Int) == v.now))).setCell ⟨w.heap.size+1+1,18+p0,none⟩ (.bool ((r:Int) == v.want))).cell? ⟨wr.heap.size,0,none⟩=some (.slice pa pl pc)) /\
       Ck w [.slice sa sl sc,.slice ta tl tc,.slice (some ⟨b,o,none⟩) vl vc] ((((w9.setCell ⟨w.heap.size+1+1,p0,none⟩ (.bool true)).setCell ⟨w.heap.size+1+1,9+p0,none⟩ (.bool ((r:Int) == v.now))).setCell ⟨w.heap.size+1+1,18+p0,none⟩ (.bool ((r:Int) == v.want))).setCell ⟨w.heap.size+1+1+1,p0,none⟩ (.slice pa pl pc)) (chB f A F (s*3+r+1) 0) (pv.set p0 (.slice pa pl pc)) /\
       RowIs ((((w9.setCell ⟨w.heap.size+1+1,p0,none⟩ (.bool true)).setCell ⟨w.heap.size+1+1,9+p0,none⟩ (.bool ((r:Int) == v.now))).setCell ⟨w.heap.size+1+1,18+p0,none⟩ (.bool ((r:Int) == v.want))).setCell ⟨w.heap.size+1+1+1,p0,none⟩ (.slice pa pl pc)) w5.heap.size 73 [.int .i64 v.size,.int .i64 v.now,.int .i64 v.want,.slice (some ⟨bR,oR,none⟩) rl rc]:=fun w9 hb9=>by
      have k9:=(hck.out.keep (belS wr (.cells #[.slice pa pl pc] 108))).keep hb9;have k1:=k9.setC p0 true;have k2:=k1.setC (9+p0) ((r:Int) == v.now);have k3:=k2.setC (18+p0) ((r:Int) == v.want);have k4:=k3.setP p0 (.slice pa pl pc);have v9:=(HSV.out.keep (belS wr (.cells #[.slice pa pl pc] 108))).keep hb9;have v1:=v9.setOther (p:=⟨w.heap.size+1+1,p0,none⟩) (by show w.heap.size+1+1≠w5.heap.size;omega) (.bool true);have v2:=v1.setOther (p:=⟨w.heap.size+1+1,9+p0,none⟩) (by show w.heap.size+1+1≠w5.heap.size;omega) (.bool ((r:Int) == v.now));have v3:=v2.setOther (p:=⟨w.heap.size+1+1,18+p0,none⟩) (by show w.heap.size+1+1≠w5.heap.size;omega) (.bool ((r:Int) == v.want));have v4:=v3.setOther (p:=⟨w.heap.size+1+1+1,p0,none⟩) (by show w.heap.size+1+1+1≠w5.heap.size;omega) (.slice pa pl pc);have r0:RowIs (wr.alloc (.cells #[.slice pa pl pc] 108)) wr.heap.size 108 [.slice pa pl pc]:=zal wr _;have r3:=(((r0.keep hb9).setOther (p:=⟨w.heap.size+1+1,p0,none⟩) (by show w.heap.size+1+1≠wr.heap.size;omega) (.bool true)).setOther (p:=⟨w.heap.size+1+1,9+p0,none⟩) (by show w.heap.size+1+1≠wr.heap.size;omega) (.bool ((r:Int) == v.now))).setOther (p:=⟨w.heap.size+1+1,18+p0,none⟩) (by show w.heap.size+1+1≠wr.heap.size;omega) (.bool ((r:Int) == v.want));have hl:=hpv.out.1;refine⟨⟨k9.cellC (by rw[zf5];omega),k9.C.frozen _⟩,⟨k1.cellC (by rw[xq,zf5];omega),k1.C.frozen _,v1.cell rfl⟩,⟨k2.cellC (by rw[xq,xq,zf5];omega),k2.C.frozen _,v2.cell rfl⟩,⟨k3.cellP (by omega),k3.P.frozen _,r3.cell rfl⟩,?_,v4⟩;rw[HST.out];rw[HP0.out]at k4 ⊢;exact k4
     have HREST:= zaa hrest;clear hrest
     go_wp2_with (go_at_call 107;refine(hpl _).mono ?_;rintro e w9 ⟨rfl,hb9⟩;have hR9:=(zaa (HREST.out w9 hb9));obtain⟨⟨⟨x0,y0⟩,z0⟩,⟨⟨x1,y1⟩,z1,t1⟩,⟨⟨x2,y2⟩,z2,t2⟩,⟨⟨x3,y3⟩,z3,t3⟩,_,_⟩:=hR9.out)
     go_roundw
     case rel=>exact⟨r+1,pv.set p0 (.slice pa pl pc),by omega,by go_num,hR9.out.2.2.2.2.1,by rw[HP0.out];exact HPST.out,hR9.out.2.2.2.2.2⟩
     case measure=>simp[intOf];omega
    ·have hre:r=rl:=by omega
     subst hre;have hrow:=zm6 f A F (k:=s*3+r) (k':=(s+1)*3) (by omega) (fun p a1 a2=>(zqr HV.out (by omega) a2).1);have hpv2:=hpv.out.skip (k':=(s+1)*3) (by omega) (fun p a1 a2=>(zqr HV.out (by omega) a2).2);have hck2:=hck.out;rw[hrow]at hck2;have HCK2:= zaa hck2;have HPV2:= zaa hpv2;clear hrow hpv2 hck2 hck hpv hsv
     go_wp2_with fail
     go_roundw
     case rel=>exact⟨s+1,pv,by omega,by go_num,HCK2,HPV2⟩
     case measure=>simp[intOf];omega
  ·have hse:s=vl:=by omega
   subst hse;have hrow:=zm6 f A F (k:=s*3) (k':=9) (by omega) (fun p a1 a2=>(zqs (by omega)).1);have hpv2:=hpv.out.skip (k':=9) (by omega) (fun p a1 a2=>(zqs (by omega)).2);have hck2:=hck.out;rw[hrow]at hck2;have HPV2:= zaa hpv2;have HCK2:= zaa hck2;clear hrow hpv2 hck2 hck hpv;obtain⟨T,hT⟩:∃ T,T=za9 f.ss:=⟨_,rfl⟩;have hTok:tabOk T:=by rw[hT];exact zfo _
   have hro:=fun (W:World) (h:Below w.heap.size w W)=>yabe f.ss HOD.out.sch W sa sc (HF.out.s4.keep h);rw[<- hT,<- HF.out.s1]at hro;have HT:= zaa hT;have it:=hTok.info;have it2:(Tryz.prog.info? 171).map (·.size)=some (tabC T).toArray.size:=by rw[qm];exact it
   have i1:(tabC T).toArray.all (·.oneCell')=true:=zd2 _;have hcl:(tabC T).length=64:=hTok.len;have hz:∀ W:World,(W.alloc (.cells #[.bool false,.bool false,.bool false,.bool false,.bool false,.bool false,.bool false,.bool false,.bool false,.bool false,.bool false,.bool false,.bool false,.bool false,.bool false,.bool false,.bool false,.bool false,.bool false,.bool false,.bool false,.bool false,.bool false,.bool false,.bool false,.bool false,.bool false,.bool false,.bool false,.bool false,.bool false,.bool false,.bool false,.bool false,.bool false,.bool false,.bool false,.bool false,.bool false,.bool false,.bool false,.bool false,.bool false,.bool false,.bool false,.bool false,.bool false,.bool false,.bool false,.bool false,.bool false,.bool false,.bool false,.bool false,.bool false,.bool false,.bool false,.bool false,.bool false,.bool false,.bool false,.bool false,.bool false,.bool false] 171)).there W.heap.size 0 (tabC T).toArray.size:=fun W=>by
    rw[show (tabC T).toArray.size=64 by simpa using hcl];exact zcm (zal W _)
   have HTOK:= zaa hTok;have HCL:= zaa hcl;clear hT hTok hcl;have f0:w5.cell? ⟨w.heap.size,0,none⟩=some (.slice sa sl sc):=HCK2.out.F.cell rfl;have hb5:=HCK2.out.bl;have hfl:w.heap.size<w5.heap.size:=zag f0
   go_wp2_with (first
    |(go_at_call 108;refine(hro _ hb5).mono ?_;rintro e w7 ⟨rfl,hb7⟩;have hz7:=hz w7)
    |(have hq:=hz7;refine wpList_store_mid rfl 171 _ _ rfl w7.heap.size 0 (tabC T).toArray rfl rfl hz7 it2 i1 ?_))
   have rt0:=qg (w7.alloc (.cells #[.bool false,.bool false,.bool false,.bool false,.bool false,.bool false,.bool false,.bool false,.bool false,.bool false,.bool false,.bool false,.bool false,.bool false,.bool false,.bool false,.bool false,.bool false,.bool false,.bool false,.bool false,.bool false,.bool false,.bool false,.bool false,.bool false,.bool false,.bool false,.bool false,.bool false,.bool false,.bool false,.bool false,.bool false,.bool false,.bool false,.bool false,.bool false,.bool false,.bool false,.bool false,.bool false,.bool false,.bool false,.bool false,.bool false,.bool false,.bool false,.bool false,.bool false,.bool false,.bool false,.bool false,.bool false,.bool false,.bool false,.bool false,.bool false,.bool false,.bool false,.bool false,.bool false,.bool false,.bool false] 171)) w7.heap.size 0 (tabC T) (by simpa using hz7);have hb8:Below w7.heap.size w7 ((w7.alloc (.cells #[.bool false,.bool false,.bool false,.bool false,.bool false,.bool false,.bool false,.bool false,.bool false,.bool false,.bool false,.bool false,.bool false,.bool false,.bool false,.bool false,.bool false,.bool false,.bool false,.bool false,.bool false,.bool false,.bool false,.bool false,.bool false,.bool false,.bool false,.bool false,.bool false,.bool false,.bool false,.bool false,.bool false,.bool false,.bool false,.bool false,.bool false,.bool false,.bool false,.bool false,.bool false,.bool false,.bool false,.bool false,.bool false,.bool false,.bool false,.bool false,.bool false,.bool false,.bool false,.bool false,.bool false,.bool false,.bool false,.bool false,.bool false,.bool false,.bool false,.bool false,.bool false,.bool false,.bool false,.bool false] 171)).setCells w7.heap.size 0 (tabC T)):=below_setCells w7.heap.size (qo _) _ _ (belS _ _);have hck8:=(HCK2.out.keep hb7).keep hb8;have HCK8:= zaa hck8;have HRT:= zaa rt0;clear hck8 rt0 hz hz7 f0;generalize (w7.alloc (.cells #[.bool false,.bool false,.bool false,.bool false,.bool false,.bool false,.bool false,.bool false,.bool false,.bool false,.bool false,.bool false,.bool false,.bool false,.bool false,.bool false,.bool false,.bool false,.bool false,.bool false,.bool false,.bool false,.bool false,.bool false,.bool false,.bool false,.bool false,.bool false,.bool false,.bool false,.bool false,.bool false,.bool false,.bool false,.bool false,.bool false,.bool false,.bool false,.bool false,.bool false,.bool false,.bool false,.bool false,.bool false,.bool false,.bool false,.bool false,.bool false,.bool false,.bool false,.bool false,.bool false,.bool false,.bool false,.bool false,.bool false,.bool false,.bool false,.bool false,.bool false,.bool false,.bool false,.bool false,.bool false] 171)).setCells w7.heap.size 0 (tabC T)=w8 at HCK8 HRT hb8 ⊢
   go_loopw [11] (fun va' wr=>∃ a:Nat,a<=9/\va'=.int .i64 a/\Hid (Ck w [.slice sa sl sc,.slice ta tl tc,.slice va s vc] wr (chB f A F 9 (a*9)) pv)/\Hid (wr.rangeAt w7.heap.size 0 (tabC T))) (fun a _=>9-(intOf a).toNat)
   case atStart=>exact⟨0,by omega,rfl,HCK8,HRT⟩
   case round =>
    obtain⟨a,ha,rfl,hck,hrt⟩:=hrel;have hx0 := znn a;by_cases hlt:a<9
    ·have hx1:(a:Int)<9:=by omega
     go_wp2_with fail
     go_loopw [12] (fun vb wr=>∃ b:Nat,b<=9/\vb=.int .i64 b/\Hid (Ck w [.slice sa sl sc,.slice ta tl tc,.slice va s vc] wr (chB f A F 9 (a*9+b)) pv)/\Hid (wr.rangeAt w7.heap.size 0 (tabC T))) (fun b _=>9-(intOf b).toNat)
     case atStart=>exact⟨0,by omega,rfl,hck,hrt⟩
     case round =>
      clear hck hrt;obtain⟨b,hbb,rfl,hck,hrt⟩:=hrel;have hy0 := znn b;by_cases hblt:b<9
      ·have hy1:(b:Int)<9:=by omega
       have hl9:=HPV2.out.1;obtain⟨va1,hva1⟩:∃ v,pv[a]?=some v:=⟨pv[a]'(by omega),xo (by omega)⟩;obtain⟨vb1,hvb1⟩:∃ v,pv[b]?=some v:=⟨pv[b]'(by omega),xo (by omega)⟩;obtain⟨pa,pl,pc,rfl,hpa⟩:=HPV2.out.2 a va1 hva1;obtain⟨qa,ql,qc,rfl,hqa⟩:=HPV2.out.2 b vb1 hvb1;rw[if_pos hlt]at hpa;rw[if_pos hblt]at hqa;have p1:wr.cell? ⟨w.heap.size+1+1+1,a,none⟩=some (.slice pa pl pc):=hck.out.P.cell hva1;have p2:wr.cell? ⟨w.heap.size+1+1+1,b,none⟩=some (.slice qa ql qc):=hck.out.P.cell hvb1;have f1:wr.cell? ⟨w.heap.size,1,none⟩=some (.slice ta tl tc):=hck.out.F.cell rfl;have hcmp:=fun (W:World) (h:Below w.heap.size w W)=>zvm T HTOK.out f.ts (plOf f a) (plOf f b) ta pa qa tc pc qc W HF.out.t2 hpa.2.1 hqa.2.1 (HF.out.t3.keep h) (hpa.2.2.2.2.keep h) (hqa.2.2.2.2.keep h);rw[<- HF.out.t1,<- hpa.1,<- hqa.1]at hcmp;have rt:=hrt.out;have hbl:=hck.out.bl;have lP:=zag p1;have lF:=zag f1;clear hva1 hvb1 hpa hqa hl9
       go_wp2_with fail
       refine wp_region_held_drew (S:=(fun w'=>(w'.cell? ⟨w.heap.size,1,none⟩=some (.slice ta tl tc)/\w'.cell? ⟨w.heap.size+1+1+1,a,none⟩=some (.slice pa pl pc)/\w'.cell? ⟨w.heap.size+1+1+1,b,none⟩=some (.slice qa ql qc))/\w'.rangeAt w7.heap.size 0 (tabC T))) (by kernel_rfl) ⟨⟨f1,p1,p2⟩,rt⟩ (fun hH=>?_);refine wpAnyH_take (i:=0) (v:=?_) rfl (by kernel_rfl) (by kernel_rfl) (by kernel_rfl) (fun _ _ _ h=>h) (qf ⟨by rfl,?_⟩) hH ?_;rotate_left
       ·intro w' hS';obtain⟨⟨hk1,hk2,hk3⟩,hk4⟩:=hS';clear hk4;go_simp<;>(try with_reducible rfl)
       simp only[xv,xe,xj,xm,xh,xf,xg];refine wpAnyH_take (i:=1) (v:=?_) rfl (by kernel_rfl) (by kernel_rfl) (by kernel_rfl) (fun _ _ _ h=>h) (qf ⟨by rfl,?_⟩) hH ?_;rotate_left
       ·intro w' hS';obtain⟨⟨hk1,hk2,hk3⟩,hk4⟩:=hS';clear hk4;go_simp<;>(try with_reducible rfl)
       simp only[xv,xe,xj,xm,xh,xf,xg];refine wpAnyH_take (i:=2) (v:=.agg (tabC T).toArray) rfl (by kernel_rfl) (by kernel_rfl) (by kernel_rfl) (fun _ _ _ h=>h) (yieldsIf_load_mid (by rfl) _ _ rfl _ _ rfl _ _ (fun w' h=>h.2) Tryz.underlying171 rfl it) hH ?_;simp only[xv,xe,xj,xm,xh,xf,xg];refine wpAnyH_take (i:=3) (v:=?_) rfl (by kernel_rfl) (by kernel_rfl) (by kernel_rfl) (fun _ _ _ h=>h) (qf ⟨by rfl,?_⟩) hH ?_;rotate_left
       ·intro w' hS';obtain⟨⟨hk1,hk2,hk3⟩,hk4⟩:=hS';clear hk4;go_simp<;>(try with_reducible rfl)
       simp only[xv,xe,xj,xm,xh,xf,xg];refine wpAnyH_take (i:=4) (v:=?_) rfl (by kernel_rfl) (by kernel_rfl) (by kernel_rfl) (fun _ _ _ h=>h) (qf ⟨by rfl,?_⟩) hH ?_;rotate_left
       ·intro w' hS';obtain⟨⟨hk1,hk2,hk3⟩,hk4⟩:=hS';clear hk4;go_simp<;>(try with_reducible rfl)
       simp only[xv,xe,xj,xm,xh,xf,xg];refine wpAnyH_take (i:=5) (v:=?_) rfl (by kernel_rfl) (by kernel_rfl) (by kernel_rfl) (fun _ _ _ h=>h) (qf ⟨by rfl,?_⟩) hH ?_;rotate_left
       ·intro w' hS';obtain⟨⟨hk1,hk2,hk3⟩,hk4⟩:=hS';clear hk4;go_simp<;>(try with_reducible rfl)
       simp only[xv,xe,xj,xm,xh,xf,xg];refine wpAnyH_take (i:=6) (v:=?_) rfl (by kernel_rfl) (by kernel_rfl) (by kernel_rfl) (fun _ _ _ h=>h) (qf ⟨by rfl,?_⟩) hH ?_;rotate_left
       ·intro w' hS';obtain⟨⟨hk1,hk2,hk3⟩,hk4⟩:=hS';clear hk4;go_simp<;>(try with_reducible rfl)
       simp only[xv,xe,xj,xm,xh,xf,xg];refine wpAnyH_take (i:=7) (v:=?_) rfl (by kernel_rfl) (by kernel_rfl) (by kernel_rfl) (fun _ _ _ h=>h) (qf ⟨by rfl,?_⟩) hH ?_;rotate_left
       ·intro w' hS';obtain⟨⟨hk1,hk2,hk3⟩,hk4⟩:=hS';clear hk4;go_simp<;>(try with_reducible rfl)
       simp only[xv,xe,xj,xm,xh,xf,xg];refine wpAnyH_take (i:=8) (v:=?_) rfl (by kernel_rfl) (by kernel_rfl) (by kernel_rfl) (fun _ _ _ h=>h) (qf ⟨by rfl,?_⟩) hH ?_;rotate_left
       ·intro w' hS';obtain⟨⟨hk1,hk2,hk3⟩,hk4⟩:=hS';clear hk4;go_simp<;>(try with_reducible rfl)
       simp only[xv,xe,xj,xm,xh,xf,xg];refine wpAnyH_ready (rs:=[9]) (by kernel_rfl) (by simp) ?_;refine qv rfl (fun K hK=>?_) qx
       go_simp
       refine(hcmp _ hbl.drew).mono ?_;rintro e w9 ⟨rfl,hb9⟩
       go_wp2_with fail
       refine hK.out _ _ ⟨⟨zab hb9 hH.1.1,zab hb9 hH.1.2.1,zab hb9 hH.1.2.2⟩,zaf hb9 hH.2⟩ (fun hH2=>?_);clear hK K
       replace hH:=hH2
       (try simp only[xv,xe,xj,xm,xh,xf,xg])
       refine wpAnyH_take (i:=10) (v:=?_) rfl (by kernel_rfl) (by kernel_rfl) (by kernel_rfl) (fun _ _ _ h=>h) (qf ⟨by rfl,?_⟩) hH ?_;rotate_left
       ·intro w' hS';obtain⟨⟨hk1,hk2,hk3⟩,hk4⟩:=hS';clear hk4;go_simp<;>(try with_reducible rfl)
       simp only[xv,xe,xj,xm,xh,xf,xg];refine wpAnyH_take (i:=11) (v:=?_) rfl (by kernel_rfl) (by kernel_rfl) (by kernel_rfl) (fun _ _ _ h=>h) (qf ⟨by rfl,?_⟩) hH ?_;rotate_left
       ·intro w' hS';obtain⟨⟨hk1,hk2,hk3⟩,hk4⟩:=hS';clear hk4;go_simp<;>(try with_reducible rfl)
       simp only[xv,xe,xj,xm,xh,xf,xg];refine wpAnyH_take (i:=12) (v:=?_) rfl (by kernel_rfl) (by kernel_rfl) (by kernel_rfl) (fun _ _ _ h=>h) (qf ⟨by rfl,?_⟩) hH ?_;rotate_left
       ·intro w' hS';obtain⟨⟨hk1,hk2,hk3⟩,hk4⟩:=hS';clear hk4;go_simp<;>(try with_reducible rfl)
       simp only[xv,xe,xj,xm,xh,xf,xg];refine wpAnyH_take (i:=13) (v:=?_) rfl (by kernel_rfl) (by kernel_rfl) (by kernel_rfl) (fun _ _ _ h=>h) (qf ⟨by rfl,?_⟩) hH ?_;rotate_left
       ·intro w' hS';obtain⟨⟨hk1,hk2,hk3⟩,hk4⟩:=hS';clear hk4;go_simp<;>(try with_reducible rfl)
       simp only[xv,xe,xj,xm,xh,xf,xg];refine wpAnyH_take (i:=14) (v:=?_) rfl (by kernel_rfl) (by kernel_rfl) (by kernel_rfl) (fun _ _ _ h=>h) (qf ⟨by rfl,?_⟩) hH ?_;rotate_left
       ·intro w' hS';obtain⟨⟨hk1,hk2,hk3⟩,hk4⟩:=hS';clear hk4;go_simp<;>(try with_reducible rfl)
       simp only[xv,xe,xj,xm,xh,xf,xg];refine wpAnyH_done (by kernel_rfl) ?_ _;have k9:=hck.out.drew.keep hb9;have k10:=k9.setC (27+a*9+b) (cmpA T (plOf f a) (plOf f b));obtain⟨y1,m1⟩:=k9.cellC (i:=27+a*9+b) (by rw[zf5];omega);obtain⟨y2,m2⟩:=k10.cellC (i:=108+a*9+b) (by rw[xq,zf5];omega);have g1:=k9.C.frozen (27+a*9+b);have g2:=k10.C.frozen (108+a*9+b);have hst:=zvb f A F (k:=9) (q:=a*9+b) (by omega);have hAq:A (a*9+b)=cmpA T (plOf f a) (plOf f b):=by rw[HA.out,HT.out];show cmpA (za9 f.ss) (plOf f ((a*9+b) / 9)) (plOf f ((a*9+b) % 9))=_;rw[show (a*9+b) / 9=a by omega,show (a*9+b) % 9=b by omega]
       have hFq:F (a*9+b)=cmpF T f.ts (plOf f a) (plOf f b):=by rw[HFF.out,HT.out];show cmpF (za9 f.ss) f.ts (plOf f ((a*9+b) / 9)) (plOf f ((a*9+b) % 9))=_;rw[show (a*9+b) / 9=a by omega,show (a*9+b) % 9=b by omega]
       rw[hAq,hFq,<- qp,<- qp]at hst;have k11:=k10.setC (108+a*9+b) (cmpF T f.ts (plOf f a) (plOf f b));rw[<- hst]at k11;have hne7:w.heap.size+1+1≠w7.heap.size:=fun h=>by have:=hb7.size;omega
       have r11:=zq5 (zq5 hH.2 (p:=⟨w.heap.size+1+1,27+a*9+b,none⟩) hne7 (.bool (cmpA T (plOf f a) (plOf f b)))) (p:=⟨w.heap.size+1+1,108+a*9+b,none⟩) hne7 (.bool (cmpF T f.ts (plOf f a) (plOf f b)));have K11:= zaa k11;have R11:= zaa r11;clear k11 r11 hst hAq hFq k9 k10 hH hck hrt
       go_wp2_with fail
       go_roundw
       case rel=>exact⟨b+1,by omega,by go_num,K11,R11⟩
       case measure=>simp[intOf];omega
      ·have hbe:b=9:=by omega
       subst hbe;rw[show a*9+9=(a+1)*9 by omega]at hck
       go_wp2_with fail
       go_roundw
       case rel=>exact⟨a+1,by omega,by go_num,hck,hrt⟩
       case measure=>simp[intOf];omega
    ·have hae:a=9:=by omega
     subst hae
     rename World=>w6
     have hk:=hck.out;rw[show 9*9=81 from rfl,HA.out,HFF.out,zva]at hk;obtain⟨C,hCe⟩:∃ C,C=(zai f).cells:=⟨_,rfl⟩;have hrow:RowIs w6 (w.heap.size+1+1) 114 C:=by rw[hCe];exact hk.C
     have hCl:C.length=189:=by rw[hCe];exact(zf9 f).len
     have hr6:=zbl hrow;have ht6:w6.there (w.heap.size+1) 0 C.toArray.size:=by
      rw[show C.toArray.size=189 by simpa using hCl];have:=zcm hk.R;simpa using this
     have hi6:(Tryz.prog.info? 114).map (·.size)=some C.length:=by rw[hCl];exact Tryz.infoCht
     have hi7:(Tryz.prog.info? 114).map (·.size)=some C.toArray.size:=by rw[qm];exact hi6
     have h16:C.toArray.all (·.oneCell')=true:=by rw[hCe];exact zd2 _
     have hbF:=hk.bl;have HCe:= zaa hCe;clear hCe hrow hCl hk hck hrt
     go_wp2_with (first
      |(refine wpList_load_mid (w:=w6) rfl 114 _ rfl (w.heap.size+1+1) 0 rfl C _ hr6 Tryz.underlying114 rfl hi6 ?_)
      |(refine wpList_store_mid (w:=w6) rfl 114 _ _ rfl (w.heap.size+1) 0 C.toArray rfl rfl ht6 hi7 h16 ?_))
     have hrs:=qg w6 (w.heap.size+1) 0 C (by simpa using ht6);refine bodyPost_ret (v:=.agg C.toArray) ?_ rfl ⟨by rw[HCe.out],below_setCells (w.heap.size+1) (Nat.le_succ _) _ _ hbF⟩;have hlv:=run_loadVar_mid (P:=Tryz.prog) _ (w.heap.size+1) 0 114 C _ hrs Tryz.underlying114 rfl hi6;simp[results,Tryz.results47,asAddr,xv,hlv]
end
end Go.Proofs.YtkkekopomiehlabGreatDoor
