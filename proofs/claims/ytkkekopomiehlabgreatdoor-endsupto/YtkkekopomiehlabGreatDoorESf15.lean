import Derived.Test.YtkkekopomiehlabGreatDoorESm6
set_option linter.unusedVariables false
set_option linter.unusedSimpArgs false
set_option maxHeartbeats 40000000
set_option maxRecDepth 4000
open List renaming setIfInBounds_toArray->xe,getElem_cons_zero->xf,getElem_cons_succ->xg,getElem_toArray->xh,set_cons_zero->xj,set_cons_succ->xm,getElem?_eq_getElem->xp,getElem?_eq_none->xq,getElem?_map->xu,length_set->xy,range->xz,replicate->qd,set_append_left->qf,getElem?_range->qg,size_toArray->qi,ext_getElem?->qj,getElem?_replicate->qk,mem_of_getElem?->qp,map_congr_left->qu,getElem?_set->qy,length_map->q9,getD->uc
open Go.Act renaming put->xo
open Or renaming inl->xv,inr->qx
open Go.World renaming rangeAt_setCells_same->qe
open Bool renaming false_eq_true->qh
open Option renaming map_eq_some_iff->qm
open Nat renaming zero_le->qn,le_refl->qo,add_assoc->ua,zero_add->ud
open Go.AllReadyH renaming cons->qq,nil->qv
open Option.some renaming inj->ue
open Go.RowKit
namespace Go.Proofs.YtkkekopomiehlabGreatDoor
section
set_option maxRecDepth 16000
open Go.Lib (below_setCells)
def chTo (P:Nat->Bool)(n k:Nat):List Bool:=(xz n).map fun p=>decide (p<k)&&P p
theorem zc4 (P:Nat->Bool)(n k:Nat):(chTo P n k).length=n:=by simp[chTo]
theorem zjw (P:Nat->Bool)(n k:Nat){p:Nat}(h:p<n):(chTo P n k)[p]?=some (decide (p<k)&&P p):=by rw[chTo,xu,qg h];rfl
theorem zf8 (P:Nat->Bool)(n:Nat):chTo P n 0=qd n false:=by
 apply qj;intro k;by_cases hk:k<n
 ·rw[zjw P n 0 hk,qk,if_pos hk];simp
 ·rw[xq (by rw[zc4];omega),xq (by simp;omega)]
theorem zf7 (P:Nat->Bool){n k:Nat}(hk:k<n):chTo P n (k+1)=(chTo P n k).set k (P k):=by
 apply qj;intro q;by_cases hq:q<n
 ·rw[zjw P n (k+1) hq,qy];by_cases hkq:k=q
  ·subst hkq;rw[if_pos rfl,if_pos (by rw[zc4];exact hk)];simp
  ·rw[if_neg hkq,zjw P n k hq];by_cases h:q<k
   ·simp[h,show q<k+1 by omega]
   ·simp[h,show ¬ q<k+1 by omega]
 ·rw[xq (by rw[zc4];omega),xq (by rw[xy,zc4];omega)]
theorem zjx (P:Nat->Bool){n k k':Nat}(hk:k<=k')(h:∀ p,k<=p->p<k'->P p=false):chTo P n k=chTo P n k':=by
 unfold chTo;refine qu fun p hp=>?_;by_cases h1:p<k
 ·simp[h1,show p<k' by omega]
 ·by_cases h2:p<k'
  ·rw[h p (by omega) h2];simp
  ·simp[h1,h2]
theorem zf6 (P:Nat->Bool)(n k:Nat)(h:∀ p,k<=p->p<n->P p=false):chTo P n k=(xz n).map P:=by
 unfold chTo;refine qu fun p hp=>?_;have:=List.mem_range.1 hp;by_cases h1:p<k
 ·simp[h1]
 ·rw[h p (by omega) this];simp
def chB (f:zac)(A F:Nat->Bool)(k q:Nat):List Bool:=chTo (thB f) 9 k++(chTo (fsB f) 9 k++(chTo (wnB f) 9 k++(chTo A 81 q++chTo F 81 q)))
theorem zf5 (f:zac)(A F:Nat->Bool)(k q:Nat):(chB f A F k q).length=189:=by simp[chB,zc4]
theorem zvd (f:zac)(A F:Nat->Bool):chB f A F 0 0=qd 189 false:=by
 unfold chB;rw[zf8,zf8,zf8,zf8,zf8];rfl
theorem zdu {a b:List Bool}{n i:Nat}(h:a.length=n)(x:Bool):(a++b).set (n+i) x=a++b.set i x:=by
 rw[List.set_append_right _ _ (by omega),h,show n+i-n=i by omega]
theorem set3 {a b c d:List Bool}{k:Nat}(ha:a.length=9)(hb:b.length=9)(hc:c.length=9)(hk:k<9)(x y z:Bool):(((a++(b++(c++d))).set k x).set (9+k) y).set (18+k) z=a.set k x++(b.set k y++(c.set k z++d)):=by
 have e1:(a++(b++(c++d))).set k x=a.set k x++(b++(c++d)):=qf _ _ (by omega);have e2:(a.set k x++(b++(c++d))).set (9+k) y=a.set k x++(b.set k y++(c++d)):=by rw[zdu (by rw[xy];exact ha),qf _ _ (by omega)]
 have e3:(a.set k x++(b.set k y++(c++d))).set (18+k) z=a.set k x++(b.set k y++(c.set k z++d)):=by
  rw[show 18+k=9+(9+k) by omega,zdu (by rw[xy];exact ha),zdu (by rw[xy];exact hb),qf _ _ (by omega)]
 rw[e1,e2,e3]
theorem set2 {a b c d e:List Bool}{q:Nat}(ha:a.length=9)(hb:b.length=9)(hc:c.length=9)(hd:d.length=81)(hq:q<81)(x y:Bool):((a++(b++(c++(d++e)))).set (27+q) x).set (108+q) y=a++(b++(c++(d.set q x++e.set q y))):=by
 have e1:(a++(b++(c++(d++e)))).set (27+q) x=a++(b++(c++(d.set q x++e))):=by
  rw[show 27+q=9+(9+(9+q)) by omega,zdu ha,zdu hb,zdu hc,qf _ _ (by omega)]
 have e2:(a++(b++(c++(d.set q x++e)))).set (108+q) y=a++(b++(c++(d.set q x++e.set q y))):=by
  rw[show 108+q=9+(9+(9+(81+q))) by omega,zdu ha,zdu hb,zdu hc,zdu (by rw[xy];exact hd)]
 rw[e1,e2]
theorem zvc (f:zac)(A F:Nat->Bool){k:Nat}(hk:k<9):chB f A F (k+1) 0=(((chB f A F k 0).set k (thB f k)).set (9+k) (fsB f k)).set (18+k) (wnB f k):=by
 unfold chB;rw[set3 (zc4 _ _ _) (zc4 _ _ _) (zc4 _ _ _) hk,zf7 _ hk,zf7 _ hk,zf7 _ hk]
theorem zvb (f:zac)(A F:Nat->Bool){k q:Nat}(hq:q<81):chB f A F k (q+1)=((chB f A F k q).set (27+q) (A q)).set (108+q) (F q):=by
 unfold chB;rw[set2 (zc4 _ _ _) (zc4 _ _ _) (zc4 _ _ _) (zc4 _ _ _) hq,zf7 _ hq,zf7 _ hq]
theorem zm6 (f:zac)(A F:Nat->Bool){k k':Nat}(hk:k<=k')(h:∀ p,k<=p->p<k'->thB f p=false):chB f A F k 0=chB f A F k' 0:=by
 have h1:∀ p,k<=p->p<k'->fsB f p=false:=fun p a b=>by
  have:=h p a b;unfold thB at this;unfold fsB;cases hv:f.vs[p / 3]? with
  |none=>rfl
  |some v=>rw[hv]at this;simp only at this ⊢;rw[this];rfl
 have h2:∀ p,k<=p->p<k'->wnB f p=false:=fun p a b=>by
  have:=h p a b;unfold thB at this;unfold wnB;cases hv:f.vs[p / 3]? with
  |none=>rfl
  |some v=>rw[hv]at this;simp only at this ⊢;rw[this];rfl
 unfold chB;rw[zjx _ hk h,zjx _ hk h1,zjx _ hk h2]
def PvAt (w:World)(f:zac)(k:Nat)(pv:List Value):Prop:=pv.length=9/\∀ p v,pv[p]?=some v->∃ pa pl pc,v=.slice pa pl pc/\PinSl w pa pl pc (if p<k then plOf f p else [])
theorem PvAt.zero (w:World)(f:zac):PvAt w f 0 (qd 9 (.slice none 0 0)):=by
 refine⟨by simp,fun p v h=>?_⟩;rw[qk]at h;split at h
 ·cases h;exact⟨none,0,0,rfl,by rw[if_neg (by omega)];exact⟨rfl,qn _,qo _,qn _,fun i p hi=>by simp at hi⟩⟩
 ·cases h
theorem PvAt.step {w:World}{f:zac}{k:Nat}{pv:List Value}(h:PvAt w f k pv){pa:Option Addr}{pl pc:Nat}(hp:PinSl w pa pl pc (plOf f k)):PvAt w f (k+1) (pv.set k (.slice pa pl pc)):=by
 refine⟨by simp[h.1],fun p v hv=>?_⟩;rw[qy]at hv;by_cases hk:k=p
 ·subst hk;rw[if_pos rfl]at hv;split at hv
  ·cases hv;exact⟨pa,pl,pc,rfl,by rw[if_pos (by omega)];exact hp⟩
  ·cases hv
 ·rw[if_neg hk]at hv;obtain⟨a,b,c,h1,h2⟩:=h.2 p v hv;refine⟨a,b,c,h1,?_⟩;by_cases hl:p<k
  ·rw[if_pos hl]at h2;rw[if_pos (by omega)];exact h2
  ·rw[if_neg hl]at h2;rw[if_neg (by omega)];exact h2
theorem PvAt.skip {w:World}{f:zac}{k k':Nat}{pv:List Value}(h:PvAt w f k pv)(hk:k<=k')(hn:∀ p,k<=p->p<k'->plOf f p=[]):PvAt w f k' pv:=by
 refine⟨h.1,fun p v hv=>?_⟩;obtain⟨a,b,c,h1,h2⟩:=h.2 p v hv;refine⟨a,b,c,h1,?_⟩;by_cases hl:p<k
 ·rw[if_pos hl]at h2;rw[if_pos (by omega)];exact h2
 ·rw[if_neg hl]at h2;by_cases hl2:p<k'
  ·rw[if_pos hl2,hn p (by omega) hl2];exact h2
  ·rw[if_neg hl2];exact h2
theorem zqr {f:zac}{s p:Nat}{v:SvcD}(hv:f.vs[s]?=some v)(h1:s*3+v.rels.length<=p)(h2:p<(s+1)*3):thB f p=false/\plOf f p=[]:=by
 have e:p / 3=s:=by omega
 unfold thB plOf;rw[e,hv];refine⟨by simp;omega,?_⟩;simp only;rw[uc,xq (by omega)];rfl
theorem zqs {f:zac}{p:Nat}(h:f.vs.length*3<=p):thB f p=false/\plOf f p=[]:=by
 unfold thB plOf;rw[xq (by omega)];exact⟨rfl,rfl⟩
theorem yaaj {f:zac}{s r:Nat}{v:SvcD}{ps:List PinD}(hv:f.vs[s]?=some v)(hr:v.rels[r]?=some ps)(h3:r<3):plOf f (s*3+r)=ps/\thB f (s*3+r)=true/\fsB f (s*3+r)=((r:Int) == v.now)/\wnB f (s*3+r)=((r:Int) == v.want):=by
 have e1:(s*3+r) / 3=s:=by omega
 have e2:(s*3+r) % 3=r:=by omega
 have hl:=(List.getElem?_eq_some_iff.1 hr).1;unfold plOf thB fsB wnB;rw[e1,e2,hv];have hg:v.rels[r]=ps:=by rw[xp hl]at hr;exact ue hr
 simp[uc,hl,hg]
theorem Tryz.zeroCht:Tryz.zeroCells114=((qd 189 false).map Value.bool).toArray:=by kernel_rfl
structure Ck (w:World)(fv:List Value)(wr:World)(bs:List Bool)(pv:List Value):Prop where
 F:RowIs wr w.heap.size 26 fv
 R:RowIs wr (w.heap.size+1) 114 ((qd 189 false).map .bool)
 C:RowIs wr (w.heap.size+1+1) 114 (bs.map .bool)
 P:RowIs wr (w.heap.size+1+1+1) 168 pv
 bl:Below w.heap.size w wr
theorem Ck.keep {w:World}{fv:List Value}{wr wr':World}{bs:List Bool}{pv:List Value}(h:Ck w fv wr bs pv)(hb:Below wr.heap.size wr wr'):Ck w fv wr' bs pv :=
 ⟨h.F.keep hb,h.R.keep hb,h.C.keep hb,h.P.keep hb,h.bl.trans (hb.mono h.bl.size)⟩
theorem Ck.setC {w:World}{fv:List Value}{wr:World}{bs:List Bool}{pv:List Value}(h:Ck w fv wr bs pv)(i:Nat)(x:Bool):Ck w fv (wr.setCell ⟨w.heap.size+1+1,i,none⟩ (.bool x)) (bs.set i x) pv:=by
 refine⟨h.F.setOther (by show w.heap.size+1+1≠w.heap.size;omega) _,h.R.setOther (by show w.heap.size+1+1≠w.heap.size+1;omega) _,?_,h.P.setOther (by show w.heap.size+1+1≠w.heap.size+1+1+1;omega) _,h.bl.setCell (by show w.heap.size<=w.heap.size+1+1;omega) _⟩;rw[List.map_set];exact h.C.set i (.bool x)
theorem Ck.setP {w:World}{fv:List Value}{wr:World}{bs:List Bool}{pv:List Value}(h:Ck w fv wr bs pv)(i:Nat)(v:Value):Ck w fv (wr.setCell ⟨w.heap.size+1+1+1,i,none⟩ v) bs (pv.set i v) :=
 ⟨h.F.setOther (by show w.heap.size+1+1+1≠w.heap.size;omega) _,h.R.setOther (by show w.heap.size+1+1+1≠w.heap.size+1;omega) _,h.C.setOther (by show w.heap.size+1+1+1≠w.heap.size+1+1;omega) _,h.P.set i v,h.bl.setCell (by show w.heap.size<=w.heap.size+1+1+1;omega) _⟩
theorem Ck.drew {w:World}{fv:List Value}{wr:World}{bs:List Bool}{pv:List Value}(h:Ck w fv wr bs pv):Ck w fv wr.drew bs pv:=⟨h.F,h.R,h.C,h.P,h.bl.drew⟩
theorem zq5 {w:World}{b o:Nat}{cs:List Value}(h:w.rangeAt b o cs){p:Addr}(hp:p.block≠b)(u:Value):(w.setCell p u).rangeAt b o cs:=fun j v hj=>by
 rw[World.cell?_setCell_far _ _ _ _ (by exact hp)];exact h j v hj
theorem zou (H:Nat->Nat->Bool):((xz 9).map fun a=>(xz 9).map (H a)).flatten=(xz 81).map fun q=>H (q / 9) (q % 9):=by
 have hr:∀ r∈((xz 9).map fun a=>(xz 9).map (H a)),r.length=9:=fun r hr=>by
  obtain⟨i,_,rfl⟩:=List.mem_map.1 hr;simp
 apply qj;intro k;by_cases hk:k<81
 ·have h1:((xz 9).map fun a=>(xz 9).map (H a))[k / 9]?=some ((xz 9).map (H (k / 9))):=by rw[xu,qg (by omega)];rfl
  have h2:=zh1 _ (k / 9) (k % 9) _ hr h1 (by omega);rw[show k / 9*9+k % 9=k by omega]at h2;rw[h2,xu,xu,qg (by omega),qg hk];rfl
 ·rw[xq (by rw[zff _ hr];simp;omega),xq (by simp;omega)]
theorem zva (f:zac):chB f (fun q=>cmpA (za9 f.ss) (plOf f (q / 9)) (plOf f (q % 9))) (fun q=>cmpF (za9 f.ss) f.ts (plOf f (q / 9)) (plOf f (q % 9))) 9 81=(zai f).bits:=by
 unfold chB ChD.bits zai;rw[zf6 _ 9 9 (fun p a b=>by omega),zf6 _ 9 9 (fun p a b=>by omega),zf6 _ 9 9 (fun p a b=>by omega),zf6 _ 81 81 (fun p a b=>by omega),zf6 _ 81 81 (fun p a b=>by omega)];simp only;rw[zou (fun a b=>cmpA (za9 f.ss) (plOf f a) (plOf f b)),zou (fun a b=>cmpF (za9 f.ss) f.ts (plOf f a) (plOf f b))]
theorem Ck.cellC {w:World}{fv:List Value}{wr:World}{bs:List Bool}{pv:List Value}(h:Ck w fv wr bs pv){i:Nat}(hi:i<bs.length):∃ u,wr.cell? ⟨w.heap.size+1+1,i,none⟩=some u:=⟨_,h.C.cell (by rw[xu,xp hi];rfl)⟩
theorem Ck.cellP {w:World}{fv:List Value}{wr:World}{bs:List Bool}{pv:List Value}(h:Ck w fv wr bs pv){i:Nat}(hi:i<pv.length):∃ u,wr.cell? ⟨w.heap.size+1+1+1,i,none⟩=some u:=⟨_,h.P.cell (xp hi)⟩
theorem zl3 (f:zac)(ho:Ord f)(sa ta va:Option Addr)(sl sc tl tc vl vc:Nat)(w:World)(hf:FleetAt w sa sl sc ta tl tc va vl vc f) :
  Calls Tryz.prog 47 #[.agg #[.slice sa sl sc,.slice ta tl tc,.slice va vl vc]] w fun e W=>e=.returned (.agg (zai f).cells.toArray)/\Below w.heap.size w W:=by
 have hv1:=hf.v1;have h3:=ho.vs3;have HF:= zaa hf;have HOD:= zaa ho;obtain⟨v1a,v1b⟩:vl<=f.vs.length/\f.vs.length<=vl:=by omega
 clear hf ho hv1;obtain⟨A,hA⟩:∃ A:Nat->Bool,A=fun q=>cmpA (za9 f.ss) (plOf f (q / 9)) (plOf f (q % 9)):=⟨_,rfl⟩;obtain⟨F,hFF⟩:∃ F:Nat->Bool,F=fun q=>cmpF (za9 f.ss) f.ts (plOf f (q / 9)) (plOf f (q % 9)):=⟨_,rfl⟩;have HA:= zaa hA;have HFF:= zaa hFF;clear hA hFF;have hck0:∀ W,W=((((w.alloc (.cells #[.slice sa sl sc,.slice ta tl tc,.slice va vl vc] 26)).alloc (.cells Tryz.zeroCells114 114)).alloc (.cells Tryz.zeroCells114 114)).alloc (.cells #[.slice none 0 0,.slice none 0 0,.slice none 0 0,.slice none 0 0,.slice none 0 0,.slice none 0 0,.slice none 0 0,.slice none 0 0,.slice none 0 0] 168))->Ck w [.slice sa sl sc,.slice ta tl tc,.slice va vl vc] W (chB f A F 0 0) (qd 9 (.slice none 0 0)):=fun W hW=>by
  subst hW;have z1:=zb5 w (.cells #[.slice sa sl sc,.slice ta tl tc,.slice va vl vc] 26);refine⟨?_,?_,?_,?_,((((Below.refl _ _).alloc (qo _) _).alloc (by simp) _).alloc (by simp;omega) _).alloc (by simp;omega) _⟩
  ·exact RowIs.keep (RowIs.keep (RowIs.keep (w:=w.alloc (.cells #[.slice sa sl sc,.slice ta tl tc,.slice va vl vc] 26)) (zal w _) (belS _ _)) (belS _ _)) (belS _ _)
  ·refine RowIs.keep (RowIs.keep ?_ (belS _ _)) (belS _ _);have:=zal (w.alloc (.cells #[.slice sa sl sc,.slice ta tl tc,.slice va vl vc] 26)) (.cells Tryz.zeroCells114 114);rw[z1]at this;unfold RowIs;rw[<- Tryz.zeroCht];exact this
  ·refine RowIs.keep ?_ (belS _ _);have:=zal ((w.alloc (.cells #[.slice sa sl sc,.slice ta tl tc,.slice va vl vc] 26)).alloc (.cells Tryz.zeroCells114 114)) (.cells Tryz.zeroCells114 114);rw[zb5,z1]at this;unfold RowIs;rw[zvd,<- Tryz.zeroCht];exact this
  ·have:=zal (((w.alloc (.cells #[.slice sa sl sc,.slice ta tl tc,.slice va vl vc] 26)).alloc (.cells Tryz.zeroCells114 114)).alloc (.cells Tryz.zeroCells114 114)) (.cells #[.slice none 0 0,.slice none 0 0,.slice none 0 0,.slice none 0 0,.slice none 0 0,.slice none 0 0,.slice none 0 0,.slice none 0 0,.slice none 0 0] 168);rw[zb5,zb5,z1]at this;exact this
 have HCK0:= zaa hck0;clear hck0
 go_enter Tryz.func47,Tryz.ntmps47
 go_wp2_with fail
 go_loopw [18] (fun vi wr=>∃ (s:Nat) (pv:List Value),s<=vl/\vi=.int .i64 s/\Hid (Ck w [.slice sa sl sc,.slice ta tl tc,.slice va vl vc] wr (chB f A F (s*3) 0) pv)/\Hid (PvAt w f (s*3) pv)) (fun s _=>vl-(intOf s).toNat)
 case atStart=>exact⟨0,_,qn _,rfl,HCK0.out _ rfl,PvAt.zero w f⟩
 case round =>
  obtain⟨s,pv,hs,rfl,hck,hpv⟩:=hrel
  rename World=>w5
  have hx0 := znn s;have hz5:=hck.out.P.lt;by_cases hlt:s<vl
  ·obtain⟨v,hv⟩:∃ v,f.vs[s]?=some v:=⟨f.vs[s]'(by omega),xp (by omega)⟩;obtain⟨b,o,ra,rl,rc,rfl,c0,c1,c2,c3,hrl⟩:=HF.out.v3 s v hv;have hpt:=HOD.out.parts (qp hv);have hrle:rl=v.rels.length:=hrl.1;obtain⟨rla,rlb⟩:rl<=v.rels.length/\v.rels.length<=rl:=by omega
   have hrl3:rl<=3:=by have:=hpt.2.1;omega
   have c0:=zab hck.out.bl c0;have c1:=zab hck.out.bl c1;have c2:=zab hck.out.bl c2;have c3:=zab hck.out.bl c3;have hbl:=zag c0;have hx1:(s:Int)<(vl:Int):=by omega
   have HV:= zaa hv;have HRL:= zaa hrl.2.2.2.2;have hsb:RowIs (w5.alloc (.cells #[.int .i64 v.size,.int .i64 v.now,.int .i64 v.want,.slice ra rl rc] 73)) w5.heap.size 73 [.int .i64 v.size,.int .i64 v.now,.int .i64 v.want,.slice ra rl rc]:=zal w5 _;have HSB:= zaa hsb;clear hv hrl hpt hrle hsb
   go_wp2_with fail
   clear c0 c1 c2 c3
   go_loopw [26] (fun vr wr=>∃ (r:Nat) (pv:List Value),r<=rl/\vr=.int .i64 r/\Hid (Ck w [.slice sa sl sc,.slice ta tl tc,.slice (some ⟨b,o,none⟩) vl vc] wr (chB f A F (s*3+r) 0) pv)/\Hid (PvAt w f (s*3+r) pv)/\RowIs wr w5.heap.size 73 [.int .i64 v.size,.int .i64 v.now,.int .i64 v.want,.slice ra rl rc]) (fun r _=>rl-(intOf r).toNat)
   case atStart=>exact⟨0,pv,qn _,rfl,hck.out.keep (belS _ _),hpv,HSB.out⟩
   case round =>
    clear hck hpv;obtain⟨r,pv,hr,rfl,hck,hpv,hsv⟩:=hrel;have hy0 := znn r;by_cases hrlt:r<rl
    ·obtain⟨ps,hps⟩:∃ ps,v.rels[r]?=some ps:=⟨v.rels[r]'(by omega),xp (by omega)⟩;obtain⟨bR,oR,pa,pl,pc,rfl,d0,hpsl⟩:=HRL.out r ps hps;obtain⟨e1,e2,e3,e4⟩:=yaaj HV.out hps (by omega);have d0:=zab hck.out.bl d0;have hy1:(r:Int)<(rl:Int):=by omega
     have hpl:=fun W=>zkh (s:Int) (r:Int) W;rw[show plI (s:Int) (r:Int)=((s*3+r:Nat):Int) by
      unfold plI;rw[show numB (s:Int) 3=true by unfold numB;simp;omega,show numB (r:Int) 3=true by unfold numB;simp;omega];simp]at hpl
     have hst:=zvc f A F (k:=s*3+r) (by omega);rw[e2,e3,e4]at hst;have hpp:PinSl w pa pl pc (plOf f (s*3+r)):=by rw[e1];exact hpsl
     have hpst:=hpv.out.step hpp;obtain⟨p0,hp0⟩:∃ p0,p0=s*3+r:=⟨_,rfl⟩;have hp9:p0<9:=by omega
     have hp9':((p0:Nat):Int)<9:=by omega
     have hp90:(0:Int)<=((p0:Nat):Int):=Int.natCast_nonneg _;rw[<- hp0]at hpl;have HP0:= zaa hp0;have HST:= zaa hst;have HPST:= zaa hpst;have s1:wr.cell? ⟨w5.heap.size,1,none⟩=some (.int .i64 v.now):=hsv.cell rfl;have s2:wr.cell? ⟨w5.heap.size,2,none⟩=some (.int .i64 v.want):=hsv.cell rfl;have hsl5:=hsv.lt;have hCl:=hck.out.C.lt;have hPl:=hck.out.P.lt;have HSV:= zaa hsv;clear hps hpsl e1 e2 e3 e4 hst hpst hpp hp0 hsv;have hrest:∀ w9,Below (wr.alloc (.cells #[.slice pa pl pc] 108)).heap.size (wr.alloc (.cells #[.slice pa pl pc] 108)) w9 ->
       ((∃ u,w9.cell? ⟨w.heap.size+1+1,p0,none⟩=some u)/\w9.frozen? ⟨w.heap.size+1+1,p0,none⟩=false) /\
       ((∃ u,(w9.setCell ⟨w.heap.size+1+1,p0,none⟩ (.bool true)).cell? ⟨w.heap.size+1+1,9+p0,none⟩=some u)/\(w9.setCell ⟨w.heap.size+1+1,p0,none⟩ (.bool true)).frozen? ⟨w.heap.size+1+1,9+p0,none⟩=false/\(w9.setCell ⟨w.heap.size+1+1,p0,none⟩ (.bool true)).cell? ⟨w5.heap.size,1,none⟩=some (.int .i64 v.now)) /\
       ((∃ u,((w9.setCell ⟨w.heap.size+1+1,p0,none⟩ (.bool true)).setCell ⟨w.heap.size+1+1,9+p0,none⟩ (.bool ((r:Int) == v.now))).cell? ⟨w.heap.size+1+1,18+p0,none⟩=some u)/\((w9.setCell ⟨w.heap.size+1+1,p0,none⟩ (.bool true)).setCell ⟨w.heap.size+1+1,9+p0,none⟩ (.bool ((r:Int) == v.now))).frozen? ⟨w.heap.size+1+1,18+p0,none⟩=false/\((w9.setCell ⟨w.heap.size+1+1,p0,none⟩ (.bool true)).setCell ⟨w.heap.size+1+1,9+p0,none⟩ (.bool ((r:Int) == v.now))).cell? ⟨w5.heap.size,2,none⟩=some (.int .i64 v.want)) /\
       ((∃ u,(((w9.setCell ⟨w.heap.size+1+1,p0,none⟩ (.bool true)).setCell ⟨w.heap.size+1+1,9+p0,none⟩ (.bool ((r:Int) == v.now))).setCell ⟨w.heap.size+1+1,18+p0,none⟩ (.bool ((r:Int) == v.want))).cell? ⟨w.heap.size+1+1+1,p0,none⟩=some u)/\(((w9.setCell ⟨w.heap.size+1+1,p0,none⟩ (.bool true)).setCell ⟨w.heap.size+1+1,9+p0,none⟩ (.bool ((r:Int) == v.now))).setCell ⟨w.heap.size+1+1,18+p0,none⟩ (.bool ((r:Int) == v.want))).frozen? ⟨w.heap.size+1+1+1,p0,none⟩=false/\(((w9.setCell ⟨w.heap.size+1+1,p0,none⟩ (.bool true)).setCell ⟨w.heap.size+1+1,9+p0,none⟩ (.bool ((r:Int) == v.now))).setCell ⟨w.heap.size+1+1,18+p0,none⟩ (.bool ((r:Int) == v.want))).cell? ⟨wr.heap.size,0,none⟩=some (.slice pa pl pc)) /\
       Ck w [.slice sa sl sc,.slice ta tl tc,.slice (some ⟨b,o,none⟩) vl vc] ((((w9.setCell ⟨w.heap.size+1+1,p0,none⟩ (.bool true)).setCell ⟨w.heap.size+1+1,9+p0,none⟩ (.bool ((r:Int) == v.now))).setCell ⟨w.heap.size+1+1,18+p0,none⟩ (.bool ((r:Int) == v.want))).setCell ⟨w.heap.size+1+1+1,p0,none⟩ (.slice pa pl pc)) (chB f A F (s*3+r+1) 0) (pv.set p0 (.slice pa pl pc)) /\
       RowIs ((((w9.setCell ⟨w.heap.size+1+1,p0,none⟩ (.bool true)).setCell ⟨w.heap.size+1+1,9+p0,none⟩ (.bool ((r:Int) == v.now))).setCell ⟨w.heap.size+1+1,18+p0,none⟩ (.bool ((r:Int) == v.want))).setCell ⟨w.heap.size+1+1+1,p0,none⟩ (.slice pa pl pc)) w5.heap.size 73 [.int .i64 v.size,.int .i64 v.now,.int .i64 v.want,.slice (some ⟨bR,oR,none⟩) rl rc]:=fun w9 hb9=>by
      have k9:=(hck.out.keep (belS wr (.cells #[.slice pa pl pc] 108))).keep hb9;have k1:=k9.setC p0 true;have k2:=k1.setC (9+p0) ((r:Int) == v.now);have k3:=k2.setC (18+p0) ((r:Int) == v.want);have k4:=k3.setP p0 (.slice pa pl pc);have v9:=(HSV.out.keep (belS wr (.cells #[.slice pa pl pc] 108))).keep hb9;have v1:=v9.setOther (p:=⟨w.heap.size+1+1,p0,none⟩) (by show w.heap.size+1+1≠w5.heap.size;omega) (.bool true);have v2:=v1.setOther (p:=⟨w.heap.size+1+1,9+p0,none⟩) (by show w.heap.size+1+1≠w5.heap.size;omega) (.bool ((r:Int) == v.now));have v3:=v2.setOther (p:=⟨w.heap.size+1+1,18+p0,none⟩) (by show w.heap.size+1+1≠w5.heap.size;omega) (.bool ((r:Int) == v.want));have v4:=v3.setOther (p:=⟨w.heap.size+1+1+1,p0,none⟩) (by show w.heap.size+1+1+1≠w5.heap.size;omega) (.slice pa pl pc);have r0:RowIs (wr.alloc (.cells #[.slice pa pl pc] 108)) wr.heap.size 108 [.slice pa pl pc]:=zal wr _;have r3:=(((r0.keep hb9).setOther (p:=⟨w.heap.size+1+1,p0,none⟩) (by show w.heap.size+1+1≠wr.heap.size;omega) (.bool true)).setOther (p:=⟨w.heap.size+1+1,9+p0,none⟩) (by show w.heap.size+1+1≠wr.heap.size;omega) (.bool ((r:Int) == v.now))).setOther (p:=⟨w.heap.size+1+1,18+p0,none⟩) (by show w.heap.size+1+1≠wr.heap.size;omega) (.bool ((r:Int) == v.want));have hl:=hpv.out.1;refine⟨⟨k9.cellC (by rw[zf5];omega),k9.C.frozen _⟩,⟨k1.cellC (by rw[xy,zf5];omega),k1.C.frozen _,v1.cell rfl⟩,⟨k2.cellC (by rw[xy,xy,zf5];omega),k2.C.frozen _,v2.cell rfl⟩,⟨k3.cellP (by omega),k3.P.frozen _,r3.cell rfl⟩,?_,v4⟩;rw[HST.out];rw[HP0.out]at k4 ⊢;exact k4
     have HREST:= zaa hrest;clear hrest
     go_wp2_with (go_at_call 107;refine(hpl _).mono ?_;rintro e w9 ⟨rfl,hb9⟩;have hR9:=(zaa (HREST.out w9 hb9));obtain⟨⟨⟨x0,y0⟩,z0⟩,⟨⟨x1,y1⟩,z1,t1⟩,⟨⟨x2,y2⟩,z2,t2⟩,⟨⟨x3,y3⟩,z3,t3⟩,_,_⟩:=hR9.out)
     go_roundw
     case rel=>exact⟨r+1,pv.set p0 (.slice pa pl pc),by omega,by go_num,hR9.out.2.2.2.2.1,by rw[HP0.out];exact HPST.out,hR9.out.2.2.2.2.2⟩
     case measure=>simp[intOf];omega
    ·have hre:r=rl:=by omega
     subst hre;have hrow:=zm6 f A F (k:=s*3+r) (k':=(s+1)*3) (by omega) (fun p a1 a2=>(zqr HV.out (by omega) a2).1);have hpv2:=hpv.out.skip (k':=(s+1)*3) (by omega) (fun p a1 a2=>(zqr HV.out (by omega) a2).2);have hck2:=hck.out;rw[hrow]at hck2;have HCK2:= zaa hck2;have HPV2:= zaa hpv2;clear hrow hpv2 hck2 hck hpv hsv
     go_wp2_with fail
     go_roundw
     case rel=>exact⟨s+1,pv,by omega,by go_num,HCK2,HPV2⟩
     case measure=>simp[intOf];omega
  ·have hse:s=vl:=by omega
   subst hse;have hrow:=zm6 f A F (k:=s*3) (k':=9) (by omega) (fun p a1 a2=>(zqs (by omega)).1);have hpv2:=hpv.out.skip (k':=9) (by omega) (fun p a1 a2=>(zqs (by omega)).2);have hck2:=hck.out;rw[hrow]at hck2;have HPV2:= zaa hpv2;have HCK2:= zaa hck2;clear hrow hpv2 hck2 hck hpv;obtain⟨T,hT⟩:∃ T,T=za9 f.ss:=⟨_,rfl⟩;have hTok:tabOk T:=by rw[hT];exact zfo _
   have hro:=fun (W:World) (h:Below w.heap.size w W)=>yabe f.ss HOD.out.sch W sa sc (HF.out.s4.keep h);rw[<- hT,<- HF.out.s1]at hro;have HT:= zaa hT;have it:=hTok.info;have it2:(Tryz.prog.info? 171).map (·.size)=some (tabC T).toArray.size:=by rw[qi];exact it
   have i1:(tabC T).toArray.all (·.oneCell')=true:=zd2 _;have hcl:(tabC T).length=64:=hTok.len;have hz:∀ W:World,(W.alloc (.cells #[.bool false,.bool false,.bool false,.bool false,.bool false,.bool false,.bool false,.bool false,.bool false,.bool false,.bool false,.bool false,.bool false,.bool false,.bool false,.bool false,.bool false,.bool false,.bool false,.bool false,.bool false,.bool false,.bool false,.bool false,.bool false,.bool false,.bool false,.bool false,.bool false,.bool false,.bool false,.bool false,.bool false,.bool false,.bool false,.bool false,.bool false,.bool false,.bool false,.bool false,.bool false,.bool false,.bool false,.bool false,.bool false,.bool false,.bool false,.bool false,.bool false,.bool false,.bool false,.bool false,.bool false,.bool false,.bool false,.bool false,.bool false,.bool false,.bool false,.bool false,.bool false,.bool false,.bool false,.bool false] 171)).there W.heap.size 0 (tabC T).toArray.size:=fun W=>by
    rw[show (tabC T).toArray.size=64 by simpa using hcl];exact zcm (zal W _)
   have HTOK:= zaa hTok;have HCL:= zaa hcl;clear hT hTok hcl;have f0:w5.cell? ⟨w.heap.size,0,none⟩=some (.slice sa sl sc):=HCK2.out.F.cell rfl;have hb5:=HCK2.out.bl;have hfl:w.heap.size<w5.heap.size:=zag f0
   go_wp2_with (first
    |(go_at_call 108;refine(hro _ hb5).mono ?_;rintro e w7 ⟨rfl,hb7⟩;have hz7:=hz w7)
    |(have hq:=hz7;refine wpList_store_mid rfl 171 _ _ rfl w7.heap.size 0 (tabC T).toArray rfl rfl hz7 it2 i1 ?_))
   have rt0:=qe (w7.alloc (.cells #[.bool false,.bool false,.bool false,.bool false,.bool false,.bool false,.bool false,.bool false,.bool false,.bool false,.bool false,.bool false,.bool false,.bool false,.bool false,.bool false,.bool false,.bool false,.bool false,.bool false,.bool false,.bool false,.bool false,.bool false,.bool false,.bool false,.bool false,.bool false,.bool false,.bool false,.bool false,.bool false,.bool false,.bool false,.bool false,.bool false,.bool false,.bool false,.bool false,.bool false,.bool false,.bool false,.bool false,.bool false,.bool false,.bool false,.bool false,.bool false,.bool false,.bool false,.bool false,.bool false,.bool false,.bool false,.bool false,.bool false,.bool false,.bool false,.bool false,.bool false,.bool false,.bool false,.bool false,.bool false] 171)) w7.heap.size 0 (tabC T) (by simpa using hz7);have hb8:Below w7.heap.size w7 ((w7.alloc (.cells #[.bool false,.bool false,.bool false,.bool false,.bool false,.bool false,.bool false,.bool false,.bool false,.bool false,.bool false,.bool false,.bool false,.bool false,.bool false,.bool false,.bool false,.bool false,.bool false,.bool false,.bool false,.bool false,.bool false,.bool false,.bool false,.bool false,.bool false,.bool false,.bool false,.bool false,.bool false,.bool false,.bool false,.bool false,.bool false,.bool false,.bool false,.bool false,.bool false,.bool false,.bool false,.bool false,.bool false,.bool false,.bool false,.bool false,.bool false,.bool false,.bool false,.bool false,.bool false,.bool false,.bool false,.bool false,.bool false,.bool false,.bool false,.bool false,.bool false,.bool false,.bool false,.bool false,.bool false,.bool false] 171)).setCells w7.heap.size 0 (tabC T)):=below_setCells w7.heap.size (qo _) _ _ (belS _ _);have hck8:=(HCK2.out.keep hb7).keep hb8;have HCK8:= zaa hck8;have HRT:= zaa rt0;clear hck8 rt0 hz hz7 f0;generalize (w7.alloc (.cells #[.bool false,.bool false,.bool false,.bool false,.bool false,.bool false,.bool false,.bool false,.bool false,.bool false,.bool false,.bool false,.bool false,.bool false,.bool false,.bool false,.bool false,.bool false,.bool false,.bool false,.bool false,.bool false,.bool false,.bool false,.bool false,.bool false,.bool false,.bool false,.bool false,.bool false,.bool false,.bool false,.bool false,.bool false,.bool false,.bool false,.bool false,.bool false,.bool false,.bool false,.bool false,.bool false,.bool false,.bool false,.bool false,.bool false,.bool false,.bool false,.bool false,.bool false,.bool false,.bool false,.bool false,.bool false,.bool false,.bool false,.bool false,.bool false,.bool false,.bool false,.bool false,.bool false,.bool false,.bool false] 171)).setCells w7.heap.size 0 (tabC T)=w8 at HCK8 HRT hb8 ⊢
   go_loopw [11] (fun va' wr=>∃ a:Nat,a<=9/\va'=.int .i64 a/\Hid (Ck w [.slice sa sl sc,.slice ta tl tc,.slice va s vc] wr (chB f A F 9 (a*9)) pv)/\Hid (wr.rangeAt w7.heap.size 0 (tabC T))) (fun a _=>9-(intOf a).toNat)
   case atStart=>exact⟨0,by omega,rfl,HCK8,HRT⟩
   case round =>
    obtain⟨a,ha,rfl,hck,hrt⟩:=hrel;have hx0 := znn a;by_cases hlt:a<9
    ·have hx1:(a:Int)<9:=by omega
     go_wp2_with fail
     go_loopw [12] (fun vb wr=>∃ b:Nat,b<=9/\vb=.int .i64 b/\Hid (Ck w [.slice sa sl sc,.slice ta tl tc,.slice va s vc] wr (chB f A F 9 (a*9+b)) pv)/\Hid (wr.rangeAt w7.heap.size 0 (tabC T))) (fun b _=>9-(intOf b).toNat)
     case atStart=>exact⟨0,by omega,rfl,hck,hrt⟩
     case round =>
      clear hck hrt;obtain⟨b,hbb,rfl,hck,hrt⟩:=hrel;have hy0 := znn b;by_cases hblt:b<9
      ·have hy1:(b:Int)<9:=by omega
       have hl9:=HPV2.out.1;obtain⟨va1,hva1⟩:∃ v,pv[a]?=some v:=⟨pv[a]'(by omega),xp (by omega)⟩;obtain⟨vb1,hvb1⟩:∃ v,pv[b]?=some v:=⟨pv[b]'(by omega),xp (by omega)⟩;obtain⟨pa,pl,pc,rfl,hpa⟩:=HPV2.out.2 a va1 hva1;obtain⟨qa,ql,qc,rfl,hqa⟩:=HPV2.out.2 b vb1 hvb1;rw[if_pos hlt]at hpa;rw[if_pos hblt]at hqa;have p1:wr.cell? ⟨w.heap.size+1+1+1,a,none⟩=some (.slice pa pl pc):=hck.out.P.cell hva1;have p2:wr.cell? ⟨w.heap.size+1+1+1,b,none⟩=some (.slice qa ql qc):=hck.out.P.cell hvb1;have f1:wr.cell? ⟨w.heap.size,1,none⟩=some (.slice ta tl tc):=hck.out.F.cell rfl;have hcmp:=fun (W:World) (h:Below w.heap.size w W)=>zvm T HTOK.out f.ts (plOf f a) (plOf f b) ta pa qa tc pc qc W HF.out.t2 hpa.2.1 hqa.2.1 (HF.out.t3.keep h) (hpa.2.2.2.2.keep h) (hqa.2.2.2.2.keep h);rw[<- HF.out.t1,<- hpa.1,<- hqa.1]at hcmp;have rt:=hrt.out;have hbl:=hck.out.bl;have lP:=zag p1;have lF:=zag f1;clear hva1 hvb1 hpa hqa hl9
       go_wp2_with fail
       refine wp_region_held_drew (S:=(fun w'=>(w'.cell? ⟨w.heap.size,1,none⟩=some (.slice ta tl tc)/\w'.cell? ⟨w.heap.size+1+1+1,a,none⟩=some (.slice pa pl pc)/\w'.cell? ⟨w.heap.size+1+1+1,b,none⟩=some (.slice qa ql qc))/\w'.rangeAt w7.heap.size 0 (tabC T))) (by kernel_rfl) ⟨⟨f1,p1,p2⟩,rt⟩ (fun hH=>?_);refine wpAnyH_take (i:=0) (v:=?_) rfl (by kernel_rfl) (by kernel_rfl) (by kernel_rfl) (fun _ _ _ h=>h) (xv ⟨by rfl,?_⟩) hH ?_;rotate_left
       ·intro w' hS';obtain⟨⟨hk1,hk2,hk3⟩,hk4⟩:=hS';clear hk4;go_simp<;>(try with_reducible rfl)
       simp only[xo,xe,xj,xm,xh,xf,xg];refine wpAnyH_take (i:=1) (v:=?_) rfl (by kernel_rfl) (by kernel_rfl) (by kernel_rfl) (fun _ _ _ h=>h) (xv ⟨by rfl,?_⟩) hH ?_;rotate_left
       ·intro w' hS';obtain⟨⟨hk1,hk2,hk3⟩,hk4⟩:=hS';clear hk4;go_simp<;>(try with_reducible rfl)
       simp only[xo,xe,xj,xm,xh,xf,xg];refine wpAnyH_take (i:=2) (v:=.agg (tabC T).toArray) rfl (by kernel_rfl) (by kernel_rfl) (by kernel_rfl) (fun _ _ _ h=>h) (yieldsIf_load_mid (by rfl) _ _ rfl _ _ rfl _ _ (fun w' h=>h.2) Tryz.underlying171 rfl it) hH ?_;simp only[xo,xe,xj,xm,xh,xf,xg];refine wpAnyH_take (i:=3) (v:=?_) rfl (by kernel_rfl) (by kernel_rfl) (by kernel_rfl) (fun _ _ _ h=>h) (xv ⟨by rfl,?_⟩) hH ?_;rotate_left
       ·intro w' hS';obtain⟨⟨hk1,hk2,hk3⟩,hk4⟩:=hS';clear hk4;go_simp<;>(try with_reducible rfl)
       simp only[xo,xe,xj,xm,xh,xf,xg];refine wpAnyH_take (i:=4) (v:=?_) rfl (by kernel_rfl) (by kernel_rfl) (by kernel_rfl) (fun _ _ _ h=>h) (xv ⟨by rfl,?_⟩) hH ?_;rotate_left
       ·intro w' hS';obtain⟨⟨hk1,hk2,hk3⟩,hk4⟩:=hS';clear hk4;go_simp<;>(try with_reducible rfl)
       simp only[xo,xe,xj,xm,xh,xf,xg];refine wpAnyH_take (i:=5) (v:=?_) rfl (by kernel_rfl) (by kernel_rfl) (by kernel_rfl) (fun _ _ _ h=>h) (xv ⟨by rfl,?_⟩) hH ?_;rotate_left
       ·intro w' hS';obtain⟨⟨hk1,hk2,hk3⟩,hk4⟩:=hS';clear hk4;go_simp<;>(try with_reducible rfl)
       simp only[xo,xe,xj,xm,xh,xf,xg];refine wpAnyH_take (i:=6) (v:=?_) rfl (by kernel_rfl) (by kernel_rfl) (by kernel_rfl) (fun _ _ _ h=>h) (xv ⟨by rfl,?_⟩) hH ?_;rotate_left
       ·intro w' hS';obtain⟨⟨hk1,hk2,hk3⟩,hk4⟩:=hS';clear hk4;go_simp<;>(try with_reducible rfl)
       simp only[xo,xe,xj,xm,xh,xf,xg];refine wpAnyH_take (i:=7) (v:=?_) rfl (by kernel_rfl) (by kernel_rfl) (by kernel_rfl) (fun _ _ _ h=>h) (xv ⟨by rfl,?_⟩) hH ?_;rotate_left
       ·intro w' hS';obtain⟨⟨hk1,hk2,hk3⟩,hk4⟩:=hS';clear hk4;go_simp<;>(try with_reducible rfl)
       simp only[xo,xe,xj,xm,xh,xf,xg];refine wpAnyH_take (i:=8) (v:=?_) rfl (by kernel_rfl) (by kernel_rfl) (by kernel_rfl) (fun _ _ _ h=>h) (xv ⟨by rfl,?_⟩) hH ?_;rotate_left
       ·intro w' hS';obtain⟨⟨hk1,hk2,hk3⟩,hk4⟩:=hS';clear hk4;go_simp<;>(try with_reducible rfl)
       simp only[xo,xe,xj,xm,xh,xf,xg];refine wpAnyH_ready (rs:=[9]) (by kernel_rfl) (by simp) ?_;refine qq rfl (fun K hK=>?_) qv
       go_simp
       refine(hcmp _ hbl.drew).mono ?_;rintro e w9 ⟨rfl,hb9⟩
       go_wp2_with fail
       refine hK.out _ _ ⟨⟨zab hb9 hH.1.1,zab hb9 hH.1.2.1,zab hb9 hH.1.2.2⟩,zaf hb9 hH.2⟩ (fun hH2=>?_);clear hK K
       replace hH:=hH2
       (try simp only[xo,xe,xj,xm,xh,xf,xg])
       refine wpAnyH_take (i:=10) (v:=?_) rfl (by kernel_rfl) (by kernel_rfl) (by kernel_rfl) (fun _ _ _ h=>h) (xv ⟨by rfl,?_⟩) hH ?_;rotate_left
       ·intro w' hS';obtain⟨⟨hk1,hk2,hk3⟩,hk4⟩:=hS';clear hk4;go_simp<;>(try with_reducible rfl)
       simp only[xo,xe,xj,xm,xh,xf,xg];refine wpAnyH_take (i:=11) (v:=?_) rfl (by kernel_rfl) (by kernel_rfl) (by kernel_rfl) (fun _ _ _ h=>h) (xv ⟨by rfl,?_⟩) hH ?_;rotate_left
       ·intro w' hS';obtain⟨⟨hk1,hk2,hk3⟩,hk4⟩:=hS';clear hk4;go_simp<;>(try with_reducible rfl)
       simp only[xo,xe,xj,xm,xh,xf,xg];refine wpAnyH_take (i:=12) (v:=?_) rfl (by kernel_rfl) (by kernel_rfl) (by kernel_rfl) (fun _ _ _ h=>h) (xv ⟨by rfl,?_⟩) hH ?_;rotate_left
       ·intro w' hS';obtain⟨⟨hk1,hk2,hk3⟩,hk4⟩:=hS';clear hk4;go_simp<;>(try with_reducible rfl)
       simp only[xo,xe,xj,xm,xh,xf,xg];refine wpAnyH_take (i:=13) (v:=?_) rfl (by kernel_rfl) (by kernel_rfl) (by kernel_rfl) (fun _ _ _ h=>h) (xv ⟨by rfl,?_⟩) hH ?_;rotate_left
       ·intro w' hS';obtain⟨⟨hk1,hk2,hk3⟩,hk4⟩:=hS';clear hk4;go_simp<;>(try with_reducible rfl)
       simp only[xo,xe,xj,xm,xh,xf,xg];refine wpAnyH_take (i:=14) (v:=?_) rfl (by kernel_rfl) (by kernel_rfl) (by kernel_rfl) (fun _ _ _ h=>h) (xv ⟨by rfl,?_⟩) hH ?_;rotate_left
       ·intro w' hS';obtain⟨⟨hk1,hk2,hk3⟩,hk4⟩:=hS';clear hk4;go_simp<;>(try with_reducible rfl)
       simp only[xo,xe,xj,xm,xh,xf,xg];refine wpAnyH_done (by kernel_rfl) ?_ _;have k9:=hck.out.drew.keep hb9;have k10:=k9.setC (27+a*9+b) (cmpA T (plOf f a) (plOf f b));obtain⟨y1,m1⟩:=k9.cellC (i:=27+a*9+b) (by rw[zf5];omega);obtain⟨y2,m2⟩:=k10.cellC (i:=108+a*9+b) (by rw[xy,zf5];omega);have g1:=k9.C.frozen (27+a*9+b);have g2:=k10.C.frozen (108+a*9+b);have hst:=zvb f A F (k:=9) (q:=a*9+b) (by omega);have hAq:A (a*9+b)=cmpA T (plOf f a) (plOf f b):=by rw[HA.out,HT.out];show cmpA (za9 f.ss) (plOf f ((a*9+b) / 9)) (plOf f ((a*9+b) % 9))=_;rw[show (a*9+b) / 9=a by omega,show (a*9+b) % 9=b by omega]
       have hFq:F (a*9+b)=cmpF T f.ts (plOf f a) (plOf f b):=by rw[HFF.out,HT.out];show cmpF (za9 f.ss) f.ts (plOf f ((a*9+b) / 9)) (plOf f ((a*9+b) % 9))=_;rw[show (a*9+b) / 9=a by omega,show (a*9+b) % 9=b by omega]
       rw[hAq,hFq,<- ua,<- ua]at hst;have k11:=k10.setC (108+a*9+b) (cmpF T f.ts (plOf f a) (plOf f b));rw[<- hst]at k11;have hne7:w.heap.size+1+1≠w7.heap.size:=fun h=>by have:=hb7.size;omega
       have r11:=zq5 (zq5 hH.2 (p:=⟨w.heap.size+1+1,27+a*9+b,none⟩) hne7 (.bool (cmpA T (plOf f a) (plOf f b)))) (p:=⟨w.heap.size+1+1,108+a*9+b,none⟩) hne7 (.bool (cmpF T f.ts (plOf f a) (plOf f b)));have K11:= zaa k11;have R11:= zaa r11;clear k11 r11 hst hAq hFq k9 k10 hH hck hrt
       go_wp2_with fail
       go_roundw
       case rel=>exact⟨b+1,by omega,by go_num,K11,R11⟩
       case measure=>simp[intOf];omega
      ·have hbe:b=9:=by omega
       subst hbe;rw[show a*9+9=(a+1)*9 by omega]at hck
       go_wp2_with fail
       go_roundw
       case rel=>exact⟨a+1,by omega,by go_num,hck,hrt⟩
       case measure=>simp[intOf];omega
    ·have hae:a=9:=by omega
     subst hae
     rename World=>w6
     have hk:=hck.out;rw[show 9*9=81 from rfl,HA.out,HFF.out,zva]at hk;obtain⟨C,hCe⟩:∃ C,C=(zai f).cells:=⟨_,rfl⟩;have hrow:RowIs w6 (w.heap.size+1+1) 114 C:=by rw[hCe];exact hk.C
     have hCl:C.length=189:=by rw[hCe];exact(zf9 f).len
     have hr6:=zbl hrow;have ht6:w6.there (w.heap.size+1) 0 C.toArray.size:=by
      rw[show C.toArray.size=189 by simpa using hCl];have:=zcm hk.R;simpa using this
     have hi6:(Tryz.prog.info? 114).map (·.size)=some C.length:=by rw[hCl];exact Tryz.infoCht
     have hi7:(Tryz.prog.info? 114).map (·.size)=some C.toArray.size:=by rw[qi];exact hi6
     have h16:C.toArray.all (·.oneCell')=true:=by rw[hCe];exact zd2 _
     have hbF:=hk.bl;have HCe:= zaa hCe;clear hCe hrow hCl hk hck hrt
     go_wp2_with (first
      |(refine wpList_load_mid (w:=w6) rfl 114 _ rfl (w.heap.size+1+1) 0 rfl C _ hr6 Tryz.underlying114 rfl hi6 ?_)
      |(refine wpList_store_mid (w:=w6) rfl 114 _ _ rfl (w.heap.size+1) 0 C.toArray rfl rfl ht6 hi7 h16 ?_))
     have hrs:=qe w6 (w.heap.size+1) 0 C (by simpa using ht6);refine bodyPost_ret (v:=.agg C.toArray) ?_ rfl ⟨by rw[HCe.out],below_setCells (w.heap.size+1) (Nat.le_succ _) _ _ hbF⟩;have hlv:=run_loadVar_mid (P:=Tryz.prog) _ (w.heap.size+1) 0 114 C _ hrs Tryz.underlying114 rfl hi6;simp[results,Tryz.results47,asAddr,xo,hlv]
end
section
def sndB (c:ChD):Bool:=(xz 9).all fun i=>!(c.fst.getD i false)||algB c.fst (c.alg.getD i [])
theorem zmf (c:ChD)(hc:c.ok)(w:World):Calls Tryz.prog 48 #[.agg c.cells.toArray] w fun e W=>e=.returned (.bool (sndB c))/\Below w.heap.size w W:=by
 have hq1:=zbl (zal w (.cells c.cells.toArray 114));have r1:=zc6 (k:=9) (ds:=c.fst.map Value.bool) hq1 (fun j v hj=>by
   rw[xu]at hj;obtain⟨b,hb,rfl⟩:=qm.1 hj;rw[ChD.cells,xu,hc.get_fst hb];rfl)
 rw[ud]at r1;have i1:(Tryz.prog.info? 111).map (·.size)=some (c.fst.map Value.bool).length:=by rw[q9,hc.fst];exact Tryz.infoSet
 obtain⟨R,hR⟩:∃ R,R=sndB c:=⟨_,rfl⟩;rw[<- hR];have HR:Hid (R=(xz 9).all fun i=>!(c.fst.getD i false)||algB c.fst (c.alg.getD i [])):=hR;have HC:=((show Hid (ChD.ok c)from hc));clear hR hc
 go_enter Tryz.func48,Tryz.ntmps48
 go_wp2_with (refine wpList_load_mid (w:=w.alloc (.cells c.cells.toArray 114)) rfl 111 _ rfl w.heap.size 9 rfl (c.fst.map Value.bool) _ r1 Tryz.underlying111 rfl i1 ?_)
 go_loopw [7] (fun vi wr=>∃ i:Nat,i<=9/\vi=.int .i64 i/\Hid ((xz i).all (fun i=>!(c.fst.getD i false)||algB c.fst (c.alg.getD i []))=true)/\Below (w.alloc (.cells c.cells.toArray 114)).heap.size (w.alloc (.cells c.cells.toArray 114)) wr) (fun i _=>9-(intOf i).toNat)
 case atStart=>exact⟨0,by omega,rfl,(by show _=_;rfl),Below.refl _ _⟩
 case round =>
  obtain⟨i,hi9,rfl,hn,hb⟩:=hrel;have hbw:=thn3 (belS w _) hb;by_cases hlt:i<9
  ·have hc:=HC.out;obtain⟨x,hx⟩:∃ x,c.fst[i]?=some x:=⟨c.fst[i]'(by rw[hc.fst];omega),xp (by rw[hc.fst];omega)⟩;obtain⟨ra,hra⟩:∃ r,c.alg[i]?=some r:=⟨c.alg[i]'(by rw[hc.alg];omega),xp (by rw[hc.alg];omega)⟩;have la:=hc.algr ra (qp hra);have q1:=zaf hb r1;have q2:=zc6 (k:=27+i*9) (ds:=ra.map Value.bool) (zaf hb hq1) (fun j v hj=>by
    rw[xu]at hj;obtain⟨b,hb,rfl⟩:=qm.1 hj;rw[ChD.cells,xu,hc.get_alg hra hb];rfl)
   rw[ud]at q2;have a1:=fun W=>zjj c.fst ra hc.fst la W;have i2:(Tryz.prog.info? 111).map (·.size)=some (ra.map Value.bool).length:=by rw[q9,la];exact Tryz.infoSet
   have hidx:=fun W=>zgx (P:=Tryz.prog) (w:=W) 111 4 .bool 9 (c.fst.map Value.bool).toArray .i64 i Tryz.underlying111 Tryz.infoBool Tryz.underlying4 (fun _ h=>by cases h) (fun _ _ h=>by cases h) hlt (.bool x) (by simp[hx]);have hFx:(!(c.fst.getD i false)||algB c.fst (c.alg.getD i []))=(!x||algB c.fst ra):=by simp[uc,hx,hra]
   generalize algB c.fst ra=y at a1 hFx;have hno:(!x||y)=false->R=false:=fun h=>by rw[HR.out];exact zjk hlt (by rw[hFx];exact h)
   have hyes:(!x||y)=true->Hid ((xz (i+1)).all (fun i=>!(c.fst.getD i false)||algB c.fst (c.alg.getD i []))=true):=fun h=>by show _=_;rw[zmu,hn.out,hFx,h];rfl
   have hx0 := znn i;have hx1:(i:Int)<9:=by omega
   clear hFx hn hx hra hq1 HR r1 hc;cases x with
   |true =>
    cases y with
    |true =>
     have hy':=hyes rfl;clear hno hyes
     go_wp2_with fail
     refine wp_region_held_drew (S:=(fun w'=>w'.rangeAt w.heap.size 9 (c.fst.map Value.bool)/\w'.rangeAt w.heap.size (27+i*9) (ra.map Value.bool))) (by kernel_rfl) ⟨q1,q2⟩ (fun hH=>?_);refine wpAnyH_take (i:=0) (v:=?_) rfl (by kernel_rfl) (by kernel_rfl) (by kernel_rfl) (fun _ _ _ h=>h) (xv ⟨by rfl,?_⟩) hH ?_;rotate_left
     ·intro w' hS';(try dsimp only at hS');go_simp<;>(try with_reducible rfl)
     simp only[xo,xe,xj,xm,xh,xf,xg];refine wpAnyH_take (i:=1) (v:=?_) rfl (by kernel_rfl) (by kernel_rfl) (by kernel_rfl) (fun _ _ _ h=>h) (xv ⟨by rfl,?_⟩) hH ?_;rotate_left
     ·intro w' hS';(try dsimp only at hS');go_simp<;>(try with_reducible rfl)
     simp only[xo,xe,xj,xm,xh,xf,xg];refine wpAnyH_take (i:=2) (v:=?_) rfl (by kernel_rfl) (by kernel_rfl) (by kernel_rfl) (fun _ _ _ h=>h) (xv ⟨by rfl,?_⟩) hH ?_;rotate_left
     ·intro w' hS';(try dsimp only at hS');go_simp<;>(try with_reducible rfl)
     simp only[xo,xe,xj,xm,xh,xf,xg];refine wpAnyH_take (i:=3) (v:=.agg (c.fst.map Value.bool).toArray) rfl (by kernel_rfl) (by kernel_rfl) (by kernel_rfl) (fun _ _ _ h=>h) (yieldsIf_load_mid (by rfl) _ _ rfl _ _ rfl _ _ (fun w' h=>h.1) Tryz.underlying111 rfl i1) hH ?_;simp only[xo,xe,xj,xm,xh,xf,xg];refine wpAnyH_take (i:=4) (v:=?_) rfl (by kernel_rfl) (by kernel_rfl) (by kernel_rfl) (fun _ _ _ h=>h) (xv ⟨by rfl,?_⟩) hH ?_;rotate_left
     ·intro w' hS';(try dsimp only at hS');go_simp<;>(try with_reducible rfl)
     simp only[xo,xe,xj,xm,xh,xf,xg];refine wpAnyH_take (i:=5) (v:=?_) rfl (by kernel_rfl) (by kernel_rfl) (by kernel_rfl) (fun _ _ _ h=>h) (xv ⟨by rfl,?_⟩) hH ?_;rotate_left
     ·intro w' hS';(try dsimp only at hS');go_simp<;>(try with_reducible rfl)
     simp only[xo,xe,xj,xm,xh,xf,xg];refine wpAnyH_take (i:=6) (v:=?_) rfl (by kernel_rfl) (by kernel_rfl) (by kernel_rfl) (fun _ _ _ h=>h) (xv ⟨by rfl,?_⟩) hH ?_;rotate_left
     ·intro w' hS';(try dsimp only at hS');go_simp<;>(try with_reducible rfl)
     simp only[xo,xe,xj,xm,xh,xf,xg];refine wpAnyH_take (i:=7) (v:=.agg (ra.map Value.bool).toArray) rfl (by kernel_rfl) (by kernel_rfl) (by kernel_rfl) (fun _ _ _ h=>h) (yieldsIf_load_mid (by rfl) _ _ rfl _ _ rfl _ _ (fun w' h=>h.2) Tryz.underlying111 rfl i2) hH ?_;simp only[xo,xe,xj,xm,xh,xf,xg];refine wpAnyH_ready (rs:=[8]) (by kernel_rfl) (by simp) ?_;refine qq rfl (fun K hK=>?_) qv
     go_simp
     refine(a1 _).mono ?_;rintro e w1 ⟨rfl,hb1⟩
     go_wp2_with fail
     refine hK.out _ _ ⟨zaf hb1 hH.1,zaf hb1 hH.2⟩ (fun hH2=>?_);clear hK K
     replace hH:=hH2
     (try simp only[xo,xe,xj,xm,xh,xf,xg])
     refine wpAnyH_take (i:=9) (v:=?_) rfl (by kernel_rfl) (by kernel_rfl) (by kernel_rfl) (fun _ _ _ h=>h) (xv ⟨by rfl,?_⟩) hH ?_;rotate_left
     ·intro w' hS';(try dsimp only at hS');go_simp<;>(try with_reducible rfl)
     simp only[xo,xe,xj,xm,xh,xf,xg];refine wpAnyH_take (i:=10) (v:=?_) rfl (by kernel_rfl) (by kernel_rfl) (by kernel_rfl) (fun _ _ _ h=>h) (xv ⟨by rfl,?_⟩) hH ?_;rotate_left
     ·intro w' hS';(try dsimp only at hS');go_simp<;>(try with_reducible rfl)
     simp only[xo,xe,xj,xm,xh,xf,xg];refine wpAnyH_done (by kernel_rfl) ?_ _
     go_wp2_with fail
     go_roundw
     case rel=>exact⟨i+1,by omega,by go_num,hy',thn3 hb.drew hb1⟩
     case measure=>simp[intOf];omega
    |false =>
     have hR1:=hno rfl;clear hno hyes;subst hR1
     go_wp2_with fail
     refine wp_region_held_drew (S:=(fun w'=>w'.rangeAt w.heap.size 9 (c.fst.map Value.bool)/\w'.rangeAt w.heap.size (27+i*9) (ra.map Value.bool))) (by kernel_rfl) ⟨q1,q2⟩ (fun hH=>?_);refine wpAnyH_take (i:=0) (v:=?_) rfl (by kernel_rfl) (by kernel_rfl) (by kernel_rfl) (fun _ _ _ h=>h) (xv ⟨by rfl,?_⟩) hH ?_;rotate_left
     ·intro w' hS';(try dsimp only at hS');go_simp<;>(try with_reducible rfl)
     simp only[xo,xe,xj,xm,xh,xf,xg];refine wpAnyH_take (i:=1) (v:=?_) rfl (by kernel_rfl) (by kernel_rfl) (by kernel_rfl) (fun _ _ _ h=>h) (xv ⟨by rfl,?_⟩) hH ?_;rotate_left
     ·intro w' hS';(try dsimp only at hS');go_simp<;>(try with_reducible rfl)
     simp only[xo,xe,xj,xm,xh,xf,xg];refine wpAnyH_take (i:=2) (v:=?_) rfl (by kernel_rfl) (by kernel_rfl) (by kernel_rfl) (fun _ _ _ h=>h) (xv ⟨by rfl,?_⟩) hH ?_;rotate_left
     ·intro w' hS';(try dsimp only at hS');go_simp<;>(try with_reducible rfl)
     simp only[xo,xe,xj,xm,xh,xf,xg];refine wpAnyH_take (i:=3) (v:=.agg (c.fst.map Value.bool).toArray) rfl (by kernel_rfl) (by kernel_rfl) (by kernel_rfl) (fun _ _ _ h=>h) (yieldsIf_load_mid (by rfl) _ _ rfl _ _ rfl _ _ (fun w' h=>h.1) Tryz.underlying111 rfl i1) hH ?_;simp only[xo,xe,xj,xm,xh,xf,xg];refine wpAnyH_take (i:=4) (v:=?_) rfl (by kernel_rfl) (by kernel_rfl) (by kernel_rfl) (fun _ _ _ h=>h) (xv ⟨by rfl,?_⟩) hH ?_;rotate_left
     ·intro w' hS';(try dsimp only at hS');go_simp<;>(try with_reducible rfl)
     simp only[xo,xe,xj,xm,xh,xf,xg];refine wpAnyH_take (i:=5) (v:=?_) rfl (by kernel_rfl) (by kernel_rfl) (by kernel_rfl) (fun _ _ _ h=>h) (xv ⟨by rfl,?_⟩) hH ?_;rotate_left
     ·intro w' hS';(try dsimp only at hS');go_simp<;>(try with_reducible rfl)
     simp only[xo,xe,xj,xm,xh,xf,xg];refine wpAnyH_take (i:=6) (v:=?_) rfl (by kernel_rfl) (by kernel_rfl) (by kernel_rfl) (fun _ _ _ h=>h) (xv ⟨by rfl,?_⟩) hH ?_;rotate_left
     ·intro w' hS';(try dsimp only at hS');go_simp<;>(try with_reducible rfl)
     simp only[xo,xe,xj,xm,xh,xf,xg];refine wpAnyH_take (i:=7) (v:=.agg (ra.map Value.bool).toArray) rfl (by kernel_rfl) (by kernel_rfl) (by kernel_rfl) (fun _ _ _ h=>h) (yieldsIf_load_mid (by rfl) _ _ rfl _ _ rfl _ _ (fun w' h=>h.2) Tryz.underlying111 rfl i2) hH ?_;simp only[xo,xe,xj,xm,xh,xf,xg];refine wpAnyH_ready (rs:=[8]) (by kernel_rfl) (by simp) ?_;refine qq rfl (fun K hK=>?_) qv
     go_simp
     refine(a1 _).mono ?_;rintro e w1 ⟨rfl,hb1⟩
     go_wp2_with fail
     refine hK.out _ _ ⟨zaf hb1 hH.1,zaf hb1 hH.2⟩ (fun hH2=>?_);clear hK K
     replace hH:=hH2
     (try simp only[xo,xe,xj,xm,xh,xf,xg])
     refine wpAnyH_take (i:=9) (v:=?_) rfl (by kernel_rfl) (by kernel_rfl) (by kernel_rfl) (fun _ _ _ h=>h) (xv ⟨by rfl,?_⟩) hH ?_;rotate_left
     ·intro w' hS';(try dsimp only at hS');go_simp<;>(try with_reducible rfl)
     simp only[xo,xe,xj,xm,xh,xf,xg];refine wpAnyH_take (i:=10) (v:=?_) rfl (by kernel_rfl) (by kernel_rfl) (by kernel_rfl) (fun _ _ _ h=>h) (xv ⟨by rfl,?_⟩) hH ?_;rotate_left
     ·intro w' hS';(try dsimp only at hS');go_simp<;>(try with_reducible rfl)
     simp only[xo,xe,xj,xm,xh,xf,xg];refine wpAnyH_done (by kernel_rfl) ?_ _
     go_wp2_with fail
     go_ret;exact⟨rfl,thn3 hbw.drew hb1⟩
   |false =>
    have hy':=hyes rfl;clear hno hyes
    go_wp2_with fail
    refine wp_region_held_drew (S:=(fun w'=>w'.rangeAt w.heap.size 9 (c.fst.map Value.bool)/\w'.rangeAt w.heap.size (27+i*9) (ra.map Value.bool))) (by kernel_rfl) ⟨q1,q2⟩ (fun hH=>?_);refine wpAnyH_take (i:=0) (v:=?_) rfl (by kernel_rfl) (by kernel_rfl) (by kernel_rfl) (fun _ _ _ h=>h) (xv ⟨by rfl,?_⟩) hH ?_;rotate_left
    ·intro w' hS';(try dsimp only at hS');go_simp<;>(try with_reducible rfl)
    simp only[xo,xe,xj,xm,xh,xf,xg];refine wpAnyH_take (i:=1) (v:=?_) rfl (by kernel_rfl) (by kernel_rfl) (by kernel_rfl) (fun _ _ _ h=>h) (xv ⟨by rfl,?_⟩) hH ?_;rotate_left
    ·intro w' hS';(try dsimp only at hS');go_simp<;>(try with_reducible rfl)
    simp only[xo,xe,xj,xm,xh,xf,xg];refine wpAnyH_take (i:=2) (v:=undef) rfl (by kernel_rfl) (by kernel_rfl) (by kernel_rfl) (fun _ _ _ h=>h) (qx ⟨by rfl,rfl⟩) hH ?_;simp only[xo,xe,xj,xm,xh,xf,xg];refine wpAnyH_take (i:=3) (v:=undef) rfl (by kernel_rfl) (by kernel_rfl) (by kernel_rfl) (fun _ _ _ h=>h) (qx ⟨by rfl,rfl⟩) hH ?_;simp only[xo,xe,xj,xm,xh,xf,xg];refine wpAnyH_take (i:=4) (v:=undef) rfl (by kernel_rfl) (by kernel_rfl) (by kernel_rfl) (fun _ _ _ h=>h) (qx ⟨by rfl,rfl⟩) hH ?_;simp only[xo,xe,xj,xm,xh,xf,xg];refine wpAnyH_take (i:=5) (v:=undef) rfl (by kernel_rfl) (by kernel_rfl) (by kernel_rfl) (fun _ _ _ h=>h) (qx ⟨by rfl,rfl⟩) hH ?_;simp only[xo,xe,xj,xm,xh,xf,xg];refine wpAnyH_take (i:=6) (v:=undef) rfl (by kernel_rfl) (by kernel_rfl) (by kernel_rfl) (fun _ _ _ h=>h) (qx ⟨by rfl,rfl⟩) hH ?_;simp only[xo,xe,xj,xm,xh,xf,xg];refine wpAnyH_take (i:=7) (v:=undef) rfl (by kernel_rfl) (by kernel_rfl) (by kernel_rfl) (fun _ _ _ h=>h) (qx ⟨by rfl,rfl⟩) hH ?_;simp only[xo,xe,xj,xm,xh,xf,xg];refine wpAnyH_take (i:=8) (v:=undef) rfl (by kernel_rfl) (by kernel_rfl) (by kernel_rfl) (fun _ _ _ h=>h) (qx ⟨by rfl,rfl⟩) hH ?_;simp only[xo,xe,xj,xm,xh,xf,xg];refine wpAnyH_take (i:=9) (v:=undef) rfl (by kernel_rfl) (by kernel_rfl) (by kernel_rfl) (fun _ _ _ h=>h) (qx ⟨by rfl,rfl⟩) hH ?_;simp only[xo,xe,xj,xm,xh,xf,xg];refine wpAnyH_take (i:=10) (v:=?_) rfl (by kernel_rfl) (by kernel_rfl) (by kernel_rfl) (fun _ _ _ h=>h) (xv ⟨by rfl,?_⟩) hH ?_;rotate_left
    ·intro w' hS';(try dsimp only at hS');go_simp<;>(try with_reducible rfl)
    simp only[xo,xe,xj,xm,xh,xf,xg];refine wpAnyH_done (by kernel_rfl) ?_ _
    go_wp2_with fail
    go_roundw
    case rel=>exact⟨i+1,by omega,by go_num,hy',hb.drew⟩
    case measure=>simp[intOf];omega
  ·have hR1:R=true:=by rw[HR.out,<- hn.out,show i=9 by omega]
   clear HR hn;subst hR1
   go_wp2_with fail
   go_ret;exact⟨rfl,hbw⟩
end
section
set_option maxRecDepth 16000
open Go.Lib (below_setCells)
theorem zs7 (c:ChD)(n cap:Nat)(a:Option Addr)(hl:200<n)(hn:n<=2000000)(w:World) :
  Calls Tryz.prog 67 #[.agg c.cells.toArray,.slice a n cap] w fun e W=>e=.returned (.bool false)/\Below w.heap.size w W:=by
 have hl':(200:Int)<(n:Int):=by omega
 go_enter Tryz.func67,Tryz.ntmps67
 go_wp2_with fail
 go_ret;exact⟨rfl,belS _ _⟩
def amB (c:ChD)(ms:List (Int×Int)):Bool:=decide (ms.length<=200)&&mvsB c (begD c) ms
theorem zs5 (c:ChD)(hc:c.ok)(ms:List (Int×Int))(w:World)(a:Option Addr)(cap:Nat)(hl:ms.length<=2000000)(hp:MvsAt w a ms) :
  Calls Tryz.prog 67 #[.agg c.cells.toArray,.slice a ms.length cap] w fun e W=>e=.returned (.bool (amB c ms))/\Below w.heap.size w W:=by
 unfold amB;by_cases h:ms.length<=200
 ·rw[decide_eq_true h,Bool.true_and];exact zs6 c hc ms w a cap h hp
 ·rw[decide_eq_false h,Bool.false_and];exact zs7 c ms.length cap a (by omega) hl w
def zbd (f:zac)(ms:List (Int×Int)):Int×Int :=
 if ordB f=true then (if amB (zai f) ms=true then (if sndB (zai f)=true then ((sfN (zai f) (begD (zai f)) ms:Nat),0) else (0,10)) else (0,9)) else (0,8)
theorem zjc (f:zac)(sa ta va:Option Addr)(sl sc tl tc vl vc:Nat)(ms:List (Int×Int))(ma:Option Addr)(mc:Nat)(w:World)(hf:FleetAt w sa sl sc ta tl tc va vl vc f)(hml:ms.length<=2000000)(hm:MvsAt w ma ms) :
  Calls Tryz.prog 25 #[.agg #[.slice sa sl sc,.slice ta tl tc,.slice va vl vc],.slice ma ms.length mc] w fun e W=>e=.returned (.tuple #[.int .i64 (zbd f ms).1,.int .i64 (zbd f ms).2])/\Below w.heap.size w W:=by
 have f0:=box3 w (.slice sa sl sc) (.slice ta tl tc) (.slice va vl vc) 26;have hio:=fun (W:World) (h:Below w.heap.size w W)=>zl6 f sa ta va sl sc tl tc vl vc W (hf.keep h);unfold zbd;cases hob:ordB f with
 |false =>
  rw[hob]at hio;simp only[qh,if_false];clear hf hm
  go_enter Tryz.func25,Tryz.ntmps25
  go_wp2_with (go_at_call 46;refine(hio _ (bel1 _ _)).mono ?_;rintro e w1 ⟨rfl,hb1⟩)
  go_ret2
  exact⟨rfl,thn3 (bel1 _ _) hb1⟩
 |true =>
  rw[hob]at hio;simp only[if_true];have ho:=zb3 hob;have hch:=fun (W:World) (h:Below w.heap.size w W)=>zl3 f ho sa ta va sl sc tl tc vl vc W (hf.keep h);have hok:=zf9 f;have ham:=fun (W:World) (h:Below w.heap.size w W)=>zs5 (zai f) hok ms W ma mc hml (fun i m hi=>by obtain⟨b,o,h1,h2,h3⟩:=hm i m hi;exact⟨b,o,h1,zab h h2,zab h h3⟩);have hsn:=fun (W:World)=>zmf (zai f) hok W;have hsf:=fun (hl:ms.length<=200) (W:World) (h:Below w.heap.size w W)=>ztt (zai f) hok ms W ma mc hl (fun i m hi=>by obtain⟨b,o,h1,h2,h3⟩:=hm i m hi;exact⟨b,o,h1,zab h h2,zab h h3⟩);have hi6:(Tryz.prog.info? 114).map (·.size)=some (zai f).cells.length:=by rw[hok.len];exact Tryz.infoCht
  have h16:(zai f).cells.toArray.all (·.oneCell')=true:=zd2 _;have hCl:=hok.len;have hleam:amB (zai f) ms=true->ms.length<=200:=fun h=>by unfold amB at h;rw[Bool.and_eq_true]at h;exact of_decide_eq_true h.1
  generalize amB (zai f) ms=x at ham hleam;generalize sndB (zai f)=y at hsn;generalize (sfN (zai f) (begD (zai f)) ms)=z at hsf;generalize (zai f).cells=C at hch ham hsn hsf hi6 h16 hCl;have hi7:(Tryz.prog.info? 114).map (·.size)=some C.toArray.size:=by rw[qi];exact hi6
  have hz:∀ W:World,(W.alloc (.cells Tryz.zeroCells114 114)).there W.heap.size 0 C.toArray.size:=fun W=>by
   rw[show C.toArray.size=189 by simpa using hCl,Tryz.zeroCht];have:=zcm (zal W (.cells ((qd 189 false).map Value.bool).toArray 114));simpa using this
  have hrs:∀ W:World,((W.alloc (.cells Tryz.zeroCells114 114)).setCells W.heap.size 0 C).rangeAt W.heap.size 0 C:=fun W=>qe _ W.heap.size 0 C (by simpa using hz W);have hbs:∀ W:World,Below W.heap.size W ((W.alloc (.cells Tryz.zeroCells114 114)).setCells W.heap.size 0 C):=fun W=>below_setCells W.heap.size (qo _) _ _ (belS _ _);have HRS:= zaa hrs;have HBS:= zaa hbs;have HZ:= zaa hz;clear hf hm ho hok hob hCl hrs hbs hz;have hb0:=bel1 w (.cells #[.slice sa sl sc,.slice ta tl tc,.slice va vl vc] 26);cases x with
  |false =>
   simp only[qh,if_false];clear hsn hsf hleam
   go_enter Tryz.func25,Tryz.ntmps25
   go_wp2_with (first
    |(go_at_call 46;refine(hio _ hb0).mono ?_;rintro e w1 ⟨rfl,hb1⟩;have f1:=zaq hb1 f0)
    |(go_at_call 47;refine(hch _ (thn3 hb0 hb1)).mono ?_;rintro e w2 ⟨rfl,hb2⟩;have hz2:=HZ.out w2;have rs2:=HRS.out w2;have bs2:Below w.heap.size w ((w2.alloc (.cells Tryz.zeroCells114 114)).setCells w2.heap.size 0 C):=thn3 (thn3 (thn3 hb0 hb1) hb2) (HBS.out w2))
    |(go_at_call 67;refine(ham _ bs2).mono ?_;rintro e w3 ⟨rfl,hb3⟩)
    |(have hq:=hz2;refine wpList_store_mid rfl 114 _ _ rfl w2.heap.size 0 C.toArray rfl rfl hz2 hi7 h16 ?_)
    |(have hq:=rs2;refine wpList_load_mid rfl 114 _ rfl w2.heap.size 0 rfl C _ rs2 Tryz.underlying114 rfl hi6 ?_))
   go_ret2
   exact⟨rfl,thn3 bs2 hb3⟩
  |true =>
   simp only[if_true];have hsf:=hsf (hleam rfl);cases y with
   |false =>
    simp only[qh,if_false];clear hsf hleam
    go_enter Tryz.func25,Tryz.ntmps25
    go_wp2_with (first
     |(go_at_call 46;refine(hio _ hb0).mono ?_;rintro e w1 ⟨rfl,hb1⟩;have f1:=zaq hb1 f0)
     |(go_at_call 47;refine(hch _ (thn3 hb0 hb1)).mono ?_;rintro e w2 ⟨rfl,hb2⟩;have hz2:=HZ.out w2;have rs2:=HRS.out w2;have bs2:Below w.heap.size w ((w2.alloc (.cells Tryz.zeroCells114 114)).setCells w2.heap.size 0 C):=thn3 (thn3 (thn3 hb0 hb1) hb2) (HBS.out w2))
     |(go_at_call 67;refine(ham _ bs2).mono ?_;rintro e w3 ⟨rfl,hb3⟩;have rs3:=zaf hb3 rs2)
     |(go_at_call 48;refine(hsn _).mono ?_;rintro e w4 ⟨rfl,hb4⟩)
     |(have hq:=hz2;refine wpList_store_mid rfl 114 _ _ rfl w2.heap.size 0 C.toArray rfl rfl hz2 hi7 h16 ?_)
     |(have hq:=rs3;refine wpList_load_mid rfl 114 _ rfl w2.heap.size 0 rfl C _ rs3 Tryz.underlying114 rfl hi6 ?_)
     |(have hq:=rs2;refine wpList_load_mid rfl 114 _ rfl w2.heap.size 0 rfl C _ rs2 Tryz.underlying114 rfl hi6 ?_))
    go_ret2
    exact⟨rfl,thn3 (thn3 bs2 hb3) hb4⟩
   |true =>
    simp only[if_true];clear hleam
    go_enter Tryz.func25,Tryz.ntmps25
    go_wp2_with (first
     |(go_at_call 46;refine(hio _ hb0).mono ?_;rintro e w1 ⟨rfl,hb1⟩;have f1:=zaq hb1 f0)
     |(go_at_call 47;refine(hch _ (thn3 hb0 hb1)).mono ?_;rintro e w2 ⟨rfl,hb2⟩;have hz2:=HZ.out w2;have rs2:=HRS.out w2;have bs2:Below w.heap.size w ((w2.alloc (.cells Tryz.zeroCells114 114)).setCells w2.heap.size 0 C):=thn3 (thn3 (thn3 hb0 hb1) hb2) (HBS.out w2))
     |(go_at_call 67;refine(ham _ bs2).mono ?_;rintro e w3 ⟨rfl,hb3⟩;have rs3:=zaf hb3 rs2)
     |(go_at_call 48;refine(hsn _).mono ?_;rintro e w4 ⟨rfl,hb4⟩;have rs4:=zaf hb4 rs3)
     |(go_at_call 68;refine(hsf _ (thn3 (thn3 bs2 hb3) hb4)).mono ?_;rintro e w5 ⟨rfl,hb5⟩)
     |(have hq:=hz2;refine wpList_store_mid rfl 114 _ _ rfl w2.heap.size 0 C.toArray rfl rfl hz2 hi7 h16 ?_)
     |(have hq:=rs4;refine wpList_load_mid rfl 114 _ rfl w2.heap.size 0 rfl C _ rs4 Tryz.underlying114 rfl hi6 ?_)
     |(have hq:=rs3;refine wpList_load_mid rfl 114 _ rfl w2.heap.size 0 rfl C _ rs3 Tryz.underlying114 rfl hi6 ?_)
     |(have hq:=rs2;refine wpList_load_mid rfl 114 _ rfl w2.heap.size 0 rfl C _ rs2 Tryz.underlying114 rfl hi6 ?_))
    go_ret2
    exact⟨rfl,thn3 (thn3 (thn3 bs2 hb3) hb4) hb5⟩
end
section
end
section
end
section
theorem yada {ss:List ByteArray}{i j:Nat}{s t:ByteArray}(hi:ss[i]?=some s)(hj:ss[j]?=some t):tabI ss i j=fitB s t:=by unfold tabI;rw[hi,hj]
def rdB (ss:List ByteArray)(p q:PinD):Bool:=(decide (p.w<0)||decide (q.r<0))||tabI ss p.w.toNat q.r.toNat
end
section
def meB (ss:List ByteArray)(ts:List Int)(kept:Bool)(p q:PinD):Bool:=(p.t != q.t)||(kept&&(ts.getD p.t.toNat 0 != 0))||(rdB ss p q&&rdB ss q p)
def metB (ss:List ByteArray)(ts:List Int)(kept:Bool)(ps qs:List PinD):Bool:=ps.all fun p=>qs.all (meB ss ts kept p)
def zfk (ns nt:Nat)(ps:List PinD):Prop:=∀ p∈ps,(0<=p.t/\p.t<nt)/\p.w<ns/\p.r<ns/\-1<=p.w/\-1<=p.r
end
section
end
section
def rlen (vs:List SvcD)(s:Nat):Nat:=match vs[s]? with|some v=>v.rels.length|none=>0
end
end Go.Proofs.YtkkekopomiehlabGreatDoor
