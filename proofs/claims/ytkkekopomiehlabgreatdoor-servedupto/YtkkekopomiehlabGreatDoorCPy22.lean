import Derived.Test.YtkkekopomiehlabGreatDoorCBk11
set_option linter.unusedVariables false
set_option linter.unusedSimpArgs false
set_option maxHeartbeats 40000000
set_option maxRecDepth 4000
open List renaming getElem?_eq_some_iff->xe,getElem?_eq_getElem->xf,getElem?_map->xg,length_map->xh,replicate->xm,mem_of_getElem?->xp,getD_eq_getElem?_getD->xu,getElem?_append_left->xv,getElem?_eq_none->qe,getElem?_of_mem->qg,flatMap_append->qj,length_append->qk,map_map->qn,any_eq_true->qo,range->qq,mem_range->qu
open Go.Value renaming ownBlock->xj,oneCell'->qp
open Go.World.ownsRow renaming lt->xo,alloc->qh
open Nat renaming zero_add->xq,zero_le->xz,le_refl->qd,lt_trichotomy->qm,add_zero->qv
open Go.World renaming ownsRow_nil->xy,drewN->qf,news_of_block->qi
open Option.some renaming injEq->qx
namespace Go.Proofs.YtkkekopomiehlabGreatDoor
section
open Go.RowKit
structure BegF (W:World)(B:Nat)(f:zac)(ms:List (Int×Int))(gt tc:Nat)(v t s:Value)(sv:List (Value×Value)):Prop where
 tsk:W.ownsRow B 303 4 (.slice (some ⟨gt,0,none⟩) ms.length tc) ms.length ((tskN (lst0 f.vs) ms).flatMap tskF)
 sl:sv.length=f.vs.length
 srv:W.ownsRow B 213 2 v f.vs.length (sv.flatMap fun q=>[q.1,q.2])
 ins:∀ (i:Nat) (V:SvcD) (q:Value×Value),f.vs[i]?=some V->sv[i]?=some q->W.ownsRow B 266 2 q.1 V.size.toNat ((xm V.size.toNat ⟨V.now,0⟩).flatMap insF)
 rel:∀ (i:Nat) (V:SvcD) (q:Value×Value),f.vs[i]?=some V->sv[i]?=some q->RelN W B q.2 V.rels
 dif:∀ (i j:Nat) (p q:Value×Value) (b:Nat),i<j->sv[i]?=some p->sv[j]?=some q->p.1.ownBlock=some b->q.1.ownBlock≠some b
 top:W.ownsRow B 216 2 t f.ts.length (f.ts.flatMap fun k=>[.int .i64 k,.slice none 0 0])
 sch:W.ownsRow B 9 1 s f.ss.length (f.ss.map Value.string)
def typL (e:TypeId)(n:Nat):Nat:=if e=303\/e=213\/e=106\/e=165\/e=9 then 2 else if e=149 then 1 else if e=216 then 5 else if e=266 then n else 0
def insL (sv:List (Value×Value))(b:Nat):Nat:=match (qq sv.length).find? (fun i=>(sv.getD i (.bool false,.bool false)).1.ownBlock == some b) with
 |some i=>10+2*i
 |none=>0
def begL (W:World)(B:Nat)(sv:List (Value×Value))(b:Nat):Nat:=if b<B then 0 else match W.heap[b]? with
 |some (.cells _ e _)=>typL e (insL sv b)
 |_=>0
theorem zmo {W:World}{B:Nat}{sv:List (Value×Value)}{b:Nat}{cur:Array Value}{e:TypeId}{z:Nat×Nat}(hb:B<=b)(h:W.heap[b]?=some (.cells cur e z)):begL W B sv b=typL e (insL sv b):=by
 unfold begL;rw[if_neg (by omega),h]
theorem zh7 {W:World}{B k n:Nat}{e:TypeId}{v:Value}{xs:List Value}(h:W.ownsRow B e k v n xs){b:Nat}(hb:v.ownBlock=some b):B<=b/\∃ cur,W.heap[b]?=some (.cells cur e (0,0)):=by
 rcases h.2 with⟨rfl,_⟩|⟨g,cap,cur,rfl,h1,h2,_⟩
 ·simp[xj]at hb
 ·simp[xj]at hb;subst hb;exact⟨h1,cur,h2⟩
theorem ze2 {W:World}{B k n:Nat}{e:TypeId}{v:Value}{xs:List Value}{sv:List (Value×Value)}(h:W.ownsRow B e k v n xs){b:Nat}(hb:v.ownBlock=some b):begL W B sv b=typL e (insL sv b):=by
 obtain⟨h1,cur,h2⟩:=zh7 h hb;exact zmo h1 h2
theorem zba {W:World}{B k n:Nat}{e:TypeId}{v:Value}{xs:List Value}(h:W.ownsRow B e k v n xs)(hk:0<k):∃ a c,v=.slice a n c/\n<=c/\∀ i u,xs[i]?=some u->∃ b,a=some ⟨b,0,none⟩/\v.ownBlock=some b/\W.cell? ⟨b,i,none⟩=some u:=by
 have h0:=h;rcases h.2 with⟨hv,hn⟩|⟨g,cap,cur,hv,h1,h2,h3,h4,h5,h6⟩
 ·subst hn;refine⟨none,0,hv,qd _,fun i u hi=>?_⟩;have:=h.1;rw[Nat.zero_mul]at this;have:=(xe.1 hi).1;omega
 ·subst hv;refine⟨_,cap,rfl,h3,fun i u hi=>⟨g,rfl,rfl,?_⟩⟩;rw[h0.cellAt i (by have:=(xe.1 hi).1;have:=h.1;omega)];exact hi
theorem zwj {sv:List (Value×Value)}(hd:∀ (i j:Nat) (p q:Value×Value) (b:Nat),i<j->sv[i]?=some p->sv[j]?=some q->p.1.ownBlock=some b->q.1.ownBlock≠some b){i b:Nat}{q:Value×Value}(hq:sv[i]?=some q)(hb:q.1.ownBlock=some b):insL sv b=10+2*i:=by
 have hi:=(xe.1 hq).1;have hf:(qq sv.length).find? (fun i=>(sv.getD i (.bool false,.bool false)).1.ownBlock == some b)=some i:=by
  cases hc:(qq sv.length).find? (fun i=>(sv.getD i (.bool false,.bool false)).1.ownBlock == some b) with
  |none =>
   have:=List.find?_eq_none.1 hc i (qu.2 hi);rw[xu,hq]at this;simp[hb]at this
  |some j =>
   have h1:=qu.1 (List.mem_of_find?_eq_some hc);have h2:=List.find?_some hc;have h3:sv[j]?=some (sv[j]'h1):=xf h1;rw[xu,h3]at h2;have h2:(sv[j]'h1).1.ownBlock=some b:=by simpa using h2
   rcases qm i j with e|e|e
   ·exact absurd h2 (hd i j _ _ b e hq h3 hb)
   ·rw[e]
   ·exact absurd hb (hd j i _ _ b e h3 hq h2)
 unfold insL;rw[hf]
theorem yaay {W:World}{B r:Nat}{f:zac}{ms:List (Int×Int)}{gt tc:Nat}{v t s:Value}{sv:List (Value×Value)}(h:BegF W B f ms gt tc v t s sv)(hvs:1<=f.vs.length)(hB:B<=r)
  (hr:RowIs W r 149 (RunC 0 (.slice (some ⟨gt,0,none⟩) ms.length tc) (begP f ms).c (.slice none 0 0) v t s)):RunE W (begL W B sv) r (begP f ms)/\∀ k,k<B->begL W B sv k=0:=by
 have hlow:∀ k,k<B->begL W B sv k=0:=fun k hk=>by unfold begL;rw[if_pos hk]
 refine⟨?_,hlow⟩;obtain⟨va,vc,hv,hvc,hvcell⟩:=zba h.srv (by omega);have hv0:(sv.flatMap fun q=>[q.1,q.2])[0]?=some (sv[0]'(by have:=h.sl;omega)).1:=by
  have h0:sv[0]?=some (sv[0]'(by have:=h.sl;omega)):=xf _;have:=za2 (f:=fun q:Value×Value=>[q.1,q.2]) (k:=2) (fun _=>rfl) h0 (j:=0) (by omega);simpa using this
 obtain⟨gv,hva,hvo,_⟩:=hvcell 0 _ hv0;subst hva;subst hv;have hgt:xj (.slice (some ⟨gt,0,none⟩) ms.length tc)=some gt:=rfl;have lgt:=ze2 (sv:=sv) h.tsk hgt;have lgv:=ze2 (sv:=sv) h.srv hvo;have t2:∀ e n,(e=303\/e=213\/e=106\/e=165\/e=9)->typL e n=2:=fun e n he=>by unfold typL;rw[if_pos he]
 rw[t2 _ _ (by simp)]at lgt lgv;have hlen:(tskN (lst0 f.vs) ms).length=ms.length:=zg1 _ _;have hrow:RowIs W r 149 (RunC 0 (.slice (some ⟨gt,0,none⟩) (tskN (lst0 f.vs) ms).length tc) (begP f ms).c (.slice none 0 0) (.slice (some ⟨gv,0,none⟩) (begP f ms).vs.length vc) t s):=by
  rw[hlen];show RowIs W r _ (RunC 0 _ _ _ (.slice (some ⟨gv,0,none⟩) (f.vs.map _).length vc) t s);rw[xh];exact hr
 obtain⟨sa,sc,hs,hsc,hscell⟩:=zba h.sch (by omega);refine⟨gt,tc,.slice none 0 0,gv,vc,t,s,sv,f.ts.map fun k=>(k,.slice none 0 0),hrow,?_,fun b hb=>?_,?_,?_,?_,⟨lgt,fun i q hq=>?_,lgv,?_,fun i q hq=>?_,fun i q R hq hR=>?_,sa,sc,hs,fun i x hx=>?_⟩,⟨xy _ _ _ _,fun b hb=>by simp[xj]at hb⟩,fun i V q hV hq=>?_,⟨?_,fun b hb=>?_⟩,?_,fun i T q hT hq=>?_⟩
 ·have:=zmo (sv:=sv) hB (show W.heap[r]?=some (.cells _ 149 (0,0))from hr);rw[this];rfl
 ·unfold begL;split
  ·rfl
  ·rw[Array.getElem?_eq_none (by omega)]
 ·exact(xo h.tsk gt hgt).2
 ·exact(xo h.srv gv hvo).2
 ·show (f.vs.map _).length<=vc;rw[xh];exact hvc
 ·have:=(xe.1 hq).1;exact zpg h.tsk hq (by have:(begP f ms).c.ts.length=ms.length:=hlen;omega)
 ·show sv.length=((f.vs.map _).map SrvD.rels).length;rw[xh,xh];exact h.sl
 ·have c0:=za2 (f:=fun q:Value×Value=>[q.1,q.2]) (k:=2) (fun _=>rfl) hq (j:=0) (by omega);have c1:=za2 (f:=fun q:Value×Value=>[q.1,q.2]) (k:=2) (fun _=>rfl) hq (j:=1) (by omega);obtain⟨b0,e0,_,k0⟩:=hvcell _ _ c0;obtain⟨b1,e1,_,k1⟩:=hvcell _ _ c1;cases e0;cases e1;exact⟨k0,k1⟩
 ·have hR':((f.vs.map fun v=>(⟨xm v.size.toNat ⟨v.now,0⟩,v.rels⟩:SrvD)).map SrvD.rels)[i]?=some R:=hR;rw[qn,xg]at hR';cases hV:f.vs[i]? with
  |none=>rw[hV]at hR';cases hR'
  |some V =>
   rw[hV]at hR';obtain rfl:V.rels=R:=by simpa using hR'
   obtain⟨pv,p1,p2⟩:=h.rel i V q hV hq;obtain⟨ra,rc,e1,_,e2⟩:=zba p1 (by omega);have hpl:pv.length=V.rels.length:=by have:=p1.1;omega
   refine⟨ra,rc,e1,fun j ps hj=>?_⟩;have hjl:=(xe.1 hj).1;obtain⟨u,hu⟩:∃ u,pv[j]?=some u:=⟨pv[j]'(by omega),xf _⟩;obtain⟨b,q1,q2,q3⟩:=e2 j u hu;have o1:=p2 j ps u hj hu;obtain⟨pa,pc,n1,_,n2⟩:=zba o1 (by omega);refine⟨b,0,pa,pc,q1,?_,by rw[xq,q3,n1],fun k p hp=>?_⟩
   ·rw[ze2 p1 q2,t2 _ _ (by simp)]
   ·have d:=fun (z:Nat) (hz:z<3)=>za2 (f:=pinF) (k:=3) (fun _=>rfl) hp (j:=z) hz;obtain⟨b0,f0,g0,k0⟩:=n2 _ _ (d 0 (by omega));obtain⟨b1,f1,g1,k1⟩:=n2 _ _ (d 1 (by omega));obtain⟨b2,f2,g2,k2⟩:=n2 _ _ (d 2 (by omega));rw[f0]at f1 f2;cases f1;cases f2;refine⟨b0,0,f0,?_,by rw[xq];exact k0,by rw[xq];exact k1,by rw[xq];exact k2⟩;rw[ze2 o1 g0,t2 _ _ (by simp)]
 ·obtain⟨b,q1,q2,q3⟩:=hscell i (.string x) (by rw[xg];have hx':f.ss[i]?=some x:=hx;rw[hx'];rfl);exact⟨b,0,q1,by rw[ze2 h.sch q2,t2 _ _ (by simp)],by rw[xq];exact q3⟩
 ·have hV':(f.vs.map fun v=>(⟨xm v.size.toNat ⟨v.now,0⟩,v.rels⟩:SrvD))[i]?=some V:=hV;rw[xg]at hV';cases hF:f.vs[i]? with
  |none=>rw[hF]at hV';cases hV'
  |some F =>
   rw[hF]at hV';obtain rfl:(⟨xm F.size.toNat ⟨F.now,0⟩,F.rels⟩:SrvD)=V:=by simpa using hV'
   have ho:=h.ins i F q hF hq;refine⟨?_,fun b hb=>?_⟩
   ·show W.ownsRow 0 _ _ _ (xm F.size.toNat (⟨F.now,0⟩:InsD)).length _;rw[List.length_replicate];exact ho.mono (xz _)
   ·rw[ze2 ho hb];show insL sv b=_;exact zwj h.dif hq hb
 ·show W.ownsRow 0 _ _ _ (f.ts.map _).length _;rw[xh];have:=h.top.mono (xz _);rw[show (f.ts.map fun k=>((k,.slice none 0 0):Int×Value)).flatMap topF=f.ts.flatMap fun k=>[.int .i64 k,.slice none 0 0] by rw[List.flatMap_map];rfl];exact this
 ·rw[ze2 h.top hb];rfl
 ·show (f.ts.map _).map Prod.fst=(f.ts.map _).map TopD.keep;rw[qn,qn];rfl
 ·have hT':(f.ts.map fun k=>(⟨k,[]⟩:TopD))[i]?=some T:=hT;rw[xg]at hT' hq;cases hk:f.ts[i]? with
  |none=>rw[hk]at hT';cases hT'
  |some k =>
   rw[hk]at hT' hq;obtain rfl:(⟨k,[]⟩:TopD)=T:=by simpa using hT'
   obtain rfl:((k,.slice none 0 0):Int×Value)=q:=by simpa using hq
   exact⟨xy _ _ _ _,fun b hb=>by simp[xj]at hb⟩
end
section
open Go.RowKit
variable {w0 w W:World}{L:Nat->Nat}{gb r:Nat}{b:zaw}
theorem BookE.n (h:BookE w0 w L gb r b):∃ ta tc nv,∀ W,Below w.heap.size w W->W.cell? ⟨gb,1,none⟩=some (.slice ta b.f.ts.length tc)/\W.cell? ⟨gb,6,none⟩=some (.int .i64 b.ti)/\W.cell? ⟨gb,7,none⟩=some nv/\IntsAt W ta b.f.ts/\W.ownsRow w0.heap.size 135 3 nv b.notes.length (b.notes.flatMap zcu):=by
 obtain⟨sa,ta,va,ma,sl,sc,tl,tc,vl,vc,mc,nv,h⟩:=h;refine⟨ta,tc,nv,fun W hb=>?_⟩;have h':=h.keep hb;refine⟨?_,h'.row.cell rfl,h'.row.cell rfl,(h'.flt.keep h'.bel).t3,h'.nts⟩;have:=h'.row.cell (j:=1) rfl;rw[h'.flt.t1]at this;exact this
theorem Tryz.infoNotK:(Tryz.prog.info? 135).map (fun i=>(i.zero,i.size,i.bytes))=some (some (.agg #[.int .i64 0,.int .i64 0,.string ⟨#[]⟩]),3,32):=by kernel_rfl
theorem zwe {α:Type}{l:List α}{i:Nat}{x:α}(p:α->Bool)(h:l[i]?=some x):(l.take (i+1)).filter p=if p x then (l.take i).filter p++[x] else (l.take i).filter p:=by
 rw[List.take_add_one,h,List.filter_append];cases hp:p x<;>simp[hp]
theorem zqj (k:Int)(hk:b.f.ts[0]?=some k)(hk6:0<=k/\k<=6)(hti:0<=b.ti/\b.ti<=3000000000)(hnl:b.notes.length<=2100000)(hnt:∀ x∈b.notes,0<=x.ti/\x.ti<=b.ti)(hB:BookE w0 w L gb r b) :
  Calls Tryz.prog 65 #[.pointer (some ⟨gb,0,none⟩)] w fun e W=>∃ v,e=.returned v/\W.ownsRow w.heap.size 135 3 v (b.notes.filter (zay k b.ti)).length ((b.notes.filter (zay k b.ti)).flatMap zcu)/\Below w.heap.size w W:=by
 obtain⟨iN,hiN,zN0,zN1,zN2⟩:=info_parts Tryz.infoNotK;obtain⟨ta,tc,nv,hV⟩:=hB.n;have HV:=zaa hV;have HNT:=zaa hnt;obtain⟨k1,_,_,ha,ho⟩:=hV w (Below.refl _ _);have hgl:=zag k1;obtain⟨tb,to,rfl,d0⟩:=ha 0 k hk;obtain⟨na,nc,rfl,_⟩:∃ a c,nv=.slice a b.notes.length c/\True:=by
  obtain⟨a,c,e,_⟩:=zba ho (by omega);exact⟨a,c,e,trivial⟩
 have htl:0<b.f.ts.length:=(xe.1 hk).1;obtain⟨Q,hQ⟩:∃ Q:Ending->World->Prop,Q=fun e W=>∃ v,e=.returned v/\W.ownsRow w.heap.size 135 3 v (b.notes.filter (zay k b.ti)).length ((b.notes.filter (zay k b.ti)).flatMap zcu)/\Below w.heap.size w W:=⟨_,rfl⟩;show Calls _ _ _ _ fun e W=>(fun e W=>∃ v,e=.returned v/\W.ownsRow w.heap.size 135 3 v (b.notes.filter (zay k b.ti)).length ((b.notes.filter (zay k b.ti)).flatMap zcu)/\Below w.heap.size w W) e W;rw[<- hQ];have HQ:=zaa hQ;have HX:Hid (∀ W,Below w.heap.size w W->W.cell? ⟨gb,6,none⟩=some (.int .i64 b.ti)/\W.cell? ⟨gb,7,none⟩=some (.slice na b.notes.length nc)):=fun W hb=>⟨(hV W hb).2.1,(hV W hb).2.2.1⟩;clear hQ hV hnt ha ho hB hk;rw[qv]at d0;generalize b.f.ts.length=nt at *;obtain⟨n,hn⟩:∃ n,n=b.notes.length:=⟨_,rfl⟩;have HN:=zaa hn;rw[<- hn]at hnl HX;clear hn;obtain⟨T,hT⟩:∃ T,T=b.ti:=⟨_,rfl⟩;have HT:=zaa hT;rw[<- hT]at hti HX;clear hT;obtain⟨y6,y7⟩:=HX.out w (Below.refl _ _);have hnt1:(0:Int)<(nt:Int):=by omega
 go_enter Tryz.func65,Tryz.ntmps65
 go_wp2_with fail
 clear y6 y7 k1 d0
 go_loopw [3,5] (fun vl vi wr=>∃ i:Nat,i<=n/\vi=.int .i64 i/\wr.ownsRow w.heap.size 135 3 vl ((b.notes.take i).filter (zay k T)).length (((b.notes.take i).filter (zay k T)).flatMap zcu)/\Below w.heap.size w wr) (fun _ i _=>n-(intOf i).toNat)
 case atStart=>exact⟨0,xz _,rfl,xy _ _ _ _,Below.refl _ _⟩
 case round =>
  obtain⟨i,hi,rfl,hO,hb⟩:=hrel
  rename World=>w1
  have HO:=zaa hO;have HB:=zaa hb;obtain⟨x6,x7⟩:=HX.out w1 hb;have hi0 := znn i;by_cases hin:i<n
  ·obtain⟨x,hx⟩:∃ x,b.notes[i]?=some x:=⟨b.notes[i]'(by have:=HN.out;omega),xf _⟩;obtain⟨_,_,_,_,hOn⟩:=HV.out w1 hb;have dz:=fun (z:Nat) (hz:z<3)=>za2 (f:=zcu) (k:=3) (fun _=>rfl) hx (j:=z) hz;obtain⟨a',c',e',_,hcs⟩:=zba hOn (by omega);cases e';obtain⟨g0,q0,_,n0⟩:=hcs _ _ (dz 0 (by omega));obtain⟨g1,q1,_,n1⟩:=hcs _ _ (dz 1 (by omega));obtain⟨g2,q2,_,n2⟩:=hcs _ _ (dz 2 (by omega));subst q0;cases q1;cases q2;obtain⟨hx0,hxT⟩:=HNT.out x (xp hx);rw[<- HT.out]at hxT;have HE:=zaa (zwe (zay k T) hx);have hlt1:((b.notes.take i).filter (zay k T)).length<=2100000:=Nat.le_trans (List.length_filter_le _ _) (by rw[List.length_take];omega);have hii:(i:Int)<(n:Int):=by omega
   have lg:=zag n0;obtain⟨xt,xb,xd⟩:=x;simp only[qv]at n0 n1 n2 hx0 hxT;clear hO hb hx hOn dz hcs;generalize hG:((b.notes.take i).filter (zay k T)).flatMap zcu=ys at *;generalize hH:((b.notes.take i).filter (zay k T)).length=m at *;have HGY:=zaa hG;have HHM:=zaa hH;clear hG hH;have h0:=HB.out.size;have lgb:gb<w1.heap.size:=zag x6;by_cases hk0:k=0
   ·subst hk0;have hpr:zay 0 T ⟨xt,xb,xd⟩=true:=by simp[zay]
    go_wp2_with fail
    go_quiet (fail)
    go_wp2_with (at_builtin;refine wpList_append_lies _ rfl _ _ _ rfl w.heap.size 135 iN _ 3 32 Tryz.underlying68 hiN zN0 zN1 zN2 rfl (by omega) u3 m _ rfl (qh (show (qf _ _).ownsRow _ _ _ _ _ _ from HO.out) _) ⟨w1.heap.size,0,none⟩ 1 1 [.int .i64 xt,.int .i64 xb,.string xd] rfl rfl (qi (heap_alloc_new (qf _ _) _)) (by simp[qp]) (by omega) (by unfold maxLen;omega) (by omega) (by have:=HB.out.size;simp;omega) (w1.heap.size+1) (by simp) ?_;intro g2' cap2 w8 hown2 hgrow2 hat2 hlt2)
    go_roundw
    case rel =>
     refine⟨i+1,by omega,by go_num,?_,?_⟩
     ·rw[HE.out,if_pos hpr,qk,qj,HGY.out,HHM.out];exact hown2
     ·exact Below.grown (Below.alloc' (below_drewN HB.out _) _) hgrow2 (by have:=HB.out.size;simp;omega) (fun k hk=>(xo HO.out k hk).1)
    case measure=>simp[intOf];omega
   ·have e1:(k == 0)=false:=by simp[hk0]
    have e2:decide (k=0)=false:=by simp[hk0]
    by_cases hd:T-xt<k
    ·have hpr:zay k T ⟨xt,xb,xd⟩=true:=by simp[zay,hd]
     go_wp2_with fail
     go_quiet (fail)
     go_wp2_with (at_builtin;refine wpList_append_lies _ rfl _ _ _ rfl w.heap.size 135 iN _ 3 32 Tryz.underlying68 hiN zN0 zN1 zN2 rfl (by omega) u3 m _ rfl (qh (show (qf _ _).ownsRow _ _ _ _ _ _ from HO.out) _) ⟨w1.heap.size,0,none⟩ 1 1 [.int .i64 xt,.int .i64 xb,.string xd] rfl rfl (qi (heap_alloc_new (qf _ _) _)) (by simp[qp]) (by omega) (by unfold maxLen;omega) (by omega) (by have:=HB.out.size;simp;omega) (w1.heap.size+1) (by simp) ?_;intro g2' cap2 w8 hown2 hgrow2 hat2 hlt2)
     go_roundw
     case rel =>
      refine⟨i+1,by omega,by go_num,?_,?_⟩
      ·rw[HE.out,if_pos hpr,qk,qj,HGY.out,HHM.out];exact hown2
      ·exact Below.grown (Below.alloc' (below_drewN HB.out _) _) hgrow2 (by have:=HB.out.size;simp;omega) (fun k hk=>(xo HO.out k hk).1)
     case measure=>simp[intOf];omega
    ·have hpr:¬ zay k T ⟨xt,xb,xd⟩=true:=by simp[zay,hd,hk0]
     go_wp2_with fail
     go_quiet (fail)
     go_wp2_with fail
     go_roundw
     case rel =>
      refine⟨i+1,by omega,by go_num,?_,below_drewN HB.out _⟩;rw[HE.out,if_neg hpr,HGY.out,HHM.out];exact HO.out
     case measure=>simp[intOf];omega
  ·obtain rfl:n=i:=by omega
   go_wp2_with fail
   have hO2:=hO;rw[List.take_of_length_le (by have:=HN.out;omega),HT.out]at hO2;obtain⟨va',vc',hv,_⟩:∃ a c,u3=.slice a (b.notes.filter (zay k b.ti)).length c/\True:=by
    obtain⟨a,c,e,_⟩:=zba hO2 (by omega);exact⟨a,c,e,trivial⟩
   rw[HQ.out];exact⟨u3,rfl,hO2,hb⟩
end
section
open Go.RowKit
theorem yaea {w:World}{gb r:Nat}(s i:Nat)(pw pr:Int)(hpr:pr<0)(hx:∀ W,Below w.heap.size w W->W.cell? ⟨gb,4,none⟩=some (.bool true)/\W.cell? ⟨gb,5,none⟩=some (.pointer (some ⟨r,0,none⟩)))
  (c1:∀ W,Below w.heap.size w W->Calls Tryz.prog 63 #[.pointer (some ⟨gb,0,none⟩),.int .i64 s,.int .i64 i] W fun e W'=>e=.returned (.tuple #[.int .i64 pw,.int .i64 pr,.bool true])/\Below W.heap.size W W')
  (c2:∀ W,Below w.heap.size w W->Calls Tryz.prog 64 #[.pointer (some ⟨r,0,none⟩),.int .i64 s,.int .i64 i,.int .i64 0] W fun e W'=>e=.returned (.tuple #[.slice none 0 0,.int .i64 15])/\Below W.heap.size W W'):VwOk w gb s i:=by
 have HX:=zaa hx;obtain⟨k4,_⟩:=hx w (Below.refl _ _);unfold VwOk;clear hx
 go_enter Tryz.func24,Tryz.ntmps24
 go_wp2_with (first
  |(go_at_call 63;refine(c1 _ (Below.refl _ _)).mono ?_;rintro e w1 ⟨rfl,hb1⟩;have k5:=(HX.out w1 hb1).2)
  |(go_at_call 64;refine(c2 _ hb1).mono ?_;rintro e w2 ⟨rfl,hb2⟩))
 go_ret;exact⟨rfl,thn3 hb1 hb2⟩
theorem yaec {w:World}{gb r:Nat}(s i:Nat)(pw:Int)(rN:Nat)(ss:List ByteArray)(sb so sc:Nat)(pr:List zdi)(RT:zdi->ByteArray)(s2:ByteArray)(hr:ss[rN]?=some s2)(hsl:ss.length<=2000000)(hnp:pr.length<=12)
  (hx:∀ W,Below w.heap.size w W->W.cell? ⟨gb,4,none⟩=some (.bool true)/\W.cell? ⟨gb,5,none⟩=some (.pointer (some ⟨r,0,none⟩))/\W.cell? ⟨gb,0,none⟩=some (.slice (some ⟨sb,so,none⟩) ss.length sc)/\StrsAt W (some ⟨sb,so,none⟩) ss)
  (hby:∀ x∈pr,∃ (y:Nat) (s1:ByteArray),x.by'=y/\ss[y]?=some s1/\RdIs s1 s2 x.da (RT x)) (hT:∀ W,Below w.heap.size w W->Tab W)
  (c1:∀ W,Below w.heap.size w W->Calls Tryz.prog 63 #[.pointer (some ⟨gb,0,none⟩),.int .i64 s,.int .i64 i] W fun e W'=>e=.returned (.tuple #[.int .i64 pw,.int .i64 rN,.bool true])/\Below W.heap.size W W')
  (c2:∀ W,Below w.heap.size w W->Calls Tryz.prog 64 #[.pointer (some ⟨r,0,none⟩),.int .i64 s,.int .i64 i,.int .i64 0] W fun e W'=>∃ v,e=.returned (.tuple #[v,.int .i64 0])/\W'.ownsRow W.heap.size 9 1 v pr.length (pr.map fun x=>.string (RT x))/\Below W.heap.size W W')
  (c3:∀ W,Below w.heap.size w W->Calls Tryz.prog 65 #[.pointer (some ⟨gb,0,none⟩)] W fun e W'=>∃ v,e=.returned v/\W'.ownsRow W.heap.size 135 3 v pr.length (pr.flatMap zcu)/\Below W.heap.size W W'):VwOk w gb s i:=by
 have HX:=zaa hx;have HBY:=zaa hby;have HT:=zaa hT;have HRS:=zaa hr;obtain⟨k4,_,_,_⟩:=hx w (Below.refl _ _);have hrl:=(xe.1 hr).1;unfold VwOk;clear hx hby hT hr;obtain⟨n,hn⟩:∃ n,n=pr.length:=⟨_,rfl⟩;have HN:=zaa hn;rw[<- hn]at hnp c2 c3;clear hn;generalize hsn:ss.length=sn at *;have HSN:=zaa hsn;clear hsn;have hr0 := znn rN;have hr1:(rN:Int)<(sn:Int):=by omega
 go_enter Tryz.func24,Tryz.ntmps24
 go_wp2_with (first
  |(go_at_call 63;refine(c1 _ (Below.refl _ _)).mono ?_;rintro e w1 ⟨rfl,hb1⟩;have k5:=(HX.out w1 hb1).2.1)
  |(go_at_call 64;refine(c2 _ hb1).mono ?_;rintro e w2 ⟨v,rfl,ho,hb2⟩;obtain⟨va,vc,rfl,_⟩:∃ a c,v=.slice a n c/\True:=(by obtain⟨a,c,e,_⟩:=zba ho (by omega);exact⟨a,c,e,trivial⟩);have HV:=zaa ho;have B2:=zaa (thn3 hb1 hb2);clear ho)
  |(go_at_call 65;refine(c3 _ B2.out).mono ?_;rintro e w3 ⟨v3,rfl,ho3,hb3⟩;obtain⟨na,nc,rfl,_⟩:∃ a c,v3=.slice a n c/\True:=(by obtain⟨a,c,e,_⟩:=zba ho3 (by omega);exact⟨a,c,e,trivial⟩);have HP:=zaa ho3;have HV3:=zaa (zas HV.out hb3);have B3:=zaa (thn3 B2.out hb3);clear ho3))
 clear c1 c2 c3 k4 k5
 go_loopw [13] (fun vi wr=>∃ k:Nat,k<=n/\vi=.int .i64 k/\Below w3.heap.size w3 wr) (fun i _=>n-(intOf i).toNat)
 case atStart=>exact⟨0,xz _,rfl,Below.refl _ _⟩
 case round =>
  obtain⟨k,hk,rfl,hb4⟩:=hrel
  rename World=>w4
  have hk0 := znn k;by_cases hkn:k<n
  ·obtain⟨x,hxk⟩:∃ x,pr[k]?=some x:=⟨pr[k]'(by have:=HN.out;omega),xf _⟩;have B4:=zaa (thn3 B3.out hb4);obtain⟨y,s1,hy,hs1,hRd⟩:=HBY.out x (xp hxk);obtain⟨_,_,z0,hst⟩:=HX.out w4 B4.out;obtain⟨b1,o1,q1,t1⟩:=hst y s1 hs1;obtain⟨b2,o2,q2,t2⟩:=hst rN s2 HRS.out;cases q1;cases q2;have hyl:=(xe.1 hs1).1;obtain⟨a',c',e',_,hcs⟩:=zba (zas HP.out hb4) (by omega);cases e';have dz:=fun (z:Nat) (hz:z<3)=>za2 (f:=zcu) (k:=3) (fun _=>rfl) hxk (j:=z) hz;obtain⟨g1,p1,_,n1⟩:=hcs _ _ (dz 1 (by omega));obtain⟨g2,p2,_,n2⟩:=hcs _ _ (dz 2 (by omega));subst p1;cases p2;obtain⟨a'',c'',e'',_,hcv⟩:=zba (zas HV3.out hb4) (by omega);cases e'';obtain⟨g3,p3,_,n3⟩:=hcv k (.string (RT x)) (by rw[xg,hxk];rfl);subst p3;have hrd:=hRd.2 w4.drew (Tab.keep (Below.refl _ _).drew (HT.out w4 B4.out));have hne:=hRd.1;obtain⟨xt,xb,xd⟩:=x;simp only at hy;subst hy;have hy0 := znn y;have hy1:(y:Int)<(sn:Int):=by have:=HSN.out;omega
   have hki:(k:Int)<(n:Int):=by omega
   generalize RT ⟨xt,(y:Int),xd⟩=rt at *;simp only[zcu,List.getElem?_cons_succ,List.getElem?_cons_zero,qx]at n1 n2;clear hcs hcv dz hst hxk hs1 hRd;have lz0:=zag z0;have lt1:=zag t1;have ln1:=zag n1;have ln3:=zag n3
   go_wp2_with fail
   go_region_held3 (fun w'=>w'.cell? ⟨gb,0,none⟩=some (.slice (some ⟨sb,so,none⟩) sn sc)/\w'.cell? ⟨g1,k*3+1,none⟩=some (.int .i64 (y:Int))/\w'.cell? ⟨g1,k*3+2,none⟩=some (.string xd)/\w'.cell? ⟨sb,so+y,none⟩=some (.string s1)/\w'.cell? ⟨sb,so+rN,none⟩=some (.string s2)) (first|exact⟨z0,n1,n2,t1,t2⟩|exact⟨zab hb5 z0,zab hb5 n1,zab hb5 n2,zab hb5 t1,zab hb5 t2⟩) (first
    |(go_at_call 66;refine hrd.mono ?_;rintro e w5 ⟨rfl,hb5⟩;have n35:=zab hb5 (show w4.drew.cell? _=_ from n3);have ln5:=zag n35))
   go_wp2_with fail
   go_roundw
   case rel=>exact⟨k+1,by omega,by go_num,thn3 hb4 (show Below w4.heap.size w4 w5 from⟨hb5.os,hb5.tape,hb5.output,hb5.size,hb5.block⟩)⟩
   case measure=>simp[intOf];omega
  ·obtain rfl:n=k:=by omega
   go_wp2_with fail
   go_ret;exact⟨rfl,thn3 B3.out hb4⟩
end
section
structure TS (α:Type) where
 now:α
 fr:Nat
 to:Nat
section
variable {α:Type}
structure TInv (nx:α->Nat->Option α)(L:List (TS α))(t:Nat):Prop where
 nd:∀ (i j:Nat) (a b:TS α),L[i]?=some a->L[j]?=some b->a.now=b.now->i=j
 tm:∀ (j:Nat) (a:TS α),L[j+1]?=some a->9*a.fr+a.to<t/\a.fr<j+1/\a.to<9/\∃ b,L[a.fr]?=some b/\nx b.now a.to=some a.now
 mono:∀ (i j:Nat) (a b:TS α),i<j->L[i+1]?=some a->L[j+1]?=some b->9*a.fr+a.to<9*b.fr+b.to
 ev:∀ (i:Nat) (a:TS α) (p:Nat) (y:α),L[i]?=some a->p<9->nx a.now p=some y->9*i+p<t->∃ j b,L[j]?=some b/\b.now=y/\(j=0\/9*b.fr+b.to<=9*i+p)
theorem ze6 {β:Type}{L:List β}{x a:β}{i:Nat}(h:(L++[x])[i]?=some a):L[i]?=some a\/(i=L.length/\a=x):=by
 rcases qm i L.length with h1|h1|h1
 ·rw[xv h1]at h;exact .inl h
 ·subst h1;rw[List.getElem?_append_right (qd _)]at h;simp at h;exact .inr ⟨rfl,h.symm⟩
 ·rw[qe (by simp;omega)]at h;cases h
theorem zii {β:Type}{L:List β}{x a:β}{i:Nat}(h:L[i]?=some a):(L++[x])[i]?=some a:=by
 rw[xv (xe.1 h).1];exact h
theorem TInv.skip {nx:α->Nat->Option α}{L:List (TS α)}{k p:Nat}{a:TS α}(h:TInv nx L (9*k+p))(ha:L[k]?=some a)(hp:p<9)(hy:nx a.now p=none):TInv nx L (9*k+p+1):=by
 refine⟨h.nd,fun j a ha=>⟨by have:=(h.tm j a ha).1;omega,(h.tm j a ha).2⟩,h.mono,fun i a' q z hi hq hz ht=>?_⟩;by_cases he:9*i+q<9*k+p
 ·exact h.ev i a' q z hi hq hz he
 ·have:i=k/\q=p:=by omega
  obtain⟨rfl,rfl⟩:=this;rw[ha]at hi;cases hi;rw[hy]at hz;cases hz
end
theorem SiD.eq_iff {s t:SiD}:s=t↔s.has=t.has/\s.had=t.had:=by
 constructor
 ·rintro rfl;exact⟨rfl,rfl⟩
 ·obtain⟨a,b⟩:=s;obtain⟨c,d⟩:=t;rintro ⟨h1,h2⟩;simp only at h1 h2;rw[h1,h2]
def zgw (s t:SiD):Bool:=decide (s.has=t.has)&&decide (s.had=t.had)
theorem zrf {s t:SiD}:zgw s t=true↔s=t:=by unfold zgw;rw[Bool.and_eq_true,decide_eq_true_eq,decide_eq_true_eq,SiD.eq_iff]
section
def tins (k:Nat)(L:List (TS SiD))(p:Nat)(y:SiD):List (TS SiD) :=
 if L.any (fun t=>zgw t.now y)=true then L else L++[⟨y,k,p⟩]
def tin (nx:SiD->Nat->Option SiD)(k:Nat)(s:SiD):Nat->List (TS SiD)->List (TS SiD)
 |0,L=>L
 |p+1,L=>match nx s p with
  |some y=>tins k (tin nx k s p L) p y
  |none=>tin nx k s p L
def tou (nx:SiD->Nat->Option SiD)(s0:SiD):Nat->List (TS SiD)
 |0=>[⟨s0,0,0⟩]
 |k+1=>match (tou nx s0 k)[k]? with
  |some a=>tin nx k a.now 9 (tou nx s0 k)
  |none=>tou nx s0 k
theorem yac7 {k p i:Nat}{L:List (TS SiD)}{y:SiD}{a:TS SiD}(h:L[i]?=some a):(tins k L p y)[i]?=some a:=by
 unfold tins;split
 ·exact h
 ·exact zii h
theorem TInv.step {nx:SiD->Nat->Option SiD}{L:List (TS SiD)}{k p:Nat}{a:TS SiD}{y:SiD}(h:TInv nx L (9*k+p))(ha:L[k]?=some a)(hp:p<9)(hy:nx a.now p=some y):TInv nx (tins k L p y) (9*k+p+1):=by
 have hk:=(xe.1 ha).1;unfold tins;by_cases hr:L.any (fun t=>zgw t.now y)=true
 ·rw[if_pos hr];obtain⟨b,hb,hby⟩:=qo.1 hr;obtain⟨j,hj⟩:=qg hb;refine⟨h.nd,fun j a ha=>⟨by have:=(h.tm j a ha).1;omega,(h.tm j a ha).2⟩,h.mono,fun i a' q z hi hq hz ht=>?_⟩;by_cases he:9*i+q<9*k+p
  ·exact h.ev i a' q z hi hq hz he
  ·have:i=k/\q=p:=by omega
   obtain⟨rfl,rfl⟩:=this;rw[ha]at hi;cases hi;rw[hy]at hz;cases hz;refine⟨j,b,hj,zrf.1 hby,?_⟩;cases j with
   |zero=>exact .inl rfl
   |succ j=>exact .inr (by have:=(h.tm j b hj).1;omega)
 ·rw[if_neg hr];have hno:∀ (i:Nat) (b:TS SiD),L[i]?=some b->b.now≠y:=fun i b hi he=>hr (qo.2 ⟨b,xp hi,zrf.2 he⟩);refine⟨fun i j a b hi hj he=>?_,fun j b hj=>?_,fun i j b c hij hi hj=>?_,fun i b q z hi hq hz ht=>?_⟩
  ·rcases ze6 hi with hi|⟨rfl,rfl⟩<;>rcases ze6 hj with hj|⟨rfl,rfl⟩
   ·exact h.nd i j a b hi hj he
   ·exact absurd he (hno i a hi)
   ·exact absurd he.symm (hno j b hj)
   ·rfl
  ·rcases ze6 hj with hj|⟨hl,rfl⟩
   ·obtain⟨h1,h2,h3,c,h4,h5⟩:=h.tm j b hj;exact⟨by omega,h2,h3,c,zii h4,h5⟩
   ·exact⟨by simp,by simp;omega,hp,a,zii ha,hy⟩
  ·rcases ze6 hi with hi|⟨hl,rfl⟩<;>rcases ze6 hj with hj|⟨hl2,rfl⟩
   ·exact h.mono i j b c hij hi hj
   ·exact(h.tm i b hi).1
   ·have:=(xe.1 hj).1;omega
   ·omega
  ·rcases ze6 hi with hi'|⟨rfl,rfl⟩
   ·clear hi;have hi:=hi';by_cases he:9*i+q<9*k+p
    ·obtain⟨j,c,h1,h2,h3⟩:=h.ev i b q z hi hq hz he;exact⟨j,c,zii h1,h2,h3⟩
    ·have:i=k/\q=p:=by omega
     obtain⟨rfl,rfl⟩:=this;rw[ha]at hi;cases hi;rw[hy]at hz;cases hz;exact⟨L.length,⟨y,i,q⟩,by simp,rfl,.inr (by simp)⟩
   ·omega
theorem zfq {nx:SiD->Nat->Option SiD}{k i:Nat}{s:SiD}{L:List (TS SiD)}{a:TS SiD}(h:L[i]?=some a):∀ p,(tin nx k s p L)[i]?=some a
 |0=>h
 |p+1=>by
  rw[tin];split
  ·exact yac7 (zfq h p)
  ·exact zfq h p
theorem TInv.tin {nx:SiD->Nat->Option SiD}{L:List (TS SiD)}{k:Nat}{a:TS SiD}(h:TInv nx L (9*k))(ha:L[k]?=some a):∀ p,p<=9->TInv nx (tin nx k a.now p L) (9*k+p)
 |0,_=>h
 |p+1,hp=>by
  have ih:=TInv.tin h ha p (by omega);rw[Go.Proofs.YtkkekopomiehlabGreatDoor.tin];split
  ·rename_i y hy;exact ih.step (zfq ha p) (by omega) hy
  ·rename_i hy;exact ih.skip (zfq ha p) (by omega) hy
theorem yadn {nx:SiD->Nat->Option SiD}{s0:SiD}{k i:Nat}{a:TS SiD}(h:(tou nx s0 k)[i]?=some a):(tou nx s0 (k+1))[i]?=some a:=by
 rw[tou];split
 ·exact zfq h 9
 ·exact h
theorem zir (nx:SiD->Nat->Option SiD)(s0:SiD):∀ k,k<=(tou nx s0 k).length->TInv nx (tou nx s0 k) (9*k)/\∀ j,j<=k->j<=(tou nx s0 j).length
 |0,h=>by
  refine⟨⟨fun i j a b hi hj _=>?_,fun j a hj=>by simp[tou]at hj,fun i j a b _ hi=>by simp[tou]at hi,fun i a p y _ _ _ ht=>by omega⟩,fun j hj=>by omega⟩;have h1:=(xe.1 hi).1;have h2:=(xe.1 hj).1;simp[tou]at h1 h2;omega
 |k+1,h=>by
  have hk:k<(tou nx s0 k).length:=by
   apply Nat.lt_of_not_le;intro hc;have:(tou nx s0 k)[k]?=none:=qe hc;rw[tou,this]at h;simp only at h;omega
  obtain⟨h1,h2⟩:=zir nx s0 k (Nat.le_of_lt hk);obtain⟨a,ha⟩:∃ a,(tou nx s0 k)[k]?=some a:=⟨_,xf hk⟩;refine⟨?_,fun j hj=>?_⟩
  ·have:=h1.tin ha 9 (qd _);rw[tou,ha];simpa[Nat.mul_add]using this
  ·rcases Nat.lt_or_ge j (k+1)with hj'|hj'
   ·exact h2 j (by omega)
   ·have:j=k+1:=by omega
    subst this;exact h
end
end
section
section
variable {α:Type}
structure Way (L:List (TS α))(g D:Nat)(v:Nat->Nat):Prop where
 zero:v 0=0
 last:v D=g
 step:∀ t,t<D->0<v (t+1)/\v t<v (t+1)/\∃ a,L[v (t+1)]?=some a/\a.fr=v t
theorem yaei {nx:α->Nat->Option α}{L:List (TS α)}{t:Nat}(h:TInv nx L t):∀ n g,g<=n->g<L.length->∃ D v,Way L g D v:=by
 intro n
 induction n with
 |zero=>exact fun g hg _=>⟨0,fun _=>0,rfl,by omega,fun t ht=>by omega⟩
 |succ n ih =>
  intro g hg hl;cases g with
  |zero=>exact⟨0,fun _=>0,rfl,rfl,fun t ht=>by omega⟩
  |succ g =>
   obtain⟨a,ha⟩:∃ a,L[g+1]?=some a:=⟨_,xf hl⟩;obtain⟨_,h2,_,_⟩:=h.tm g a ha;obtain⟨D,v,hv⟩:=ih a.fr (by omega) (by omega);refine⟨D+1,fun t=>if t<=D then v t else g+1,?_,?_,fun t ht=>?_⟩
   ·simp only[xz,if_true];exact hv.zero
   ·simp only[show ¬ D+1<=D by omega,if_false]
   ·by_cases htD:t<D
    ·simp only[show t<=D by omega,show t+1<=D by omega,if_true];exact hv.step t htD
    ·obtain rfl:t=D:=by omega
     simp only[qd,show ¬ t+1<=t by omega,if_true,if_false];exact⟨by omega,by rw[hv.last];exact h2,a,ha,hv.last.symm⟩
section
variable {nx:α->Nat->Option α}{L:List (TS α)}{E:List (Nat×Nat×Nat)}{G:Nat->Bool}{g D:Nat}{v:Nat->Nat}
end
end
section
variable {α:Type}{nx:α->Nat->Option α}{L:List (TS α)}{E:List (Nat×Nat×Nat)}{G:Nat->Bool}{g D:Nat}{v:Nat->Nat}
end
end
section
theorem zpb:∀ (N:Nat) (l:List Nat),l.Nodup->(∀ x∈l,x<N)->l.length<=N
 |0,[],_,_=>qd _
 |0,a::l,_,h=>absurd (h a (by simp)) (Nat.not_lt_zero _)
 |N+1,l,hn,h=>by
  have h1:=zpb N (l.erase N) (hn.erase N) fun x hx=>by
   have:=(hn.mem_erase_iff).1 hx;have:=h x this.2;omega
  rw[List.length_erase]at h1;split at h1<;>omega
theorem zxq {l:List Nat}(h:∀ (i j:Nat) (a:Nat),l[i]?=some a->l[j]?=some a->i=j):l.Nodup:=by
 unfold List.Nodup;rw[List.pairwise_iff_getElem];intro i j hi hj hij he;have:=h i j l[j] (by rw[xf hi,he]) (xf hj);omega
def bitC:List Bool->Nat
 |[]=>0
 |b::l=>(if b=true then 1 else 0)+2*bitC l
theorem zf0:∀ l,bitC l<2 ^ l.length
 |[]=>by simp[bitC]
 |b::l=>by
  have:=zf0 l;rw[bitC,List.length_cons,Nat.pow_succ];split<;>omega
theorem zjj:∀ (l m:List Bool),l.length=m.length->bitC l=bitC m->l=m
 |[],[],_,_=>rfl
 |[],a::m,h,_=>by simp at h
 |a::l,[],h,_=>by simp at h
 |a::l,b::m,h,he=>by
  rw[bitC,bitC]at he;have h1:bitC l=bitC m:=by split at he<;>split at he<;>omega
  have h2:a=b:=by cases a<;>cases b<;>simp at he ⊢<;>omega
  rw[h2,zjj l m (by simpa using h) h1]
section
variable {α:Type}
theorem TInv.len {P:α->Prop}{nx:α->Nat->Option α}{L:List (TS α)}{t N:Nat}(h:TInv nx L t)(hP:∀ (j:Nat) (a:TS α),L[j]?=some a->P a.now)(code:α->Nat)(hinj:∀ x y,P x->P y->code x=code y->x=y)(hlt:∀ x,P x->code x<N):L.length<=N:=by
 have:=zpb N (L.map fun t=>code t.now) (zxq fun i j a hi hj=>by
  rw[xg,Option.map_eq_some_iff]at hi hj;obtain⟨x,hx,hxa⟩:=hi;obtain⟨y,hy,hya⟩:=hj;exact h.nd i j x y hx hy (hinj _ _ (hP i x hx) (hP j y hy) (hxa.trans hya.symm))) fun c hc=>by
   obtain⟨x,hx,rfl⟩:=List.mem_map.1 hc;obtain⟨j,hj⟩:=qg hx;exact hlt _ (hP j x hj)
 rwa [xh]at this
end
section
theorem yac6 {P:SiD->Prop}{k p:Nat}{L:List (TS SiD)}{y:SiD}(h:∀ (j:Nat) (a:TS SiD),L[j]?=some a->P a.now)(hy:P y):∀ (j:Nat) (a:TS SiD),(tins k L p y)[j]?=some a->P a.now:=by
 unfold tins;split
 ·exact h
 ·intro j a ha;rcases ze6 ha with ha|⟨_,rfl⟩
  ·exact h j a ha
  ·exact hy
theorem zio {P:SiD->Prop}{nx:SiD->Nat->Option SiD}{k:Nat}{s:SiD}{L:List (TS SiD)}(hs:∀ s p y,P s->nx s p=some y->P y)(h0:P s)(h:∀ (j:Nat) (a:TS SiD),L[j]?=some a->P a.now):∀ p (j:Nat) (a:TS SiD),(tin nx k s p L)[j]?=some a->P a.now
 |0=>h
 |p+1=>by
  rw[tin];split
  ·rename_i y hy;exact yac6 (zio hs h0 h p) (hs s p y h0 hy)
  ·exact zio hs h0 h p
theorem ziq {P:SiD->Prop}{nx:SiD->Nat->Option SiD}{s0:SiD}(h0:P s0)(hs:∀ s p y,P s->nx s p=some y->P y):∀ k (j:Nat) (a:TS SiD),(tou nx s0 k)[j]?=some a->P a.now
 |0=>fun j a ha=>by
  have hj:=(xe.1 ha).1;simp[tou]at hj;subst hj;simp[tou]at ha;rw[<- ha];exact h0
 |k+1=>by
  rw[tou];split
  ·rename_i a ha;exact zio hs (ziq h0 hs k k a ha) (ziq h0 hs k) 9
  ·exact ziq h0 hs k
end
end
end Go.Proofs.YtkkekopomiehlabGreatDoor
