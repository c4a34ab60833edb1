import Derived.Test.YtkkekopomiehlabGreatDoorEBs9
set_option linter.unusedVariables false
set_option linter.unusedSimpArgs false
set_option maxHeartbeats 40000000
open List renaming setIfInBounds_toArray->xe,getElem_cons_zero->xf,getElem_cons_succ->xg,getElem_toArray->xh,set_cons_zero->xj,set_cons_succ->xm,getElem?_eq_getElem->xq,getElem?_eq_some_iff->xv,mem_of_getElem?->qd,getElem?_map->qe,flatMap_append->qi,take_of_length_le->qk,replicate->qm,not_mem_nil->qn,length_map->qp,mem_cons->qq
open Go.World.ownsRow renaming lt->xo
open Nat renaming zero_add->xp,zero_le->qo,le_refl->qv
open Go.AllReadyH renaming cons->xu,nil->xy
open Go.Act renaming put->xz
open Go.World renaming news_of_block->qf,ownsRow_nil->qg
open Go.Value renaming oneCell'->qh
open Option renaming map_eq_some_iff->qj
open Or renaming inl->qu
set_option maxRecDepth 4000
namespace Go.Proofs.YtkkekopomiehlabGreatDoor
section
open Go.RowKit
theorem zsx {P:Program}{ops:Array Oper}{rest:List Oper}{o:Oper}{a:Act}{w:World}{Q:Exit->Act->World->Prop}(hg:o.guard=none)(t:TypeId)(parts:Array (Nat×Operand))(ho:o.op=.build t parts)(qs:List (Nat×Value))(hq:(parts.map fun (i,x)=>(i,a.eval x)).toList=qs)(cs:Array Value)(hr:P.built t qs=some cs)
  (h:wpList P ops Q rest (a.put o.dst (.agg cs)) w):wpList P ops Q (o::rest) a w :=
 wpList_buildTo hg t parts ho _ rfl cs (by rw[hq];exact hr) h
def ctlD (TS:List TskD)(rest st:Int):CtlD:=⟨TS,rest,st,0,false,false,0,0,0,false,false,false⟩
def PlC (ta:Value)(rest st:Int)(v t s:Value):List Value:=RunC 0 ta (ctlD [] rest st) (.slice none 0 0) v t s
def pl0:List Value:=PlC (.slice none 0 0) 0 0 (.slice none 0 0) (.slice none 0 0) (.slice none 0 0)
theorem zuw (g n c:Nat)(rest st:Int):Tryz.prog.built 146 [(1,.agg (CtlC (.slice (some ⟨g,0,none⟩) n c) rest st).toArray)]=some (PlC (.slice (some ⟨g,0,none⟩) n c) rest st (.slice none 0 0) (.slice none 0 0) (.slice none 0 0)).toArray:=by kernel_rfl
theorem Tryz.infoPlay:(Tryz.prog.info? 146).map (·.size)=some 17:=by kernel_rfl
theorem zqv {a:Option Addr}{n c:Nat}{R st:Int}{v t s:Value}(hv:v.oneCell'=true)(ht:t.oneCell'=true)(hs:s.oneCell'=true):∀ u∈PlC (.slice a n c) R st v t s,u.oneCell'=true:=fun u hu=>by
 simp only[PlC,RunC,ctlD,qq,qn,or_false]at hu;rcases hu with rfl|rfl|rfl|rfl|rfl|rfl|rfl|rfl|rfl|rfl|rfl|rfl|rfl|rfl|rfl|rfl|rfl<;>first|rfl|assumption
theorem Tryz.infoSrvK:(Tryz.prog.info? 213).map (fun i=>(i.zero,i.size,i.bytes))=some (some (.agg #[.slice none 0 0,.slice none 0 0]),2,48):=by kernel_rfl
theorem Tryz.infoTopK:(Tryz.prog.info? 216).map (fun i=>(i.zero,i.size,i.bytes))=some (some (.agg #[.int .i64 0,.slice none 0 0]),2,32):=by kernel_rfl
theorem zc5 {w W:World}{B k n:Nat}{e:TypeId}{v:Value}{xs:List Value}(h:w.ownsRow B e k v n xs)(hk:∀ g cur,B<=g->w.heap[g]?=some (.cells cur e (0,0))->W.heap[g]?=w.heap[g]?):W.ownsRow B e k v n xs:=by
 refine⟨h.1,h.2.imp id ?_⟩;rintro ⟨g,cap,cur,h1,h2,h3,h4⟩;exact⟨g,cap,cur,h1,h2,(hk g cur h2 h3).trans h3,h4⟩
structure SrvF (W:World)(B:Nat)(f:zac)(j:Nat)(sv:List (Value×Value)):Prop where
 sl:sv.length=j
 ins:∀ (i:Nat) (V:SvcD) (q:Value×Value),f.vs[i]?=some V->sv[i]?=some q->W.ownsRow B 266 2 q.1 V.size.toNat ((qm V.size.toNat ⟨V.now,0⟩).flatMap insF)
 rel:∀ (i:Nat) (V:SvcD) (q:Value×Value),f.vs[i]?=some V->sv[i]?=some q->RelN W B q.2 V.rels
 dif:∀ (i j:Nat) (p q:Value×Value) (b:Nat),i<j->sv[i]?=some p->sv[j]?=some q->p.1.ownBlock=some b->q.1.ownBlock≠some b
def SrvT (e:TypeId):Prop:=e=266\/e=106\/e=165
theorem RelN.to {w W:World}{B:Nat}{v:Value}{rels:List (List PinD)}(h:RelN w B v rels)(hk:∀ g cur e,B<=g->SrvT e->w.heap[g]?=some (.cells cur e (0,0))->W.heap[g]?=w.heap[g]?):RelN W B v rels:=by
 obtain⟨pv,h1,h2⟩:=h;exact⟨pv,zc5 h1 fun g cur hg hc=>hk g cur _ hg (.inr (.inl rfl)) hc,fun i ps u hi hu=>zc5 (h2 i ps u hi hu) fun g cur hg hc=>hk g cur _ hg (.inr (.inr rfl)) hc⟩
theorem RelN.mono {w:World}{B B':Nat}{v:Value}{rels:List (List PinD)}(h:RelN w B v rels)(hB:B'<=B):RelN w B' v rels:=by
 obtain⟨pv,h1,h2⟩:=h;exact⟨pv,h1.mono hB,fun i ps u hi hu=>(h2 i ps u hi hu).mono hB⟩
theorem SrvF.to {w W:World}{B:Nat}{f:zac}{j:Nat}{sv:List (Value×Value)}(h:SrvF w B f j sv)(hk:∀ g cur e,B<=g->SrvT e->w.heap[g]?=some (.cells cur e (0,0))->W.heap[g]?=w.heap[g]?):SrvF W B f j sv :=
 ⟨h.sl,fun i V q hV hq=>zc5 (h.ins i V q hV hq) fun g cur hg hc=>hk g cur _ hg (.inl rfl) hc,fun i V q hV hq=>(h.rel i V q hV hq).to hk,h.dif⟩
theorem SrvF.add {W:World}{B:Nat}{f:zac}{j:Nat}{sv:List (Value×Value)}(h:SrvF W B f j sv){V:SvcD}{iv rv:Value}{C:Nat}(hV:f.vs[j]?=some V)(hB:B<=C)(h1:W.ownsRow C 266 2 iv V.size.toNat ((qm V.size.toNat ⟨V.now,0⟩).flatMap insF))(h2:RelN W C rv V.rels)(hlt:∀ (i:Nat) (p:Value×Value) (b:Nat),sv[i]?=some p->p.1.ownBlock=some b->b<C):SrvF W B f (j+1) (sv++[(iv,rv)]):=by
 have hl:=h.sl;have key:∀ (i:Nat) (q:Value×Value),(sv++[(iv,rv)])[i]?=some q->(i<j/\sv[i]?=some q)\/(i=j/\q=(iv,rv)):=fun i q hq=>by
  by_cases hi:i<j
  ·rw[List.getElem?_append_left (by omega)]at hq;exact .inl ⟨hi,hq⟩
  ·have:=(xv.1 hq).1;have hij:i=j:=by simp at this;omega
   subst hij;rw[List.getElem?_append_right (by omega),hl,Nat.sub_self]at hq;exact .inr ⟨rfl,by simpa using hq.symm⟩
 refine⟨by simp[hl],fun i V' q hV' hq=>?_,fun i V' q hV' hq=>?_,fun a b p q k hab hp hq hk=>?_⟩
 ·rcases key i q hq with⟨_,e⟩|⟨rfl,rfl⟩
  ·exact h.ins i V' q hV' e
  ·rw[hV]at hV';cases hV';exact h1.mono hB
 ·rcases key i q hq with⟨_,e⟩|⟨rfl,rfl⟩
  ·exact h.rel i V' q hV' e
  ·rw[hV]at hV';cases hV';exact h2.mono hB
 ·rcases key a p hp with⟨a1,e1⟩|⟨a1,rfl⟩
  ·rcases key b q hq with⟨_,e2⟩|⟨_,rfl⟩
   ·exact h.dif a b p q k hab e1 e2 hk
   ·intro e;have:=hlt a p k e1 hk;have:=(xo h1 k e).1;omega
  ·rcases key b q hq with⟨b1,_⟩|⟨b1,_⟩<;>omega
theorem zey {w:World}{g:Nat}{x:Obj}(h:w.heap[g]?=some x):g<w.heap.size:=by
 rcases Nat.lt_or_ge g w.heap.size with q|q
 ·exact q
 ·rw[Array.getElem?_eq_none q]at h;cases h
theorem zln {w2 w3 w4 w5 w6:World}{pb j:Nat}{v u:Value}{f:zac}{sv:List (Value×Value)}{V:SvcD}{iv rv:Value}{o:Obj}{ys:List Value}(hp:pb<w2.heap.size)(h2:w2.heap.size<=w3.heap.size)(hb4:Below w3.heap.size w3 w4)(hb5:Below w4.drew.heap.size w4.drew w5)(hg:(w5.alloc o).grownBy w6 v.ownBlock)
  (HO:w3.ownsRow w2.heap.size 213 2 v j ys) (HF:SrvF w3 w2.heap.size f j sv) (hV:f.vs[j]?=some V) (hI:w5.ownsRow w4.drew.heap.size 266 2 iv V.size.toNat ((qm V.size.toNat ⟨V.now,0⟩).flatMap insF)) (hR:RelN w5 w4.drew.heap.size rv V.rels):SrvF (w6.setCell ⟨pb,14,none⟩ u) w2.heap.size f (j+1) (sv++[(iv,rv)]):=by
 have O5:w5.ownsRow w2.heap.size 213 2 v j ys:=zas (zas HO hb4).drew hb5;have z4:=hb4.size;have z5:w4.heap.size<=w5.heap.size:=hb5.size;have z4':w4.drew.heap.size=w4.heap.size:=rfl;have key:∀ g cur e,w2.heap.size<=g->SrvT e->w5.heap[g]?=some (.cells cur e (0,0))->(w6.setCell ⟨pb,14,none⟩ u).heap[g]?=w5.heap[g]?:=fun g cur e hg2 he hc=>by
  have hl:=zey hc;rw[Below.heap_setCell _ _ _ _ (show g≠pb by omega),hg.block g (by simp;omega) (fun q=>?_)]
  ·exact(bel1 w5 o).block g hl
  ·obtain⟨_,cur',q2⟩:=zie O5 q.symm;rw[hc]at q2;have:e=213:=by simp at q2;exact q2.2
   unfold SrvT at he;rw[this]at he
   revert he
   decide
 have HF5:SrvF w5 w2.heap.size f j sv:=HF.to fun g cur e hg2 _ hc=>by
  have hl:=zey hc;exact(hb5.block g (by omega)).trans (hb4.block g hl)
 refine(HF5.to key).add hV (C:=w4.drew.heap.size) (by omega) (zc5 hI fun g cur hg2 hc=>key g cur _ (by omega) (.inl rfl) hc) (hR.to fun g cur e hg2 he hc=>key g cur e (by omega) he hc) (fun i p b hp' hb'=>?_);have hi:=(xv.1 hp').1;have hij:i<f.vs.length:=by have:=HF.sl;have:=(xv.1 hV).1;omega
 have:=(xo (HF.ins i _ p (xq hij) hp') b hb').2;omega
theorem zfb {w W:World}{b:Nat}{t:TypeId}{cs:List Value}(hc:Chg (·= b) w W)(hr:RowIs w b t cs):∀ (g:Nat) (cur:Array Value) (e:TypeId),e≠t->w.heap[g]?=some (.cells cur e (0,0))->W.heap[g]?=w.heap[g]?:=fun g cur e he hg=>by
 refine hc.block g (zey hg) (fun q=>?_);subst q;unfold RowIs at hr;rw[hg]at hr;simp at hr;exact he hr.2
def zl2 (f:zac)(n:Nat)(xs:List Value)(R st:Int)(w:World)(e:Ending)(W:World):Prop:=∃ gt cap v t s sv,e=.returned (.agg (PlC (.slice (some ⟨gt,0,none⟩) n cap) R st v t s).toArray)/\W.ownsRow w.heap.size 303 4 (.slice (some ⟨gt,0,none⟩) n cap) n xs/\W.ownsRow w.heap.size 213 2 v f.vs.length (sv.flatMap fun q=>[q.1,q.2])/\SrvF W w.heap.size f f.vs.length sv/\W.ownsRow w.heap.size 216 2 t f.ts.length (f.ts.flatMap fun k=>[.int .i64 k,.slice none 0 0])/\W.ownsRow w.heap.size 9 1 s f.ss.length (f.ss.map Value.string)/\Below w.heap.size w W
theorem SrvF.mono {W:World}{B C:Nat}{f:zac}{j:Nat}{sv:List (Value×Value)}(h:SrvF W B f j sv)(hb:C<=B):SrvF W C f j sv :=
 ⟨h.sl,fun i V q hV hq=>(h.ins i V q hV hq).mono hb,fun i V q hV hq=>(h.rel i V q hV hq).mono hb,h.dif⟩
theorem zuu (f:zac)(sa ta va ma:Option Addr)(sl sc tl tc vl vc n mc:Nat)(R st:Int)(xs:List Value)(w:World)(hf:FleetAt w sa sl sc ta tl tc va vl vc f)(hvl:vl<=3)(htl:tl<=4)(hsl:sl<=8)
  (hsz:∀ v∈f.vs,0<=v.size/\v.size<=3/\v.rels.length<=3/\∀ ps∈v.rels,ps.length<=4)
  (c1:∀ W,Below w.heap.size w W->Calls Tryz.prog 133 #[.agg #[.slice sa sl sc,.slice ta tl tc,.slice va vl vc],.slice ma n mc] W fun e W'=>∃ g cap,e=.returned (.agg (CtlC (.slice (some ⟨g,0,none⟩) n cap) R st).toArray)/\W'.ownsRow W.heap.size 303 4 (.slice (some ⟨g,0,none⟩) n cap) n xs/\Below W.heap.size W W') :
  Calls Tryz.prog 71 #[.agg #[.slice sa sl sc,.slice ta tl tc,.slice va vl vc],.slice ma n mc] w fun e W=>zl2 f n xs R st w e W:=by
 obtain⟨iS,hiS,zS0,zS1,zS2⟩:=info_parts Tryz.infoSrvK;obtain⟨iT,hiT,zT0,zT1,zT2⟩:=info_parts Tryz.infoTopK;obtain⟨iG,hiG,zG0,zG1,zG2⟩:=info_parts Tryz.infoStrL;have Z0:=zaa (show RowIs ((w.alloc (.cells #[.slice sa sl sc,.slice ta tl tc,.slice va vl vc] 26)).alloc (.cells pl0.toArray 146)) (w.heap.size+1) 146 pl0 from nw2 _ _ _);have F0:=zaa (RowIs.keep (show RowIs (w.alloc (.cells #[.slice sa sl sc,.slice ta tl tc,.slice va vl vc] 26)) w.heap.size 26 [.slice sa sl sc,.slice ta tl tc,.slice va vl vc]from zal _ _) (bel1 _ (.cells pl0.toArray 146)));have B0:=zaa (thn3 (bel1 w (.cells #[.slice sa sl sc,.slice ta tl tc,.slice va vl vc] 26)) (bel1 _ (.cells pl0.toArray 146)));have b1:=zuw;have HSZ:=zaa hsz;have HF:=zaa hf;clear hf hsz
 go_enter Tryz.func71,Tryz.ntmps71
 go_wp2_with (first
  |(go_at_call 133;refine(c1 _ B0.out).mono ?_;rintro e w1 ⟨gt,cap,rfl,HO,hb1⟩)
  |(refine zsx rfl 146 _ rfl _ (by rw[Array.toList_map];rfl) _ (b1 gt n cap R st) ?_;(try simp only[xz,xe,xj,xm,xh,xf,xg]))
  |(refine zdd rfl 146 _ _ rfl w1.heap.size (PlC (.slice (some ⟨gt,0,none⟩) n cap) R st (.slice none 0 0) (.slice none 0 0) (.slice none 0 0)) pl0 _ rfl rfl (zal w1 (.cells pl0.toArray 146)) rfl Tryz.infoPlay (zqv rfl rfl rfl) ?_;intro w2 R2 C2;(try simp only[xz,xe,xj,xm,xh,xf,xg]);have F2:=zaa (C2.row ((F0.out.keep hb1).keep (bel1 w1 (.cells pl0.toArray 146))) (by have:=F0.out.lt;have:=hb1.size;omega));have y2:=F2.out.cell (j:=2) rfl))
 have l1:w.heap.size+2<=w1.heap.size:=by have:=hb1.size;simp at this;omega
 have B2:=zaa (show Below w.heap.size w w2 from(thn3 (thn3 B0.out hb1) (bel1 w1 (.cells pl0.toArray 146))).trans (C2.bel (by simp;omega) (fun k hk q=>by omega)));have Z2:=zaa (C2.row ((Z0.out.keep hb1).keep (bel1 w1 (.cells pl0.toArray 146))) (by omega));have O2:=zaa (show w2.ownsRow w.heap.size 303 4 (.slice (some ⟨gt,0,none⟩) n cap) n xs from(C2.own (zas HO (bel1 w1 (.cells pl0.toArray 146))) (fun b hb q=>by have:=(xo HO b hb).2;omega)).mono (by simp;omega));have R2:=zaa R2;have p2:w1.heap.size<w2.heap.size:=R2.out.lt;clear HO C2 hb1 c1 b1 Z0 F0 B0;generalize w1.heap.size=pb at *;clear w1;generalize hTA:Value.slice (some ⟨gt,0,none⟩) n cap=TA at *;have HTA:=zaa hTA;clear hTA
 go_loopw [19] (fun vi wr=>∃ (j:Nat) (v:Value) (sv:List (Value×Value)),j<=vl/\vi=.int .i64 j/\RowIs wr pb 146 (PlC TA R st v (.slice none 0 0) (.slice none 0 0))/\wr.ownsRow w2.heap.size 213 2 v j (sv.flatMap fun q=>[q.1,q.2])/\Hid (SrvF wr w2.heap.size f j sv)/\Chg (·= pb) w2 wr) (fun i _=>vl-(intOf i).toNat)
 case atStart=>exact⟨0,.slice none 0 0,[],qo _,rfl,R2.out,qg _ _ _ _,⟨rfl,fun i V q _ hq=>by simp at hq,fun i V q _ hq=>by simp at hq,fun i j p q b _ hq=>by simp at hq⟩,Chg.refl _ _⟩
 case round =>
  obtain⟨j,v,sv,hj,rfl,hR,hO,HF3,hC⟩:=hrel
  rename World=>w3
  have hx0 := znn j;have HR:=zaa hR;have HO:=zaa hO;have HC:=zaa hC;have z3:=hC.size;have B3:=zaa (show Below w.heap.size w w3 from B2.out.trans (hC.bel B2.out.size (fun k hk q=>by omega)));by_cases hlt:j<vl
  ·obtain⟨V,hV⟩:∃ V,f.vs[j]?=some V:=⟨f.vs[j]'(by rw[<- HF.out.v1];exact hlt),xq _⟩;obtain⟨b,o,ra,rl,rc,rfl,d0,d1,d2,d3,hrs⟩:=(HF.out.keep B3.out).v3 j V hV;obtain⟨s1,s2,s3,s4⟩:=HSZ.out V (qd hV);have cS:=fun (W:World) (h:Below w3.heap.size w3 W)=>yaca V V.size.toNat ra rl rc W (by omega) (by omega) (RelSl.keepP h hrs) s3 s4;have hx1:(j:Int)<(vl:Int):=by omega
   have HV:=zaa hV;have lb:=zag d0;have r14:=hR.cell (j:=14) rfl;have x14:=hR.frozen 14;have lp:=hR.lt;clear hR hO hC hV hrs
   go_wp2_with fail
   obtain⟨Vs,Vn,Vw,Vr⟩:=V;simp only at d0 d1 d2 s1 s2 s3 s4 cS;have E4:=zaa (show RowIs (w3.alloc (.cells #[.int .i64 Vs,.int .i64 Vn,.int .i64 Vw,.slice ra rl rc] 73)) w3.heap.size 73 [.int .i64 Vs,.int .i64 Vn,.int .i64 Vw,.slice ra rl rc]from zal _ _);have hb4:=zaa (bel1 w3 (.cells #[.int .i64 Vs,.int .i64 Vn,.int .i64 Vw,.slice ra rl rc] 73));have q14:=zah (.cells #[.int .i64 Vs,.int .i64 Vn,.int .i64 Vw,.slice ra rl rc] 73) r14;have hne:v.ownBlock≠some pb:=fun e=>by have:=(xo HO.out _ e).1;omega
   have hz4:(w3.alloc (.cells #[.int .i64 Vs,.int .i64 Vn,.int .i64 Vw,.slice ra rl rc] 73)).heap.size=w3.heap.size+1:=by simp
   generalize w3.alloc (.cells #[.int .i64 Vs,.int .i64 Vn,.int .i64 Vw,.slice ra rl rc] 73)=w4 at *;have e0:=E4.out.cell (j:=0) rfl;have e1:=E4.out.cell (j:=1) rfl;have e2:=E4.out.cell (j:=2) rfl;have e3:=E4.out.cell (j:=3) rfl;clear r14 x14;have hpn:pb≠w3.heap.size:=by omega
   have q14':w4.drew.cell? ⟨pb,14,none⟩=some v:=q14;refine wp_region_held_drew (S:=(fun w'=>w'.cell? ⟨w3.heap.size,0,none⟩=some (.int .i64 Vs)/\w'.cell? ⟨w3.heap.size,1,none⟩=some (.int .i64 Vn)/\w'.cell? ⟨w3.heap.size,2,none⟩=some (.int .i64 Vw)/\w'.cell? ⟨w3.heap.size,3,none⟩=some (.slice ra rl rc))) (by kernel_rfl) ⟨e0,e1,e2,e3⟩ (fun hHeld=>?_);refine wpAnyH_take (i:=0) (v:=?_) rfl (by kernel_rfl) (by kernel_rfl) (by kernel_rfl) (fun _ _ _ h=>h) (qu ⟨by rfl,?_⟩) (by assumption) ?_;rotate_left
   ·intro w9 hSw
    (try dsimp only at hSw)
    go_simp
    all_goals with_reducible rfl
   (try simp only[xz,xe,xj,xm,xh,xf,xg])
   refine wpAnyH_take (i:=2) (v:=?_) rfl (by kernel_rfl) (by kernel_rfl) (by kernel_rfl) (fun _ _ _ h=>h) (qu ⟨by rfl,?_⟩) (by assumption) ?_;rotate_left
   ·intro w9 hSw
    (try dsimp only at hSw)
    go_simp
    all_goals with_reducible rfl
   (try simp only[xz,xe,xj,xm,xh,xf,xg])
   refine wpAnyH_ready (rs:=[1,3]) (by kernel_rfl) (by simp) ?_;refine xu rfl (fun K hK=>?_) (xu rfl (fun K hK=>?_) xy)
   ·skip
    go_simp
    refine hK.out _ _ ⟨e0,e1,e2,e3⟩ (fun hHeld=>?_);clear hK K
    (try simp only[xz,xe,xj,xm,xh,xf,xg])
    refine wpAnyH_ready (rs:=[3]) (by kernel_rfl) (by simp) ?_;refine xu rfl (fun K hK=>?_) xy
    go_simp
    go_at_call 134
    refine(cS _ hb4.out.drew).mono ?_;rintro e w5 ⟨iv,rv,rfl,hI5,hR5,hb5⟩;obtain⟨ia,ic,rfl,_⟩:=zbb hI5 (by omega);obtain⟨rv2,rc2,rfl⟩:∃ a c,rv=.slice a Vr.length c:=(by obtain⟨pv,p1,_⟩:=hR5;obtain⟨a,c,q,_⟩:=zbb p1 (by omega);exact⟨a,c,q⟩);have HI5:=zaa hI5;have HR5:=zaa hR5;have t0:=zab hb5 (show w4.drew.cell? _=_ from e0);have t1:=zab hb5 (show w4.drew.cell? _=_ from e1);have t2:=zab hb5 (show w4.drew.cell? _=_ from e2);have t3:=zab hb5 (show w4.drew.cell? _=_ from e3);have t14:=zab hb5 q14';have l5:=zag t14;have l50:=zag t0;clear hI5 hR5
    (try go_wp2_with fail)
    refine hK.out _ _ ⟨t0,t1,t2,t3⟩ (fun hHeld=>?_);clear hK K
    (try simp only[xz,xe,xj,xm,xh,xf,xg])
    refine wpAnyH_ready (rs:=[4]) (by kernel_rfl) (by simp) ?_;refine xu rfl (fun K hK=>?_) xy
    go_simp
    refine hK.out _ _ ⟨zah _ t0,zah _ t1,zah _ t2,zah _ t3⟩ (fun hHeld=>?_);clear hK K
    (try simp only[xz,xe,xj,xm,xh,xf,xg])
    refine wpAnyH_ready (rs:=[5]) (by kernel_rfl) (by simp) ?_;refine xu rfl (fun K hK=>?_) xy;refine step_append_lies _ (by rfl) _ _ _ (by rfl) w2.heap.size 213 iS _ 2 48 Tryz.underlying143 hiS zS0 zS1 zS2 rfl (by omega) v j _ (by rfl) ((zas (zas HO.out hb4.out).drew hb5).alloc _) ⟨w5.heap.size,0,none⟩ 1 1 [.slice ia Vs.toNat ic,.slice rv2 Vr.length rc2] (by rfl) (by rfl) (qf (heap_alloc_new w5 _)) (by simp[qh]) (by omega) (by unfold maxLen;omega) (by omega) (by have:=hb5.size;simp;omega) (w5.heap.size+1) (by simp) ?_;intro g2 cap2 w6 hown2 hgrow2 hat2 hlt2;have HO6:=zaa hown2;have HG6:=zaa hgrow2;have M6:=zaa (((((HR.out.keep hb4.out).drew).keep hb5).keep (bel1 w5 (.cells #[.slice ia Vs.toNat ic,.slice rv2 Vr.length rc2] 213))).grown hgrow2 hne);have m14:=M6.out.cell (j:=14) rfl;have f14:=M6.out.frozen 14;have N6:=zaa (((((show RowIs w4.drew w3.heap.size 73 [.int .i64 Vs,.int .i64 Vn,.int .i64 Vw,.slice ra rl rc]from E4.out).keep hb5).keep (bel1 w5 (.cells #[.slice ia Vs.toNat ic,.slice rv2 Vr.length rc2] 213)))).grown hgrow2 (fun e=>(by have:=(xo HO.out _ e).2;omega)));have h0:=N6.out.cell (j:=0) rfl;have h1:=N6.out.cell (j:=1) rfl;have h2:=N6.out.cell (j:=2) rfl;have h3:=N6.out.cell (j:=3) rfl;clear hown2 hgrow2;refine hK.out _ _ ⟨h0,h1,h2,h3⟩ (fun hHeld=>?_);clear hK K
    (try simp only[xz,xe,xj,xm,xh,xf,xg])
    refine wpAnyH_take (i:=6) (v:=?_) rfl (by kernel_rfl) (by kernel_rfl) (by kernel_rfl) (fun _ _ _ h=>h) (qu ⟨by rfl,?_⟩) (by assumption) ?_;rotate_left
    ·intro w9 hSw
     (try dsimp only at hSw)
     go_simp
     all_goals with_reducible rfl
    (try simp only[xz,xe,xj,xm,xh,xf,xg])
    refine wpAnyH_ready (rs:=[7]) (by kernel_rfl) (by simp) ?_;refine xu rfl (fun K hK=>?_) xy
    go_simp
    refine hK.out _ _ ⟨(N6.out.setOther (p:=⟨pb,14,none⟩) hpn _).cell (j:=0) rfl,(N6.out.setOther (p:=⟨pb,14,none⟩) hpn _).cell (j:=1) rfl,(N6.out.setOther (p:=⟨pb,14,none⟩) hpn _).cell (j:=2) rfl,(N6.out.setOther (p:=⟨pb,14,none⟩) hpn _).cell (j:=3) rfl⟩ (fun hHeld=>?_);clear hK K;refine wpAnyH_done (by kernel_rfl) ?_ _
    go_wp2_with fail
    go_roundw
    case rel =>
     refine⟨j+1,.slice (some ⟨g2,0,none⟩) (j+1) cap2,sv++[(.slice ia Vs.toNat ic,.slice rv2 Vr.length rc2)],by omega,by go_num,M6.out.set 14 _,?_,zln p2 z3 hb4.out hb5 HG6.out HO.out HF3.out HV.out HI5.out HR5.out,?_⟩
     ·rw[qi];exact((Chg.refl (·= pb) w6).set (p:=⟨pb,14,none⟩) (.inl rfl) _).own HO6.out (fun b hb e=>by have:=(xo HO6.out b hb).1;omega)
     ·exact((Chg.trans (Chg.trans HC.out (Chg.of hb4.out)).drew ((Chg.of hb5).alloc _)).grown HG6.out (fun k hk=>.inr (xo HO.out k hk).1)).set (p:=⟨pb,14,none⟩) (.inl rfl) _
    case measure=>simp[intOf];omega
   ·skip
    go_simp
    go_at_call 134
    refine(cS _ hb4.out.drew).mono ?_;rintro e w5 ⟨iv,rv,rfl,hI5,hR5,hb5⟩;obtain⟨ia,ic,rfl,_⟩:=zbb hI5 (by omega);obtain⟨rv2,rc2,rfl⟩:∃ a c,rv=.slice a Vr.length c:=(by obtain⟨pv,p1,_⟩:=hR5;obtain⟨a,c,q,_⟩:=zbb p1 (by omega);exact⟨a,c,q⟩);have HI5:=zaa hI5;have HR5:=zaa hR5;have t0:=zab hb5 (show w4.drew.cell? _=_ from e0);have t1:=zab hb5 (show w4.drew.cell? _=_ from e1);have t2:=zab hb5 (show w4.drew.cell? _=_ from e2);have t3:=zab hb5 (show w4.drew.cell? _=_ from e3);have t14:=zab hb5 q14';have l5:=zag t14;have l50:=zag t0;clear hI5 hR5
    (try go_wp2_with fail)
    refine hK.out _ _ ⟨t0,t1,t2,t3⟩ (fun hHeld=>?_);clear hK K
    (try simp only[xz,xe,xj,xm,xh,xf,xg])
    refine wpAnyH_ready (rs:=[1,4]) (by kernel_rfl) (by simp) ?_;refine xu rfl (fun K hK=>?_) (xu rfl (fun K hK=>?_) xy)
    ·skip
     go_simp
     refine hK.out _ _ ⟨t0,t1,t2,t3⟩ (fun hHeld=>?_);clear hK K
     (try simp only[xz,xe,xj,xm,xh,xf,xg])
     refine wpAnyH_ready (rs:=[4]) (by kernel_rfl) (by simp) ?_;refine xu rfl (fun K hK=>?_) xy
     go_simp
     refine hK.out _ _ ⟨zah _ t0,zah _ t1,zah _ t2,zah _ t3⟩ (fun hHeld=>?_);clear hK K
     (try simp only[xz,xe,xj,xm,xh,xf,xg])
     refine wpAnyH_ready (rs:=[5]) (by kernel_rfl) (by simp) ?_;refine xu rfl (fun K hK=>?_) xy;refine step_append_lies _ (by rfl) _ _ _ (by rfl) w2.heap.size 213 iS _ 2 48 Tryz.underlying143 hiS zS0 zS1 zS2 rfl (by omega) v j _ (by rfl) ((zas (zas HO.out hb4.out).drew hb5).alloc _) ⟨w5.heap.size,0,none⟩ 1 1 [.slice ia Vs.toNat ic,.slice rv2 Vr.length rc2] (by rfl) (by rfl) (qf (heap_alloc_new w5 _)) (by simp[qh]) (by omega) (by unfold maxLen;omega) (by omega) (by have:=hb5.size;simp;omega) (w5.heap.size+1) (by simp) ?_;intro g2 cap2 w6 hown2 hgrow2 hat2 hlt2;have HO6:=zaa hown2;have HG6:=zaa hgrow2;have M6:=zaa (((((HR.out.keep hb4.out).drew).keep hb5).keep (bel1 w5 (.cells #[.slice ia Vs.toNat ic,.slice rv2 Vr.length rc2] 213))).grown hgrow2 hne);have m14:=M6.out.cell (j:=14) rfl;have f14:=M6.out.frozen 14;have N6:=zaa (((((show RowIs w4.drew w3.heap.size 73 [.int .i64 Vs,.int .i64 Vn,.int .i64 Vw,.slice ra rl rc]from E4.out).keep hb5).keep (bel1 w5 (.cells #[.slice ia Vs.toNat ic,.slice rv2 Vr.length rc2] 213)))).grown hgrow2 (fun e=>(by have:=(xo HO.out _ e).2;omega)));have h0:=N6.out.cell (j:=0) rfl;have h1:=N6.out.cell (j:=1) rfl;have h2:=N6.out.cell (j:=2) rfl;have h3:=N6.out.cell (j:=3) rfl;clear hown2 hgrow2;refine hK.out _ _ ⟨h0,h1,h2,h3⟩ (fun hHeld=>?_);clear hK K
     (try simp only[xz,xe,xj,xm,xh,xf,xg])
     refine wpAnyH_take (i:=6) (v:=?_) rfl (by kernel_rfl) (by kernel_rfl) (by kernel_rfl) (fun _ _ _ h=>h) (qu ⟨by rfl,?_⟩) (by assumption) ?_;rotate_left
     ·intro w9 hSw
      (try dsimp only at hSw)
      go_simp
      all_goals with_reducible rfl
     (try simp only[xz,xe,xj,xm,xh,xf,xg])
     refine wpAnyH_ready (rs:=[7]) (by kernel_rfl) (by simp) ?_;refine xu rfl (fun K hK=>?_) xy
     go_simp
     refine hK.out _ _ ⟨(N6.out.setOther (p:=⟨pb,14,none⟩) hpn _).cell (j:=0) rfl,(N6.out.setOther (p:=⟨pb,14,none⟩) hpn _).cell (j:=1) rfl,(N6.out.setOther (p:=⟨pb,14,none⟩) hpn _).cell (j:=2) rfl,(N6.out.setOther (p:=⟨pb,14,none⟩) hpn _).cell (j:=3) rfl⟩ (fun hHeld=>?_);clear hK K;refine wpAnyH_done (by kernel_rfl) ?_ _
     go_wp2_with fail
     go_roundw
     case rel =>
      refine⟨j+1,.slice (some ⟨g2,0,none⟩) (j+1) cap2,sv++[(.slice ia Vs.toNat ic,.slice rv2 Vr.length rc2)],by omega,by go_num,M6.out.set 14 _,?_,zln p2 z3 hb4.out hb5 HG6.out HO.out HF3.out HV.out HI5.out HR5.out,?_⟩
      ·rw[qi];exact((Chg.refl (·= pb) w6).set (p:=⟨pb,14,none⟩) (.inl rfl) _).own HO6.out (fun b hb e=>by have:=(xo HO6.out b hb).1;omega)
      ·exact((Chg.trans (Chg.trans HC.out (Chg.of hb4.out)).drew ((Chg.of hb5).alloc _)).grown HG6.out (fun k hk=>.inr (xo HO.out k hk).1)).set (p:=⟨pb,14,none⟩) (.inl rfl) _
     case measure=>simp[intOf];omega
    ·skip
     go_simp
     refine hK.out _ _ ⟨zah _ t0,zah _ t1,zah _ t2,zah _ t3⟩ (fun hHeld=>?_);clear hK K
     (try simp only[xz,xe,xj,xm,xh,xf,xg])
     refine wpAnyH_ready (rs:=[1]) (by kernel_rfl) (by simp) ?_;refine xu rfl (fun K hK=>?_) xy
     go_simp
     refine hK.out _ _ ⟨zah _ t0,zah _ t1,zah _ t2,zah _ t3⟩ (fun hHeld=>?_);clear hK K
     (try simp only[xz,xe,xj,xm,xh,xf,xg])
     refine wpAnyH_ready (rs:=[5]) (by kernel_rfl) (by simp) ?_;refine xu rfl (fun K hK=>?_) xy;refine step_append_lies _ (by rfl) _ _ _ (by rfl) w2.heap.size 213 iS _ 2 48 Tryz.underlying143 hiS zS0 zS1 zS2 rfl (by omega) v j _ (by rfl) ((zas (zas HO.out hb4.out).drew hb5).alloc _) ⟨w5.heap.size,0,none⟩ 1 1 [.slice ia Vs.toNat ic,.slice rv2 Vr.length rc2] (by rfl) (by rfl) (qf (heap_alloc_new w5 _)) (by simp[qh]) (by omega) (by unfold maxLen;omega) (by omega) (by have:=hb5.size;simp;omega) (w5.heap.size+1) (by simp) ?_;intro g2 cap2 w6 hown2 hgrow2 hat2 hlt2;have HO6:=zaa hown2;have HG6:=zaa hgrow2;have M6:=zaa (((((HR.out.keep hb4.out).drew).keep hb5).keep (bel1 w5 (.cells #[.slice ia Vs.toNat ic,.slice rv2 Vr.length rc2] 213))).grown hgrow2 hne);have m14:=M6.out.cell (j:=14) rfl;have f14:=M6.out.frozen 14;have N6:=zaa (((((show RowIs w4.drew w3.heap.size 73 [.int .i64 Vs,.int .i64 Vn,.int .i64 Vw,.slice ra rl rc]from E4.out).keep hb5).keep (bel1 w5 (.cells #[.slice ia Vs.toNat ic,.slice rv2 Vr.length rc2] 213)))).grown hgrow2 (fun e=>(by have:=(xo HO.out _ e).2;omega)));have h0:=N6.out.cell (j:=0) rfl;have h1:=N6.out.cell (j:=1) rfl;have h2:=N6.out.cell (j:=2) rfl;have h3:=N6.out.cell (j:=3) rfl;clear hown2 hgrow2;refine hK.out _ _ ⟨h0,h1,h2,h3⟩ (fun hHeld=>?_);clear hK K
     (try simp only[xz,xe,xj,xm,xh,xf,xg])
     refine wpAnyH_take (i:=6) (v:=?_) rfl (by kernel_rfl) (by kernel_rfl) (by kernel_rfl) (fun _ _ _ h=>h) (qu ⟨by rfl,?_⟩) (by assumption) ?_;rotate_left
     ·intro w9 hSw
      (try dsimp only at hSw)
      go_simp
      all_goals with_reducible rfl
     (try simp only[xz,xe,xj,xm,xh,xf,xg])
     refine wpAnyH_ready (rs:=[7]) (by kernel_rfl) (by simp) ?_;refine xu rfl (fun K hK=>?_) xy
     go_simp
     refine hK.out _ _ ⟨(N6.out.setOther (p:=⟨pb,14,none⟩) hpn _).cell (j:=0) rfl,(N6.out.setOther (p:=⟨pb,14,none⟩) hpn _).cell (j:=1) rfl,(N6.out.setOther (p:=⟨pb,14,none⟩) hpn _).cell (j:=2) rfl,(N6.out.setOther (p:=⟨pb,14,none⟩) hpn _).cell (j:=3) rfl⟩ (fun hHeld=>?_);clear hK K;refine wpAnyH_done (by kernel_rfl) ?_ _
     go_wp2_with fail
     go_roundw
     case rel =>
      refine⟨j+1,.slice (some ⟨g2,0,none⟩) (j+1) cap2,sv++[(.slice ia Vs.toNat ic,.slice rv2 Vr.length rc2)],by omega,by go_num,M6.out.set 14 _,?_,zln p2 z3 hb4.out hb5 HG6.out HO.out HF3.out HV.out HI5.out HR5.out,?_⟩
      ·rw[qi];exact((Chg.refl (·= pb) w6).set (p:=⟨pb,14,none⟩) (.inl rfl) _).own HO6.out (fun b hb e=>by have:=(xo HO6.out b hb).1;omega)
      ·exact((Chg.trans (Chg.trans HC.out (Chg.of hb4.out)).drew ((Chg.of hb5).alloc _)).grown HG6.out (fun k hk=>.inr (xo HO.out k hk).1)).set (p:=⟨pb,14,none⟩) (.inl rfl) _
     case measure=>simp[intOf];omega
  ·obtain rfl:vl=j:=by omega
   have F3:=zaa (hC.row F2.out (by omega));have y1:=F3.out.cell (j:=1) rfl;clear hR hO hC
   go_wp2_with fail
   go_loopw [34] (fun vi wr=>∃ (k:Nat) (t:Value),k<=tl/\vi=.int .i64 k/\RowIs wr pb 146 (PlC TA R st v t (.slice none 0 0))/\wr.ownsRow w3.heap.size 216 2 t k ((f.ts.take k).flatMap fun k=>[.int .i64 k,.slice none 0 0])/\Chg (·= pb) w3 wr) (fun i _=>tl-(intOf i).toNat)
   case atStart=>exact⟨0,.slice none 0 0,qo _,rfl,HR.out,qg _ _ _ _,Chg.refl _ _⟩
   case round =>
    obtain⟨k,t,hk,rfl,hR4,hO4,hC4⟩:=hrel
    rename World=>w4
    have hy0 := znn k;have HR4:=zaa hR4;have HO4:=zaa hO4;have HC4:=zaa hC4;have z4:=hC4.size;have B4:=zaa (show Below w.heap.size w w4 from B3.out.trans (hC4.bel B3.out.size (fun k hk q=>by omega)));by_cases hlt2:k<tl
    ·obtain⟨x,hx⟩:∃ x,f.ts[k]?=some x:=⟨f.ts[k]'(by rw[<- HF.out.t1];exact hlt2),xq _⟩;obtain⟨b,o,rfl,d0⟩:=(HF.out.keep B4.out).t3 k x hx;have hy1:(k:Int)<(tl:Int):=by omega
     have HE:=zaa (zh2 (f:=fun k:Int=>[.int .i64 k,.slice none 0 0]) hx);have lb:=zag d0;have r15:=hR4.cell (j:=15) rfl;have x15:=hR4.frozen 15;have lp:=hR4.lt;have hne:t.ownBlock≠some pb:=fun e=>by have:=(xo HO4.out _ e).1;omega
     clear hR4 hO4 hC4 hx
     go_wp2_with (at_builtin;refine wpList_append_lies _ rfl _ _ _ rfl w3.heap.size 216 iT _ 2 32 Tryz.underlying144 hiT zT0 zT1 zT2 rfl (by omega) t k _ rfl ((HO4.out.alloc _).alloc _) ⟨w4.heap.size+1,0,none⟩ 1 1 [.int .i64 x,.slice none 0 0] rfl rfl (qf (nw2 _ _ _)) (by simp[qh]) (by omega) (by unfold maxLen;omega) (by omega) (by simp;omega) (w4.heap.size+2) (by simp) ?_;intro g2 cap2 w8 hown2 hgrow2 hat2 hlt2;have M8:=zaa (((HR4.out.keep (bel1 w4 (.cells #[.int .i64 x] 104))).keep (bel1 _ (.cells #[.int .i64 x,.slice none 0 0] 216))).grown hgrow2 hne);have q0:=M8.out.cell (j:=15) rfl;have q1:=M8.out.frozen 15)
     go_roundw
     case rel =>
      refine⟨k+1,.slice (some ⟨g2,0,none⟩) (k+1) cap2,by omega,by go_num,M8.out.set 15 _,?_,?_⟩
      ·rw[HE.out];exact((Chg.refl (·= pb) w8).set (p:=⟨pb,15,none⟩) (.inl rfl) _).own hown2 (fun b hb e=>by have:=(xo hown2 b hb).1;omega)
      ·exact(((HC4.out.alloc _).alloc _).grown hgrow2 (fun k hk=>.inr (xo HO4.out k hk).1)).set (p:=⟨pb,15,none⟩) (.inl rfl) _
     case measure=>simp[intOf];omega
    ·obtain rfl:tl=k:=by omega
     have F4:=zaa (hC4.row F3.out (by omega));have y0:=F4.out.cell (j:=0) rfl;clear hR4 hO4 hC4
     go_wp2_with fail
     go_loopw [50] (fun vi wr=>∃ (i:Nat) (s:Value),i<=sl/\vi=.int .i64 i/\RowIs wr pb 146 (PlC TA R st v t s)/\wr.ownsRow w4.heap.size 9 1 s i ((f.ss.take i).map Value.string)/\Chg (·= pb) w4 wr) (fun i _=>sl-(intOf i).toNat)
     case atStart=>exact⟨0,.slice none 0 0,qo _,rfl,HR4.out,qg _ _ _ _,Chg.refl _ _⟩
     case round =>
      obtain⟨i,s,hi,rfl,hR5,hO5,hC5⟩:=hrel
      rename World=>w5
      have hz0 := znn i;have HR5:=zaa hR5;have HO5:=zaa hO5;have HC5:=zaa hC5;have z5:=hC5.size;have B5:=zaa (show Below w.heap.size w w5 from B4.out.trans (hC5.bel B4.out.size (fun k hk q=>by omega)));by_cases hlt3:i<sl
      ·obtain⟨x,hx⟩:∃ x,f.ss[i]?=some x:=⟨f.ss[i]'(by rw[<- HF.out.s1];exact hlt3),xq _⟩;obtain⟨b,o,rfl,d0⟩:=(HF.out.keep B5.out).s4 i x hx;have hxs:=HF.out.s3 x (qd hx);have hz1:(i:Int)<(sl:Int):=by omega
       have HX:=zaa hx;have lb:=zag d0;have r16:=hR5.cell (j:=16) rfl;have x16:=hR5.frozen 16;have lp:=hR5.lt;have hne:s.ownBlock≠some pb:=fun e=>by have:=(xo HO5.out _ e).1;omega
       clear hR5 hO5 hC5 hx
       go_wp2_with (first
        |(refine yae3 rfl 9 217 5 _ rfl x rfl Tryz.underlying9 Tryz.underlying217 Tryz.underlying5 ?_;intro c6 w6 hb6 hz6 hc6;clear hz6;have z6:=hb6.size;(try simp only[xz,xe,xj,xm,xh,xf,xg]);have HC6:=zaa hc6;have HB6:=zaa hb6;have hq:=zaa (zab hb6 r16);have r6:=zab hb6 r16;clear hc6)
        |(have hqq:=hq;refine yae4 rfl 217 9 5 _ rfl x w5.heap.size c6 rfl Tryz.underlying217 Tryz.underlying9 Tryz.underlying5 HC6.out ?_;(try simp only[xz,xe,xj,xm,xh,xf,xg]))
        |(at_builtin;refine wpList_append_lies _ rfl _ _ _ rfl w4.heap.size 9 iG _ 1 16 Tryz.underlying22 hiG zG0 zG1 zG2 rfl (by omega) s i _ rfl ((zas HO5.out HB6.out).alloc _) ⟨w6.heap.size,0,none⟩ 1 1 [.string x] rfl rfl (qf (heap_alloc_new w6 _)) (by simp[qh]) (by omega) (by unfold maxLen;omega) (by omega) (by simp;omega) (w6.heap.size+1) (by simp) ?_;intro g2 cap2 w8 hown2 hgrow2 hat2 hlt2;have M8:=zaa (((HR5.out.keep HB6.out).keep (bel1 w6 (.cells #[.string x] 9))).grown hgrow2 hne);have q0:=M8.out.cell (j:=16) rfl;have q1:=M8.out.frozen 16))
       go_roundw
       case rel =>
        refine⟨i+1,.slice (some ⟨g2,0,none⟩) (i+1) cap2,by omega,by go_num,M8.out.set 16 _,?_,?_⟩
        ·rw[List.take_add_one,HX.out,List.map_append];exact((Chg.refl (·= pb) w8).set (p:=⟨pb,16,none⟩) (.inl rfl) _).own hown2 (fun b hb e=>by have:=(xo hown2 b hb).1;omega)
        ·exact(((HC5.out.trans (Chg.of HB6.out)).alloc _).grown hgrow2 (fun k hk=>.inr (xo HO5.out k hk).1)).set (p:=⟨pb,16,none⟩) (.inl rfl) _
       case measure=>simp[intOf];omega
      ·obtain rfl:sl=i:=by omega
       have Z5:=zaa (hC5.row (HC4.out.row (HC.out.row Z2.out (by omega)) (by omega)) (by omega));have RR:=zaa (zik hR5);obtain⟨va',vc',hv',_⟩:=zbb HO.out (by omega);obtain⟨ta',tc',ht',_⟩:=zbb HO4.out (by omega);obtain⟨sa',sc',hs',_⟩:=zbb HO5.out (by omega);have h1v:v.oneCell'=true:=by rw[hv'];rfl
       have h1t:t.oneCell'=true:=by rw[ht'];rfl
       have h1s:s.oneCell'=true:=by rw[hs'];rfl
       clear hR5 hO5 hC5;have one:Hid (∀ u∈PlC TA R st v t s,u.oneCell'=true):=by rw[<- HTA.out];exact zqv h1v h1t h1s
       go_wp2_with (first
        |(refine wpList_load_mid rfl 146 _ rfl pb 0 rfl (PlC TA R st v t s) _ RR.out Tryz.underlying146 rfl Tryz.infoPlay ?_;(try simp only[xz,xe,xj,xm,xh,xf,xg]))
        |(refine zdd rfl 146 _ _ rfl (w.heap.size+1) (PlC TA R st v t s) pl0 _ rfl rfl Z5.out rfl Tryz.infoPlay one.out ?_;intro w6 R6 C6;(try simp only[xz,xe,xj,xm,xh,xf,xg])))
       have m:=fun (j:Nat) (hj:j<17)=>R6.cell (j:=j) (xq (l:=PlC TA R st v t s) hj);have m0:=m 0 (by omega);have m1:=m 1 (by omega);have m2:=m 2 (by omega);have m3:=m 3 (by omega);have m4:=m 4 (by omega);have m5:=m 5 (by omega);have m6:=m 6 (by omega);have m7:=m 7 (by omega);have m8:=m 8 (by omega);have m9:=m 9 (by omega);have m10:=m 10 (by omega);have m11:=m 11 (by omega);have m12:=m 12 (by omega);have m13:=m 13 (by omega);have m14:=m 14 (by omega);have m15:=m 15 (by omega);have m16:=m 16 (by omega);simp only[PlC,RunC,ctlD,xf,xg]at m0 m1 m2 m3 m4 m5 m6 m7 m8 m9 m10 m11 m12 m13 m14 m15 m16;refine bodyPost_ret (v:=.agg (PlC TA R st v t s).toArray) (by simp[results,Tryz.results71,go_sem,PlC,RunC,ctlD,m0,m1,m2,m3,m4,m5,m6,m7,m8,m9,m10,m11,m12,m13,m14,m15,m16]) rfl ?_;have k5:=zfb C6 Z5.out;have k4:∀ (g:Nat) (cur:Array Value) (e:TypeId),e≠146->w4.heap[g]?=some (.cells cur e (0,0))->w6.heap[g]?=w4.heap[g]?:=fun g cur e he hg=>by
        have h1:=zfb HC5.out HR4.out g cur e he hg;rw[<- h1];exact k5 g cur e he (h1.trans hg)
       have k3:∀ (g:Nat) (cur:Array Value) (e:TypeId),e≠146->w3.heap[g]?=some (.cells cur e (0,0))->w6.heap[g]?=w3.heap[g]?:=fun g cur e he hg=>by
        have h1:=zfb HC4.out HR.out g cur e he hg;rw[<- h1];exact k4 g cur e he (h1.trans hg)
       have k2:∀ (g:Nat) (cur:Array Value) (e:TypeId),e≠146->w2.heap[g]?=some (.cells cur e (0,0))->w6.heap[g]?=w2.heap[g]?:=fun g cur e he hg=>by
        have h1:=zfb HC.out R2.out g cur e he hg;rw[<- h1];exact k3 g cur e he (h1.trans hg)
       have zz:=B2.out.size;refine⟨gt,cap,v,t,s,sv,by rw[HTA.out],by rw[HTA.out];exact zc5 O2.out (fun g cur _ hg=>k2 g cur _ (by decide) hg),?_,?_,?_,?_,B5.out.trans (C6.bel B5.out.size (fun k hk q=>by omega))⟩
       ·rw[<- HF.out.v1];exact(zc5 HO.out (fun g cur _ hg=>k3 g cur _ (by decide) hg)).mono (by omega)
       ·rw[<- HF.out.v1];exact(HF3.out.to (fun g cur e _ he hg=>k3 g cur e (by rintro rfl;unfold SrvT at he;revert he;decide) hg)).mono (by omega)
       ·have h1:=zc5 HO4.out (fun g cur _ hg=>k4 g cur _ (by decide) hg);rw[qk (by have:=HF.out.t1;omega)]at h1;rw[<- HF.out.t1];exact h1.mono (by omega)
       ·have h1:=zc5 HO5.out (fun g cur _ hg=>k5 g cur _ (by decide) hg);rw[qk (by have:=HF.out.s1;omega)]at h1;rw[<- HF.out.s1];exact h1.mono (by omega)
end
section
open Go
theorem yabs {P:Program}(w:World)(t ty:TypeId)(base:Nat)(e:TypeId)(i:TypeInfo)(z:Value)(size bytes:Nat)(ht:P.underlying t=some (.slice e))(hi:P.info? e=some i)(hz:i.zero=some z)
  (hsize:i.size=size) (hby:i.bytes=bytes) (hzs:z.cells.size=size) (hsz:0<size)
  (xa:Option Addr) (m c:Nat) (news:List Value) (hl:news.length=m*size) (hnews:∀ j u,news[j]?=some u->∃ ad,xa=some ad/\w.cell? (ad.add j)=some u) (h1:∀ u∈news,u.oneCell'=true)
  (hm:m<=9000000) (hbm:bytes<=1000) (hbase:base<=w.heap.size) :
  ∃ v' w',(Builtin.append_ #[t,t] ty #[.slice none 0 0,.slice xa m c]).run P w=.ok v' w'/\w'.ownsRow base e size v' m news/\w.grownBy w' none:=by
 have hby2:(0+m)*bytes<=140737488355328:=by
  rw[xp];exact Nat.le_trans (Nat.mul_le_mul hm hbm) (by omega)
 cases xa with
 |none =>
  have hn:news=[]:=by
   cases news with
   |nil=>rfl
   |cons a l=>obtain⟨ad,q,_⟩:=hnews 0 a rfl;cases q
  subst hn;have hm0:m=0:=by
   rcases Nat.eq_zero_or_pos m with q|q
   ·exact q
   ·have:=Nat.mul_pos q hsz;simp at hl;omega
  subst hm0;refine⟨.slice none 0 0,w,?_,qg w base e size,⟨rfl,rfl,rfl,qv _,fun _ _ _=>rfl⟩⟩;simp[Builtin.append_,run_underlying ht,sizeOf,typeInfo,hi,Builtin.lenOf,Builtin.firstCells,loadCells,loadCellsFrom]
 |some ad =>
  obtain⟨v',w',hr,h2,h3,_⟩:=run_append_own_at (P:=P) w base t ty e i z size bytes ht hi hz hsize hby hzs hsz (.slice none 0 0) 0 [] (qg _ _ _ _) ad m c news hl (fun j u hu=>by obtain⟨a,q,h⟩:=hnews j u hu;cases q;exact h) h1 (by unfold maxLen;omega) hby2 hbase;rw[xp,List.nil_append]at h2;exact⟨v',w',hr,h2,h3⟩
theorem zs0 {P:Program}{w:World}{o:Oper}{a:Act}{K:Act->World->Prop}{Q:Exit->Act->World->Prop}(s x:Operand)(t:TypeId)
  (ho:o.op=.call { callee:=.builtin .append,args:=#[s,x],argTypes:=#[t,t] })
  (base:Nat) (e:TypeId) (i:TypeInfo) (z:Value) (size bytes:Nat) (ht:P.underlying t=some (.slice e)) (hi:P.info? e=some i) (hz:i.zero=some z)
  (hsize:i.size=size) (hby:i.bytes=bytes) (hzs:z.cells.size=size) (hsz:0<size) (hs:a.eval s=.slice none 0 0)
  (xa:Option Addr) (m c:Nat) (news:List Value) (hx:a.eval x=.slice xa m c) (hl:news.length=m*size) (hnews:∀ j u,news[j]?=some u->∃ ad,xa=some ad/\w.cell? (ad.add j)=some u) (h1:∀ u∈news,u.oneCell'=true)
  (hm:m<=9000000) (hbm:bytes<=1000) (hbase:base<=w.heap.size)
  (h:∀ v' w',w'.ownsRow base e size v' m news->w.grownBy w' none->K (a.put o.dst v') w'):o.wp P a w K Q:=by
 obtain⟨v',w',hr,h2,h3⟩:=yabs (P:=P) w t o.type base e i z size bytes ht hi hz hsize hby hzs hsz xa m c news hl hnews h1 hm hbm hbase;unfold Oper.wp execOp;simp only[ho,resolve,invoke,builtin,Sem.run_bind,Sem.run_pure,Result.andThen_ok,List.map_toArray,List.map_cons,List.map_nil,hs,hx,hr];exact h v' w' h2 h3
theorem zsz {P:Program}{w:World}{ops:Array Oper}{rest:List Oper}{o:Oper}{a:Act}{Q:Exit->Act->World->Prop}(hgd:o.guard=none)(s x:Operand)(t:TypeId)
  (ho:o.op=.call { callee:=.builtin .append,args:=#[s,x],argTypes:=#[t,t] })
  (base:Nat) (e:TypeId) (i:TypeInfo) (z:Value) (size bytes:Nat) (ht:P.underlying t=some (.slice e)) (hi:P.info? e=some i) (hz:i.zero=some z)
  (hsize:i.size=size) (hby:i.bytes=bytes) (hzs:z.cells.size=size) (hsz:0<size) (hs:a.eval s=.slice none 0 0)
  (xa:Option Addr) (m c:Nat) (news:List Value) (hx:a.eval x=.slice xa m c) (hl:news.length=m*size) (hnews:∀ j u,news[j]?=some u->∃ ad,xa=some ad/\w.cell? (ad.add j)=some u) (h1:∀ u∈news,u.oneCell'=true)
  (hm:m<=9000000) (hbm:bytes<=1000) (hbase:base<=w.heap.size)
  (h:∀ v' w',w'.ownsRow base e size v' m news->w.grownBy w' none->wpList P ops Q rest (a.put o.dst v') w'):wpList P ops Q (o::rest) a w :=
 wpList_plain hgd fun _ hK=>zs0 s x t ho base e i z size bytes ht hi hz hsize hby hzs hsz hs xa m c news hx hl hnews h1 hm hbm hbase fun v' w' k1 k2=>hK _ _ (h v' w' k1 k2)
theorem yac0 {P:Program}{w:World}{ops:Array Oper}{o:Oper}{a:Act}{K:Act->World->Prop}{Q:Exit->Act->World->Prop}{E:Prop}(hgd:o.guard=none)(s x:Operand)(t:TypeId)
  (ho:o.op=.call { callee:=.builtin .append,args:=#[s,x],argTypes:=#[t,t] })
  (base:Nat) (e:TypeId) (i:TypeInfo) (z:Value) (size bytes:Nat) (ht:P.underlying t=some (.slice e)) (hi:P.info? e=some i) (hz:i.zero=some z)
  (hsize:i.size=size) (hby:i.bytes=bytes) (hzs:z.cells.size=size) (hsz:0<size) (hs:a.eval s=.slice none 0 0)
  (xa:Option Addr) (m c:Nat) (news:List Value) (hx:a.eval x=.slice xa m c) (hl:news.length=m*size) (hnews:∀ j u,news[j]?=some u->∃ ad,xa=some ad/\w.cell? (ad.add j)=some u) (h1:∀ u∈news,u.oneCell'=true)
  (hm:m<=9000000) (hbm:bytes<=1000) (hbase:base<=w.heap.size)
  (h:∀ v' w',w'.ownsRow base e size v' m news->w.grownBy w' none->K (a.put o.dst v') w'):if Region.wanted o (yielded ops a.tmps)=true then Oper.wp P o a w K Q else E:=by
 have hw:Region.wanted o (yielded ops a.tmps)=true:=by simp[Region.wanted,hgd]
 rw[if_pos hw];exact zs0 s x t ho base e i z size bytes ht hi hz hsize hby hzs hsz hs xa m c news hx hl hnews h1 hm hbm hbase h
end
section
open Go.RowKit
def RelT (w:World)(B:Nat)(v:Value)(rels:List (List PinD)):Prop:=∃ pv:List Value,w.ownsRow B 108 1 v rels.length pv/\∀ (i:Nat) (ps:List PinD) (u:Value),rels[i]?=some ps->pv[i]?=some u->w.ownsRow B 165 3 u ps.length (ps.flatMap pinF)
def svF (q:SvcD×Value):List Value:=[.int .i64 q.1.size,.int .i64 q.1.now,.int .i64 q.1.want,q.2]
structure TwF (W:World)(B:Nat)(vs:List SvcD)(rv:List Value):Prop where
 len:rv.length=vs.length
 rel:∀ (i:Nat) (v:SvcD) (u:Value),vs[i]?=some v->rv[i]?=some u->RelT W B u v.rels
def TwT (e:TypeId):Prop:=e=108\/e=165
theorem RelT.to {w W:World}{B:Nat}{v:Value}{rels:List (List PinD)}(h:RelT w B v rels)(hk:∀ (g:Nat) (cur:Array Value) (e:TypeId),B<=g->TwT e->w.heap[g]?=some (.cells cur e (0,0))->W.heap[g]?=w.heap[g]?):RelT W B v rels:=by
 obtain⟨pv,h1,h2⟩:=h;exact⟨pv,zc5 h1 fun g cur hg hc=>hk g cur _ hg (.inl rfl) hc,fun i ps u hi hu=>zc5 (h2 i ps u hi hu) fun g cur hg hc=>hk g cur _ hg (.inr rfl) hc⟩
theorem RelT.mono {w:World}{B B':Nat}{v:Value}{rels:List (List PinD)}(h:RelT w B v rels)(hB:B'<=B):RelT w B' v rels:=by
 obtain⟨pv,h1,h2⟩:=h;exact⟨pv,h1.mono hB,fun i ps u hi hu=>(h2 i ps u hi hu).mono hB⟩
theorem TwF.to {w W:World}{B:Nat}{vs:List SvcD}{rv:List Value}(h:TwF w B vs rv)(hk:∀ (g:Nat) (cur:Array Value) (e:TypeId),B<=g->TwT e->w.heap[g]?=some (.cells cur e (0,0))->W.heap[g]?=w.heap[g]?):TwF W B vs rv :=
 ⟨h.len,fun i v u hv hu=>(h.rel i v u hv hu).to hk⟩
theorem zdq {W:World}{B k n:Nat}{e:TypeId}{v:Value}{xs:List Value}(h:W.ownsRow B e k v n xs):∃ a c,v=.slice a n c/\n<=c/\c<=9223372036854775807:=by
 rcases h.2 with⟨rfl,rfl⟩|⟨g,cap,cur,rfl,_,_,h1,h2,_⟩
 ·exact⟨none,0,rfl,qv _,by omega⟩
 ·exact⟨_,cap,rfl,h1,by unfold maxLen at h2;omega⟩
theorem yaaa {W:World}{B:Nat}{u:Value}{ps:List PinD}(h:W.ownsRow B 165 3 u ps.length (ps.flatMap pinF))(hl:ps.length<=2000000):∃ pa pc,u=.slice pa ps.length pc/\PinSl W pa ps.length pc ps:=by
 obtain⟨pa,pc,e,h1,h2⟩:=zbb h (by omega);obtain⟨pa',pc',e',h1',h3⟩:=zdq h;rw[e]at e';cases e';refine⟨pa,pc,e,rfl,hl,h1,h3,fun i p hi=>?_⟩;have d:=fun (z:Nat) (hz:z<3)=>za2 (f:=pinF) (k:=3) (fun _=>rfl) hi (j:=z) hz;obtain⟨b0,f0,g0,k0⟩:=h2 _ _ (d 0 (by omega));obtain⟨b1,f1,g1,k1⟩:=h2 _ _ (d 1 (by omega));obtain⟨b2,f2,g2,k2⟩:=h2 _ _ (d 2 (by omega));rw[f0]at f1 f2;cases f1;cases f2;exact⟨b0,0,f0,by rw[xp];exact k0,by rw[xp];exact k1,by rw[xp];exact k2⟩
theorem yabh {W:World}{B:Nat}{v:Value}{rels:List (List PinD)}(h:RelT W B v rels)(hl:rels.length<=2000000)(hp:∀ ps∈rels,ps.length<=2000000):∃ ra rc,v=.slice ra rels.length rc/\RelSl PinSl W ra rels.length rc rels:=by
 obtain⟨pv,h1,h2⟩:=h;obtain⟨ra,rc,e,c1,c2⟩:=zbb h1 (by omega);obtain⟨ra',rc',e',_,c3⟩:=zdq h1;rw[e]at e';cases e';refine⟨ra,rc,e,rfl,hl,c1,c3,fun i ps hi=>?_⟩;have hil:=(xv.1 hi).1;have hpl:pv.length=rels.length:=by have:=h1.1;omega
 obtain⟨u,hu⟩:∃ u,pv[i]?=some u:=⟨pv[i]'(by omega),xq _⟩;obtain⟨b,q1,q2,q3⟩:=c2 i u hu;obtain⟨pa,pc,rfl,hps⟩:=yaaa (h2 i ps u hi hu) (hp ps (qd hi));exact⟨b,0,pa,ps.length,pc,q1,by rw[xp];exact q3,hps⟩
theorem zxb {w W:World}{B:Nat}{f:zac}{sa ta va:Option Addr}{sl sc tl tc vl vc:Nat}(hf:FleetAt w sa sl sc ta tl tc va vl vc f){gs gt gv:Value}{rv:List Value}(h1:W.ownsRow B 9 1 gs f.ss.length (f.ss.map Value.string))(h2:W.ownsRow B 104 1 gt f.ts.length (f.ts.map fun k=>.int .i64 k))(h3:W.ownsRow B 73 4 gv f.vs.length ((f.vs.zip rv).flatMap svF))(h4:TwF W B f.vs rv):∃ sa' sc' ta' tc' va' vc',gs=.slice sa' f.ss.length sc'/\gt=.slice ta' f.ts.length tc'/\gv=.slice va' f.vs.length vc'/\FleetAt W sa' f.ss.length sc' ta' f.ts.length tc' va' f.vs.length vc' f:=by
 obtain⟨sa',sc',e1,_,c1⟩:=zbb h1 (by omega);obtain⟨ta',tc',e2,_,c2⟩:=zbb h2 (by omega);obtain⟨va',vc',e3,_,c3⟩:=zbb h3 (by omega);refine⟨sa',sc',ta',tc',va',vc',e1,e2,e3,rfl,hf.s2,hf.s3,fun i s hi=>?_,rfl,hf.t2,fun i k hi=>?_,rfl,hf.v2,fun i v hi=>?_⟩
 ·obtain⟨b,q1,q2,q3⟩:=c1 i (.string s) (by rw[qe,hi];rfl);exact⟨b,0,q1,by rw[xp];exact q3⟩
 ·obtain⟨b,q1,q2,q3⟩:=c2 i (.int .i64 k) (by rw[qe,hi];rfl);exact⟨b,0,q1,by rw[xp];exact q3⟩
 ·have hil:=(xv.1 hi).1;obtain⟨u,hu⟩:∃ u,rv[i]?=some u:=⟨rv[i]'(by rw[h4.len];exact hil),xq _⟩;have hz:(f.vs.zip rv)[i]?=some (v,u):=by rw[List.getElem?_zip_eq_some];exact⟨hi,hu⟩
  have d:=fun (z:Nat) (hz':z<4)=>za2 (f:=svF) (k:=4) (fun _=>rfl) hz (j:=z) hz';obtain⟨b0,f0,g0,k0⟩:=c3 _ _ (d 0 (by omega));obtain⟨b1,f1,g1,k1⟩:=c3 _ _ (d 1 (by omega));obtain⟨b2,f2,g2,k2⟩:=c3 _ _ (d 2 (by omega));obtain⟨b3,f3,g3,k3⟩:=c3 _ _ (d 3 (by omega));rw[f0]at f1 f2 f3;cases f1;cases f2;cases f3;obtain⟨bo,oo,ra,rl,rc,_,_,_,_,_,hr⟩:=hf.v3 i v hi;obtain⟨ra',rc',rfl,hR⟩:=yabh (h4.rel i v u hi hu) hr.2.1 (fun ps hps=>by
   obtain⟨j,hj⟩:=List.getElem?_of_mem hps;obtain⟨_,_,_,_,_,_,_,hp⟩:=hr.2.2.2.2 j ps hj;exact hp.2.1)
  exact⟨b0,0,ra',v.rels.length,rc',f0,by rw[xp];exact k0,by rw[xp];exact k1,by rw[xp];exact k2,by rw[xp];exact k3,hR⟩
end
section
open Go.RowKit
theorem zi5 {P:Program}{ops:Array Oper}{rest:List Oper}{op:Oper}{a:Act}{w:World}{Q:Exit->Act->World->Prop}(hgd:op.guard=none)(ty:TypeId)(x y:Operand)(ho:op.op=.store ty x y)
  (b o:Nat) (v:Value) (t:TypeId) (cs:List Value) (hx:a.eval x=.pointer (some ⟨b,o,none⟩)) (hy:a.eval y=v) (hr:RowIs w b t cs) (hl:o<cs.length) (hi:(P.info? ty).map (·.size)=some 1) (h1:v.oneCell'=true)
  (h:∀ W,RowIs W b t (cs.set o v)->Chg (·= b) w W->wpList P ops Q rest (a.put op.dst undef) W):wpList P ops Q (op::rest) a w:=by
 have hc:v.cells=#[v]:=by cases v<;>first|rfl|cases h1
 have ht:(w.cell? ⟨b,o,none⟩).isSome=true/\w.frozen? ⟨b,o,none⟩=false:=⟨by rw[hr.cell (xq hl)];rfl,hr.frozen o⟩;have hs:=run_storeCells_cells (P:=P) b o [v] 0 w (fun j hj=>by have:j=0:=(by simpa using hj);subst this;simpa using ht.1) (fun j hj=>by have:j=0:=(by simpa using hj);subst this;simpa using ht.2) (fun u hu=>by simp at hu;subst hu;exact h1);have hr2:(storeVar ty ⟨b,o,none⟩ v).run P w=.ok () (w.setCell ⟨b,o,none⟩ v):=by
  cases hq:P.info? ty with
  |none=>simp[hq]at hi
  |some i =>
   have hs1:i.size=1:=by simpa[hq]using hi
   simp only[Nat.add_zero]at hs;simp only[World.setCells]at hs;simp[storeVar,sizeOf,typeInfo,hq,hc,hs1,hs]
 refine wpList_plain hgd fun K hK=>?_;unfold Oper.wp execOp;simp only[ho,hx,hy,Instr.storeAt,Instr.sureAddr,Sem.run_bind,Sem.run_pure,Result.andThen_ok,hr2];exact hK _ _ (h _ (hr.set o v) ((Chg.refl (·= b) w).set (p:=⟨b,o,none⟩) (.inl rfl) v))
theorem Tryz.infoFlt3:(Tryz.prog.info? 26).map (·.size)=some 3:=by kernel_rfl
theorem one3 {a b c:Option Addr}{l m n x y z:Nat}:∀ v∈([.slice a l x,.slice b m y,.slice c n z]:List Value),v.oneCell'=true:=fun v hv=>by
 simp only[qq,qn,or_false]at hv;rcases hv with rfl|rfl|rfl<;>rfl
theorem yac2 {W:World}{g:Nat}{t:TypeId}{ss:List ByteArray}(h:RowIs W g t (ss.map Value.string)):StrsAt W (some ⟨g,0,none⟩) ss:=fun i s hi=>⟨g,0,rfl,by rw[xp];exact h.cell (by rw[qe,hi];rfl)⟩
theorem zez {W:World}{g:Nat}{t:TypeId}{ms:List (Int×Int)}(h:RowIs W g t (ms.flatMap fun m=>[.int .i64 m.1,.int .i64 m.2])):MvsAt W (some ⟨g,0,none⟩) ms:=fun i m hi=>by
 have d:=fun (z:Nat) (hz:z<2)=>za2 (f:=fun m:Int×Int=>[.int .i64 m.1,.int .i64 m.2]) (k:=2) (fun _=>rfl) hi (j:=z) hz;exact⟨g,0,rfl,by rw[xp];exact h.cell (d 0 (by omega)),by rw[xp];exact h.cell (d 1 (by omega))⟩
theorem zds {W:World}{g:Nat}{t:TypeId}{L:List (Nat×PinD)}(h:RowIs W g t (L.map fun q=>.slice (some ⟨q.1,0,none⟩) 1 1))(hp:∀ q∈L,RowIs W q.1 165 (pinF q.2))(hl:L.length<=3){c:Nat}(hc:L.length<=c)(hc2:c<=9000000):RelSl PinSl W (some ⟨g,0,none⟩) L.length c (L.map fun q=>[q.2]):=by
 refine⟨by rw[qp],by rw[qp];omega,hc,by omega,fun i ps hi=>?_⟩;rw[qe]at hi;obtain⟨q,hq,rfl⟩:=qj.1 hi;refine⟨g,0,some ⟨q.1,0,none⟩,1,1,rfl,by rw[xp];exact h.cell (by rw[qe,hq];rfl),rfl,by simp,by omega,by omega,fun j p hj=>?_⟩;have hj0:j=0:=by have:=(xv.1 hj).1;simpa using this
 subst hj0;simp at hj;subst hj;have r:=hp q (qd hq);exact⟨q.1,0,rfl,r.cell (j:=0) rfl,r.cell (j:=1) rfl,r.cell (j:=2) rfl⟩
theorem yac7 {W:World}{g:Nat}{t:TypeId}{L:List (SvcD×Nat×Nat)}(h:RowIs W g t (L.flatMap fun q=>[.int .i64 q.1.size,.int .i64 q.1.now,.int .i64 q.1.want,.slice (some ⟨q.2.1,0,none⟩) q.1.rels.length q.2.2]))(hr:∀ q∈L,RelSl PinSl W (some ⟨q.2.1,0,none⟩) q.1.rels.length q.2.2 q.1.rels):SvcsAt (RelSl PinSl) W (some ⟨g,0,none⟩) (L.map Prod.fst):=fun i v hi=>by
 rw[qe]at hi;obtain⟨q,hq,rfl⟩:=qj.1 hi;have d:=fun (z:Nat) (hz:z<4)=>za2 (f:=fun q:SvcD×Nat×Nat=>[.int .i64 q.1.size,.int .i64 q.1.now,.int .i64 q.1.want,.slice (some ⟨q.2.1,0,none⟩) q.1.rels.length q.2.2]) (k:=4) (fun _=>rfl) hq (j:=z) hz;exact⟨g,0,_,_,_,rfl,by rw[xp];exact h.cell (d 0 (by omega)),by rw[xp];exact h.cell (d 1 (by omega)),by rw[xp];exact h.cell (d 2 (by omega)),by rw[xp];exact h.cell (d 3 (by omega)),hr q (qd hq)⟩
end
end Go.Proofs.YtkkekopomiehlabGreatDoor
