import Derived.Test.YtkkekopomiehlabGreatDoorEBk11
import Derived.Great.BuildSlice
set_option linter.unusedVariables false
set_option linter.unusedSimpArgs false
set_option maxHeartbeats 40000000
set_option maxRecDepth 4000
open List renaming setIfInBounds_toArray->xe,getElem_cons_zero->xf,getElem_cons_succ->xg,getElem_toArray->xh,set_cons_zero->xj,set_cons_succ->xm,getElem?_eq_some_iff->xp,mem_of_getElem?->xq,getElem?_append_left->xu,getElem?_append_right->xy,getElem?_eq_getElem->xz,getElem?_of_mem->qh,length_append->qj,getElem?_map->qk,getElem?_cons_succ->qm,map_append->qn,length_map->qo,size_toArray->qu,range_succ->qv,append_nil->qx,mem_map->q9,range->uc
open Go.Act renaming put->xo
open Go.World renaming rangeAt_setCells_same->xv,rangeAt_setCells_apart->qd,news_of_block->qi,ownsRow_made->qq
open Nat renaming zero_add->qe,zero_le->qg,le_refl->qp
open Array renaming toList_map->qf
open Go.Value renaming oneCell'->qy
open Go.Op renaming equalIn->ua
open Go.RowKit
namespace Go.Proofs.YtkkekopomiehlabGreatDoor
section
open Go.Lib (below_setCells)
def stC (t:TS SiD):List Value:=t.now.cells++[.int .i64 t.fr,.int .i64 t.to]
def stsC:List (TS SiD)->List Value
 |[]=>[]
 |t::L=>stC t++stsC L
def zc7 (L:List (TS SiD)):Prop:=∀ t∈L,t.now.ok
theorem zdw {t:TS SiD}(h:t.now.ok):(stC t).length=20:=by
 have:=h.len;unfold stC;simp[this]
theorem zit:∀ {L:List (TS SiD)},zc7 L->(stsC L).length=L.length*20
 |[],_=>rfl
 |t::L,h=>by
  rw[stsC,qj,zdw (h t (by simp)),zit (fun x hx=>h x (by simp[hx])),List.length_cons];omega
theorem zr6:∀ (L:List (TS SiD)) (t:TS SiD),stsC (L++[t])=stsC L++stC t
 |[],t=>by simp[stsC]
 |a::L,t=>by rw[List.cons_append,stsC,zr6 L t,stsC,List.append_assoc]
theorem zr5:∀ {L:List (TS SiD)} {i j:Nat} {t:TS SiD} {v:Value},zc7 L->L[i]?=some t->(stC t)[j]?=some v->(stsC L)[i*20+j]?=some v
 |[],i,j,t,v,h,hi,hj=>by simp at hi
 |q::L,0,j,t,v,h,hi,hj=>by
  simp at hi;subst hi;have:=(xp.1 hj).1;rw[stsC,xu (by omega),show 0*20+j=j by omega];exact hj
 |q::L,i+1,j,t,v,h,hi,hj=>by
  rw[qm]at hi;rw[stsC,xy (by rw[zdw (h q (by simp))];omega),zdw (h q (by simp)),show (i+1)*20+j-20=i*20+j by omega];exact zr5 (fun x hx=>h x (by simp[hx])) hi hj
theorem ziu {w:World}{g:Nat}{L:List (TS SiD)}{i:Nat}{t:TS SiD}(hr:w.rangeAt g 0 (stsC L))(h:zc7 L)(hi:L[i]?=some t):w.rangeAt g (i*20) (stC t):=fun j v hj=>by
 have:=hr (i*20+j) v (zr5 h hi hj);rw[qe]at this;exact this
theorem Tryz.infoStp:(Tryz.prog.info? 180).map (·.size)=some 20:=by kernel_rfl
theorem Tryz.eqgSit:Tryz.prog.eqGuardType Tryz.prog.depth 177=false:=by kernel_rfl
theorem Tryz.eqgSet:Tryz.prog.eqGuardType Tryz.prog.depth 111=false:=by kernel_rfl
theorem zir (t:TS SiD):(stC t).toArray.all (·.oneCell')=true:=all_oneCell_toArray fun v hv=>by
 rcases List.mem_append.1 hv with h|h
 ·unfold SiD.cells at h;obtain⟨b,_,rfl⟩:=q9.1 h;rfl
 ·simp at h;rcases h with rfl|rfl<;>rfl
theorem zcn {P:Program}{ops:Array Oper}{rest:List Oper}{op:Oper}{a:Act}{w:World}{Q:Exit->Act->World->Prop}(hgd:op.guard=none)(ty:TypeId)(x y:Operand)(ho:op.op=.store ty x y)
  (b o:Nat) (cells:Array Value) (hx:a.eval x=.pointer (some ⟨b,o,none⟩)) (hy:a.eval y=.agg cells)
  (ht:w.there b o cells.size) (hi:(P.info? ty).map (·.size)=some cells.size) (h1:cells.all (·.oneCell')=true) (R:World->Prop) (hR:R (w.setCells b o cells.toList))
  (h:∀ W,R W->wpList P ops Q rest (a.put op.dst undef) W):wpList P ops Q (op::rest) a w :=
 wpList_store_mid hgd ty x y ho b o cells hx hy ht hi h1 (h _ hR)
theorem zui {L:List (TS SiD)}{y:SiD}{i:Nat}{t:TS SiD}(hi:L[i]?=some t):(L.take (i+1)).any (fun t=>zg0 t.now y)=((L.take i).any (fun t=>zg0 t.now y)||zg0 t.now y):=by
 rw[List.take_add_one,hi,List.any_append];simp
theorem zx2 (L:List (TS SiD))(hL:zc7 L)(y:SiD)(hy:y.ok)(g cap:Nat)(w:World)(hlen:L.length<=262144)(hr:w.rangeAt g 0 (stsC L)) :
  Calls Tryz.prog 115 #[.slice (some ⟨g,0,none⟩) L.length cap,.agg y.cells.toArray] w fun e W=>e=.returned (.bool (L.any fun t=>zg0 t.now y))/\Below w.heap.size w W:=by
 have hq1:=zbl (zal w (.cells y.cells.toArray 177));obtain⟨y1,y2,y3⟩:=zdv hy;obtain⟨R,hR⟩:∃ R,R=L.any (fun t=>zg0 t.now y):=⟨_,rfl⟩;rw[<- hR];have HR:= zaa hR;have HL:= zaa hL;have HY:= zaa hy;have hb0:=belS w (.cells y.cells.toArray 177);have hrr:=zaf hb0 hr;have HRR:= zaa hrr;clear hR hL hy hr hrr
 go_enter Tryz.func115,Tryz.ntmps115
 go_wp2_with fail
 go_loopw [9] (fun vi wr=>∃ i:Nat,i<=L.length/\vi=.int .i64 i/\Hid ((L.take i).any (fun t=>zg0 t.now y)=false)/\wr.rangeAt w.heap.size 0 y.cells/\Below (w.heap.size+1) (w.alloc (.cells y.cells.toArray 177)) wr) (fun i _=>L.length-(intOf i).toNat)
 case atStart=>exact⟨0,qg _,rfl,(by show _=_;rfl),hq1,Below.refl _ _⟩
 case round =>
  obtain⟨i,hi,rfl,hn,rq,hb⟩:=hrel
  rename World=>w5
  have hbw:Below w.heap.size w w5:=hb0.trans (hb.mono (by simp));by_cases hlt:i<L.length
  ·obtain⟨t,ht⟩:∃ t,L[i]?=some t:=⟨L[i],xz hlt⟩;have hto:=HL.out t (xq ht);have r1:=ziu (zaf (hb.mono (by simp)) HRR.out) HL.out ht;have hst:=zui (y:=y) ht;rw[hn.out,Bool.false_or]at hst;have hyes:zg0 t.now y=true->R=true:=fun h=>by rw[HR.out];exact List.any_eq_true.2 ⟨t,xq ht,h⟩
   have heq:∀ W,(ua 10000 177 (.agg t.now.cells.toArray) (.agg y.cells.toArray)).run Tryz.prog W=.ok (zg0 t.now y) W:=fun W=>by exact yacl W 9997 hto HY.out
   obtain⟨t1,t2,t3⟩:=zdv hto;have hi20:(Tryz.prog.info? 180).map (·.size)=some (stC t).length:=by rw[zdw hto];exact Tryz.infoStp
   have hi21:(Tryz.prog.info? 180).map (·.size)=some (stC t).toArray.size:=by rw[qu];exact hi20
   have h1:=zir t;have hz:∀ cs:Array Value,cs.size=20->(w5.alloc (.cells cs 180)).there w5.heap.size 0 (stC t).toArray.size:=fun cs hcs=>by
    have:=zcm (zal w5 (.cells cs 180));rw[hcs]at this;rw[show (stC t).toArray.size=20 by simpa using zdw hto];exact this
   have h6:∀ cs:Array Value,cs.size=20->(fun W:World=>W.rangeAt w5.heap.size 0 t.now.cells/\W.rangeAt w.heap.size 0 y.cells/\Below (w.heap.size+1) (w.alloc (.cells y.cells.toArray 177)) W) ((w5.alloc (.cells cs 180)).setCells w5.heap.size 0 (stC t)):=fun cs hcs=>by
    have z5:=hb.size;rw[zb5]at z5;refine⟨?_,?_,?_⟩
    ·have:=zc6 (k:=0) (ds:=t.now.cells) (xv _ w5.heap.size 0 (stC t) (by simpa using hz cs hcs)) (fun j v hj=>by
      rw[qe];unfold stC;rw[xu (xp.1 hj).1];exact hj)
     exact this
    ·exact qd (zaf (belS _ _) rq) _ _ _ (.inl (by omega))
    ·exact below_setCells _ (by omega) _ _ (hb.alloc (by omega) _)
   have HZ:= zaa hz;have H6:= zaa h6;have HTC:=(zaa (zdw hto));have hx0 := znn i;have hx1:(i:Int)<(L.length:Int):=by omega
   have HST:= zaa hst;clear hz h6 hst hn ht;generalize zg0 t.now y=x at heq hyes HST;cases x with
   |true =>
    have hR1:=hyes rfl;clear hyes HST HR;subst hR1
    go_wp2_with (first
     |(refine wpList_load_mid (w:=w5) rfl 180 _ rfl g (i*20) rfl (stC t) _ r1 Tryz.underlying180 rfl hi20 ?_;simp only[xo,xe,xj,xm,xh,xf,xg])
     |(refine zcn rfl 180 _ _ rfl w5.heap.size 0 (stC t).toArray rfl rfl (HZ.out _ (by rfl)) hi21 h1 (fun W=>W.rangeAt w5.heap.size 0 t.now.cells/\W.rangeAt w.heap.size 0 y.cells/\Below (w.heap.size+1) (w.alloc (.cells y.cells.toArray 177)) W) (H6.out _ (by rfl)) ?_;rintro w6 ⟨q1,q2,q3⟩)
     |(have hq:=m2;refine zi4 rfl 177 _ _ _ rfl _ _ rfl rfl Tryz.eqgSit _ (heq _) ?_)
     |(have hq:=m1;refine wpList_load_mid (w:=w6) rfl 177 _ rfl w.heap.size 0 rfl y.cells _ q2 Tryz.underlying177 rfl y1 ?_;simp only[xo,xe,xj,xm,xh,xf,xg];have m2:True:=trivial)
     |(have hq:=q1;refine wpList_load_mid (w:=w6) rfl 177 _ rfl w5.heap.size 0 rfl t.now.cells _ q1 Tryz.underlying177 rfl t1 ?_;simp only[xo,xe,xj,xm,xh,xf,xg];have m1:True:=trivial))
    go_ret;exact⟨rfl,hb0.trans (q3.mono (by simp))⟩
   |false =>
    clear hyes
    go_wp2_with (first
     |(refine wpList_load_mid (w:=w5) rfl 180 _ rfl g (i*20) rfl (stC t) _ r1 Tryz.underlying180 rfl hi20 ?_;simp only[xo,xe,xj,xm,xh,xf,xg])
     |(refine zcn rfl 180 _ _ rfl w5.heap.size 0 (stC t).toArray rfl rfl (HZ.out _ (by rfl)) hi21 h1 (fun W=>W.rangeAt w5.heap.size 0 t.now.cells/\W.rangeAt w.heap.size 0 y.cells/\Below (w.heap.size+1) (w.alloc (.cells y.cells.toArray 177)) W) (H6.out _ (by rfl)) ?_;rintro w6 ⟨q1,q2,q3⟩)
     |(have hq:=m2;refine zi4 rfl 177 _ _ _ rfl _ _ rfl rfl Tryz.eqgSit _ (heq _) ?_)
     |(have hq:=m1;refine wpList_load_mid (w:=w6) rfl 177 _ rfl w.heap.size 0 rfl y.cells _ q2 Tryz.underlying177 rfl y1 ?_;simp only[xo,xe,xj,xm,xh,xf,xg];have m2:True:=trivial)
     |(have hq:=q1;refine wpList_load_mid (w:=w6) rfl 177 _ rfl w5.heap.size 0 rfl t.now.cells _ q1 Tryz.underlying177 rfl t1 ?_;simp only[xo,xe,xj,xm,xh,xf,xg];have m1:True:=trivial))
    go_roundw
    case rel=>exact⟨i+1,by omega,by go_num,HST,q2,q3⟩
    case measure=>simp[intOf];omega
  ·have hR1:R=false:=by rw[HR.out];have:=hn.out;rw[List.take_of_length_le (by omega)]at this;exact this
   clear hn HR;subst hR1
   go_wp2_with fail
   go_ret;exact⟨rfl,hbw⟩
end
section
open Go.Lib (below_setCells)
def nxS (c:ChD)(s:SiD)(p:Nat):Option SiD:=if mvB c s p=true then (if sfB c s p=true then some (aft s p) else none) else none
theorem zpr {c:ChD}{s y:SiD}{p:Nat}(hs:s.ok)(h:nxS c s p=some y):y.ok:=by
 unfold nxS at h;split at h
 ·split at h
  ·cases h;exact zfz hs _
  ·cases h
 ·cases h
def touS (c:ChD)(k:Nat):List (TS SiD):=tou (nxS c) (begD c) k
theorem ze8 {c:ChD}(hc:c.ok)(k:Nat):zc7 (touS c k):=fun t ht=>by
 obtain⟨j,hj⟩:=qh ht;exact zix (P:=SiD.ok) (zd1 hc) (fun s p y h1 h2=>zpr h1 h2) k j t hj
def sitN (s:SiD):Nat:=bitC s.has+512*bitC s.had
theorem yacj {s t:SiD}(hs:s.ok)(ht:t.ok)(h:sitN s=sitN t):s=t:=by
 unfold sitN at h;have a:=zf2 s.has;have b:=zf2 t.has;rw[hs.1]at a;rw[ht.1]at b;rw[SiD.eq_iff];exact⟨zjq _ _ (by rw[hs.1,ht.1]) (by omega),zjq _ _ (by rw[hs.2,ht.2]) (by omega)⟩
theorem yack {s:SiD}(hs:s.ok):sitN s<262144:=by
 have a:=zf2 s.has;have b:=zf2 s.had;rw[hs.1]at a;rw[hs.2]at b;unfold sitN;omega
theorem zr3 {c:ChD}{L:List (TS SiD)}{t:Nat}(h:TInv (nxS c) L t)(hok:zc7 L):L.length<=262144 :=
 h.len (P:=SiD.ok) (fun j a ha=>hok a (xq ha)) sitN (fun x y hx hy=>yacj hx hy) (fun x hx=>yack hx)
theorem zsc {c:ChD}{L:List (TS SiD)}{k:Nat}{s:SiD}(hL:zc7 L)(hs:s.ok)(p:Nat):zc7 (tin (nxS c) k s p L):=fun t ht=>by
 obtain⟨j,hj⟩:=qh ht;exact ziw (P:=SiD.ok) (fun s p y h1 h2=>zpr h1 h2) hs (fun j a ha=>hL a (xq ha)) p j t hj
theorem zko {s:SiD}(h:s.ok):∃ a0 a1 a2 a3 a4 a5 a6 a7 a8 b0 b1 b2 b3 b4 b5 b6 b7 b8,s=⟨[a0,a1,a2,a3,a4,a5,a6,a7,a8],[b0,b1,b2,b3,b4,b5,b6,b7,b8]⟩:=by
 obtain⟨x,y⟩:=s;obtain⟨h1,h2⟩:=h;obtain⟨a0,a1,a2,a3,a4,a5,a6,a7,a8,rfl⟩:=zh9 h1;obtain⟨b0,b1,b2,b3,b4,b5,b6,b7,b8,rfl⟩:=zh9 h2;exact⟨a0,a1,a2,a3,a4,a5,a6,a7,a8,b0,b1,b2,b3,b4,b5,b6,b7,b8,rfl⟩
theorem zuy {s:SiD}(h:s.ok)(a b:Nat):Tryz.prog.built 180 [(0,.agg s.cells.toArray),(1,.int .i64 a),(2,.int .i64 b)]=some (stC ⟨s,a,b⟩).toArray:=by
 obtain⟨a0,a1,a2,a3,a4,a5,a6,a7,a8,b0,b1,b2,b3,b4,b5,b6,b7,b8,rfl⟩:=zko h;kernel_rfl
theorem zuz {s:SiD}(h:s.ok):Tryz.prog.built 180 [(0,.agg s.cells.toArray)]=some (stC ⟨s,0,0⟩).toArray:=by
 obtain⟨a0,a1,a2,a3,a4,a5,a6,a7,a8,b0,b1,b2,b3,b4,b5,b6,b7,b8,rfl⟩:=zko h;kernel_rfl
theorem zu0 (g n cap:Nat){l:List Bool}(h:l.length=9):Tryz.prog.built 118 [(0,.slice (some ⟨g,0,none⟩) n cap),(1,.agg (l.map Value.bool).toArray)]=some (Value.slice (some ⟨g,0,none⟩) n cap::l.map Value.bool).toArray:=by
 obtain⟨b0,b1,b2,b3,b4,b5,b6,b7,b8,rfl⟩:=zh9 h;kernel_rfl
theorem zm3 {s:SiD}(h:s.ok)(a b:Nat)(W:World):(Instr.buildSlice 116 1 #[(0,.agg (stC ⟨s,a,b⟩).toArray)]).run Tryz.prog W=.ok (.slice (some ⟨W.heap.size,0,none⟩) 1 1) (W.alloc (.cells (stC ⟨s,a,b⟩).toArray 180)):=by
 obtain⟨a0,a1,a2,a3,a4,a5,a6,a7,a8,b0,b1,b2,b3,b4,b5,b6,b7,b8,rfl⟩:=zko h;kernel_rfl
theorem zsy {P:Program}{ops:Array Oper}{rest:List Oper}{o:Oper}{a:Act}{w:World}{Q:Exit->Act->World->Prop}(hg:o.guard=none)(t:TypeId)(len:Nat)(parts:Array (Nat×Operand))(ho:o.op=.buildSlice t len parts)(qs:List (Nat×Value))(hq:(parts.map fun (i,x)=>(i,a.eval x)).toList=qs)(v:Value)(W:World)(hr:(Instr.buildSlice t len qs.toArray).run P w=.ok v W)
  (h:wpList P ops Q rest (a.put o.dst v) W):wpList P ops Q (o::rest) a w:=by
 have hq:(parts.map fun (i,x)=>(i,a.eval x))=qs.toArray:=by rw[<- hq]
 refine wpList_plain hg fun K hK=>?_;unfold Oper.wp execOp;simp only[ho,hq,Sem.run_bind,hr,Result.andThen_ok,Sem.run_pure];exact hK _ _ h
theorem zl0 {P:Program}{ops:Array Oper}{rest:List Oper}{o:Oper}{a:Act}{w:World}{Q:Exit->Act->World->Prop}(hg:o.guard=none)(t:TypeId)(parts:Array (Nat×Operand))(ho:o.op=.build t parts)(qs:List (Nat×Value))(hq:(parts.map fun (i,x)=>(i,a.eval x)).toList=qs)(cs:Array Value)(hr:P.built t qs=some cs)
  (h:wpList P ops Q rest (a.put o.dst (.agg cs)) w):wpList P ops Q (o::rest) a w :=
 wpList_buildTo hg t parts ho _ rfl cs (by rw[hq];exact hr) h
theorem ChD.ok.get_wnt {c:ChD}(h:c.ok){p:Nat}{b:Bool}(hp:c.wnt[p]?=some b):c.bits[18+p]?=some b:=by
 have hl:=(xp.1 hp).1;rw[ChD.bits,xy (by rw[h.thr];omega),h.thr,xy (by rw[h.fst];omega),h.fst,show 18+p-9-9=p by omega,xu hl];exact hp
theorem zky {w:World}{base:Nat}{e:TypeId}{size:Nat}{g n cap:Nat}{xs:List Value}(h:w.ownsRow base e size (.slice (some ⟨g,0,none⟩) n cap) n xs):w.rangeAt g 0 xs:=fun j v hj=>by
 rw[qe,h.cellAt j (by rw[<- h.1];exact(xp.1 hj).1)];exact hj
end
section
set_option maxRecDepth 8000
open Go.Lib (below_setCells)
def zao (g n cap:Nat)(wn:List Bool):List Value:=.slice (some ⟨g,0,none⟩) n cap::wn.map Value.bool
structure Xp (w0 wr:World)(g cap:Nat)(L:List (TS SiD)):Prop where
 own:wr.ownsRow w0.heap.size 180 20 (.slice (some ⟨g,0,none⟩) L.length cap) L.length (stsC L)
 bel:Below w0.heap.size w0 wr
theorem Xp.keep {w0 wr wr':World}{g cap:Nat}{L:List (TS SiD)}(h:Xp w0 wr g cap L)(hb:Below wr.heap.size wr wr'):Xp w0 wr' g cap L:=⟨zas h.own hb,thn3 h.bel hb⟩
theorem yae2 {P:Program}{ops:Array Oper}{l:List Oper}{a:Act}{w:World}{Q:Exit->Act->World->Prop}(R:World->Prop)(hR:R w)(h:∀ W,R W->wpList P ops Q l a W):wpList P ops Q l a w:=h w hR
theorem zc8 {w:World}{cs xs:Array Value}{t:TypeId}{n:Nat}(hn:xs.size=n)(hc:cs.size=n):(w.alloc (.cells cs t)).there w.heap.size 0 xs.size:=by
 rw[hn,<- hc];exact zcm (zal w _)
theorem yaax {w w':World}{row:Option Nat}{b o:Nat}{cs:List Value}(h:w.rangeAt b o cs)(hg:w.grownBy w' row)(hne:some b≠row):w'.rangeAt b o cs:=fun j v hj=>hg.cell (h j v hj) hne
theorem yaco {t:TS SiD}{u:Value}(hu:u∈stC t):u.oneCell'=true:=by
 have:=Array.all_eq_true_iff_forall_mem.1 (zir t) u (by simpa using hu);exact this
theorem zij {w:World}{b o:Nat}{cs:List Value}(h:w.rangeAt b o cs)(hl:0<cs.length):b<w.heap.size:=zag (h 0 _ (xz hl))
theorem Tryz.infoStp2:(Tryz.prog.info? 180).map (fun i=>(i.zero,i.size,i.bytes))=some (some (.agg #[.bool false,.bool false,.bool false,.bool false,.bool false,.bool false,.bool false,.bool false,.bool false,.bool false,.bool false,.bool false,.bool false,.bool false,.bool false,.bool false,.bool false,.bool false,.int .i64 0,.int .i64 0]),20,40):=by kernel_rfl
theorem Tryz.infoTour:(Tryz.prog.info? 118).map (·.size)=some 10:=by kernel_rfl
theorem zg3 {c:ChD}(hc:c.ok){k:Nat}(h:k<=(touS c k).length):(touS c k).length<=262144:=zr3 (ziy (nxS c) (begD c) k h).1 (ze8 hc k)
theorem yadl {c:ChD}(hc:c.ok){k p:Nat}{a:TS SiD}(h:k<=(touS c k).length)(ha:(touS c k)[k]?=some a)(hp:p<=9):(tin (nxS c) k a.now p (touS c k)).length<=262144 :=
 zr3 ((ziy (nxS c) (begD c) k h).1.tin ha p hp) (zsc (ze8 hc k) (ze8 hc k a (xq ha)) p)
theorem yad3 {c:ChD}{k:Nat}{a:TS SiD}(ha:(touS c k)[k]?=some a):touS c (k+1)=tin (nxS c) k a.now 9 (touS c k):=by
 unfold touS at ha ⊢;rw[tou,ha]
theorem yadm {c:ChD}{k p:Nat}{s:SiD}{L:List (TS SiD)}:tin (nxS c) k s (p+1) L=if mvB c s p=true then (if sfB c s p=true then tins k (tin (nxS c) k s p L) p (aft s p) else tin (nxS c) k s p L) else tin (nxS c) k s p L:=by
 rw[tin];unfold nxS;cases mvB c s p with
 |false=>rfl
 |true=>cases sfB c s p<;>rfl
theorem zti (c:ChD)(hc:c.ok)(w:World) :
  Calls Tryz.prog 49 #[.agg c.cells.toArray] w fun e W=>∃ g cap K,e=.returned (.agg (zao g K cap c.wnt).toArray)/\(touS c K).length=K/\W.rangeAt g 0 (stsC (touS c K))/\Below w.heap.size w W:=by
 have ic:(Tryz.prog.info? 114).map (·.size)=some c.cells.length:=by rw[hc.len];exact Tryz.infoCht
 have hbeg:=fun w=>zjo c hc w;have h0:=zd1 hc;obtain⟨i0,hi0,hz0,hzz1,hzz2⟩:=info_parts Tryz.infoStp2;have e1:=zuz h0;have e2:=fun W=>zm3 h0 0 0 W;have r0:∀ o,((w.alloc (.cells c.cells.toArray 114)).alloc o).rangeAt w.heap.size 0 c.cells:=fun o=>zaf (belS _ _) (zbl (zal w (.cells c.cells.toArray 114)));have hR0:∀ cs:Array Value,cs.size=10->(fun W:World=>W.rangeAt w.heap.size 0 c.cells/\W.there (w.heap.size+1) 0 10/\W.heap.size=w.heap.size+2/\Below w.heap.size w W) ((w.alloc (.cells c.cells.toArray 114)).alloc (.cells cs 118)):=fun cs hcs=>by
  refine⟨r0 _,?_,by simp,(belS w _).alloc (by simp) _⟩;have:=zcm (zal (w.alloc (.cells c.cells.toArray 114)) (.cells cs 118));rw[hcs,zb5]at this;exact this
 have HC:= zaa hc;have H0:= zaa h0;have HR0:= zaa hR0;have h1c:=zir ⟨begD c,0,0⟩;clear hc h0 hR0
 go_enter Tryz.func49,Tryz.ntmps49
 go_wp2_with (first
  |(go_at_call 111;refine(hbeg _).mono ?_;rintro e w1 ⟨rfl,hb1⟩)
  |(refine wpList_load_mid rfl 114 _ rfl w.heap.size 0 rfl c.cells _ (r0 _) Tryz.underlying114 rfl ic ?_;refine yae2 (fun W=>W.rangeAt w.heap.size 0 c.cells/\W.there (w.heap.size+1) 0 10/\W.heap.size=w.heap.size+2/\Below w.heap.size w W) (HR0.out _ (by rfl)) ?_;rintro w0 ⟨rc0,rt0,hs0,hB0⟩;simp only[xo,xe,xj,xm,xh,xf,xg])
  |(have hq:=hb1;refine zl0 rfl 180 _ rfl _ (by rw[qf];rfl) _ e1 ?_;simp only[xo,xe,xj,xm,xh,xf,xg])
  |(have hq:=hb1;refine zsy rfl 116 1 _ rfl _ (by rw[qf];rfl) _ _ (e2 _) ?_;simp only[xo,xe,xj,xm,xh,xf,xg]))
 have hX0:Xp w0 (w1.alloc (.cells (stC ⟨begD c,0,0⟩).toArray 180)) w1.heap.size 1 (touS c 0):=by
  refine⟨?_,hb1.alloc hb1.size _⟩;have h20:=zdw (t:=⟨begD c,0,0⟩) H0.out;have:=World.ownsRow_lit (base:=w0.heap.size) (e:=180) (size:=20) w1 (stC ⟨begD c,0,0⟩).toArray 1 hb1.size (by unfold maxLen;omega) (by simpa using h20);have e3:stsC (touS c 0)=(stC ⟨begD c,0,0⟩):=by show stC _++[]=_;rw[qx]
  rw[e3];exact this
 have HX0:= zaa hX0;have HS0:= zaa hs0;clear hX0 e1 e2 hs0
 go_loopw [3,4] (fun vs vk wr=>∃ (k g cap:Nat),vk=.int .i64 k/\vs=.slice (some ⟨g,0,none⟩) (touS c k).length cap/\k<=(touS c k).length/\Hid (Xp w0 wr g cap (touS c k))) (fun _ vk _=>262145-(intOf vk).toNat)
 case atStart=>exact⟨0,w1.heap.size,1,rfl,rfl,qg _,HX0⟩
 case round =>
  clear HX0 hb1;obtain⟨k,g,cap,rfl,rfl,hk,HX⟩:=hrel
  rename World=>w5
  have hlen:=zg3 HC.out hk;have hx0 := znn k;obtain⟨hg1,hg2⟩:=HX.out.own.lt g rfl;have z5:=HX.out.bel.size;by_cases hlt:k<(touS c k).length
  ·obtain⟨a,ha⟩:∃ a,(touS c k)[k]?=some a:=⟨_,xz hlt⟩;have hao:=ze8 HC.out k a (xq ha);obtain⟨a1,a2,a3⟩:=zdv hao;have ra:=zc6 (k:=0) (ds:=a.now.cells) (ziu (zky HX.out.own) (ze8 HC.out k) ha) (fun j v hj=>by
    rw[qe];unfold stC;rw[xu (xp.1 hj).1];exact hj)
   rw[Nat.add_zero]at ra;have ha18:a.now.cells.toArray.size=18:=by simpa using hao.len
   have hR6:∀ cs:Array Value,cs.size=18->(fun W:World=>W.rangeAt w5.heap.size 0 a.now.cells/\Below w5.heap.size w5 W) ((w5.alloc (.cells cs 177)).setCells w5.heap.size 0 a.now.cells):=fun cs hcs =>
    ⟨xv _ w5.heap.size 0 a.now.cells (by simpa using zc8 (xs:=a.now.cells.toArray) (t:=177) ha18 hcs),below_setCells _ (qp _) _ _ (belS _ _)⟩
   have HR6:= zaa hR6;have hx1:(k:Int)<((touS c k).length:Int):=by omega
   have HA:= zaa ha;have HAO:= zaa hao;clear hR6 ha hao
   go_wp2_with (first
    |(refine wpList_load_mid (w:=w5) rfl 177 _ rfl g (k*20) rfl a.now.cells _ ra Tryz.underlying177 rfl a1 ?_;simp only[xo,xe,xj,xm,xh,xf,xg])
    |(refine zcn rfl 177 _ _ rfl w5.heap.size 0 a.now.cells.toArray rfl rfl (zc8 ha18 (by rfl)) a2 a3 (fun W=>W.rangeAt w5.heap.size 0 a.now.cells/\Below w5.heap.size w5 W) (HR6.out _ (by rfl)) ?_;rintro w6 ⟨rn6,hb6⟩;simp only[xo,xe,xj,xm,xh,xf,xg]))
   have hs6:=zij rn6 (by rw[HAO.out.len];omega);have HX6:=(zaa (HX.out.keep hb6));clear ra HX
   go_loopw [3,6] (fun vs vp wr=>∃ (p g cap:Nat),p<=9/\vp=.int .i64 p/\vs=.slice (some ⟨g,0,none⟩) (tin (nxS c) k a.now p (touS c k)).length cap/\Hid (Xp w0 wr g cap (tin (nxS c) k a.now p (touS c k)))/\wr.rangeAt w5.heap.size 0 a.now.cells/\g≠w5.heap.size/\w5.heap.size<wr.heap.size) (fun _ vp _=>9-(intOf vp).toNat)
   case atStart=>exact⟨0,g,cap,qg _,rfl,rfl,HX6,rn6,by omega,hs6⟩
   case round =>
    clear HX6 rn6 hs6 hb6 hg1 hg2;obtain⟨p,g,cap,hp,rfl,rfl,HX,rn7,hgn,hs7⟩:=hrel
    rename World=>w7
    have hMl:=yadl HC.out hk HA.out hp;have hMo:=zsc (c:=c) (k:=k) (ze8 HC.out k) HAO.out p;have rc7:=zaf HX.out.bel rc0;have hp0 := znn p;have hT:=yadm (c:=c) (k:=k) (p:=p) (s:=a.now) (L:=touS c k);by_cases hlt2:p<9
    ·have hmv1:=fun W=>zo5 c a.now p HC.out HAO.out W;have hsf1:=fun W=>zo6 c a.now p HC.out HAO.out W;have haf:=fun W=>zji a.now p HAO.out W;have hyo:=zfz HAO.out p;obtain⟨g1,g2⟩:=HX.out.own.lt g rfl;have hx9:(p:Int)<9:=by omega
     generalize tin (nxS c) k a.now p (touS c k)=M at HX hMl hMo hT ⊢;generalize aft a.now p=y at haf hyo hT;have hrc:=fun (W:World) (h:Below w7.heap.size w7 W)=>zx2 M hMo y hyo g cap W hMl (zaf h (zky HX.out.own));obtain⟨y1,y2,y3⟩:=zdv hyo;have hy18:y.cells.toArray.size=18:=by simpa using hyo.len
     have hN:∀ {W:World} {cs:Array Value},Below w7.heap.size w7 W->cs.size=18->(fun V:World=>V.rangeAt W.heap.size 0 y.cells/\Below w7.heap.size w7 V) ((W.alloc (.cells cs 177)).setCells W.heap.size 0 y.cells):=fun {W cs} h hcs =>
      ⟨xv _ W.heap.size 0 y.cells (by simpa using zc8 (xs:=y.cells.toArray) (t:=177) hy18 hcs),below_setCells W.heap.size h.size _ _ (thn3 h (belS _ _))⟩
     have HN:Hid (∀ {W:World} {cs:Array Value},Below w7.heap.size w7 W->cs.size=18->(fun V:World=>V.rangeAt W.heap.size 0 y.cells/\Below w7.heap.size w7 V) ((W.alloc (.cells cs 177)).setCells W.heap.size 0 y.cells)):=hN;have eb1:=zuy hyo k p;have eb2:=fun W=>zm3 hyo k p W;have HYL:=(zaa (show (stC ⟨y,k,p⟩).length=1*20 by rw[zdw hyo]));have HY1:=(zaa (fun (u:Value) (hu:u∈stC ⟨y,k,p⟩)=>yaco hu));have hti:tins k M p y=if (M.any fun t=>zg0 t.now y)=true then M else M++[⟨y,k,p⟩]:=rfl
     generalize mvB c a.now p=x at hmv1 hT;generalize sfB c a.now p=z at hsf1 hT;generalize (M.any fun t=>zg0 t.now y)=v at hrc hti;clear hN hlt hlen hx0 hx1 hk hMo HA ha18 a2 a3;cases x with
     |false =>
      have HT:Hid (tin (nxS c) k a.now (p+1) (touS c k)=M):=by show _=_;rw[hT];rfl
      clear hT hti hrc hsf1 haf eb1 eb2
      go_wp2_with (first
       |(go_at_call 112;refine(hmv1 _).mono ?_;rintro e w8 ⟨rfl,hb8⟩;have rc8:=zaf hb8 rc7;have rn8:=zaf hb8 rn7)
       |(refine wpList_load_mid (w:=w7) rfl 114 _ rfl w.heap.size 0 rfl c.cells _ rc7 Tryz.underlying114 rfl ic ?_;simp only[xo,xe,xj,xm,xh,xf,xg])
       |(refine wpList_load_mid (w:=w7) rfl 177 _ rfl w5.heap.size 0 rfl a.now.cells _ rn7 Tryz.underlying177 rfl a1 ?_;simp only[xo,xe,xj,xm,xh,xf,xg]))
      go_roundw
      case rel=>exact⟨p+1,g,cap,by omega,by go_num,by rw[HT.out],by rw[HT.out];exact HX.out.keep (hb8),zaf (hb8) rn7,hgn,by have:=(hb8).size;omega⟩
      case measure=>simp[intOf];omega
     |true =>
      cases z with
      |false =>
       have HT:Hid (tin (nxS c) k a.now (p+1) (touS c k)=M):=by show _=_;rw[hT];rfl
       clear hT hti hrc haf eb1 eb2
       go_wp2_with (first
        |(go_at_call 113;refine(hsf1 _).mono ?_;rintro e w9 ⟨rfl,hb9⟩;have rn9:=zaf hb9 rn8)
        |(have hq:=hb8;refine zdi (w:=w8) (by rfl) 114 _ rfl w.heap.size 0 rfl c.cells _ rc8 Tryz.underlying114 rfl ic ?_;simp only[xo,xe,xj,xm,xh,xf,xg])
        |(have hq:=hb8;refine zdi (w:=w8) (by rfl) 177 _ rfl w5.heap.size 0 rfl a.now.cells _ rn8 Tryz.underlying177 rfl a1 ?_;simp only[xo,xe,xj,xm,xh,xf,xg])
        |(go_at_call 112;refine(hmv1 _).mono ?_;rintro e w8 ⟨rfl,hb8⟩;have rc8:=zaf hb8 rc7;have rn8:=zaf hb8 rn7)
        |(refine wpList_load_mid (w:=w7) rfl 114 _ rfl w.heap.size 0 rfl c.cells _ rc7 Tryz.underlying114 rfl ic ?_;simp only[xo,xe,xj,xm,xh,xf,xg])
        |(refine wpList_load_mid (w:=w7) rfl 177 _ rfl w5.heap.size 0 rfl a.now.cells _ rn7 Tryz.underlying177 rfl a1 ?_;simp only[xo,xe,xj,xm,xh,xf,xg]))
       go_roundw
       case rel=>exact⟨p+1,g,cap,by omega,by go_num,by rw[HT.out],by rw[HT.out];exact HX.out.keep (thn3 hb8 hb9),zaf (thn3 hb8 hb9) rn7,hgn,by have:=(thn3 hb8 hb9).size;omega⟩
       case measure=>simp[intOf];omega
      |true =>
       cases v with
       |true =>
        have HT:Hid (tin (nxS c) k a.now (p+1) (touS c k)=M):=by show _=_;rw[hT,hti];rfl
        clear hT hti eb1 eb2
        go_wp2_with (first
         |(go_at_call 115;refine(hrc _ g11).mono ?_;rintro e w12 ⟨rfl,hb12⟩;have q12:=zaf hb12 q11;have g12:=thn3 g11 hb12)
         |(have hq:=q11;refine wpList_load_mid (w:=w11) rfl 177 _ rfl w10.heap.size 0 rfl y.cells _ q11 Tryz.underlying177 rfl y1 ?_;simp only[xo,xe,xj,xm,xh,xf,xg])
         |(have hq:=hb10;refine zcn rfl 177 _ _ rfl w10.heap.size 0 y.cells.toArray rfl rfl (zc8 hy18 (by rfl)) y2 y3 (fun W=>W.rangeAt w10.heap.size 0 y.cells/\Below w7.heap.size w7 W) (HN.out (thn3 (thn3 hb8 hb9) hb10) (by rfl)) ?_;rintro w11 ⟨q11,g11⟩)
         |(go_at_call 114;refine(haf _).mono ?_;rintro e w10 ⟨rfl,hb10⟩)
         |(have hq:=hb9;refine wpList_load_mid (w:=w9) rfl 177 _ rfl w5.heap.size 0 rfl a.now.cells _ rn9 Tryz.underlying177 rfl a1 ?_;simp only[xo,xe,xj,xm,xh,xf,xg])
         |(go_at_call 113;refine(hsf1 _).mono ?_;rintro e w9 ⟨rfl,hb9⟩;have rn9:=zaf hb9 rn8)
         |(have hq:=hb8;refine zdi (w:=w8) (by rfl) 114 _ rfl w.heap.size 0 rfl c.cells _ rc8 Tryz.underlying114 rfl ic ?_;simp only[xo,xe,xj,xm,xh,xf,xg])
         |(have hq:=hb8;refine zdi (w:=w8) (by rfl) 177 _ rfl w5.heap.size 0 rfl a.now.cells _ rn8 Tryz.underlying177 rfl a1 ?_;simp only[xo,xe,xj,xm,xh,xf,xg])
         |(go_at_call 112;refine(hmv1 _).mono ?_;rintro e w8 ⟨rfl,hb8⟩;have rc8:=zaf hb8 rc7;have rn8:=zaf hb8 rn7)
         |(refine wpList_load_mid (w:=w7) rfl 114 _ rfl w.heap.size 0 rfl c.cells _ rc7 Tryz.underlying114 rfl ic ?_;simp only[xo,xe,xj,xm,xh,xf,xg])
         |(refine wpList_load_mid (w:=w7) rfl 177 _ rfl w5.heap.size 0 rfl a.now.cells _ rn7 Tryz.underlying177 rfl a1 ?_;simp only[xo,xe,xj,xm,xh,xf,xg]))
        go_roundw
        case rel=>exact⟨p+1,g,cap,by omega,by go_num,by rw[HT.out],by rw[HT.out];exact HX.out.keep (g12),zaf (g12) rn7,hgn,by have:=(g12).size;omega⟩
        case measure=>simp[intOf];omega
       |false =>
        have HT:Hid (tin (nxS c) k a.now (p+1) (touS c k)=M++[⟨y,k,p⟩]):=by show _=_;rw[hT,hti];rfl
        clear hT hti
        go_wp2_with (first
         |(at_builtin;have hq:=hb12;refine wpList_append_lies _ rfl _ _ _ rfl w0.heap.size 180 i0 _ 20 40 Tryz.underlying116 hi0 hz0 hzz1 hzz2 rfl (by omega) _ M.length _ rfl ((zas HX.out.own g12).alloc _) ⟨w12.heap.size,0,none⟩ 1 1 (stC ⟨y,k,p⟩) rfl (HYL.out) (qi (heap_alloc_new w12 _)) HY1.out (by omega) (by unfold maxLen;omega) (by omega) (by have:=g12.size;have:=HX.out.bel.size;simp;omega) (w12.heap.size+1) (by simp) ?_;intro g2 cap2 w13 hown2 hgrow2 hat2 hlt2)
         |(have hq:=hb12;refine zsy rfl 116 1 _ rfl _ (by rw[qf];rfl) _ _ (eb2 _) ?_;simp only[xo,xe,xj,xm,xh,xf,xg])
         |(have hq:=hb12;refine zl0 rfl 180 _ rfl _ (by rw[qf];rfl) _ eb1 ?_;simp only[xo,xe,xj,xm,xh,xf,xg])
         |(have hq:=hb12;refine wpList_load_mid (w:=w12) rfl 177 _ rfl w10.heap.size 0 rfl y.cells _ q12 Tryz.underlying177 rfl y1 ?_;simp only[xo,xe,xj,xm,xh,xf,xg])
         |(go_at_call 115;refine(hrc _ g11).mono ?_;rintro e w12 ⟨rfl,hb12⟩;have q12:=zaf hb12 q11;have g12:=thn3 g11 hb12)
         |(have hq:=q11;refine wpList_load_mid (w:=w11) rfl 177 _ rfl w10.heap.size 0 rfl y.cells _ q11 Tryz.underlying177 rfl y1 ?_;simp only[xo,xe,xj,xm,xh,xf,xg])
         |(have hq:=hb10;refine zcn rfl 177 _ _ rfl w10.heap.size 0 y.cells.toArray rfl rfl (zc8 hy18 (by rfl)) y2 y3 (fun W=>W.rangeAt w10.heap.size 0 y.cells/\Below w7.heap.size w7 W) (HN.out (thn3 (thn3 hb8 hb9) hb10) (by rfl)) ?_;rintro w11 ⟨q11,g11⟩)
         |(go_at_call 114;refine(haf _).mono ?_;rintro e w10 ⟨rfl,hb10⟩)
         |(have hq:=hb9;refine wpList_load_mid (w:=w9) rfl 177 _ rfl w5.heap.size 0 rfl a.now.cells _ rn9 Tryz.underlying177 rfl a1 ?_;simp only[xo,xe,xj,xm,xh,xf,xg])
         |(go_at_call 113;refine(hsf1 _).mono ?_;rintro e w9 ⟨rfl,hb9⟩;have rn9:=zaf hb9 rn8)
         |(have hq:=hb8;refine zdi (w:=w8) (by rfl) 114 _ rfl w.heap.size 0 rfl c.cells _ rc8 Tryz.underlying114 rfl ic ?_;simp only[xo,xe,xj,xm,xh,xf,xg])
         |(have hq:=hb8;refine zdi (w:=w8) (by rfl) 177 _ rfl w5.heap.size 0 rfl a.now.cells _ rn8 Tryz.underlying177 rfl a1 ?_;simp only[xo,xe,xj,xm,xh,xf,xg])
         |(go_at_call 112;refine(hmv1 _).mono ?_;rintro e w8 ⟨rfl,hb8⟩;have rc8:=zaf hb8 rc7;have rn8:=zaf hb8 rn7)
         |(refine wpList_load_mid (w:=w7) rfl 114 _ rfl w.heap.size 0 rfl c.cells _ rc7 Tryz.underlying114 rfl ic ?_;simp only[xo,xe,xj,xm,xh,xf,xg])
         |(refine wpList_load_mid (w:=w7) rfl 177 _ rfl w5.heap.size 0 rfl a.now.cells _ rn7 Tryz.underlying177 rfl a1 ?_;simp only[xo,xe,xj,xm,xh,xf,xg]))
        go_roundw
        case rel =>
         have z12:=g12.size;have zg:=hgrow2.size;have zx:=HX.out.bel.size;have hg2n:g2≠w5.heap.size:=fun e=>by
          rcases hat2 with h2|h2
          ·cases h2;exact hgn e
          ·omega
         refine⟨p+1,g2,cap2,by omega,by go_num,by rw[HT.out,qj];rfl,?_,?_,hg2n,by simp at zg;omega⟩
         ·rw[HT.out];refine⟨by rw[zr6,qj];exact hown2,?_⟩;exact Below.grown ((thn3 HX.out.bel g12).alloc (by omega) _) hgrow2 (by simp;omega) (fun k hk=>by cases hk;exact g1)
         ·exact yaax (zaf (belS _ _) (zaf g12 rn7)) hgrow2 (fun e=>by cases e;exact hgn rfl)
        case measure=>simp[intOf];omega
    ·obtain rfl:p=9:=by omega
     have hts:=yad3 HA.out;have hk1:k+1<=(touS c (k+1)).length:=by
      rw[hts];exact(xp.1 (zfq HA.out 9)).1
     rw[<- hts]at HX;have HTS:=(zaa (congrArg List.length hts));clear hT hts hMl hMo
     go_wp2_with fail
     go_roundw
     case rel=>exact⟨k+1,g,cap,by go_num,by rw[HTS.out],hk1,HX⟩
     case measure=>simp[intOf];omega
  ·have hkl:(touS c k).length=k:=by omega
   have rc5:=zaf HX.out.bel rc0;have rw5:=zc6 (k:=18) (ds:=c.wnt.map Value.bool) rc5 (fun j v hj=>by
    rw[qk]at hj;obtain⟨b,hb,rfl⟩:=Option.map_eq_some_iff.1 hj;rw[ChD.cells,qk,HC.out.get_wnt hb];rfl)
   rw[qe]at rw5;have iw:(Tryz.prog.info? 111).map (·.size)=some (c.wnt.map Value.bool).length:=by rw[qo,HC.out.wnt];exact Tryz.infoSet
   have eb:=zu0 g (touS c k).length cap HC.out.wnt;have rt5:=zea HX.out.bel rt0;have htl:(zao g (touS c k).length cap c.wnt).length=10:=by simp[zao,HC.out.wnt]
   have ht2:w5.there (w.heap.size+1) 0 (zao g (touS c k).length cap c.wnt).toArray.size:=by rw[show (zao g (touS c k).length cap c.wnt).toArray.size=10 by simpa using htl];exact rt5
   have hi2:(Tryz.prog.info? 118).map (·.size)=some (zao g (touS c k).length cap c.wnt).toArray.size:=by rw[show (zao g (touS c k).length cap c.wnt).toArray.size=10 by simpa using htl];exact Tryz.infoTour
   have hi3:(Tryz.prog.info? 118).map (·.size)=some (zao g (touS c k).length cap c.wnt).length:=by rw[htl];exact Tryz.infoTour
   have h1:(zao g (touS c k).length cap c.wnt).toArray.all (·.oneCell')=true:=all_oneCell_toArray fun v hv=>by
    rcases List.mem_cons.1 hv with rfl|hv
    ·rfl
    ·obtain⟨b,_,rfl⟩:=q9.1 hv;rfl
   have hR:(fun W:World=>W.rangeAt (w.heap.size+1) 0 (zao g (touS c k).length cap c.wnt)/\W.rangeAt g 0 (stsC (touS c k))/\Below w.heap.size w W) (w5.setCells (w.heap.size+1) 0 (zao g (touS c k).length cap c.wnt)) :=
    ⟨xv _ _ _ _ (by simpa using ht2),qd (zky HX.out.own) _ _ _ (.inl (by have:=HS0.out;omega)),below_setCells (w.heap.size+1) (Nat.le_succ _) _ _ (thn3 hB0 HX.out.bel)⟩
   have HR:= zaa hR;have HKL:= zaa hkl;clear hR hkl htl
   go_wp2_with (first
    |(refine wpList_load_mid (w:=w5) rfl 111 _ rfl w.heap.size 18 rfl (c.wnt.map Value.bool) _ rw5 Tryz.underlying111 rfl iw ?_;simp only[xo,xe,xj,xm,xh,xf,xg])
    |(refine zl0 rfl 118 _ rfl _ (by rw[qf];rfl) _ eb ?_;simp only[xo,xe,xj,xm,xh,xf,xg])
    |(refine zcn rfl 118 _ _ rfl (w.heap.size+1) 0 (zao g (touS c k).length cap c.wnt).toArray rfl rfl ht2 hi2 h1 (fun W=>W.rangeAt (w.heap.size+1) 0 (zao g (touS c k).length cap c.wnt)/\W.rangeAt g 0 (stsC (touS c k))/\Below w.heap.size w W) HR.out ?_;rintro w6 ⟨q1,q2,q3⟩;simp only[xo,xe,xj,xm,xh,xf,xg]))
   refine bodyPost_ret (v:=.agg (zao g (touS c k).length cap c.wnt).toArray) ?_ rfl ⟨g,cap,(touS c k).length,rfl,by rw[HKL.out,HKL.out],by rw[HKL.out];exact q2,q3⟩;have hlv:=run_loadVar_mid (P:=Tryz.prog) w6 (w.heap.size+1) 0 118 _ _ q1 Tryz.underlying118 rfl hi3;simp[results,Tryz.results49,asAddr,xo,hlv]
end
section
set_option maxRecDepth 8000
open Go.Lib (below_setCells)
theorem Way.ge {α:Type}{L:List (TS α)}{g D:Nat}{v:Nat->Nat}(h:Way L g D v):∀ t,t<=D->t<=v t
 |0,_=>qg _
 |t+1,ht=>by have:=Way.ge h t (by omega);have:=(h.step t (by omega)).2.1;omega
def mvOf (p:Nat):Int×Int:=(((p / 3:Nat):Int),((p % 3:Nat):Int))
def wayM (L:List (TS SiD))(v:Nat->Nat)(t:Nat):Int×Int:=match L[v (t+1)]? with
 |some a=>mvOf a.to
 |none=>(0,0)
def wayL (L:List (TS SiD))(v:Nat->Nat)(D:Nat):List (Int×Int):=(uc D).map (wayM L v)
def wayB (L:List (TS SiD))(v:Nat->Nat)(D j:Nat):List (Int×Int):=(uc j).map fun i=>wayM L v (D-1-i)
theorem zpj (a b:List (Int×Int)):mvC (a++b)=mvC a++mvC b:=by simp[mvC]
theorem yaex (L:List (TS SiD))(v:Nat->Nat)(D j:Nat):wayB L v D (j+1)=wayB L v D j++[wayM L v (D-1-j)]:=by unfold wayB;rw[qv,qn];rfl
theorem yae0 (L:List (TS SiD))(v:Nat->Nat)(j:Nat):wayL L v (j+1)=wayL L v j++[wayM L v j]:=by unfold wayL;rw[qv,qn];rfl
theorem yaew {L:List (TS SiD)}{v:Nat->Nat}{D i:Nat}(hi:i<D):(wayB L v D D)[i]?=some (wayM L v (D-1-i)):=by
 unfold wayB;rw[qk,List.getElem?_range hi];rfl
theorem zpk {ms:List (Int×Int)}{i:Nat}{m:Int×Int}(h:ms[i]?=some m):(mvC ms)[i*2]?=some (.int .i64 m.1)/\(mvC ms)[i*2+1]?=some (.int .i64 m.2):=by
 have:=zyh h []
 rwa [qx]at this
theorem yac4 {w:World}{g:Nat}{L:List (TS SiD)}{i:Nat}{t:TS SiD}(hr:w.rangeAt g 0 (stsC L))(h:zc7 L)(hi:L[i]?=some t):w.cell? ⟨g,i*20+18,none⟩=some (.int .i64 t.fr)/\w.cell? ⟨g,i*20+19,none⟩=some (.int .i64 t.to):=by
 have hl:=(h t (xq hi)).len;have hr:=ziu hr h hi;refine⟨hr 18 _ ?_,hr 19 _ ?_⟩
 iterate 2
  ·unfold stC;rw[xy (by omega),hl];rfl
theorem zlv (w:World)(g n cap:Nat)(wn:List Bool):(w.alloc (.cells (zao g n cap wn).toArray 118)).cell? ⟨w.heap.size,0,none⟩=some (.slice (some ⟨g,0,none⟩) n cap):=by
 have:=zbl (zal w (.cells (zao g n cap wn).toArray 118)) 0 _ rfl;exact this
theorem zyf (L:List (TS SiD))(hL:zc7 L)(hlen:L.length<=262144)(k D:Nat)(v:Nat->Nat)(hk:k<L.length)(hv:Way L k D v)(hto:∀ (j:Nat) (a:TS SiD),L[j+1]?=some a->a.to<9)(wn:List Bool)(g cap:Nat)(w:World)(hr:w.rangeAt g 0 (stsC L)) :
  Calls Tryz.prog 116 #[.agg (zao g L.length cap wn).toArray,.int .i64 k] w fun e W=>∃ u,e=.returned u/\W.ownsRow w.heap.size 62 2 u D (mvC (wayL L v D))/\Below w.heap.size w W:=by
 have hDk:D<=k:=by have:=hv.ge D (qp _);rw[hv.last]at this;exact this
 obtain⟨i0,hi0,hz0,hzz1,hzz2⟩:=info_parts Tryz.infoMvL;have hb0:=belS w (.cells (zao g L.length cap wn).toArray 118);have c0:=zlv w g L.length cap wn;have HV:= zaa hv;have HL:= zaa hL;have HRR:=(zaa (zaf hb0 hr));have HTO:= zaa hto;have hlast:=hv.last;have hgw:g<w.heap.size:=zij hr (by rw[zit hL];omega);clear hv hL hr hto
 go_enter Tryz.func116,Tryz.ntmps116
 go_wp2_with fail
 go_loopw [1,5] (fun vk vb wr=>∃ j g1 c1:Nat,j<=D/\vk=.int .i64 ((v (D-j):Nat):Int)/\vb=.slice (some ⟨g1,0,none⟩) j c1/\wr.ownsRow (w.heap.size+1) 62 2 (.slice (some ⟨g1,0,none⟩) j c1) j (mvC (wayB L v D j))/\Below (w.heap.size+1) (w.alloc (.cells (zao g L.length cap wn).toArray 118)) wr) (fun vk _ _=>(intOf vk).toNat)
 case atStart =>
  refine⟨0,w.heap.size+1,0,qg _,by rw[Nat.sub_zero,hlast],rfl,?_,(Below.refl (w.heap.size+1) _).alloc (by simp) _⟩;have h:=qq (base:=w.heap.size+1) (e:=62) (size:=2) (w.alloc (.cells (zao g L.length cap wn).toArray 118)) #[] 0 (by simp) (by unfold maxLen;omega) rfl;rw[zb5]at h;exact h
 case round =>
  obtain⟨j,g1,c1,hj,rfl,rfl,hown,hb⟩:=hrel
  rename World=>w5
  have c5:w5.cell? ⟨w.heap.size,0,none⟩=some (.slice (some ⟨g,0,none⟩) L.length cap):=zab (hb.mono (by simp)) c0;have hcl:=zag c5;have z5:=hb.size;rw[zb5]at z5;have HB:= zaa hb;have HOWN:= zaa hown;obtain⟨lN1,lN2⟩:=hown.lt g1 rfl;have hn1:some w.heap.size≠some g1:=fun e=>by simp at e;omega
  have hn2:some g≠some g1:=fun e=>by simp at e;omega
  by_cases hlt:j<D
  ·obtain⟨h0,hd,a,ha,haf⟩:=HV.out.step (D-j-1) (by omega);rw[show D-j-1+1=D-j by omega]at h0 hd ha;obtain⟨m,hm⟩:∃ m,v (D-j)=m+1:=⟨v (D-j)-1,by omega⟩;have ha2:=ha;rw[hm]at ha2;have hto9:=HTO.out m a ha2;have hkl:=(xp.1 ha).1;obtain⟨s1,s2⟩:=yac4 (zaf (hb.mono (by simp)) HRR.out) HL.out ha;have hgl:=zag s1;have hwm:wayM L v (D-1-j)=mvOf a.to:=by unfold wayM;rw[show D-1-j+1=D-j by omega,ha]
   have hB1:=yaex L v D j;rw[hwm]at hB1;have hmv:=fun W=>zkr a.to hto9 W;have hfr:a.fr=v (D-(j+1)):=by rw[haf];congr 1
   rw[hfr]at s1;have hd2:v (D-(j+1))<v (D-j):=by rw[show D-(j+1)=D-j-1 by omega];exact hd
   generalize v (D-j)=kk at h0 hkl s1 s2 hd2;have HB1:= zaa hB1;have hx0:(0:Int)<(kk:Int):=by omega
   have hx1:(kk:Int)<(L.length:Int):=by omega
   clear ha ha2 hm hwm hB1 hfr haf hd hown hb hlast
   go_wp2_with (first
    |(go_at_call 181;refine(hmv _).mono ?_;rintro e w6 ⟨rfl,hb6⟩;have c6:=zab hb6 c5;have s16:=zab hb6 s1;have hz6:=hb6.size)
    |(at_builtin;refine wpList_append_lies _ rfl _ _ _ rfl (w.heap.size+1) 62 i0 _ 2 16 Tryz.underlying27 hi0 hz0 hzz1 hzz2 rfl (by omega) (.slice (some ⟨g1,0,none⟩) j c1) j _ rfl ((zas HOWN.out hb6).alloc _) ⟨w6.heap.size,0,none⟩ 1 1 [.int .i64 ((a.to / 3:Nat):Int),.int .i64 ((a.to % 3:Nat):Int)] rfl rfl (qi (heap_alloc_new w6 _)) (by simp[qy]) (by omega) (by unfold maxLen;omega) (by omega) (by simp;omega) (w6.heap.size+1) (by simp) ?_;intro g2 cap2 w7 hown2 hgrow2 hat2 hlt2;have c7:=hgrow2.cell (zah _ c6) hn1;have s17:=hgrow2.cell (zah _ s16) hn2))
   go_roundw
   case rel =>
    have zg:=hgrow2.size;refine⟨j+1,g2,cap2,by omega,rfl,rfl,by rw[HB1.out,zpj];exact hown2,?_⟩;exact Below.grown ((HB.out.trans (hb6.mono z5)).alloc (by omega) _) hgrow2 (by simp;omega) (fun k hk=>by cases hk;exact lN1)
   case measure=>simp[intOf];omega
  ·obtain rfl:j=D:=by omega
   have hz0':((v (j-j):Nat):Int)=0:=by rw[Nat.sub_self,HV.out.zero];rfl
   rw[hz0'];have hjl:j<=262144:=by omega
   clear hown hb hlast hz0'
   go_wp2_with fail
   go_loopw [6,7] (fun vm va wr=>∃ i g2 c2:Nat,i<=j/\va=.int .i64 ((j:Int)-1-i)/\vm=.slice (some ⟨g2,0,none⟩) i c2/\wr.ownsRow (w5.heap.size) 62 2 (.slice (some ⟨g2,0,none⟩) i c2) i (mvC (wayL L v i))/\Below w5.heap.size w5 wr) (fun _ va _=>(intOf va+1).toNat)
   case atStart =>
    refine⟨0,w5.heap.size,0,qg _,by simp,rfl,?_,belS _ _⟩;exact qq (base:=w5.heap.size) (e:=62) (size:=2) w5 #[] 0 (qp _) (by unfold maxLen;omega) rfl
   case round =>
    obtain⟨i,g2,c2,hi,rfl,rfl,hown,hb⟩:=hrel
    rename World=>w6
    obtain⟨l1,l2⟩:=hown.lt g2 rfl;have z6:=hb.size;have HOW2:= zaa hown;have HB2:= zaa hb;clear hown hb;by_cases hlt:i<j
    ·have hget:=yaew (L:=L) (v:=v) (D:=j) (i:=j-1-i) (by omega);rw[show j-1-(j-1-i)=i by omega]at hget;obtain⟨m1,m2⟩:=zpk hget;have q1:w6.cell? ⟨g1,(j-1-i)*2,none⟩=some (.int .i64 (wayM L v i).1):=zab HB2.out (by rw[HOWN.out.cellAt _ (by omega)];exact m1);have q2:w6.cell? ⟨g1,(j-1-i)*2+1,none⟩=some (.int .i64 (wayM L v i).2):=zab HB2.out (by rw[HOWN.out.cellAt _ (by omega)];exact m2);have hidx:(j:Int)-1-i=((j-1-i:Nat):Int):=by omega
     have hS:=yae0 L v i;generalize wayM L v i=q at q1 q2 hS;have HS:= zaa hS;have hg6:=zag q1;rw[hidx];have hy0:(0:Int)<=((j-1-i:Nat):Int):=Int.natCast_nonneg _;have hy1:((j-1-i:Nat):Int)<(j:Int):=by omega
     have HI:= zaa hidx;clear hidx hS hget m1 m2;generalize j-1-i=r at *
     go_wp2_with (at_builtin;refine wpList_append_lies _ rfl _ _ _ rfl w5.heap.size 62 i0 _ 2 16 Tryz.underlying27 hi0 hz0 hzz1 hzz2 rfl (by omega) (.slice (some ⟨g2,0,none⟩) i c2) i _ rfl (HOW2.out.alloc _) ⟨w6.heap.size,0,none⟩ 1 1 [.int .i64 q.1,.int .i64 q.2] rfl rfl (qi (heap_alloc_new w6 _)) (by simp[qy]) (by omega) (by unfold maxLen;omega) (by omega) (by simp;omega) (w6.heap.size+1) (by simp) ?_;intro g3 cap3 w7 hown3 hgrow3 hat3 hlt3)
     go_roundw
     case rel =>
      refine⟨i+1,g3,cap3,by omega,by rw[<- HI.out];congr 1;omega,rfl,by rw[HS.out,zpj];exact hown3,?_⟩;exact Below.grown (HB2.out.alloc (by omega) _) hgrow3 (by simp;omega) (fun k hk=>by cases hk;exact l1)
     case measure=>simp[intOf]
    ·obtain rfl:i=j:=by omega
     have e1:(i:Int)-1-i=-1:=by omega
     rw[e1];clear e1
     go_wp2_with fail
     go_ret;exact⟨_,rfl,HOW2.out.mono (by omega),thn3 (hb0.trans (HB.out.mono (by simp))) HB2.out⟩
end
section
set_option maxRecDepth 8000
open Go.Lib (below_setCells)
theorem zjd (g n cap:Nat)(wn:List Bool)(w:World):Calls Tryz.prog 50 #[.agg (zao g n cap wn).toArray] w fun e W=>e=.returned (.int .i64 n)/\Below w.heap.size w W:=by
 have c0:=zlv w g n cap wn
 go_enter Tryz.func50,Tryz.ntmps50
 go_wp2_with fail
 go_ret;exact⟨rfl,belS _ _⟩
theorem zsf {w:World}{b g n cap:Nat}{wn:List Bool}(h:w.rangeAt b 0 (zao g n cap wn)):w.rangeAt b 1 (wn.map Value.bool):=by
 have:=zc6 (k:=1) (ds:=wn.map Value.bool) h (fun j v hj=>by rw[Nat.add_comm,zao,qm];exact hj)
 rwa [qe]at this
def yach (L:List (TS SiD))(wn:List Bool)(B:Nat)(e:Ending)(W:World):Prop :=
 ((∀ t∈L,t.now.has≠wn)/\e=.returned (.tuple #[.slice none 0 0,.bool false])) \/
 ∃ (k D:Nat) (v:Nat->Nat) (t:TS SiD) (u:Value),L[k]?=some t/\t.now.has=wn/\(∀ (i:Nat) (s:TS SiD),i<k->L[i]?=some s->s.now.has≠wn)/\Way L k D v/\e=.returned (.tuple #[u,.bool true])/\W.ownsRow B 62 2 u D (mvC (wayL L v D))
theorem ztu (nx:SiD->Nat->Option SiD)(L:List (TS SiD))(hL:zc7 L)(hlen:L.length<=262144)(T:Nat)(hI:TInv nx L T)(wn:List Bool)(hw:wn.length=9)(g cap:Nat)(w:World)(hr:w.rangeAt g 0 (stsC L)) :
  Calls Tryz.prog 51 #[.agg (zao g L.length cap wn).toArray] w fun e W=>yach L wn w.heap.size e W/\Below w.heap.size w W:=by
 have hb0:=belS w (.cells (zao g L.length cap wn).toArray 118);have c0:=zlv w g L.length cap wn;have hq0:=zbl (zal w (.cells (zao g L.length cap wn).toArray 118));have iw:(Tryz.prog.info? 111).map (·.size)=some (wn.map Value.bool).length:=by rw[qo,hw];exact Tryz.infoSet
 have it:(Tryz.prog.info? 118).map (·.size)=some (zao g L.length cap wn).length:=by rw[show (zao g L.length cap wn).length=10 by simp[zao,hw]];exact Tryz.infoTour
 have HL:= zaa hL;have HRR:=(zaa (zaf hb0 hr));have HI:= zaa hI;have HW:= zaa hw;clear hL hr hI hw
 go_enter Tryz.func51,Tryz.ntmps51
 go_wp2_with fail
 go_loopw [9] (fun vi wr=>∃ i:Nat,i<=L.length/\vi=.int .i64 i/\Hid (∀ (j:Nat) (s:TS SiD),j<i->L[j]?=some s->s.now.has≠wn)/\wr.rangeAt w.heap.size 0 (zao g L.length cap wn)/\Below (w.heap.size+1) (w.alloc (.cells (zao g L.length cap wn).toArray 118)) wr) (fun i _=>L.length-(intOf i).toNat)
 case atStart=>exact⟨0,qg _,rfl,(fun j s hj=>by omega),hq0,Below.refl _ _⟩
 case round =>
  obtain⟨i,hi,rfl,hn,rq,hb⟩:=hrel
  rename World=>w5
  have hbw:Below w.heap.size w w5:=hb0.trans (hb.mono (by simp));by_cases hlt:i<L.length
  ·obtain⟨t,ht⟩:∃ t,L[i]?=some t:=⟨L[i],xz hlt⟩;have hto:=HL.out t (xq ht);have r1:=ziu (zaf (hb.mono (by simp)) HRR.out) HL.out ht;have heq:∀ W,(ua 10000 111 (.agg (t.now.has.map Value.bool).toArray) (.agg (wn.map Value.bool).toArray)).run Tryz.prog W=.ok (decide (t.now.has=wn)) W:=fun W=>zll W 9998 hto.1 HW.out;have h20:(stC t).toArray.size=20:=by simpa using zdw hto
   have hi20:(Tryz.prog.info? 180).map (·.size)=some (stC t).length:=by rw[zdw hto];exact Tryz.infoStp
   have hi21:(Tryz.prog.info? 180).map (·.size)=some (stC t).toArray.size:=by rw[qu];exact hi20
   have ih:(Tryz.prog.info? 111).map (·.size)=some (t.now.has.map Value.bool).length:=by rw[qo,hto.1];exact Tryz.infoSet
   have h1:=zir t;have h6:∀ cs:Array Value,cs.size=20->(fun W=>W.rangeAt w5.heap.size 0 (t.now.has.map Value.bool)/\W.rangeAt w.heap.size 0 (zao g L.length cap wn)/\Below (w.heap.size+1) (w.alloc (.cells (zao g L.length cap wn).toArray 118)) W) ((w5.alloc (.cells cs 180)).setCells w5.heap.size 0 (stC t)):=fun cs hcs=>by
    have z5:=hb.size;rw[zb5]at z5;refine⟨?_,?_,?_⟩
    ·have:=zc6 (k:=0) (ds:=t.now.has.map Value.bool) (xv _ w5.heap.size 0 (stC t) (by simpa using zc8 (xs:=(stC t).toArray) (t:=180) h20 hcs)) (fun j v hj=>by
      have hl:=(xp.1 hj).1;rw[qe];unfold stC SiD.cells;rw[xu (by simp at hl ⊢;omega),qn,xu hl];exact hj)
     exact this
    ·exact qd (zaf (belS _ _) rq) _ _ _ (.inl (by omega))
    ·exact below_setCells _ (by omega) _ _ (hb.alloc (by omega) _)
   have H6:= zaa h6;have hx0 := znn i;have hx1:(i:Int)<(L.length:Int):=by omega
   have HT:= zaa ht;clear h6 ht;by_cases hx:t.now.has=wn
   ·have HX:= zaa hx;rw[decide_eq_true hx]at heq;obtain⟨D,v,hway⟩:=yae1 HI.out i i (qp _) hlt;have hmt:=fun (W:World) (h:W.rangeAt g 0 (stsC L))=>zyf L HL.out hlen i D v hlt hway (fun j a ha=>(HI.out.tm j a ha).2.2.1) wn g cap W h;have rg5:=zaf (hb.mono (by simp)) HRR.out;have hgl:g<w5.heap.size:=zij rg5 (by rw[zit HL.out];omega);have hgw:g<w.heap.size+1:=by
     have:=zij HRR.out (by rw[zit HL.out];omega);rw[zb5]at this;exact this
    have HWY:= zaa hway;clear hx hway
    go_wp2_with (first
     |(refine wpList_load_mid (w:=w5) rfl 180 _ rfl g (i*20) rfl (stC t) _ r1 Tryz.underlying180 rfl hi20 ?_;simp only[xo,xe,xj,xm,xh,xf,xg])
     |(refine zcn rfl 180 _ _ rfl w5.heap.size 0 (stC t).toArray rfl rfl (zc8 h20 (by rfl)) hi21 h1 (fun W=>W.rangeAt w5.heap.size 0 (t.now.has.map Value.bool)/\W.rangeAt w.heap.size 0 (zao g L.length cap wn)/\Below (w.heap.size+1) (w.alloc (.cells (zao g L.length cap wn).toArray 118)) W) (H6.out _ (by rfl)) ?_;rintro w6 ⟨q1,q2,q3⟩;have qw:=zsf q2;simp only[xo,xe,xj,xm,xh,xf,xg];have m0:True:=trivial)
     |(have hq:=m2;refine zi4 rfl 111 _ _ _ rfl _ _ rfl rfl Tryz.eqgSet _ (heq _) ?_;simp only[xo,xe,xj,xm,xh,xf,xg])
     |(have hq:=m1;refine wpList_load_mid (w:=w6) rfl 111 _ rfl w.heap.size 1 rfl (wn.map Value.bool) _ qw Tryz.underlying111 rfl iw ?_;simp only[xo,xe,xj,xm,xh,xf,xg];have m2:True:=trivial)
     |(have hq:=m0;refine wpList_load_mid (w:=w6) rfl 111 _ rfl w5.heap.size 0 rfl (t.now.has.map Value.bool) _ q1 Tryz.underlying111 rfl ih ?_;simp only[xo,xe,xj,xm,xh,xf,xg];have m1:True:=trivial)
     |(have hq:=m2;refine wpList_load_mid (w:=w6) rfl 118 _ rfl w.heap.size 0 rfl (zao g L.length cap wn) _ q2 Tryz.underlying118 rfl it ?_;simp only[xo,xe,xj,xm,xh,xf,xg])
     |(go_at_call 116;refine(hmt _ (zaf (q3.mono (by simp)) HRR.out)).mono ?_;rintro e w7 ⟨u,rfl,hown7,hb7⟩))
    go_ret2
    have hb8:Below w.heap.size w w6:=hb0.trans (q3.mono (by simp));exact⟨.inr ⟨i,D,v,t,u,HT.out,HX.out,hn.out,HWY.out,rfl,hown7.mono hb8.size⟩,thn3 hb8 hb7⟩
   ·rw[decide_eq_false hx]at heq;have HX:= zaa hx;clear hx
    go_wp2_with (first
     |(refine wpList_load_mid (w:=w5) rfl 180 _ rfl g (i*20) rfl (stC t) _ r1 Tryz.underlying180 rfl hi20 ?_;simp only[xo,xe,xj,xm,xh,xf,xg])
     |(refine zcn rfl 180 _ _ rfl w5.heap.size 0 (stC t).toArray rfl rfl (zc8 h20 (by rfl)) hi21 h1 (fun W=>W.rangeAt w5.heap.size 0 (t.now.has.map Value.bool)/\W.rangeAt w.heap.size 0 (zao g L.length cap wn)/\Below (w.heap.size+1) (w.alloc (.cells (zao g L.length cap wn).toArray 118)) W) (H6.out _ (by rfl)) ?_;rintro w6 ⟨q1,q2,q3⟩;have qw:=zsf q2;simp only[xo,xe,xj,xm,xh,xf,xg];have m0:True:=trivial)
     |(have hq:=m2;refine zi4 rfl 111 _ _ _ rfl _ _ rfl rfl Tryz.eqgSet _ (heq _) ?_;simp only[xo,xe,xj,xm,xh,xf,xg])
     |(have hq:=m1;refine wpList_load_mid (w:=w6) rfl 111 _ rfl w.heap.size 1 rfl (wn.map Value.bool) _ qw Tryz.underlying111 rfl iw ?_;simp only[xo,xe,xj,xm,xh,xf,xg];have m2:True:=trivial)
     |(have hq:=m0;refine wpList_load_mid (w:=w6) rfl 111 _ rfl w5.heap.size 0 rfl (t.now.has.map Value.bool) _ q1 Tryz.underlying111 rfl ih ?_;simp only[xo,xe,xj,xm,xh,xf,xg];have m1:True:=trivial))
    go_roundw
    case rel =>
     refine⟨i+1,by omega,by go_num,fun j s hj hs=>?_,q2,q3⟩;by_cases hji:j=i
     ·subst hji;rw[HT.out]at hs;cases hs;exact HX.out
     ·exact hn.out j s (by omega) hs
    case measure=>simp[intOf];omega
  ·have hno:∀ t∈L,t.now.has≠wn:=fun t ht=>by
    obtain⟨j,hj⟩:=qh ht;exact hn.out j t (by have:=(xp.1 hj).1;omega) hj
   have HNO:= zaa hno;clear hn hno
   go_wp2_with fail
   go_ret2
   exact⟨.inl ⟨HNO.out,rfl⟩,hbw⟩
end
end Go.Proofs.YtkkekopomiehlabGreatDoor
