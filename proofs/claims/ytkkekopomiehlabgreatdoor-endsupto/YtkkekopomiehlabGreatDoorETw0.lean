import Derived.Test.YtkkekopomiehlabGreatDoorEPy23
set_option linter.unusedVariables false
set_option linter.unusedSimpArgs false
set_option maxHeartbeats 40000000
open Nat renaming zero_add->xe,le_refl->xq
open List renaming getElem?_map->xf,getElem?_eq_some_iff->xg,getElem?_eq_getElem->xh,mem_of_getElem?->xj,length_map->xp
open Option renaming map_eq_some_iff->xm
open Go.World renaming ownsRow_nil->xo
set_option maxRecDepth 4000
namespace Go.Proofs.YtkkekopomiehlabGreatDoor
section
open Go
theorem yabs {P:Program}(w:World)(t ty:TypeId)(base:Nat)(e:TypeId)(i:TypeInfo)(z:Value)(size bytes:Nat)(ht:P.underlying t=some (.slice e))(hi:P.info? e=some i)(hz:i.zero=some z)
  (hsize:i.size=size) (hby:i.bytes=bytes) (hzs:z.cells.size=size) (hsz:0<size)
  (xa:Option Addr) (m c:Nat) (news:List Value) (hl:news.length=m*size) (hnews:∀ j u,news[j]?=some u->∃ ad,xa=some ad/\w.cell? (ad.add j)=some u) (h1:∀ u∈news,u.oneCell'=true)
  (hm:m<=9000000) (hbm:bytes<=1000) (hbase:base<=w.heap.size) :
  ∃ v' w',(Builtin.append_ #[t,t] ty #[.slice none 0 0,.slice xa m c]).run P w=.ok v' w'/\w'.ownsRow base e size v' m news/\w.grownBy w' none:=by
 have hby2:(0+m)*bytes<=140737488355328:=by
  rw[xe];exact Nat.le_trans (Nat.mul_le_mul hm hbm) (by omega)
 cases xa with
 |none =>
  have hn:news=[]:=by
   cases news with
   |nil=>rfl
   |cons a l=>obtain⟨ad,q,_⟩:=hnews 0 a rfl;cases q
  subst hn;have hm0:m=0:=by
   rcases Nat.eq_zero_or_pos m with q|q
   ·exact q
   ·have:=Nat.mul_pos q hsz;simp at hl;omega
  subst hm0;refine⟨.slice none 0 0,w,?_,xo w base e size,⟨rfl,rfl,rfl,xq _,fun _ _ _=>rfl⟩⟩;simp[Builtin.append_,run_underlying ht,sizeOf,typeInfo,hi,Builtin.lenOf,Builtin.firstCells,loadCells,loadCellsFrom]
 |some ad =>
  obtain⟨v',w',hr,h2,h3,_⟩:=run_append_own_at (P:=P) w base t ty e i z size bytes ht hi hz hsize hby hzs hsz (.slice none 0 0) 0 [] (xo _ _ _ _) ad m c news hl (fun j u hu=>by obtain⟨a,q,h⟩:=hnews j u hu;cases q;exact h) h1 (by unfold maxLen;omega) hby2 hbase;rw[xe,List.nil_append]at h2;exact⟨v',w',hr,h2,h3⟩
theorem zs0 {P:Program}{w:World}{o:Oper}{a:Act}{K:Act->World->Prop}{Q:Exit->Act->World->Prop}(s x:Operand)(t:TypeId)
  (ho:o.op=.call { callee:=.builtin .append,args:=#[s,x],argTypes:=#[t,t] })
  (base:Nat) (e:TypeId) (i:TypeInfo) (z:Value) (size bytes:Nat) (ht:P.underlying t=some (.slice e)) (hi:P.info? e=some i) (hz:i.zero=some z)
  (hsize:i.size=size) (hby:i.bytes=bytes) (hzs:z.cells.size=size) (hsz:0<size) (hs:a.eval s=.slice none 0 0)
  (xa:Option Addr) (m c:Nat) (news:List Value) (hx:a.eval x=.slice xa m c) (hl:news.length=m*size) (hnews:∀ j u,news[j]?=some u->∃ ad,xa=some ad/\w.cell? (ad.add j)=some u) (h1:∀ u∈news,u.oneCell'=true)
  (hm:m<=9000000) (hbm:bytes<=1000) (hbase:base<=w.heap.size)
  (h:∀ v' w',w'.ownsRow base e size v' m news->w.grownBy w' none->K (a.put o.dst v') w'):o.wp P a w K Q:=by
 obtain⟨v',w',hr,h2,h3⟩:=yabs (P:=P) w t o.type base e i z size bytes ht hi hz hsize hby hzs hsz xa m c news hl hnews h1 hm hbm hbase;unfold Oper.wp execOp;simp only[ho,resolve,invoke,builtin,Sem.run_bind,Sem.run_pure,Result.andThen_ok,List.map_toArray,List.map_cons,List.map_nil,hs,hx,hr];exact h v' w' h2 h3
theorem zsz {P:Program}{w:World}{ops:Array Oper}{rest:List Oper}{o:Oper}{a:Act}{Q:Exit->Act->World->Prop}(hgd:o.guard=none)(s x:Operand)(t:TypeId)
  (ho:o.op=.call { callee:=.builtin .append,args:=#[s,x],argTypes:=#[t,t] })
  (base:Nat) (e:TypeId) (i:TypeInfo) (z:Value) (size bytes:Nat) (ht:P.underlying t=some (.slice e)) (hi:P.info? e=some i) (hz:i.zero=some z)
  (hsize:i.size=size) (hby:i.bytes=bytes) (hzs:z.cells.size=size) (hsz:0<size) (hs:a.eval s=.slice none 0 0)
  (xa:Option Addr) (m c:Nat) (news:List Value) (hx:a.eval x=.slice xa m c) (hl:news.length=m*size) (hnews:∀ j u,news[j]?=some u->∃ ad,xa=some ad/\w.cell? (ad.add j)=some u) (h1:∀ u∈news,u.oneCell'=true)
  (hm:m<=9000000) (hbm:bytes<=1000) (hbase:base<=w.heap.size)
  (h:∀ v' w',w'.ownsRow base e size v' m news->w.grownBy w' none->wpList P ops Q rest (a.put o.dst v') w'):wpList P ops Q (o::rest) a w :=
 wpList_plain hgd fun _ hK=>zs0 s x t ho base e i z size bytes ht hi hz hsize hby hzs hsz hs xa m c news hx hl hnews h1 hm hbm hbase fun v' w' k1 k2=>hK _ _ (h v' w' k1 k2)
theorem yac0 {P:Program}{w:World}{ops:Array Oper}{o:Oper}{a:Act}{K:Act->World->Prop}{Q:Exit->Act->World->Prop}{E:Prop}(hgd:o.guard=none)(s x:Operand)(t:TypeId)
  (ho:o.op=.call { callee:=.builtin .append,args:=#[s,x],argTypes:=#[t,t] })
  (base:Nat) (e:TypeId) (i:TypeInfo) (z:Value) (size bytes:Nat) (ht:P.underlying t=some (.slice e)) (hi:P.info? e=some i) (hz:i.zero=some z)
  (hsize:i.size=size) (hby:i.bytes=bytes) (hzs:z.cells.size=size) (hsz:0<size) (hs:a.eval s=.slice none 0 0)
  (xa:Option Addr) (m c:Nat) (news:List Value) (hx:a.eval x=.slice xa m c) (hl:news.length=m*size) (hnews:∀ j u,news[j]?=some u->∃ ad,xa=some ad/\w.cell? (ad.add j)=some u) (h1:∀ u∈news,u.oneCell'=true)
  (hm:m<=9000000) (hbm:bytes<=1000) (hbase:base<=w.heap.size)
  (h:∀ v' w',w'.ownsRow base e size v' m news->w.grownBy w' none->K (a.put o.dst v') w'):if Region.wanted o (yielded ops a.tmps)=true then Oper.wp P o a w K Q else E:=by
 have hw:Region.wanted o (yielded ops a.tmps)=true:=by simp[Region.wanted,hgd]
 rw[if_pos hw];exact zs0 s x t ho base e i z size bytes ht hi hz hsize hby hzs hsz hs xa m c news hx hl hnews h1 hm hbm hbase h
end
section
open Go.RowKit
def RelT (w:World)(B:Nat)(v:Value)(rels:List (List PinD)):Prop:=∃ pv:List Value,w.ownsRow B 108 1 v rels.length pv/\∀ (i:Nat) (ps:List PinD) (u:Value),rels[i]?=some ps->pv[i]?=some u->w.ownsRow B 165 3 u ps.length (ps.flatMap pinF)
def svF (q:SvcD×Value):List Value:=[.int .i64 q.1.size,.int .i64 q.1.now,.int .i64 q.1.want,q.2]
structure TwF (W:World)(B:Nat)(vs:List SvcD)(rv:List Value):Prop where
 len:rv.length=vs.length
 rel:∀ (i:Nat) (v:SvcD) (u:Value),vs[i]?=some v->rv[i]?=some u->RelT W B u v.rels
def TwT (e:TypeId):Prop:=e=108\/e=165
theorem RelT.to {w W:World}{B:Nat}{v:Value}{rels:List (List PinD)}(h:RelT w B v rels)(hk:∀ (g:Nat) (cur:Array Value) (e:TypeId),B<=g->TwT e->w.heap[g]?=some (.cells cur e (0,0))->W.heap[g]?=w.heap[g]?):RelT W B v rels:=by
 obtain⟨pv,h1,h2⟩:=h;exact⟨pv,zc5 h1 fun g cur hg hc=>hk g cur _ hg (.inl rfl) hc,fun i ps u hi hu=>zc5 (h2 i ps u hi hu) fun g cur hg hc=>hk g cur _ hg (.inr rfl) hc⟩
theorem RelT.mono {w:World}{B B':Nat}{v:Value}{rels:List (List PinD)}(h:RelT w B v rels)(hB:B'<=B):RelT w B' v rels:=by
 obtain⟨pv,h1,h2⟩:=h;exact⟨pv,h1.mono hB,fun i ps u hi hu=>(h2 i ps u hi hu).mono hB⟩
theorem TwF.to {w W:World}{B:Nat}{vs:List SvcD}{rv:List Value}(h:TwF w B vs rv)(hk:∀ (g:Nat) (cur:Array Value) (e:TypeId),B<=g->TwT e->w.heap[g]?=some (.cells cur e (0,0))->W.heap[g]?=w.heap[g]?):TwF W B vs rv :=
 ⟨h.len,fun i v u hv hu=>(h.rel i v u hv hu).to hk⟩
theorem zdq {W:World}{B k n:Nat}{e:TypeId}{v:Value}{xs:List Value}(h:W.ownsRow B e k v n xs):∃ a c,v=.slice a n c/\n<=c/\c<=9223372036854775807:=by
 rcases h.2 with⟨rfl,rfl⟩|⟨g,cap,cur,rfl,_,_,h1,h2,_⟩
 ·exact⟨none,0,rfl,xq _,by omega⟩
 ·exact⟨_,cap,rfl,h1,by unfold maxLen at h2;omega⟩
theorem yaaa {W:World}{B:Nat}{u:Value}{ps:List PinD}(h:W.ownsRow B 165 3 u ps.length (ps.flatMap pinF))(hl:ps.length<=2000000):∃ pa pc,u=.slice pa ps.length pc/\PinSl W pa ps.length pc ps:=by
 obtain⟨pa,pc,e,h1,h2⟩:=zbb h (by omega);obtain⟨pa',pc',e',h1',h3⟩:=zdq h;rw[e]at e';cases e';refine⟨pa,pc,e,rfl,hl,h1,h3,fun i p hi=>?_⟩;have d:=fun (z:Nat) (hz:z<3)=>za2 (f:=pinF) (k:=3) (fun _=>rfl) hi (j:=z) hz;obtain⟨b0,f0,g0,k0⟩:=h2 _ _ (d 0 (by omega));obtain⟨b1,f1,g1,k1⟩:=h2 _ _ (d 1 (by omega));obtain⟨b2,f2,g2,k2⟩:=h2 _ _ (d 2 (by omega));rw[f0]at f1 f2;cases f1;cases f2;exact⟨b0,0,f0,by rw[xe];exact k0,by rw[xe];exact k1,by rw[xe];exact k2⟩
theorem yabh {W:World}{B:Nat}{v:Value}{rels:List (List PinD)}(h:RelT W B v rels)(hl:rels.length<=2000000)(hp:∀ ps∈rels,ps.length<=2000000):∃ ra rc,v=.slice ra rels.length rc/\RelSl PinSl W ra rels.length rc rels:=by
 obtain⟨pv,h1,h2⟩:=h;obtain⟨ra,rc,e,c1,c2⟩:=zbb h1 (by omega);obtain⟨ra',rc',e',_,c3⟩:=zdq h1;rw[e]at e';cases e';refine⟨ra,rc,e,rfl,hl,c1,c3,fun i ps hi=>?_⟩;have hil:=(xg.1 hi).1;have hpl:pv.length=rels.length:=by have:=h1.1;omega
 obtain⟨u,hu⟩:∃ u,pv[i]?=some u:=⟨pv[i]'(by omega),xh _⟩;obtain⟨b,q1,q2,q3⟩:=c2 i u hu;obtain⟨pa,pc,rfl,hps⟩:=yaaa (h2 i ps u hi hu) (hp ps (xj hi));exact⟨b,0,pa,ps.length,pc,q1,by rw[xe];exact q3,hps⟩
theorem zxb {w W:World}{B:Nat}{f:zac}{sa ta va:Option Addr}{sl sc tl tc vl vc:Nat}(hf:FleetAt w sa sl sc ta tl tc va vl vc f){gs gt gv:Value}{rv:List Value}(h1:W.ownsRow B 9 1 gs f.ss.length (f.ss.map Value.string))(h2:W.ownsRow B 104 1 gt f.ts.length (f.ts.map fun k=>.int .i64 k))(h3:W.ownsRow B 73 4 gv f.vs.length ((f.vs.zip rv).flatMap svF))(h4:TwF W B f.vs rv):∃ sa' sc' ta' tc' va' vc',gs=.slice sa' f.ss.length sc'/\gt=.slice ta' f.ts.length tc'/\gv=.slice va' f.vs.length vc'/\FleetAt W sa' f.ss.length sc' ta' f.ts.length tc' va' f.vs.length vc' f:=by
 obtain⟨sa',sc',e1,_,c1⟩:=zbb h1 (by omega);obtain⟨ta',tc',e2,_,c2⟩:=zbb h2 (by omega);obtain⟨va',vc',e3,_,c3⟩:=zbb h3 (by omega);refine⟨sa',sc',ta',tc',va',vc',e1,e2,e3,rfl,hf.s2,hf.s3,fun i s hi=>?_,rfl,hf.t2,fun i k hi=>?_,rfl,hf.v2,fun i v hi=>?_⟩
 ·obtain⟨b,q1,q2,q3⟩:=c1 i (.string s) (by rw[xf,hi];rfl);exact⟨b,0,q1,by rw[xe];exact q3⟩
 ·obtain⟨b,q1,q2,q3⟩:=c2 i (.int .i64 k) (by rw[xf,hi];rfl);exact⟨b,0,q1,by rw[xe];exact q3⟩
 ·have hil:=(xg.1 hi).1;obtain⟨u,hu⟩:∃ u,rv[i]?=some u:=⟨rv[i]'(by rw[h4.len];exact hil),xh _⟩;have hz:(f.vs.zip rv)[i]?=some (v,u):=by rw[List.getElem?_zip_eq_some];exact⟨hi,hu⟩
  have d:=fun (z:Nat) (hz':z<4)=>za2 (f:=svF) (k:=4) (fun _=>rfl) hz (j:=z) hz';obtain⟨b0,f0,g0,k0⟩:=c3 _ _ (d 0 (by omega));obtain⟨b1,f1,g1,k1⟩:=c3 _ _ (d 1 (by omega));obtain⟨b2,f2,g2,k2⟩:=c3 _ _ (d 2 (by omega));obtain⟨b3,f3,g3,k3⟩:=c3 _ _ (d 3 (by omega));rw[f0]at f1 f2 f3;cases f1;cases f2;cases f3;obtain⟨bo,oo,ra,rl,rc,_,_,_,_,_,hr⟩:=hf.v3 i v hi;obtain⟨ra',rc',rfl,hR⟩:=yabh (h4.rel i v u hi hu) hr.2.1 (fun ps hps=>by
   obtain⟨j,hj⟩:=List.getElem?_of_mem hps;obtain⟨_,_,_,_,_,_,_,hp⟩:=hr.2.2.2.2 j ps hj;exact hp.2.1)
  exact⟨b0,0,ra',v.rels.length,rc',f0,by rw[xe];exact k0,by rw[xe];exact k1,by rw[xe];exact k2,by rw[xe];exact k3,hR⟩
end
section
open Go.RowKit
theorem zi5 {P:Program}{ops:Array Oper}{rest:List Oper}{op:Oper}{a:Act}{w:World}{Q:Exit->Act->World->Prop}(hgd:op.guard=none)(ty:TypeId)(x y:Operand)(ho:op.op=.store ty x y)
  (b o:Nat) (v:Value) (t:TypeId) (cs:List Value) (hx:a.eval x=.pointer (some ⟨b,o,none⟩)) (hy:a.eval y=v) (hr:RowIs w b t cs) (hl:o<cs.length) (hi:(P.info? ty).map (·.size)=some 1) (h1:v.oneCell'=true)
  (h:∀ W,RowIs W b t (cs.set o v)->Chg (·= b) w W->wpList P ops Q rest (a.put op.dst undef) W):wpList P ops Q (op::rest) a w:=by
 have hc:v.cells=#[v]:=by cases v<;>first|rfl|cases h1
 have ht:(w.cell? ⟨b,o,none⟩).isSome=true/\w.frozen? ⟨b,o,none⟩=false:=⟨by rw[hr.cell (xh hl)];rfl,hr.frozen o⟩;have hs:=run_storeCells_cells (P:=P) b o [v] 0 w (fun j hj=>by have:j=0:=(by simpa using hj);subst this;simpa using ht.1) (fun j hj=>by have:j=0:=(by simpa using hj);subst this;simpa using ht.2) (fun u hu=>by simp at hu;subst hu;exact h1);have hr2:(storeVar ty ⟨b,o,none⟩ v).run P w=.ok () (w.setCell ⟨b,o,none⟩ v):=by
  cases hq:P.info? ty with
  |none=>simp[hq]at hi
  |some i =>
   have hs1:i.size=1:=by simpa[hq]using hi
   simp only[Nat.add_zero]at hs;simp only[World.setCells]at hs;simp[storeVar,sizeOf,typeInfo,hq,hc,hs1,hs]
 refine wpList_plain hgd fun K hK=>?_;unfold Oper.wp execOp;simp only[ho,hx,hy,Instr.storeAt,Instr.sureAddr,Sem.run_bind,Sem.run_pure,Result.andThen_ok,hr2];exact hK _ _ (h _ (hr.set o v) ((Chg.refl (·= b) w).set (p:=⟨b,o,none⟩) (.inl rfl) v))
theorem Tryz.infoFlt3:(Tryz.prog.info? 26).map (·.size)=some 3:=by kernel_rfl
theorem one3 {a b c:Option Addr}{l m n x y z:Nat}:∀ v∈([.slice a l x,.slice b m y,.slice c n z]:List Value),v.oneCell'=true:=fun v hv=>by
 simp only[List.mem_cons,List.not_mem_nil,or_false]at hv;rcases hv with rfl|rfl|rfl<;>rfl
theorem yac2 {W:World}{g:Nat}{t:TypeId}{ss:List ByteArray}(h:RowIs W g t (ss.map Value.string)):StrsAt W (some ⟨g,0,none⟩) ss:=fun i s hi=>⟨g,0,rfl,by rw[xe];exact h.cell (by rw[xf,hi];rfl)⟩
theorem zez {W:World}{g:Nat}{t:TypeId}{ms:List (Int×Int)}(h:RowIs W g t (ms.flatMap fun m=>[.int .i64 m.1,.int .i64 m.2])):MvsAt W (some ⟨g,0,none⟩) ms:=fun i m hi=>by
 have d:=fun (z:Nat) (hz:z<2)=>za2 (f:=fun m:Int×Int=>[.int .i64 m.1,.int .i64 m.2]) (k:=2) (fun _=>rfl) hi (j:=z) hz;exact⟨g,0,rfl,by rw[xe];exact h.cell (d 0 (by omega)),by rw[xe];exact h.cell (d 1 (by omega))⟩
theorem zds {W:World}{g:Nat}{t:TypeId}{L:List (Nat×PinD)}(h:RowIs W g t (L.map fun q=>.slice (some ⟨q.1,0,none⟩) 1 1))(hp:∀ q∈L,RowIs W q.1 165 (pinF q.2))(hl:L.length<=3){c:Nat}(hc:L.length<=c)(hc2:c<=9000000):RelSl PinSl W (some ⟨g,0,none⟩) L.length c (L.map fun q=>[q.2]):=by
 refine⟨by rw[xp],by rw[xp];omega,hc,by omega,fun i ps hi=>?_⟩;rw[xf]at hi;obtain⟨q,hq,rfl⟩:=xm.1 hi;refine⟨g,0,some ⟨q.1,0,none⟩,1,1,rfl,by rw[xe];exact h.cell (by rw[xf,hq];rfl),rfl,by simp,by omega,by omega,fun j p hj=>?_⟩;have hj0:j=0:=by have:=(xg.1 hj).1;simpa using this
 subst hj0;simp at hj;subst hj;have r:=hp q (xj hq);exact⟨q.1,0,rfl,r.cell (j:=0) rfl,r.cell (j:=1) rfl,r.cell (j:=2) rfl⟩
theorem yac7 {W:World}{g:Nat}{t:TypeId}{L:List (SvcD×Nat×Nat)}(h:RowIs W g t (L.flatMap fun q=>[.int .i64 q.1.size,.int .i64 q.1.now,.int .i64 q.1.want,.slice (some ⟨q.2.1,0,none⟩) q.1.rels.length q.2.2]))(hr:∀ q∈L,RelSl PinSl W (some ⟨q.2.1,0,none⟩) q.1.rels.length q.2.2 q.1.rels):SvcsAt (RelSl PinSl) W (some ⟨g,0,none⟩) (L.map Prod.fst):=fun i v hi=>by
 rw[xf]at hi;obtain⟨q,hq,rfl⟩:=xm.1 hi;have d:=fun (z:Nat) (hz:z<4)=>za2 (f:=fun q:SvcD×Nat×Nat=>[.int .i64 q.1.size,.int .i64 q.1.now,.int .i64 q.1.want,.slice (some ⟨q.2.1,0,none⟩) q.1.rels.length q.2.2]) (k:=4) (fun _=>rfl) hq (j:=z) hz;exact⟨g,0,_,_,_,rfl,by rw[xe];exact h.cell (d 0 (by omega)),by rw[xe];exact h.cell (d 1 (by omega)),by rw[xe];exact h.cell (d 2 (by omega)),by rw[xe];exact h.cell (d 3 (by omega)),hr q (xj hq)⟩
end
end Go.Proofs.YtkkekopomiehlabGreatDoor
