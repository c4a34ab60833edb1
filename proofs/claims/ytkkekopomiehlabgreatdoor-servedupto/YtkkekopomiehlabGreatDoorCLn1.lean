import Derived.Test.YtkkekopomiehlabGreatDoorCLz
import Derived.Laws.CopyOwn
import Derived.Laws.CopyRow
import Derived.Laws.MakeOwn
import Derived.Laws.OwnMore
import Derived.Lib.SlBuf
import Derived.Deep.MidRow
import Derived.Laws.PanicsMore
set_option linter.unusedVariables false
set_option linter.unusedSimpArgs false
set_option maxHeartbeats 40000000
open List renaming getElem?_append_left->xe,range->xf,getElem?_eq_getElem->xh,flatMap_cons->xo
open Nat renaming lt_of_lt_of_le->xg,le_trans->xm,zero_add->xp,lt_or_ge->xq,le_refl->xu
open Array renaming getElem?_eq_none->xj
set_option maxRecDepth 4000
namespace Go.Proofs.YtkkekopomiehlabGreatDoor
section
open Go.RowKit Go.Lib
theorem zaa {p:Prop}(h:p):Hid p:=h
def RowIs (w:World)(g:Nat)(t:TypeId)(cs:List Value):Prop:=w.heap[g]?=some (.cells cs.toArray t (0,0))
theorem Tryz.infoStrL:(Tryz.prog.info? 9).map (fun i=>(i.zero,i.size,i.bytes))=some (some (.string ⟨#[]⟩),1,16):=by kernel_rfl
theorem RowIs.cell {w:World}{g:Nat}{t:TypeId}{cs:List Value}(h:RowIs w g t cs){j:Nat}{v:Value}(hj:cs[j]?=some v):w.cell? ⟨g,j,none⟩=some v:=by
 rw[cell_of_row w g j cs.toArray t (0,0) h];simpa using hj
theorem RowIs.frozen {w:World}{g:Nat}{t:TypeId}{cs:List Value}(h:RowIs w g t cs)(j:Nat):w.frozen? ⟨g,j,none⟩=false:=frozen_of_row w g j cs.toArray t h
theorem RowIs.keep {w w':World}{g:Nat}{t:TypeId}{cs:List Value}(h:RowIs w g t cs)(hb:Below w.heap.size w w'):RowIs w' g t cs:=by
 have hg:g<w.heap.size:=by
  unfold RowIs at h;rcases xq g w.heap.size with hg|hg
  ·exact hg
  ·rw[xj (by omega)]at h;cases h
 unfold RowIs;rw[<- h];exact hb.block g hg
theorem RowIs.lt {w:World}{g:Nat}{t:TypeId}{cs:List Value}(h:RowIs w g t cs):g<w.heap.size:=by
 unfold RowIs at h;rcases xq g w.heap.size with hg|hg
 ·exact hg
 ·rw[xj (by omega)]at h;cases h
theorem RowIs.set {w:World}{g:Nat}{t:TypeId}{cs:List Value}(h:RowIs w g t cs)(j:Nat)(u:Value):RowIs (w.setCell ⟨g,j,none⟩ u) g t (cs.set j u):=by
 have:=heap_setCell_same w g j cs.toArray t u h;unfold RowIs;rw[this];simp
end
section
open Go.RowKit Go.Lib
end
section
open Go.RowKit
theorem RowIs.setOther {w:World}{g:Nat}{t:TypeId}{cs:List Value}(h:RowIs w g t cs){p:Addr}(hp:p.block≠g)(u:Value):RowIs (w.setCell p u) g t cs:=by
 unfold RowIs at h ⊢;rw[<- h];exact heap_setCell_other w p g u hp.symm
end
section
open Go.RowKit
theorem set4 {C r:List Value}{x0 x1 x2 x3 a b c d:Value}:((((C++x0::x1::x2::x3::r).set C.length a).set (C.length+1) b).set (C.length+2) c).set (C.length+3) d=(C++[a,b,c,d])++r:=by simp[List.set_append]
end
section
open Go.RowKit
end
section
open Go.RowKit
end
section
open Go.RowKit Go.Lib
theorem Tryz.infoMvL:(Tryz.prog.info? 62).map (fun i=>(i.zero,i.size,i.bytes))=some (some (.agg #[.int .i64 0,.int .i64 0]),2,16):=by kernel_rfl
def MvsAt (w:World)(a:Option Addr)(ms:List (Int×Int)):Prop:=∀ i m,ms[i]?=some m->∃ b o,a=some ⟨b,o,none⟩/\w.cell? ⟨b,o+i*2,none⟩=some (.int .i64 m.1)/\w.cell? ⟨b,o+i*2+1,none⟩=some (.int .i64 m.2)
def mvC (ms:List (Int×Int)):List Value:=ms.flatMap fun m=>[.int .i64 m.1,.int .i64 m.2]
theorem zo7:∀ ms:List (Int×Int),(mvC ms).length=ms.length*2
 |[]=>rfl
 |p::ms=>by rw[mvC,xo,List.length_append];have:=zo7 ms;rw[mvC]at this;rw[this,List.length_cons];simp;omega
theorem zkj:∀ (ms:List (Int×Int)) (j:Nat),(mvC ms)[j]?=match ms[j / 2]? with|some m=>some (if j % 2=0 then .int .i64 m.1 else .int .i64 m.2)|none=>none
 |[],j=>by simp[mvC]
 |p::ms,j=>by
  rw[mvC,xo];by_cases h:j<2
  ·rw[xe (by simpa using h),show j / 2=0 by omega];obtain rfl|rfl:j=0\/j=1:=by omega
   all_goals rfl
  ·have:=zkj ms (j-2);rw[mvC]at this;rw[List.getElem?_append_right (by simp;omega),show j - [Value.int .i64 p.1,.int .i64 p.2].length=j-2 from rfl,this,show j / 2=(j-2) / 2+1 by omega,List.getElem?_cons_succ,show (j-2) % 2=j % 2 by omega]
theorem zxn {ms:List (Int×Int)}{i:Nat}{m:Int×Int}(h:ms[i]?=some m)(r:List Value):(mvC ms++r)[i*2]?=some (.int .i64 m.1)/\(mvC ms++r)[i*2+1]?=some (.int .i64 m.2):=by
 have hl:=(List.getElem?_eq_some_iff.1 h).1;have hc:=zo7 ms;refine⟨?_,?_⟩
 ·rw[xe (by omega),zkj,show i*2 / 2=i by omega,h];simp
 ·rw[xe (by omega),zkj,show (i*2+1) / 2=i by omega,h,show (i*2+1) % 2=1 by omega];simp
end
section
open Go.RowKit
def hasI (now:Int)(ms:List (Int×Int))(s:Int):Nat->Int
 |0=>now
 |j+1=>if (ms.getD j (-1,0)).1=s then (ms.getD j (-1,0)).2 else hasI now ms s j
theorem MvsAt.keep {w w':World}(hb:Below w.heap.size w w'){a:Option Addr}{ms:List (Int×Int)}(h:MvsAt w a ms):MvsAt w' a ms:=fun i m hi=>by
 obtain⟨b,o,h1,h2,h3⟩:=h i m hi;exact⟨b,o,h1,zab hb h2,zab hb h3⟩
end
section
open Go.RowKit
theorem RowIs.ne {w:World}{b b':Nat}{t t':TypeId}{cs cs':List Value}(h:RowIs w b t cs)(h':RowIs w b' t' cs')(ht:t≠t'):b≠b':=fun e=>by
 subst e;unfold RowIs at h h';rw[h]at h';simp at h';exact ht h'.2
theorem zyg {w:World}{base size n b:Nat}{e t:TypeId}{v:Value}{xs cs:List Value}(h:w.ownsRow base e size v n xs)(h':RowIs w b t cs)(ht:t≠e):v.ownBlock≠some b:=fun hv=>by
 obtain⟨hl,h|⟨g',cap',cur,hv',hb,hh,hc,hm,hs,ht'⟩⟩:=h
 ·obtain⟨h,_⟩:=h;rw[h]at hv;cases hv
 ·rw[hv']at hv;have hg:g'=b:=by simpa[Value.ownBlock]using hv
  subst hg;unfold RowIs at h';rw[h']at hh;simp at hh;exact ht hh.2
theorem RowIs.grown {w w':World}{b:Nat}{t:TypeId}{cs:List Value}{row:Option Nat}(h:RowIs w b t cs)(hg:w.grownBy w' row)(hne:row≠some b):RowIs w' b t cs:=by
 have hlt:=h.lt;unfold RowIs at h ⊢;rw[hg.block b hlt (fun e=>hne e.symm)];exact h
end
section
open Go.RowKit
structure Chg (S:Nat->Prop)(w w':World):Prop where
 os:w'.os=w.os
 tape:w'.tape=w.tape
 output:w'.output=w.output
 size:w.heap.size<=w'.heap.size
 block:∀ k,k<w.heap.size->¬ S k->w'.heap[k]?=w.heap[k]?
theorem Chg.refl (S:Nat->Prop)(w:World):Chg S w w:=⟨rfl,rfl,rfl,xu _,fun _ _ _=>rfl⟩
theorem Chg.trans {S:Nat->Prop}{a b c:World}(h:Chg S a b)(k:Chg S b c):Chg S a c :=
 ⟨k.os.trans h.os,k.tape.trans h.tape,k.output.trans h.output,xm h.size k.size,fun i hi hs=>(k.block i (xg hi h.size) hs).trans (h.block i hi hs)⟩
theorem Chg.mono {S T:Nat->Prop}{w w':World}(h:Chg S w w')(hS:∀ k,S k->T k):Chg T w w':=⟨h.os,h.tape,h.output,h.size,fun k hk ht=>h.block k hk fun hs=>ht (hS k hs)⟩
theorem Chg.of {S:Nat->Prop}{w w':World}(h:Below w.heap.size w w'):Chg S w w':=⟨h.os,h.tape,h.output,h.size,fun k hk _=>h.block k hk⟩
theorem Chg.bel {S:Nat->Prop}{w w':World}{B:Nat}(h:Chg S w w')(hB:B<=w.heap.size)(hS:∀ k,k<B->¬ S k):Below B w w':=⟨h.os,h.tape,h.output,h.size,fun k hk=>h.block k (xg hk hB) (hS k hk)⟩
theorem Chg.set {S:Nat->Prop}{a w:World}(h:Chg S a w){p:Addr}(hp:S p.block\/a.heap.size<=p.block)(u:Value):Chg S a (w.setCell p u) :=
 ⟨h.os,h.tape,h.output,xm h.size (by simp[World.setCell]),fun k hk hs=>(Below.heap_setCell _ _ _ _ (fun e=>by rcases hp with q|q;exact hs (e ▸ q);omega)).trans (h.block k hk hs)⟩
theorem Chg.alloc {S:Nat->Prop}{a w:World}(h:Chg S a w)(o:Obj):Chg S a (w.alloc o):=h.trans (Chg.of (bel1 _ _))
theorem Chg.grown {S:Nat->Prop}{a w w':World}{row:Option Nat}(h:Chg S a w)(hg:w.grownBy w' row)(hr:∀ k,row=some k->S k\/a.heap.size<=k):Chg S a w' :=
 ⟨hg.os.trans h.os,hg.tape.trans h.tape,hg.output.trans h.output,xm h.size hg.size,fun k hk hs=>(hg.block k (xg hk h.size) (fun e=>by rcases hr k e.symm with q|q;exact hs q;omega)).trans (h.block k hk hs)⟩
theorem Chg.row {S:Nat->Prop}{w w':World}(h:Chg S w w'){g:Nat}{t:TypeId}{cs:List Value}(hr:RowIs w g t cs)(hg:¬ S g):RowIs w' g t cs:=by
 have:=h.block g hr.lt hg;unfold RowIs at hr ⊢;rw[this];exact hr
theorem Chg.cell {S:Nat->Prop}{w w':World}(h:Chg S w w'){b o:Nat}{v:Value}(hb:¬ S b)(hc:w.cell? ⟨b,o,none⟩=some v):w'.cell? ⟨b,o,none⟩=some v:=by
 rw[World.cell?_of_block (w:=w) (a:=⟨b,o,none⟩) (h.block b (zag hc) hb)];exact hc
structure MsgD where
 k:Int
 n:Int
 s:Int
 i:Int
 r:Int
structure TskD where
 s:Int
 z:Int
 b:Int
 r:Int
structure CtlD where
 ts:List TskD
 rest:Int
 st:Int
 pos:Int
 wk:Bool
 pa:Bool
 un:Int
 nu:Int
 ba:Int
 a0:Bool
 a1:Bool
 a2:Bool
def zbx (c:CtlD):CtlD:=if c.st=1/\(c.ts.length:Int)<=c.pos then { c with st:=3 } else c
def zcz (c:CtlD):CtlD:=if c.st=2/\c.pos<=0 then { c with st:=4 } else c
def zau (c:CtlD):CtlD:=zcz (zbx c)
def zar (c:CtlD):Bool:=decide (c.st=3\/c.st=4)
def begC (c:CtlD):CtlD:={ c with wk:=true,ba:=c.nu,a0:=false,a1:=false,a2:=false }
def numC (c:CtlD):Int:=if c.st=2 then c.pos-1 else c.pos
def tsk0:TskD:=⟨0,0,0,0⟩
def curT (c:CtlD):TskD:=if numB (numC c) c.ts.length then (if c.st=2 then { c.ts.getD (numC c).toNat tsk0 with r:=(c.ts.getD (numC c).toNat tsk0).b } else c.ts.getD (numC c).toNat tsk0) else tsk0
def frst (a0 a1 a2:Bool)(z:Int):Int:=if 0<z/\a0=false then 0 else if 1<z/\a1=false then 1 else if 2<z/\a2=false then 2 else z
def msg0:MsgD:=⟨0,0,0,0,0⟩
def cmdB (c:CtlD):Bool:=decide (frst c.a0 c.a1 c.a2 (curT c).z<(curT c).z)
def cmdC (c:CtlD):CtlD:=if cmdB c then { c with nu:=c.nu+1 } else c
def cmdM (c:CtlD):MsgD:=if cmdB c then ⟨1,c.nu+1,(curT c).s,frst c.a0 c.a1 c.a2 (curT c).z,(curT c).r⟩ else msg0
def actA (c:CtlD)(time:Int):CtlD:=if c.wk=false/\c.un<=time then begC c else c
def actB (c:CtlD)(time:Int):Bool:=!(c.pa||zar c)&&(actA c time).wk&&cmdB (actA c time)
def actC (c:CtlD)(time:Int):CtlD:=if c.pa||zar c then c else if (actA c time).wk then cmdC (actA c time) else actA c time
def actM (c:CtlD)(time:Int):MsgD:=if c.pa||zar c then msg0 else if (actA c time).wk then cmdM (actA c time) else msg0
def finC (c:CtlD)(time:Int):CtlD:=zau { c with wk:=false,pos:=(if c.st=2 then c.pos-1 else c.pos+1),un:=time+c.rest }
def ansC (c:CtlD)(i:Int):CtlD:={ c with a0:=c.a0||decide (i=0),a1:=c.a1||decide (i=1),a2:=c.a2||decide (i=2) }
def earB (c:CtlD)(m:MsgD):Bool:=c.wk&&decide (c.ba<m.n)&&numB m.i 3
def zbg (c:CtlD)(m:MsgD)(time:Int):CtlD:=if earB c m then (if frst (ansC c m.i).a0 (ansC c m.i).a1 (ansC c m.i).a2 (curT (ansC c m.i)).z=(curT (ansC c m.i)).z then finC (ansC c m.i) time else ansC c m.i) else c
def zc8 (c:CtlD):CtlD:=zau (if c.wk then begC { c with st:=2,pos:=c.pos+1 } else { c with st:=2 })
def crsC (c:CtlD)(time:Int):CtlD:=if zar c then c else if c.wk then begC c else { c with un:=time+c.rest }
def RunC (ti:Int)(ta:Value)(c:CtlD)(m v t s:Value):List Value:=[.int .i64 ti,ta,.int .i64 c.rest,.int .i64 c.st,.int .i64 c.pos,.bool c.wk,.bool c.pa,.int .i64 c.un,.int .i64 c.nu,.int .i64 c.ba,.bool c.a0,.bool c.a1,.bool c.a2,m,v,t,s]
def TsksAt (w:World)(g:Nat)(ts:List TskD):Prop:=∀ i t,ts[i]?=some t->w.cell? ⟨g,i*4,none⟩=some (.int .i64 t.s)/\w.cell? ⟨g,i*4+1,none⟩=some (.int .i64 t.z)/\w.cell? ⟨g,i*4+2,none⟩=some (.int .i64 t.b)/\w.cell? ⟨g,i*4+3,none⟩=some (.int .i64 t.r)
theorem TsksAt.chg {S:Nat->Prop}{w w':World}(h:Chg S w w'){g:Nat}{ts:List TskD}(ht:TsksAt w g ts)(hg:¬ S g):TsksAt w' g ts:=fun i t hi=>by
 obtain⟨a,b,c,d⟩:=ht i t hi;exact⟨h.cell hg a,h.cell hg b,h.cell hg c,h.cell hg d⟩
end
section
open Go.RowKit
theorem Tryz.infoSet:(Tryz.prog.info? 111).map (·.size)=some 9:=by kernel_rfl
theorem zgt {P:Program}{w:World}(t e:TypeId)(d:TypeDesc)(n:Nat)(cs:Array Value)(k:IntKind)(i:Nat)(h:P.underlying t=some (.array n e))(hs:(P.info? e).map (·.size)=some 1)(he:P.underlying e=some d)(hd:∀ fs,d≠.struct fs)(hd2:∀ m u,d≠.array m u)(hin:i<n)(v:Value)(hv:cs[i]?=some v) :
  (Instr.index t (.agg cs) (.int k i)).run P w=.ok v w:=by
 have hn:(0<=(i:Int)/\(i:Int)<(n:Int)):=by omega
 cases hq:P.info? e with
 |none=>simp[hq]at hs
 |some ii =>
  have hi:ii.size=1:=by simpa[hq]using hs
  have hag:(isAgg e).run P w=.ok false w:=by
   unfold isAgg;rw[Sem.run_bind,run_underlying he w];cases d<;>simp_all
  simp[Instr.index,run_underlying h,asIntOf,hn,go_sem,sizeOf,typeInfo,hq,hi,hin,hag,hv]
theorem Tryz.infoBool:(Tryz.prog.info? 4).map (·.size)=some 1:=by kernel_rfl
theorem zak (w:World)(o:Obj):(w.alloc o).heap[w.heap.size]?=some o:=by show (w.heap.push o)[w.heap.size]?=some o;simp
theorem zbl {w:World}{b:Nat}{t:TypeId}{cs:List Value}(h:w.heap[b]?=some (.cells cs.toArray t (0,0))):w.rangeAt b 0 cs:=fun j v hj=>by
 rw[xp];simp only[World.cell?,h];simpa using hj
theorem zaf {w w':World}(hb:Below w.heap.size w w'){b o:Nat}{cs:List Value}(h:w.rangeAt b o cs):w'.rangeAt b o cs:=fun j v hj=>by
 have h1:=h j v hj;rw[hb.cell (p:=⟨b,o+j,none⟩) (World.block_lt_of_cell? w ⟨b,o+j,none⟩ h1)];exact h1
theorem belS (w:World)(o:Obj):Below w.heap.size w (w.alloc o):=(Below.refl _ _).alloc (xu _) _
def algB (xs ys:List Bool):Bool:=(xf 9).all fun i=>!(xs.getD i false)||ys.getD i false
theorem zml (F:Nat->Bool)(x:Nat):(xf (x+1)).all F=((xf x).all F&&F x):=by rw[List.range_succ,List.all_append];simp
theorem zjd {F:Nat->Bool}{x n:Nat}(hx:x<n)(h:F x=false):(xf n).all F=false:=by
 cases hc:(xf n).all F with
 |false=>rfl
 |true=>rw[List.all_eq_true]at hc;rw[hc x (List.mem_range.2 hx)]at h;cases h
theorem zjc (xs ys:List Bool)(hx:xs.length=9)(hy:ys.length=9)(w:World) :
  Calls Tryz.prog 110 #[.agg (xs.map Value.bool).toArray,.agg (ys.map Value.bool).toArray] w fun e W=>e=.returned (.bool (algB xs ys))/\Below w.heap.size w W:=by
 have hr:=zaf (belS _ (.cells (ys.map Value.bool).toArray 111)) (zbl (zak w (.cells (xs.map Value.bool).toArray 111)));have hq:=zbl (zak (w.alloc (.cells (xs.map Value.bool).toArray 111)) (.cells (ys.map Value.bool).toArray 111));rw[show (w.alloc (.cells (xs.map Value.bool).toArray 111)).heap.size=w.heap.size+1 by simp]at hq;have hi:(Tryz.prog.info? 111).map (·.size)=some (xs.map Value.bool).length:=by rw[List.length_map,hx];exact Tryz.infoSet
 have hB:=(belS w (.cells (xs.map Value.bool).toArray 111)).alloc (by simp) (.cells (ys.map Value.bool).toArray 111);obtain⟨R,hR⟩:∃ R,R=algB xs ys:=⟨_,rfl⟩;rw[<- hR];have HR:Hid (R=(xf 9).all fun i=>!(xs.getD i false)||ys.getD i false):=hR;have HX:Hid (xs.length=9):=hx;have HY:Hid (ys.length=9):=hy;clear hR hx hy
 go_enter Tryz.func110,Tryz.ntmps110
 go_wp2_with (refine wpList_load_mid (w:=(w.alloc (.cells (xs.map Value.bool).toArray 111)).alloc (.cells (ys.map Value.bool).toArray 111)) rfl 111 _ rfl _ _ rfl (xs.map Value.bool) _ hr Tryz.underlying111 rfl hi ?_)
 go_loopw [8] (fun vi wr=>∃ i:Nat,i<=9/\vi=.int .i64 i/\Hid ((xf i).all (fun i=>!(xs.getD i false)||ys.getD i false)=true)/\wr=(w.alloc (.cells (xs.map Value.bool).toArray 111)).alloc (.cells (ys.map Value.bool).toArray 111)) (fun i _=>9-(intOf i).toNat)
 case atStart=>exact⟨0,by omega,rfl,(by show _=_;rfl),rfl⟩
 case round =>
  obtain⟨i,hi9,rfl,hn,rfl⟩:=hrel;by_cases hlt:i<9
  ·obtain⟨x,hxi⟩:∃ x,xs[i]?=some x:=⟨xs[i]'(by rw[HX.out];omega),xh (by rw[HX.out];omega)⟩;obtain⟨y,hyi⟩:∃ y,ys[i]?=some y:=⟨ys[i]'(by rw[HY.out];omega),xh (by rw[HY.out];omega)⟩;have hc:=hq i (.bool y) (by rw[List.getElem?_map,hyi];rfl);rw[xp]at hc;have hx0 := znn i;have hx1:(i:Int)<9:=by omega
   have hidx:=fun W=>zgt (P:=Tryz.prog) (w:=W) 111 4 .bool 9 (xs.map Value.bool).toArray .i64 i Tryz.underlying111 Tryz.infoBool Tryz.underlying4 (fun _ h=>by cases h) (fun _ _ h=>by cases h) hlt (.bool x) (by simp[hxi]);have hFx:(!(xs.getD i false)||ys.getD i false)=(!x||y):=by simp[List.getD,hxi,hyi]
   have hno:(!x||y)=false->R=false:=fun h=>by rw[HR.out];exact zjd hlt (by rw[hFx];exact h)
   have hyes:(!x||y)=true->Hid ((xf (i+1)).all (fun i=>!(xs.getD i false)||ys.getD i false)=true):=fun h=>by show _=_;rw[zml,hn.out,hFx,h];rfl
   clear hFx hn hxi hyi hq HR;cases x with
   |true =>
    cases y with
    |true =>
     have hy':=hyes rfl;clear hno hyes
     go_wp2_with fail
     go_roundw
     case rel=>exact⟨i+1,by omega,by go_num,hy',trivial⟩
     case measure=>simp[intOf];omega
    |false =>
     have hR1:=hno rfl;clear hno hyes;subst hR1
     go_wp2_with fail
     go_ret;exact⟨rfl,hB⟩
   |false =>
    have hy':=hyes rfl;clear hno hyes
    go_wp2_with fail
    go_roundw
    case rel=>exact⟨i+1,by omega,by go_num,hy',trivial⟩
    case measure=>simp[intOf];omega
  ·have hR1:R=true:=by rw[HR.out,<- hn.out,show i=9 by omega]
   clear HR hn;subst hR1
   go_wp2_with fail
   go_ret;exact⟨rfl,hB⟩
end
end Go.Proofs.YtkkekopomiehlabGreatDoor
