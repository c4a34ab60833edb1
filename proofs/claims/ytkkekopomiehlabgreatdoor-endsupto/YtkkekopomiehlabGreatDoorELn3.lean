import Derived.Test.YtkkekopomiehlabGreatDoorELz
import Derived.Deep.MidRow
import Derived.Laws.PanicsMore
import Derived.BigRegion
set_option linter.unusedVariables false
set_option linter.unusedSimpArgs false
set_option maxHeartbeats 40000000
open Nat renaming le_refl->xe,lt_of_lt_of_le->xj,le_trans->xm,zero_add->xp
open List renaming getElem?_eq_getElem->xf,getElem?_append_left->xg,range->xh,flatMap_cons->xo
set_option maxRecDepth 4000
namespace Go.Proofs.YtkkekopomiehlabGreatDoor
section
open Go.RowKit
theorem RowIs.setOther {w:World}{g:Nat}{t:TypeId}{cs:List Value}(h:RowIs w g t cs){p:Addr}(hp:p.block≠g)(u:Value):RowIs (w.setCell p u) g t cs:=by
 unfold RowIs at h ⊢;rw[<- h];exact heap_setCell_other w p g u hp.symm
end
section
open Go.RowKit
theorem set4 {C r:List Value}{x0 x1 x2 x3 a b c d:Value}:((((C++x0::x1::x2::x3::r).set C.length a).set (C.length+1) b).set (C.length+2) c).set (C.length+3) d=(C++[a,b,c,d])++r:=by simp[List.set_append]
end
section
open Go.RowKit
end
section
open Go.RowKit
end
section
open Go.RowKit Go.Lib
theorem Tryz.infoMvL:(Tryz.prog.info? 62).map (fun i=>(i.zero,i.size,i.bytes))=some (some (.agg #[.int .i64 0,.int .i64 0]),2,16):=by kernel_rfl
def MvsAt (w:World)(a:Option Addr)(ms:List (Int×Int)):Prop:=∀ i m,ms[i]?=some m->∃ b o,a=some ⟨b,o,none⟩/\w.cell? ⟨b,o+i*2,none⟩=some (.int .i64 m.1)/\w.cell? ⟨b,o+i*2+1,none⟩=some (.int .i64 m.2)
def mvC (ms:List (Int×Int)):List Value:=ms.flatMap fun m=>[.int .i64 m.1,.int .i64 m.2]
theorem zpl:∀ ms:List (Int×Int),(mvC ms).length=ms.length*2
 |[]=>rfl
 |p::ms=>by rw[mvC,xo,List.length_append];have:=zpl ms;rw[mvC]at this;rw[this,List.length_cons];simp;omega
theorem zkt:∀ (ms:List (Int×Int)) (j:Nat),(mvC ms)[j]?=match ms[j / 2]? with|some m=>some (if j % 2=0 then .int .i64 m.1 else .int .i64 m.2)|none=>none
 |[],j=>by simp[mvC]
 |p::ms,j=>by
  rw[mvC,xo];by_cases h:j<2
  ·rw[xg (by simpa using h),show j / 2=0 by omega];obtain rfl|rfl:j=0\/j=1:=by omega
   all_goals rfl
  ·have:=zkt ms (j-2);rw[mvC]at this;rw[List.getElem?_append_right (by simp;omega),show j - [Value.int .i64 p.1,.int .i64 p.2].length=j-2 from rfl,this,show j / 2=(j-2) / 2+1 by omega,List.getElem?_cons_succ,show (j-2) % 2=j % 2 by omega]
theorem zyh {ms:List (Int×Int)}{i:Nat}{m:Int×Int}(h:ms[i]?=some m)(r:List Value):(mvC ms++r)[i*2]?=some (.int .i64 m.1)/\(mvC ms++r)[i*2+1]?=some (.int .i64 m.2):=by
 have hl:=(List.getElem?_eq_some_iff.1 h).1;have hc:=zpl ms;refine⟨?_,?_⟩
 ·rw[xg (by omega),zkt,show i*2 / 2=i by omega,h];simp
 ·rw[xg (by omega),zkt,show (i*2+1) / 2=i by omega,h,show (i*2+1) % 2=1 by omega];simp
end
section
open Go.RowKit
def hasI (now:Int)(ms:List (Int×Int))(s:Int):Nat->Int
 |0=>now
 |j+1=>if (ms.getD j (-1,0)).1=s then (ms.getD j (-1,0)).2 else hasI now ms s j
theorem MvsAt.keep {w w':World}(hb:Below w.heap.size w w'){a:Option Addr}{ms:List (Int×Int)}(h:MvsAt w a ms):MvsAt w' a ms:=fun i m hi=>by
 obtain⟨b,o,h1,h2,h3⟩:=h i m hi;exact⟨b,o,h1,zab hb h2,zab hb h3⟩
end
section
open Go.RowKit
theorem RowIs.ne {w:World}{b b':Nat}{t t':TypeId}{cs cs':List Value}(h:RowIs w b t cs)(h':RowIs w b' t' cs')(ht:t≠t'):b≠b':=fun e=>by
 subst e;unfold RowIs at h h';rw[h]at h';simp at h';exact ht h'.2
theorem zza {w:World}{base size n b:Nat}{e t:TypeId}{v:Value}{xs cs:List Value}(h:w.ownsRow base e size v n xs)(h':RowIs w b t cs)(ht:t≠e):v.ownBlock≠some b:=fun hv=>by
 obtain⟨hl,h|⟨g',cap',cur,hv',hb,hh,hc,hm,hs,ht'⟩⟩:=h
 ·obtain⟨h,_⟩:=h;rw[h]at hv;cases hv
 ·rw[hv']at hv;have hg:g'=b:=by simpa[Value.ownBlock]using hv
  subst hg;unfold RowIs at h';rw[h']at hh;simp at hh;exact ht hh.2
theorem RowIs.grown {w w':World}{b:Nat}{t:TypeId}{cs:List Value}{row:Option Nat}(h:RowIs w b t cs)(hg:w.grownBy w' row)(hne:row≠some b):RowIs w' b t cs:=by
 have hlt:=h.lt;unfold RowIs at h ⊢;rw[hg.block b hlt (fun e=>hne e.symm)];exact h
end
section
open Go.RowKit
structure Chg (S:Nat->Prop)(w w':World):Prop where
 os:w'.os=w.os
 tape:w'.tape=w.tape
 output:w'.output=w.output
 size:w.heap.size<=w'.heap.size
 block:∀ k,k<w.heap.size->¬ S k->w'.heap[k]?=w.heap[k]?
theorem Chg.refl (S:Nat->Prop)(w:World):Chg S w w:=⟨rfl,rfl,rfl,xe _,fun _ _ _=>rfl⟩
theorem Chg.trans {S:Nat->Prop}{a b c:World}(h:Chg S a b)(k:Chg S b c):Chg S a c :=
 ⟨k.os.trans h.os,k.tape.trans h.tape,k.output.trans h.output,xm h.size k.size,fun i hi hs=>(k.block i (xj hi h.size) hs).trans (h.block i hi hs)⟩
theorem Chg.mono {S T:Nat->Prop}{w w':World}(h:Chg S w w')(hS:∀ k,S k->T k):Chg T w w':=⟨h.os,h.tape,h.output,h.size,fun k hk ht=>h.block k hk fun hs=>ht (hS k hs)⟩
theorem Chg.of {S:Nat->Prop}{w w':World}(h:Below w.heap.size w w'):Chg S w w':=⟨h.os,h.tape,h.output,h.size,fun k hk _=>h.block k hk⟩
theorem Chg.bel {S:Nat->Prop}{w w':World}{B:Nat}(h:Chg S w w')(hB:B<=w.heap.size)(hS:∀ k,k<B->¬ S k):Below B w w':=⟨h.os,h.tape,h.output,h.size,fun k hk=>h.block k (xj hk hB) (hS k hk)⟩
theorem Chg.set {S:Nat->Prop}{a w:World}(h:Chg S a w){p:Addr}(hp:S p.block\/a.heap.size<=p.block)(u:Value):Chg S a (w.setCell p u) :=
 ⟨h.os,h.tape,h.output,xm h.size (by simp[World.setCell]),fun k hk hs=>(Below.heap_setCell _ _ _ _ (fun e=>by rcases hp with q|q;exact hs (e ▸ q);omega)).trans (h.block k hk hs)⟩
theorem Chg.alloc {S:Nat->Prop}{a w:World}(h:Chg S a w)(o:Obj):Chg S a (w.alloc o):=h.trans (Chg.of (bel1 _ _))
theorem Chg.grown {S:Nat->Prop}{a w w':World}{row:Option Nat}(h:Chg S a w)(hg:w.grownBy w' row)(hr:∀ k,row=some k->S k\/a.heap.size<=k):Chg S a w' :=
 ⟨hg.os.trans h.os,hg.tape.trans h.tape,hg.output.trans h.output,xm h.size hg.size,fun k hk hs=>(hg.block k (xj hk h.size) (fun e=>by rcases hr k e.symm with q|q;exact hs q;omega)).trans (h.block k hk hs)⟩
theorem Chg.row {S:Nat->Prop}{w w':World}(h:Chg S w w'){g:Nat}{t:TypeId}{cs:List Value}(hr:RowIs w g t cs)(hg:¬ S g):RowIs w' g t cs:=by
 have:=h.block g hr.lt hg;unfold RowIs at hr ⊢;rw[this];exact hr
theorem Chg.cell {S:Nat->Prop}{w w':World}(h:Chg S w w'){b o:Nat}{v:Value}(hb:¬ S b)(hc:w.cell? ⟨b,o,none⟩=some v):w'.cell? ⟨b,o,none⟩=some v:=by
 rw[World.cell?_of_block (w:=w) (a:=⟨b,o,none⟩) (h.block b (zag hc) hb)];exact hc
structure MsgD where
 k:Int
 n:Int
 s:Int
 i:Int
 r:Int
structure TskD where
 s:Int
 z:Int
 b:Int
 r:Int
structure CtlD where
 ts:List TskD
 rest:Int
 st:Int
 pos:Int
 wk:Bool
 pa:Bool
 un:Int
 nu:Int
 ba:Int
 a0:Bool
 a1:Bool
 a2:Bool
def zbr (c:CtlD):CtlD:=if c.st=1/\(c.ts.length:Int)<=c.pos then { c with st:=3 } else c
def zcr (c:CtlD):CtlD:=if c.st=2/\c.pos<=0 then { c with st:=4 } else c
def zat (c:CtlD):CtlD:=zcr (zbr c)
def zaj (c:CtlD):Bool:=decide (c.st=3\/c.st=4)
def begC (c:CtlD):CtlD:={ c with wk:=true,ba:=c.nu,a0:=false,a1:=false,a2:=false }
def numC (c:CtlD):Int:=if c.st=2 then c.pos-1 else c.pos
def tsk0:TskD:=⟨0,0,0,0⟩
def curT (c:CtlD):TskD:=if numB (numC c) c.ts.length then (if c.st=2 then { c.ts.getD (numC c).toNat tsk0 with r:=(c.ts.getD (numC c).toNat tsk0).b } else c.ts.getD (numC c).toNat tsk0) else tsk0
def frst (a0 a1 a2:Bool)(z:Int):Int:=if 0<z/\a0=false then 0 else if 1<z/\a1=false then 1 else if 2<z/\a2=false then 2 else z
def msg0:MsgD:=⟨0,0,0,0,0⟩
def cmdB (c:CtlD):Bool:=decide (frst c.a0 c.a1 c.a2 (curT c).z<(curT c).z)
def cmdC (c:CtlD):CtlD:=if cmdB c then { c with nu:=c.nu+1 } else c
def cmdM (c:CtlD):MsgD:=if cmdB c then ⟨1,c.nu+1,(curT c).s,frst c.a0 c.a1 c.a2 (curT c).z,(curT c).r⟩ else msg0
def actA (c:CtlD)(time:Int):CtlD:=if c.wk=false/\c.un<=time then begC c else c
def actB (c:CtlD)(time:Int):Bool:=!(c.pa||zaj c)&&(actA c time).wk&&cmdB (actA c time)
def actC (c:CtlD)(time:Int):CtlD:=if c.pa||zaj c then c else if (actA c time).wk then cmdC (actA c time) else actA c time
def actM (c:CtlD)(time:Int):MsgD:=if c.pa||zaj c then msg0 else if (actA c time).wk then cmdM (actA c time) else msg0
def finC (c:CtlD)(time:Int):CtlD:=zat { c with wk:=false,pos:=(if c.st=2 then c.pos-1 else c.pos+1),un:=time+c.rest }
def ansC (c:CtlD)(i:Int):CtlD:={ c with a0:=c.a0||decide (i=0),a1:=c.a1||decide (i=1),a2:=c.a2||decide (i=2) }
def earB (c:CtlD)(m:MsgD):Bool:=c.wk&&decide (c.ba<m.n)&&numB m.i 3
def za4 (c:CtlD)(m:MsgD)(time:Int):CtlD:=if earB c m then (if frst (ansC c m.i).a0 (ansC c m.i).a1 (ansC c m.i).a2 (curT (ansC c m.i)).z=(curT (ansC c m.i)).z then finC (ansC c m.i) time else ansC c m.i) else c
def zc9 (c:CtlD):CtlD:=zat (if c.wk then begC { c with st:=2,pos:=c.pos+1 } else { c with st:=2 })
def crsC (c:CtlD)(time:Int):CtlD:=if zaj c then c else if c.wk then begC c else { c with un:=time+c.rest }
def RunC (ti:Int)(ta:Value)(c:CtlD)(m v t s:Value):List Value:=[.int .i64 ti,ta,.int .i64 c.rest,.int .i64 c.st,.int .i64 c.pos,.bool c.wk,.bool c.pa,.int .i64 c.un,.int .i64 c.nu,.int .i64 c.ba,.bool c.a0,.bool c.a1,.bool c.a2,m,v,t,s]
def TsksAt (w:World)(g:Nat)(ts:List TskD):Prop:=∀ i t,ts[i]?=some t->w.cell? ⟨g,i*4,none⟩=some (.int .i64 t.s)/\w.cell? ⟨g,i*4+1,none⟩=some (.int .i64 t.z)/\w.cell? ⟨g,i*4+2,none⟩=some (.int .i64 t.b)/\w.cell? ⟨g,i*4+3,none⟩=some (.int .i64 t.r)
theorem TsksAt.chg {S:Nat->Prop}{w w':World}(h:Chg S w w'){g:Nat}{ts:List TskD}(ht:TsksAt w g ts)(hg:¬ S g):TsksAt w' g ts:=fun i t hi=>by
 obtain⟨a,b,c,d⟩:=ht i t hi;exact⟨h.cell hg a,h.cell hg b,h.cell hg c,h.cell hg d⟩
end
section
open Go.RowKit
theorem Tryz.infoSet:(Tryz.prog.info? 111).map (·.size)=some 9:=by kernel_rfl
theorem zgx {P:Program}{w:World}(t e:TypeId)(d:TypeDesc)(n:Nat)(cs:Array Value)(k:IntKind)(i:Nat)(h:P.underlying t=some (.array n e))(hs:(P.info? e).map (·.size)=some 1)(he:P.underlying e=some d)(hd:∀ fs,d≠.struct fs)(hd2:∀ m u,d≠.array m u)(hin:i<n)(v:Value)(hv:cs[i]?=some v) :
  (Instr.index t (.agg cs) (.int k i)).run P w=.ok v w:=by
 have hn:(0<=(i:Int)/\(i:Int)<(n:Int)):=by omega
 cases hq:P.info? e with
 |none=>simp[hq]at hs
 |some ii =>
  have hi:ii.size=1:=by simpa[hq]using hs
  have hag:(isAgg e).run P w=.ok false w:=by
   unfold isAgg;rw[Sem.run_bind,run_underlying he w];cases d<;>simp_all
  simp[Instr.index,run_underlying h,asIntOf,hn,go_sem,sizeOf,typeInfo,hq,hi,hin,hag,hv]
theorem Tryz.infoBool:(Tryz.prog.info? 4).map (·.size)=some 1:=by kernel_rfl
theorem zal (w:World)(o:Obj):(w.alloc o).heap[w.heap.size]?=some o:=by show (w.heap.push o)[w.heap.size]?=some o;simp
theorem zbl {w:World}{b:Nat}{t:TypeId}{cs:List Value}(h:w.heap[b]?=some (.cells cs.toArray t (0,0))):w.rangeAt b 0 cs:=fun j v hj=>by
 rw[xp];simp only[World.cell?,h];simpa using hj
theorem zaf {w w':World}(hb:Below w.heap.size w w'){b o:Nat}{cs:List Value}(h:w.rangeAt b o cs):w'.rangeAt b o cs:=fun j v hj=>by
 have h1:=h j v hj;rw[hb.cell (p:=⟨b,o+j,none⟩) (World.block_lt_of_cell? w ⟨b,o+j,none⟩ h1)];exact h1
theorem belS (w:World)(o:Obj):Below w.heap.size w (w.alloc o):=(Below.refl _ _).alloc (xe _) _
def algB (xs ys:List Bool):Bool:=(xh 9).all fun i=>!(xs.getD i false)||ys.getD i false
theorem zmu (F:Nat->Bool)(x:Nat):(xh (x+1)).all F=((xh x).all F&&F x):=by rw[List.range_succ,List.all_append];simp
theorem zjk {F:Nat->Bool}{x n:Nat}(hx:x<n)(h:F x=false):(xh n).all F=false:=by
 cases hc:(xh n).all F with
 |false=>rfl
 |true=>rw[List.all_eq_true]at hc;rw[hc x (List.mem_range.2 hx)]at h;cases h
theorem zjj (xs ys:List Bool)(hx:xs.length=9)(hy:ys.length=9)(w:World) :
  Calls Tryz.prog 110 #[.agg (xs.map Value.bool).toArray,.agg (ys.map Value.bool).toArray] w fun e W=>e=.returned (.bool (algB xs ys))/\Below w.heap.size w W:=by
 have hr:=zaf (belS _ (.cells (ys.map Value.bool).toArray 111)) (zbl (zal w (.cells (xs.map Value.bool).toArray 111)));have hq:=zbl (zal (w.alloc (.cells (xs.map Value.bool).toArray 111)) (.cells (ys.map Value.bool).toArray 111));rw[show (w.alloc (.cells (xs.map Value.bool).toArray 111)).heap.size=w.heap.size+1 by simp]at hq;have hi:(Tryz.prog.info? 111).map (·.size)=some (xs.map Value.bool).length:=by rw[List.length_map,hx];exact Tryz.infoSet
 have hB:=(belS w (.cells (xs.map Value.bool).toArray 111)).alloc (by simp) (.cells (ys.map Value.bool).toArray 111);obtain⟨R,hR⟩:∃ R,R=algB xs ys:=⟨_,rfl⟩;rw[<- hR];have HR:Hid (R=(xh 9).all fun i=>!(xs.getD i false)||ys.getD i false):=hR;have HX:Hid (xs.length=9):=hx;have HY:Hid (ys.length=9):=hy;clear hR hx hy
 go_enter Tryz.func110,Tryz.ntmps110
 go_wp2_with (refine wpList_load_mid (w:=(w.alloc (.cells (xs.map Value.bool).toArray 111)).alloc (.cells (ys.map Value.bool).toArray 111)) rfl 111 _ rfl _ _ rfl (xs.map Value.bool) _ hr Tryz.underlying111 rfl hi ?_)
 go_loopw [8] (fun vi wr=>∃ i:Nat,i<=9/\vi=.int .i64 i/\Hid ((xh i).all (fun i=>!(xs.getD i false)||ys.getD i false)=true)/\wr=(w.alloc (.cells (xs.map Value.bool).toArray 111)).alloc (.cells (ys.map Value.bool).toArray 111)) (fun i _=>9-(intOf i).toNat)
 case atStart=>exact⟨0,by omega,rfl,(by show _=_;rfl),rfl⟩
 case round =>
  obtain⟨i,hi9,rfl,hn,rfl⟩:=hrel;by_cases hlt:i<9
  ·obtain⟨x,hxi⟩:∃ x,xs[i]?=some x:=⟨xs[i]'(by rw[HX.out];omega),xf (by rw[HX.out];omega)⟩;obtain⟨y,hyi⟩:∃ y,ys[i]?=some y:=⟨ys[i]'(by rw[HY.out];omega),xf (by rw[HY.out];omega)⟩;have hc:=hq i (.bool y) (by rw[List.getElem?_map,hyi];rfl);rw[xp]at hc;have hx0 := znn i;have hx1:(i:Int)<9:=by omega
   have hidx:=fun W=>zgx (P:=Tryz.prog) (w:=W) 111 4 .bool 9 (xs.map Value.bool).toArray .i64 i Tryz.underlying111 Tryz.infoBool Tryz.underlying4 (fun _ h=>by cases h) (fun _ _ h=>by cases h) hlt (.bool x) (by simp[hxi]);have hFx:(!(xs.getD i false)||ys.getD i false)=(!x||y):=by simp[List.getD,hxi,hyi]
   have hno:(!x||y)=false->R=false:=fun h=>by rw[HR.out];exact zjk hlt (by rw[hFx];exact h)
   have hyes:(!x||y)=true->Hid ((xh (i+1)).all (fun i=>!(xs.getD i false)||ys.getD i false)=true):=fun h=>by show _=_;rw[zmu,hn.out,hFx,h];rfl
   clear hFx hn hxi hyi hq HR;cases x with
   |true =>
    cases y with
    |true =>
     have hy':=hyes rfl;clear hno hyes
     go_wp2_with fail
     go_roundw
     case rel=>exact⟨i+1,by omega,by go_num,hy',trivial⟩
     case measure=>simp[intOf];omega
    |false =>
     have hR1:=hno rfl;clear hno hyes;subst hR1
     go_wp2_with fail
     go_ret;exact⟨rfl,hB⟩
   |false =>
    have hy':=hyes rfl;clear hno hyes
    go_wp2_with fail
    go_roundw
    case rel=>exact⟨i+1,by omega,by go_num,hy',trivial⟩
    case measure=>simp[intOf];omega
  ·have hR1:R=true:=by rw[HR.out,<- hn.out,show i=9 by omega]
   clear HR hn;subst hR1
   go_wp2_with fail
   go_ret;exact⟨rfl,hB⟩
end
section
open Go.RowKit
theorem Chg.drew {S:Nat->Prop}{a w:World}(h:Chg S a w):Chg S a w.drew:=⟨h.os,h.tape,h.output,h.size,h.block⟩
theorem Chg.drewN {S:Nat->Prop}{a w:World}(h:Chg S a w)(n:Nat):Chg S a (w.drewN n):=⟨h.os,h.tape,h.output,h.size,h.block⟩
theorem RowIs.drewN {w:World}{g:Nat}{t:TypeId}{cs:List Value}(h:RowIs w g t cs)(n:Nat):RowIs (w.drewN n) g t cs:=h
theorem RowIs.drew {w:World}{g:Nat}{t:TypeId}{cs:List Value}(h:RowIs w g t cs):RowIs w.drew g t cs:=h
variable {ti:Int}{a:Option Addr}{tc:Nat}{m v t s:Value}{c:CtlD}{r:Nat}{w:World}
theorem zju (h:RowIs w r 149 (RunC ti (.slice a c.ts.length tc) c m v t s)):Calls Tryz.prog 202 #[.pointer (some ⟨r,1,none⟩)] w fun e W=>e=.returned (.tuple #[])/\RowIs W r 149 (RunC ti (.slice a (begC c).ts.length tc) (begC c) m v t s)/\Chg (·= r) w W:=by
 obtain⟨ts,rest,st,pos,wk,pa,un,nu,ba,a0,a1,a2⟩:=c;have k5:w.cell? ⟨r,5,none⟩=some (.bool wk):=h.cell rfl;have k8:w.cell? ⟨r,8,none⟩=some (.int .i64 nu):=h.cell rfl;have k9:w.cell? ⟨r,9,none⟩=some (.int .i64 ba):=h.cell rfl;have k10:w.cell? ⟨r,10,none⟩=some (.bool a0):=h.cell rfl;have k11:w.cell? ⟨r,11,none⟩=some (.bool a1):=h.cell rfl;have k12:w.cell? ⟨r,12,none⟩=some (.bool a2):=h.cell rfl;have x5:w.frozen? ⟨r,5,none⟩=false:=h.frozen 5;have x9:w.frozen? ⟨r,9,none⟩=false:=h.frozen 9;have x10:w.frozen? ⟨r,10,none⟩=false:=h.frozen 10;have x11:w.frozen? ⟨r,11,none⟩=false:=h.frozen 11;have x12:w.frozen? ⟨r,12,none⟩=false:=h.frozen 12;have H:=zaa h;clear h
 go_enter Tryz.func202,Tryz.ntmps202
 go_wp2_with fail
 refine bodyPost_end (v:=.tuple #[]) (results_none rfl _ _ _) rfl ?_;exact⟨rfl,((((H.out.set 5 _).set 9 _).set 10 _).set 11 _).set 12 _,((((((Chg.refl (·= r) w).set (p:=⟨r,5,none⟩) (.inl rfl) _).set (p:=⟨r,9,none⟩) (.inl rfl) _).set (p:=⟨r,10,none⟩) (.inl rfl) _).set (p:=⟨r,11,none⟩) (.inl rfl) _).set (p:=⟨r,12,none⟩) (.inl rfl) _)⟩
theorem zfi (h:RowIs w r 149 (RunC ti (.slice a c.ts.length tc) c m v t s)):Calls Tryz.prog 135 #[.pointer (some ⟨r,1,none⟩)] w fun e W=>e=.returned (.bool (zaj c))/\w=W:=by
 obtain⟨ts,rest,st,pos,wk,pa,un,nu,ba,a0,a1,a2⟩:=c;have k3:w.cell? ⟨r,3,none⟩=some (.int .i64 st):=h.cell rfl;clear h;show Calls _ _ _ _ fun e W=>e=.returned (.bool (decide (st=3\/st=4)))/\w=W;by_cases h3:st=3
 ·subst h3
  go_enter Tryz.func135,Tryz.ntmps135
  go_wp2_with fail
  go_ret;exact⟨rfl,rfl⟩
 ·by_cases h4:st=4
  ·subst h4
   go_enter Tryz.func135,Tryz.ntmps135
   go_wp2_with fail
   go_ret;exact⟨rfl,rfl⟩
  ·rw[decide_eq_false (by omega)]
   go_enter Tryz.func135,Tryz.ntmps135
   go_wp2_with fail
   go_ret;exact⟨zbx (by simp[h3,h4]),rfl⟩
theorem zis (hst:c.st=1\/c.st=2)(h:RowIs w r 149 (RunC ti (.slice a c.ts.length tc) c m v t s)):Calls Tryz.prog 201 #[.pointer (some ⟨r,1,none⟩)] w fun e W=>e=.returned (.tuple #[])/\RowIs W r 149 (RunC ti (.slice a (zat c).ts.length tc) (zat c) m v t s)/\Chg (·= r) w W:=by
 obtain⟨ts,rest,st,pos,wk,pa,un,nu,ba,a0,a1,a2⟩:=c;have k1:w.cell? ⟨r,1,none⟩=some (.slice a ts.length tc):=h.cell rfl;have k3:w.cell? ⟨r,3,none⟩=some (.int .i64 st):=h.cell rfl;have k4:w.cell? ⟨r,4,none⟩=some (.int .i64 pos):=h.cell rfl;have x3:w.frozen? ⟨r,3,none⟩=false:=h.frozen 3;have x3':∀ n,(w.drewN n).frozen? ⟨r,3,none⟩=false:=fun _=>x3;have H:=zaa h;clear h;rcases (show st=1\/st=2 from hst)with h1|h3
 ·subst h1;by_cases h2:(ts.length:Int)<=pos
  ·have e2:zat ⟨ts,rest,1,pos,wk,pa,un,nu,ba,a0,a1,a2⟩=⟨ts,rest,3,pos,wk,pa,un,nu,ba,a0,a1,a2⟩:=by
    have e1:zbr ⟨ts,rest,1,pos,wk,pa,un,nu,ba,a0,a1,a2⟩=⟨ts,rest,3,pos,wk,pa,un,nu,ba,a0,a1,a2⟩:=by unfold zbr;rw[if_pos ⟨rfl,h2⟩]
    unfold zat;rw[e1];unfold zcr;rw[if_neg (by simp)]
   rw[e2];clear e2
   go_enter Tryz.func201,Tryz.ntmps201
   go_wp2_with fail
   go_quiet (fail)
   go_wp2_with fail
   refine bodyPost_end (v:=.tuple #[]) (results_none rfl _ _ _) rfl ?_;exact⟨rfl,H.out.set 3 _,((Chg.refl (·= r) w).set (p:=⟨r,3,none⟩) (.inl rfl) _).drewN _⟩
  ·have e2:zat ⟨ts,rest,1,pos,wk,pa,un,nu,ba,a0,a1,a2⟩=⟨ts,rest,1,pos,wk,pa,un,nu,ba,a0,a1,a2⟩:=by
    have e1:zbr ⟨ts,rest,1,pos,wk,pa,un,nu,ba,a0,a1,a2⟩=⟨ts,rest,1,pos,wk,pa,un,nu,ba,a0,a1,a2⟩:=by unfold zbr;rw[if_neg (fun h=>h2 h.2)]
    unfold zat;rw[e1];unfold zcr;rw[if_neg (by simp)]
   rw[e2];clear e2;have h2:pos<(ts.length:Int):=by omega
   go_enter Tryz.func201,Tryz.ntmps201
   go_wp2_with fail
   go_quiet (fail)
   go_wp2_with fail
   refine bodyPost_end (v:=.tuple #[]) (results_none rfl _ _ _) rfl ?_;exact⟨rfl,H.out,(Chg.refl (·= r) w).drewN _⟩
 ·subst h3;have e1:zbr ⟨ts,rest,2,pos,wk,pa,un,nu,ba,a0,a1,a2⟩=⟨ts,rest,2,pos,wk,pa,un,nu,ba,a0,a1,a2⟩:=by unfold zbr;rw[if_neg (by simp)]
  by_cases h2:pos<=0
  ·have e2:zat ⟨ts,rest,2,pos,wk,pa,un,nu,ba,a0,a1,a2⟩=⟨ts,rest,4,pos,wk,pa,un,nu,ba,a0,a1,a2⟩:=by unfold zat;rw[e1];unfold zcr;rw[if_pos ⟨rfl,h2⟩]
   rw[e2];clear e2 e1
   go_enter Tryz.func201,Tryz.ntmps201
   go_wp2_with fail
   go_quiet (fail)
   go_wp2_with fail
   refine bodyPost_end (v:=.tuple #[]) (results_none rfl _ _ _) rfl ?_;exact⟨rfl,H.out.set 3 _,((Chg.refl (·= r) w).set (p:=⟨r,3,none⟩) (.inl rfl) _).drewN _⟩
  ·have e2:zat ⟨ts,rest,2,pos,wk,pa,un,nu,ba,a0,a1,a2⟩=⟨ts,rest,2,pos,wk,pa,un,nu,ba,a0,a1,a2⟩:=by unfold zat;rw[e1];unfold zcr;rw[if_neg (fun h=>h2 h.2)]
   rw[e2];clear e2 e1;have h2:0<pos:=by omega
   go_enter Tryz.func201,Tryz.ntmps201
   go_wp2_with fail
   go_quiet (fail)
   go_wp2_with fail
   refine bodyPost_end (v:=.tuple #[]) (results_none rfl _ _ _) rfl ?_;exact⟨rfl,H.out,(Chg.refl (·= r) w).drewN _⟩
theorem zev (z:Int)(h:RowIs w r 149 (RunC ti (.slice a c.ts.length tc) c m v t s)):Calls Tryz.prog 235 #[.pointer (some ⟨r,1,none⟩),.int .i64 z] w fun e W=>e=.returned (.int .i64 (frst c.a0 c.a1 c.a2 z))/\W=w:=by
 obtain⟨ts,rest,st,pos,wk,pa,un,nu,ba,a0,a1,a2⟩:=c;have k10:w.cell? ⟨r,10,none⟩=some (.bool a0):=h.cell rfl;have k11:w.cell? ⟨r,11,none⟩=some (.bool a1):=h.cell rfl;have k12:w.cell? ⟨r,12,none⟩=some (.bool a2):=h.cell rfl;clear h;show Calls _ _ _ _ fun e W=>e=.returned (.int .i64 (frst a0 a1 a2 z))/\W=w
 go_enter Tryz.func235,Tryz.ntmps235
 go_wp2_with fail
 go_loopw [11] (fun vi wr=>∃ i:Nat,i<=3/\vi=.int .i64 i/\wr=w/\(0<i->0<z->a0=true)/\(1<i->1<z->a1=true)/\(2<i->2<z->a2=true)) (fun vi _=>3-(intOf vi).toNat)
 case atStart=>exact⟨0,by omega,rfl,rfl,fun h=>by omega,fun h=>by omega,fun h=>by omega⟩
 case round =>
  obtain⟨i,hi,rfl,rfl,q0,q1,q2⟩:=hrel;have hc:i=0\/i=1\/i=2\/i=3:=by omega
  rcases hc with rfl|rfl|rfl|rfl
  ·have hidx:∀ W,(Instr.index 140 (.agg #[.bool a0,.bool a1,.bool a2]) (.int .i64 0)).run Tryz.prog W=.ok (.bool a0) W:=fun W=>zgx (P:=Tryz.prog) (w:=W) 140 4 .bool 3 _ .i64 0 Tryz.underlying140 Tryz.infoBool Tryz.underlying4 (fun _ h=>by cases h) (fun _ _ h=>by cases h) (by omega) _ rfl;by_cases hz:(0:Int)<z
   ·cases a0 with
    |false =>
     go_wp2_with fail
     go_ret;exact⟨zck (by unfold frst;rw[if_pos ⟨hz,rfl⟩];rfl),rfl⟩
    |true =>
     go_wp2_with fail
     go_roundw
     case rel=>exact⟨1,by omega,by first|rfl|trivial,by first|rfl|trivial,fun _ _=>(by first|rfl|trivial),fun h=>by omega,fun h=>by omega⟩
     case measure=>simp[intOf]
   ·go_wp2_with fail
    go_roundw
    case rel=>exact⟨1,by omega,by first|rfl|trivial,by first|rfl|trivial,fun _ h=>absurd h hz,fun h=>by omega,fun h=>by omega⟩
    case measure=>simp[intOf]
  ·have hidx:∀ W,(Instr.index 140 (.agg #[.bool a0,.bool a1,.bool a2]) (.int .i64 1)).run Tryz.prog W=.ok (.bool a1) W:=fun W=>zgx (P:=Tryz.prog) (w:=W) 140 4 .bool 3 _ .i64 1 Tryz.underlying140 Tryz.infoBool Tryz.underlying4 (fun _ h=>by cases h) (fun _ _ h=>by cases h) (by omega) _ rfl;by_cases hz:(1:Int)<z
   ·cases a1 with
    |false =>
     go_wp2_with fail
     go_ret;exact⟨zck (by unfold frst;rw[if_neg (fun h=>by have:=q0 (by omega) h.1;rw[h.2]at this;cases this)];rw[if_pos ⟨hz,rfl⟩];rfl),rfl⟩
    |true =>
     go_wp2_with fail
     go_roundw
     case rel=>exact⟨2,by omega,by first|rfl|trivial,by first|rfl|trivial,fun _=>q0 (by omega),fun _ _=>(by first|rfl|trivial),fun h=>by omega⟩
     case measure=>simp[intOf]
   ·go_wp2_with fail
    go_roundw
    case rel=>exact⟨2,by omega,by first|rfl|trivial,by first|rfl|trivial,fun _=>q0 (by omega),fun _ h=>absurd h hz,fun h=>by omega⟩
    case measure=>simp[intOf]
  ·have hidx:∀ W,(Instr.index 140 (.agg #[.bool a0,.bool a1,.bool a2]) (.int .i64 2)).run Tryz.prog W=.ok (.bool a2) W:=fun W=>zgx (P:=Tryz.prog) (w:=W) 140 4 .bool 3 _ .i64 2 Tryz.underlying140 Tryz.infoBool Tryz.underlying4 (fun _ h=>by cases h) (fun _ _ h=>by cases h) (by omega) _ rfl;by_cases hz:(2:Int)<z
   ·cases a2 with
    |false =>
     go_wp2_with fail
     go_ret;exact⟨zck (by unfold frst;rw[if_neg (fun h=>by have:=q0 (by omega) h.1;rw[h.2]at this;cases this),if_neg (fun h=>by have:=q1 (by omega) h.1;rw[h.2]at this;cases this)];rw[if_pos ⟨hz,rfl⟩];rfl),rfl⟩
    |true =>
     go_wp2_with fail
     go_roundw
     case rel=>exact⟨3,by omega,by first|rfl|trivial,by first|rfl|trivial,fun _=>q0 (by omega),fun _=>q1 (by omega),fun _ _=>(by first|rfl|trivial)⟩
     case measure=>simp[intOf]
   ·go_wp2_with fail
    go_roundw
    case rel=>exact⟨3,by omega,by first|rfl|trivial,by first|rfl|trivial,fun _=>q0 (by omega),fun _=>q1 (by omega),fun _ h=>absurd h hz⟩
    case measure=>simp[intOf]
  ·go_wp2_with fail
   go_ret;exact⟨zck (by unfold frst;rw[if_neg (fun h=>by have:=q0 (by omega) h.1;rw[h.2]at this;cases this),if_neg (fun h=>by have:=q1 (by omega) h.1;rw[h.2]at this;cases this),if_neg (fun h=>by have:=q2 (by omega) h.1;rw[h.2]at this;cases this)]),rfl⟩
theorem zxa (z:Int)(h:RowIs w r 149 (RunC ti (.slice a c.ts.length tc) c m v t s)):Calls Tryz.prog 235 #[.pointer (some ⟨r,1,none⟩),.int .i64 z] w fun e W=>e=.returned (.int .i64 (frst c.a0 c.a1 c.a2 z))/\Below w.heap.size w W :=
 (zev z h).mono fun e W h=>⟨h.1,by rw[h.2];exact Below.refl _ _⟩
theorem zvu {g:Nat}(hst:c.st=2)(hl:c.ts.length<=200)(hp:0<c.pos/\c.pos<=c.ts.length)(h:RowIs w r 149 (RunC ti (.slice (some ⟨g,0,none⟩) c.ts.length tc) c m v t s))(ht:TsksAt w g c.ts):Calls Tryz.prog 234 #[.pointer (some ⟨r,1,none⟩)] w fun e W=>e=.returned (.agg #[.int .i64 (curT c).s,.int .i64 (curT c).z,.int .i64 (curT c).b,.int .i64 (curT c).r])/\Below w.heap.size w W:=by
 obtain⟨T,hT⟩:∃ T,T=curT c:=⟨_,rfl⟩;rw[<- hT];obtain⟨ts,rest,st,pos,wk,pa,un,nu,ba,a0,a1,a2⟩:=c;have k1:w.cell? ⟨r,1,none⟩=some (.slice (some ⟨g,0,none⟩) ts.length tc):=h.cell rfl;have k3:w.cell? ⟨r,3,none⟩=some (.int .i64 st):=h.cell rfl;have k4:w.cell? ⟨r,4,none⟩=some (.int .i64 pos):=h.cell rfl;clear h;simp only at hp ht hst hl;have HT:=zaa hT;have HTS:=zaa ht;clear hT ht;subst hst;have hb:True:=trivial;obtain⟨i,hi⟩:∃ i:Nat,pos-1=i:=⟨(pos-1).toNat,by omega⟩;obtain⟨q,hq⟩:∃ q,ts[i]?=some q:=⟨ts[i]'(by omega),xf _⟩;obtain⟨c0,c1,c2,c3⟩:=HTS.out i q hq;have hT:T=⟨q.s,q.z,q.b,q.b⟩:=by
  rw[HT.out];unfold curT numC numB;simp only[if_true];rw[hi,if_pos (by simp;omega)];simp[hq]
 have hnb:numB (i:Int) ts.length=true:=by unfold numB;simp;omega
 have hn:=fun W=>za5 (i:Int) (ts.length:Int) W;rw[hnb]at hn;have hx0:(0:Int)<=(i:Int):=by omega
 have hx1:(i:Int)<(ts.length:Int):=by omega
 rw[hT];obtain rfl:pos=i+1:=by omega
 clear HT hT hnb hq HTS hi hb;generalize ts.length=n at *;obtain⟨s0,z0,b0,r0⟩:=q;simp only at c0 c1 c2 c3;have lr:=zag k4;have lg:=zag c0
 go_enter Tryz.func234,Tryz.ntmps234
 go_wp2_with (first|(go_at_call 178;refine(hn _).mono ?_;rintro e _ ⟨rfl,rfl⟩))
 refine bodyPost_ret (v:=.agg #[.int .i64 s0,.int .i64 z0,.int .i64 b0,.int .i64 b0]) (by simp[results,Tryz.results234,go_sem]) rfl ⟨rfl,thn3 (bel1 _ _) (bel1 _ _)⟩
theorem zvv {g:Nat}(hst:c.st=1)(hl:c.ts.length<=200)(hp:0<=c.pos/\c.pos<c.ts.length)(h:RowIs w r 149 (RunC ti (.slice (some ⟨g,0,none⟩) c.ts.length tc) c m v t s))(ht:TsksAt w g c.ts):Calls Tryz.prog 234 #[.pointer (some ⟨r,1,none⟩)] w fun e W=>e=.returned (.agg #[.int .i64 (curT c).s,.int .i64 (curT c).z,.int .i64 (curT c).b,.int .i64 (curT c).r])/\Below w.heap.size w W:=by
 obtain⟨T,hT⟩:∃ T,T=curT c:=⟨_,rfl⟩;rw[<- hT];obtain⟨ts,rest,st,pos,wk,pa,un,nu,ba,a0,a1,a2⟩:=c;have k1:w.cell? ⟨r,1,none⟩=some (.slice (some ⟨g,0,none⟩) ts.length tc):=h.cell rfl;have k3:w.cell? ⟨r,3,none⟩=some (.int .i64 st):=h.cell rfl;have k4:w.cell? ⟨r,4,none⟩=some (.int .i64 pos):=h.cell rfl;clear h;simp only at hp ht hst hl;have HT:=zaa hT;have HTS:=zaa ht;clear hT ht;subst hst;have hb:True:=trivial;obtain⟨i,hi⟩:∃ i:Nat,pos=i:=⟨(pos).toNat,by omega⟩;obtain⟨q,hq⟩:∃ q,ts[i]?=some q:=⟨ts[i]'(by omega),xf _⟩;obtain⟨c0,c1,c2,c3⟩:=HTS.out i q hq;have hT:T=⟨q.s,q.z,q.b,q.r⟩:=by
  rw[HT.out];unfold curT numC numB;simp only[if_false];rw[hi,if_pos (by simp;omega)];simp[hq]
 have hnb:numB (i:Int) ts.length=true:=by unfold numB;simp;omega
 have hn:=fun W=>za5 (i:Int) (ts.length:Int) W;rw[hnb]at hn;have hx0:(0:Int)<=(i:Int):=by omega
 have hx1:(i:Int)<(ts.length:Int):=by omega
 rw[hT];obtain rfl:pos=i:=by omega
 clear HT hT hnb hq HTS hi hb;generalize ts.length=n at *;obtain⟨s0,z0,b0,r0⟩:=q;simp only at c0 c1 c2 c3;have lr:=zag k4;have lg:=zag c0
 go_enter Tryz.func234,Tryz.ntmps234
 go_wp2_with (first|(go_at_call 178;refine(hn _).mono ?_;rintro e _ ⟨rfl,rfl⟩))
 refine bodyPost_ret (v:=.agg #[.int .i64 s0,.int .i64 z0,.int .i64 b0,.int .i64 r0]) (by simp[results,Tryz.results234,go_sem]) rfl ⟨rfl,thn3 (bel1 _ _) (bel1 _ _)⟩
def zby (c:CtlD):Prop:=c.ts.length<=200/\((c.st=1/\0<=c.pos/\c.pos<c.ts.length)\/(c.st=2/\0<c.pos/\c.pos<=c.ts.length))
theorem zes {g:Nat}(hc:zby c)(h:RowIs w r 149 (RunC ti (.slice (some ⟨g,0,none⟩) c.ts.length tc) c m v t s))(ht:TsksAt w g c.ts):Calls Tryz.prog 234 #[.pointer (some ⟨r,1,none⟩)] w fun e W=>e=.returned (.agg #[.int .i64 (curT c).s,.int .i64 (curT c).z,.int .i64 (curT c).b,.int .i64 (curT c).r])/\Below w.heap.size w W:=by
 obtain⟨hl,⟨h1,h2⟩|⟨h1,h2⟩⟩:=hc
 ·exact zvv h1 hl h2 h ht
 ·exact zvu h1 hl h2 h ht
theorem TsksAt.keep {w w':World}(hb:Below w.heap.size w w'){g:Nat}{ts:List TskD}(ht:TsksAt w g ts):TsksAt w' g ts:=fun i t hi=>by
 obtain⟨a,b,c,d⟩:=ht i t hi;exact⟨zab hb a,zab hb b,zab hb c,zab hb d⟩
theorem znb {g:Nat}(hc:zby c)(hn:0<=c.nu/\c.nu<=4000000000)(h:RowIs w r 149 (RunC ti (.slice (some ⟨g,0,none⟩) c.ts.length tc) c m v t s))(ht:TsksAt w g c.ts):Calls Tryz.prog 233 #[.pointer (some ⟨r,1,none⟩)] w fun e W=>e=.returned (.tuple #[.agg #[.int .i64 (cmdM c).k,.int .i64 (cmdM c).n,.int .i64 (cmdM c).s,.int .i64 (cmdM c).i,.int .i64 (cmdM c).r],.bool (cmdB c)])/\RowIs W r 149 (RunC ti (.slice (some ⟨g,0,none⟩) (cmdC c).ts.length tc) (cmdC c) m v t s)/\Chg (·= r) w W:=by
 have c1:=fun (W:World) (hb:Below w.heap.size w W)=>zes hc (h.keep hb) (ht.keep hb);have c2:=fun (W:World) (hb:Below w.heap.size w W)=>zxa (curT c).z (h.keep hb);have H:=zaa h;have lr:=h.lt;have hcm:cmdB c=decide (frst c.a0 c.a1 c.a2 (curT c).z<(curT c).z):=rfl;cases hB:cmdB c with
 |true =>
  have hM:cmdM c=⟨1,c.nu+1,(curT c).s,frst c.a0 c.a1 c.a2 (curT c).z,(curT c).r⟩:=by unfold cmdM;rw[if_pos hB]
  have hC:cmdC c={ c with nu:=c.nu+1 }:=by unfold cmdC;rw[if_pos hB]
  have hf:frst c.a0 c.a1 c.a2 (curT c).z<(curT c).z:=by rw[hB]at hcm;simpa using hcm
  rw[hM,hC];have hx8:=fun (W:World) (hb:Below w.heap.size w W)=>(show W.cell? ⟨r,8,none⟩=some (.int .i64 c.nu) from(h.keep hb).cell rfl);have hf8:=fun (W:World) (hb:Below w.heap.size w W)=>(h.keep hb).frozen 8;clear h ht hc hM hC hcm hB;generalize frst c.a0 c.a1 c.a2 (curT c).z=F at *;generalize curT c=T at *;generalize hnu:c.nu=nu at *;obtain⟨s0,z0,b0,r0⟩:=T;simp only at c1 c2 hf;simp only
  go_enter Tryz.func233,Tryz.ntmps233
  go_wp2_with (first
   |(go_at_call 234;refine(c1 _ (bel1 _ _)).mono ?_;rintro e w1 ⟨rfl,hb1⟩;have B1:=thn3 (bel1 w _) hb1)
   |(go_at_call 235;refine(c2 _ (thn3 B1 (bel1 _ _))).mono ?_;rintro e w2 ⟨rfl,hb2⟩;have B2:=thn3 (thn3 B1 (bel1 _ _)) hb2;have k8:=hx8 _ B2;have x8:=hf8 _ B2;have T2:=zaa ((show RowIs (w1.alloc (.cells #[.int .i64 s0,.int .i64 z0,.int .i64 b0,.int .i64 r0] 303)) w1.heap.size 303 [.int .i64 s0,.int .i64 z0,.int .i64 b0,.int .i64 r0]from zal _ _).keep hb2);have Z2:=zaa ((((show RowIs (w.alloc (.cells #[.int .i64 0,.int .i64 0,.int .i64 0,.int .i64 0,.int .i64 0] 100)) w.heap.size 100 [.int .i64 0,.int .i64 0,.int .i64 0,.int .i64 0,.int .i64 0]from zal _ _).keep hb1).keep (bel1 _ _)).keep hb2);have t0:=T2.out.cell (j:=0) rfl;have t1:=T2.out.cell (j:=1) rfl;have t2:=T2.out.cell (j:=2) rfl;have t3:=T2.out.cell (j:=3) rfl;have n1:w1.heap.size≠r:=(by have:=B1.size;omega);have n2:w.heap.size≠r:=(by omega);have y0:=(Z2.out.setOther (p:=⟨r,8,none⟩) n2.symm (.int .i64 (nu+1))).cell (j:=0) rfl;have y1:=(Z2.out.setOther (p:=⟨r,8,none⟩) n2.symm (.int .i64 (nu+1))).cell (j:=1) rfl;have y2:=(Z2.out.setOther (p:=⟨r,8,none⟩) n2.symm (.int .i64 (nu+1))).cell (j:=2) rfl;have y3:=(Z2.out.setOther (p:=⟨r,8,none⟩) n2.symm (.int .i64 (nu+1))).cell (j:=3) rfl;have y4:=(Z2.out.setOther (p:=⟨r,8,none⟩) n2.symm (.int .i64 (nu+1))).cell (j:=4) rfl))
  have q8:=((H.out.keep B2).set 8 (.int .i64 (nu+1))).cell (j:=8) (v:=.int .i64 (nu+1)) rfl;have u0:=(T2.out.setOther (p:=⟨r,8,none⟩) n1.symm (.int .i64 (nu+1))).cell (j:=0) rfl;have u3:=(T2.out.setOther (p:=⟨r,8,none⟩) n1.symm (.int .i64 (nu+1))).cell (j:=3) rfl;have f0:=(Z2.out.setOther (p:=⟨r,8,none⟩) n2.symm (.int .i64 (nu+1))).frozen 0;have f1:=(Z2.out.setOther (p:=⟨r,8,none⟩) n2.symm (.int .i64 (nu+1))).frozen 1;have f2:=(Z2.out.setOther (p:=⟨r,8,none⟩) n2.symm (.int .i64 (nu+1))).frozen 2;have f3:=(Z2.out.setOther (p:=⟨r,8,none⟩) n2.symm (.int .i64 (nu+1))).frozen 3;have f4:=(Z2.out.setOther (p:=⟨r,8,none⟩) n2.symm (.int .i64 (nu+1))).frozen 4
  go_big_region
  go_wp2_with fail
  have Z3:=(((((Z2.out.setOther (p:=⟨r,8,none⟩) n2.symm (.int .i64 (nu+1))).set 0 (.int .i64 1)).set 1 (.int .i64 (nu+1))).set 2 (.int .i64 s0)).set 3 (.int .i64 F)).set 4 (.int .i64 r0);have o0:=Z3.drew.cell (j:=0) rfl;have o1:=Z3.drew.cell (j:=1) rfl;have o2:=Z3.drew.cell (j:=2) rfl;have o3:=Z3.drew.cell (j:=3) rfl;have o4:=Z3.drew.cell (j:=4) rfl;refine bodyPost_ret (v:=.tuple #[.agg #[.int .i64 1,.int .i64 (nu+1),.int .i64 s0,.int .i64 F,.int .i64 r0],.bool true]) (by simp[results,Tryz.results233,go_sem,o0,o1,o2,o3,o4]) rfl ?_;refine⟨rfl,?_,(((((((Chg.of (S:=(·= r)) B2).set (p:=⟨r,8,none⟩) (.inl rfl) _).set (p:=⟨w.heap.size,0,none⟩) (.inr (xe _)) _).set (p:=⟨w.heap.size,1,none⟩) (.inr (xe _)) _).set (p:=⟨w.heap.size,2,none⟩) (.inr (xe _)) _).set (p:=⟨w.heap.size,3,none⟩) (.inr (xe _)) _).set (p:=⟨w.heap.size,4,none⟩) (.inr (xe _)) _).drew⟩;exact(((((((H.out.keep B2).set 8 (.int .i64 (nu+1))).setOther (p:=⟨w.heap.size,0,none⟩) n2 _).setOther (p:=⟨w.heap.size,1,none⟩) n2 _).setOther (p:=⟨w.heap.size,2,none⟩) n2 _).setOther (p:=⟨w.heap.size,3,none⟩) n2 _).setOther (p:=⟨w.heap.size,4,none⟩) n2 _).drew
 |false =>
  have hM:cmdM c=msg0:=by unfold cmdM;rw[if_neg (by rw[hB];simp)]
  have hC:cmdC c=c:=by unfold cmdC;rw[if_neg (by rw[hB];simp)]
  have hf:(curT c).z<=frst c.a0 c.a1 c.a2 (curT c).z:=by rw[hB]at hcm;have:=of_decide_eq_false hcm.symm;omega
  rw[hM,hC];clear h ht hc hM hC hcm hB;generalize frst c.a0 c.a1 c.a2 (curT c).z=F at *;generalize curT c=T at *;obtain⟨s0,z0,b0,r0⟩:=T;simp only at c1 c2 hf;unfold msg0;simp only
  go_enter Tryz.func233,Tryz.ntmps233
  go_wp2_with (first
   |(go_at_call 234;refine(c1 _ (bel1 _ _)).mono ?_;rintro e w1 ⟨rfl,hb1⟩;have B1:=thn3 (bel1 w _) hb1)
   |(go_at_call 235;refine(c2 _ (thn3 B1 (bel1 _ _))).mono ?_;rintro e w2 ⟨rfl,hb2⟩;have B2:=thn3 (thn3 B1 (bel1 _ _)) hb2;have T2:=zaa ((show RowIs (w1.alloc (.cells #[.int .i64 s0,.int .i64 z0,.int .i64 b0,.int .i64 r0] 303)) w1.heap.size 303 [.int .i64 s0,.int .i64 z0,.int .i64 b0,.int .i64 r0]from zal _ _).keep hb2);have Z2:=zaa ((((show RowIs (w.alloc (.cells #[.int .i64 0,.int .i64 0,.int .i64 0,.int .i64 0,.int .i64 0] 100)) w.heap.size 100 [.int .i64 0,.int .i64 0,.int .i64 0,.int .i64 0,.int .i64 0]from zal _ _).keep hb1).keep (bel1 _ _)).keep hb2);have t1:=T2.out.cell (j:=1) rfl;have y0:=Z2.out.cell (j:=0) rfl;have y1:=Z2.out.cell (j:=1) rfl;have y2:=Z2.out.cell (j:=2) rfl;have y3:=Z2.out.cell (j:=3) rfl;have y4:=Z2.out.cell (j:=4) rfl;have f0:=Z2.out.frozen 0;have f1:=Z2.out.frozen 1;have f2:=Z2.out.frozen 2;have f3:=Z2.out.frozen 3;have f4:=Z2.out.frozen 4))
  have Z3:=((((Z2.out.set 0 (.int .i64 0)).set 1 (.int .i64 0)).set 2 (.int .i64 0)).set 3 (.int .i64 0)).set 4 (.int .i64 0);have o0:=Z3.cell (j:=0) rfl;have o1:=Z3.cell (j:=1) rfl;have o2:=Z3.cell (j:=2) rfl;have o3:=Z3.cell (j:=3) rfl;have o4:=Z3.cell (j:=4) rfl;have n2:w.heap.size≠r:=by omega
  refine bodyPost_ret (v:=.tuple #[.agg #[.int .i64 0,.int .i64 0,.int .i64 0,.int .i64 0,.int .i64 0],.bool false]) (by simp[results,Tryz.results233,go_sem,o0,o1,o2,o3,o4]) rfl ?_;refine⟨rfl,?_,(((((Chg.of (S:=(·= r)) B2).set (p:=⟨w.heap.size,0,none⟩) (.inr (xe _)) _).set (p:=⟨w.heap.size,1,none⟩) (.inr (xe _)) _).set (p:=⟨w.heap.size,2,none⟩) (.inr (xe _)) _).set (p:=⟨w.heap.size,3,none⟩) (.inr (xe _)) _).set (p:=⟨w.heap.size,4,none⟩) (.inr (xe _)) _⟩;exact(((((H.out.keep B2).setOther (p:=⟨w.heap.size,0,none⟩) n2 _).setOther (p:=⟨w.heap.size,1,none⟩) n2 _).setOther (p:=⟨w.heap.size,2,none⟩) n2 _).setOther (p:=⟨w.heap.size,3,none⟩) n2 _).setOther (p:=⟨w.heap.size,4,none⟩) n2 _
end
end Go.Proofs.YtkkekopomiehlabGreatDoor
