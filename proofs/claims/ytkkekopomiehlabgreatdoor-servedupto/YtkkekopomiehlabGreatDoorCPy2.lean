import Derived.Test.YtkkekopomiehlabGreatDoorCLn1
import Derived.BigRegion
set_option linter.unusedVariables false
set_option linter.unusedSimpArgs false
set_option maxHeartbeats 40000000
open Nat renaming le_refl->xe
open List renaming getElem?_eq_getElem->xf
open Go.RowKit
set_option maxRecDepth 4000
namespace Go.Proofs.YtkkekopomiehlabGreatDoor
section
theorem Chg.drew {S:Nat->Prop}{a w:World}(h:Chg S a w):Chg S a w.drew:=⟨h.os,h.tape,h.output,h.size,h.block⟩
theorem Chg.drewN {S:Nat->Prop}{a w:World}(h:Chg S a w)(n:Nat):Chg S a (w.drewN n):=⟨h.os,h.tape,h.output,h.size,h.block⟩
theorem RowIs.drewN {w:World}{g:Nat}{t:TypeId}{cs:List Value}(h:RowIs w g t cs)(n:Nat):RowIs (w.drewN n) g t cs:=h
theorem RowIs.drew {w:World}{g:Nat}{t:TypeId}{cs:List Value}(h:RowIs w g t cs):RowIs w.drew g t cs:=h
variable {ti:Int}{a:Option Addr}{tc:Nat}{m v t s:Value}{c:CtlD}{r:Nat}{w:World}
theorem zjn (h:RowIs w r 149 (RunC ti (.slice a c.ts.length tc) c m v t s)):Calls Tryz.prog 202 #[.pointer (some ⟨r,1,none⟩)] w fun e W=>e=.returned (.tuple #[])/\RowIs W r 149 (RunC ti (.slice a (begC c).ts.length tc) (begC c) m v t s)/\Chg (·= r) w W:=by
 obtain⟨ts,rest,st,pos,wk,pa,un,nu,ba,a0,a1,a2⟩:=c;have k5:w.cell? ⟨r,5,none⟩=some (.bool wk):=h.cell rfl;have k8:w.cell? ⟨r,8,none⟩=some (.int .i64 nu):=h.cell rfl;have k9:w.cell? ⟨r,9,none⟩=some (.int .i64 ba):=h.cell rfl;have k10:w.cell? ⟨r,10,none⟩=some (.bool a0):=h.cell rfl;have k11:w.cell? ⟨r,11,none⟩=some (.bool a1):=h.cell rfl;have k12:w.cell? ⟨r,12,none⟩=some (.bool a2):=h.cell rfl;have x5:w.frozen? ⟨r,5,none⟩=false:=h.frozen 5;have x9:w.frozen? ⟨r,9,none⟩=false:=h.frozen 9;have x10:w.frozen? ⟨r,10,none⟩=false:=h.frozen 10;have x11:w.frozen? ⟨r,11,none⟩=false:=h.frozen 11;have x12:w.frozen? ⟨r,12,none⟩=false:=h.frozen 12;have H:=zaa h;clear h
 go_enter Tryz.func202,Tryz.ntmps202
 go_wp2_with fail
 refine bodyPost_end (v:=.tuple #[]) (results_none rfl _ _ _) rfl ?_;exact⟨rfl,((((H.out.set 5 _).set 9 _).set 10 _).set 11 _).set 12 _,((((((Chg.refl (·= r) w).set (p:=⟨r,5,none⟩) (.inl rfl) _).set (p:=⟨r,9,none⟩) (.inl rfl) _).set (p:=⟨r,10,none⟩) (.inl rfl) _).set (p:=⟨r,11,none⟩) (.inl rfl) _).set (p:=⟨r,12,none⟩) (.inl rfl) _)⟩
theorem zfi (h:RowIs w r 149 (RunC ti (.slice a c.ts.length tc) c m v t s)):Calls Tryz.prog 135 #[.pointer (some ⟨r,1,none⟩)] w fun e W=>e=.returned (.bool (zar c))/\w=W:=by
 obtain⟨ts,rest,st,pos,wk,pa,un,nu,ba,a0,a1,a2⟩:=c;have k3:w.cell? ⟨r,3,none⟩=some (.int .i64 st):=h.cell rfl;clear h;show Calls _ _ _ _ fun e W=>e=.returned (.bool (decide (st=3\/st=4)))/\w=W;by_cases h3:st=3
 ·subst h3
  go_enter Tryz.func135,Tryz.ntmps135
  go_wp2_with fail
  go_ret;exact⟨rfl,rfl⟩
 ·by_cases h4:st=4
  ·subst h4
   go_enter Tryz.func135,Tryz.ntmps135
   go_wp2_with fail
   go_ret;exact⟨rfl,rfl⟩
  ·rw[decide_eq_false (by omega)]
   go_enter Tryz.func135,Tryz.ntmps135
   go_wp2_with fail
   go_ret;exact⟨zbw (by simp[h3,h4]),rfl⟩
theorem zik (hst:c.st=1\/c.st=2)(h:RowIs w r 149 (RunC ti (.slice a c.ts.length tc) c m v t s)):Calls Tryz.prog 201 #[.pointer (some ⟨r,1,none⟩)] w fun e W=>e=.returned (.tuple #[])/\RowIs W r 149 (RunC ti (.slice a (zau c).ts.length tc) (zau c) m v t s)/\Chg (·= r) w W:=by
 obtain⟨ts,rest,st,pos,wk,pa,un,nu,ba,a0,a1,a2⟩:=c;have k1:w.cell? ⟨r,1,none⟩=some (.slice a ts.length tc):=h.cell rfl;have k3:w.cell? ⟨r,3,none⟩=some (.int .i64 st):=h.cell rfl;have k4:w.cell? ⟨r,4,none⟩=some (.int .i64 pos):=h.cell rfl;have x3:w.frozen? ⟨r,3,none⟩=false:=h.frozen 3;have x3':∀ n,(w.drewN n).frozen? ⟨r,3,none⟩=false:=fun _=>x3;have H:=zaa h;clear h;rcases (show st=1\/st=2 from hst)with h1|h3
 ·subst h1;by_cases h2:(ts.length:Int)<=pos
  ·have e2:zau ⟨ts,rest,1,pos,wk,pa,un,nu,ba,a0,a1,a2⟩=⟨ts,rest,3,pos,wk,pa,un,nu,ba,a0,a1,a2⟩:=by
    have e1:zbx ⟨ts,rest,1,pos,wk,pa,un,nu,ba,a0,a1,a2⟩=⟨ts,rest,3,pos,wk,pa,un,nu,ba,a0,a1,a2⟩:=by unfold zbx;rw[if_pos ⟨rfl,h2⟩]
    unfold zau;rw[e1];unfold zcz;rw[if_neg (by simp)]
   rw[e2];clear e2
   go_enter Tryz.func201,Tryz.ntmps201
   go_wp2_with fail
   go_quiet (fail)
   go_wp2_with fail
   refine bodyPost_end (v:=.tuple #[]) (results_none rfl _ _ _) rfl ?_;exact⟨rfl,H.out.set 3 _,((Chg.refl (·= r) w).set (p:=⟨r,3,none⟩) (.inl rfl) _).drewN _⟩
  ·have e2:zau ⟨ts,rest,1,pos,wk,pa,un,nu,ba,a0,a1,a2⟩=⟨ts,rest,1,pos,wk,pa,un,nu,ba,a0,a1,a2⟩:=by
    have e1:zbx ⟨ts,rest,1,pos,wk,pa,un,nu,ba,a0,a1,a2⟩=⟨ts,rest,1,pos,wk,pa,un,nu,ba,a0,a1,a2⟩:=by unfold zbx;rw[if_neg (fun h=>h2 h.2)]
    unfold zau;rw[e1];unfold zcz;rw[if_neg (by simp)]
   rw[e2];clear e2;have h2:pos<(ts.length:Int):=by omega
   go_enter Tryz.func201,Tryz.ntmps201
   go_wp2_with fail
   go_quiet (fail)
   go_wp2_with fail
   refine bodyPost_end (v:=.tuple #[]) (results_none rfl _ _ _) rfl ?_;exact⟨rfl,H.out,(Chg.refl (·= r) w).drewN _⟩
 ·subst h3;have e1:zbx ⟨ts,rest,2,pos,wk,pa,un,nu,ba,a0,a1,a2⟩=⟨ts,rest,2,pos,wk,pa,un,nu,ba,a0,a1,a2⟩:=by unfold zbx;rw[if_neg (by simp)]
  by_cases h2:pos<=0
  ·have e2:zau ⟨ts,rest,2,pos,wk,pa,un,nu,ba,a0,a1,a2⟩=⟨ts,rest,4,pos,wk,pa,un,nu,ba,a0,a1,a2⟩:=by unfold zau;rw[e1];unfold zcz;rw[if_pos ⟨rfl,h2⟩]
   rw[e2];clear e2 e1
   go_enter Tryz.func201,Tryz.ntmps201
   go_wp2_with fail
   go_quiet (fail)
   go_wp2_with fail
   refine bodyPost_end (v:=.tuple #[]) (results_none rfl _ _ _) rfl ?_;exact⟨rfl,H.out.set 3 _,((Chg.refl (·= r) w).set (p:=⟨r,3,none⟩) (.inl rfl) _).drewN _⟩
  ·have e2:zau ⟨ts,rest,2,pos,wk,pa,un,nu,ba,a0,a1,a2⟩=⟨ts,rest,2,pos,wk,pa,un,nu,ba,a0,a1,a2⟩:=by unfold zau;rw[e1];unfold zcz;rw[if_neg (fun h=>h2 h.2)]
   rw[e2];clear e2 e1;have h2:0<pos:=by omega
   go_enter Tryz.func201,Tryz.ntmps201
   go_wp2_with fail
   go_quiet (fail)
   go_wp2_with fail
   refine bodyPost_end (v:=.tuple #[]) (results_none rfl _ _ _) rfl ?_;exact⟨rfl,H.out,(Chg.refl (·= r) w).drewN _⟩
theorem zev (z:Int)(h:RowIs w r 149 (RunC ti (.slice a c.ts.length tc) c m v t s)):Calls Tryz.prog 235 #[.pointer (some ⟨r,1,none⟩),.int .i64 z] w fun e W=>e=.returned (.int .i64 (frst c.a0 c.a1 c.a2 z))/\W=w:=by
 obtain⟨ts,rest,st,pos,wk,pa,un,nu,ba,a0,a1,a2⟩:=c;have k10:w.cell? ⟨r,10,none⟩=some (.bool a0):=h.cell rfl;have k11:w.cell? ⟨r,11,none⟩=some (.bool a1):=h.cell rfl;have k12:w.cell? ⟨r,12,none⟩=some (.bool a2):=h.cell rfl;clear h;show Calls _ _ _ _ fun e W=>e=.returned (.int .i64 (frst a0 a1 a2 z))/\W=w
 go_enter Tryz.func235,Tryz.ntmps235
 go_wp2_with fail
 go_loopw [11] (fun vi wr=>∃ i:Nat,i<=3/\vi=.int .i64 i/\wr=w/\(0<i->0<z->a0=true)/\(1<i->1<z->a1=true)/\(2<i->2<z->a2=true)) (fun vi _=>3-(intOf vi).toNat)
 case atStart=>exact⟨0,by omega,rfl,rfl,fun h=>by omega,fun h=>by omega,fun h=>by omega⟩
 case round =>
  obtain⟨i,hi,rfl,rfl,q0,q1,q2⟩:=hrel;have hc:i=0\/i=1\/i=2\/i=3:=by omega
  rcases hc with rfl|rfl|rfl|rfl
  ·have hidx:∀ W,(Instr.index 140 (.agg #[.bool a0,.bool a1,.bool a2]) (.int .i64 0)).run Tryz.prog W=.ok (.bool a0) W:=fun W=>zgt (P:=Tryz.prog) (w:=W) 140 4 .bool 3 _ .i64 0 Tryz.underlying140 Tryz.infoBool Tryz.underlying4 (fun _ h=>by cases h) (fun _ _ h=>by cases h) (by omega) _ rfl;by_cases hz:(0:Int)<z
   ·cases a0 with
    |false =>
     go_wp2_with fail
     go_ret;exact⟨zci (by unfold frst;rw[if_pos ⟨hz,rfl⟩];rfl),rfl⟩
    |true =>
     go_wp2_with fail
     go_roundw
     case rel=>exact⟨1,by omega,by first|rfl|trivial,by first|rfl|trivial,fun _ _=>(by first|rfl|trivial),fun h=>by omega,fun h=>by omega⟩
     case measure=>simp[intOf]
   ·go_wp2_with fail
    go_roundw
    case rel=>exact⟨1,by omega,by first|rfl|trivial,by first|rfl|trivial,fun _ h=>absurd h hz,fun h=>by omega,fun h=>by omega⟩
    case measure=>simp[intOf]
  ·have hidx:∀ W,(Instr.index 140 (.agg #[.bool a0,.bool a1,.bool a2]) (.int .i64 1)).run Tryz.prog W=.ok (.bool a1) W:=fun W=>zgt (P:=Tryz.prog) (w:=W) 140 4 .bool 3 _ .i64 1 Tryz.underlying140 Tryz.infoBool Tryz.underlying4 (fun _ h=>by cases h) (fun _ _ h=>by cases h) (by omega) _ rfl;by_cases hz:(1:Int)<z
   ·cases a1 with
    |false =>
     go_wp2_with fail
     go_ret;exact⟨zci (by unfold frst;rw[if_neg (fun h=>by have:=q0 (by omega) h.1;rw[h.2]at this;cases this)];rw[if_pos ⟨hz,rfl⟩];rfl),rfl⟩
    |true =>
     go_wp2_with fail
     go_roundw
     case rel=>exact⟨2,by omega,by first|rfl|trivial,by first|rfl|trivial,fun _=>q0 (by omega),fun _ _=>(by first|rfl|trivial),fun h=>by omega⟩
     case measure=>simp[intOf]
   ·go_wp2_with fail
    go_roundw
    case rel=>exact⟨2,by omega,by first|rfl|trivial,by first|rfl|trivial,fun _=>q0 (by omega),fun _ h=>absurd h hz,fun h=>by omega⟩
    case measure=>simp[intOf]
  ·have hidx:∀ W,(Instr.index 140 (.agg #[.bool a0,.bool a1,.bool a2]) (.int .i64 2)).run Tryz.prog W=.ok (.bool a2) W:=fun W=>zgt (P:=Tryz.prog) (w:=W) 140 4 .bool 3 _ .i64 2 Tryz.underlying140 Tryz.infoBool Tryz.underlying4 (fun _ h=>by cases h) (fun _ _ h=>by cases h) (by omega) _ rfl;by_cases hz:(2:Int)<z
   ·cases a2 with
    |false =>
     go_wp2_with fail
     go_ret;exact⟨zci (by unfold frst;rw[if_neg (fun h=>by have:=q0 (by omega) h.1;rw[h.2]at this;cases this),if_neg (fun h=>by have:=q1 (by omega) h.1;rw[h.2]at this;cases this)];rw[if_pos ⟨hz,rfl⟩];rfl),rfl⟩
    |true =>
     go_wp2_with fail
     go_roundw
     case rel=>exact⟨3,by omega,by first|rfl|trivial,by first|rfl|trivial,fun _=>q0 (by omega),fun _=>q1 (by omega),fun _ _=>(by first|rfl|trivial)⟩
     case measure=>simp[intOf]
   ·go_wp2_with fail
    go_roundw
    case rel=>exact⟨3,by omega,by first|rfl|trivial,by first|rfl|trivial,fun _=>q0 (by omega),fun _=>q1 (by omega),fun _ h=>absurd h hz⟩
    case measure=>simp[intOf]
  ·go_wp2_with fail
   go_ret;exact⟨zci (by unfold frst;rw[if_neg (fun h=>by have:=q0 (by omega) h.1;rw[h.2]at this;cases this),if_neg (fun h=>by have:=q1 (by omega) h.1;rw[h.2]at this;cases this),if_neg (fun h=>by have:=q2 (by omega) h.1;rw[h.2]at this;cases this)]),rfl⟩
theorem zwh (z:Int)(h:RowIs w r 149 (RunC ti (.slice a c.ts.length tc) c m v t s)):Calls Tryz.prog 235 #[.pointer (some ⟨r,1,none⟩),.int .i64 z] w fun e W=>e=.returned (.int .i64 (frst c.a0 c.a1 c.a2 z))/\Below w.heap.size w W :=
 (zev z h).mono fun e W h=>⟨h.1,by rw[h.2];exact Below.refl _ _⟩
theorem zve {g:Nat}(hst:c.st=2)(hl:c.ts.length<=200)(hp:0<c.pos/\c.pos<=c.ts.length)(h:RowIs w r 149 (RunC ti (.slice (some ⟨g,0,none⟩) c.ts.length tc) c m v t s))(ht:TsksAt w g c.ts):Calls Tryz.prog 234 #[.pointer (some ⟨r,1,none⟩)] w fun e W=>e=.returned (.agg #[.int .i64 (curT c).s,.int .i64 (curT c).z,.int .i64 (curT c).b,.int .i64 (curT c).r])/\Below w.heap.size w W:=by
 obtain⟨T,hT⟩:∃ T,T=curT c:=⟨_,rfl⟩;rw[<- hT];obtain⟨ts,rest,st,pos,wk,pa,un,nu,ba,a0,a1,a2⟩:=c;have k1:w.cell? ⟨r,1,none⟩=some (.slice (some ⟨g,0,none⟩) ts.length tc):=h.cell rfl;have k3:w.cell? ⟨r,3,none⟩=some (.int .i64 st):=h.cell rfl;have k4:w.cell? ⟨r,4,none⟩=some (.int .i64 pos):=h.cell rfl;clear h;simp only at hp ht hst hl;have HT:=zaa hT;have HTS:=zaa ht;clear hT ht;subst hst;have hb:True:=trivial;obtain⟨i,hi⟩:∃ i:Nat,pos-1=i:=⟨(pos-1).toNat,by omega⟩;obtain⟨q,hq⟩:∃ q,ts[i]?=some q:=⟨ts[i]'(by omega),xf _⟩;obtain⟨c0,c1,c2,c3⟩:=HTS.out i q hq;have hT:T=⟨q.s,q.z,q.b,q.b⟩:=by
  rw[HT.out];unfold curT numC numB;simp only[if_true];rw[hi,if_pos (by simp;omega)];simp[hq]
 have hnb:numB (i:Int) ts.length=true:=by unfold numB;simp;omega
 have hn:=fun W=>za4 (i:Int) (ts.length:Int) W;rw[hnb]at hn;have hx0:(0:Int)<=(i:Int):=by omega
 have hx1:(i:Int)<(ts.length:Int):=by omega
 rw[hT];obtain rfl:pos=i+1:=by omega
 clear HT hT hnb hq HTS hi hb;generalize ts.length=n at *;obtain⟨s0,z0,b0,r0⟩:=q;simp only at c0 c1 c2 c3;have lr:=zag k4;have lg:=zag c0
 go_enter Tryz.func234,Tryz.ntmps234
 go_wp2_with (first|(go_at_call 178;refine(hn _).mono ?_;rintro e _ ⟨rfl,rfl⟩))
 refine bodyPost_ret (v:=.agg #[.int .i64 s0,.int .i64 z0,.int .i64 b0,.int .i64 b0]) (by simp[results,Tryz.results234,go_sem]) rfl ⟨rfl,thn3 (bel1 _ _) (bel1 _ _)⟩
theorem zvf {g:Nat}(hst:c.st=1)(hl:c.ts.length<=200)(hp:0<=c.pos/\c.pos<c.ts.length)(h:RowIs w r 149 (RunC ti (.slice (some ⟨g,0,none⟩) c.ts.length tc) c m v t s))(ht:TsksAt w g c.ts):Calls Tryz.prog 234 #[.pointer (some ⟨r,1,none⟩)] w fun e W=>e=.returned (.agg #[.int .i64 (curT c).s,.int .i64 (curT c).z,.int .i64 (curT c).b,.int .i64 (curT c).r])/\Below w.heap.size w W:=by
 obtain⟨T,hT⟩:∃ T,T=curT c:=⟨_,rfl⟩;rw[<- hT];obtain⟨ts,rest,st,pos,wk,pa,un,nu,ba,a0,a1,a2⟩:=c;have k1:w.cell? ⟨r,1,none⟩=some (.slice (some ⟨g,0,none⟩) ts.length tc):=h.cell rfl;have k3:w.cell? ⟨r,3,none⟩=some (.int .i64 st):=h.cell rfl;have k4:w.cell? ⟨r,4,none⟩=some (.int .i64 pos):=h.cell rfl;clear h;simp only at hp ht hst hl;have HT:=zaa hT;have HTS:=zaa ht;clear hT ht;subst hst;have hb:True:=trivial;obtain⟨i,hi⟩:∃ i:Nat,pos=i:=⟨(pos).toNat,by omega⟩;obtain⟨q,hq⟩:∃ q,ts[i]?=some q:=⟨ts[i]'(by omega),xf _⟩;obtain⟨c0,c1,c2,c3⟩:=HTS.out i q hq;have hT:T=⟨q.s,q.z,q.b,q.r⟩:=by
  rw[HT.out];unfold curT numC numB;simp only[if_false];rw[hi,if_pos (by simp;omega)];simp[hq]
 have hnb:numB (i:Int) ts.length=true:=by unfold numB;simp;omega
 have hn:=fun W=>za4 (i:Int) (ts.length:Int) W;rw[hnb]at hn;have hx0:(0:Int)<=(i:Int):=by omega
 have hx1:(i:Int)<(ts.length:Int):=by omega
 rw[hT];obtain rfl:pos=i:=by omega
 clear HT hT hnb hq HTS hi hb;generalize ts.length=n at *;obtain⟨s0,z0,b0,r0⟩:=q;simp only at c0 c1 c2 c3;have lr:=zag k4;have lg:=zag c0
 go_enter Tryz.func234,Tryz.ntmps234
 go_wp2_with (first|(go_at_call 178;refine(hn _).mono ?_;rintro e _ ⟨rfl,rfl⟩))
 refine bodyPost_ret (v:=.agg #[.int .i64 s0,.int .i64 z0,.int .i64 b0,.int .i64 r0]) (by simp[results,Tryz.results234,go_sem]) rfl ⟨rfl,thn3 (bel1 _ _) (bel1 _ _)⟩
def zby (c:CtlD):Prop:=c.ts.length<=200/\((c.st=1/\0<=c.pos/\c.pos<c.ts.length)\/(c.st=2/\0<c.pos/\c.pos<=c.ts.length))
theorem zes {g:Nat}(hc:zby c)(h:RowIs w r 149 (RunC ti (.slice (some ⟨g,0,none⟩) c.ts.length tc) c m v t s))(ht:TsksAt w g c.ts):Calls Tryz.prog 234 #[.pointer (some ⟨r,1,none⟩)] w fun e W=>e=.returned (.agg #[.int .i64 (curT c).s,.int .i64 (curT c).z,.int .i64 (curT c).b,.int .i64 (curT c).r])/\Below w.heap.size w W:=by
 obtain⟨hl,⟨h1,h2⟩|⟨h1,h2⟩⟩:=hc
 ·exact zvf h1 hl h2 h ht
 ·exact zve h1 hl h2 h ht
theorem TsksAt.keep {w w':World}(hb:Below w.heap.size w w'){g:Nat}{ts:List TskD}(ht:TsksAt w g ts):TsksAt w' g ts:=fun i t hi=>by
 obtain⟨a,b,c,d⟩:=ht i t hi;exact⟨zab hb a,zab hb b,zab hb c,zab hb d⟩
theorem zm1 {g:Nat}(hc:zby c)(hn:0<=c.nu/\c.nu<=4000000000)(h:RowIs w r 149 (RunC ti (.slice (some ⟨g,0,none⟩) c.ts.length tc) c m v t s))(ht:TsksAt w g c.ts):Calls Tryz.prog 233 #[.pointer (some ⟨r,1,none⟩)] w fun e W=>e=.returned (.tuple #[.agg #[.int .i64 (cmdM c).k,.int .i64 (cmdM c).n,.int .i64 (cmdM c).s,.int .i64 (cmdM c).i,.int .i64 (cmdM c).r],.bool (cmdB c)])/\RowIs W r 149 (RunC ti (.slice (some ⟨g,0,none⟩) (cmdC c).ts.length tc) (cmdC c) m v t s)/\Chg (·= r) w W:=by
 have c1:=fun (W:World) (hb:Below w.heap.size w W)=>zes hc (h.keep hb) (ht.keep hb);have c2:=fun (W:World) (hb:Below w.heap.size w W)=>zwh (curT c).z (h.keep hb);have H:=zaa h;have lr:=h.lt;have hcm:cmdB c=decide (frst c.a0 c.a1 c.a2 (curT c).z<(curT c).z):=rfl;cases hB:cmdB c with
 |true =>
  have hM:cmdM c=⟨1,c.nu+1,(curT c).s,frst c.a0 c.a1 c.a2 (curT c).z,(curT c).r⟩:=by unfold cmdM;rw[if_pos hB]
  have hC:cmdC c={ c with nu:=c.nu+1 }:=by unfold cmdC;rw[if_pos hB]
  have hf:frst c.a0 c.a1 c.a2 (curT c).z<(curT c).z:=by rw[hB]at hcm;simpa using hcm
  rw[hM,hC];have hx8:=fun (W:World) (hb:Below w.heap.size w W)=>(show W.cell? ⟨r,8,none⟩=some (.int .i64 c.nu) from(h.keep hb).cell rfl);have hf8:=fun (W:World) (hb:Below w.heap.size w W)=>(h.keep hb).frozen 8;clear h ht hc hM hC hcm hB;generalize frst c.a0 c.a1 c.a2 (curT c).z=F at *;generalize curT c=T at *;generalize hnu:c.nu=nu at *;obtain⟨s0,z0,b0,r0⟩:=T;simp only at c1 c2 hf;simp only
  go_enter Tryz.func233,Tryz.ntmps233
  go_wp2_with (first
   |(go_at_call 234;refine(c1 _ (bel1 _ _)).mono ?_;rintro e w1 ⟨rfl,hb1⟩;have B1:=thn3 (bel1 w _) hb1)
   |(go_at_call 235;refine(c2 _ (thn3 B1 (bel1 _ _))).mono ?_;rintro e w2 ⟨rfl,hb2⟩;have B2:=thn3 (thn3 B1 (bel1 _ _)) hb2;have k8:=hx8 _ B2;have x8:=hf8 _ B2;have T2:=zaa ((show RowIs (w1.alloc (.cells #[.int .i64 s0,.int .i64 z0,.int .i64 b0,.int .i64 r0] 303)) w1.heap.size 303 [.int .i64 s0,.int .i64 z0,.int .i64 b0,.int .i64 r0]from zak _ _).keep hb2);have Z2:=zaa ((((show RowIs (w.alloc (.cells #[.int .i64 0,.int .i64 0,.int .i64 0,.int .i64 0,.int .i64 0] 100)) w.heap.size 100 [.int .i64 0,.int .i64 0,.int .i64 0,.int .i64 0,.int .i64 0]from zak _ _).keep hb1).keep (bel1 _ _)).keep hb2);have t0:=T2.out.cell (j:=0) rfl;have t1:=T2.out.cell (j:=1) rfl;have t2:=T2.out.cell (j:=2) rfl;have t3:=T2.out.cell (j:=3) rfl;have n1:w1.heap.size≠r:=(by have:=B1.size;omega);have n2:w.heap.size≠r:=(by omega);have y0:=(Z2.out.setOther (p:=⟨r,8,none⟩) n2.symm (.int .i64 (nu+1))).cell (j:=0) rfl;have y1:=(Z2.out.setOther (p:=⟨r,8,none⟩) n2.symm (.int .i64 (nu+1))).cell (j:=1) rfl;have y2:=(Z2.out.setOther (p:=⟨r,8,none⟩) n2.symm (.int .i64 (nu+1))).cell (j:=2) rfl;have y3:=(Z2.out.setOther (p:=⟨r,8,none⟩) n2.symm (.int .i64 (nu+1))).cell (j:=3) rfl;have y4:=(Z2.out.setOther (p:=⟨r,8,none⟩) n2.symm (.int .i64 (nu+1))).cell (j:=4) rfl))
  have q8:=((H.out.keep B2).set 8 (.int .i64 (nu+1))).cell (j:=8) (v:=.int .i64 (nu+1)) rfl;have u0:=(T2.out.setOther (p:=⟨r,8,none⟩) n1.symm (.int .i64 (nu+1))).cell (j:=0) rfl;have u3:=(T2.out.setOther (p:=⟨r,8,none⟩) n1.symm (.int .i64 (nu+1))).cell (j:=3) rfl;have f0:=(Z2.out.setOther (p:=⟨r,8,none⟩) n2.symm (.int .i64 (nu+1))).frozen 0;have f1:=(Z2.out.setOther (p:=⟨r,8,none⟩) n2.symm (.int .i64 (nu+1))).frozen 1;have f2:=(Z2.out.setOther (p:=⟨r,8,none⟩) n2.symm (.int .i64 (nu+1))).frozen 2;have f3:=(Z2.out.setOther (p:=⟨r,8,none⟩) n2.symm (.int .i64 (nu+1))).frozen 3;have f4:=(Z2.out.setOther (p:=⟨r,8,none⟩) n2.symm (.int .i64 (nu+1))).frozen 4
  go_big_region
  go_wp2_with fail
  have Z3:=(((((Z2.out.setOther (p:=⟨r,8,none⟩) n2.symm (.int .i64 (nu+1))).set 0 (.int .i64 1)).set 1 (.int .i64 (nu+1))).set 2 (.int .i64 s0)).set 3 (.int .i64 F)).set 4 (.int .i64 r0);have o0:=Z3.drew.cell (j:=0) rfl;have o1:=Z3.drew.cell (j:=1) rfl;have o2:=Z3.drew.cell (j:=2) rfl;have o3:=Z3.drew.cell (j:=3) rfl;have o4:=Z3.drew.cell (j:=4) rfl;refine bodyPost_ret (v:=.tuple #[.agg #[.int .i64 1,.int .i64 (nu+1),.int .i64 s0,.int .i64 F,.int .i64 r0],.bool true]) (by simp[results,Tryz.results233,go_sem,o0,o1,o2,o3,o4]) rfl ?_;refine⟨rfl,?_,(((((((Chg.of (S:=(·= r)) B2).set (p:=⟨r,8,none⟩) (.inl rfl) _).set (p:=⟨w.heap.size,0,none⟩) (.inr (xe _)) _).set (p:=⟨w.heap.size,1,none⟩) (.inr (xe _)) _).set (p:=⟨w.heap.size,2,none⟩) (.inr (xe _)) _).set (p:=⟨w.heap.size,3,none⟩) (.inr (xe _)) _).set (p:=⟨w.heap.size,4,none⟩) (.inr (xe _)) _).drew⟩;exact(((((((H.out.keep B2).set 8 (.int .i64 (nu+1))).setOther (p:=⟨w.heap.size,0,none⟩) n2 _).setOther (p:=⟨w.heap.size,1,none⟩) n2 _).setOther (p:=⟨w.heap.size,2,none⟩) n2 _).setOther (p:=⟨w.heap.size,3,none⟩) n2 _).setOther (p:=⟨w.heap.size,4,none⟩) n2 _).drew
 |false =>
  have hM:cmdM c=msg0:=by unfold cmdM;rw[if_neg (by rw[hB];simp)]
  have hC:cmdC c=c:=by unfold cmdC;rw[if_neg (by rw[hB];simp)]
  have hf:(curT c).z<=frst c.a0 c.a1 c.a2 (curT c).z:=by rw[hB]at hcm;have:=of_decide_eq_false hcm.symm;omega
  rw[hM,hC];clear h ht hc hM hC hcm hB;generalize frst c.a0 c.a1 c.a2 (curT c).z=F at *;generalize curT c=T at *;obtain⟨s0,z0,b0,r0⟩:=T;simp only at c1 c2 hf;unfold msg0;simp only
  go_enter Tryz.func233,Tryz.ntmps233
  go_wp2_with (first
   |(go_at_call 234;refine(c1 _ (bel1 _ _)).mono ?_;rintro e w1 ⟨rfl,hb1⟩;have B1:=thn3 (bel1 w _) hb1)
   |(go_at_call 235;refine(c2 _ (thn3 B1 (bel1 _ _))).mono ?_;rintro e w2 ⟨rfl,hb2⟩;have B2:=thn3 (thn3 B1 (bel1 _ _)) hb2;have T2:=zaa ((show RowIs (w1.alloc (.cells #[.int .i64 s0,.int .i64 z0,.int .i64 b0,.int .i64 r0] 303)) w1.heap.size 303 [.int .i64 s0,.int .i64 z0,.int .i64 b0,.int .i64 r0]from zak _ _).keep hb2);have Z2:=zaa ((((show RowIs (w.alloc (.cells #[.int .i64 0,.int .i64 0,.int .i64 0,.int .i64 0,.int .i64 0] 100)) w.heap.size 100 [.int .i64 0,.int .i64 0,.int .i64 0,.int .i64 0,.int .i64 0]from zak _ _).keep hb1).keep (bel1 _ _)).keep hb2);have t1:=T2.out.cell (j:=1) rfl;have y0:=Z2.out.cell (j:=0) rfl;have y1:=Z2.out.cell (j:=1) rfl;have y2:=Z2.out.cell (j:=2) rfl;have y3:=Z2.out.cell (j:=3) rfl;have y4:=Z2.out.cell (j:=4) rfl;have f0:=Z2.out.frozen 0;have f1:=Z2.out.frozen 1;have f2:=Z2.out.frozen 2;have f3:=Z2.out.frozen 3;have f4:=Z2.out.frozen 4))
  have Z3:=((((Z2.out.set 0 (.int .i64 0)).set 1 (.int .i64 0)).set 2 (.int .i64 0)).set 3 (.int .i64 0)).set 4 (.int .i64 0);have o0:=Z3.cell (j:=0) rfl;have o1:=Z3.cell (j:=1) rfl;have o2:=Z3.cell (j:=2) rfl;have o3:=Z3.cell (j:=3) rfl;have o4:=Z3.cell (j:=4) rfl;have n2:w.heap.size≠r:=by omega
  refine bodyPost_ret (v:=.tuple #[.agg #[.int .i64 0,.int .i64 0,.int .i64 0,.int .i64 0,.int .i64 0],.bool false]) (by simp[results,Tryz.results233,go_sem,o0,o1,o2,o3,o4]) rfl ?_;refine⟨rfl,?_,(((((Chg.of (S:=(·= r)) B2).set (p:=⟨w.heap.size,0,none⟩) (.inr (xe _)) _).set (p:=⟨w.heap.size,1,none⟩) (.inr (xe _)) _).set (p:=⟨w.heap.size,2,none⟩) (.inr (xe _)) _).set (p:=⟨w.heap.size,3,none⟩) (.inr (xe _)) _).set (p:=⟨w.heap.size,4,none⟩) (.inr (xe _)) _⟩;exact(((((H.out.keep B2).setOther (p:=⟨w.heap.size,0,none⟩) n2 _).setOther (p:=⟨w.heap.size,1,none⟩) n2 _).setOther (p:=⟨w.heap.size,2,none⟩) n2 _).setOther (p:=⟨w.heap.size,3,none⟩) n2 _).setOther (p:=⟨w.heap.size,4,none⟩) n2 _
end
end Go.Proofs.YtkkekopomiehlabGreatDoor
