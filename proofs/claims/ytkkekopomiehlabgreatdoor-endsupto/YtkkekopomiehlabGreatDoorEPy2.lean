import Derived.Test.YtkkekopomiehlabGreatDoorELz
import Derived.BigRegion
set_option linter.unusedVariables false
set_option linter.unusedSimpArgs false
set_option maxHeartbeats 40000000
open Nat renaming le_refl->xe
open List renaming getD_eq_getElem?_getD->xf,getElem?_eq_getElem->xg,getElem?_set->xj
open Bool renaming false_eq_true->xh
open Go.RowKit
set_option maxRecDepth 4000
namespace Go.Proofs.YtkkekopomiehlabGreatDoor
section
theorem Chg.drew {S:Nat->Prop}{a w:World}(h:Chg S a w):Chg S a w.drew:=⟨h.os,h.tape,h.output,h.size,h.block⟩
theorem Chg.drewN {S:Nat->Prop}{a w:World}(h:Chg S a w)(n:Nat):Chg S a (w.drewN n):=⟨h.os,h.tape,h.output,h.size,h.block⟩
theorem RowIs.drewN {w:World}{g:Nat}{t:TypeId}{cs:List Value}(h:RowIs w g t cs)(n:Nat):RowIs (w.drewN n) g t cs:=h
theorem RowIs.drew {w:World}{g:Nat}{t:TypeId}{cs:List Value}(h:RowIs w g t cs):RowIs w.drew g t cs:=h
variable {ti:Int}{a:Option Addr}{tc:Nat}{m v t s:Value}{c:CtlD}{r:Nat}{w:World}
theorem zju (h:RowIs w r 149 (RunC ti (.slice a c.ts.length tc) c m v t s)):Calls Tryz.prog 202 #[.pointer (some ⟨r,1,none⟩)] w fun e W=>e=.returned (.tuple #[])/\RowIs W r 149 (RunC ti (.slice a (begC c).ts.length tc) (begC c) m v t s)/\Chg (·= r) w W:=by
 obtain⟨ts,rest,st,pos,wk,pa,un,nu,ba,a0,a1,a2⟩:=c;have k5:w.cell? ⟨r,5,none⟩=some (.bool wk):=h.cell rfl;have k8:w.cell? ⟨r,8,none⟩=some (.int .i64 nu):=h.cell rfl;have k9:w.cell? ⟨r,9,none⟩=some (.int .i64 ba):=h.cell rfl;have k10:w.cell? ⟨r,10,none⟩=some (.bool a0):=h.cell rfl;have k11:w.cell? ⟨r,11,none⟩=some (.bool a1):=h.cell rfl;have k12:w.cell? ⟨r,12,none⟩=some (.bool a2):=h.cell rfl;have x5:w.frozen? ⟨r,5,none⟩=false:=h.frozen 5;have x9:w.frozen? ⟨r,9,none⟩=false:=h.frozen 9;have x10:w.frozen? ⟨r,10,none⟩=false:=h.frozen 10;have x11:w.frozen? ⟨r,11,none⟩=false:=h.frozen 11;have x12:w.frozen? ⟨r,12,none⟩=false:=h.frozen 12;have H:=zaa h;clear h
 go_enter Tryz.func202,Tryz.ntmps202
 go_wp2_with fail
 refine bodyPost_end (v:=.tuple #[]) (results_none rfl _ _ _) rfl ?_;exact⟨rfl,((((H.out.set 5 _).set 9 _).set 10 _).set 11 _).set 12 _,((((((Chg.refl (·= r) w).set (p:=⟨r,5,none⟩) (.inl rfl) _).set (p:=⟨r,9,none⟩) (.inl rfl) _).set (p:=⟨r,10,none⟩) (.inl rfl) _).set (p:=⟨r,11,none⟩) (.inl rfl) _).set (p:=⟨r,12,none⟩) (.inl rfl) _)⟩
theorem zfi (h:RowIs w r 149 (RunC ti (.slice a c.ts.length tc) c m v t s)):Calls Tryz.prog 135 #[.pointer (some ⟨r,1,none⟩)] w fun e W=>e=.returned (.bool (zaj c))/\w=W:=by
 obtain⟨ts,rest,st,pos,wk,pa,un,nu,ba,a0,a1,a2⟩:=c;have k3:w.cell? ⟨r,3,none⟩=some (.int .i64 st):=h.cell rfl;clear h;show Calls _ _ _ _ fun e W=>e=.returned (.bool (decide (st=3\/st=4)))/\w=W;by_cases h3:st=3
 ·subst h3
  go_enter Tryz.func135,Tryz.ntmps135
  go_wp2_with fail
  go_ret;exact⟨rfl,rfl⟩
 ·by_cases h4:st=4
  ·subst h4
   go_enter Tryz.func135,Tryz.ntmps135
   go_wp2_with fail
   go_ret;exact⟨rfl,rfl⟩
  ·rw[decide_eq_false (by omega)]
   go_enter Tryz.func135,Tryz.ntmps135
   go_wp2_with fail
   go_ret;exact⟨zbx (by simp[h3,h4]),rfl⟩
theorem zis (hst:c.st=1\/c.st=2)(h:RowIs w r 149 (RunC ti (.slice a c.ts.length tc) c m v t s)):Calls Tryz.prog 201 #[.pointer (some ⟨r,1,none⟩)] w fun e W=>e=.returned (.tuple #[])/\RowIs W r 149 (RunC ti (.slice a (zat c).ts.length tc) (zat c) m v t s)/\Chg (·= r) w W:=by
 obtain⟨ts,rest,st,pos,wk,pa,un,nu,ba,a0,a1,a2⟩:=c;have k1:w.cell? ⟨r,1,none⟩=some (.slice a ts.length tc):=h.cell rfl;have k3:w.cell? ⟨r,3,none⟩=some (.int .i64 st):=h.cell rfl;have k4:w.cell? ⟨r,4,none⟩=some (.int .i64 pos):=h.cell rfl;have x3:w.frozen? ⟨r,3,none⟩=false:=h.frozen 3;have x3':∀ n,(w.drewN n).frozen? ⟨r,3,none⟩=false:=fun _=>x3;have H:=zaa h;clear h;rcases (show st=1\/st=2 from hst)with h1|h3
 ·subst h1;by_cases h2:(ts.length:Int)<=pos
  ·have e2:zat ⟨ts,rest,1,pos,wk,pa,un,nu,ba,a0,a1,a2⟩=⟨ts,rest,3,pos,wk,pa,un,nu,ba,a0,a1,a2⟩:=by
    have e1:zbr ⟨ts,rest,1,pos,wk,pa,un,nu,ba,a0,a1,a2⟩=⟨ts,rest,3,pos,wk,pa,un,nu,ba,a0,a1,a2⟩:=by unfold zbr;rw[if_pos ⟨rfl,h2⟩]
    unfold zat;rw[e1];unfold zcr;rw[if_neg (by simp)]
   rw[e2];clear e2
   go_enter Tryz.func201,Tryz.ntmps201
   go_wp2_with fail
   go_quiet (fail)
   go_wp2_with fail
   refine bodyPost_end (v:=.tuple #[]) (results_none rfl _ _ _) rfl ?_;exact⟨rfl,H.out.set 3 _,((Chg.refl (·= r) w).set (p:=⟨r,3,none⟩) (.inl rfl) _).drewN _⟩
  ·have e2:zat ⟨ts,rest,1,pos,wk,pa,un,nu,ba,a0,a1,a2⟩=⟨ts,rest,1,pos,wk,pa,un,nu,ba,a0,a1,a2⟩:=by
    have e1:zbr ⟨ts,rest,1,pos,wk,pa,un,nu,ba,a0,a1,a2⟩=⟨ts,rest,1,pos,wk,pa,un,nu,ba,a0,a1,a2⟩:=by unfold zbr;rw[if_neg (fun h=>h2 h.2)]
    unfold zat;rw[e1];unfold zcr;rw[if_neg (by simp)]
   rw[e2];clear e2;have h2:pos<(ts.length:Int):=by omega
   go_enter Tryz.func201,Tryz.ntmps201
   go_wp2_with fail
   go_quiet (fail)
   go_wp2_with fail
   refine bodyPost_end (v:=.tuple #[]) (results_none rfl _ _ _) rfl ?_;exact⟨rfl,H.out,(Chg.refl (·= r) w).drewN _⟩
 ·subst h3;have e1:zbr ⟨ts,rest,2,pos,wk,pa,un,nu,ba,a0,a1,a2⟩=⟨ts,rest,2,pos,wk,pa,un,nu,ba,a0,a1,a2⟩:=by unfold zbr;rw[if_neg (by simp)]
  by_cases h2:pos<=0
  ·have e2:zat ⟨ts,rest,2,pos,wk,pa,un,nu,ba,a0,a1,a2⟩=⟨ts,rest,4,pos,wk,pa,un,nu,ba,a0,a1,a2⟩:=by unfold zat;rw[e1];unfold zcr;rw[if_pos ⟨rfl,h2⟩]
   rw[e2];clear e2 e1
   go_enter Tryz.func201,Tryz.ntmps201
   go_wp2_with fail
   go_quiet (fail)
   go_wp2_with fail
   refine bodyPost_end (v:=.tuple #[]) (results_none rfl _ _ _) rfl ?_;exact⟨rfl,H.out.set 3 _,((Chg.refl (·= r) w).set (p:=⟨r,3,none⟩) (.inl rfl) _).drewN _⟩
  ·have e2:zat ⟨ts,rest,2,pos,wk,pa,un,nu,ba,a0,a1,a2⟩=⟨ts,rest,2,pos,wk,pa,un,nu,ba,a0,a1,a2⟩:=by unfold zat;rw[e1];unfold zcr;rw[if_neg (fun h=>h2 h.2)]
   rw[e2];clear e2 e1;have h2:0<pos:=by omega
   go_enter Tryz.func201,Tryz.ntmps201
   go_wp2_with fail
   go_quiet (fail)
   go_wp2_with fail
   refine bodyPost_end (v:=.tuple #[]) (results_none rfl _ _ _) rfl ?_;exact⟨rfl,H.out,(Chg.refl (·= r) w).drewN _⟩
theorem zev (z:Int)(h:RowIs w r 149 (RunC ti (.slice a c.ts.length tc) c m v t s)):Calls Tryz.prog 235 #[.pointer (some ⟨r,1,none⟩),.int .i64 z] w fun e W=>e=.returned (.int .i64 (frst c.a0 c.a1 c.a2 z))/\W=w:=by
 obtain⟨ts,rest,st,pos,wk,pa,un,nu,ba,a0,a1,a2⟩:=c;have k10:w.cell? ⟨r,10,none⟩=some (.bool a0):=h.cell rfl;have k11:w.cell? ⟨r,11,none⟩=some (.bool a1):=h.cell rfl;have k12:w.cell? ⟨r,12,none⟩=some (.bool a2):=h.cell rfl;clear h;show Calls _ _ _ _ fun e W=>e=.returned (.int .i64 (frst a0 a1 a2 z))/\W=w
 go_enter Tryz.func235,Tryz.ntmps235
 go_wp2_with fail
 go_loopw [11] (fun vi wr=>∃ i:Nat,i<=3/\vi=.int .i64 i/\wr=w/\(0<i->0<z->a0=true)/\(1<i->1<z->a1=true)/\(2<i->2<z->a2=true)) (fun vi _=>3-(intOf vi).toNat)
 case atStart=>exact⟨0,by omega,rfl,rfl,fun h=>by omega,fun h=>by omega,fun h=>by omega⟩
 case round =>
  obtain⟨i,hi,rfl,rfl,q0,q1,q2⟩:=hrel;have hc:i=0\/i=1\/i=2\/i=3:=by omega
  rcases hc with rfl|rfl|rfl|rfl
  ·have hidx:∀ W,(Instr.index 140 (.agg #[.bool a0,.bool a1,.bool a2]) (.int .i64 0)).run Tryz.prog W=.ok (.bool a0) W:=fun W=>zgx (P:=Tryz.prog) (w:=W) 140 4 .bool 3 _ .i64 0 Tryz.underlying140 Tryz.infoBool Tryz.underlying4 (fun _ h=>by cases h) (fun _ _ h=>by cases h) (by omega) _ rfl;by_cases hz:(0:Int)<z
   ·cases a0 with
    |false =>
     go_wp2_with fail
     go_ret;exact⟨zck (by unfold frst;rw[if_pos ⟨hz,rfl⟩];rfl),rfl⟩
    |true =>
     go_wp2_with fail
     go_roundw
     case rel=>exact⟨1,by omega,by first|rfl|trivial,by first|rfl|trivial,fun _ _=>(by first|rfl|trivial),fun h=>by omega,fun h=>by omega⟩
     case measure=>simp[intOf]
   ·go_wp2_with fail
    go_roundw
    case rel=>exact⟨1,by omega,by first|rfl|trivial,by first|rfl|trivial,fun _ h=>absurd h hz,fun h=>by omega,fun h=>by omega⟩
    case measure=>simp[intOf]
  ·have hidx:∀ W,(Instr.index 140 (.agg #[.bool a0,.bool a1,.bool a2]) (.int .i64 1)).run Tryz.prog W=.ok (.bool a1) W:=fun W=>zgx (P:=Tryz.prog) (w:=W) 140 4 .bool 3 _ .i64 1 Tryz.underlying140 Tryz.infoBool Tryz.underlying4 (fun _ h=>by cases h) (fun _ _ h=>by cases h) (by omega) _ rfl;by_cases hz:(1:Int)<z
   ·cases a1 with
    |false =>
     go_wp2_with fail
     go_ret;exact⟨zck (by unfold frst;rw[if_neg (fun h=>by have:=q0 (by omega) h.1;rw[h.2]at this;cases this)];rw[if_pos ⟨hz,rfl⟩];rfl),rfl⟩
    |true =>
     go_wp2_with fail
     go_roundw
     case rel=>exact⟨2,by omega,by first|rfl|trivial,by first|rfl|trivial,fun _=>q0 (by omega),fun _ _=>(by first|rfl|trivial),fun h=>by omega⟩
     case measure=>simp[intOf]
   ·go_wp2_with fail
    go_roundw
    case rel=>exact⟨2,by omega,by first|rfl|trivial,by first|rfl|trivial,fun _=>q0 (by omega),fun _ h=>absurd h hz,fun h=>by omega⟩
    case measure=>simp[intOf]
  ·have hidx:∀ W,(Instr.index 140 (.agg #[.bool a0,.bool a1,.bool a2]) (.int .i64 2)).run Tryz.prog W=.ok (.bool a2) W:=fun W=>zgx (P:=Tryz.prog) (w:=W) 140 4 .bool 3 _ .i64 2 Tryz.underlying140 Tryz.infoBool Tryz.underlying4 (fun _ h=>by cases h) (fun _ _ h=>by cases h) (by omega) _ rfl;by_cases hz:(2:Int)<z
   ·cases a2 with
    |false =>
     go_wp2_with fail
     go_ret;exact⟨zck (by unfold frst;rw[if_neg (fun h=>by have:=q0 (by omega) h.1;rw[h.2]at this;cases this),if_neg (fun h=>by have:=q1 (by omega) h.1;rw[h.2]at this;cases this)];rw[if_pos ⟨hz,rfl⟩];rfl),rfl⟩
    |true =>
     go_wp2_with fail
     go_roundw
     case rel=>exact⟨3,by omega,by first|rfl|trivial,by first|rfl|trivial,fun _=>q0 (by omega),fun _=>q1 (by omega),fun _ _=>(by first|rfl|trivial)⟩
     case measure=>simp[intOf]
   ·go_wp2_with fail
    go_roundw
    case rel=>exact⟨3,by omega,by first|rfl|trivial,by first|rfl|trivial,fun _=>q0 (by omega),fun _=>q1 (by omega),fun _ h=>absurd h hz⟩
    case measure=>simp[intOf]
  ·go_wp2_with fail
   go_ret;exact⟨zck (by unfold frst;rw[if_neg (fun h=>by have:=q0 (by omega) h.1;rw[h.2]at this;cases this),if_neg (fun h=>by have:=q1 (by omega) h.1;rw[h.2]at this;cases this),if_neg (fun h=>by have:=q2 (by omega) h.1;rw[h.2]at this;cases this)]),rfl⟩
theorem zxa (z:Int)(h:RowIs w r 149 (RunC ti (.slice a c.ts.length tc) c m v t s)):Calls Tryz.prog 235 #[.pointer (some ⟨r,1,none⟩),.int .i64 z] w fun e W=>e=.returned (.int .i64 (frst c.a0 c.a1 c.a2 z))/\Below w.heap.size w W :=
 (zev z h).mono fun e W h=>⟨h.1,by rw[h.2];exact Below.refl _ _⟩
theorem zvu {g:Nat}(hst:c.st=2)(hl:c.ts.length<=200)(hp:0<c.pos/\c.pos<=c.ts.length)(h:RowIs w r 149 (RunC ti (.slice (some ⟨g,0,none⟩) c.ts.length tc) c m v t s))(ht:TsksAt w g c.ts):Calls Tryz.prog 234 #[.pointer (some ⟨r,1,none⟩)] w fun e W=>e=.returned (.agg #[.int .i64 (curT c).s,.int .i64 (curT c).z,.int .i64 (curT c).b,.int .i64 (curT c).r])/\Below w.heap.size w W:=by
 obtain⟨T,hT⟩:∃ T,T=curT c:=⟨_,rfl⟩;rw[<- hT];obtain⟨ts,rest,st,pos,wk,pa,un,nu,ba,a0,a1,a2⟩:=c;have k1:w.cell? ⟨r,1,none⟩=some (.slice (some ⟨g,0,none⟩) ts.length tc):=h.cell rfl;have k3:w.cell? ⟨r,3,none⟩=some (.int .i64 st):=h.cell rfl;have k4:w.cell? ⟨r,4,none⟩=some (.int .i64 pos):=h.cell rfl;clear h;simp only at hp ht hst hl;have HT:=zaa hT;have HTS:=zaa ht;clear hT ht;subst hst;have hb:True:=trivial;obtain⟨i,hi⟩:∃ i:Nat,pos-1=i:=⟨(pos-1).toNat,by omega⟩;obtain⟨q,hq⟩:∃ q,ts[i]?=some q:=⟨ts[i]'(by omega),xg _⟩;obtain⟨c0,c1,c2,c3⟩:=HTS.out i q hq;have hT:T=⟨q.s,q.z,q.b,q.b⟩:=by
  rw[HT.out];unfold curT numC numB;simp only[if_true];rw[hi,if_pos (by simp;omega)];simp[hq]
 have hnb:numB (i:Int) ts.length=true:=by unfold numB;simp;omega
 have hn:=fun W=>za5 (i:Int) (ts.length:Int) W;rw[hnb]at hn;have hx0:(0:Int)<=(i:Int):=by omega
 have hx1:(i:Int)<(ts.length:Int):=by omega
 rw[hT];obtain rfl:pos=i+1:=by omega
 clear HT hT hnb hq HTS hi hb;generalize ts.length=n at *;obtain⟨s0,z0,b0,r0⟩:=q;simp only at c0 c1 c2 c3;have lr:=zag k4;have lg:=zag c0
 go_enter Tryz.func234,Tryz.ntmps234
 go_wp2_with (first|(go_at_call 178;refine(hn _).mono ?_;rintro e _ ⟨rfl,rfl⟩))
 refine bodyPost_ret (v:=.agg #[.int .i64 s0,.int .i64 z0,.int .i64 b0,.int .i64 b0]) (by simp[results,Tryz.results234,go_sem]) rfl ⟨rfl,thn3 (bel1 _ _) (bel1 _ _)⟩
theorem zvv {g:Nat}(hst:c.st=1)(hl:c.ts.length<=200)(hp:0<=c.pos/\c.pos<c.ts.length)(h:RowIs w r 149 (RunC ti (.slice (some ⟨g,0,none⟩) c.ts.length tc) c m v t s))(ht:TsksAt w g c.ts):Calls Tryz.prog 234 #[.pointer (some ⟨r,1,none⟩)] w fun e W=>e=.returned (.agg #[.int .i64 (curT c).s,.int .i64 (curT c).z,.int .i64 (curT c).b,.int .i64 (curT c).r])/\Below w.heap.size w W:=by
 obtain⟨T,hT⟩:∃ T,T=curT c:=⟨_,rfl⟩;rw[<- hT];obtain⟨ts,rest,st,pos,wk,pa,un,nu,ba,a0,a1,a2⟩:=c;have k1:w.cell? ⟨r,1,none⟩=some (.slice (some ⟨g,0,none⟩) ts.length tc):=h.cell rfl;have k3:w.cell? ⟨r,3,none⟩=some (.int .i64 st):=h.cell rfl;have k4:w.cell? ⟨r,4,none⟩=some (.int .i64 pos):=h.cell rfl;clear h;simp only at hp ht hst hl;have HT:=zaa hT;have HTS:=zaa ht;clear hT ht;subst hst;have hb:True:=trivial;obtain⟨i,hi⟩:∃ i:Nat,pos=i:=⟨(pos).toNat,by omega⟩;obtain⟨q,hq⟩:∃ q,ts[i]?=some q:=⟨ts[i]'(by omega),xg _⟩;obtain⟨c0,c1,c2,c3⟩:=HTS.out i q hq;have hT:T=⟨q.s,q.z,q.b,q.r⟩:=by
  rw[HT.out];unfold curT numC numB;simp only[if_false];rw[hi,if_pos (by simp;omega)];simp[hq]
 have hnb:numB (i:Int) ts.length=true:=by unfold numB;simp;omega
 have hn:=fun W=>za5 (i:Int) (ts.length:Int) W;rw[hnb]at hn;have hx0:(0:Int)<=(i:Int):=by omega
 have hx1:(i:Int)<(ts.length:Int):=by omega
 rw[hT];obtain rfl:pos=i:=by omega
 clear HT hT hnb hq HTS hi hb;generalize ts.length=n at *;obtain⟨s0,z0,b0,r0⟩:=q;simp only at c0 c1 c2 c3;have lr:=zag k4;have lg:=zag c0
 go_enter Tryz.func234,Tryz.ntmps234
 go_wp2_with (first|(go_at_call 178;refine(hn _).mono ?_;rintro e _ ⟨rfl,rfl⟩))
 refine bodyPost_ret (v:=.agg #[.int .i64 s0,.int .i64 z0,.int .i64 b0,.int .i64 r0]) (by simp[results,Tryz.results234,go_sem]) rfl ⟨rfl,thn3 (bel1 _ _) (bel1 _ _)⟩
def zby (c:CtlD):Prop:=c.ts.length<=200/\((c.st=1/\0<=c.pos/\c.pos<c.ts.length)\/(c.st=2/\0<c.pos/\c.pos<=c.ts.length))
theorem zes {g:Nat}(hc:zby c)(h:RowIs w r 149 (RunC ti (.slice (some ⟨g,0,none⟩) c.ts.length tc) c m v t s))(ht:TsksAt w g c.ts):Calls Tryz.prog 234 #[.pointer (some ⟨r,1,none⟩)] w fun e W=>e=.returned (.agg #[.int .i64 (curT c).s,.int .i64 (curT c).z,.int .i64 (curT c).b,.int .i64 (curT c).r])/\Below w.heap.size w W:=by
 obtain⟨hl,⟨h1,h2⟩|⟨h1,h2⟩⟩:=hc
 ·exact zvv h1 hl h2 h ht
 ·exact zvu h1 hl h2 h ht
theorem TsksAt.keep {w w':World}(hb:Below w.heap.size w w'){g:Nat}{ts:List TskD}(ht:TsksAt w g ts):TsksAt w' g ts:=fun i t hi=>by
 obtain⟨a,b,c,d⟩:=ht i t hi;exact⟨zab hb a,zab hb b,zab hb c,zab hb d⟩
theorem znb {g:Nat}(hc:zby c)(hn:0<=c.nu/\c.nu<=4000000000)(h:RowIs w r 149 (RunC ti (.slice (some ⟨g,0,none⟩) c.ts.length tc) c m v t s))(ht:TsksAt w g c.ts):Calls Tryz.prog 233 #[.pointer (some ⟨r,1,none⟩)] w fun e W=>e=.returned (.tuple #[.agg #[.int .i64 (cmdM c).k,.int .i64 (cmdM c).n,.int .i64 (cmdM c).s,.int .i64 (cmdM c).i,.int .i64 (cmdM c).r],.bool (cmdB c)])/\RowIs W r 149 (RunC ti (.slice (some ⟨g,0,none⟩) (cmdC c).ts.length tc) (cmdC c) m v t s)/\Chg (·= r) w W:=by
 have c1:=fun (W:World) (hb:Below w.heap.size w W)=>zes hc (h.keep hb) (ht.keep hb);have c2:=fun (W:World) (hb:Below w.heap.size w W)=>zxa (curT c).z (h.keep hb);have H:=zaa h;have lr:=h.lt;have hcm:cmdB c=decide (frst c.a0 c.a1 c.a2 (curT c).z<(curT c).z):=rfl;cases hB:cmdB c with
 |true =>
  have hM:cmdM c=⟨1,c.nu+1,(curT c).s,frst c.a0 c.a1 c.a2 (curT c).z,(curT c).r⟩:=by unfold cmdM;rw[if_pos hB]
  have hC:cmdC c={ c with nu:=c.nu+1 }:=by unfold cmdC;rw[if_pos hB]
  have hf:frst c.a0 c.a1 c.a2 (curT c).z<(curT c).z:=by rw[hB]at hcm;simpa using hcm
  rw[hM,hC];have hx8:=fun (W:World) (hb:Below w.heap.size w W)=>(show W.cell? ⟨r,8,none⟩=some (.int .i64 c.nu) from(h.keep hb).cell rfl);have hf8:=fun (W:World) (hb:Below w.heap.size w W)=>(h.keep hb).frozen 8;clear h ht hc hM hC hcm hB;generalize frst c.a0 c.a1 c.a2 (curT c).z=F at *;generalize curT c=T at *;generalize hnu:c.nu=nu at *;obtain⟨s0,z0,b0,r0⟩:=T;simp only at c1 c2 hf;simp only
  go_enter Tryz.func233,Tryz.ntmps233
  go_wp2_with (first
   |(go_at_call 234;refine(c1 _ (bel1 _ _)).mono ?_;rintro e w1 ⟨rfl,hb1⟩;have B1:=thn3 (bel1 w _) hb1)
   |(go_at_call 235;refine(c2 _ (thn3 B1 (bel1 _ _))).mono ?_;rintro e w2 ⟨rfl,hb2⟩;have B2:=thn3 (thn3 B1 (bel1 _ _)) hb2;have k8:=hx8 _ B2;have x8:=hf8 _ B2;have T2:=zaa ((show RowIs (w1.alloc (.cells #[.int .i64 s0,.int .i64 z0,.int .i64 b0,.int .i64 r0] 303)) w1.heap.size 303 [.int .i64 s0,.int .i64 z0,.int .i64 b0,.int .i64 r0]from zal _ _).keep hb2);have Z2:=zaa ((((show RowIs (w.alloc (.cells #[.int .i64 0,.int .i64 0,.int .i64 0,.int .i64 0,.int .i64 0] 100)) w.heap.size 100 [.int .i64 0,.int .i64 0,.int .i64 0,.int .i64 0,.int .i64 0]from zal _ _).keep hb1).keep (bel1 _ _)).keep hb2);have t0:=T2.out.cell (j:=0) rfl;have t1:=T2.out.cell (j:=1) rfl;have t2:=T2.out.cell (j:=2) rfl;have t3:=T2.out.cell (j:=3) rfl;have n1:w1.heap.size≠r:=(by have:=B1.size;omega);have n2:w.heap.size≠r:=(by omega);have y0:=(Z2.out.setOther (p:=⟨r,8,none⟩) n2.symm (.int .i64 (nu+1))).cell (j:=0) rfl;have y1:=(Z2.out.setOther (p:=⟨r,8,none⟩) n2.symm (.int .i64 (nu+1))).cell (j:=1) rfl;have y2:=(Z2.out.setOther (p:=⟨r,8,none⟩) n2.symm (.int .i64 (nu+1))).cell (j:=2) rfl;have y3:=(Z2.out.setOther (p:=⟨r,8,none⟩) n2.symm (.int .i64 (nu+1))).cell (j:=3) rfl;have y4:=(Z2.out.setOther (p:=⟨r,8,none⟩) n2.symm (.int .i64 (nu+1))).cell (j:=4) rfl))
  have q8:=((H.out.keep B2).set 8 (.int .i64 (nu+1))).cell (j:=8) (v:=.int .i64 (nu+1)) rfl;have u0:=(T2.out.setOther (p:=⟨r,8,none⟩) n1.symm (.int .i64 (nu+1))).cell (j:=0) rfl;have u3:=(T2.out.setOther (p:=⟨r,8,none⟩) n1.symm (.int .i64 (nu+1))).cell (j:=3) rfl;have f0:=(Z2.out.setOther (p:=⟨r,8,none⟩) n2.symm (.int .i64 (nu+1))).frozen 0;have f1:=(Z2.out.setOther (p:=⟨r,8,none⟩) n2.symm (.int .i64 (nu+1))).frozen 1;have f2:=(Z2.out.setOther (p:=⟨r,8,none⟩) n2.symm (.int .i64 (nu+1))).frozen 2;have f3:=(Z2.out.setOther (p:=⟨r,8,none⟩) n2.symm (.int .i64 (nu+1))).frozen 3;have f4:=(Z2.out.setOther (p:=⟨r,8,none⟩) n2.symm (.int .i64 (nu+1))).frozen 4
  go_big_region
  go_wp2_with fail
  have Z3:=(((((Z2.out.setOther (p:=⟨r,8,none⟩) n2.symm (.int .i64 (nu+1))).set 0 (.int .i64 1)).set 1 (.int .i64 (nu+1))).set 2 (.int .i64 s0)).set 3 (.int .i64 F)).set 4 (.int .i64 r0);have o0:=Z3.drew.cell (j:=0) rfl;have o1:=Z3.drew.cell (j:=1) rfl;have o2:=Z3.drew.cell (j:=2) rfl;have o3:=Z3.drew.cell (j:=3) rfl;have o4:=Z3.drew.cell (j:=4) rfl;refine bodyPost_ret (v:=.tuple #[.agg #[.int .i64 1,.int .i64 (nu+1),.int .i64 s0,.int .i64 F,.int .i64 r0],.bool true]) (by simp[results,Tryz.results233,go_sem,o0,o1,o2,o3,o4]) rfl ?_;refine⟨rfl,?_,(((((((Chg.of (S:=(·= r)) B2).set (p:=⟨r,8,none⟩) (.inl rfl) _).set (p:=⟨w.heap.size,0,none⟩) (.inr (xe _)) _).set (p:=⟨w.heap.size,1,none⟩) (.inr (xe _)) _).set (p:=⟨w.heap.size,2,none⟩) (.inr (xe _)) _).set (p:=⟨w.heap.size,3,none⟩) (.inr (xe _)) _).set (p:=⟨w.heap.size,4,none⟩) (.inr (xe _)) _).drew⟩;exact(((((((H.out.keep B2).set 8 (.int .i64 (nu+1))).setOther (p:=⟨w.heap.size,0,none⟩) n2 _).setOther (p:=⟨w.heap.size,1,none⟩) n2 _).setOther (p:=⟨w.heap.size,2,none⟩) n2 _).setOther (p:=⟨w.heap.size,3,none⟩) n2 _).setOther (p:=⟨w.heap.size,4,none⟩) n2 _).drew
 |false =>
  have hM:cmdM c=msg0:=by unfold cmdM;rw[if_neg (by rw[hB];simp)]
  have hC:cmdC c=c:=by unfold cmdC;rw[if_neg (by rw[hB];simp)]
  have hf:(curT c).z<=frst c.a0 c.a1 c.a2 (curT c).z:=by rw[hB]at hcm;have:=of_decide_eq_false hcm.symm;omega
  rw[hM,hC];clear h ht hc hM hC hcm hB;generalize frst c.a0 c.a1 c.a2 (curT c).z=F at *;generalize curT c=T at *;obtain⟨s0,z0,b0,r0⟩:=T;simp only at c1 c2 hf;unfold msg0;simp only
  go_enter Tryz.func233,Tryz.ntmps233
  go_wp2_with (first
   |(go_at_call 234;refine(c1 _ (bel1 _ _)).mono ?_;rintro e w1 ⟨rfl,hb1⟩;have B1:=thn3 (bel1 w _) hb1)
   |(go_at_call 235;refine(c2 _ (thn3 B1 (bel1 _ _))).mono ?_;rintro e w2 ⟨rfl,hb2⟩;have B2:=thn3 (thn3 B1 (bel1 _ _)) hb2;have T2:=zaa ((show RowIs (w1.alloc (.cells #[.int .i64 s0,.int .i64 z0,.int .i64 b0,.int .i64 r0] 303)) w1.heap.size 303 [.int .i64 s0,.int .i64 z0,.int .i64 b0,.int .i64 r0]from zal _ _).keep hb2);have Z2:=zaa ((((show RowIs (w.alloc (.cells #[.int .i64 0,.int .i64 0,.int .i64 0,.int .i64 0,.int .i64 0] 100)) w.heap.size 100 [.int .i64 0,.int .i64 0,.int .i64 0,.int .i64 0,.int .i64 0]from zal _ _).keep hb1).keep (bel1 _ _)).keep hb2);have t1:=T2.out.cell (j:=1) rfl;have y0:=Z2.out.cell (j:=0) rfl;have y1:=Z2.out.cell (j:=1) rfl;have y2:=Z2.out.cell (j:=2) rfl;have y3:=Z2.out.cell (j:=3) rfl;have y4:=Z2.out.cell (j:=4) rfl;have f0:=Z2.out.frozen 0;have f1:=Z2.out.frozen 1;have f2:=Z2.out.frozen 2;have f3:=Z2.out.frozen 3;have f4:=Z2.out.frozen 4))
  have Z3:=((((Z2.out.set 0 (.int .i64 0)).set 1 (.int .i64 0)).set 2 (.int .i64 0)).set 3 (.int .i64 0)).set 4 (.int .i64 0);have o0:=Z3.cell (j:=0) rfl;have o1:=Z3.cell (j:=1) rfl;have o2:=Z3.cell (j:=2) rfl;have o3:=Z3.cell (j:=3) rfl;have o4:=Z3.cell (j:=4) rfl;have n2:w.heap.size≠r:=by omega
  refine bodyPost_ret (v:=.tuple #[.agg #[.int .i64 0,.int .i64 0,.int .i64 0,.int .i64 0,.int .i64 0],.bool false]) (by simp[results,Tryz.results233,go_sem,o0,o1,o2,o3,o4]) rfl ?_;refine⟨rfl,?_,(((((Chg.of (S:=(·= r)) B2).set (p:=⟨w.heap.size,0,none⟩) (.inr (xe _)) _).set (p:=⟨w.heap.size,1,none⟩) (.inr (xe _)) _).set (p:=⟨w.heap.size,2,none⟩) (.inr (xe _)) _).set (p:=⟨w.heap.size,3,none⟩) (.inr (xe _)) _).set (p:=⟨w.heap.size,4,none⟩) (.inr (xe _)) _⟩;exact(((((H.out.keep B2).setOther (p:=⟨w.heap.size,0,none⟩) n2 _).setOther (p:=⟨w.heap.size,1,none⟩) n2 _).setOther (p:=⟨w.heap.size,2,none⟩) n2 _).setOther (p:=⟨w.heap.size,3,none⟩) n2 _).setOther (p:=⟨w.heap.size,4,none⟩) n2 _
end
section
variable {ti:Int}{a:Option Addr}{tc:Nat}{m v t s:Value}{c:CtlD}{r:Nat}{w:World}
theorem zkg (time:Int)(hst:c.st=1\/c.st=2)(hb:0<=time/\time<=4000000000/\0<=c.rest/\c.rest<=4000000000/\0<=c.pos/\c.pos<=4000000000)(h:RowIs w r 149 (RunC ti (.slice a c.ts.length tc) c m v t s)):Calls Tryz.prog 236 #[.pointer (some ⟨r,1,none⟩),.int .i64 time] w fun e W=>e=.returned (.tuple #[])/\RowIs W r 149 (RunC ti (.slice a (finC c time).ts.length tc) (finC c time) m v t s)/\Chg (·= r) w W:=by
 obtain⟨ts,rest,st,pos,wk,pa,un,nu,ba,a0,a1,a2⟩:=c;simp only at hst hb;obtain⟨t0,t1,r0,r1,p0,p1⟩:=hb;have lr:=h.lt;have k2:w.cell? ⟨r,2,none⟩=some (.int .i64 rest):=h.cell rfl;have k3:w.cell? ⟨r,3,none⟩=some (.int .i64 st):=h.cell rfl;have k4:w.cell? ⟨r,4,none⟩=some (.int .i64 pos):=h.cell rfl;have k5:w.cell? ⟨r,5,none⟩=some (.bool wk):=h.cell rfl;have k7:w.cell? ⟨r,7,none⟩=some (.int .i64 un):=h.cell rfl;have x4:w.frozen? ⟨r,4,none⟩=false:=h.frozen 4;have x5:w.frozen? ⟨r,5,none⟩=false:=h.frozen 5;have x7:w.frozen? ⟨r,7,none⟩=false:=h.frozen 7;have H:=zaa h;clear h;rcases hst with rfl|rfl
 ·have c1:=fun (W:World) (h:RowIs W r 149 (RunC ti (.slice a ts.length tc) ⟨ts,rest,1,pos+1,false,pa,time+rest,nu,ba,a0,a1,a2⟩ m v t s))=>zis (c:=⟨ts,rest,1,pos+1,false,pa,time+rest,nu,ba,a0,a1,a2⟩) (.inl rfl) h;have HN:=zaa (((H.out.set 5 (.bool false)).set 4 (.int .i64 (pos+1))).set 7 (.int .i64 (time+rest)));have e:finC ⟨ts,rest,1,pos,wk,pa,un,nu,ba,a0,a1,a2⟩ time=zat ⟨ts,rest,1,pos+1,false,pa,time+rest,nu,ba,a0,a1,a2⟩:=by unfold finC;rfl
  rw[e];clear e
  go_enter Tryz.func236,Tryz.ntmps236
  go_wp2_with (first|(go_at_call 201;refine(c1 _ (HN.out)).mono ?_;rintro e w2 ⟨rfl,hr2,hc2⟩))
  refine bodyPost_end (v:=.tuple #[]) (results_none rfl _ _ _) rfl ?_;exact⟨rfl,hr2,Chg.trans ((((Chg.refl (·= r) w).set (p:=⟨r,5,none⟩) (.inl rfl) _).set (p:=⟨r,4,none⟩) (.inl rfl) _).set (p:=⟨r,7,none⟩) (.inl rfl) _) hc2⟩
 ·have c1:=fun (W:World) (h:RowIs W r 149 (RunC ti (.slice a ts.length tc) ⟨ts,rest,2,pos-1,false,pa,time+rest,nu,ba,a0,a1,a2⟩ m v t s))=>zis (c:=⟨ts,rest,2,pos-1,false,pa,time+rest,nu,ba,a0,a1,a2⟩) (.inr rfl) h;have HN:=zaa (((H.out.set 5 (.bool false)).set 4 (.int .i64 (pos-1))).set 7 (.int .i64 (time+rest)));have e:finC ⟨ts,rest,2,pos,wk,pa,un,nu,ba,a0,a1,a2⟩ time=zat ⟨ts,rest,2,pos-1,false,pa,time+rest,nu,ba,a0,a1,a2⟩:=by unfold finC;rfl
  rw[e];clear e
  go_enter Tryz.func236,Tryz.ntmps236
  go_wp2_with (first|(go_at_call 201;refine(c1 _ (HN.out)).mono ?_;rintro e w2 ⟨rfl,hr2,hc2⟩))
  refine bodyPost_end (v:=.tuple #[]) (results_none rfl _ _ _) rfl ?_;exact⟨rfl,hr2,Chg.trans ((((Chg.refl (·= r) w).set (p:=⟨r,5,none⟩) (.inl rfl) _).set (p:=⟨r,4,none⟩) (.inl rfl) _).set (p:=⟨r,7,none⟩) (.inl rfl) _) hc2⟩
theorem yad7 (hb:0<=c.pos/\c.pos<=4000000000)(h:RowIs w r 149 (RunC ti (.slice a c.ts.length tc) c m v t s)):Calls Tryz.prog 136 #[.pointer (some ⟨r,1,none⟩)] w fun e W=>e=.returned (.tuple #[])/\RowIs W r 149 (RunC ti (.slice a (zc9 c).ts.length tc) (zc9 c) m v t s)/\Chg (·= r) w W:=by
 obtain⟨ts,rest,st,pos,wk,pa,un,nu,ba,a0,a1,a2⟩:=c;simp only at hb;have lr:=h.lt;have k3:w.cell? ⟨r,3,none⟩=some (.int .i64 st):=h.cell rfl;have k4:w.cell? ⟨r,4,none⟩=some (.int .i64 pos):=h.cell rfl;have k5:w.cell? ⟨r,5,none⟩=some (.bool wk):=h.cell rfl;have x3:w.frozen? ⟨r,3,none⟩=false:=h.frozen 3;have x4:w.frozen? ⟨r,4,none⟩=false:=h.frozen 4;have H:=zaa h;clear h;cases wk with
 |true =>
  have c0:=fun (W:World) (h:RowIs W r 149 (RunC ti (.slice a ts.length tc) ⟨ts,rest,2,pos+1,true,pa,un,nu,ba,a0,a1,a2⟩ m v t s))=>zju (c:=⟨ts,rest,2,pos+1,true,pa,un,nu,ba,a0,a1,a2⟩) h;have c1:=fun (W:World) (h:RowIs W r 149 (RunC ti (.slice a ts.length tc) (begC ⟨ts,rest,2,pos+1,true,pa,un,nu,ba,a0,a1,a2⟩) m v t s))=>zis (c:=begC ⟨ts,rest,2,pos+1,true,pa,un,nu,ba,a0,a1,a2⟩) (.inr rfl) h;have HN:=zaa ((H.out.set 3 (.int .i64 2)).set 4 (.int .i64 (pos+1)))
  go_enter Tryz.func136,Tryz.ntmps136
  go_wp2_with (first
   |(go_at_call 202;refine(c0 _ (HN.out)).mono ?_;rintro e w1 ⟨rfl,hr1,hc1⟩)
   |(go_at_call 201;refine(c1 _ (hr1)).mono ?_;rintro e w2 ⟨rfl,hr2,hc2⟩))
  refine bodyPost_end (v:=.tuple #[]) (results_none rfl _ _ _) rfl ?_;exact⟨rfl,hr2,(Chg.trans (((Chg.refl (·= r) w).set (p:=⟨r,3,none⟩) (.inl rfl) _).set (p:=⟨r,4,none⟩) (.inl rfl) _) hc1).trans hc2⟩
 |false =>
  have c1:=fun (W:World) (h:RowIs W r 149 (RunC ti (.slice a ts.length tc) ⟨ts,rest,2,pos,false,pa,un,nu,ba,a0,a1,a2⟩ m v t s))=>zis (c:=⟨ts,rest,2,pos,false,pa,un,nu,ba,a0,a1,a2⟩) (.inr rfl) h;have HN:=zaa (H.out.set 3 (.int .i64 2))
  go_enter Tryz.func136,Tryz.ntmps136
  go_wp2_with (first
   |(go_at_call 201;refine(c1 _ (HN.out)).mono ?_;rintro e w2 ⟨rfl,hr2,hc2⟩))
  refine bodyPost_end (v:=.tuple #[]) (results_none rfl _ _ _) rfl ?_;exact⟨rfl,hr2,Chg.trans ((Chg.refl (·= r) w).set (p:=⟨r,3,none⟩) (.inl rfl) _) hc2⟩
theorem zvo (time:Int)(hb:0<=time/\time<=4000000000/\0<=c.rest/\c.rest<=4000000000)(h:RowIs w r 149 (RunC ti (.slice a c.ts.length tc) c m v t s)):Calls Tryz.prog 137 #[.pointer (some ⟨r,1,none⟩),.int .i64 time] w fun e W=>e=.returned (.tuple #[])/\RowIs W r 149 (RunC ti (.slice a (crsC c time).ts.length tc) (crsC c time) m v t s)/\Chg (·= r) w W:=by
 have c0:=zfi h;have c1:=zju h;unfold crsC;cases ho:zaj c with
 |true =>
  rw[ho]at c0;have H:=zaa h;clear h c1 hb;simp only[if_true]
  go_enter Tryz.func137,Tryz.ntmps137
  go_wp2_with (first|(go_at_call 135;refine c0.mono ?_;rintro e _ ⟨rfl,rfl⟩))
  refine bodyPost_ret (v:=.tuple #[]) (results_none rfl _ _ _) rfl ?_;exact⟨rfl,H.out,Chg.refl _ _⟩
 |false =>
  rw[ho]at c0;simp only[xh,if_false];obtain⟨ts,rest,st,pos,wk,pa,un,nu,ba,a0,a1,a2⟩:=c;simp only at hb;have lr:=h.lt;have k2:w.cell? ⟨r,2,none⟩=some (.int .i64 rest):=h.cell rfl;have k5:w.cell? ⟨r,5,none⟩=some (.bool wk):=h.cell rfl;have k7:w.cell? ⟨r,7,none⟩=some (.int .i64 un):=h.cell rfl;have x7:w.frozen? ⟨r,7,none⟩=false:=h.frozen 7;have H:=zaa h;clear h;cases wk with
  |true =>
   simp only[if_true]
   go_enter Tryz.func137,Tryz.ntmps137
   go_wp2_with (first
    |(go_at_call 135;refine c0.mono ?_;rintro e _ ⟨rfl,rfl⟩)
    |(go_at_call 202;refine c1.mono ?_;rintro e w2 ⟨rfl,hr2,hc2⟩))
   refine bodyPost_ret (v:=.tuple #[]) (results_none rfl _ _ _) rfl ?_;exact⟨rfl,hr2,hc2⟩
  |false =>
   simp only[xh,if_false]
   go_enter Tryz.func137,Tryz.ntmps137
   go_wp2_with (first
    |(go_at_call 135;refine c0.mono ?_;rintro e _ ⟨rfl,rfl⟩))
   refine bodyPost_end (v:=.tuple #[]) (results_none rfl _ _ _) rfl ?_;exact⟨rfl,H.out.set 7 _,((Chg.refl (·= r) w).set (p:=⟨r,7,none⟩) (.inl rfl) _)⟩
theorem zt6 {g:Nat}(time:Int)(hno:(c.pa||zaj c)=true)(h:RowIs w r 149 (RunC ti (.slice (some ⟨g,0,none⟩) c.ts.length tc) c m v t s)):Calls Tryz.prog 183 #[.pointer (some ⟨r,1,none⟩),.int .i64 time] w fun e W=>e=.returned (.tuple #[.agg #[.int .i64 0,.int .i64 0,.int .i64 0,.int .i64 0,.int .i64 0],.bool false])/\RowIs W r 149 (RunC ti (.slice (some ⟨g,0,none⟩) (c).ts.length tc) (c) m v t s)/\Chg (·= r) w W:=by
 have H:=zaa h;have lr:=h.lt;have n2:w.heap.size≠r:=by omega
 have Z:=zaa (show RowIs (w.alloc (.cells #[.int .i64 0,.int .i64 0,.int .i64 0,.int .i64 0,.int .i64 0] 100)) w.heap.size 100 [.int .i64 0,.int .i64 0,.int .i64 0,.int .i64 0,.int .i64 0]from zal _ _);have HA:=zaa (H.out.keep (bel1 w (.cells #[.int .i64 0,.int .i64 0,.int .i64 0,.int .i64 0,.int .i64 0] 100)));have c0:=zfi HA.out;have k6:w.cell? ⟨r,6,none⟩=some (.bool c.pa):=h.cell rfl;clear h;cases hp:c.pa with
 |true =>
  rw[hp]at k6
  go_enter Tryz.func183,Tryz.ntmps183
  go_wp2_with fail
  refine bodyPost_ret (v:=.tuple #[.agg #[.int .i64 0,.int .i64 0,.int .i64 0,.int .i64 0,.int .i64 0],.bool false]) (by simp[results,Tryz.results183,go_sem]) rfl ?_;exact⟨rfl,HA.out,Chg.of (bel1 _ _)⟩
 |false =>
  have ho:zaj c=true:=by rw[hp]at hno;simpa using hno
  rw[ho]at c0;rw[hp]at k6
  go_enter Tryz.func183,Tryz.ntmps183
  go_wp2_with (first|(go_at_call 135;refine c0.mono ?_;rintro e _ ⟨rfl,rfl⟩))
  refine bodyPost_ret (v:=.tuple #[.agg #[.int .i64 0,.int .i64 0,.int .i64 0,.int .i64 0,.int .i64 0],.bool false]) (by simp[results,Tryz.results183,go_sem]) rfl ?_;exact⟨rfl,HA.out,Chg.of (bel1 _ _)⟩
theorem zt8 {g:Nat}(time:Int)(hpa:c.pa=false)(ho:zaj c=false)(hw:c.wk=false)(hu:time<c.un)(h:RowIs w r 149 (RunC ti (.slice (some ⟨g,0,none⟩) c.ts.length tc) c m v t s)):Calls Tryz.prog 183 #[.pointer (some ⟨r,1,none⟩),.int .i64 time] w fun e W=>e=.returned (.tuple #[.agg #[.int .i64 0,.int .i64 0,.int .i64 0,.int .i64 0,.int .i64 0],.bool false])/\RowIs W r 149 (RunC ti (.slice (some ⟨g,0,none⟩) (c).ts.length tc) (c) m v t s)/\Chg (·= r) w W:=by
 have H:=zaa h;have lr:=h.lt;have n2:w.heap.size≠r:=by omega
 have Z:=zaa (show RowIs (w.alloc (.cells #[.int .i64 0,.int .i64 0,.int .i64 0,.int .i64 0,.int .i64 0] 100)) w.heap.size 100 [.int .i64 0,.int .i64 0,.int .i64 0,.int .i64 0,.int .i64 0]from zal _ _);have HA:=zaa (H.out.keep (bel1 w (.cells #[.int .i64 0,.int .i64 0,.int .i64 0,.int .i64 0,.int .i64 0] 100)));have c0:=zfi HA.out;rw[ho]at c0;have k6:w.cell? ⟨r,6,none⟩=some (.bool c.pa):=h.cell rfl;have k5:w.cell? ⟨r,5,none⟩=some (.bool c.wk):=h.cell rfl;have k7:w.cell? ⟨r,7,none⟩=some (.int .i64 c.un):=h.cell rfl;rw[hpa]at k6;rw[hw]at k5;clear h ho hpa hw;generalize c.un=un at k7 hu
 go_enter Tryz.func183,Tryz.ntmps183
 go_wp2_with (first|(go_at_call 135;refine c0.mono ?_;rintro e _ ⟨rfl,rfl⟩))
 refine bodyPost_ret (v:=.tuple #[.agg #[.int .i64 0,.int .i64 0,.int .i64 0,.int .i64 0,.int .i64 0],.bool false]) (by simp[results,Tryz.results183,go_sem]) rfl ?_;exact⟨rfl,HA.out,Chg.of (bel1 _ _)⟩
theorem zt9 {g:Nat}(time:Int)(hpa:c.pa=false)(ho:zaj c=false)(hw:c.wk=true)(hc:zby c)(hn:0<=c.nu/\c.nu<=4000000000)(ht:TsksAt w g c.ts)(h:RowIs w r 149 (RunC ti (.slice (some ⟨g,0,none⟩) c.ts.length tc) c m v t s)):Calls Tryz.prog 183 #[.pointer (some ⟨r,1,none⟩),.int .i64 time] w fun e W=>e=.returned (.tuple #[.agg #[.int .i64 (cmdM c).k,.int .i64 (cmdM c).n,.int .i64 (cmdM c).s,.int .i64 (cmdM c).i,.int .i64 (cmdM c).r],.bool (cmdB c)])/\RowIs W r 149 (RunC ti (.slice (some ⟨g,0,none⟩) (cmdC c).ts.length tc) (cmdC c) m v t s)/\Chg (·= r) w W:=by
 have H:=zaa h;have lr:=h.lt;have n2:w.heap.size≠r:=by omega
 have Z:=zaa (show RowIs (w.alloc (.cells #[.int .i64 0,.int .i64 0,.int .i64 0,.int .i64 0,.int .i64 0] 100)) w.heap.size 100 [.int .i64 0,.int .i64 0,.int .i64 0,.int .i64 0,.int .i64 0]from zal _ _);have HA:=zaa (H.out.keep (bel1 w (.cells #[.int .i64 0,.int .i64 0,.int .i64 0,.int .i64 0,.int .i64 0] 100)));have c0:=zfi HA.out;rw[ho]at c0;have k6:w.cell? ⟨r,6,none⟩=some (.bool c.pa):=h.cell rfl;have k5:w.cell? ⟨r,5,none⟩=some (.bool c.wk):=h.cell rfl;rw[hpa]at k6;rw[hw]at k5;have c2:=fun (W:World) (h:RowIs W r 149 (RunC ti (.slice (some ⟨g,0,none⟩) (c).ts.length tc) (c) m v t s)) (ht:TsksAt W g c.ts)=>znb hc hn h ht;have HT:=zaa (ht.keep (bel1 w (.cells #[.int .i64 0,.int .i64 0,.int .i64 0,.int .i64 0,.int .i64 0] 100)));clear h ho hpa hw ht;generalize hcm:cmdM c=M at *;generalize hcb:cmdB c=B at *
 go_enter Tryz.func183,Tryz.ntmps183
 go_wp2_with (first
  |(go_at_call 135;refine c0.mono ?_;rintro e _ ⟨rfl,rfl⟩)
  |(go_at_call 233;refine(c2 _ HA.out HT.out).mono ?_;rintro e w2 ⟨rfl,hr2,hc2⟩;have Z2:=zaa (hc2.row Z.out n2);have y0:=Z2.out.cell (j:=0) rfl;have y1:=Z2.out.cell (j:=1) rfl;have y2:=Z2.out.cell (j:=2) rfl;have y3:=Z2.out.cell (j:=3) rfl;have y4:=Z2.out.cell (j:=4) rfl;have f0:=Z2.out.frozen 0;have f1:=Z2.out.frozen 1;have f2:=Z2.out.frozen 2;have f3:=Z2.out.frozen 3;have f4:=Z2.out.frozen 4))
 have Z3:=((((Z2.out.set 0 (.int .i64 M.k)).set 1 (.int .i64 M.n)).set 2 (.int .i64 M.s)).set 3 (.int .i64 M.i)).set 4 (.int .i64 M.r);have o0:=Z3.cell (j:=0) rfl;have o1:=Z3.cell (j:=1) rfl;have o2:=Z3.cell (j:=2) rfl;have o3:=Z3.cell (j:=3) rfl;have o4:=Z3.cell (j:=4) rfl;refine bodyPost_ret (v:=.tuple #[.agg #[.int .i64 M.k,.int .i64 M.n,.int .i64 M.s,.int .i64 M.i,.int .i64 M.r],.bool B]) (by simp[results,Tryz.results183,go_sem,o0,o1,o2,o3,o4]) rfl ?_;refine⟨rfl,?_,(((((((Chg.of (S:=(·= r)) (bel1 _ _)).trans hc2).set (p:=⟨w.heap.size,0,none⟩) (.inr (xe _)) _).set (p:=⟨w.heap.size,1,none⟩) (.inr (xe _)) _).set (p:=⟨w.heap.size,2,none⟩) (.inr (xe _)) _).set (p:=⟨w.heap.size,3,none⟩) (.inr (xe _)) _).set (p:=⟨w.heap.size,4,none⟩) (.inr (xe _)) _)⟩;exact((((hr2.setOther (p:=⟨w.heap.size,0,none⟩) n2 _).setOther (p:=⟨w.heap.size,1,none⟩) n2 _).setOther (p:=⟨w.heap.size,2,none⟩) n2 _).setOther (p:=⟨w.heap.size,3,none⟩) n2 _).setOther (p:=⟨w.heap.size,4,none⟩) n2 _
theorem zt4 {g:Nat}(time:Int)(hpa:c.pa=false)(ho:zaj c=false)(hw:c.wk=false)(hu:c.un<=time)(hgr:r≠g)(hc:zby c)(hn:0<=c.nu/\c.nu<=4000000000)(ht:TsksAt w g c.ts)(h:RowIs w r 149 (RunC ti (.slice (some ⟨g,0,none⟩) c.ts.length tc) c m v t s)):Calls Tryz.prog 183 #[.pointer (some ⟨r,1,none⟩),.int .i64 time] w fun e W=>e=.returned (.tuple #[.agg #[.int .i64 (cmdM (begC c)).k,.int .i64 (cmdM (begC c)).n,.int .i64 (cmdM (begC c)).s,.int .i64 (cmdM (begC c)).i,.int .i64 (cmdM (begC c)).r],.bool (cmdB (begC c))])/\RowIs W r 149 (RunC ti (.slice (some ⟨g,0,none⟩) (cmdC (begC c)).ts.length tc) (cmdC (begC c)) m v t s)/\Chg (·= r) w W:=by
 have H:=zaa h;have lr:=h.lt;have n2:w.heap.size≠r:=by omega
 have Z:=zaa (show RowIs (w.alloc (.cells #[.int .i64 0,.int .i64 0,.int .i64 0,.int .i64 0,.int .i64 0] 100)) w.heap.size 100 [.int .i64 0,.int .i64 0,.int .i64 0,.int .i64 0,.int .i64 0]from zal _ _);have HA:=zaa (H.out.keep (bel1 w (.cells #[.int .i64 0,.int .i64 0,.int .i64 0,.int .i64 0,.int .i64 0] 100)));have c0:=zfi HA.out;rw[ho]at c0;have c1:=zju HA.out;have k6:w.cell? ⟨r,6,none⟩=some (.bool c.pa):=h.cell rfl;have k5:w.cell? ⟨r,5,none⟩=some (.bool c.wk):=h.cell rfl;have k7:w.cell? ⟨r,7,none⟩=some (.int .i64 c.un):=h.cell rfl;rw[hpa]at k6;rw[hw]at k5;have c2:=fun (W:World) (h:RowIs W r 149 (RunC ti (.slice (some ⟨g,0,none⟩) (begC c).ts.length tc) (begC c) m v t s)) (ht:TsksAt W g c.ts)=>znb (c:=begC c) hc hn h ht;have HT:=zaa (ht.keep (bel1 w (.cells #[.int .i64 0,.int .i64 0,.int .i64 0,.int .i64 0,.int .i64 0] 100)));clear h ho hpa hw ht;generalize c.un=un at k7 hu;generalize hcm:cmdM (begC c)=M at *;generalize hcb:cmdB (begC c)=B at *
 go_enter Tryz.func183,Tryz.ntmps183
 go_wp2_with (first
  |(go_at_call 135;refine c0.mono ?_;rintro e _ ⟨rfl,rfl⟩)
  |(go_at_call 202;refine c1.mono ?_;rintro e w1 ⟨rfl,hr1,hc1⟩;have j5:w1.cell? ⟨r,5,none⟩=some (.bool true):=hr1.cell rfl;have Z1:=zaa (hc1.row Z.out n2);have HT1:=zaa (HT.out.chg hc1 (fun e=>hgr e.symm)))
  |(go_at_call 233;refine(c2 _ hr1 HT1.out).mono ?_;rintro e w2 ⟨rfl,hr2,hc2⟩;have Z2:=zaa (hc2.row Z1.out n2);have y0:=Z2.out.cell (j:=0) rfl;have y1:=Z2.out.cell (j:=1) rfl;have y2:=Z2.out.cell (j:=2) rfl;have y3:=Z2.out.cell (j:=3) rfl;have y4:=Z2.out.cell (j:=4) rfl;have f0:=Z2.out.frozen 0;have f1:=Z2.out.frozen 1;have f2:=Z2.out.frozen 2;have f3:=Z2.out.frozen 3;have f4:=Z2.out.frozen 4))
 have Z3:=((((Z2.out.set 0 (.int .i64 M.k)).set 1 (.int .i64 M.n)).set 2 (.int .i64 M.s)).set 3 (.int .i64 M.i)).set 4 (.int .i64 M.r);have o0:=Z3.cell (j:=0) rfl;have o1:=Z3.cell (j:=1) rfl;have o2:=Z3.cell (j:=2) rfl;have o3:=Z3.cell (j:=3) rfl;have o4:=Z3.cell (j:=4) rfl;refine bodyPost_ret (v:=.tuple #[.agg #[.int .i64 M.k,.int .i64 M.n,.int .i64 M.s,.int .i64 M.i,.int .i64 M.r],.bool B]) (by simp[results,Tryz.results183,go_sem,o0,o1,o2,o3,o4]) rfl ?_;refine⟨rfl,?_,((((((((Chg.of (S:=(·= r)) (bel1 _ _)).trans hc1).trans hc2).set (p:=⟨w.heap.size,0,none⟩) (.inr (xe _)) _).set (p:=⟨w.heap.size,1,none⟩) (.inr (xe _)) _).set (p:=⟨w.heap.size,2,none⟩) (.inr (xe _)) _).set (p:=⟨w.heap.size,3,none⟩) (.inr (xe _)) _).set (p:=⟨w.heap.size,4,none⟩) (.inr (xe _)) _)⟩;exact((((hr2.setOther (p:=⟨w.heap.size,0,none⟩) n2 _).setOther (p:=⟨w.heap.size,1,none⟩) n2 _).setOther (p:=⟨w.heap.size,2,none⟩) n2 _).setOther (p:=⟨w.heap.size,3,none⟩) n2 _).setOther (p:=⟨w.heap.size,4,none⟩) n2 _
end
section
variable {ti:Int}{a:Option Addr}{tc:Nat}{m v t s:Value}{c:CtlD}{r:Nat}{w:World}
theorem zt3 {g:Nat}(time:Int)(hc:zaj c=false->zby c)(hn:0<=c.nu/\c.nu<=4000000000)(hgr:r≠g)(ht:TsksAt w g c.ts)(h:RowIs w r 149 (RunC ti (.slice (some ⟨g,0,none⟩) c.ts.length tc) c m v t s)):Calls Tryz.prog 183 #[.pointer (some ⟨r,1,none⟩),.int .i64 time] w fun e W=>e=.returned (.tuple #[.agg #[.int .i64 (actM c time).k,.int .i64 (actM c time).n,.int .i64 (actM c time).s,.int .i64 (actM c time).i,.int .i64 (actM c time).r],.bool (actB c time)])/\RowIs W r 149 (RunC ti (.slice (some ⟨g,0,none⟩) (actC c time).ts.length tc) (actC c time) m v t s)/\Chg (·= r) w W:=by
 unfold actM actB actC;by_cases hno:(c.pa||zaj c)=true
 ·rw[if_pos hno,if_pos hno,hno];exact zt6 time hno h
 ·rw[if_neg hno,if_neg hno];have hno':(c.pa||zaj c)=false:=by simpa using hno
  have hpa:c.pa=false:=by cases e:c.pa with|false=>rfl|true=>rw[e]at hno';simp at hno'
  have ho:zaj c=false:=by rw[hpa]at hno';simpa using hno'
  rw[hno'];cases hw:c.wk with
  |true =>
   have e:actA c time=c:=by unfold actA;rw[if_neg (by rw[hw];simp)]
   rw[e,hw];simpa using zt9 time hpa ho hw (hc ho) hn ht h
  |false =>
   by_cases hu:c.un<=time
   ·have e:actA c time=begC c:=by unfold actA;rw[if_pos ⟨hw,hu⟩]
    rw[e];have e2:(begC c).wk=true:=rfl;rw[e2];simpa using zt4 time hpa ho hw hu hgr (hc ho) hn ht h
   ·have e:actA c time=c:=by unfold actA;rw[if_neg (fun q=>hu q.2)]
    rw[e,hw];simpa[msg0]using zt8 time hpa ho hw (by omega) h
theorem zxr {mk mn ms mi mr:Int}(time:Int)(hno:c.wk=false\/mn<=c.ba)(h:RowIs w r 149 (RunC ti (.slice a c.ts.length tc) c m v t s)):Calls Tryz.prog 184 #[.pointer (some ⟨r,1,none⟩),.agg #[.int .i64 mk,.int .i64 mn,.int .i64 ms,.int .i64 mi,.int .i64 mr],.int .i64 time] w fun e W=>e=.returned (.tuple #[])/\RowIs W r 149 (RunC ti (.slice a (c).ts.length tc) (c) m v t s)/\Chg (·= r) w W:=by
 have H:=zaa h;have lr:=h.lt;have k5:w.cell? ⟨r,5,none⟩=some (.bool c.wk):=h.cell rfl;have k9:w.cell? ⟨r,9,none⟩=some (.int .i64 c.ba):=h.cell rfl;have HA:=zaa (H.out.keep (bel1 w (.cells #[.int .i64 mk,.int .i64 mn,.int .i64 ms,.int .i64 mi,.int .i64 mr] 100)));clear h;cases hw:c.wk with
 |false =>
  rw[hw]at k5;generalize c.ba=ba at k9 hno;clear hno hw
  go_enter Tryz.func184,Tryz.ntmps184
  go_wp2_with fail
  go_quiet (fail)
  go_wp2_with fail
  refine bodyPost_ret (v:=.tuple #[]) (results_none rfl _ _ _) rfl ?_;exact⟨rfl,HA.out,(Chg.of (S:=(·= r)) (bel1 _ _)).drewN _⟩
 |true =>
  have hno:mn<=c.ba:=by rcases hno with q|q;rw[hw]at q;cases q;exact q
  rw[hw]at k5;generalize c.ba=ba at k9 hno;clear hw
  go_enter Tryz.func184,Tryz.ntmps184
  go_wp2_with fail
  go_quiet (fail)
  go_wp2_with fail
  refine bodyPost_ret (v:=.tuple #[]) (results_none rfl _ _ _) rfl ?_;exact⟨rfl,HA.out,(Chg.of (S:=(·= r)) (bel1 _ _)).drewN _⟩
theorem zxo {g:Nat}{mk mn ms mr:Int}(time:Int)(hw:c.wk=true)(hn:c.ba<mn)(hc:zby c)(hgr:r≠g)(hf:frst (ansC c 0).a0 (ansC c 0).a1 (ansC c 0).a2 (curT (ansC c 0)).z=(curT (ansC c 0)).z)(hb:0<=time/\time<=4000000000/\0<=c.rest/\c.rest<=4000000000)(ht:TsksAt w g c.ts)(h:RowIs w r 149 (RunC ti (.slice (some ⟨g,0,none⟩) c.ts.length tc) c m v t s)):Calls Tryz.prog 184 #[.pointer (some ⟨r,1,none⟩),.agg #[.int .i64 mk,.int .i64 mn,.int .i64 ms,.int .i64 0,.int .i64 mr],.int .i64 time] w fun e W=>e=.returned (.tuple #[])/\RowIs W r 149 (RunC ti (.slice (some ⟨g,0,none⟩) (finC (ansC c 0) time).ts.length tc) (finC (ansC c 0) time) m v t s)/\Chg (·= r) w W:=by
 have H:=zaa h;have lr:=h.lt;have n2:w.heap.size≠r:=by omega
 have k5:w.cell? ⟨r,5,none⟩=some (.bool c.wk):=h.cell rfl;have k9:w.cell? ⟨r,9,none⟩=some (.int .i64 c.ba):=h.cell rfl;have kx:w.cell? ⟨r,10,none⟩=some (.bool c.a0):=h.cell rfl;have xx:=h.frozen 10;rw[hw]at k5;have hnq:∀ W,Calls Tryz.prog 178 #[.int .i64 0,.int .i64 3] W fun e w'=>e=.returned (.bool true)/\w'=W:=fun W=>(za5 0 3 W).mono fun e w' h=>⟨h.1.trans (by rw[show numB 0 3=true by decide]),h.2.symm⟩;have c1:=fun (W:World) (h:RowIs W r 149 (RunC ti (.slice (some ⟨g,0,none⟩) (ansC c 0).ts.length tc) (ansC c 0) m v t s)) (ht:TsksAt W g c.ts)=>zes (c:=ansC c 0) hc h ht;have c2:=fun (W:World) (h:RowIs W r 149 (RunC ti (.slice (some ⟨g,0,none⟩) (ansC c 0).ts.length tc) (ansC c 0) m v t s))=>zev (c:=ansC c 0) (curT (ansC c 0)).z h;have c3:=fun (W:World) (h:RowIs W r 149 (RunC ti (.slice (some ⟨g,0,none⟩) ((ansC c 0)).ts.length tc) ((ansC c 0)) m v t s))=>zkg (c:=(ansC c 0)) time (by rcases hc.2 with q|q;exact .inl q.1;exact .inr q.1) (by obtain⟨h1,h2,h3,h4⟩:=hb;have:=hc.1;refine⟨h1,h2,h3,h4,?_,?_⟩;rcases hc.2 with q|q;exact q.2.1;show 0<=c.pos;omega;show c.pos<=4000000000;rcases hc.2 with q|q<;>omega) h;have HA:=zaa (h.keep (bel1 w (.cells #[.int .i64 mk,.int .i64 mn,.int .i64 ms,.int .i64 0,.int .i64 mr] 100)));have HT:=zaa (ht.keep (bel1 w (.cells #[.int .i64 mk,.int .i64 mn,.int .i64 ms,.int .i64 0,.int .i64 mr] 100)));have hd:decide (mn<=c.ba)=false:=decide_eq_false (by omega);have HB:=zaa hb;have HC:=zaa hc;clear h ht hw hb hc;generalize frst (ansC c 0).a0 (ansC c 0).a1 (ansC c 0).a2 (curT (ansC c 0)).z=F at *;generalize hT:curT (ansC c 0)=T at *;generalize hba:c.ba=ba at *;generalize hai:c.a0=ai at *;obtain⟨s0,z0,b0,r0⟩:=T;simp only at c1 c2 hf;subst hf
 go_enter Tryz.func184,Tryz.ntmps184
 go_wp2_with fail
 go_quiet ((go_at_call 178;exact Calls.quiet_of_same (hnq _)))
 go_wp2_with fail
 go_big_region
 have eC:(RunC ti (.slice (some ⟨g,0,none⟩) c.ts.length tc) c m v t s).set 10 (.bool true)=RunC ti (.slice (some ⟨g,0,none⟩) (ansC c 0).ts.length tc) (ansC c 0) m v t s:=by unfold RunC ansC;simp
 have HS:=zaa ((HA.out.drewN (nq+1)).set 10 (.bool true));rw[eC]at HS;have X1:=zaa (((Chg.refl (·= r) (w.alloc (.cells #[.int .i64 mk,.int .i64 mn,.int .i64 ms,.int .i64 0,.int .i64 mr] 100))).drewN (nq+1)).set (p:=⟨r,10,none⟩) (.inl rfl) (.bool true));have HTS:=zaa (HT.out.chg X1.out (fun e=>hgr e.symm));clear hd hT hai hba;generalize (((w.alloc (.cells #[.int .i64 mk,.int .i64 mn,.int .i64 ms,.int .i64 0,.int .i64 mr] 100)).drewN (nq+1)).setCell ⟨r,10,none⟩ (.bool true))=W2 at *
 go_wp2_with (first
  |(go_at_call 234;refine(c1 _ HS.out HTS.out).mono ?_;rintro e w3 ⟨rfl,hb3⟩;have HS3:=zaa ((HS.out.keep hb3).keep (bel1 w3 (.cells #[.int .i64 s0,.int .i64 F,.int .i64 b0,.int .i64 r0] 303)))))
 go_quiet ((go_at_call 235;exact Calls.quiet_of_same (c2 _ (RowIs.drewN HS3.out _))))
 go_wp2_with (first
  |(go_at_call 236;refine(c3 _ (RowIs.drewN HS3.out _)).mono ?_;rintro e w4 ⟨rfl,hr4,hc4⟩))
 refine bodyPost_end (v:=.tuple #[]) (results_none rfl _ _ _) rfl ?_;exact⟨rfl,hr4,(((((Chg.of (S:=(·= r)) (bel1 _ _)).trans X1.out).trans (Chg.of hb3)).trans (Chg.of (bel1 _ _))).drewN _).trans hc4⟩
theorem zxt {g:Nat}{mk mn ms mr:Int}(time:Int)(hw:c.wk=true)(hn:c.ba<mn)(hc:zby c)(hgr:r≠g)(hf:frst (ansC c 0).a0 (ansC c 0).a1 (ansC c 0).a2 (curT (ansC c 0)).z≠(curT (ansC c 0)).z)(hb:0<=time/\time<=4000000000/\0<=c.rest/\c.rest<=4000000000)(ht:TsksAt w g c.ts)(h:RowIs w r 149 (RunC ti (.slice (some ⟨g,0,none⟩) c.ts.length tc) c m v t s)):Calls Tryz.prog 184 #[.pointer (some ⟨r,1,none⟩),.agg #[.int .i64 mk,.int .i64 mn,.int .i64 ms,.int .i64 0,.int .i64 mr],.int .i64 time] w fun e W=>e=.returned (.tuple #[])/\RowIs W r 149 (RunC ti (.slice (some ⟨g,0,none⟩) ((ansC c 0)).ts.length tc) ((ansC c 0)) m v t s)/\Chg (·= r) w W:=by
 have H:=zaa h;have lr:=h.lt;have n2:w.heap.size≠r:=by omega
 have k5:w.cell? ⟨r,5,none⟩=some (.bool c.wk):=h.cell rfl;have k9:w.cell? ⟨r,9,none⟩=some (.int .i64 c.ba):=h.cell rfl;have kx:w.cell? ⟨r,10,none⟩=some (.bool c.a0):=h.cell rfl;have xx:=h.frozen 10;rw[hw]at k5;have hnq:∀ W,Calls Tryz.prog 178 #[.int .i64 0,.int .i64 3] W fun e w'=>e=.returned (.bool true)/\w'=W:=fun W=>(za5 0 3 W).mono fun e w' h=>⟨h.1.trans (by rw[show numB 0 3=true by decide]),h.2.symm⟩;have c1:=fun (W:World) (h:RowIs W r 149 (RunC ti (.slice (some ⟨g,0,none⟩) (ansC c 0).ts.length tc) (ansC c 0) m v t s)) (ht:TsksAt W g c.ts)=>zes (c:=ansC c 0) hc h ht;have c2:=fun (W:World) (h:RowIs W r 149 (RunC ti (.slice (some ⟨g,0,none⟩) (ansC c 0).ts.length tc) (ansC c 0) m v t s))=>zev (c:=ansC c 0) (curT (ansC c 0)).z h
 skip
 have HA:=zaa (h.keep (bel1 w (.cells #[.int .i64 mk,.int .i64 mn,.int .i64 ms,.int .i64 0,.int .i64 mr] 100)));have HT:=zaa (ht.keep (bel1 w (.cells #[.int .i64 mk,.int .i64 mn,.int .i64 ms,.int .i64 0,.int .i64 mr] 100)));have hd:decide (mn<=c.ba)=false:=decide_eq_false (by omega);have HB:=zaa hb;have HC:=zaa hc;clear h ht hw hb hc;generalize frst (ansC c 0).a0 (ansC c 0).a1 (ansC c 0).a2 (curT (ansC c 0)).z=F at *;generalize hT:curT (ansC c 0)=T at *;generalize hba:c.ba=ba at *;generalize hai:c.a0=ai at *;obtain⟨s0,z0,b0,r0⟩:=T;simp only at c1 c2 hf
 skip
 go_enter Tryz.func184,Tryz.ntmps184
 go_wp2_with fail
 go_quiet ((go_at_call 178;exact Calls.quiet_of_same (hnq _)))
 go_wp2_with fail
 go_big_region
 have eC:(RunC ti (.slice (some ⟨g,0,none⟩) c.ts.length tc) c m v t s).set 10 (.bool true)=RunC ti (.slice (some ⟨g,0,none⟩) (ansC c 0).ts.length tc) (ansC c 0) m v t s:=by unfold RunC ansC;simp
 have HS:=zaa ((HA.out.drewN (nq+1)).set 10 (.bool true));rw[eC]at HS;have X1:=zaa (((Chg.refl (·= r) (w.alloc (.cells #[.int .i64 mk,.int .i64 mn,.int .i64 ms,.int .i64 0,.int .i64 mr] 100))).drewN (nq+1)).set (p:=⟨r,10,none⟩) (.inl rfl) (.bool true));have HTS:=zaa (HT.out.chg X1.out (fun e=>hgr e.symm));clear hd hT hai hba;generalize (((w.alloc (.cells #[.int .i64 mk,.int .i64 mn,.int .i64 ms,.int .i64 0,.int .i64 mr] 100)).drewN (nq+1)).setCell ⟨r,10,none⟩ (.bool true))=W2 at *
 go_wp2_with (first
  |(go_at_call 234;refine(c1 _ HS.out HTS.out).mono ?_;rintro e w3 ⟨rfl,hb3⟩;have HS3:=zaa ((HS.out.keep hb3).keep (bel1 w3 (.cells #[.int .i64 s0,.int .i64 z0,.int .i64 b0,.int .i64 r0] 303)))))
 go_quiet ((go_at_call 235;exact Calls.quiet_of_same (c2 _ (RowIs.drewN HS3.out _))))
 go_wp2_with fail
 refine bodyPost_end (v:=.tuple #[]) (results_none rfl _ _ _) rfl ?_;exact⟨rfl,RowIs.drewN HS3.out _,((((Chg.of (S:=(·= r)) (bel1 _ _)).trans X1.out).trans (Chg.of hb3)).trans (Chg.of (bel1 _ _))).drewN _⟩
theorem zxp {g:Nat}{mk mn ms mr:Int}(time:Int)(hw:c.wk=true)(hn:c.ba<mn)(hc:zby c)(hgr:r≠g)(hf:frst (ansC c 1).a0 (ansC c 1).a1 (ansC c 1).a2 (curT (ansC c 1)).z=(curT (ansC c 1)).z)(hb:0<=time/\time<=4000000000/\0<=c.rest/\c.rest<=4000000000)(ht:TsksAt w g c.ts)(h:RowIs w r 149 (RunC ti (.slice (some ⟨g,0,none⟩) c.ts.length tc) c m v t s)):Calls Tryz.prog 184 #[.pointer (some ⟨r,1,none⟩),.agg #[.int .i64 mk,.int .i64 mn,.int .i64 ms,.int .i64 1,.int .i64 mr],.int .i64 time] w fun e W=>e=.returned (.tuple #[])/\RowIs W r 149 (RunC ti (.slice (some ⟨g,0,none⟩) (finC (ansC c 1) time).ts.length tc) (finC (ansC c 1) time) m v t s)/\Chg (·= r) w W:=by
 have H:=zaa h;have lr:=h.lt;have n2:w.heap.size≠r:=by omega
 have k5:w.cell? ⟨r,5,none⟩=some (.bool c.wk):=h.cell rfl;have k9:w.cell? ⟨r,9,none⟩=some (.int .i64 c.ba):=h.cell rfl;have kx:w.cell? ⟨r,11,none⟩=some (.bool c.a1):=h.cell rfl;have xx:=h.frozen 11;rw[hw]at k5;have hnq:∀ W,Calls Tryz.prog 178 #[.int .i64 1,.int .i64 3] W fun e w'=>e=.returned (.bool true)/\w'=W:=fun W=>(za5 1 3 W).mono fun e w' h=>⟨h.1.trans (by rw[show numB 1 3=true by decide]),h.2.symm⟩;have c1:=fun (W:World) (h:RowIs W r 149 (RunC ti (.slice (some ⟨g,0,none⟩) (ansC c 1).ts.length tc) (ansC c 1) m v t s)) (ht:TsksAt W g c.ts)=>zes (c:=ansC c 1) hc h ht;have c2:=fun (W:World) (h:RowIs W r 149 (RunC ti (.slice (some ⟨g,0,none⟩) (ansC c 1).ts.length tc) (ansC c 1) m v t s))=>zev (c:=ansC c 1) (curT (ansC c 1)).z h;have c3:=fun (W:World) (h:RowIs W r 149 (RunC ti (.slice (some ⟨g,0,none⟩) ((ansC c 1)).ts.length tc) ((ansC c 1)) m v t s))=>zkg (c:=(ansC c 1)) time (by rcases hc.2 with q|q;exact .inl q.1;exact .inr q.1) (by obtain⟨h1,h2,h3,h4⟩:=hb;have:=hc.1;refine⟨h1,h2,h3,h4,?_,?_⟩;rcases hc.2 with q|q;exact q.2.1;show 0<=c.pos;omega;show c.pos<=4000000000;rcases hc.2 with q|q<;>omega) h;have HA:=zaa (h.keep (bel1 w (.cells #[.int .i64 mk,.int .i64 mn,.int .i64 ms,.int .i64 1,.int .i64 mr] 100)));have HT:=zaa (ht.keep (bel1 w (.cells #[.int .i64 mk,.int .i64 mn,.int .i64 ms,.int .i64 1,.int .i64 mr] 100)));have hd:decide (mn<=c.ba)=false:=decide_eq_false (by omega);have HB:=zaa hb;have HC:=zaa hc;clear h ht hw hb hc;generalize frst (ansC c 1).a0 (ansC c 1).a1 (ansC c 1).a2 (curT (ansC c 1)).z=F at *;generalize hT:curT (ansC c 1)=T at *;generalize hba:c.ba=ba at *;generalize hai:c.a1=ai at *;obtain⟨s0,z0,b0,r0⟩:=T;simp only at c1 c2 hf;subst hf
 go_enter Tryz.func184,Tryz.ntmps184
 go_wp2_with fail
 go_quiet ((go_at_call 178;exact Calls.quiet_of_same (hnq _)))
 go_wp2_with fail
 go_big_region
 have eC:(RunC ti (.slice (some ⟨g,0,none⟩) c.ts.length tc) c m v t s).set 11 (.bool true)=RunC ti (.slice (some ⟨g,0,none⟩) (ansC c 1).ts.length tc) (ansC c 1) m v t s:=by unfold RunC ansC;simp
 have HS:=zaa ((HA.out.drewN (nq+1)).set 11 (.bool true));rw[eC]at HS;have X1:=zaa (((Chg.refl (·= r) (w.alloc (.cells #[.int .i64 mk,.int .i64 mn,.int .i64 ms,.int .i64 1,.int .i64 mr] 100))).drewN (nq+1)).set (p:=⟨r,11,none⟩) (.inl rfl) (.bool true));have HTS:=zaa (HT.out.chg X1.out (fun e=>hgr e.symm));clear hd hT hai hba;generalize (((w.alloc (.cells #[.int .i64 mk,.int .i64 mn,.int .i64 ms,.int .i64 1,.int .i64 mr] 100)).drewN (nq+1)).setCell ⟨r,11,none⟩ (.bool true))=W2 at *
 go_wp2_with (first
  |(go_at_call 234;refine(c1 _ HS.out HTS.out).mono ?_;rintro e w3 ⟨rfl,hb3⟩;have HS3:=zaa ((HS.out.keep hb3).keep (bel1 w3 (.cells #[.int .i64 s0,.int .i64 F,.int .i64 b0,.int .i64 r0] 303)))))
 go_quiet ((go_at_call 235;exact Calls.quiet_of_same (c2 _ (RowIs.drewN HS3.out _))))
 go_wp2_with (first
  |(go_at_call 236;refine(c3 _ (RowIs.drewN HS3.out _)).mono ?_;rintro e w4 ⟨rfl,hr4,hc4⟩))
 refine bodyPost_end (v:=.tuple #[]) (results_none rfl _ _ _) rfl ?_;exact⟨rfl,hr4,(((((Chg.of (S:=(·= r)) (bel1 _ _)).trans X1.out).trans (Chg.of hb3)).trans (Chg.of (bel1 _ _))).drewN _).trans hc4⟩
theorem zxu {g:Nat}{mk mn ms mr:Int}(time:Int)(hw:c.wk=true)(hn:c.ba<mn)(hc:zby c)(hgr:r≠g)(hf:frst (ansC c 1).a0 (ansC c 1).a1 (ansC c 1).a2 (curT (ansC c 1)).z≠(curT (ansC c 1)).z)(hb:0<=time/\time<=4000000000/\0<=c.rest/\c.rest<=4000000000)(ht:TsksAt w g c.ts)(h:RowIs w r 149 (RunC ti (.slice (some ⟨g,0,none⟩) c.ts.length tc) c m v t s)):Calls Tryz.prog 184 #[.pointer (some ⟨r,1,none⟩),.agg #[.int .i64 mk,.int .i64 mn,.int .i64 ms,.int .i64 1,.int .i64 mr],.int .i64 time] w fun e W=>e=.returned (.tuple #[])/\RowIs W r 149 (RunC ti (.slice (some ⟨g,0,none⟩) ((ansC c 1)).ts.length tc) ((ansC c 1)) m v t s)/\Chg (·= r) w W:=by
 have H:=zaa h;have lr:=h.lt;have n2:w.heap.size≠r:=by omega
 have k5:w.cell? ⟨r,5,none⟩=some (.bool c.wk):=h.cell rfl;have k9:w.cell? ⟨r,9,none⟩=some (.int .i64 c.ba):=h.cell rfl;have kx:w.cell? ⟨r,11,none⟩=some (.bool c.a1):=h.cell rfl;have xx:=h.frozen 11;rw[hw]at k5;have hnq:∀ W,Calls Tryz.prog 178 #[.int .i64 1,.int .i64 3] W fun e w'=>e=.returned (.bool true)/\w'=W:=fun W=>(za5 1 3 W).mono fun e w' h=>⟨h.1.trans (by rw[show numB 1 3=true by decide]),h.2.symm⟩;have c1:=fun (W:World) (h:RowIs W r 149 (RunC ti (.slice (some ⟨g,0,none⟩) (ansC c 1).ts.length tc) (ansC c 1) m v t s)) (ht:TsksAt W g c.ts)=>zes (c:=ansC c 1) hc h ht;have c2:=fun (W:World) (h:RowIs W r 149 (RunC ti (.slice (some ⟨g,0,none⟩) (ansC c 1).ts.length tc) (ansC c 1) m v t s))=>zev (c:=ansC c 1) (curT (ansC c 1)).z h
 skip
 have HA:=zaa (h.keep (bel1 w (.cells #[.int .i64 mk,.int .i64 mn,.int .i64 ms,.int .i64 1,.int .i64 mr] 100)));have HT:=zaa (ht.keep (bel1 w (.cells #[.int .i64 mk,.int .i64 mn,.int .i64 ms,.int .i64 1,.int .i64 mr] 100)));have hd:decide (mn<=c.ba)=false:=decide_eq_false (by omega);have HB:=zaa hb;have HC:=zaa hc;clear h ht hw hb hc;generalize frst (ansC c 1).a0 (ansC c 1).a1 (ansC c 1).a2 (curT (ansC c 1)).z=F at *;generalize hT:curT (ansC c 1)=T at *;generalize hba:c.ba=ba at *;generalize hai:c.a1=ai at *;obtain⟨s0,z0,b0,r0⟩:=T;simp only at c1 c2 hf
 skip
 go_enter Tryz.func184,Tryz.ntmps184
 go_wp2_with fail
 go_quiet ((go_at_call 178;exact Calls.quiet_of_same (hnq _)))
 go_wp2_with fail
 go_big_region
 have eC:(RunC ti (.slice (some ⟨g,0,none⟩) c.ts.length tc) c m v t s).set 11 (.bool true)=RunC ti (.slice (some ⟨g,0,none⟩) (ansC c 1).ts.length tc) (ansC c 1) m v t s:=by unfold RunC ansC;simp
 have HS:=zaa ((HA.out.drewN (nq+1)).set 11 (.bool true));rw[eC]at HS;have X1:=zaa (((Chg.refl (·= r) (w.alloc (.cells #[.int .i64 mk,.int .i64 mn,.int .i64 ms,.int .i64 1,.int .i64 mr] 100))).drewN (nq+1)).set (p:=⟨r,11,none⟩) (.inl rfl) (.bool true));have HTS:=zaa (HT.out.chg X1.out (fun e=>hgr e.symm));clear hd hT hai hba;generalize (((w.alloc (.cells #[.int .i64 mk,.int .i64 mn,.int .i64 ms,.int .i64 1,.int .i64 mr] 100)).drewN (nq+1)).setCell ⟨r,11,none⟩ (.bool true))=W2 at *
 go_wp2_with (first
  |(go_at_call 234;refine(c1 _ HS.out HTS.out).mono ?_;rintro e w3 ⟨rfl,hb3⟩;have HS3:=zaa ((HS.out.keep hb3).keep (bel1 w3 (.cells #[.int .i64 s0,.int .i64 z0,.int .i64 b0,.int .i64 r0] 303)))))
 go_quiet ((go_at_call 235;exact Calls.quiet_of_same (c2 _ (RowIs.drewN HS3.out _))))
 go_wp2_with fail
 refine bodyPost_end (v:=.tuple #[]) (results_none rfl _ _ _) rfl ?_;exact⟨rfl,RowIs.drewN HS3.out _,((((Chg.of (S:=(·= r)) (bel1 _ _)).trans X1.out).trans (Chg.of hb3)).trans (Chg.of (bel1 _ _))).drewN _⟩
theorem zxq {g:Nat}{mk mn ms mr:Int}(time:Int)(hw:c.wk=true)(hn:c.ba<mn)(hc:zby c)(hgr:r≠g)(hf:frst (ansC c 2).a0 (ansC c 2).a1 (ansC c 2).a2 (curT (ansC c 2)).z=(curT (ansC c 2)).z)(hb:0<=time/\time<=4000000000/\0<=c.rest/\c.rest<=4000000000)(ht:TsksAt w g c.ts)(h:RowIs w r 149 (RunC ti (.slice (some ⟨g,0,none⟩) c.ts.length tc) c m v t s)):Calls Tryz.prog 184 #[.pointer (some ⟨r,1,none⟩),.agg #[.int .i64 mk,.int .i64 mn,.int .i64 ms,.int .i64 2,.int .i64 mr],.int .i64 time] w fun e W=>e=.returned (.tuple #[])/\RowIs W r 149 (RunC ti (.slice (some ⟨g,0,none⟩) (finC (ansC c 2) time).ts.length tc) (finC (ansC c 2) time) m v t s)/\Chg (·= r) w W:=by
 have H:=zaa h;have lr:=h.lt;have n2:w.heap.size≠r:=by omega
 have k5:w.cell? ⟨r,5,none⟩=some (.bool c.wk):=h.cell rfl;have k9:w.cell? ⟨r,9,none⟩=some (.int .i64 c.ba):=h.cell rfl;have kx:w.cell? ⟨r,12,none⟩=some (.bool c.a2):=h.cell rfl;have xx:=h.frozen 12;rw[hw]at k5;have hnq:∀ W,Calls Tryz.prog 178 #[.int .i64 2,.int .i64 3] W fun e w'=>e=.returned (.bool true)/\w'=W:=fun W=>(za5 2 3 W).mono fun e w' h=>⟨h.1.trans (by rw[show numB 2 3=true by decide]),h.2.symm⟩;have c1:=fun (W:World) (h:RowIs W r 149 (RunC ti (.slice (some ⟨g,0,none⟩) (ansC c 2).ts.length tc) (ansC c 2) m v t s)) (ht:TsksAt W g c.ts)=>zes (c:=ansC c 2) hc h ht;have c2:=fun (W:World) (h:RowIs W r 149 (RunC ti (.slice (some ⟨g,0,none⟩) (ansC c 2).ts.length tc) (ansC c 2) m v t s))=>zev (c:=ansC c 2) (curT (ansC c 2)).z h;have c3:=fun (W:World) (h:RowIs W r 149 (RunC ti (.slice (some ⟨g,0,none⟩) ((ansC c 2)).ts.length tc) ((ansC c 2)) m v t s))=>zkg (c:=(ansC c 2)) time (by rcases hc.2 with q|q;exact .inl q.1;exact .inr q.1) (by obtain⟨h1,h2,h3,h4⟩:=hb;have:=hc.1;refine⟨h1,h2,h3,h4,?_,?_⟩;rcases hc.2 with q|q;exact q.2.1;show 0<=c.pos;omega;show c.pos<=4000000000;rcases hc.2 with q|q<;>omega) h;have HA:=zaa (h.keep (bel1 w (.cells #[.int .i64 mk,.int .i64 mn,.int .i64 ms,.int .i64 2,.int .i64 mr] 100)));have HT:=zaa (ht.keep (bel1 w (.cells #[.int .i64 mk,.int .i64 mn,.int .i64 ms,.int .i64 2,.int .i64 mr] 100)));have hd:decide (mn<=c.ba)=false:=decide_eq_false (by omega);have HB:=zaa hb;have HC:=zaa hc;clear h ht hw hb hc;generalize frst (ansC c 2).a0 (ansC c 2).a1 (ansC c 2).a2 (curT (ansC c 2)).z=F at *;generalize hT:curT (ansC c 2)=T at *;generalize hba:c.ba=ba at *;generalize hai:c.a2=ai at *;obtain⟨s0,z0,b0,r0⟩:=T;simp only at c1 c2 hf;subst hf
 go_enter Tryz.func184,Tryz.ntmps184
 go_wp2_with fail
 go_quiet ((go_at_call 178;exact Calls.quiet_of_same (hnq _)))
 go_wp2_with fail
 go_big_region
 have eC:(RunC ti (.slice (some ⟨g,0,none⟩) c.ts.length tc) c m v t s).set 12 (.bool true)=RunC ti (.slice (some ⟨g,0,none⟩) (ansC c 2).ts.length tc) (ansC c 2) m v t s:=by unfold RunC ansC;simp
 have HS:=zaa ((HA.out.drewN (nq+1)).set 12 (.bool true));rw[eC]at HS;have X1:=zaa (((Chg.refl (·= r) (w.alloc (.cells #[.int .i64 mk,.int .i64 mn,.int .i64 ms,.int .i64 2,.int .i64 mr] 100))).drewN (nq+1)).set (p:=⟨r,12,none⟩) (.inl rfl) (.bool true));have HTS:=zaa (HT.out.chg X1.out (fun e=>hgr e.symm));clear hd hT hai hba;generalize (((w.alloc (.cells #[.int .i64 mk,.int .i64 mn,.int .i64 ms,.int .i64 2,.int .i64 mr] 100)).drewN (nq+1)).setCell ⟨r,12,none⟩ (.bool true))=W2 at *
 go_wp2_with (first
  |(go_at_call 234;refine(c1 _ HS.out HTS.out).mono ?_;rintro e w3 ⟨rfl,hb3⟩;have HS3:=zaa ((HS.out.keep hb3).keep (bel1 w3 (.cells #[.int .i64 s0,.int .i64 F,.int .i64 b0,.int .i64 r0] 303)))))
 go_quiet ((go_at_call 235;exact Calls.quiet_of_same (c2 _ (RowIs.drewN HS3.out _))))
 go_wp2_with (first
  |(go_at_call 236;refine(c3 _ (RowIs.drewN HS3.out _)).mono ?_;rintro e w4 ⟨rfl,hr4,hc4⟩))
 refine bodyPost_end (v:=.tuple #[]) (results_none rfl _ _ _) rfl ?_;exact⟨rfl,hr4,(((((Chg.of (S:=(·= r)) (bel1 _ _)).trans X1.out).trans (Chg.of hb3)).trans (Chg.of (bel1 _ _))).drewN _).trans hc4⟩
theorem zxv {g:Nat}{mk mn ms mr:Int}(time:Int)(hw:c.wk=true)(hn:c.ba<mn)(hc:zby c)(hgr:r≠g)(hf:frst (ansC c 2).a0 (ansC c 2).a1 (ansC c 2).a2 (curT (ansC c 2)).z≠(curT (ansC c 2)).z)(hb:0<=time/\time<=4000000000/\0<=c.rest/\c.rest<=4000000000)(ht:TsksAt w g c.ts)(h:RowIs w r 149 (RunC ti (.slice (some ⟨g,0,none⟩) c.ts.length tc) c m v t s)):Calls Tryz.prog 184 #[.pointer (some ⟨r,1,none⟩),.agg #[.int .i64 mk,.int .i64 mn,.int .i64 ms,.int .i64 2,.int .i64 mr],.int .i64 time] w fun e W=>e=.returned (.tuple #[])/\RowIs W r 149 (RunC ti (.slice (some ⟨g,0,none⟩) ((ansC c 2)).ts.length tc) ((ansC c 2)) m v t s)/\Chg (·= r) w W:=by
 have H:=zaa h;have lr:=h.lt;have n2:w.heap.size≠r:=by omega
 have k5:w.cell? ⟨r,5,none⟩=some (.bool c.wk):=h.cell rfl;have k9:w.cell? ⟨r,9,none⟩=some (.int .i64 c.ba):=h.cell rfl;have kx:w.cell? ⟨r,12,none⟩=some (.bool c.a2):=h.cell rfl;have xx:=h.frozen 12;rw[hw]at k5;have hnq:∀ W,Calls Tryz.prog 178 #[.int .i64 2,.int .i64 3] W fun e w'=>e=.returned (.bool true)/\w'=W:=fun W=>(za5 2 3 W).mono fun e w' h=>⟨h.1.trans (by rw[show numB 2 3=true by decide]),h.2.symm⟩;have c1:=fun (W:World) (h:RowIs W r 149 (RunC ti (.slice (some ⟨g,0,none⟩) (ansC c 2).ts.length tc) (ansC c 2) m v t s)) (ht:TsksAt W g c.ts)=>zes (c:=ansC c 2) hc h ht;have c2:=fun (W:World) (h:RowIs W r 149 (RunC ti (.slice (some ⟨g,0,none⟩) (ansC c 2).ts.length tc) (ansC c 2) m v t s))=>zev (c:=ansC c 2) (curT (ansC c 2)).z h
 skip
 have HA:=zaa (h.keep (bel1 w (.cells #[.int .i64 mk,.int .i64 mn,.int .i64 ms,.int .i64 2,.int .i64 mr] 100)));have HT:=zaa (ht.keep (bel1 w (.cells #[.int .i64 mk,.int .i64 mn,.int .i64 ms,.int .i64 2,.int .i64 mr] 100)));have hd:decide (mn<=c.ba)=false:=decide_eq_false (by omega);have HB:=zaa hb;have HC:=zaa hc;clear h ht hw hb hc;generalize frst (ansC c 2).a0 (ansC c 2).a1 (ansC c 2).a2 (curT (ansC c 2)).z=F at *;generalize hT:curT (ansC c 2)=T at *;generalize hba:c.ba=ba at *;generalize hai:c.a2=ai at *;obtain⟨s0,z0,b0,r0⟩:=T;simp only at c1 c2 hf
 skip
 go_enter Tryz.func184,Tryz.ntmps184
 go_wp2_with fail
 go_quiet ((go_at_call 178;exact Calls.quiet_of_same (hnq _)))
 go_wp2_with fail
 go_big_region
 have eC:(RunC ti (.slice (some ⟨g,0,none⟩) c.ts.length tc) c m v t s).set 12 (.bool true)=RunC ti (.slice (some ⟨g,0,none⟩) (ansC c 2).ts.length tc) (ansC c 2) m v t s:=by unfold RunC ansC;simp
 have HS:=zaa ((HA.out.drewN (nq+1)).set 12 (.bool true));rw[eC]at HS;have X1:=zaa (((Chg.refl (·= r) (w.alloc (.cells #[.int .i64 mk,.int .i64 mn,.int .i64 ms,.int .i64 2,.int .i64 mr] 100))).drewN (nq+1)).set (p:=⟨r,12,none⟩) (.inl rfl) (.bool true));have HTS:=zaa (HT.out.chg X1.out (fun e=>hgr e.symm));clear hd hT hai hba;generalize (((w.alloc (.cells #[.int .i64 mk,.int .i64 mn,.int .i64 ms,.int .i64 2,.int .i64 mr] 100)).drewN (nq+1)).setCell ⟨r,12,none⟩ (.bool true))=W2 at *
 go_wp2_with (first
  |(go_at_call 234;refine(c1 _ HS.out HTS.out).mono ?_;rintro e w3 ⟨rfl,hb3⟩;have HS3:=zaa ((HS.out.keep hb3).keep (bel1 w3 (.cells #[.int .i64 s0,.int .i64 z0,.int .i64 b0,.int .i64 r0] 303)))))
 go_quiet ((go_at_call 235;exact Calls.quiet_of_same (c2 _ (RowIs.drewN HS3.out _))))
 go_wp2_with fail
 refine bodyPost_end (v:=.tuple #[]) (results_none rfl _ _ _) rfl ?_;exact⟨rfl,RowIs.drewN HS3.out _,((((Chg.of (S:=(·= r)) (bel1 _ _)).trans X1.out).trans (Chg.of hb3)).trans (Chg.of (bel1 _ _))).drewN _⟩
theorem zxm {g:Nat}(x:MsgD)(time:Int)(hi:0<=x.i/\x.i<3)(hc:c.wk=true->zby c)(hgr:r≠g)(hb:0<=time/\time<=4000000000/\0<=c.rest/\c.rest<=4000000000)(ht:TsksAt w g c.ts)(h:RowIs w r 149 (RunC ti (.slice (some ⟨g,0,none⟩) c.ts.length tc) c m v t s)):Calls Tryz.prog 184 #[.pointer (some ⟨r,1,none⟩),.agg #[.int .i64 x.k,.int .i64 x.n,.int .i64 x.s,.int .i64 x.i,.int .i64 x.r],.int .i64 time] w fun e W=>e=.returned (.tuple #[])/\RowIs W r 149 (RunC ti (.slice (some ⟨g,0,none⟩) (za4 c x time).ts.length tc) (za4 c x time) m v t s)/\Chg (·= r) w W:=by
 rw[show za4 c x time=(if earB c x then (if frst (ansC c x.i).a0 (ansC c x.i).a1 (ansC c x.i).a2 (curT (ansC c x.i)).z=(curT (ansC c x.i)).z then finC (ansC c x.i) time else ansC c x.i) else c)from rfl];by_cases hno:c.wk=false\/x.n<=c.ba
 ·have e:earB c x=false:=by
   unfold earB;rcases hno with q|q
   ·rw[q];rfl
   ·rw[decide_eq_false (by omega)];simp
  rw[e];simpa using zxr time hno h
 ·have hw:c.wk=true:=by cases e:c.wk with|true=>rfl|false=>exact absurd (.inl e) hno
  have hn:c.ba<x.n:=by omega
  have e:earB c x=true:=by unfold earB numB;rw[hw];simp;omega
  rw[if_pos e];have hc:=hc hw;obtain⟨k,n,s',i,r'⟩:=x;simp only at hi hn ⊢;have hh:i=0\/i=1\/i=2:=by omega
  rcases hh with rfl|rfl|rfl
  ·by_cases hf:frst (ansC c 0).a0 (ansC c 0).a1 (ansC c 0).a2 (curT (ansC c 0)).z=(curT (ansC c 0)).z
   ·rw[if_pos hf];exact zxo time hw hn hc hgr hf hb ht h
   ·rw[if_neg hf];exact zxt time hw hn hc hgr hf hb ht h
  ·by_cases hf:frst (ansC c 1).a0 (ansC c 1).a1 (ansC c 1).a2 (curT (ansC c 1)).z=(curT (ansC c 1)).z
   ·rw[if_pos hf];exact zxp time hw hn hc hgr hf hb ht h
   ·rw[if_neg hf];exact zxu time hw hn hc hgr hf hb ht h
  ·by_cases hf:frst (ansC c 2).a0 (ansC c 2).a1 (ansC c 2).a2 (curT (ansC c 2)).z=(curT (ansC c 2)).z
   ·rw[if_pos hf];exact zxq time hw hn hc hgr hf hb ht h
   ·rw[if_neg hf];exact zxv time hw hn hc hgr hf hb ht h
end
structure InsD where
 r:Int
 h:Int
structure RecD where
 sc:ByteArray
 da:ByteArray
 ti:Int
structure SrvD where
 ins:List InsD
 rels:List (List PinD)
structure TopD where
 keep:Int
 recs:List RecD
structure zad where
 ti:Int
 c:CtlD
 ms:List MsgD
 vs:List SrvD
 ts:List TopD
 ss:List ByteArray
def ins0:InsD:=⟨0,0⟩
def srv0:SrvD:=⟨[],[]⟩
def hasB (vs:List SrvD)(s i:Int):Bool:=numB s vs.length&&numB i (vs.getD s.toNat srv0).ins.length
def insG (vs:List SrvD)(s i:Int):InsD:=(vs.getD s.toNat srv0).ins.getD i.toNat ins0
def setI (vs:List SrvD)(s i:Int)(x:InsD):List SrvD:=vs.set s.toNat { vs.getD s.toNat srv0 with ins:=(vs.getD s.toNat srv0).ins.set i.toNat x }
def folB (vs:List SrvD)(m:MsgD):Bool:=hasB vs m.s m.i&&!decide (m.n<(insG vs m.s m.i).h)
def za8 (ms:List MsgD)(m:MsgD):List MsgD:=if 40<=ms.length then ms else ms++[m]
def folV (vs:List SrvD)(m:MsgD):List SrvD:=if folB vs m then setI vs m.s m.i ⟨m.r,m.n⟩ else vs
def arrP (P:zad)(m:MsgD):zad:=if m.k=2 then { P with c:=za4 P.c m P.ti } else if folB P.vs m then { P with vs:=folV P.vs m,ms:=za8 P.ms { m with k:=2 } } else P
def delP (P:zad)(k:Int):zad:=if numB k P.ms.length then arrP { P with ms:=P.ms.eraseIdx k.toNat } (P.ms.getD k.toNat msg0) else P
def drpP (P:zad)(k:Int):zad:=if numB k P.ms.length then { P with ms:=P.ms.eraseIdx k.toNat } else P
def cpyP (P:zad)(k:Int):zad:=if numB k P.ms.length then { P with ms:=za8 P.ms (P.ms.getD k.toNat msg0) } else P
def fgtT (ti:Int)(t:TopD):TopD:=if t.keep<=0 then t else { t with recs:=t.recs.filter fun x=>decide (ti-x.ti<t.keep) }
def tckP (P:zad):zad:={ P with ti:=P.ti+1,ts:=P.ts.map (fgtT (P.ti+1)),c:=actC P.c (P.ti+1),ms:=if actB P.c (P.ti+1) then za8 P.ms (actM P.c (P.ti+1)) else P.ms }
theorem zd4 {vs:List SrvD}{s i:Int}:hasB vs s i=true↔0<=s/\s<vs.length/\0<=i/\i<(vs.getD s.toNat srv0).ins.length:=by
 unfold hasB numB;simp only[Bool.and_eq_true,decide_eq_true_eq];omega
theorem zrr (vs:List SrvD)(s i:Int)(x:InsD)(k:Nat):((setI vs s i x).getD k srv0).ins=if k=s.toNat/\k<vs.length then (vs.getD k srv0).ins.set i.toNat x else (vs.getD k srv0).ins:=by
 unfold setI;rw[xf,xf,xj];by_cases h:s.toNat=k
 ·subst h;by_cases h2:s.toNat<vs.length
  iterate 2
   ·simp[h2]
 ·rw[if_neg h,if_neg (fun e=>h e.1.symm)];simp
theorem zlk (vs:List SrvD)(s i:Int)(x:InsD):(setI vs s i x).length=vs.length:=by simp[setI]
theorem zrq (vs:List SrvD)(s i:Int)(x:InsD)(a b:Int):hasB (setI vs s i x) a b=hasB vs a b:=by
 unfold hasB;rw[zlk,zrr];split<;>simp
theorem zgz {vs:List SrvD}{s i:Int}{x:InsD}{a b:Int}(h:hasB vs s i=true)(h':hasB vs a b=true):insG (setI vs s i x) a b=if a=s/\b=i then x else insG vs a b:=by
 rw[zd4]at h h';unfold insG;rw[zrr];by_cases e:a=s
 ·subst e;rw[if_pos ⟨rfl,by omega⟩];rw[xf,xf,xj];by_cases e2:b=i
  ·subst e2;have hb:b.toNat<(vs.getD a.toNat srv0).ins.length:=by omega
   rw[xf]at hb;rw[if_pos rfl,if_pos hb,if_pos ⟨rfl,rfl⟩];rfl
  ·rw[if_neg (by omega),if_neg (fun q=>e2 q.2)];simp
 ·rw[if_neg (by omega),if_neg (fun q=>e q.1)]
theorem zd7 {ms:List MsgD}{m x:MsgD}(h:x∈za8 ms m):x∈ms\/x=m:=by
 unfold za8 at h;split at h
 ·exact .inl h
 ·simpa using h
structure WayD where
 n:Nat
 cfg:Nat->Int->Int
def aim (c:CtlD):Nat:=if c.st=2 then c.pos.toNat-1 else c.pos.toNat+1
def Alw (X:WayD)(c:CtlD)(s r:Int):Prop:=r=X.cfg c.pos.toNat s\/(c.wk=true/\r=X.cfg (aim c) s)
def ansB (c:CtlD)(i:Int):Bool:=if i=0 then c.a0 else if i=1 then c.a1 else if i=2 then c.a2 else false
structure Shp (X:WayD)(vs:List SrvD)(c:CtlD):Prop where
 len:c.ts.length=X.n
 tsk:∀ j t,c.ts[j]?=some t->(∀ i,hasB vs t.s i=true↔0<=i/\i<t.z)/\1<=t.z/\t.z<=3/\X.cfg j t.s=t.b/\X.cfg (j+1) t.s=t.r/\∀ s,s≠t.s->X.cfg (j+1) s=X.cfg j s
 p0:0<=c.pos
 pn:c.pos<=X.n
 st:(c.st=1/\c.pos<X.n)\/(c.st=2/\0<c.pos)\/(c.st=3/\c.pos=X.n/\c.wk=false)\/(c.st=4/\c.pos=0/\c.wk=false)
 ba:c.ba<=c.nu
structure Net (X:WayD)(vs:List SrvD)(c:CtlD)(ms:List MsgD):Prop where
 i1:∀ s i,hasB vs s i=true->Alw X c s (insG vs s i).r
 i4:c.wk=true->∀ s i,hasB vs s i=true->c.ba<(insG vs s i).h->(insG vs s i).r=X.cfg (aim c) s
 i5:∀ s i,hasB vs s i=true->(insG vs s i).h<=c.nu
 i7:c.wk=true->∀ i,hasB vs (curT c).s i=true->ansB c i=true->c.ba<(insG vs (curT c).s i).h
 m0:∀ m∈ms,hasB vs m.s m.i=true/\m.n<=c.nu/\m.i<3
 m2:∀ m∈ms,m.k≠2->m.n<(insG vs m.s m.i).h\/Alw X c m.s m.r
 m3:c.wk=true->∀ m∈ms,c.ba<m.n->m.s=(curT c).s/\m.r=X.cfg (aim c) m.s
 m6:∀ m∈ms,m.k=2->m.n<=(insG vs m.s m.i).h
theorem zgd {X:WayD}{vs:List SrvD}{c:CtlD}(h:Shp X vs c)(hs:c.st=1\/c.st=2):∃ t,c.ts[(numC c).toNat]?=some t/\(curT c).s=t.s/\(curT c).z=t.z/\(curT c).r=X.cfg (aim c) t.s/\(∀ i,hasB vs t.s i=true↔0<=i/\i<t.z)/\1<=t.z/\t.z<=3/\∀ s,s≠t.s->X.cfg (aim c) s=X.cfg c.pos.toNat s:=by
 have hl:=h.len;have p0:=h.p0;have pn:=h.pn;have hst:=h.st;have hn:0<=numC c/\numC c<c.ts.length:=by unfold numC;split<;>omega
 obtain⟨t,ht⟩:∃ t,c.ts[(numC c).toNat]?=some t:=⟨c.ts[(numC c).toNat]'(by omega),xg _⟩;obtain⟨k1,k2,k3,k4,k5,k6⟩:=h.tsk _ t ht;have hg:c.ts.getD (numC c).toNat tsk0=t:=by rw[xf,ht];rfl
 have hb:numB (numC c) c.ts.length=true:=by unfold numB;simp;omega
 refine⟨t,ht,?_,?_,?_,k1,k2,k3,?_⟩
 iterate 2
  ·unfold curT;rw[if_pos hb,hg];split<;>rfl
 ·unfold curT;rw[if_pos hb,hg];unfold aim;unfold numC at k4 k5;split
  ·rename_i e;rw[if_pos e]at k4 k5;rw[show (c.pos-1).toNat=c.pos.toNat-1 by omega]at k4;exact k4.symm
  ·rename_i e;rw[if_neg e]at k5;exact k5.symm
 ·intro s hs';have:=k6 s hs';unfold aim;unfold numC at this;split
  ·rename_i e;rw[if_pos e,show (c.pos-1).toNat+1=c.pos.toNat by omega,show (c.pos-1).toNat=c.pos.toNat-1 by omega]at this;exact this.symm
  ·rename_i e;rw[if_neg e]at this;exact this
theorem zxi {a0 a1 a2:Bool}{z:Int}(hz:z<=3)(h:frst a0 a1 a2 z=z):(0<z->a0=true)/\(1<z->a1=true)/\(2<z->a2=true):=by
 unfold frst at h;cases a0<;>cases a1<;>cases a2<;>simp at h ⊢<;>(try split at h)<;>(try split at h)<;>(try split at h)<;>omega
end Go.Proofs.YtkkekopomiehlabGreatDoor
