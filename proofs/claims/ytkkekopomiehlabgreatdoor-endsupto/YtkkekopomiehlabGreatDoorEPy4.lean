import Derived.Test.YtkkekopomiehlabGreatDoorEPy3
set_option linter.unusedVariables false
set_option linter.unusedSimpArgs false
set_option maxHeartbeats 40000000
open List renaming getD_eq_getElem?_getD->xe,getElem?_set->xf
open Go.RowKit
set_option maxRecDepth 4000
namespace Go.Proofs.YtkkekopomiehlabGreatDoor
section
variable {ti:Int}{a:Option Addr}{tc:Nat}{m v t s:Value}{c:CtlD}{r:Nat}{w:World}
theorem zt3 {g:Nat}(time:Int)(hc:zaj c=false->zby c)(hn:0<=c.nu/\c.nu<=4000000000)(hgr:r≠g)(ht:TsksAt w g c.ts)(h:RowIs w r 149 (RunC ti (.slice (some ⟨g,0,none⟩) c.ts.length tc) c m v t s)):Calls Tryz.prog 183 #[.pointer (some ⟨r,1,none⟩),.int .i64 time] w fun e W=>e=.returned (.tuple #[.agg #[.int .i64 (actM c time).k,.int .i64 (actM c time).n,.int .i64 (actM c time).s,.int .i64 (actM c time).i,.int .i64 (actM c time).r],.bool (actB c time)])/\RowIs W r 149 (RunC ti (.slice (some ⟨g,0,none⟩) (actC c time).ts.length tc) (actC c time) m v t s)/\Chg (·= r) w W:=by
 unfold actM actB actC;by_cases hno:(c.pa||zaj c)=true
 ·rw[if_pos hno,if_pos hno,hno];exact zt6 time hno h
 ·rw[if_neg hno,if_neg hno];have hno':(c.pa||zaj c)=false:=by simpa using hno
  have hpa:c.pa=false:=by cases e:c.pa with|false=>rfl|true=>rw[e]at hno';simp at hno'
  have ho:zaj c=false:=by rw[hpa]at hno';simpa using hno'
  rw[hno'];cases hw:c.wk with
  |true =>
   have e:actA c time=c:=by unfold actA;rw[if_neg (by rw[hw];simp)]
   rw[e,hw];simpa using zt9 time hpa ho hw (hc ho) hn ht h
  |false =>
   by_cases hu:c.un<=time
   ·have e:actA c time=begC c:=by unfold actA;rw[if_pos ⟨hw,hu⟩]
    rw[e];have e2:(begC c).wk=true:=rfl;rw[e2];simpa using zt4 time hpa ho hw hu hgr (hc ho) hn ht h
   ·have e:actA c time=c:=by unfold actA;rw[if_neg (fun q=>hu q.2)]
    rw[e,hw];simpa[msg0]using zt8 time hpa ho hw (by omega) h
theorem zxr {mk mn ms mi mr:Int}(time:Int)(hno:c.wk=false\/mn<=c.ba)(h:RowIs w r 149 (RunC ti (.slice a c.ts.length tc) c m v t s)):Calls Tryz.prog 184 #[.pointer (some ⟨r,1,none⟩),.agg #[.int .i64 mk,.int .i64 mn,.int .i64 ms,.int .i64 mi,.int .i64 mr],.int .i64 time] w fun e W=>e=.returned (.tuple #[])/\RowIs W r 149 (RunC ti (.slice a (c).ts.length tc) (c) m v t s)/\Chg (·= r) w W:=by
 have H:=zaa h;have lr:=h.lt;have k5:w.cell? ⟨r,5,none⟩=some (.bool c.wk):=h.cell rfl;have k9:w.cell? ⟨r,9,none⟩=some (.int .i64 c.ba):=h.cell rfl;have HA:=zaa (H.out.keep (bel1 w (.cells #[.int .i64 mk,.int .i64 mn,.int .i64 ms,.int .i64 mi,.int .i64 mr] 100)));clear h;cases hw:c.wk with
 |false =>
  rw[hw]at k5;generalize c.ba=ba at k9 hno;clear hno hw
  go_enter Tryz.func184,Tryz.ntmps184
  go_wp2_with fail
  go_quiet (fail)
  go_wp2_with fail
  refine bodyPost_ret (v:=.tuple #[]) (results_none rfl _ _ _) rfl ?_;exact⟨rfl,HA.out,(Chg.of (S:=(·= r)) (bel1 _ _)).drewN _⟩
 |true =>
  have hno:mn<=c.ba:=by rcases hno with q|q;rw[hw]at q;cases q;exact q
  rw[hw]at k5;generalize c.ba=ba at k9 hno;clear hw
  go_enter Tryz.func184,Tryz.ntmps184
  go_wp2_with fail
  go_quiet (fail)
  go_wp2_with fail
  refine bodyPost_ret (v:=.tuple #[]) (results_none rfl _ _ _) rfl ?_;exact⟨rfl,HA.out,(Chg.of (S:=(·= r)) (bel1 _ _)).drewN _⟩
theorem zxo {g:Nat}{mk mn ms mr:Int}(time:Int)(hw:c.wk=true)(hn:c.ba<mn)(hc:zby c)(hgr:r≠g)(hf:frst (ansC c 0).a0 (ansC c 0).a1 (ansC c 0).a2 (curT (ansC c 0)).z=(curT (ansC c 0)).z)(hb:0<=time/\time<=4000000000/\0<=c.rest/\c.rest<=4000000000)(ht:TsksAt w g c.ts)(h:RowIs w r 149 (RunC ti (.slice (some ⟨g,0,none⟩) c.ts.length tc) c m v t s)):Calls Tryz.prog 184 #[.pointer (some ⟨r,1,none⟩),.agg #[.int .i64 mk,.int .i64 mn,.int .i64 ms,.int .i64 0,.int .i64 mr],.int .i64 time] w fun e W=>e=.returned (.tuple #[])/\RowIs W r 149 (RunC ti (.slice (some ⟨g,0,none⟩) (finC (ansC c 0) time).ts.length tc) (finC (ansC c 0) time) m v t s)/\Chg (·= r) w W:=by
 have H:=zaa h;have lr:=h.lt;have n2:w.heap.size≠r:=by omega
 have k5:w.cell? ⟨r,5,none⟩=some (.bool c.wk):=h.cell rfl;have k9:w.cell? ⟨r,9,none⟩=some (.int .i64 c.ba):=h.cell rfl;have kx:w.cell? ⟨r,10,none⟩=some (.bool c.a0):=h.cell rfl;have xx:=h.frozen 10;rw[hw]at k5;have hnq:∀ W,Calls Tryz.prog 178 #[.int .i64 0,.int .i64 3] W fun e w'=>e=.returned (.bool true)/\w'=W:=fun W=>(za5 0 3 W).mono fun e w' h=>⟨h.1.trans (by rw[show numB 0 3=true by decide]),h.2.symm⟩;have c1:=fun (W:World) (h:RowIs W r 149 (RunC ti (.slice (some ⟨g,0,none⟩) (ansC c 0).ts.length tc) (ansC c 0) m v t s)) (ht:TsksAt W g c.ts)=>zes (c:=ansC c 0) hc h ht;have c2:=fun (W:World) (h:RowIs W r 149 (RunC ti (.slice (some ⟨g,0,none⟩) (ansC c 0).ts.length tc) (ansC c 0) m v t s))=>zev (c:=ansC c 0) (curT (ansC c 0)).z h;have c3:=fun (W:World) (h:RowIs W r 149 (RunC ti (.slice (some ⟨g,0,none⟩) ((ansC c 0)).ts.length tc) ((ansC c 0)) m v t s))=>zkg (c:=(ansC c 0)) time (by rcases hc.2 with q|q;exact .inl q.1;exact .inr q.1) (by obtain⟨h1,h2,h3,h4⟩:=hb;have:=hc.1;refine⟨h1,h2,h3,h4,?_,?_⟩;rcases hc.2 with q|q;exact q.2.1;show 0<=c.pos;omega;show c.pos<=4000000000;rcases hc.2 with q|q<;>omega) h;have HA:=zaa (h.keep (bel1 w (.cells #[.int .i64 mk,.int .i64 mn,.int .i64 ms,.int .i64 0,.int .i64 mr] 100)));have HT:=zaa (ht.keep (bel1 w (.cells #[.int .i64 mk,.int .i64 mn,.int .i64 ms,.int .i64 0,.int .i64 mr] 100)));have hd:decide (mn<=c.ba)=false:=decide_eq_false (by omega);have HB:=zaa hb;have HC:=zaa hc;clear h ht hw hb hc;generalize frst (ansC c 0).a0 (ansC c 0).a1 (ansC c 0).a2 (curT (ansC c 0)).z=F at *;generalize hT:curT (ansC c 0)=T at *;generalize hba:c.ba=ba at *;generalize hai:c.a0=ai at *;obtain⟨s0,z0,b0,r0⟩:=T;simp only at c1 c2 hf;subst hf
 go_enter Tryz.func184,Tryz.ntmps184
 go_wp2_with fail
 go_quiet ((go_at_call 178;exact Calls.quiet_of_same (hnq _)))
 go_wp2_with fail
 go_big_region
 have eC:(RunC ti (.slice (some ⟨g,0,none⟩) c.ts.length tc) c m v t s).set 10 (.bool true)=RunC ti (.slice (some ⟨g,0,none⟩) (ansC c 0).ts.length tc) (ansC c 0) m v t s:=by unfold RunC ansC;simp
 have HS:=zaa ((HA.out.drewN (nq+1)).set 10 (.bool true));rw[eC]at HS;have X1:=zaa (((Chg.refl (·= r) (w.alloc (.cells #[.int .i64 mk,.int .i64 mn,.int .i64 ms,.int .i64 0,.int .i64 mr] 100))).drewN (nq+1)).set (p:=⟨r,10,none⟩) (.inl rfl) (.bool true));have HTS:=zaa (HT.out.chg X1.out (fun e=>hgr e.symm));clear hd hT hai hba;generalize (((w.alloc (.cells #[.int .i64 mk,.int .i64 mn,.int .i64 ms,.int .i64 0,.int .i64 mr] 100)).drewN (nq+1)).setCell ⟨r,10,none⟩ (.bool true))=W2 at *
 go_wp2_with (first
  |(go_at_call 234;refine(c1 _ HS.out HTS.out).mono ?_;rintro e w3 ⟨rfl,hb3⟩;have HS3:=zaa ((HS.out.keep hb3).keep (bel1 w3 (.cells #[.int .i64 s0,.int .i64 F,.int .i64 b0,.int .i64 r0] 303)))))
 go_quiet ((go_at_call 235;exact Calls.quiet_of_same (c2 _ (RowIs.drewN HS3.out _))))
 go_wp2_with (first
  |(go_at_call 236;refine(c3 _ (RowIs.drewN HS3.out _)).mono ?_;rintro e w4 ⟨rfl,hr4,hc4⟩))
 refine bodyPost_end (v:=.tuple #[]) (results_none rfl _ _ _) rfl ?_;exact⟨rfl,hr4,(((((Chg.of (S:=(·= r)) (bel1 _ _)).trans X1.out).trans (Chg.of hb3)).trans (Chg.of (bel1 _ _))).drewN _).trans hc4⟩
theorem zxt {g:Nat}{mk mn ms mr:Int}(time:Int)(hw:c.wk=true)(hn:c.ba<mn)(hc:zby c)(hgr:r≠g)(hf:frst (ansC c 0).a0 (ansC c 0).a1 (ansC c 0).a2 (curT (ansC c 0)).z≠(curT (ansC c 0)).z)(hb:0<=time/\time<=4000000000/\0<=c.rest/\c.rest<=4000000000)(ht:TsksAt w g c.ts)(h:RowIs w r 149 (RunC ti (.slice (some ⟨g,0,none⟩) c.ts.length tc) c m v t s)):Calls Tryz.prog 184 #[.pointer (some ⟨r,1,none⟩),.agg #[.int .i64 mk,.int .i64 mn,.int .i64 ms,.int .i64 0,.int .i64 mr],.int .i64 time] w fun e W=>e=.returned (.tuple #[])/\RowIs W r 149 (RunC ti (.slice (some ⟨g,0,none⟩) ((ansC c 0)).ts.length tc) ((ansC c 0)) m v t s)/\Chg (·= r) w W:=by
 have H:=zaa h;have lr:=h.lt;have n2:w.heap.size≠r:=by omega
 have k5:w.cell? ⟨r,5,none⟩=some (.bool c.wk):=h.cell rfl;have k9:w.cell? ⟨r,9,none⟩=some (.int .i64 c.ba):=h.cell rfl;have kx:w.cell? ⟨r,10,none⟩=some (.bool c.a0):=h.cell rfl;have xx:=h.frozen 10;rw[hw]at k5;have hnq:∀ W,Calls Tryz.prog 178 #[.int .i64 0,.int .i64 3] W fun e w'=>e=.returned (.bool true)/\w'=W:=fun W=>(za5 0 3 W).mono fun e w' h=>⟨h.1.trans (by rw[show numB 0 3=true by decide]),h.2.symm⟩;have c1:=fun (W:World) (h:RowIs W r 149 (RunC ti (.slice (some ⟨g,0,none⟩) (ansC c 0).ts.length tc) (ansC c 0) m v t s)) (ht:TsksAt W g c.ts)=>zes (c:=ansC c 0) hc h ht;have c2:=fun (W:World) (h:RowIs W r 149 (RunC ti (.slice (some ⟨g,0,none⟩) (ansC c 0).ts.length tc) (ansC c 0) m v t s))=>zev (c:=ansC c 0) (curT (ansC c 0)).z h
 skip
 have HA:=zaa (h.keep (bel1 w (.cells #[.int .i64 mk,.int .i64 mn,.int .i64 ms,.int .i64 0,.int .i64 mr] 100)));have HT:=zaa (ht.keep (bel1 w (.cells #[.int .i64 mk,.int .i64 mn,.int .i64 ms,.int .i64 0,.int .i64 mr] 100)));have hd:decide (mn<=c.ba)=false:=decide_eq_false (by omega);have HB:=zaa hb;have HC:=zaa hc;clear h ht hw hb hc;generalize frst (ansC c 0).a0 (ansC c 0).a1 (ansC c 0).a2 (curT (ansC c 0)).z=F at *;generalize hT:curT (ansC c 0)=T at *;generalize hba:c.ba=ba at *;generalize hai:c.a0=ai at *;obtain⟨s0,z0,b0,r0⟩:=T;simp only at c1 c2 hf
 skip
 go_enter Tryz.func184,Tryz.ntmps184
 go_wp2_with fail
 go_quiet ((go_at_call 178;exact Calls.quiet_of_same (hnq _)))
 go_wp2_with fail
 go_big_region
 have eC:(RunC ti (.slice (some ⟨g,0,none⟩) c.ts.length tc) c m v t s).set 10 (.bool true)=RunC ti (.slice (some ⟨g,0,none⟩) (ansC c 0).ts.length tc) (ansC c 0) m v t s:=by unfold RunC ansC;simp
 have HS:=zaa ((HA.out.drewN (nq+1)).set 10 (.bool true));rw[eC]at HS;have X1:=zaa (((Chg.refl (·= r) (w.alloc (.cells #[.int .i64 mk,.int .i64 mn,.int .i64 ms,.int .i64 0,.int .i64 mr] 100))).drewN (nq+1)).set (p:=⟨r,10,none⟩) (.inl rfl) (.bool true));have HTS:=zaa (HT.out.chg X1.out (fun e=>hgr e.symm));clear hd hT hai hba;generalize (((w.alloc (.cells #[.int .i64 mk,.int .i64 mn,.int .i64 ms,.int .i64 0,.int .i64 mr] 100)).drewN (nq+1)).setCell ⟨r,10,none⟩ (.bool true))=W2 at *
 go_wp2_with (first
  |(go_at_call 234;refine(c1 _ HS.out HTS.out).mono ?_;rintro e w3 ⟨rfl,hb3⟩;have HS3:=zaa ((HS.out.keep hb3).keep (bel1 w3 (.cells #[.int .i64 s0,.int .i64 z0,.int .i64 b0,.int .i64 r0] 303)))))
 go_quiet ((go_at_call 235;exact Calls.quiet_of_same (c2 _ (RowIs.drewN HS3.out _))))
 go_wp2_with fail
 refine bodyPost_end (v:=.tuple #[]) (results_none rfl _ _ _) rfl ?_;exact⟨rfl,RowIs.drewN HS3.out _,((((Chg.of (S:=(·= r)) (bel1 _ _)).trans X1.out).trans (Chg.of hb3)).trans (Chg.of (bel1 _ _))).drewN _⟩
theorem zxp {g:Nat}{mk mn ms mr:Int}(time:Int)(hw:c.wk=true)(hn:c.ba<mn)(hc:zby c)(hgr:r≠g)(hf:frst (ansC c 1).a0 (ansC c 1).a1 (ansC c 1).a2 (curT (ansC c 1)).z=(curT (ansC c 1)).z)(hb:0<=time/\time<=4000000000/\0<=c.rest/\c.rest<=4000000000)(ht:TsksAt w g c.ts)(h:RowIs w r 149 (RunC ti (.slice (some ⟨g,0,none⟩) c.ts.length tc) c m v t s)):Calls Tryz.prog 184 #[.pointer (some ⟨r,1,none⟩),.agg #[.int .i64 mk,.int .i64 mn,.int .i64 ms,.int .i64 1,.int .i64 mr],.int .i64 time] w fun e W=>e=.returned (.tuple #[])/\RowIs W r 149 (RunC ti (.slice (some ⟨g,0,none⟩) (finC (ansC c 1) time).ts.length tc) (finC (ansC c 1) time) m v t s)/\Chg (·= r) w W:=by
 have H:=zaa h;have lr:=h.lt;have n2:w.heap.size≠r:=by omega
 have k5:w.cell? ⟨r,5,none⟩=some (.bool c.wk):=h.cell rfl;have k9:w.cell? ⟨r,9,none⟩=some (.int .i64 c.ba):=h.cell rfl;have kx:w.cell? ⟨r,11,none⟩=some (.bool c.a1):=h.cell rfl;have xx:=h.frozen 11;rw[hw]at k5;have hnq:∀ W,Calls Tryz.prog 178 #[.int .i64 1,.int .i64 3] W fun e w'=>e=.returned (.bool true)/\w'=W:=fun W=>(za5 1 3 W).mono fun e w' h=>⟨h.1.trans (by rw[show numB 1 3=true by decide]),h.2.symm⟩;have c1:=fun (W:World) (h:RowIs W r 149 (RunC ti (.slice (some ⟨g,0,none⟩) (ansC c 1).ts.length tc) (ansC c 1) m v t s)) (ht:TsksAt W g c.ts)=>zes (c:=ansC c 1) hc h ht;have c2:=fun (W:World) (h:RowIs W r 149 (RunC ti (.slice (some ⟨g,0,none⟩) (ansC c 1).ts.length tc) (ansC c 1) m v t s))=>zev (c:=ansC c 1) (curT (ansC c 1)).z h;have c3:=fun (W:World) (h:RowIs W r 149 (RunC ti (.slice (some ⟨g,0,none⟩) ((ansC c 1)).ts.length tc) ((ansC c 1)) m v t s))=>zkg (c:=(ansC c 1)) time (by rcases hc.2 with q|q;exact .inl q.1;exact .inr q.1) (by obtain⟨h1,h2,h3,h4⟩:=hb;have:=hc.1;refine⟨h1,h2,h3,h4,?_,?_⟩;rcases hc.2 with q|q;exact q.2.1;show 0<=c.pos;omega;show c.pos<=4000000000;rcases hc.2 with q|q<;>omega) h;have HA:=zaa (h.keep (bel1 w (.cells #[.int .i64 mk,.int .i64 mn,.int .i64 ms,.int .i64 1,.int .i64 mr] 100)));have HT:=zaa (ht.keep (bel1 w (.cells #[.int .i64 mk,.int .i64 mn,.int .i64 ms,.int .i64 1,.int .i64 mr] 100)));have hd:decide (mn<=c.ba)=false:=decide_eq_false (by omega);have HB:=zaa hb;have HC:=zaa hc;clear h ht hw hb hc;generalize frst (ansC c 1).a0 (ansC c 1).a1 (ansC c 1).a2 (curT (ansC c 1)).z=F at *;generalize hT:curT (ansC c 1)=T at *;generalize hba:c.ba=ba at *;generalize hai:c.a1=ai at *;obtain⟨s0,z0,b0,r0⟩:=T;simp only at c1 c2 hf;subst hf
 go_enter Tryz.func184,Tryz.ntmps184
 go_wp2_with fail
 go_quiet ((go_at_call 178;exact Calls.quiet_of_same (hnq _)))
 go_wp2_with fail
 go_big_region
 have eC:(RunC ti (.slice (some ⟨g,0,none⟩) c.ts.length tc) c m v t s).set 11 (.bool true)=RunC ti (.slice (some ⟨g,0,none⟩) (ansC c 1).ts.length tc) (ansC c 1) m v t s:=by unfold RunC ansC;simp
 have HS:=zaa ((HA.out.drewN (nq+1)).set 11 (.bool true));rw[eC]at HS;have X1:=zaa (((Chg.refl (·= r) (w.alloc (.cells #[.int .i64 mk,.int .i64 mn,.int .i64 ms,.int .i64 1,.int .i64 mr] 100))).drewN (nq+1)).set (p:=⟨r,11,none⟩) (.inl rfl) (.bool true));have HTS:=zaa (HT.out.chg X1.out (fun e=>hgr e.symm));clear hd hT hai hba;generalize (((w.alloc (.cells #[.int .i64 mk,.int .i64 mn,.int .i64 ms,.int .i64 1,.int .i64 mr] 100)).drewN (nq+1)).setCell ⟨r,11,none⟩ (.bool true))=W2 at *
 go_wp2_with (first
  |(go_at_call 234;refine(c1 _ HS.out HTS.out).mono ?_;rintro e w3 ⟨rfl,hb3⟩;have HS3:=zaa ((HS.out.keep hb3).keep (bel1 w3 (.cells #[.int .i64 s0,.int .i64 F,.int .i64 b0,.int .i64 r0] 303)))))
 go_quiet ((go_at_call 235;exact Calls.quiet_of_same (c2 _ (RowIs.drewN HS3.out _))))
 go_wp2_with (first
  |(go_at_call 236;refine(c3 _ (RowIs.drewN HS3.out _)).mono ?_;rintro e w4 ⟨rfl,hr4,hc4⟩))
 refine bodyPost_end (v:=.tuple #[]) (results_none rfl _ _ _) rfl ?_;exact⟨rfl,hr4,(((((Chg.of (S:=(·= r)) (bel1 _ _)).trans X1.out).trans (Chg.of hb3)).trans (Chg.of (bel1 _ _))).drewN _).trans hc4⟩
theorem zxu {g:Nat}{mk mn ms mr:Int}(time:Int)(hw:c.wk=true)(hn:c.ba<mn)(hc:zby c)(hgr:r≠g)(hf:frst (ansC c 1).a0 (ansC c 1).a1 (ansC c 1).a2 (curT (ansC c 1)).z≠(curT (ansC c 1)).z)(hb:0<=time/\time<=4000000000/\0<=c.rest/\c.rest<=4000000000)(ht:TsksAt w g c.ts)(h:RowIs w r 149 (RunC ti (.slice (some ⟨g,0,none⟩) c.ts.length tc) c m v t s)):Calls Tryz.prog 184 #[.pointer (some ⟨r,1,none⟩),.agg #[.int .i64 mk,.int .i64 mn,.int .i64 ms,.int .i64 1,.int .i64 mr],.int .i64 time] w fun e W=>e=.returned (.tuple #[])/\RowIs W r 149 (RunC ti (.slice (some ⟨g,0,none⟩) ((ansC c 1)).ts.length tc) ((ansC c 1)) m v t s)/\Chg (·= r) w W:=by
 have H:=zaa h;have lr:=h.lt;have n2:w.heap.size≠r:=by omega
 have k5:w.cell? ⟨r,5,none⟩=some (.bool c.wk):=h.cell rfl;have k9:w.cell? ⟨r,9,none⟩=some (.int .i64 c.ba):=h.cell rfl;have kx:w.cell? ⟨r,11,none⟩=some (.bool c.a1):=h.cell rfl;have xx:=h.frozen 11;rw[hw]at k5;have hnq:∀ W,Calls Tryz.prog 178 #[.int .i64 1,.int .i64 3] W fun e w'=>e=.returned (.bool true)/\w'=W:=fun W=>(za5 1 3 W).mono fun e w' h=>⟨h.1.trans (by rw[show numB 1 3=true by decide]),h.2.symm⟩;have c1:=fun (W:World) (h:RowIs W r 149 (RunC ti (.slice (some ⟨g,0,none⟩) (ansC c 1).ts.length tc) (ansC c 1) m v t s)) (ht:TsksAt W g c.ts)=>zes (c:=ansC c 1) hc h ht;have c2:=fun (W:World) (h:RowIs W r 149 (RunC ti (.slice (some ⟨g,0,none⟩) (ansC c 1).ts.length tc) (ansC c 1) m v t s))=>zev (c:=ansC c 1) (curT (ansC c 1)).z h
 skip
 have HA:=zaa (h.keep (bel1 w (.cells #[.int .i64 mk,.int .i64 mn,.int .i64 ms,.int .i64 1,.int .i64 mr] 100)));have HT:=zaa (ht.keep (bel1 w (.cells #[.int .i64 mk,.int .i64 mn,.int .i64 ms,.int .i64 1,.int .i64 mr] 100)));have hd:decide (mn<=c.ba)=false:=decide_eq_false (by omega);have HB:=zaa hb;have HC:=zaa hc;clear h ht hw hb hc;generalize frst (ansC c 1).a0 (ansC c 1).a1 (ansC c 1).a2 (curT (ansC c 1)).z=F at *;generalize hT:curT (ansC c 1)=T at *;generalize hba:c.ba=ba at *;generalize hai:c.a1=ai at *;obtain⟨s0,z0,b0,r0⟩:=T;simp only at c1 c2 hf
 skip
 go_enter Tryz.func184,Tryz.ntmps184
 go_wp2_with fail
 go_quiet ((go_at_call 178;exact Calls.quiet_of_same (hnq _)))
 go_wp2_with fail
 go_big_region
 have eC:(RunC ti (.slice (some ⟨g,0,none⟩) c.ts.length tc) c m v t s).set 11 (.bool true)=RunC ti (.slice (some ⟨g,0,none⟩) (ansC c 1).ts.length tc) (ansC c 1) m v t s:=by unfold RunC ansC;simp
 have HS:=zaa ((HA.out.drewN (nq+1)).set 11 (.bool true));rw[eC]at HS;have X1:=zaa (((Chg.refl (·= r) (w.alloc (.cells #[.int .i64 mk,.int .i64 mn,.int .i64 ms,.int .i64 1,.int .i64 mr] 100))).drewN (nq+1)).set (p:=⟨r,11,none⟩) (.inl rfl) (.bool true));have HTS:=zaa (HT.out.chg X1.out (fun e=>hgr e.symm));clear hd hT hai hba;generalize (((w.alloc (.cells #[.int .i64 mk,.int .i64 mn,.int .i64 ms,.int .i64 1,.int .i64 mr] 100)).drewN (nq+1)).setCell ⟨r,11,none⟩ (.bool true))=W2 at *
 go_wp2_with (first
  |(go_at_call 234;refine(c1 _ HS.out HTS.out).mono ?_;rintro e w3 ⟨rfl,hb3⟩;have HS3:=zaa ((HS.out.keep hb3).keep (bel1 w3 (.cells #[.int .i64 s0,.int .i64 z0,.int .i64 b0,.int .i64 r0] 303)))))
 go_quiet ((go_at_call 235;exact Calls.quiet_of_same (c2 _ (RowIs.drewN HS3.out _))))
 go_wp2_with fail
 refine bodyPost_end (v:=.tuple #[]) (results_none rfl _ _ _) rfl ?_;exact⟨rfl,RowIs.drewN HS3.out _,((((Chg.of (S:=(·= r)) (bel1 _ _)).trans X1.out).trans (Chg.of hb3)).trans (Chg.of (bel1 _ _))).drewN _⟩
theorem zxq {g:Nat}{mk mn ms mr:Int}(time:Int)(hw:c.wk=true)(hn:c.ba<mn)(hc:zby c)(hgr:r≠g)(hf:frst (ansC c 2).a0 (ansC c 2).a1 (ansC c 2).a2 (curT (ansC c 2)).z=(curT (ansC c 2)).z)(hb:0<=time/\time<=4000000000/\0<=c.rest/\c.rest<=4000000000)(ht:TsksAt w g c.ts)(h:RowIs w r 149 (RunC ti (.slice (some ⟨g,0,none⟩) c.ts.length tc) c m v t s)):Calls Tryz.prog 184 #[.pointer (some ⟨r,1,none⟩),.agg #[.int .i64 mk,.int .i64 mn,.int .i64 ms,.int .i64 2,.int .i64 mr],.int .i64 time] w fun e W=>e=.returned (.tuple #[])/\RowIs W r 149 (RunC ti (.slice (some ⟨g,0,none⟩) (finC (ansC c 2) time).ts.length tc) (finC (ansC c 2) time) m v t s)/\Chg (·= r) w W:=by
 have H:=zaa h;have lr:=h.lt;have n2:w.heap.size≠r:=by omega
 have k5:w.cell? ⟨r,5,none⟩=some (.bool c.wk):=h.cell rfl;have k9:w.cell? ⟨r,9,none⟩=some (.int .i64 c.ba):=h.cell rfl;have kx:w.cell? ⟨r,12,none⟩=some (.bool c.a2):=h.cell rfl;have xx:=h.frozen 12;rw[hw]at k5;have hnq:∀ W,Calls Tryz.prog 178 #[.int .i64 2,.int .i64 3] W fun e w'=>e=.returned (.bool true)/\w'=W:=fun W=>(za5 2 3 W).mono fun e w' h=>⟨h.1.trans (by rw[show numB 2 3=true by decide]),h.2.symm⟩;have c1:=fun (W:World) (h:RowIs W r 149 (RunC ti (.slice (some ⟨g,0,none⟩) (ansC c 2).ts.length tc) (ansC c 2) m v t s)) (ht:TsksAt W g c.ts)=>zes (c:=ansC c 2) hc h ht;have c2:=fun (W:World) (h:RowIs W r 149 (RunC ti (.slice (some ⟨g,0,none⟩) (ansC c 2).ts.length tc) (ansC c 2) m v t s))=>zev (c:=ansC c 2) (curT (ansC c 2)).z h;have c3:=fun (W:World) (h:RowIs W r 149 (RunC ti (.slice (some ⟨g,0,none⟩) ((ansC c 2)).ts.length tc) ((ansC c 2)) m v t s))=>zkg (c:=(ansC c 2)) time (by rcases hc.2 with q|q;exact .inl q.1;exact .inr q.1) (by obtain⟨h1,h2,h3,h4⟩:=hb;have:=hc.1;refine⟨h1,h2,h3,h4,?_,?_⟩;rcases hc.2 with q|q;exact q.2.1;show 0<=c.pos;omega;show c.pos<=4000000000;rcases hc.2 with q|q<;>omega) h;have HA:=zaa (h.keep (bel1 w (.cells #[.int .i64 mk,.int .i64 mn,.int .i64 ms,.int .i64 2,.int .i64 mr] 100)));have HT:=zaa (ht.keep (bel1 w (.cells #[.int .i64 mk,.int .i64 mn,.int .i64 ms,.int .i64 2,.int .i64 mr] 100)));have hd:decide (mn<=c.ba)=false:=decide_eq_false (by omega);have HB:=zaa hb;have HC:=zaa hc;clear h ht hw hb hc;generalize frst (ansC c 2).a0 (ansC c 2).a1 (ansC c 2).a2 (curT (ansC c 2)).z=F at *;generalize hT:curT (ansC c 2)=T at *;generalize hba:c.ba=ba at *;generalize hai:c.a2=ai at *;obtain⟨s0,z0,b0,r0⟩:=T;simp only at c1 c2 hf;subst hf
 go_enter Tryz.func184,Tryz.ntmps184
 go_wp2_with fail
 go_quiet ((go_at_call 178;exact Calls.quiet_of_same (hnq _)))
 go_wp2_with fail
 go_big_region
 have eC:(RunC ti (.slice (some ⟨g,0,none⟩) c.ts.length tc) c m v t s).set 12 (.bool true)=RunC ti (.slice (some ⟨g,0,none⟩) (ansC c 2).ts.length tc) (ansC c 2) m v t s:=by unfold RunC ansC;simp
 have HS:=zaa ((HA.out.drewN (nq+1)).set 12 (.bool true));rw[eC]at HS;have X1:=zaa (((Chg.refl (·= r) (w.alloc (.cells #[.int .i64 mk,.int .i64 mn,.int .i64 ms,.int .i64 2,.int .i64 mr] 100))).drewN (nq+1)).set (p:=⟨r,12,none⟩) (.inl rfl) (.bool true));have HTS:=zaa (HT.out.chg X1.out (fun e=>hgr e.symm));clear hd hT hai hba;generalize (((w.alloc (.cells #[.int .i64 mk,.int .i64 mn,.int .i64 ms,.int .i64 2,.int .i64 mr] 100)).drewN (nq+1)).setCell ⟨r,12,none⟩ (.bool true))=W2 at *
 go_wp2_with (first
  |(go_at_call 234;refine(c1 _ HS.out HTS.out).mono ?_;rintro e w3 ⟨rfl,hb3⟩;have HS3:=zaa ((HS.out.keep hb3).keep (bel1 w3 (.cells #[.int .i64 s0,.int .i64 F,.int .i64 b0,.int .i64 r0] 303)))))
 go_quiet ((go_at_call 235;exact Calls.quiet_of_same (c2 _ (RowIs.drewN HS3.out _))))
 go_wp2_with (first
  |(go_at_call 236;refine(c3 _ (RowIs.drewN HS3.out _)).mono ?_;rintro e w4 ⟨rfl,hr4,hc4⟩))
 refine bodyPost_end (v:=.tuple #[]) (results_none rfl _ _ _) rfl ?_;exact⟨rfl,hr4,(((((Chg.of (S:=(·= r)) (bel1 _ _)).trans X1.out).trans (Chg.of hb3)).trans (Chg.of (bel1 _ _))).drewN _).trans hc4⟩
theorem zxv {g:Nat}{mk mn ms mr:Int}(time:Int)(hw:c.wk=true)(hn:c.ba<mn)(hc:zby c)(hgr:r≠g)(hf:frst (ansC c 2).a0 (ansC c 2).a1 (ansC c 2).a2 (curT (ansC c 2)).z≠(curT (ansC c 2)).z)(hb:0<=time/\time<=4000000000/\0<=c.rest/\c.rest<=4000000000)(ht:TsksAt w g c.ts)(h:RowIs w r 149 (RunC ti (.slice (some ⟨g,0,none⟩) c.ts.length tc) c m v t s)):Calls Tryz.prog 184 #[.pointer (some ⟨r,1,none⟩),.agg #[.int .i64 mk,.int .i64 mn,.int .i64 ms,.int .i64 2,.int .i64 mr],.int .i64 time] w fun e W=>e=.returned (.tuple #[])/\RowIs W r 149 (RunC ti (.slice (some ⟨g,0,none⟩) ((ansC c 2)).ts.length tc) ((ansC c 2)) m v t s)/\Chg (·= r) w W:=by
 have H:=zaa h;have lr:=h.lt;have n2:w.heap.size≠r:=by omega
 have k5:w.cell? ⟨r,5,none⟩=some (.bool c.wk):=h.cell rfl;have k9:w.cell? ⟨r,9,none⟩=some (.int .i64 c.ba):=h.cell rfl;have kx:w.cell? ⟨r,12,none⟩=some (.bool c.a2):=h.cell rfl;have xx:=h.frozen 12;rw[hw]at k5;have hnq:∀ W,Calls Tryz.prog 178 #[.int .i64 2,.int .i64 3] W fun e w'=>e=.returned (.bool true)/\w'=W:=fun W=>(za5 2 3 W).mono fun e w' h=>⟨h.1.trans (by rw[show numB 2 3=true by decide]),h.2.symm⟩;have c1:=fun (W:World) (h:RowIs W r 149 (RunC ti (.slice (some ⟨g,0,none⟩) (ansC c 2).ts.length tc) (ansC c 2) m v t s)) (ht:TsksAt W g c.ts)=>zes (c:=ansC c 2) hc h ht;have c2:=fun (W:World) (h:RowIs W r 149 (RunC ti (.slice (some ⟨g,0,none⟩) (ansC c 2).ts.length tc) (ansC c 2) m v t s))=>zev (c:=ansC c 2) (curT (ansC c 2)).z h
 skip
 have HA:=zaa (h.keep (bel1 w (.cells #[.int .i64 mk,.int .i64 mn,.int .i64 ms,.int .i64 2,.int .i64 mr] 100)));have HT:=zaa (ht.keep (bel1 w (.cells #[.int .i64 mk,.int .i64 mn,.int .i64 ms,.int .i64 2,.int .i64 mr] 100)));have hd:decide (mn<=c.ba)=false:=decide_eq_false (by omega);have HB:=zaa hb;have HC:=zaa hc;clear h ht hw hb hc;generalize frst (ansC c 2).a0 (ansC c 2).a1 (ansC c 2).a2 (curT (ansC c 2)).z=F at *;generalize hT:curT (ansC c 2)=T at *;generalize hba:c.ba=ba at *;generalize hai:c.a2=ai at *;obtain⟨s0,z0,b0,r0⟩:=T;simp only at c1 c2 hf
 skip
 go_enter Tryz.func184,Tryz.ntmps184
 go_wp2_with fail
 go_quiet ((go_at_call 178;exact Calls.quiet_of_same (hnq _)))
 go_wp2_with fail
 go_big_region
 have eC:(RunC ti (.slice (some ⟨g,0,none⟩) c.ts.length tc) c m v t s).set 12 (.bool true)=RunC ti (.slice (some ⟨g,0,none⟩) (ansC c 2).ts.length tc) (ansC c 2) m v t s:=by unfold RunC ansC;simp
 have HS:=zaa ((HA.out.drewN (nq+1)).set 12 (.bool true));rw[eC]at HS;have X1:=zaa (((Chg.refl (·= r) (w.alloc (.cells #[.int .i64 mk,.int .i64 mn,.int .i64 ms,.int .i64 2,.int .i64 mr] 100))).drewN (nq+1)).set (p:=⟨r,12,none⟩) (.inl rfl) (.bool true));have HTS:=zaa (HT.out.chg X1.out (fun e=>hgr e.symm));clear hd hT hai hba;generalize (((w.alloc (.cells #[.int .i64 mk,.int .i64 mn,.int .i64 ms,.int .i64 2,.int .i64 mr] 100)).drewN (nq+1)).setCell ⟨r,12,none⟩ (.bool true))=W2 at *
 go_wp2_with (first
  |(go_at_call 234;refine(c1 _ HS.out HTS.out).mono ?_;rintro e w3 ⟨rfl,hb3⟩;have HS3:=zaa ((HS.out.keep hb3).keep (bel1 w3 (.cells #[.int .i64 s0,.int .i64 z0,.int .i64 b0,.int .i64 r0] 303)))))
 go_quiet ((go_at_call 235;exact Calls.quiet_of_same (c2 _ (RowIs.drewN HS3.out _))))
 go_wp2_with fail
 refine bodyPost_end (v:=.tuple #[]) (results_none rfl _ _ _) rfl ?_;exact⟨rfl,RowIs.drewN HS3.out _,((((Chg.of (S:=(·= r)) (bel1 _ _)).trans X1.out).trans (Chg.of hb3)).trans (Chg.of (bel1 _ _))).drewN _⟩
theorem zxm {g:Nat}(x:MsgD)(time:Int)(hi:0<=x.i/\x.i<3)(hc:c.wk=true->zby c)(hgr:r≠g)(hb:0<=time/\time<=4000000000/\0<=c.rest/\c.rest<=4000000000)(ht:TsksAt w g c.ts)(h:RowIs w r 149 (RunC ti (.slice (some ⟨g,0,none⟩) c.ts.length tc) c m v t s)):Calls Tryz.prog 184 #[.pointer (some ⟨r,1,none⟩),.agg #[.int .i64 x.k,.int .i64 x.n,.int .i64 x.s,.int .i64 x.i,.int .i64 x.r],.int .i64 time] w fun e W=>e=.returned (.tuple #[])/\RowIs W r 149 (RunC ti (.slice (some ⟨g,0,none⟩) (za4 c x time).ts.length tc) (za4 c x time) m v t s)/\Chg (·= r) w W:=by
 rw[show za4 c x time=(if earB c x then (if frst (ansC c x.i).a0 (ansC c x.i).a1 (ansC c x.i).a2 (curT (ansC c x.i)).z=(curT (ansC c x.i)).z then finC (ansC c x.i) time else ansC c x.i) else c)from rfl];by_cases hno:c.wk=false\/x.n<=c.ba
 ·have e:earB c x=false:=by
   unfold earB;rcases hno with q|q
   ·rw[q];rfl
   ·rw[decide_eq_false (by omega)];simp
  rw[e];simpa using zxr time hno h
 ·have hw:c.wk=true:=by cases e:c.wk with|true=>rfl|false=>exact absurd (.inl e) hno
  have hn:c.ba<x.n:=by omega
  have e:earB c x=true:=by unfold earB numB;rw[hw];simp;omega
  rw[if_pos e];have hc:=hc hw;obtain⟨k,n,s',i,r'⟩:=x;simp only at hi hn ⊢;have hh:i=0\/i=1\/i=2:=by omega
  rcases hh with rfl|rfl|rfl
  ·by_cases hf:frst (ansC c 0).a0 (ansC c 0).a1 (ansC c 0).a2 (curT (ansC c 0)).z=(curT (ansC c 0)).z
   ·rw[if_pos hf];exact zxo time hw hn hc hgr hf hb ht h
   ·rw[if_neg hf];exact zxt time hw hn hc hgr hf hb ht h
  ·by_cases hf:frst (ansC c 1).a0 (ansC c 1).a1 (ansC c 1).a2 (curT (ansC c 1)).z=(curT (ansC c 1)).z
   ·rw[if_pos hf];exact zxp time hw hn hc hgr hf hb ht h
   ·rw[if_neg hf];exact zxu time hw hn hc hgr hf hb ht h
  ·by_cases hf:frst (ansC c 2).a0 (ansC c 2).a1 (ansC c 2).a2 (curT (ansC c 2)).z=(curT (ansC c 2)).z
   ·rw[if_pos hf];exact zxq time hw hn hc hgr hf hb ht h
   ·rw[if_neg hf];exact zxv time hw hn hc hgr hf hb ht h
end
structure InsD where
 r:Int
 h:Int
structure RecD where
 sc:ByteArray
 da:ByteArray
 ti:Int
structure SrvD where
 ins:List InsD
 rels:List (List PinD)
structure TopD where
 keep:Int
 recs:List RecD
structure zad where
 ti:Int
 c:CtlD
 ms:List MsgD
 vs:List SrvD
 ts:List TopD
 ss:List ByteArray
def ins0:InsD:=⟨0,0⟩
def srv0:SrvD:=⟨[],[]⟩
def hasB (vs:List SrvD)(s i:Int):Bool:=numB s vs.length&&numB i (vs.getD s.toNat srv0).ins.length
def insG (vs:List SrvD)(s i:Int):InsD:=(vs.getD s.toNat srv0).ins.getD i.toNat ins0
def setI (vs:List SrvD)(s i:Int)(x:InsD):List SrvD:=vs.set s.toNat { vs.getD s.toNat srv0 with ins:=(vs.getD s.toNat srv0).ins.set i.toNat x }
def folB (vs:List SrvD)(m:MsgD):Bool:=hasB vs m.s m.i&&!decide (m.n<(insG vs m.s m.i).h)
def za8 (ms:List MsgD)(m:MsgD):List MsgD:=if 40<=ms.length then ms else ms++[m]
def folV (vs:List SrvD)(m:MsgD):List SrvD:=if folB vs m then setI vs m.s m.i ⟨m.r,m.n⟩ else vs
def arrP (P:zad)(m:MsgD):zad:=if m.k=2 then { P with c:=za4 P.c m P.ti } else if folB P.vs m then { P with vs:=folV P.vs m,ms:=za8 P.ms { m with k:=2 } } else P
def delP (P:zad)(k:Int):zad:=if numB k P.ms.length then arrP { P with ms:=P.ms.eraseIdx k.toNat } (P.ms.getD k.toNat msg0) else P
def drpP (P:zad)(k:Int):zad:=if numB k P.ms.length then { P with ms:=P.ms.eraseIdx k.toNat } else P
def cpyP (P:zad)(k:Int):zad:=if numB k P.ms.length then { P with ms:=za8 P.ms (P.ms.getD k.toNat msg0) } else P
def fgtT (ti:Int)(t:TopD):TopD:=if t.keep<=0 then t else { t with recs:=t.recs.filter fun x=>decide (ti-x.ti<t.keep) }
def tckP (P:zad):zad:={ P with ti:=P.ti+1,ts:=P.ts.map (fgtT (P.ti+1)),c:=actC P.c (P.ti+1),ms:=if actB P.c (P.ti+1) then za8 P.ms (actM P.c (P.ti+1)) else P.ms }
theorem zd4 {vs:List SrvD}{s i:Int}:hasB vs s i=true↔0<=s/\s<vs.length/\0<=i/\i<(vs.getD s.toNat srv0).ins.length:=by
 unfold hasB numB;simp only[Bool.and_eq_true,decide_eq_true_eq];omega
theorem zrr (vs:List SrvD)(s i:Int)(x:InsD)(k:Nat):((setI vs s i x).getD k srv0).ins=if k=s.toNat/\k<vs.length then (vs.getD k srv0).ins.set i.toNat x else (vs.getD k srv0).ins:=by
 unfold setI;rw[xe,xe,xf];by_cases h:s.toNat=k
 ·subst h;by_cases h2:s.toNat<vs.length
  iterate 2
   ·simp[h2]
 ·rw[if_neg h,if_neg (fun e=>h e.1.symm)];simp
theorem zlk (vs:List SrvD)(s i:Int)(x:InsD):(setI vs s i x).length=vs.length:=by simp[setI]
theorem zrq (vs:List SrvD)(s i:Int)(x:InsD)(a b:Int):hasB (setI vs s i x) a b=hasB vs a b:=by
 unfold hasB;rw[zlk,zrr];split<;>simp
theorem zgz {vs:List SrvD}{s i:Int}{x:InsD}{a b:Int}(h:hasB vs s i=true)(h':hasB vs a b=true):insG (setI vs s i x) a b=if a=s/\b=i then x else insG vs a b:=by
 rw[zd4]at h h';unfold insG;rw[zrr];by_cases e:a=s
 ·subst e;rw[if_pos ⟨rfl,by omega⟩];rw[xe,xe,xf];by_cases e2:b=i
  ·subst e2;have hb:b.toNat<(vs.getD a.toNat srv0).ins.length:=by omega
   rw[xe]at hb;rw[if_pos rfl,if_pos hb,if_pos ⟨rfl,rfl⟩];rfl
  ·rw[if_neg (by omega),if_neg (fun q=>e2 q.2)];simp
 ·rw[if_neg (by omega),if_neg (fun q=>e q.1)]
theorem zd7 {ms:List MsgD}{m x:MsgD}(h:x∈za8 ms m):x∈ms\/x=m:=by
 unfold za8 at h;split at h
 ·exact .inl h
 ·simpa using h
structure WayD where
 n:Nat
 cfg:Nat->Int->Int
def aim (c:CtlD):Nat:=if c.st=2 then c.pos.toNat-1 else c.pos.toNat+1
def Alw (X:WayD)(c:CtlD)(s r:Int):Prop:=r=X.cfg c.pos.toNat s\/(c.wk=true/\r=X.cfg (aim c) s)
def ansB (c:CtlD)(i:Int):Bool:=if i=0 then c.a0 else if i=1 then c.a1 else if i=2 then c.a2 else false
structure Shp (X:WayD)(vs:List SrvD)(c:CtlD):Prop where
 len:c.ts.length=X.n
 tsk:∀ j t,c.ts[j]?=some t->(∀ i,hasB vs t.s i=true↔0<=i/\i<t.z)/\1<=t.z/\t.z<=3/\X.cfg j t.s=t.b/\X.cfg (j+1) t.s=t.r/\∀ s,s≠t.s->X.cfg (j+1) s=X.cfg j s
 p0:0<=c.pos
 pn:c.pos<=X.n
 st:(c.st=1/\c.pos<X.n)\/(c.st=2/\0<c.pos)\/(c.st=3/\c.pos=X.n/\c.wk=false)\/(c.st=4/\c.pos=0/\c.wk=false)
 ba:c.ba<=c.nu
structure Net (X:WayD)(vs:List SrvD)(c:CtlD)(ms:List MsgD):Prop where
 i1:∀ s i,hasB vs s i=true->Alw X c s (insG vs s i).r
 i4:c.wk=true->∀ s i,hasB vs s i=true->c.ba<(insG vs s i).h->(insG vs s i).r=X.cfg (aim c) s
 i5:∀ s i,hasB vs s i=true->(insG vs s i).h<=c.nu
 i7:c.wk=true->∀ i,hasB vs (curT c).s i=true->ansB c i=true->c.ba<(insG vs (curT c).s i).h
 m0:∀ m∈ms,hasB vs m.s m.i=true/\m.n<=c.nu/\m.i<3
 m2:∀ m∈ms,m.k≠2->m.n<(insG vs m.s m.i).h\/Alw X c m.s m.r
 m3:c.wk=true->∀ m∈ms,c.ba<m.n->m.s=(curT c).s/\m.r=X.cfg (aim c) m.s
 m6:∀ m∈ms,m.k=2->m.n<=(insG vs m.s m.i).h
theorem zgd {X:WayD}{vs:List SrvD}{c:CtlD}(h:Shp X vs c)(hs:c.st=1\/c.st=2):∃ t,c.ts[(numC c).toNat]?=some t/\(curT c).s=t.s/\(curT c).z=t.z/\(curT c).r=X.cfg (aim c) t.s/\(∀ i,hasB vs t.s i=true↔0<=i/\i<t.z)/\1<=t.z/\t.z<=3/\∀ s,s≠t.s->X.cfg (aim c) s=X.cfg c.pos.toNat s:=by
 have hl:=h.len;have p0:=h.p0;have pn:=h.pn;have hst:=h.st;have hn:0<=numC c/\numC c<c.ts.length:=by unfold numC;split<;>omega
 obtain⟨t,ht⟩:∃ t,c.ts[(numC c).toNat]?=some t:=⟨c.ts[(numC c).toNat]'(by omega),List.getElem?_eq_getElem _⟩;obtain⟨k1,k2,k3,k4,k5,k6⟩:=h.tsk _ t ht;have hg:c.ts.getD (numC c).toNat tsk0=t:=by rw[xe,ht];rfl
 have hb:numB (numC c) c.ts.length=true:=by unfold numB;simp;omega
 refine⟨t,ht,?_,?_,?_,k1,k2,k3,?_⟩
 iterate 2
  ·unfold curT;rw[if_pos hb,hg];split<;>rfl
 ·unfold curT;rw[if_pos hb,hg];unfold aim;unfold numC at k4 k5;split
  ·rename_i e;rw[if_pos e]at k4 k5;rw[show (c.pos-1).toNat=c.pos.toNat-1 by omega]at k4;exact k4.symm
  ·rename_i e;rw[if_neg e]at k5;exact k5.symm
 ·intro s hs';have:=k6 s hs';unfold aim;unfold numC at this;split
  ·rename_i e;rw[if_pos e,show (c.pos-1).toNat+1=c.pos.toNat by omega,show (c.pos-1).toNat=c.pos.toNat-1 by omega]at this;exact this.symm
  ·rename_i e;rw[if_neg e]at this;exact this
theorem zxi {a0 a1 a2:Bool}{z:Int}(hz:z<=3)(h:frst a0 a1 a2 z=z):(0<z->a0=true)/\(1<z->a1=true)/\(2<z->a2=true):=by
 unfold frst at h;cases a0<;>cases a1<;>cases a2<;>simp at h ⊢<;>(try split at h)<;>(try split at h)<;>(try split at h)<;>omega
end Go.Proofs.YtkkekopomiehlabGreatDoor
