import Derived.Test.YtkkekopomiehlabGreatDoorELn3
set_option linter.unusedVariables false
set_option linter.unusedSimpArgs false
set_option maxHeartbeats 40000000
open Nat renaming le_refl->xe
open Bool renaming false_eq_true->xf
open Go.RowKit
set_option maxRecDepth 4000
namespace Go.Proofs.YtkkekopomiehlabGreatDoor
section
variable {ti:Int}{a:Option Addr}{tc:Nat}{m v t s:Value}{c:CtlD}{r:Nat}{w:World}
theorem zkg (time:Int)(hst:c.st=1\/c.st=2)(hb:0<=time/\time<=4000000000/\0<=c.rest/\c.rest<=4000000000/\0<=c.pos/\c.pos<=4000000000)(h:RowIs w r 149 (RunC ti (.slice a c.ts.length tc) c m v t s)):Calls Tryz.prog 236 #[.pointer (some ⟨r,1,none⟩),.int .i64 time] w fun e W=>e=.returned (.tuple #[])/\RowIs W r 149 (RunC ti (.slice a (finC c time).ts.length tc) (finC c time) m v t s)/\Chg (·= r) w W:=by
 obtain⟨ts,rest,st,pos,wk,pa,un,nu,ba,a0,a1,a2⟩:=c;simp only at hst hb;obtain⟨t0,t1,r0,r1,p0,p1⟩:=hb;have lr:=h.lt;have k2:w.cell? ⟨r,2,none⟩=some (.int .i64 rest):=h.cell rfl;have k3:w.cell? ⟨r,3,none⟩=some (.int .i64 st):=h.cell rfl;have k4:w.cell? ⟨r,4,none⟩=some (.int .i64 pos):=h.cell rfl;have k5:w.cell? ⟨r,5,none⟩=some (.bool wk):=h.cell rfl;have k7:w.cell? ⟨r,7,none⟩=some (.int .i64 un):=h.cell rfl;have x4:w.frozen? ⟨r,4,none⟩=false:=h.frozen 4;have x5:w.frozen? ⟨r,5,none⟩=false:=h.frozen 5;have x7:w.frozen? ⟨r,7,none⟩=false:=h.frozen 7;have H:=zaa h;clear h;rcases hst with rfl|rfl
 ·have c1:=fun (W:World) (h:RowIs W r 149 (RunC ti (.slice a ts.length tc) ⟨ts,rest,1,pos+1,false,pa,time+rest,nu,ba,a0,a1,a2⟩ m v t s))=>zis (c:=⟨ts,rest,1,pos+1,false,pa,time+rest,nu,ba,a0,a1,a2⟩) (.inl rfl) h;have HN:=zaa (((H.out.set 5 (.bool false)).set 4 (.int .i64 (pos+1))).set 7 (.int .i64 (time+rest)));have e:finC ⟨ts,rest,1,pos,wk,pa,un,nu,ba,a0,a1,a2⟩ time=zat ⟨ts,rest,1,pos+1,false,pa,time+rest,nu,ba,a0,a1,a2⟩:=by unfold finC;rfl
  rw[e];clear e
  go_enter Tryz.func236,Tryz.ntmps236
  go_wp2_with (first|(go_at_call 201;refine(c1 _ (HN.out)).mono ?_;rintro e w2 ⟨rfl,hr2,hc2⟩))
  refine bodyPost_end (v:=.tuple #[]) (results_none rfl _ _ _) rfl ?_;exact⟨rfl,hr2,Chg.trans ((((Chg.refl (·= r) w).set (p:=⟨r,5,none⟩) (.inl rfl) _).set (p:=⟨r,4,none⟩) (.inl rfl) _).set (p:=⟨r,7,none⟩) (.inl rfl) _) hc2⟩
 ·have c1:=fun (W:World) (h:RowIs W r 149 (RunC ti (.slice a ts.length tc) ⟨ts,rest,2,pos-1,false,pa,time+rest,nu,ba,a0,a1,a2⟩ m v t s))=>zis (c:=⟨ts,rest,2,pos-1,false,pa,time+rest,nu,ba,a0,a1,a2⟩) (.inr rfl) h;have HN:=zaa (((H.out.set 5 (.bool false)).set 4 (.int .i64 (pos-1))).set 7 (.int .i64 (time+rest)));have e:finC ⟨ts,rest,2,pos,wk,pa,un,nu,ba,a0,a1,a2⟩ time=zat ⟨ts,rest,2,pos-1,false,pa,time+rest,nu,ba,a0,a1,a2⟩:=by unfold finC;rfl
  rw[e];clear e
  go_enter Tryz.func236,Tryz.ntmps236
  go_wp2_with (first|(go_at_call 201;refine(c1 _ (HN.out)).mono ?_;rintro e w2 ⟨rfl,hr2,hc2⟩))
  refine bodyPost_end (v:=.tuple #[]) (results_none rfl _ _ _) rfl ?_;exact⟨rfl,hr2,Chg.trans ((((Chg.refl (·= r) w).set (p:=⟨r,5,none⟩) (.inl rfl) _).set (p:=⟨r,4,none⟩) (.inl rfl) _).set (p:=⟨r,7,none⟩) (.inl rfl) _) hc2⟩
theorem yad7 (hb:0<=c.pos/\c.pos<=4000000000)(h:RowIs w r 149 (RunC ti (.slice a c.ts.length tc) c m v t s)):Calls Tryz.prog 136 #[.pointer (some ⟨r,1,none⟩)] w fun e W=>e=.returned (.tuple #[])/\RowIs W r 149 (RunC ti (.slice a (zc9 c).ts.length tc) (zc9 c) m v t s)/\Chg (·= r) w W:=by
 obtain⟨ts,rest,st,pos,wk,pa,un,nu,ba,a0,a1,a2⟩:=c;simp only at hb;have lr:=h.lt;have k3:w.cell? ⟨r,3,none⟩=some (.int .i64 st):=h.cell rfl;have k4:w.cell? ⟨r,4,none⟩=some (.int .i64 pos):=h.cell rfl;have k5:w.cell? ⟨r,5,none⟩=some (.bool wk):=h.cell rfl;have x3:w.frozen? ⟨r,3,none⟩=false:=h.frozen 3;have x4:w.frozen? ⟨r,4,none⟩=false:=h.frozen 4;have H:=zaa h;clear h;cases wk with
 |true =>
  have c0:=fun (W:World) (h:RowIs W r 149 (RunC ti (.slice a ts.length tc) ⟨ts,rest,2,pos+1,true,pa,un,nu,ba,a0,a1,a2⟩ m v t s))=>zju (c:=⟨ts,rest,2,pos+1,true,pa,un,nu,ba,a0,a1,a2⟩) h;have c1:=fun (W:World) (h:RowIs W r 149 (RunC ti (.slice a ts.length tc) (begC ⟨ts,rest,2,pos+1,true,pa,un,nu,ba,a0,a1,a2⟩) m v t s))=>zis (c:=begC ⟨ts,rest,2,pos+1,true,pa,un,nu,ba,a0,a1,a2⟩) (.inr rfl) h;have HN:=zaa ((H.out.set 3 (.int .i64 2)).set 4 (.int .i64 (pos+1)))
  go_enter Tryz.func136,Tryz.ntmps136
  go_wp2_with (first
   |(go_at_call 202;refine(c0 _ (HN.out)).mono ?_;rintro e w1 ⟨rfl,hr1,hc1⟩)
   |(go_at_call 201;refine(c1 _ (hr1)).mono ?_;rintro e w2 ⟨rfl,hr2,hc2⟩))
  refine bodyPost_end (v:=.tuple #[]) (results_none rfl _ _ _) rfl ?_;exact⟨rfl,hr2,(Chg.trans (((Chg.refl (·= r) w).set (p:=⟨r,3,none⟩) (.inl rfl) _).set (p:=⟨r,4,none⟩) (.inl rfl) _) hc1).trans hc2⟩
 |false =>
  have c1:=fun (W:World) (h:RowIs W r 149 (RunC ti (.slice a ts.length tc) ⟨ts,rest,2,pos,false,pa,un,nu,ba,a0,a1,a2⟩ m v t s))=>zis (c:=⟨ts,rest,2,pos,false,pa,un,nu,ba,a0,a1,a2⟩) (.inr rfl) h;have HN:=zaa (H.out.set 3 (.int .i64 2))
  go_enter Tryz.func136,Tryz.ntmps136
  go_wp2_with (first
   |(go_at_call 201;refine(c1 _ (HN.out)).mono ?_;rintro e w2 ⟨rfl,hr2,hc2⟩))
  refine bodyPost_end (v:=.tuple #[]) (results_none rfl _ _ _) rfl ?_;exact⟨rfl,hr2,Chg.trans ((Chg.refl (·= r) w).set (p:=⟨r,3,none⟩) (.inl rfl) _) hc2⟩
theorem zvo (time:Int)(hb:0<=time/\time<=4000000000/\0<=c.rest/\c.rest<=4000000000)(h:RowIs w r 149 (RunC ti (.slice a c.ts.length tc) c m v t s)):Calls Tryz.prog 137 #[.pointer (some ⟨r,1,none⟩),.int .i64 time] w fun e W=>e=.returned (.tuple #[])/\RowIs W r 149 (RunC ti (.slice a (crsC c time).ts.length tc) (crsC c time) m v t s)/\Chg (·= r) w W:=by
 have c0:=zfi h;have c1:=zju h;unfold crsC;cases ho:zaj c with
 |true =>
  rw[ho]at c0;have H:=zaa h;clear h c1 hb;simp only[if_true]
  go_enter Tryz.func137,Tryz.ntmps137
  go_wp2_with (first|(go_at_call 135;refine c0.mono ?_;rintro e _ ⟨rfl,rfl⟩))
  refine bodyPost_ret (v:=.tuple #[]) (results_none rfl _ _ _) rfl ?_;exact⟨rfl,H.out,Chg.refl _ _⟩
 |false =>
  rw[ho]at c0;simp only[xf,if_false];obtain⟨ts,rest,st,pos,wk,pa,un,nu,ba,a0,a1,a2⟩:=c;simp only at hb;have lr:=h.lt;have k2:w.cell? ⟨r,2,none⟩=some (.int .i64 rest):=h.cell rfl;have k5:w.cell? ⟨r,5,none⟩=some (.bool wk):=h.cell rfl;have k7:w.cell? ⟨r,7,none⟩=some (.int .i64 un):=h.cell rfl;have x7:w.frozen? ⟨r,7,none⟩=false:=h.frozen 7;have H:=zaa h;clear h;cases wk with
  |true =>
   simp only[if_true]
   go_enter Tryz.func137,Tryz.ntmps137
   go_wp2_with (first
    |(go_at_call 135;refine c0.mono ?_;rintro e _ ⟨rfl,rfl⟩)
    |(go_at_call 202;refine c1.mono ?_;rintro e w2 ⟨rfl,hr2,hc2⟩))
   refine bodyPost_ret (v:=.tuple #[]) (results_none rfl _ _ _) rfl ?_;exact⟨rfl,hr2,hc2⟩
  |false =>
   simp only[xf,if_false]
   go_enter Tryz.func137,Tryz.ntmps137
   go_wp2_with (first
    |(go_at_call 135;refine c0.mono ?_;rintro e _ ⟨rfl,rfl⟩))
   refine bodyPost_end (v:=.tuple #[]) (results_none rfl _ _ _) rfl ?_;exact⟨rfl,H.out.set 7 _,((Chg.refl (·= r) w).set (p:=⟨r,7,none⟩) (.inl rfl) _)⟩
theorem zt6 {g:Nat}(time:Int)(hno:(c.pa||zaj c)=true)(h:RowIs w r 149 (RunC ti (.slice (some ⟨g,0,none⟩) c.ts.length tc) c m v t s)):Calls Tryz.prog 183 #[.pointer (some ⟨r,1,none⟩),.int .i64 time] w fun e W=>e=.returned (.tuple #[.agg #[.int .i64 0,.int .i64 0,.int .i64 0,.int .i64 0,.int .i64 0],.bool false])/\RowIs W r 149 (RunC ti (.slice (some ⟨g,0,none⟩) (c).ts.length tc) (c) m v t s)/\Chg (·= r) w W:=by
 have H:=zaa h;have lr:=h.lt;have n2:w.heap.size≠r:=by omega
 have Z:=zaa (show RowIs (w.alloc (.cells #[.int .i64 0,.int .i64 0,.int .i64 0,.int .i64 0,.int .i64 0] 100)) w.heap.size 100 [.int .i64 0,.int .i64 0,.int .i64 0,.int .i64 0,.int .i64 0]from zal _ _);have HA:=zaa (H.out.keep (bel1 w (.cells #[.int .i64 0,.int .i64 0,.int .i64 0,.int .i64 0,.int .i64 0] 100)));have c0:=zfi HA.out;have k6:w.cell? ⟨r,6,none⟩=some (.bool c.pa):=h.cell rfl;clear h;cases hp:c.pa with
 |true =>
  rw[hp]at k6
  go_enter Tryz.func183,Tryz.ntmps183
  go_wp2_with fail
  refine bodyPost_ret (v:=.tuple #[.agg #[.int .i64 0,.int .i64 0,.int .i64 0,.int .i64 0,.int .i64 0],.bool false]) (by simp[results,Tryz.results183,go_sem]) rfl ?_;exact⟨rfl,HA.out,Chg.of (bel1 _ _)⟩
 |false =>
  have ho:zaj c=true:=by rw[hp]at hno;simpa using hno
  rw[ho]at c0;rw[hp]at k6
  go_enter Tryz.func183,Tryz.ntmps183
  go_wp2_with (first|(go_at_call 135;refine c0.mono ?_;rintro e _ ⟨rfl,rfl⟩))
  refine bodyPost_ret (v:=.tuple #[.agg #[.int .i64 0,.int .i64 0,.int .i64 0,.int .i64 0,.int .i64 0],.bool false]) (by simp[results,Tryz.results183,go_sem]) rfl ?_;exact⟨rfl,HA.out,Chg.of (bel1 _ _)⟩
theorem zt8 {g:Nat}(time:Int)(hpa:c.pa=false)(ho:zaj c=false)(hw:c.wk=false)(hu:time<c.un)(h:RowIs w r 149 (RunC ti (.slice (some ⟨g,0,none⟩) c.ts.length tc) c m v t s)):Calls Tryz.prog 183 #[.pointer (some ⟨r,1,none⟩),.int .i64 time] w fun e W=>e=.returned (.tuple #[.agg #[.int .i64 0,.int .i64 0,.int .i64 0,.int .i64 0,.int .i64 0],.bool false])/\RowIs W r 149 (RunC ti (.slice (some ⟨g,0,none⟩) (c).ts.length tc) (c) m v t s)/\Chg (·= r) w W:=by
 have H:=zaa h;have lr:=h.lt;have n2:w.heap.size≠r:=by omega
 have Z:=zaa (show RowIs (w.alloc (.cells #[.int .i64 0,.int .i64 0,.int .i64 0,.int .i64 0,.int .i64 0] 100)) w.heap.size 100 [.int .i64 0,.int .i64 0,.int .i64 0,.int .i64 0,.int .i64 0]from zal _ _);have HA:=zaa (H.out.keep (bel1 w (.cells #[.int .i64 0,.int .i64 0,.int .i64 0,.int .i64 0,.int .i64 0] 100)));have c0:=zfi HA.out;rw[ho]at c0;have k6:w.cell? ⟨r,6,none⟩=some (.bool c.pa):=h.cell rfl;have k5:w.cell? ⟨r,5,none⟩=some (.bool c.wk):=h.cell rfl;have k7:w.cell? ⟨r,7,none⟩=some (.int .i64 c.un):=h.cell rfl;rw[hpa]at k6;rw[hw]at k5;clear h ho hpa hw;generalize c.un=un at k7 hu
 go_enter Tryz.func183,Tryz.ntmps183
 go_wp2_with (first|(go_at_call 135;refine c0.mono ?_;rintro e _ ⟨rfl,rfl⟩))
 refine bodyPost_ret (v:=.tuple #[.agg #[.int .i64 0,.int .i64 0,.int .i64 0,.int .i64 0,.int .i64 0],.bool false]) (by simp[results,Tryz.results183,go_sem]) rfl ?_;exact⟨rfl,HA.out,Chg.of (bel1 _ _)⟩
theorem zt9 {g:Nat}(time:Int)(hpa:c.pa=false)(ho:zaj c=false)(hw:c.wk=true)(hc:zby c)(hn:0<=c.nu/\c.nu<=4000000000)(ht:TsksAt w g c.ts)(h:RowIs w r 149 (RunC ti (.slice (some ⟨g,0,none⟩) c.ts.length tc) c m v t s)):Calls Tryz.prog 183 #[.pointer (some ⟨r,1,none⟩),.int .i64 time] w fun e W=>e=.returned (.tuple #[.agg #[.int .i64 (cmdM c).k,.int .i64 (cmdM c).n,.int .i64 (cmdM c).s,.int .i64 (cmdM c).i,.int .i64 (cmdM c).r],.bool (cmdB c)])/\RowIs W r 149 (RunC ti (.slice (some ⟨g,0,none⟩) (cmdC c).ts.length tc) (cmdC c) m v t s)/\Chg (·= r) w W:=by
 have H:=zaa h;have lr:=h.lt;have n2:w.heap.size≠r:=by omega
 have Z:=zaa (show RowIs (w.alloc (.cells #[.int .i64 0,.int .i64 0,.int .i64 0,.int .i64 0,.int .i64 0] 100)) w.heap.size 100 [.int .i64 0,.int .i64 0,.int .i64 0,.int .i64 0,.int .i64 0]from zal _ _);have HA:=zaa (H.out.keep (bel1 w (.cells #[.int .i64 0,.int .i64 0,.int .i64 0,.int .i64 0,.int .i64 0] 100)));have c0:=zfi HA.out;rw[ho]at c0;have k6:w.cell? ⟨r,6,none⟩=some (.bool c.pa):=h.cell rfl;have k5:w.cell? ⟨r,5,none⟩=some (.bool c.wk):=h.cell rfl;rw[hpa]at k6;rw[hw]at k5;have c2:=fun (W:World) (h:RowIs W r 149 (RunC ti (.slice (some ⟨g,0,none⟩) (c).ts.length tc) (c) m v t s)) (ht:TsksAt W g c.ts)=>znb hc hn h ht;have HT:=zaa (ht.keep (bel1 w (.cells #[.int .i64 0,.int .i64 0,.int .i64 0,.int .i64 0,.int .i64 0] 100)));clear h ho hpa hw ht;generalize hcm:cmdM c=M at *;generalize hcb:cmdB c=B at *
 go_enter Tryz.func183,Tryz.ntmps183
 go_wp2_with (first
  |(go_at_call 135;refine c0.mono ?_;rintro e _ ⟨rfl,rfl⟩)
  |(go_at_call 233;refine(c2 _ HA.out HT.out).mono ?_;rintro e w2 ⟨rfl,hr2,hc2⟩;have Z2:=zaa (hc2.row Z.out n2);have y0:=Z2.out.cell (j:=0) rfl;have y1:=Z2.out.cell (j:=1) rfl;have y2:=Z2.out.cell (j:=2) rfl;have y3:=Z2.out.cell (j:=3) rfl;have y4:=Z2.out.cell (j:=4) rfl;have f0:=Z2.out.frozen 0;have f1:=Z2.out.frozen 1;have f2:=Z2.out.frozen 2;have f3:=Z2.out.frozen 3;have f4:=Z2.out.frozen 4))
 have Z3:=((((Z2.out.set 0 (.int .i64 M.k)).set 1 (.int .i64 M.n)).set 2 (.int .i64 M.s)).set 3 (.int .i64 M.i)).set 4 (.int .i64 M.r);have o0:=Z3.cell (j:=0) rfl;have o1:=Z3.cell (j:=1) rfl;have o2:=Z3.cell (j:=2) rfl;have o3:=Z3.cell (j:=3) rfl;have o4:=Z3.cell (j:=4) rfl;refine bodyPost_ret (v:=.tuple #[.agg #[.int .i64 M.k,.int .i64 M.n,.int .i64 M.s,.int .i64 M.i,.int .i64 M.r],.bool B]) (by simp[results,Tryz.results183,go_sem,o0,o1,o2,o3,o4]) rfl ?_;refine⟨rfl,?_,(((((((Chg.of (S:=(·= r)) (bel1 _ _)).trans hc2).set (p:=⟨w.heap.size,0,none⟩) (.inr (xe _)) _).set (p:=⟨w.heap.size,1,none⟩) (.inr (xe _)) _).set (p:=⟨w.heap.size,2,none⟩) (.inr (xe _)) _).set (p:=⟨w.heap.size,3,none⟩) (.inr (xe _)) _).set (p:=⟨w.heap.size,4,none⟩) (.inr (xe _)) _)⟩;exact((((hr2.setOther (p:=⟨w.heap.size,0,none⟩) n2 _).setOther (p:=⟨w.heap.size,1,none⟩) n2 _).setOther (p:=⟨w.heap.size,2,none⟩) n2 _).setOther (p:=⟨w.heap.size,3,none⟩) n2 _).setOther (p:=⟨w.heap.size,4,none⟩) n2 _
theorem zt4 {g:Nat}(time:Int)(hpa:c.pa=false)(ho:zaj c=false)(hw:c.wk=false)(hu:c.un<=time)(hgr:r≠g)(hc:zby c)(hn:0<=c.nu/\c.nu<=4000000000)(ht:TsksAt w g c.ts)(h:RowIs w r 149 (RunC ti (.slice (some ⟨g,0,none⟩) c.ts.length tc) c m v t s)):Calls Tryz.prog 183 #[.pointer (some ⟨r,1,none⟩),.int .i64 time] w fun e W=>e=.returned (.tuple #[.agg #[.int .i64 (cmdM (begC c)).k,.int .i64 (cmdM (begC c)).n,.int .i64 (cmdM (begC c)).s,.int .i64 (cmdM (begC c)).i,.int .i64 (cmdM (begC c)).r],.bool (cmdB (begC c))])/\RowIs W r 149 (RunC ti (.slice (some ⟨g,0,none⟩) (cmdC (begC c)).ts.length tc) (cmdC (begC c)) m v t s)/\Chg (·= r) w W:=by
 have H:=zaa h;have lr:=h.lt;have n2:w.heap.size≠r:=by omega
 have Z:=zaa (show RowIs (w.alloc (.cells #[.int .i64 0,.int .i64 0,.int .i64 0,.int .i64 0,.int .i64 0] 100)) w.heap.size 100 [.int .i64 0,.int .i64 0,.int .i64 0,.int .i64 0,.int .i64 0]from zal _ _);have HA:=zaa (H.out.keep (bel1 w (.cells #[.int .i64 0,.int .i64 0,.int .i64 0,.int .i64 0,.int .i64 0] 100)));have c0:=zfi HA.out;rw[ho]at c0;have c1:=zju HA.out;have k6:w.cell? ⟨r,6,none⟩=some (.bool c.pa):=h.cell rfl;have k5:w.cell? ⟨r,5,none⟩=some (.bool c.wk):=h.cell rfl;have k7:w.cell? ⟨r,7,none⟩=some (.int .i64 c.un):=h.cell rfl;rw[hpa]at k6;rw[hw]at k5;have c2:=fun (W:World) (h:RowIs W r 149 (RunC ti (.slice (some ⟨g,0,none⟩) (begC c).ts.length tc) (begC c) m v t s)) (ht:TsksAt W g c.ts)=>znb (c:=begC c) hc hn h ht;have HT:=zaa (ht.keep (bel1 w (.cells #[.int .i64 0,.int .i64 0,.int .i64 0,.int .i64 0,.int .i64 0] 100)));clear h ho hpa hw ht;generalize c.un=un at k7 hu;generalize hcm:cmdM (begC c)=M at *;generalize hcb:cmdB (begC c)=B at *
 go_enter Tryz.func183,Tryz.ntmps183
 go_wp2_with (first
  |(go_at_call 135;refine c0.mono ?_;rintro e _ ⟨rfl,rfl⟩)
  |(go_at_call 202;refine c1.mono ?_;rintro e w1 ⟨rfl,hr1,hc1⟩;have j5:w1.cell? ⟨r,5,none⟩=some (.bool true):=hr1.cell rfl;have Z1:=zaa (hc1.row Z.out n2);have HT1:=zaa (HT.out.chg hc1 (fun e=>hgr e.symm)))
  |(go_at_call 233;refine(c2 _ hr1 HT1.out).mono ?_;rintro e w2 ⟨rfl,hr2,hc2⟩;have Z2:=zaa (hc2.row Z1.out n2);have y0:=Z2.out.cell (j:=0) rfl;have y1:=Z2.out.cell (j:=1) rfl;have y2:=Z2.out.cell (j:=2) rfl;have y3:=Z2.out.cell (j:=3) rfl;have y4:=Z2.out.cell (j:=4) rfl;have f0:=Z2.out.frozen 0;have f1:=Z2.out.frozen 1;have f2:=Z2.out.frozen 2;have f3:=Z2.out.frozen 3;have f4:=Z2.out.frozen 4))
 have Z3:=((((Z2.out.set 0 (.int .i64 M.k)).set 1 (.int .i64 M.n)).set 2 (.int .i64 M.s)).set 3 (.int .i64 M.i)).set 4 (.int .i64 M.r);have o0:=Z3.cell (j:=0) rfl;have o1:=Z3.cell (j:=1) rfl;have o2:=Z3.cell (j:=2) rfl;have o3:=Z3.cell (j:=3) rfl;have o4:=Z3.cell (j:=4) rfl;refine bodyPost_ret (v:=.tuple #[.agg #[.int .i64 M.k,.int .i64 M.n,.int .i64 M.s,.int .i64 M.i,.int .i64 M.r],.bool B]) (by simp[results,Tryz.results183,go_sem,o0,o1,o2,o3,o4]) rfl ?_;refine⟨rfl,?_,((((((((Chg.of (S:=(·= r)) (bel1 _ _)).trans hc1).trans hc2).set (p:=⟨w.heap.size,0,none⟩) (.inr (xe _)) _).set (p:=⟨w.heap.size,1,none⟩) (.inr (xe _)) _).set (p:=⟨w.heap.size,2,none⟩) (.inr (xe _)) _).set (p:=⟨w.heap.size,3,none⟩) (.inr (xe _)) _).set (p:=⟨w.heap.size,4,none⟩) (.inr (xe _)) _)⟩;exact((((hr2.setOther (p:=⟨w.heap.size,0,none⟩) n2 _).setOther (p:=⟨w.heap.size,1,none⟩) n2 _).setOther (p:=⟨w.heap.size,2,none⟩) n2 _).setOther (p:=⟨w.heap.size,3,none⟩) n2 _).setOther (p:=⟨w.heap.size,4,none⟩) n2 _
end
end Go.Proofs.YtkkekopomiehlabGreatDoor
