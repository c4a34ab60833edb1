import Derived.Test.YtkkekopomiehlabGreatDoorEPy8
import Derived.BigFrame
set_option linter.unusedVariables false
set_option linter.unusedSimpArgs false
set_option maxHeartbeats 40000000
set_option maxRecDepth 4000
open List renaming getElem?_eq_some_iff->xe,getElem?_append_right->xf,getElem?_eq_getElem->xg,getD_eq_getElem?_getD->xj,getElem?_append_left->xm,mem_of_getElem?->xu,flatten_cons->xv,length_append->xz,getElem?_map->qd,getElem?_cons_succ->qe,getElem?_set->qi,ext_getElem?->qj,length_cons->qk,getD->qq
open Int renaming toNat_natCast->xh
open ByteArray renaming empty->xo
open Bool renaming false_eq_true->xp
open Nat renaming le_refl->xq,zero_le->qf,lt_of_lt_of_le->qh,zero_add->qn
open Go.Value renaming ownBlock->xy,oneCell'->qm
open Go.World renaming news_of_block->qg
open Go.World.ownsRow renaming stored->qo,lt->qp
open Go.RowKit
namespace Go.Proofs.YtkkekopomiehlabGreatDoor
section
variable {w W:World}{L L':Nat->Nat}{r:Nat}{P:zad}
theorem zje (h:RunE w L r P):Calls Tryz.prog 36 #[.pointer (some ⟨r,0,none⟩)] w fun e W=>e=.returned (.agg #[.int .i64 P.c.st,.int .i64 P.c.pos,.int .i64 P.ti,.int .i64 P.c.nu,.bool P.c.wk,.bool P.c.pa])/\Below w.heap.size w W:=by
 have c1:=fun (W:World) (hb:Below w.heap.size w W)=>zzu (h.keep hb);clear h;generalize P.c.st=st at *;generalize P.c.pos=pos at *;generalize P.ti=ti at *;generalize P.c.nu=nu at *;generalize P.c.wk=wk at *;generalize P.c.pa=pa at *
 go_enter Tryz.func36,Tryz.ntmps36
 go_wp2_with (first|(go_at_call 101;refine(c1 _ (bel1 _ _)).mono ?_;rintro e w1 ⟨rfl,hb1⟩;have Z1:=zaa ((show RowIs (w.alloc (.cells #[.int .i64 0,.int .i64 0,.int .i64 0,.int .i64 0,.bool false,.bool false] 87)) w.heap.size 87 [.int .i64 0,.int .i64 0,.int .i64 0,.int .i64 0,.bool false,.bool false]from zal _ _).keep hb1);have y0:=Z1.out.cell (j:=0) rfl;have y1:=Z1.out.cell (j:=1) rfl;have y2:=Z1.out.cell (j:=2) rfl;have y3:=Z1.out.cell (j:=3) rfl;have y4:=Z1.out.cell (j:=4) rfl;have y5:=Z1.out.cell (j:=5) rfl;have f0:=Z1.out.frozen 0;have f1:=Z1.out.frozen 1;have f2:=Z1.out.frozen 2;have f3:=Z1.out.frozen 3;have f4:=Z1.out.frozen 4;have f5:=Z1.out.frozen 5))
 have Z2:=(((((Z1.out.set 0 (.int .i64 st)).set 1 (.int .i64 pos)).set 2 (.int .i64 ti)).set 3 (.int .i64 nu)).set 4 (.bool wk)).set 5 (.bool pa);have o0:=Z2.cell (j:=0) rfl;have o1:=Z2.cell (j:=1) rfl;have o2:=Z2.cell (j:=2) rfl;have o3:=Z2.cell (j:=3) rfl;have o4:=Z2.cell (j:=4) rfl;have o5:=Z2.cell (j:=5) rfl;refine bodyPost_ret (v:=.agg #[.int .i64 st,.int .i64 pos,.int .i64 ti,.int .i64 nu,.bool wk,.bool pa]) (by simp[results,Tryz.results36,go_sem,o0,o1,o2,o3,o4,o5]) rfl ⟨rfl,?_⟩;exact((((((thn3 (bel1 w _) hb1).setCell (p:=⟨w.heap.size,0,none⟩) (xq _) _).setCell (p:=⟨w.heap.size,1,none⟩) (xq _) _).setCell (p:=⟨w.heap.size,2,none⟩) (xq _) _).setCell (p:=⟨w.heap.size,3,none⟩) (xq _) _).setCell (p:=⟨w.heap.size,4,none⟩) (xq _) _).setCell (p:=⟨w.heap.size,5,none⟩) (xq _) _
theorem zjb (a b:Int)(hh:hasB P.vs a b=true)(h:RunE w L r P):Calls Tryz.prog 102 #[.pointer (some ⟨r,0,none⟩),.int .i64 a,.int .i64 b] w fun e W=>e=.returned (.tuple #[.int .i64 (insG P.vs a b).r,.int .i64 0])/\w=W:=by
 obtain⟨gt,tc,m,gv,vc,t,s,sv,tv,h⟩:=h;have c1:=zqd a b hh h;clear h hh;generalize (insG P.vs a b).r=x at *
 go_enter Tryz.func102,Tryz.ntmps102
 go_wp2_with (first|(go_at_call 174;refine c1.mono ?_;rintro e _ ⟨rfl,rfl⟩))
 go_ret2
 exact⟨rfl,rfl⟩
theorem zgv (hl:P.ms.length<=40)(h:RunE w L r P):Calls Tryz.prog 53 #[.pointer (some ⟨r,0,none⟩)] w fun e W=>∃ v,e=.returned v/\W.ownsRow w.heap.size 100 5 v P.ms.length (P.ms.flatMap msgF)/\Below w.heap.size w W:=by
 obtain⟨gt,tc,m,gv,vc,t,s,sv,tv,h⟩:=h;have c1:=ztl hl h;clear h;generalize P.ms.flatMap msgF=xs at *;generalize P.ms.length=n at *
 go_enter Tryz.func53,Tryz.ntmps53
 go_wp2_with (first|(go_at_call 117;refine c1.mono ?_;rintro e w1 ⟨v,rfl,ho,hb⟩;have HO:=zaa ho;have HB:=zaa hb;clear ho hb))
 go_ret;exact⟨_,rfl,HO.out,HB.out⟩
def zma (P:zad):Prop:=P.ms.length<=40/\(∀ x∈P.ms,0<=x.i/\x.i<3/\hasB P.vs x.s x.i=true)/\(P.c.wk=true->zby P.c)/\0<=P.ti/\P.ti<=4000000000/\0<=P.c.rest/\P.c.rest<=4000000000
theorem zic {k:Int}{n:Nat}(h:numB k n=true):∃ i:Nat,k=i/\i<n:=by
 unfold numB at h;simp at h;exact⟨k.toNat,by omega,by omega⟩
theorem zl4 (k:Int)(hok:zma P)(h:RunE w L r P):Calls Tryz.prog 57 #[.pointer (some ⟨r,0,none⟩),.int .i64 k] w fun e W=>e=.returned (.int .i64 (if numB k P.ms.length then 0 else 11))/\Turn w L r W (delP P k):=by
 unfold delP;cases hk:numB k P.ms.length with
 |false =>
  simp only[xp,if_false];have HT:=zaa (fun (W:World) (hb:Below w.heap.size w W)=>Turn.of h hb);obtain⟨gt,tc,m,gv,vc,t,s,sv,tv,h⟩:=h;have c1:=zmh k hk h;clear h hk hok
  go_enter Tryz.func57,Tryz.ntmps57
  go_wp2_with (first|(go_at_call 119;refine c1.mono ?_;rintro e w1 ⟨rfl,hb1⟩))
  go_ret;exact⟨rfl,HT.out _ (thn3 hb1 (bel1 _ _))⟩
 |true =>
  simp only[if_true];obtain⟨i,rfl,hi⟩:=zic hk;obtain⟨x,hx⟩:∃ x,P.ms[i]?=some x:=⟨P.ms[i]'hi,xg _⟩;obtain⟨o1,o2,o3,o4⟩:=hok;obtain⟨q1,q2,q3⟩:=o2 x (xu hx);rw[xh,xj,hx];show Calls _ _ _ _ fun e W=>e=.returned (.int .i64 0)/\Turn w L r W (arrP { P with ms:=P.ms.eraseIdx i } x);obtain⟨gt,tc,m,gv,vc,t,s,sv,tv,h⟩:=h;have c1:=zmi i x o1 hx h;have c2:=fun (W:World) (L':Nat->Nat) (m':Value) (hM:RunM W L' r { P with ms:=P.ms.eraseIdx i } gt tc m' gv vc t s sv tv)=>(zs9 (P:={ P with ms:=P.ms.eraseIdx i }) x ⟨q1,q2⟩ q3 o3 o4 hM).mono fun e W' q=>(⟨q.1,by obtain⟨m2,L2,k1,k2,k3⟩:=q.2;exact⟨L2,⟨_,_,_,_,_,_,_,_,_,k1⟩,k2,k3⟩⟩:e=Ending.returned (.tuple #[])/\Turn W L' r W' (arrP { P with ms:=P.ms.eraseIdx i } x));clear h hk hx o2 o3 o4 q3 q1 q2 hi o1;generalize arrP { P with ms:=P.ms.eraseIdx i } x=Q at *;generalize ({ P with ms:=P.ms.eraseIdx i }:zad)=P1 at *;obtain⟨xk,xn,xs,xi,xr⟩:=x;simp only at c1 c2
  go_enter Tryz.func57,Tryz.ntmps57
  go_wp2_with (first|(go_at_call 119;refine c1.mono ?_;rintro e w1 ⟨rfl,m1,L1,hM1,hL1,hC1⟩;have HM2:=zaa (hM1.keep (bel1 w1 (.cells #[.int .i64 xk,.int .i64 xn,.int .i64 xs,.int .i64 xi,.int .i64 xr] 100)))))
  go_region_with (go_at_call 120;refine(c2 _ _ _ HM2.out.drew).mono ?_;rintro e w3 ⟨rfl,ht3⟩)
  all_goals
   go_wp2_with fail
   go_ret;exact⟨rfl,Turn.trans hL1 ((hC1.mono fun b hb=>by omega).trans (Chg.of (bel1 _ _))) ht3.undrew⟩
theorem ztg (k:Int)(hl:P.ms.length<=40)(h:RunE w L r P):Calls Tryz.prog 58 #[.pointer (some ⟨r,0,none⟩),.int .i64 k] w fun e W=>(∃ n,e=.returned (.int .i64 n))/\Turn w L r W (drpP P k):=by
 unfold drpP;cases hk:numB k P.ms.length with
 |false =>
  simp only[xp,if_false];have HT:=zaa (fun (W:World) (hb:Below w.heap.size w W)=>Turn.of h hb);obtain⟨gt,tc,m,gv,vc,t,s,sv,tv,h⟩:=h;have c1:=zmh k hk h;clear h hk
  go_enter Tryz.func58,Tryz.ntmps58
  go_wp2_with (first|(go_at_call 119;refine c1.mono ?_;rintro e w1 ⟨rfl,hb1⟩))
  go_ret;exact⟨⟨_,rfl⟩,HT.out _ (by first|exact hb1|exact thn3 hb1 (bel1 _ _))⟩
 |true =>
  simp only[if_true];obtain⟨i,rfl,hi⟩:=zic hk;obtain⟨x,hx⟩:∃ x,P.ms[i]?=some x:=⟨P.ms[i]'hi,xg _⟩;rw[xh];obtain⟨gt,tc,m,gv,vc,t,s,sv,tv,h⟩:=h;have c1:=(zmi i x hl hx h).mono fun e W q=>(⟨q.1,by obtain⟨m2,L2,k1,k2,k3⟩:=q.2;exact⟨L2,⟨_,_,_,_,_,_,_,_,_,k1⟩,k2,k3.mono fun b hb=>by omega⟩⟩:e=Ending.returned (.tuple #[.agg #[.int .i64 x.k,.int .i64 x.n,.int .i64 x.s,.int .i64 x.i,.int .i64 x.r],.bool true])/\Turn w L r W { P with ms:=P.ms.eraseIdx i });clear h hk hx;generalize ({ P with ms:=P.ms.eraseIdx i }:zad)=Q at *
  go_enter Tryz.func58,Tryz.ntmps58
  go_wp2_with (first|(go_at_call 119;refine c1.mono ?_;rintro e w1 ⟨rfl,ht1⟩;have HT:=zaa ht1;clear ht1))
  go_ret;exact⟨⟨_,rfl⟩,(by first|exact HT.out|exact HT.out.below (bel1 _ _))⟩
end
section
variable {w W:World}{L L':Nat->Nat}{r:Nat}{P:zad}{gt tc:Nat}{m:Value}{gv vc:Nat}{t s:Value}{sv:List (Value×Value)}{tv:List (Int×Value)}
theorem ztx (hok:zhh P)(h:RunM w L r P gt tc m gv vc t s sv tv):Calls Tryz.prog 118 #[.pointer (some ⟨r,0,none⟩)] w fun e W=>e=.returned (.tuple #[])/\∃ m' L' tv',RunM W L' r (tckP P) gt tc m' gv vc t s sv tv'/\Lab w L L'/\Chg (fun b=>L b≠0) w W:=by
 obtain⟨ad,cap,ht,hc1,hc2⟩:=h.top.len;have k0:w.cell? ⟨r,0,none⟩=some (.int .i64 P.ti):=h.row.cell rfl;have x0:=h.row.frozen 0;have k15:w.cell? ⟨r,15,none⟩=some (.slice ad P.ts.length cap):=by rw[<- ht];exact h.row.cell rfl
 obtain⟨b0,b1⟩:=hok.ti;have t4:=hok.ts4;obtain⟨h1,hc⟩:=h.time (P.ti+1);have H1:=zaa h1;have HC1:=zaa hc;have HT:=zaa ht;have HOK:=zaa hok;clear h h1 hc hok ht;obtain⟨n,hn⟩:∃ n,n=P.ts.length:=⟨_,rfl⟩;rw[<- hn]at k15 hc1 HT t4;have HN:=zaa hn;clear hn;obtain⟨ti,hti⟩:∃ ti,ti=P.ti:=⟨_,rfl⟩;rw[<- hti]at k0 b0 b1;have HTI:=zaa hti;rw[<- hti]at H1 HC1;obtain⟨B,hB⟩:∃ B,B=actB P.c (ti+1):=⟨_,rfl⟩;obtain⟨M,hM⟩:∃ M,M=actM P.c (ti+1):=⟨_,rfl⟩;obtain⟨C,hC⟩:∃ C,C=actC P.c (ti+1):=⟨_,rfl⟩;obtain⟨TS,hTS⟩:∃ TS,TS=P.ts.map (fgtT (ti+1)):=⟨_,rfl⟩;have hP:tckP P={ P with ti:=ti+1,ts:=TS,c:=C,ms:=(if B then za8 P.ms M else P.ms) }:=by rw[hB,hM,hC,hTS,hti];rfl
 rw[hP];obtain⟨X,hX⟩:∃ X:World->Prop,X=fun W=>∃ m' L' tv',RunM W L' r { P with ti:=ti+1,ts:=TS,c:=C,ms:=(if B then za8 P.ms M else P.ms) } gt tc m' gv vc t s sv tv'/\Lab w L L'/\Chg (fun b=>L b≠0) w W:=⟨_,rfl⟩;show Calls _ _ _ _ fun e W=>e=.returned (.tuple #[])/\(fun W=>∃ m' L' tv',RunM W L' r { P with ti:=ti+1,ts:=TS,c:=C,ms:=(if B then za8 P.ms M else P.ms) } gt tc m' gv vc t s sv tv'/\Lab w L L'/\Chg (fun b=>L b≠0) w W) W;rw[<- hX];have HX:Hid (∀ W m' L' tv',RunM W L' r { P with ti:=ti+1,ts:=TS,c:=C,ms:=(if B then za8 P.ms M else P.ms) } gt tc m' gv vc t s sv tv'->Lab w L L'->Chg (fun b=>L b≠0) w W->X W):=by
  show ∀ _,_;rw[hX];exact fun W m' L' tv' h1 h2 h3=>⟨m',L',tv',h1,h2,h3⟩
 clear hX;have HEB:=zaa hB;have HEM:=zaa hM;have HEC:=zaa hC;have HETS:=zaa hTS;clear hti hP hB hM hC hTS
 go_enter Tryz.func118,Tryz.ntmps118
 go_wp2_with fail
 go_loopw [17] (fun vi wr=>∃ (j:Nat) (L':Nat->Nat) (tv':List (Int×Value)),j<=n/\vi=.int .i64 j/\RunM wr L' r { P with ti:=ti+1,ts:=fgtU (ti+1) P.ts j } gt tc m gv vc t s sv tv'/\Lab w L L'/\Chg (fun b=>L b≠0) w wr) (fun i _=>n-(intOf i).toNat)
 case atStart=>exact⟨0,L,tv,qf _,rfl,by rw[zw1];exact H1.out,Lab.refl _ _,HC1.out⟩
 case round =>
  obtain⟨j,L',tv',hj,rfl,hM,hL,hC⟩:=hrel
  rename World=>w5
  have HM:=zaa hM;have HL:=zaa hL;have HC:=zaa hC;have hx0 := znn j;have e0:w5.cell? ⟨r,0,none⟩=some (.int .i64 (ti+1)):=hM.row.cell rfl;have e15:w5.cell? ⟨r,15,none⟩=some t:=hM.row.cell rfl;have lr:=hM.row.lt;by_cases hlt:j<n
  ·obtain⟨T,hT⟩:∃ T,P.ts[j]?=some T:=⟨P.ts[j]'(by rw[<- HN.out];exact hlt),xg _⟩;have hT':=zwy (ti:=ti+1) hT;obtain⟨g,cp,v0,e,hc3,hg,lg,_⟩:=hM.topi (P:={ P with ti:=ti+1,ts:=fgtU (ti+1) P.ts j }) hT';have hlen:(fgtU (ti+1) P.ts j).length=n:=by rw[zwz (by rw[<- HN.out];exact hj),HN.out]
   have e':t=.slice (some ⟨g,0,none⟩) (fgtU (ti+1) P.ts j).length cp:=e;have hfg:∀ W,RunM W L' r { P with ti:=ti+1,ts:=fgtU (ti+1) P.ts j } gt tc m gv vc t s sv tv'->Calls Tryz.prog 182 #[.pointer (some ⟨g,j*2,none⟩),.int .i64 (ti+1)] W fun e W'=>e=.returned (.tuple #[])/\∃ L2 tv2,RunM W' L2 r { P with ti:=ti+1,ts:=fgtU (ti+1) P.ts (j+1) } gt tc m gv vc t s sv tv2/\Lab W L' L2/\Chg (fun b=>L' b=5\/L' b=11+2*j) W W':=fun W hW=>by
    rw[zw0 hT];obtain⟨r12,rti⟩:=HOK.out.rcs j T hT;by_cases hk:0<T.keep
    ·exact(zxg (P:={ P with ti:=ti+1,ts:=fgtU (ti+1) P.ts j }) (ti+1) hT' hk e' (by omega) r12 rti hW).mono fun e W' ⟨q1,v,L2,q2,q3,q4⟩=>⟨q1,L2,_,q2,q3,q4⟩
    ·have ef:fgtT (ti+1) T=T:=by unfold fgtT;rw[if_pos (by omega)]
     rw[ef];have es:(fgtU (ti+1) P.ts j).set j T=fgtU (ti+1) P.ts j:=by
      refine qj fun q=>?_;rw[qi];split
      ·rename_i eq;subst eq;rw[hT'];split
       ·rfl
       ·rename_i hh;exact absurd (xe.1 hT').1 hh
      ·rfl
     rw[es];exact(zxh (P:={ P with ti:=ti+1,ts:=fgtU (ti+1) P.ts j }) (ti+1) hT' (by omega) e' hW).mono fun e W' ⟨q1,q2⟩=>⟨q1,L',tv',by rw[q2];exact hW,Lab.refl _ _,by rw[q2];exact Chg.refl _ _⟩
   rw[e']at e15;rw[hlen]at e15;have hx1:(j:Int)<(n:Int):=by omega
   have hj2:n<=cp:=by have:(fgtU (ti+1) P.ts j).length<=cp:=hc3;omega
   have esl:Hid (ad=some ⟨g,0,none⟩/\cap=cp):=by
    have:=HT.out;rw[e',hlen]at this;show _/\_;simpa[eq_comm]using this
   clear hM hL hC hT hT' e hc3 hlen e'
   go_wp2_with fail
   go_region_with (go_at_call 182;refine(hfg _ HM.out.drew).mono ?_;rintro e w6 ⟨rfl,L2,tv2,hM2,hL2,hC2⟩)
   all_goals
    go_wp2_with fail
    go_roundw
    case rel =>
     refine⟨j+1,L2,tv2,by omega,by go_num,hM2,HL.out.trans HC.out.size hL2,HC.out.drew.step HL.out hC2 fun b hb=>by omega⟩
    case measure=>simp[intOf];omega
  ·obtain rfl:n=j:=by omega
   have hts:fgtU (ti+1) P.ts n=P.ts.map (fgtT (ti+1)):=by rw[HN.out];exact zwx _ _
   rw[hts]at HM;have hgr:r≠gt:=fun e=>by have h1:=hM.lr;have h2:=hM.sta.lt;rw[e]at h1;omega
   rw[<- HETS.out]at HM;have hA:∀ W,RunM W L' r { P with ti:=ti+1,ts:=TS } gt tc m gv vc t s sv tv'->Calls Tryz.prog 183 #[.pointer (some ⟨r,1,none⟩),.int .i64 (ti+1)] W fun e W'=>e=.returned (.tuple #[.agg #[.int .i64 M.k,.int .i64 M.n,.int .i64 M.s,.int .i64 M.i,.int .i64 M.r],.bool B])/\RunM W' L' r { P with ti:=ti+1,ts:=TS,c:=C } gt tc m gv vc t s sv tv'/\Chg (·= r) W W':=fun W hW=>by
    rw[HEB.out,HEM.out,HEC.out];exact(zt3 (ti+1) HOK.out.cur HOK.out.nu hgr hW.sta.tsk hW.row).mono fun e W' q=>⟨q.1,hW.ctl (zmm _ _) q.2.2 q.2.1,q.2.2⟩
   have hS:∀ W,RunM W L' r { P with ti:=ti+1,ts:=TS,c:=C } gt tc m gv vc t s sv tv'->_:=fun W hW=>zmc (P:={ P with ti:=ti+1,ts:=TS,c:=C }) M hW;have hlr:=hM.lr;have hfr:=hM.fr;clear hM hL hC hts e15 HEB HEM HEC HETS;obtain⟨mk,mn,ms',mi,mr⟩:=M;simp only at hA hS;have n2:¬ w5.heap.size=r:=by omega
   cases B with
   |false =>
    go_wp2_with fail
    go_region_with (go_at_call 183;first|(refine(hA _ HM.out.drew).mono ?_;rintro e w6 ⟨rfl,hM6,hC6⟩;have hC7:=(Chg.refl (·= r) w5).drew.trans hC6)|(refine(hA _ (HM.out.keep (bel1 w5 (.cells #[.int .i64 0,.int .i64 0,.int .i64 0,.int .i64 0,.int .i64 0] 100))).drew).mono ?_;rintro e w6 ⟨rfl,hM6,hC6⟩;have hC7:=((Chg.of (S:=(·= r)) (bel1 w5 (.cells #[.int .i64 0,.int .i64 0,.int .i64 0,.int .i64 0,.int .i64 0] 100))).drew).trans hC6;have Z6:=zaa (hC6.row ((box5 w5).drew) n2);have y0:=Z6.out.cell (j:=0) rfl;have y1:=Z6.out.cell (j:=1) rfl;have y2:=Z6.out.cell (j:=2) rfl;have y3:=Z6.out.cell (j:=3) rfl;have y4:=Z6.out.cell (j:=4) rfl;have f0:=Z6.out.frozen 0;have f1:=Z6.out.frozen 1;have f2:=Z6.out.frozen 2;have f3:=Z6.out.frozen 3;have f4:=Z6.out.frozen 4;have hX:=zaa ((Chg.refl (·= w5.heap.size) w6).set5 (z:=w5.heap.size) (.inl rfl) (.int .i64 mk) (.int .i64 mn) (.int .i64 ms') (.int .i64 mi) (.int .i64 mr));have HM7:=zaa (hM6.out hX.out (fun b hb=>by rw[hb];exact hfr _ (xq _)))))
    all_goals
     go_wp2_with fail
     refine bodyPost_end (v:=.tuple #[]) (results_none rfl _ _ _) rfl ?_;have hC8:=HC.out.step HL.out hC7 fun b hb=>by rw[hb,hlr];omega
     first
      |exact⟨rfl,HX.out _ m L' tv' HM7.out HL.out (hC8.set5 (.inr HC.out.size) _ _ _ _ _)⟩
      |exact⟨rfl,HX.out _ m L' tv' (hM6.keep (bel1 _ _)) HL.out (hC8.trans (Chg.of (bel1 _ _)))⟩
   |true =>
    go_wp2_with fail
    go_region_with (go_at_call 183;first|(refine(hA _ HM.out.drew).mono ?_;rintro e w6 ⟨rfl,hM6,hC6⟩;have hC7:=(Chg.refl (·= r) w5).drew.trans hC6)|(refine(hA _ (HM.out.keep (bel1 w5 (.cells #[.int .i64 0,.int .i64 0,.int .i64 0,.int .i64 0,.int .i64 0] 100))).drew).mono ?_;rintro e w6 ⟨rfl,hM6,hC6⟩;have hC7:=((Chg.of (S:=(·= r)) (bel1 w5 (.cells #[.int .i64 0,.int .i64 0,.int .i64 0,.int .i64 0,.int .i64 0] 100))).drew).trans hC6;have Z6:=zaa (hC6.row ((box5 w5).drew) n2);have y0:=Z6.out.cell (j:=0) rfl;have y1:=Z6.out.cell (j:=1) rfl;have y2:=Z6.out.cell (j:=2) rfl;have y3:=Z6.out.cell (j:=3) rfl;have y4:=Z6.out.cell (j:=4) rfl;have f0:=Z6.out.frozen 0;have f1:=Z6.out.frozen 1;have f2:=Z6.out.frozen 2;have f3:=Z6.out.frozen 3;have f4:=Z6.out.frozen 4;have hX:=zaa ((Chg.refl (·= w5.heap.size) w6).set5 (z:=w5.heap.size) (.inl rfl) (.int .i64 mk) (.int .i64 mn) (.int .i64 ms') (.int .i64 mi) (.int .i64 mr));have HM7:=zaa (hM6.out hX.out (fun b hb=>by rw[hb];exact hfr _ (xq _)))))
    all_goals
     have hC8:=HC.out.step HL.out hC7 fun b hb=>by rw[hb,hlr];omega
     go_wp2_with (first|(go_at_call 122;first|(refine(hS _ HM7.out).mono ?_;rintro e w7 ⟨rfl,m',L2,hM7,hL7,hC7⟩)|(refine(hS _ (hM6.keep (bel1 _ _))).mono ?_;rintro e w7 ⟨rfl,m',L2,hM7,hL7,hC7⟩)))
     refine bodyPost_end (v:=.tuple #[]) (results_none rfl _ _ _) rfl ?_;have z1:=hC8.size
     first
      |exact⟨rfl,HX.out _ m' L2 tv' hM7 (HL.out.trans (hC8.set5 (z:=w5.heap.size) (.inr HC.out.size) (.int .i64 mk) (.int .i64 mn) (.int .i64 ms') (.int .i64 mi) (.int .i64 mr)).size hL7) ((hC8.set5 (.inr HC.out.size) _ _ _ _ _).step HL.out hC7 fun b hb=>by omega)⟩
      |exact⟨rfl,HX.out _ m' L2 tv' hM7 (HL.out.trans (hC8.trans (Chg.of (bel1 _ _))).size hL7) ((hC8.trans (Chg.of (bel1 _ _))).step HL.out hC7 fun b hb=>by omega)⟩
end
section
variable {w W:World}{L L':Nat->Nat}{r:Nat}{P:zad}{gt tc:Nat}{m:Value}{gv vc:Nat}{t s:Value}{sv:List (Value×Value)}{tv:List (Int×Value)}
theorem ztz (k:Nat)(T:TopD)(sc da:ByteArray)(hT:P.ts[k]?=some T)(hl:12<=T.recs.length)(h:RunM w L r P gt tc m gv vc t s sv tv):Calls Tryz.prog 161 #[.pointer (some ⟨r,0,none⟩),.int .i64 k,.string sc,.string da] w fun e W=>e=.returned (.bool false)/\w=W:=by
 obtain⟨g,cap,v0,rfl,hc1,hg,lg,hq,c0,c1,x1,ho⟩:=h.topi hT;have hk:=(xe.1 hT).1;obtain⟨ad,rcap,hv,hr1,hr2⟩:=ho.len;subst hv;have k15:w.cell? ⟨r,15,none⟩=some (.slice (some ⟨g,0,none⟩) P.ts.length cap):=h.row.cell rfl;have n1:=zhc (k:Int) h;rw[show numB (k:Int) (P.ts.length:Int)=true by unfold numB;simp;omega]at n1;have hx0:(0:Int)<=(k:Int):=by omega
 have hx1:(k:Int)<(P.ts.length:Int):=by omega
 clear h hT hq ho hk;generalize P.ts.length=n at *;generalize T.recs.length=nr at *
 go_enter Tryz.func161,Tryz.ntmps161
 go_wp2_with (first|(go_at_call 189;refine n1.mono ?_;rintro e _ ⟨rfl,rfl⟩))
 go_ret;exact⟨rfl,rfl⟩
theorem yae5 {k:Nat}{T:TopD}{x:RecD}{W w6:World}{g cap g1 cap1 z:Nat}{v:Value}(h:RunM w L r P gt tc m gv vc t s sv tv)(hT:P.ts[k]?=some T)(ht:t=.slice (some ⟨g,0,none⟩) P.ts.length cap)(hv:tv[k]?=some (T.keep,v))(hb:Below w.heap.size w W)(hown:w6.ownsRow 0 197 3 (.slice (some ⟨g1,0,none⟩) (T.recs.length+1) cap1) (T.recs.length+1) (T.recs.flatMap recF++recF x))(hgrow:W.grownBy w6 v.ownBlock)(hat:v.ownBlock=some g1\/g1=z)(hz:w.heap.size<=z) :
  ∃ v' L',RunM (w6.setCell ⟨g,k*2+1,none⟩ (.slice (some ⟨g1,0,none⟩) (T.recs.length+1) cap1)) L' r { P with ts:=P.ts.set k { T with recs:=T.recs++[x] } } gt tc m gv vc t s sv (tv.set k (T.keep,v'))/\Lab w L L'/\Chg (fun b=>L b=5\/L b=11+2*k) w (w6.setCell ⟨g,k*2+1,none⟩ (.slice (some ⟨g1,0,none⟩) (T.recs.length+1) cap1)):=by
 obtain⟨g',cap',v0,e,hc1,hg,lg,hq,_,_,_,ho⟩:=h.topi hT;obtain⟨rfl,rfl⟩:g=g'/\cap=cap':=by rw[e]at ht;simpa[eq_comm]using ht
 obtain rfl:v=v0:=by rw[hq]at hv;simpa using hv.symm
 have hne:v.ownBlock≠some g:=fun e=>by have:=ho.2 g e;omega
 have hgg:g1≠g:=fun e=>by
  subst e;rcases hat with q|q
  ·exact hne q
  ·omega
 have hL:Lab w L (fun b=>if b=g1 then 11+2*k else L b):=fun b hb=>by
  show (if b=g1 then 11+2*k else L b)=L b;split
  ·rename_i e;subst e;rcases hat with q|q
   ·exact(ho.2 _ q).symm
   ·omega
  ·rfl
 have hc:Chg (fun b=>L b=5\/L b=11+2*k) w (w6.setCell ⟨g,k*2+1,none⟩ (.slice (some ⟨g1,0,none⟩) (T.recs.length+1) cap1)) :=
  ((Chg.of (S:=fun b=>L b=5\/L b=11+2*k) hb).grown hgrow (fun j hj=>.inl (.inr (ho.2 j hj)))).set (p:=⟨g,k*2+1,none⟩) (.inl (.inl hg)) _
 have hlt:=qp hown g1 rfl;refine⟨.slice (some ⟨g1,0,none⟩) (T.recs.length+1) cap1,fun b=>if b=g1 then 11+2*k else L b,h.tops (T':={ T with recs:=T.recs++[x] }) hT rfl hc hL (fun b hb'=>?_) ⟨?_,fun b hb=>?_⟩ ⟨?_,fun b hb=>?_⟩,hL,hc⟩
 ·have hz1:w6.heap.size<=b:=by simpa[World.setCell]using hb'
  have hz2:=hgrow.size;have hz3:=hb.size;show (if b=g1 then 11+2*k else L b)=0;rw[if_neg (by omega)];exact h.fr b (by omega)
 ·have hob:∀ b,(Value.slice (some ⟨g1,0,none⟩) (T.recs.length+1) cap1).ownBlock=some b->¬ b=g:=fun b hb e=>by
   have:g1=b:=by simpa[xy]using hb
   omega
  have:=((Chg.refl (·= g) w6).set (p:=⟨g,k*2+1,none⟩) (.inl rfl) (.slice (some ⟨g1,0,none⟩) (T.recs.length+1) cap1)).own hown hob;have e:(T.recs++[x]).flatMap recF=T.recs.flatMap recF++recF x:=by simp
  show World.ownsRow _ 0 _ 3 _ (T.recs++[x]).length ((T.recs++[x]).flatMap recF);rw[e,xz];exact this
 ·have:g1=b:=by simpa[xy]using hb
  subst this;show (if g1=g1 then 11+2*k else L g1)=11+2*k;rw[if_pos rfl]
 ·have h5:=(zas h.top.1 hb).kept hgrow (.inr (by rw[ht];simp[xy];exact fun e=>hne e.symm));rw[ht]at h5 ⊢;have h6:=(qo h5 (k*2+1) (.slice (some ⟨g1,0,none⟩) (T.recs.length+1) cap1)).1;rw[zeh (f:=topF) (k:=2) (fun _=>rfl) hq (j:=1) (u:=.slice (some ⟨g1,0,none⟩) (T.recs.length+1) cap1) (y:=(T.keep,.slice (some ⟨g1,0,none⟩) (T.recs.length+1) cap1)) (by omega) rfl]at h6;exact h6
 ·rw[ht]at hb;have:g=b:=by simpa[xy]using hb
  subst this;exact(hL g lg).trans hg
theorem zt0 (k:Nat)(T:TopD)(sc da:ByteArray)(hT:P.ts[k]?=some T)(hl:T.recs.length<12)(h:RunM w L r P gt tc m gv vc t s sv tv):Calls Tryz.prog 161 #[.pointer (some ⟨r,0,none⟩),.int .i64 k,.string sc,.string da] w fun e W=>e=.returned (.bool true)/\∃ v' L',RunM W L' r { P with ts:=P.ts.set k { T with recs:=T.recs++[⟨sc,da,P.ti⟩] } } gt tc m gv vc t s sv (tv.set k (T.keep,v'))/\Lab w L L'/\Chg (fun b=>L b=5\/L b=11+2*k) w W:=by
 obtain⟨iM,hiM,zM0,zM1,zM2⟩:=info_parts Tryz.infoRecK;obtain⟨g,cap,v0,rfl,hc1,hg,lg,hq,c0,c1,x1,ho⟩:=h.topi hT;have hk:=(xe.1 hT).1;obtain⟨ad,rcap,hv,hr1,hr2⟩:=ho.len;subst hv;have k15:w.cell? ⟨r,15,none⟩=some (.slice (some ⟨g,0,none⟩) P.ts.length cap):=h.row.cell rfl;have k0:w.cell? ⟨r,0,none⟩=some (.int .i64 P.ti):=h.row.cell rfl;have n1:=zhc (k:Int) h;rw[show numB (k:Int) (P.ts.length:Int)=true by unfold numB;simp;omega]at n1;have hx0:(0:Int)<=(k:Int):=by omega
 have hx1:(k:Int)<(P.ts.length:Int):=by omega
 have HO:=zaa ho.1;have lr:=h.row.lt;have hne:(Value.slice ad T.recs.length rcap).ownBlock≠some g:=fun e=>by have:=ho.2 g e;omega
 have hne2:(Value.slice ad T.recs.length rcap).ownBlock≠some r:=fun e=>by have:=ho.2 r e;rw[h.lr]at this;omega
 have HD:=zaa (fun (w6:World) (g1 cap1:Nat) (h1:w6.ownsRow 0 197 3 (.slice (some ⟨g1,0,none⟩) (T.recs.length+1) cap1) (T.recs.length+1) (T.recs.flatMap recF++[.string sc,.string da,.int .i64 P.ti])) (h2:((w.alloc (.cells #[.string sc,.string da,.int .i64 P.ti] 197)).drew).grownBy w6 (Value.slice ad T.recs.length rcap).ownBlock) (h3:(Value.slice ad T.recs.length rcap).ownBlock=some g1\/g1=w.heap.size+1)=>yae5 (x:=⟨sc,da,P.ti⟩) h hT rfl hq (bel1 w (.cells #[.string sc,.string da,.int .i64 P.ti] 197)).drew h1 h2 h3 (by omega));clear h hT hq ho hk;obtain⟨X,hX⟩:∃ X:World->Prop,X=fun W=>∃ v' L',RunM W L' r { P with ts:=P.ts.set k { T with recs:=T.recs++[⟨sc,da,P.ti⟩] } } gt tc m gv vc (.slice (some ⟨g,0,none⟩) P.ts.length cap) s sv (tv.set k (T.keep,v'))/\Lab w L L'/\Chg (fun b=>L b=5\/L b=11+2*k) w W:=⟨_,rfl⟩;show Calls _ _ _ _ fun e W=>e=.returned (.bool true)/\(fun W=>∃ v' L',RunM W L' r { P with ts:=P.ts.set k { T with recs:=T.recs++[⟨sc,da,P.ti⟩] } } gt tc m gv vc (.slice (some ⟨g,0,none⟩) P.ts.length cap) s sv (tv.set k (T.keep,v'))/\Lab w L L'/\Chg (fun b=>L b=5\/L b=11+2*k) w W) W;rw[<- hX];have HD2:Hid (∀ (w6:World) (g1 cap1:Nat),w6.ownsRow 0 197 3 (.slice (some ⟨g1,0,none⟩) (T.recs.length+1) cap1) (T.recs.length+1) (T.recs.flatMap recF++[.string sc,.string da,.int .i64 P.ti])->((w.alloc (.cells #[.string sc,.string da,.int .i64 P.ti] 197)).drew).grownBy w6 (Value.slice ad T.recs.length rcap).ownBlock->((Value.slice ad T.recs.length rcap).ownBlock=some g1\/g1=w.heap.size+1)->X (w6.setCell ⟨g,k*2+1,none⟩ (.slice (some ⟨g1,0,none⟩) (T.recs.length+1) cap1))):=by
  show ∀ _,_;rw[hX];exact HD.out
 clear HD hX;generalize P.ts.length=n at *;generalize T.recs.flatMap recF=xs at *;generalize T.recs.length=nr at *;generalize P.ti=ti at *
 go_enter Tryz.func161,Tryz.ntmps161
 go_wp2_with (first|(go_at_call 189;refine n1.mono ?_;rintro e _ ⟨rfl,rfl⟩))
 go_region_law (first|(refine step_append_lies _ (by rfl) _ _ _ (by rfl) 0 197 iM _ 3 40 Tryz.underlying194 hiM zM0 zM1 zM2 rfl (by omega) (.slice ad nr rcap) nr _ (by rfl) ((HO.out.alloc _).drew) ⟨w.heap.size,0,none⟩ 1 1 [.string sc,.string da,.int .i64 ti] (by rfl) (by rfl) (qg (heap_alloc_new w _)) (by simp[qm]) (by omega) (by unfold maxLen;omega) (by omega) (by simp) (w.heap.size+1) (by simp) ?_;intro g1 cap1 w6 hown1 hgrow1 hat1 hlt1;have j15:=hgrow1.cell (zah _ k15) (fun e=>hne2 e.symm);have j1:=hgrow1.cell (zah _ c1) (fun e=>hne e.symm);have hbk:=((Chg.of (S:=fun b=>(Value.slice ad nr rcap).ownBlock=some b) (bel1 w (.cells #[.string sc,.string da,.int .i64 ti] 197))).drew.grown hgrow1 (fun k hk=>.inl hk)).block g lg hne;have y1:w6.frozen? ⟨g,k*2+1,none⟩=false:=(World.frozen?_of_block (w:=w) (a:=⟨g,k*2+1,none⟩) hbk).trans x1))
 all_goals
  go_wp2_with fail
  go_ret;exact⟨rfl,HD2.out _ _ _ hown1 hgrow1 hat1⟩
end
def zci (st:Bool)(t:ByteArray)(n:Nat)(ty:Ty):Option ByteArray :=
 match enc st t n ty 0 with
 |none=>none
 |some (d,k)=>if k=t.size then some d else none
def eRet:Option ByteArray->Value
 |some d=>.tuple #[.string d,.bool true]
 |none=>.tuple #[.string xo,.bool false]
theorem yabu {t:ByteArray}(ht:t.size<=4096){n:Nat}(hn:n<=100)(ty:Ty)(w:World)(ai af:Option Addr)(li ci lf cf:Nat)(hr:Rep n w ai li ci af lf cf ty) :
  Calls Tryz.prog 187 #[.agg #[.int .i64 ty.kind,.string ty.letters,.bool ty.op,.slice ai li ci,.slice af lf cf],.string t] w fun e w'=>e=.returned (eRet (zci false t n ty))/\Below w.heap.size w w':=by
 have hB:∀ o,Below w.heap.size w (w.alloc o):=fun o=>(Below.refl _ _).alloc (xq _) _;have IH:=zkc ht n (by omega);cases hx:enc false t n ty 0 with
 |none =>
  have hr':Hid (zci false t n ty=none):=by show _=_;unfold zci;rw[hx]
  have hcall:=fun o=>IH.no (qf _) (hr.keep (hB o)) hx;clear hx IH
  go_enter Tryz.func187,Tryz.ntmps187
  go_wp2_with (go_at_call 238;refine(hcall _).mono ?_;rintro e w1 ⟨rfl,hb1⟩)
  go_ret2
  rw[hr'.out];exact⟨rfl,(hB _).trans (hb1.mono (by simp))⟩
 |some p =>
  obtain⟨d,k⟩:=p;have hcall:=fun o=>IH.yes (qf _) (hr.keep (hB o)) hx;by_cases hk:k=t.size
  ·have hk':((k:Int) != (t.size:Int))=false:=by simp;omega
   have hr':Hid (zci false t n ty=some d):=by show _=_;unfold zci;rw[hx];simp only[if_pos hk]
   clear hx IH hk
   go_enter Tryz.func187,Tryz.ntmps187
   go_wp2_with (go_at_call 238;refine(hcall _).mono ?_;rintro e w1 ⟨rfl,hb1⟩)
   go_ret2
   rw[hr'.out];exact⟨rfl,(hB _).trans (hb1.mono (by simp))⟩
  ·have hk':((k:Int) != (t.size:Int))=true:=by simp;omega
   have hr':Hid (zci false t n ty=none):=by show _=_;unfold zci;rw[hx];simp only[if_neg hk]
   clear hx IH hk
   go_enter Tryz.func187,Tryz.ntmps187
   go_wp2_with (go_at_call 238;refine(hcall _).mono ?_;rintro e w1 ⟨rfl,hb1⟩)
   go_ret2
   rw[hr'.out];exact⟨rfl,(hB _).trans (hb1.mono (by simp))⟩
def zau (st:Bool)(s t:ByteArray):ByteArray×Int :=
 if 60<s.size\/4096<t.size then (xo,1) else
  match pAll st s with
  |none=>(xo,2)
  |some ty =>
   match zci st t s.size ty with
   |none=>(xo,3)
   |some d=>if 64<d.size then (xo,4) else (d,0)
theorem zv9 {st:Bool}{t d:ByteArray}{n:Nat}{ty:Ty}(h:zci st t n ty=some d)(ht:t.size<=4096)(hn:n<=100):d.size<=4000000:=by
 unfold zci at h;rcases hx:enc st t n ty 0 with _|⟨d',k⟩
 ·rw[hx]at h;cases h
 ·rw[hx]at h;simp only at h;split at h
  ·cases h;have:=zdf hx;exact zet this.2.2 hn (by omega)
  ·cases h
theorem zl5 (s t:ByteArray)(hs:s.size<=maxLen)(ht:t.size<=maxLen)(w:World) :
  Calls Tryz.prog 124 #[.string s,.string t] w fun e w'=>e=.returned (.tuple #[.string (zau false s t).1,.int .i64 (zau false s t).2])/\Below w.heap.size w w':=by
 by_cases h1:4096<t.size
 ·have hr:Hid (zau false s t=(xo,1)):=by show _=_;unfold zau;rw[if_pos (.inr h1)]
  unfold maxLen at hs ht
  go_enter Tryz.func124,Tryz.ntmps124
  go_wp2_with fail
  go_ret2
  rw[hr.out];exact⟨rfl,Below.refl _ _⟩
 ·by_cases h2:60<s.size
  ·have hr:Hid (zau false s t=(xo,1)):=by show _=_;unfold zau;rw[if_pos (.inl h2)]
   have hcall:=fun w=>zsk h2 hs w;clear hs ht
   go_enter Tryz.func124,Tryz.ntmps124
   go_wp2_with (go_at_call 131;refine(hcall _).mono ?_;rintro e w1 ⟨rfl,hb1⟩)
   go_ret2
   rw[hr.out];exact⟨rfl,Below.alloc' hb1 _⟩
  ·have h0:¬ (60<s.size\/4096<t.size):=by omega
   cases hx:pAll false s with
   |none =>
    have hr:Hid (zau false s t=(xo,2)):=by show _=_;unfold zau;rw[if_neg h0,hx]
    have hcall:=fun w=>zjf (zfs (s:=s) (by omega) w) hx;clear hs ht hx
    go_enter Tryz.func124,Tryz.ntmps124
    go_wp2_with (go_at_call 131;refine(hcall _).mono ?_;rintro e w1 ⟨rfl,hb1⟩)
    go_ret2
    rw[hr.out];exact⟨rfl,Below.alloc' hb1 _⟩
   |some ty =>
    have hcall:=fun w=>zfy (zfs (s:=s) (by omega) w) hx;have he:=fun (W:World) (o:Obj) (ai:Option Addr) (li ci:Nat) (af:Option Addr) (lf cf:Nat) (S:Nat->Prop) (h:RepB S s.size W ai li ci af lf cf ty)=>yabu (t:=t) (by omega) (show s.size<=100 by omega) ty (W.alloc o) ai af li ci lf cf (h.rep.keep ((Below.refl _ _).alloc (xq _) _));cases hy:zci false t s.size ty with
    |none =>
     have hr:Hid (zau false s t=(xo,3)):=by show _=_;unfold zau;rw[if_neg h0,hx];simp only[hy]
     rw[hy]at he;simp only[eRet]at he;clear hs ht hx hy
     go_enter Tryz.func124,Tryz.ntmps124
     go_wp2_with (first|(go_at_call 131;refine(hcall _).mono ?_;rintro e w1 ⟨ai,li,ci,af,lf,cf,rfl,hr1,hb1⟩)|(go_at_call 187;refine(he _ _ _ _ _ _ _ _ _ hr1).mono ?_;rintro e w2 ⟨rfl,hb2⟩))
     go_ret2
     rw[hr.out];exact⟨rfl,(Below.alloc' hb1 _).trans (hb2.mono (by have:=hb1.size;simp;omega))⟩
    |some d =>
     have hds:=zv9 hy (by omega) (by omega);rw[hy]at he;simp only[eRet]at he;by_cases h64:64<d.size
     ·have hr:Hid (zau false s t=(xo,4)):=by show _=_;unfold zau;rw[if_neg h0,hx];simp only[hy,if_pos h64]
      clear hs ht hx hy
      go_enter Tryz.func124,Tryz.ntmps124
      go_wp2_with (first|(go_at_call 131;refine(hcall _).mono ?_;rintro e w1 ⟨ai,li,ci,af,lf,cf,rfl,hr1,hb1⟩)|(go_at_call 187;refine(he _ _ _ _ _ _ _ _ _ hr1).mono ?_;rintro e w2 ⟨rfl,hb2⟩))
      go_ret2
      rw[hr.out];exact⟨rfl,(Below.alloc' hb1 _).trans (hb2.mono (by have:=hb1.size;simp;omega))⟩
     ·have hr:Hid (zau false s t=(d,0)):=by show _=_;unfold zau;rw[if_neg h0,hx];simp only[hy,if_neg h64]
      clear hs ht hx hy
      go_enter Tryz.func124,Tryz.ntmps124
      go_wp2_with (first|(go_at_call 131;refine(hcall _).mono ?_;rintro e w1 ⟨ai,li,ci,af,lf,cf,rfl,hr1,hb1⟩)|(go_at_call 187;refine(he _ _ _ _ _ _ _ _ _ hr1).mono ?_;rintro e w2 ⟨rfl,hb2⟩))
      go_ret2
      rw[hr.out];exact⟨rfl,(Below.alloc' hb1 _).trans (hb2.mono (by have:=hb1.size;simp;omega))⟩
section
variable {w W:World}{L L':Nat->Nat}{r:Nat}{P:zad}
theorem zk9 (hok:zhh P)(h:RunE w L r P):Calls Tryz.prog 55 #[.pointer (some ⟨r,0,none⟩)] w fun e W=>e=.returned (.tuple #[])/\Turn w L r W (tckP P):=by
 obtain⟨gt,tc,m,gv,vc,t,s,sv,tv,h⟩:=h;have c1:=(ztx hok h).mono fun e W q=>(⟨q.1,by obtain⟨m2,L2,tv2,k1,k2,k3⟩:=q.2;exact⟨L2,⟨_,_,_,_,_,_,_,_,_,k1⟩,k2,k3⟩⟩:e=Ending.returned (.tuple #[])/\Turn w L r W (tckP P));clear h hok;generalize tckP P=Q at *
 go_enter Tryz.func55,Tryz.ntmps55
 go_wp2_with (first|(go_at_call 118;refine c1.mono ?_;rintro e w1 ⟨rfl,ht1⟩;have HT:=zaa ht1;clear ht1))
 refine bodyPost_end (v:=.tuple #[]) (results_none rfl _ _ _) rfl ?_;exact⟨rfl,HT.out⟩
theorem zq1 (hb:0<=P.ti/\P.ti<=4000000000/\0<=P.c.rest/\P.c.rest<=4000000000)(h:RunE w L r P):Calls Tryz.prog 32 #[.pointer (some ⟨r,0,none⟩)] w fun e W=>e=.returned (.tuple #[])/\Turn w L r W (crsP P):=by
 have c1:=zze hb h;clear h hb;generalize crsP P=Q at *
 go_enter Tryz.func32,Tryz.ntmps32
 go_wp2_with (first|(go_at_call 76;refine c1.mono ?_;rintro e w1 ⟨rfl,ht1⟩;have HT:=zaa ht1;clear ht1))
 refine bodyPost_end (v:=.tuple #[]) (results_none rfl _ _ _) rfl ?_;exact⟨rfl,HT.out⟩
theorem zq4 (on:Bool)(h:RunE w L r P):Calls Tryz.prog 28 #[.pointer (some ⟨r,0,none⟩),.bool on] w fun e W=>(∃ n,e=.returned (.int .i64 n))/\Turn w L r W (if zaj P.c then P else pauP P on):=by
 have c0:=zqb h;have c1:=zzs on h;have HT:=zaa (Turn.of h (Below.refl _ _));clear h;cases ho:zaj P.c with
 |true =>
  rw[ho]at c0;simp only[if_true];clear ho c1
  go_enter Tryz.func28,Tryz.ntmps28
  go_wp2_with (first|(go_at_call 72;refine c0.mono ?_;rintro e _ ⟨rfl,rfl⟩))
  go_ret;exact⟨⟨_,rfl⟩,HT.out⟩
 |false =>
  rw[ho]at c0;simp only[xp,if_false];generalize pauP P on=Q at *;clear ho HT
  go_enter Tryz.func28,Tryz.ntmps28
  go_wp2_with (first|(go_at_call 72;refine c0.mono ?_;rintro e _ ⟨rfl,rfl⟩)|(go_at_call 73;refine c1.mono ?_;rintro e w1 ⟨rfl,ht1⟩;have HT:=zaa ht1;clear ht1))
  go_ret;exact⟨⟨_,rfl⟩,HT.out⟩
def abtE (P:zad):Int:=if zaj P.c then 17 else if P.c.st=2 then 18 else 0
def abtP (P:zad):zad:=if zaj P.c then P else if P.c.st=2 then P else trnP P
theorem zl1 (hb:0<=P.c.pos/\P.c.pos<=4000000000)(h:RunE w L r P):Calls Tryz.prog 31 #[.pointer (some ⟨r,0,none⟩)] w fun e W=>e=.returned (.int .i64 (abtE P))/\Turn w L r W (abtP P):=by
 have c0:=zqb h;have c1:=zzm h;have c2:=zzv hb h;have HT:=zaa (Turn.of h (Below.refl _ _));clear h hb;unfold abtE abtP;cases ho:zaj P.c with
 |true =>
  rw[ho]at c0;simp only[if_true];clear ho c1 c2
  go_enter Tryz.func31,Tryz.ntmps31
  go_wp2_with (first|(go_at_call 72;refine c0.mono ?_;rintro e _ ⟨rfl,rfl⟩))
  go_ret;exact⟨rfl,HT.out⟩
 |false =>
  rw[ho]at c0;simp only[xp,if_false];by_cases hs:P.c.st=2
  ·rw[decide_eq_true hs]at c1;rw[if_pos hs,if_pos hs];clear ho c2 hs
   go_enter Tryz.func31,Tryz.ntmps31
   go_wp2_with (first|(go_at_call 72;refine c0.mono ?_;rintro e _ ⟨rfl,rfl⟩)|(go_at_call 74;refine c1.mono ?_;rintro e _ ⟨rfl,rfl⟩))
   go_ret;exact⟨rfl,HT.out⟩
  ·rw[decide_eq_false hs]at c1;rw[if_neg hs,if_neg hs];generalize trnP P=Q at *;clear ho hs HT
   go_enter Tryz.func31,Tryz.ntmps31
   go_wp2_with (first|(go_at_call 72;refine c0.mono ?_;rintro e _ ⟨rfl,rfl⟩)|(go_at_call 74;refine c1.mono ?_;rintro e _ ⟨rfl,rfl⟩)|(go_at_call 75;refine c2.mono ?_;rintro e w1 ⟨rfl,ht1⟩;have HT:=zaa ht1;clear ht1))
   go_ret;exact⟨rfl,HT.out⟩
theorem ztf (k:Int)(h:RunE w L r P):Calls Tryz.prog 59 #[.pointer (some ⟨r,0,none⟩),.int .i64 k] w fun e W=>(∃ n,e=.returned (.int .i64 n))/\Turn w L r W (cpyP P k):=by
 unfold cpyP;cases hk:numB k P.ms.length with
 |false =>
  simp only[xp,if_false];have HT:=zaa (fun (W:World) (hb:Below w.heap.size w W)=>Turn.of h hb);obtain⟨gt,tc,m,gv,vc,t,s,sv,tv,h⟩:=h;have c1:=zl7 k hk h;clear h hk
  go_enter Tryz.func59,Tryz.ntmps59
  go_wp2_with (first|(go_at_call 121;refine c1.mono ?_;rintro e w1 ⟨rfl,hb1⟩))
  go_ret;exact⟨⟨_,rfl⟩,HT.out _ (thn3 hb1 (bel1 _ _))⟩
 |true =>
  simp only[if_true];obtain⟨i,rfl,hi⟩:=zic hk;obtain⟨x,hx⟩:∃ x,P.ms[i]?=some x:=⟨P.ms[i]'hi,xg _⟩;rw[xh,xj,hx];show Calls _ _ _ _ fun e W=>(∃ n,e=.returned (.int .i64 n))/\Turn w L r W { P with ms:=za8 P.ms x };obtain⟨gt,tc,m,gv,vc,t,s,sv,tv,h⟩:=h;have c1:=zl8 i x hx h;have c2:=fun (W:World) (hb:Below w.heap.size w W)=>(zmc x (h.keep hb)).mono fun e W' q=>(⟨q.1,by obtain⟨m2,L2,k1,k2,k3⟩:=q.2;exact⟨L2,⟨_,_,_,_,_,_,_,_,_,k1⟩,fun b hb'=>k2 b (qh hb' hb.size),(Chg.of hb).trans (k3.mono fun b hb=>by omega)⟩⟩:e=Ending.returned (.bool (decide (P.ms.length<40)))/\Turn w L r W' { P with ms:=za8 P.ms x });clear h hk hx hi;generalize ({ P with ms:=za8 P.ms x }:zad)=Q at *;generalize decide (P.ms.length<40)=B at *;obtain⟨xk,xn,xs,xi,xr⟩:=x;simp only at c1 c2;cases B
  all_goals
   go_enter Tryz.func59,Tryz.ntmps59
   go_wp2_with (first|(go_at_call 121;refine c1.mono ?_;rintro e w1 ⟨rfl,hb1⟩;have HB:=zaa (thn3 hb1 (bel1 w1 (.cells #[.int .i64 xk,.int .i64 xn,.int .i64 xs,.int .i64 xi,.int .i64 xr] 100))).drew))
   go_region_with (go_at_call 122;refine(c2 _ HB.out).mono ?_;rintro e w3 ⟨rfl,ht3⟩;have HT:=zaa ht3;clear ht3)
   all_goals
    go_wp2_with fail
    go_ret;exact⟨⟨_,rfl⟩,HT.out⟩
theorem zlb (a b k:Int)(hh:hasB P.vs a b=true)(h:RunE w L r P):Calls Tryz.prog 125 #[.pointer (some ⟨r,0,none⟩),.int .i64 a,.int .i64 b,.int .i64 k] w fun e W=>e=.returned (.bool (numB k P.ts.length))/\w=W:=by
 obtain⟨gt,tc,m,gv,vc,t,s,sv,tv,h⟩:=h;have c1:=zhb a b hh h;have c2:=zhc k h;clear h hh;generalize numB k P.ts.length=B at *
 go_enter Tryz.func125,Tryz.ntmps125
 go_wp2_with (first|(go_at_call 188;refine c1.mono ?_;rintro e W' ⟨rfl,hW⟩;obtain rfl:=hW.symm)|(go_at_call 189;refine c2.mono ?_;rintro e _ ⟨rfl,rfl⟩))
 go_ret;exact⟨rfl,rfl⟩
theorem zja (i j rl:Nat)(V:SrvD)(y:InsD)(ps:List PinD)(k:Int)(text:ByteArray)(hV:P.vs[i]?=some V)(hy:V.ins[j]?=some y)(hr:y.r=rl)(hps:V.rels[rl]?=some ps)(hl:ps.length<=2000000)(hts:text.size<=maxLen)(hss:(schO P.ss (pinO ps k).w).size<=maxLen)(h:RunE w L r P) :
  Calls Tryz.prog 94 #[.pointer (some ⟨r,0,none⟩),.int .i64 i,.int .i64 j,.int .i64 k,.string text] w fun e W=>e=.returned (.int .i64 (if numB k P.ts.length then (if numB (pinO ps k).w P.ss.length then (if (zau false (schO P.ss (pinO ps k).w) text).2=0 then (if (P.ts.getD k.toNat ⟨0,[]⟩).recs.length<12 then 0 else 16) else (zau false (schO P.ss (pinO ps k).w) text).2) else 15) else 11))/\Turn w L r W (if numB k P.ts.length/\numB (pinO ps k).w P.ss.length/\(zau false (schO P.ss (pinO ps k).w) text).2=0/\(P.ts.getD k.toNat ⟨0,[]⟩).recs.length<12 then wrtP P k.toNat (schO P.ss (pinO ps k).w) (zau false (schO P.ss (pinO ps k).w) text).1 else P):=by
 have hh:hasB P.vs (i:Int) (j:Int)=true:=by
  have hi:=(xe.1 hV).1;have hjl:=(xe.1 hy).1;rw[zd4,xh,xj,hV];show 0<=_/\_<_/\0<=_/\(j:Int)<(V.ins.length:Int);omega
 have c1:=zlb (i:Int) (j:Int) k hh h;have HT:=zaa (fun (W:World) (hb:Below w.heap.size w W)=>Turn.of h hb);have c3:=fun W=>zl5 (schO P.ss (pinO ps k).w) text hss hts W;obtain⟨gt,tc,m,gv,vc,t,s,sv,tv,h⟩:=h;have c2:=zt1 i j rl V y ps k hV hy hr hps hl h;cases hk:numB k P.ts.length with
 |false =>
  rw[hk]at c1;simp only[xp,if_false,false_and];clear h hk c2 c3 hV hy hps hh
  go_enter Tryz.func94,Tryz.ntmps94
  go_wp2_with (first|(go_at_call 125;refine c1.mono ?_;rintro e _ ⟨rfl,rfl⟩))
  go_ret;exact⟨rfl,HT.out _ (Below.refl _ _)⟩
 |true =>
  rw[hk]at c1;simp only[if_true,true_and];cases hw:numB (pinO ps k).w P.ss.length with
  |false =>
   rw[hw]at c2;simp only[xp,if_false,false_and];clear h hk c3 hV hy hps hh hw;generalize schO P.ss (pinO ps k).w=X at *
   go_enter Tryz.func94,Tryz.ntmps94
   go_wp2_with (first
    |(go_at_call 125;refine c1.mono ?_;rintro e _ ⟨rfl,rfl⟩)
    |(go_at_call 160;refine c2.mono ?_;rintro e w2 ⟨rfl,hb2⟩))
   go_ret;exact⟨rfl,HT.out _ hb2⟩
  |true =>
   rw[hw]at c2;simp only[if_true,true_and];generalize schO P.ss (pinO ps k).w=X at *;generalize zau false X text=O at *;obtain⟨d,eo⟩:=O;simp only at c3 ⊢;by_cases he:eo=0
   ·subst he;obtain⟨q,rfl,hq⟩:=zic hk;obtain⟨T,hT⟩:∃ T,P.ts[q]?=some T:=⟨P.ts[q]'hq,xg _⟩;have hg:P.ts.getD (q:Int).toNat ⟨0,[]⟩=T:=by rw[xh,xj,hT];rfl
    rw[hg];simp only[if_true,true_and];by_cases hl12:T.recs.length<12
    ·rw[if_pos hl12,if_pos hl12];have ew:wrtP P (q:Int).toNat X d={ P with ts:=P.ts.set q { T with recs:=T.recs++[⟨X,d,P.ti⟩] } }:=by
      unfold wrtP
      congr 1
      rw[xh];refine qj fun z=>?_;rw[List.getElem?_modify,qi];by_cases e:q=z
      ·subst e;rw[if_pos rfl,if_pos hq,hT];simp
      ·rw[if_neg e];simp[e]
     rw[ew];have c4:=fun (W:World) (hb:Below w.heap.size w W)=>(zt0 q T X d hT hl12 (h.keep hb)).mono fun e W' z=>(⟨z.1,by obtain⟨v2,L2,k1,k2,k3⟩:=z.2;exact⟨L2,⟨_,_,_,_,_,_,_,_,_,k1⟩,fun b hb'=>k2 b (qh hb' hb.size),(Chg.of hb).trans (k3.mono fun b hb=>by omega)⟩⟩:e=Ending.returned (.bool true)/\Turn w L r W' { P with ts:=P.ts.set q { T with recs:=T.recs++[⟨X,d,P.ti⟩] } });clear h hk hV hy hps hh hw HT ew hg hT;generalize ({ P with ts:=P.ts.set q { T with recs:=T.recs++[⟨X,d,P.ti⟩] } }:zad)=Q at *
     go_enter Tryz.func94,Tryz.ntmps94
     go_wp2_with (first
      |(go_at_call 125;refine c1.mono ?_;rintro e _ ⟨rfl,rfl⟩)
      |(go_at_call 160;refine c2.mono ?_;rintro e w2 ⟨rfl,hb2⟩)
      |(go_at_call 124;refine(c3 _).mono ?_;rintro e w3 ⟨rfl,hb3⟩)
      |(go_at_call 161;refine(c4 _ (thn3 hb2 hb3)).mono ?_;rintro e w4 ⟨rfl,ht4⟩;have HT4:=zaa ht4;clear ht4))
     go_ret;exact⟨rfl,HT4.out⟩
    ·rw[if_neg hl12,if_neg hl12];have c4:=fun (W:World) (hb:Below w.heap.size w W)=>ztz q T X d hT (by omega) (h.keep hb);clear h hk hV hy hps hh hw hg hT
     go_enter Tryz.func94,Tryz.ntmps94
     go_wp2_with (first
      |(go_at_call 125;refine c1.mono ?_;rintro e _ ⟨rfl,rfl⟩)
      |(go_at_call 160;refine c2.mono ?_;rintro e w2 ⟨rfl,hb2⟩)
      |(go_at_call 124;refine(c3 _).mono ?_;rintro e w3 ⟨rfl,hb3⟩)
      |(go_at_call 161;refine(c4 _ (thn3 hb2 hb3)).mono ?_;rintro e _ ⟨rfl,rfl⟩))
     go_ret;exact⟨rfl,HT.out _ (thn3 hb2 hb3)⟩
   ·rw[if_neg he,if_neg (fun q=>he q.1)];clear h hk hV hy hps hh hw
    go_enter Tryz.func94,Tryz.ntmps94
    go_wp2_with (first
     |(go_at_call 125;refine c1.mono ?_;rintro e _ ⟨rfl,rfl⟩)
     |(go_at_call 160;refine c2.mono ?_;rintro e w2 ⟨rfl,hb2⟩)
     |(go_at_call 124;refine(c3 _).mono ?_;rintro e w3 ⟨rfl,hb3⟩))
    go_ret;exact⟨rfl,HT.out _ (thn3 hb2 hb3)⟩
end
section
variable {w W:World}{L L':Nat->Nat}{r:Nat}{P:zad}
theorem zmj (i j rl:Nat)(V:SrvD)(y:InsD)(ps:List PinD)(k:Nat)(hk:k<P.ts.length)(hV:P.vs[i]?=some V)(hy:V.ins[j]?=some y)(hr:y.r=rl)(hps:V.rels[rl]?=some ps)(hl:ps.length<=2000000)(hn:numB (pinO ps k).r P.ss.length=false)(h:RunE w L r P) :
  Calls Tryz.prog 64 #[.pointer (some ⟨r,0,none⟩),.int .i64 i,.int .i64 j,.int .i64 k] w fun e W=>e=.returned (.tuple #[.slice none 0 0,.int .i64 15])/\Below w.heap.size w W:=by
 have hh:hasB P.vs (i:Int) (j:Int)=true:=by
  have hi:=(xe.1 hV).1;have hjl:=(xe.1 hy).1;rw[zd4,xh,xj,hV];show 0<=_/\_<_/\0<=_/\(j:Int)<(V.ins.length:Int);omega
 have c1:=zlb (i:Int) (j:Int) (k:Int) hh h;rw[show numB (k:Int) (P.ts.length:Int)=true by unfold numB;simp;omega]at c1;obtain⟨gt,tc,m,gv,vc,t,s,sv,tv,h⟩:=h;have c2:=zmb i j rl V y ps k hV hy hr hps hl h;rw[hn]at c2;clear h hV hy hps hh hn;generalize schO P.ss (pinO ps k).r=X at *
 go_enter Tryz.func64,Tryz.ntmps64
 go_wp2_with (first
  |(go_at_call 125;refine c1.mono ?_;rintro e _ ⟨rfl,rfl⟩)
  |(go_at_call 126;refine c2.mono ?_;rintro e w2 ⟨rfl,hb2⟩))
 go_ret2
 exact⟨rfl,hb2⟩
theorem zmk (i j rl:Nat)(V:SrvD)(y:InsD)(ps:List PinD)(k:Nat)(T:TopD)(RT:RecD->ByteArray)(hT:P.ts[k]?=some T)(hl12:T.recs.length<=12)(hV:P.vs[i]?=some V)(hy:V.ins[j]?=some y)(hr:y.r=rl)(hps:V.rels[rl]?=some ps)(hl:ps.length<=2000000)(hn:numB (pinO ps k).r P.ss.length=true)
  (hRd:∀ x∈T.recs,∀ W,Below w.heap.size w W->Calls Tryz.prog 66 #[.string x.sc,.string (schO P.ss (pinO ps k).r),.string x.da] W fun e W'=>(∃ er,e=.returned (.tuple #[.string (RT x),.int .i64 er]))/\Below W.heap.size W W') (h:RunE w L r P) :
  Calls Tryz.prog 64 #[.pointer (some ⟨r,0,none⟩),.int .i64 i,.int .i64 j,.int .i64 k] w fun e W=>∃ v,e=.returned (.tuple #[v,.int .i64 0])/\W.ownsRow w.heap.size 9 1 v T.recs.length (T.recs.map fun x=>.string (RT x))/\Below w.heap.size w W:=by
 obtain⟨iM,hiM,zM0,zM1,zM2⟩:=info_parts Tryz.infoStrL;have hh:hasB P.vs (i:Int) (j:Int)=true:=by
  have hi:=(xe.1 hV).1;have hjl:=(xe.1 hy).1;rw[zd4,xh,xj,hV];show 0<=_/\_<_/\0<=_/\(j:Int)<(V.ins.length:Int);omega
 have hk:=(xe.1 hT).1;have c1:=zlb (i:Int) (j:Int) (k:Int) hh h;rw[show numB (k:Int) (P.ts.length:Int)=true by unfold numB;simp;omega]at c1;obtain⟨gt,tc,m,gv,vc,t,s,sv,tv,h⟩:=h;have c2:=zmb i j rl V y ps k hV hy hr hps hl h;rw[hn]at c2;have c3:=fun (W:World) (hb:Below w.heap.size w W)=>ztr k T hT (h.keep hb);clear h hV hy hps hh hn hT;generalize schO P.ss (pinO ps k).r=X at *;obtain⟨R,hR⟩:∃ R,T.recs=R:=⟨_,rfl⟩;rw[hR]at hl12 hRd c3 ⊢;clear hR;have HRD:=zaa hRd;clear hRd;obtain⟨n,hnn⟩:∃ n,n=R.length:=⟨_,rfl⟩;rw[<- hnn]at hl12 c3 ⊢;have HN:=zaa hnn;clear hnn
 go_enter Tryz.func64,Tryz.ntmps64
 go_wp2_with (first
  |(go_at_call 125;refine c1.mono ?_;rintro e _ ⟨rfl,rfl⟩)
  |(go_at_call 126;refine c2.mono ?_;rintro e w2 ⟨rfl,hb2⟩;have O0:=zaa (World.ownsRow_made (base:=w2.heap.size) (e:=9) (size:=1) w2 #[] 0 (xq _) (by unfold maxLen;omega) rfl);have B3:=zaa (thn3 hb2 (bel1 w2 (.cells #[] 9))))
  |(go_at_call 127;refine(c3 _ B3.out).mono ?_;rintro e _ ⟨v,rfl,ho,rfl⟩;obtain⟨ad,rcap,rfl,hr1,hr2⟩:=ho.len;have HO:=zaa ho;clear ho))
 have hne:=zaa (zza HO.out.1 (show RowIs (w2.alloc (.cells #[] 9)) w2.heap.size 9 []from zal _ _) (by decide))
 go_loopw [12,42] (fun vt vi wr=>∃ q:Nat,q<=n/\vi=.int .i64 q/\wr.ownsRow w2.heap.size 9 1 vt q ((R.take q).map fun x=>.string (RT x))/\Below w2.heap.size (w2.alloc (.cells #[] 9)) wr) (fun _ q _=>n-(intOf q).toNat)
 case atStart=>exact⟨0,qf _,rfl,by simpa using O0.out,Below.refl _ _⟩
 case round =>
  obtain⟨q,hq,rfl,hown,hb⟩:=hrel
  rename World=>w5
  have hx0 := znn q;have HOWN:=zaa hown;have hb5:Below w2.heap.size w2 w5:=((Below.refl _ _).alloc (xq _) _).trans hb;have HB:=zaa (thn3 hb2 hb5);have HBB:=zaa hb;have zb:=hb5.size;by_cases hlt:q<n
  ·obtain⟨x,hx⟩:∃ x,R[q]?=some x:=⟨R[q]'(by rw[<- HN.out];exact hlt),xg _⟩;obtain⟨gr,cp,hsl,_,_,_,lgr,hcell,_⟩:=HO.out.some (by omega);obtain⟨rfl,rfl⟩:ad=some ⟨gr,0,none⟩/\rcap=cp:=by simpa using hsl
   have hg2:gr<w2.heap.size:=by
    have h1:gr≠w2.heap.size:=fun e=>hne.out (by rw[<- e];rfl);simp at lgr;omega
   have d0:=(hb.cell (p:=⟨gr,q*3,none⟩) hg2).trans (hcell (q*3+0) _ (za2 (f:=recF) (k:=3) (fun _=>rfl) hx (by omega)));have d1:=(hb.cell (p:=⟨gr,q*3+1,none⟩) hg2).trans (hcell (q*3+1) _ (za2 (f:=recF) (k:=3) (fun _=>rfl) hx (by omega)));have d2:=(hb.cell (p:=⟨gr,q*3+2,none⟩) hg2).trans (hcell (q*3+2) _ (za2 (f:=recF) (k:=3) (fun _=>rfl) hx (by omega)));have c4:=HRD.out x (xu hx);have HE:Hid ((R.take (q+1)).map (fun x=>Value.string (RT x))=(R.take q).map (fun x=>Value.string (RT x))++[.string (RT x)]):=by show _=_;rw[List.take_add_one,hx,List.map_append];rfl
   obtain⟨xc,xd,xt⟩:=x;have d0:w5.cell? ⟨gr,q*3,none⟩=some (.string xc):=d0;have d1:w5.cell? ⟨gr,q*3+1,none⟩=some (.string xd):=d1;have d2:w5.cell? ⟨gr,q*3+2,none⟩=some (.int .i64 xt):=d2;have hx1:(q:Int)<(n:Int):=by omega
   have nsz:gr≠w5.heap.size:=by omega
   have lg5:gr<w5.heap.size:=by omega
   clear hown hb hx hsl hcell c1 c2 c3 hb5 hk;generalize hRT:RT ⟨xc,xd,xt⟩=tx at *;simp only at c4
   go_wp2_with (first
    |(go_at_call 66;refine(c4 _ (thn3 HB.out (bel1 _ (.cells #[.string xc,.string xd,.int .i64 xt] 197)))).mono ?_;rintro e w6 ⟨⟨er,rfl⟩,hb6⟩;have HB6:=zaa hb6;have z6:w5.heap.size+1<=w6.heap.size:=(by have:=hb6.size;simpa using this);have HO6:=zaa (zas (HOWN.out.alloc (.cells #[.string xc,.string xd,.int .i64 xt] 197)) hb6);clear hb6)
    |(at_builtin;refine wpList_append_lies _ rfl _ _ _ rfl w2.heap.size 9 iM _ 1 16 Tryz.underlying22 hiM zM0 zM1 zM2 rfl (by omega) u12 q _ rfl (HO6.out.alloc _) ⟨w6.heap.size,0,none⟩ 1 1 [.string tx] rfl rfl (qg (heap_alloc_new w6 _)) (by simp[qm]) (by omega) (by unfold maxLen;omega) (by omega) (by simp;omega) (w6.heap.size+1) (by simp) ?_;intro g2 cap2 w8 hown2 hgrow2 hat2 hlt2))
   go_roundw
   case rel =>
    refine⟨q+1,by omega,by go_num,by rw[HE.out];exact hown2,?_⟩;have b1:=HBB.out.alloc zb (.cells #[.string xc,.string xd,.int .i64 xt] 197);have b2:=b1.trans (HB6.out.mono (by simp;omega));exact Below.grown (b2.alloc (by omega) _) hgrow2 (by simp;omega) (fun k hk=>(HOWN.out.lt k hk).1)
   case measure=>simp[intOf];omega
  ·obtain rfl:n=q:=by omega
   go_wp2_with fail
   go_ret2
   refine⟨_,rfl,?_,HB.out⟩;have:=HOWN.out.mono hb2.size;rw[HN.out,List.take_length,<- HN.out]at this;exact this
end
section
def tabC (T:List (List Bool)):List Value:=T.flatten.map Value.bool
def tabOk (T:List (List Bool)):Prop:=T.length=8/\∀ r∈T,r.length=8
theorem zki:∀ (l:List (List Bool)) (i j:Nat) (r:List Bool),(∀ r∈l,r.length=8)->l[i]?=some r->j<8->l.flatten[i*8+j]?=r[j]?
 |[],i,j,r,h,hi,hj=>by simp at hi
 |q::l,0,j,r,h,hi,hj=>by
  simp at hi;subst hi;rw[xv,xm (by rw[h q (by simp)];omega),show 0*8+j=j by omega]
 |q::l,i+1,j,r,h,hi,hj=>by
  rw[qe]at hi;have hq:=h q (by simp);rw[xv,xf (by rw[hq];omega),hq,show (i+1)*8+j-8=i*8+j by omega];exact zki l i j r (fun r hr=>h r (by simp[hr])) hi hj
def tabG (T:List (List Bool))(i j:Nat):Bool:=(T.getD i []).getD j false
def crB (T:List (List Bool))(x y:Int):Bool:=((x == -1)||(y == -1))||(numB x 8&&numB y 8&&tabG T x.toNat y.toNat)
theorem zm4 (T:List (List Bool))(hT:tabOk T)(x y:Int)(w:World):Calls Tryz.prog 232 #[.agg (tabC T).toArray,.int .i64 x,.int .i64 y] w fun e W=>e=.returned (.bool (crB T x y))/\Below w.heap.size w W:=by
 have hq:=zbl (zal w (.cells (tabC T).toArray 171));have n1:=fun w=>za5 x 8 w;have n2:=fun w=>za5 y 8 w;obtain⟨R,hR⟩:∃ R,R=crB T x y:=⟨_,rfl⟩;rw[<- hR];unfold crB at hR;have hB:=belS w (.cells (tabC T).toArray 171);by_cases hx:x=-1
 ·subst hx;have hR1:R=true:=by rw[hR];simp
  clear hR hq n1 n2;subst hR1
  go_enter Tryz.func232,Tryz.ntmps232
  go_wp2_with fail
  go_ret;exact⟨rfl,hB⟩
 by_cases hy:y=-1
 ·subst hy;have hx':(x == -1)=false:=by simp[hx]
  have hR1:R=true:=by rw[hR];simp
  clear hR hq n1 n2 hx;subst hR1
  go_enter Tryz.func232,Tryz.ntmps232
  go_wp2_with fail
  go_ret;exact⟨rfl,hB⟩
 have hx':(x == -1)=false:=by simp[hx]
 have hy':(y == -1)=false:=by simp[hy]
 rw[hx',hy']at hR;clear hx hy;by_cases h1:0<=x/\x<8
 ·have e1:numB x 8=true:=by unfold numB;simp;omega
  rw[e1]at n1 hR;by_cases h2:0<=y/\y<8
  ·have e2:numB y 8=true:=by unfold numB;simp;omega
   rw[e2]at n2 hR;obtain⟨i,rfl⟩:∃ n:Nat,x=n:=⟨x.toNat,by omega⟩;obtain⟨j,rfl⟩:∃ n:Nat,y=n:=⟨y.toNat,by omega⟩;rw[xh,xh]at hR;obtain⟨r,hr⟩:∃ r,T[i]?=some r:=⟨T[i]'(by rw[hT.1];omega),xg (by rw[hT.1];omega)⟩;have lr:=hT.2 r (xu hr);obtain⟨z,hz⟩:∃ z,r[j]?=some z:=⟨r[j]'(by omega),xg (by omega)⟩;have hc:=hq (i*8+j) (.bool z) (by rw[tabC,qd,zki _ _ _ _ hT.2 hr (by omega),hz];rfl);rw[qn]at hc;have hR1:R=z:=by rw[hR];simp[tabG,qq,hr,hz]
   have a1:(i:Int)<8:=h1.2;have a2:(j:Int)<8:=h2.2;have a3 := znn i;have a4 := znn j;clear hR hq hr hz h1 h2 e1 e2 hT lr;subst hR1
   go_enter Tryz.func232,Tryz.ntmps232
   go_wp2_with (first|(go_at_call 178;have hq:=m1;refine(n2 _).mono ?_;rintro e _ ⟨rfl,rfl⟩;have m2:True:=trivial)|(go_at_call 178;refine(n1 _).mono ?_;rintro e _ ⟨rfl,rfl⟩;have m1:True:=trivial))
   go_ret;exact⟨rfl,hB⟩
  ·have e2:numB y 8=false:=by unfold numB;simp;omega
   rw[e2]at n2 hR;have hR1:R=false:=by rw[hR];simp
   clear hR hq h1 h2 e1 e2;subst hR1
   go_enter Tryz.func232,Tryz.ntmps232
   go_wp2_with (first|(go_at_call 178;have hq:=m1;refine(n2 _).mono ?_;rintro e _ ⟨rfl,rfl⟩;have m2:True:=trivial)|(go_at_call 178;refine(n1 _).mono ?_;rintro e _ ⟨rfl,rfl⟩;have m1:True:=trivial))
   go_ret;exact⟨rfl,hB⟩
 ·have e1:numB x 8=false:=by unfold numB;simp;omega
  rw[e1]at n1 hR;have hR1:R=false:=by rw[hR];simp
  clear hR hq h1 e1;subst hR1
  go_enter Tryz.func232,Tryz.ntmps232
  go_wp2_with (go_at_call 178;refine(n1 _).mono ?_;rintro e _ ⟨rfl,rfl⟩)
  go_ret;exact⟨rfl,hB⟩
theorem Tryz.infoTab:(Tryz.prog.info? 171).map (·.size)=some 64:=by kernel_rfl
theorem zkj:∀ (l:List (List Bool)),(∀ r∈l,r.length=8)->l.flatten.length=l.length*8
 |[],_=>rfl
 |q::l,h=>by rw[xv,xz,h q (by simp),zkj l (fun r hr=>h r (by simp[hr])),qk];omega
theorem tabOk.len {T:List (List Bool)}(h:tabOk T):(tabC T).length=64:=by rw[tabC,List.length_map,zkj T h.2,h.1]
theorem tabOk.info {T:List (List Bool)}(h:tabOk T):(Tryz.prog.info? 171).map (·.size)=some (tabC T).length:=by rw[h.len];exact Tryz.infoTab
theorem zdi {P:Program}{ops:Array Oper}{rest:List Oper}{op:Oper}{a:Act}{w:World}{Q:Exit->Act->World->Prop}(hw:Region.wanted op (yielded ops a.tmps)=true)(ty:TypeId)(x:Operand)(ho:op.op=.load ty x)
  (b o:Nat) (hx:a.eval x=.pointer (some ⟨b,o,none⟩)) (cs:List Value) (d:TypeDesc) (hc:w.rangeAt b o cs)
  (hu:P.underlying ty=some d) (hd:d.isRow=true) (hi:(P.info? ty).map (·.size)=some cs.length)
  (h:wpList P ops Q rest (a.put op.dst (.agg cs.toArray)) w):wpList P ops Q (op::rest) a w :=
 Go.BigFrame.wpList_want hw fun K hK=>wp_load_mid ty x ho b o hx cs d hc hu hd hi (hK _ _ h)
def gaB (T:List (List Bool))(p q:PinD):Bool:=crB T p.w q.r&&crB T q.w p.r
theorem zxk (T:List (List Bool))(hT:tabOk T)(p q:PinD)(w:World):Calls Tryz.prog 180 #[.agg (tabC T).toArray,.agg #[.int .i64 p.t,.int .i64 p.w,.int .i64 p.r],.agg #[.int .i64 q.t,.int .i64 q.w,.int .i64 q.r]] w fun e W=>e=.returned (.bool (gaB T p q))/\Below w.heap.size w W:=by
 obtain⟨pt,pw,pr⟩:=p;obtain⟨qt,qw,qr⟩:=q;have c1:=fun w=>zm4 T hT pw qr w;have c2:=fun w=>zm4 T hT qw pr w;have hR:Hid (gaB T ⟨pt,pw,pr⟩ ⟨qt,qw,qr⟩=(crB T pw qr&&crB T qw pr)):=rfl;obtain⟨R,hRR⟩:∃ R,R=gaB T ⟨pt,pw,pr⟩ ⟨qt,qw,qr⟩:=⟨_,rfl⟩;rw[<- hRR]at hR ⊢;generalize crB T pw qr=x at c1 hR;generalize crB T qw pr=y at c2 hR;clear hRR;simp only;have it:=hT.info;have hBB:Below w.heap.size w (((w.alloc (.cells (tabC T).toArray 171)).alloc (.cells #[.int .i64 pt,.int .i64 pw,.int .i64 pr] 165)).alloc (.cells #[.int .i64 qt,.int .i64 qw,.int .i64 qr] 165)):=thn3 (thn3 (belS w _) (belS _ _)) (belS _ _);have rt:=zaf (belS _ (.cells #[.int .i64 qt,.int .i64 qw,.int .i64 qr] 165)) (zaf (belS _ (.cells #[.int .i64 pt,.int .i64 pw,.int .i64 pr] 165)) (zbl (zal w (.cells (tabC T).toArray 171))));have hz1:(w.alloc (.cells (tabC T).toArray 171)).heap.size=w.heap.size+1:=by simp
 have pb:=new3 (.cells #[.int .i64 qt,.int .i64 qw,.int .i64 qr] 165) (box3 (w.alloc (.cells (tabC T).toArray 171)) (.int .i64 pt) (.int .i64 pw) (.int .i64 pr) 165);rw[hz1]at pb;have qb:=box3 ((w.alloc (.cells (tabC T).toArray 171)).alloc (.cells #[.int .i64 pt,.int .i64 pw,.int .i64 pr] 165)) (.int .i64 qt) (.int .i64 qw) (.int .i64 qr) 165;rw[show ((w.alloc (.cells (tabC T).toArray 171)).alloc (.cells #[.int .i64 pt,.int .i64 pw,.int .i64 pr] 165)).heap.size=w.heap.size+1+1 by simp]at qb;clear hT hz1;cases x with
 |false =>
  have hR1:R=false:=hR.out;clear hR;subst hR1
  go_enter Tryz.func180,Tryz.ntmps180
  go_wp2_with (first
   |(refine wpList_load_mid (w:=((w.alloc (.cells (tabC T).toArray 171)).alloc (.cells #[.int .i64 pt,.int .i64 pw,.int .i64 pr] 165)).alloc (.cells #[.int .i64 qt,.int .i64 qw,.int .i64 qr] 165)) rfl 171 _ rfl w.heap.size 0 rfl (tabC T) _ rt Tryz.underlying171 rfl it ?_)
   |(go_at_call 232;refine(c1 _).mono ?_;rintro e w1 ⟨rfl,hb1⟩))
  go_ret;exact⟨rfl,thn3 hBB hb1⟩
 |true =>
  have hR1:R=y:=hR.out;clear hR;subst hR1
  go_enter Tryz.func180,Tryz.ntmps180
  go_wp2_with (first
   |(have hq:=hb1;(refine zdi (w:=w1) (by rfl) 171 _ rfl w.heap.size 0 rfl (tabC T) _ rt1 Tryz.underlying171 rfl it ?_))
   |(refine wpList_load_mid (w:=((w.alloc (.cells (tabC T).toArray 171)).alloc (.cells #[.int .i64 pt,.int .i64 pw,.int .i64 pr] 165)).alloc (.cells #[.int .i64 qt,.int .i64 qw,.int .i64 qr] 165)) rfl 171 _ rfl w.heap.size 0 rfl (tabC T) _ rt Tryz.underlying171 rfl it ?_)
   |(go_at_call 232;have hq:=hb1;refine(c2 _).mono ?_;rintro e w2 ⟨rfl,hb2⟩)
   |(go_at_call 232;refine(c1 _).mono ?_;rintro e w1 ⟨rfl,hb1⟩;have rt1:=zaf hb1 rt;have pb1:=zaq hb1 pb;have qb1:=zaq hb1 qb))
  go_ret;exact⟨rfl,thn3 (thn3 hBB hb1) hb2⟩
end
section
structure ChD where
 thr:List Bool
 fst:List Bool
 wnt:List Bool
 alg:List (List Bool)
 fev:List (List Bool)
def ChD.bits (c:ChD):List Bool:=c.thr++(c.fst++(c.wnt++(c.alg.flatten++c.fev.flatten)))
def ChD.cells (c:ChD):List Value:=c.bits.map Value.bool
structure ChD.ok (c:ChD):Prop where
 thr:c.thr.length=9
 fst:c.fst.length=9
 wnt:c.wnt.length=9
 alg:c.alg.length=9
 algr:∀ r∈c.alg,r.length=9
 fev:c.fev.length=9
 fevr:∀ r∈c.fev,r.length=9
theorem zh1:∀ (l:List (List Bool)) (i j:Nat) (r:List Bool),(∀ r∈l,r.length=9)->l[i]?=some r->j<9->l.flatten[i*9+j]?=r[j]?
 |[],i,j,r,h,hi,hj=>by simp at hi
 |q::l,0,j,r,h,hi,hj=>by
  simp at hi;subst hi;rw[xv,xm (by rw[h q (by simp)];omega),show 0*9+j=j by omega]
 |q::l,i+1,j,r,h,hi,hj=>by
  rw[qe]at hi;have hq:=h q (by simp);rw[xv,xf (by rw[hq];omega),hq,show (i+1)*9+j-9=i*9+j by omega];exact zh1 l i j r (fun r hr=>h r (by simp[hr])) hi hj
theorem zff:∀ (l:List (List Bool)),(∀ r∈l,r.length=9)->l.flatten.length=l.length*9
 |[],_=>rfl
 |q::l,h=>by rw[xv,xz,h q (by simp),zff l (fun r hr=>h r (by simp[hr])),qk];omega
theorem ChD.ok.get_thr {c:ChD}(h:c.ok){p:Nat}{b:Bool}(hp:c.thr[p]?=some b):c.bits[p]?=some b:=by
 have hl:=(xe.1 hp).1;rw[ChD.bits,xm hl];exact hp
theorem ChD.ok.get_fst {c:ChD}(h:c.ok){p:Nat}{b:Bool}(hp:c.fst[p]?=some b):c.bits[9+p]?=some b:=by
 have hl:=(xe.1 hp).1;rw[ChD.bits,xf (by rw[h.thr];omega),h.thr,show 9+p-9=p by omega,xm hl];exact hp
theorem ChD.ok.get_alg {c:ChD}(h:c.ok){p j:Nat}{r:List Bool}{b:Bool}(hp:c.alg[p]?=some r)(hj:r[j]?=some b):c.bits[27+p*9+j]?=some b:=by
 have hr:=h.algr r (xu hp);have hjl:=(xe.1 hj).1;have hpl:=(xe.1 hp).1;have hfl:=zff c.alg h.algr;have:=h.alg;rw[ChD.bits,xf (by rw[h.thr];omega),h.thr,xf (by rw[h.fst];omega),h.fst,xf (by rw[h.wnt];omega),h.wnt,show 27+p*9+j-9-9-9=p*9+j by omega,xm (by omega),zh1 _ _ _ _ h.algr hp (by omega)];exact hj
theorem ChD.ok.get_fev {c:ChD}(h:c.ok){p j:Nat}{r:List Bool}{b:Bool}(hp:c.fev[p]?=some r)(hj:r[j]?=some b):c.bits[108+p*9+j]?=some b:=by
 have hr:=h.fevr r (xu hp);have hjl:=(xe.1 hj).1;have hfl:=zff c.alg h.algr;have:=h.alg;rw[ChD.bits,xf (by rw[h.thr];omega),h.thr,xf (by rw[h.fst];omega),h.fst,xf (by rw[h.wnt];omega),h.wnt,xf (by omega),hfl,h.alg,show 108+p*9+j-9-9-9-9*9=p*9+j by omega,zh1 _ _ _ _ h.fevr hp (by omega)];exact hj
structure SiD where
 has:List Bool
 had:List Bool
def SiD.cells (s:SiD):List Value:=(s.has++s.had).map Value.bool
def SiD.ok (s:SiD):Prop:=s.has.length=9/\s.had.length=9
def mvB (c:ChD)(s:SiD)(p:Int):Bool:=numB p 9&&c.thr.getD p.toNat false&&!(s.has.getD p.toNat false)
theorem zo5 (c:ChD)(s:SiD)(p:Int)(hc:c.ok)(hs:s.ok)(w:World) :
  Calls Tryz.prog 112 #[.agg c.cells.toArray,.agg s.cells.toArray,.int .i64 p] w fun e W=>e=.returned (.bool (mvB c s p))/\Below w.heap.size w W:=by
 have hq1:=zaf (belS _ (.cells s.cells.toArray 177)) (zbl (zal w (.cells c.cells.toArray 114)));have hq2:=zbl (zal (w.alloc (.cells c.cells.toArray 114)) (.cells s.cells.toArray 177));rw[show (w.alloc (.cells c.cells.toArray 114)).heap.size=w.heap.size+1 by simp]at hq2;have hB:=(belS w (.cells c.cells.toArray 114)).alloc (by simp) (.cells s.cells.toArray 177);have hnum:=fun w=>za5 p 9 w;obtain⟨R,hR⟩:∃ R,R=mvB c s p:=⟨_,rfl⟩;rw[<- hR];unfold mvB at hR;by_cases hp:0<=p/\p<9
 ·have hnn:numB p 9=true:=by unfold numB;simp;omega
  rw[hnn]at hnum hR;obtain⟨n,rfl⟩:∃ n:Nat,p=n:=⟨p.toNat,by omega⟩;rw[xh]at hR;obtain⟨x,hx⟩:∃ x,c.thr[n]?=some x:=⟨c.thr[n]'(by rw[hc.thr];omega),xg (by rw[hc.thr];omega)⟩;obtain⟨y,hy⟩:∃ y,s.has[n]?=some y:=⟨s.has[n]'(by rw[hs.1];omega),xg (by rw[hs.1];omega)⟩;have k1:=hq1 n (.bool x) (by rw[ChD.cells,qd,hc.get_thr hx];rfl);have k2:=hq2 n (.bool y) (by rw[SiD.cells,qd,xm (by rw[hs.1];omega),hy];rfl);rw[qn]at k1 k2;have hR1:R=(x&&!y):=by rw[hR];simp[qq,hx,hy]
  have hn0 := znn n;have hn9:(n:Int)<9:=hp.2;clear hR hq1 hq2 hx hy hc hs hnn hp;subst hR1;cases x<;>cases y<;>(
   go_enter Tryz.func112,Tryz.ntmps112
   go_wp2_with (go_at_call 178;refine(hnum _).mono ?_;rintro e _ ⟨rfl,rfl⟩)
   go_ret;exact⟨rfl,hB⟩)
 ·have hnn:numB p 9=false:=by unfold numB;simp;omega
  rw[hnn]at hnum hR;have hR1:R=false:=hR;clear hR hq1 hq2 hp hnn;subst hR1
  go_enter Tryz.func112,Tryz.ntmps112
  go_wp2_with (go_at_call 178;refine(hnum _).mono ?_;rintro e _ ⟨rfl,rfl⟩)
  go_ret;exact⟨rfl,hB⟩
end
end Go.Proofs.YtkkekopomiehlabGreatDoor
