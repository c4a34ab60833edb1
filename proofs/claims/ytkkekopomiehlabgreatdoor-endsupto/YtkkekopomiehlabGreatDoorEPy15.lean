import Derived.Test.YtkkekopomiehlabGreatDoorEPy12
set_option linter.unusedVariables false
set_option linter.unusedSimpArgs false
set_option maxHeartbeats 40000000
set_option maxRecDepth 4000
open ByteArray renaming empty->xe
open Nat renaming le_refl->xf,zero_le->xp
open List renaming getElem?_eq_some_iff->xg,getElem?_eq_getElem->xh
open Go.Value renaming ownBlock->xj
open Bool renaming false_eq_true->xm
open Int renaming toNat_natCast->xo
open Go.World.ownsRow renaming stored->xq,lt->xu
open Go.RowKit
namespace Go.Proofs.YtkkekopomiehlabGreatDoor
section
variable {w W:World}{L L':Nat->Nat}{r:Nat}{P:zad}
theorem zje (h:RunE w L r P):Calls Tryz.prog 36 #[.pointer (some ⟨r,0,none⟩)] w fun e W=>e=.returned (.agg #[.int .i64 P.c.st,.int .i64 P.c.pos,.int .i64 P.ti,.int .i64 P.c.nu,.bool P.c.wk,.bool P.c.pa])/\Below w.heap.size w W:=by
 have c1:=fun (W:World) (hb:Below w.heap.size w W)=>zzu (h.keep hb);clear h;generalize P.c.st=st at *;generalize P.c.pos=pos at *;generalize P.ti=ti at *;generalize P.c.nu=nu at *;generalize P.c.wk=wk at *;generalize P.c.pa=pa at *
 go_enter Tryz.func36,Tryz.ntmps36
 go_wp2_with (first|(go_at_call 101;refine(c1 _ (bel1 _ _)).mono ?_;rintro e w1 ⟨rfl,hb1⟩;have Z1:=zaa ((show RowIs (w.alloc (.cells #[.int .i64 0,.int .i64 0,.int .i64 0,.int .i64 0,.bool false,.bool false] 87)) w.heap.size 87 [.int .i64 0,.int .i64 0,.int .i64 0,.int .i64 0,.bool false,.bool false]from zal _ _).keep hb1);have y0:=Z1.out.cell (j:=0) rfl;have y1:=Z1.out.cell (j:=1) rfl;have y2:=Z1.out.cell (j:=2) rfl;have y3:=Z1.out.cell (j:=3) rfl;have y4:=Z1.out.cell (j:=4) rfl;have y5:=Z1.out.cell (j:=5) rfl;have f0:=Z1.out.frozen 0;have f1:=Z1.out.frozen 1;have f2:=Z1.out.frozen 2;have f3:=Z1.out.frozen 3;have f4:=Z1.out.frozen 4;have f5:=Z1.out.frozen 5))
 have Z2:=(((((Z1.out.set 0 (.int .i64 st)).set 1 (.int .i64 pos)).set 2 (.int .i64 ti)).set 3 (.int .i64 nu)).set 4 (.bool wk)).set 5 (.bool pa);have o0:=Z2.cell (j:=0) rfl;have o1:=Z2.cell (j:=1) rfl;have o2:=Z2.cell (j:=2) rfl;have o3:=Z2.cell (j:=3) rfl;have o4:=Z2.cell (j:=4) rfl;have o5:=Z2.cell (j:=5) rfl;refine bodyPost_ret (v:=.agg #[.int .i64 st,.int .i64 pos,.int .i64 ti,.int .i64 nu,.bool wk,.bool pa]) (by simp[results,Tryz.results36,go_sem,o0,o1,o2,o3,o4,o5]) rfl ⟨rfl,?_⟩;exact((((((thn3 (bel1 w _) hb1).setCell (p:=⟨w.heap.size,0,none⟩) (xf _) _).setCell (p:=⟨w.heap.size,1,none⟩) (xf _) _).setCell (p:=⟨w.heap.size,2,none⟩) (xf _) _).setCell (p:=⟨w.heap.size,3,none⟩) (xf _) _).setCell (p:=⟨w.heap.size,4,none⟩) (xf _) _).setCell (p:=⟨w.heap.size,5,none⟩) (xf _) _
theorem zjb (a b:Int)(hh:hasB P.vs a b=true)(h:RunE w L r P):Calls Tryz.prog 102 #[.pointer (some ⟨r,0,none⟩),.int .i64 a,.int .i64 b] w fun e W=>e=.returned (.tuple #[.int .i64 (insG P.vs a b).r,.int .i64 0])/\w=W:=by
 obtain⟨gt,tc,m,gv,vc,t,s,sv,tv,h⟩:=h;have c1:=zqd a b hh h;clear h hh;generalize (insG P.vs a b).r=x at *
 go_enter Tryz.func102,Tryz.ntmps102
 go_wp2_with (first|(go_at_call 174;refine c1.mono ?_;rintro e _ ⟨rfl,rfl⟩))
 go_ret2
 exact⟨rfl,rfl⟩
theorem zgv (hl:P.ms.length<=40)(h:RunE w L r P):Calls Tryz.prog 53 #[.pointer (some ⟨r,0,none⟩)] w fun e W=>∃ v,e=.returned v/\W.ownsRow w.heap.size 100 5 v P.ms.length (P.ms.flatMap msgF)/\Below w.heap.size w W:=by
 obtain⟨gt,tc,m,gv,vc,t,s,sv,tv,h⟩:=h;have c1:=ztl hl h;clear h;generalize P.ms.flatMap msgF=xs at *;generalize P.ms.length=n at *
 go_enter Tryz.func53,Tryz.ntmps53
 go_wp2_with (first|(go_at_call 117;refine c1.mono ?_;rintro e w1 ⟨v,rfl,ho,hb⟩;have HO:=zaa ho;have HB:=zaa hb;clear ho hb))
 go_ret;exact⟨_,rfl,HO.out,HB.out⟩
def zma (P:zad):Prop:=P.ms.length<=40/\(∀ x∈P.ms,0<=x.i/\x.i<3/\hasB P.vs x.s x.i=true)/\(P.c.wk=true->zby P.c)/\0<=P.ti/\P.ti<=4000000000/\0<=P.c.rest/\P.c.rest<=4000000000
theorem zic {k:Int}{n:Nat}(h:numB k n=true):∃ i:Nat,k=i/\i<n:=by
 unfold numB at h;simp at h;exact⟨k.toNat,by omega,by omega⟩
theorem zl4 (k:Int)(hok:zma P)(h:RunE w L r P):Calls Tryz.prog 57 #[.pointer (some ⟨r,0,none⟩),.int .i64 k] w fun e W=>e=.returned (.int .i64 (if numB k P.ms.length then 0 else 11))/\Turn w L r W (delP P k):=by
 unfold delP;cases hk:numB k P.ms.length with
 |false =>
  simp only[xm,if_false];have HT:=zaa (fun (W:World) (hb:Below w.heap.size w W)=>Turn.of h hb);obtain⟨gt,tc,m,gv,vc,t,s,sv,tv,h⟩:=h;have c1:=zmh k hk h;clear h hk hok
  go_enter Tryz.func57,Tryz.ntmps57
  go_wp2_with (first|(go_at_call 119;refine c1.mono ?_;rintro e w1 ⟨rfl,hb1⟩))
  go_ret;exact⟨rfl,HT.out _ (thn3 hb1 (bel1 _ _))⟩
 |true =>
  simp only[if_true];obtain⟨i,rfl,hi⟩:=zic hk;obtain⟨x,hx⟩:∃ x,P.ms[i]?=some x:=⟨P.ms[i]'hi,xh _⟩;obtain⟨o1,o2,o3,o4⟩:=hok;obtain⟨q1,q2,q3⟩:=o2 x (List.mem_of_getElem? hx);rw[xo,List.getD_eq_getElem?_getD,hx];show Calls _ _ _ _ fun e W=>e=.returned (.int .i64 0)/\Turn w L r W (arrP { P with ms:=P.ms.eraseIdx i } x);obtain⟨gt,tc,m,gv,vc,t,s,sv,tv,h⟩:=h;have c1:=zmi i x o1 hx h;have c2:=fun (W:World) (L':Nat->Nat) (m':Value) (hM:RunM W L' r { P with ms:=P.ms.eraseIdx i } gt tc m' gv vc t s sv tv)=>(zs9 (P:={ P with ms:=P.ms.eraseIdx i }) x ⟨q1,q2⟩ q3 o3 o4 hM).mono fun e W' q=>(⟨q.1,by obtain⟨m2,L2,k1,k2,k3⟩:=q.2;exact⟨L2,⟨_,_,_,_,_,_,_,_,_,k1⟩,k2,k3⟩⟩:e=Ending.returned (.tuple #[])/\Turn W L' r W' (arrP { P with ms:=P.ms.eraseIdx i } x));clear h hk hx o2 o3 o4 q3 q1 q2 hi o1;generalize arrP { P with ms:=P.ms.eraseIdx i } x=Q at *;generalize ({ P with ms:=P.ms.eraseIdx i }:zad)=P1 at *;obtain⟨xk,xn,xs,xi,xr⟩:=x;simp only at c1 c2
  go_enter Tryz.func57,Tryz.ntmps57
  go_wp2_with (first|(go_at_call 119;refine c1.mono ?_;rintro e w1 ⟨rfl,m1,L1,hM1,hL1,hC1⟩;have HM2:=zaa (hM1.keep (bel1 w1 (.cells #[.int .i64 xk,.int .i64 xn,.int .i64 xs,.int .i64 xi,.int .i64 xr] 100)))))
  go_region_with (go_at_call 120;refine(c2 _ _ _ HM2.out.drew).mono ?_;rintro e w3 ⟨rfl,ht3⟩)
  all_goals
   go_wp2_with fail
   go_ret;exact⟨rfl,Turn.trans hL1 ((hC1.mono fun b hb=>by omega).trans (Chg.of (bel1 _ _))) ht3.undrew⟩
theorem ztg (k:Int)(hl:P.ms.length<=40)(h:RunE w L r P):Calls Tryz.prog 58 #[.pointer (some ⟨r,0,none⟩),.int .i64 k] w fun e W=>(∃ n,e=.returned (.int .i64 n))/\Turn w L r W (drpP P k):=by
 unfold drpP;cases hk:numB k P.ms.length with
 |false =>
  simp only[xm,if_false];have HT:=zaa (fun (W:World) (hb:Below w.heap.size w W)=>Turn.of h hb);obtain⟨gt,tc,m,gv,vc,t,s,sv,tv,h⟩:=h;have c1:=zmh k hk h;clear h hk
  go_enter Tryz.func58,Tryz.ntmps58
  go_wp2_with (first|(go_at_call 119;refine c1.mono ?_;rintro e w1 ⟨rfl,hb1⟩))
  go_ret;exact⟨⟨_,rfl⟩,HT.out _ (by first|exact hb1|exact thn3 hb1 (bel1 _ _))⟩
 |true =>
  simp only[if_true];obtain⟨i,rfl,hi⟩:=zic hk;obtain⟨x,hx⟩:∃ x,P.ms[i]?=some x:=⟨P.ms[i]'hi,xh _⟩;rw[xo];obtain⟨gt,tc,m,gv,vc,t,s,sv,tv,h⟩:=h;have c1:=(zmi i x hl hx h).mono fun e W q=>(⟨q.1,by obtain⟨m2,L2,k1,k2,k3⟩:=q.2;exact⟨L2,⟨_,_,_,_,_,_,_,_,_,k1⟩,k2,k3.mono fun b hb=>by omega⟩⟩:e=Ending.returned (.tuple #[.agg #[.int .i64 x.k,.int .i64 x.n,.int .i64 x.s,.int .i64 x.i,.int .i64 x.r],.bool true])/\Turn w L r W { P with ms:=P.ms.eraseIdx i });clear h hk hx;generalize ({ P with ms:=P.ms.eraseIdx i }:zad)=Q at *
  go_enter Tryz.func58,Tryz.ntmps58
  go_wp2_with (first|(go_at_call 119;refine c1.mono ?_;rintro e w1 ⟨rfl,ht1⟩;have HT:=zaa ht1;clear ht1))
  go_ret;exact⟨⟨_,rfl⟩,(by first|exact HT.out|exact HT.out.below (bel1 _ _))⟩
end
section
variable {w W:World}{L L':Nat->Nat}{r:Nat}{P:zad}{gt tc:Nat}{m:Value}{gv vc:Nat}{t s:Value}{sv:List (Value×Value)}{tv:List (Int×Value)}
theorem ztx (hok:zhh P)(h:RunM w L r P gt tc m gv vc t s sv tv):Calls Tryz.prog 118 #[.pointer (some ⟨r,0,none⟩)] w fun e W=>e=.returned (.tuple #[])/\∃ m' L' tv',RunM W L' r (tckP P) gt tc m' gv vc t s sv tv'/\Lab w L L'/\Chg (fun b=>L b≠0) w W:=by
 obtain⟨ad,cap,ht,hc1,hc2⟩:=h.top.len;have k0:w.cell? ⟨r,0,none⟩=some (.int .i64 P.ti):=h.row.cell rfl;have x0:=h.row.frozen 0;have k15:w.cell? ⟨r,15,none⟩=some (.slice ad P.ts.length cap):=by rw[<- ht];exact h.row.cell rfl
 obtain⟨b0,b1⟩:=hok.ti;have t4:=hok.ts4;obtain⟨h1,hc⟩:=h.time (P.ti+1);have H1:=zaa h1;have HC1:=zaa hc;have HT:=zaa ht;have HOK:=zaa hok;clear h h1 hc hok ht;obtain⟨n,hn⟩:∃ n,n=P.ts.length:=⟨_,rfl⟩;rw[<- hn]at k15 hc1 HT t4;have HN:=zaa hn;clear hn;obtain⟨ti,hti⟩:∃ ti,ti=P.ti:=⟨_,rfl⟩;rw[<- hti]at k0 b0 b1;have HTI:=zaa hti;rw[<- hti]at H1 HC1;obtain⟨B,hB⟩:∃ B,B=actB P.c (ti+1):=⟨_,rfl⟩;obtain⟨M,hM⟩:∃ M,M=actM P.c (ti+1):=⟨_,rfl⟩;obtain⟨C,hC⟩:∃ C,C=actC P.c (ti+1):=⟨_,rfl⟩;obtain⟨TS,hTS⟩:∃ TS,TS=P.ts.map (fgtT (ti+1)):=⟨_,rfl⟩;have hP:tckP P={ P with ti:=ti+1,ts:=TS,c:=C,ms:=(if B then za8 P.ms M else P.ms) }:=by rw[hB,hM,hC,hTS,hti];rfl
 rw[hP];obtain⟨X,hX⟩:∃ X:World->Prop,X=fun W=>∃ m' L' tv',RunM W L' r { P with ti:=ti+1,ts:=TS,c:=C,ms:=(if B then za8 P.ms M else P.ms) } gt tc m' gv vc t s sv tv'/\Lab w L L'/\Chg (fun b=>L b≠0) w W:=⟨_,rfl⟩;show Calls _ _ _ _ fun e W=>e=.returned (.tuple #[])/\(fun W=>∃ m' L' tv',RunM W L' r { P with ti:=ti+1,ts:=TS,c:=C,ms:=(if B then za8 P.ms M else P.ms) } gt tc m' gv vc t s sv tv'/\Lab w L L'/\Chg (fun b=>L b≠0) w W) W;rw[<- hX];have HX:Hid (∀ W m' L' tv',RunM W L' r { P with ti:=ti+1,ts:=TS,c:=C,ms:=(if B then za8 P.ms M else P.ms) } gt tc m' gv vc t s sv tv'->Lab w L L'->Chg (fun b=>L b≠0) w W->X W):=by
  show ∀ _,_;rw[hX];exact fun W m' L' tv' h1 h2 h3=>⟨m',L',tv',h1,h2,h3⟩
 clear hX;have HEB:=zaa hB;have HEM:=zaa hM;have HEC:=zaa hC;have HETS:=zaa hTS;clear hti hP hB hM hC hTS
 go_enter Tryz.func118,Tryz.ntmps118
 go_wp2_with fail
 go_loopw [17] (fun vi wr=>∃ (j:Nat) (L':Nat->Nat) (tv':List (Int×Value)),j<=n/\vi=.int .i64 j/\RunM wr L' r { P with ti:=ti+1,ts:=fgtU (ti+1) P.ts j } gt tc m gv vc t s sv tv'/\Lab w L L'/\Chg (fun b=>L b≠0) w wr) (fun i _=>n-(intOf i).toNat)
 case atStart=>exact⟨0,L,tv,xp _,rfl,by rw[zw1];exact H1.out,Lab.refl _ _,HC1.out⟩
 case round =>
  obtain⟨j,L',tv',hj,rfl,hM,hL,hC⟩:=hrel
  rename World=>w5
  have HM:=zaa hM;have HL:=zaa hL;have HC:=zaa hC;have hx0 := znn j;have e0:w5.cell? ⟨r,0,none⟩=some (.int .i64 (ti+1)):=hM.row.cell rfl;have e15:w5.cell? ⟨r,15,none⟩=some t:=hM.row.cell rfl;have lr:=hM.row.lt;by_cases hlt:j<n
  ·obtain⟨T,hT⟩:∃ T,P.ts[j]?=some T:=⟨P.ts[j]'(by rw[<- HN.out];exact hlt),xh _⟩;have hT':=zwy (ti:=ti+1) hT;obtain⟨g,cp,v0,e,hc3,hg,lg,_⟩:=hM.topi (P:={ P with ti:=ti+1,ts:=fgtU (ti+1) P.ts j }) hT';have hlen:(fgtU (ti+1) P.ts j).length=n:=by rw[zwz (by rw[<- HN.out];exact hj),HN.out]
   have e':t=.slice (some ⟨g,0,none⟩) (fgtU (ti+1) P.ts j).length cp:=e;have hfg:∀ W,RunM W L' r { P with ti:=ti+1,ts:=fgtU (ti+1) P.ts j } gt tc m gv vc t s sv tv'->Calls Tryz.prog 182 #[.pointer (some ⟨g,j*2,none⟩),.int .i64 (ti+1)] W fun e W'=>e=.returned (.tuple #[])/\∃ L2 tv2,RunM W' L2 r { P with ti:=ti+1,ts:=fgtU (ti+1) P.ts (j+1) } gt tc m gv vc t s sv tv2/\Lab W L' L2/\Chg (fun b=>L' b=5\/L' b=11+2*j) W W':=fun W hW=>by
    rw[zw0 hT];obtain⟨r12,rti⟩:=HOK.out.rcs j T hT;by_cases hk:0<T.keep
    ·exact(zxg (P:={ P with ti:=ti+1,ts:=fgtU (ti+1) P.ts j }) (ti+1) hT' hk e' (by omega) r12 rti hW).mono fun e W' ⟨q1,v,L2,q2,q3,q4⟩=>⟨q1,L2,_,q2,q3,q4⟩
    ·have ef:fgtT (ti+1) T=T:=by unfold fgtT;rw[if_pos (by omega)]
     rw[ef];have es:(fgtU (ti+1) P.ts j).set j T=fgtU (ti+1) P.ts j:=by
      refine List.ext_getElem? fun q=>?_;rw[List.getElem?_set];split
      ·rename_i eq;subst eq;rw[hT'];split
       ·rfl
       ·rename_i hh;exact absurd (xg.1 hT').1 hh
      ·rfl
     rw[es];exact(zxh (P:={ P with ti:=ti+1,ts:=fgtU (ti+1) P.ts j }) (ti+1) hT' (by omega) e' hW).mono fun e W' ⟨q1,q2⟩=>⟨q1,L',tv',by rw[q2];exact hW,Lab.refl _ _,by rw[q2];exact Chg.refl _ _⟩
   rw[e']at e15;rw[hlen]at e15;have hx1:(j:Int)<(n:Int):=by omega
   have hj2:n<=cp:=by have:(fgtU (ti+1) P.ts j).length<=cp:=hc3;omega
   have esl:Hid (ad=some ⟨g,0,none⟩/\cap=cp):=by
    have:=HT.out;rw[e',hlen]at this;show _/\_;simpa[eq_comm]using this
   clear hM hL hC hT hT' e hc3 hlen e'
   go_wp2_with fail
   go_region_with (go_at_call 182;refine(hfg _ HM.out.drew).mono ?_;rintro e w6 ⟨rfl,L2,tv2,hM2,hL2,hC2⟩)
   all_goals
    go_wp2_with fail
    go_roundw
    case rel =>
     refine⟨j+1,L2,tv2,by omega,by go_num,hM2,HL.out.trans HC.out.size hL2,HC.out.drew.step HL.out hC2 fun b hb=>by omega⟩
    case measure=>simp[intOf];omega
  ·obtain rfl:n=j:=by omega
   have hts:fgtU (ti+1) P.ts n=P.ts.map (fgtT (ti+1)):=by rw[HN.out];exact zwx _ _
   rw[hts]at HM;have hgr:r≠gt:=fun e=>by have h1:=hM.lr;have h2:=hM.sta.lt;rw[e]at h1;omega
   rw[<- HETS.out]at HM;have hA:∀ W,RunM W L' r { P with ti:=ti+1,ts:=TS } gt tc m gv vc t s sv tv'->Calls Tryz.prog 183 #[.pointer (some ⟨r,1,none⟩),.int .i64 (ti+1)] W fun e W'=>e=.returned (.tuple #[.agg #[.int .i64 M.k,.int .i64 M.n,.int .i64 M.s,.int .i64 M.i,.int .i64 M.r],.bool B])/\RunM W' L' r { P with ti:=ti+1,ts:=TS,c:=C } gt tc m gv vc t s sv tv'/\Chg (·= r) W W':=fun W hW=>by
    rw[HEB.out,HEM.out,HEC.out];exact(zt3 (ti+1) HOK.out.cur HOK.out.nu hgr hW.sta.tsk hW.row).mono fun e W' q=>⟨q.1,hW.ctl (zmm _ _) q.2.2 q.2.1,q.2.2⟩
   have hS:∀ W,RunM W L' r { P with ti:=ti+1,ts:=TS,c:=C } gt tc m gv vc t s sv tv'->_:=fun W hW=>zmc (P:={ P with ti:=ti+1,ts:=TS,c:=C }) M hW;have hlr:=hM.lr;have hfr:=hM.fr;clear hM hL hC hts e15 HEB HEM HEC HETS;obtain⟨mk,mn,ms',mi,mr⟩:=M;simp only at hA hS;have n2:¬ w5.heap.size=r:=by omega
   cases B with
   |false =>
    go_wp2_with fail
    go_region_with (go_at_call 183;first|(refine(hA _ HM.out.drew).mono ?_;rintro e w6 ⟨rfl,hM6,hC6⟩;have hC7:=(Chg.refl (·= r) w5).drew.trans hC6)|(refine(hA _ (HM.out.keep (bel1 w5 (.cells #[.int .i64 0,.int .i64 0,.int .i64 0,.int .i64 0,.int .i64 0] 100))).drew).mono ?_;rintro e w6 ⟨rfl,hM6,hC6⟩;have hC7:=((Chg.of (S:=(·= r)) (bel1 w5 (.cells #[.int .i64 0,.int .i64 0,.int .i64 0,.int .i64 0,.int .i64 0] 100))).drew).trans hC6;have Z6:=zaa (hC6.row ((box5 w5).drew) n2);have y0:=Z6.out.cell (j:=0) rfl;have y1:=Z6.out.cell (j:=1) rfl;have y2:=Z6.out.cell (j:=2) rfl;have y3:=Z6.out.cell (j:=3) rfl;have y4:=Z6.out.cell (j:=4) rfl;have f0:=Z6.out.frozen 0;have f1:=Z6.out.frozen 1;have f2:=Z6.out.frozen 2;have f3:=Z6.out.frozen 3;have f4:=Z6.out.frozen 4;have hX:=zaa ((Chg.refl (·= w5.heap.size) w6).set5 (z:=w5.heap.size) (.inl rfl) (.int .i64 mk) (.int .i64 mn) (.int .i64 ms') (.int .i64 mi) (.int .i64 mr));have HM7:=zaa (hM6.out hX.out (fun b hb=>by rw[hb];exact hfr _ (xf _)))))
    all_goals
     go_wp2_with fail
     refine bodyPost_end (v:=.tuple #[]) (results_none rfl _ _ _) rfl ?_;have hC8:=HC.out.step HL.out hC7 fun b hb=>by rw[hb,hlr];omega
     first
      |exact⟨rfl,HX.out _ m L' tv' HM7.out HL.out (hC8.set5 (.inr HC.out.size) _ _ _ _ _)⟩
      |exact⟨rfl,HX.out _ m L' tv' (hM6.keep (bel1 _ _)) HL.out (hC8.trans (Chg.of (bel1 _ _)))⟩
   |true =>
    go_wp2_with fail
    go_region_with (go_at_call 183;first|(refine(hA _ HM.out.drew).mono ?_;rintro e w6 ⟨rfl,hM6,hC6⟩;have hC7:=(Chg.refl (·= r) w5).drew.trans hC6)|(refine(hA _ (HM.out.keep (bel1 w5 (.cells #[.int .i64 0,.int .i64 0,.int .i64 0,.int .i64 0,.int .i64 0] 100))).drew).mono ?_;rintro e w6 ⟨rfl,hM6,hC6⟩;have hC7:=((Chg.of (S:=(·= r)) (bel1 w5 (.cells #[.int .i64 0,.int .i64 0,.int .i64 0,.int .i64 0,.int .i64 0] 100))).drew).trans hC6;have Z6:=zaa (hC6.row ((box5 w5).drew) n2);have y0:=Z6.out.cell (j:=0) rfl;have y1:=Z6.out.cell (j:=1) rfl;have y2:=Z6.out.cell (j:=2) rfl;have y3:=Z6.out.cell (j:=3) rfl;have y4:=Z6.out.cell (j:=4) rfl;have f0:=Z6.out.frozen 0;have f1:=Z6.out.frozen 1;have f2:=Z6.out.frozen 2;have f3:=Z6.out.frozen 3;have f4:=Z6.out.frozen 4;have hX:=zaa ((Chg.refl (·= w5.heap.size) w6).set5 (z:=w5.heap.size) (.inl rfl) (.int .i64 mk) (.int .i64 mn) (.int .i64 ms') (.int .i64 mi) (.int .i64 mr));have HM7:=zaa (hM6.out hX.out (fun b hb=>by rw[hb];exact hfr _ (xf _)))))
    all_goals
     have hC8:=HC.out.step HL.out hC7 fun b hb=>by rw[hb,hlr];omega
     go_wp2_with (first|(go_at_call 122;first|(refine(hS _ HM7.out).mono ?_;rintro e w7 ⟨rfl,m',L2,hM7,hL7,hC7⟩)|(refine(hS _ (hM6.keep (bel1 _ _))).mono ?_;rintro e w7 ⟨rfl,m',L2,hM7,hL7,hC7⟩)))
     refine bodyPost_end (v:=.tuple #[]) (results_none rfl _ _ _) rfl ?_;have z1:=hC8.size
     first
      |exact⟨rfl,HX.out _ m' L2 tv' hM7 (HL.out.trans (hC8.set5 (z:=w5.heap.size) (.inr HC.out.size) (.int .i64 mk) (.int .i64 mn) (.int .i64 ms') (.int .i64 mi) (.int .i64 mr)).size hL7) ((hC8.set5 (.inr HC.out.size) _ _ _ _ _).step HL.out hC7 fun b hb=>by omega)⟩
      |exact⟨rfl,HX.out _ m' L2 tv' hM7 (HL.out.trans (hC8.trans (Chg.of (bel1 _ _))).size hL7) ((hC8.trans (Chg.of (bel1 _ _))).step HL.out hC7 fun b hb=>by omega)⟩
end
section
variable {w W:World}{L L':Nat->Nat}{r:Nat}{P:zad}{gt tc:Nat}{m:Value}{gv vc:Nat}{t s:Value}{sv:List (Value×Value)}{tv:List (Int×Value)}
theorem ztz (k:Nat)(T:TopD)(sc da:ByteArray)(hT:P.ts[k]?=some T)(hl:12<=T.recs.length)(h:RunM w L r P gt tc m gv vc t s sv tv):Calls Tryz.prog 161 #[.pointer (some ⟨r,0,none⟩),.int .i64 k,.string sc,.string da] w fun e W=>e=.returned (.bool false)/\w=W:=by
 obtain⟨g,cap,v0,rfl,hc1,hg,lg,hq,c0,c1,x1,ho⟩:=h.topi hT;have hk:=(xg.1 hT).1;obtain⟨ad,rcap,hv,hr1,hr2⟩:=ho.len;subst hv;have k15:w.cell? ⟨r,15,none⟩=some (.slice (some ⟨g,0,none⟩) P.ts.length cap):=h.row.cell rfl;have n1:=zhc (k:Int) h;rw[show numB (k:Int) (P.ts.length:Int)=true by unfold numB;simp;omega]at n1;have hx0:(0:Int)<=(k:Int):=by omega
 have hx1:(k:Int)<(P.ts.length:Int):=by omega
 clear h hT hq ho hk;generalize P.ts.length=n at *;generalize T.recs.length=nr at *
 go_enter Tryz.func161,Tryz.ntmps161
 go_wp2_with (first|(go_at_call 189;refine n1.mono ?_;rintro e _ ⟨rfl,rfl⟩))
 go_ret;exact⟨rfl,rfl⟩
theorem yae5 {k:Nat}{T:TopD}{x:RecD}{W w6:World}{g cap g1 cap1 z:Nat}{v:Value}(h:RunM w L r P gt tc m gv vc t s sv tv)(hT:P.ts[k]?=some T)(ht:t=.slice (some ⟨g,0,none⟩) P.ts.length cap)(hv:tv[k]?=some (T.keep,v))(hb:Below w.heap.size w W)(hown:w6.ownsRow 0 197 3 (.slice (some ⟨g1,0,none⟩) (T.recs.length+1) cap1) (T.recs.length+1) (T.recs.flatMap recF++recF x))(hgrow:W.grownBy w6 v.ownBlock)(hat:v.ownBlock=some g1\/g1=z)(hz:w.heap.size<=z) :
  ∃ v' L',RunM (w6.setCell ⟨g,k*2+1,none⟩ (.slice (some ⟨g1,0,none⟩) (T.recs.length+1) cap1)) L' r { P with ts:=P.ts.set k { T with recs:=T.recs++[x] } } gt tc m gv vc t s sv (tv.set k (T.keep,v'))/\Lab w L L'/\Chg (fun b=>L b=5\/L b=11+2*k) w (w6.setCell ⟨g,k*2+1,none⟩ (.slice (some ⟨g1,0,none⟩) (T.recs.length+1) cap1)):=by
 obtain⟨g',cap',v0,e,hc1,hg,lg,hq,_,_,_,ho⟩:=h.topi hT;obtain⟨rfl,rfl⟩:g=g'/\cap=cap':=by rw[e]at ht;simpa[eq_comm]using ht
 obtain rfl:v=v0:=by rw[hq]at hv;simpa using hv.symm
 have hne:v.ownBlock≠some g:=fun e=>by have:=ho.2 g e;omega
 have hgg:g1≠g:=fun e=>by
  subst e;rcases hat with q|q
  ·exact hne q
  ·omega
 have hL:Lab w L (fun b=>if b=g1 then 11+2*k else L b):=fun b hb=>by
  show (if b=g1 then 11+2*k else L b)=L b;split
  ·rename_i e;subst e;rcases hat with q|q
   ·exact(ho.2 _ q).symm
   ·omega
  ·rfl
 have hc:Chg (fun b=>L b=5\/L b=11+2*k) w (w6.setCell ⟨g,k*2+1,none⟩ (.slice (some ⟨g1,0,none⟩) (T.recs.length+1) cap1)) :=
  ((Chg.of (S:=fun b=>L b=5\/L b=11+2*k) hb).grown hgrow (fun j hj=>.inl (.inr (ho.2 j hj)))).set (p:=⟨g,k*2+1,none⟩) (.inl (.inl hg)) _
 have hlt:=xu hown g1 rfl;refine⟨.slice (some ⟨g1,0,none⟩) (T.recs.length+1) cap1,fun b=>if b=g1 then 11+2*k else L b,h.tops (T':={ T with recs:=T.recs++[x] }) hT rfl hc hL (fun b hb'=>?_) ⟨?_,fun b hb=>?_⟩ ⟨?_,fun b hb=>?_⟩,hL,hc⟩
 ·have hz1:w6.heap.size<=b:=by simpa[World.setCell]using hb'
  have hz2:=hgrow.size;have hz3:=hb.size;show (if b=g1 then 11+2*k else L b)=0;rw[if_neg (by omega)];exact h.fr b (by omega)
 ·have hob:∀ b,(Value.slice (some ⟨g1,0,none⟩) (T.recs.length+1) cap1).ownBlock=some b->¬ b=g:=fun b hb e=>by
   have:g1=b:=by simpa[xj]using hb
   omega
  have:=((Chg.refl (·= g) w6).set (p:=⟨g,k*2+1,none⟩) (.inl rfl) (.slice (some ⟨g1,0,none⟩) (T.recs.length+1) cap1)).own hown hob;have e:(T.recs++[x]).flatMap recF=T.recs.flatMap recF++recF x:=by simp
  show World.ownsRow _ 0 _ 3 _ (T.recs++[x]).length ((T.recs++[x]).flatMap recF);rw[e,List.length_append];exact this
 ·have:g1=b:=by simpa[xj]using hb
  subst this;show (if g1=g1 then 11+2*k else L g1)=11+2*k;rw[if_pos rfl]
 ·have h5:=(zas h.top.1 hb).kept hgrow (.inr (by rw[ht];simp[xj];exact fun e=>hne e.symm));rw[ht]at h5 ⊢;have h6:=(xq h5 (k*2+1) (.slice (some ⟨g1,0,none⟩) (T.recs.length+1) cap1)).1;rw[zeh (f:=topF) (k:=2) (fun _=>rfl) hq (j:=1) (u:=.slice (some ⟨g1,0,none⟩) (T.recs.length+1) cap1) (y:=(T.keep,.slice (some ⟨g1,0,none⟩) (T.recs.length+1) cap1)) (by omega) rfl]at h6;exact h6
 ·rw[ht]at hb;have:g=b:=by simpa[xj]using hb
  subst this;exact(hL g lg).trans hg
theorem zt0 (k:Nat)(T:TopD)(sc da:ByteArray)(hT:P.ts[k]?=some T)(hl:T.recs.length<12)(h:RunM w L r P gt tc m gv vc t s sv tv):Calls Tryz.prog 161 #[.pointer (some ⟨r,0,none⟩),.int .i64 k,.string sc,.string da] w fun e W=>e=.returned (.bool true)/\∃ v' L',RunM W L' r { P with ts:=P.ts.set k { T with recs:=T.recs++[⟨sc,da,P.ti⟩] } } gt tc m gv vc t s sv (tv.set k (T.keep,v'))/\Lab w L L'/\Chg (fun b=>L b=5\/L b=11+2*k) w W:=by
 obtain⟨iM,hiM,zM0,zM1,zM2⟩:=info_parts Tryz.infoRecK;obtain⟨g,cap,v0,rfl,hc1,hg,lg,hq,c0,c1,x1,ho⟩:=h.topi hT;have hk:=(xg.1 hT).1;obtain⟨ad,rcap,hv,hr1,hr2⟩:=ho.len;subst hv;have k15:w.cell? ⟨r,15,none⟩=some (.slice (some ⟨g,0,none⟩) P.ts.length cap):=h.row.cell rfl;have k0:w.cell? ⟨r,0,none⟩=some (.int .i64 P.ti):=h.row.cell rfl;have n1:=zhc (k:Int) h;rw[show numB (k:Int) (P.ts.length:Int)=true by unfold numB;simp;omega]at n1;have hx0:(0:Int)<=(k:Int):=by omega
 have hx1:(k:Int)<(P.ts.length:Int):=by omega
 have HO:=zaa ho.1;have lr:=h.row.lt;have hne:(Value.slice ad T.recs.length rcap).ownBlock≠some g:=fun e=>by have:=ho.2 g e;omega
 have hne2:(Value.slice ad T.recs.length rcap).ownBlock≠some r:=fun e=>by have:=ho.2 r e;rw[h.lr]at this;omega
 have HD:=zaa (fun (w6:World) (g1 cap1:Nat) (h1:w6.ownsRow 0 197 3 (.slice (some ⟨g1,0,none⟩) (T.recs.length+1) cap1) (T.recs.length+1) (T.recs.flatMap recF++[.string sc,.string da,.int .i64 P.ti])) (h2:((w.alloc (.cells #[.string sc,.string da,.int .i64 P.ti] 197)).drew).grownBy w6 (Value.slice ad T.recs.length rcap).ownBlock) (h3:(Value.slice ad T.recs.length rcap).ownBlock=some g1\/g1=w.heap.size+1)=>yae5 (x:=⟨sc,da,P.ti⟩) h hT rfl hq (bel1 w (.cells #[.string sc,.string da,.int .i64 P.ti] 197)).drew h1 h2 h3 (by omega));clear h hT hq ho hk;obtain⟨X,hX⟩:∃ X:World->Prop,X=fun W=>∃ v' L',RunM W L' r { P with ts:=P.ts.set k { T with recs:=T.recs++[⟨sc,da,P.ti⟩] } } gt tc m gv vc (.slice (some ⟨g,0,none⟩) P.ts.length cap) s sv (tv.set k (T.keep,v'))/\Lab w L L'/\Chg (fun b=>L b=5\/L b=11+2*k) w W:=⟨_,rfl⟩;show Calls _ _ _ _ fun e W=>e=.returned (.bool true)/\(fun W=>∃ v' L',RunM W L' r { P with ts:=P.ts.set k { T with recs:=T.recs++[⟨sc,da,P.ti⟩] } } gt tc m gv vc (.slice (some ⟨g,0,none⟩) P.ts.length cap) s sv (tv.set k (T.keep,v'))/\Lab w L L'/\Chg (fun b=>L b=5\/L b=11+2*k) w W) W;rw[<- hX];have HD2:Hid (∀ (w6:World) (g1 cap1:Nat),w6.ownsRow 0 197 3 (.slice (some ⟨g1,0,none⟩) (T.recs.length+1) cap1) (T.recs.length+1) (T.recs.flatMap recF++[.string sc,.string da,.int .i64 P.ti])->((w.alloc (.cells #[.string sc,.string da,.int .i64 P.ti] 197)).drew).grownBy w6 (Value.slice ad T.recs.length rcap).ownBlock->((Value.slice ad T.recs.length rcap).ownBlock=some g1\/g1=w.heap.size+1)->X (w6.setCell ⟨g,k*2+1,none⟩ (.slice (some ⟨g1,0,none⟩) (T.recs.length+1) cap1))):=by
  show ∀ _,_;rw[hX];exact HD.out
 clear HD hX;generalize P.ts.length=n at *;generalize T.recs.flatMap recF=xs at *;generalize T.recs.length=nr at *;generalize P.ti=ti at *
 go_enter Tryz.func161,Tryz.ntmps161
 go_wp2_with (first|(go_at_call 189;refine n1.mono ?_;rintro e _ ⟨rfl,rfl⟩))
 go_region_law (first|(refine step_append_lies _ (by rfl) _ _ _ (by rfl) 0 197 iM _ 3 40 Tryz.underlying194 hiM zM0 zM1 zM2 rfl (by omega) (.slice ad nr rcap) nr _ (by rfl) ((HO.out.alloc _).drew) ⟨w.heap.size,0,none⟩ 1 1 [.string sc,.string da,.int .i64 ti] (by rfl) (by rfl) (World.news_of_block (heap_alloc_new w _)) (by simp[Value.oneCell']) (by omega) (by unfold maxLen;omega) (by omega) (by simp) (w.heap.size+1) (by simp) ?_;intro g1 cap1 w6 hown1 hgrow1 hat1 hlt1;have j15:=hgrow1.cell (zah _ k15) (fun e=>hne2 e.symm);have j1:=hgrow1.cell (zah _ c1) (fun e=>hne e.symm);have hbk:=((Chg.of (S:=fun b=>(Value.slice ad nr rcap).ownBlock=some b) (bel1 w (.cells #[.string sc,.string da,.int .i64 ti] 197))).drew.grown hgrow1 (fun k hk=>.inl hk)).block g lg hne;have y1:w6.frozen? ⟨g,k*2+1,none⟩=false:=(World.frozen?_of_block (w:=w) (a:=⟨g,k*2+1,none⟩) hbk).trans x1))
 all_goals
  go_wp2_with fail
  go_ret;exact⟨rfl,HD2.out _ _ _ hown1 hgrow1 hat1⟩
end
def zci (st:Bool)(t:ByteArray)(n:Nat)(ty:Ty):Option ByteArray :=
 match enc st t n ty 0 with
 |none=>none
 |some (d,k)=>if k=t.size then some d else none
def eRet:Option ByteArray->Value
 |some d=>.tuple #[.string d,.bool true]
 |none=>.tuple #[.string xe,.bool false]
theorem yabu {t:ByteArray}(ht:t.size<=4096){n:Nat}(hn:n<=100)(ty:Ty)(w:World)(ai af:Option Addr)(li ci lf cf:Nat)(hr:Rep n w ai li ci af lf cf ty) :
  Calls Tryz.prog 187 #[.agg #[.int .i64 ty.kind,.string ty.letters,.bool ty.op,.slice ai li ci,.slice af lf cf],.string t] w fun e w'=>e=.returned (eRet (zci false t n ty))/\Below w.heap.size w w':=by
 have hB:∀ o,Below w.heap.size w (w.alloc o):=fun o=>(Below.refl _ _).alloc (xf _) _;have IH:=zkc ht n (by omega);cases hx:enc false t n ty 0 with
 |none =>
  have hr':Hid (zci false t n ty=none):=by show _=_;unfold zci;rw[hx]
  have hcall:=fun o=>IH.no (xp _) (hr.keep (hB o)) hx;clear hx IH
  go_enter Tryz.func187,Tryz.ntmps187
  go_wp2_with (go_at_call 238;refine(hcall _).mono ?_;rintro e w1 ⟨rfl,hb1⟩)
  go_ret2
  rw[hr'.out];exact⟨rfl,(hB _).trans (hb1.mono (by simp))⟩
 |some p =>
  obtain⟨d,k⟩:=p;have hcall:=fun o=>IH.yes (xp _) (hr.keep (hB o)) hx;by_cases hk:k=t.size
  ·have hk':((k:Int) != (t.size:Int))=false:=by simp;omega
   have hr':Hid (zci false t n ty=some d):=by show _=_;unfold zci;rw[hx];simp only[if_pos hk]
   clear hx IH hk
   go_enter Tryz.func187,Tryz.ntmps187
   go_wp2_with (go_at_call 238;refine(hcall _).mono ?_;rintro e w1 ⟨rfl,hb1⟩)
   go_ret2
   rw[hr'.out];exact⟨rfl,(hB _).trans (hb1.mono (by simp))⟩
  ·have hk':((k:Int) != (t.size:Int))=true:=by simp;omega
   have hr':Hid (zci false t n ty=none):=by show _=_;unfold zci;rw[hx];simp only[if_neg hk]
   clear hx IH hk
   go_enter Tryz.func187,Tryz.ntmps187
   go_wp2_with (go_at_call 238;refine(hcall _).mono ?_;rintro e w1 ⟨rfl,hb1⟩)
   go_ret2
   rw[hr'.out];exact⟨rfl,(hB _).trans (hb1.mono (by simp))⟩
def zau (st:Bool)(s t:ByteArray):ByteArray×Int :=
 if 60<s.size\/4096<t.size then (xe,1) else
  match pAll st s with
  |none=>(xe,2)
  |some ty =>
   match zci st t s.size ty with
   |none=>(xe,3)
   |some d=>if 64<d.size then (xe,4) else (d,0)
theorem zv9 {st:Bool}{t d:ByteArray}{n:Nat}{ty:Ty}(h:zci st t n ty=some d)(ht:t.size<=4096)(hn:n<=100):d.size<=4000000:=by
 unfold zci at h;rcases hx:enc st t n ty 0 with _|⟨d',k⟩
 ·rw[hx]at h;cases h
 ·rw[hx]at h;simp only at h;split at h
  ·cases h;have:=zdf hx;exact zet this.2.2 hn (by omega)
  ·cases h
theorem zl5 (s t:ByteArray)(hs:s.size<=maxLen)(ht:t.size<=maxLen)(w:World) :
  Calls Tryz.prog 124 #[.string s,.string t] w fun e w'=>e=.returned (.tuple #[.string (zau false s t).1,.int .i64 (zau false s t).2])/\Below w.heap.size w w':=by
 by_cases h1:4096<t.size
 ·have hr:Hid (zau false s t=(xe,1)):=by show _=_;unfold zau;rw[if_pos (.inr h1)]
  unfold maxLen at hs ht
  go_enter Tryz.func124,Tryz.ntmps124
  go_wp2_with fail
  go_ret2
  rw[hr.out];exact⟨rfl,Below.refl _ _⟩
 ·by_cases h2:60<s.size
  ·have hr:Hid (zau false s t=(xe,1)):=by show _=_;unfold zau;rw[if_pos (.inl h2)]
   have hcall:=fun w=>zsk h2 hs w;clear hs ht
   go_enter Tryz.func124,Tryz.ntmps124
   go_wp2_with (go_at_call 131;refine(hcall _).mono ?_;rintro e w1 ⟨rfl,hb1⟩)
   go_ret2
   rw[hr.out];exact⟨rfl,Below.alloc' hb1 _⟩
  ·have h0:¬ (60<s.size\/4096<t.size):=by omega
   cases hx:pAll false s with
   |none =>
    have hr:Hid (zau false s t=(xe,2)):=by show _=_;unfold zau;rw[if_neg h0,hx]
    have hcall:=fun w=>zjf (zfs (s:=s) (by omega) w) hx;clear hs ht hx
    go_enter Tryz.func124,Tryz.ntmps124
    go_wp2_with (go_at_call 131;refine(hcall _).mono ?_;rintro e w1 ⟨rfl,hb1⟩)
    go_ret2
    rw[hr.out];exact⟨rfl,Below.alloc' hb1 _⟩
   |some ty =>
    have hcall:=fun w=>zfy (zfs (s:=s) (by omega) w) hx;have he:=fun (W:World) (o:Obj) (ai:Option Addr) (li ci:Nat) (af:Option Addr) (lf cf:Nat) (S:Nat->Prop) (h:RepB S s.size W ai li ci af lf cf ty)=>yabu (t:=t) (by omega) (show s.size<=100 by omega) ty (W.alloc o) ai af li ci lf cf (h.rep.keep ((Below.refl _ _).alloc (xf _) _));cases hy:zci false t s.size ty with
    |none =>
     have hr:Hid (zau false s t=(xe,3)):=by show _=_;unfold zau;rw[if_neg h0,hx];simp only[hy]
     rw[hy]at he;simp only[eRet]at he;clear hs ht hx hy
     go_enter Tryz.func124,Tryz.ntmps124
     go_wp2_with (first|(go_at_call 131;refine(hcall _).mono ?_;rintro e w1 ⟨ai,li,ci,af,lf,cf,rfl,hr1,hb1⟩)|(go_at_call 187;refine(he _ _ _ _ _ _ _ _ _ hr1).mono ?_;rintro e w2 ⟨rfl,hb2⟩))
     go_ret2
     rw[hr.out];exact⟨rfl,(Below.alloc' hb1 _).trans (hb2.mono (by have:=hb1.size;simp;omega))⟩
    |some d =>
     have hds:=zv9 hy (by omega) (by omega);rw[hy]at he;simp only[eRet]at he;by_cases h64:64<d.size
     ·have hr:Hid (zau false s t=(xe,4)):=by show _=_;unfold zau;rw[if_neg h0,hx];simp only[hy,if_pos h64]
      clear hs ht hx hy
      go_enter Tryz.func124,Tryz.ntmps124
      go_wp2_with (first|(go_at_call 131;refine(hcall _).mono ?_;rintro e w1 ⟨ai,li,ci,af,lf,cf,rfl,hr1,hb1⟩)|(go_at_call 187;refine(he _ _ _ _ _ _ _ _ _ hr1).mono ?_;rintro e w2 ⟨rfl,hb2⟩))
      go_ret2
      rw[hr.out];exact⟨rfl,(Below.alloc' hb1 _).trans (hb2.mono (by have:=hb1.size;simp;omega))⟩
     ·have hr:Hid (zau false s t=(d,0)):=by show _=_;unfold zau;rw[if_neg h0,hx];simp only[hy,if_neg h64]
      clear hs ht hx hy
      go_enter Tryz.func124,Tryz.ntmps124
      go_wp2_with (first|(go_at_call 131;refine(hcall _).mono ?_;rintro e w1 ⟨ai,li,ci,af,lf,cf,rfl,hr1,hb1⟩)|(go_at_call 187;refine(he _ _ _ _ _ _ _ _ _ hr1).mono ?_;rintro e w2 ⟨rfl,hb2⟩))
      go_ret2
      rw[hr.out];exact⟨rfl,(Below.alloc' hb1 _).trans (hb2.mono (by have:=hb1.size;simp;omega))⟩
end Go.Proofs.YtkkekopomiehlabGreatDoor
