import Derived.Test.YtkkekopomiehlabGreatDoorCPy12
set_option linter.unusedVariables false
set_option linter.unusedSimpArgs false
set_option maxHeartbeats 40000000
set_option maxRecDepth 4000
open ByteArray renaming empty->xe
open List renaming getElem?_eq_some_iff->xf,getD_eq_getElem?_getD->xh,getElem?_eq_getElem->xj,getElem?_set->xu,ext_getElem?->xv
open Bool renaming false_eq_true->xg
open Int renaming toNat_natCast->xm
open Go.Value renaming ownBlock->xo
open Nat renaming le_refl->xp,lt_of_lt_of_le->xq,zero_le->xy
open Go.World.ownsRow renaming stored->xz,lt->qd
open Go.RowKit
namespace Go.Proofs.YtkkekopomiehlabGreatDoor
section
variable {w W:World}{L L':Nat->Nat}{r:Nat}{P:zad}{gt tc:Nat}{m:Value}{gv vc:Nat}{t s:Value}{sv:List (Value×Value)}{tv:List (Int×Value)}
theorem zth (hok:zhd P)(h:RunM w L r P gt tc m gv vc t s sv tv):Calls Tryz.prog 118 #[.pointer (some ⟨r,0,none⟩)] w fun e W=>e=.returned (.tuple #[])/\∃ m' L' tv',RunM W L' r (tckP P) gt tc m' gv vc t s sv tv'/\Lab w L L'/\Chg (fun b=>L b≠0) w W:=by
 obtain⟨ad,cap,ht,hc1,hc2⟩:=h.top.len;have k0:w.cell? ⟨r,0,none⟩=some (.int .i64 P.ti):=h.row.cell rfl;have x0:=h.row.frozen 0;have k15:w.cell? ⟨r,15,none⟩=some (.slice ad P.ts.length cap):=by rw[<- ht];exact h.row.cell rfl
 obtain⟨b0,b1⟩:=hok.ti;have t4:=hok.ts4;obtain⟨h1,hc⟩:=h.time (P.ti+1);have H1:=zaa h1;have HC1:=zaa hc;have HT:=zaa ht;have HOK:=zaa hok;clear h h1 hc hok ht;obtain⟨n,hn⟩:∃ n,n=P.ts.length:=⟨_,rfl⟩;rw[<- hn]at k15 hc1 HT t4;have HN:=zaa hn;clear hn;obtain⟨ti,hti⟩:∃ ti,ti=P.ti:=⟨_,rfl⟩;rw[<- hti]at k0 b0 b1;have HTI:=zaa hti;rw[<- hti]at H1 HC1;obtain⟨B,hB⟩:∃ B,B=actB P.c (ti+1):=⟨_,rfl⟩;obtain⟨M,hM⟩:∃ M,M=actM P.c (ti+1):=⟨_,rfl⟩;obtain⟨C,hC⟩:∃ C,C=actC P.c (ti+1):=⟨_,rfl⟩;obtain⟨TS,hTS⟩:∃ TS,TS=P.ts.map (fgtT (ti+1)):=⟨_,rfl⟩;have hP:tckP P={ P with ti:=ti+1,ts:=TS,c:=C,ms:=(if B then za9 P.ms M else P.ms) }:=by rw[hB,hM,hC,hTS,hti];rfl
 rw[hP];obtain⟨X,hX⟩:∃ X:World->Prop,X=fun W=>∃ m' L' tv',RunM W L' r { P with ti:=ti+1,ts:=TS,c:=C,ms:=(if B then za9 P.ms M else P.ms) } gt tc m' gv vc t s sv tv'/\Lab w L L'/\Chg (fun b=>L b≠0) w W:=⟨_,rfl⟩;show Calls _ _ _ _ fun e W=>e=.returned (.tuple #[])/\(fun W=>∃ m' L' tv',RunM W L' r { P with ti:=ti+1,ts:=TS,c:=C,ms:=(if B then za9 P.ms M else P.ms) } gt tc m' gv vc t s sv tv'/\Lab w L L'/\Chg (fun b=>L b≠0) w W) W;rw[<- hX];have HX:Hid (∀ W m' L' tv',RunM W L' r { P with ti:=ti+1,ts:=TS,c:=C,ms:=(if B then za9 P.ms M else P.ms) } gt tc m' gv vc t s sv tv'->Lab w L L'->Chg (fun b=>L b≠0) w W->X W):=by
  show ∀ _,_;rw[hX];exact fun W m' L' tv' h1 h2 h3=>⟨m',L',tv',h1,h2,h3⟩
 clear hX;have HEB:=zaa hB;have HEM:=zaa hM;have HEC:=zaa hC;have HETS:=zaa hTS;clear hti hP hB hM hC hTS
 go_enter Tryz.func118,Tryz.ntmps118
 go_wp2_with fail
 go_loopw [17] (fun vi wr=>∃ (j:Nat) (L':Nat->Nat) (tv':List (Int×Value)),j<=n/\vi=.int .i64 j/\RunM wr L' r { P with ti:=ti+1,ts:=fgtU (ti+1) P.ts j } gt tc m gv vc t s sv tv'/\Lab w L L'/\Chg (fun b=>L b≠0) w wr) (fun i _=>n-(intOf i).toNat)
 case atStart=>exact⟨0,L,tv,xy _,rfl,by rw[zv9];exact H1.out,Lab.refl _ _,HC1.out⟩
 case round =>
  obtain⟨j,L',tv',hj,rfl,hM,hL,hC⟩:=hrel
  rename World=>w5
  have HM:=zaa hM;have HL:=zaa hL;have HC:=zaa hC;have hx0 := znn j;have e0:w5.cell? ⟨r,0,none⟩=some (.int .i64 (ti+1)):=hM.row.cell rfl;have e15:w5.cell? ⟨r,15,none⟩=some t:=hM.row.cell rfl;have lr:=hM.row.lt;by_cases hlt:j<n
  ·obtain⟨T,hT⟩:∃ T,P.ts[j]?=some T:=⟨P.ts[j]'(by rw[<- HN.out];exact hlt),xj _⟩;have hT':=zv6 (ti:=ti+1) hT;obtain⟨g,cp,v0,e,hc3,hg,lg,_⟩:=hM.topi (P:={ P with ti:=ti+1,ts:=fgtU (ti+1) P.ts j }) hT';have hlen:(fgtU (ti+1) P.ts j).length=n:=by rw[zv7 (by rw[<- HN.out];exact hj),HN.out]
   have e':t=.slice (some ⟨g,0,none⟩) (fgtU (ti+1) P.ts j).length cp:=e;have hfg:∀ W,RunM W L' r { P with ti:=ti+1,ts:=fgtU (ti+1) P.ts j } gt tc m gv vc t s sv tv'->Calls Tryz.prog 182 #[.pointer (some ⟨g,j*2,none⟩),.int .i64 (ti+1)] W fun e W'=>e=.returned (.tuple #[])/\∃ L2 tv2,RunM W' L2 r { P with ti:=ti+1,ts:=fgtU (ti+1) P.ts (j+1) } gt tc m gv vc t s sv tv2/\Lab W L' L2/\Chg (fun b=>L' b=5\/L' b=11+2*j) W W':=fun W hW=>by
    rw[zv8 hT];obtain⟨r12,rti⟩:=HOK.out.rcs j T hT;by_cases hk:0<T.keep
    ·exact(zwn (P:={ P with ti:=ti+1,ts:=fgtU (ti+1) P.ts j }) (ti+1) hT' hk e' (by omega) r12 rti hW).mono fun e W' ⟨q1,v,L2,q2,q3,q4⟩=>⟨q1,L2,_,q2,q3,q4⟩
    ·have ef:fgtT (ti+1) T=T:=by unfold fgtT;rw[if_pos (by omega)]
     rw[ef];have es:(fgtU (ti+1) P.ts j).set j T=fgtU (ti+1) P.ts j:=by
      refine xv fun q=>?_;rw[xu];split
      ·rename_i eq;subst eq;rw[hT'];split
       ·rfl
       ·rename_i hh;exact absurd (xf.1 hT').1 hh
      ·rfl
     rw[es];exact(zwo (P:={ P with ti:=ti+1,ts:=fgtU (ti+1) P.ts j }) (ti+1) hT' (by omega) e' hW).mono fun e W' ⟨q1,q2⟩=>⟨q1,L',tv',by rw[q2];exact hW,Lab.refl _ _,by rw[q2];exact Chg.refl _ _⟩
   rw[e']at e15;rw[hlen]at e15;have hx1:(j:Int)<(n:Int):=by omega
   have hj2:n<=cp:=by have:(fgtU (ti+1) P.ts j).length<=cp:=hc3;omega
   have esl:Hid (ad=some ⟨g,0,none⟩/\cap=cp):=by
    have:=HT.out;rw[e',hlen]at this;show _/\_;simpa[eq_comm]using this
   clear hM hL hC hT hT' e hc3 hlen e'
   go_wp2_with fail
   go_region_with (go_at_call 182;refine(hfg _ HM.out.drew).mono ?_;rintro e w6 ⟨rfl,L2,tv2,hM2,hL2,hC2⟩)
   all_goals
    go_wp2_with fail
    go_roundw
    case rel =>
     refine⟨j+1,L2,tv2,by omega,by go_num,hM2,HL.out.trans HC.out.size hL2,HC.out.drew.step HL.out hC2 fun b hb=>by omega⟩
    case measure=>simp[intOf];omega
  ·obtain rfl:n=j:=by omega
   have hts:fgtU (ti+1) P.ts n=P.ts.map (fgtT (ti+1)):=by rw[HN.out];exact zv5 _ _
   rw[hts]at HM;have hgr:r≠gt:=fun e=>by have h1:=hM.lr;have h2:=hM.sta.lt;rw[e]at h1;omega
   rw[<- HETS.out]at HM;have hA:∀ W,RunM W L' r { P with ti:=ti+1,ts:=TS } gt tc m gv vc t s sv tv'->Calls Tryz.prog 183 #[.pointer (some ⟨r,1,none⟩),.int .i64 (ti+1)] W fun e W'=>e=.returned (.tuple #[.agg #[.int .i64 M.k,.int .i64 M.n,.int .i64 M.s,.int .i64 M.i,.int .i64 M.r],.bool B])/\RunM W' L' r { P with ti:=ti+1,ts:=TS,c:=C } gt tc m gv vc t s sv tv'/\Chg (·= r) W W':=fun W hW=>by
    rw[HEB.out,HEM.out,HEC.out];exact(ztn (ti+1) HOK.out.cur HOK.out.nu hgr hW.sta.tsk hW.row).mono fun e W' q=>⟨q.1,hW.ctl (zmc _ _) q.2.2 q.2.1,q.2.2⟩
   have hS:∀ W,RunM W L' r { P with ti:=ti+1,ts:=TS,c:=C } gt tc m gv vc t s sv tv'->_:=fun W hW=>zl1 (P:={ P with ti:=ti+1,ts:=TS,c:=C }) M hW;have hlr:=hM.lr;have hfr:=hM.fr;clear hM hL hC hts e15 HEB HEM HEC HETS;obtain⟨mk,mn,ms',mi,mr⟩:=M;simp only at hA hS;have n2:¬ w5.heap.size=r:=by omega
   cases B with
   |false =>
    go_wp2_with fail
    go_region_with (go_at_call 183;first|(refine(hA _ HM.out.drew).mono ?_;rintro e w6 ⟨rfl,hM6,hC6⟩;have hC7:=(Chg.refl (·= r) w5).drew.trans hC6)|(refine(hA _ (HM.out.keep (bel1 w5 (.cells #[.int .i64 0,.int .i64 0,.int .i64 0,.int .i64 0,.int .i64 0] 100))).drew).mono ?_;rintro e w6 ⟨rfl,hM6,hC6⟩;have hC7:=((Chg.of (S:=(·= r)) (bel1 w5 (.cells #[.int .i64 0,.int .i64 0,.int .i64 0,.int .i64 0,.int .i64 0] 100))).drew).trans hC6;have Z6:=zaa (hC6.row ((box5 w5).drew) n2);have y0:=Z6.out.cell (j:=0) rfl;have y1:=Z6.out.cell (j:=1) rfl;have y2:=Z6.out.cell (j:=2) rfl;have y3:=Z6.out.cell (j:=3) rfl;have y4:=Z6.out.cell (j:=4) rfl;have f0:=Z6.out.frozen 0;have f1:=Z6.out.frozen 1;have f2:=Z6.out.frozen 2;have f3:=Z6.out.frozen 3;have f4:=Z6.out.frozen 4;have hX:=zaa ((Chg.refl (·= w5.heap.size) w6).set5 (z:=w5.heap.size) (.inl rfl) (.int .i64 mk) (.int .i64 mn) (.int .i64 ms') (.int .i64 mi) (.int .i64 mr));have HM7:=zaa (hM6.out hX.out (fun b hb=>by rw[hb];exact hfr _ (xp _)))))
    all_goals
     go_wp2_with fail
     refine bodyPost_end (v:=.tuple #[]) (results_none rfl _ _ _) rfl ?_;have hC8:=HC.out.step HL.out hC7 fun b hb=>by rw[hb,hlr];omega
     first
      |exact⟨rfl,HX.out _ m L' tv' HM7.out HL.out (hC8.set5 (.inr HC.out.size) _ _ _ _ _)⟩
      |exact⟨rfl,HX.out _ m L' tv' (hM6.keep (bel1 _ _)) HL.out (hC8.trans (Chg.of (bel1 _ _)))⟩
   |true =>
    go_wp2_with fail
    go_region_with (go_at_call 183;first|(refine(hA _ HM.out.drew).mono ?_;rintro e w6 ⟨rfl,hM6,hC6⟩;have hC7:=(Chg.refl (·= r) w5).drew.trans hC6)|(refine(hA _ (HM.out.keep (bel1 w5 (.cells #[.int .i64 0,.int .i64 0,.int .i64 0,.int .i64 0,.int .i64 0] 100))).drew).mono ?_;rintro e w6 ⟨rfl,hM6,hC6⟩;have hC7:=((Chg.of (S:=(·= r)) (bel1 w5 (.cells #[.int .i64 0,.int .i64 0,.int .i64 0,.int .i64 0,.int .i64 0] 100))).drew).trans hC6;have Z6:=zaa (hC6.row ((box5 w5).drew) n2);have y0:=Z6.out.cell (j:=0) rfl;have y1:=Z6.out.cell (j:=1) rfl;have y2:=Z6.out.cell (j:=2) rfl;have y3:=Z6.out.cell (j:=3) rfl;have y4:=Z6.out.cell (j:=4) rfl;have f0:=Z6.out.frozen 0;have f1:=Z6.out.frozen 1;have f2:=Z6.out.frozen 2;have f3:=Z6.out.frozen 3;have f4:=Z6.out.frozen 4;have hX:=zaa ((Chg.refl (·= w5.heap.size) w6).set5 (z:=w5.heap.size) (.inl rfl) (.int .i64 mk) (.int .i64 mn) (.int .i64 ms') (.int .i64 mi) (.int .i64 mr));have HM7:=zaa (hM6.out hX.out (fun b hb=>by rw[hb];exact hfr _ (xp _)))))
    all_goals
     have hC8:=HC.out.step HL.out hC7 fun b hb=>by rw[hb,hlr];omega
     go_wp2_with (first|(go_at_call 122;first|(refine(hS _ HM7.out).mono ?_;rintro e w7 ⟨rfl,m',L2,hM7,hL7,hC7⟩)|(refine(hS _ (hM6.keep (bel1 _ _))).mono ?_;rintro e w7 ⟨rfl,m',L2,hM7,hL7,hC7⟩)))
     refine bodyPost_end (v:=.tuple #[]) (results_none rfl _ _ _) rfl ?_;have z1:=hC8.size
     first
      |exact⟨rfl,HX.out _ m' L2 tv' hM7 (HL.out.trans (hC8.set5 (z:=w5.heap.size) (.inr HC.out.size) (.int .i64 mk) (.int .i64 mn) (.int .i64 ms') (.int .i64 mi) (.int .i64 mr)).size hL7) ((hC8.set5 (.inr HC.out.size) _ _ _ _ _).step HL.out hC7 fun b hb=>by omega)⟩
      |exact⟨rfl,HX.out _ m' L2 tv' hM7 (HL.out.trans (hC8.trans (Chg.of (bel1 _ _))).size hL7) ((hC8.trans (Chg.of (bel1 _ _))).step HL.out hC7 fun b hb=>by omega)⟩
end
section
variable {w W:World}{L L':Nat->Nat}{r:Nat}{P:zad}{gt tc:Nat}{m:Value}{gv vc:Nat}{t s:Value}{sv:List (Value×Value)}{tv:List (Int×Value)}
theorem ztj (k:Nat)(T:TopD)(sc da:ByteArray)(hT:P.ts[k]?=some T)(hl:12<=T.recs.length)(h:RunM w L r P gt tc m gv vc t s sv tv):Calls Tryz.prog 161 #[.pointer (some ⟨r,0,none⟩),.int .i64 k,.string sc,.string da] w fun e W=>e=.returned (.bool false)/\w=W:=by
 obtain⟨g,cap,v0,rfl,hc1,hg,lg,hq,c0,c1,x1,ho⟩:=h.topi hT;have hk:=(xf.1 hT).1;obtain⟨ad,rcap,hv,hr1,hr2⟩:=ho.len;subst hv;have k15:w.cell? ⟨r,15,none⟩=some (.slice (some ⟨g,0,none⟩) P.ts.length cap):=h.row.cell rfl;have n1:=zg8 (k:Int) h;rw[show numB (k:Int) (P.ts.length:Int)=true by unfold numB;simp;omega]at n1;have hx0:(0:Int)<=(k:Int):=by omega
 have hx1:(k:Int)<(P.ts.length:Int):=by omega
 clear h hT hq ho hk;generalize P.ts.length=n at *;generalize T.recs.length=nr at *
 go_enter Tryz.func161,Tryz.ntmps161
 go_wp2_with (first|(go_at_call 189;refine n1.mono ?_;rintro e _ ⟨rfl,rfl⟩))
 go_ret;exact⟨rfl,rfl⟩
theorem yaem {k:Nat}{T:TopD}{x:RecD}{W w6:World}{g cap g1 cap1 z:Nat}{v:Value}(h:RunM w L r P gt tc m gv vc t s sv tv)(hT:P.ts[k]?=some T)(ht:t=.slice (some ⟨g,0,none⟩) P.ts.length cap)(hv:tv[k]?=some (T.keep,v))(hb:Below w.heap.size w W)(hown:w6.ownsRow 0 197 3 (.slice (some ⟨g1,0,none⟩) (T.recs.length+1) cap1) (T.recs.length+1) (T.recs.flatMap recF++recF x))(hgrow:W.grownBy w6 v.ownBlock)(hat:v.ownBlock=some g1\/g1=z)(hz:w.heap.size<=z) :
  ∃ v' L',RunM (w6.setCell ⟨g,k*2+1,none⟩ (.slice (some ⟨g1,0,none⟩) (T.recs.length+1) cap1)) L' r { P with ts:=P.ts.set k { T with recs:=T.recs++[x] } } gt tc m gv vc t s sv (tv.set k (T.keep,v'))/\Lab w L L'/\Chg (fun b=>L b=5\/L b=11+2*k) w (w6.setCell ⟨g,k*2+1,none⟩ (.slice (some ⟨g1,0,none⟩) (T.recs.length+1) cap1)):=by
 obtain⟨g',cap',v0,e,hc1,hg,lg,hq,_,_,_,ho⟩:=h.topi hT;obtain⟨rfl,rfl⟩:g=g'/\cap=cap':=by rw[e]at ht;simpa[eq_comm]using ht
 obtain rfl:v=v0:=by rw[hq]at hv;simpa using hv.symm
 have hne:v.ownBlock≠some g:=fun e=>by have:=ho.2 g e;omega
 have hgg:g1≠g:=fun e=>by
  subst e;rcases hat with q|q
  ·exact hne q
  ·omega
 have hL:Lab w L (fun b=>if b=g1 then 11+2*k else L b):=fun b hb=>by
  show (if b=g1 then 11+2*k else L b)=L b;split
  ·rename_i e;subst e;rcases hat with q|q
   ·exact(ho.2 _ q).symm
   ·omega
  ·rfl
 have hc:Chg (fun b=>L b=5\/L b=11+2*k) w (w6.setCell ⟨g,k*2+1,none⟩ (.slice (some ⟨g1,0,none⟩) (T.recs.length+1) cap1)) :=
  ((Chg.of (S:=fun b=>L b=5\/L b=11+2*k) hb).grown hgrow (fun j hj=>.inl (.inr (ho.2 j hj)))).set (p:=⟨g,k*2+1,none⟩) (.inl (.inl hg)) _
 have hlt:=qd hown g1 rfl;refine⟨.slice (some ⟨g1,0,none⟩) (T.recs.length+1) cap1,fun b=>if b=g1 then 11+2*k else L b,h.tops (T':={ T with recs:=T.recs++[x] }) hT rfl hc hL (fun b hb'=>?_) ⟨?_,fun b hb=>?_⟩ ⟨?_,fun b hb=>?_⟩,hL,hc⟩
 ·have hz1:w6.heap.size<=b:=by simpa[World.setCell]using hb'
  have hz2:=hgrow.size;have hz3:=hb.size;show (if b=g1 then 11+2*k else L b)=0;rw[if_neg (by omega)];exact h.fr b (by omega)
 ·have hob:∀ b,(Value.slice (some ⟨g1,0,none⟩) (T.recs.length+1) cap1).ownBlock=some b->¬ b=g:=fun b hb e=>by
   have:g1=b:=by simpa[xo]using hb
   omega
  have:=((Chg.refl (·= g) w6).set (p:=⟨g,k*2+1,none⟩) (.inl rfl) (.slice (some ⟨g1,0,none⟩) (T.recs.length+1) cap1)).own hown hob;have e:(T.recs++[x]).flatMap recF=T.recs.flatMap recF++recF x:=by simp
  show World.ownsRow _ 0 _ 3 _ (T.recs++[x]).length ((T.recs++[x]).flatMap recF);rw[e,List.length_append];exact this
 ·have:g1=b:=by simpa[xo]using hb
  subst this;show (if g1=g1 then 11+2*k else L g1)=11+2*k;rw[if_pos rfl]
 ·have h5:=(zas h.top.1 hb).kept hgrow (.inr (by rw[ht];simp[xo];exact fun e=>hne e.symm));rw[ht]at h5 ⊢;have h6:=(xz h5 (k*2+1) (.slice (some ⟨g1,0,none⟩) (T.recs.length+1) cap1)).1;rw[zeg (f:=topF) (k:=2) (fun _=>rfl) hq (j:=1) (u:=.slice (some ⟨g1,0,none⟩) (T.recs.length+1) cap1) (y:=(T.keep,.slice (some ⟨g1,0,none⟩) (T.recs.length+1) cap1)) (by omega) rfl]at h6;exact h6
 ·rw[ht]at hb;have:g=b:=by simpa[xo]using hb
  subst this;exact(hL g lg).trans hg
theorem ztk (k:Nat)(T:TopD)(sc da:ByteArray)(hT:P.ts[k]?=some T)(hl:T.recs.length<12)(h:RunM w L r P gt tc m gv vc t s sv tv):Calls Tryz.prog 161 #[.pointer (some ⟨r,0,none⟩),.int .i64 k,.string sc,.string da] w fun e W=>e=.returned (.bool true)/\∃ v' L',RunM W L' r { P with ts:=P.ts.set k { T with recs:=T.recs++[⟨sc,da,P.ti⟩] } } gt tc m gv vc t s sv (tv.set k (T.keep,v'))/\Lab w L L'/\Chg (fun b=>L b=5\/L b=11+2*k) w W:=by
 obtain⟨iM,hiM,zM0,zM1,zM2⟩:=info_parts Tryz.infoRecK;obtain⟨g,cap,v0,rfl,hc1,hg,lg,hq,c0,c1,x1,ho⟩:=h.topi hT;have hk:=(xf.1 hT).1;obtain⟨ad,rcap,hv,hr1,hr2⟩:=ho.len;subst hv;have k15:w.cell? ⟨r,15,none⟩=some (.slice (some ⟨g,0,none⟩) P.ts.length cap):=h.row.cell rfl;have k0:w.cell? ⟨r,0,none⟩=some (.int .i64 P.ti):=h.row.cell rfl;have n1:=zg8 (k:Int) h;rw[show numB (k:Int) (P.ts.length:Int)=true by unfold numB;simp;omega]at n1;have hx0:(0:Int)<=(k:Int):=by omega
 have hx1:(k:Int)<(P.ts.length:Int):=by omega
 have HO:=zaa ho.1;have lr:=h.row.lt;have hne:(Value.slice ad T.recs.length rcap).ownBlock≠some g:=fun e=>by have:=ho.2 g e;omega
 have hne2:(Value.slice ad T.recs.length rcap).ownBlock≠some r:=fun e=>by have:=ho.2 r e;rw[h.lr]at this;omega
 have HD:=zaa (fun (w6:World) (g1 cap1:Nat) (h1:w6.ownsRow 0 197 3 (.slice (some ⟨g1,0,none⟩) (T.recs.length+1) cap1) (T.recs.length+1) (T.recs.flatMap recF++[.string sc,.string da,.int .i64 P.ti])) (h2:((w.alloc (.cells #[.string sc,.string da,.int .i64 P.ti] 197)).drew).grownBy w6 (Value.slice ad T.recs.length rcap).ownBlock) (h3:(Value.slice ad T.recs.length rcap).ownBlock=some g1\/g1=w.heap.size+1)=>yaem (x:=⟨sc,da,P.ti⟩) h hT rfl hq (bel1 w (.cells #[.string sc,.string da,.int .i64 P.ti] 197)).drew h1 h2 h3 (by omega));clear h hT hq ho hk;obtain⟨X,hX⟩:∃ X:World->Prop,X=fun W=>∃ v' L',RunM W L' r { P with ts:=P.ts.set k { T with recs:=T.recs++[⟨sc,da,P.ti⟩] } } gt tc m gv vc (.slice (some ⟨g,0,none⟩) P.ts.length cap) s sv (tv.set k (T.keep,v'))/\Lab w L L'/\Chg (fun b=>L b=5\/L b=11+2*k) w W:=⟨_,rfl⟩;show Calls _ _ _ _ fun e W=>e=.returned (.bool true)/\(fun W=>∃ v' L',RunM W L' r { P with ts:=P.ts.set k { T with recs:=T.recs++[⟨sc,da,P.ti⟩] } } gt tc m gv vc (.slice (some ⟨g,0,none⟩) P.ts.length cap) s sv (tv.set k (T.keep,v'))/\Lab w L L'/\Chg (fun b=>L b=5\/L b=11+2*k) w W) W;rw[<- hX];have HD2:Hid (∀ (w6:World) (g1 cap1:Nat),w6.ownsRow 0 197 3 (.slice (some ⟨g1,0,none⟩) (T.recs.length+1) cap1) (T.recs.length+1) (T.recs.flatMap recF++[.string sc,.string da,.int .i64 P.ti])->((w.alloc (.cells #[.string sc,.string da,.int .i64 P.ti] 197)).drew).grownBy w6 (Value.slice ad T.recs.length rcap).ownBlock->((Value.slice ad T.recs.length rcap).ownBlock=some g1\/g1=w.heap.size+1)->X (w6.setCell ⟨g,k*2+1,none⟩ (.slice (some ⟨g1,0,none⟩) (T.recs.length+1) cap1))):=by
  show ∀ _,_;rw[hX];exact HD.out
 clear HD hX;generalize P.ts.length=n at *;generalize T.recs.flatMap recF=xs at *;generalize T.recs.length=nr at *;generalize P.ti=ti at *
 go_enter Tryz.func161,Tryz.ntmps161
 go_wp2_with (first|(go_at_call 189;refine n1.mono ?_;rintro e _ ⟨rfl,rfl⟩))
 go_region_law (first|(refine step_append_lies _ (by rfl) _ _ _ (by rfl) 0 197 iM _ 3 40 Tryz.underlying194 hiM zM0 zM1 zM2 rfl (by omega) (.slice ad nr rcap) nr _ (by rfl) ((HO.out.alloc _).drew) ⟨w.heap.size,0,none⟩ 1 1 [.string sc,.string da,.int .i64 ti] (by rfl) (by rfl) (World.news_of_block (heap_alloc_new w _)) (by simp[Value.oneCell']) (by omega) (by unfold maxLen;omega) (by omega) (by simp) (w.heap.size+1) (by simp) ?_;intro g1 cap1 w6 hown1 hgrow1 hat1 hlt1;have j15:=hgrow1.cell (zah _ k15) (fun e=>hne2 e.symm);have j1:=hgrow1.cell (zah _ c1) (fun e=>hne e.symm);have hbk:=((Chg.of (S:=fun b=>(Value.slice ad nr rcap).ownBlock=some b) (bel1 w (.cells #[.string sc,.string da,.int .i64 ti] 197))).drew.grown hgrow1 (fun k hk=>.inl hk)).block g lg hne;have y1:w6.frozen? ⟨g,k*2+1,none⟩=false:=(World.frozen?_of_block (w:=w) (a:=⟨g,k*2+1,none⟩) hbk).trans x1))
 all_goals
  go_wp2_with fail
  go_ret;exact⟨rfl,HD2.out _ _ _ hown1 hgrow1 hat1⟩
end
def zcg (st:Bool)(t:ByteArray)(n:Nat)(ty:Ty):Option ByteArray :=
 match enc st t n ty 0 with
 |none=>none
 |some (d,k)=>if k=t.size then some d else none
def eRet:Option ByteArray->Value
 |some d=>.tuple #[.string d,.bool true]
 |none=>.tuple #[.string xe,.bool false]
theorem yaa2 {t:ByteArray}(ht:t.size<=4096){n:Nat}(hn:n<=100)(ty:Ty)(w:World)(ai af:Option Addr)(li ci lf cf:Nat)(hr:Rep n w ai li ci af lf cf ty) :
  Calls Tryz.prog 187 #[.agg #[.int .i64 ty.kind,.string ty.letters,.bool ty.op,.slice ai li ci,.slice af lf cf],.string t] w fun e w'=>e=.returned (eRet (zcg false t n ty))/\Below w.heap.size w w':=by
 have hB:∀ o,Below w.heap.size w (w.alloc o):=fun o=>(Below.refl _ _).alloc (xp _) _;have IH:=zj3 ht n (by omega);cases hx:enc false t n ty 0 with
 |none =>
  have hr':Hid (zcg false t n ty=none):=by show _=_;unfold zcg;rw[hx]
  have hcall:=fun o=>IH.no (xy _) (hr.keep (hB o)) hx;clear hx IH
  go_enter Tryz.func187,Tryz.ntmps187
  go_wp2_with (go_at_call 238;refine(hcall _).mono ?_;rintro e w1 ⟨rfl,hb1⟩)
  go_ret2
  rw[hr'.out];exact⟨rfl,(hB _).trans (hb1.mono (by simp))⟩
 |some p =>
  obtain⟨d,k⟩:=p;have hcall:=fun o=>IH.yes (xy _) (hr.keep (hB o)) hx;by_cases hk:k=t.size
  ·have hk':((k:Int) != (t.size:Int))=false:=by simp;omega
   have hr':Hid (zcg false t n ty=some d):=by show _=_;unfold zcg;rw[hx];simp only[if_pos hk]
   clear hx IH hk
   go_enter Tryz.func187,Tryz.ntmps187
   go_wp2_with (go_at_call 238;refine(hcall _).mono ?_;rintro e w1 ⟨rfl,hb1⟩)
   go_ret2
   rw[hr'.out];exact⟨rfl,(hB _).trans (hb1.mono (by simp))⟩
  ·have hk':((k:Int) != (t.size:Int))=true:=by simp;omega
   have hr':Hid (zcg false t n ty=none):=by show _=_;unfold zcg;rw[hx];simp only[if_neg hk]
   clear hx IH hk
   go_enter Tryz.func187,Tryz.ntmps187
   go_wp2_with (go_at_call 238;refine(hcall _).mono ?_;rintro e w1 ⟨rfl,hb1⟩)
   go_ret2
   rw[hr'.out];exact⟨rfl,(hB _).trans (hb1.mono (by simp))⟩
def zat (st:Bool)(s t:ByteArray):ByteArray×Int :=
 if 60<s.size\/4096<t.size then (xe,1) else
  match pAll st s with
  |none=>(xe,2)
  |some ty =>
   match zcg st t s.size ty with
   |none=>(xe,3)
   |some d=>if 64<d.size then (xe,4) else (d,0)
theorem zvu {st:Bool}{t d:ByteArray}{n:Nat}{ty:Ty}(h:zcg st t n ty=some d)(ht:t.size<=4096)(hn:n<=100):d.size<=4000000:=by
 unfold zcg at h;rcases hx:enc st t n ty 0 with _|⟨d',k⟩
 ·rw[hx]at h;cases h
 ·rw[hx]at h;simp only at h;split at h
  ·cases h;have:=zde hx;exact zet this.2.2 hn (by omega)
  ·cases h
theorem zlu (s t:ByteArray)(hs:s.size<=maxLen)(ht:t.size<=maxLen)(w:World) :
  Calls Tryz.prog 124 #[.string s,.string t] w fun e w'=>e=.returned (.tuple #[.string (zat false s t).1,.int .i64 (zat false s t).2])/\Below w.heap.size w w':=by
 by_cases h1:4096<t.size
 ·have hr:Hid (zat false s t=(xe,1)):=by show _=_;unfold zat;rw[if_pos (.inr h1)]
  unfold maxLen at hs ht
  go_enter Tryz.func124,Tryz.ntmps124
  go_wp2_with fail
  go_ret2
  rw[hr.out];exact⟨rfl,Below.refl _ _⟩
 ·by_cases h2:60<s.size
  ·have hr:Hid (zat false s t=(xe,1)):=by show _=_;unfold zat;rw[if_pos (.inl h2)]
   have hcall:=fun w=>zr1 h2 hs w;clear hs ht
   go_enter Tryz.func124,Tryz.ntmps124
   go_wp2_with (go_at_call 131;refine(hcall _).mono ?_;rintro e w1 ⟨rfl,hb1⟩)
   go_ret2
   rw[hr.out];exact⟨rfl,Below.alloc' hb1 _⟩
  ·have h0:¬ (60<s.size\/4096<t.size):=by omega
   cases hx:pAll false s with
   |none =>
    have hr:Hid (zat false s t=(xe,2)):=by show _=_;unfold zat;rw[if_neg h0,hx]
    have hcall:=fun w=>zi8 (zfs (s:=s) (by omega) w) hx;clear hs ht hx
    go_enter Tryz.func124,Tryz.ntmps124
    go_wp2_with (go_at_call 131;refine(hcall _).mono ?_;rintro e w1 ⟨rfl,hb1⟩)
    go_ret2
    rw[hr.out];exact⟨rfl,Below.alloc' hb1 _⟩
   |some ty =>
    have hcall:=fun w=>zfx (zfs (s:=s) (by omega) w) hx;have he:=fun (W:World) (o:Obj) (ai:Option Addr) (li ci:Nat) (af:Option Addr) (lf cf:Nat) (S:Nat->Prop) (h:RepB S s.size W ai li ci af lf cf ty)=>yaa2 (t:=t) (by omega) (show s.size<=100 by omega) ty (W.alloc o) ai af li ci lf cf (h.rep.keep ((Below.refl _ _).alloc (xp _) _));cases hy:zcg false t s.size ty with
    |none =>
     have hr:Hid (zat false s t=(xe,3)):=by show _=_;unfold zat;rw[if_neg h0,hx];simp only[hy]
     rw[hy]at he;simp only[eRet]at he;clear hs ht hx hy
     go_enter Tryz.func124,Tryz.ntmps124
     go_wp2_with (first|(go_at_call 131;refine(hcall _).mono ?_;rintro e w1 ⟨ai,li,ci,af,lf,cf,rfl,hr1,hb1⟩)|(go_at_call 187;refine(he _ _ _ _ _ _ _ _ _ hr1).mono ?_;rintro e w2 ⟨rfl,hb2⟩))
     go_ret2
     rw[hr.out];exact⟨rfl,(Below.alloc' hb1 _).trans (hb2.mono (by have:=hb1.size;simp;omega))⟩
    |some d =>
     have hds:=zvu hy (by omega) (by omega);rw[hy]at he;simp only[eRet]at he;by_cases h64:64<d.size
     ·have hr:Hid (zat false s t=(xe,4)):=by show _=_;unfold zat;rw[if_neg h0,hx];simp only[hy,if_pos h64]
      clear hs ht hx hy
      go_enter Tryz.func124,Tryz.ntmps124
      go_wp2_with (first|(go_at_call 131;refine(hcall _).mono ?_;rintro e w1 ⟨ai,li,ci,af,lf,cf,rfl,hr1,hb1⟩)|(go_at_call 187;refine(he _ _ _ _ _ _ _ _ _ hr1).mono ?_;rintro e w2 ⟨rfl,hb2⟩))
      go_ret2
      rw[hr.out];exact⟨rfl,(Below.alloc' hb1 _).trans (hb2.mono (by have:=hb1.size;simp;omega))⟩
     ·have hr:Hid (zat false s t=(d,0)):=by show _=_;unfold zat;rw[if_neg h0,hx];simp only[hy,if_neg h64]
      clear hs ht hx hy
      go_enter Tryz.func124,Tryz.ntmps124
      go_wp2_with (first|(go_at_call 131;refine(hcall _).mono ?_;rintro e w1 ⟨ai,li,ci,af,lf,cf,rfl,hr1,hb1⟩)|(go_at_call 187;refine(he _ _ _ _ _ _ _ _ _ hr1).mono ?_;rintro e w2 ⟨rfl,hb2⟩))
      go_ret2
      rw[hr.out];exact⟨rfl,(Below.alloc' hb1 _).trans (hb2.mono (by have:=hb1.size;simp;omega))⟩
section
variable {w W:World}{L L':Nat->Nat}{r:Nat}{P:zad}
theorem zkz (hok:zhd P)(h:RunE w L r P):Calls Tryz.prog 55 #[.pointer (some ⟨r,0,none⟩)] w fun e W=>e=.returned (.tuple #[])/\Turn w L r W (tckP P):=by
 obtain⟨gt,tc,m,gv,vc,t,s,sv,tv,h⟩:=h;have c1:=(zth hok h).mono fun e W q=>(⟨q.1,by obtain⟨m2,L2,tv2,k1,k2,k3⟩:=q.2;exact⟨L2,⟨_,_,_,_,_,_,_,_,_,k1⟩,k2,k3⟩⟩:e=Ending.returned (.tuple #[])/\Turn w L r W (tckP P));clear h hok;generalize tckP P=Q at *
 go_enter Tryz.func55,Tryz.ntmps55
 go_wp2_with (first|(go_at_call 118;refine c1.mono ?_;rintro e w1 ⟨rfl,ht1⟩;have HT:=zaa ht1;clear ht1))
 refine bodyPost_end (v:=.tuple #[]) (results_none rfl _ _ _) rfl ?_;exact⟨rfl,HT.out⟩
theorem zz3 (hb:0<=P.ti/\P.ti<=4000000000/\0<=P.c.rest/\P.c.rest<=4000000000)(h:RunE w L r P):Calls Tryz.prog 32 #[.pointer (some ⟨r,0,none⟩)] w fun e W=>e=.returned (.tuple #[])/\Turn w L r W (crsP P):=by
 have c1:=zyk hb h;clear h hb;generalize crsP P=Q at *
 go_enter Tryz.func32,Tryz.ntmps32
 go_wp2_with (first|(go_at_call 76;refine c1.mono ?_;rintro e w1 ⟨rfl,ht1⟩;have HT:=zaa ht1;clear ht1))
 refine bodyPost_end (v:=.tuple #[]) (results_none rfl _ _ _) rfl ?_;exact⟨rfl,HT.out⟩
theorem zz4 (on:Bool)(h:RunE w L r P):Calls Tryz.prog 28 #[.pointer (some ⟨r,0,none⟩),.bool on] w fun e W=>(∃ n,e=.returned (.int .i64 n))/\Turn w L r W (if zar P.c then P else pauP P on):=by
 have c0:=zpx h;have c1:=zyy on h;have HT:=zaa (Turn.of h (Below.refl _ _));clear h;cases ho:zar P.c with
 |true =>
  rw[ho]at c0;simp only[if_true];clear ho c1
  go_enter Tryz.func28,Tryz.ntmps28
  go_wp2_with (first|(go_at_call 72;refine c0.mono ?_;rintro e _ ⟨rfl,rfl⟩))
  go_ret;exact⟨⟨_,rfl⟩,HT.out⟩
 |false =>
  rw[ho]at c0;simp only[xg,if_false];generalize pauP P on=Q at *;clear ho HT
  go_enter Tryz.func28,Tryz.ntmps28
  go_wp2_with (first|(go_at_call 72;refine c0.mono ?_;rintro e _ ⟨rfl,rfl⟩)|(go_at_call 73;refine c1.mono ?_;rintro e w1 ⟨rfl,ht1⟩;have HT:=zaa ht1;clear ht1))
  go_ret;exact⟨⟨_,rfl⟩,HT.out⟩
def abtE (P:zad):Int:=if zar P.c then 17 else if P.c.st=2 then 18 else 0
def abtP (P:zad):zad:=if zar P.c then P else if P.c.st=2 then P else trnP P
theorem zso (hb:0<=P.c.pos/\P.c.pos<=4000000000)(h:RunE w L r P):Calls Tryz.prog 31 #[.pointer (some ⟨r,0,none⟩)] w fun e W=>e=.returned (.int .i64 (abtE P))/\Turn w L r W (abtP P):=by
 have c0:=zpx h;have c1:=zys h;have c2:=zy1 hb h;have HT:=zaa (Turn.of h (Below.refl _ _));clear h hb;unfold abtE abtP;cases ho:zar P.c with
 |true =>
  rw[ho]at c0;simp only[if_true];clear ho c1 c2
  go_enter Tryz.func31,Tryz.ntmps31
  go_wp2_with (first|(go_at_call 72;refine c0.mono ?_;rintro e _ ⟨rfl,rfl⟩))
  go_ret;exact⟨rfl,HT.out⟩
 |false =>
  rw[ho]at c0;simp only[xg,if_false];by_cases hs:P.c.st=2
  ·rw[decide_eq_true hs]at c1;rw[if_pos hs,if_pos hs];clear ho c2 hs
   go_enter Tryz.func31,Tryz.ntmps31
   go_wp2_with (first|(go_at_call 72;refine c0.mono ?_;rintro e _ ⟨rfl,rfl⟩)|(go_at_call 74;refine c1.mono ?_;rintro e _ ⟨rfl,rfl⟩))
   go_ret;exact⟨rfl,HT.out⟩
  ·rw[decide_eq_false hs]at c1;rw[if_neg hs,if_neg hs];generalize trnP P=Q at *;clear ho hs HT
   go_enter Tryz.func31,Tryz.ntmps31
   go_wp2_with (first|(go_at_call 72;refine c0.mono ?_;rintro e _ ⟨rfl,rfl⟩)|(go_at_call 74;refine c1.mono ?_;rintro e _ ⟨rfl,rfl⟩)|(go_at_call 75;refine c2.mono ?_;rintro e w1 ⟨rfl,ht1⟩;have HT:=zaa ht1;clear ht1))
   go_ret;exact⟨rfl,HT.out⟩
theorem zsz (k:Int)(h:RunE w L r P):Calls Tryz.prog 59 #[.pointer (some ⟨r,0,none⟩),.int .i64 k] w fun e W=>(∃ n,e=.returned (.int .i64 n))/\Turn w L r W (cpyP P k):=by
 unfold cpyP;cases hk:numB k P.ms.length with
 |false =>
  simp only[xg,if_false];have HT:=zaa (fun (W:World) (hb:Below w.heap.size w W)=>Turn.of h hb);obtain⟨gt,tc,m,gv,vc,t,s,sv,tv,h⟩:=h;have c1:=zlw k hk h;clear h hk
  go_enter Tryz.func59,Tryz.ntmps59
  go_wp2_with (first|(go_at_call 121;refine c1.mono ?_;rintro e w1 ⟨rfl,hb1⟩))
  go_ret;exact⟨⟨_,rfl⟩,HT.out _ (thn3 hb1 (bel1 _ _))⟩
 |true =>
  simp only[if_true];obtain⟨i,rfl,hi⟩:=zh6 hk;obtain⟨x,hx⟩:∃ x,P.ms[i]?=some x:=⟨P.ms[i]'hi,xj _⟩;rw[xm,xh,hx];show Calls _ _ _ _ fun e W=>(∃ n,e=.returned (.int .i64 n))/\Turn w L r W { P with ms:=za9 P.ms x };obtain⟨gt,tc,m,gv,vc,t,s,sv,tv,h⟩:=h;have c1:=zlx i x hx h;have c2:=fun (W:World) (hb:Below w.heap.size w W)=>(zl1 x (h.keep hb)).mono fun e W' q=>(⟨q.1,by obtain⟨m2,L2,k1,k2,k3⟩:=q.2;exact⟨L2,⟨_,_,_,_,_,_,_,_,_,k1⟩,fun b hb'=>k2 b (xq hb' hb.size),(Chg.of hb).trans (k3.mono fun b hb=>by omega)⟩⟩:e=Ending.returned (.bool (decide (P.ms.length<40)))/\Turn w L r W' { P with ms:=za9 P.ms x });clear h hk hx hi;generalize ({ P with ms:=za9 P.ms x }:zad)=Q at *;generalize decide (P.ms.length<40)=B at *;obtain⟨xk,xn,xs,xi,xr⟩:=x;simp only at c1 c2;cases B
  all_goals
   go_enter Tryz.func59,Tryz.ntmps59
   go_wp2_with (first|(go_at_call 121;refine c1.mono ?_;rintro e w1 ⟨rfl,hb1⟩;have HB:=zaa (thn3 hb1 (bel1 w1 (.cells #[.int .i64 xk,.int .i64 xn,.int .i64 xs,.int .i64 xi,.int .i64 xr] 100))).drew))
   go_region_with (go_at_call 122;refine(c2 _ HB.out).mono ?_;rintro e w3 ⟨rfl,ht3⟩;have HT:=zaa ht3;clear ht3)
   all_goals
    go_wp2_with fail
    go_ret;exact⟨⟨_,rfl⟩,HT.out⟩
theorem zk1 (a b k:Int)(hh:hasB P.vs a b=true)(h:RunE w L r P):Calls Tryz.prog 125 #[.pointer (some ⟨r,0,none⟩),.int .i64 a,.int .i64 b,.int .i64 k] w fun e W=>e=.returned (.bool (numB k P.ts.length))/\w=W:=by
 obtain⟨gt,tc,m,gv,vc,t,s,sv,tv,h⟩:=h;have c1:=zg7 a b hh h;have c2:=zg8 k h;clear h hh;generalize numB k P.ts.length=B at *
 go_enter Tryz.func125,Tryz.ntmps125
 go_wp2_with (first|(go_at_call 188;refine c1.mono ?_;rintro e W' ⟨rfl,hW⟩;obtain rfl:=hW.symm)|(go_at_call 189;refine c2.mono ?_;rintro e _ ⟨rfl,rfl⟩))
 go_ret;exact⟨rfl,rfl⟩
theorem zi4 (i j rl:Nat)(V:SrvD)(y:InsD)(ps:List PinD)(k:Int)(text:ByteArray)(hV:P.vs[i]?=some V)(hy:V.ins[j]?=some y)(hr:y.r=rl)(hps:V.rels[rl]?=some ps)(hl:ps.length<=2000000)(hts:text.size<=maxLen)(hss:(schO P.ss (pinO ps k).w).size<=maxLen)(h:RunE w L r P) :
  Calls Tryz.prog 94 #[.pointer (some ⟨r,0,none⟩),.int .i64 i,.int .i64 j,.int .i64 k,.string text] w fun e W=>e=.returned (.int .i64 (if numB k P.ts.length then (if numB (pinO ps k).w P.ss.length then (if (zat false (schO P.ss (pinO ps k).w) text).2=0 then (if (P.ts.getD k.toNat ⟨0,[]⟩).recs.length<12 then 0 else 16) else (zat false (schO P.ss (pinO ps k).w) text).2) else 15) else 11))/\Turn w L r W (if numB k P.ts.length/\numB (pinO ps k).w P.ss.length/\(zat false (schO P.ss (pinO ps k).w) text).2=0/\(P.ts.getD k.toNat ⟨0,[]⟩).recs.length<12 then wrtP P k.toNat (schO P.ss (pinO ps k).w) (zat false (schO P.ss (pinO ps k).w) text).1 else P):=by
 have hh:hasB P.vs (i:Int) (j:Int)=true:=by
  have hi:=(xf.1 hV).1;have hjl:=(xf.1 hy).1;rw[zd3,xm,xh,hV];show 0<=_/\_<_/\0<=_/\(j:Int)<(V.ins.length:Int);omega
 have c1:=zk1 (i:Int) (j:Int) k hh h;have HT:=zaa (fun (W:World) (hb:Below w.heap.size w W)=>Turn.of h hb);have c3:=fun W=>zlu (schO P.ss (pinO ps k).w) text hss hts W;obtain⟨gt,tc,m,gv,vc,t,s,sv,tv,h⟩:=h;have c2:=ztl i j rl V y ps k hV hy hr hps hl h;cases hk:numB k P.ts.length with
 |false =>
  rw[hk]at c1;simp only[xg,if_false,false_and];clear h hk c2 c3 hV hy hps hh
  go_enter Tryz.func94,Tryz.ntmps94
  go_wp2_with (first|(go_at_call 125;refine c1.mono ?_;rintro e _ ⟨rfl,rfl⟩))
  go_ret;exact⟨rfl,HT.out _ (Below.refl _ _)⟩
 |true =>
  rw[hk]at c1;simp only[if_true,true_and];cases hw:numB (pinO ps k).w P.ss.length with
  |false =>
   rw[hw]at c2;simp only[xg,if_false,false_and];clear h hk c3 hV hy hps hh hw;generalize schO P.ss (pinO ps k).w=X at *
   go_enter Tryz.func94,Tryz.ntmps94
   go_wp2_with (first
    |(go_at_call 125;refine c1.mono ?_;rintro e _ ⟨rfl,rfl⟩)
    |(go_at_call 160;refine c2.mono ?_;rintro e w2 ⟨rfl,hb2⟩))
   go_ret;exact⟨rfl,HT.out _ hb2⟩
  |true =>
   rw[hw]at c2;simp only[if_true,true_and];generalize schO P.ss (pinO ps k).w=X at *;generalize zat false X text=O at *;obtain⟨d,eo⟩:=O;simp only at c3 ⊢;by_cases he:eo=0
   ·subst he;obtain⟨q,rfl,hq⟩:=zh6 hk;obtain⟨T,hT⟩:∃ T,P.ts[q]?=some T:=⟨P.ts[q]'hq,xj _⟩;have hg:P.ts.getD (q:Int).toNat ⟨0,[]⟩=T:=by rw[xm,xh,hT];rfl
    rw[hg];simp only[if_true,true_and];by_cases hl12:T.recs.length<12
    ·rw[if_pos hl12,if_pos hl12];have ew:wrtP P (q:Int).toNat X d={ P with ts:=P.ts.set q { T with recs:=T.recs++[⟨X,d,P.ti⟩] } }:=by
      unfold wrtP
      congr 1
      rw[xm];refine xv fun z=>?_;rw[List.getElem?_modify,xu];by_cases e:q=z
      ·subst e;rw[if_pos rfl,if_pos hq,hT];simp
      ·rw[if_neg e];simp[e]
     rw[ew];have c4:=fun (W:World) (hb:Below w.heap.size w W)=>(ztk q T X d hT hl12 (h.keep hb)).mono fun e W' z=>(⟨z.1,by obtain⟨v2,L2,k1,k2,k3⟩:=z.2;exact⟨L2,⟨_,_,_,_,_,_,_,_,_,k1⟩,fun b hb'=>k2 b (xq hb' hb.size),(Chg.of hb).trans (k3.mono fun b hb=>by omega)⟩⟩:e=Ending.returned (.bool true)/\Turn w L r W' { P with ts:=P.ts.set q { T with recs:=T.recs++[⟨X,d,P.ti⟩] } });clear h hk hV hy hps hh hw HT ew hg hT;generalize ({ P with ts:=P.ts.set q { T with recs:=T.recs++[⟨X,d,P.ti⟩] } }:zad)=Q at *
     go_enter Tryz.func94,Tryz.ntmps94
     go_wp2_with (first
      |(go_at_call 125;refine c1.mono ?_;rintro e _ ⟨rfl,rfl⟩)
      |(go_at_call 160;refine c2.mono ?_;rintro e w2 ⟨rfl,hb2⟩)
      |(go_at_call 124;refine(c3 _).mono ?_;rintro e w3 ⟨rfl,hb3⟩)
      |(go_at_call 161;refine(c4 _ (thn3 hb2 hb3)).mono ?_;rintro e w4 ⟨rfl,ht4⟩;have HT4:=zaa ht4;clear ht4))
     go_ret;exact⟨rfl,HT4.out⟩
    ·rw[if_neg hl12,if_neg hl12];have c4:=fun (W:World) (hb:Below w.heap.size w W)=>ztj q T X d hT (by omega) (h.keep hb);clear h hk hV hy hps hh hw hg hT
     go_enter Tryz.func94,Tryz.ntmps94
     go_wp2_with (first
      |(go_at_call 125;refine c1.mono ?_;rintro e _ ⟨rfl,rfl⟩)
      |(go_at_call 160;refine c2.mono ?_;rintro e w2 ⟨rfl,hb2⟩)
      |(go_at_call 124;refine(c3 _).mono ?_;rintro e w3 ⟨rfl,hb3⟩)
      |(go_at_call 161;refine(c4 _ (thn3 hb2 hb3)).mono ?_;rintro e _ ⟨rfl,rfl⟩))
     go_ret;exact⟨rfl,HT.out _ (thn3 hb2 hb3)⟩
   ·rw[if_neg he,if_neg (fun q=>he q.1)];clear h hk hV hy hps hh hw
    go_enter Tryz.func94,Tryz.ntmps94
    go_wp2_with (first
     |(go_at_call 125;refine c1.mono ?_;rintro e _ ⟨rfl,rfl⟩)
     |(go_at_call 160;refine c2.mono ?_;rintro e w2 ⟨rfl,hb2⟩)
     |(go_at_call 124;refine(c3 _).mono ?_;rintro e w3 ⟨rfl,hb3⟩))
    go_ret;exact⟨rfl,HT.out _ (thn3 hb2 hb3)⟩
end
end Go.Proofs.YtkkekopomiehlabGreatDoor
