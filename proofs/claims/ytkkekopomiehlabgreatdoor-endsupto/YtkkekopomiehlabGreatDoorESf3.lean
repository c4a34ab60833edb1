import Derived.Test.YtkkekopomiehlabGreatDoorEPy16
set_option linter.unusedVariables false
set_option linter.unusedSimpArgs false
set_option maxHeartbeats 40000000
open List renaming setIfInBounds_toArray->xe,getElem_cons_zero->xf,getElem_cons_succ->xg,getElem_toArray->xh,set_cons_zero->xj,set_cons_succ->xm,getElem?_map->xo,getElem?_eq_getElem->xq,getElem?_eq_none->xu,getElem?_append_left->xz,length_map->qd,getElem?_append_right->qf,ext_getElem?->qg,mem_of_getElem?->qh,size_toArray->qm,length_set->qp,range->qq,map_set->qu,getD->qx
open Go.Act renaming put->xp
open Option renaming map_eq_some_iff->xv
open Or renaming inl->xy,inr->qn
open Go.World renaming rangeAt_setCells_same->qe
open Go.AllReadyH renaming cons->qi,nil->qj
open Nat renaming zero_add->qk,le_refl->qo,le_succ->qv
open Go.RowKit
set_option maxRecDepth 4000
namespace Go.Proofs.YtkkekopomiehlabGreatDoor
def sfB (c:ChD)(s:SiD)(p:Int):Bool:=numB p 9&&(c.alg.getD p.toNat []).getD p.toNat false&&algB s.has (c.alg.getD p.toNat [])&&algB s.had (c.fev.getD p.toNat [])
theorem zc6 {w:World}{b o k:Nat}{cs ds:List Value}(h:w.rangeAt b o cs)(hd:∀ (j:Nat) (v:Value),ds[j]?=some v->cs[k+j]?=some v):w.rangeAt b (o+k) ds:=fun j v hj=>by
 have:=h (k+j) v (hd j v hj)
 rwa [<- Nat.add_assoc]at this
theorem zo6 (c:ChD)(s:SiD)(p:Int)(hc:c.ok)(hs:s.ok)(w:World) :
  Calls Tryz.prog 113 #[.agg c.cells.toArray,.agg s.cells.toArray,.int .i64 p] w fun e W=>e=.returned (.bool (sfB c s p))/\Below w.heap.size w W:=by
 have hq1:=zaf (belS _ (.cells s.cells.toArray 177)) (zbl (zal w (.cells c.cells.toArray 114)));have hq2:=zbl (zal (w.alloc (.cells c.cells.toArray 114)) (.cells s.cells.toArray 177));rw[show (w.alloc (.cells c.cells.toArray 114)).heap.size=w.heap.size+1 by simp]at hq2;have hB:=(belS w (.cells c.cells.toArray 114)).alloc (by simp) (.cells s.cells.toArray 177);have hnum:=fun w=>za5 p 9 w;obtain⟨R,hR⟩:∃ R,R=sfB c s p:=⟨_,rfl⟩;rw[<- hR];unfold sfB at hR;by_cases hp:0<=p/\p<9
 ·have hnn:numB p 9=true:=by unfold numB;simp;omega
  rw[hnn]at hnum hR;obtain⟨n,rfl⟩:∃ n:Nat,p=n:=⟨p.toNat,by omega⟩;rw[Int.toNat_natCast]at hR;have hn9':n<9:=by omega
  obtain⟨ra,hra⟩:∃ r,c.alg[n]?=some r:=⟨c.alg[n]'(by rw[hc.alg];omega),xq (by rw[hc.alg];omega)⟩;obtain⟨rf,hrf⟩:∃ r,c.fev[n]?=some r:=⟨c.fev[n]'(by rw[hc.fev];omega),xq (by rw[hc.fev];omega)⟩;have la:=hc.algr ra (qh hra);have lf:=hc.fevr rf (qh hrf);obtain⟨x,hx⟩:∃ x,ra[n]?=some x:=⟨ra[n]'(by omega),xq (by omega)⟩;have r1:=zc6 (k:=27+n*9) (ds:=ra.map Value.bool) hq1 (fun j v hj=>by
   rw[xo]at hj;obtain⟨b,hb,rfl⟩:=xv.1 hj;rw[ChD.cells,xo,hc.get_alg hra hb];rfl)
  have r2:=zc6 (k:=108+n*9) (ds:=rf.map Value.bool) hq1 (fun j v hj=>by
   rw[xo]at hj;obtain⟨b,hb,rfl⟩:=xv.1 hj;rw[ChD.cells,xo,hc.get_fev hrf hb];rfl)
  have r3:=zc6 (k:=0) (ds:=s.has.map Value.bool) hq2 (fun j v hj=>by
   rw[xo]at hj;obtain⟨b,hb,rfl⟩:=xv.1 hj;rw[SiD.cells,xo,qk,xz (List.getElem?_eq_some_iff.1 hb).1,hb];rfl)
  have r4:=zc6 (k:=9) (ds:=s.had.map Value.bool) hq2 (fun j v hj=>by
   rw[xo]at hj;obtain⟨b,hb,rfl⟩:=xv.1 hj;rw[SiD.cells,xo,qf (by rw[hs.1];omega),hs.1,show 9+j-9=j by omega,hb];rfl)
  rw[qk]at r1 r2 r3 r4;have k1:=r1 n (.bool x) (by rw[xo,hx];rfl);have hR1:R=(x&&algB s.has ra&&algB s.had rf):=by rw[hR];simp[qx,hra,hrf,hx]
  have a1:=fun W=>zjj s.has ra hs.1 la W;have a2:=fun W=>zjj s.had rf hs.2 lf W;have i1:(Tryz.prog.info? 111).map (·.size)=some (ra.map Value.bool).length:=by rw[qd,la];exact Tryz.infoSet
  have i2:(Tryz.prog.info? 111).map (·.size)=some (rf.map Value.bool).length:=by rw[qd,lf];exact Tryz.infoSet
  have i3:(Tryz.prog.info? 111).map (·.size)=some (s.has.map Value.bool).length:=by rw[qd,hs.1];exact Tryz.infoSet
  have i4:(Tryz.prog.info? 111).map (·.size)=some (s.had.map Value.bool).length:=by rw[qd,hs.2];exact Tryz.infoSet
  have hn0 := znn n;have hn9:(n:Int)<9:=hp.2;clear hR hq1 hq2 hra hrf hx hnn hp;generalize algB s.has ra=y1 at a1 hR1;generalize algB s.had rf=y2 at a2 hR1;subst hR1;have hu49:=Tryz.underlying111;cases x with
  |false =>
   go_enter Tryz.func113,Tryz.ntmps113
   go_wp2_with (go_at_call 178;refine(hnum _).mono ?_;rintro e _ ⟨rfl,rfl⟩)
   go_ret;exact⟨rfl,hB⟩
  |true =>
   cases y1 with
   |true =>
    go_enter Tryz.func113,Tryz.ntmps113
    go_wp2_with (go_at_call 178;refine(hnum _).mono ?_;rintro e _ ⟨rfl,rfl⟩)
    refine wp_region_held_drew (S:=(fun w'=>w'.rangeAt (w.heap.size+1) 0 (s.has.map Value.bool)/\w'.rangeAt w.heap.size (27+n*9) (ra.map Value.bool)/\w'.rangeAt (w.heap.size+1) 9 (s.had.map Value.bool)/\w'.rangeAt w.heap.size (108+n*9) (rf.map Value.bool))) (by kernel_rfl) ⟨r3,r1,r4,r2⟩ (fun hH=>?_);refine wpAnyH_take (i:=0) (v:=?_) rfl (by kernel_rfl) (by kernel_rfl) (by kernel_rfl) (fun _ _ _ h=>h) (xy ⟨by rfl,?_⟩) hH ?_;rotate_left
    ·intro w' hS';(try dsimp only at hS');go_simp<;>(try with_reducible rfl)
    simp only[xp,xe,xj,xm,xh,xf,xg];refine wpAnyH_take (i:=1) (v:=.agg (s.has.map Value.bool).toArray) rfl (by kernel_rfl) (by kernel_rfl) (by kernel_rfl) (fun _ _ _ h=>h) (yieldsIf_load_mid (by rfl) _ _ rfl _ _ rfl _ _ (fun w' h=>h.1) hu49 rfl i3) hH ?_;simp only[xp,xe,xj,xm,xh,xf,xg];refine wpAnyH_take (i:=2) (v:=?_) rfl (by kernel_rfl) (by kernel_rfl) (by kernel_rfl) (fun _ _ _ h=>h) (xy ⟨by rfl,?_⟩) hH ?_;rotate_left
    ·intro w' hS';(try dsimp only at hS');go_simp<;>(try with_reducible rfl)
    simp only[xp,xe,xj,xm,xh,xf,xg];refine wpAnyH_take (i:=3) (v:=?_) rfl (by kernel_rfl) (by kernel_rfl) (by kernel_rfl) (fun _ _ _ h=>h) (xy ⟨by rfl,?_⟩) hH ?_;rotate_left
    ·intro w' hS';(try dsimp only at hS');go_simp<;>(try with_reducible rfl)
    simp only[xp,xe,xj,xm,xh,xf,xg];refine wpAnyH_take (i:=4) (v:=?_) rfl (by kernel_rfl) (by kernel_rfl) (by kernel_rfl) (fun _ _ _ h=>h) (xy ⟨by rfl,?_⟩) hH ?_;rotate_left
    ·intro w' hS';(try dsimp only at hS');go_simp<;>(try with_reducible rfl)
    simp only[xp,xe,xj,xm,xh,xf,xg];refine wpAnyH_take (i:=5) (v:=.agg (ra.map Value.bool).toArray) rfl (by kernel_rfl) (by kernel_rfl) (by kernel_rfl) (fun _ _ _ h=>h) (yieldsIf_load_mid (by rfl) _ _ rfl _ _ rfl _ _ (fun w' h=>h.2.1) hu49 rfl i1) hH ?_;simp only[xp,xe,xj,xm,xh,xf,xg];refine wpAnyH_ready (rs:=[6]) (by kernel_rfl) (by simp) ?_;refine qi rfl (fun K hK=>?_) qj
    go_simp
    refine(a1 _).mono ?_;rintro e w1 ⟨rfl,hb1⟩
    go_wp2_with fail
    refine hK.out _ _ ⟨zaf hb1 hH.1,zaf hb1 hH.2.1,zaf hb1 hH.2.2.1,zaf hb1 hH.2.2.2⟩ (fun hH2=>?_);clear hK K
    replace hH:=hH2
    (try simp only[xp,xe,xj,xm,xh,xf,xg])
    refine wpAnyH_take (i:=7) (v:=?_) rfl (by kernel_rfl) (by kernel_rfl) (by kernel_rfl) (fun _ _ _ h=>h) (xy ⟨by rfl,?_⟩) hH ?_;rotate_left
    ·intro w' hS';(try dsimp only at hS');go_simp<;>(try with_reducible rfl)
    simp only[xp,xe,xj,xm,xh,xf,xg];refine wpAnyH_take (i:=8) (v:=?_) rfl (by kernel_rfl) (by kernel_rfl) (by kernel_rfl) (fun _ _ _ h=>h) (xy ⟨by rfl,?_⟩) hH ?_;rotate_left
    ·intro w' hS';(try dsimp only at hS');go_simp<;>(try with_reducible rfl)
    simp only[xp,xe,xj,xm,xh,xf,xg];refine wpAnyH_take (i:=9) (v:=.agg (s.had.map Value.bool).toArray) rfl (by kernel_rfl) (by kernel_rfl) (by kernel_rfl) (fun _ _ _ h=>h) (yieldsIf_load_mid (by rfl) _ _ rfl _ _ rfl _ _ (fun w' h=>h.2.2.1) hu49 rfl i4) hH ?_;simp only[xp,xe,xj,xm,xh,xf,xg];refine wpAnyH_take (i:=10) (v:=?_) rfl (by kernel_rfl) (by kernel_rfl) (by kernel_rfl) (fun _ _ _ h=>h) (xy ⟨by rfl,?_⟩) hH ?_;rotate_left
    ·intro w' hS';(try dsimp only at hS');go_simp<;>(try with_reducible rfl)
    simp only[xp,xe,xj,xm,xh,xf,xg];refine wpAnyH_take (i:=11) (v:=?_) rfl (by kernel_rfl) (by kernel_rfl) (by kernel_rfl) (fun _ _ _ h=>h) (xy ⟨by rfl,?_⟩) hH ?_;rotate_left
    ·intro w' hS';(try dsimp only at hS');go_simp<;>(try with_reducible rfl)
    simp only[xp,xe,xj,xm,xh,xf,xg];refine wpAnyH_take (i:=12) (v:=?_) rfl (by kernel_rfl) (by kernel_rfl) (by kernel_rfl) (fun _ _ _ h=>h) (xy ⟨by rfl,?_⟩) hH ?_;rotate_left
    ·intro w' hS';(try dsimp only at hS');go_simp<;>(try with_reducible rfl)
    simp only[xp,xe,xj,xm,xh,xf,xg];refine wpAnyH_take (i:=13) (v:=.agg (rf.map Value.bool).toArray) rfl (by kernel_rfl) (by kernel_rfl) (by kernel_rfl) (fun _ _ _ h=>h) (yieldsIf_load_mid (by rfl) _ _ rfl _ _ rfl _ _ (fun w' h=>h.2.2.2) hu49 rfl i2) hH ?_;simp only[xp,xe,xj,xm,xh,xf,xg];refine wpAnyH_ready (rs:=[14]) (by kernel_rfl) (by simp) ?_;refine qi rfl (fun K hK=>?_) qj
    go_simp
    refine(a2 _).mono ?_;rintro e w2 ⟨rfl,hb2⟩
    go_wp2_with fail
    refine hK.out _ _ ⟨zaf hb2 hH.1,zaf hb2 hH.2.1,zaf hb2 hH.2.2.1,zaf hb2 hH.2.2.2⟩ (fun hH2=>?_);clear hK K
    replace hH:=hH2
    (try simp only[xp,xe,xj,xm,xh,xf,xg])
    refine wpAnyH_take (i:=15) (v:=?_) rfl (by kernel_rfl) (by kernel_rfl) (by kernel_rfl) (fun _ _ _ h=>h) (xy ⟨by rfl,?_⟩) hH ?_;rotate_left
    ·intro w' hS';(try dsimp only at hS');go_simp<;>(try with_reducible rfl)
    simp only[xp,xe,xj,xm,xh,xf,xg];refine wpAnyH_take (i:=16) (v:=?_) rfl (by kernel_rfl) (by kernel_rfl) (by kernel_rfl) (fun _ _ _ h=>h) (xy ⟨by rfl,?_⟩) hH ?_;rotate_left
    ·intro w' hS';(try dsimp only at hS');go_simp<;>(try with_reducible rfl)
    simp only[xp,xe,xj,xm,xh,xf,xg];refine wpAnyH_done (by kernel_rfl) ?_ _
    go_wp2_with fail
    go_ret;exact⟨zbx (by simp),(hB.drew.trans (hb1.mono (by simpa using hB.size))).trans (hb2.mono (Nat.le_trans (by simpa using hB.size) hb1.size))⟩
   |false =>
    go_enter Tryz.func113,Tryz.ntmps113
    go_wp2_with (go_at_call 178;refine(hnum _).mono ?_;rintro e _ ⟨rfl,rfl⟩)
    refine wp_region_held_drew (S:=(fun w'=>w'.rangeAt (w.heap.size+1) 0 (s.has.map Value.bool)/\w'.rangeAt w.heap.size (27+n*9) (ra.map Value.bool)/\w'.rangeAt (w.heap.size+1) 9 (s.had.map Value.bool)/\w'.rangeAt w.heap.size (108+n*9) (rf.map Value.bool))) (by kernel_rfl) ⟨r3,r1,r4,r2⟩ (fun hH=>?_);refine wpAnyH_take (i:=0) (v:=?_) rfl (by kernel_rfl) (by kernel_rfl) (by kernel_rfl) (fun _ _ _ h=>h) (xy ⟨by rfl,?_⟩) hH ?_;rotate_left
    ·intro w' hS';(try dsimp only at hS');go_simp<;>(try with_reducible rfl)
    simp only[xp,xe,xj,xm,xh,xf,xg];refine wpAnyH_take (i:=1) (v:=.agg (s.has.map Value.bool).toArray) rfl (by kernel_rfl) (by kernel_rfl) (by kernel_rfl) (fun _ _ _ h=>h) (yieldsIf_load_mid (by rfl) _ _ rfl _ _ rfl _ _ (fun w' h=>h.1) hu49 rfl i3) hH ?_;simp only[xp,xe,xj,xm,xh,xf,xg];refine wpAnyH_take (i:=2) (v:=?_) rfl (by kernel_rfl) (by kernel_rfl) (by kernel_rfl) (fun _ _ _ h=>h) (xy ⟨by rfl,?_⟩) hH ?_;rotate_left
    ·intro w' hS';(try dsimp only at hS');go_simp<;>(try with_reducible rfl)
    simp only[xp,xe,xj,xm,xh,xf,xg];refine wpAnyH_take (i:=3) (v:=?_) rfl (by kernel_rfl) (by kernel_rfl) (by kernel_rfl) (fun _ _ _ h=>h) (xy ⟨by rfl,?_⟩) hH ?_;rotate_left
    ·intro w' hS';(try dsimp only at hS');go_simp<;>(try with_reducible rfl)
    simp only[xp,xe,xj,xm,xh,xf,xg];refine wpAnyH_take (i:=4) (v:=?_) rfl (by kernel_rfl) (by kernel_rfl) (by kernel_rfl) (fun _ _ _ h=>h) (xy ⟨by rfl,?_⟩) hH ?_;rotate_left
    ·intro w' hS';(try dsimp only at hS');go_simp<;>(try with_reducible rfl)
    simp only[xp,xe,xj,xm,xh,xf,xg];refine wpAnyH_take (i:=5) (v:=.agg (ra.map Value.bool).toArray) rfl (by kernel_rfl) (by kernel_rfl) (by kernel_rfl) (fun _ _ _ h=>h) (yieldsIf_load_mid (by rfl) _ _ rfl _ _ rfl _ _ (fun w' h=>h.2.1) hu49 rfl i1) hH ?_;simp only[xp,xe,xj,xm,xh,xf,xg];refine wpAnyH_ready (rs:=[6]) (by kernel_rfl) (by simp) ?_;refine qi rfl (fun K hK=>?_) qj
    go_simp
    refine(a1 _).mono ?_;rintro e w1 ⟨rfl,hb1⟩
    go_wp2_with fail
    refine hK.out _ _ ⟨zaf hb1 hH.1,zaf hb1 hH.2.1,zaf hb1 hH.2.2.1,zaf hb1 hH.2.2.2⟩ (fun hH2=>?_);clear hK K
    replace hH:=hH2
    (try simp only[xp,xe,xj,xm,xh,xf,xg])
    refine wpAnyH_take (i:=7) (v:=?_) rfl (by kernel_rfl) (by kernel_rfl) (by kernel_rfl) (fun _ _ _ h=>h) (xy ⟨by rfl,?_⟩) hH ?_;rotate_left
    ·intro w' hS';(try dsimp only at hS');go_simp<;>(try with_reducible rfl)
    simp only[xp,xe,xj,xm,xh,xf,xg];refine wpAnyH_take (i:=8) (v:=undef) rfl (by kernel_rfl) (by kernel_rfl) (by kernel_rfl) (fun _ _ _ h=>h) (qn ⟨by rfl,rfl⟩) hH ?_;simp only[xp,xe,xj,xm,xh,xf,xg];refine wpAnyH_take (i:=9) (v:=undef) rfl (by kernel_rfl) (by kernel_rfl) (by kernel_rfl) (fun _ _ _ h=>h) (qn ⟨by rfl,rfl⟩) hH ?_;simp only[xp,xe,xj,xm,xh,xf,xg];refine wpAnyH_take (i:=10) (v:=undef) rfl (by kernel_rfl) (by kernel_rfl) (by kernel_rfl) (fun _ _ _ h=>h) (qn ⟨by rfl,rfl⟩) hH ?_;simp only[xp,xe,xj,xm,xh,xf,xg];refine wpAnyH_take (i:=11) (v:=undef) rfl (by kernel_rfl) (by kernel_rfl) (by kernel_rfl) (fun _ _ _ h=>h) (qn ⟨by rfl,rfl⟩) hH ?_;simp only[xp,xe,xj,xm,xh,xf,xg];refine wpAnyH_take (i:=12) (v:=undef) rfl (by kernel_rfl) (by kernel_rfl) (by kernel_rfl) (fun _ _ _ h=>h) (qn ⟨by rfl,rfl⟩) hH ?_;simp only[xp,xe,xj,xm,xh,xf,xg];refine wpAnyH_take (i:=13) (v:=undef) rfl (by kernel_rfl) (by kernel_rfl) (by kernel_rfl) (fun _ _ _ h=>h) (qn ⟨by rfl,rfl⟩) hH ?_;simp only[xp,xe,xj,xm,xh,xf,xg];refine wpAnyH_take (i:=14) (v:=undef) rfl (by kernel_rfl) (by kernel_rfl) (by kernel_rfl) (fun _ _ _ h=>h) (qn ⟨by rfl,rfl⟩) hH ?_;simp only[xp,xe,xj,xm,xh,xf,xg];refine wpAnyH_take (i:=15) (v:=?_) rfl (by kernel_rfl) (by kernel_rfl) (by kernel_rfl) (fun _ _ _ h=>h) (xy ⟨by rfl,?_⟩) hH ?_;rotate_left
    ·intro w' hS';(try dsimp only at hS');go_simp<;>(try with_reducible rfl)
    simp only[xp,xe,xj,xm,xh,xf,xg];refine wpAnyH_take (i:=16) (v:=?_) rfl (by kernel_rfl) (by kernel_rfl) (by kernel_rfl) (fun _ _ _ h=>h) (xy ⟨by rfl,?_⟩) hH ?_;rotate_left
    ·intro w' hS';(try dsimp only at hS');go_simp<;>(try with_reducible rfl)
    simp only[xp,xe,xj,xm,xh,xf,xg];refine wpAnyH_done (by kernel_rfl) ?_ _
    go_wp2_with fail
    go_ret;exact⟨zbx (by simp),hB.drew.trans (hb1.mono (by simpa using hB.size))⟩
 ·have hnn:numB p 9=false:=by unfold numB;simp;omega
  rw[hnn]at hnum hR;have hR1:R=false:=hR;clear hR hq1 hq2 hp hnn;subst hR1
  go_enter Tryz.func113,Tryz.ntmps113
  go_wp2_with (go_at_call 178;refine(hnum _).mono ?_;rintro e _ ⟨rfl,rfl⟩)
  go_ret;exact⟨rfl,hB⟩
section
open Go.Lib (below_setCells)
def plI (s r:Int):Int:=if numB s 3&&numB r 3 then s*3+r else -1
theorem zkh (s r:Int)(w:World):Calls Tryz.prog 107 #[.int .i64 s,.int .i64 r] w fun e W=>e=.returned (.int .i64 (plI s r))/\Below w.heap.size w W:=by
 have n1:=fun w=>za5 s 3 w;have n2:=fun w=>za5 r 3 w;obtain⟨R,hR⟩:∃ R,R=plI s r:=⟨_,rfl⟩;rw[<- hR];unfold plI at hR;by_cases h1:0<=s/\s<3
 ·have e1:numB s 3=true:=by unfold numB;simp;omega
  rw[e1]at n1 hR;by_cases h2:0<=r/\r<3
  ·have e2:numB r 3=true:=by unfold numB;simp;omega
   rw[e2]at n2 hR;obtain⟨a1,a2⟩:=h1;obtain⟨b1,b2⟩:=h2;have hR1:R=s*3+r:=hR;clear hR e1 e2;subst hR1
   go_enter Tryz.func107,Tryz.ntmps107
   go_wp2_with (first|(go_at_call 178;have hq:=m1;refine(n2 _).mono ?_;rintro e _ ⟨rfl,rfl⟩;have m2:True:=trivial)|(go_at_call 178;refine(n1 _).mono ?_;rintro e _ ⟨rfl,rfl⟩;have m1:True:=trivial))
   go_ret;exact⟨by go_num,Below.refl _ _⟩
  ·have e2:numB r 3=false:=by unfold numB;simp;omega
   rw[e2]at n2 hR;have hR1:R=-1:=hR;clear hR h1 h2 e1 e2;subst hR1
   go_enter Tryz.func107,Tryz.ntmps107
   go_wp2_with (first|(go_at_call 178;have hq:=m1;refine(n2 _).mono ?_;rintro e _ ⟨rfl,rfl⟩;have m2:True:=trivial)|(go_at_call 178;refine(n1 _).mono ?_;rintro e _ ⟨rfl,rfl⟩;have m1:True:=trivial))
   go_ret;exact⟨rfl,Below.refl _ _⟩
 ·have e1:numB s 3=false:=by unfold numB;simp;omega
  rw[e1]at n1 hR;have hR1:R=-1:=hR;clear hR h1 e1;subst hR1
  go_enter Tryz.func107,Tryz.ntmps107
  go_wp2_with (go_at_call 178;refine(n1 _).mono ?_;rintro e _ ⟨rfl,rfl⟩)
  go_ret;exact⟨rfl,Below.refl _ _⟩
theorem zkr (p:Nat)(hp:p<9)(w:World):Calls Tryz.prog 181 #[.int .i64 p] w fun e W=>e=.returned (.agg #[.int .i64 ((p / 3:Nat):Int),.int .i64 ((p % 3:Nat):Int)])/\Below w.heap.size w W:=by
 have h1:(p:Int).tdiv 3=((p / 3:Nat):Int):=by rw[Int.tdiv_eq_ediv_of_nonneg (by omega)];omega
 have h2:(p:Int).tmod 3=((p % 3:Nat):Int):=by rw[Int.tmod_eq_emod_of_nonneg (by omega)];omega
 have h3:(p / 3:Nat)<3:=by omega
 have h4:(p % 3:Nat)<3:=by omega
 generalize (p / 3:Nat)=a at h1 h3;generalize (p % 3:Nat)=b at h2 h4
 go_enter Tryz.func181,Tryz.ntmps181
 go_wp2_with fail
 exact bodyPost_ret (v:=.agg #[.int .i64 a,.int .i64 b]) (by simp[results,Tryz.results181,go_sem]) rfl ⟨rfl,belS _ _⟩
def aftD (s:SiD)(p:Nat):SiD:=⟨((qq 9).map fun i=>if i / 3=p / 3 then false else s.has.getD i false).set p true,s.had.set p true⟩
theorem zmn {s:SiD}(h:s.ok)(p:Nat):(aftD s p).ok:=⟨by simp[aftD],by simp[aftD,h.2]⟩
theorem Tryz.infoSit:(Tryz.prog.info? 177).map (·.size)=some 18:=by kernel_rfl
theorem SiD.ok.len {s:SiD}(h:s.ok):s.cells.length=18:=by simp[SiD.cells,h.1,h.2]
theorem zcm {w:World}{b:Nat}{t:TypeId}{cs:Array Value}(h:w.heap[b]?=some (.cells cs t (0,0))):w.there b 0 cs.size:=fun j hj=>by
 rw[qk];refine⟨?_,?_⟩
 ·simp only[World.cell?,h];simp[hj]
 ·simp[World.frozen?,h]
theorem zd2 (l:List Bool):((l.map Value.bool).toArray).all (·.oneCell')=true:=by
 simp only[List.all_toArray,List.all_map];rw[List.all_eq_true];intro b _;rfl
theorem zuc (s:SiD)(p:Int)(hp:¬ (0<=p/\p<9))(hs:s.ok)(w:World):Calls Tryz.prog 114 #[.agg s.cells.toArray,.int .i64 p] w fun e W=>e=.returned (.agg s.cells.toArray)/\Below w.heap.size w W:=by
 have hnum:=fun w=>za5 p 9 w;rw[show numB p 9=false by unfold numB;simp;omega]at hnum;have hr:=zaf (belS _ (.cells #[.bool false,.bool false,.bool false,.bool false,.bool false,.bool false,.bool false,.bool false,.bool false,.bool false,.bool false,.bool false,.bool false,.bool false,.bool false,.bool false,.bool false,.bool false] 177)) (zbl (zal w (.cells s.cells.toArray 177)));have ht:=zcm (zal (w.alloc (.cells s.cells.toArray 177)) (.cells #[.bool false,.bool false,.bool false,.bool false,.bool false,.bool false,.bool false,.bool false,.bool false,.bool false,.bool false,.bool false,.bool false,.bool false,.bool false,.bool false,.bool false,.bool false] 177));rw[show (w.alloc (.cells s.cells.toArray 177)).heap.size=w.heap.size+1 by simp]at ht;have hB:=(belS w (.cells s.cells.toArray 177)).alloc (by simp) (.cells #[.bool false,.bool false,.bool false,.bool false,.bool false,.bool false,.bool false,.bool false,.bool false,.bool false,.bool false,.bool false,.bool false,.bool false,.bool false,.bool false,.bool false,.bool false] 177);have hl:=hs.len;have hi:(Tryz.prog.info? 177).map (·.size)=some s.cells.length:=by rw[hl];exact Tryz.infoSit
 have hi2:(Tryz.prog.info? 177).map (·.size)=some s.cells.toArray.size:=by rw[qm];exact hi
 have ht2:((w.alloc (.cells s.cells.toArray 177)).alloc (.cells #[.bool false,.bool false,.bool false,.bool false,.bool false,.bool false,.bool false,.bool false,.bool false,.bool false,.bool false,.bool false,.bool false,.bool false,.bool false,.bool false,.bool false,.bool false] 177)).there (w.heap.size+1) 0 s.cells.toArray.size:=by rw[show s.cells.toArray.size=18 by simpa using hl];exact ht
 have h1:s.cells.toArray.all (·.oneCell')=true:=zd2 _;clear ht hl
 go_enter Tryz.func114,Tryz.ntmps114
 go_wp2_with (first
  |(refine wpList_load_mid (w:=(w.alloc (.cells s.cells.toArray 177)).alloc (.cells #[.bool false,.bool false,.bool false,.bool false,.bool false,.bool false,.bool false,.bool false,.bool false,.bool false,.bool false,.bool false,.bool false,.bool false,.bool false,.bool false,.bool false,.bool false] 177)) rfl 177 _ rfl _ _ rfl s.cells _ hr Tryz.underlying177 rfl hi ?_)
  |(refine wpList_store_mid (w:=(w.alloc (.cells s.cells.toArray 177)).alloc (.cells #[.bool false,.bool false,.bool false,.bool false,.bool false,.bool false,.bool false,.bool false,.bool false,.bool false,.bool false,.bool false,.bool false,.bool false,.bool false,.bool false,.bool false,.bool false] 177)) rfl 177 _ _ rfl (w.heap.size+1) 0 s.cells.toArray rfl rfl ht2 hi2 h1 ?_)
  |(go_at_call 178;refine(hnum _).mono ?_;rintro e _ ⟨rfl,rfl⟩))
 have hrs:=qe ((w.alloc (.cells s.cells.toArray 177)).alloc (.cells #[.bool false,.bool false,.bool false,.bool false,.bool false,.bool false,.bool false,.bool false,.bool false,.bool false,.bool false,.bool false,.bool false,.bool false,.bool false,.bool false,.bool false,.bool false] 177)) (w.heap.size+1) 0 s.cells (by simpa using ht2);refine bodyPost_ret (v:=.agg s.cells.toArray) ?_ rfl ⟨rfl,below_setCells (w.heap.size+1) (qv _) _ _ hB⟩;have hlv:=run_loadVar_mid (P:=Tryz.prog) _ (w.heap.size+1) 0 177 s.cells _ hrs Tryz.underlying177 rfl hi;simp[results,Tryz.results114,asAddr,xp,hlv]
end
section
open Go.Lib (below_setCells)
def curB (s:SiD)(p i:Nat):List Bool:=(qq 9).map fun k=>if k<i/\k / 3=p / 3 then false else s.has.getD k false
theorem zbs (s:SiD)(p i:Nat):(curB s p i).length=9:=by simp[curB]
theorem zgb (s:SiD)(p i k:Nat)(hk:k<9):(curB s p i)[k]?=some (if k<i/\k / 3=p / 3 then false else s.has.getD k false):=by
 rw[curB,xo,List.getElem?_range hk];rfl
theorem zvt {s:SiD}(h:s.ok)(p:Nat):curB s p 0=s.has:=by
 apply qg;intro k;by_cases hk:k<9
 ·rw[zgb s p 0 k hk,if_neg (by omega)];simp[qx,xq (show k<s.has.length by rw[h.1];exact hk)]
 ·rw[xu (by rw[zbs];omega),xu (by rw[h.1];omega)]
theorem zvs {s:SiD}{p i:Nat}(hi:i<9)(he:i / 3=p / 3):curB s p (i+1)=(curB s p i).set i false:=by
 apply qg;intro k;by_cases hk:k<9
 ·rw[zgb s p (i+1) k hk,List.getElem?_set];by_cases hki:i=k
  ·subst hki;rw[if_pos (show i<i+1/\i / 3=p / 3 from⟨by omega,he⟩),if_pos rfl,if_pos (by rw[zbs];exact hi)]
  ·rw[if_neg hki,zgb s p i k hk];by_cases hc:k<i/\k / 3=p / 3
   ·rw[if_pos hc,if_pos ⟨by omega,hc.2⟩]
   ·rw[if_neg hc,if_neg (by omega)]
 ·rw[xu (by rw[zbs];omega),xu (by rw[qp,zbs];omega)]
theorem zvr {s:SiD}{p i:Nat}(hi:i<9)(he:i / 3≠p / 3):curB s p (i+1)=curB s p i:=by
 apply qg;intro k;by_cases hk:k<9
 ·rw[zgb s p (i+1) k hk,zgb s p i k hk];by_cases hki:i=k
  ·subst hki;rw[if_neg (by omega),if_neg (by omega)]
  ·by_cases hc:k<i/\k / 3=p / 3
   ·rw[if_pos hc,if_pos ⟨by omega,hc.2⟩]
   ·rw[if_neg hc,if_neg (by omega)]
 ·rw[xu (by rw[zbs];omega),xu (by rw[zbs];omega)]
theorem zvq (s:SiD)(p:Nat):curB s p 9=(qq 9).map fun i=>if i / 3=p / 3 then false else s.has.getD i false:=by
 unfold curB;refine List.map_congr_left fun k hk=>?_;have:=List.mem_range.1 hk;by_cases h:k / 3=p / 3
 ·rw[if_pos ⟨this,h⟩,if_pos h]
 ·rw[if_neg (by omega),if_neg h]
theorem zrt {a b:List Bool}{i:Nat}{x:Bool}(h:i<a.length):((a++b).map Value.bool).set i (.bool x)=((a.set i x)++b).map Value.bool:=by
 rw[<- qu,List.set_append_left _ _ h]
theorem yacd {a b:List Bool}{i:Nat}{x:Bool}(h:a.length=9):((a++b).map Value.bool).set (9+i) (.bool x)=(a++b.set i x).map Value.bool:=by
 rw[<- qu,List.set_append_right _ _ (by omega),h,show 9+i-9=i by omega]
theorem zw5 (x y:Int)(W:World):(Instr.field 62 (.agg #[.int .i64 x,.int .i64 y]) 0).run Tryz.prog W=.ok (.int .i64 x) W:=by kernel_rfl
theorem zub (s:SiD)(p:Nat)(hp:p<9)(hs:s.ok)(w:World):Calls Tryz.prog 114 #[.agg s.cells.toArray,.int .i64 p] w fun e W=>e=.returned (.agg (aftD s p).cells.toArray)/\Below w.heap.size w W:=by
 have hnum:=fun w=>za5 p 9 w;rw[show numB (p:Int) 9=true by unfold numB;simp;omega]at hnum;have hmv:=fun w=>zkr p hp w;have hrow0:RowIs ((w.alloc (.cells s.cells.toArray 177)).alloc (.cells #[.bool false,.bool false,.bool false,.bool false,.bool false,.bool false,.bool false,.bool false,.bool false,.bool false,.bool false,.bool false,.bool false,.bool false,.bool false,.bool false,.bool false,.bool false] 177)) w.heap.size 177 ((curB s p 0++s.had).map Value.bool):=by
  rw[zvt hs];exact RowIs.keep (w:=w.alloc (.cells s.cells.toArray 177)) (zal w _) (belS _ _)
 have hres0:RowIs ((w.alloc (.cells s.cells.toArray 177)).alloc (.cells #[.bool false,.bool false,.bool false,.bool false,.bool false,.bool false,.bool false,.bool false,.bool false,.bool false,.bool false,.bool false,.bool false,.bool false,.bool false,.bool false,.bool false,.bool false] 177)) (w.heap.size+1) 177 ([.bool false,.bool false,.bool false,.bool false,.bool false,.bool false,.bool false,.bool false,.bool false,.bool false,.bool false,.bool false,.bool false,.bool false,.bool false,.bool false,.bool false,.bool false]):=by
  have:=zal (w.alloc (.cells s.cells.toArray 177)) (.cells #[.bool false,.bool false,.bool false,.bool false,.bool false,.bool false,.bool false,.bool false,.bool false,.bool false,.bool false,.bool false,.bool false,.bool false,.bool false,.bool false,.bool false,.bool false] 177);rw[show (w.alloc (.cells s.cells.toArray 177)).heap.size=w.heap.size+1 by simp]at this;exact this
 have hB0:=(belS w (.cells s.cells.toArray 177)).alloc (by simp) (.cells #[.bool false,.bool false,.bool false,.bool false,.bool false,.bool false,.bool false,.bool false,.bool false,.bool false,.bool false,.bool false,.bool false,.bool false,.bool false,.bool false,.bool false,.bool false] 177);have HS:= zaa hs;have hn0 := znn p;have hn9:(p:Int)<9:=by omega
 have hq3:p / 3<3:=by omega
 obtain⟨q,hq⟩:∃ q,q=p / 3:=⟨_,rfl⟩;rw[<- hq]at hmv;have HQ:= zaa hq;clear hs hq;have hfm:=zw5;generalize p % 3=r0 at hmv
 go_enter Tryz.func114,Tryz.ntmps114
 go_wp2_with (first
  |(go_at_call 178;refine(hnum _).mono ?_;rintro e _ ⟨rfl,rfl⟩)
  |(go_at_call 181;refine(hmv _).mono ?_;rintro e w1 ⟨rfl,hb1⟩))
 go_loopw [6] (fun vi wr=>∃ i:Nat,i<=9/\vi=.int .i64 i/\RowIs wr w.heap.size 177 ((curB s p i++s.had).map Value.bool)/\RowIs wr (w.heap.size+1) 177 ([.bool false,.bool false,.bool false,.bool false,.bool false,.bool false,.bool false,.bool false,.bool false,.bool false,.bool false,.bool false,.bool false,.bool false,.bool false,.bool false,.bool false,.bool false])/\Below w.heap.size w wr) (fun i _=>9-(intOf i).toNat)
 case atStart=>exact⟨0,by omega,rfl,hrow0.keep hb1,hres0.keep hb1,thn3 hB0 hb1⟩
 case round =>
  obtain⟨i,hi,rfl,hrow,hres,hb⟩:=hrel
  rename World=>w5
  have hgl:=hrow.lt;by_cases hlt:i<9
  ·have hmi:=fun w=>zkr i hlt w;have hx0 := znn i;have hx9:(i:Int)<9:=by omega
   by_cases he:i / 3=p / 3
   ·have he':(((i / 3:Nat):Int) == (q:Int))=true:=by rw[HQ.out];simp;omega
    have hc:=zvs (s:=s) hlt he;generalize i / 3=a at hmi he';generalize i % 3=b at hmi;have hcell:w5.cell? ⟨w.heap.size,i,none⟩=some (.bool ((curB s p i)[i]'(by rw[zbs];exact hlt))):=hrow.cell (by rw[xo,xz (by rw[zbs];exact hlt),xq (by rw[zbs];exact hlt)];rfl);have hfz:=hrow.frozen i;have HRow:= zaa hrow;have HRes:= zaa hres;have HC:= zaa hc;clear hrow hres hc he hrow0 hres0
    go_wp2_with (go_at_call 181;refine(hmi _).mono ?_;rintro e w2 ⟨rfl,hb2⟩;have k1:=zab hb2 hcell;have k2:w2.frozen? ⟨w.heap.size,i,none⟩=false:=(hb2.frozen (p:=⟨w.heap.size,i,none⟩) (by simpa using hgl)).trans hfz)
    go_roundw
    case rel =>
     refine⟨i+1,by omega,by go_num,?_,(HRes.out.keep hb2).setOther (by show w.heap.size≠w.heap.size+1;omega) _,(thn3 hb hb2).setCell (qo _) _⟩;have:=(HRow.out.keep hb2).set i (.bool false);rw[zrt (by rw[zbs];exact hlt),<- HC.out]at this;exact this
    case measure=>simp[intOf];omega
   ·have he':(((i / 3:Nat):Int) == (q:Int))=false:=by rw[HQ.out];simp;omega
    have hc:=zvr (s:=s) hlt he;generalize i / 3=a at hmi he';generalize i % 3=b at hmi;have HRow:= zaa hrow;have HRes:= zaa hres;have HC:= zaa hc;clear hrow hres hc he hrow0 hres0
    go_wp2_with (go_at_call 181;refine(hmi _).mono ?_;rintro e w2 ⟨rfl,hb2⟩)
    go_roundw
    case rel=>exact⟨i+1,by omega,by go_num,by rw[HC.out];exact HRow.out.keep hb2,HRes.out.keep hb2,thn3 hb hb2⟩
    case measure=>simp[intOf];omega
  ·have hie:i=9:=by omega
   subst hie;have hs:=HS.out;have hcA:w5.cell? ⟨w.heap.size,p,none⟩=some (.bool ((curB s p 9)[p]'(by rw[zbs];exact hp))):=hrow.cell (by rw[xo,xz (by rw[zbs];exact hp),xq (by rw[zbs];exact hp)];rfl);have hcB:w5.cell? ⟨w.heap.size,9+p,none⟩=some (.bool (s.had[p]'(by rw[hs.2];exact hp))):=hrow.cell (by rw[xo,qf (by rw[zbs];omega),zbs,show 9+p-9=p by omega,xq (by rw[hs.2];exact hp)];rfl);have hfA:=hrow.frozen p;have hfB:=hrow.frozen (9+p);have row6:RowIs ((w5.setCell ⟨w.heap.size,p,none⟩ (.bool true)).setCell ⟨w.heap.size,9+p,none⟩ (.bool true)) w.heap.size 177 (aftD s p).cells:=by
    have h1:=(hrow.set p (.bool true)).set (9+p) (.bool true);rw[zrt (by rw[zbs];exact hp),yacd (by rw[qp,zbs])]at h1;rw[zvq]at h1;exact h1
   have res6:RowIs ((w5.setCell ⟨w.heap.size,p,none⟩ (.bool true)).setCell ⟨w.heap.size,9+p,none⟩ (.bool true)) (w.heap.size+1) 177 ([.bool false,.bool false,.bool false,.bool false,.bool false,.bool false,.bool false,.bool false,.bool false,.bool false,.bool false,.bool false,.bool false,.bool false,.bool false,.bool false,.bool false,.bool false]):=(hres.setOther (by show w.heap.size≠w.heap.size+1;omega) _).setOther (by show w.heap.size≠w.heap.size+1;omega) _;have hB6:Below w.heap.size w ((w5.setCell ⟨w.heap.size,p,none⟩ (.bool true)).setCell ⟨w.heap.size,9+p,none⟩ (.bool true)):=(hb.setCell (qo _) _).setCell (qo _) _;have hal:=(zmn hs p).len;have hr6:=zbl row6;have ht6:((w5.setCell ⟨w.heap.size,p,none⟩ (.bool true)).setCell ⟨w.heap.size,9+p,none⟩ (.bool true)).there (w.heap.size+1) 0 (aftD s p).cells.toArray.size:=by rw[show (aftD s p).cells.toArray.size=18 by simpa using hal];exact zcm res6
   have hi6:(Tryz.prog.info? 177).map (·.size)=some (aftD s p).cells.length:=by rw[hal];exact Tryz.infoSit
   have hi7:(Tryz.prog.info? 177).map (·.size)=some (aftD s p).cells.toArray.size:=by rw[qm];exact hi6
   have h16:(aftD s p).cells.toArray.all (·.oneCell')=true:=zd2 _;generalize (curB s p 9)[p]'(by rw[zbs];exact hp)=u1 at hcA;generalize s.had[p]'(by rw[hs.2];exact hp)=u2 at hcB;clear hrow hres row6 res6 hal hrow0 hres0 hs;obtain⟨C,hCe⟩:∃ C,C=(aftD s p).cells:=⟨_,rfl⟩;rw[<- hCe]at hr6 ht6 hi6 hi7 h16;have HCe:= zaa hCe;clear hCe
   go_wp2_with (first
    |(refine wpList_load_mid (w:=(w5.setCell ⟨w.heap.size,p,none⟩ (.bool true)).setCell ⟨w.heap.size,9+p,none⟩ (.bool true)) rfl 177 _ rfl _ _ rfl C _ hr6 Tryz.underlying177 rfl hi6 ?_)
    |(refine wpList_store_mid (w:=(w5.setCell ⟨w.heap.size,p,none⟩ (.bool true)).setCell ⟨w.heap.size,9+p,none⟩ (.bool true)) rfl 177 _ _ rfl (w.heap.size+1) 0 C.toArray rfl rfl ht6 hi7 h16 ?_))
   have hrs:=qe ((w5.setCell ⟨w.heap.size,p,none⟩ (.bool true)).setCell ⟨w.heap.size,9+p,none⟩ (.bool true)) (w.heap.size+1) 0 C (by simpa using ht6);refine bodyPost_ret (v:=.agg C.toArray) ?_ rfl ⟨by rw[HCe.out],below_setCells (w.heap.size+1) (qv _) _ _ hB6⟩;have hlv:=run_loadVar_mid (P:=Tryz.prog) _ (w.heap.size+1) 0 177 C _ hrs Tryz.underlying177 rfl hi6;simp[results,Tryz.results114,asAddr,xp,hlv]
end
end Go.Proofs.YtkkekopomiehlabGreatDoor
