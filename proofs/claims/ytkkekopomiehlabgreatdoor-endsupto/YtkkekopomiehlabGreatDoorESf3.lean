import Derived.Test.YtkkekopomiehlabGreatDoorEPy15
set_option linter.unusedVariables false
set_option linter.unusedSimpArgs false
set_option maxHeartbeats 40000000
set_option maxRecDepth 4000
open List renaming setIfInBounds_toArray->xe,getElem_cons_zero->xf,getElem_cons_succ->xg,getElem_toArray->xh,set_cons_zero->xj,set_cons_succ->xm,getElem?_map->xq,getElem?_eq_getElem->xu,getElem?_eq_none->xz,length_map->qe,getElem?_append_left->qh,getElem?_append_right->qo,size_toArray->qq,ext_getElem?->qu,map_cons->qv,mem_of_getElem?->q9,length_set->uh,range->ui,map_set->uj,getD->ul
open ByteArray renaming size_append->xo,empty->xp,data_append->qx,append_assoc->uk,ext->um
open Go.Act renaming put->xv
open Go.World renaming rangeAt_setCells_same->xy,rangeAt_setCells_apart->qm,there_setCells->qy
open Option renaming map_eq_some_iff->qd
open Int renaming toNat_natCast->qf
open Or renaming inl->qg,inr->uf
open Nat renaming add_assoc->qi,zero_add->qj,le_refl->qk,pow_succ->qn,add_zero->ue,le_succ->ug
open Option.some renaming injEq->qp
open Go.AllReadyH renaming cons->ua,nil->ud
open Prod.mk renaming injEq->uc
namespace Go.Proofs.YtkkekopomiehlabGreatDoor
section
open Go.RowKit
def sfB (c:ChD)(s:SiD)(p:Int):Bool:=numB p 9&&(c.alg.getD p.toNat []).getD p.toNat false&&algB s.has (c.alg.getD p.toNat [])&&algB s.had (c.fev.getD p.toNat [])
theorem zc6 {w:World}{b o k:Nat}{cs ds:List Value}(h:w.rangeAt b o cs)(hd:∀ (j:Nat) (v:Value),ds[j]?=some v->cs[k+j]?=some v):w.rangeAt b (o+k) ds:=fun j v hj=>by
 have:=h (k+j) v (hd j v hj)
 rwa [<- qi]at this
theorem zo6 (c:ChD)(s:SiD)(p:Int)(hc:c.ok)(hs:s.ok)(w:World) :
  Calls Tryz.prog 113 #[.agg c.cells.toArray,.agg s.cells.toArray,.int .i64 p] w fun e W=>e=.returned (.bool (sfB c s p))/\Below w.heap.size w W:=by
 have hq1:=zaf (belS _ (.cells s.cells.toArray 177)) (zbl (zal w (.cells c.cells.toArray 114)));have hq2:=zbl (zal (w.alloc (.cells c.cells.toArray 114)) (.cells s.cells.toArray 177));rw[show (w.alloc (.cells c.cells.toArray 114)).heap.size=w.heap.size+1 by simp]at hq2;have hB:=(belS w (.cells c.cells.toArray 114)).alloc (by simp) (.cells s.cells.toArray 177);have hnum:=fun w=>za5 p 9 w;obtain⟨R,hR⟩:∃ R,R=sfB c s p:=⟨_,rfl⟩;rw[<- hR];unfold sfB at hR;by_cases hp:0<=p/\p<9
 ·have hnn:numB p 9=true:=by unfold numB;simp;omega
  rw[hnn]at hnum hR;obtain⟨n,rfl⟩:∃ n:Nat,p=n:=⟨p.toNat,by omega⟩;rw[qf]at hR;have hn9':n<9:=by omega
  obtain⟨ra,hra⟩:∃ r,c.alg[n]?=some r:=⟨c.alg[n]'(by rw[hc.alg];omega),xu (by rw[hc.alg];omega)⟩;obtain⟨rf,hrf⟩:∃ r,c.fev[n]?=some r:=⟨c.fev[n]'(by rw[hc.fev];omega),xu (by rw[hc.fev];omega)⟩;have la:=hc.algr ra (q9 hra);have lf:=hc.fevr rf (q9 hrf);obtain⟨x,hx⟩:∃ x,ra[n]?=some x:=⟨ra[n]'(by omega),xu (by omega)⟩;have r1:=zc6 (k:=27+n*9) (ds:=ra.map Value.bool) hq1 (fun j v hj=>by
   rw[xq]at hj;obtain⟨b,hb,rfl⟩:=qd.1 hj;rw[ChD.cells,xq,hc.get_alg hra hb];rfl)
  have r2:=zc6 (k:=108+n*9) (ds:=rf.map Value.bool) hq1 (fun j v hj=>by
   rw[xq]at hj;obtain⟨b,hb,rfl⟩:=qd.1 hj;rw[ChD.cells,xq,hc.get_fev hrf hb];rfl)
  have r3:=zc6 (k:=0) (ds:=s.has.map Value.bool) hq2 (fun j v hj=>by
   rw[xq]at hj;obtain⟨b,hb,rfl⟩:=qd.1 hj;rw[SiD.cells,xq,qj,qh (List.getElem?_eq_some_iff.1 hb).1,hb];rfl)
  have r4:=zc6 (k:=9) (ds:=s.had.map Value.bool) hq2 (fun j v hj=>by
   rw[xq]at hj;obtain⟨b,hb,rfl⟩:=qd.1 hj;rw[SiD.cells,xq,qo (by rw[hs.1];omega),hs.1,show 9+j-9=j by omega,hb];rfl)
  rw[qj]at r1 r2 r3 r4;have k1:=r1 n (.bool x) (by rw[xq,hx];rfl);have hR1:R=(x&&algB s.has ra&&algB s.had rf):=by rw[hR];simp[ul,hra,hrf,hx]
  have a1:=fun W=>zjj s.has ra hs.1 la W;have a2:=fun W=>zjj s.had rf hs.2 lf W;have i1:(Tryz.prog.info? 111).map (·.size)=some (ra.map Value.bool).length:=by rw[qe,la];exact Tryz.infoSet
  have i2:(Tryz.prog.info? 111).map (·.size)=some (rf.map Value.bool).length:=by rw[qe,lf];exact Tryz.infoSet
  have i3:(Tryz.prog.info? 111).map (·.size)=some (s.has.map Value.bool).length:=by rw[qe,hs.1];exact Tryz.infoSet
  have i4:(Tryz.prog.info? 111).map (·.size)=some (s.had.map Value.bool).length:=by rw[qe,hs.2];exact Tryz.infoSet
  have hn0 := znn n;have hn9:(n:Int)<9:=hp.2;clear hR hq1 hq2 hra hrf hx hnn hp;generalize algB s.has ra=y1 at a1 hR1;generalize algB s.had rf=y2 at a2 hR1;subst hR1;have hu49:=Tryz.underlying111;cases x with
  |false =>
   go_enter Tryz.func113,Tryz.ntmps113
   go_wp2_with (go_at_call 178;refine(hnum _).mono ?_;rintro e _ ⟨rfl,rfl⟩)
   go_ret;exact⟨rfl,hB⟩
  |true =>
   cases y1 with
   |true =>
    go_enter Tryz.func113,Tryz.ntmps113
    go_wp2_with (go_at_call 178;refine(hnum _).mono ?_;rintro e _ ⟨rfl,rfl⟩)
    refine wp_region_held_drew (S:=(fun w'=>w'.rangeAt (w.heap.size+1) 0 (s.has.map Value.bool)/\w'.rangeAt w.heap.size (27+n*9) (ra.map Value.bool)/\w'.rangeAt (w.heap.size+1) 9 (s.had.map Value.bool)/\w'.rangeAt w.heap.size (108+n*9) (rf.map Value.bool))) (by kernel_rfl) ⟨r3,r1,r4,r2⟩ (fun hH=>?_);refine wpAnyH_take (i:=0) (v:=?_) rfl (by kernel_rfl) (by kernel_rfl) (by kernel_rfl) (fun _ _ _ h=>h) (qg ⟨by rfl,?_⟩) hH ?_;rotate_left
    ·intro w' hS';(try dsimp only at hS');go_simp<;>(try with_reducible rfl)
    simp only[xv,xe,xj,xm,xh,xf,xg];refine wpAnyH_take (i:=1) (v:=.agg (s.has.map Value.bool).toArray) rfl (by kernel_rfl) (by kernel_rfl) (by kernel_rfl) (fun _ _ _ h=>h) (yieldsIf_load_mid (by rfl) _ _ rfl _ _ rfl _ _ (fun w' h=>h.1) hu49 rfl i3) hH ?_;simp only[xv,xe,xj,xm,xh,xf,xg];refine wpAnyH_take (i:=2) (v:=?_) rfl (by kernel_rfl) (by kernel_rfl) (by kernel_rfl) (fun _ _ _ h=>h) (qg ⟨by rfl,?_⟩) hH ?_;rotate_left
    ·intro w' hS';(try dsimp only at hS');go_simp<;>(try with_reducible rfl)
    simp only[xv,xe,xj,xm,xh,xf,xg];refine wpAnyH_take (i:=3) (v:=?_) rfl (by kernel_rfl) (by kernel_rfl) (by kernel_rfl) (fun _ _ _ h=>h) (qg ⟨by rfl,?_⟩) hH ?_;rotate_left
    ·intro w' hS';(try dsimp only at hS');go_simp<;>(try with_reducible rfl)
    simp only[xv,xe,xj,xm,xh,xf,xg];refine wpAnyH_take (i:=4) (v:=?_) rfl (by kernel_rfl) (by kernel_rfl) (by kernel_rfl) (fun _ _ _ h=>h) (qg ⟨by rfl,?_⟩) hH ?_;rotate_left
    ·intro w' hS';(try dsimp only at hS');go_simp<;>(try with_reducible rfl)
    simp only[xv,xe,xj,xm,xh,xf,xg];refine wpAnyH_take (i:=5) (v:=.agg (ra.map Value.bool).toArray) rfl (by kernel_rfl) (by kernel_rfl) (by kernel_rfl) (fun _ _ _ h=>h) (yieldsIf_load_mid (by rfl) _ _ rfl _ _ rfl _ _ (fun w' h=>h.2.1) hu49 rfl i1) hH ?_;simp only[xv,xe,xj,xm,xh,xf,xg];refine wpAnyH_ready (rs:=[6]) (by kernel_rfl) (by simp) ?_;refine ua rfl (fun K hK=>?_) ud
    go_simp
    refine(a1 _).mono ?_;rintro e w1 ⟨rfl,hb1⟩
    go_wp2_with fail
    refine hK.out _ _ ⟨zaf hb1 hH.1,zaf hb1 hH.2.1,zaf hb1 hH.2.2.1,zaf hb1 hH.2.2.2⟩ (fun hH2=>?_);clear hK K
    replace hH:=hH2
    (try simp only[xv,xe,xj,xm,xh,xf,xg])
    refine wpAnyH_take (i:=7) (v:=?_) rfl (by kernel_rfl) (by kernel_rfl) (by kernel_rfl) (fun _ _ _ h=>h) (qg ⟨by rfl,?_⟩) hH ?_;rotate_left
    ·intro w' hS';(try dsimp only at hS');go_simp<;>(try with_reducible rfl)
    simp only[xv,xe,xj,xm,xh,xf,xg];refine wpAnyH_take (i:=8) (v:=?_) rfl (by kernel_rfl) (by kernel_rfl) (by kernel_rfl) (fun _ _ _ h=>h) (qg ⟨by rfl,?_⟩) hH ?_;rotate_left
    ·intro w' hS';(try dsimp only at hS');go_simp<;>(try with_reducible rfl)
    simp only[xv,xe,xj,xm,xh,xf,xg];refine wpAnyH_take (i:=9) (v:=.agg (s.had.map Value.bool).toArray) rfl (by kernel_rfl) (by kernel_rfl) (by kernel_rfl) (fun _ _ _ h=>h) (yieldsIf_load_mid (by rfl) _ _ rfl _ _ rfl _ _ (fun w' h=>h.2.2.1) hu49 rfl i4) hH ?_;simp only[xv,xe,xj,xm,xh,xf,xg];refine wpAnyH_take (i:=10) (v:=?_) rfl (by kernel_rfl) (by kernel_rfl) (by kernel_rfl) (fun _ _ _ h=>h) (qg ⟨by rfl,?_⟩) hH ?_;rotate_left
    ·intro w' hS';(try dsimp only at hS');go_simp<;>(try with_reducible rfl)
    simp only[xv,xe,xj,xm,xh,xf,xg];refine wpAnyH_take (i:=11) (v:=?_) rfl (by kernel_rfl) (by kernel_rfl) (by kernel_rfl) (fun _ _ _ h=>h) (qg ⟨by rfl,?_⟩) hH ?_;rotate_left
    ·intro w' hS';(try dsimp only at hS');go_simp<;>(try with_reducible rfl)
    simp only[xv,xe,xj,xm,xh,xf,xg];refine wpAnyH_take (i:=12) (v:=?_) rfl (by kernel_rfl) (by kernel_rfl) (by kernel_rfl) (fun _ _ _ h=>h) (qg ⟨by rfl,?_⟩) hH ?_;rotate_left
    ·intro w' hS';(try dsimp only at hS');go_simp<;>(try with_reducible rfl)
    simp only[xv,xe,xj,xm,xh,xf,xg];refine wpAnyH_take (i:=13) (v:=.agg (rf.map Value.bool).toArray) rfl (by kernel_rfl) (by kernel_rfl) (by kernel_rfl) (fun _ _ _ h=>h) (yieldsIf_load_mid (by rfl) _ _ rfl _ _ rfl _ _ (fun w' h=>h.2.2.2) hu49 rfl i2) hH ?_;simp only[xv,xe,xj,xm,xh,xf,xg];refine wpAnyH_ready (rs:=[14]) (by kernel_rfl) (by simp) ?_;refine ua rfl (fun K hK=>?_) ud
    go_simp
    refine(a2 _).mono ?_;rintro e w2 ⟨rfl,hb2⟩
    go_wp2_with fail
    refine hK.out _ _ ⟨zaf hb2 hH.1,zaf hb2 hH.2.1,zaf hb2 hH.2.2.1,zaf hb2 hH.2.2.2⟩ (fun hH2=>?_);clear hK K
    replace hH:=hH2
    (try simp only[xv,xe,xj,xm,xh,xf,xg])
    refine wpAnyH_take (i:=15) (v:=?_) rfl (by kernel_rfl) (by kernel_rfl) (by kernel_rfl) (fun _ _ _ h=>h) (qg ⟨by rfl,?_⟩) hH ?_;rotate_left
    ·intro w' hS';(try dsimp only at hS');go_simp<;>(try with_reducible rfl)
    simp only[xv,xe,xj,xm,xh,xf,xg];refine wpAnyH_take (i:=16) (v:=?_) rfl (by kernel_rfl) (by kernel_rfl) (by kernel_rfl) (fun _ _ _ h=>h) (qg ⟨by rfl,?_⟩) hH ?_;rotate_left
    ·intro w' hS';(try dsimp only at hS');go_simp<;>(try with_reducible rfl)
    simp only[xv,xe,xj,xm,xh,xf,xg];refine wpAnyH_done (by kernel_rfl) ?_ _
    go_wp2_with fail
    go_ret;exact⟨zbx (by simp),(hB.drew.trans (hb1.mono (by simpa using hB.size))).trans (hb2.mono (Nat.le_trans (by simpa using hB.size) hb1.size))⟩
   |false =>
    go_enter Tryz.func113,Tryz.ntmps113
    go_wp2_with (go_at_call 178;refine(hnum _).mono ?_;rintro e _ ⟨rfl,rfl⟩)
    refine wp_region_held_drew (S:=(fun w'=>w'.rangeAt (w.heap.size+1) 0 (s.has.map Value.bool)/\w'.rangeAt w.heap.size (27+n*9) (ra.map Value.bool)/\w'.rangeAt (w.heap.size+1) 9 (s.had.map Value.bool)/\w'.rangeAt w.heap.size (108+n*9) (rf.map Value.bool))) (by kernel_rfl) ⟨r3,r1,r4,r2⟩ (fun hH=>?_);refine wpAnyH_take (i:=0) (v:=?_) rfl (by kernel_rfl) (by kernel_rfl) (by kernel_rfl) (fun _ _ _ h=>h) (qg ⟨by rfl,?_⟩) hH ?_;rotate_left
    ·intro w' hS';(try dsimp only at hS');go_simp<;>(try with_reducible rfl)
    simp only[xv,xe,xj,xm,xh,xf,xg];refine wpAnyH_take (i:=1) (v:=.agg (s.has.map Value.bool).toArray) rfl (by kernel_rfl) (by kernel_rfl) (by kernel_rfl) (fun _ _ _ h=>h) (yieldsIf_load_mid (by rfl) _ _ rfl _ _ rfl _ _ (fun w' h=>h.1) hu49 rfl i3) hH ?_;simp only[xv,xe,xj,xm,xh,xf,xg];refine wpAnyH_take (i:=2) (v:=?_) rfl (by kernel_rfl) (by kernel_rfl) (by kernel_rfl) (fun _ _ _ h=>h) (qg ⟨by rfl,?_⟩) hH ?_;rotate_left
    ·intro w' hS';(try dsimp only at hS');go_simp<;>(try with_reducible rfl)
    simp only[xv,xe,xj,xm,xh,xf,xg];refine wpAnyH_take (i:=3) (v:=?_) rfl (by kernel_rfl) (by kernel_rfl) (by kernel_rfl) (fun _ _ _ h=>h) (qg ⟨by rfl,?_⟩) hH ?_;rotate_left
    ·intro w' hS';(try dsimp only at hS');go_simp<;>(try with_reducible rfl)
    simp only[xv,xe,xj,xm,xh,xf,xg];refine wpAnyH_take (i:=4) (v:=?_) rfl (by kernel_rfl) (by kernel_rfl) (by kernel_rfl) (fun _ _ _ h=>h) (qg ⟨by rfl,?_⟩) hH ?_;rotate_left
    ·intro w' hS';(try dsimp only at hS');go_simp<;>(try with_reducible rfl)
    simp only[xv,xe,xj,xm,xh,xf,xg];refine wpAnyH_take (i:=5) (v:=.agg (ra.map Value.bool).toArray) rfl (by kernel_rfl) (by kernel_rfl) (by kernel_rfl) (fun _ _ _ h=>h) (yieldsIf_load_mid (by rfl) _ _ rfl _ _ rfl _ _ (fun w' h=>h.2.1) hu49 rfl i1) hH ?_;simp only[xv,xe,xj,xm,xh,xf,xg];refine wpAnyH_ready (rs:=[6]) (by kernel_rfl) (by simp) ?_;refine ua rfl (fun K hK=>?_) ud
    go_simp
    refine(a1 _).mono ?_;rintro e w1 ⟨rfl,hb1⟩
    go_wp2_with fail
    refine hK.out _ _ ⟨zaf hb1 hH.1,zaf hb1 hH.2.1,zaf hb1 hH.2.2.1,zaf hb1 hH.2.2.2⟩ (fun hH2=>?_);clear hK K
    replace hH:=hH2
    (try simp only[xv,xe,xj,xm,xh,xf,xg])
    refine wpAnyH_take (i:=7) (v:=?_) rfl (by kernel_rfl) (by kernel_rfl) (by kernel_rfl) (fun _ _ _ h=>h) (qg ⟨by rfl,?_⟩) hH ?_;rotate_left
    ·intro w' hS';(try dsimp only at hS');go_simp<;>(try with_reducible rfl)
    simp only[xv,xe,xj,xm,xh,xf,xg];refine wpAnyH_take (i:=8) (v:=undef) rfl (by kernel_rfl) (by kernel_rfl) (by kernel_rfl) (fun _ _ _ h=>h) (uf ⟨by rfl,rfl⟩) hH ?_;simp only[xv,xe,xj,xm,xh,xf,xg];refine wpAnyH_take (i:=9) (v:=undef) rfl (by kernel_rfl) (by kernel_rfl) (by kernel_rfl) (fun _ _ _ h=>h) (uf ⟨by rfl,rfl⟩) hH ?_;simp only[xv,xe,xj,xm,xh,xf,xg];refine wpAnyH_take (i:=10) (v:=undef) rfl (by kernel_rfl) (by kernel_rfl) (by kernel_rfl) (fun _ _ _ h=>h) (uf ⟨by rfl,rfl⟩) hH ?_;simp only[xv,xe,xj,xm,xh,xf,xg];refine wpAnyH_take (i:=11) (v:=undef) rfl (by kernel_rfl) (by kernel_rfl) (by kernel_rfl) (fun _ _ _ h=>h) (uf ⟨by rfl,rfl⟩) hH ?_;simp only[xv,xe,xj,xm,xh,xf,xg];refine wpAnyH_take (i:=12) (v:=undef) rfl (by kernel_rfl) (by kernel_rfl) (by kernel_rfl) (fun _ _ _ h=>h) (uf ⟨by rfl,rfl⟩) hH ?_;simp only[xv,xe,xj,xm,xh,xf,xg];refine wpAnyH_take (i:=13) (v:=undef) rfl (by kernel_rfl) (by kernel_rfl) (by kernel_rfl) (fun _ _ _ h=>h) (uf ⟨by rfl,rfl⟩) hH ?_;simp only[xv,xe,xj,xm,xh,xf,xg];refine wpAnyH_take (i:=14) (v:=undef) rfl (by kernel_rfl) (by kernel_rfl) (by kernel_rfl) (fun _ _ _ h=>h) (uf ⟨by rfl,rfl⟩) hH ?_;simp only[xv,xe,xj,xm,xh,xf,xg];refine wpAnyH_take (i:=15) (v:=?_) rfl (by kernel_rfl) (by kernel_rfl) (by kernel_rfl) (fun _ _ _ h=>h) (qg ⟨by rfl,?_⟩) hH ?_;rotate_left
    ·intro w' hS';(try dsimp only at hS');go_simp<;>(try with_reducible rfl)
    simp only[xv,xe,xj,xm,xh,xf,xg];refine wpAnyH_take (i:=16) (v:=?_) rfl (by kernel_rfl) (by kernel_rfl) (by kernel_rfl) (fun _ _ _ h=>h) (qg ⟨by rfl,?_⟩) hH ?_;rotate_left
    ·intro w' hS';(try dsimp only at hS');go_simp<;>(try with_reducible rfl)
    simp only[xv,xe,xj,xm,xh,xf,xg];refine wpAnyH_done (by kernel_rfl) ?_ _
    go_wp2_with fail
    go_ret;exact⟨zbx (by simp),hB.drew.trans (hb1.mono (by simpa using hB.size))⟩
 ·have hnn:numB p 9=false:=by unfold numB;simp;omega
  rw[hnn]at hnum hR;have hR1:R=false:=hR;clear hR hq1 hq2 hp hnn;subst hR1
  go_enter Tryz.func113,Tryz.ntmps113
  go_wp2_with (go_at_call 178;refine(hnum _).mono ?_;rintro e _ ⟨rfl,rfl⟩)
  go_ret;exact⟨rfl,hB⟩
end
section
open Go.RowKit
open Go.Lib (below_setCells)
def plI (s r:Int):Int:=if numB s 3&&numB r 3 then s*3+r else -1
theorem zkh (s r:Int)(w:World):Calls Tryz.prog 107 #[.int .i64 s,.int .i64 r] w fun e W=>e=.returned (.int .i64 (plI s r))/\Below w.heap.size w W:=by
 have n1:=fun w=>za5 s 3 w;have n2:=fun w=>za5 r 3 w;obtain⟨R,hR⟩:∃ R,R=plI s r:=⟨_,rfl⟩;rw[<- hR];unfold plI at hR;by_cases h1:0<=s/\s<3
 ·have e1:numB s 3=true:=by unfold numB;simp;omega
  rw[e1]at n1 hR;by_cases h2:0<=r/\r<3
  ·have e2:numB r 3=true:=by unfold numB;simp;omega
   rw[e2]at n2 hR;obtain⟨a1,a2⟩:=h1;obtain⟨b1,b2⟩:=h2;have hR1:R=s*3+r:=hR;clear hR e1 e2;subst hR1
   go_enter Tryz.func107,Tryz.ntmps107
   go_wp2_with (first|(go_at_call 178;have hq:=m1;refine(n2 _).mono ?_;rintro e _ ⟨rfl,rfl⟩;have m2:True:=trivial)|(go_at_call 178;refine(n1 _).mono ?_;rintro e _ ⟨rfl,rfl⟩;have m1:True:=trivial))
   go_ret;exact⟨by go_num,Below.refl _ _⟩
  ·have e2:numB r 3=false:=by unfold numB;simp;omega
   rw[e2]at n2 hR;have hR1:R=-1:=hR;clear hR h1 h2 e1 e2;subst hR1
   go_enter Tryz.func107,Tryz.ntmps107
   go_wp2_with (first|(go_at_call 178;have hq:=m1;refine(n2 _).mono ?_;rintro e _ ⟨rfl,rfl⟩;have m2:True:=trivial)|(go_at_call 178;refine(n1 _).mono ?_;rintro e _ ⟨rfl,rfl⟩;have m1:True:=trivial))
   go_ret;exact⟨rfl,Below.refl _ _⟩
 ·have e1:numB s 3=false:=by unfold numB;simp;omega
  rw[e1]at n1 hR;have hR1:R=-1:=hR;clear hR h1 e1;subst hR1
  go_enter Tryz.func107,Tryz.ntmps107
  go_wp2_with (go_at_call 178;refine(n1 _).mono ?_;rintro e _ ⟨rfl,rfl⟩)
  go_ret;exact⟨rfl,Below.refl _ _⟩
theorem zkr (p:Nat)(hp:p<9)(w:World):Calls Tryz.prog 181 #[.int .i64 p] w fun e W=>e=.returned (.agg #[.int .i64 ((p / 3:Nat):Int),.int .i64 ((p % 3:Nat):Int)])/\Below w.heap.size w W:=by
 have h1:(p:Int).tdiv 3=((p / 3:Nat):Int):=by rw[Int.tdiv_eq_ediv_of_nonneg (by omega)];omega
 have h2:(p:Int).tmod 3=((p % 3:Nat):Int):=by rw[Int.tmod_eq_emod_of_nonneg (by omega)];omega
 have h3:(p / 3:Nat)<3:=by omega
 have h4:(p % 3:Nat)<3:=by omega
 generalize (p / 3:Nat)=a at h1 h3;generalize (p % 3:Nat)=b at h2 h4
 go_enter Tryz.func181,Tryz.ntmps181
 go_wp2_with fail
 exact bodyPost_ret (v:=.agg #[.int .i64 a,.int .i64 b]) (by simp[results,Tryz.results181,go_sem]) rfl ⟨rfl,belS _ _⟩
def aftD (s:SiD)(p:Nat):SiD:=⟨((ui 9).map fun i=>if i / 3=p / 3 then false else s.has.getD i false).set p true,s.had.set p true⟩
theorem zmn {s:SiD}(h:s.ok)(p:Nat):(aftD s p).ok:=⟨by simp[aftD],by simp[aftD,h.2]⟩
theorem Tryz.infoSit:(Tryz.prog.info? 177).map (·.size)=some 18:=by kernel_rfl
theorem SiD.ok.len {s:SiD}(h:s.ok):s.cells.length=18:=by simp[SiD.cells,h.1,h.2]
theorem zcm {w:World}{b:Nat}{t:TypeId}{cs:Array Value}(h:w.heap[b]?=some (.cells cs t (0,0))):w.there b 0 cs.size:=fun j hj=>by
 rw[qj];refine⟨?_,?_⟩
 ·simp only[World.cell?,h];simp[hj]
 ·simp[World.frozen?,h]
theorem zd2 (l:List Bool):((l.map Value.bool).toArray).all (·.oneCell')=true:=by
 simp only[List.all_toArray,List.all_map];rw[List.all_eq_true];intro b _;rfl
theorem zuc (s:SiD)(p:Int)(hp:¬ (0<=p/\p<9))(hs:s.ok)(w:World):Calls Tryz.prog 114 #[.agg s.cells.toArray,.int .i64 p] w fun e W=>e=.returned (.agg s.cells.toArray)/\Below w.heap.size w W:=by
 have hnum:=fun w=>za5 p 9 w;rw[show numB p 9=false by unfold numB;simp;omega]at hnum;have hr:=zaf (belS _ (.cells #[.bool false,.bool false,.bool false,.bool false,.bool false,.bool false,.bool false,.bool false,.bool false,.bool false,.bool false,.bool false,.bool false,.bool false,.bool false,.bool false,.bool false,.bool false] 177)) (zbl (zal w (.cells s.cells.toArray 177)));have ht:=zcm (zal (w.alloc (.cells s.cells.toArray 177)) (.cells #[.bool false,.bool false,.bool false,.bool false,.bool false,.bool false,.bool false,.bool false,.bool false,.bool false,.bool false,.bool false,.bool false,.bool false,.bool false,.bool false,.bool false,.bool false] 177));rw[show (w.alloc (.cells s.cells.toArray 177)).heap.size=w.heap.size+1 by simp]at ht;have hB:=(belS w (.cells s.cells.toArray 177)).alloc (by simp) (.cells #[.bool false,.bool false,.bool false,.bool false,.bool false,.bool false,.bool false,.bool false,.bool false,.bool false,.bool false,.bool false,.bool false,.bool false,.bool false,.bool false,.bool false,.bool false] 177);have hl:=hs.len;have hi:(Tryz.prog.info? 177).map (·.size)=some s.cells.length:=by rw[hl];exact Tryz.infoSit
 have hi2:(Tryz.prog.info? 177).map (·.size)=some s.cells.toArray.size:=by rw[qq];exact hi
 have ht2:((w.alloc (.cells s.cells.toArray 177)).alloc (.cells #[.bool false,.bool false,.bool false,.bool false,.bool false,.bool false,.bool false,.bool false,.bool false,.bool false,.bool false,.bool false,.bool false,.bool false,.bool false,.bool false,.bool false,.bool false] 177)).there (w.heap.size+1) 0 s.cells.toArray.size:=by rw[show s.cells.toArray.size=18 by simpa using hl];exact ht
 have h1:s.cells.toArray.all (·.oneCell')=true:=zd2 _;clear ht hl
 go_enter Tryz.func114,Tryz.ntmps114
 go_wp2_with (first
  |(refine wpList_load_mid (w:=(w.alloc (.cells s.cells.toArray 177)).alloc (.cells #[.bool false,.bool false,.bool false,.bool false,.bool false,.bool false,.bool false,.bool false,.bool false,.bool false,.bool false,.bool false,.bool false,.bool false,.bool false,.bool false,.bool false,.bool false] 177)) rfl 177 _ rfl _ _ rfl s.cells _ hr Tryz.underlying177 rfl hi ?_)
  |(refine wpList_store_mid (w:=(w.alloc (.cells s.cells.toArray 177)).alloc (.cells #[.bool false,.bool false,.bool false,.bool false,.bool false,.bool false,.bool false,.bool false,.bool false,.bool false,.bool false,.bool false,.bool false,.bool false,.bool false,.bool false,.bool false,.bool false] 177)) rfl 177 _ _ rfl (w.heap.size+1) 0 s.cells.toArray rfl rfl ht2 hi2 h1 ?_)
  |(go_at_call 178;refine(hnum _).mono ?_;rintro e _ ⟨rfl,rfl⟩))
 have hrs:=xy ((w.alloc (.cells s.cells.toArray 177)).alloc (.cells #[.bool false,.bool false,.bool false,.bool false,.bool false,.bool false,.bool false,.bool false,.bool false,.bool false,.bool false,.bool false,.bool false,.bool false,.bool false,.bool false,.bool false,.bool false] 177)) (w.heap.size+1) 0 s.cells (by simpa using ht2);refine bodyPost_ret (v:=.agg s.cells.toArray) ?_ rfl ⟨rfl,below_setCells (w.heap.size+1) (ug _) _ _ hB⟩;have hlv:=run_loadVar_mid (P:=Tryz.prog) _ (w.heap.size+1) 0 177 s.cells _ hrs Tryz.underlying177 rfl hi;simp[results,Tryz.results114,asAddr,xv,hlv]
end
section
open Go.RowKit
open Go.Lib (below_setCells)
def curB (s:SiD)(p i:Nat):List Bool:=(ui 9).map fun k=>if k<i/\k / 3=p / 3 then false else s.has.getD k false
theorem zbs (s:SiD)(p i:Nat):(curB s p i).length=9:=by simp[curB]
theorem zgb (s:SiD)(p i k:Nat)(hk:k<9):(curB s p i)[k]?=some (if k<i/\k / 3=p / 3 then false else s.has.getD k false):=by
 rw[curB,xq,List.getElem?_range hk];rfl
theorem zvt {s:SiD}(h:s.ok)(p:Nat):curB s p 0=s.has:=by
 apply qu;intro k;by_cases hk:k<9
 ·rw[zgb s p 0 k hk,if_neg (by omega)];simp[ul,xu (show k<s.has.length by rw[h.1];exact hk)]
 ·rw[xz (by rw[zbs];omega),xz (by rw[h.1];omega)]
theorem zvs {s:SiD}{p i:Nat}(hi:i<9)(he:i / 3=p / 3):curB s p (i+1)=(curB s p i).set i false:=by
 apply qu;intro k;by_cases hk:k<9
 ·rw[zgb s p (i+1) k hk,List.getElem?_set];by_cases hki:i=k
  ·subst hki;rw[if_pos (show i<i+1/\i / 3=p / 3 from⟨by omega,he⟩),if_pos rfl,if_pos (by rw[zbs];exact hi)]
  ·rw[if_neg hki,zgb s p i k hk];by_cases hc:k<i/\k / 3=p / 3
   ·rw[if_pos hc,if_pos ⟨by omega,hc.2⟩]
   ·rw[if_neg hc,if_neg (by omega)]
 ·rw[xz (by rw[zbs];omega),xz (by rw[uh,zbs];omega)]
theorem zvr {s:SiD}{p i:Nat}(hi:i<9)(he:i / 3≠p / 3):curB s p (i+1)=curB s p i:=by
 apply qu;intro k;by_cases hk:k<9
 ·rw[zgb s p (i+1) k hk,zgb s p i k hk];by_cases hki:i=k
  ·subst hki;rw[if_neg (by omega),if_neg (by omega)]
  ·by_cases hc:k<i/\k / 3=p / 3
   ·rw[if_pos hc,if_pos ⟨by omega,hc.2⟩]
   ·rw[if_neg hc,if_neg (by omega)]
 ·rw[xz (by rw[zbs];omega),xz (by rw[zbs];omega)]
theorem zvq (s:SiD)(p:Nat):curB s p 9=(ui 9).map fun i=>if i / 3=p / 3 then false else s.has.getD i false:=by
 unfold curB;refine List.map_congr_left fun k hk=>?_;have:=List.mem_range.1 hk;by_cases h:k / 3=p / 3
 ·rw[if_pos ⟨this,h⟩,if_pos h]
 ·rw[if_neg (by omega),if_neg h]
theorem zrt {a b:List Bool}{i:Nat}{x:Bool}(h:i<a.length):((a++b).map Value.bool).set i (.bool x)=((a.set i x)++b).map Value.bool:=by
 rw[<- uj,List.set_append_left _ _ h]
theorem yacd {a b:List Bool}{i:Nat}{x:Bool}(h:a.length=9):((a++b).map Value.bool).set (9+i) (.bool x)=(a++b.set i x).map Value.bool:=by
 rw[<- uj,List.set_append_right _ _ (by omega),h,show 9+i-9=i by omega]
theorem zw5 (x y:Int)(W:World):(Instr.field 62 (.agg #[.int .i64 x,.int .i64 y]) 0).run Tryz.prog W=.ok (.int .i64 x) W:=by kernel_rfl
theorem zub (s:SiD)(p:Nat)(hp:p<9)(hs:s.ok)(w:World):Calls Tryz.prog 114 #[.agg s.cells.toArray,.int .i64 p] w fun e W=>e=.returned (.agg (aftD s p).cells.toArray)/\Below w.heap.size w W:=by
 have hnum:=fun w=>za5 p 9 w;rw[show numB (p:Int) 9=true by unfold numB;simp;omega]at hnum;have hmv:=fun w=>zkr p hp w;have hrow0:RowIs ((w.alloc (.cells s.cells.toArray 177)).alloc (.cells #[.bool false,.bool false,.bool false,.bool false,.bool false,.bool false,.bool false,.bool false,.bool false,.bool false,.bool false,.bool false,.bool false,.bool false,.bool false,.bool false,.bool false,.bool false] 177)) w.heap.size 177 ((curB s p 0++s.had).map Value.bool):=by
  rw[zvt hs];exact RowIs.keep (w:=w.alloc (.cells s.cells.toArray 177)) (zal w _) (belS _ _)
 have hres0:RowIs ((w.alloc (.cells s.cells.toArray 177)).alloc (.cells #[.bool false,.bool false,.bool false,.bool false,.bool false,.bool false,.bool false,.bool false,.bool false,.bool false,.bool false,.bool false,.bool false,.bool false,.bool false,.bool false,.bool false,.bool false] 177)) (w.heap.size+1) 177 ([.bool false,.bool false,.bool false,.bool false,.bool false,.bool false,.bool false,.bool false,.bool false,.bool false,.bool false,.bool false,.bool false,.bool false,.bool false,.bool false,.bool false,.bool false]):=by
  have:=zal (w.alloc (.cells s.cells.toArray 177)) (.cells #[.bool false,.bool false,.bool false,.bool false,.bool false,.bool false,.bool false,.bool false,.bool false,.bool false,.bool false,.bool false,.bool false,.bool false,.bool false,.bool false,.bool false,.bool false] 177);rw[show (w.alloc (.cells s.cells.toArray 177)).heap.size=w.heap.size+1 by simp]at this;exact this
 have hB0:=(belS w (.cells s.cells.toArray 177)).alloc (by simp) (.cells #[.bool false,.bool false,.bool false,.bool false,.bool false,.bool false,.bool false,.bool false,.bool false,.bool false,.bool false,.bool false,.bool false,.bool false,.bool false,.bool false,.bool false,.bool false] 177);have HS:= zaa hs;have hn0 := znn p;have hn9:(p:Int)<9:=by omega
 have hq3:p / 3<3:=by omega
 obtain⟨q,hq⟩:∃ q,q=p / 3:=⟨_,rfl⟩;rw[<- hq]at hmv;have HQ:= zaa hq;clear hs hq;have hfm:=zw5;generalize p % 3=r0 at hmv
 go_enter Tryz.func114,Tryz.ntmps114
 go_wp2_with (first
  |(go_at_call 178;refine(hnum _).mono ?_;rintro e _ ⟨rfl,rfl⟩)
  |(go_at_call 181;refine(hmv _).mono ?_;rintro e w1 ⟨rfl,hb1⟩))
 go_loopw [6] (fun vi wr=>∃ i:Nat,i<=9/\vi=.int .i64 i/\RowIs wr w.heap.size 177 ((curB s p i++s.had).map Value.bool)/\RowIs wr (w.heap.size+1) 177 ([.bool false,.bool false,.bool false,.bool false,.bool false,.bool false,.bool false,.bool false,.bool false,.bool false,.bool false,.bool false,.bool false,.bool false,.bool false,.bool false,.bool false,.bool false])/\Below w.heap.size w wr) (fun i _=>9-(intOf i).toNat)
 case atStart=>exact⟨0,by omega,rfl,hrow0.keep hb1,hres0.keep hb1,thn3 hB0 hb1⟩
 case round =>
  obtain⟨i,hi,rfl,hrow,hres,hb⟩:=hrel
  rename World=>w5
  have hgl:=hrow.lt;by_cases hlt:i<9
  ·have hmi:=fun w=>zkr i hlt w;have hx0 := znn i;have hx9:(i:Int)<9:=by omega
   by_cases he:i / 3=p / 3
   ·have he':(((i / 3:Nat):Int) == (q:Int))=true:=by rw[HQ.out];simp;omega
    have hc:=zvs (s:=s) hlt he;generalize i / 3=a at hmi he';generalize i % 3=b at hmi;have hcell:w5.cell? ⟨w.heap.size,i,none⟩=some (.bool ((curB s p i)[i]'(by rw[zbs];exact hlt))):=hrow.cell (by rw[xq,qh (by rw[zbs];exact hlt),xu (by rw[zbs];exact hlt)];rfl);have hfz:=hrow.frozen i;have HRow:= zaa hrow;have HRes:= zaa hres;have HC:= zaa hc;clear hrow hres hc he hrow0 hres0
    go_wp2_with (go_at_call 181;refine(hmi _).mono ?_;rintro e w2 ⟨rfl,hb2⟩;have k1:=zab hb2 hcell;have k2:w2.frozen? ⟨w.heap.size,i,none⟩=false:=(hb2.frozen (p:=⟨w.heap.size,i,none⟩) (by simpa using hgl)).trans hfz)
    go_roundw
    case rel =>
     refine⟨i+1,by omega,by go_num,?_,(HRes.out.keep hb2).setOther (by show w.heap.size≠w.heap.size+1;omega) _,(thn3 hb hb2).setCell (qk _) _⟩;have:=(HRow.out.keep hb2).set i (.bool false);rw[zrt (by rw[zbs];exact hlt),<- HC.out]at this;exact this
    case measure=>simp[intOf];omega
   ·have he':(((i / 3:Nat):Int) == (q:Int))=false:=by rw[HQ.out];simp;omega
    have hc:=zvr (s:=s) hlt he;generalize i / 3=a at hmi he';generalize i % 3=b at hmi;have HRow:= zaa hrow;have HRes:= zaa hres;have HC:= zaa hc;clear hrow hres hc he hrow0 hres0
    go_wp2_with (go_at_call 181;refine(hmi _).mono ?_;rintro e w2 ⟨rfl,hb2⟩)
    go_roundw
    case rel=>exact⟨i+1,by omega,by go_num,by rw[HC.out];exact HRow.out.keep hb2,HRes.out.keep hb2,thn3 hb hb2⟩
    case measure=>simp[intOf];omega
  ·have hie:i=9:=by omega
   subst hie;have hs:=HS.out;have hcA:w5.cell? ⟨w.heap.size,p,none⟩=some (.bool ((curB s p 9)[p]'(by rw[zbs];exact hp))):=hrow.cell (by rw[xq,qh (by rw[zbs];exact hp),xu (by rw[zbs];exact hp)];rfl);have hcB:w5.cell? ⟨w.heap.size,9+p,none⟩=some (.bool (s.had[p]'(by rw[hs.2];exact hp))):=hrow.cell (by rw[xq,qo (by rw[zbs];omega),zbs,show 9+p-9=p by omega,xu (by rw[hs.2];exact hp)];rfl);have hfA:=hrow.frozen p;have hfB:=hrow.frozen (9+p);have row6:RowIs ((w5.setCell ⟨w.heap.size,p,none⟩ (.bool true)).setCell ⟨w.heap.size,9+p,none⟩ (.bool true)) w.heap.size 177 (aftD s p).cells:=by
    have h1:=(hrow.set p (.bool true)).set (9+p) (.bool true);rw[zrt (by rw[zbs];exact hp),yacd (by rw[uh,zbs])]at h1;rw[zvq]at h1;exact h1
   have res6:RowIs ((w5.setCell ⟨w.heap.size,p,none⟩ (.bool true)).setCell ⟨w.heap.size,9+p,none⟩ (.bool true)) (w.heap.size+1) 177 ([.bool false,.bool false,.bool false,.bool false,.bool false,.bool false,.bool false,.bool false,.bool false,.bool false,.bool false,.bool false,.bool false,.bool false,.bool false,.bool false,.bool false,.bool false]):=(hres.setOther (by show w.heap.size≠w.heap.size+1;omega) _).setOther (by show w.heap.size≠w.heap.size+1;omega) _;have hB6:Below w.heap.size w ((w5.setCell ⟨w.heap.size,p,none⟩ (.bool true)).setCell ⟨w.heap.size,9+p,none⟩ (.bool true)):=(hb.setCell (qk _) _).setCell (qk _) _;have hal:=(zmn hs p).len;have hr6:=zbl row6;have ht6:((w5.setCell ⟨w.heap.size,p,none⟩ (.bool true)).setCell ⟨w.heap.size,9+p,none⟩ (.bool true)).there (w.heap.size+1) 0 (aftD s p).cells.toArray.size:=by rw[show (aftD s p).cells.toArray.size=18 by simpa using hal];exact zcm res6
   have hi6:(Tryz.prog.info? 177).map (·.size)=some (aftD s p).cells.length:=by rw[hal];exact Tryz.infoSit
   have hi7:(Tryz.prog.info? 177).map (·.size)=some (aftD s p).cells.toArray.size:=by rw[qq];exact hi6
   have h16:(aftD s p).cells.toArray.all (·.oneCell')=true:=zd2 _;generalize (curB s p 9)[p]'(by rw[zbs];exact hp)=u1 at hcA;generalize s.had[p]'(by rw[hs.2];exact hp)=u2 at hcB;clear hrow hres row6 res6 hal hrow0 hres0 hs;obtain⟨C,hCe⟩:∃ C,C=(aftD s p).cells:=⟨_,rfl⟩;rw[<- hCe]at hr6 ht6 hi6 hi7 h16;have HCe:= zaa hCe;clear hCe
   go_wp2_with (first
    |(refine wpList_load_mid (w:=(w5.setCell ⟨w.heap.size,p,none⟩ (.bool true)).setCell ⟨w.heap.size,9+p,none⟩ (.bool true)) rfl 177 _ rfl _ _ rfl C _ hr6 Tryz.underlying177 rfl hi6 ?_)
    |(refine wpList_store_mid (w:=(w5.setCell ⟨w.heap.size,p,none⟩ (.bool true)).setCell ⟨w.heap.size,9+p,none⟩ (.bool true)) rfl 177 _ _ rfl (w.heap.size+1) 0 C.toArray rfl rfl ht6 hi7 h16 ?_))
   have hrs:=xy ((w5.setCell ⟨w.heap.size,p,none⟩ (.bool true)).setCell ⟨w.heap.size,9+p,none⟩ (.bool true)) (w.heap.size+1) 0 C (by simpa using ht6);refine bodyPost_ret (v:=.agg C.toArray) ?_ rfl ⟨by rw[HCe.out],below_setCells (w.heap.size+1) (ug _) _ _ hB6⟩;have hlv:=run_loadVar_mid (P:=Tryz.prog) _ (w.heap.size+1) 0 177 C _ hrs Tryz.underlying177 rfl hi6;simp[results,Tryz.results114,asAddr,xv,hlv]
end
section
open Go.RowKit
open Go.Lib (below_setCells)
def begD (c:ChD):SiD:=⟨c.fst,c.fst⟩
theorem zd1 {c:ChD}(h:c.ok):(begD c).ok:=⟨h.fst,h.fst⟩
theorem zh9 {l:List Bool}(h:l.length=9):∃ b0 b1 b2 b3 b4 b5 b6 b7 b8,l=[b0,b1,b2,b3,b4,b5,b6,b7,b8]:=by
 match l,h with
 |[b0,b1,b2,b3,b4,b5,b6,b7,b8],_=>exact⟨b0,b1,b2,b3,b4,b5,b6,b7,b8,rfl⟩
theorem zjo (c:ChD)(hc:c.ok)(w:World):Calls Tryz.prog 111 #[.agg c.cells.toArray] w fun e W=>e=.returned (.agg (begD c).cells.toArray)/\Below w.heap.size w W:=by
 have hq1:=zaf (belS _ (.cells #[.bool false,.bool false,.bool false,.bool false,.bool false,.bool false,.bool false,.bool false,.bool false,.bool false,.bool false,.bool false,.bool false,.bool false,.bool false,.bool false,.bool false,.bool false] 177)) (zbl (zal w (.cells c.cells.toArray 114)));have r1:=zc6 (k:=9) (ds:=c.fst.map Value.bool) hq1 (fun j v hj=>by
   rw[xq]at hj;obtain⟨b,hb,rfl⟩:=qd.1 hj;rw[ChD.cells,xq,hc.get_fst hb];rfl)
 rw[qj]at r1;have i1:(Tryz.prog.info? 111).map (·.size)=some (c.fst.map Value.bool).length:=by rw[qe,hc.fst];exact Tryz.infoSet
 clear hq1;obtain⟨b0,b1,b2,b3,b4,b5,b6,b7,b8,hbs⟩:=zh9 hc.fst;rw[hbs]at r1 i1;have hcl:(begD c).cells=[.bool b0,.bool b1,.bool b2,.bool b3,.bool b4,.bool b5,.bool b6,.bool b7,.bool b8,.bool b0,.bool b1,.bool b2,.bool b3,.bool b4,.bool b5,.bool b6,.bool b7,.bool b8]:=by rw[SiD.cells,begD,hbs];rfl
 have HC:= zaa hcl;simp only[qv,List.map_nil]at r1 i1;clear hcl hbs hc;have hB:Below w.heap.size w ((w.alloc (.cells c.cells.toArray 114)).alloc (.cells #[.bool false,.bool false,.bool false,.bool false,.bool false,.bool false,.bool false,.bool false,.bool false,.bool false,.bool false,.bool false,.bool false,.bool false,.bool false,.bool false,.bool false,.bool false] 177)):=(belS w (.cells c.cells.toArray 114)).alloc (by simp) (.cells #[.bool false,.bool false,.bool false,.bool false,.bool false,.bool false,.bool false,.bool false,.bool false,.bool false,.bool false,.bool false,.bool false,.bool false,.bool false,.bool false,.bool false,.bool false] 177);have ht:=zcm (zal (w.alloc (.cells c.cells.toArray 114)) (.cells #[.bool false,.bool false,.bool false,.bool false,.bool false,.bool false,.bool false,.bool false,.bool false,.bool false,.bool false,.bool false,.bool false,.bool false,.bool false,.bool false,.bool false,.bool false] 177));rw[show (w.alloc (.cells c.cells.toArray 114)).heap.size=w.heap.size+1 by simp]at ht;have ht2:((w.alloc (.cells c.cells.toArray 114)).alloc (.cells #[.bool false,.bool false,.bool false,.bool false,.bool false,.bool false,.bool false,.bool false,.bool false,.bool false,.bool false,.bool false,.bool false,.bool false,.bool false,.bool false,.bool false,.bool false] 177)).there (w.heap.size+1) 0 (#[.bool b0,.bool b1,.bool b2,.bool b3,.bool b4,.bool b5,.bool b6,.bool b7,.bool b8,.bool b0,.bool b1,.bool b2,.bool b3,.bool b4,.bool b5,.bool b6,.bool b7,.bool b8]:Array Value).size:=ht;have hi2:(Tryz.prog.info? 177).map (·.size)=some (#[.bool b0,.bool b1,.bool b2,.bool b3,.bool b4,.bool b5,.bool b6,.bool b7,.bool b8,.bool b0,.bool b1,.bool b2,.bool b3,.bool b4,.bool b5,.bool b6,.bool b7,.bool b8]:Array Value).size:=Tryz.infoSit;have h12:(#[.bool b0,.bool b1,.bool b2,.bool b3,.bool b4,.bool b5,.bool b6,.bool b7,.bool b8,.bool b0,.bool b1,.bool b2,.bool b3,.bool b4,.bool b5,.bool b6,.bool b7,.bool b8]:Array Value).all (·.oneCell')=true:=zd2 [b0,b1,b2,b3,b4,b5,b6,b7,b8,b0,b1,b2,b3,b4,b5,b6,b7,b8];clear ht
 go_enter Tryz.func111,Tryz.ntmps111
 go_wp2_with (first
  |(refine wpList_load_mid (w:=(w.alloc (.cells c.cells.toArray 114)).alloc (.cells #[.bool false,.bool false,.bool false,.bool false,.bool false,.bool false,.bool false,.bool false,.bool false,.bool false,.bool false,.bool false,.bool false,.bool false,.bool false,.bool false,.bool false,.bool false] 177)) rfl 111 _ rfl w.heap.size 9 rfl [.bool b0,.bool b1,.bool b2,.bool b3,.bool b4,.bool b5,.bool b6,.bool b7,.bool b8] _ r1 Tryz.underlying111 rfl i1 ?_)
  |(refine wpList_store_mid (w:=(w.alloc (.cells c.cells.toArray 114)).alloc (.cells #[.bool false,.bool false,.bool false,.bool false,.bool false,.bool false,.bool false,.bool false,.bool false,.bool false,.bool false,.bool false,.bool false,.bool false,.bool false,.bool false,.bool false,.bool false] 177)) rfl 177 _ _ rfl (w.heap.size+1) 0 #[.bool b0,.bool b1,.bool b2,.bool b3,.bool b4,.bool b5,.bool b6,.bool b7,.bool b8,.bool b0,.bool b1,.bool b2,.bool b3,.bool b4,.bool b5,.bool b6,.bool b7,.bool b8] rfl rfl ht2 hi2 h12 ?_))
 have hrs:=xy ((w.alloc (.cells c.cells.toArray 114)).alloc (.cells #[.bool false,.bool false,.bool false,.bool false,.bool false,.bool false,.bool false,.bool false,.bool false,.bool false,.bool false,.bool false,.bool false,.bool false,.bool false,.bool false,.bool false,.bool false] 177)) (w.heap.size+1) 0 [.bool b0,.bool b1,.bool b2,.bool b3,.bool b4,.bool b5,.bool b6,.bool b7,.bool b8,.bool b0,.bool b1,.bool b2,.bool b3,.bool b4,.bool b5,.bool b6,.bool b7,.bool b8] ht2;refine bodyPost_ret (v:=.agg #[.bool b0,.bool b1,.bool b2,.bool b3,.bool b4,.bool b5,.bool b6,.bool b7,.bool b8,.bool b0,.bool b1,.bool b2,.bool b3,.bool b4,.bool b5,.bool b6,.bool b7,.bool b8]) ?_ rfl ⟨by rw[HC.out],below_setCells (w.heap.size+1) (ug _) _ _ hB⟩;have hlv:=run_loadVar_mid (P:=Tryz.prog) _ (w.heap.size+1) 0 177 [.bool b0,.bool b1,.bool b2,.bool b3,.bool b4,.bool b5,.bool b6,.bool b7,.bool b8,.bool b0,.bool b1,.bool b2,.bool b3,.bool b4,.bool b5,.bool b6,.bool b7,.bool b8] _ hrs Tryz.underlying177 rfl Tryz.infoSit;simp[results,Tryz.results111,asAddr,xv,hlv]
end
section
open Go.RowKit
open Go.Lib (below_setCells)
def zl9 (w:World)(a:Option Addr)(ms:List (Int×Int)):Prop:=∀ i m,ms[i]?=some m->∃ b o,a=some ⟨b,o,none⟩/\w.cell? ⟨b,o+i*2,none⟩=some (.int .i64 m.1)/\w.cell? ⟨b,o+i*2+1,none⟩=some (.int .i64 m.2)
def aft (s:SiD)(p:Int):SiD:=if 0<=p/\p<9 then aftD s p.toNat else s
theorem zfz {s:SiD}(h:s.ok)(p:Int):(aft s p).ok:=by unfold aft;split;exact zmn h _;exact h
theorem zji (s:SiD)(p:Int)(hs:s.ok)(w:World):Calls Tryz.prog 114 #[.agg s.cells.toArray,.int .i64 p] w fun e W=>e=.returned (.agg (aft s p).cells.toArray)/\Below w.heap.size w W:=by
 unfold aft;by_cases h:0<=p/\p<9
 ·rw[if_pos h];obtain⟨n,rfl⟩:∃ n:Nat,p=n:=⟨p.toNat,by omega⟩;rw[qf];exact zub s n (by omega) hs w
 ·rw[if_neg h];exact zuc s p h hs w
def mvsB (c:ChD):SiD->List (Int×Int)->Bool
 |_,[]=>true
 |s,m::ms=>mvB c s (plI m.1 m.2)&&mvsB c (aft s (plI m.1 m.2)) ms
theorem Tryz.infoCht:(Tryz.prog.info? 114).map (·.size)=some 189:=by kernel_rfl
theorem ChD.ok.len {c:ChD}(h:c.ok):c.cells.length=189:=by
 have h1:=zff c.alg h.algr;have h2:=zff c.fev h.fevr;simp only[ChD.cells,ChD.bits,qe,List.length_append,h.thr,h.fst,h.wnt,h1,h2,h.alg,h.fev]
theorem zea {w w':World}(hb:Below w.heap.size w w'){b o n:Nat}(h:w.there b o n):w'.there b o n:=fun j hj=>by
 obtain⟨h1,h2⟩:=h j hj;obtain⟨v,hv⟩:=Option.isSome_iff_exists.1 h1;have hlt:=World.block_lt_of_cell? w ⟨b,o+j,none⟩ hv;refine⟨?_,?_⟩
 ·rw[hb.cell (p:=⟨b,o+j,none⟩) hlt];exact h1
 ·rw[hb.frozen (p:=⟨b,o+j,none⟩) hlt];exact h2
theorem zdv {s:SiD}(h:s.ok):(Tryz.prog.info? 177).map (·.size)=some s.cells.length/\(Tryz.prog.info? 177).map (·.size)=some s.cells.toArray.size/\s.cells.toArray.all (·.oneCell')=true:=by
 refine⟨by rw[h.len];exact Tryz.infoSit,by rw[qq,h.len];exact Tryz.infoSit,zd2 _⟩
theorem zs6 (c:ChD)(hc:c.ok)(ms:List (Int×Int))(w:World)(a:Option Addr)(cap:Nat)(hl:ms.length<=200)(hp:zl9 w a ms) :
  Calls Tryz.prog 67 #[.agg c.cells.toArray,.slice a ms.length cap] w fun e W=>e=.returned (.bool (mvsB c (begD c) ms))/\Below w.heap.size w W:=by
 have hq1:=zbl (zal w (.cells c.cells.toArray 114));have ic:(Tryz.prog.info? 114).map (·.size)=some c.cells.length:=by rw[hc.len];exact Tryz.infoCht
 have hbeg:=fun w=>zjo c hc w;obtain⟨b1,b2,b3⟩:=zdv (zd1 hc);have hlen:=(zd1 hc).len;obtain⟨R,hR⟩:∃ R,R=mvsB c (begD c) ms:=⟨_,rfl⟩;rw[<- hR];have HR:Hid (R=mvsB c (begD c) (ms.drop 0)):=hR;have HP:= zaa hp;have HO:=(zaa (zd1 hc));have HCC:= zaa hc;have HLN:= zaa hlen;have hmv:=fun s p (hs:SiD.ok s) w=>zo5 c s p hc hs w;clear hR hp hc hlen
 go_enter Tryz.func67,Tryz.ntmps67
 go_wp2_with (first
  |(refine wpList_load_mid (w:=w.alloc (.cells c.cells.toArray 114)) rfl 114 _ rfl w.heap.size 0 rfl c.cells _ hq1 Tryz.underlying114 rfl ic ?_)
  |(go_at_call 111;refine(hbeg _).mono ?_;rintro e w1 ⟨rfl,hb1⟩;have ht1:(w1.alloc (.cells #[.bool false,.bool false,.bool false,.bool false,.bool false,.bool false,.bool false,.bool false,.bool false,.bool false,.bool false,.bool false,.bool false,.bool false,.bool false,.bool false,.bool false,.bool false] 177)).there w1.heap.size 0 (begD c).cells.toArray.size:=by (rw[show (begD c).cells.toArray.size=18 by simpa using HLN.out];exact zcm (zal w1 (.cells #[.bool false,.bool false,.bool false,.bool false,.bool false,.bool false,.bool false,.bool false,.bool false,.bool false,.bool false,.bool false,.bool false,.bool false,.bool false,.bool false,.bool false,.bool false] 177))))
  |(refine wpList_store_mid (w:=w1.alloc (.cells #[.bool false,.bool false,.bool false,.bool false,.bool false,.bool false,.bool false,.bool false,.bool false,.bool false,.bool false,.bool false,.bool false,.bool false,.bool false,.bool false,.bool false,.bool false] 177)) rfl 177 _ _ rfl w1.heap.size 0 (begD c).cells.toArray rfl rfl ht1 b2 b3 ?_))
 have hB1:Below w.heap.size w w1:=thn3 (belS w _) hb1;have hBA:Below w1.heap.size w1 (w1.alloc (.cells #[.bool false,.bool false,.bool false,.bool false,.bool false,.bool false,.bool false,.bool false,.bool false,.bool false,.bool false,.bool false,.bool false,.bool false,.bool false,.bool false,.bool false,.bool false] 177)):=belS _ _;have rs0:=xy (w1.alloc (.cells #[.bool false,.bool false,.bool false,.bool false,.bool false,.bool false,.bool false,.bool false,.bool false,.bool false,.bool false,.bool false,.bool false,.bool false,.bool false,.bool false,.bool false,.bool false] 177)) w1.heap.size 0 (begD c).cells (by simpa using ht1);have rt0:((w1.alloc (.cells #[.bool false,.bool false,.bool false,.bool false,.bool false,.bool false,.bool false,.bool false,.bool false,.bool false,.bool false,.bool false,.bool false,.bool false,.bool false,.bool false,.bool false,.bool false] 177)).setCells w1.heap.size 0 (begD c).cells).there w1.heap.size 0 18:=qy (zcm (zal w1 (.cells #[.bool false,.bool false,.bool false,.bool false,.bool false,.bool false,.bool false,.bool false,.bool false,.bool false,.bool false,.bool false,.bool false,.bool false,.bool false,.bool false,.bool false,.bool false] 177))) _ _ _;have rc0:((w1.alloc (.cells #[.bool false,.bool false,.bool false,.bool false,.bool false,.bool false,.bool false,.bool false,.bool false,.bool false,.bool false,.bool false,.bool false,.bool false,.bool false,.bool false,.bool false,.bool false] 177)).setCells w1.heap.size 0 (begD c).cells).rangeAt w.heap.size 0 c.cells:=qm (zaf hBA (zaf hb1 hq1)) _ _ _ (.inl (by have:=hb1.size;simp at this;omega));have hB2:Below w1.heap.size w1 ((w1.alloc (.cells #[.bool false,.bool false,.bool false,.bool false,.bool false,.bool false,.bool false,.bool false,.bool false,.bool false,.bool false,.bool false,.bool false,.bool false,.bool false,.bool false,.bool false,.bool false] 177)).setCells w1.heap.size 0 (begD c).cells):=below_setCells w1.heap.size (qk _) _ _ hBA
 go_loopw [16] (fun vi wr=>∃ (i:Nat) (s:SiD),i<=ms.length/\vi=.int .i64 i/\s.ok/\Hid (R=mvsB c s (ms.drop i))/\wr.rangeAt w1.heap.size 0 s.cells/\wr.there w1.heap.size 0 18/\wr.rangeAt w.heap.size 0 c.cells/\Below w1.heap.size w1 wr) (fun i _=>ms.length-(intOf i).toNat)
 case atStart=>exact⟨0,begD c,Nat.zero_le _,rfl,HO.out,HR,rs0,rt0,rc0,hB2⟩
 case round =>
  obtain⟨i,s,hi,rfl,hso,hr,rs,rt,rc,hb⟩:=hrel
  rename World=>w5
  have hbw:=thn3 hB1 hb;by_cases hlt:i<ms.length
  ·obtain⟨m,hmi⟩:∃ m,ms[i]?=some m:=⟨ms[i],xu hlt⟩;have hdrop:ms.drop i=m::ms.drop (i+1):=by
    rw[List.drop_eq_getElem_cons hlt];rw[xu hlt]at hmi;simp at hmi;rw[hmi]
   obtain⟨b,o,rfl,d0,d1⟩:=HP.out i m hmi;have d0:=zab hbw d0;have d1:=zab hbw d1;have hbl:=zag d0;have hst:R=(mvB c s (plI m.1 m.2)&&mvsB c (aft s (plI m.1 m.2)) (ms.drop (i+1))):=by rw[hr.out,hdrop,mvsB]
   obtain⟨x,y⟩:=m;simp only at d0 d1 hst;have hpl:=fun w=>zkh x y w;have hmv1:=fun w=>hmv s (plI x y) hso w;have haf:=fun w=>zji s (plI x y) hso w;have hao:=zfz hso (plI x y);obtain⟨s1,s2,s3⟩:=zdv hso;obtain⟨q1,q2,q3⟩:=zdv hao;have hx0 := znn i;have hx1:(i:Int)<(ms.length:Int):=by omega
   generalize plI x y=p at hpl hmv1 haf hst hao q1 q2 q3;have HAo:= zaa hao;have HAl:= zaa hao.len;generalize mvB c s p=t at hmv1 hst;clear hmi hdrop hr hmv hao;cases t with
   |false =>
    have hR1:R=false:=hst;clear hst haf;subst hR1
    go_wp2_with (first
     |(go_at_call 107;refine(hpl _).mono ?_;rintro e w2 ⟨rfl,hb2⟩;have rs2:=zaf hb2 (zaf (belS _ _) rs);have rc2:=zaf hb2 (zaf (belS _ _) rc))
     |(go_at_call 112;refine(hmv1 _).mono ?_;rintro e w3 ⟨rfl,hb3⟩)
     |(refine wpList_load_mid (w:=w2) rfl 114 _ rfl w.heap.size 0 rfl c.cells _ rc2 Tryz.underlying114 rfl ic ?_)
     |(refine wpList_load_mid (w:=w2) rfl 177 _ rfl w1.heap.size 0 rfl s.cells _ rs2 Tryz.underlying177 rfl s1 ?_))
    go_ret;exact⟨rfl,thn3 (thn3 (thn3 hbw (belS _ _)) hb2) hb3⟩
   |true =>
    have hst':Hid (R=mvsB c (aft s p) (ms.drop (i+1))):=hst;clear hst
    go_wp2_with (first
     |(go_at_call 107;refine(hpl _).mono ?_;rintro e w2 ⟨rfl,hb2⟩;have rs2:=zaf hb2 (zaf (belS _ _) rs);have rc2:=zaf hb2 (zaf (belS _ _) rc);have rt2:=zea hb2 (zea (belS _ _) rt))
     |(go_at_call 112;refine(hmv1 _).mono ?_;rintro e w3 ⟨rfl,hb3⟩;have rs3:=zaf hb3 rs2;have rc3:=zaf hb3 rc2;have rt3:=zea hb3 rt2)
     |(go_at_call 114;refine(haf _).mono ?_;rintro e w4 ⟨rfl,hb4⟩;have rc4:=zaf hb4 rc3;have rt4:=zea hb4 rt3;have rt4':w4.there w1.heap.size 0 (aft s p).cells.toArray.size:=by (rw[show (aft s p).cells.toArray.size=18 by simpa using HAl.out];exact rt4))
     |(have hq:=hb4;refine wpList_store_mid (w:=w4) rfl 177 _ _ rfl w1.heap.size 0 (aft s p).cells.toArray rfl rfl rt4' q2 q3 ?_)
     |(have hq:=hb3;(refine wpList_load_mid (w:=w3) rfl 177 _ rfl w1.heap.size 0 rfl s.cells _ rs3 Tryz.underlying177 rfl s1 ?_))
     |(refine wpList_load_mid (w:=w2) rfl 114 _ rfl w.heap.size 0 rfl c.cells _ rc2 Tryz.underlying114 rfl ic ?_)
     |(refine wpList_load_mid (w:=w2) rfl 177 _ rfl w1.heap.size 0 rfl s.cells _ rs2 Tryz.underlying177 rfl s1 ?_))
    go_roundw
    case rel =>
     have h4:=thn3 (thn3 (thn3 (thn3 hb (belS _ _)) hb2) hb3) hb4;exact⟨i+1,aft s p,by omega,by go_num,HAo.out,hst',xy _ _ _ _ (by simpa using rt4'),qy rt4 _ _ _,qm rc4 _ _ _ (.inl (by have:=hb1.size;simp at this;omega)),below_setCells w1.heap.size (qk _) _ _ h4⟩
    case measure=>simp[intOf];omega
  ·have hR1:R=true:=by rw[hr.out,List.drop_of_length_le (by omega)];rfl
   clear hr HR;subst hR1
   go_wp2_with fail
   go_ret;exact⟨rfl,hbw⟩
end
section
open Go.RowKit
end
theorem zdz (s:ByteArray)(i:Nat)(h:i<s.size):bAt s i=(s.data[i]'h).toNat:=by rw[zee s i h];rfl
theorem zep (a b:ByteArray)(i:Nat)(h:i<a.size):bAt (a++b) i=bAt a i:=by
 have h2:i<(a++b).size:=by rw[xo];omega
 rw[zdz _ _ h2,zdz _ _ h]
 congr 2
 simp only[qx];exact Array.getElem_append_left h
theorem zhl (a b:ByteArray)(i:Nat):bAt (a++b) (a.size+i)=bAt b i:=by
 by_cases h:i<b.size
 ·have h2:a.size+i<(a++b).size:=by rw[xo];omega
  rw[zdz _ _ h2,zdz _ _ h]
  congr 2
  simp only[qx];rw[Array.getElem_append_right (by show a.data.size<=a.size+i;exact Nat.le_add_right _ _)]
  congr 1
  show a.size+i-a.data.size=i;have:a.data.size=a.size:=rfl;omega
 ·rw[zd0 _ _ (by rw[xo];omega),zd0 _ _ (by omega)]
theorem zct (s:ByteArray)(a b i:Nat)(h1:a+i<b)(h2:b<=s.size):bAt (s.extract a b) i=bAt s (a+i):=by
 have hs:=size_extract s a b (by omega) h2;rw[zdz _ _ (by omega),zdz s _ (by omega)]
 congr 2
 simp only[ByteArray.data_extract];exact Array.getElem_extract _
theorem zfa {a b:ByteArray}(hs:a.size=b.size)(h:∀ i,i<a.size->bAt a i=bAt b i):a=b:=by
 apply um;apply Array.ext
 ·exact hs
 ·intro i h1 h2;have:=h i h1;rw[zdz _ _ h1,zdz _ _ h2]at this;exact UInt8.toNat_inj.mp (by omega)
theorem zcu (n:Nat)(h:n<256):bAt (oneB n) 0=n:=by
 rw[zdz _ _ (by rw[zak];omega)];simp[oneB,Nat.toUInt8];omega
theorem zgg (m n:Nat):1<=(decS m n).size:=by
 cases m with
 |zero=>rw[decS,zak];exact qk _
 |succ m=>rw[decS];split<;>simp[xo,zak]
theorem zhu:∀ (m n i:Nat),n<10 ^ (m+1)->i<(decS m n).size->48<=bAt (decS m n) i/\bAt (decS m n) i<=57
 |0,n,i,hn,hi=>by
  rw[decS,zak]at hi;obtain rfl:i=0:=by omega
  rw[decS,zcu _ (by omega)];omega
 |m+1,n,i,hn,hi=>by
  rw[decS]at hi ⊢;split at hi
  ·rw[zak]at hi;obtain rfl:i=0:=by omega
   rw[if_pos (by assumption),zcu _ (by omega)];omega
  ·rw[if_neg (by assumption)];rw[xo,zak]at hi;by_cases h:i<(decS m (n / 10)).size
   ·rw[zep _ _ _ h];exact zhu m (n / 10) i (by rw[qn]at hn;omega) h
   ·obtain rfl:i=(decS m (n / 10)).size+0:=by omega
    rw[zhl,zcu _ (by omega)];omega
theorem zj3:∀ (k m n:Nat),n<10 ^ (k+1)->(decS m n).size<=k+1
 |k,0,n,hn=>by rw[decS,zak];omega
 |0,m+1,n,hn=>by rw[decS,if_pos (by simpa using hn),zak];omega
 |k+1,m+1,n,hn=>by
  rw[decS];split
  ·rw[zak];omega
  ·have:=zj3 k m (n / 10) (by rw[qn]at hn;omega);rw[xo,zak];omega
theorem znr:∀ (m n:Nat),n<10 ^ (m+1)->10<=n->bAt (decS m n) 0≠48
 |0,n,hn,h=>by simp at hn;omega
 |m+1,n,hn,h=>by
  rw[decS,if_neg (by omega),zep _ _ _ (zgg m (n / 10))];by_cases h2:10<=n / 10
  ·exact znr m (n / 10) (by rw[qn]at hn;omega) h2
  ·cases m with
   |zero=>rw[decS,zcu _ (by omega)];omega
   |succ m=>rw[decS,if_pos (by omega),zcu _ (by omega)];omega
theorem zv1 (m n:Nat)(hn:n<10 ^ (m+1))(h:2<=(decS m n).size):10<=n:=by
 rcases Nat.lt_or_ge n 10 with h1|h1
 ·have:=zj3 0 m n (by simpa using h1);omega
 ·exact h1
theorem znj (t:ByteArray)(a:Nat):∀ m,(∀ j,j<m->48<=bAt t (a+j))->1<=m->49<=bAt t a->1<=dVal t a m
 |0,_,h,_=>by omega
 |1,_,_,h=>by simp[dVal];omega
 |m+2,hd,_,h=>by
  have:=znj t a (m+1) (fun j hj=>hd j (by omega)) (by omega) h;have:=hd (m+1) (by omega);rw[dVal];omega
theorem zns (t:ByteArray)(a:Nat):∀ (m M:Nat),(∀ j,j<m+1->48<=bAt t (a+j)/\bAt t (a+j)<=57)->(0<m->49<=bAt t a)->m<=M->a+m+1<=t.size->decS M (dVal t a (m+1)).toNat=t.extract a (a+m+1)
 |0,M,hd,h0,hM,hs=>by
  have h1:=hd 0 (by omega);simp only[ue]at h1;have hv:dVal t a 1=bAt t a-48:=by simp[dVal]
  have e:decS M (dVal t a 1).toNat=oneB (48+(dVal t a 1).toNat):=by
   cases M with
   |zero=>rfl
   |succ M=>rw[decS,if_pos (by omega)]
  rw[e];have hx:=size_extract t a (a+0+1) (by omega) hs;apply zfa
  ·rw[zak];omega
  ·intro i hi;rw[zak]at hi;obtain rfl:i=0:=by omega
   rw[zcu _ (by omega),zct t a _ 0 (by omega) hs];simp only[ue];omega
 |m+1,M,hd,h0,hM,hs=>by
  obtain⟨M',rfl⟩:∃ M',M=M'+1:=⟨M-1,by omega⟩;have ih:=zns t a m M' (fun j hj=>hd j (by omega)) (fun _=>h0 (by omega)) (by omega) (by omega);have h1:=hd (m+1) (by omega);have hp:=znj t a (m+1) (fun j hj=>(hd j (by omega)).1) (by omega) (h0 (by omega));have hv:dVal t a (m+1+1)=dVal t a (m+1)*10+(bAt t (a+(m+1))-48):=rfl;have e1:(dVal t a (m+1+1)).toNat / 10=(dVal t a (m+1)).toNat:=by omega
  have e2:48+(dVal t a (m+1+1)).toNat % 10=(bAt t (a+(m+1))).toNat:=by omega
  rw[decS,if_neg (by omega),e1,e2,ih];have hx:=size_extract t a (a+m+1) (by omega) (by omega);have hy:=size_extract t a (a+(m+1)+1) (by omega) (by omega);apply zfa
  ·rw[xo,zak];omega
  ·intro i hi;rw[xo,zak]at hi;rw[zct t a _ i (by omega) (by omega)];by_cases h:i<m+1
   ·rw[zep _ _ _ (by omega),zct t a _ i (by omega) (by omega)]
   ·obtain rfl:i=(t.extract a (a+m+1)).size+0:=by omega
    rw[zhl,zcu _ (by omega),hx];rw[show a+(a+m+1-a+0)=a+(m+1) by omega];omega
theorem zld (p:Int->Bool)(s:ByteArray)(hp:p (-1)=false):∀ (m e:Nat),s.size<=e+m->p (bAt s (zaz p s m e))=false
 |0,e,h=>by rw[zaz,zd0 s e (by omega)];exact hp
 |m+1,e,h=>by
  rw[zaz];split
  ·exact zld p s hp m (e+1) (by omega)
  ·rename_i hq;simpa using hq
theorem zlg (p:Int->Bool)(s:ByteArray):∀ (d a k:Nat),k=a+d->k<=s.size->(∀ i,a<=i->i<k->p (bAt s i)=true)->p (bAt s k)=false->zaz p s (s.size-a) a=k
 |0,a,k,h,hk,ha,hn=>by
  obtain rfl:k=a:=by omega
  exact zlf p s _ k rfl hn
 |d+1,a,k,h,hk,ha,hn=>by
  rw[zle p s _ a rfl (by omega) (ha a (by omega) (by omega))];exact zlg p s d (a+1) k (by omega) hk (fun i h1 h2=>ha i (by omega) h2) hn
theorem zzf {s:ByteArray}{a e:Nat}{n:Int}(h:pDig s a=some (n,e)):a<e/\e<=s.size/\(∀ i,a<=i->i<e->isD (bAt s i)=true)/\isD (bAt s e)=false/\e-a<=16/\(1<e-a->bAt s a≠48)/\n=dVal s a (e-a):=by
 have hbd:=zgt h;unfold pDig at h;simp only at h;obtain⟨E,hE⟩:∃ E,E=zaz isD s (s.size-a) a:=⟨_,rfl⟩;rw[<- hE]at h;split at h
 ·cases h
 ·rename_i hc;simp only[qp,uc]at h;obtain⟨rfl,rfl⟩:=h;refine⟨hbd.1,hbd.2.1,fun i h1 h2=>zfm isD s (s.size-a) a i h1 (by rw[<- hE];exact h2),?_,by omega,fun h1 h2=>hc (.inr (.inr ⟨h1,h2⟩)),rfl⟩;rw[hE];exact zld isD s rfl _ _ (by omega)
theorem zzg {s:ByteArray}{a e:Nat}(h1:a<e)(h2:e<=s.size)(h3:∀ i,a<=i->i<e->isD (bAt s i)=true)(h4:isD (bAt s e)=false)(h5:e-a<=16)(h6:1<e-a->bAt s a≠48):pDig s a=some (dVal s a (e-a),e):=by
 have hE:=zlg isD s (e-a) a e (by omega) h2 h3 h4;exact zk2 s a e hE.symm (by rintro (h|h|h);omega;omega;exact h6 h.1 h.2)
theorem zkn {b:Int}(h:isD b=true):48<=b/\b<=57:=by simpa[isD]using h
theorem zxy {b:Int}(h:48<=b/\b<=57):isD b=true:=by simpa[isD]using h
section
open Go.RowKit
structure Val where
 tag:Nat
 n:Int
 s:ByteArray
 vs:List Val
def Val.num (x:Int):Val:=⟨0,x,xp,[]⟩
def Val.str (s:ByteArray):Val:=⟨1,0,s,[]⟩
def Val.cho (i:Nat):Val:=⟨2,i,xp,[]⟩
def Val.lst (vs:List Val):Val:=⟨3,0,xp,vs⟩
def Val.non:Val:=⟨4,0,xp,[]⟩
def Val.som (v:Val):Val:=⟨5,0,xp,[v]⟩
def Val.rcd (vs:List Val):Val:=⟨6,0,xp,vs⟩
def Val.hd (v:Val):Val:=v.vs.headD Val.non
def At (d:ByteArray)(j:Nat)(x:ByteArray):Prop:=j+x.size<=d.size/\∀ i,i<x.size->bAt d (j+i)=bAt x i
theorem At.app {d x y:ByteArray}{j:Nat}:At d j (x++y)↔At d j x/\At d (j+x.size) y:=by
 unfold At;rw[xo];constructor
 ·rintro ⟨h1,h2⟩;refine⟨⟨by omega,fun i hi=>?_⟩,⟨by omega,fun i hi=>?_⟩⟩
  ·rw[h2 i (by omega),zep _ _ _ hi]
  ·rw[show j+x.size+i=j+(x.size+i) by omega,h2 _ (by omega),zhl]
 ·rintro ⟨⟨h1,h2⟩,h3,h4⟩;refine⟨by omega,fun i hi=>?_⟩;by_cases hx:i<x.size
  ·rw[h2 i hx,zep _ _ _ hx]
  ·obtain⟨m,rfl⟩:∃ m,i=x.size+m:=⟨i-x.size,by omega⟩;rw[zhl,<- h4 m (by omega)];congr 1;omega
theorem At.one {d:ByteArray}{j b:Nat}(hb:b<256):At d j (oneB b)↔bAt d j=b:=by
 unfold At;rw[zak];constructor
 ·rintro ⟨_,h⟩;have:=h 0 (by omega);rw[zcu b hb]at this;exact this
 ·intro h;refine⟨by have:=zaw (s:=d) (i:=j) (by omega);omega,fun i hi=>?_⟩;obtain rfl:i=0:=by omega
  rw[zcu b hb];exact h
theorem At.ext {d x:ByteArray}{j:Nat}(h:At d j x):d.extract j (j+x.size)=x:=by
 have hs:=size_extract d j (j+x.size) (by omega) h.1;refine zfa (by omega) (fun i hi=>?_);rw[zct _ _ _ _ (by omega) h.1,h.2 i (by omega)]
theorem At.of {d:ByteArray}{j k:Nat}(h1:j<=k)(h2:k<=d.size):At d j (d.extract j k):=by
 have hs:=size_extract d j k h1 h2;exact⟨by omega,fun i hi=>by rw[zct _ _ _ _ (by omega) h2]⟩
theorem At.le {d x:ByteArray}{j:Nat}(h:At d j x):j+x.size<=d.size:=h.1
theorem At.self (d:ByteArray):At d 0 d:=⟨by omega,fun i hi=>by rw[qj]⟩
def catB:List ByteArray->ByteArray
 |[]=>xp
 |x::xs=>x++catB xs
theorem zjy:∀ (m:Nat) (acc:ByteArray) (u:Nat),codU m acc u=acc++codU m xp u
 |0,acc,u=>by simp[codU]
 |m+1,acc,u=>by
  rw[codU,codU];split
  ·rw[zjy m (acc++_),zjy m (xp++_)];simp[uk]
  ·simp
theorem zhq {m u:Nat}(h:u<128):codU m xp u=oneB u:=by
 cases m with
 |zero=>simp[codU]
 |succ m=>rw[codU,if_neg (by omega)];simp
theorem zjz {m u:Nat}(h:128<=u):codU (m+1) xp u=oneB (u % 128+128)++codU m xp (u / 128):=by
 rw[codU,if_pos h,zjy];simp
theorem yaec {d:ByteArray}{a:Nat}:∀ (m m' k u x U:Nat),U<128 ^ (m+1)->U<128 ^ (m'+1)->(0<k->U≠0)->At d (a+k) (codU m' xp U) ->
  uAtL d a (m+1) k u x=some (u+U*x,a+k+(codU m' xp U).size):=by
 intro m
 induction m with
 |zero =>
  intro m' k u x U h1 h2 h3 h4;have hU:U<128:=by simpa using h1
  rw[uAtL];rw[zhq hU]at h4 ⊢;rw[At.one (by omega)]at h4;rw[h4,if_neg (by omega),if_pos (by omega),zak];simp
 |succ m ih =>
  intro m' k u x U h1 h2 h3 h4;rw[uAtL];by_cases hU:U<128
  ·rw[zhq hU]at h4 ⊢;rw[At.one (by omega)]at h4;rw[h4,if_neg (by omega),if_pos (by omega),zak];simp
  ·cases m' with
   |zero=>simp at h2;omega
   |succ m' =>
    rw[zjz (by omega)]at h4 ⊢;rw[At.app,At.one (by omega),zak]at h4;obtain⟨h5,h6⟩:=h4;rw[h5,if_neg (by omega),if_neg (by omega)];have e1:(((U % 128+128:Nat):Int).toNat-128)=U % 128:=by omega
    rw[e1,ih m' (k+1) _ _ (U / 128) (by rw[qn]at h1;omega) (by rw[qn]at h2;omega) (fun _=>by omega) h6];have e2:U / 128*(x*128)=U / 128*128*x:=by rw[Nat.mul_comm x 128,Nat.mul_assoc]
    have e3:u+U % 128*x+U / 128*(x*128)=u+U*x:=by
     rw[e2,qi,<- Nat.add_mul,show U % 128+U / 128*128=U by omega]
    have e4:a+(k+1)+(codU m' xp (U / 128)).size=a+k+(oneB (U % 128+128)++codU m' xp (U / 128)).size:=by
     rw[xo,zak];omega
    rw[e3,e4]
theorem zsv (n:Int):zdb (zig n)=n:=by
 unfold zig zdb;split<;>split<;>omega
theorem zsp {d:ByteArray}{j:Nat}{n:Int}(h1:-1000000000000000<=n)(h2:n<=1000000000000000)(h:At d j (zcp n)):uAt d j=some (zig n,j+(zcp n).size):=by
 have hz:zig n<128 ^ 8:=by unfold zig;split<;>omega
 have:=yaec (d:=d) (a:=j) 7 8 0 0 1 (zig n) hz (by omega) (by omega) h;unfold uAt;rw[this];simp[zcp]
def datV:Nat->Val->ByteArray
 |0,_=>xp
 |n+1,v =>
  if v.tag=0 then zcp v.n
  else if v.tag=1 then oneB v.s.size++v.s
  else if v.tag=2 then oneB v.n.toNat
  else if v.tag=3 then oneB v.vs.length++catB (v.vs.map (datV n))
  else if v.tag=4 then oneB 0
  else if v.tag=5 then oneB 1++datV n v.hd
  else catB (v.vs.map (datV n))
theorem zj1 (n:Nat)(x:Int):datV (n+1) (.num x)=zcp x:=rfl
theorem zht (n:Nat)(s:ByteArray):datV (n+1) (.str s)=oneB s.size++s:=rfl
theorem zhr (n i:Nat):datV (n+1) (.cho i)=oneB i:=rfl
theorem zge (n:Nat)(vs:List Val):datV (n+1) (.lst vs)=oneB vs.length++catB (vs.map (datV n)):=rfl
theorem zhs (n:Nat):datV (n+1) .non=oneB 0:=rfl
theorem zgf (n:Nat)(v:Val):datV (n+1) (.som v)=oneB 1++datV n v:=rfl
theorem zeg (n:Nat)(vs:List Val):datV (n+1) (.rcd vs)=catB (vs.map (datV n)):=rfl
def zcc:Nat->List ByteArray->ByteArray->ByteArray
 |_,[],t=>t++⟨#[93]⟩
 |k,x::xs,t=>zcc (k+1) xs ((if 0<k then t++⟨#[44]⟩ else t)++x)
def zcb:List (Nat×ByteArray)->ByteArray->ByteArray->ByteArray
 |[],_,t=>t++⟨#[125]⟩
 |p::ps,mk,t=>zcb ps ⟨#[44]⟩ (t++(((mk++oneB p.1)++⟨#[58]⟩)++p.2))
def txtV:Nat->Ty->Val->ByteArray
 |0,_,_=>xp
 |n+1,ty,v =>
  if v.tag=0 then decI v.n
  else if v.tag=1 then quo++v.s++quo
  else if v.tag=2 then oneB (bAt ty.letters v.n.toNat).toNat
  else if v.tag=3 then zcc 0 (v.vs.map (txtV n ty.in)) ⟨#[91]⟩
  else if v.tag=4 then ⟨#[95]⟩
  else if v.tag=5 then txtV n ty.in v.hd
  else zcb ((ty.fields.zip v.vs).map fun p=>(p.1.1,txtV n p.1.2.1 p.2)) ⟨#[123]⟩ xp
theorem zi0 (n:Nat)(ty:Ty)(x:Int):txtV (n+1) ty (.num x)=decI x:=rfl
theorem zg6 (n:Nat)(ty:Ty)(s:ByteArray):txtV (n+1) ty (.str s)=quo++s++quo:=rfl
theorem zdy (n:Nat)(ty:Ty)(i:Nat):txtV (n+1) ty (.cho i)=oneB (bAt ty.letters i).toNat:=rfl
theorem zeb (n:Nat)(ty:Ty)(vs:List Val):txtV (n+1) ty (.lst vs)=zcc 0 (vs.map (txtV n ty.in)) ⟨#[91]⟩:=rfl
theorem zfr (n:Nat)(ty:Ty):txtV (n+1) ty .non=⟨#[95]⟩:=rfl
theorem ze9 (n:Nat)(ty:Ty)(v:Val):txtV (n+1) ty (.som v)=txtV n ty.in v:=rfl
theorem zdh (n:Nat)(ty:Ty)(vs:List Val):txtV (n+1) ty (.rcd vs)=zcb ((ty.fields.zip vs).map fun p=>(p.1.1,txtV n p.1.2.1 p.2)) ⟨#[123]⟩ xp:=rfl
def okV:Nat->Ty->Val->Prop
 |0,_,_=>False
 |n+1,ty,v =>
  (∃ x,v=.num x/\((ty.kind=105/\-2147483648<=x/\x<=2147483647)\/(ty.kind=108/\-1000000000000000<=x/\x<=1000000000000000))) \/
  (∃ s,v=.str s/\ty.kind=115/\s.size<=60/\allS s s.size 0=true) \/
  (∃ i,v=.cho i/\ty.kind=60/\i<ty.letters.size/\i<256) \/
  (∃ vs,v=.lst vs/\ty.kind=91/\vs.length<=16/\∀ v∈vs,okV n ty.in v) \/
  (v=.non/\ty.kind=63) \/
  (∃ u,v=.som u/\ty.kind=63/\okV n ty.in u) \/
  (∃ vs,v=.rcd vs/\ty.kind=123/\ty.fields≠[]/\vs.length=ty.fields.length/\∀ p∈ty.fields.zip vs,okV n p.1.2.1 p.2)
theorem ze0 {n:Nat}{ty:Ty}{x:Int}(h:(ty.kind=105/\-2147483648<=x/\x<=2147483647)\/(ty.kind=108/\-1000000000000000<=x/\x<=1000000000000000)):okV (n+1) ty (.num x):=.inl ⟨x,rfl,h⟩
theorem zkx {n:Nat}{ty:Ty}{s:ByteArray}(h:ty.kind=115/\s.size<=60/\allS s s.size 0=true):okV (n+1) ty (.str s):=.inr (.inl ⟨s,rfl,h⟩)
theorem zkv {n:Nat}{ty:Ty}{i:Nat}(h:ty.kind=60/\i<ty.letters.size/\i<256):okV (n+1) ty (.cho i):=.inr (.inr (.inl ⟨i,rfl,h⟩))
theorem zkw {n:Nat}{ty:Ty}{vs:List Val}(h:ty.kind=91/\vs.length<=16/\∀ v∈vs,okV n ty.in v):okV (n+1) ty (.lst vs):=.inr (.inr (.inr (.inl ⟨vs,rfl,h⟩)))
theorem zps {n:Nat}{ty:Ty}(h:ty.kind=63):okV (n+1) ty .non:=.inr (.inr (.inr (.inr (.inl ⟨rfl,h⟩))))
theorem zpt {n:Nat}{ty:Ty}{v:Val}(h:ty.kind=63/\okV n ty.in v):okV (n+1) ty (.som v):=.inr (.inr (.inr (.inr (.inr (.inl ⟨v,rfl,h⟩)))))
theorem zgr {n:Nat}{ty:Ty}{vs:List Val}(h:ty.kind=123/\ty.fields≠[]/\vs.length=ty.fields.length/\∀ p∈ty.fields.zip vs,okV n p.1.2.1 p.2):okV (n+1) ty (.rcd vs):=.inr (.inr (.inr (.inr (.inr (.inr ⟨vs,rfl,h⟩)))))
theorem zmp {d s:ByteArray}:∀ (m j i:Nat),(∀ k,k<m->bAt d (j+k)=bAt s (i+k))->allS d m j=allS s m i
 |0,j,i,h=>rfl
 |m+1,j,i,h=>by
  have h0:=h 0 (by omega);simp only[ue]at h0;rw[allS,allS,h0,zmp m (j+1) (i+1) (fun k hk=>by have:=h (k+1) (by omega);rw[show j+1+k=j+(k+1) by omega,show i+1+k=i+(k+1) by omega];exact this)]
theorem zv3 {d s:ByteArray}{j:Nat}(h1:s.size<=60)(h2:allS s s.size 0=true)(h:At d j (oneB s.size++s)):zca d j=some (quo++s++quo,j+(oneB s.size++s).size):=by
 rw[At.app,At.one (by omega),zak]at h;obtain⟨h3,h4⟩:=h;unfold zca;rw[h3,if_neg (by omega),qf,h4.ext,if_pos,xo,zak]
 ·congr 2;omega
 ·rw[<- h2];exact zmp _ _ _ (fun k hk=>by rw[h4.2 k hk,qj])
theorem znp {d:ByteArray}{f:Nat->Option (ByteArray×Nat)}{dv tv:Val->ByteArray}:∀ (vs:List Val) (k fr:Nat) (t:ByteArray),(∀ v∈vs,∀ j,At d j (dv v)->f j=some (tv v,j+(dv v).size)) ->
  At d fr (catB (vs.map dv))->zb0 f vs.length k fr t=some (zcc k (vs.map tv) t,fr+(catB (vs.map dv)).size)
 |[],k,fr,t,hf,h=>by simp[zb0,zcc,catB]
 |v::vs,k,fr,t,hf,h=>by
  simp only[qv,catB]at h ⊢;rw[At.app]at h;rw[List.length_cons,zb0,hf v (by simp) fr h.1];simp only;rw[znp vs (k+1) (fr+(dv v).size) _ (fun v hv=>hf v (by simp[hv])) h.2,zcc,xo,qi]
theorem znm {d:ByteArray}{f:Ty->Nat->Option (ByteArray×Nat)}{dv:Val->ByteArray}{tv:Ty->Val->ByteArray}:∀ (fs:List (Nat×Ty×ByteArray)) (vs:List Val) (mk:ByteArray) (fr:Nat) (t:ByteArray),vs.length=fs.length ->
  (∀ p∈fs.zip vs,∀ j,At d j (dv p.2)->f p.1.2.1 j=some (tv p.1.2.1 p.2,j+(dv p.2).size)) ->
  At d fr (catB (vs.map dv))->zbp f fs mk fr t=some (zcb ((fs.zip vs).map fun p=>(p.1.1,tv p.1.2.1 p.2)) mk t,fr+(catB (vs.map dv)).size)
 |[],[],mk,fr,t,hl,hf,h=>by simp[zbp,zcb,catB]
 |[],v::vs,mk,fr,t,hl,hf,h=>by simp at hl
 |g::fs,[],mk,fr,t,hl,hf,h=>by simp at hl
 |g::fs,v::vs,mk,fr,t,hl,hf,h=>by
  simp only[qv,catB]at h ⊢;rw[At.app]at h;rw[zbp,hf (g,v) (by simp) fr h.1];simp only;rw[znm fs vs _ (fr+(dv v).size) _ (by simpa using hl) (fun p hp=>hf p (by simp[hp])) h.2,xo,qi];simp only[List.zip_cons_cons,qv,zcb]
theorem zhv {d:ByteArray}:∀ (n:Nat) (ty:Ty) (v:Val) (j:Nat),okV n ty v->At d j (datV n v)->dec d n ty j=some (txtV n ty v,j+(datV n v).size)
 |0,ty,v,j,hv,h=>hv.elim
 |n+1,ty,v,j,hv,h=>by
  have ih:=zhv (d:=d) n;rcases hv with⟨x,rfl,hv⟩|⟨s,rfl,hv⟩|⟨i,rfl,hv⟩|⟨vs,rfl,hv⟩|⟨rfl,hv⟩|⟨v,rfl,hv⟩|⟨vs,rfl,hv⟩
  ·rw[zj1]at h ⊢;rw[zi0];rcases hv with⟨hk,h1,h2⟩|⟨hk,h1,h2⟩
   ·rw[dec,if_pos hk];unfold zbe;rw[zsp (by omega) (by omega) h];simp only[zsv];rw[if_neg (by omega)]
   ·rw[dec,if_neg (by omega),if_pos hk];unfold zbe;rw[zsp (by omega) (by omega) h];simp only[zsv];rw[if_neg (by omega)]
  ·rw[zht]at h ⊢;rw[zg6];rw[dec,if_neg (by omega),if_neg (by omega),if_pos hv.1,zv3 hv.2.1 hv.2.2 h]
  ·rw[zhr]at h ⊢;rw[zdy];rw[At.one hv.2.2]at h;have:=zee ty.letters i hv.2.1;rw[dec,if_neg (by omega),if_neg (by omega),if_neg (by omega),if_pos hv.1];unfold zcv;rw[h,qf,if_neg (by omega),zak]
  ·rw[zge]at h ⊢;rw[zeb];rw[At.app,At.one (by omega),zak]at h;rw[dec,if_neg (by omega),if_neg (by omega),if_neg (by omega),if_neg (by omega),if_pos hv.1];unfold zdl;rw[h.1,if_neg (by omega),qf,znp (dv:=datV n) (tv:=txtV n ty.in) vs 0 (j+1) _ (fun v hv' j h=>ih ty.in v j (hv.2.2 v hv') h) h.2,xo,zak,qi]
  ·rw[zhs]at h ⊢;rw[zfr];rw[At.one (by omega)]at h;rw[dec,if_neg (by omega),if_neg (by omega),if_neg (by omega),if_neg (by omega),if_neg (by omega),if_pos hv];unfold zb9;rw[h,if_pos (by omega),zak]
  ·rw[zgf]at h ⊢;rw[ze9];rw[At.app,At.one (by omega),zak]at h;rw[dec,if_neg (by omega),if_neg (by omega),if_neg (by omega),if_neg (by omega),if_neg (by omega),if_pos hv.1];unfold zb9;rw[h.1,if_neg (by omega),if_pos (by omega),ih ty.in v _ hv.2 h.2,xo,zak,qi]
  ·rw[zeg]at h ⊢;rw[zdh];rw[dec,if_neg (by omega),if_neg (by omega),if_neg (by omega),if_neg (by omega),if_neg (by omega),if_neg (by omega),if_pos ⟨hv.1,hv.2.1⟩];exact znm (dv:=datV n) (tv:=txtV n) ty.fields vs _ j _ hv.2.2.1 (fun p hp j h=>ih p.1.2.1 p.2 j (hv.2.2.2 p hp) h) h
end
section
open Go.RowKit
end
section
open Go.RowKit
end
theorem zpz {pt:Nat->Option (Ty×Nat)}{ef:Ty->Nat->Option (ByteArray×Nat)}{s:ByteArray}{i k:Nat}{f:Nat×Ty×ByteArray}(h:zar pt ef s i=some (f,k)):f.1<256:=by
 unfold zar at h;have:=zeq s i;split at h
 ·split at h
  ·cases h
  ·split at h
   ·split at h
    ·cases h
    ·simp only[qp,uc]at h;rw[<- h.1];show (bAt s i).toNat<256;omega
   ·simp only[qp,uc]at h;rw[<- h.1];show (bAt s i).toNat<256;omega
 ·cases h
end Go.Proofs.YtkkekopomiehlabGreatDoor
