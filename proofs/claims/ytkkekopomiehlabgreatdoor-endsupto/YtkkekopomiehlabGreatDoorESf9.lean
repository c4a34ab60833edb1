import Derived.Test.YtkkekopomiehlabGreatDoorESf15
set_option linter.unusedVariables false
set_option linter.unusedSimpArgs false
set_option maxHeartbeats 40000000
set_option maxRecDepth 4000
open List renaming setIfInBounds_toArray->xe,getElem_cons_zero->xf,getElem_cons_succ->xg,getElem_toArray->xh,set_cons_zero->xj,set_cons_succ->xm,getElem?_map->xq,getElem?_eq_getElem->xv,range->qd,length_map->qe
open Go.Act renaming put->xo
open Or renaming inl->xp,inr->xz
open Bool renaming false_eq_true->xu
open Option renaming map_eq_some_iff->xy
open Go.AllReadyH renaming cons->qf,nil->qg
open Nat renaming zero_add->qh
open Go.RowKit
namespace Go.Proofs.YtkkekopomiehlabGreatDoor
section
def sndB (c:ChD):Bool:=(qd 9).all fun i=>!(c.fst.getD i false)||algB c.fst (c.alg.getD i [])
theorem zmf (c:ChD)(hc:c.ok)(w:World):Calls Tryz.prog 48 #[.agg c.cells.toArray] w fun e W=>e=.returned (.bool (sndB c))/\Below w.heap.size w W:=by
 have hq1:=zbl (zal w (.cells c.cells.toArray 114));have r1:=zc6 (k:=9) (ds:=c.fst.map Value.bool) hq1 (fun j v hj=>by
   rw[xq]at hj;obtain⟨b,hb,rfl⟩:=xy.1 hj;rw[ChD.cells,xq,hc.get_fst hb];rfl)
 rw[qh]at r1;have i1:(Tryz.prog.info? 111).map (·.size)=some (c.fst.map Value.bool).length:=by rw[qe,hc.fst];exact Tryz.infoSet
 obtain⟨R,hR⟩:∃ R,R=sndB c:=⟨_,rfl⟩;rw[<- hR];have HR:Hid (R=(qd 9).all fun i=>!(c.fst.getD i false)||algB c.fst (c.alg.getD i [])):=hR;have HC:=((show Hid (ChD.ok c)from hc));clear hR hc
 go_enter Tryz.func48,Tryz.ntmps48
 go_wp2_with (refine wpList_load_mid (w:=w.alloc (.cells c.cells.toArray 114)) rfl 111 _ rfl w.heap.size 9 rfl (c.fst.map Value.bool) _ r1 Tryz.underlying111 rfl i1 ?_)
 go_loopw [7] (fun vi wr=>∃ i:Nat,i<=9/\vi=.int .i64 i/\Hid ((qd i).all (fun i=>!(c.fst.getD i false)||algB c.fst (c.alg.getD i []))=true)/\Below (w.alloc (.cells c.cells.toArray 114)).heap.size (w.alloc (.cells c.cells.toArray 114)) wr) (fun i _=>9-(intOf i).toNat)
 case atStart=>exact⟨0,by omega,rfl,(by show _=_;rfl),Below.refl _ _⟩
 case round =>
  obtain⟨i,hi9,rfl,hn,hb⟩:=hrel;have hbw:=thn3 (belS w _) hb;by_cases hlt:i<9
  ·have hc:=HC.out;obtain⟨x,hx⟩:∃ x,c.fst[i]?=some x:=⟨c.fst[i]'(by rw[hc.fst];omega),xv (by rw[hc.fst];omega)⟩;obtain⟨ra,hra⟩:∃ r,c.alg[i]?=some r:=⟨c.alg[i]'(by rw[hc.alg];omega),xv (by rw[hc.alg];omega)⟩;have la:=hc.algr ra (List.mem_of_getElem? hra);have q1:=zaf hb r1;have q2:=zc6 (k:=27+i*9) (ds:=ra.map Value.bool) (zaf hb hq1) (fun j v hj=>by
    rw[xq]at hj;obtain⟨b,hb,rfl⟩:=xy.1 hj;rw[ChD.cells,xq,hc.get_alg hra hb];rfl)
   rw[qh]at q2;have a1:=fun W=>zjj c.fst ra hc.fst la W;have i2:(Tryz.prog.info? 111).map (·.size)=some (ra.map Value.bool).length:=by rw[qe,la];exact Tryz.infoSet
   have hidx:=fun W=>zgx (P:=Tryz.prog) (w:=W) 111 4 .bool 9 (c.fst.map Value.bool).toArray .i64 i Tryz.underlying111 Tryz.infoBool Tryz.underlying4 (fun _ h=>by cases h) (fun _ _ h=>by cases h) hlt (.bool x) (by simp[hx]);have hFx:(!(c.fst.getD i false)||algB c.fst (c.alg.getD i []))=(!x||algB c.fst ra):=by simp[List.getD,hx,hra]
   generalize algB c.fst ra=y at a1 hFx;have hno:(!x||y)=false->R=false:=fun h=>by rw[HR.out];exact zjk hlt (by rw[hFx];exact h)
   have hyes:(!x||y)=true->Hid ((qd (i+1)).all (fun i=>!(c.fst.getD i false)||algB c.fst (c.alg.getD i []))=true):=fun h=>by show _=_;rw[zmu,hn.out,hFx,h];rfl
   have hx0 := znn i;have hx1:(i:Int)<9:=by omega
   clear hFx hn hx hra hq1 HR r1 hc;cases x with
   |true =>
    cases y with
    |true =>
     have hy':=hyes rfl;clear hno hyes
     go_wp2_with fail
     refine wp_region_held_drew (S:=(fun w'=>w'.rangeAt w.heap.size 9 (c.fst.map Value.bool)/\w'.rangeAt w.heap.size (27+i*9) (ra.map Value.bool))) (by kernel_rfl) ⟨q1,q2⟩ (fun hH=>?_);refine wpAnyH_take (i:=0) (v:=?_) rfl (by kernel_rfl) (by kernel_rfl) (by kernel_rfl) (fun _ _ _ h=>h) (xp ⟨by rfl,?_⟩) hH ?_;rotate_left
     ·intro w' hS';(try dsimp only at hS');go_simp<;>(try with_reducible rfl)
     simp only[xo,xe,xj,xm,xh,xf,xg];refine wpAnyH_take (i:=1) (v:=?_) rfl (by kernel_rfl) (by kernel_rfl) (by kernel_rfl) (fun _ _ _ h=>h) (xp ⟨by rfl,?_⟩) hH ?_;rotate_left
     ·intro w' hS';(try dsimp only at hS');go_simp<;>(try with_reducible rfl)
     simp only[xo,xe,xj,xm,xh,xf,xg];refine wpAnyH_take (i:=2) (v:=?_) rfl (by kernel_rfl) (by kernel_rfl) (by kernel_rfl) (fun _ _ _ h=>h) (xp ⟨by rfl,?_⟩) hH ?_;rotate_left
     ·intro w' hS';(try dsimp only at hS');go_simp<;>(try with_reducible rfl)
     simp only[xo,xe,xj,xm,xh,xf,xg];refine wpAnyH_take (i:=3) (v:=.agg (c.fst.map Value.bool).toArray) rfl (by kernel_rfl) (by kernel_rfl) (by kernel_rfl) (fun _ _ _ h=>h) (yieldsIf_load_mid (by rfl) _ _ rfl _ _ rfl _ _ (fun w' h=>h.1) Tryz.underlying111 rfl i1) hH ?_;simp only[xo,xe,xj,xm,xh,xf,xg];refine wpAnyH_take (i:=4) (v:=?_) rfl (by kernel_rfl) (by kernel_rfl) (by kernel_rfl) (fun _ _ _ h=>h) (xp ⟨by rfl,?_⟩) hH ?_;rotate_left
     ·intro w' hS';(try dsimp only at hS');go_simp<;>(try with_reducible rfl)
     simp only[xo,xe,xj,xm,xh,xf,xg];refine wpAnyH_take (i:=5) (v:=?_) rfl (by kernel_rfl) (by kernel_rfl) (by kernel_rfl) (fun _ _ _ h=>h) (xp ⟨by rfl,?_⟩) hH ?_;rotate_left
     ·intro w' hS';(try dsimp only at hS');go_simp<;>(try with_reducible rfl)
     simp only[xo,xe,xj,xm,xh,xf,xg];refine wpAnyH_take (i:=6) (v:=?_) rfl (by kernel_rfl) (by kernel_rfl) (by kernel_rfl) (fun _ _ _ h=>h) (xp ⟨by rfl,?_⟩) hH ?_;rotate_left
     ·intro w' hS';(try dsimp only at hS');go_simp<;>(try with_reducible rfl)
     simp only[xo,xe,xj,xm,xh,xf,xg];refine wpAnyH_take (i:=7) (v:=.agg (ra.map Value.bool).toArray) rfl (by kernel_rfl) (by kernel_rfl) (by kernel_rfl) (fun _ _ _ h=>h) (yieldsIf_load_mid (by rfl) _ _ rfl _ _ rfl _ _ (fun w' h=>h.2) Tryz.underlying111 rfl i2) hH ?_;simp only[xo,xe,xj,xm,xh,xf,xg];refine wpAnyH_ready (rs:=[8]) (by kernel_rfl) (by simp) ?_;refine qf rfl (fun K hK=>?_) qg
     go_simp
     refine(a1 _).mono ?_;rintro e w1 ⟨rfl,hb1⟩
     go_wp2_with fail
     refine hK.out _ _ ⟨zaf hb1 hH.1,zaf hb1 hH.2⟩ (fun hH2=>?_);clear hK K
     replace hH:=hH2
     (try simp only[xo,xe,xj,xm,xh,xf,xg])
     refine wpAnyH_take (i:=9) (v:=?_) rfl (by kernel_rfl) (by kernel_rfl) (by kernel_rfl) (fun _ _ _ h=>h) (xp ⟨by rfl,?_⟩) hH ?_;rotate_left
     ·intro w' hS';(try dsimp only at hS');go_simp<;>(try with_reducible rfl)
     simp only[xo,xe,xj,xm,xh,xf,xg];refine wpAnyH_take (i:=10) (v:=?_) rfl (by kernel_rfl) (by kernel_rfl) (by kernel_rfl) (fun _ _ _ h=>h) (xp ⟨by rfl,?_⟩) hH ?_;rotate_left
     ·intro w' hS';(try dsimp only at hS');go_simp<;>(try with_reducible rfl)
     simp only[xo,xe,xj,xm,xh,xf,xg];refine wpAnyH_done (by kernel_rfl) ?_ _
     go_wp2_with fail
     go_roundw
     case rel=>exact⟨i+1,by omega,by go_num,hy',thn3 hb.drew hb1⟩
     case measure=>simp[intOf];omega
    |false =>
     have hR1:=hno rfl;clear hno hyes;subst hR1
     go_wp2_with fail
     refine wp_region_held_drew (S:=(fun w'=>w'.rangeAt w.heap.size 9 (c.fst.map Value.bool)/\w'.rangeAt w.heap.size (27+i*9) (ra.map Value.bool))) (by kernel_rfl) ⟨q1,q2⟩ (fun hH=>?_);refine wpAnyH_take (i:=0) (v:=?_) rfl (by kernel_rfl) (by kernel_rfl) (by kernel_rfl) (fun _ _ _ h=>h) (xp ⟨by rfl,?_⟩) hH ?_;rotate_left
     ·intro w' hS';(try dsimp only at hS');go_simp<;>(try with_reducible rfl)
     simp only[xo,xe,xj,xm,xh,xf,xg];refine wpAnyH_take (i:=1) (v:=?_) rfl (by kernel_rfl) (by kernel_rfl) (by kernel_rfl) (fun _ _ _ h=>h) (xp ⟨by rfl,?_⟩) hH ?_;rotate_left
     ·intro w' hS';(try dsimp only at hS');go_simp<;>(try with_reducible rfl)
     simp only[xo,xe,xj,xm,xh,xf,xg];refine wpAnyH_take (i:=2) (v:=?_) rfl (by kernel_rfl) (by kernel_rfl) (by kernel_rfl) (fun _ _ _ h=>h) (xp ⟨by rfl,?_⟩) hH ?_;rotate_left
     ·intro w' hS';(try dsimp only at hS');go_simp<;>(try with_reducible rfl)
     simp only[xo,xe,xj,xm,xh,xf,xg];refine wpAnyH_take (i:=3) (v:=.agg (c.fst.map Value.bool).toArray) rfl (by kernel_rfl) (by kernel_rfl) (by kernel_rfl) (fun _ _ _ h=>h) (yieldsIf_load_mid (by rfl) _ _ rfl _ _ rfl _ _ (fun w' h=>h.1) Tryz.underlying111 rfl i1) hH ?_;simp only[xo,xe,xj,xm,xh,xf,xg];refine wpAnyH_take (i:=4) (v:=?_) rfl (by kernel_rfl) (by kernel_rfl) (by kernel_rfl) (fun _ _ _ h=>h) (xp ⟨by rfl,?_⟩) hH ?_;rotate_left
     ·intro w' hS';(try dsimp only at hS');go_simp<;>(try with_reducible rfl)
     simp only[xo,xe,xj,xm,xh,xf,xg];refine wpAnyH_take (i:=5) (v:=?_) rfl (by kernel_rfl) (by kernel_rfl) (by kernel_rfl) (fun _ _ _ h=>h) (xp ⟨by rfl,?_⟩) hH ?_;rotate_left
     ·intro w' hS';(try dsimp only at hS');go_simp<;>(try with_reducible rfl)
     simp only[xo,xe,xj,xm,xh,xf,xg];refine wpAnyH_take (i:=6) (v:=?_) rfl (by kernel_rfl) (by kernel_rfl) (by kernel_rfl) (fun _ _ _ h=>h) (xp ⟨by rfl,?_⟩) hH ?_;rotate_left
     ·intro w' hS';(try dsimp only at hS');go_simp<;>(try with_reducible rfl)
     simp only[xo,xe,xj,xm,xh,xf,xg];refine wpAnyH_take (i:=7) (v:=.agg (ra.map Value.bool).toArray) rfl (by kernel_rfl) (by kernel_rfl) (by kernel_rfl) (fun _ _ _ h=>h) (yieldsIf_load_mid (by rfl) _ _ rfl _ _ rfl _ _ (fun w' h=>h.2) Tryz.underlying111 rfl i2) hH ?_;simp only[xo,xe,xj,xm,xh,xf,xg];refine wpAnyH_ready (rs:=[8]) (by kernel_rfl) (by simp) ?_;refine qf rfl (fun K hK=>?_) qg
     go_simp
     refine(a1 _).mono ?_;rintro e w1 ⟨rfl,hb1⟩
     go_wp2_with fail
     refine hK.out _ _ ⟨zaf hb1 hH.1,zaf hb1 hH.2⟩ (fun hH2=>?_);clear hK K
     replace hH:=hH2
     (try simp only[xo,xe,xj,xm,xh,xf,xg])
     refine wpAnyH_take (i:=9) (v:=?_) rfl (by kernel_rfl) (by kernel_rfl) (by kernel_rfl) (fun _ _ _ h=>h) (xp ⟨by rfl,?_⟩) hH ?_;rotate_left
     ·intro w' hS';(try dsimp only at hS');go_simp<;>(try with_reducible rfl)
     simp only[xo,xe,xj,xm,xh,xf,xg];refine wpAnyH_take (i:=10) (v:=?_) rfl (by kernel_rfl) (by kernel_rfl) (by kernel_rfl) (fun _ _ _ h=>h) (xp ⟨by rfl,?_⟩) hH ?_;rotate_left
     ·intro w' hS';(try dsimp only at hS');go_simp<;>(try with_reducible rfl)
     simp only[xo,xe,xj,xm,xh,xf,xg];refine wpAnyH_done (by kernel_rfl) ?_ _
     go_wp2_with fail
     go_ret;exact⟨rfl,thn3 hbw.drew hb1⟩
   |false =>
    have hy':=hyes rfl;clear hno hyes
    go_wp2_with fail
    refine wp_region_held_drew (S:=(fun w'=>w'.rangeAt w.heap.size 9 (c.fst.map Value.bool)/\w'.rangeAt w.heap.size (27+i*9) (ra.map Value.bool))) (by kernel_rfl) ⟨q1,q2⟩ (fun hH=>?_);refine wpAnyH_take (i:=0) (v:=?_) rfl (by kernel_rfl) (by kernel_rfl) (by kernel_rfl) (fun _ _ _ h=>h) (xp ⟨by rfl,?_⟩) hH ?_;rotate_left
    ·intro w' hS';(try dsimp only at hS');go_simp<;>(try with_reducible rfl)
    simp only[xo,xe,xj,xm,xh,xf,xg];refine wpAnyH_take (i:=1) (v:=?_) rfl (by kernel_rfl) (by kernel_rfl) (by kernel_rfl) (fun _ _ _ h=>h) (xp ⟨by rfl,?_⟩) hH ?_;rotate_left
    ·intro w' hS';(try dsimp only at hS');go_simp<;>(try with_reducible rfl)
    simp only[xo,xe,xj,xm,xh,xf,xg];refine wpAnyH_take (i:=2) (v:=undef) rfl (by kernel_rfl) (by kernel_rfl) (by kernel_rfl) (fun _ _ _ h=>h) (xz ⟨by rfl,rfl⟩) hH ?_;simp only[xo,xe,xj,xm,xh,xf,xg];refine wpAnyH_take (i:=3) (v:=undef) rfl (by kernel_rfl) (by kernel_rfl) (by kernel_rfl) (fun _ _ _ h=>h) (xz ⟨by rfl,rfl⟩) hH ?_;simp only[xo,xe,xj,xm,xh,xf,xg];refine wpAnyH_take (i:=4) (v:=undef) rfl (by kernel_rfl) (by kernel_rfl) (by kernel_rfl) (fun _ _ _ h=>h) (xz ⟨by rfl,rfl⟩) hH ?_;simp only[xo,xe,xj,xm,xh,xf,xg];refine wpAnyH_take (i:=5) (v:=undef) rfl (by kernel_rfl) (by kernel_rfl) (by kernel_rfl) (fun _ _ _ h=>h) (xz ⟨by rfl,rfl⟩) hH ?_;simp only[xo,xe,xj,xm,xh,xf,xg];refine wpAnyH_take (i:=6) (v:=undef) rfl (by kernel_rfl) (by kernel_rfl) (by kernel_rfl) (fun _ _ _ h=>h) (xz ⟨by rfl,rfl⟩) hH ?_;simp only[xo,xe,xj,xm,xh,xf,xg];refine wpAnyH_take (i:=7) (v:=undef) rfl (by kernel_rfl) (by kernel_rfl) (by kernel_rfl) (fun _ _ _ h=>h) (xz ⟨by rfl,rfl⟩) hH ?_;simp only[xo,xe,xj,xm,xh,xf,xg];refine wpAnyH_take (i:=8) (v:=undef) rfl (by kernel_rfl) (by kernel_rfl) (by kernel_rfl) (fun _ _ _ h=>h) (xz ⟨by rfl,rfl⟩) hH ?_;simp only[xo,xe,xj,xm,xh,xf,xg];refine wpAnyH_take (i:=9) (v:=undef) rfl (by kernel_rfl) (by kernel_rfl) (by kernel_rfl) (fun _ _ _ h=>h) (xz ⟨by rfl,rfl⟩) hH ?_;simp only[xo,xe,xj,xm,xh,xf,xg];refine wpAnyH_take (i:=10) (v:=?_) rfl (by kernel_rfl) (by kernel_rfl) (by kernel_rfl) (fun _ _ _ h=>h) (xp ⟨by rfl,?_⟩) hH ?_;rotate_left
    ·intro w' hS';(try dsimp only at hS');go_simp<;>(try with_reducible rfl)
    simp only[xo,xe,xj,xm,xh,xf,xg];refine wpAnyH_done (by kernel_rfl) ?_ _
    go_wp2_with fail
    go_roundw
    case rel=>exact⟨i+1,by omega,by go_num,hy',hb.drew⟩
    case measure=>simp[intOf];omega
  ·have hR1:R=true:=by rw[HR.out,<- hn.out,show i=9 by omega]
   clear HR hn;subst hR1
   go_wp2_with fail
   go_ret;exact⟨rfl,hbw⟩
end
section
set_option maxRecDepth 16000
open Go.Lib (below_setCells)
theorem zs7 (c:ChD)(n cap:Nat)(a:Option Addr)(hl:200<n)(hn:n<=2000000)(w:World) :
  Calls Tryz.prog 67 #[.agg c.cells.toArray,.slice a n cap] w fun e W=>e=.returned (.bool false)/\Below w.heap.size w W:=by
 have hl':(200:Int)<(n:Int):=by omega
 go_enter Tryz.func67,Tryz.ntmps67
 go_wp2_with fail
 go_ret;exact⟨rfl,belS _ _⟩
def amB (c:ChD)(ms:List (Int×Int)):Bool:=decide (ms.length<=200)&&mvsB c (begD c) ms
theorem zs5 (c:ChD)(hc:c.ok)(ms:List (Int×Int))(w:World)(a:Option Addr)(cap:Nat)(hl:ms.length<=2000000)(hp:MvsAt w a ms) :
  Calls Tryz.prog 67 #[.agg c.cells.toArray,.slice a ms.length cap] w fun e W=>e=.returned (.bool (amB c ms))/\Below w.heap.size w W:=by
 unfold amB;by_cases h:ms.length<=200
 ·rw[decide_eq_true h,Bool.true_and];exact zs6 c hc ms w a cap h hp
 ·rw[decide_eq_false h,Bool.false_and];exact zs7 c ms.length cap a (by omega) hl w
def zbd (f:zac)(ms:List (Int×Int)):Int×Int :=
 if ordB f=true then (if amB (zai f) ms=true then (if sndB (zai f)=true then ((sfN (zai f) (begD (zai f)) ms:Nat),0) else (0,10)) else (0,9)) else (0,8)
theorem zjc (f:zac)(sa ta va:Option Addr)(sl sc tl tc vl vc:Nat)(ms:List (Int×Int))(ma:Option Addr)(mc:Nat)(w:World)(hf:FleetAt w sa sl sc ta tl tc va vl vc f)(hml:ms.length<=2000000)(hm:MvsAt w ma ms) :
  Calls Tryz.prog 25 #[.agg #[.slice sa sl sc,.slice ta tl tc,.slice va vl vc],.slice ma ms.length mc] w fun e W=>e=.returned (.tuple #[.int .i64 (zbd f ms).1,.int .i64 (zbd f ms).2])/\Below w.heap.size w W:=by
 have f0:=box3 w (.slice sa sl sc) (.slice ta tl tc) (.slice va vl vc) 26;have hio:=fun (W:World) (h:Below w.heap.size w W)=>zl6 f sa ta va sl sc tl tc vl vc W (hf.keep h);unfold zbd;cases hob:ordB f with
 |false =>
  rw[hob]at hio;simp only[xu,if_false];clear hf hm
  go_enter Tryz.func25,Tryz.ntmps25
  go_wp2_with (go_at_call 46;refine(hio _ (bel1 _ _)).mono ?_;rintro e w1 ⟨rfl,hb1⟩)
  go_ret2
  exact⟨rfl,thn3 (bel1 _ _) hb1⟩
 |true =>
  rw[hob]at hio;simp only[if_true];have ho:=zb3 hob;have hch:=fun (W:World) (h:Below w.heap.size w W)=>zl3 f ho sa ta va sl sc tl tc vl vc W (hf.keep h);have hok:=zf9 f;have ham:=fun (W:World) (h:Below w.heap.size w W)=>zs5 (zai f) hok ms W ma mc hml (fun i m hi=>by obtain⟨b,o,h1,h2,h3⟩:=hm i m hi;exact⟨b,o,h1,zab h h2,zab h h3⟩);have hsn:=fun (W:World)=>zmf (zai f) hok W;have hsf:=fun (hl:ms.length<=200) (W:World) (h:Below w.heap.size w W)=>ztt (zai f) hok ms W ma mc hl (fun i m hi=>by obtain⟨b,o,h1,h2,h3⟩:=hm i m hi;exact⟨b,o,h1,zab h h2,zab h h3⟩);have hi6:(Tryz.prog.info? 114).map (·.size)=some (zai f).cells.length:=by rw[hok.len];exact Tryz.infoCht
  have h16:(zai f).cells.toArray.all (·.oneCell')=true:=zd2 _;have hCl:=hok.len;have hleam:amB (zai f) ms=true->ms.length<=200:=fun h=>by unfold amB at h;rw[Bool.and_eq_true]at h;exact of_decide_eq_true h.1
  generalize amB (zai f) ms=x at ham hleam;generalize sndB (zai f)=y at hsn;generalize (sfN (zai f) (begD (zai f)) ms)=z at hsf;generalize (zai f).cells=C at hch ham hsn hsf hi6 h16 hCl;have hi7:(Tryz.prog.info? 114).map (·.size)=some C.toArray.size:=by rw[List.size_toArray];exact hi6
  have hz:∀ W:World,(W.alloc (.cells Tryz.zeroCells114 114)).there W.heap.size 0 C.toArray.size:=fun W=>by
   rw[show C.toArray.size=189 by simpa using hCl,Tryz.zeroCht];have:=zcm (zal W (.cells ((List.replicate 189 false).map Value.bool).toArray 114));simpa using this
  have hrs:∀ W:World,((W.alloc (.cells Tryz.zeroCells114 114)).setCells W.heap.size 0 C).rangeAt W.heap.size 0 C:=fun W=>World.rangeAt_setCells_same _ W.heap.size 0 C (by simpa using hz W);have hbs:∀ W:World,Below W.heap.size W ((W.alloc (.cells Tryz.zeroCells114 114)).setCells W.heap.size 0 C):=fun W=>below_setCells W.heap.size (Nat.le_refl _) _ _ (belS _ _);have HRS:= zaa hrs;have HBS:= zaa hbs;have HZ:= zaa hz;clear hf hm ho hok hob hCl hrs hbs hz;have hb0:=bel1 w (.cells #[.slice sa sl sc,.slice ta tl tc,.slice va vl vc] 26);cases x with
  |false =>
   simp only[xu,if_false];clear hsn hsf hleam
   go_enter Tryz.func25,Tryz.ntmps25
   go_wp2_with (first
    |(go_at_call 46;refine(hio _ hb0).mono ?_;rintro e w1 ⟨rfl,hb1⟩;have f1:=zaq hb1 f0)
    |(go_at_call 47;refine(hch _ (thn3 hb0 hb1)).mono ?_;rintro e w2 ⟨rfl,hb2⟩;have hz2:=HZ.out w2;have rs2:=HRS.out w2;have bs2:Below w.heap.size w ((w2.alloc (.cells Tryz.zeroCells114 114)).setCells w2.heap.size 0 C):=thn3 (thn3 (thn3 hb0 hb1) hb2) (HBS.out w2))
    |(go_at_call 67;refine(ham _ bs2).mono ?_;rintro e w3 ⟨rfl,hb3⟩)
    |(have hq:=hz2;refine wpList_store_mid rfl 114 _ _ rfl w2.heap.size 0 C.toArray rfl rfl hz2 hi7 h16 ?_)
    |(have hq:=rs2;refine wpList_load_mid rfl 114 _ rfl w2.heap.size 0 rfl C _ rs2 Tryz.underlying114 rfl hi6 ?_))
   go_ret2
   exact⟨rfl,thn3 bs2 hb3⟩
  |true =>
   simp only[if_true];have hsf:=hsf (hleam rfl);cases y with
   |false =>
    simp only[xu,if_false];clear hsf hleam
    go_enter Tryz.func25,Tryz.ntmps25
    go_wp2_with (first
     |(go_at_call 46;refine(hio _ hb0).mono ?_;rintro e w1 ⟨rfl,hb1⟩;have f1:=zaq hb1 f0)
     |(go_at_call 47;refine(hch _ (thn3 hb0 hb1)).mono ?_;rintro e w2 ⟨rfl,hb2⟩;have hz2:=HZ.out w2;have rs2:=HRS.out w2;have bs2:Below w.heap.size w ((w2.alloc (.cells Tryz.zeroCells114 114)).setCells w2.heap.size 0 C):=thn3 (thn3 (thn3 hb0 hb1) hb2) (HBS.out w2))
     |(go_at_call 67;refine(ham _ bs2).mono ?_;rintro e w3 ⟨rfl,hb3⟩;have rs3:=zaf hb3 rs2)
     |(go_at_call 48;refine(hsn _).mono ?_;rintro e w4 ⟨rfl,hb4⟩)
     |(have hq:=hz2;refine wpList_store_mid rfl 114 _ _ rfl w2.heap.size 0 C.toArray rfl rfl hz2 hi7 h16 ?_)
     |(have hq:=rs3;refine wpList_load_mid rfl 114 _ rfl w2.heap.size 0 rfl C _ rs3 Tryz.underlying114 rfl hi6 ?_)
     |(have hq:=rs2;refine wpList_load_mid rfl 114 _ rfl w2.heap.size 0 rfl C _ rs2 Tryz.underlying114 rfl hi6 ?_))
    go_ret2
    exact⟨rfl,thn3 (thn3 bs2 hb3) hb4⟩
   |true =>
    simp only[if_true];clear hleam
    go_enter Tryz.func25,Tryz.ntmps25
    go_wp2_with (first
     |(go_at_call 46;refine(hio _ hb0).mono ?_;rintro e w1 ⟨rfl,hb1⟩;have f1:=zaq hb1 f0)
     |(go_at_call 47;refine(hch _ (thn3 hb0 hb1)).mono ?_;rintro e w2 ⟨rfl,hb2⟩;have hz2:=HZ.out w2;have rs2:=HRS.out w2;have bs2:Below w.heap.size w ((w2.alloc (.cells Tryz.zeroCells114 114)).setCells w2.heap.size 0 C):=thn3 (thn3 (thn3 hb0 hb1) hb2) (HBS.out w2))
     |(go_at_call 67;refine(ham _ bs2).mono ?_;rintro e w3 ⟨rfl,hb3⟩;have rs3:=zaf hb3 rs2)
     |(go_at_call 48;refine(hsn _).mono ?_;rintro e w4 ⟨rfl,hb4⟩;have rs4:=zaf hb4 rs3)
     |(go_at_call 68;refine(hsf _ (thn3 (thn3 bs2 hb3) hb4)).mono ?_;rintro e w5 ⟨rfl,hb5⟩)
     |(have hq:=hz2;refine wpList_store_mid rfl 114 _ _ rfl w2.heap.size 0 C.toArray rfl rfl hz2 hi7 h16 ?_)
     |(have hq:=rs4;refine wpList_load_mid rfl 114 _ rfl w2.heap.size 0 rfl C _ rs4 Tryz.underlying114 rfl hi6 ?_)
     |(have hq:=rs3;refine wpList_load_mid rfl 114 _ rfl w2.heap.size 0 rfl C _ rs3 Tryz.underlying114 rfl hi6 ?_)
     |(have hq:=rs2;refine wpList_load_mid rfl 114 _ rfl w2.heap.size 0 rfl C _ rs2 Tryz.underlying114 rfl hi6 ?_))
    go_ret2
    exact⟨rfl,thn3 (thn3 (thn3 bs2 hb3) hb4) hb5⟩
end
section
end
section
end
section
theorem yada {ss:List ByteArray}{i j:Nat}{s t:ByteArray}(hi:ss[i]?=some s)(hj:ss[j]?=some t):tabI ss i j=fitB s t:=by unfold tabI;rw[hi,hj]
def rdB (ss:List ByteArray)(p q:PinD):Bool:=(decide (p.w<0)||decide (q.r<0))||tabI ss p.w.toNat q.r.toNat
end
section
def meB (ss:List ByteArray)(ts:List Int)(kept:Bool)(p q:PinD):Bool:=(p.t != q.t)||(kept&&(ts.getD p.t.toNat 0 != 0))||(rdB ss p q&&rdB ss q p)
def metB (ss:List ByteArray)(ts:List Int)(kept:Bool)(ps qs:List PinD):Bool:=ps.all fun p=>qs.all (meB ss ts kept p)
def zfk (ns nt:Nat)(ps:List PinD):Prop:=∀ p∈ps,(0<=p.t/\p.t<nt)/\p.w<ns/\p.r<ns/\-1<=p.w/\-1<=p.r
end
section
end
section
def rlen (vs:List SvcD)(s:Nat):Nat:=match vs[s]? with|some v=>v.rels.length|none=>0
end
end Go.Proofs.YtkkekopomiehlabGreatDoor
