import Derived.Test.YtkkekopomiehlaaGreatCSf3
set_option linter.unusedVariables false
set_option linter.unusedSimpArgs false
set_option maxHeartbeats 40000000
namespace Go.Proofs.YtkkekopomiehlaaGreat
section
set_option maxRecDepth 4000
open Go.RowKit
def sndB (c : ChD) : Bool:=(List.range 9).all fun i => !(c.fst.getD i false) || algB c.fst (c.alg.getD i [])
theorem zsn (c : ChD) (hc : c.ok) (w : World) : Calls Tryz.prog 23 #[.agg c.cells.toArray] w fun e W => e = .returned (.bool (sndB c)) /\ Below w.heap.size w W:=by
 have hq1:=zbr (zay w (.cells c.cells.toArray 52))
 have r1:=zc4 (k:=9) (ds:=c.fst.map Value.bool) hq1 (fun j v hj => by
   rw [List.getElem?_map] at hj
   obtain ⟨b,hb,rfl⟩:=Option.map_eq_some_iff.1 hj
   rw [ChD.cells,List.getElem?_map,hc.get_fst hb];rfl)
 rw [Nat.zero_add] at r1
 have i1 : (Tryz.prog.info? 49).map (·.size) = some (c.fst.map Value.bool).length:=by rw [List.length_map,hc.fst];exact Tryz.infoSet
 obtain ⟨R,hR⟩ : ∃ R,R = sndB c:=⟨_,rfl⟩
 rw [<- hR]
 have HR : Hid (R = (List.range 9).all fun i => !(c.fst.getD i false) || algB c.fst (c.alg.getD i [])):=hR
 have HC:=((show Hid (ChD.ok c) from hc))
 clear hR hc
 go_enter Tryz.func23,Tryz.ntmps23
 go_wp2_with (refine wpList_load_mid (w:=w.alloc (.cells c.cells.toArray 52)) rfl 49 _ rfl w.heap.size 9 rfl (c.fst.map Value.bool) _ r1 Tryz.underlying49 rfl i1 ?_)
 go_loopw [7] (fun vi wr => ∃ i : Nat,i <= 9 /\ vi = .int .i64 i /\ Hid ((List.range i).all (fun i => !(c.fst.getD i false) || algB c.fst (c.alg.getD i [])) = true) /\ Below (w.alloc (.cells c.cells.toArray 52)).heap.size (w.alloc (.cells c.cells.toArray 52)) wr) (fun i _ => 9 - (intOf i).toNat)
 case atStart => exact ⟨0,by omega,rfl,(by show _ = _;rfl),Below.refl _ _⟩
 case round =>
  obtain ⟨i,hi9,rfl,hn,hb⟩:=hrel
  have hbw:=thn3 (belS w _) hb
  by_cases hlt : i < 9
  ·have hc:=HC.out
   obtain ⟨x,hx⟩ : ∃ x,c.fst[i]? = some x:=⟨c.fst[i]'(by rw [hc.fst];omega),List.getElem?_eq_getElem (by rw [hc.fst];omega)⟩
   obtain ⟨ra,hra⟩ : ∃ r,c.alg[i]? = some r:=⟨c.alg[i]'(by rw [hc.alg];omega),List.getElem?_eq_getElem (by rw [hc.alg];omega)⟩
   have la:=hc.algr ra (List.mem_of_getElem? hra)
   have q1:=zag hb r1
   have q2:=zc4 (k:=27 + i * 9) (ds:=ra.map Value.bool) (zag hb hq1) (fun j v hj => by
    rw [List.getElem?_map] at hj
    obtain ⟨b,hb,rfl⟩:=Option.map_eq_some_iff.1 hj
    rw [ChD.cells,List.getElem?_map,hc.get_alg hra hb];rfl)
   rw [Nat.zero_add] at q2
   have a1:=fun W => zjg c.fst ra hc.fst la W
   have i2 : (Tryz.prog.info? 49).map (·.size) = some (ra.map Value.bool).length:=by rw [List.length_map,la];exact Tryz.infoSet
   have hidx:=fun W => zqj (P:=Tryz.prog) (w:=W) 49 4 .bool 9 (c.fst.map Value.bool).toArray .i64 i Tryz.underlying49 Tryz.infoBool Tryz.underlying4 (fun _ h => by cases h) (fun _ _ h => by cases h) hlt (.bool x) (by simp [hx])
   have hFx : (!(c.fst.getD i false) || algB c.fst (c.alg.getD i [])) = (!x || algB c.fst ra):=by simp [List.getD,hx,hra]
   generalize algB c.fst ra = y at a1 hFx
   have hno : (!x || y) = false -> R = false:=fun h => by rw [HR.out];exact zhj hlt (by rw [hFx];exact h)
   have hyes : (!x || y) = true -> Hid ((List.range (i + 1)).all (fun i => !(c.fst.getD i false) || algB c.fst (c.alg.getD i [])) = true):=fun h => by show _ = _;rw [zf5,hn.out,hFx,h];rfl
   have hx0 := znn i
   have hx1 : (i : Int) < 9:=by omega
   clear hFx hn hx hra hq1 HR r1 hc
   cases x with
   | true =>
    cases y with
    | true =>
     have hy':=hyes rfl
     clear hno hyes
     go_wp2_with fail
     refine wp_region_held_drew (S:=(fun w' => w'.rangeAt w.heap.size 9 (c.fst.map Value.bool) /\ w'.rangeAt w.heap.size (27 + i * 9) (ra.map Value.bool))) (by kernel_rfl) ⟨q1,q2⟩ (fun hH => ?_)
     refine wpAnyH_take (i:=0) (v:=?_) rfl (by kernel_rfl) (by kernel_rfl) (by kernel_rfl) (fun _ _ _ h => h) (Or.inl ⟨by rfl,?_⟩) hH ?_
     rotate_left
     ·intro w' hS';(try dsimp only at hS');go_simp <;> (try with_reducible rfl)
     simp only [Act.put,List.setIfInBounds_toArray,List.set_cons_zero,List.set_cons_succ,List.getElem_toArray,List.getElem_cons_zero,List.getElem_cons_succ]
     refine wpAnyH_take (i:=1) (v:=?_) rfl (by kernel_rfl) (by kernel_rfl) (by kernel_rfl) (fun _ _ _ h => h) (Or.inl ⟨by rfl,?_⟩) hH ?_
     rotate_left
     ·intro w' hS';(try dsimp only at hS');go_simp <;> (try with_reducible rfl)
     simp only [Act.put,List.setIfInBounds_toArray,List.set_cons_zero,List.set_cons_succ,List.getElem_toArray,List.getElem_cons_zero,List.getElem_cons_succ]
     refine wpAnyH_take (i:=2) (v:=?_) rfl (by kernel_rfl) (by kernel_rfl) (by kernel_rfl) (fun _ _ _ h => h) (Or.inl ⟨by rfl,?_⟩) hH ?_
     rotate_left
     ·intro w' hS';(try dsimp only at hS');go_simp <;> (try with_reducible rfl)
     simp only [Act.put,List.setIfInBounds_toArray,List.set_cons_zero,List.set_cons_succ,List.getElem_toArray,List.getElem_cons_zero,List.getElem_cons_succ]
     refine wpAnyH_take (i:=3) (v:=.agg (c.fst.map Value.bool).toArray) rfl (by kernel_rfl) (by kernel_rfl) (by kernel_rfl) (fun _ _ _ h => h) (yieldsIf_load_mid (by rfl) _ _ rfl _ _ rfl _ _ (fun w' h => h.1) Tryz.underlying49 rfl i1) hH ?_
     simp only [Act.put,List.setIfInBounds_toArray,List.set_cons_zero,List.set_cons_succ,List.getElem_toArray,List.getElem_cons_zero,List.getElem_cons_succ]
     refine wpAnyH_take (i:=4) (v:=?_) rfl (by kernel_rfl) (by kernel_rfl) (by kernel_rfl) (fun _ _ _ h => h) (Or.inl ⟨by rfl,?_⟩) hH ?_
     rotate_left
     ·intro w' hS';(try dsimp only at hS');go_simp <;> (try with_reducible rfl)
     simp only [Act.put,List.setIfInBounds_toArray,List.set_cons_zero,List.set_cons_succ,List.getElem_toArray,List.getElem_cons_zero,List.getElem_cons_succ]
     refine wpAnyH_take (i:=5) (v:=?_) rfl (by kernel_rfl) (by kernel_rfl) (by kernel_rfl) (fun _ _ _ h => h) (Or.inl ⟨by rfl,?_⟩) hH ?_
     rotate_left
     ·intro w' hS';(try dsimp only at hS');go_simp <;> (try with_reducible rfl)
     simp only [Act.put,List.setIfInBounds_toArray,List.set_cons_zero,List.set_cons_succ,List.getElem_toArray,List.getElem_cons_zero,List.getElem_cons_succ]
     refine wpAnyH_take (i:=6) (v:=?_) rfl (by kernel_rfl) (by kernel_rfl) (by kernel_rfl) (fun _ _ _ h => h) (Or.inl ⟨by rfl,?_⟩) hH ?_
     rotate_left
     ·intro w' hS';(try dsimp only at hS');go_simp <;> (try with_reducible rfl)
     simp only [Act.put,List.setIfInBounds_toArray,List.set_cons_zero,List.set_cons_succ,List.getElem_toArray,List.getElem_cons_zero,List.getElem_cons_succ]
     refine wpAnyH_take (i:=7) (v:=.agg (ra.map Value.bool).toArray) rfl (by kernel_rfl) (by kernel_rfl) (by kernel_rfl) (fun _ _ _ h => h) (yieldsIf_load_mid (by rfl) _ _ rfl _ _ rfl _ _ (fun w' h => h.2) Tryz.underlying49 rfl i2) hH ?_
     simp only [Act.put,List.setIfInBounds_toArray,List.set_cons_zero,List.set_cons_succ,List.getElem_toArray,List.getElem_cons_zero,List.getElem_cons_succ]
     refine wpAnyH_ready (rs:=[8]) (by kernel_rfl) (by simp) ?_
     refine AllReadyH.cons rfl (fun K hK => ?_) AllReadyH.nil
     go_simp
     refine (a1 _).mono ?_
     rintro e w1 ⟨rfl,hb1⟩
     go_wp2_with fail
     refine hK.out _ _ ⟨zag hb1 hH.1,zag hb1 hH.2⟩ (fun hH2 => ?_)
     clear hK K
     replace hH:=hH2
     (try simp only [Act.put,List.setIfInBounds_toArray,List.set_cons_zero,List.set_cons_succ,List.getElem_toArray,List.getElem_cons_zero,List.getElem_cons_succ])
     refine wpAnyH_take (i:=9) (v:=?_) rfl (by kernel_rfl) (by kernel_rfl) (by kernel_rfl) (fun _ _ _ h => h) (Or.inl ⟨by rfl,?_⟩) hH ?_
     rotate_left
     ·intro w' hS';(try dsimp only at hS');go_simp <;> (try with_reducible rfl)
     simp only [Act.put,List.setIfInBounds_toArray,List.set_cons_zero,List.set_cons_succ,List.getElem_toArray,List.getElem_cons_zero,List.getElem_cons_succ]
     refine wpAnyH_take (i:=10) (v:=?_) rfl (by kernel_rfl) (by kernel_rfl) (by kernel_rfl) (fun _ _ _ h => h) (Or.inl ⟨by rfl,?_⟩) hH ?_
     rotate_left
     ·intro w' hS';(try dsimp only at hS');go_simp <;> (try with_reducible rfl)
     simp only [Act.put,List.setIfInBounds_toArray,List.set_cons_zero,List.set_cons_succ,List.getElem_toArray,List.getElem_cons_zero,List.getElem_cons_succ]
     refine wpAnyH_done (by kernel_rfl) ?_ _
     go_wp2_with fail
     go_roundw
     case rel => exact ⟨i + 1,by omega,by go_num,hy',thn3 hb.drew hb1⟩
     case measure => simp [intOf];omega
    | false =>
     have hR1:=hno rfl
     clear hno hyes
     subst hR1
     go_wp2_with fail
     refine wp_region_held_drew (S:=(fun w' => w'.rangeAt w.heap.size 9 (c.fst.map Value.bool) /\ w'.rangeAt w.heap.size (27 + i * 9) (ra.map Value.bool))) (by kernel_rfl) ⟨q1,q2⟩ (fun hH => ?_)
     refine wpAnyH_take (i:=0) (v:=?_) rfl (by kernel_rfl) (by kernel_rfl) (by kernel_rfl) (fun _ _ _ h => h) (Or.inl ⟨by rfl,?_⟩) hH ?_
     rotate_left
     ·intro w' hS';(try dsimp only at hS');go_simp <;> (try with_reducible rfl)
     simp only [Act.put,List.setIfInBounds_toArray,List.set_cons_zero,List.set_cons_succ,List.getElem_toArray,List.getElem_cons_zero,List.getElem_cons_succ]
     refine wpAnyH_take (i:=1) (v:=?_) rfl (by kernel_rfl) (by kernel_rfl) (by kernel_rfl) (fun _ _ _ h => h) (Or.inl ⟨by rfl,?_⟩) hH ?_
     rotate_left
     ·intro w' hS';(try dsimp only at hS');go_simp <;> (try with_reducible rfl)
     simp only [Act.put,List.setIfInBounds_toArray,List.set_cons_zero,List.set_cons_succ,List.getElem_toArray,List.getElem_cons_zero,List.getElem_cons_succ]
     refine wpAnyH_take (i:=2) (v:=?_) rfl (by kernel_rfl) (by kernel_rfl) (by kernel_rfl) (fun _ _ _ h => h) (Or.inl ⟨by rfl,?_⟩) hH ?_
     rotate_left
     ·intro w' hS';(try dsimp only at hS');go_simp <;> (try with_reducible rfl)
     simp only [Act.put,List.setIfInBounds_toArray,List.set_cons_zero,List.set_cons_succ,List.getElem_toArray,List.getElem_cons_zero,List.getElem_cons_succ]
     refine wpAnyH_take (i:=3) (v:=.agg (c.fst.map Value.bool).toArray) rfl (by kernel_rfl) (by kernel_rfl) (by kernel_rfl) (fun _ _ _ h => h) (yieldsIf_load_mid (by rfl) _ _ rfl _ _ rfl _ _ (fun w' h => h.1) Tryz.underlying49 rfl i1) hH ?_
     simp only [Act.put,List.setIfInBounds_toArray,List.set_cons_zero,List.set_cons_succ,List.getElem_toArray,List.getElem_cons_zero,List.getElem_cons_succ]
     refine wpAnyH_take (i:=4) (v:=?_) rfl (by kernel_rfl) (by kernel_rfl) (by kernel_rfl) (fun _ _ _ h => h) (Or.inl ⟨by rfl,?_⟩) hH ?_
     rotate_left
     ·intro w' hS';(try dsimp only at hS');go_simp <;> (try with_reducible rfl)
     simp only [Act.put,List.setIfInBounds_toArray,List.set_cons_zero,List.set_cons_succ,List.getElem_toArray,List.getElem_cons_zero,List.getElem_cons_succ]
     refine wpAnyH_take (i:=5) (v:=?_) rfl (by kernel_rfl) (by kernel_rfl) (by kernel_rfl) (fun _ _ _ h => h) (Or.inl ⟨by rfl,?_⟩) hH ?_
     rotate_left
     ·intro w' hS';(try dsimp only at hS');go_simp <;> (try with_reducible rfl)
     simp only [Act.put,List.setIfInBounds_toArray,List.set_cons_zero,List.set_cons_succ,List.getElem_toArray,List.getElem_cons_zero,List.getElem_cons_succ]
     refine wpAnyH_take (i:=6) (v:=?_) rfl (by kernel_rfl) (by kernel_rfl) (by kernel_rfl) (fun _ _ _ h => h) (Or.inl ⟨by rfl,?_⟩) hH ?_
     rotate_left
     ·intro w' hS';(try dsimp only at hS');go_simp <;> (try with_reducible rfl)
     simp only [Act.put,List.setIfInBounds_toArray,List.set_cons_zero,List.set_cons_succ,List.getElem_toArray,List.getElem_cons_zero,List.getElem_cons_succ]
     refine wpAnyH_take (i:=7) (v:=.agg (ra.map Value.bool).toArray) rfl (by kernel_rfl) (by kernel_rfl) (by kernel_rfl) (fun _ _ _ h => h) (yieldsIf_load_mid (by rfl) _ _ rfl _ _ rfl _ _ (fun w' h => h.2) Tryz.underlying49 rfl i2) hH ?_
     simp only [Act.put,List.setIfInBounds_toArray,List.set_cons_zero,List.set_cons_succ,List.getElem_toArray,List.getElem_cons_zero,List.getElem_cons_succ]
     refine wpAnyH_ready (rs:=[8]) (by kernel_rfl) (by simp) ?_
     refine AllReadyH.cons rfl (fun K hK => ?_) AllReadyH.nil
     go_simp
     refine (a1 _).mono ?_
     rintro e w1 ⟨rfl,hb1⟩
     go_wp2_with fail
     refine hK.out _ _ ⟨zag hb1 hH.1,zag hb1 hH.2⟩ (fun hH2 => ?_)
     clear hK K
     replace hH:=hH2
     (try simp only [Act.put,List.setIfInBounds_toArray,List.set_cons_zero,List.set_cons_succ,List.getElem_toArray,List.getElem_cons_zero,List.getElem_cons_succ])
     refine wpAnyH_take (i:=9) (v:=?_) rfl (by kernel_rfl) (by kernel_rfl) (by kernel_rfl) (fun _ _ _ h => h) (Or.inl ⟨by rfl,?_⟩) hH ?_
     rotate_left
     ·intro w' hS';(try dsimp only at hS');go_simp <;> (try with_reducible rfl)
     simp only [Act.put,List.setIfInBounds_toArray,List.set_cons_zero,List.set_cons_succ,List.getElem_toArray,List.getElem_cons_zero,List.getElem_cons_succ]
     refine wpAnyH_take (i:=10) (v:=?_) rfl (by kernel_rfl) (by kernel_rfl) (by kernel_rfl) (fun _ _ _ h => h) (Or.inl ⟨by rfl,?_⟩) hH ?_
     rotate_left
     ·intro w' hS';(try dsimp only at hS');go_simp <;> (try with_reducible rfl)
     simp only [Act.put,List.setIfInBounds_toArray,List.set_cons_zero,List.set_cons_succ,List.getElem_toArray,List.getElem_cons_zero,List.getElem_cons_succ]
     refine wpAnyH_done (by kernel_rfl) ?_ _
     go_wp2_with fail
     go_ret
     exact ⟨rfl,thn3 hbw.drew hb1⟩
   | false =>
    have hy':=hyes rfl
    clear hno hyes
    go_wp2_with fail
    refine wp_region_held_drew (S:=(fun w' => w'.rangeAt w.heap.size 9 (c.fst.map Value.bool) /\ w'.rangeAt w.heap.size (27 + i * 9) (ra.map Value.bool))) (by kernel_rfl) ⟨q1,q2⟩ (fun hH => ?_)
    refine wpAnyH_take (i:=0) (v:=?_) rfl (by kernel_rfl) (by kernel_rfl) (by kernel_rfl) (fun _ _ _ h => h) (Or.inl ⟨by rfl,?_⟩) hH ?_
    rotate_left
    ·intro w' hS';(try dsimp only at hS');go_simp <;> (try with_reducible rfl)
    simp only [Act.put,List.setIfInBounds_toArray,List.set_cons_zero,List.set_cons_succ,List.getElem_toArray,List.getElem_cons_zero,List.getElem_cons_succ]
    refine wpAnyH_take (i:=1) (v:=?_) rfl (by kernel_rfl) (by kernel_rfl) (by kernel_rfl) (fun _ _ _ h => h) (Or.inl ⟨by rfl,?_⟩) hH ?_
    rotate_left
    ·intro w' hS';(try dsimp only at hS');go_simp <;> (try with_reducible rfl)
    simp only [Act.put,List.setIfInBounds_toArray,List.set_cons_zero,List.set_cons_succ,List.getElem_toArray,List.getElem_cons_zero,List.getElem_cons_succ]
    refine wpAnyH_take (i:=2) (v:=undef) rfl (by kernel_rfl) (by kernel_rfl) (by kernel_rfl) (fun _ _ _ h => h) (Or.inr ⟨by rfl,rfl⟩) hH ?_
    simp only [Act.put,List.setIfInBounds_toArray,List.set_cons_zero,List.set_cons_succ,List.getElem_toArray,List.getElem_cons_zero,List.getElem_cons_succ]
    refine wpAnyH_take (i:=3) (v:=undef) rfl (by kernel_rfl) (by kernel_rfl) (by kernel_rfl) (fun _ _ _ h => h) (Or.inr ⟨by rfl,rfl⟩) hH ?_
    simp only [Act.put,List.setIfInBounds_toArray,List.set_cons_zero,List.set_cons_succ,List.getElem_toArray,List.getElem_cons_zero,List.getElem_cons_succ]
    refine wpAnyH_take (i:=4) (v:=undef) rfl (by kernel_rfl) (by kernel_rfl) (by kernel_rfl) (fun _ _ _ h => h) (Or.inr ⟨by rfl,rfl⟩) hH ?_
    simp only [Act.put,List.setIfInBounds_toArray,List.set_cons_zero,List.set_cons_succ,List.getElem_toArray,List.getElem_cons_zero,List.getElem_cons_succ]
    refine wpAnyH_take (i:=5) (v:=undef) rfl (by kernel_rfl) (by kernel_rfl) (by kernel_rfl) (fun _ _ _ h => h) (Or.inr ⟨by rfl,rfl⟩) hH ?_
    simp only [Act.put,List.setIfInBounds_toArray,List.set_cons_zero,List.set_cons_succ,List.getElem_toArray,List.getElem_cons_zero,List.getElem_cons_succ]
    refine wpAnyH_take (i:=6) (v:=undef) rfl (by kernel_rfl) (by kernel_rfl) (by kernel_rfl) (fun _ _ _ h => h) (Or.inr ⟨by rfl,rfl⟩) hH ?_
    simp only [Act.put,List.setIfInBounds_toArray,List.set_cons_zero,List.set_cons_succ,List.getElem_toArray,List.getElem_cons_zero,List.getElem_cons_succ]
    refine wpAnyH_take (i:=7) (v:=undef) rfl (by kernel_rfl) (by kernel_rfl) (by kernel_rfl) (fun _ _ _ h => h) (Or.inr ⟨by rfl,rfl⟩) hH ?_
    simp only [Act.put,List.setIfInBounds_toArray,List.set_cons_zero,List.set_cons_succ,List.getElem_toArray,List.getElem_cons_zero,List.getElem_cons_succ]
    refine wpAnyH_take (i:=8) (v:=undef) rfl (by kernel_rfl) (by kernel_rfl) (by kernel_rfl) (fun _ _ _ h => h) (Or.inr ⟨by rfl,rfl⟩) hH ?_
    simp only [Act.put,List.setIfInBounds_toArray,List.set_cons_zero,List.set_cons_succ,List.getElem_toArray,List.getElem_cons_zero,List.getElem_cons_succ]
    refine wpAnyH_take (i:=9) (v:=undef) rfl (by kernel_rfl) (by kernel_rfl) (by kernel_rfl) (fun _ _ _ h => h) (Or.inr ⟨by rfl,rfl⟩) hH ?_
    simp only [Act.put,List.setIfInBounds_toArray,List.set_cons_zero,List.set_cons_succ,List.getElem_toArray,List.getElem_cons_zero,List.getElem_cons_succ]
    refine wpAnyH_take (i:=10) (v:=?_) rfl (by kernel_rfl) (by kernel_rfl) (by kernel_rfl) (fun _ _ _ h => h) (Or.inl ⟨by rfl,?_⟩) hH ?_
    rotate_left
    ·intro w' hS';(try dsimp only at hS');go_simp <;> (try with_reducible rfl)
    simp only [Act.put,List.setIfInBounds_toArray,List.set_cons_zero,List.set_cons_succ,List.getElem_toArray,List.getElem_cons_zero,List.getElem_cons_succ]
    refine wpAnyH_done (by kernel_rfl) ?_ _
    go_wp2_with fail
    go_roundw
    case rel => exact ⟨i + 1,by omega,by go_num,hy',hb.drew⟩
    case measure => simp [intOf];omega
  ·have hR1 : R = true:=by rw [HR.out,<- hn.out,show i = 9 by omega]
   clear HR hn
   subst hR1
   go_wp2_with fail
   go_ret
   exact ⟨rfl,hbw⟩
end
end Go.Proofs.YtkkekopomiehlaaGreat
