import Derived.Test.YtkkekopomiehlaaGreatCSf1
import Derived.Lib.SlBuf
set_option linter.unusedVariables false
set_option linter.unusedSimpArgs false
set_option maxHeartbeats 40000000
set_option maxRecDepth 4000
namespace Go.Proofs.YtkkekopomiehlaaGreat
section
open Go.RowKit
def sfB (c : ChD) (s : SiD) (p : Int) : Bool:=numB p 9 && (c.alg.getD p.toNat []).getD p.toNat false && algB s.has (c.alg.getD p.toNat []) && algB s.had (c.fev.getD p.toNat [])
theorem zc4 {w : World} {b o k : Nat} {cs ds : List Value} (h : w.rangeAt b o cs) (hd : ∀ (j : Nat) (v : Value),ds[j]? = some v -> cs[k + j]? = some v) : w.rangeAt b (o + k) ds:=fun j v hj => by
 have:=h (k + j) v (hd j v hj)
 rwa [<- Nat.add_assoc] at this
theorem zu3 (c : ChD) (s : SiD) (p : Int) (hc : c.ok) (hs : s.ok) (w : World) :
  Calls Tryz.prog 52 #[.agg c.cells.toArray,.agg s.cells.toArray,.int .i64 p] w fun e W => e = .returned (.bool (sfB c s p)) /\ Below w.heap.size w W:=by
 have hq1:=zag (belS _ (.cells s.cells.toArray 106)) (zbr (zay w (.cells c.cells.toArray 52)))
 have hq2:=zbr (zay (w.alloc (.cells c.cells.toArray 52)) (.cells s.cells.toArray 106))
 rw [show (w.alloc (.cells c.cells.toArray 52)).heap.size = w.heap.size + 1 by simp] at hq2
 have hB:=(belS w (.cells c.cells.toArray 52)).alloc (by simp) (.cells s.cells.toArray 106)
 have hnum:=fun w => zct p 9 w
 obtain ⟨R,hR⟩ : ∃ R,R = sfB c s p:=⟨_,rfl⟩
 rw [<- hR]
 unfold sfB at hR
 by_cases hp : 0 <= p /\ p < 9
 ·have hnn : numB p 9 = true:=by unfold numB;simp;omega
  rw [hnn] at hnum hR
  obtain ⟨n,rfl⟩ : ∃ n : Nat,p = n:=⟨p.toNat,by omega⟩
  rw [Int.toNat_natCast] at hR
  have hn9' : n < 9:=by omega
  obtain ⟨ra,hra⟩ : ∃ r,c.alg[n]? = some r:=⟨c.alg[n]'(by rw [hc.alg];omega),List.getElem?_eq_getElem (by rw [hc.alg];omega)⟩
  obtain ⟨rf,hrf⟩ : ∃ r,c.fev[n]? = some r:=⟨c.fev[n]'(by rw [hc.fev];omega),List.getElem?_eq_getElem (by rw [hc.fev];omega)⟩
  have la:=hc.algr ra (List.mem_of_getElem? hra)
  have lf:=hc.fevr rf (List.mem_of_getElem? hrf)
  obtain ⟨x,hx⟩ : ∃ x,ra[n]? = some x:=⟨ra[n]'(by omega),List.getElem?_eq_getElem (by omega)⟩
  have r1:=zc4 (k:=27 + n * 9) (ds:=ra.map Value.bool) hq1 (fun j v hj => by
   rw [List.getElem?_map] at hj
   obtain ⟨b,hb,rfl⟩:=Option.map_eq_some_iff.1 hj
   rw [ChD.cells,List.getElem?_map,hc.get_alg hra hb];rfl)
  have r2:=zc4 (k:=108 + n * 9) (ds:=rf.map Value.bool) hq1 (fun j v hj => by
   rw [List.getElem?_map] at hj
   obtain ⟨b,hb,rfl⟩:=Option.map_eq_some_iff.1 hj
   rw [ChD.cells,List.getElem?_map,hc.get_fev hrf hb];rfl)
  have r3:=zc4 (k:=0) (ds:=s.has.map Value.bool) hq2 (fun j v hj => by
   rw [List.getElem?_map] at hj
   obtain ⟨b,hb,rfl⟩:=Option.map_eq_some_iff.1 hj
   rw [SiD.cells,List.getElem?_map,Nat.zero_add,List.getElem?_append_left (List.getElem?_eq_some_iff.1 hb).1,hb];rfl)
  have r4:=zc4 (k:=9) (ds:=s.had.map Value.bool) hq2 (fun j v hj => by
   rw [List.getElem?_map] at hj
   obtain ⟨b,hb,rfl⟩:=Option.map_eq_some_iff.1 hj
   rw [SiD.cells,List.getElem?_map,List.getElem?_append_right (by rw [hs.1];omega),hs.1,show 9 + j - 9 = j by omega,hb];rfl)
  rw [Nat.zero_add] at r1 r2 r3 r4
  have k1:=r1 n (.bool x) (by rw [List.getElem?_map,hx];rfl)
  have hR1 : R = (x && algB s.has ra && algB s.had rf):=by rw [hR];simp [List.getD,hra,hrf,hx]
  have a1:=fun W => zjg s.has ra hs.1 la W
  have a2:=fun W => zjg s.had rf hs.2 lf W
  have i1 : (Tryz.prog.info? 49).map (·.size) = some (ra.map Value.bool).length:=by rw [List.length_map,la];exact Tryz.infoSet
  have i2 : (Tryz.prog.info? 49).map (·.size) = some (rf.map Value.bool).length:=by rw [List.length_map,lf];exact Tryz.infoSet
  have i3 : (Tryz.prog.info? 49).map (·.size) = some (s.has.map Value.bool).length:=by rw [List.length_map,hs.1];exact Tryz.infoSet
  have i4 : (Tryz.prog.info? 49).map (·.size) = some (s.had.map Value.bool).length:=by rw [List.length_map,hs.2];exact Tryz.infoSet
  have hn0 := znn n
  have hn9 : (n : Int) < 9:=hp.2
  clear hR hq1 hq2 hra hrf hx hnn hp
  generalize algB s.has ra = y1 at a1 hR1
  generalize algB s.had rf = y2 at a2 hR1
  subst hR1
  have hu49:=Tryz.underlying49
  cases x with
  | false =>
   go_enter Tryz.func52,Tryz.ntmps52
   go_wp2_with (go_at_call 69;refine (hnum _).mono ?_;rintro e _ ⟨rfl,rfl⟩)
   go_ret
   exact ⟨rfl,hB⟩
  | true =>
   cases y1 with
   | true =>
    go_enter Tryz.func52,Tryz.ntmps52
    go_wp2_with (go_at_call 69;refine (hnum _).mono ?_;rintro e _ ⟨rfl,rfl⟩)
    refine wp_region_held_drew (S:=(fun w' => w'.rangeAt (w.heap.size + 1) 0 (s.has.map Value.bool) /\ w'.rangeAt w.heap.size (27 + n * 9) (ra.map Value.bool) /\ w'.rangeAt (w.heap.size + 1) 9 (s.had.map Value.bool) /\ w'.rangeAt w.heap.size (108 + n * 9) (rf.map Value.bool))) (by kernel_rfl) ⟨r3,r1,r4,r2⟩ (fun hH => ?_)
    refine wpAnyH_take (i:=0) (v:=?_) rfl (by kernel_rfl) (by kernel_rfl) (by kernel_rfl) (fun _ _ _ h => h) (Or.inl ⟨by rfl,?_⟩) hH ?_
    rotate_left
    ·intro w' hS';(try dsimp only at hS');go_simp <;> (try with_reducible rfl)
    simp only [Act.put,List.setIfInBounds_toArray,List.set_cons_zero,List.set_cons_succ,List.getElem_toArray,List.getElem_cons_zero,List.getElem_cons_succ]
    refine wpAnyH_take (i:=1) (v:=.agg (s.has.map Value.bool).toArray) rfl (by kernel_rfl) (by kernel_rfl) (by kernel_rfl) (fun _ _ _ h => h) (yieldsIf_load_mid (by rfl) _ _ rfl _ _ rfl _ _ (fun w' h => h.1) hu49 rfl i3) hH ?_
    simp only [Act.put,List.setIfInBounds_toArray,List.set_cons_zero,List.set_cons_succ,List.getElem_toArray,List.getElem_cons_zero,List.getElem_cons_succ]
    refine wpAnyH_take (i:=2) (v:=?_) rfl (by kernel_rfl) (by kernel_rfl) (by kernel_rfl) (fun _ _ _ h => h) (Or.inl ⟨by rfl,?_⟩) hH ?_
    rotate_left
    ·intro w' hS';(try dsimp only at hS');go_simp <;> (try with_reducible rfl)
    simp only [Act.put,List.setIfInBounds_toArray,List.set_cons_zero,List.set_cons_succ,List.getElem_toArray,List.getElem_cons_zero,List.getElem_cons_succ]
    refine wpAnyH_take (i:=3) (v:=?_) rfl (by kernel_rfl) (by kernel_rfl) (by kernel_rfl) (fun _ _ _ h => h) (Or.inl ⟨by rfl,?_⟩) hH ?_
    rotate_left
    ·intro w' hS';(try dsimp only at hS');go_simp <;> (try with_reducible rfl)
    simp only [Act.put,List.setIfInBounds_toArray,List.set_cons_zero,List.set_cons_succ,List.getElem_toArray,List.getElem_cons_zero,List.getElem_cons_succ]
    refine wpAnyH_take (i:=4) (v:=?_) rfl (by kernel_rfl) (by kernel_rfl) (by kernel_rfl) (fun _ _ _ h => h) (Or.inl ⟨by rfl,?_⟩) hH ?_
    rotate_left
    ·intro w' hS';(try dsimp only at hS');go_simp <;> (try with_reducible rfl)
    simp only [Act.put,List.setIfInBounds_toArray,List.set_cons_zero,List.set_cons_succ,List.getElem_toArray,List.getElem_cons_zero,List.getElem_cons_succ]
    refine wpAnyH_take (i:=5) (v:=.agg (ra.map Value.bool).toArray) rfl (by kernel_rfl) (by kernel_rfl) (by kernel_rfl) (fun _ _ _ h => h) (yieldsIf_load_mid (by rfl) _ _ rfl _ _ rfl _ _ (fun w' h => h.2.1) hu49 rfl i1) hH ?_
    simp only [Act.put,List.setIfInBounds_toArray,List.set_cons_zero,List.set_cons_succ,List.getElem_toArray,List.getElem_cons_zero,List.getElem_cons_succ]
    refine wpAnyH_ready (rs:=[6]) (by kernel_rfl) (by simp) ?_
    refine AllReadyH.cons rfl (fun K hK => ?_) AllReadyH.nil
    go_simp
    refine (a1 _).mono ?_
    rintro e w1 ⟨rfl,hb1⟩
    go_wp2_with fail
    refine hK.out _ _ ⟨zag hb1 hH.1,zag hb1 hH.2.1,zag hb1 hH.2.2.1,zag hb1 hH.2.2.2⟩ (fun hH2 => ?_)
    clear hK K
    replace hH:=hH2
    (try simp only [Act.put,List.setIfInBounds_toArray,List.set_cons_zero,List.set_cons_succ,List.getElem_toArray,List.getElem_cons_zero,List.getElem_cons_succ])
    refine wpAnyH_take (i:=7) (v:=?_) rfl (by kernel_rfl) (by kernel_rfl) (by kernel_rfl) (fun _ _ _ h => h) (Or.inl ⟨by rfl,?_⟩) hH ?_
    rotate_left
    ·intro w' hS';(try dsimp only at hS');go_simp <;> (try with_reducible rfl)
    simp only [Act.put,List.setIfInBounds_toArray,List.set_cons_zero,List.set_cons_succ,List.getElem_toArray,List.getElem_cons_zero,List.getElem_cons_succ]
    refine wpAnyH_take (i:=8) (v:=?_) rfl (by kernel_rfl) (by kernel_rfl) (by kernel_rfl) (fun _ _ _ h => h) (Or.inl ⟨by rfl,?_⟩) hH ?_
    rotate_left
    ·intro w' hS';(try dsimp only at hS');go_simp <;> (try with_reducible rfl)
    simp only [Act.put,List.setIfInBounds_toArray,List.set_cons_zero,List.set_cons_succ,List.getElem_toArray,List.getElem_cons_zero,List.getElem_cons_succ]
    refine wpAnyH_take (i:=9) (v:=.agg (s.had.map Value.bool).toArray) rfl (by kernel_rfl) (by kernel_rfl) (by kernel_rfl) (fun _ _ _ h => h) (yieldsIf_load_mid (by rfl) _ _ rfl _ _ rfl _ _ (fun w' h => h.2.2.1) hu49 rfl i4) hH ?_
    simp only [Act.put,List.setIfInBounds_toArray,List.set_cons_zero,List.set_cons_succ,List.getElem_toArray,List.getElem_cons_zero,List.getElem_cons_succ]
    refine wpAnyH_take (i:=10) (v:=?_) rfl (by kernel_rfl) (by kernel_rfl) (by kernel_rfl) (fun _ _ _ h => h) (Or.inl ⟨by rfl,?_⟩) hH ?_
    rotate_left
    ·intro w' hS';(try dsimp only at hS');go_simp <;> (try with_reducible rfl)
    simp only [Act.put,List.setIfInBounds_toArray,List.set_cons_zero,List.set_cons_succ,List.getElem_toArray,List.getElem_cons_zero,List.getElem_cons_succ]
    refine wpAnyH_take (i:=11) (v:=?_) rfl (by kernel_rfl) (by kernel_rfl) (by kernel_rfl) (fun _ _ _ h => h) (Or.inl ⟨by rfl,?_⟩) hH ?_
    rotate_left
    ·intro w' hS';(try dsimp only at hS');go_simp <;> (try with_reducible rfl)
    simp only [Act.put,List.setIfInBounds_toArray,List.set_cons_zero,List.set_cons_succ,List.getElem_toArray,List.getElem_cons_zero,List.getElem_cons_succ]
    refine wpAnyH_take (i:=12) (v:=?_) rfl (by kernel_rfl) (by kernel_rfl) (by kernel_rfl) (fun _ _ _ h => h) (Or.inl ⟨by rfl,?_⟩) hH ?_
    rotate_left
    ·intro w' hS';(try dsimp only at hS');go_simp <;> (try with_reducible rfl)
    simp only [Act.put,List.setIfInBounds_toArray,List.set_cons_zero,List.set_cons_succ,List.getElem_toArray,List.getElem_cons_zero,List.getElem_cons_succ]
    refine wpAnyH_take (i:=13) (v:=.agg (rf.map Value.bool).toArray) rfl (by kernel_rfl) (by kernel_rfl) (by kernel_rfl) (fun _ _ _ h => h) (yieldsIf_load_mid (by rfl) _ _ rfl _ _ rfl _ _ (fun w' h => h.2.2.2) hu49 rfl i2) hH ?_
    simp only [Act.put,List.setIfInBounds_toArray,List.set_cons_zero,List.set_cons_succ,List.getElem_toArray,List.getElem_cons_zero,List.getElem_cons_succ]
    refine wpAnyH_ready (rs:=[14]) (by kernel_rfl) (by simp) ?_
    refine AllReadyH.cons rfl (fun K hK => ?_) AllReadyH.nil
    go_simp
    refine (a2 _).mono ?_
    rintro e w2 ⟨rfl,hb2⟩
    go_wp2_with fail
    refine hK.out _ _ ⟨zag hb2 hH.1,zag hb2 hH.2.1,zag hb2 hH.2.2.1,zag hb2 hH.2.2.2⟩ (fun hH2 => ?_)
    clear hK K
    replace hH:=hH2
    (try simp only [Act.put,List.setIfInBounds_toArray,List.set_cons_zero,List.set_cons_succ,List.getElem_toArray,List.getElem_cons_zero,List.getElem_cons_succ])
    refine wpAnyH_take (i:=15) (v:=?_) rfl (by kernel_rfl) (by kernel_rfl) (by kernel_rfl) (fun _ _ _ h => h) (Or.inl ⟨by rfl,?_⟩) hH ?_
    rotate_left
    ·intro w' hS';(try dsimp only at hS');go_simp <;> (try with_reducible rfl)
    simp only [Act.put,List.setIfInBounds_toArray,List.set_cons_zero,List.set_cons_succ,List.getElem_toArray,List.getElem_cons_zero,List.getElem_cons_succ]
    refine wpAnyH_take (i:=16) (v:=?_) rfl (by kernel_rfl) (by kernel_rfl) (by kernel_rfl) (fun _ _ _ h => h) (Or.inl ⟨by rfl,?_⟩) hH ?_
    rotate_left
    ·intro w' hS';(try dsimp only at hS');go_simp <;> (try with_reducible rfl)
    simp only [Act.put,List.setIfInBounds_toArray,List.set_cons_zero,List.set_cons_succ,List.getElem_toArray,List.getElem_cons_zero,List.getElem_cons_succ]
    refine wpAnyH_done (by kernel_rfl) ?_ _
    go_wp2_with fail
    go_ret
    exact ⟨za9 (by simp),(hB.drew.trans (hb1.mono (by simpa using hB.size))).trans (hb2.mono (Nat.le_trans (by simpa using hB.size) hb1.size))⟩
   | false =>
    go_enter Tryz.func52,Tryz.ntmps52
    go_wp2_with (go_at_call 69;refine (hnum _).mono ?_;rintro e _ ⟨rfl,rfl⟩)
    refine wp_region_held_drew (S:=(fun w' => w'.rangeAt (w.heap.size + 1) 0 (s.has.map Value.bool) /\ w'.rangeAt w.heap.size (27 + n * 9) (ra.map Value.bool) /\ w'.rangeAt (w.heap.size + 1) 9 (s.had.map Value.bool) /\ w'.rangeAt w.heap.size (108 + n * 9) (rf.map Value.bool))) (by kernel_rfl) ⟨r3,r1,r4,r2⟩ (fun hH => ?_)
    refine wpAnyH_take (i:=0) (v:=?_) rfl (by kernel_rfl) (by kernel_rfl) (by kernel_rfl) (fun _ _ _ h => h) (Or.inl ⟨by rfl,?_⟩) hH ?_
    rotate_left
    ·intro w' hS';(try dsimp only at hS');go_simp <;> (try with_reducible rfl)
    simp only [Act.put,List.setIfInBounds_toArray,List.set_cons_zero,List.set_cons_succ,List.getElem_toArray,List.getElem_cons_zero,List.getElem_cons_succ]
    refine wpAnyH_take (i:=1) (v:=.agg (s.has.map Value.bool).toArray) rfl (by kernel_rfl) (by kernel_rfl) (by kernel_rfl) (fun _ _ _ h => h) (yieldsIf_load_mid (by rfl) _ _ rfl _ _ rfl _ _ (fun w' h => h.1) hu49 rfl i3) hH ?_
    simp only [Act.put,List.setIfInBounds_toArray,List.set_cons_zero,List.set_cons_succ,List.getElem_toArray,List.getElem_cons_zero,List.getElem_cons_succ]
    refine wpAnyH_take (i:=2) (v:=?_) rfl (by kernel_rfl) (by kernel_rfl) (by kernel_rfl) (fun _ _ _ h => h) (Or.inl ⟨by rfl,?_⟩) hH ?_
    rotate_left
    ·intro w' hS';(try dsimp only at hS');go_simp <;> (try with_reducible rfl)
    simp only [Act.put,List.setIfInBounds_toArray,List.set_cons_zero,List.set_cons_succ,List.getElem_toArray,List.getElem_cons_zero,List.getElem_cons_succ]
    refine wpAnyH_take (i:=3) (v:=?_) rfl (by kernel_rfl) (by kernel_rfl) (by kernel_rfl) (fun _ _ _ h => h) (Or.inl ⟨by rfl,?_⟩) hH ?_
    rotate_left
    ·intro w' hS';(try dsimp only at hS');go_simp <;> (try with_reducible rfl)
    simp only [Act.put,List.setIfInBounds_toArray,List.set_cons_zero,List.set_cons_succ,List.getElem_toArray,List.getElem_cons_zero,List.getElem_cons_succ]
    refine wpAnyH_take (i:=4) (v:=?_) rfl (by kernel_rfl) (by kernel_rfl) (by kernel_rfl) (fun _ _ _ h => h) (Or.inl ⟨by rfl,?_⟩) hH ?_
    rotate_left
    ·intro w' hS';(try dsimp only at hS');go_simp <;> (try with_reducible rfl)
    simp only [Act.put,List.setIfInBounds_toArray,List.set_cons_zero,List.set_cons_succ,List.getElem_toArray,List.getElem_cons_zero,List.getElem_cons_succ]
    refine wpAnyH_take (i:=5) (v:=.agg (ra.map Value.bool).toArray) rfl (by kernel_rfl) (by kernel_rfl) (by kernel_rfl) (fun _ _ _ h => h) (yieldsIf_load_mid (by rfl) _ _ rfl _ _ rfl _ _ (fun w' h => h.2.1) hu49 rfl i1) hH ?_
    simp only [Act.put,List.setIfInBounds_toArray,List.set_cons_zero,List.set_cons_succ,List.getElem_toArray,List.getElem_cons_zero,List.getElem_cons_succ]
    refine wpAnyH_ready (rs:=[6]) (by kernel_rfl) (by simp) ?_
    refine AllReadyH.cons rfl (fun K hK => ?_) AllReadyH.nil
    go_simp
    refine (a1 _).mono ?_
    rintro e w1 ⟨rfl,hb1⟩
    go_wp2_with fail
    refine hK.out _ _ ⟨zag hb1 hH.1,zag hb1 hH.2.1,zag hb1 hH.2.2.1,zag hb1 hH.2.2.2⟩ (fun hH2 => ?_)
    clear hK K
    replace hH:=hH2
    (try simp only [Act.put,List.setIfInBounds_toArray,List.set_cons_zero,List.set_cons_succ,List.getElem_toArray,List.getElem_cons_zero,List.getElem_cons_succ])
    refine wpAnyH_take (i:=7) (v:=?_) rfl (by kernel_rfl) (by kernel_rfl) (by kernel_rfl) (fun _ _ _ h => h) (Or.inl ⟨by rfl,?_⟩) hH ?_
    rotate_left
    ·intro w' hS';(try dsimp only at hS');go_simp <;> (try with_reducible rfl)
    simp only [Act.put,List.setIfInBounds_toArray,List.set_cons_zero,List.set_cons_succ,List.getElem_toArray,List.getElem_cons_zero,List.getElem_cons_succ]
    refine wpAnyH_take (i:=8) (v:=undef) rfl (by kernel_rfl) (by kernel_rfl) (by kernel_rfl) (fun _ _ _ h => h) (Or.inr ⟨by rfl,rfl⟩) hH ?_
    simp only [Act.put,List.setIfInBounds_toArray,List.set_cons_zero,List.set_cons_succ,List.getElem_toArray,List.getElem_cons_zero,List.getElem_cons_succ]
    refine wpAnyH_take (i:=9) (v:=undef) rfl (by kernel_rfl) (by kernel_rfl) (by kernel_rfl) (fun _ _ _ h => h) (Or.inr ⟨by rfl,rfl⟩) hH ?_
    simp only [Act.put,List.setIfInBounds_toArray,List.set_cons_zero,List.set_cons_succ,List.getElem_toArray,List.getElem_cons_zero,List.getElem_cons_succ]
    refine wpAnyH_take (i:=10) (v:=undef) rfl (by kernel_rfl) (by kernel_rfl) (by kernel_rfl) (fun _ _ _ h => h) (Or.inr ⟨by rfl,rfl⟩) hH ?_
    simp only [Act.put,List.setIfInBounds_toArray,List.set_cons_zero,List.set_cons_succ,List.getElem_toArray,List.getElem_cons_zero,List.getElem_cons_succ]
    refine wpAnyH_take (i:=11) (v:=undef) rfl (by kernel_rfl) (by kernel_rfl) (by kernel_rfl) (fun _ _ _ h => h) (Or.inr ⟨by rfl,rfl⟩) hH ?_
    simp only [Act.put,List.setIfInBounds_toArray,List.set_cons_zero,List.set_cons_succ,List.getElem_toArray,List.getElem_cons_zero,List.getElem_cons_succ]
    refine wpAnyH_take (i:=12) (v:=undef) rfl (by kernel_rfl) (by kernel_rfl) (by kernel_rfl) (fun _ _ _ h => h) (Or.inr ⟨by rfl,rfl⟩) hH ?_
    simp only [Act.put,List.setIfInBounds_toArray,List.set_cons_zero,List.set_cons_succ,List.getElem_toArray,List.getElem_cons_zero,List.getElem_cons_succ]
    refine wpAnyH_take (i:=13) (v:=undef) rfl (by kernel_rfl) (by kernel_rfl) (by kernel_rfl) (fun _ _ _ h => h) (Or.inr ⟨by rfl,rfl⟩) hH ?_
    simp only [Act.put,List.setIfInBounds_toArray,List.set_cons_zero,List.set_cons_succ,List.getElem_toArray,List.getElem_cons_zero,List.getElem_cons_succ]
    refine wpAnyH_take (i:=14) (v:=undef) rfl (by kernel_rfl) (by kernel_rfl) (by kernel_rfl) (fun _ _ _ h => h) (Or.inr ⟨by rfl,rfl⟩) hH ?_
    simp only [Act.put,List.setIfInBounds_toArray,List.set_cons_zero,List.set_cons_succ,List.getElem_toArray,List.getElem_cons_zero,List.getElem_cons_succ]
    refine wpAnyH_take (i:=15) (v:=?_) rfl (by kernel_rfl) (by kernel_rfl) (by kernel_rfl) (fun _ _ _ h => h) (Or.inl ⟨by rfl,?_⟩) hH ?_
    rotate_left
    ·intro w' hS';(try dsimp only at hS');go_simp <;> (try with_reducible rfl)
    simp only [Act.put,List.setIfInBounds_toArray,List.set_cons_zero,List.set_cons_succ,List.getElem_toArray,List.getElem_cons_zero,List.getElem_cons_succ]
    refine wpAnyH_take (i:=16) (v:=?_) rfl (by kernel_rfl) (by kernel_rfl) (by kernel_rfl) (fun _ _ _ h => h) (Or.inl ⟨by rfl,?_⟩) hH ?_
    rotate_left
    ·intro w' hS';(try dsimp only at hS');go_simp <;> (try with_reducible rfl)
    simp only [Act.put,List.setIfInBounds_toArray,List.set_cons_zero,List.set_cons_succ,List.getElem_toArray,List.getElem_cons_zero,List.getElem_cons_succ]
    refine wpAnyH_done (by kernel_rfl) ?_ _
    go_wp2_with fail
    go_ret
    exact ⟨za9 (by simp),hB.drew.trans (hb1.mono (by simpa using hB.size))⟩
 ·have hnn : numB p 9 = false:=by unfold numB;simp;omega
  rw [hnn] at hnum hR
  have hR1 : R = false:=hR
  clear hR hq1 hq2 hp hnn
  subst hR1
  go_enter Tryz.func52,Tryz.ntmps52
  go_wp2_with (go_at_call 69;refine (hnum _).mono ?_;rintro e _ ⟨rfl,rfl⟩)
  go_ret
  exact ⟨rfl,hB⟩
end
section
open Go.RowKit
open Go.Lib (below_setCells)
def plI (s r : Int) : Int:=if numB s 3 && numB r 3 then s * 3 + r else -1
theorem zup (s r : Int) (w : World) : Calls Tryz.prog 45 #[.int .i64 s,.int .i64 r] w fun e W => e = .returned (.int .i64 (plI s r)) /\ Below w.heap.size w W:=by
 have n1:=fun w => zct s 3 w
 have n2:=fun w => zct r 3 w
 obtain ⟨R,hR⟩ : ∃ R,R = plI s r:=⟨_,rfl⟩
 rw [<- hR]
 unfold plI at hR
 by_cases h1 : 0 <= s /\ s < 3
 ·have e1 : numB s 3 = true:=by unfold numB;simp;omega
  rw [e1] at n1 hR
  by_cases h2 : 0 <= r /\ r < 3
  ·have e2 : numB r 3 = true:=by unfold numB;simp;omega
   rw [e2] at n2 hR
   obtain ⟨a1,a2⟩:=h1
   obtain ⟨b1,b2⟩:=h2
   have hR1 : R = s * 3 + r:=hR
   clear hR e1 e2
   subst hR1
   go_enter Tryz.func45,Tryz.ntmps45
   go_wp2_with (first | (go_at_call 69;have hq:=m1;refine (n2 _).mono ?_;rintro e _ ⟨rfl,rfl⟩;have m2 : True:=trivial) | (go_at_call 69;refine (n1 _).mono ?_;rintro e _ ⟨rfl,rfl⟩;have m1 : True:=trivial))
   go_ret
   exact ⟨by go_num,Below.refl _ _⟩
  ·have e2 : numB r 3 = false:=by unfold numB;simp;omega
   rw [e2] at n2 hR
   have hR1 : R = -1:=hR
   clear hR h1 h2 e1 e2
   subst hR1
   go_enter Tryz.func45,Tryz.ntmps45
   go_wp2_with (first | (go_at_call 69;have hq:=m1;refine (n2 _).mono ?_;rintro e _ ⟨rfl,rfl⟩;have m2 : True:=trivial) | (go_at_call 69;refine (n1 _).mono ?_;rintro e _ ⟨rfl,rfl⟩;have m1 : True:=trivial))
   go_ret
   exact ⟨rfl,Below.refl _ _⟩
 ·have e1 : numB s 3 = false:=by unfold numB;simp;omega
  rw [e1] at n1 hR
  have hR1 : R = -1:=hR
  clear hR h1 e1
  subst hR1
  go_enter Tryz.func45,Tryz.ntmps45
  go_wp2_with (go_at_call 69;refine (n1 _).mono ?_;rintro e _ ⟨rfl,rfl⟩)
  go_ret
  exact ⟨rfl,Below.refl _ _⟩
theorem zkj (p : Nat) (hp : p < 9) (w : World) : Calls Tryz.prog 72 #[.int .i64 p] w fun e W => e = .returned (.agg #[.int .i64 ((p / 3 : Nat) : Int),.int .i64 ((p % 3 : Nat) : Int)]) /\ Below w.heap.size w W:=by
 have h1 : (p : Int).tdiv 3 = ((p / 3 : Nat) : Int):=by rw [Int.tdiv_eq_ediv_of_nonneg (by omega)];omega
 have h2 : (p : Int).tmod 3 = ((p % 3 : Nat) : Int):=by rw [Int.tmod_eq_emod_of_nonneg (by omega)];omega
 have h3 : (p / 3 : Nat) < 3:=by omega
 have h4 : (p % 3 : Nat) < 3:=by omega
 generalize (p / 3 : Nat) = a at h1 h3
 generalize (p % 3 : Nat) = b at h2 h4
 go_enter Tryz.func72,Tryz.ntmps72
 go_wp2_with fail
 exact bodyPost_ret (v:=.agg #[.int .i64 a,.int .i64 b]) (by simp [results,Tryz.results72,go_sem]) rfl ⟨rfl,belS _ _⟩
def aftD (s : SiD) (p : Nat) : SiD:=⟨((List.range 9).map fun i => if i / 3 = p / 3 then false else s.has.getD i false).set p true,s.had.set p true⟩
theorem zl9 {s : SiD} (h : s.ok) (p : Nat) : (aftD s p).ok:=⟨by simp [aftD],by simp [aftD,h.2]⟩
theorem Tryz.infoSit : (Tryz.prog.info? 106).map (·.size) = some 18:=by kernel_rfl
theorem SiD.ok.len {s : SiD} (h : s.ok) : s.cells.length = 18:=by simp [SiD.cells,h.1,h.2]
theorem zdb {w : World} {b : Nat} {t : TypeId} {cs : Array Value} (h : w.heap[b]? = some (.cells cs t (0,0))) : w.there b 0 cs.size:=fun j hj => by
 rw [Nat.zero_add]
 refine ⟨?_,?_⟩
 ·simp only [World.cell?,h];simp [hj]
 ·simp [World.frozen?,h]
theorem zd9 (l : List Bool) : ((l.map Value.bool).toArray).all (·.oneCell') = true:=by
 simp only [List.all_toArray,List.all_map]
 rw [List.all_eq_true]
 intro b _
 rfl
theorem zst (s : SiD) (p : Int) (hp : ¬ (0 <= p /\ p < 9)) (hs : s.ok) (w : World) : Calls Tryz.prog 50 #[.agg s.cells.toArray,.int .i64 p] w fun e W => e = .returned (.agg s.cells.toArray) /\ Below w.heap.size w W:=by
 have hnum:=fun w => zct p 9 w
 rw [show numB p 9 = false by unfold numB;simp;omega] at hnum
 have hr:=zag (belS _ (.cells #[.bool false,.bool false,.bool false,.bool false,.bool false,.bool false,.bool false,.bool false,.bool false,.bool false,.bool false,.bool false,.bool false,.bool false,.bool false,.bool false,.bool false,.bool false] 106)) (zbr (zay w (.cells s.cells.toArray 106)))
 have ht:=zdb (zay (w.alloc (.cells s.cells.toArray 106)) (.cells #[.bool false,.bool false,.bool false,.bool false,.bool false,.bool false,.bool false,.bool false,.bool false,.bool false,.bool false,.bool false,.bool false,.bool false,.bool false,.bool false,.bool false,.bool false] 106))
 rw [show (w.alloc (.cells s.cells.toArray 106)).heap.size = w.heap.size + 1 by simp] at ht
 have hB:=(belS w (.cells s.cells.toArray 106)).alloc (by simp) (.cells #[.bool false,.bool false,.bool false,.bool false,.bool false,.bool false,.bool false,.bool false,.bool false,.bool false,.bool false,.bool false,.bool false,.bool false,.bool false,.bool false,.bool false,.bool false] 106)
 have hl:=hs.len
 have hi : (Tryz.prog.info? 106).map (·.size) = some s.cells.length:=by rw [hl];exact Tryz.infoSit
 have hi2 : (Tryz.prog.info? 106).map (·.size) = some s.cells.toArray.size:=by rw [List.size_toArray];exact hi
 have ht2 : ((w.alloc (.cells s.cells.toArray 106)).alloc (.cells #[.bool false,.bool false,.bool false,.bool false,.bool false,.bool false,.bool false,.bool false,.bool false,.bool false,.bool false,.bool false,.bool false,.bool false,.bool false,.bool false,.bool false,.bool false] 106)).there (w.heap.size + 1) 0 s.cells.toArray.size:=by rw [show s.cells.toArray.size = 18 by simpa using hl];exact ht
 have h1 : s.cells.toArray.all (·.oneCell') = true:=zd9 _
 clear ht hl
 go_enter Tryz.func50,Tryz.ntmps50
 go_wp2_with (first
  | (refine wpList_load_mid (w:=(w.alloc (.cells s.cells.toArray 106)).alloc (.cells #[.bool false,.bool false,.bool false,.bool false,.bool false,.bool false,.bool false,.bool false,.bool false,.bool false,.bool false,.bool false,.bool false,.bool false,.bool false,.bool false,.bool false,.bool false] 106)) rfl 106 _ rfl _ _ rfl s.cells _ hr Tryz.underlying106 rfl hi ?_)
  | (refine wpList_store_mid (w:=(w.alloc (.cells s.cells.toArray 106)).alloc (.cells #[.bool false,.bool false,.bool false,.bool false,.bool false,.bool false,.bool false,.bool false,.bool false,.bool false,.bool false,.bool false,.bool false,.bool false,.bool false,.bool false,.bool false,.bool false] 106)) rfl 106 _ _ rfl (w.heap.size + 1) 0 s.cells.toArray rfl rfl ht2 hi2 h1 ?_)
  | (go_at_call 69;refine (hnum _).mono ?_;rintro e _ ⟨rfl,rfl⟩))
 have hrs:=World.rangeAt_setCells_same ((w.alloc (.cells s.cells.toArray 106)).alloc (.cells #[.bool false,.bool false,.bool false,.bool false,.bool false,.bool false,.bool false,.bool false,.bool false,.bool false,.bool false,.bool false,.bool false,.bool false,.bool false,.bool false,.bool false,.bool false] 106)) (w.heap.size + 1) 0 s.cells (by simpa using ht2)
 refine bodyPost_ret (v:=.agg s.cells.toArray) ?_ rfl ⟨rfl,below_setCells (w.heap.size + 1) (Nat.le_succ _) _ _ hB⟩
 have hlv:=run_loadVar_mid (P:=Tryz.prog) _ (w.heap.size + 1) 0 106 s.cells _ hrs Tryz.underlying106 rfl hi
 simp [results,Tryz.results50,asAddr,Act.put,hlv]
end
end Go.Proofs.YtkkekopomiehlaaGreat
