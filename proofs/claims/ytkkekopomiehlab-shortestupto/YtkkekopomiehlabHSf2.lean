import Derived.Test.YtkkekopomiehlabHFl1
set_option linter.unusedVariables false
set_option linter.unusedSimpArgs false
set_option maxHeartbeats 40000000
set_option maxRecDepth 4000
namespace Go.Proofs.Ytkkekopomiehlab
section
open Go.RowKit
structure ChD where
 thr : List Bool
 fst : List Bool
 wnt : List Bool
 alg : List (List Bool)
 fev : List (List Bool)
def ChD.bits (c : ChD) : List Bool:=c.thr ++ (c.fst ++ (c.wnt ++ (c.alg.flatten ++ c.fev.flatten)))
def ChD.cells (c : ChD) : List Value:=c.bits.map Value.bool
structure ChD.ok (c : ChD) : Prop where
 thr : c.thr.length = 9
 fst : c.fst.length = 9
 wnt : c.wnt.length = 9
 alg : c.alg.length = 9
 algr : ∀ r ∈ c.alg,r.length = 9
 fev : c.fev.length = 9
 fevr : ∀ r ∈ c.fev,r.length = 9
theorem zed : ∀ (l : List (List Bool)) (i j : Nat) (r : List Bool),(∀ r ∈ l,r.length = 9) -> l[i]? = some r -> j < 9 -> l.flatten[i * 9 + j]? = r[j]?
 | [],i,j,r,h,hi,hj => by simp at hi
 | q :: l,0,j,r,h,hi,hj => by
  simp at hi;subst hi
  rw [List.flatten_cons,List.getElem?_append_left (by rw [h q (by simp)];omega),show 0 * 9 + j = j by omega]
 | q :: l,i + 1,j,r,h,hi,hj => by
  rw [List.getElem?_cons_succ] at hi
  have hq:=h q (by simp)
  rw [List.flatten_cons,List.getElem?_append_right (by rw [hq];omega),hq,show (i + 1) * 9 + j - 9 = i * 9 + j by omega]
  exact zed l i j r (fun r hr => h r (by simp [hr])) hi hj
theorem zcv : ∀ (l : List (List Bool)),(∀ r ∈ l,r.length = 9) -> l.flatten.length = l.length * 9
 | [],_ => rfl
 | q :: l,h => by rw [List.flatten_cons,List.length_append,h q (by simp),zcv l (fun r hr => h r (by simp [hr])),List.length_cons];omega
theorem ChD.ok.get_thr {c : ChD} (h : c.ok) {p : Nat} {b : Bool} (hp : c.thr[p]? = some b) : c.bits[p]? = some b:=by
 have hl:=(List.getElem?_eq_some_iff.1 hp).1
 rw [ChD.bits,List.getElem?_append_left hl];exact hp
theorem ChD.ok.get_fst {c : ChD} (h : c.ok) {p : Nat} {b : Bool} (hp : c.fst[p]? = some b) : c.bits[9 + p]? = some b:=by
 have hl:=(List.getElem?_eq_some_iff.1 hp).1
 rw [ChD.bits,List.getElem?_append_right (by rw [h.thr];omega),h.thr,show 9 + p - 9 = p by omega,List.getElem?_append_left hl];exact hp
theorem ChD.ok.get_alg {c : ChD} (h : c.ok) {p j : Nat} {r : List Bool} {b : Bool} (hp : c.alg[p]? = some r) (hj : r[j]? = some b) : c.bits[27 + p * 9 + j]? = some b:=by
 have hr:=h.algr r (List.mem_of_getElem? hp)
 have hjl:=(List.getElem?_eq_some_iff.1 hj).1
 have hpl:=(List.getElem?_eq_some_iff.1 hp).1
 have hfl:=zcv c.alg h.algr
 have:=h.alg
 rw [ChD.bits,List.getElem?_append_right (by rw [h.thr];omega),h.thr,List.getElem?_append_right (by rw [h.fst];omega),h.fst,List.getElem?_append_right (by rw [h.wnt];omega),h.wnt,show 27 + p * 9 + j - 9 - 9 - 9 = p * 9 + j by omega,List.getElem?_append_left (by omega),zed _ _ _ _ h.algr hp (by omega)]
 exact hj
theorem ChD.ok.get_fev {c : ChD} (h : c.ok) {p j : Nat} {r : List Bool} {b : Bool} (hp : c.fev[p]? = some r) (hj : r[j]? = some b) : c.bits[108 + p * 9 + j]? = some b:=by
 have hr:=h.fevr r (List.mem_of_getElem? hp)
 have hjl:=(List.getElem?_eq_some_iff.1 hj).1
 have hfl:=zcv c.alg h.algr
 have:=h.alg
 rw [ChD.bits,List.getElem?_append_right (by rw [h.thr];omega),h.thr,List.getElem?_append_right (by rw [h.fst];omega),h.fst,List.getElem?_append_right (by rw [h.wnt];omega),h.wnt,List.getElem?_append_right (by omega),hfl,h.alg,show 108 + p * 9 + j - 9 - 9 - 9 - 9 * 9 = p * 9 + j by omega,zed _ _ _ _ h.fevr hp (by omega)]
 exact hj
structure SiD where
 has : List Bool
 had : List Bool
def SiD.cells (s : SiD) : List Value:=(s.has ++ s.had).map Value.bool
def SiD.ok (s : SiD) : Prop:=s.has.length = 9 /\ s.had.length = 9
def mvB (c : ChD) (s : SiD) (p : Int) : Bool:=numB p 9 && c.thr.getD p.toNat false && !(s.has.getD p.toNat false)
theorem zhq (c : ChD) (s : SiD) (p : Int) (hc : c.ok) (hs : s.ok) (w : World) :
  Calls Try.prog 41 #[.agg c.cells.toArray,.agg s.cells.toArray,.int .i64 p] w fun e W => e = .returned (.bool (mvB c s p)) /\ Below w.heap.size w W:=by
 have hq1:=zae (belS _ (.cells s.cells.toArray 91)) (za0 (zan w (.cells c.cells.toArray 50)))
 have hq2:=za0 (zan (w.alloc (.cells c.cells.toArray 50)) (.cells s.cells.toArray 91))
 rw [show (w.alloc (.cells c.cells.toArray 50)).heap.size = w.heap.size + 1 by simp] at hq2
 have hB:=(belS w (.cells c.cells.toArray 50)).alloc (by simp) (.cells s.cells.toArray 91)
 have hnum:=fun w => zbj p 9 w
 obtain ⟨R,hR⟩ : ∃ R,R = mvB c s p:=⟨_,rfl⟩
 rw [<- hR]
 unfold mvB at hR
 by_cases hp : 0 <= p /\ p < 9
 ·have hnn : numB p 9 = true:=by unfold numB;simp;omega
  rw [hnn] at hnum hR
  obtain ⟨n,rfl⟩ : ∃ n : Nat,p = n:=⟨p.toNat,by omega⟩
  rw [Int.toNat_natCast] at hR
  obtain ⟨x,hx⟩ : ∃ x,c.thr[n]? = some x:=⟨c.thr[n]'(by rw [hc.thr];omega),List.getElem?_eq_getElem (by rw [hc.thr];omega)⟩
  obtain ⟨y,hy⟩ : ∃ y,s.has[n]? = some y:=⟨s.has[n]'(by rw [hs.1];omega),List.getElem?_eq_getElem (by rw [hs.1];omega)⟩
  have k1:=hq1 n (.bool x) (by rw [ChD.cells,List.getElem?_map,hc.get_thr hx];rfl)
  have k2:=hq2 n (.bool y) (by rw [SiD.cells,List.getElem?_map,List.getElem?_append_left (by rw [hs.1];omega),hy];rfl)
  rw [Nat.zero_add] at k1 k2
  have hR1 : R = (x && !y):=by rw [hR];simp [List.getD,hx,hy]
  have hn0 := znn n
  have hn9 : (n : Int) < 9:=hp.2
  clear hR hq1 hq2 hx hy hc hs hnn hp
  subst hR1
  cases x <;> cases y <;> (
   go_enter Try.func41,Try.ntmps41
   go_wp2_with (go_at_call 54;refine (hnum _).mono ?_;rintro e _ ⟨rfl,rfl⟩)
   go_ret
   exact ⟨rfl,hB⟩)
 ·have hnn : numB p 9 = false:=by unfold numB;simp;omega
  rw [hnn] at hnum hR
  have hR1 : R = false:=hR
  clear hR hq1 hq2 hp hnn
  subst hR1
  go_enter Try.func41,Try.ntmps41
  go_wp2_with (go_at_call 54;refine (hnum _).mono ?_;rintro e _ ⟨rfl,rfl⟩)
  go_ret
  exact ⟨rfl,hB⟩
end
section
open Go.RowKit
def sfB (c : ChD) (s : SiD) (p : Int) : Bool:=numB p 9 && (c.alg.getD p.toNat []).getD p.toNat false && algB s.has (c.alg.getD p.toNat []) && algB s.had (c.fev.getD p.toNat [])
theorem zbo {w : World} {b o k : Nat} {cs ds : List Value} (h : w.rangeAt b o cs) (hd : ∀ (j : Nat) (v : Value),ds[j]? = some v -> cs[k + j]? = some v) : w.rangeAt b (o + k) ds:=fun j v hj => by
 have:=h (k + j) v (hd j v hj)
 rwa [<- Nat.add_assoc] at this
theorem zhr (c : ChD) (s : SiD) (p : Int) (hc : c.ok) (hs : s.ok) (w : World) :
  Calls Try.prog 44 #[.agg c.cells.toArray,.agg s.cells.toArray,.int .i64 p] w fun e W => e = .returned (.bool (sfB c s p)) /\ Below w.heap.size w W:=by
 have hq1:=zae (belS _ (.cells s.cells.toArray 91)) (za0 (zan w (.cells c.cells.toArray 50)))
 have hq2:=za0 (zan (w.alloc (.cells c.cells.toArray 50)) (.cells s.cells.toArray 91))
 rw [show (w.alloc (.cells c.cells.toArray 50)).heap.size = w.heap.size + 1 by simp] at hq2
 have hB:=(belS w (.cells c.cells.toArray 50)).alloc (by simp) (.cells s.cells.toArray 91)
 have hnum:=fun w => zbj p 9 w
 obtain ⟨R,hR⟩ : ∃ R,R = sfB c s p:=⟨_,rfl⟩
 rw [<- hR]
 unfold sfB at hR
 by_cases hp : 0 <= p /\ p < 9
 ·have hnn : numB p 9 = true:=by unfold numB;simp;omega
  rw [hnn] at hnum hR
  obtain ⟨n,rfl⟩ : ∃ n : Nat,p = n:=⟨p.toNat,by omega⟩
  rw [Int.toNat_natCast] at hR
  have hn9' : n < 9:=by omega
  obtain ⟨ra,hra⟩ : ∃ r,c.alg[n]? = some r:=⟨c.alg[n]'(by rw [hc.alg];omega),List.getElem?_eq_getElem (by rw [hc.alg];omega)⟩
  obtain ⟨rf,hrf⟩ : ∃ r,c.fev[n]? = some r:=⟨c.fev[n]'(by rw [hc.fev];omega),List.getElem?_eq_getElem (by rw [hc.fev];omega)⟩
  have la:=hc.algr ra (List.mem_of_getElem? hra)
  have lf:=hc.fevr rf (List.mem_of_getElem? hrf)
  obtain ⟨x,hx⟩ : ∃ x,ra[n]? = some x:=⟨ra[n]'(by omega),List.getElem?_eq_getElem (by omega)⟩
  have r1:=zbo (k:=27 + n * 9) (ds:=ra.map Value.bool) hq1 (fun j v hj => by
   rw [List.getElem?_map] at hj
   obtain ⟨b,hb,rfl⟩:=Option.map_eq_some_iff.1 hj
   rw [ChD.cells,List.getElem?_map,hc.get_alg hra hb];rfl)
  have r2:=zbo (k:=108 + n * 9) (ds:=rf.map Value.bool) hq1 (fun j v hj => by
   rw [List.getElem?_map] at hj
   obtain ⟨b,hb,rfl⟩:=Option.map_eq_some_iff.1 hj
   rw [ChD.cells,List.getElem?_map,hc.get_fev hrf hb];rfl)
  have r3:=zbo (k:=0) (ds:=s.has.map Value.bool) hq2 (fun j v hj => by
   rw [List.getElem?_map] at hj
   obtain ⟨b,hb,rfl⟩:=Option.map_eq_some_iff.1 hj
   rw [SiD.cells,List.getElem?_map,Nat.zero_add,List.getElem?_append_left (List.getElem?_eq_some_iff.1 hb).1,hb];rfl)
  have r4:=zbo (k:=9) (ds:=s.had.map Value.bool) hq2 (fun j v hj => by
   rw [List.getElem?_map] at hj
   obtain ⟨b,hb,rfl⟩:=Option.map_eq_some_iff.1 hj
   rw [SiD.cells,List.getElem?_map,List.getElem?_append_right (by rw [hs.1];omega),hs.1,show 9 + j - 9 = j by omega,hb];rfl)
  rw [Nat.zero_add] at r1 r2 r3 r4
  have k1:=r1 n (.bool x) (by rw [List.getElem?_map,hx];rfl)
  have hR1 : R = (x && algB s.has ra && algB s.had rf):=by rw [hR];simp [List.getD,hra,hrf,hx]
  have a1:=fun W => ze5 s.has ra hs.1 la W
  have a2:=fun W => ze5 s.had rf hs.2 lf W
  have i1 : (Try.prog.info? 47).map (·.size) = some (ra.map Value.bool).length:=by rw [List.length_map,la];exact Try.infoSet
  have i2 : (Try.prog.info? 47).map (·.size) = some (rf.map Value.bool).length:=by rw [List.length_map,lf];exact Try.infoSet
  have i3 : (Try.prog.info? 47).map (·.size) = some (s.has.map Value.bool).length:=by rw [List.length_map,hs.1];exact Try.infoSet
  have i4 : (Try.prog.info? 47).map (·.size) = some (s.had.map Value.bool).length:=by rw [List.length_map,hs.2];exact Try.infoSet
  have hn0 := znn n
  have hn9 : (n : Int) < 9:=hp.2
  clear hR hq1 hq2 hra hrf hx hnn hp
  generalize algB s.has ra = y1 at a1 hR1
  generalize algB s.had rf = y2 at a2 hR1
  subst hR1
  have hu49:=Try.underlying47
  cases x with
  | false =>
   go_enter Try.func44,Try.ntmps44
   go_wp2_with (go_at_call 54;refine (hnum _).mono ?_;rintro e _ ⟨rfl,rfl⟩)
   go_ret
   exact ⟨rfl,hB⟩
  | true =>
   cases y1 with
   | true =>
    go_enter Try.func44,Try.ntmps44
    go_wp2_with (go_at_call 54;refine (hnum _).mono ?_;rintro e _ ⟨rfl,rfl⟩)
    refine wp_region_held_drew (S:=(fun w' => w'.rangeAt (w.heap.size + 1) 0 (s.has.map Value.bool) /\ w'.rangeAt w.heap.size (27 + n * 9) (ra.map Value.bool) /\ w'.rangeAt (w.heap.size + 1) 9 (s.had.map Value.bool) /\ w'.rangeAt w.heap.size (108 + n * 9) (rf.map Value.bool))) (by kernel_rfl) ⟨r3,r1,r4,r2⟩ (fun hH => ?_)
    refine wpAnyH_take (i:=0) (v:=?_) rfl (by kernel_rfl) (by kernel_rfl) (by kernel_rfl) (fun _ _ _ h => h) (Or.inl ⟨by rfl,?_⟩) hH ?_
    rotate_left
    ·intro w' hS';(try dsimp only at hS');go_simp <;> (try with_reducible rfl)
    simp only [Act.put,List.setIfInBounds_toArray,List.set_cons_zero,List.set_cons_succ,List.getElem_toArray,List.getElem_cons_zero,List.getElem_cons_succ]
    refine wpAnyH_take (i:=1) (v:=.agg (s.has.map Value.bool).toArray) rfl (by kernel_rfl) (by kernel_rfl) (by kernel_rfl) (fun _ _ _ h => h) (yieldsIf_load_mid (by rfl) _ _ rfl _ _ rfl _ _ (fun w' h => h.1) hu49 rfl i3) hH ?_
    simp only [Act.put,List.setIfInBounds_toArray,List.set_cons_zero,List.set_cons_succ,List.getElem_toArray,List.getElem_cons_zero,List.getElem_cons_succ]
    refine wpAnyH_take (i:=2) (v:=?_) rfl (by kernel_rfl) (by kernel_rfl) (by kernel_rfl) (fun _ _ _ h => h) (Or.inl ⟨by rfl,?_⟩) hH ?_
    rotate_left
    ·intro w' hS';(try dsimp only at hS');go_simp <;> (try with_reducible rfl)
    simp only [Act.put,List.setIfInBounds_toArray,List.set_cons_zero,List.set_cons_succ,List.getElem_toArray,List.getElem_cons_zero,List.getElem_cons_succ]
    refine wpAnyH_take (i:=3) (v:=?_) rfl (by kernel_rfl) (by kernel_rfl) (by kernel_rfl) (fun _ _ _ h => h) (Or.inl ⟨by rfl,?_⟩) hH ?_
    rotate_left
    ·intro w' hS';(try dsimp only at hS');go_simp <;> (try with_reducible rfl)
    simp only [Act.put,List.setIfInBounds_toArray,List.set_cons_zero,List.set_cons_succ,List.getElem_toArray,List.getElem_cons_zero,List.getElem_cons_succ]
    refine wpAnyH_take (i:=4) (v:=?_) rfl (by kernel_rfl) (by kernel_rfl) (by kernel_rfl) (fun _ _ _ h => h) (Or.inl ⟨by rfl,?_⟩) hH ?_
    rotate_left
    ·intro w' hS';(try dsimp only at hS');go_simp <;> (try with_reducible rfl)
    simp only [Act.put,List.setIfInBounds_toArray,List.set_cons_zero,List.set_cons_succ,List.getElem_toArray,List.getElem_cons_zero,List.getElem_cons_succ]
    refine wpAnyH_take (i:=5) (v:=.agg (ra.map Value.bool).toArray) rfl (by kernel_rfl) (by kernel_rfl) (by kernel_rfl) (fun _ _ _ h => h) (yieldsIf_load_mid (by rfl) _ _ rfl _ _ rfl _ _ (fun w' h => h.2.1) hu49 rfl i1) hH ?_
    simp only [Act.put,List.setIfInBounds_toArray,List.set_cons_zero,List.set_cons_succ,List.getElem_toArray,List.getElem_cons_zero,List.getElem_cons_succ]
    refine wpAnyH_ready (rs:=[6]) (by kernel_rfl) (by simp) ?_
    refine AllReadyH.cons rfl (fun K hK => ?_) AllReadyH.nil
    go_simp
    refine (a1 _).mono ?_
    rintro e w1 ⟨rfl,hb1⟩
    go_wp2_with fail
    refine hK.out _ _ ⟨zae hb1 hH.1,zae hb1 hH.2.1,zae hb1 hH.2.2.1,zae hb1 hH.2.2.2⟩ (fun hH2 => ?_)
    clear hK K
    replace hH:=hH2
    (try simp only [Act.put,List.setIfInBounds_toArray,List.set_cons_zero,List.set_cons_succ,List.getElem_toArray,List.getElem_cons_zero,List.getElem_cons_succ])
    refine wpAnyH_take (i:=7) (v:=?_) rfl (by kernel_rfl) (by kernel_rfl) (by kernel_rfl) (fun _ _ _ h => h) (Or.inl ⟨by rfl,?_⟩) hH ?_
    rotate_left
    ·intro w' hS';(try dsimp only at hS');go_simp <;> (try with_reducible rfl)
    simp only [Act.put,List.setIfInBounds_toArray,List.set_cons_zero,List.set_cons_succ,List.getElem_toArray,List.getElem_cons_zero,List.getElem_cons_succ]
    refine wpAnyH_take (i:=8) (v:=?_) rfl (by kernel_rfl) (by kernel_rfl) (by kernel_rfl) (fun _ _ _ h => h) (Or.inl ⟨by rfl,?_⟩) hH ?_
    rotate_left
    ·intro w' hS';(try dsimp only at hS');go_simp <;> (try with_reducible rfl)
    simp only [Act.put,List.setIfInBounds_toArray,List.set_cons_zero,List.set_cons_succ,List.getElem_toArray,List.getElem_cons_zero,List.getElem_cons_succ]
    refine wpAnyH_take (i:=9) (v:=.agg (s.had.map Value.bool).toArray) rfl (by kernel_rfl) (by kernel_rfl) (by kernel_rfl) (fun _ _ _ h => h) (yieldsIf_load_mid (by rfl) _ _ rfl _ _ rfl _ _ (fun w' h => h.2.2.1) hu49 rfl i4) hH ?_
    simp only [Act.put,List.setIfInBounds_toArray,List.set_cons_zero,List.set_cons_succ,List.getElem_toArray,List.getElem_cons_zero,List.getElem_cons_succ]
    refine wpAnyH_take (i:=10) (v:=?_) rfl (by kernel_rfl) (by kernel_rfl) (by kernel_rfl) (fun _ _ _ h => h) (Or.inl ⟨by rfl,?_⟩) hH ?_
    rotate_left
    ·intro w' hS';(try dsimp only at hS');go_simp <;> (try with_reducible rfl)
    simp only [Act.put,List.setIfInBounds_toArray,List.set_cons_zero,List.set_cons_succ,List.getElem_toArray,List.getElem_cons_zero,List.getElem_cons_succ]
    refine wpAnyH_take (i:=11) (v:=?_) rfl (by kernel_rfl) (by kernel_rfl) (by kernel_rfl) (fun _ _ _ h => h) (Or.inl ⟨by rfl,?_⟩) hH ?_
    rotate_left
    ·intro w' hS';(try dsimp only at hS');go_simp <;> (try with_reducible rfl)
    simp only [Act.put,List.setIfInBounds_toArray,List.set_cons_zero,List.set_cons_succ,List.getElem_toArray,List.getElem_cons_zero,List.getElem_cons_succ]
    refine wpAnyH_take (i:=12) (v:=?_) rfl (by kernel_rfl) (by kernel_rfl) (by kernel_rfl) (fun _ _ _ h => h) (Or.inl ⟨by rfl,?_⟩) hH ?_
    rotate_left
    ·intro w' hS';(try dsimp only at hS');go_simp <;> (try with_reducible rfl)
    simp only [Act.put,List.setIfInBounds_toArray,List.set_cons_zero,List.set_cons_succ,List.getElem_toArray,List.getElem_cons_zero,List.getElem_cons_succ]
    refine wpAnyH_take (i:=13) (v:=.agg (rf.map Value.bool).toArray) rfl (by kernel_rfl) (by kernel_rfl) (by kernel_rfl) (fun _ _ _ h => h) (yieldsIf_load_mid (by rfl) _ _ rfl _ _ rfl _ _ (fun w' h => h.2.2.2) hu49 rfl i2) hH ?_
    simp only [Act.put,List.setIfInBounds_toArray,List.set_cons_zero,List.set_cons_succ,List.getElem_toArray,List.getElem_cons_zero,List.getElem_cons_succ]
    refine wpAnyH_ready (rs:=[14]) (by kernel_rfl) (by simp) ?_
    refine AllReadyH.cons rfl (fun K hK => ?_) AllReadyH.nil
    go_simp
    refine (a2 _).mono ?_
    rintro e w2 ⟨rfl,hb2⟩
    go_wp2_with fail
    refine hK.out _ _ ⟨zae hb2 hH.1,zae hb2 hH.2.1,zae hb2 hH.2.2.1,zae hb2 hH.2.2.2⟩ (fun hH2 => ?_)
    clear hK K
    replace hH:=hH2
    (try simp only [Act.put,List.setIfInBounds_toArray,List.set_cons_zero,List.set_cons_succ,List.getElem_toArray,List.getElem_cons_zero,List.getElem_cons_succ])
    refine wpAnyH_take (i:=15) (v:=?_) rfl (by kernel_rfl) (by kernel_rfl) (by kernel_rfl) (fun _ _ _ h => h) (Or.inl ⟨by rfl,?_⟩) hH ?_
    rotate_left
    ·intro w' hS';(try dsimp only at hS');go_simp <;> (try with_reducible rfl)
    simp only [Act.put,List.setIfInBounds_toArray,List.set_cons_zero,List.set_cons_succ,List.getElem_toArray,List.getElem_cons_zero,List.getElem_cons_succ]
    refine wpAnyH_take (i:=16) (v:=?_) rfl (by kernel_rfl) (by kernel_rfl) (by kernel_rfl) (fun _ _ _ h => h) (Or.inl ⟨by rfl,?_⟩) hH ?_
    rotate_left
    ·intro w' hS';(try dsimp only at hS');go_simp <;> (try with_reducible rfl)
    simp only [Act.put,List.setIfInBounds_toArray,List.set_cons_zero,List.set_cons_succ,List.getElem_toArray,List.getElem_cons_zero,List.getElem_cons_succ]
    refine wpAnyH_done (by kernel_rfl) ?_ _
    go_wp2_with fail
    go_ret
    exact ⟨zav (by simp),(hB.drew.trans (hb1.mono (by simpa using hB.size))).trans (hb2.mono (Nat.le_trans (by simpa using hB.size) hb1.size))⟩
   | false =>
    go_enter Try.func44,Try.ntmps44
    go_wp2_with (go_at_call 54;refine (hnum _).mono ?_;rintro e _ ⟨rfl,rfl⟩)
    refine wp_region_held_drew (S:=(fun w' => w'.rangeAt (w.heap.size + 1) 0 (s.has.map Value.bool) /\ w'.rangeAt w.heap.size (27 + n * 9) (ra.map Value.bool) /\ w'.rangeAt (w.heap.size + 1) 9 (s.had.map Value.bool) /\ w'.rangeAt w.heap.size (108 + n * 9) (rf.map Value.bool))) (by kernel_rfl) ⟨r3,r1,r4,r2⟩ (fun hH => ?_)
    refine wpAnyH_take (i:=0) (v:=?_) rfl (by kernel_rfl) (by kernel_rfl) (by kernel_rfl) (fun _ _ _ h => h) (Or.inl ⟨by rfl,?_⟩) hH ?_
    rotate_left
    ·intro w' hS';(try dsimp only at hS');go_simp <;> (try with_reducible rfl)
    simp only [Act.put,List.setIfInBounds_toArray,List.set_cons_zero,List.set_cons_succ,List.getElem_toArray,List.getElem_cons_zero,List.getElem_cons_succ]
    refine wpAnyH_take (i:=1) (v:=.agg (s.has.map Value.bool).toArray) rfl (by kernel_rfl) (by kernel_rfl) (by kernel_rfl) (fun _ _ _ h => h) (yieldsIf_load_mid (by rfl) _ _ rfl _ _ rfl _ _ (fun w' h => h.1) hu49 rfl i3) hH ?_
    simp only [Act.put,List.setIfInBounds_toArray,List.set_cons_zero,List.set_cons_succ,List.getElem_toArray,List.getElem_cons_zero,List.getElem_cons_succ]
    refine wpAnyH_take (i:=2) (v:=?_) rfl (by kernel_rfl) (by kernel_rfl) (by kernel_rfl) (fun _ _ _ h => h) (Or.inl ⟨by rfl,?_⟩) hH ?_
    rotate_left
    ·intro w' hS';(try dsimp only at hS');go_simp <;> (try with_reducible rfl)
    simp only [Act.put,List.setIfInBounds_toArray,List.set_cons_zero,List.set_cons_succ,List.getElem_toArray,List.getElem_cons_zero,List.getElem_cons_succ]
    refine wpAnyH_take (i:=3) (v:=?_) rfl (by kernel_rfl) (by kernel_rfl) (by kernel_rfl) (fun _ _ _ h => h) (Or.inl ⟨by rfl,?_⟩) hH ?_
    rotate_left
    ·intro w' hS';(try dsimp only at hS');go_simp <;> (try with_reducible rfl)
    simp only [Act.put,List.setIfInBounds_toArray,List.set_cons_zero,List.set_cons_succ,List.getElem_toArray,List.getElem_cons_zero,List.getElem_cons_succ]
    refine wpAnyH_take (i:=4) (v:=?_) rfl (by kernel_rfl) (by kernel_rfl) (by kernel_rfl) (fun _ _ _ h => h) (Or.inl ⟨by rfl,?_⟩) hH ?_
    rotate_left
    ·intro w' hS';(try dsimp only at hS');go_simp <;> (try with_reducible rfl)
    simp only [Act.put,List.setIfInBounds_toArray,List.set_cons_zero,List.set_cons_succ,List.getElem_toArray,List.getElem_cons_zero,List.getElem_cons_succ]
    refine wpAnyH_take (i:=5) (v:=.agg (ra.map Value.bool).toArray) rfl (by kernel_rfl) (by kernel_rfl) (by kernel_rfl) (fun _ _ _ h => h) (yieldsIf_load_mid (by rfl) _ _ rfl _ _ rfl _ _ (fun w' h => h.2.1) hu49 rfl i1) hH ?_
    simp only [Act.put,List.setIfInBounds_toArray,List.set_cons_zero,List.set_cons_succ,List.getElem_toArray,List.getElem_cons_zero,List.getElem_cons_succ]
    refine wpAnyH_ready (rs:=[6]) (by kernel_rfl) (by simp) ?_
    refine AllReadyH.cons rfl (fun K hK => ?_) AllReadyH.nil
    go_simp
    refine (a1 _).mono ?_
    rintro e w1 ⟨rfl,hb1⟩
    go_wp2_with fail
    refine hK.out _ _ ⟨zae hb1 hH.1,zae hb1 hH.2.1,zae hb1 hH.2.2.1,zae hb1 hH.2.2.2⟩ (fun hH2 => ?_)
    clear hK K
    replace hH:=hH2
    (try simp only [Act.put,List.setIfInBounds_toArray,List.set_cons_zero,List.set_cons_succ,List.getElem_toArray,List.getElem_cons_zero,List.getElem_cons_succ])
    refine wpAnyH_take (i:=7) (v:=?_) rfl (by kernel_rfl) (by kernel_rfl) (by kernel_rfl) (fun _ _ _ h => h) (Or.inl ⟨by rfl,?_⟩) hH ?_
    rotate_left
    ·intro w' hS';(try dsimp only at hS');go_simp <;> (try with_reducible rfl)
    simp only [Act.put,List.setIfInBounds_toArray,List.set_cons_zero,List.set_cons_succ,List.getElem_toArray,List.getElem_cons_zero,List.getElem_cons_succ]
    refine wpAnyH_take (i:=8) (v:=undef) rfl (by kernel_rfl) (by kernel_rfl) (by kernel_rfl) (fun _ _ _ h => h) (Or.inr ⟨by rfl,rfl⟩) hH ?_
    simp only [Act.put,List.setIfInBounds_toArray,List.set_cons_zero,List.set_cons_succ,List.getElem_toArray,List.getElem_cons_zero,List.getElem_cons_succ]
    refine wpAnyH_take (i:=9) (v:=undef) rfl (by kernel_rfl) (by kernel_rfl) (by kernel_rfl) (fun _ _ _ h => h) (Or.inr ⟨by rfl,rfl⟩) hH ?_
    simp only [Act.put,List.setIfInBounds_toArray,List.set_cons_zero,List.set_cons_succ,List.getElem_toArray,List.getElem_cons_zero,List.getElem_cons_succ]
    refine wpAnyH_take (i:=10) (v:=undef) rfl (by kernel_rfl) (by kernel_rfl) (by kernel_rfl) (fun _ _ _ h => h) (Or.inr ⟨by rfl,rfl⟩) hH ?_
    simp only [Act.put,List.setIfInBounds_toArray,List.set_cons_zero,List.set_cons_succ,List.getElem_toArray,List.getElem_cons_zero,List.getElem_cons_succ]
    refine wpAnyH_take (i:=11) (v:=undef) rfl (by kernel_rfl) (by kernel_rfl) (by kernel_rfl) (fun _ _ _ h => h) (Or.inr ⟨by rfl,rfl⟩) hH ?_
    simp only [Act.put,List.setIfInBounds_toArray,List.set_cons_zero,List.set_cons_succ,List.getElem_toArray,List.getElem_cons_zero,List.getElem_cons_succ]
    refine wpAnyH_take (i:=12) (v:=undef) rfl (by kernel_rfl) (by kernel_rfl) (by kernel_rfl) (fun _ _ _ h => h) (Or.inr ⟨by rfl,rfl⟩) hH ?_
    simp only [Act.put,List.setIfInBounds_toArray,List.set_cons_zero,List.set_cons_succ,List.getElem_toArray,List.getElem_cons_zero,List.getElem_cons_succ]
    refine wpAnyH_take (i:=13) (v:=undef) rfl (by kernel_rfl) (by kernel_rfl) (by kernel_rfl) (fun _ _ _ h => h) (Or.inr ⟨by rfl,rfl⟩) hH ?_
    simp only [Act.put,List.setIfInBounds_toArray,List.set_cons_zero,List.set_cons_succ,List.getElem_toArray,List.getElem_cons_zero,List.getElem_cons_succ]
    refine wpAnyH_take (i:=14) (v:=undef) rfl (by kernel_rfl) (by kernel_rfl) (by kernel_rfl) (fun _ _ _ h => h) (Or.inr ⟨by rfl,rfl⟩) hH ?_
    simp only [Act.put,List.setIfInBounds_toArray,List.set_cons_zero,List.set_cons_succ,List.getElem_toArray,List.getElem_cons_zero,List.getElem_cons_succ]
    refine wpAnyH_take (i:=15) (v:=?_) rfl (by kernel_rfl) (by kernel_rfl) (by kernel_rfl) (fun _ _ _ h => h) (Or.inl ⟨by rfl,?_⟩) hH ?_
    rotate_left
    ·intro w' hS';(try dsimp only at hS');go_simp <;> (try with_reducible rfl)
    simp only [Act.put,List.setIfInBounds_toArray,List.set_cons_zero,List.set_cons_succ,List.getElem_toArray,List.getElem_cons_zero,List.getElem_cons_succ]
    refine wpAnyH_take (i:=16) (v:=?_) rfl (by kernel_rfl) (by kernel_rfl) (by kernel_rfl) (fun _ _ _ h => h) (Or.inl ⟨by rfl,?_⟩) hH ?_
    rotate_left
    ·intro w' hS';(try dsimp only at hS');go_simp <;> (try with_reducible rfl)
    simp only [Act.put,List.setIfInBounds_toArray,List.set_cons_zero,List.set_cons_succ,List.getElem_toArray,List.getElem_cons_zero,List.getElem_cons_succ]
    refine wpAnyH_done (by kernel_rfl) ?_ _
    go_wp2_with fail
    go_ret
    exact ⟨zav (by simp),hB.drew.trans (hb1.mono (by simpa using hB.size))⟩
 ·have hnn : numB p 9 = false:=by unfold numB;simp;omega
  rw [hnn] at hnum hR
  have hR1 : R = false:=hR
  clear hR hq1 hq2 hp hnn
  subst hR1
  go_enter Try.func44,Try.ntmps44
  go_wp2_with (go_at_call 54;refine (hnum _).mono ?_;rintro e _ ⟨rfl,rfl⟩)
  go_ret
  exact ⟨rfl,hB⟩
end
end Go.Proofs.Ytkkekopomiehlab
