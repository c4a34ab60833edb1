import Derived.Test.YtkkekopomiehlaaGreatMFl1
import Derived.Test.YtkkekopomiehlaaGreatMLn1
import Derived.Deep.RegionHeld3
import Derived.Deep.AppendLies
import Derived.Deep.Onto
set_option linter.unusedVariables false
set_option linter.unusedSimpArgs false
namespace Go.Proofs.YtkkekopomiehlaaGreat
section
set_option maxRecDepth 4000
open Go.RowKit

/-- The release that a service has ahead of move 'j'. -/
def hasI (now : Int) (ms : List (Int × Int)) (s : Int) : Nat → Int
  | 0 => now
  | j + 1 => if (ms.getD j (-1, 0)).1 = s then (ms.getD j (-1, 0)).2 else hasI now ms s j
theorem MvsAt.keep {w w' : World} (hb : Below w.heap.size w w') {a : Option Addr} {ms : List (Int × Int)} (h : MvsAt w a ms) : MvsAt w' a ms := fun i m hi => by
  obtain ⟨b, o, h1, h2, h3⟩ := h i m hi
  exact ⟨b, o, h1, cell_keep hb h2, cell_keep hb h3⟩
theorem box2 (w : World) (v0 v1 : Value) (t : TypeId) : (w.alloc (.cells #[v0, v1] t)).cell? ⟨w.heap.size, 0, none⟩ = some v0 ∧ (w.alloc (.cells #[v0, v1] t)).cell? ⟨w.heap.size, 1, none⟩ = some v1 :=
  ⟨cell_last rfl rfl, cell_last rfl rfl⟩
theorem new2 {W : World} (o : Obj) {b : Nat} {v0 v1 : Value} (h : W.cell? ⟨b, 0, none⟩ = some v0 ∧ W.cell? ⟨b, 1, none⟩ = some v1) : (W.alloc o).cell? ⟨b, 0, none⟩ = some v0 ∧ (W.alloc o).cell? ⟨b, 1, none⟩ = some v1 :=
  ⟨cell_new _ h.1, cell_new _ h.2⟩
theorem keep2 {W w1 : World} (hb : Below W.heap.size W w1) {b : Nat} {v0 v1 : Value} (h : W.cell? ⟨b, 0, none⟩ = some v0 ∧ W.cell? ⟨b, 1, none⟩ = some v1) : w1.cell? ⟨b, 0, none⟩ = some v0 ∧ w1.cell? ⟨b, 1, none⟩ = some v1 :=
  ⟨cell_keep hb h.1, cell_keep hb h.2⟩
set_option maxHeartbeats 2000000 in
theorem has_any (f : FleetD) (sa ta va : Option Addr) (sl sc tl tc vl vc : Nat) (ms : List (Int × Int)) (ma : Option Addr) (mc : Nat) (j s : Nat) (v : SvcD) (w : World) (hf : FleetAt w sa sl sc ta tl tc va vl vc f) (hv : f.vs[s]? = some v) (hj : j ≤ ms.length) (hml : ms.length ≤ 2000000) (hm : MvsAt w ma ms) :
    Calls Tryz.prog 32 #[.agg #[.slice sa sl sc, .slice ta tl tc, .slice va vl vc], .slice ma ms.length mc, .int .i64 j, .int .i64 s] w fun e W => e = .returned (.int .i64 (hasI v.now ms s j)) ∧ Below w.heap.size w W := by
  obtain ⟨b, o, ra, rl, rc, rfl, c0, c1, c2, c3, _⟩ := hf.v3 s v hv
  have hv1 := hf.v1
  have hv2 := hf.v2
  have hsl : s < vl := by rw [hv1]; exact (List.getElem?_eq_some_iff.1 hv).1
  have hs0 : (0 : Int) ≤ (s : Int) := Int.natCast_nonneg _
  have hs1 : (s : Int) < (vl : Int) := by omega
  obtain ⟨R, hR⟩ : ∃ R, R = hasI v.now ms s j := ⟨_, rfl⟩
  rw [← hR]
  have HR := (hidMk hR)
  have HM := (hidMk hm)
  obtain ⟨z, now, wn, rels⟩ := v
  simp only at c0 c1 c2 c3 HR
  clear hR hm hf hv hv1
  have f0 := box3 w (.slice sa sl sc) (.slice ta tl tc) (.slice (some ⟨b, o, none⟩) vl vc) 26
  have d1 := cell_new (.cells #[.slice sa sl sc, .slice ta tl tc, .slice (some ⟨b, o, none⟩) vl vc] 26) c1
  go_enter Tryz.func32, Tryz.ntmps32
  go_wp2_with fail
  go_loopw [9] (fun vi wr => ∃ k : Nat, k ≤ j ∧ vi = .int .i64 ((k : Int) - 1) ∧ Hid (R = hasI now ms s k) ∧ wr = w.alloc (.cells #[.slice sa sl sc, .slice ta tl tc, .slice (some ⟨b, o, none⟩) vl vc] 26)) (fun i _ => (intOf i + 1).toNat)
  case atStart => exact ⟨j, Nat.le_refl _, by go_num, HR, rfl⟩
  case round =>
    obtain ⟨k, hk, rfl, hr, rfl⟩ := hrel
    cases k with
    | zero =>
      have hR1 : R = now := hr.out
      clear hr HR
      subst hR1
      go_wp2_with fail
      go_ret
      exact ⟨rfl, bel1 _ _⟩
    | succ k =>
      obtain ⟨m, hmk⟩ : ∃ m, ms[k]? = some m := ⟨ms[k]'(by omega), List.getElem?_eq_getElem (by omega)⟩
      obtain ⟨b', o', rfl, d0, d2⟩ := HM.out k m hmk
      have d0 := cell_new (.cells #[.slice sa sl sc, .slice ta tl tc, .slice (some ⟨b, o, none⟩) vl vc] 26) d0
      have d2 := cell_new (.cells #[.slice sa sl sc, .slice ta tl tc, .slice (some ⟨b, o, none⟩) vl vc] 26) d2
      have hst : hasI now ms s (k + 1) = if m.1 = (s : Int) then m.2 else hasI now ms s k := by rw [hasI]; simp [List.getD, hmk]
      rw [show ((k + 1 : Nat) : Int) - 1 = (k : Int) by omega]
      obtain ⟨x, y⟩ := m
      simp only at d0 d2 hst
      have hk0 : (0 : Int) ≤ (k : Int) := Int.natCast_nonneg _
      have hk1 : (k : Int) < (ms.length : Int) := by omega
      by_cases hx : x = (s : Int)
      · have hR1 : R = y := by rw [hr.out, hst, if_pos hx]
        have hx' : (x == (s : Int)) = true := by simp [hx]
        clear hr HR hst hx hmk
        subst hR1
        go_wp2_with fail
        go_ret
        exact ⟨rfl, bel1 _ _⟩
      · have hr' : Hid (R = hasI now ms s k) := by show _ = _; rw [hr.out, hst, if_neg hx]
        have hx' : (x == (s : Int)) = false := by simp [hx]
        clear hr HR hst hx hmk
        go_wp2_with fail
        go_roundw
        case rel => first | exact ⟨k, by omega, by go_num, hr', rfl⟩ | exact ⟨k, by omega, by go_num, hr', trivial⟩
        case measure => first | (simp [intOf]; omega) | simp [intOf]
set_option maxHeartbeats 2000000 in
theorem id_any (s r : Nat) (hs : s < 9) (hr : r < 9) (w : World) : Calls Tryz.prog 58 #[.agg #[.int .i64 s, .int .i64 r]] w fun e W => e = .returned (.int .i64 ((s * 3 + r : Nat) : Int)) ∧ Below w.heap.size w W := by
  go_enter Tryz.func58, Tryz.ntmps58
  go_wp2_with fail
  go_ret
  exact ⟨by go_num, bel1 _ _⟩
end
section
set_option maxRecDepth 4000
open Go.RowKit

/-- A list of lists of truths lies so. -/
def MatAt (w : World) (a : Option Addr) (M : List (List Bool)) : Prop := ∀ i r, M[i]? = some r → ∃ b o g c, a = some ⟨b, o, none⟩ ∧ w.cell? ⟨b, o + i, none⟩ = some (.slice (some ⟨g, 0, none⟩) r.length c) ∧ ∀ j x, r[j]? = some x → w.cell? ⟨g, j, none⟩ = some (.bool x)
theorem MatAt.keep {w w' : World} (hb : Below w.heap.size w w') {a : Option Addr} {M : List (List Bool)} (h : MatAt w a M) : MatAt w' a M := fun i r hi => by
  obtain ⟨b, o, g, c, h1, h2, h3⟩ := h i r hi
  exact ⟨b, o, g, c, h1, cell_keep hb h2, fun j x hj => cell_keep hb (h3 j x hj)⟩
/-- The reference's views of a fleet lie so: the fleet, and which schemas can be read as which. -/
structure VwAt (w : World) (g : Nat) (sa : Option Addr) (sl sc : Nat) (ta : Option Addr) (tl tc : Nat) (va : Option Addr) (vl vc : Nat) (fa : Option Addr) (fc : Nat) (f : FleetD) (M : List (List Bool)) : Prop where
  fl : FleetAt w sa sl sc ta tl tc va vl vc f
  c0 : w.cell? ⟨g, 0, none⟩ = some (.slice sa sl sc)
  c1 : w.cell? ⟨g, 1, none⟩ = some (.slice ta tl tc)
  c2 : w.cell? ⟨g, 2, none⟩ = some (.slice va vl vc)
  c3 : w.cell? ⟨g, 3, none⟩ = some (.slice fa f.ss.length fc)
  fit : MatAt w fa M
theorem VwAt.keep {w w' : World} (hb : Below w.heap.size w w') {g : Nat} {sa ta va fa : Option Addr} {sl sc tl tc vl vc fc : Nat} {f : FleetD} {M : List (List Bool)} (h : VwAt w g sa sl sc ta tl tc va vl vc fa fc f M) : VwAt w' g sa sl sc ta tl tc va vl vc fa fc f M :=
  ⟨h.fl.keep hb, cell_keep hb h.c0, cell_keep hb h.c1, cell_keep hb h.c2, cell_keep hb h.c3, h.fit.keep hb⟩
theorem cell3_keep {W w1 : World} (hb : Below W.heap.size W w1) {b o : Nat} {v0 v1 v2 : Value} (h : W.cell? ⟨b, o, none⟩ = some v0 ∧ W.cell? ⟨b, o + 1, none⟩ = some v1 ∧ W.cell? ⟨b, o + 2, none⟩ = some v2) : w1.cell? ⟨b, o, none⟩ = some v0 ∧ w1.cell? ⟨b, o + 1, none⟩ = some v1 ∧ w1.cell? ⟨b, o + 2, none⟩ = some v2 :=
  ⟨cell_keep hb h.1, cell_keep hb h.2.1, cell_keep hb h.2.2⟩
theorem keep6v {W w1 : World} (hb : Below W.heap.size W w1) {g : Nat} {v0 v1 v2 : Value} (h : W.cell? ⟨g, 0, none⟩ = some v0 ∧ W.cell? ⟨g, 1, none⟩ = some v1 ∧ W.cell? ⟨g, 2, none⟩ = some v2) : w1.cell? ⟨g, 0, none⟩ = some v0 ∧ w1.cell? ⟨g, 1, none⟩ = some v1 ∧ w1.cell? ⟨g, 2, none⟩ = some v2 :=
  ⟨cell_keep hb h.1, cell_keep hb h.2.1, cell_keep hb h.2.2⟩
/-- Such a list, and its blocks are of 'S'. -/
def MatS (S : Nat → Prop) (w : World) (a : Option Addr) (M : List (List Bool)) : Prop := ∀ i r, M[i]? = some r → ∃ b o g c, S b ∧ S g ∧ a = some ⟨b, o, none⟩ ∧ w.cell? ⟨b, o + i, none⟩ = some (.slice (some ⟨g, 0, none⟩) r.length c) ∧ ∀ j x, r[j]? = some x → w.cell? ⟨g, j, none⟩ = some (.bool x)
theorem MatS.keep {S : Nat → Prop} {w w' : World} (hb : ∀ b o v, S b → w.cell? ⟨b, o, none⟩ = some v → w'.cell? ⟨b, o, none⟩ = some v) {a : Option Addr} {M : List (List Bool)} (h : MatS S w a M) : MatS S w' a M := fun i r hi => by
  obtain ⟨b, o, g, c, h1, h2, h3, h4, h5⟩ := h i r hi
  exact ⟨b, o, g, c, h1, h2, h3, hb _ _ _ h1 h4, fun j x hj => hb _ _ _ h2 (h5 j x hj)⟩
theorem MatS.at {S : Nat → Prop} {w : World} {a : Option Addr} {M : List (List Bool)} (h : MatS S w a M) : MatAt w a M := fun i r hi => by
  obtain ⟨b, o, g, c, h1, h2, h3, h4, h5⟩ := h i r hi
  exact ⟨b, o, g, c, h3, h4, h5⟩
/-- Blocks of different types are different ones. -/
theorem RowIs.ne {w : World} {b b' : Nat} {t t' : TypeId} {cs cs' : List Value} (h : RowIs w b t cs) (h' : RowIs w b' t' cs') (ht : t ≠ t') : b ≠ b' := fun e => by
  subst e
  unfold RowIs at h h'
  rw [h] at h'
  simp at h'
  exact ht h'.2
theorem own_ne {w : World} {base size n b : Nat} {e t : TypeId} {v : Value} {xs cs : List Value} (h : w.ownsRow base e size v n xs) (h' : RowIs w b t cs) (ht : t ≠ e) : v.ownBlock ≠ some b := fun hv => by
  obtain ⟨hl, h | ⟨g', cap', cur, hv', hb, hh, hc, hm, hs, ht'⟩⟩ := h
  · obtain ⟨h, _⟩ := h; rw [h] at hv; cases hv
  · rw [hv'] at hv
    have hg : g' = b := by simpa [Value.ownBlock] using hv
    subst hg
    unfold RowIs at h'
    rw [h'] at hh
    simp at hh
    exact ht hh.2
theorem RowIs.grown {w w' : World} {b : Nat} {t : TypeId} {cs : List Value} {row : Option Nat} (h : RowIs w b t cs) (hg : w.grownBy w' row) (hne : row ≠ some b) : RowIs w' b t cs := by
  have hlt := h.lt
  unfold RowIs at h ⊢
  rw [hg.block b hlt (fun e => hne e.symm)]; exact h
/-- Nothing that was there has changed but the block 'g'. -/
structure KeptBut (g : Nat) (w w' : World) : Prop where
  size : w.heap.size ≤ w'.heap.size
  block : ∀ k, k < w.heap.size → k ≠ g → w'.heap[k]? = w.heap[k]?
theorem KeptBut.refl (g : Nat) (w : World) : KeptBut g w w := ⟨Nat.le_refl _, fun _ _ _ => rfl⟩
theorem KeptBut.below {g : Nat} {w w1 w2 : World} (h : KeptBut g w w1) (hb : Below w1.heap.size w1 w2) : KeptBut g w w2 :=
  ⟨Nat.le_trans h.size hb.size, fun k hk hg => (hb.block k (Nat.lt_of_lt_of_le hk h.size)).trans (h.block k hk hg)⟩
theorem KeptBut.grown {g : Nat} {w w1 w2 : World} {row : Option Nat} (h : KeptBut g w w1) (hg : w1.grownBy w2 row) (hr : ∀ k, row = some k → w.heap.size ≤ k) : KeptBut g w w2 :=
  ⟨Nat.le_trans h.size hg.size, fun k hk hne => (hg.block k (Nat.lt_of_lt_of_le hk h.size) (fun e => by have := hr k e.symm; omega)).trans (h.block k hk hne)⟩
theorem KeptBut.set {g : Nat} {w w1 : World} (h : KeptBut g w w1) {p : Addr} (hp : p.block = g ∨ w.heap.size ≤ p.block) (u : Value) : KeptBut g w (w1.setCell p u) :=
  ⟨Nat.le_trans h.size (by simp [World.setCell]), fun k hk hne => (Below.heap_setCell _ _ _ _ (by rcases hp with h | h <;> omega)).trans (h.block k hk hne)⟩
theorem KeptBut.cell {g : Nat} {w w' : World} (h : KeptBut g w w') {b o : Nat} {v : Value} (hb : b ≠ g) (hc : w.cell? ⟨b, o, none⟩ = some v) : w'.cell? ⟨b, o, none⟩ = some v := by
  rw [World.cell?_of_block (w := w) (a := ⟨b, o, none⟩) (h.block b (lt_of_cell hc) hb)]; exact hc
end
section
set_option maxRecDepth 4000
open Go.RowKit

def rlen (vs : List SvcD) (s : Nat) : Nat := match vs[s]? with | some v => v.rels.length | none => 0
/-- All releases of all services. -/
def prsOf (vs : List SvcD) (s : Nat) : List (Nat × Nat) := (List.range (rlen vs s)).map fun r => (s, r)
def prsTo (vs : List SvcD) (s : Nat) : List (Nat × Nat) := (List.range s).flatMap (prsOf vs)
def prs (vs : List SvcD) : List (Nat × Nat) := prsTo vs vs.length
theorem prsTo_succ (vs : List SvcD) (s : Nat) : prsTo vs (s + 1) = prsTo vs s ++ prsOf vs s := by rw [prsTo, prsTo, List.range_succ, List.flatMap_append]; simp
def prC (l : List (Nat × Nat)) : List Value := l.flatMap fun p => [.int .i64 p.1, .int .i64 p.2]
theorem prC_app (a b : List (Nat × Nat)) : prC (a ++ b) = prC a ++ prC b := by simp [prC]
theorem prC_get : ∀ (l : List (Nat × Nat)) (i : Nat) (p : Nat × Nat), l[i]? = some p → (prC l)[i * 2]? = some (.int .i64 p.1) ∧ (prC l)[i * 2 + 1]? = some (.int .i64 p.2)
  | [], i, p, h => by simp at h
  | q :: l, 0, p, h => by simp at h; subst h; exact ⟨rfl, rfl⟩
  | q :: l, i + 1, p, h => by
    rw [List.getElem?_cons_succ] at h
    have := prC_get l i p h
    rw [prC, List.flatMap_cons, show (i + 1) * 2 = i * 2 + 1 + 1 by omega]
    exact this
theorem Tryz.infoPair : (Tryz.prog.info? 64).map (fun i => (i.zero, i.size, i.bytes)) = some (some (.agg #[.int .i64 0, .int .i64 0]), 2, 16) := by kernel_rfl
set_option maxHeartbeats 2000000 in
theorem pairs_any (f : FleetD) (sa ta va : Option Addr) (sl sc tl tc vl vc : Nat) (w : World) (hf : FleetAt w sa sl sc ta tl tc va vl vc f) (h3 : f.vs.length ≤ 3) (hr3 : ∀ v ∈ f.vs, v.rels.length ≤ 3) :
    Calls Tryz.prog 57 #[.agg #[.slice sa sl sc, .slice ta tl tc, .slice va vl vc]] w fun e W => ∃ v, e = .returned v ∧ W.ownsRow w.heap.size 64 2 v (prs f.vs).length (prC (prs f.vs)) ∧ Below w.heap.size w W := by
  have hv1 := hf.v1
  have HV := (hidMk hf.v3)
  have HR3 := (hidMk hr3)
  obtain ⟨ii, hii, hz0, hzz1, hzz2⟩ := info_parts Tryz.infoPair
  obtain ⟨ss, ts, vs⟩ := f
  simp only at hv1 HV h3 HR3 ⊢
  clear hf hr3
  obtain ⟨v1a, v1b⟩ : vl ≤ vs.length ∧ vs.length ≤ vl := by omega
  clear hv1
  have hB0 := bel1 w (.cells #[.slice sa sl sc, .slice ta tl tc, .slice va vl vc] 26)
  have e0 := box3 w (.slice sa sl sc) (.slice ta tl tc) (.slice va vl vc) 26
  go_enter Tryz.func57, Tryz.ntmps57
  go_wp2_with fail
  go_loopw [3, 4] (fun vl' vs' wr => ∃ s : Nat, s ≤ vl ∧ vs' = .int .i64 s ∧ Hid ((prsTo vs s).length ≤ 3 * s) ∧ wr.ownsRow (w.heap.size + 1) 64 2 vl' (prsTo vs s).length (prC (prsTo vs s)) ∧ Below (w.heap.size + 1) (w.alloc (.cells #[.slice sa sl sc, .slice ta tl tc, .slice va vl vc] 26)) wr) (fun _ s _ => vl - (intOf s).toNat)
  case atStart => exact ⟨0, Nat.zero_le _, rfl, (by show _ ≤ _; simp [prsTo]), World.ownsRow_nil _ _ _ _, Below.refl _ _⟩
  case round =>
    obtain ⟨s, hs, rfl, hle, hown, hb⟩ := hrel
    obtain ⟨f0, f1, f2⟩ := keep3 (hb.mono (by simp)) e0
    have hfl : w.heap.size < wr.heap.size := lt_of_cell f0
    have hx0 : (0 : Int) ≤ (s : Int) := Int.natCast_nonneg _
    by_cases hlt : s < vl
    · obtain ⟨v, hv⟩ : ∃ v, vs[s]? = some v := ⟨vs[s]'(by omega), List.getElem?_eq_getElem (by omega)⟩
      obtain ⟨b, o, ra, rl, rc, rfl, _, _, _, c3, hrel⟩ := HV.out s v hv
      have hrl := hrel.1
      have hrl3 := HR3.out v (List.mem_of_getElem? hv)
      have hrn : rlen vs s = rl := by unfold rlen; rw [hv]; exact hrl.symm
      have c3w := c3
      have c3 := cell_keep (hB0.trans (hb.mono (by simp))) c3
      have hx1 : (s : Int) < (vl : Int) := by omega
      have HRN := (hidMk hrn)
      have hrl3' : rl ≤ 3 := by omega
      clear hrel hrl hrl3 hrn hv
      go_wp2_with fail
      go_loopw [3, 5] (fun vl' vr wr => ∃ r : Nat, r ≤ rl ∧ vr = .int .i64 r ∧ wr.ownsRow (w.heap.size + 1) 64 2 vl' ((prsTo vs s).length + r) (prC (prsTo vs s ++ (List.range r).map fun r => (s, r))) ∧ Below (w.heap.size + 1) (w.alloc (.cells #[.slice sa sl sc, .slice ta tl tc, .slice (some ⟨b, o, none⟩) vl vc] 26)) wr) (fun _ r _ => rl - (intOf r).toNat)
      case atStart => exact ⟨0, Nat.zero_le _, rfl, by simpa using hown, hb⟩
      case round =>
        obtain ⟨r, hr, rfl, hown2, hb2⟩ := hrel
        have hlow : ∀ k, u3.ownBlock = some k → w.heap.size + 1 ≤ k ∧ k < wr.heap.size := fun k h => hown2.lt k h
        have z2 := hb2.size
        rw [size_new] at z2
        obtain ⟨f0, f1, f2⟩ := keep3 (hb2.mono (by simp)) e0
        have c3 := cell_keep (hB0.trans (hb2.mono (by simp))) c3w
        have hfl : w.heap.size < wr.heap.size := lt_of_cell f0
        have hy0 : (0 : Int) ≤ (r : Int) := Int.natCast_nonneg _
        by_cases hrl : r < rl
        · have hleo := hle.out
          go_wp2_with (at_builtin; refine wpList_append_lies _ rfl _ _ _ rfl (w.heap.size + 1) 64 ii _ 2 16 Tryz.underlying61 hii hz0 hzz1 hzz2 rfl (by omega) u3 ((prsTo vs s).length + r) _ rfl (hown2.alloc _) ⟨wr.heap.size, 0, none⟩ 1 1 [.int .i64 s, .int .i64 r] rfl rfl (World.news_of_block (heap_alloc_new wr _)) (by simp [Value.oneCell']) (by omega) (by unfold maxLen; omega) (by omega) (by simp; omega) (wr.heap.size + 1) (by simp) ?_; intro g' cap' w3 hown' hgrow hat hlt3)
          go_roundw
          case rel =>
            refine ⟨r + 1, by omega, by go_num, ?_, Below.grown (hb2.alloc z2 _) hgrow (by simp; omega) (fun k hk => (hlow k hk).1)⟩
            rw [List.range_succ, List.map_append, ← List.append_assoc, prC_app, ← Nat.add_assoc]; exact hown'
          case measure => simp [intOf]; omega
        · have hre : r = rl := by omega
          subst hre
          go_wp2_with fail
          go_roundw
          case rel =>
            refine ⟨s + 1, by omega, by go_num, ?_, ?_, hb2⟩
            · show _ ≤ _
              have := hle.out
              rw [prsTo_succ, List.length_append, prsOf, List.length_map, List.length_range, HRN.out]; omega
            · rw [prsTo_succ, List.length_append, prsOf, List.length_map, List.length_range, HRN.out]; exact hown2
          case measure => simp [intOf]; omega
    · have hse : s = vl := by omega
      subst hse
      go_wp2_with fail
      go_ret
      refine ⟨u3, rfl, ?_, hB0.trans (hb.mono (by simp))⟩
      have hvv : s = vs.length := by omega
      have := World.ownsRow.mono hown (base' := w.heap.size) (by omega)
      unfold prs
      rw [← hvv]; exact this
end
end Go.Proofs.YtkkekopomiehlaaGreat
