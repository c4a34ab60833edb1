import Derived.Test.YtkkekopomiehlaaGreatRep
import Derived.Deep.MidRow
import Derived.Laws.PanicsMore
import Derived.Deep.RegionHeld3
import Derived.Test.YtkkekopomiehlaaGreatMFl1
import Derived.BigFrame
set_option linter.unusedVariables false
set_option linter.unusedSimpArgs false
namespace Go.Proofs.YtkkekopomiehlaaGreat
section
set_option maxRecDepth 4000
open Go.RowKit

theorem Tryz.infoSet : (Tryz.prog.info? 49).map (·.size) = some 9 := by kernel_rfl
theorem run_index_arr {P : Program} {w : World} (t e : TypeId) (d : TypeDesc) (n : Nat) (cs : Array Value) (k : IntKind) (i : Nat) (h : P.underlying t = some (.array n e)) (hs : (P.info? e).map (·.size) = some 1) (he : P.underlying e = some d) (hd : ∀ fs, d ≠ .struct fs) (hd2 : ∀ m u, d ≠ .array m u) (hin : i < n) (v : Value) (hv : cs[i]? = some v) :
    (Instr.index t (.agg cs) (.int k i)).run P w = .ok v w := by
  have hn : (0 ≤ (i : Int) ∧ (i : Int) < (n : Int)) := by omega
  cases hq : P.info? e with
  | none => simp [hq] at hs
  | some ii =>
    have hi : ii.size = 1 := by simpa [hq] using hs
    have hag : (isAgg e).run P w = .ok false w := by
      unfold isAgg
      rw [Sem.run_bind, run_underlying he w]
      cases d <;> simp_all
    simp [Instr.index, run_underlying h, asIntOf, hn, go_sem, sizeOf, typeInfo, hq, hi, hin, hag, hv]
theorem Tryz.infoBool : (Tryz.prog.info? 4).map (·.size) = some 1 := by kernel_rfl
theorem heap_box (w : World) (o : Obj) : (w.alloc o).heap[w.heap.size]? = some o := by show (w.heap.push o)[w.heap.size]? = some o; simp
theorem range_row {w : World} {b : Nat} {t : TypeId} {cs : List Value} (h : w.heap[b]? = some (.cells cs.toArray t (0, 0))) : w.rangeAt b 0 cs := fun j v hj => by
  rw [Nat.zero_add]
  simp only [World.cell?, h]
  simpa using hj
theorem range_keep {w w' : World} (hb : Below w.heap.size w w') {b o : Nat} {cs : List Value} (h : w.rangeAt b o cs) : w'.rangeAt b o cs := fun j v hj => by
  have h1 := h j v hj
  rw [hb.cell (p := ⟨b, o + j, none⟩) (World.block_lt_of_cell? w ⟨b, o + j, none⟩ h1)]; exact h1
theorem belS (w : World) (o : Obj) : Below w.heap.size w (w.alloc o) := (Below.refl _ _).alloc (Nat.le_refl _) _
def algB (xs ys : List Bool) : Bool := (List.range 9).all fun i => !(xs.getD i false) || ys.getD i false
theorem all_rng (F : Nat → Bool) (x : Nat) : (List.range (x + 1)).all F = ((List.range x).all F && F x) := by rw [List.range_succ, List.all_append]; simp
theorem all_rng_no {F : Nat → Bool} {x n : Nat} (hx : x < n) (h : F x = false) : (List.range n).all F = false := by
  cases hc : (List.range n).all F with
  | false => rfl
  | true => rw [List.all_eq_true] at hc; rw [hc x (List.mem_range.2 hx)] at h; cases h
set_option maxHeartbeats 1000000 in
theorem allAlong_any (xs ys : List Bool) (hx : xs.length = 9) (hy : ys.length = 9) (w : World) :
    Calls Tryz.prog 51 #[.agg (xs.map Value.bool).toArray, .agg (ys.map Value.bool).toArray] w fun e W => e = .returned (.bool (algB xs ys)) ∧ Below w.heap.size w W := by
  have hr := range_keep (belS _ (.cells (ys.map Value.bool).toArray 49)) (range_row (heap_box w (.cells (xs.map Value.bool).toArray 49)))
  have hq := range_row (heap_box (w.alloc (.cells (xs.map Value.bool).toArray 49)) (.cells (ys.map Value.bool).toArray 49))
  rw [show (w.alloc (.cells (xs.map Value.bool).toArray 49)).heap.size = w.heap.size + 1 by simp] at hq
  have hi : (Tryz.prog.info? 49).map (·.size) = some (xs.map Value.bool).length := by rw [List.length_map, hx]; exact Tryz.infoSet
  have hB := (belS w (.cells (xs.map Value.bool).toArray 49)).alloc (by simp) (.cells (ys.map Value.bool).toArray 49)
  obtain ⟨R, hR⟩ : ∃ R, R = algB xs ys := ⟨_, rfl⟩
  rw [← hR]
  have HR : Hid (R = (List.range 9).all fun i => !(xs.getD i false) || ys.getD i false) := hR
  have HX : Hid (xs.length = 9) := hx
  have HY : Hid (ys.length = 9) := hy
  clear hR hx hy
  go_enter Tryz.func51, Tryz.ntmps51
  go_wp2_with (refine wpList_load_mid (w := (w.alloc (.cells (xs.map Value.bool).toArray 49)).alloc (.cells (ys.map Value.bool).toArray 49)) rfl 49 _ rfl _ _ rfl (xs.map Value.bool) _ hr Tryz.underlying49 rfl hi ?_)
  go_loopw [8] (fun vi wr => ∃ i : Nat, i ≤ 9 ∧ vi = .int .i64 i ∧ Hid ((List.range i).all (fun i => !(xs.getD i false) || ys.getD i false) = true) ∧ wr = (w.alloc (.cells (xs.map Value.bool).toArray 49)).alloc (.cells (ys.map Value.bool).toArray 49)) (fun i _ => 9 - (intOf i).toNat)
  case atStart => exact ⟨0, by omega, rfl, (by show _ = _; rfl), rfl⟩
  case round =>
    obtain ⟨i, hi9, rfl, hn, rfl⟩ := hrel
    by_cases hlt : i < 9
    · obtain ⟨x, hxi⟩ : ∃ x, xs[i]? = some x := ⟨xs[i]'(by rw [HX.out]; omega), List.getElem?_eq_getElem (by rw [HX.out]; omega)⟩
      obtain ⟨y, hyi⟩ : ∃ y, ys[i]? = some y := ⟨ys[i]'(by rw [HY.out]; omega), List.getElem?_eq_getElem (by rw [HY.out]; omega)⟩
      have hc := hq i (.bool y) (by rw [List.getElem?_map, hyi]; rfl)
      rw [Nat.zero_add] at hc
      have hx0 : (0 : Int) ≤ (i : Int) := Int.natCast_nonneg _
      have hx1 : (i : Int) < 9 := by omega
      have hidx := fun W => run_index_arr (P := Tryz.prog) (w := W) 49 4 .bool 9 (xs.map Value.bool).toArray .i64 i Tryz.underlying49 Tryz.infoBool Tryz.underlying4 (fun _ h => by cases h) (fun _ _ h => by cases h) hlt (.bool x) (by simp [hxi])
      have hFx : (!(xs.getD i false) || ys.getD i false) = (!x || y) := by simp [List.getD, hxi, hyi]
      have hno : (!x || y) = false → R = false := fun h => by rw [HR.out]; exact all_rng_no hlt (by rw [hFx]; exact h)
      have hyes : (!x || y) = true → Hid ((List.range (i + 1)).all (fun i => !(xs.getD i false) || ys.getD i false) = true) := fun h => by show _ = _; rw [all_rng, hn.out, hFx, h]; rfl
      clear hFx hn hxi hyi hq HR
      cases x with
      | true =>
        cases y with
        | true =>
          have hy' := hyes rfl
          clear hno hyes
          go_wp2_with fail
          go_roundw
          case rel => exact ⟨i + 1, by omega, by go_num, hy', trivial⟩
          case measure => simp [intOf]; omega
        | false =>
          have hR1 := hno rfl
          clear hno hyes
          subst hR1
          go_wp2_with fail
          go_ret
          exact ⟨rfl, hB⟩
      | false =>
        have hy' := hyes rfl
        clear hno hyes
        go_wp2_with fail
        go_roundw
        case rel => exact ⟨i + 1, by omega, by go_num, hy', trivial⟩
        case measure => simp [intOf]; omega
    · have hR1 : R = true := by rw [HR.out, ← hn.out, show i = 9 by omega]
      clear HR hn
      subst hR1
      go_wp2_with fail
      go_ret
      exact ⟨rfl, hB⟩
end
section
set_option maxRecDepth 4000
open Go.RowKit

/-- A table: which schemas can be read as which. -/
def tabC (T : List (List Bool)) : List Value := T.flatten.map Value.bool
def tabOk (T : List (List Bool)) : Prop := T.length = 8 ∧ ∀ r ∈ T, r.length = 8
theorem flat8_get : ∀ (l : List (List Bool)) (i j : Nat) (r : List Bool), (∀ r ∈ l, r.length = 8) → l[i]? = some r → j < 8 → l.flatten[i * 8 + j]? = r[j]?
  | [], i, j, r, h, hi, hj => by simp at hi
  | q :: l, 0, j, r, h, hi, hj => by
    simp at hi; subst hi
    rw [List.flatten_cons, List.getElem?_append_left (by rw [h q (by simp)]; omega), show 0 * 8 + j = j by omega]
  | q :: l, i + 1, j, r, h, hi, hj => by
    rw [List.getElem?_cons_succ] at hi
    have hq := h q (by simp)
    rw [List.flatten_cons, List.getElem?_append_right (by rw [hq]; omega), hq, show (i + 1) * 8 + j - 8 = i * 8 + j by omega]
    exact flat8_get l i j r (fun r hr => h r (by simp [hr])) hi hj
def tabG (T : List (List Bool)) (i j : Nat) : Bool := (T.getD i []).getD j false
def crB (T : List (List Bool)) (x y : Int) : Bool := ((x == -1) || (y == -1)) || (numB x 8 && numB y 8 && tabG T x.toNat y.toNat)
set_option maxHeartbeats 2000000 in
theorem canRead_any (T : List (List Bool)) (hT : tabOk T) (x y : Int) (w : World) : Calls Tryz.prog 90 #[.agg (tabC T).toArray, .int .i64 x, .int .i64 y] w fun e W => e = .returned (.bool (crB T x y)) ∧ Below w.heap.size w W := by
  have hq := range_row (heap_box w (.cells (tabC T).toArray 101))
  have n1 := fun w => isNumber_any x 8 w
  have n2 := fun w => isNumber_any y 8 w
  obtain ⟨R, hR⟩ : ∃ R, R = crB T x y := ⟨_, rfl⟩
  rw [← hR]
  unfold crB at hR
  have hB := belS w (.cells (tabC T).toArray 101)
  by_cases hx : x = -1
  · subst hx
    have hR1 : R = true := by rw [hR]; simp
    clear hR hq n1 n2
    subst hR1
    go_enter Tryz.func90, Tryz.ntmps90
    go_wp2_with fail
    go_ret
    exact ⟨rfl, hB⟩
  by_cases hy : y = -1
  · subst hy
    have hx' : (x == -1) = false := by simp [hx]
    have hR1 : R = true := by rw [hR]; simp
    clear hR hq n1 n2 hx
    subst hR1
    go_enter Tryz.func90, Tryz.ntmps90
    go_wp2_with fail
    go_ret
    exact ⟨rfl, hB⟩
  have hx' : (x == -1) = false := by simp [hx]
  have hy' : (y == -1) = false := by simp [hy]
  rw [hx', hy'] at hR
  clear hx hy
  by_cases h1 : 0 ≤ x ∧ x < 8
  · have e1 : numB x 8 = true := by unfold numB; simp; omega
    rw [e1] at n1 hR
    by_cases h2 : 0 ≤ y ∧ y < 8
    · have e2 : numB y 8 = true := by unfold numB; simp; omega
      rw [e2] at n2 hR
      obtain ⟨i, rfl⟩ : ∃ n : Nat, x = n := ⟨x.toNat, by omega⟩
      obtain ⟨j, rfl⟩ : ∃ n : Nat, y = n := ⟨y.toNat, by omega⟩
      rw [Int.toNat_natCast, Int.toNat_natCast] at hR
      obtain ⟨r, hr⟩ : ∃ r, T[i]? = some r := ⟨T[i]'(by rw [hT.1]; omega), List.getElem?_eq_getElem (by rw [hT.1]; omega)⟩
      have lr := hT.2 r (List.mem_of_getElem? hr)
      obtain ⟨z, hz⟩ : ∃ z, r[j]? = some z := ⟨r[j]'(by omega), List.getElem?_eq_getElem (by omega)⟩
      have hc := hq (i * 8 + j) (.bool z) (by rw [tabC, List.getElem?_map, flat8_get _ _ _ _ hT.2 hr (by omega), hz]; rfl)
      rw [Nat.zero_add] at hc
      have hR1 : R = z := by rw [hR]; simp [tabG, List.getD, hr, hz]
      have a1 : (i : Int) < 8 := h1.2
      have a2 : (j : Int) < 8 := h2.2
      have a3 : (0 : Int) ≤ (i : Int) := Int.natCast_nonneg _
      have a4 : (0 : Int) ≤ (j : Int) := Int.natCast_nonneg _
      clear hR hq hr hz h1 h2 e1 e2 hT lr
      subst hR1
      go_enter Tryz.func90, Tryz.ntmps90
      go_wp2_with (first | (go_at_call 69; have hq := m1; refine (n2 _).mono ?_; rintro e _ ⟨rfl, rfl⟩; have m2 : True := trivial) | (go_at_call 69; refine (n1 _).mono ?_; rintro e _ ⟨rfl, rfl⟩; have m1 : True := trivial))
      go_ret
      exact ⟨rfl, hB⟩
    · have e2 : numB y 8 = false := by unfold numB; simp; omega
      rw [e2] at n2 hR
      have hR1 : R = false := by rw [hR]; simp
      clear hR hq h1 h2 e1 e2
      subst hR1
      go_enter Tryz.func90, Tryz.ntmps90
      go_wp2_with (first | (go_at_call 69; have hq := m1; refine (n2 _).mono ?_; rintro e _ ⟨rfl, rfl⟩; have m2 : True := trivial) | (go_at_call 69; refine (n1 _).mono ?_; rintro e _ ⟨rfl, rfl⟩; have m1 : True := trivial))
      go_ret
      exact ⟨rfl, hB⟩
  · have e1 : numB x 8 = false := by unfold numB; simp; omega
    rw [e1] at n1 hR
    have hR1 : R = false := by rw [hR]; simp
    clear hR hq h1 e1
    subst hR1
    go_enter Tryz.func90, Tryz.ntmps90
    go_wp2_with (go_at_call 69; refine (n1 _).mono ?_; rintro e _ ⟨rfl, rfl⟩)
    go_ret
    exact ⟨rfl, hB⟩
theorem Tryz.infoTab : (Tryz.prog.info? 101).map (·.size) = some 64 := by kernel_rfl
theorem flat8_len : ∀ (l : List (List Bool)), (∀ r ∈ l, r.length = 8) → l.flatten.length = l.length * 8
  | [], _ => rfl
  | q :: l, h => by rw [List.flatten_cons, List.length_append, h q (by simp), flat8_len l (fun r hr => h r (by simp [hr])), List.length_cons]; omega
theorem tabOk.len {T : List (List Bool)} (h : tabOk T) : (tabC T).length = 64 := by rw [tabC, List.length_map, flat8_len T h.2, h.1]
theorem tabOk.info {T : List (List Bool)} (h : tabOk T) : (Tryz.prog.info? 101).map (·.size) = some (tabC T).length := by rw [h.len]; exact Tryz.infoTab
theorem wpList_load_g {P : Program} {ops : Array Oper} {rest : List Oper} {op : Oper} {a : Act} {w : World} {Q : Exit → Act → World → Prop} (hw : Region.wanted op (yielded ops a.tmps) = true) (ty : TypeId) (x : Operand) (ho : op.op = .load ty x)
    (b o : Nat) (hx : a.eval x = .pointer (some ⟨b, o, none⟩)) (cs : List Value) (d : TypeDesc) (hc : w.rangeAt b o cs)
    (hu : P.underlying ty = some d) (hd : d.isRow = true) (hi : (P.info? ty).map (·.size) = some cs.length)
    (h : wpList P ops Q rest (a.put op.dst (.agg cs.toArray)) w) : wpList P ops Q (op :: rest) a w :=
  Go.BigFrame.wpList_want hw fun K hK => wp_load_mid ty x ho b o hx cs d hc hu hd hi (hK _ _ h)
def gaB (T : List (List Bool)) (p q : PinD) : Bool := crB T p.w q.r && crB T q.w p.r
set_option maxHeartbeats 2000000 in
theorem getAlong_any (T : List (List Bool)) (hT : tabOk T) (p q : PinD) (w : World) : Calls Tryz.prog 71 #[.agg (tabC T).toArray, .agg #[.int .i64 p.t, .int .i64 p.w, .int .i64 p.r], .agg #[.int .i64 q.t, .int .i64 q.w, .int .i64 q.r]] w fun e W => e = .returned (.bool (gaB T p q)) ∧ Below w.heap.size w W := by
  obtain ⟨pt, pw, pr⟩ := p
  obtain ⟨qt, qw, qr⟩ := q
  have c1 := fun w => canRead_any T hT pw qr w
  have c2 := fun w => canRead_any T hT qw pr w
  have hR : Hid (gaB T ⟨pt, pw, pr⟩ ⟨qt, qw, qr⟩ = (crB T pw qr && crB T qw pr)) := rfl
  obtain ⟨R, hRR⟩ : ∃ R, R = gaB T ⟨pt, pw, pr⟩ ⟨qt, qw, qr⟩ := ⟨_, rfl⟩
  rw [← hRR] at hR ⊢
  generalize crB T pw qr = x at c1 hR
  generalize crB T qw pr = y at c2 hR
  clear hRR
  simp only
  have it := hT.info
  have hBB : Below w.heap.size w (((w.alloc (.cells (tabC T).toArray 101)).alloc (.cells #[.int .i64 pt, .int .i64 pw, .int .i64 pr] 94)).alloc (.cells #[.int .i64 qt, .int .i64 qw, .int .i64 qr] 94)) := thn3 (thn3 (belS w _) (belS _ _)) (belS _ _)
  have rt := range_keep (belS _ (.cells #[.int .i64 qt, .int .i64 qw, .int .i64 qr] 94)) (range_keep (belS _ (.cells #[.int .i64 pt, .int .i64 pw, .int .i64 pr] 94)) (range_row (heap_box w (.cells (tabC T).toArray 101))))
  have hz1 : (w.alloc (.cells (tabC T).toArray 101)).heap.size = w.heap.size + 1 := by simp
  have pb := new3 (.cells #[.int .i64 qt, .int .i64 qw, .int .i64 qr] 94) (box3 (w.alloc (.cells (tabC T).toArray 101)) (.int .i64 pt) (.int .i64 pw) (.int .i64 pr) 94)
  rw [hz1] at pb
  have qb := box3 ((w.alloc (.cells (tabC T).toArray 101)).alloc (.cells #[.int .i64 pt, .int .i64 pw, .int .i64 pr] 94)) (.int .i64 qt) (.int .i64 qw) (.int .i64 qr) 94
  rw [show ((w.alloc (.cells (tabC T).toArray 101)).alloc (.cells #[.int .i64 pt, .int .i64 pw, .int .i64 pr] 94)).heap.size = w.heap.size + 1 + 1 by simp] at qb
  clear hT hz1
  cases x with
  | false =>
    have hR1 : R = false := hR.out
    clear hR
    subst hR1
    go_enter Tryz.func71, Tryz.ntmps71
    go_wp2_with (first
      | (refine wpList_load_mid (w := ((w.alloc (.cells (tabC T).toArray 101)).alloc (.cells #[.int .i64 pt, .int .i64 pw, .int .i64 pr] 94)).alloc (.cells #[.int .i64 qt, .int .i64 qw, .int .i64 qr] 94)) rfl 101 _ rfl w.heap.size 0 rfl (tabC T) _ rt Tryz.underlying101 rfl it ?_)
      | (go_at_call 90; refine (c1 _).mono ?_; rintro e w1 ⟨rfl, hb1⟩))
    go_ret
    exact ⟨rfl, thn3 hBB hb1⟩
  | true =>
    have hR1 : R = y := hR.out
    clear hR
    subst hR1
    go_enter Tryz.func71, Tryz.ntmps71
    go_wp2_with (first
      | (have hq := hb1; (refine wpList_load_g (w := w1) (by rfl) 101 _ rfl w.heap.size 0 rfl (tabC T) _ rt1 Tryz.underlying101 rfl it ?_))
      | (refine wpList_load_mid (w := ((w.alloc (.cells (tabC T).toArray 101)).alloc (.cells #[.int .i64 pt, .int .i64 pw, .int .i64 pr] 94)).alloc (.cells #[.int .i64 qt, .int .i64 qw, .int .i64 qr] 94)) rfl 101 _ rfl w.heap.size 0 rfl (tabC T) _ rt Tryz.underlying101 rfl it ?_)
      | (go_at_call 90; have hq := hb1; refine (c2 _).mono ?_; rintro e w2 ⟨rfl, hb2⟩)
      | (go_at_call 90; refine (c1 _).mono ?_; rintro e w1 ⟨rfl, hb1⟩; have rt1 := range_keep hb1 rt; have pb1 := keep3 hb1 pb; have qb1 := keep3 hb1 qb))
    go_ret
    exact ⟨rfl, thn3 (thn3 hBB hb1) hb2⟩
end
section
set_option maxRecDepth 4000
open Go.RowKit

def cpA (T : List (List Bool)) (p q : PinD) : Bool := (p.t != q.t) || gaB T p q
def cpF (T : List (List Bool)) (ts : List Int) (p q : PinD) : Bool := cpA T p q || !(numB p.t ts.length && (ts.getD p.t.toNat 0 == 0))
def cmpA (T : List (List Bool)) (ps qs : List PinD) : Bool := ps.all fun p => qs.all (cpA T p)
def cmpF (T : List (List Bool)) (ts : List Int) (ps qs : List PinD) : Bool := ps.all fun p => qs.all (cpF T ts p)
theorem all_tk {α : Type} {l : List α} {x : Nat} {p : α} (f : α → Bool) (h : l[x]? = some p) : (l.take (x + 1)).all f = ((l.take x).all f && f p) := by
  rw [List.take_add_one, h, List.all_append]; simp
set_option maxHeartbeats 8000000 in
theorem compare_any (T : List (List Bool)) (hT : tabOk T) (ts : List Int) (ps qs : List PinD) (ta pa qa : Option Addr) (tc pc qc : Nat) (w : World) (ht : ts.length ≤ 2000000) (hp : ps.length ≤ 2000000) (hq : qs.length ≤ 2000000) (hta : IntsAt w ta ts) (hpa : PinsAt w pa ps) (hqa : PinsAt w qa qs) :
    Calls Tryz.prog 47 #[.slice ta ts.length tc, .agg (tabC T).toArray, .slice pa ps.length pc, .slice qa qs.length qc] w fun e W => e = .returned (.tuple #[.bool (cmpA T ps qs), .bool (cmpF T ts ps qs)]) ∧ Below w.heap.size w W := by
  have it := hT.info
  have rt := range_row (heap_box w (.cells (tabC T).toArray 101))
  obtain ⟨RA, hRA⟩ : ∃ R, R = cmpA T ps qs := ⟨_, rfl⟩
  obtain ⟨RF, hRF⟩ : ∃ R, R = cmpF T ts ps qs := ⟨_, rfl⟩
  rw [← hRA, ← hRF]
  have HRA : Hid (RA = ps.all fun p => qs.all (cpA T p)) := hRA
  have HRF : Hid (RF = ps.all fun p => qs.all (cpF T ts p)) := hRF
  have HTA : Hid (IntsAt w ta ts) := hta
  have HPA : Hid (PinsAt w pa ps) := hpa
  have HQA : Hid (PinsAt w qa qs) := hqa
  have HT : Hid (tabOk T) := hT
  clear hRA hRF hta hpa hqa hT
  go_enter Tryz.func47, Tryz.ntmps47
  go_wp2_with fail
  go_loopw [10, 11, 18] (fun va vf vi wr => ∃ (i : Nat) (x y : Bool), i ≤ ps.length ∧ vi = .int .i64 i ∧ va = .bool x ∧ vf = .bool y ∧ Hid (x = (ps.take i).all fun p => qs.all (cpA T p)) ∧ Hid (y = (ps.take i).all fun p => qs.all (cpF T ts p)) ∧ Below (w.alloc (.cells (tabC T).toArray 101)).heap.size (w.alloc (.cells (tabC T).toArray 101)) wr) (fun _ _ i _ => ps.length - (intOf i).toNat)
  case atStart => exact ⟨0, true, true, Nat.zero_le _, rfl, rfl, rfl, (by show _ = _; rfl), (by show _ = _; rfl), Below.refl _ _⟩
  case round =>
    obtain ⟨i, x0, y0, hi, rfl, rfl, rfl, hx, hy, hb⟩ := hrel
    rename World => w5
    have hbw := thn3 (belS w _) hb
    by_cases hlt : i < ps.length
    · obtain ⟨p, hpi⟩ : ∃ p, ps[i]? = some p := ⟨ps[i], List.getElem?_eq_getElem hlt⟩
      obtain ⟨b, o, rfl, c0, c1, c2⟩ := HPA.out i p hpi
      have c0 := cell_keep hbw c0
      have c1 := cell_keep hbw c1
      have c2 := cell_keep hbw c2
      have hbl := lt_of_cell c0
      have hsx := all_tk (fun p => qs.all (cpA T p)) hpi
      have hsy := all_tk (fun p => qs.all (cpF T ts p)) hpi
      rw [← hx.out] at hsx
      rw [← hy.out] at hsy
      have HSX := (show Hid (((ps.take (i + 1)).all fun p => qs.all (cpA T p)) = (x0 && qs.all (cpA T p))) from hsx)
      have HSY := (show Hid (((ps.take (i + 1)).all fun p => qs.all (cpF T ts p)) = (y0 && qs.all (cpF T ts p))) from hsy)
      have hx0 : (0 : Int) ≤ (i : Int) := Int.natCast_nonneg _
      have hx1 : (i : Int) < (ps.length : Int) := by omega
      clear hsx hsy hx hy hpi HRA HRF
      obtain ⟨pt, pw, pr⟩ := p
      simp only at c0 c1 c2
      have pb0 := box3 w5 (.int .i64 pt) (.int .i64 pw) (.int .i64 pr) 94
      have hbP := thn3 hb (belS w5 (.cells #[.int .i64 pt, .int .i64 pw, .int .i64 pr] 94))
      go_wp2_with fail
      go_loopw [10, 11, 24] (fun va vf vj wr => ∃ (j : Nat) (x y : Bool), j ≤ qs.length ∧ vj = .int .i64 j ∧ va = .bool x ∧ vf = .bool y ∧ Hid (x = (x0 && (qs.take j).all (cpA T ⟨pt, pw, pr⟩))) ∧ Hid (y = (y0 && (qs.take j).all (cpF T ts ⟨pt, pw, pr⟩))) ∧ Below (w5.alloc (.cells #[.int .i64 pt, .int .i64 pw, .int .i64 pr] 94)).heap.size (w5.alloc (.cells #[.int .i64 pt, .int .i64 pw, .int .i64 pr] 94)) wr) (fun _ _ j _ => qs.length - (intOf j).toNat)
      case atStart => exact ⟨0, x0, y0, Nat.zero_le _, rfl, rfl, rfl, (by show _ = _; simp), (by show _ = _; simp), Below.refl _ _⟩
      case round =>
        obtain ⟨j, x, y, hj, rfl, rfl, rfl, hxj, hyj, hbq⟩ := hrel
        have hbqB := thn3 hbP hbq
        have hbqw := thn3 (belS w _) hbqB
        have pb1 := keep3 hbq pb0
        by_cases hjl : j < qs.length
        · obtain ⟨q, hqj⟩ : ∃ q, qs[j]? = some q := ⟨qs[j], List.getElem?_eq_getElem hjl⟩
          obtain ⟨b', o', rfl, d0, d1, d2⟩ := HQA.out j q hqj
          have d0 := cell_keep hbqw d0
          have d1 := cell_keep hbqw d1
          have d2 := cell_keep hbqw d2
          have hbl2 := lt_of_cell d0
          have hlp : w5.heap.size < wr.heap.size := lt_of_cell pb1.1
          have ex := all_tk (cpA T ⟨pt, pw, pr⟩) hqj
          have ey := all_tk (cpF T ts ⟨pt, pw, pr⟩) hqj
          have hy0 : (0 : Int) ≤ (j : Int) := Int.natCast_nonneg _
          have hy1 : (j : Int) < (qs.length : Int) := by omega
          obtain ⟨qt, qw, qr⟩ := q
          simp only at d0 d1 d2
          have sx : (x0 && (qs.take (j + 1)).all (cpA T ⟨pt, pw, pr⟩)) = (x && cpA T ⟨pt, pw, pr⟩ ⟨qt, qw, qr⟩) := by rw [ex, hxj.out, Bool.and_assoc]
          have sy : (y0 && (qs.take (j + 1)).all (cpF T ts ⟨pt, pw, pr⟩)) = (y && cpF T ts ⟨pt, pw, pr⟩ ⟨qt, qw, qr⟩) := by rw [ey, hyj.out, Bool.and_assoc]
          have rt2 := range_keep (belS wr (.cells #[.int .i64 qt, .int .i64 qw, .int .i64 qr] 94)) (range_keep hbqB rt)
          have hga := fun W => getAlong_any T HT.out ⟨pt, pw, pr⟩ ⟨qt, qw, qr⟩ W
          simp only at hga
          have hAd : cpA T ⟨pt, pw, pr⟩ ⟨qt, qw, qr⟩ = ((pt != qt) || gaB T ⟨pt, pw, pr⟩ ⟨qt, qw, qr⟩) := rfl
          have hFd : cpF T ts ⟨pt, pw, pr⟩ ⟨qt, qw, qr⟩ = (cpA T ⟨pt, pw, pr⟩ ⟨qt, qw, qr⟩ || !(numB pt ts.length && (ts.getD pt.toNat 0 == 0))) := rfl
          generalize gaB T ⟨pt, pw, pr⟩ ⟨qt, qw, qr⟩ = g at hga hAd
          rw [hFd, hAd] at sy
          rw [hAd] at sx
          clear ex ey hqj hxj hyj hAd hFd
          have hBE := belS wr (.cells #[.int .i64 qt, .int .i64 qw, .int .i64 qr] 94)
          by_cases hpq : pt = qt
          · have hne : (pt != qt) = false := by simp [hpq]
            rw [hne, Bool.false_or] at sx sy
            clear hpq
            cases g with
            | true =>
              have hX : Hid (x = (x0 && (qs.take (j + 1)).all (cpA T ⟨pt, pw, pr⟩))) := by show _ = _; rw [sx, Bool.and_true]
              have hY : Hid (y = (y0 && (qs.take (j + 1)).all (cpF T ts ⟨pt, pw, pr⟩))) := by show _ = _; rw [sy]; simp
              clear sx sy
              go_wp2_with (first | (refine wpList_load_g (w := wr.alloc (.cells #[.int .i64 qt, .int .i64 qw, .int .i64 qr] 94)) (by rfl) 101 _ rfl w.heap.size 0 rfl (tabC T) _ rt2 Tryz.underlying101 rfl it ?_) | (go_at_call 71; refine (hga _).mono ?_; rintro e w2 ⟨rfl, hb2⟩; have pb2 := keep3 hb2 (new3 _ pb1)))
              go_roundw
              case rel => exact ⟨j + 1, x, y, by omega, by go_num, rfl, rfl, hX, hY, thn3 (thn3 hbq hBE) hb2⟩
              case measure => simp [intOf]; omega
            | false =>
              have hX : Hid (false = (x0 && (qs.take (j + 1)).all (cpA T ⟨pt, pw, pr⟩))) := by show _ = _; rw [sx, Bool.and_false]
              clear sx
              rw [Bool.false_or] at sy
              have hnu := fun w => isNumber_any pt ts.length w
              by_cases hn : 0 ≤ pt ∧ pt < ts.length
              · have e1 : numB pt ts.length = true := by unfold numB; simp; omega
                rw [e1] at hnu sy
                obtain ⟨n, rfl⟩ : ∃ n : Nat, pt = n := ⟨pt.toNat, by omega⟩
                rw [Int.toNat_natCast] at sy
                obtain ⟨k, hk⟩ : ∃ k, ts[n]? = some k := ⟨ts[n]'(by omega), List.getElem?_eq_getElem (by omega)⟩
                obtain ⟨bt, ot, rfl, t0⟩ := HTA.out n k hk
                have t0 := cell_keep hbqw t0
                have hn0 : (0 : Int) ≤ (n : Int) := Int.natCast_nonneg _
                have hn1 : (n : Int) < (ts.length : Int) := hn.2
                have hgk : ts.getD n 0 = k := by simp [List.getD, hk]
                rw [hgk] at sy
                clear hk hgk e1 hn
                by_cases hk0 : k = 0
                · have hk' : (k == 0) = true := by simp [hk0]
                  have hY : Hid (false = (y0 && (qs.take (j + 1)).all (cpF T ts ⟨n, pw, pr⟩))) := by show _ = _; rw [sy, hk']; simp
                  clear sy hk0
                  go_wp2_with (first | (refine wpList_load_g (w := wr.alloc (.cells #[.int .i64 qt, .int .i64 qw, .int .i64 qr] 94)) (by rfl) 101 _ rfl w.heap.size 0 rfl (tabC T) _ rt2 Tryz.underlying101 rfl it ?_) | (go_at_call 71; refine (hga _).mono ?_; rintro e w2 ⟨rfl, hb2⟩; have t2 := cell_keep hb2 (cell_new _ t0); have pb2 := keep3 hb2 (new3 _ pb1)) | (go_at_call 69; refine (hnu _).mono ?_; rintro e _ ⟨rfl, rfl⟩))
                  go_roundw
                  case rel => exact ⟨j + 1, false, false, by omega, by go_num, rfl, rfl, hX, hY, thn3 (thn3 hbq hBE) hb2⟩
                  case measure => simp [intOf]; omega
                · have hk' : (k == 0) = false := by simp [hk0]
                  have hY : Hid (y = (y0 && (qs.take (j + 1)).all (cpF T ts ⟨n, pw, pr⟩))) := by show _ = _; rw [sy, hk']; simp
                  clear sy hk0
                  go_wp2_with (first | (refine wpList_load_g (w := wr.alloc (.cells #[.int .i64 qt, .int .i64 qw, .int .i64 qr] 94)) (by rfl) 101 _ rfl w.heap.size 0 rfl (tabC T) _ rt2 Tryz.underlying101 rfl it ?_) | (go_at_call 71; refine (hga _).mono ?_; rintro e w2 ⟨rfl, hb2⟩; have t2 := cell_keep hb2 (cell_new _ t0); have pb2 := keep3 hb2 (new3 _ pb1)) | (go_at_call 69; refine (hnu _).mono ?_; rintro e _ ⟨rfl, rfl⟩))
                  go_roundw
                  case rel => exact ⟨j + 1, false, y, by omega, by go_num, rfl, rfl, hX, hY, thn3 (thn3 hbq hBE) hb2⟩
                  case measure => simp [intOf]; omega
              · have e1 : numB pt ts.length = false := by unfold numB; simp; omega
                rw [e1] at hnu sy
                have hY : Hid (y = (y0 && (qs.take (j + 1)).all (cpF T ts ⟨pt, pw, pr⟩))) := by show _ = _; rw [sy]; simp
                clear sy hn e1
                go_wp2_with (first | (refine wpList_load_g (w := wr.alloc (.cells #[.int .i64 qt, .int .i64 qw, .int .i64 qr] 94)) (by rfl) 101 _ rfl w.heap.size 0 rfl (tabC T) _ rt2 Tryz.underlying101 rfl it ?_) | (go_at_call 71; refine (hga _).mono ?_; rintro e w2 ⟨rfl, hb2⟩; have pb2 := keep3 hb2 (new3 _ pb1)) | (go_at_call 69; refine (hnu _).mono ?_; rintro e _ ⟨rfl, rfl⟩))
                go_roundw
                case rel => exact ⟨j + 1, false, y, by omega, by go_num, rfl, rfl, hX, hY, thn3 (thn3 hbq hBE) hb2⟩
                case measure => simp [intOf]; omega
          · have hne : (pt != qt) = true := by simp [hpq]
            rw [hne, Bool.true_or] at sx sy
            have hX : Hid (x = (x0 && (qs.take (j + 1)).all (cpA T ⟨pt, pw, pr⟩))) := by show _ = _; rw [sx, Bool.and_true]
            have hY : Hid (y = (y0 && (qs.take (j + 1)).all (cpF T ts ⟨pt, pw, pr⟩))) := by show _ = _; rw [sy]; simp
            clear sx sy hpq
            go_wp2_with fail
            go_roundw
            case rel => exact ⟨j + 1, x, y, by omega, by go_num, rfl, rfl, hX, hY, thn3 hbq hBE⟩
            case measure => simp [intOf]; omega
        · have hX : Hid (x = (ps.take (i + 1)).all fun p => qs.all (cpA T p)) := by show _ = _; rw [HSX.out, hxj.out, List.take_of_length_le (by omega)]
          have hY : Hid (y = (ps.take (i + 1)).all fun p => qs.all (cpF T ts p)) := by show _ = _; rw [HSY.out, hyj.out, List.take_of_length_le (by omega)]
          clear hxj hyj HSX HSY
          go_wp2_with fail
          go_roundw
          case rel => exact ⟨i + 1, x, y, by omega, by go_num, rfl, rfl, hX, hY, hbqB⟩
          case measure => simp [intOf]; omega
    · have h1 : RA = x0 := by rw [HRA.out, hx.out, List.take_of_length_le (by omega)]
      have h2 : RF = y0 := by rw [HRF.out, hy.out, List.take_of_length_le (by omega)]
      clear hx hy HRA HRF
      subst h1 h2
      go_wp2_with fail
      go_ret2
      exact ⟨rfl, hbw⟩
end
section
set_option maxRecDepth 4000
open Go.RowKit

/-- A chart as data: all releases, the first ones, those wanted; who gets along with whom, in every topic, and in those that keep for ever. -/
structure ChD where
  thr : List Bool
  fst : List Bool
  wnt : List Bool
  alg : List (List Bool)
  fev : List (List Bool)
def ChD.bits (c : ChD) : List Bool := c.thr ++ (c.fst ++ (c.wnt ++ (c.alg.flatten ++ c.fev.flatten)))
def ChD.cells (c : ChD) : List Value := c.bits.map Value.bool
structure ChD.ok (c : ChD) : Prop where
  thr : c.thr.length = 9
  fst : c.fst.length = 9
  wnt : c.wnt.length = 9
  alg : c.alg.length = 9
  algr : ∀ r ∈ c.alg, r.length = 9
  fev : c.fev.length = 9
  fevr : ∀ r ∈ c.fev, r.length = 9
theorem flat_get : ∀ (l : List (List Bool)) (i j : Nat) (r : List Bool), (∀ r ∈ l, r.length = 9) → l[i]? = some r → j < 9 → l.flatten[i * 9 + j]? = r[j]?
  | [], i, j, r, h, hi, hj => by simp at hi
  | q :: l, 0, j, r, h, hi, hj => by
    simp at hi; subst hi
    rw [List.flatten_cons, List.getElem?_append_left (by rw [h q (by simp)]; omega), show 0 * 9 + j = j by omega]
  | q :: l, i + 1, j, r, h, hi, hj => by
    rw [List.getElem?_cons_succ] at hi
    have hq := h q (by simp)
    rw [List.flatten_cons, List.getElem?_append_right (by rw [hq]; omega), hq, show (i + 1) * 9 + j - 9 = i * 9 + j by omega]
    exact flat_get l i j r (fun r hr => h r (by simp [hr])) hi hj
theorem flat_len : ∀ (l : List (List Bool)), (∀ r ∈ l, r.length = 9) → l.flatten.length = l.length * 9
  | [], _ => rfl
  | q :: l, h => by rw [List.flatten_cons, List.length_append, h q (by simp), flat_len l (fun r hr => h r (by simp [hr])), List.length_cons]; omega
theorem ChD.ok.get_thr {c : ChD} (h : c.ok) {p : Nat} {b : Bool} (hp : c.thr[p]? = some b) : c.bits[p]? = some b := by
  have hl := (List.getElem?_eq_some_iff.1 hp).1
  rw [ChD.bits, List.getElem?_append_left hl]; exact hp
theorem ChD.ok.get_fst {c : ChD} (h : c.ok) {p : Nat} {b : Bool} (hp : c.fst[p]? = some b) : c.bits[9 + p]? = some b := by
  have hl := (List.getElem?_eq_some_iff.1 hp).1
  rw [ChD.bits, List.getElem?_append_right (by rw [h.thr]; omega), h.thr, show 9 + p - 9 = p by omega, List.getElem?_append_left hl]; exact hp
theorem ChD.ok.get_alg {c : ChD} (h : c.ok) {p j : Nat} {r : List Bool} {b : Bool} (hp : c.alg[p]? = some r) (hj : r[j]? = some b) : c.bits[27 + p * 9 + j]? = some b := by
  have hr := h.algr r (List.mem_of_getElem? hp)
  have hjl := (List.getElem?_eq_some_iff.1 hj).1
  have hpl := (List.getElem?_eq_some_iff.1 hp).1
  have hfl := flat_len c.alg h.algr
  have := h.alg
  rw [ChD.bits, List.getElem?_append_right (by rw [h.thr]; omega), h.thr, List.getElem?_append_right (by rw [h.fst]; omega), h.fst, List.getElem?_append_right (by rw [h.wnt]; omega), h.wnt, show 27 + p * 9 + j - 9 - 9 - 9 = p * 9 + j by omega, List.getElem?_append_left (by omega), flat_get _ _ _ _ h.algr hp (by omega)]
  exact hj
theorem ChD.ok.get_fev {c : ChD} (h : c.ok) {p j : Nat} {r : List Bool} {b : Bool} (hp : c.fev[p]? = some r) (hj : r[j]? = some b) : c.bits[108 + p * 9 + j]? = some b := by
  have hr := h.fevr r (List.mem_of_getElem? hp)
  have hjl := (List.getElem?_eq_some_iff.1 hj).1
  have hfl := flat_len c.alg h.algr
  have := h.alg
  rw [ChD.bits, List.getElem?_append_right (by rw [h.thr]; omega), h.thr, List.getElem?_append_right (by rw [h.fst]; omega), h.fst, List.getElem?_append_right (by rw [h.wnt]; omega), h.wnt, List.getElem?_append_right (by omega), hfl, h.alg, show 108 + p * 9 + j - 9 - 9 - 9 - 9 * 9 = p * 9 + j by omega, flat_get _ _ _ _ h.fevr hp (by omega)]
  exact hj
/-- A situation. -/
structure SiD where
  has : List Bool
  had : List Bool
def SiD.cells (s : SiD) : List Value := (s.has ++ s.had).map Value.bool
def SiD.ok (s : SiD) : Prop := s.has.length = 9 ∧ s.had.length = 9
def mvB (c : ChD) (s : SiD) (p : Int) : Bool := numB p 9 && c.thr.getD p.toNat false && !(s.has.getD p.toNat false)
set_option maxHeartbeats 2000000 in
theorem isMove_any (c : ChD) (s : SiD) (p : Int) (hc : c.ok) (hs : s.ok) (w : World) :
    Calls Tryz.prog 49 #[.agg c.cells.toArray, .agg s.cells.toArray, .int .i64 p] w fun e W => e = .returned (.bool (mvB c s p)) ∧ Below w.heap.size w W := by
  have hq1 := range_keep (belS _ (.cells s.cells.toArray 106)) (range_row (heap_box w (.cells c.cells.toArray 52)))
  have hq2 := range_row (heap_box (w.alloc (.cells c.cells.toArray 52)) (.cells s.cells.toArray 106))
  rw [show (w.alloc (.cells c.cells.toArray 52)).heap.size = w.heap.size + 1 by simp] at hq2
  have hB := (belS w (.cells c.cells.toArray 52)).alloc (by simp) (.cells s.cells.toArray 106)
  have hnum := fun w => isNumber_any p 9 w
  obtain ⟨R, hR⟩ : ∃ R, R = mvB c s p := ⟨_, rfl⟩
  rw [← hR]
  unfold mvB at hR
  by_cases hp : 0 ≤ p ∧ p < 9
  · have hnn : numB p 9 = true := by unfold numB; simp; omega
    rw [hnn] at hnum hR
    obtain ⟨n, rfl⟩ : ∃ n : Nat, p = n := ⟨p.toNat, by omega⟩
    rw [Int.toNat_natCast] at hR
    obtain ⟨x, hx⟩ : ∃ x, c.thr[n]? = some x := ⟨c.thr[n]'(by rw [hc.thr]; omega), List.getElem?_eq_getElem (by rw [hc.thr]; omega)⟩
    obtain ⟨y, hy⟩ : ∃ y, s.has[n]? = some y := ⟨s.has[n]'(by rw [hs.1]; omega), List.getElem?_eq_getElem (by rw [hs.1]; omega)⟩
    have k1 := hq1 n (.bool x) (by rw [ChD.cells, List.getElem?_map, hc.get_thr hx]; rfl)
    have k2 := hq2 n (.bool y) (by rw [SiD.cells, List.getElem?_map, List.getElem?_append_left (by rw [hs.1]; omega), hy]; rfl)
    rw [Nat.zero_add] at k1 k2
    have hR1 : R = (x && !y) := by rw [hR]; simp [List.getD, hx, hy]
    have hn0 : (0 : Int) ≤ (n : Int) := Int.natCast_nonneg _
    have hn9 : (n : Int) < 9 := hp.2
    clear hR hq1 hq2 hx hy hc hs hnn hp
    subst hR1
    cases x <;> cases y <;> (
      go_enter Tryz.func49, Tryz.ntmps49
      go_wp2_with (go_at_call 69; refine (hnum _).mono ?_; rintro e _ ⟨rfl, rfl⟩)
      go_ret
      exact ⟨rfl, hB⟩)
  · have hnn : numB p 9 = false := by unfold numB; simp; omega
    rw [hnn] at hnum hR
    have hR1 : R = false := hR
    clear hR hq1 hq2 hp hnn
    subst hR1
    go_enter Tryz.func49, Tryz.ntmps49
    go_wp2_with (go_at_call 69; refine (hnum _).mono ?_; rintro e _ ⟨rfl, rfl⟩)
    go_ret
    exact ⟨rfl, hB⟩
end
section
set_option maxRecDepth 4000
open Go.RowKit

def sfB (c : ChD) (s : SiD) (p : Int) : Bool := numB p 9 && (c.alg.getD p.toNat []).getD p.toNat false && algB s.has (c.alg.getD p.toNat []) && algB s.had (c.fev.getD p.toNat [])
theorem range_part {w : World} {b o k : Nat} {cs ds : List Value} (h : w.rangeAt b o cs) (hd : ∀ (j : Nat) (v : Value), ds[j]? = some v → cs[k + j]? = some v) : w.rangeAt b (o + k) ds := fun j v hj => by
  have := h (k + j) v (hd j v hj)
  rwa [← Nat.add_assoc] at this
set_option maxHeartbeats 4000000 in
theorem isSafe_any (c : ChD) (s : SiD) (p : Int) (hc : c.ok) (hs : s.ok) (w : World) :
    Calls Tryz.prog 52 #[.agg c.cells.toArray, .agg s.cells.toArray, .int .i64 p] w fun e W => e = .returned (.bool (sfB c s p)) ∧ Below w.heap.size w W := by
  have hq1 := range_keep (belS _ (.cells s.cells.toArray 106)) (range_row (heap_box w (.cells c.cells.toArray 52)))
  have hq2 := range_row (heap_box (w.alloc (.cells c.cells.toArray 52)) (.cells s.cells.toArray 106))
  rw [show (w.alloc (.cells c.cells.toArray 52)).heap.size = w.heap.size + 1 by simp] at hq2
  have hB := (belS w (.cells c.cells.toArray 52)).alloc (by simp) (.cells s.cells.toArray 106)
  have hnum := fun w => isNumber_any p 9 w
  obtain ⟨R, hR⟩ : ∃ R, R = sfB c s p := ⟨_, rfl⟩
  rw [← hR]
  unfold sfB at hR
  by_cases hp : 0 ≤ p ∧ p < 9
  · have hnn : numB p 9 = true := by unfold numB; simp; omega
    rw [hnn] at hnum hR
    obtain ⟨n, rfl⟩ : ∃ n : Nat, p = n := ⟨p.toNat, by omega⟩
    rw [Int.toNat_natCast] at hR
    have hn9' : n < 9 := by omega
    obtain ⟨ra, hra⟩ : ∃ r, c.alg[n]? = some r := ⟨c.alg[n]'(by rw [hc.alg]; omega), List.getElem?_eq_getElem (by rw [hc.alg]; omega)⟩
    obtain ⟨rf, hrf⟩ : ∃ r, c.fev[n]? = some r := ⟨c.fev[n]'(by rw [hc.fev]; omega), List.getElem?_eq_getElem (by rw [hc.fev]; omega)⟩
    have la := hc.algr ra (List.mem_of_getElem? hra)
    have lf := hc.fevr rf (List.mem_of_getElem? hrf)
    obtain ⟨x, hx⟩ : ∃ x, ra[n]? = some x := ⟨ra[n]'(by omega), List.getElem?_eq_getElem (by omega)⟩
    have r1 := range_part (k := 27 + n * 9) (ds := ra.map Value.bool) hq1 (fun j v hj => by
      rw [List.getElem?_map] at hj
      obtain ⟨b, hb, rfl⟩ := Option.map_eq_some_iff.1 hj
      rw [ChD.cells, List.getElem?_map, hc.get_alg hra hb]; rfl)
    have r2 := range_part (k := 108 + n * 9) (ds := rf.map Value.bool) hq1 (fun j v hj => by
      rw [List.getElem?_map] at hj
      obtain ⟨b, hb, rfl⟩ := Option.map_eq_some_iff.1 hj
      rw [ChD.cells, List.getElem?_map, hc.get_fev hrf hb]; rfl)
    have r3 := range_part (k := 0) (ds := s.has.map Value.bool) hq2 (fun j v hj => by
      rw [List.getElem?_map] at hj
      obtain ⟨b, hb, rfl⟩ := Option.map_eq_some_iff.1 hj
      rw [SiD.cells, List.getElem?_map, Nat.zero_add, List.getElem?_append_left (List.getElem?_eq_some_iff.1 hb).1, hb]; rfl)
    have r4 := range_part (k := 9) (ds := s.had.map Value.bool) hq2 (fun j v hj => by
      rw [List.getElem?_map] at hj
      obtain ⟨b, hb, rfl⟩ := Option.map_eq_some_iff.1 hj
      rw [SiD.cells, List.getElem?_map, List.getElem?_append_right (by rw [hs.1]; omega), hs.1, show 9 + j - 9 = j by omega, hb]; rfl)
    rw [Nat.zero_add] at r1 r2 r3 r4
    have k1 := r1 n (.bool x) (by rw [List.getElem?_map, hx]; rfl)
    have hR1 : R = (x && algB s.has ra && algB s.had rf) := by rw [hR]; simp [List.getD, hra, hrf, hx]
    have a1 := fun W => allAlong_any s.has ra hs.1 la W
    have a2 := fun W => allAlong_any s.had rf hs.2 lf W
    have i1 : (Tryz.prog.info? 49).map (·.size) = some (ra.map Value.bool).length := by rw [List.length_map, la]; exact Tryz.infoSet
    have i2 : (Tryz.prog.info? 49).map (·.size) = some (rf.map Value.bool).length := by rw [List.length_map, lf]; exact Tryz.infoSet
    have i3 : (Tryz.prog.info? 49).map (·.size) = some (s.has.map Value.bool).length := by rw [List.length_map, hs.1]; exact Tryz.infoSet
    have i4 : (Tryz.prog.info? 49).map (·.size) = some (s.had.map Value.bool).length := by rw [List.length_map, hs.2]; exact Tryz.infoSet
    have hn0 : (0 : Int) ≤ (n : Int) := Int.natCast_nonneg _
    have hn9 : (n : Int) < 9 := hp.2
    clear hR hq1 hq2 hra hrf hx hnn hp
    generalize algB s.has ra = y1 at a1 hR1
    generalize algB s.had rf = y2 at a2 hR1
    subst hR1
    have hu49 := Tryz.underlying49
    cases x with
    | false =>
      go_enter Tryz.func52, Tryz.ntmps52
      go_wp2_with (go_at_call 69; refine (hnum _).mono ?_; rintro e _ ⟨rfl, rfl⟩)
      go_ret
      exact ⟨rfl, hB⟩
    | true =>
      cases y1 with
      | true =>
        go_enter Tryz.func52, Tryz.ntmps52
        go_wp2_with (go_at_call 69; refine (hnum _).mono ?_; rintro e _ ⟨rfl, rfl⟩)
        refine wp_region_held_drew (S := (fun w' => w'.rangeAt (w.heap.size + 1) 0 (s.has.map Value.bool) ∧ w'.rangeAt w.heap.size (27 + n * 9) (ra.map Value.bool) ∧ w'.rangeAt (w.heap.size + 1) 9 (s.had.map Value.bool) ∧ w'.rangeAt w.heap.size (108 + n * 9) (rf.map Value.bool))) (by kernel_rfl) ⟨r3, r1, r4, r2⟩ (fun hH => ?_)
        refine wpAnyH_take (i := 0) (v := ?_) rfl (by kernel_rfl) (by kernel_rfl) (by kernel_rfl) (fun _ _ _ h => h) (Or.inl ⟨by rfl, ?_⟩) hH ?_
        rotate_left
        · intro w' hS'; (try dsimp only at hS'); go_simp <;> (try with_reducible rfl)
        simp only [Act.put, List.setIfInBounds_toArray, List.set_cons_zero, List.set_cons_succ, List.getElem_toArray, List.getElem_cons_zero, List.getElem_cons_succ]
        refine wpAnyH_take (i := 1) (v := .agg (s.has.map Value.bool).toArray) rfl (by kernel_rfl) (by kernel_rfl) (by kernel_rfl) (fun _ _ _ h => h) (yieldsIf_load_mid (by rfl) _ _ rfl _ _ rfl _ _ (fun w' h => h.1) hu49 rfl i3) hH ?_
        simp only [Act.put, List.setIfInBounds_toArray, List.set_cons_zero, List.set_cons_succ, List.getElem_toArray, List.getElem_cons_zero, List.getElem_cons_succ]
        refine wpAnyH_take (i := 2) (v := ?_) rfl (by kernel_rfl) (by kernel_rfl) (by kernel_rfl) (fun _ _ _ h => h) (Or.inl ⟨by rfl, ?_⟩) hH ?_
        rotate_left
        · intro w' hS'; (try dsimp only at hS'); go_simp <;> (try with_reducible rfl)
        simp only [Act.put, List.setIfInBounds_toArray, List.set_cons_zero, List.set_cons_succ, List.getElem_toArray, List.getElem_cons_zero, List.getElem_cons_succ]
        refine wpAnyH_take (i := 3) (v := ?_) rfl (by kernel_rfl) (by kernel_rfl) (by kernel_rfl) (fun _ _ _ h => h) (Or.inl ⟨by rfl, ?_⟩) hH ?_
        rotate_left
        · intro w' hS'; (try dsimp only at hS'); go_simp <;> (try with_reducible rfl)
        simp only [Act.put, List.setIfInBounds_toArray, List.set_cons_zero, List.set_cons_succ, List.getElem_toArray, List.getElem_cons_zero, List.getElem_cons_succ]
        refine wpAnyH_take (i := 4) (v := ?_) rfl (by kernel_rfl) (by kernel_rfl) (by kernel_rfl) (fun _ _ _ h => h) (Or.inl ⟨by rfl, ?_⟩) hH ?_
        rotate_left
        · intro w' hS'; (try dsimp only at hS'); go_simp <;> (try with_reducible rfl)
        simp only [Act.put, List.setIfInBounds_toArray, List.set_cons_zero, List.set_cons_succ, List.getElem_toArray, List.getElem_cons_zero, List.getElem_cons_succ]
        refine wpAnyH_take (i := 5) (v := .agg (ra.map Value.bool).toArray) rfl (by kernel_rfl) (by kernel_rfl) (by kernel_rfl) (fun _ _ _ h => h) (yieldsIf_load_mid (by rfl) _ _ rfl _ _ rfl _ _ (fun w' h => h.2.1) hu49 rfl i1) hH ?_
        simp only [Act.put, List.setIfInBounds_toArray, List.set_cons_zero, List.set_cons_succ, List.getElem_toArray, List.getElem_cons_zero, List.getElem_cons_succ]
        refine wpAnyH_ready (rs := [6]) (by kernel_rfl) (by simp) ?_
        refine AllReadyH.cons rfl (fun K hK => ?_) AllReadyH.nil
        go_simp
        refine (a1 _).mono ?_
        rintro e w1 ⟨rfl, hb1⟩
        go_wp2_with fail
        refine hK.out _ _ ⟨range_keep hb1 hH.1, range_keep hb1 hH.2.1, range_keep hb1 hH.2.2.1, range_keep hb1 hH.2.2.2⟩ (fun hH2 => ?_)
        clear hK K
        replace hH := hH2
        (try simp only [Act.put, List.setIfInBounds_toArray, List.set_cons_zero, List.set_cons_succ, List.getElem_toArray, List.getElem_cons_zero, List.getElem_cons_succ])
        refine wpAnyH_take (i := 7) (v := ?_) rfl (by kernel_rfl) (by kernel_rfl) (by kernel_rfl) (fun _ _ _ h => h) (Or.inl ⟨by rfl, ?_⟩) hH ?_
        rotate_left
        · intro w' hS'; (try dsimp only at hS'); go_simp <;> (try with_reducible rfl)
        simp only [Act.put, List.setIfInBounds_toArray, List.set_cons_zero, List.set_cons_succ, List.getElem_toArray, List.getElem_cons_zero, List.getElem_cons_succ]
        refine wpAnyH_take (i := 8) (v := ?_) rfl (by kernel_rfl) (by kernel_rfl) (by kernel_rfl) (fun _ _ _ h => h) (Or.inl ⟨by rfl, ?_⟩) hH ?_
        rotate_left
        · intro w' hS'; (try dsimp only at hS'); go_simp <;> (try with_reducible rfl)
        simp only [Act.put, List.setIfInBounds_toArray, List.set_cons_zero, List.set_cons_succ, List.getElem_toArray, List.getElem_cons_zero, List.getElem_cons_succ]
        refine wpAnyH_take (i := 9) (v := .agg (s.had.map Value.bool).toArray) rfl (by kernel_rfl) (by kernel_rfl) (by kernel_rfl) (fun _ _ _ h => h) (yieldsIf_load_mid (by rfl) _ _ rfl _ _ rfl _ _ (fun w' h => h.2.2.1) hu49 rfl i4) hH ?_
        simp only [Act.put, List.setIfInBounds_toArray, List.set_cons_zero, List.set_cons_succ, List.getElem_toArray, List.getElem_cons_zero, List.getElem_cons_succ]
        refine wpAnyH_take (i := 10) (v := ?_) rfl (by kernel_rfl) (by kernel_rfl) (by kernel_rfl) (fun _ _ _ h => h) (Or.inl ⟨by rfl, ?_⟩) hH ?_
        rotate_left
        · intro w' hS'; (try dsimp only at hS'); go_simp <;> (try with_reducible rfl)
        simp only [Act.put, List.setIfInBounds_toArray, List.set_cons_zero, List.set_cons_succ, List.getElem_toArray, List.getElem_cons_zero, List.getElem_cons_succ]
        refine wpAnyH_take (i := 11) (v := ?_) rfl (by kernel_rfl) (by kernel_rfl) (by kernel_rfl) (fun _ _ _ h => h) (Or.inl ⟨by rfl, ?_⟩) hH ?_
        rotate_left
        · intro w' hS'; (try dsimp only at hS'); go_simp <;> (try with_reducible rfl)
        simp only [Act.put, List.setIfInBounds_toArray, List.set_cons_zero, List.set_cons_succ, List.getElem_toArray, List.getElem_cons_zero, List.getElem_cons_succ]
        refine wpAnyH_take (i := 12) (v := ?_) rfl (by kernel_rfl) (by kernel_rfl) (by kernel_rfl) (fun _ _ _ h => h) (Or.inl ⟨by rfl, ?_⟩) hH ?_
        rotate_left
        · intro w' hS'; (try dsimp only at hS'); go_simp <;> (try with_reducible rfl)
        simp only [Act.put, List.setIfInBounds_toArray, List.set_cons_zero, List.set_cons_succ, List.getElem_toArray, List.getElem_cons_zero, List.getElem_cons_succ]
        refine wpAnyH_take (i := 13) (v := .agg (rf.map Value.bool).toArray) rfl (by kernel_rfl) (by kernel_rfl) (by kernel_rfl) (fun _ _ _ h => h) (yieldsIf_load_mid (by rfl) _ _ rfl _ _ rfl _ _ (fun w' h => h.2.2.2) hu49 rfl i2) hH ?_
        simp only [Act.put, List.setIfInBounds_toArray, List.set_cons_zero, List.set_cons_succ, List.getElem_toArray, List.getElem_cons_zero, List.getElem_cons_succ]
        refine wpAnyH_ready (rs := [14]) (by kernel_rfl) (by simp) ?_
        refine AllReadyH.cons rfl (fun K hK => ?_) AllReadyH.nil
        go_simp
        refine (a2 _).mono ?_
        rintro e w2 ⟨rfl, hb2⟩
        go_wp2_with fail
        refine hK.out _ _ ⟨range_keep hb2 hH.1, range_keep hb2 hH.2.1, range_keep hb2 hH.2.2.1, range_keep hb2 hH.2.2.2⟩ (fun hH2 => ?_)
        clear hK K
        replace hH := hH2
        (try simp only [Act.put, List.setIfInBounds_toArray, List.set_cons_zero, List.set_cons_succ, List.getElem_toArray, List.getElem_cons_zero, List.getElem_cons_succ])
        refine wpAnyH_take (i := 15) (v := ?_) rfl (by kernel_rfl) (by kernel_rfl) (by kernel_rfl) (fun _ _ _ h => h) (Or.inl ⟨by rfl, ?_⟩) hH ?_
        rotate_left
        · intro w' hS'; (try dsimp only at hS'); go_simp <;> (try with_reducible rfl)
        simp only [Act.put, List.setIfInBounds_toArray, List.set_cons_zero, List.set_cons_succ, List.getElem_toArray, List.getElem_cons_zero, List.getElem_cons_succ]
        refine wpAnyH_take (i := 16) (v := ?_) rfl (by kernel_rfl) (by kernel_rfl) (by kernel_rfl) (fun _ _ _ h => h) (Or.inl ⟨by rfl, ?_⟩) hH ?_
        rotate_left
        · intro w' hS'; (try dsimp only at hS'); go_simp <;> (try with_reducible rfl)
        simp only [Act.put, List.setIfInBounds_toArray, List.set_cons_zero, List.set_cons_succ, List.getElem_toArray, List.getElem_cons_zero, List.getElem_cons_succ]
        refine wpAnyH_done (by kernel_rfl) ?_ _
        go_wp2_with fail
        go_ret
        exact ⟨ret_bool (by simp), (hB.drew.trans (hb1.mono (by simpa using hB.size))).trans (hb2.mono (Nat.le_trans (by simpa using hB.size) hb1.size))⟩
      | false =>
        go_enter Tryz.func52, Tryz.ntmps52
        go_wp2_with (go_at_call 69; refine (hnum _).mono ?_; rintro e _ ⟨rfl, rfl⟩)
        refine wp_region_held_drew (S := (fun w' => w'.rangeAt (w.heap.size + 1) 0 (s.has.map Value.bool) ∧ w'.rangeAt w.heap.size (27 + n * 9) (ra.map Value.bool) ∧ w'.rangeAt (w.heap.size + 1) 9 (s.had.map Value.bool) ∧ w'.rangeAt w.heap.size (108 + n * 9) (rf.map Value.bool))) (by kernel_rfl) ⟨r3, r1, r4, r2⟩ (fun hH => ?_)
        refine wpAnyH_take (i := 0) (v := ?_) rfl (by kernel_rfl) (by kernel_rfl) (by kernel_rfl) (fun _ _ _ h => h) (Or.inl ⟨by rfl, ?_⟩) hH ?_
        rotate_left
        · intro w' hS'; (try dsimp only at hS'); go_simp <;> (try with_reducible rfl)
        simp only [Act.put, List.setIfInBounds_toArray, List.set_cons_zero, List.set_cons_succ, List.getElem_toArray, List.getElem_cons_zero, List.getElem_cons_succ]
        refine wpAnyH_take (i := 1) (v := .agg (s.has.map Value.bool).toArray) rfl (by kernel_rfl) (by kernel_rfl) (by kernel_rfl) (fun _ _ _ h => h) (yieldsIf_load_mid (by rfl) _ _ rfl _ _ rfl _ _ (fun w' h => h.1) hu49 rfl i3) hH ?_
        simp only [Act.put, List.setIfInBounds_toArray, List.set_cons_zero, List.set_cons_succ, List.getElem_toArray, List.getElem_cons_zero, List.getElem_cons_succ]
        refine wpAnyH_take (i := 2) (v := ?_) rfl (by kernel_rfl) (by kernel_rfl) (by kernel_rfl) (fun _ _ _ h => h) (Or.inl ⟨by rfl, ?_⟩) hH ?_
        rotate_left
        · intro w' hS'; (try dsimp only at hS'); go_simp <;> (try with_reducible rfl)
        simp only [Act.put, List.setIfInBounds_toArray, List.set_cons_zero, List.set_cons_succ, List.getElem_toArray, List.getElem_cons_zero, List.getElem_cons_succ]
        refine wpAnyH_take (i := 3) (v := ?_) rfl (by kernel_rfl) (by kernel_rfl) (by kernel_rfl) (fun _ _ _ h => h) (Or.inl ⟨by rfl, ?_⟩) hH ?_
        rotate_left
        · intro w' hS'; (try dsimp only at hS'); go_simp <;> (try with_reducible rfl)
        simp only [Act.put, List.setIfInBounds_toArray, List.set_cons_zero, List.set_cons_succ, List.getElem_toArray, List.getElem_cons_zero, List.getElem_cons_succ]
        refine wpAnyH_take (i := 4) (v := ?_) rfl (by kernel_rfl) (by kernel_rfl) (by kernel_rfl) (fun _ _ _ h => h) (Or.inl ⟨by rfl, ?_⟩) hH ?_
        rotate_left
        · intro w' hS'; (try dsimp only at hS'); go_simp <;> (try with_reducible rfl)
        simp only [Act.put, List.setIfInBounds_toArray, List.set_cons_zero, List.set_cons_succ, List.getElem_toArray, List.getElem_cons_zero, List.getElem_cons_succ]
        refine wpAnyH_take (i := 5) (v := .agg (ra.map Value.bool).toArray) rfl (by kernel_rfl) (by kernel_rfl) (by kernel_rfl) (fun _ _ _ h => h) (yieldsIf_load_mid (by rfl) _ _ rfl _ _ rfl _ _ (fun w' h => h.2.1) hu49 rfl i1) hH ?_
        simp only [Act.put, List.setIfInBounds_toArray, List.set_cons_zero, List.set_cons_succ, List.getElem_toArray, List.getElem_cons_zero, List.getElem_cons_succ]
        refine wpAnyH_ready (rs := [6]) (by kernel_rfl) (by simp) ?_
        refine AllReadyH.cons rfl (fun K hK => ?_) AllReadyH.nil
        go_simp
        refine (a1 _).mono ?_
        rintro e w1 ⟨rfl, hb1⟩
        go_wp2_with fail
        refine hK.out _ _ ⟨range_keep hb1 hH.1, range_keep hb1 hH.2.1, range_keep hb1 hH.2.2.1, range_keep hb1 hH.2.2.2⟩ (fun hH2 => ?_)
        clear hK K
        replace hH := hH2
        (try simp only [Act.put, List.setIfInBounds_toArray, List.set_cons_zero, List.set_cons_succ, List.getElem_toArray, List.getElem_cons_zero, List.getElem_cons_succ])
        refine wpAnyH_take (i := 7) (v := ?_) rfl (by kernel_rfl) (by kernel_rfl) (by kernel_rfl) (fun _ _ _ h => h) (Or.inl ⟨by rfl, ?_⟩) hH ?_
        rotate_left
        · intro w' hS'; (try dsimp only at hS'); go_simp <;> (try with_reducible rfl)
        simp only [Act.put, List.setIfInBounds_toArray, List.set_cons_zero, List.set_cons_succ, List.getElem_toArray, List.getElem_cons_zero, List.getElem_cons_succ]
        refine wpAnyH_take (i := 8) (v := undef) rfl (by kernel_rfl) (by kernel_rfl) (by kernel_rfl) (fun _ _ _ h => h) (Or.inr ⟨by rfl, rfl⟩) hH ?_
        simp only [Act.put, List.setIfInBounds_toArray, List.set_cons_zero, List.set_cons_succ, List.getElem_toArray, List.getElem_cons_zero, List.getElem_cons_succ]
        refine wpAnyH_take (i := 9) (v := undef) rfl (by kernel_rfl) (by kernel_rfl) (by kernel_rfl) (fun _ _ _ h => h) (Or.inr ⟨by rfl, rfl⟩) hH ?_
        simp only [Act.put, List.setIfInBounds_toArray, List.set_cons_zero, List.set_cons_succ, List.getElem_toArray, List.getElem_cons_zero, List.getElem_cons_succ]
        refine wpAnyH_take (i := 10) (v := undef) rfl (by kernel_rfl) (by kernel_rfl) (by kernel_rfl) (fun _ _ _ h => h) (Or.inr ⟨by rfl, rfl⟩) hH ?_
        simp only [Act.put, List.setIfInBounds_toArray, List.set_cons_zero, List.set_cons_succ, List.getElem_toArray, List.getElem_cons_zero, List.getElem_cons_succ]
        refine wpAnyH_take (i := 11) (v := undef) rfl (by kernel_rfl) (by kernel_rfl) (by kernel_rfl) (fun _ _ _ h => h) (Or.inr ⟨by rfl, rfl⟩) hH ?_
        simp only [Act.put, List.setIfInBounds_toArray, List.set_cons_zero, List.set_cons_succ, List.getElem_toArray, List.getElem_cons_zero, List.getElem_cons_succ]
        refine wpAnyH_take (i := 12) (v := undef) rfl (by kernel_rfl) (by kernel_rfl) (by kernel_rfl) (fun _ _ _ h => h) (Or.inr ⟨by rfl, rfl⟩) hH ?_
        simp only [Act.put, List.setIfInBounds_toArray, List.set_cons_zero, List.set_cons_succ, List.getElem_toArray, List.getElem_cons_zero, List.getElem_cons_succ]
        refine wpAnyH_take (i := 13) (v := undef) rfl (by kernel_rfl) (by kernel_rfl) (by kernel_rfl) (fun _ _ _ h => h) (Or.inr ⟨by rfl, rfl⟩) hH ?_
        simp only [Act.put, List.setIfInBounds_toArray, List.set_cons_zero, List.set_cons_succ, List.getElem_toArray, List.getElem_cons_zero, List.getElem_cons_succ]
        refine wpAnyH_take (i := 14) (v := undef) rfl (by kernel_rfl) (by kernel_rfl) (by kernel_rfl) (fun _ _ _ h => h) (Or.inr ⟨by rfl, rfl⟩) hH ?_
        simp only [Act.put, List.setIfInBounds_toArray, List.set_cons_zero, List.set_cons_succ, List.getElem_toArray, List.getElem_cons_zero, List.getElem_cons_succ]
        refine wpAnyH_take (i := 15) (v := ?_) rfl (by kernel_rfl) (by kernel_rfl) (by kernel_rfl) (fun _ _ _ h => h) (Or.inl ⟨by rfl, ?_⟩) hH ?_
        rotate_left
        · intro w' hS'; (try dsimp only at hS'); go_simp <;> (try with_reducible rfl)
        simp only [Act.put, List.setIfInBounds_toArray, List.set_cons_zero, List.set_cons_succ, List.getElem_toArray, List.getElem_cons_zero, List.getElem_cons_succ]
        refine wpAnyH_take (i := 16) (v := ?_) rfl (by kernel_rfl) (by kernel_rfl) (by kernel_rfl) (fun _ _ _ h => h) (Or.inl ⟨by rfl, ?_⟩) hH ?_
        rotate_left
        · intro w' hS'; (try dsimp only at hS'); go_simp <;> (try with_reducible rfl)
        simp only [Act.put, List.setIfInBounds_toArray, List.set_cons_zero, List.set_cons_succ, List.getElem_toArray, List.getElem_cons_zero, List.getElem_cons_succ]
        refine wpAnyH_done (by kernel_rfl) ?_ _
        go_wp2_with fail
        go_ret
        exact ⟨ret_bool (by simp), hB.drew.trans (hb1.mono (by simpa using hB.size))⟩
  · have hnn : numB p 9 = false := by unfold numB; simp; omega
    rw [hnn] at hnum hR
    have hR1 : R = false := hR
    clear hR hq1 hq2 hp hnn
    subst hR1
    go_enter Tryz.func52, Tryz.ntmps52
    go_wp2_with (go_at_call 69; refine (hnum _).mono ?_; rintro e _ ⟨rfl, rfl⟩)
    go_ret
    exact ⟨rfl, hB⟩
end
end Go.Proofs.YtkkekopomiehlaaGreat
