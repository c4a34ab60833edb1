import Derived.Test.YtkkekopomiehlaaGreatMSf1
import Derived.Lib.SlBuf
import Derived.Test.YtkkekopomiehlaaGreatMLn1
set_option linter.unusedVariables false
set_option linter.unusedSimpArgs false
namespace Go.Proofs.YtkkekopomiehlaaGreat
section
set_option maxRecDepth 4000
open Go.RowKit
open Go.Lib (below_setCells)

def plI (s r : Int) : Int := if numB s 3 && numB r 3 then s * 3 + r else -1
set_option maxHeartbeats 1000000 in
theorem flPlace_any (s r : Int) (w : World) : Calls Tryz.prog 45 #[.int .i64 s, .int .i64 r] w fun e W => e = .returned (.int .i64 (plI s r)) ∧ Below w.heap.size w W := by
  have n1 := fun w => isNumber_any s 3 w
  have n2 := fun w => isNumber_any r 3 w
  obtain ⟨R, hR⟩ : ∃ R, R = plI s r := ⟨_, rfl⟩
  rw [← hR]
  unfold plI at hR
  by_cases h1 : 0 ≤ s ∧ s < 3
  · have e1 : numB s 3 = true := by unfold numB; simp; omega
    rw [e1] at n1 hR
    by_cases h2 : 0 ≤ r ∧ r < 3
    · have e2 : numB r 3 = true := by unfold numB; simp; omega
      rw [e2] at n2 hR
      obtain ⟨a1, a2⟩ := h1
      obtain ⟨b1, b2⟩ := h2
      have hR1 : R = s * 3 + r := hR
      clear hR e1 e2
      subst hR1
      go_enter Tryz.func45, Tryz.ntmps45
      go_wp2_with (first | (go_at_call 69; have hq := m1; refine (n2 _).mono ?_; rintro e _ ⟨rfl, rfl⟩; have m2 : True := trivial) | (go_at_call 69; refine (n1 _).mono ?_; rintro e _ ⟨rfl, rfl⟩; have m1 : True := trivial))
      go_ret
      exact ⟨by go_num, Below.refl _ _⟩
    · have e2 : numB r 3 = false := by unfold numB; simp; omega
      rw [e2] at n2 hR
      have hR1 : R = -1 := hR
      clear hR h1 h2 e1 e2
      subst hR1
      go_enter Tryz.func45, Tryz.ntmps45
      go_wp2_with (first | (go_at_call 69; have hq := m1; refine (n2 _).mono ?_; rintro e _ ⟨rfl, rfl⟩; have m2 : True := trivial) | (go_at_call 69; refine (n1 _).mono ?_; rintro e _ ⟨rfl, rfl⟩; have m1 : True := trivial))
      go_ret
      exact ⟨rfl, Below.refl _ _⟩
  · have e1 : numB s 3 = false := by unfold numB; simp; omega
    rw [e1] at n1 hR
    have hR1 : R = -1 := hR
    clear hR h1 e1
    subst hR1
    go_enter Tryz.func45, Tryz.ntmps45
    go_wp2_with (go_at_call 69; refine (n1 _).mono ?_; rintro e _ ⟨rfl, rfl⟩)
    go_ret
    exact ⟨rfl, Below.refl _ _⟩
set_option maxHeartbeats 1000000 in
theorem moveTo_any (p : Nat) (hp : p < 9) (w : World) : Calls Tryz.prog 72 #[.int .i64 p] w fun e W => e = .returned (.agg #[.int .i64 ((p / 3 : Nat) : Int), .int .i64 ((p % 3 : Nat) : Int)]) ∧ Below w.heap.size w W := by
  have h1 : (p : Int).tdiv 3 = ((p / 3 : Nat) : Int) := by rw [Int.tdiv_eq_ediv_of_nonneg (by omega)]; omega
  have h2 : (p : Int).tmod 3 = ((p % 3 : Nat) : Int) := by rw [Int.tmod_eq_emod_of_nonneg (by omega)]; omega
  have h3 : (p / 3 : Nat) < 3 := by omega
  have h4 : (p % 3 : Nat) < 3 := by omega
  generalize (p / 3 : Nat) = a at h1 h3
  generalize (p % 3 : Nat) = b at h2 h4
  go_enter Tryz.func72, Tryz.ntmps72
  go_wp2_with fail
  exact bodyPost_ret (v := .agg #[.int .i64 a, .int .i64 b]) (by simp [results, Tryz.results72, go_sem]) rfl ⟨rfl, belS _ _⟩
/-- What is left behind a move. -/
def aftD (s : SiD) (p : Nat) : SiD := ⟨((List.range 9).map fun i => if i / 3 = p / 3 then false else s.has.getD i false).set p true, s.had.set p true⟩
theorem aftD_ok {s : SiD} (h : s.ok) (p : Nat) : (aftD s p).ok := ⟨by simp [aftD], by simp [aftD, h.2]⟩
theorem Tryz.infoSit : (Tryz.prog.info? 106).map (·.size) = some 18 := by kernel_rfl
theorem SiD.ok.len {s : SiD} (h : s.ok) : s.cells.length = 18 := by simp [SiD.cells, h.1, h.2]
theorem there_row {w : World} {b : Nat} {t : TypeId} {cs : Array Value} (h : w.heap[b]? = some (.cells cs t (0, 0))) : w.there b 0 cs.size := fun j hj => by
  rw [Nat.zero_add]
  refine ⟨?_, ?_⟩
  · simp only [World.cell?, h]; simp [hj]
  · simp [World.frozen?, h]
theorem bits_one (l : List Bool) : ((l.map Value.bool).toArray).all (·.oneCell') = true := by
  simp only [List.all_toArray, List.all_map]
  rw [List.all_eq_true]
  intro b _
  rfl
set_option maxHeartbeats 2000000 in
theorem after_out (s : SiD) (p : Int) (hp : ¬ (0 ≤ p ∧ p < 9)) (hs : s.ok) (w : World) : Calls Tryz.prog 50 #[.agg s.cells.toArray, .int .i64 p] w fun e W => e = .returned (.agg s.cells.toArray) ∧ Below w.heap.size w W := by
  have hnum := fun w => isNumber_any p 9 w
  rw [show numB p 9 = false by unfold numB; simp; omega] at hnum
  have hr := range_keep (belS _ (.cells #[.bool false, .bool false, .bool false, .bool false, .bool false, .bool false, .bool false, .bool false, .bool false, .bool false, .bool false, .bool false, .bool false, .bool false, .bool false, .bool false, .bool false, .bool false] 106)) (range_row (heap_box w (.cells s.cells.toArray 106)))
  have ht := there_row (heap_box (w.alloc (.cells s.cells.toArray 106)) (.cells #[.bool false, .bool false, .bool false, .bool false, .bool false, .bool false, .bool false, .bool false, .bool false, .bool false, .bool false, .bool false, .bool false, .bool false, .bool false, .bool false, .bool false, .bool false] 106))
  rw [show (w.alloc (.cells s.cells.toArray 106)).heap.size = w.heap.size + 1 by simp] at ht
  have hB := (belS w (.cells s.cells.toArray 106)).alloc (by simp) (.cells #[.bool false, .bool false, .bool false, .bool false, .bool false, .bool false, .bool false, .bool false, .bool false, .bool false, .bool false, .bool false, .bool false, .bool false, .bool false, .bool false, .bool false, .bool false] 106)
  have hl := hs.len
  have hi : (Tryz.prog.info? 106).map (·.size) = some s.cells.length := by rw [hl]; exact Tryz.infoSit
  have hi2 : (Tryz.prog.info? 106).map (·.size) = some s.cells.toArray.size := by rw [List.size_toArray]; exact hi
  have ht2 : ((w.alloc (.cells s.cells.toArray 106)).alloc (.cells #[.bool false, .bool false, .bool false, .bool false, .bool false, .bool false, .bool false, .bool false, .bool false, .bool false, .bool false, .bool false, .bool false, .bool false, .bool false, .bool false, .bool false, .bool false] 106)).there (w.heap.size + 1) 0 s.cells.toArray.size := by rw [show s.cells.toArray.size = 18 by simpa using hl]; exact ht
  have h1 : s.cells.toArray.all (·.oneCell') = true := bits_one _
  clear ht hl
  go_enter Tryz.func50, Tryz.ntmps50
  go_wp2_with (first
    | (refine wpList_load_mid (w := (w.alloc (.cells s.cells.toArray 106)).alloc (.cells #[.bool false, .bool false, .bool false, .bool false, .bool false, .bool false, .bool false, .bool false, .bool false, .bool false, .bool false, .bool false, .bool false, .bool false, .bool false, .bool false, .bool false, .bool false] 106)) rfl 106 _ rfl _ _ rfl s.cells _ hr Tryz.underlying106 rfl hi ?_)
    | (refine wpList_store_mid (w := (w.alloc (.cells s.cells.toArray 106)).alloc (.cells #[.bool false, .bool false, .bool false, .bool false, .bool false, .bool false, .bool false, .bool false, .bool false, .bool false, .bool false, .bool false, .bool false, .bool false, .bool false, .bool false, .bool false, .bool false] 106)) rfl 106 _ _ rfl (w.heap.size + 1) 0 s.cells.toArray rfl rfl ht2 hi2 h1 ?_)
    | (go_at_call 69; refine (hnum _).mono ?_; rintro e _ ⟨rfl, rfl⟩))
  have hrs := World.rangeAt_setCells_same ((w.alloc (.cells s.cells.toArray 106)).alloc (.cells #[.bool false, .bool false, .bool false, .bool false, .bool false, .bool false, .bool false, .bool false, .bool false, .bool false, .bool false, .bool false, .bool false, .bool false, .bool false, .bool false, .bool false, .bool false] 106)) (w.heap.size + 1) 0 s.cells (by simpa using ht2)
  refine bodyPost_ret (v := .agg s.cells.toArray) ?_ rfl ⟨rfl, below_setCells (w.heap.size + 1) (Nat.le_succ _) _ _ hB⟩
  have hlv := run_loadVar_mid (P := Tryz.prog) _ (w.heap.size + 1) 0 106 s.cells _ hrs Tryz.underlying106 rfl hi
  simp [results, Tryz.results50, asAddr, Act.put, hlv]
end
section
set_option maxRecDepth 4000
open Go.RowKit
open Go.Lib (below_setCells)

def curB (s : SiD) (p i : Nat) : List Bool := (List.range 9).map fun k => if k < i ∧ k / 3 = p / 3 then false else s.has.getD k false
theorem curB_len (s : SiD) (p i : Nat) : (curB s p i).length = 9 := by simp [curB]
theorem curB_get (s : SiD) (p i k : Nat) (hk : k < 9) : (curB s p i)[k]? = some (if k < i ∧ k / 3 = p / 3 then false else s.has.getD k false) := by
  rw [curB, List.getElem?_map, List.getElem?_range hk]; rfl
theorem curB_zero {s : SiD} (h : s.ok) (p : Nat) : curB s p 0 = s.has := by
  apply List.ext_getElem?
  intro k
  by_cases hk : k < 9
  · rw [curB_get s p 0 k hk, if_neg (by omega)]
    simp [List.getD, List.getElem?_eq_getElem (show k < s.has.length by rw [h.1]; exact hk)]
  · rw [List.getElem?_eq_none (by rw [curB_len]; omega), List.getElem?_eq_none (by rw [h.1]; omega)]
theorem curB_yes {s : SiD} {p i : Nat} (hi : i < 9) (he : i / 3 = p / 3) : curB s p (i + 1) = (curB s p i).set i false := by
  apply List.ext_getElem?
  intro k
  by_cases hk : k < 9
  · rw [curB_get s p (i + 1) k hk, List.getElem?_set]
    by_cases hki : i = k
    · subst hki
      rw [if_pos (show i < i + 1 ∧ i / 3 = p / 3 from ⟨by omega, he⟩), if_pos rfl, if_pos (by rw [curB_len]; exact hi)]
    · rw [if_neg hki, curB_get s p i k hk]
      by_cases hc : k < i ∧ k / 3 = p / 3
      · rw [if_pos hc, if_pos ⟨by omega, hc.2⟩]
      · rw [if_neg hc, if_neg (by omega)]
  · rw [List.getElem?_eq_none (by rw [curB_len]; omega), List.getElem?_eq_none (by rw [List.length_set, curB_len]; omega)]
theorem curB_no {s : SiD} {p i : Nat} (hi : i < 9) (he : i / 3 ≠ p / 3) : curB s p (i + 1) = curB s p i := by
  apply List.ext_getElem?
  intro k
  by_cases hk : k < 9
  · rw [curB_get s p (i + 1) k hk, curB_get s p i k hk]
    by_cases hki : i = k
    · subst hki; rw [if_neg (by omega), if_neg (by omega)]
    · by_cases hc : k < i ∧ k / 3 = p / 3
      · rw [if_pos hc, if_pos ⟨by omega, hc.2⟩]
      · rw [if_neg hc, if_neg (by omega)]
  · rw [List.getElem?_eq_none (by rw [curB_len]; omega), List.getElem?_eq_none (by rw [curB_len]; omega)]
theorem curB_all (s : SiD) (p : Nat) : curB s p 9 = (List.range 9).map fun i => if i / 3 = p / 3 then false else s.has.getD i false := by
  unfold curB
  refine List.map_congr_left fun k hk => ?_
  have := List.mem_range.1 hk
  by_cases h : k / 3 = p / 3
  · rw [if_pos ⟨this, h⟩, if_pos h]
  · rw [if_neg (by omega), if_neg h]
theorem set_has {a b : List Bool} {i : Nat} {x : Bool} (h : i < a.length) : ((a ++ b).map Value.bool).set i (.bool x) = ((a.set i x) ++ b).map Value.bool := by
  rw [← List.map_set, List.set_append_left _ _ h]
theorem set_had {a b : List Bool} {i : Nat} {x : Bool} (h : a.length = 9) : ((a ++ b).map Value.bool).set (9 + i) (.bool x) = (a ++ b.set i x).map Value.bool := by
  rw [← List.map_set, List.set_append_right _ _ (by omega), h, show 9 + i - 9 = i by omega]
theorem field_mv (x y : Int) (W : World) : (Instr.field 46 (.agg #[.int .i64 x, .int .i64 y]) 0).run Tryz.prog W = .ok (.int .i64 x) W := by kernel_rfl
set_option maxHeartbeats 4000000 in
theorem after_in (s : SiD) (p : Nat) (hp : p < 9) (hs : s.ok) (w : World) : Calls Tryz.prog 50 #[.agg s.cells.toArray, .int .i64 p] w fun e W => e = .returned (.agg (aftD s p).cells.toArray) ∧ Below w.heap.size w W := by
  have hnum := fun w => isNumber_any p 9 w
  rw [show numB (p : Int) 9 = true by unfold numB; simp; omega] at hnum
  have hmv := fun w => moveTo_any p hp w
  have hrow0 : RowIs ((w.alloc (.cells s.cells.toArray 106)).alloc (.cells #[.bool false, .bool false, .bool false, .bool false, .bool false, .bool false, .bool false, .bool false, .bool false, .bool false, .bool false, .bool false, .bool false, .bool false, .bool false, .bool false, .bool false, .bool false] 106)) w.heap.size 106 ((curB s p 0 ++ s.had).map Value.bool) := by
    rw [curB_zero hs]
    exact RowIs.keep (w := w.alloc (.cells s.cells.toArray 106)) (heap_box w _) (belS _ _)
  have hres0 : RowIs ((w.alloc (.cells s.cells.toArray 106)).alloc (.cells #[.bool false, .bool false, .bool false, .bool false, .bool false, .bool false, .bool false, .bool false, .bool false, .bool false, .bool false, .bool false, .bool false, .bool false, .bool false, .bool false, .bool false, .bool false] 106)) (w.heap.size + 1) 106 ([.bool false, .bool false, .bool false, .bool false, .bool false, .bool false, .bool false, .bool false, .bool false, .bool false, .bool false, .bool false, .bool false, .bool false, .bool false, .bool false, .bool false, .bool false]) := by
    have := heap_box (w.alloc (.cells s.cells.toArray 106)) (.cells #[.bool false, .bool false, .bool false, .bool false, .bool false, .bool false, .bool false, .bool false, .bool false, .bool false, .bool false, .bool false, .bool false, .bool false, .bool false, .bool false, .bool false, .bool false] 106)
    rw [show (w.alloc (.cells s.cells.toArray 106)).heap.size = w.heap.size + 1 by simp] at this
    exact this
  have hB0 := (belS w (.cells s.cells.toArray 106)).alloc (by simp) (.cells #[.bool false, .bool false, .bool false, .bool false, .bool false, .bool false, .bool false, .bool false, .bool false, .bool false, .bool false, .bool false, .bool false, .bool false, .bool false, .bool false, .bool false, .bool false] 106)
  have HS := (hidMk hs)
  have hn0 : (0 : Int) ≤ (p : Int) := Int.natCast_nonneg _
  have hn9 : (p : Int) < 9 := by omega
  have hq3 : p / 3 < 3 := by omega
  obtain ⟨q, hq⟩ : ∃ q, q = p / 3 := ⟨_, rfl⟩
  rw [← hq] at hmv
  have HQ := (hidMk hq)
  clear hs hq
  have hfm := field_mv
  generalize p % 3 = r0 at hmv
  go_enter Tryz.func50, Tryz.ntmps50
  go_wp2_with (first
    | (go_at_call 69; refine (hnum _).mono ?_; rintro e _ ⟨rfl, rfl⟩)
    | (go_at_call 72; refine (hmv _).mono ?_; rintro e w1 ⟨rfl, hb1⟩))
  go_loopw [6] (fun vi wr => ∃ i : Nat, i ≤ 9 ∧ vi = .int .i64 i ∧ RowIs wr w.heap.size 106 ((curB s p i ++ s.had).map Value.bool) ∧ RowIs wr (w.heap.size + 1) 106 ([.bool false, .bool false, .bool false, .bool false, .bool false, .bool false, .bool false, .bool false, .bool false, .bool false, .bool false, .bool false, .bool false, .bool false, .bool false, .bool false, .bool false, .bool false]) ∧ Below w.heap.size w wr) (fun i _ => 9 - (intOf i).toNat)
  case atStart => exact ⟨0, by omega, rfl, hrow0.keep hb1, hres0.keep hb1, thn3 hB0 hb1⟩
  case round =>
    obtain ⟨i, hi, rfl, hrow, hres, hb⟩ := hrel
    rename World => w5
    have hgl := hrow.lt
    by_cases hlt : i < 9
    · have hmi := fun w => moveTo_any i hlt w
      have hx0 : (0 : Int) ≤ (i : Int) := Int.natCast_nonneg _
      have hx9 : (i : Int) < 9 := by omega
      by_cases he : i / 3 = p / 3
      · have he' : (((i / 3 : Nat) : Int) == (q : Int)) = true := by rw [HQ.out]; simp; omega
        have hc := curB_yes (s := s) hlt he
        generalize i / 3 = a at hmi he'
        generalize i % 3 = b at hmi
        have hcell : w5.cell? ⟨w.heap.size, i, none⟩ = some (.bool ((curB s p i)[i]'(by rw [curB_len]; exact hlt))) := hrow.cell (by rw [List.getElem?_map, List.getElem?_append_left (by rw [curB_len]; exact hlt), List.getElem?_eq_getElem (by rw [curB_len]; exact hlt)]; rfl)
        have hfz := hrow.frozen i
        have HRow := (hidMk hrow)
        have HRes := (hidMk hres)
        have HC := (hidMk hc)
        clear hrow hres hc he hrow0 hres0
        go_wp2_with (go_at_call 72; refine (hmi _).mono ?_; rintro e w2 ⟨rfl, hb2⟩; have k1 := cell_keep hb2 hcell; have k2 : w2.frozen? ⟨w.heap.size, i, none⟩ = false := (hb2.frozen (p := ⟨w.heap.size, i, none⟩) (by simpa using hgl)).trans hfz)
        go_roundw
        case rel =>
          refine ⟨i + 1, by omega, by go_num, ?_, (HRes.out.keep hb2).setOther (by show w.heap.size ≠ w.heap.size + 1; omega) _, (thn3 hb hb2).setCell (Nat.le_refl _) _⟩
          have := (HRow.out.keep hb2).set i (.bool false)
          rw [set_has (by rw [curB_len]; exact hlt), ← HC.out] at this
          exact this
        case measure => simp [intOf]; omega
      · have he' : (((i / 3 : Nat) : Int) == (q : Int)) = false := by rw [HQ.out]; simp; omega
        have hc := curB_no (s := s) hlt he
        generalize i / 3 = a at hmi he'
        generalize i % 3 = b at hmi
        have HRow := (hidMk hrow)
        have HRes := (hidMk hres)
        have HC := (hidMk hc)
        clear hrow hres hc he hrow0 hres0
        go_wp2_with (go_at_call 72; refine (hmi _).mono ?_; rintro e w2 ⟨rfl, hb2⟩)
        go_roundw
        case rel => exact ⟨i + 1, by omega, by go_num, by rw [HC.out]; exact HRow.out.keep hb2, HRes.out.keep hb2, thn3 hb hb2⟩
        case measure => simp [intOf]; omega
    · have hie : i = 9 := by omega
      subst hie
      have hs := HS.out
      have hcA : w5.cell? ⟨w.heap.size, p, none⟩ = some (.bool ((curB s p 9)[p]'(by rw [curB_len]; exact hp))) := hrow.cell (by rw [List.getElem?_map, List.getElem?_append_left (by rw [curB_len]; exact hp), List.getElem?_eq_getElem (by rw [curB_len]; exact hp)]; rfl)
      have hcB : w5.cell? ⟨w.heap.size, 9 + p, none⟩ = some (.bool (s.had[p]'(by rw [hs.2]; exact hp))) := hrow.cell (by rw [List.getElem?_map, List.getElem?_append_right (by rw [curB_len]; omega), curB_len, show 9 + p - 9 = p by omega, List.getElem?_eq_getElem (by rw [hs.2]; exact hp)]; rfl)
      have hfA := hrow.frozen p
      have hfB := hrow.frozen (9 + p)
      have row6 : RowIs ((w5.setCell ⟨w.heap.size, p, none⟩ (.bool true)).setCell ⟨w.heap.size, 9 + p, none⟩ (.bool true)) w.heap.size 106 (aftD s p).cells := by
        have h1 := (hrow.set p (.bool true)).set (9 + p) (.bool true)
        rw [set_has (by rw [curB_len]; exact hp), set_had (by rw [List.length_set, curB_len])] at h1
        rw [curB_all] at h1
        exact h1
      have res6 : RowIs ((w5.setCell ⟨w.heap.size, p, none⟩ (.bool true)).setCell ⟨w.heap.size, 9 + p, none⟩ (.bool true)) (w.heap.size + 1) 106 ([.bool false, .bool false, .bool false, .bool false, .bool false, .bool false, .bool false, .bool false, .bool false, .bool false, .bool false, .bool false, .bool false, .bool false, .bool false, .bool false, .bool false, .bool false]) := (hres.setOther (by show w.heap.size ≠ w.heap.size + 1; omega) _).setOther (by show w.heap.size ≠ w.heap.size + 1; omega) _
      have hB6 : Below w.heap.size w ((w5.setCell ⟨w.heap.size, p, none⟩ (.bool true)).setCell ⟨w.heap.size, 9 + p, none⟩ (.bool true)) := (hb.setCell (Nat.le_refl _) _).setCell (Nat.le_refl _) _
      have hal := (aftD_ok hs p).len
      have hr6 := range_row row6
      have ht6 : ((w5.setCell ⟨w.heap.size, p, none⟩ (.bool true)).setCell ⟨w.heap.size, 9 + p, none⟩ (.bool true)).there (w.heap.size + 1) 0 (aftD s p).cells.toArray.size := by rw [show (aftD s p).cells.toArray.size = 18 by simpa using hal]; exact there_row res6
      have hi6 : (Tryz.prog.info? 106).map (·.size) = some (aftD s p).cells.length := by rw [hal]; exact Tryz.infoSit
      have hi7 : (Tryz.prog.info? 106).map (·.size) = some (aftD s p).cells.toArray.size := by rw [List.size_toArray]; exact hi6
      have h16 : (aftD s p).cells.toArray.all (·.oneCell') = true := bits_one _
      generalize (curB s p 9)[p]'(by rw [curB_len]; exact hp) = u1 at hcA
      generalize s.had[p]'(by rw [hs.2]; exact hp) = u2 at hcB
      clear hrow hres row6 res6 hal hrow0 hres0 hs
      obtain ⟨C, hCe⟩ : ∃ C, C = (aftD s p).cells := ⟨_, rfl⟩
      rw [← hCe] at hr6 ht6 hi6 hi7 h16
      have HCe := (hidMk hCe)
      clear hCe
      go_wp2_with (first
        | (refine wpList_load_mid (w := (w5.setCell ⟨w.heap.size, p, none⟩ (.bool true)).setCell ⟨w.heap.size, 9 + p, none⟩ (.bool true)) rfl 106 _ rfl _ _ rfl C _ hr6 Tryz.underlying106 rfl hi6 ?_)
        | (refine wpList_store_mid (w := (w5.setCell ⟨w.heap.size, p, none⟩ (.bool true)).setCell ⟨w.heap.size, 9 + p, none⟩ (.bool true)) rfl 106 _ _ rfl (w.heap.size + 1) 0 C.toArray rfl rfl ht6 hi7 h16 ?_))
      have hrs := World.rangeAt_setCells_same ((w5.setCell ⟨w.heap.size, p, none⟩ (.bool true)).setCell ⟨w.heap.size, 9 + p, none⟩ (.bool true)) (w.heap.size + 1) 0 C (by simpa using ht6)
      refine bodyPost_ret (v := .agg C.toArray) ?_ rfl ⟨by rw [HCe.out], below_setCells (w.heap.size + 1) (Nat.le_succ _) _ _ hB6⟩
      have hlv := run_loadVar_mid (P := Tryz.prog) _ (w.heap.size + 1) 0 106 C _ hrs Tryz.underlying106 rfl hi6
      simp [results, Tryz.results50, asAddr, Act.put, hlv]
end
section
set_option maxRecDepth 4000
open Go.RowKit
open Go.Lib (below_setCells)

def begD (c : ChD) : SiD := ⟨c.fst, c.fst⟩
theorem begD_ok {c : ChD} (h : c.ok) : (begD c).ok := ⟨h.fst, h.fst⟩
theorem list9 {l : List Bool} (h : l.length = 9) : ∃ b0 b1 b2 b3 b4 b5 b6 b7 b8, l = [b0, b1, b2, b3, b4, b5, b6, b7, b8] := by
  match l, h with
  | [b0, b1, b2, b3, b4, b5, b6, b7, b8], _ => exact ⟨b0, b1, b2, b3, b4, b5, b6, b7, b8, rfl⟩
set_option maxHeartbeats 2000000 in
theorem begin_any (c : ChD) (hc : c.ok) (w : World) : Calls Tryz.prog 48 #[.agg c.cells.toArray] w fun e W => e = .returned (.agg (begD c).cells.toArray) ∧ Below w.heap.size w W := by
  have hq1 := range_keep (belS _ (.cells #[.bool false, .bool false, .bool false, .bool false, .bool false, .bool false, .bool false, .bool false, .bool false, .bool false, .bool false, .bool false, .bool false, .bool false, .bool false, .bool false, .bool false, .bool false] 106)) (range_row (heap_box w (.cells c.cells.toArray 52)))
  have r1 := range_part (k := 9) (ds := c.fst.map Value.bool) hq1 (fun j v hj => by
      rw [List.getElem?_map] at hj
      obtain ⟨b, hb, rfl⟩ := Option.map_eq_some_iff.1 hj
      rw [ChD.cells, List.getElem?_map, hc.get_fst hb]; rfl)
  rw [Nat.zero_add] at r1
  have i1 : (Tryz.prog.info? 49).map (·.size) = some (c.fst.map Value.bool).length := by rw [List.length_map, hc.fst]; exact Tryz.infoSet
  clear hq1
  obtain ⟨b0, b1, b2, b3, b4, b5, b6, b7, b8, hbs⟩ := list9 hc.fst
  rw [hbs] at r1 i1
  have hcl : (begD c).cells = [.bool b0, .bool b1, .bool b2, .bool b3, .bool b4, .bool b5, .bool b6, .bool b7, .bool b8, .bool b0, .bool b1, .bool b2, .bool b3, .bool b4, .bool b5, .bool b6, .bool b7, .bool b8] := by rw [SiD.cells, begD, hbs]; rfl
  have HC := (hidMk hcl)
  simp only [List.map_cons, List.map_nil] at r1 i1
  clear hcl hbs hc
  have hB : Below w.heap.size w ((w.alloc (.cells c.cells.toArray 52)).alloc (.cells #[.bool false, .bool false, .bool false, .bool false, .bool false, .bool false, .bool false, .bool false, .bool false, .bool false, .bool false, .bool false, .bool false, .bool false, .bool false, .bool false, .bool false, .bool false] 106)) := (belS w (.cells c.cells.toArray 52)).alloc (by simp) (.cells #[.bool false, .bool false, .bool false, .bool false, .bool false, .bool false, .bool false, .bool false, .bool false, .bool false, .bool false, .bool false, .bool false, .bool false, .bool false, .bool false, .bool false, .bool false] 106)
  have ht := there_row (heap_box (w.alloc (.cells c.cells.toArray 52)) (.cells #[.bool false, .bool false, .bool false, .bool false, .bool false, .bool false, .bool false, .bool false, .bool false, .bool false, .bool false, .bool false, .bool false, .bool false, .bool false, .bool false, .bool false, .bool false] 106))
  rw [show (w.alloc (.cells c.cells.toArray 52)).heap.size = w.heap.size + 1 by simp] at ht
  have ht2 : ((w.alloc (.cells c.cells.toArray 52)).alloc (.cells #[.bool false, .bool false, .bool false, .bool false, .bool false, .bool false, .bool false, .bool false, .bool false, .bool false, .bool false, .bool false, .bool false, .bool false, .bool false, .bool false, .bool false, .bool false] 106)).there (w.heap.size + 1) 0 (#[.bool b0, .bool b1, .bool b2, .bool b3, .bool b4, .bool b5, .bool b6, .bool b7, .bool b8, .bool b0, .bool b1, .bool b2, .bool b3, .bool b4, .bool b5, .bool b6, .bool b7, .bool b8] : Array Value).size := ht
  have hi2 : (Tryz.prog.info? 106).map (·.size) = some (#[.bool b0, .bool b1, .bool b2, .bool b3, .bool b4, .bool b5, .bool b6, .bool b7, .bool b8, .bool b0, .bool b1, .bool b2, .bool b3, .bool b4, .bool b5, .bool b6, .bool b7, .bool b8] : Array Value).size := Tryz.infoSit
  have h12 : (#[.bool b0, .bool b1, .bool b2, .bool b3, .bool b4, .bool b5, .bool b6, .bool b7, .bool b8, .bool b0, .bool b1, .bool b2, .bool b3, .bool b4, .bool b5, .bool b6, .bool b7, .bool b8] : Array Value).all (·.oneCell') = true := bits_one [b0, b1, b2, b3, b4, b5, b6, b7, b8, b0, b1, b2, b3, b4, b5, b6, b7, b8]
  clear ht
  go_enter Tryz.func48, Tryz.ntmps48
  go_wp2_with (first
    | (refine wpList_load_mid (w := (w.alloc (.cells c.cells.toArray 52)).alloc (.cells #[.bool false, .bool false, .bool false, .bool false, .bool false, .bool false, .bool false, .bool false, .bool false, .bool false, .bool false, .bool false, .bool false, .bool false, .bool false, .bool false, .bool false, .bool false] 106)) rfl 49 _ rfl w.heap.size 9 rfl [.bool b0, .bool b1, .bool b2, .bool b3, .bool b4, .bool b5, .bool b6, .bool b7, .bool b8] _ r1 Tryz.underlying49 rfl i1 ?_)
    | (refine wpList_store_mid (w := (w.alloc (.cells c.cells.toArray 52)).alloc (.cells #[.bool false, .bool false, .bool false, .bool false, .bool false, .bool false, .bool false, .bool false, .bool false, .bool false, .bool false, .bool false, .bool false, .bool false, .bool false, .bool false, .bool false, .bool false] 106)) rfl 106 _ _ rfl (w.heap.size + 1) 0 #[.bool b0, .bool b1, .bool b2, .bool b3, .bool b4, .bool b5, .bool b6, .bool b7, .bool b8, .bool b0, .bool b1, .bool b2, .bool b3, .bool b4, .bool b5, .bool b6, .bool b7, .bool b8] rfl rfl ht2 hi2 h12 ?_))
  have hrs := World.rangeAt_setCells_same ((w.alloc (.cells c.cells.toArray 52)).alloc (.cells #[.bool false, .bool false, .bool false, .bool false, .bool false, .bool false, .bool false, .bool false, .bool false, .bool false, .bool false, .bool false, .bool false, .bool false, .bool false, .bool false, .bool false, .bool false] 106)) (w.heap.size + 1) 0 [.bool b0, .bool b1, .bool b2, .bool b3, .bool b4, .bool b5, .bool b6, .bool b7, .bool b8, .bool b0, .bool b1, .bool b2, .bool b3, .bool b4, .bool b5, .bool b6, .bool b7, .bool b8] ht2
  refine bodyPost_ret (v := .agg #[.bool b0, .bool b1, .bool b2, .bool b3, .bool b4, .bool b5, .bool b6, .bool b7, .bool b8, .bool b0, .bool b1, .bool b2, .bool b3, .bool b4, .bool b5, .bool b6, .bool b7, .bool b8]) ?_ rfl ⟨by rw [HC.out], below_setCells (w.heap.size + 1) (Nat.le_succ _) _ _ hB⟩
  have hlv := run_loadVar_mid (P := Tryz.prog) _ (w.heap.size + 1) 0 106 [.bool b0, .bool b1, .bool b2, .bool b3, .bool b4, .bool b5, .bool b6, .bool b7, .bool b8, .bool b0, .bool b1, .bool b2, .bool b3, .bool b4, .bool b5, .bool b6, .bool b7, .bool b8] _ hrs Tryz.underlying106 rfl Tryz.infoSit
  simp [results, Tryz.results48, asAddr, Act.put, hlv]
end
section
set_option maxRecDepth 4000
open Go.RowKit
open Go.Lib (below_setCells)

def MovesAt (w : World) (a : Option Addr) (ms : List (Int × Int)) : Prop := ∀ i m, ms[i]? = some m → ∃ b o, a = some ⟨b, o, none⟩ ∧ w.cell? ⟨b, o + i * 2, none⟩ = some (.int .i64 m.1) ∧ w.cell? ⟨b, o + i * 2 + 1, none⟩ = some (.int .i64 m.2)
theorem MovesAt.keep {w w' : World} (hb : Below w.heap.size w w') {a : Option Addr} {ms : List (Int × Int)} (h : MovesAt w a ms) : MovesAt w' a ms := fun i m hi => by
  obtain ⟨b, o, h1, h2, h3⟩ := h i m hi
  exact ⟨b, o, h1, cell_keep hb h2, cell_keep hb h3⟩
/-- What is left behind a move, or what was there, if it is none. -/
def aft (s : SiD) (p : Int) : SiD := if 0 ≤ p ∧ p < 9 then aftD s p.toNat else s
theorem aft_ok {s : SiD} (h : s.ok) (p : Int) : (aft s p).ok := by unfold aft; split; exact aftD_ok h _; exact h
theorem after_any (s : SiD) (p : Int) (hs : s.ok) (w : World) : Calls Tryz.prog 50 #[.agg s.cells.toArray, .int .i64 p] w fun e W => e = .returned (.agg (aft s p).cells.toArray) ∧ Below w.heap.size w W := by
  unfold aft
  by_cases h : 0 ≤ p ∧ p < 9
  · rw [if_pos h]
    obtain ⟨n, rfl⟩ : ∃ n : Nat, p = n := ⟨p.toNat, by omega⟩
    rw [Int.toNat_natCast]
    exact after_in s n (by omega) hs w
  · rw [if_neg h]
    exact after_out s p h hs w
def mvsB (c : ChD) : SiD → List (Int × Int) → Bool
  | _, [] => true
  | s, m :: ms => mvB c s (plI m.1 m.2) && mvsB c (aft s (plI m.1 m.2)) ms
theorem Tryz.infoCht : (Tryz.prog.info? 52).map (·.size) = some 189 := by kernel_rfl
theorem ChD.ok.len {c : ChD} (h : c.ok) : c.cells.length = 189 := by
  have h1 := flat_len c.alg h.algr
  have h2 := flat_len c.fev h.fevr
  simp only [ChD.cells, ChD.bits, List.length_map, List.length_append, h.thr, h.fst, h.wnt, h1, h2, h.alg, h.fev]
theorem there_keep {w w' : World} (hb : Below w.heap.size w w') {b o n : Nat} (h : w.there b o n) : w'.there b o n := fun j hj => by
  obtain ⟨h1, h2⟩ := h j hj
  obtain ⟨v, hv⟩ := Option.isSome_iff_exists.1 h1
  have hlt := World.block_lt_of_cell? w ⟨b, o + j, none⟩ hv
  refine ⟨?_, ?_⟩
  · rw [hb.cell (p := ⟨b, o + j, none⟩) hlt]; exact h1
  · rw [hb.frozen (p := ⟨b, o + j, none⟩) hlt]; exact h2
theorem sit_info {s : SiD} (h : s.ok) : (Tryz.prog.info? 106).map (·.size) = some s.cells.length ∧ (Tryz.prog.info? 106).map (·.size) = some s.cells.toArray.size ∧ s.cells.toArray.all (·.oneCell') = true := by
  refine ⟨by rw [h.len]; exact Tryz.infoSit, by rw [List.size_toArray, h.len]; exact Tryz.infoSit, bits_one _⟩
set_option maxHeartbeats 4000000 in
theorem AreMoves_any (c : ChD) (hc : c.ok) (ms : List (Int × Int)) (w : World) (a : Option Addr) (cap : Nat) (hl : ms.length ≤ 200) (hp : MovesAt w a ms) :
    Calls Tryz.prog 22 #[.agg c.cells.toArray, .slice a ms.length cap] w fun e W => e = .returned (.bool (mvsB c (begD c) ms)) ∧ Below w.heap.size w W := by
  have hq1 := range_row (heap_box w (.cells c.cells.toArray 52))
  have ic : (Tryz.prog.info? 52).map (·.size) = some c.cells.length := by rw [hc.len]; exact Tryz.infoCht
  have hbeg := fun w => begin_any c hc w
  obtain ⟨b1, b2, b3⟩ := sit_info (begD_ok hc)
  have hlen := (begD_ok hc).len
  obtain ⟨R, hR⟩ : ∃ R, R = mvsB c (begD c) ms := ⟨_, rfl⟩
  rw [← hR]
  have HR : Hid (R = mvsB c (begD c) (ms.drop 0)) := hR
  have HP := (hidMk hp)
  have HO := (hidMk (begD_ok hc))
  have HCC := (hidMk hc)
  have HLN := (hidMk hlen)
  have hmv := fun s p (hs : SiD.ok s) w => isMove_any c s p hc hs w
  clear hR hp hc hlen
  go_enter Tryz.func22, Tryz.ntmps22
  go_wp2_with (first
    | (refine wpList_load_mid (w := w.alloc (.cells c.cells.toArray 52)) rfl 52 _ rfl w.heap.size 0 rfl c.cells _ hq1 Tryz.underlying52 rfl ic ?_)
    | (go_at_call 48; refine (hbeg _).mono ?_; rintro e w1 ⟨rfl, hb1⟩; have ht1 : (w1.alloc (.cells #[.bool false, .bool false, .bool false, .bool false, .bool false, .bool false, .bool false, .bool false, .bool false, .bool false, .bool false, .bool false, .bool false, .bool false, .bool false, .bool false, .bool false, .bool false] 106)).there w1.heap.size 0 (begD c).cells.toArray.size := by (rw [show (begD c).cells.toArray.size = 18 by simpa using HLN.out]; exact there_row (heap_box w1 (.cells #[.bool false, .bool false, .bool false, .bool false, .bool false, .bool false, .bool false, .bool false, .bool false, .bool false, .bool false, .bool false, .bool false, .bool false, .bool false, .bool false, .bool false, .bool false] 106))))
    | (refine wpList_store_mid (w := w1.alloc (.cells #[.bool false, .bool false, .bool false, .bool false, .bool false, .bool false, .bool false, .bool false, .bool false, .bool false, .bool false, .bool false, .bool false, .bool false, .bool false, .bool false, .bool false, .bool false] 106)) rfl 106 _ _ rfl w1.heap.size 0 (begD c).cells.toArray rfl rfl ht1 b2 b3 ?_))
  have hB1 : Below w.heap.size w w1 := thn3 (belS w _) hb1
  have hBA : Below w1.heap.size w1 (w1.alloc (.cells #[.bool false, .bool false, .bool false, .bool false, .bool false, .bool false, .bool false, .bool false, .bool false, .bool false, .bool false, .bool false, .bool false, .bool false, .bool false, .bool false, .bool false, .bool false] 106)) := belS _ _
  have rs0 := World.rangeAt_setCells_same (w1.alloc (.cells #[.bool false, .bool false, .bool false, .bool false, .bool false, .bool false, .bool false, .bool false, .bool false, .bool false, .bool false, .bool false, .bool false, .bool false, .bool false, .bool false, .bool false, .bool false] 106)) w1.heap.size 0 (begD c).cells (by simpa using ht1)
  have rt0 : ((w1.alloc (.cells #[.bool false, .bool false, .bool false, .bool false, .bool false, .bool false, .bool false, .bool false, .bool false, .bool false, .bool false, .bool false, .bool false, .bool false, .bool false, .bool false, .bool false, .bool false] 106)).setCells w1.heap.size 0 (begD c).cells).there w1.heap.size 0 18 := World.there_setCells (there_row (heap_box w1 (.cells #[.bool false, .bool false, .bool false, .bool false, .bool false, .bool false, .bool false, .bool false, .bool false, .bool false, .bool false, .bool false, .bool false, .bool false, .bool false, .bool false, .bool false, .bool false] 106))) _ _ _
  have rc0 : ((w1.alloc (.cells #[.bool false, .bool false, .bool false, .bool false, .bool false, .bool false, .bool false, .bool false, .bool false, .bool false, .bool false, .bool false, .bool false, .bool false, .bool false, .bool false, .bool false, .bool false] 106)).setCells w1.heap.size 0 (begD c).cells).rangeAt w.heap.size 0 c.cells := World.rangeAt_setCells_apart (range_keep hBA (range_keep hb1 hq1)) _ _ _ (.inl (by have := hb1.size; simp at this; omega))
  have hB2 : Below w1.heap.size w1 ((w1.alloc (.cells #[.bool false, .bool false, .bool false, .bool false, .bool false, .bool false, .bool false, .bool false, .bool false, .bool false, .bool false, .bool false, .bool false, .bool false, .bool false, .bool false, .bool false, .bool false] 106)).setCells w1.heap.size 0 (begD c).cells) := below_setCells w1.heap.size (Nat.le_refl _) _ _ hBA
  go_loopw [16] (fun vi wr => ∃ (i : Nat) (s : SiD), i ≤ ms.length ∧ vi = .int .i64 i ∧ s.ok ∧ Hid (R = mvsB c s (ms.drop i)) ∧ wr.rangeAt w1.heap.size 0 s.cells ∧ wr.there w1.heap.size 0 18 ∧ wr.rangeAt w.heap.size 0 c.cells ∧ Below w1.heap.size w1 wr) (fun i _ => ms.length - (intOf i).toNat)
  case atStart => exact ⟨0, begD c, Nat.zero_le _, rfl, HO.out, HR, rs0, rt0, rc0, hB2⟩
  case round =>
    obtain ⟨i, s, hi, rfl, hso, hr, rs, rt, rc, hb⟩ := hrel
    rename World => w5
    have hbw := thn3 hB1 hb
    by_cases hlt : i < ms.length
    · obtain ⟨m, hmi⟩ : ∃ m, ms[i]? = some m := ⟨ms[i], List.getElem?_eq_getElem hlt⟩
      have hdrop : ms.drop i = m :: ms.drop (i + 1) := by
        rw [List.drop_eq_getElem_cons hlt]; rw [List.getElem?_eq_getElem hlt] at hmi; simp at hmi; rw [hmi]
      obtain ⟨b, o, rfl, d0, d1⟩ := HP.out i m hmi
      have d0 := cell_keep hbw d0
      have d1 := cell_keep hbw d1
      have hbl := lt_of_cell d0
      have hst : R = (mvB c s (plI m.1 m.2) && mvsB c (aft s (plI m.1 m.2)) (ms.drop (i + 1))) := by rw [hr.out, hdrop, mvsB]
      obtain ⟨x, y⟩ := m
      simp only at d0 d1 hst
      have hpl := fun w => flPlace_any x y w
      have hmv1 := fun w => hmv s (plI x y) hso w
      have haf := fun w => after_any s (plI x y) hso w
      have hao := aft_ok hso (plI x y)
      obtain ⟨s1, s2, s3⟩ := sit_info hso
      obtain ⟨q1, q2, q3⟩ := sit_info hao
      have hx0 : (0 : Int) ≤ (i : Int) := Int.natCast_nonneg _
      have hx1 : (i : Int) < (ms.length : Int) := by omega
      generalize plI x y = p at hpl hmv1 haf hst hao q1 q2 q3
      have HAo := (hidMk hao)
      have HAl := (hidMk hao.len)
      generalize mvB c s p = t at hmv1 hst
      clear hmi hdrop hr hmv hao
      cases t with
      | false =>
        have hR1 : R = false := hst
        clear hst haf
        subst hR1
        go_wp2_with (first
          | (go_at_call 45; refine (hpl _).mono ?_; rintro e w2 ⟨rfl, hb2⟩; have rs2 := range_keep hb2 (range_keep (belS _ _) rs); have rc2 := range_keep hb2 (range_keep (belS _ _) rc))
          | (go_at_call 49; refine (hmv1 _).mono ?_; rintro e w3 ⟨rfl, hb3⟩)
          | (refine wpList_load_mid (w := w2) rfl 52 _ rfl w.heap.size 0 rfl c.cells _ rc2 Tryz.underlying52 rfl ic ?_)
          | (refine wpList_load_mid (w := w2) rfl 106 _ rfl w1.heap.size 0 rfl s.cells _ rs2 Tryz.underlying106 rfl s1 ?_))
        go_ret
        exact ⟨rfl, thn3 (thn3 (thn3 hbw (belS _ _)) hb2) hb3⟩
      | true =>
        have hst' : Hid (R = mvsB c (aft s p) (ms.drop (i + 1))) := hst
        clear hst
        go_wp2_with (first
          | (go_at_call 45; refine (hpl _).mono ?_; rintro e w2 ⟨rfl, hb2⟩; have rs2 := range_keep hb2 (range_keep (belS _ _) rs); have rc2 := range_keep hb2 (range_keep (belS _ _) rc); have rt2 := there_keep hb2 (there_keep (belS _ _) rt))
          | (go_at_call 49; refine (hmv1 _).mono ?_; rintro e w3 ⟨rfl, hb3⟩; have rs3 := range_keep hb3 rs2; have rc3 := range_keep hb3 rc2; have rt3 := there_keep hb3 rt2)
          | (go_at_call 50; refine (haf _).mono ?_; rintro e w4 ⟨rfl, hb4⟩; have rc4 := range_keep hb4 rc3; have rt4 := there_keep hb4 rt3; have rt4' : w4.there w1.heap.size 0 (aft s p).cells.toArray.size := by (rw [show (aft s p).cells.toArray.size = 18 by simpa using HAl.out]; exact rt4))
          | (have hq := hb4; refine wpList_store_mid (w := w4) rfl 106 _ _ rfl w1.heap.size 0 (aft s p).cells.toArray rfl rfl rt4' q2 q3 ?_)
          | (have hq := hb3; (refine wpList_load_mid (w := w3) rfl 106 _ rfl w1.heap.size 0 rfl s.cells _ rs3 Tryz.underlying106 rfl s1 ?_))
          | (refine wpList_load_mid (w := w2) rfl 52 _ rfl w.heap.size 0 rfl c.cells _ rc2 Tryz.underlying52 rfl ic ?_)
          | (refine wpList_load_mid (w := w2) rfl 106 _ rfl w1.heap.size 0 rfl s.cells _ rs2 Tryz.underlying106 rfl s1 ?_))
        go_roundw
        case rel =>
          have h4 := thn3 (thn3 (thn3 (thn3 hb (belS _ _)) hb2) hb3) hb4
          exact ⟨i + 1, aft s p, by omega, by go_num, HAo.out, hst', World.rangeAt_setCells_same _ _ _ _ (by simpa using rt4'), World.there_setCells rt4 _ _ _, World.rangeAt_setCells_apart rc4 _ _ _ (.inl (by have := hb1.size; simp at this; omega)), below_setCells w1.heap.size (Nat.le_refl _) _ _ h4⟩
        case measure => simp [intOf]; omega
    · have hR1 : R = true := by rw [hr.out, List.drop_of_length_le (by omega)]; rfl
      clear hr HR
      subst hR1
      go_wp2_with fail
      go_ret
      exact ⟨rfl, hbw⟩
end
end Go.Proofs.YtkkekopomiehlaaGreat
