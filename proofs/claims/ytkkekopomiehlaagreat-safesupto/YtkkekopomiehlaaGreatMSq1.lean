import Derived.Test.YtkkekopomiehlaaGreatMEq4
import Derived.Test.YtkkekopomiehlaaGreatMSf8
import Derived.Test.YtkkekopomiehlaaGreatMSr2
import Derived.Test.YtkkekopomiehlaaGreatMSr1
import Derived.Test.YtkkekopomiehlaaGreatSr5
set_option linter.unusedVariables false
set_option linter.unusedSimpArgs false
namespace Go.Proofs.YtkkekopomiehlaaGreat
section
set_option maxRecDepth 4000
open Go.RowKit

theorem pinsOk_of {ns nt : Nat} {ps : List PinD} (h : pinsB ns nt ps = true) : pinsOk ns nt ps := fun p hp => by
  unfold pinsB at h
  rw [Bool.and_eq_true, List.all_eq_true] at h
  obtain ⟨k, hk⟩ := List.getElem?_of_mem hp
  have hkl := (List.getElem?_eq_some_iff.1 hk).1
  have := h.2 k (List.mem_range.2 hkl)
  unfold pinK at this
  rw [hk] at this
  simp only [Bool.and_eq_true] at this
  have h1 := this.1
  unfold pinB numB at h1
  simp only [Bool.and_eq_true, Bool.or_eq_true, decide_eq_true_eq, beq_iff_eq] at h1
  obtain ⟨⟨a1, a2⟩, a3⟩ := h1
  refine ⟨a1, ?_, ?_, ?_, ?_⟩ <;> omega
theorem plOf_ok {f : FleetD} (h : Ord f) (p : Nat) : pinsOk f.ss.length f.ts.length (plOf f p) := by
  unfold plOf
  split
  · rename_i v hv
    have hv' := (h.parts (List.mem_of_getElem? hv)).2.2.2.2
    rw [List.getD]
    cases hr : v.rels[p % 3]? with
    | none => exact fun q hq => by simp at hq
    | some ps => exact pinsOk_of (hv' ps (List.mem_of_getElem? hr))
  · exact fun q hq => by simp at hq
theorem crB_eq {ss : List ByteArray} (h8 : ss.length ≤ 8) {x y : Int} (hx : -1 ≤ x ∧ x < ss.length) (hy : -1 ≤ y ∧ y < ss.length) : crB (tabOf ss) x y = ((decide (x < 0) || decide (y < 0)) || tabI ss x.toNat y.toNat) := by
  unfold crB
  by_cases h1 : x = -1
  · subst h1; simp
  by_cases h2 : y = -1
  · subst h2; simp
  have e1 : (x == -1) = false := by simp [h1]
  have e2 : (y == -1) = false := by simp [h2]
  have e3 : numB x 8 = true := by unfold numB; simp; omega
  have e4 : numB y 8 = true := by unfold numB; simp; omega
  have e5 : decide (x < 0) = false := by simp; omega
  have e6 : decide (y < 0) = false := by simp; omega
  rw [e1, e2, e3, e4, e5, e6, tabG_of _ (by omega) (by omega)]
  simp
theorem gaB_eq {ss : List ByteArray} {nt : Nat} (h8 : ss.length ≤ 8) {p q : PinD} (hp : p.w < ss.length ∧ p.r < ss.length ∧ -1 ≤ p.w ∧ -1 ≤ p.r) (hq : q.w < ss.length ∧ q.r < ss.length ∧ -1 ≤ q.w ∧ -1 ≤ q.r) : gaB (tabOf ss) p q = (rdB ss p q && rdB ss q p) := by
  unfold gaB rdB
  rw [crB_eq h8 ⟨hp.2.2.1, hp.1⟩ ⟨hq.2.2.2, hq.2.1⟩, crB_eq h8 ⟨hq.2.2.1, hq.1⟩ ⟨hp.2.2.2, hp.2.1⟩]
theorem all_congr {α : Type} {l : List α} {F G : α → Bool} (h : ∀ x ∈ l, F x = G x) : l.all F = l.all G := by
  induction l with
  | nil => rfl
  | cons a l ih => rw [List.all_cons, List.all_cons, h a (by simp), ih (fun x hx => h x (by simp [hx]))]
theorem cmpA_eq {ss : List ByteArray} {ts : List Int} (h8 : ss.length ≤ 8) {ps qs : List PinD} (hp : pinsOk ss.length ts.length ps) (hq : pinsOk ss.length ts.length qs) : cmpA (tabOf ss) ps qs = metB ss ts false ps qs := by
  unfold cmpA metB
  refine all_congr fun p hpm => all_congr fun q hqm => ?_
  unfold cpA meB
  rw [gaB_eq (nt := 0) h8 (hp p hpm).2 (hq q hqm).2]
  simp
theorem cmpF_eq {ss : List ByteArray} {ts : List Int} (h8 : ss.length ≤ 8) {ps qs : List PinD} (hp : pinsOk ss.length ts.length ps) (hq : pinsOk ss.length ts.length qs) : cmpF (tabOf ss) ts ps qs = metB ss ts true ps qs := by
  unfold cmpF metB
  refine all_congr fun p hpm => all_congr fun q hqm => ?_
  unfold cpF cpA meB
  rw [gaB_eq (nt := 0) h8 (hp p hpm).2 (hq q hqm).2]
  have := (hp p hpm).1
  rw [show numB p.t ts.length = true by unfold numB; simp; omega]
  rw [show (ts.getD p.t.toNat 0 != 0) = !(ts.getD p.t.toNat 0 == 0) from rfl]
  generalize (ts.getD p.t.toNat 0 == 0) = c
  generalize (p.t != q.t) = a
  generalize (rdB ss p q && rdB ss q p) = b
  cases a <;> cases b <;> cases c <;> rfl

/-- Do two places get along, in every topic, and in those that keep for ever? -/
def eB (f : FleetD) (x y : Nat) : Bool := metB f.ss f.ts false (plOf f x) (plOf f y)
def kB (f : FleetD) (x y : Nat) : Bool := metB f.ss f.ts true (plOf f x) (plOf f y)
theorem alg_eq {f : FleetD} (h : Ord f) {p q : Nat} (hp : p < 9) (hq : q < 9) : ((chartOf f).alg.getD p []).getD q false = eB f p q := by
  rw [cht_alg f hp hq, cmpA_eq (ts := f.ts) h.ss8 (plOf_ok h p) (plOf_ok h q)]; rfl
theorem fev_eq {f : FleetD} (h : Ord f) {p q : Nat} (hp : p < 9) (hq : q < 9) : ((chartOf f).fev.getD p []).getD q false = kB f p q := by
  rw [cht_fev f hp hq, cmpF_eq h.ss8 (plOf_ok h p) (plOf_ok h q)]; rfl
def nowI (f : FleetD) (s : Nat) : Int := match f.vs[s]? with | some v => v.now | none => 0
def mvAt (ms : List (Int × Int)) (j : Nat) : Int × Int := ms.getD j (-1, 0)
/-- Is move 'j' one, in the configuration that those before it left? -/
def rmB (f : FleetD) (ms : List (Int × Int)) (j : Nat) : Bool := (numB (mvAt ms j).1 f.vs.length && numB (mvAt ms j).2 (rlen f.vs (mvAt ms j).1.toNat)) && !(hasI (nowI f (mvAt ms j).1.toNat) ms (mvAt ms j).1 j == (mvAt ms j).2)
def plc (m : Int × Int) : Nat := m.1.toNat * 3 + m.2.toNat
def hsP (f : FleetD) (ms : List (Int × Int)) (j s : Nat) : Nat := s * 3 + (hasI (nowI f s) ms s j).toNat
def nwP (f : FleetD) (s : Nat) : Nat := s * 3 + (nowI f s).toNat
def rsB (f : FleetD) (ms : List (Int × Int)) (j : Nat) : Bool :=
  eB f (plc (mvAt ms j)) (plc (mvAt ms j)) && ((List.range f.vs.length).all fun s => eB f (plc (mvAt ms j)) (hsP f ms j s)) && (((List.range f.vs.length).all fun s => kB f (plc (mvAt ms j)) (nwP f s)) && (List.range j).all fun i => kB f (plc (mvAt ms j)) (plc (mvAt ms i)))
def rndB (f : FleetD) : Bool := (List.range f.vs.length).all fun s => (List.range f.vs.length).all fun t => eB f (nwP f s) (nwP f t)
def rN (F : Nat → Bool) : Nat → Nat → Nat
  | 0, j => j
  | n + 1, j => if F j = true then rN F n (j + 1) else j
theorem rlen_of {vs : List SvcD} {s : Nat} {v : SvcD} (h : vs[s]? = some v) : rlen vs s = v.rels.length := by unfold rlen; rw [h]
theorem nowI_of {f : FleetD} {s : Nat} {v : SvcD} (h : f.vs[s]? = some v) : nowI f s = v.now := by unfold nowI; rw [h]
theorem thB_iff (f : FleetD) (x y : Nat) (hy : y < 3) : thB f (x * 3 + y) = (decide (x < f.vs.length) && decide (y < rlen f.vs x)) := by
  unfold thB rlen
  rw [show (x * 3 + y) / 3 = x by omega, show (x * 3 + y) % 3 = y by omega]
  cases h : f.vs[x]? with
  | none => simp
  | some v => have := (List.getElem?_eq_some_iff.1 h).1; simp [this]
theorem fsB_iff {f : FleetD} (p : Nat) : fsB f p = (thB f p && (nowI f (p / 3) == ((p % 3 : Nat) : Int))) := by
  unfold fsB thB nowI
  cases h : f.vs[p / 3]? with
  | none => simp
  | some v =>
    simp only
    rw [show (((p % 3 : Nat) : Int) == v.now) = (v.now == ((p % 3 : Nat) : Int)) from Bool.beq_comm]
theorem Ord.rl {f : FleetD} (h : Ord f) {s : Nat} (hs : s < f.vs.length) : 1 ≤ rlen f.vs s ∧ rlen f.vs s ≤ 3 ∧ 0 ≤ nowI f s ∧ nowI f s < rlen f.vs s := by
  obtain ⟨v, hv⟩ : ∃ v, f.vs[s]? = some v := ⟨f.vs[s], List.getElem?_eq_getElem hs⟩
  have := h.parts (List.mem_of_getElem? hv)
  rw [rlen_of hv, nowI_of hv]
  exact ⟨this.1, this.2.1, this.2.2.1.1, this.2.2.1.2⟩
/-- The situation behind 'j' moves. -/
structure St (f : FleetD) (ms : List (Int × Int)) (j : Nat) (S : SiD) : Prop where
  ok : S.ok
  has : ∀ p, p < 9 → S.has.getD p false = (thB f p && (hasI (nowI f (p / 3)) ms ((p / 3 : Nat) : Int) j == ((p % 3 : Nat) : Int)))
  had : ∀ p, p < 9 → S.had.getD p false = (fsB f p || (List.range j).any fun i => plc (mvAt ms i) == p)
theorem St.zero {f : FleetD} {ms : List (Int × Int)} : St f ms 0 (begD (chartOf f)) := by
  refine ⟨begD_ok (chartOf_ok f), fun p hp => ?_, fun p hp => ?_⟩
  · show (chartOf f).fst.getD p false = _
    rw [cht_fst f hp, fsB_iff]; rfl
  · show (chartOf f).fst.getD p false = _
    rw [cht_fst f hp]; simp
theorem rmB_parts {f : FleetD} {ms : List (Int × Int)} {j : Nat} (ho : Ord f) (h : rmB f ms j = true) : ∃ x y : Nat, mvAt ms j = (((x : Nat) : Int), ((y : Nat) : Int)) ∧ x < f.vs.length ∧ y < rlen f.vs x ∧ x < 3 ∧ y < 3 ∧ hasI (nowI f x) ms x j ≠ y := by
  unfold rmB numB at h
  simp only [Bool.and_eq_true, decide_eq_true_eq, Bool.not_eq_true'] at h
  obtain ⟨⟨⟨a1, a2⟩, a3, a4⟩, a5⟩ := h
  have h3 := ho.vs3
  have hr := (ho.rl (s := (mvAt ms j).1.toNat) (by omega)).2.1
  refine ⟨(mvAt ms j).1.toNat, (mvAt ms j).2.toNat, ?_, by omega, by omega, by omega, by omega, ?_⟩
  · rw [Int.toNat_of_nonneg a1, Int.toNat_of_nonneg a3]
  · rw [Int.toNat_of_nonneg a1, Int.toNat_of_nonneg a3]
    intro hc; rw [hc] at a5; simp at a5
theorem plI_nat {x y : Nat} (hx : x < 3) (hy : y < 3) : plI (x : Int) (y : Int) = ((x * 3 + y : Nat) : Int) := by
  unfold plI
  rw [show numB (x : Int) 3 = true by unfold numB; simp; omega, show numB (y : Int) 3 = true by unfold numB; simp; omega]
  simp
theorem getD_set {l : List Bool} {i p : Nat} {b : Bool} (hi : i < l.length) : (l.set i b).getD p false = if i = p then b else l.getD p false := by
  rw [List.getD, List.getElem?_set]
  by_cases h : i = p
  · rw [if_pos h, if_pos hi, if_pos h]; rfl
  · rw [if_neg h, if_neg h]; rfl
theorem hasI_succ {now : Int} {ms : List (Int × Int)} {s : Int} {j : Nat} : hasI now ms s (j + 1) = if (mvAt ms j).1 = s then (mvAt ms j).2 else hasI now ms s j := rfl
theorem St.step {f : FleetD} {ms : List (Int × Int)} {j : Nat} {S : SiD} (ho : Ord f) (h : St f ms j S) (hm : rmB f ms j = true) : St f ms (j + 1) (aft S (plI (mvAt ms j).1 (mvAt ms j).2)) := by
  obtain ⟨x, y, hxy, hx, hy, hx3, hy3, hne⟩ := rmB_parts ho hm
  rw [hxy]
  simp only
  rw [plI_nat hx3 hy3]
  refine ⟨aft_ok h.ok _, fun p hp => ?_, fun p hp => ?_⟩
  · unfold aft
    rw [if_pos (by omega), Int.toNat_natCast]
    unfold aftD
    simp only
    rw [getD_set (by simp; omega), rng_getD _ _ hp, hasI_succ, hxy]
    simp only
    by_cases h1 : p / 3 = x
    · rw [if_pos (show ((x : Nat) : Int) = ((p / 3 : Nat) : Int) by omega)]
      by_cases h2 : x * 3 + y = p
      · rw [if_pos h2, ← h2, thB_iff f x y hy3, show (x * 3 + y) % 3 = y by omega]; simp [hx, hy]
      · rw [if_neg h2, if_pos (by omega), show (((y : Nat) : Int) == ((p % 3 : Nat) : Int)) = false by simp; omega]; simp
    · rw [if_neg (by omega), if_neg (by omega), if_neg (by omega)]; exact h.has p hp
  · unfold aft
    rw [if_pos (by omega), Int.toNat_natCast]
    unfold aftD
    simp only
    rw [getD_set (by rw [h.ok.2]; omega), List.range_succ, List.any_append, h.had p hp, show ([j].any fun i => plc (mvAt ms i) == p) = (x * 3 + y == p) by simp [plc, hxy]]
    by_cases h2 : x * 3 + y = p
    · rw [if_pos h2]; simp [h2]
    · rw [if_neg h2]
      rw [show (x * 3 + y == p) = false by simp [h2]]
      rw [Bool.or_false]
/-- The release that a service has is one of its own. -/
theorem has_in {f : FleetD} {ms : List (Int × Int)} (ho : Ord f) {s : Nat} (hs : s < f.vs.length) : ∀ j, (∀ i, i < j → rmB f ms i = true) → 0 ≤ hasI (nowI f s) ms s j ∧ hasI (nowI f s) ms s j < rlen f.vs s
  | 0, _ => (ho.rl hs).2.2
  | j + 1, h => by
    rw [hasI_succ]
    obtain ⟨x, y, hxy, hx, hy, _⟩ := rmB_parts ho (h j (by omega))
    rw [hxy]
    simp only
    by_cases hc : ((x : Nat) : Int) = (s : Int)
    · rw [if_pos hc]
      obtain rfl : x = s := by omega
      omega
    · rw [if_neg hc]; exact has_in ho hs j (fun i hi => h i (by omega))
theorem mvB_eq {f : FleetD} {ms : List (Int × Int)} {j : Nat} {S : SiD} (ho : Ord f) (h : St f ms j S) : mvB (chartOf f) S (plI (mvAt ms j).1 (mvAt ms j).2) = rmB f ms j := by
  have h3 := ho.vs3
  by_cases hin : (0 ≤ (mvAt ms j).1 ∧ (mvAt ms j).1 < 3) ∧ 0 ≤ (mvAt ms j).2 ∧ (mvAt ms j).2 < 3
  · obtain ⟨x, hx⟩ : ∃ x : Nat, (mvAt ms j).1 = x := ⟨(mvAt ms j).1.toNat, by omega⟩
    obtain ⟨y, hy⟩ : ∃ y : Nat, (mvAt ms j).2 = y := ⟨(mvAt ms j).2.toNat, by omega⟩
    unfold mvB rmB
    rw [hx, hy] at hin ⊢
    rw [plI_nat (by omega) (by omega), Int.toNat_natCast, Int.toNat_natCast, cht_thr f (by omega), h.has _ (by omega), thB_iff f x y (by omega), show (x * 3 + y) / 3 = x by omega, show (x * 3 + y) % 3 = y by omega]
    rw [show numB ((x * 3 + y : Nat) : Int) 9 = true by unfold numB; simp; omega, show numB (x : Int) f.vs.length = decide (x < f.vs.length) by unfold numB; simp, show numB (y : Int) (rlen f.vs x) = decide (y < rlen f.vs x) by unfold numB; simp]
    cases decide (x < f.vs.length) <;> cases decide (y < rlen f.vs x) <;> simp
  · have e1 : plI (mvAt ms j).1 (mvAt ms j).2 = -1 := by
      unfold plI
      rw [if_neg]
      unfold numB
      simp only [Bool.and_eq_true, decide_eq_true_eq]
      exact hin
    rw [e1]
    have e2 : mvB (chartOf f) S (-1) = false := by unfold mvB numB; simp
    rw [e2]
    cases hr : rmB f ms j with
    | false => rfl
    | true =>
      exfalso
      obtain ⟨x, y, hxy, _, _, hx3, hy3, _⟩ := rmB_parts ho hr
      rw [hxy] at hin
      simp only at hin
      omega
theorem mvs_drop {c : ChD} {S : SiD} {ms : List (Int × Int)} {j : Nat} (hj : j < ms.length) : ms.drop j = mvAt ms j :: ms.drop (j + 1) := by
  rw [List.drop_eq_getElem_cons hj]
  simp [mvAt, List.getD, List.getElem?_eq_getElem hj]
theorem mvs_eq {f : FleetD} {ms : List (Int × Int)} (ho : Ord f) : ∀ (n j : Nat) (S : SiD), n = ms.length - j → j ≤ ms.length → St f ms j S → (∀ i, i < j → rmB f ms i = true) → mvsB (chartOf f) S (ms.drop j) = (List.range ms.length).all (rmB f ms)
  | 0, j, S, hn, hj, hS, hall => by
    obtain rfl : j = ms.length := by omega
    rw [List.drop_length, mvsB, eq_comm, List.all_eq_true]
    exact fun i hi => hall i (List.mem_range.1 hi)
  | n + 1, j, S, hn, hj, hS, hall => by
    rw [mvs_drop (c := chartOf f) (S := S) (by omega), mvsB, mvB_eq ho hS]
    cases hr : rmB f ms j with
    | false => rw [Bool.false_and]; exact (all_rng_no (show j < ms.length by omega) hr).symm
    | true =>
      rw [Bool.true_and]
      exact mvs_eq ho n (j + 1) _ (by omega) (by omega) (hS.step ho hr) (fun i hi => by
        rcases Nat.lt_succ_iff_lt_or_eq.1 hi with h | h
        · exact hall i h
        · rw [h]; exact hr)
theorem sf_eq {f : FleetD} {ms : List (Int × Int)} {j : Nat} {S : SiD} (ho : Ord f) (h : St f ms j S) (hall : ∀ i, i < j → rmB f ms i = true) (hm : rmB f ms j = true) : sfB (chartOf f) S (plI (mvAt ms j).1 (mvAt ms j).2) = rsB f ms j := by
  obtain ⟨x, y, hxy, hx, hy, hx3, hy3, hne⟩ := rmB_parts ho hm
  have h3 := ho.vs3
  have hp9 : x * 3 + y < 9 := by omega
  have hpl : plc (mvAt ms j) = x * 3 + y := by rw [hxy]; simp [plc]
  unfold sfB rsB
  rw [hpl, hxy]
  simp only
  rw [plI_nat hx3 hy3, Int.toNat_natCast, alg_eq ho hp9 hp9, show numB ((x * 3 + y : Nat) : Int) 9 = true by unfold numB; simp; omega, Bool.true_and]
  have e1 : algB S.has ((chartOf f).alg.getD (x * 3 + y) []) = (List.range f.vs.length).all fun s => eB f (x * 3 + y) (hsP f ms j s) := by
    rw [Bool.eq_iff_iff]
    unfold algB
    rw [List.all_eq_true, List.all_eq_true]
    constructor
    · intro H s hs
      have hs := List.mem_range.1 hs
      have hin := has_in (ms := ms) ho hs j hall
      have hr := ho.rl hs
      have hlt : hsP f ms j s < 9 := by unfold hsP; omega
      have := H (hsP f ms j s) (List.mem_range.2 hlt)
      rw [h.has _ hlt, alg_eq ho hp9 hlt] at this
      have e : hsP f ms j s = s * 3 + (hasI (nowI f s) ms s j).toNat := rfl
      rw [e, thB_iff f s _ (by omega), show (s * 3 + (hasI (nowI f s) ms s j).toNat) / 3 = s by omega, show (s * 3 + (hasI (nowI f s) ms s j).toNat) % 3 = (hasI (nowI f s) ms s j).toNat by omega] at this
      rw [show decide (s < f.vs.length) = true by simp [hs], show decide ((hasI (nowI f s) ms s j).toNat < rlen f.vs s) = true by simp; omega, show (hasI (nowI f s) ms s j == (((hasI (nowI f s) ms s j).toNat : Nat) : Int)) = true by simp; omega] at this
      show eB f (x * 3 + y) (s * 3 + (hasI (nowI f s) ms s j).toNat) = true
      simpa using this
    · intro H p hp
      have hp := List.mem_range.1 hp
      rw [h.has _ hp, alg_eq ho hp9 hp]
      cases ht : thB f p with
      | false => simp
      | true =>
        obtain ⟨v, hv, hr⟩ := thB_lt ht
        have hs := (List.getElem?_eq_some_iff.1 hv).1
        by_cases hc : hasI (nowI f (p / 3)) ms ((p / 3 : Nat) : Int) j = ((p % 3 : Nat) : Int)
        · have := H (p / 3) (List.mem_range.2 hs)
          unfold hsP at this
          rw [hc, Int.toNat_natCast, show p / 3 * 3 + p % 3 = p by omega] at this
          simp [this]
        · rw [beq_false_of_ne hc]; simp
  have e2 : algB S.had ((chartOf f).fev.getD (x * 3 + y) []) = (((List.range f.vs.length).all fun s => kB f (x * 3 + y) (nwP f s)) && (List.range j).all fun i => kB f (x * 3 + y) (plc (mvAt ms i))) := by
    rw [Bool.eq_iff_iff]
    unfold algB
    rw [Bool.and_eq_true, List.all_eq_true, List.all_eq_true, List.all_eq_true]
    constructor
    · intro H
      constructor
      · intro s hs
        have hs := List.mem_range.1 hs
        have hr := ho.rl hs
        have hlt : nwP f s < 9 := by unfold nwP; omega
        have := H (nwP f s) (List.mem_range.2 hlt)
        rw [h.had _ hlt, fev_eq ho hp9 hlt] at this
        have ef : fsB f (nwP f s) = true := by
          have e : nwP f s = s * 3 + (nowI f s).toNat := rfl
          rw [fsB_iff, e, thB_iff f s _ (by omega), show (s * 3 + (nowI f s).toNat) / 3 = s by omega, show (s * 3 + (nowI f s).toNat) % 3 = (nowI f s).toNat by omega]
          rw [show decide (s < f.vs.length) = true by simp [hs], show decide ((nowI f s).toNat < rlen f.vs s) = true by simp; omega, show (nowI f s == (((nowI f s).toNat : Nat) : Int)) = true by simp; omega]
          rfl
        rw [ef] at this
        simpa using this
      · intro i hi
        have hi := List.mem_range.1 hi
        obtain ⟨x', y', hxy', hx', hy', hx3', hy3', _⟩ := rmB_parts ho (hall i hi)
        have hpl' : plc (mvAt ms i) = x' * 3 + y' := by rw [hxy']; simp [plc]
        have hlt : plc (mvAt ms i) < 9 := by omega
        have := H (plc (mvAt ms i)) (List.mem_range.2 hlt)
        rw [h.had _ hlt, fev_eq ho hp9 hlt] at this
        have ea : ((List.range j).any fun k => plc (mvAt ms k) == plc (mvAt ms i)) = true := by
          rw [List.any_eq_true]; exact ⟨i, List.mem_range.2 hi, by simp⟩
        rw [ea] at this
        simpa using this
    · rintro ⟨H1, H2⟩ p hp
      have hp := List.mem_range.1 hp
      rw [h.had _ hp, fev_eq ho hp9 hp]
      cases hf : fsB f p with
      | true =>
        rw [fsB_iff, Bool.and_eq_true] at hf
        obtain ⟨v, hv, hr⟩ := thB_lt hf.1
        have hs := (List.getElem?_eq_some_iff.1 hv).1
        have hn : nowI f (p / 3) = ((p % 3 : Nat) : Int) := by simpa using hf.2
        have := H1 (p / 3) (List.mem_range.2 hs)
        unfold nwP at this
        rw [hn, Int.toNat_natCast, show p / 3 * 3 + p % 3 = p by omega] at this
        simp [this]
      | false =>
        cases ha : (List.range j).any fun i => plc (mvAt ms i) == p with
        | false => simp
        | true =>
          rw [List.any_eq_true] at ha
          obtain ⟨i, hi, he⟩ := ha
          have := H2 i hi
          rw [show plc (mvAt ms i) = p by simpa using he] at this
          simp [this]
  rw [e1, e2]
theorem sfN_eq {f : FleetD} {ms : List (Int × Int)} (ho : Ord f) (hv : ∀ i, i < ms.length → rmB f ms i = true) : ∀ (n j : Nat) (S : SiD), n = ms.length - j → j ≤ ms.length → St f ms j S → sfN (chartOf f) S (ms.drop j) + j = rN (rsB f ms) n j
  | 0, j, S, hn, hj, hS => by
    obtain rfl : j = ms.length := by omega
    rw [List.drop_length, sfN, rN]; omega
  | n + 1, j, S, hn, hj, hS => by
    rw [mvs_drop (c := chartOf f) (S := S) (by omega), sfN, rN, sf_eq ho hS (fun i hi => hv i (by omega)) (hv j (by omega))]
    by_cases hr : rsB f ms j = true
    · rw [if_pos hr, if_pos hr, ← sfN_eq ho hv n (j + 1) _ (by omega) (by omega) (hS.step ho (hv j (by omega)))]; omega
    · rw [if_neg hr, if_neg hr]; omega
theorem snd_eq {f : FleetD} (ho : Ord f) : sndB (chartOf f) = rndB f := by
  have h3 := ho.vs3
  rw [Bool.eq_iff_iff]
  unfold sndB rndB algB
  rw [List.all_eq_true, List.all_eq_true]
  have hn : ∀ s, s < f.vs.length → nwP f s < 9 ∧ fsB f (nwP f s) = true := fun s hs => by
    have hr := ho.rl hs
    refine ⟨by unfold nwP; omega, ?_⟩
    have e : nwP f s = s * 3 + (nowI f s).toNat := rfl
    rw [fsB_iff, e, thB_iff f s _ (by omega), show (s * 3 + (nowI f s).toNat) / 3 = s by omega, show (s * 3 + (nowI f s).toNat) % 3 = (nowI f s).toNat by omega]
    rw [show decide (s < f.vs.length) = true by simp [hs], show decide ((nowI f s).toNat < rlen f.vs s) = true by simp; omega, show (nowI f s == (((nowI f s).toNat : Nat) : Int)) = true by simp; omega]
    rfl
  have hb : ∀ p, p < 9 → fsB f p = true → ∃ s, s < f.vs.length ∧ p = nwP f s := fun p hp hf => by
    rw [fsB_iff, Bool.and_eq_true] at hf
    obtain ⟨v, hv, hr⟩ := thB_lt hf.1
    have hs := (List.getElem?_eq_some_iff.1 hv).1
    have hn : nowI f (p / 3) = ((p % 3 : Nat) : Int) := by simpa using hf.2
    refine ⟨p / 3, hs, ?_⟩
    unfold nwP
    rw [hn, Int.toNat_natCast]; omega
  constructor
  · intro H s hs
    have hs := List.mem_range.1 hs
    rw [List.all_eq_true]
    intro t ht
    have ht := List.mem_range.1 ht
    obtain ⟨a1, a2⟩ := hn s hs
    obtain ⟨b1, b2⟩ := hn t ht
    have := H (nwP f s) (List.mem_range.2 a1)
    rw [cht_fst f a1, a2] at this
    simp only [Bool.not_true, Bool.false_or] at this
    rw [List.all_eq_true] at this
    have := this (nwP f t) (List.mem_range.2 b1)
    rw [cht_fst f b1, b2, alg_eq ho a1 b1] at this
    simpa using this
  · intro H p hp
    have hp := List.mem_range.1 hp
    rw [cht_fst f hp]
    cases hf : fsB f p with
    | false => simp
    | true =>
      obtain ⟨s, hs, rfl⟩ := hb p hp hf
      simp only [Bool.not_true, Bool.false_or]
      rw [List.all_eq_true]
      intro q hq
      have hq := List.mem_range.1 hq
      rw [cht_fst f hq, alg_eq ho hp hq]
      cases hg : fsB f q with
      | false => simp
      | true =>
        obtain ⟨t, ht, rfl⟩ := hb q hq hg
        have := H s (List.mem_range.2 hs)
        rw [List.all_eq_true] at this
        simp [this t (List.mem_range.2 ht)]
end
section
set_option maxRecDepth 4000
open Go.RowKit

theorem fitM_eq (ss : List ByteArray) : fitM ss = matF (tabI ss) ss.length := by
  unfold fitM matF
  apply List.ext_getElem?
  intro i
  by_cases hi : i < ss.length
  · rw [List.getElem?_map, List.getElem?_map, List.getElem?_range hi, List.getElem?_eq_getElem hi]
    simp only [Option.map_some, Option.some.injEq]
    apply List.ext_getElem?
    intro j
    by_cases hj : j < ss.length
    · rw [List.getElem?_map, List.getElem?_map, List.getElem?_range hj, List.getElem?_eq_getElem hj]
      simp only [Option.map_some, Option.some.injEq]
      exact (tabI_get (List.getElem?_eq_getElem hi) (List.getElem?_eq_getElem hj)).symm
    · rw [List.getElem?_eq_none (by simp; omega), List.getElem?_eq_none (by simp; omega)]
  · rw [List.getElem?_eq_none (by simp; omega), List.getElem?_eq_none (by simp; omega)]
theorem prs_mem {vs : List SvcD} {s r : Nat} (hs : s < vs.length) (hr : r < rlen vs s) : (s, r) ∈ prs vs := by
  unfold prs prsTo
  exact List.mem_flatMap.2 ⟨s, List.mem_range.2 hs, List.mem_map.2 ⟨r, List.mem_range.2 hr, rfl⟩⟩
theorem mem_prs {vs : List SvcD} {p : Nat × Nat} (h : p ∈ prs vs) : ∃ v ps, vs[p.1]? = some v ∧ v.rels[p.2]? = some ps := by
  unfold prs prsTo at h
  obtain ⟨s, hs, hm⟩ := List.mem_flatMap.1 h
  have hs := List.mem_range.1 hs
  obtain ⟨r, hr, rfl⟩ := List.mem_map.1 hm
  have hr := List.mem_range.1 hr
  refine ⟨vs[s], ?_⟩
  rw [rlen_of (List.getElem?_eq_getElem hs)] at hr
  exact ⟨vs[s].rels[r], List.getElem?_eq_getElem hs, List.getElem?_eq_getElem hr⟩
theorem plOf_pr {f : FleetD} {p : Nat × Nat} {v : SvcD} {ps : List PinD} (hv : f.vs[p.1]? = some v) (hr : v.rels[p.2]? = some ps) (h3 : p.2 < 3) : plOf f (plN p) = ps := by
  unfold plOf plN
  rw [show (p.1 * 3 + p.2) / 3 = p.1 by omega, show (p.1 * 3 + p.2) % 3 = p.2 by omega, hv]
  simp [List.getD, hr]
/-- The views that 'Look' gives. -/
structure LookAt (W : World) (g : Nat) (sa : Option Addr) (sl sc : Nat) (ta : Option Addr) (tl tc : Nat) (va : Option Addr) (vl vc : Nat) (f : FleetD) (E K : List (List Bool)) : Prop where
  fl : FleetAt W sa sl sc ta tl tc va vl vc f
  c0 : W.cell? ⟨g, 0, none⟩ = some (.slice sa sl sc)
  c1 : W.cell? ⟨g, 1, none⟩ = some (.slice ta tl tc)
  c2 : W.cell? ⟨g, 2, none⟩ = some (.slice va vl vc)
  E4 : ∃ ea ec, W.cell? ⟨g, 4, none⟩ = some (.slice ea 9 ec) ∧ MatAt W ea E
  K5 : ∃ ka kc, W.cell? ⟨g, 5, none⟩ = some (.slice ka 9 kc) ∧ MatAt W ka K
  okE : Mok (prs f.vs) (eB f) E
  okK : Mok (prs f.vs) (kB f) K
theorem LookAt.keep {W W' : World} (hb : Below W.heap.size W W') {g : Nat} {sa ta va : Option Addr} {sl sc tl tc vl vc : Nat} {f : FleetD} {E K : List (List Bool)} (h : LookAt W g sa sl sc ta tl tc va vl vc f E K) : LookAt W' g sa sl sc ta tl tc va vl vc f E K :=
  ⟨h.fl.keep hb, cell_keep hb h.c0, cell_keep hb h.c1, cell_keep hb h.c2, by obtain ⟨a, c, h1, h2⟩ := h.E4; exact ⟨a, c, cell_keep hb h1, h2.keep hb⟩, by obtain ⟨a, c, h1, h2⟩ := h.K5; exact ⟨a, c, cell_keep hb h1, h2.keep hb⟩, h.okE, h.okK⟩
theorem Look_any (f : FleetD) (ho : Ord f) (sa ta va : Option Addr) (sl sc tl tc vl vc : Nat) (w : World) (hf : FleetAt w sa sl sc ta tl tc va vl vc f) :
    Calls Tryz.prog 30 #[.agg #[.slice sa sl sc, .slice ta tl tc, .slice va vl vc]] w fun e W => ∃ (g : Nat) (E K : List (List Bool)), e = .returned (.pointer (some ⟨g, 0, none⟩)) ∧ LookAt W g sa sl sc ta tl tc va vl vc f E K ∧ Below w.heap.size w W := by
  have hr3 : ∀ v ∈ f.vs, v.rels.length ≤ 3 := fun v hv => (ho.parts hv).2.1
  have hsch : ∀ (i : Nat) (s : ByteArray), f.ss[i]? = some s → s.size ≤ 60 ∧ (pAll false s).isSome = true := fun i s hi => by
    have h := ho.sch
    unfold schsB at h
    rw [Bool.and_eq_true, List.all_eq_true] at h
    have := h.2 s (List.mem_of_getElem? hi)
    unfold schB at this
    rw [Bool.and_eq_true] at this
    exact ⟨of_decide_eq_true this.1, this.2⟩
  have hL0 : 0 < (prs f.vs).length := by
    have h1 := ho.vs1
    have := prs_mem (vs := f.vs) (s := 0) (r := 0) (by omega) (by have := (ho.rl (s := 0) (by omega)).1; omega)
    exact List.length_pos_of_mem this
  refine (look_walk f sa ta va sl sc tl tc vl vc w hf ho.ss8 ho.vs3 hr3 (tabI f.ss) (fun k x y => metB f.ss f.ts k (plOf f x) (plOf f y)) (fun i j s t hi hj W => ?_) hL0 (fun p q kept W g fa fc hp hq hV => ?_)).mono ?_
  · have := rFits_any s t (hsch i s hi).1 (hsch j t hj).1 (hsch i s hi).2 (hsch j t hj).2 W
    rw [← tabI_get hi hj] at this
    exact this
  · obtain ⟨v1, ps, hv1, hp1⟩ := mem_prs hp
    obtain ⟨v2, qs, hv2, hq2⟩ := mem_prs hq
    have hp3 := prs_lt ho.vs3 hr3 hp
    have hq3 := prs_lt ho.vs3 hr3 hq
    rw [← fitM_eq] at hV
    have e1 := plOf_pr hv1 hp1 hp3.2
    have e2 := plOf_pr hv2 hq2 hq3.2
    have o1 := plOf_ok ho (plN p)
    have o2 := plOf_ok ho (plN q)
    rw [e1] at o1
    rw [e2] at o2
    show Calls _ _ _ _ (fun e W' => e = .returned (.bool (metB f.ss f.ts kept (plOf f (plN p)) (plOf f (plN q)))) ∧ Below W.heap.size W W')
    rw [e1, e2]
    exact meets_any f g sa ta va fa sl sc tl tc vl vc fc W hV ho.ss8 p.1 p.2 q.1 q.2 v1 v2 ps qs kept hv1 hp1 hv2 hq2 o1 o2
  · rintro e W ⟨g, fa, ea, ka, fc, ec, kc, E, K, rfl, hV, h4, h5, hmE, hmK, hokE, hokK, hb⟩
    exact ⟨g, E, K, rfl, ⟨hV.fl, hV.c0, hV.c1, hV.c2, ⟨ea, ec, h4, hmE⟩, ⟨ka, kc, h5, hmK⟩, hokE, hokK⟩, hb⟩
theorem Mok.get {L : List (Nat × Nat)} {H : Nat → Nat → Bool} {E : List (List Bool)} (h : Mok L H E) {x y : Nat} (hx : x < 9) (hy : y < 9) : ∃ r, E[x]? = some r ∧ r.length = 9 ∧ r[y]? = some (mG E x y) := by
  have hxl : x < E.length := by rw [h.1.1]; exact hx
  refine ⟨E[x], List.getElem?_eq_getElem hxl, h.1.2 _ (List.getElem_mem _), ?_⟩
  have hl : E[x].length = 9 := h.1.2 _ (List.getElem_mem _)
  unfold mG
  rw [show E.getD x [] = E[x] by rw [List.getD, List.getElem?_eq_getElem hxl]; rfl, List.getD, List.getElem?_eq_getElem (show y < E[x].length by omega)]; rfl
theorem LookAt.eE {W : World} {g : Nat} {sa ta va : Option Addr} {sl sc tl tc vl vc : Nat} {f : FleetD} {E K : List (List Bool)} (h : LookAt W g sa sl sc ta tl tc va vl vc f E K) {p q : Nat × Nat} (hp : p ∈ prs f.vs) (hq : q ∈ prs f.vs) (hx : plN p < 9) (hy : plN q < 9) :
    ∃ b o ec g' c, W.cell? ⟨g, 4, none⟩ = some (.slice (some ⟨b, o, none⟩) 9 ec) ∧ W.cell? ⟨b, o + plN p, none⟩ = some (.slice (some ⟨g', 0, none⟩) 9 c) ∧ W.cell? ⟨g', plN q, none⟩ = some (.bool (eB f (plN p) (plN q))) := by
  obtain ⟨ea, ec, h1, h2⟩ := h.E4
  obtain ⟨r, hr, hl, hg⟩ := h.okE.get hx hy
  obtain ⟨b, o, g', c, rfl, m1, m2⟩ := h2 _ r hr
  rw [hl] at m1
  have := m2 _ _ hg
  rw [h.okE.2 p q hp hq] at this
  exact ⟨b, o, ec, g', c, h1, m1, this⟩
theorem LookAt.kK {W : World} {g : Nat} {sa ta va : Option Addr} {sl sc tl tc vl vc : Nat} {f : FleetD} {E K : List (List Bool)} (h : LookAt W g sa sl sc ta tl tc va vl vc f E K) {p q : Nat × Nat} (hp : p ∈ prs f.vs) (hq : q ∈ prs f.vs) (hx : plN p < 9) (hy : plN q < 9) :
    ∃ b o ec g' c, W.cell? ⟨g, 5, none⟩ = some (.slice (some ⟨b, o, none⟩) 9 ec) ∧ W.cell? ⟨b, o + plN p, none⟩ = some (.slice (some ⟨g', 0, none⟩) 9 c) ∧ W.cell? ⟨g', plN q, none⟩ = some (.bool (kB f (plN p) (plN q))) := by
  obtain ⟨ea, ec, h1, h2⟩ := h.K5
  obtain ⟨r, hr, hl, hg⟩ := h.okK.get hx hy
  obtain ⟨b, o, g', c, rfl, m1, m2⟩ := h2 _ r hr
  rw [hl] at m1
  have := m2 _ _ hg
  rw [h.okK.2 p q hp hq] at this
  exact ⟨b, o, ec, g', c, h1, m1, this⟩
end
section
set_option maxRecDepth 4000
open Go.RowKit

theorem nwP_eq {f : FleetD} (ho : Ord f) {s : Nat} (hs : s < f.vs.length) : ∃ n : Nat, nowI f s = n ∧ n < rlen f.vs s ∧ n < 3 ∧ nwP f s = plN (s, n) ∧ (s, n) ∈ prs f.vs ∧ plN (s, n) < 9 := by
  have hr := ho.rl hs
  have h3 := ho.vs3
  refine ⟨(nowI f s).toNat, (Int.toNat_of_nonneg hr.2.2.1).symm, by omega, by omega, rfl, prs_mem hs (by omega), by unfold plN; simp only; omega⟩
set_option maxHeartbeats 4000000 in
theorem sound_any (f : FleetD) (ho : Ord f) (sa ta va : Option Addr) (sl sc tl tc vl vc : Nat) (g : Nat) (E K : List (List Bool)) (w : World) (hV : LookAt w g sa sl sc ta tl tc va vl vc f E K) :
    Calls Tryz.prog 31 #[.pointer (some ⟨g, 0, none⟩)] w fun e W => e = .returned (.bool (rndB f)) ∧ Below w.heap.size w W := by
  have hv1 := hV.fl.v1
  have h3 := ho.vs3
  obtain ⟨v1a, v1b⟩ : vl ≤ f.vs.length ∧ f.vs.length ≤ vl := by omega
  obtain ⟨R, hR⟩ : ∃ R, R = rndB f := ⟨_, rfl⟩
  rw [← hR]
  have HR : Hid (R = (List.range f.vs.length).all fun s => (List.range f.vs.length).all fun t => eB f (nwP f s) (nwP f t)) := hR
  have HV := (hidMk hV)
  have HO := (hidMk ho)
  have c2 := hV.c2
  have hgl := lt_of_cell c2
  clear hR hV ho hv1
  go_enter Tryz.func31, Tryz.ntmps31
  go_wp2_with fail
  go_loopw [3] (fun vs wr => ∃ s : Nat, s ≤ vl ∧ vs = .int .i64 s ∧ Hid ((List.range s).all (fun s => (List.range f.vs.length).all fun t => eB f (nwP f s) (nwP f t)) = true) ∧ Below w.heap.size w wr) (fun s _ => vl - (intOf s).toNat)
  case atStart => exact ⟨0, Nat.zero_le _, rfl, (by show _ = _; rfl), Below.refl _ _⟩
  case round =>
    obtain ⟨s, hs, rfl, hal, hb⟩ := hrel
    have c2r := cell_keep hb c2
    have hx0 : (0 : Int) ≤ (s : Int) := Int.natCast_nonneg _
    by_cases hlt : s < vl
    · have hx1 : (s : Int) < (vl : Int) := by omega
      obtain ⟨n, hn, hnr, hn3, hnp, hmem, hp9⟩ := nwP_eq HO.out (f := f) (s := s) (by omega)
      obtain ⟨v, hv⟩ : ∃ v, f.vs[s]? = some v := ⟨f.vs[s]'(by omega), List.getElem?_eq_getElem (by omega)⟩
      obtain ⟨b, o, ra, rl, rc, rfl, _, d1, _, _, _⟩ := HV.out.fl.v3 s v hv
      rw [nowI_of hv] at hn
      rw [hn] at d1
      have hsn := all_rng (fun s => (List.range f.vs.length).all fun t => eB f (nwP f s) (nwP f t)) s
      rw [hal.out, Bool.true_and, hnp] at hsn
      have hno : ((List.range f.vs.length).all fun t => eB f (nwP f s) (nwP f t)) = false → R = false := fun h => by rw [HR.out]; exact all_rng_no (show s < f.vs.length by omega) h
      rw [hnp] at hno
      have HSN := (hidMk hsn)
      have HNO := (hidMk hno)
      clear hsn hno hal hv hn hnp
      go_wp2_with fail
      go_loopw [4] (fun vt wr => ∃ t : Nat, t ≤ vl ∧ vt = .int .i64 t ∧ Hid ((List.range t).all (fun t => eB f (plN (s, n)) (nwP f t)) = true) ∧ Below w.heap.size w wr) (fun t _ => vl - (intOf t).toNat)
      case atStart => exact ⟨0, Nat.zero_le _, rfl, (by show _ = _; rfl), hb⟩
      case round =>
        clear hb c2r
        obtain ⟨t, ht, rfl, hal, hb⟩ := hrel
        have c2r := cell_keep hb c2
        have hgr := lt_of_cell c2r
        have hy0 : (0 : Int) ≤ (t : Int) := Int.natCast_nonneg _
        by_cases hlt2 : t < vl
        · have hy1 : (t : Int) < (vl : Int) := by omega
          obtain ⟨m, hm, hmr, hm3, hmp, hmem2, hq9⟩ := nwP_eq HO.out (f := f) (s := t) (by omega)
          obtain ⟨v, hv⟩ : ∃ v, f.vs[t]? = some v := ⟨f.vs[t]'(by omega), List.getElem?_eq_getElem (by omega)⟩
          obtain ⟨b', o', ra2, rl2, rc2, heq, _, d2, _, _, _⟩ := HV.out.fl.v3 t v hv
          obtain ⟨rfl, rfl⟩ : b = b' ∧ o = o' := by cases heq; exact ⟨rfl, rfl⟩
          rw [nowI_of hv] at hm
          rw [hm] at d2
          have hsn := all_rng (fun t => eB f (plN (s, n)) (nwP f t)) t
          rw [hal.out, Bool.true_and, hmp] at hsn
          have hno : eB f (plN (s, n)) (nwP f t) = false → R = false := fun h => HNO.out (all_rng_no (show t < f.vs.length by omega) h)
          rw [hmp] at hno
          obtain ⟨be, oe, ec, ge, ce, x1, x2, x3⟩ := HV.out.eE hmem hmem2 hp9 hq9
          have id1 : ∀ W, Calls Tryz.prog 58 #[.agg #[.int .i64 s, .int .i64 n]] W fun e W' => e = .returned (.int .i64 ((plN (s, n) : Nat) : Int)) ∧ Below W.heap.size W W' := fun W => id_any s n (by omega) (by omega) W
          have id2 : ∀ W, Calls Tryz.prog 58 #[.agg #[.int .i64 t, .int .i64 m]] W fun e W' => e = .returned (.int .i64 ((plN (t, m) : Nat) : Int)) ∧ Below W.heap.size W W' := fun W => id_any t m (by omega) (by omega) W
          have d1r := cell_keep hb d1
          have d2r := cell_keep hb d2
          have hP0 : (0 : Int) ≤ ((plN (s, n) : Nat) : Int) := Int.natCast_nonneg _
          have hP9 : ((plN (s, n) : Nat) : Int) < 9 := by omega
          have hQ0 : (0 : Int) ≤ ((plN (t, m) : Nat) : Int) := Int.natCast_nonneg _
          have hQ9 : ((plN (t, m) : Nat) : Int) < 9 := by omega
          generalize eB f (plN (s, n)) (plN (t, m)) = x at hsn hno x3
          have HSN2 := (hidMk hsn)
          clear hsn hal hv hm hmp heq
          generalize plN (s, n) = P at *
          generalize plN (t, m) = Q at *
          cases x with
          | true =>
            clear hno
            go_wp2_with (first
              | (go_at_call 58; have hq := hb1; refine (id2 _).mono ?_; rintro e w2 ⟨rfl, hb2⟩; have hB2 := thn3 (thn3 hb hb1) hb2; have y1 := cell_keep hB2 x1; have y2 := cell_keep hB2 x2; have y3 := cell_keep hB2 x3)
              | (go_at_call 58; refine (id1 _).mono ?_; rintro e w1 ⟨rfl, hb1⟩; have c2q := cell_keep hb1 c2r; have d2q := cell_keep hb1 d2r))
            go_roundw
            case rel => exact ⟨t + 1, by omega, by go_num, HSN2, hB2⟩
            case measure => simp [intOf]; omega
          | false =>
            have hR1 := hno rfl
            clear hno
            subst hR1
            go_wp2_with (first
              | (go_at_call 58; have hq := hb1; refine (id2 _).mono ?_; rintro e w2 ⟨rfl, hb2⟩; have hB2 := thn3 (thn3 hb hb1) hb2; have y1 := cell_keep hB2 x1; have y2 := cell_keep hB2 x2; have y3 := cell_keep hB2 x3)
              | (go_at_call 58; refine (id1 _).mono ?_; rintro e w1 ⟨rfl, hb1⟩; have c2q := cell_keep hb1 c2r; have d2q := cell_keep hb1 d2r))
            go_ret
            exact ⟨rfl, hB2⟩
        · have hX : Hid ((List.range (s + 1)).all (fun s => (List.range f.vs.length).all fun t => eB f (nwP f s) (nwP f t)) = true) := by
            show _ = _; rw [HSN.out]; have := hal.out; rw [show t = f.vs.length by omega] at this; exact this
          clear hal HSN HNO
          go_wp2_with fail
          go_roundw
          case rel => exact ⟨s + 1, by omega, by go_num, hX, hb⟩
          case measure => simp [intOf]; omega
    · have hR1 : R = true := by rw [HR.out]; have := hal.out; rw [show s = f.vs.length by omega] at this; exact this
      clear hal HR
      subst hR1
      go_wp2_with fail
      go_ret
      exact ⟨rfl, hb⟩
end
section
set_option maxRecDepth 4000
open Go.RowKit

/-- Pairs lie so. -/
def PrAt (w : World) (a : Option Addr) (l : List (Nat × Nat)) : Prop := ∀ i q, l[i]? = some q → ∃ b, a = some ⟨b, 0, none⟩ ∧ w.cell? ⟨b, i * 2, none⟩ = some (.int .i64 q.1) ∧ w.cell? ⟨b, i * 2 + 1, none⟩ = some (.int .i64 q.2)
theorem PrAt.keep {w w' : World} (hb : Below w.heap.size w w') {a : Option Addr} {l : List (Nat × Nat)} (h : PrAt w a l) : PrAt w' a l := fun i q hi => by
  obtain ⟨b, h1, h2, h3⟩ := h i q hi
  exact ⟨b, h1, cell_keep hb h2, cell_keep hb h3⟩
def sfeB (f : FleetD) (p : Nat × Nat) (nw ps : List (Nat × Nat)) : Bool := eB f (plN p) (plN p) && (nw.all fun q => eB f (plN p) (plN q)) && (ps.all fun q => kB f (plN p) (plN q))
set_option maxHeartbeats 4000000 in
theorem safe_any (f : FleetD) (ho : Ord f) (sa ta va : Option Addr) (sl sc tl tc vl vc : Nat) (g : Nat) (E K : List (List Bool)) (w : World) (hV : LookAt w g sa sl sc ta tl tc va vl vc f E K) (p : Nat × Nat) (hp : p ∈ prs f.vs) (nw ps : List (Nat × Nat)) (hn : ∀ q ∈ nw, q ∈ prs f.vs) (hs : ∀ q ∈ ps, q ∈ prs f.vs)
    (na pa : Option Addr) (nc pc : Nat) (hnl : nw.length ≤ 2000000) (hpl : ps.length ≤ 2000000) (hna : PrAt w na nw) (hpa : PrAt w pa ps) :
    Calls Tryz.prog 33 #[.pointer (some ⟨g, 0, none⟩), .agg #[.int .i64 p.1, .int .i64 p.2], .slice na nw.length nc, .slice pa ps.length pc] w fun e W => e = .returned (.bool (sfeB f p nw ps)) ∧ Below w.heap.size w W := by
  have hr3 : ∀ v ∈ f.vs, v.rels.length ≤ 3 := fun v hv => (ho.parts hv).2.1
  have hlt3 : ∀ q, q ∈ prs f.vs → q.1 < 3 ∧ q.2 < 3 := fun q hq => prs_lt ho.vs3 hr3 hq
  have hp3 := hlt3 p hp
  have hp9 : plN p < 9 := by unfold plN; omega
  obtain ⟨b0, o0, ec0, g0, cc0, x1, x2, x3⟩ := hV.eE hp hp hp9 hp9
  have id1 : ∀ W, Calls Tryz.prog 58 #[.agg #[.int .i64 p.1, .int .i64 p.2]] W fun e W' => e = .returned (.int .i64 ((plN p : Nat) : Int)) ∧ Below W.heap.size W W' := fun W => id_any p.1 p.2 (by omega) (by omega) W
  have hP0 : (0 : Int) ≤ ((plN p : Nat) : Int) := Int.natCast_nonneg _
  have hP9 : ((plN p : Nat) : Int) < 9 := by omega
  obtain ⟨R, hR⟩ : ∃ R, R = sfeB f p nw ps := ⟨_, rfl⟩
  rw [← hR]
  have HR : Hid (R = (eB f (plN p) (plN p) && (nw.all fun q => eB f (plN p) (plN q)) && (ps.all fun q => kB f (plN p) (plN q)))) := hR
  have HV := (hidMk hV)
  have HL3 := (hidMk hlt3)
  have HN := (hidMk hn)
  have HS := (hidMk hs)
  have HNA := (hidMk hna)
  have HPA := (hidMk hpa)
  have HPM := (hidMk hp)
  clear hR hV ho hr3 hlt3 hn hs hna hpa hp
  have hb0 := bel1 w (.cells #[.int .i64 p.1, .int .i64 p.2] 64)
  have pb := box2 w (.int .i64 p.1) (.int .i64 p.2) 64
  cases hE0 : eB f (plN p) (plN p) with
  | false =>
    have hR1 : R = false := by rw [HR.out, hE0]; rfl
    rw [hE0] at x3
    subst hR1
    clear HR hE0
    go_enter Tryz.func33, Tryz.ntmps33
    go_wp2_with (go_at_call 58; refine (id1 _).mono ?_; rintro e w1 ⟨rfl, hb1⟩; have hB1 := thn3 hb0 hb1; have y1 := cell_keep hB1 x1; have y2 := cell_keep hB1 x2; have y3 := cell_keep hB1 x3)
    go_ret
    exact ⟨rfl, hB1⟩
  | true =>
    have HR2 : Hid (R = ((nw.all fun q => eB f (plN p) (plN q)) && (ps.all fun q => kB f (plN p) (plN q)))) := by show _ = _; rw [HR.out, hE0]; rfl
    rw [hE0] at x3
    clear HR hE0
    go_enter Tryz.func33, Tryz.ntmps33
    go_wp2_with (go_at_call 58; refine (id1 _).mono ?_; rintro e w1 ⟨rfl, hb1⟩; have hB1 := thn3 hb0 hb1; have y1 := cell_keep hB1 x1; have y2 := cell_keep hB1 x2; have y3 := cell_keep hB1 x3)
    clear x1 x2 x3 y1 y2 y3 id1
    go_loopw [10] (fun vi wr => ∃ i : Nat, i ≤ nw.length ∧ vi = .int .i64 i ∧ Hid ((nw.take i).all (fun q => eB f (plN p) (plN q)) = true) ∧ Below w.heap.size w wr) (fun i _ => nw.length - (intOf i).toNat)
    case atStart => exact ⟨0, Nat.zero_le _, rfl, (by show _ = _; rfl), hB1⟩
    case round =>
      obtain ⟨i, hi, rfl, hal, hb⟩ := hrel
      have hx0 : (0 : Int) ≤ (i : Int) := Int.natCast_nonneg _
      by_cases hlt : i < nw.length
      · obtain ⟨q, hq⟩ : ∃ q, nw[i]? = some q := ⟨nw[i], List.getElem?_eq_getElem hlt⟩
        have hqm := HN.out q (List.mem_of_getElem? hq)
        have hq3 := HL3.out q hqm
        have hq9 : plN q < 9 := by unfold plN; omega
        obtain ⟨bn, rfl, n1, n2⟩ := HNA.out i q hq
        obtain ⟨be, oe, ec, ge, ce, x1, x2, x3⟩ := HV.out.eE HPM.out hqm hp9 hq9
        have id2 : ∀ W, Calls Tryz.prog 58 #[.agg #[.int .i64 q.1, .int .i64 q.2]] W fun e W' => e = .returned (.int .i64 ((plN q : Nat) : Int)) ∧ Below W.heap.size W W' := fun W => id_any q.1 q.2 (by omega) (by omega) W
        have hQ0 : (0 : Int) ≤ ((plN q : Nat) : Int) := Int.natCast_nonneg _
        have hQ9 : ((plN q : Nat) : Int) < 9 := by omega
        have hx1 : (i : Int) < (nw.length : Int) := by omega
        have n1 := cell_keep hb n1
        have n2 := cell_keep hb n2
        have x1 := cell_keep hb x1
        have x2 := cell_keep hb x2
        have x3 := cell_keep hb x3
        have hsn := all_take (fun q => eB f (plN p) (plN q)) hq
        rw [hal.out, Bool.true_and] at hsn
        have hno : eB f (plN p) (plN q) = false → R = false := fun h => by rw [HR2.out, all_no (f := fun q => eB f (plN p) (plN q)) hq h]; rfl
        generalize eB f (plN p) (plN q) = x at hsn hno x3
        have HSN := (hidMk hsn)
        have l1 := lt_of_cell n1
        have l2 := lt_of_cell x1
        have l3 := lt_of_cell x2
        have l4 := lt_of_cell x3
        clear hsn hal hq
        cases x with
        | true =>
          clear hno
          go_wp2_with fail
          go_region_held3 (fun w' => (w'.cell? ⟨g, 4, none⟩ = some (.slice (some ⟨be, oe, none⟩) 9 ec) ∧ w'.cell? ⟨be, oe + plN p, none⟩ = some (.slice (some ⟨ge, 0, none⟩) 9 ce) ∧ w'.cell? ⟨ge, plN q, none⟩ = some (.bool true)) ∧ w'.cell? ⟨bn, i * 2, none⟩ = some (.int .i64 q.1) ∧ w'.cell? ⟨bn, i * 2 + 1, none⟩ = some (.int .i64 q.2)) (go_keep) (first | (go_at_call 58; refine (id2 _).mono ?_; rintro e w2 ⟨rfl, hb2⟩; have z1 := cell_keep hb2 x1; have z2 := cell_keep hb2 x2; have z3 := cell_keep hb2 x3; have z4 := cell_keep hb2 n1; have z5 := cell_keep hb2 n2))
          go_wp2_with fail
          go_roundw
          case rel => exact ⟨i + 1, by omega, by go_num, HSN, thn3 hb.drew hb2⟩
          case measure => simp [intOf]; omega
        | false =>
          have hR1 := hno rfl
          clear hno
          subst hR1
          go_wp2_with fail
          go_region_held3 (fun w' => (w'.cell? ⟨g, 4, none⟩ = some (.slice (some ⟨be, oe, none⟩) 9 ec) ∧ w'.cell? ⟨be, oe + plN p, none⟩ = some (.slice (some ⟨ge, 0, none⟩) 9 ce) ∧ w'.cell? ⟨ge, plN q, none⟩ = some (.bool false)) ∧ w'.cell? ⟨bn, i * 2, none⟩ = some (.int .i64 q.1) ∧ w'.cell? ⟨bn, i * 2 + 1, none⟩ = some (.int .i64 q.2)) (go_keep) (first | (go_at_call 58; refine (id2 _).mono ?_; rintro e w2 ⟨rfl, hb2⟩; have z1 := cell_keep hb2 x1; have z2 := cell_keep hb2 x2; have z3 := cell_keep hb2 x3; have z4 := cell_keep hb2 n1; have z5 := cell_keep hb2 n2))
          go_wp2_with fail
          go_ret
          exact ⟨rfl, thn3 hb.drew hb2⟩
      · have HR3 : Hid (R = ps.all fun q => kB f (plN p) (plN q)) := by
          show _ = _; rw [HR2.out]; have := hal.out; rw [List.take_of_length_le (by omega)] at this; rw [this]; rfl
        clear hal HR2
        go_wp2_with fail
        go_loopw [11] (fun vi wr => ∃ i : Nat, i ≤ ps.length ∧ vi = .int .i64 i ∧ Hid ((ps.take i).all (fun q => kB f (plN p) (plN q)) = true) ∧ Below w.heap.size w wr) (fun i _ => ps.length - (intOf i).toNat)
        case atStart => exact ⟨0, Nat.zero_le _, rfl, (by show _ = _; rfl), hb⟩
        case round =>
          clear hi hx0 hlt hb
          obtain ⟨i, hi, rfl, hal, hb⟩ := hrel
          have hx0 : (0 : Int) ≤ (i : Int) := Int.natCast_nonneg _
          by_cases hlt : i < ps.length
          · obtain ⟨q, hq⟩ : ∃ q, ps[i]? = some q := ⟨ps[i], List.getElem?_eq_getElem hlt⟩
            have hqm := HS.out q (List.mem_of_getElem? hq)
            have hq3 := HL3.out q hqm
            have hq9 : plN q < 9 := by unfold plN; omega
            obtain ⟨bn, rfl, n1, n2⟩ := HPA.out i q hq
            obtain ⟨be, oe, ec, ge, ce, x1, x2, x3⟩ := HV.out.kK HPM.out hqm hp9 hq9
            have id2 : ∀ W, Calls Tryz.prog 58 #[.agg #[.int .i64 q.1, .int .i64 q.2]] W fun e W' => e = .returned (.int .i64 ((plN q : Nat) : Int)) ∧ Below W.heap.size W W' := fun W => id_any q.1 q.2 (by omega) (by omega) W
            have hQ0 : (0 : Int) ≤ ((plN q : Nat) : Int) := Int.natCast_nonneg _
            have hQ9 : ((plN q : Nat) : Int) < 9 := by omega
            have hx1 : (i : Int) < (ps.length : Int) := by omega
            have n1 := cell_keep hb n1
            have n2 := cell_keep hb n2
            have x1 := cell_keep hb x1
            have x2 := cell_keep hb x2
            have x3 := cell_keep hb x3
            have hsn := all_take (fun q => kB f (plN p) (plN q)) hq
            rw [hal.out, Bool.true_and] at hsn
            have hno : kB f (plN p) (plN q) = false → R = false := fun h => by rw [HR3.out]; exact all_no (f := fun q => kB f (plN p) (plN q)) hq h
            generalize kB f (plN p) (plN q) = x at hsn hno x3
            have HSN := (hidMk hsn)
            have l1 := lt_of_cell n1
            have l2 := lt_of_cell x1
            have l3 := lt_of_cell x2
            have l4 := lt_of_cell x3
            clear hsn hal hq
            cases x with
            | true =>
              clear hno
              go_wp2_with fail
              go_region_held3 (fun w' => (w'.cell? ⟨g, 5, none⟩ = some (.slice (some ⟨be, oe, none⟩) 9 ec) ∧ w'.cell? ⟨be, oe + plN p, none⟩ = some (.slice (some ⟨ge, 0, none⟩) 9 ce) ∧ w'.cell? ⟨ge, plN q, none⟩ = some (.bool true)) ∧ w'.cell? ⟨bn, i * 2, none⟩ = some (.int .i64 q.1) ∧ w'.cell? ⟨bn, i * 2 + 1, none⟩ = some (.int .i64 q.2)) (go_keep) (first | (go_at_call 58; refine (id2 _).mono ?_; rintro e w2 ⟨rfl, hb2⟩; have z1 := cell_keep hb2 x1; have z2 := cell_keep hb2 x2; have z3 := cell_keep hb2 x3; have z4 := cell_keep hb2 n1; have z5 := cell_keep hb2 n2))
              go_wp2_with fail
              go_roundw
              case rel => exact ⟨i + 1, by omega, by go_num, HSN, thn3 hb.drew hb2⟩
              case measure => simp [intOf]; omega
            | false =>
              have hR1 := hno rfl
              clear hno
              subst hR1
              go_wp2_with fail
              go_region_held3 (fun w' => (w'.cell? ⟨g, 5, none⟩ = some (.slice (some ⟨be, oe, none⟩) 9 ec) ∧ w'.cell? ⟨be, oe + plN p, none⟩ = some (.slice (some ⟨ge, 0, none⟩) 9 ce) ∧ w'.cell? ⟨ge, plN q, none⟩ = some (.bool false)) ∧ w'.cell? ⟨bn, i * 2, none⟩ = some (.int .i64 q.1) ∧ w'.cell? ⟨bn, i * 2 + 1, none⟩ = some (.int .i64 q.2)) (go_keep) (first | (go_at_call 58; refine (id2 _).mono ?_; rintro e w2 ⟨rfl, hb2⟩; have z1 := cell_keep hb2 x1; have z2 := cell_keep hb2 x2; have z3 := cell_keep hb2 x3; have z4 := cell_keep hb2 n1; have z5 := cell_keep hb2 n2))
              go_wp2_with fail
              go_ret
              exact ⟨rfl, thn3 hb.drew hb2⟩
          · have hR1 : R = true := by rw [HR3.out]; have := hal.out; rw [List.take_of_length_le (by omega)] at this; exact this
            clear hal HR3
            subst hR1
            go_wp2_with fail
            go_ret
            exact ⟨rfl, hb⟩
end
end Go.Proofs.YtkkekopomiehlaaGreat
