import Derived.Test.YtkkekopomiehlaaProg0
set_option linter.unusedVariables false
set_option linter.unusedSimpArgs false
set_option maxRecDepth 4000
namespace Go.Proofs.Ytkkekopomiehlaa
open Go.RowKit

/-- A fleet as data. -/
structure PinD where
  t : Int
  w : Int
  r : Int
structure SvcD where
  size : Int
  now : Int
  want : Int
  rels : List (List PinD)
structure FleetD where
  ss : List ByteArray
  ts : List Int
  vs : List SvcD
/-- How it lies in memory. -/
def StrsAt (w : World) (a : Option Addr) (ss : List ByteArray) : Prop := ∀ i s, ss[i]? = some s → ∃ b o, a = some ⟨b, o, none⟩ ∧ w.cell? ⟨b, o + i, none⟩ = some (.string s)
def IntsAt (w : World) (a : Option Addr) (ns : List Int) : Prop := ∀ i n, ns[i]? = some n → ∃ b o, a = some ⟨b, o, none⟩ ∧ w.cell? ⟨b, o + i, none⟩ = some (.int .i64 n)
def PinsAt (w : World) (a : Option Addr) (ps : List PinD) : Prop := ∀ i p, ps[i]? = some p → ∃ b o, a = some ⟨b, o, none⟩ ∧ w.cell? ⟨b, o + i * 3, none⟩ = some (.int .i64 p.t) ∧ w.cell? ⟨b, o + i * 3 + 1, none⟩ = some (.int .i64 p.w) ∧ w.cell? ⟨b, o + i * 3 + 2, none⟩ = some (.int .i64 p.r)
def PinSl (w : World) (pa : Option Addr) (pl pc : Nat) (ps : List PinD) : Prop := pl = ps.length ∧ ps.length ≤ 2000000 ∧ pl ≤ pc ∧ pc ≤ 9000000 ∧ PinsAt w pa ps
def RelsAt (R : World → Option Addr → Nat → Nat → List PinD → Prop) (w : World) (a : Option Addr) (rs : List (List PinD)) : Prop := ∀ i ps, rs[i]? = some ps → ∃ b o pa pl pc, a = some ⟨b, o, none⟩ ∧ w.cell? ⟨b, o + i, none⟩ = some (.slice pa pl pc) ∧ R w pa pl pc ps
def RelSl (R : World → Option Addr → Nat → Nat → List PinD → Prop) (w : World) (ra : Option Addr) (rl rc : Nat) (rs : List (List PinD)) : Prop := rl = rs.length ∧ rs.length ≤ 2000000 ∧ rl ≤ rc ∧ rc ≤ 9000000 ∧ RelsAt R w ra rs
def SvcsAt (Q : World → Option Addr → Nat → Nat → List (List PinD) → Prop) (w : World) (a : Option Addr) (vs : List SvcD) : Prop := ∀ i v, vs[i]? = some v → ∃ b o ra rl rc, a = some ⟨b, o, none⟩ ∧
  w.cell? ⟨b, o + i * 4, none⟩ = some (.int .i64 v.size) ∧ w.cell? ⟨b, o + i * 4 + 1, none⟩ = some (.int .i64 v.now) ∧ w.cell? ⟨b, o + i * 4 + 2, none⟩ = some (.int .i64 v.want) ∧ w.cell? ⟨b, o + i * 4 + 3, none⟩ = some (.slice ra rl rc) ∧ Q w ra rl rc v.rels
theorem StrsAt.keep {w w' : World} (hb : Below w.heap.size w w') {a : Option Addr} {ss : List ByteArray} (h : StrsAt w a ss) : StrsAt w' a ss := fun i s hi => by
  obtain ⟨b, o, h1, h2⟩ := h i s hi
  exact ⟨b, o, h1, cell_keep hb h2⟩
theorem IntsAt.keep {w w' : World} (hb : Below w.heap.size w w') {a : Option Addr} {ns : List Int} (h : IntsAt w a ns) : IntsAt w' a ns := fun i s hi => by
  obtain ⟨b, o, h1, h2⟩ := h i s hi
  exact ⟨b, o, h1, cell_keep hb h2⟩
theorem PinsAt.keep {w w' : World} (hb : Below w.heap.size w w') {a : Option Addr} {ps : List PinD} (h : PinsAt w a ps) : PinsAt w' a ps := fun i s hi => by
  obtain ⟨b, o, h1, h2, h3, h4⟩ := h i s hi
  exact ⟨b, o, h1, cell_keep hb h2, cell_keep hb h3, cell_keep hb h4⟩
theorem PinSl.keep {w w' : World} (hb : Below w.heap.size w w') {a : Option Addr} {l c : Nat} {ps : List PinD} (h : PinSl w a l c ps) : PinSl w' a l c ps := ⟨h.1, h.2.1, h.2.2.1, h.2.2.2.1, h.2.2.2.2.keep hb⟩
theorem RelSl.keep {R : World → Option Addr → Nat → Nat → List PinD → Prop} {w w' : World} (hR : ∀ a l c ps, R w a l c ps → R w' a l c ps) (hb : Below w.heap.size w w') {a : Option Addr} {l c : Nat} {rs : List (List PinD)} (h : RelSl R w a l c rs) : RelSl R w' a l c rs := ⟨h.1, h.2.1, h.2.2.1, h.2.2.2.1, fun i ps hi => by
  obtain ⟨b, o, pa, pl, pc, h1, h2, h3⟩ := h.2.2.2.2 i ps hi
  exact ⟨b, o, pa, pl, pc, h1, cell_keep hb h2, hR _ _ _ _ h3⟩⟩
theorem SvcsAt.keep {Q : World → Option Addr → Nat → Nat → List (List PinD) → Prop} {w w' : World} (hQ : ∀ a l c rs, Q w a l c rs → Q w' a l c rs) (hb : Below w.heap.size w w') {a : Option Addr} {vs : List SvcD} (h : SvcsAt Q w a vs) : SvcsAt Q w' a vs := fun i v hi => by
  obtain ⟨b, o, ra, rl, rc, h1, h2, h3, h4, h5, h6⟩ := h i v hi
  exact ⟨b, o, ra, rl, rc, h1, cell_keep hb h2, cell_keep hb h3, cell_keep hb h4, cell_keep hb h5, hQ _ _ _ _ h6⟩
theorem PinsAt.take {w : World} {a : Option Addr} {ps : List PinD} (h : PinsAt w a ps) (k : Nat) : PinsAt w a (ps.take k) := fun i p hi => h i p (by
  rw [List.getElem?_take] at hi
  split at hi
  · exact hi
  · cases hi)
theorem all_range (F : Nat → Bool) (x : Nat) : (List.range (x + 1)).all F = ((List.range x).all F && F x) := by rw [List.range_succ, List.all_append]; simp
theorem all_range_no {F : Nat → Bool} {x n : Nat} (hx : x < n) (h : F x = false) : (List.range n).all F = false := by
  cases hc : (List.range n).all F with
  | false => rfl
  | true => rw [List.all_eq_true] at hc; rw [hc x (List.mem_range.2 hx)] at h; cases h
def numB (n c : Int) : Bool := decide (0 ≤ n) && decide (n < c)
def pinB (ns nt : Nat) (p : PinD) : Bool := numB p.t nt && ((p.w == -1) || numB p.w ns) && ((p.r == -1) || numB p.r ns)

set_option maxHeartbeats 1000000 in
theorem isNumber_any (n c : Int) (w : World) : Calls Try.prog 103 #[.int .i64 n, .int .i64 c] w fun e w' => e = .returned (.bool (numB n c)) ∧ w = w' := by
  unfold numB
  by_cases h0 : 0 ≤ n
  · go_enter Try.func103, Try.ntmps103
    go_wp2_with fail
    go_ret
    exact ⟨ret_bool (by simp [h0]), rfl⟩
  · go_enter Try.func103, Try.ntmps103
    go_wp2_with fail
    go_ret
    exact ⟨ret_bool (by simp; omega), rfl⟩
theorem any_take {ps : List PinD} {x : Nat} {p : PinD} (f : PinD → Bool) (h : ps[x]? = some p) : (ps.take (x + 1)).any f = ((ps.take x).any f || f p) := by
  rw [List.take_add_one, h, List.any_append]; simp
set_option maxHeartbeats 1000000 in
theorem isForTopic_any (ps : List PinD) (t : Int) (w : World) (a : Option Addr) (cap : Nat) (hl : ps.length ≤ 2000000) (hp : PinsAt w a ps) :
    Calls Try.prog 109 #[.slice a ps.length cap, .int .i64 t] w fun e w' => e = .returned (.bool (ps.any fun q => q.t == t)) ∧ Below w.heap.size w w' := by
  obtain ⟨R, hR⟩ : ∃ R, R = ps.any fun q => q.t == t := ⟨_, rfl⟩
  rw [← hR]
  have HR : Hid (R = ps.any fun q => q.t == t) := hR
  clear hR
  go_enter Try.func109, Try.ntmps109
  go_wp2_with fail
  go_loopw [9] (fun vi wr => ∃ i : Nat, i ≤ ps.length ∧ vi = .int .i64 i ∧ Hid (((ps.take i).any fun q => q.t == t) = false) ∧ Below w.heap.size w wr) (fun i _ => ps.length - (intOf i).toNat)
  case atStart => exact ⟨0, Nat.zero_le _, rfl, (by show _ = _; rfl), Below.refl _ _⟩
  case round =>
    obtain ⟨i, hi, rfl, hn, hb⟩ := hrel
    by_cases hlt : i < ps.length
    · obtain ⟨p, hpi⟩ : ∃ p, ps[i]? = some p := ⟨ps[i], List.getElem?_eq_getElem hlt⟩
      obtain ⟨b, o, rfl, c0, c1, c2⟩ := hp i p hpi
      have c0 := cell_keep hb c0
      have c1 := cell_keep hb c1
      have c2 := cell_keep hb c2
      have hbl := lt_of_cell c0
      have hsn := any_take (fun q => q.t == t) hpi
      by_cases ht : p.t = t
      · have hR1 : R = true := by
          rw [HR.out, List.any_eq_true]
          exact ⟨p, List.mem_of_getElem? hpi, by simp [ht]⟩
        have ht' : (p.t == t) = true := by simp [ht]
        clear HR hn hsn hpi ht
        subst hR1
        go_wp2_with fail
        go_ret
        exact ⟨rfl, Below.alloc' hb _⟩
      · have ht' : (p.t == t) = false := by simp [ht]
        have hn' : Hid (((ps.take (i + 1)).any fun q => q.t == t) = false) := by show _ = _; rw [hsn, hn.out, ht']; rfl
        clear HR hn hsn hpi ht
        go_wp2_with fail
        go_roundw
        case rel => exact ⟨i + 1, by omega, by go_num, hn', Below.alloc' hb _⟩
        case measure => simp [intOf]; omega
    · have hR1 : R = false := by rw [HR.out]; have := hn.out; rw [List.take_of_length_le (by omega)] at this; exact this
      clear HR hn
      subst hR1
      go_wp2_with fail
      go_ret
      exact ⟨rfl, hb⟩
set_option maxHeartbeats 8000000 in
theorem pinInOrder_any (ns nt : Nat) (p : PinD) (sa ta va : Option Addr) (sc tc vl vc : Nat) (hns : ns ≤ 2000000) (hnt : nt ≤ 2000000) (w : World) :
    Calls Try.prog 108 #[.agg #[.slice sa ns sc, .slice ta nt tc, .slice va vl vc], .agg #[.int .i64 p.t, .int .i64 p.w, .int .i64 p.r]] w fun e w' => e = .returned (.bool (pinB ns nt p)) ∧ Below w.heap.size w w' := by
  obtain ⟨x, y, z⟩ := p
  have h1 := fun w => isNumber_any x nt w
  have h2 := fun w => isNumber_any y ns w
  have h3 := fun w => isNumber_any z ns w
  have hr : Hid (pinB ns nt ⟨x, y, z⟩ = (numB x nt && ((y == -1) || numB y ns) && ((z == -1) || numB z ns))) := rfl
  generalize numB x nt = b1 at h1 hr
  generalize numB y ns = b2 at h2 hr
  generalize numB z ns = b3 at h3 hr
  simp only
  have key : ∀ (y0 z0 : Bool), (y == -1) = y0 → (z == -1) = z0 → (y0 = true ∨ b2 = true ∨ b2 = false) → (z0 = true ∨ b3 = true ∨ b3 = false) → (b1 = true ∨ b1 = false) → Hid (pinB ns nt ⟨x, y, z⟩ = (b1 && (y0 || b2) && (z0 || b3))) → Calls Try.prog 108 #[.agg #[.slice sa ns sc, .slice ta nt tc, .slice va vl vc], .agg #[.int .i64 x, .int .i64 y, .int .i64 z]] w fun e w' => e = .returned (.bool (pinB ns nt ⟨x, y, z⟩)) ∧ Below w.heap.size w w' := by
    intro y0 z0 hy hz c1 c2 c3 hr
    cases y0
    · cases z0
      · rcases c3 with rfl | rfl <;> rcases c1 with h | rfl | rfl <;> (try cases h) <;> rcases c2 with h | rfl | rfl <;> (try cases h) <;> (
        go_enter Try.func108, Try.ntmps108
        go_wp2_with (first | (go_at_call 103; have hq := m2; refine (h1 _).mono ?_; rintro e _ ⟨rfl, rfl⟩; have m3 : True := trivial) | (go_at_call 103; have hq := m1; refine (h3 _).mono ?_; rintro e _ ⟨rfl, rfl⟩; have m2 : True := trivial) | (go_at_call 103;  refine (h2 _).mono ?_; rintro e _ ⟨rfl, rfl⟩; have m1 : True := trivial))
        go_ret
        exact ⟨ret_bool (by rw [hr.out]; rfl), Below.alloc' (Below.alloc' (Below.refl _ _) _) _⟩)
      · rcases c3 with rfl | rfl <;> rcases c1 with h | rfl | rfl <;> (try cases h) <;> (
        clear c2
        go_enter Try.func108, Try.ntmps108
        go_wp2_with (first | (go_at_call 103; have hq := m1; refine (h1 _).mono ?_; rintro e _ ⟨rfl, rfl⟩; have m2 : True := trivial) | (go_at_call 103;  refine (h2 _).mono ?_; rintro e _ ⟨rfl, rfl⟩; have m1 : True := trivial))
        go_ret
        exact ⟨ret_bool (by rw [hr.out]; rfl), Below.alloc' (Below.alloc' (Below.refl _ _) _) _⟩)
    · cases z0
      · rcases c3 with rfl | rfl <;> rcases c2 with h | rfl | rfl <;> (try cases h) <;> (
        clear c1
        go_enter Try.func108, Try.ntmps108
        go_wp2_with (first | (go_at_call 103; have hq := m1; refine (h1 _).mono ?_; rintro e _ ⟨rfl, rfl⟩; have m2 : True := trivial) | (go_at_call 103;  refine (h3 _).mono ?_; rintro e _ ⟨rfl, rfl⟩; have m1 : True := trivial))
        go_ret
        exact ⟨ret_bool (by rw [hr.out]; rfl), Below.alloc' (Below.alloc' (Below.refl _ _) _) _⟩)
      · rcases c3 with rfl | rfl <;> (
        clear c1
        clear c2
        go_enter Try.func108, Try.ntmps108
        go_wp2_with (first | (go_at_call 103;  refine (h1 _).mono ?_; rintro e _ ⟨rfl, rfl⟩; have m1 : True := trivial))
        go_ret
        exact ⟨ret_bool (by rw [hr.out]; rfl), Below.alloc' (Below.alloc' (Below.refl _ _) _) _⟩)
  refine key _ _ rfl rfl ?_ ?_ ?_ hr
  · cases b2 <;> simp
  · cases b3 <;> simp
  · cases b1 <;> simp
end Go.Proofs.Ytkkekopomiehlaa
