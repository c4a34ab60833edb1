import Derived.Test.YtkkekopomiehlaaFl3
set_option linter.unusedVariables false
set_option linter.unusedSimpArgs false
set_option maxRecDepth 4000
namespace Go.Proofs.Ytkkekopomiehlaa
open Go.RowKit

def svcsB (ns nt : Nat) (vs : List SvcD) : Bool := decide (1 ≤ vs.length) && decide (vs.length ≤ 3) && vs.all (svcB ns nt)
theorem RelSl.keepP {w w' : World} (hb : Below w.heap.size w w') {a : Option Addr} {l c : Nat} {rs : List (List PinD)} (h : RelSl PinSl w a l c rs) : RelSl PinSl w' a l c rs := h.keep (fun _ _ _ _ h => h.keep hb) hb
set_option maxHeartbeats 4000000 in
theorem servicesInOrder_any (ns nt : Nat) (vs : List SvcD) (sa ta va : Option Addr) (sc tc vl vc : Nat) (hns : ns ≤ 2000000) (hnt : nt ≤ 2000000) (w : World) (hvl : vl = vs.length) (hvs : vs.length ≤ 2000000) (hp : SvcsAt (RelSl PinSl) w va vs) :
    Calls Try.prog 57 #[.agg #[.slice sa ns sc, .slice ta nt tc, .slice va vl vc]] w fun e w' => e = .returned (.bool (svcsB ns nt vs)) ∧ Below w.heap.size w w' := by
  obtain ⟨R, hR⟩ : ∃ R, R = svcsB ns nt vs := ⟨_, rfl⟩
  rw [← hR]
  unfold svcsB at hR
  subst hvl
  by_cases h1 : 1 ≤ vs.length
  · by_cases h2 : vs.length ≤ 3
    · rw [decide_eq_true h1, decide_eq_true h2] at hR
      simp only [Bool.true_and] at hR
      have HR : Hid (R = vs.all (svcB ns nt)) := hR
      clear hR
      go_enter Try.func57, Try.ntmps57
      go_wp2_with fail
      go_loopw [18] (fun vi wr => ∃ i : Nat, i ≤ vs.length ∧ vi = .int .i64 i ∧ Hid ((vs.take i).all (svcB ns nt) = true) ∧ Below (w.alloc (.cells #[.slice sa ns sc, .slice ta nt tc, .slice va vs.length vc] 33)).heap.size (w.alloc (.cells #[.slice sa ns sc, .slice ta nt tc, .slice va vs.length vc] 33)) wr) (fun i _ => vs.length - (intOf i).toNat)
      case atStart => exact ⟨0, Nat.zero_le _, rfl, (by show _ = _; rfl), Below.refl _ _⟩
      case round =>
        obtain ⟨i, hi, rfl, hn, hb⟩ := hrel
        have hbw := thn3 (bel1 _ _) hb
        by_cases hlt : i < vs.length
        · obtain ⟨v, hvi⟩ : ∃ v, vs[i]? = some v := ⟨vs[i], List.getElem?_eq_getElem hlt⟩
          obtain ⟨b, o, ra, rl, rc, rfl, c0, c1, c2, c3, hrs⟩ := hp i v hvi
          have c0 := cell_keep hbw c0
          have c1 := cell_keep hbw c1
          have c2 := cell_keep hbw c2
          have c3 := cell_keep hbw c3
          have hbl := lt_of_cell c0
          obtain ⟨f0, f1, f2⟩ := keep3 hb (box3 w _ _ _ _)
          have hfl : w.heap.size < wr.heap.size := lt_of_cell f0
          have hcall := fun (W : World) (h : Below wr.heap.size wr W) => serviceInOrder_any ns nt v sa ta (some ⟨b, o, none⟩) sc tc vs.length vc hns hnt W ra rl rc (RelSl.keepP (thn3 hbw h) hrs)
          have hsn := all_take (svcB ns nt) hvi
          have hno : svcB ns nt v = false → R = false := fun h => by rw [HR.out]; exact all_no hvi h
          rw [hn.out, Bool.true_and] at hsn
          generalize svcB ns nt v = x at hcall hsn hno
          have hx0 : (0 : Int) ≤ (i : Int) := Int.natCast_nonneg _
          have hx1 : (i : Int) < (vs.length : Int) := by omega
          obtain ⟨sz, nw, wn, rels⟩ := v
          simp only at c0 c1 c2 c3 hcall
          clear hvi hrs hn HR hp
          cases x with
          | false =>
            have hR1 := hno rfl
            clear hno hsn
            subst hR1
            go_wp2_with (go_at_call 87; refine (hcall _ (bel1 _ _)).mono ?_; rintro e w3 ⟨rfl, hb3⟩)
            go_ret
            exact ⟨rfl, thn3 (thn3 hbw (bel1 _ _)) hb3⟩
          | true =>
            have hy : Hid ((vs.take (i + 1)).all (svcB ns nt) = true) := hsn
            clear hno hsn
            go_wp2_with (go_at_call 87; refine (hcall _ (bel1 _ _)).mono ?_; rintro e w3 ⟨rfl, hb3⟩)
            go_roundw
            case rel => exact ⟨i + 1, by omega, by go_num, hy, thn3 (thn3 hb (bel1 _ _)) hb3⟩
            case measure => simp [intOf]; omega
        · have hR1 : R = true := by rw [HR.out, ← hn.out, List.take_of_length_le (by omega)]
          clear HR hn
          subst hR1
          go_wp2_with fail
          go_ret
          exact ⟨rfl, hbw⟩
    · have hR1 : R = false := by rw [hR, decide_eq_false h2]; simp
      clear hR
      subst hR1
      go_enter Try.func57, Try.ntmps57
      go_wp2_with fail
      go_ret
      exact ⟨rfl, bel1 _ _⟩
  · have hR1 : R = false := by rw [hR, decide_eq_false h1]; simp
    have h0 : vs.length = 0 := by omega
    clear hR h1
    subst hR1
    go_enter Try.func57, Try.ntmps57
    go_wp2_with fail
    go_ret
    exact ⟨rfl, bel1 _ _⟩
def topB (k : Int) : Bool := decide (0 ≤ k) && decide (k ≤ 6)
def topsB (ts : List Int) : Bool := decide (ts.length ≤ 4) && ts.all topB
set_option maxHeartbeats 2000000 in
theorem topicsInOrder_any (ts : List Int) (w : World) (a : Option Addr) (cap : Nat) (hl : ts.length ≤ 2000000) (hp : IntsAt w a ts) :
    Calls Try.prog 56 #[.slice a ts.length cap] w fun e w' => e = .returned (.bool (topsB ts)) ∧ Below w.heap.size w w' := by
  obtain ⟨R, hR⟩ : ∃ R, R = topsB ts := ⟨_, rfl⟩
  rw [← hR]
  unfold topsB at hR
  by_cases h2 : ts.length ≤ 4
  · rw [decide_eq_true h2] at hR
    simp only [Bool.true_and] at hR
    have HR : Hid (R = ts.all topB) := hR
    clear hR
    go_enter Try.func56, Try.ntmps56
    go_wp2_with fail
    go_loopw [10] (fun vi wr => ∃ i : Nat, i ≤ ts.length ∧ vi = .int .i64 i ∧ Hid ((ts.take i).all topB = true) ∧ Below w.heap.size w wr) (fun i _ => ts.length - (intOf i).toNat)
    case atStart => exact ⟨0, Nat.zero_le _, rfl, (by show _ = _; rfl), Below.refl _ _⟩
    case round =>
      obtain ⟨i, hi, rfl, hn, hb⟩ := hrel
      by_cases hlt : i < ts.length
      · obtain ⟨k, hki⟩ : ∃ k, ts[i]? = some k := ⟨ts[i], List.getElem?_eq_getElem hlt⟩
        obtain ⟨b, o, rfl, c0⟩ := hp i k hki
        have c0 := cell_keep hb c0
        have hbl := lt_of_cell c0
        have hsn := all_take topB hki
        have hno : topB k = false → R = false := fun h => by rw [HR.out]; exact all_no hki h
        rw [hn.out, Bool.true_and] at hsn
        have hx0 : (0 : Int) ≤ (i : Int) := Int.natCast_nonneg _
        have hx1 : (i : Int) < (ts.length : Int) := by omega
        clear hki hn HR hp
        by_cases hk : 0 ≤ k ∧ k ≤ 6
        · obtain ⟨k0, k6⟩ := hk
          have hy : Hid ((ts.take (i + 1)).all topB = true) := by show _ = _; rw [hsn]; unfold topB; simp; omega
          clear hno hsn
          go_wp2_with fail
          go_roundw
          case rel => exact ⟨i + 1, by omega, by go_num, hy, thn3 hb (bel1 _ _)⟩
          case measure => simp [intOf]; omega
        · have hR1 := hno (by unfold topB; simp; omega)
          clear hno hsn
          subst hR1
          by_cases k0 : 0 ≤ k
          · have k6 : 6 < k := by omega
            clear hk
            go_wp2_with fail
            go_ret
            exact ⟨rfl, thn3 hb (bel1 _ _)⟩
          · clear hk
            go_wp2_with fail
            go_ret
            exact ⟨rfl, thn3 hb (bel1 _ _)⟩
      · have hR1 : R = true := by rw [HR.out, ← hn.out, List.take_of_length_le (by omega)]
        clear HR hn
        subst hR1
        go_wp2_with fail
        go_ret
        exact ⟨rfl, hb⟩
  · have hR1 : R = false := by rw [hR, decide_eq_false h2]; simp
    clear hR
    subst hR1
    go_enter Try.func56, Try.ntmps56
    go_wp2_with fail
    go_ret
    exact ⟨rfl, Below.refl _ _⟩
/-- A text that is a schema. -/
def schB (s : ByteArray) : Bool := decide (s.size ≤ 60) && (pAll false s).isSome
def schsB (ss : List ByteArray) : Bool := decide (ss.length ≤ 8) && ss.all schB
set_option maxHeartbeats 1000000 in
theorem Parse_ok (s : ByteArray) (hs : s.size ≤ maxLen) (w : World) : Calls Try.prog 33 #[.string s] w fun e w' => ∃ (k : Int) (l : ByteArray) (o : Bool) (ai af : Option Addr) (li ci lf cf : Nat), e = .returned (.tuple #[.agg #[.int .i64 k, .string l, .bool o, .slice ai li ci, .slice af lf cf], .bool (schB s)]) ∧ Below w.heap.size w w' := by
  by_cases h : s.size ≤ 60
  · refine (Parse_any h w).mono ?_
    rintro e w' ⟨h1, h2⟩
    unfold schB
    rw [decide_eq_true h]
    cases hx : pAll false s with
    | none => rw [hx] at h1; exact ⟨_, _, _, _, _, _, _, _, _, h1, h2⟩
    | some ty => rw [hx] at h1; obtain ⟨ai, li, ci, af, lf, cf, h1, _⟩ := h1; exact ⟨_, _, _, _, _, _, _, _, _, h1, h2⟩
  · have hz : schB s = false := by unfold schB; rw [decide_eq_false h]; rfl
    rw [hz]
    clear hz
    unfold maxLen at hs
    go_enter Try.func33, Try.ntmps33
    go_wp2_with fail
    exact bodyPost_ret (v := .tuple #[.agg #[.int .i64 0, .string ByteArray.empty, .bool false, .slice none 0 0, .slice none 0 0], .bool false]) (by simp [results, Try.results33, go_sem]; rfl) rfl ⟨_, _, _, _, _, _, _, _, _, rfl, (Below.refl _ _).alloc (Nat.le_refl _) _⟩
set_option maxHeartbeats 2000000 in
theorem schemasInOrder_any (ss : List ByteArray) (w : World) (a : Option Addr) (cap : Nat) (hl : ss.length ≤ 2000000) (hz : ∀ s ∈ ss, s.size ≤ maxLen) (hp : StrsAt w a ss) :
    Calls Try.prog 55 #[.slice a ss.length cap] w fun e w' => e = .returned (.bool (schsB ss)) ∧ Below w.heap.size w w' := by
  obtain ⟨R, hR⟩ : ∃ R, R = schsB ss := ⟨_, rfl⟩
  rw [← hR]
  unfold schsB at hR
  by_cases h2 : ss.length ≤ 8
  · rw [decide_eq_true h2] at hR
    simp only [Bool.true_and] at hR
    have HR : Hid (R = ss.all schB) := hR
    clear hR
    go_enter Try.func55, Try.ntmps55
    go_wp2_with fail
    go_loopw [12] (fun vi wr => ∃ i : Nat, i ≤ ss.length ∧ vi = .int .i64 i ∧ Hid ((ss.take i).all schB = true) ∧ Below w.heap.size w wr) (fun i _ => ss.length - (intOf i).toNat)
    case atStart => exact ⟨0, Nat.zero_le _, rfl, (by show _ = _; rfl), Below.refl _ _⟩
    case round =>
      obtain ⟨i, hi, rfl, hn, hb⟩ := hrel
      by_cases hlt : i < ss.length
      · obtain ⟨s, hsi⟩ : ∃ s, ss[i]? = some s := ⟨ss[i], List.getElem?_eq_getElem hlt⟩
        obtain ⟨b, o, rfl, c0⟩ := hp i s hsi
        have c0 := cell_keep hb c0
        have hbl := lt_of_cell c0
        have hcall := fun W => Parse_ok s (hz s (List.mem_of_getElem? hsi)) W
        have hsn := all_take schB hsi
        have hno : schB s = false → R = false := fun h => by rw [HR.out]; exact all_no hsi h
        rw [hn.out, Bool.true_and] at hsn
        generalize schB s = x at hcall hsn hno
        have hx0 : (0 : Int) ≤ (i : Int) := Int.natCast_nonneg _
        have hx1 : (i : Int) < (ss.length : Int) := by omega
        clear hsi hn HR hp hz
        cases x with
        | false =>
          have hR1 := hno rfl
          clear hno hsn
          subst hR1
          go_wp2_with (go_at_call 33; refine (hcall _).mono ?_; rintro e w3 ⟨k, l, op, ai, af, li, ci, lf, cf, rfl, hb3⟩)
          go_ret
          exact ⟨rfl, thn3 (thn3 hb hb3) (bel1 _ _)⟩
        | true =>
          have hy : Hid ((ss.take (i + 1)).all schB = true) := hsn
          clear hno hsn
          go_wp2_with (go_at_call 33; refine (hcall _).mono ?_; rintro e w3 ⟨k, l, op, ai, af, li, ci, lf, cf, rfl, hb3⟩)
          go_roundw
          case rel => exact ⟨i + 1, by omega, by go_num, hy, thn3 (thn3 hb hb3) (bel1 _ _)⟩
          case measure => simp [intOf]; omega
      · have hR1 : R = true := by rw [HR.out, ← hn.out, List.take_of_length_le (by omega)]
        clear HR hn
        subst hR1
        go_wp2_with fail
        go_ret
        exact ⟨rfl, hb⟩
  · have hR1 : R = false := by rw [hR, decide_eq_false h2]; simp
    clear hR
    subst hR1
    go_enter Try.func55, Try.ntmps55
    go_wp2_with fail
    go_ret
    exact ⟨rfl, Below.refl _ _⟩
end Go.Proofs.Ytkkekopomiehlaa
