import Derived.Test.YtkkekopomiehlaaFl1
import Derived.Deep.RegionHeld3
set_option linter.unusedVariables false
set_option linter.unusedSimpArgs false
set_option maxRecDepth 4000
namespace Go.Proofs.Ytkkekopomiehlaa
open Go.RowKit

theorem box3 (w : World) (v0 v1 v2 : Value) (t : TypeId) : (w.alloc (.cells #[v0, v1, v2] t)).cell? ⟨w.heap.size, 0, none⟩ = some v0 ∧ (w.alloc (.cells #[v0, v1, v2] t)).cell? ⟨w.heap.size, 1, none⟩ = some v1 ∧ (w.alloc (.cells #[v0, v1, v2] t)).cell? ⟨w.heap.size, 2, none⟩ = some v2 :=
  ⟨cell_last rfl rfl, cell_last rfl rfl, cell_last rfl rfl⟩
theorem keep3 {W w1 : World} (hb : Below W.heap.size W w1) {b : Nat} {v0 v1 v2 : Value} (h : W.cell? ⟨b, 0, none⟩ = some v0 ∧ W.cell? ⟨b, 1, none⟩ = some v1 ∧ W.cell? ⟨b, 2, none⟩ = some v2) : w1.cell? ⟨b, 0, none⟩ = some v0 ∧ w1.cell? ⟨b, 1, none⟩ = some v1 ∧ w1.cell? ⟨b, 2, none⟩ = some v2 :=
  ⟨cell_keep hb h.1, cell_keep hb h.2.1, cell_keep hb h.2.2⟩
theorem new3 {W : World} (o : Obj) {b : Nat} {v0 v1 v2 : Value} (h : W.cell? ⟨b, 0, none⟩ = some v0 ∧ W.cell? ⟨b, 1, none⟩ = some v1 ∧ W.cell? ⟨b, 2, none⟩ = some v2) : (W.alloc o).cell? ⟨b, 0, none⟩ = some v0 ∧ (W.alloc o).cell? ⟨b, 1, none⟩ = some v1 ∧ (W.alloc o).cell? ⟨b, 2, none⟩ = some v2 :=
  ⟨cell_new _ h.1, cell_new _ h.2.1, cell_new _ h.2.2⟩
theorem both3 {A B : Prop} (a : A) (b : B) : A ∧ B := ⟨a, b⟩
theorem keep6 {W w1 : World} (hb : Below W.heap.size W w1) {b c : Nat} {v0 v1 v2 u0 u1 u2 : Value} (h : (W.cell? ⟨b, 0, none⟩ = some v0 ∧ W.cell? ⟨b, 1, none⟩ = some v1 ∧ W.cell? ⟨b, 2, none⟩ = some v2) ∧ W.cell? ⟨c, 0, none⟩ = some u0 ∧ W.cell? ⟨c, 1, none⟩ = some u1 ∧ W.cell? ⟨c, 2, none⟩ = some u2) :
    (w1.cell? ⟨b, 0, none⟩ = some v0 ∧ w1.cell? ⟨b, 1, none⟩ = some v1 ∧ w1.cell? ⟨b, 2, none⟩ = some v2) ∧ w1.cell? ⟨c, 0, none⟩ = some u0 ∧ w1.cell? ⟨c, 1, none⟩ = some u1 ∧ w1.cell? ⟨c, 2, none⟩ = some u2 := ⟨keep3 hb h.1, keep3 hb h.2⟩
theorem bel1 (w : World) (o : Obj) : Below w.heap.size w (w.alloc o) := (Below.refl _ _).alloc (Nat.le_refl _) _
theorem thn3 {w W w1 : World} (h : Below w.heap.size w W) (k : Below W.heap.size W w1) : Below w.heap.size w w1 := h.trans (k.mono h.size)
def pinK (ns nt : Nat) (ps : List PinD) (k : Nat) : Bool :=
  match ps[k]? with
  | some p => pinB ns nt p && !((ps.take k).any fun q => q.t == p.t)
  | none => true
def pinsB (ns nt : Nat) (ps : List PinD) : Bool := decide (ps.length ≤ 4) && (List.range ps.length).all (pinK ns nt ps)
set_option maxHeartbeats 2000000 in
theorem pinsInOrder_any (ns nt : Nat) (ps : List PinD) (sa ta va : Option Addr) (sc tc vl vc : Nat) (hns : ns ≤ 2000000) (hnt : nt ≤ 2000000) (w : World) (a : Option Addr) (l cap : Nat) (hp : PinSl w a l cap ps) :
    Calls Try.prog 104 #[.agg #[.slice sa ns sc, .slice ta nt tc, .slice va vl vc], .slice a l cap] w fun e w' => e = .returned (.bool (pinsB ns nt ps)) ∧ Below w.heap.size w w' := by
  obtain ⟨rfl, hl, hlc, hc9, hp⟩ := hp
  obtain ⟨R, hR⟩ : ∃ R, R = pinsB ns nt ps := ⟨_, rfl⟩
  rw [← hR]
  by_cases h4 : ps.length ≤ 4
  · have HR : Hid (R = (List.range ps.length).all (pinK ns nt ps)) := by show _ = _; rw [hR]; unfold pinsB; rw [decide_eq_true h4]; rfl
    clear hR
    go_enter Try.func104, Try.ntmps104
    go_wp2_with fail
    go_loopw [12] (fun vi wr => ∃ i : Nat, i ≤ ps.length ∧ vi = .int .i64 i ∧ Hid ((List.range i).all (pinK ns nt ps) = true) ∧ Below (w.alloc (.cells #[.slice sa ns sc, .slice ta nt tc, .slice va vl vc] 33)).heap.size (w.alloc (.cells #[.slice sa ns sc, .slice ta nt tc, .slice va vl vc] 33)) wr) (fun i _ => ps.length - (intOf i).toNat)
    case atStart => exact ⟨0, Nat.zero_le _, rfl, (by show _ = _; rfl), Below.refl _ _⟩
    case round =>
      obtain ⟨i, hi, rfl, hn, hb⟩ := hrel
      have hbw := thn3 (bel1 w _) hb
      by_cases hlt : i < ps.length
      · obtain ⟨p, hpi⟩ : ∃ p, ps[i]? = some p := ⟨ps[i], List.getElem?_eq_getElem hlt⟩
        obtain ⟨b, o, rfl, c0, c1, c2⟩ := hp i p hpi
        have c0 := cell_keep hbw c0
        have c1 := cell_keep hbw c1
        have c2 := cell_keep hbw c2
        have hbl := lt_of_cell c0
        obtain ⟨f0, f1, f2⟩ := keep3 hb (box3 w _ _ _ _)
        have hfl : w.heap.size < wr.heap.size := lt_of_cell f0
        have hx0 : (0 : Int) ≤ (i : Int) := Int.natCast_nonneg _
        have hx1 : (i : Int) ≤ (cap : Int) := by omega
        have hx2 : (i : Int) ≤ (ps.length : Int) := by omega
        have hcall := fun W => pinInOrder_any ns nt p sa ta va sc tc vl vc hns hnt W
        have hfor := fun (W : World) (h : Below w.heap.size w W) => isForTopic_any (ps.take i) p.t W (some ⟨b, o, none⟩) cap (by rw [List.length_take]; omega) ((hp.take i).keep h)
        rw [List.length_take, Nat.min_eq_left (by omega)] at hfor
        have hK : pinK ns nt ps i = (pinB ns nt p && !((ps.take i).any fun q => q.t == p.t)) := by unfold pinK; rw [hpi]
        generalize pinB ns nt p = x1 at hcall hK
        generalize ((ps.take i).any fun q => q.t == p.t) = x2 at hfor hK
        have hno : pinK ns nt ps i = false → R = false := fun h => by rw [HR.out]; exact all_range_no hlt h
        have hyes : pinK ns nt ps i = true → Hid ((List.range (i + 1)).all (pinK ns nt ps) = true) := fun h => by show _ = _; rw [all_range, hn.out, h]; rfl
        rw [hK] at hno hyes
        clear hK hpi hn HR hp
        obtain ⟨x, y, z⟩ := p
        simp only at c0 c1 c2 hcall hfor
        cases x1 with
        | false =>
          have hR1 := hno rfl
          clear hno hyes hfor
          subst hR1
          have e0 := both3 (new3 (.cells #[.int .i64 x, .int .i64 y, .int .i64 z] 92) ⟨f0, f1, f2⟩) (box3 wr (.int .i64 x) (.int .i64 y) (.int .i64 z) 92)
          go_wp2_with fail
          first | go_region_with (first | (go_at_call 108; refine (hcall _).mono ?_; rintro e w3 ⟨rfl, hb3⟩; have e1 := keep6 hb3 e0)) | fail
          all_goals
            go_wp2_with fail
            go_ret
            first | exact ⟨rfl, thn3 (thn3 hbw (bel1 _ _)).drew hb3⟩ | exact ⟨rfl, thn3 (thn3 hbw (bel1 _ _)) hb3⟩
        | true =>
          cases x2 with
          | true =>
            have hR1 := hno rfl
            clear hno hyes
            subst hR1
            have e0 := both3 (new3 (.cells #[.int .i64 x, .int .i64 y, .int .i64 z] 92) ⟨f0, f1, f2⟩) (box3 wr (.int .i64 x) (.int .i64 y) (.int .i64 z) 92)
            go_wp2_with fail
            go_region_held3 (fun w' => (w'.cell? ⟨w.heap.size, 0, none⟩ = some (.slice sa ns sc) ∧ w'.cell? ⟨w.heap.size, 1, none⟩ = some (.slice ta nt tc) ∧ w'.cell? ⟨w.heap.size, 2, none⟩ = some (.slice va vl vc)) ∧ w'.cell? ⟨wr.heap.size, 0, none⟩ = some (.int .i64 x) ∧ w'.cell? ⟨wr.heap.size, 1, none⟩ = some (.int .i64 y) ∧ w'.cell? ⟨wr.heap.size, 2, none⟩ = some (.int .i64 z)) (go_keep) (first | (go_at_call 108; refine (hcall _).mono ?_; rintro e w3 ⟨rfl, hb3⟩; have e1 := keep6 hb3 e0) | (go_at_call 109; refine (hfor _ (by first | exact thn3 (thn3 hbw (bel1 _ _)).drew hb3 | exact thn3 (thn3 hbw (bel1 _ _)) hb3)).mono ?_; rintro e w4 ⟨rfl, hb4⟩; have e2 := keep6 hb4 e1))
            go_wp2_with fail
            go_ret
            first | exact ⟨rfl, thn3 (thn3 (thn3 hbw (bel1 _ _)).drew hb3) hb4⟩ | exact ⟨rfl, thn3 (thn3 (thn3 hbw (bel1 _ _)) hb3) hb4⟩
          | false =>
            have hy := hyes rfl
            clear hno hyes
            have e0 := both3 (new3 (.cells #[.int .i64 x, .int .i64 y, .int .i64 z] 92) ⟨f0, f1, f2⟩) (box3 wr (.int .i64 x) (.int .i64 y) (.int .i64 z) 92)
            go_wp2_with fail
            go_region_held3 (fun w' => (w'.cell? ⟨w.heap.size, 0, none⟩ = some (.slice sa ns sc) ∧ w'.cell? ⟨w.heap.size, 1, none⟩ = some (.slice ta nt tc) ∧ w'.cell? ⟨w.heap.size, 2, none⟩ = some (.slice va vl vc)) ∧ w'.cell? ⟨wr.heap.size, 0, none⟩ = some (.int .i64 x) ∧ w'.cell? ⟨wr.heap.size, 1, none⟩ = some (.int .i64 y) ∧ w'.cell? ⟨wr.heap.size, 2, none⟩ = some (.int .i64 z)) (go_keep) (first | (go_at_call 108; refine (hcall _).mono ?_; rintro e w3 ⟨rfl, hb3⟩; have e1 := keep6 hb3 e0) | (go_at_call 109; refine (hfor _ (by first | exact thn3 (thn3 hbw (bel1 _ _)).drew hb3 | exact thn3 (thn3 hbw (bel1 _ _)) hb3)).mono ?_; rintro e w4 ⟨rfl, hb4⟩; have e2 := keep6 hb4 e1))
            go_wp2_with fail
            go_roundw
            case rel => first | exact ⟨i + 1, by omega, by go_num, hy, thn3 (thn3 (thn3 hb (bel1 _ _)).drew hb3) hb4⟩ | exact ⟨i + 1, by omega, by go_num, hy, thn3 (thn3 (thn3 hb (bel1 _ _)) hb3) hb4⟩
            case measure => simp [intOf]; omega
      · have hR1 : R = true := by rw [HR.out, ← hn.out, show i = ps.length by omega]
        clear HR hn
        subst hR1
        go_wp2_with fail
        go_ret
        exact ⟨rfl, hbw⟩
  · have hR1 : R = false := by rw [hR]; unfold pinsB; rw [decide_eq_false h4]; rfl
    clear hR
    subst hR1
    go_enter Try.func104, Try.ntmps104
    go_wp2_with fail
    go_ret
    exact ⟨rfl, bel1 _ _⟩
end Go.Proofs.Ytkkekopomiehlaa
