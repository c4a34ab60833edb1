import Derived.Test.YtkkekopomiehlaaDoorParse6
set_option linter.unusedVariables false
set_option linter.unusedSimpArgs false
namespace Go.Proofs.YtkkekopomiehlaaDoor
open Go.RowKit

/-- Is the byte at a place (which may be -1) this one? -/
def atB (s : ByteArray) (x c : Int) : Bool := decide (0 ≤ x) && (bAt s x.toNat == c)
theorem atB_nat (s : ByteArray) (i : Nat) (c : Int) : atB s i c = (bAt s i == c) := by simp [atB]
theorem atB_of {s : ByteArray} {x : Int} {i : Nat} (h : x = i) (c : Int) : atB s x c = (bAt s i == c) := by rw [h, atB_nat]
theorem atB_yes {s : ByteArray} {x : Int} {i : Nat} {c : Int} (h : x = i) (hb : bAt s i = c) : atB s x c = true := by rw [atB_of h, hb]; simp
theorem atB_no {s : ByteArray} {x : Int} {i : Nat} {c : Int} (h : x = i) (hb : ¬ bAt s i = c) : atB s x c = false := by rw [atB_of h]; simpa using hb
theorem atB_neg (s : ByteArray) (c : Int) : atB s (-1) c = false := rfl

set_option maxHeartbeats 400000 in
theorem at_any (s : ByteArray) (x c : Int) (w : World) (hc : 0 ≤ c) (_hs : s.size ≤ 9000000) :
    Calls Tryd.prog 61 #[.string s, .int .i64 x, .int .u8 c] w fun e w' => e = .returned (.bool (atB s x c)) ∧ w' = w := by
  by_cases h0 : 0 ≤ x
  · obtain ⟨i, rfl⟩ : ∃ n : Nat, x = n := ⟨x.toNat, by omega⟩
    by_cases hi : i < s.size
    · have hr : Hid (atB s i c = ((s[i].toNat : Int) == c)) := by show _ = _; rw [atB_nat, bAt_in s i hi]
      go_enter Tryd.func61, Tryd.ntmps61
      go_wp2
      all_goals (go_ret; refine ⟨ret_bool ?_, rfl⟩; rw [hr.out]; try simp_all)
    · have hr : Hid (atB s i c = false) := by show _ = _; rw [atB_nat, bAt_out s i (by omega)]; simp; omega
      go_enter Tryd.func61, Tryd.ntmps61
      go_wp2
      go_ret; exact ⟨ret_bool (by rw [hr.out]; try (simp; omega)), rfl⟩
  · have hr : Hid (atB s x c = false) := by show _ = _; unfold atB; simp [h0]
    go_enter Tryd.func61, Tryd.ntmps61
    go_wp2
    go_ret; exact ⟨ret_bool (by rw [hr.out]; try (simp; omega)), rfl⟩

set_option maxHeartbeats 400000 in
theorem risLetter_any (b : Int) (w : World) :
    Calls Tryd.prog 66 #[.int .u8 b] w fun e w' => e = .returned (.bool (isL b)) ∧ w' = w := by
  go_enter Tryd.func66, Tryd.ntmps66
  go_wp2
  all_goals (go_ret; exact ⟨ret_bool (by simp [isL] <;> omega), rfl⟩)
set_option maxHeartbeats 400000 in
theorem printable_any (b : Int) (w : World) :
    Calls Tryd.prog 65 #[.int .u8 b] w fun e w' => e = .returned (.bool (inS b)) ∧ w' = w := by
  go_enter Tryd.func65, Tryd.ntmps65
  go_wp2
  all_goals (go_ret; exact ⟨ret_bool (by simp [inS] <;> omega), rfl⟩)
set_option maxHeartbeats 400000 in
theorem one_any (n : Nat) (w : World) (_hn : n < 256) :
    Calls Tryd.prog 95 #[.int .i64 n] w fun e w' => e = .returned (.string (oneB n)) ∧ Below w.heap.size w w' := by
  have hc := run_convert_bytes_arg (P := Tryd.prog) (w.alloc (.cells #[.int .u8 n] 5)) 59 5 (Tryd.underlying59) (Tryd.underlying5) w.heap.size 0 1 1 [(n : Int)] rfl (fun i hi => by cases i with | zero => simp | succ => omega) 9 (Tryd.underlying9)
  go_enter Tryd.func95, Tryd.ntmps95
  go_wp2
  go_ret
  exact ⟨ret_str (by simp [oneB, strOfNums]), (Below.refl _ _).alloc (Nat.le_refl _) _⟩
theorem one_int (x : Int) (w : World) (h0 : 0 ≤ x) (h1 : x < 256) :
    Calls Tryd.prog 95 #[.int .i64 x] w fun e w' => e = .returned (.string (oneB x.toNat)) ∧ Below w.heap.size w w' := by
  obtain ⟨n, rfl⟩ : ∃ n : Nat, x = n := ⟨x.toNat, by omega⟩
  exact one_any n w (by omega)

set_option maxHeartbeats 400000 in
theorem letters_any (s : ByteArray) (i : Nat) (w : World) (_hs : s.size ≤ 9000000) (hi : i < s.size) :
    Calls Tryd.prog 36 #[.string s, .int .i64 i] w fun e w' => e = .returned (.string (s.extract (i + 1) (runEnd isL s (s.size - (i + 1)) (i + 1)))) ∧ w' = w := by
  obtain ⟨E, hE⟩ : ∃ E, E = runEnd isL s (s.size - (i + 1)) (i + 1) := ⟨_, rfl⟩
  rw [← hE]
  have HE : Hid (E = runEnd isL s (s.size - (i + 1)) (i + 1)) := hE
  clear hE
  go_enter Tryd.func36, Tryd.ntmps36
  go_wp2_with fail
  go_loop [5] (fun v => ∃ k : Nat, i + 1 ≤ k ∧ k ≤ s.size ∧ v = .int .i64 k ∧ Hid (E = runEnd isL s (s.size - k) k)) (fun v => s.size - (intOf v).toNat)
  case atStart => exact ⟨i + 1, Nat.le_refl _, hi, by go_num, HE⟩
  case round =>
    obtain ⟨k, hak, hk, rfl, hp⟩ := hrel
    by_cases hlt : k < s.size
    · have hbk : Hid (bAt s k = s[k].toNat) := bAt_in s k hlt
      cases hl : isL (s[k].toNat : Int) with
      | true =>
        go_wp2_with (go_at_call 66; refine (risLetter_any _ _).mono ?_; rintro e w' ⟨rfl, rfl⟩)
        go_round
        case rel => exact ⟨k + 1, by omega, by omega, by go_num, run_step _ _ _ _ hp.out hlt (by rw [hbk.out]; exact hl)⟩
        case measure => simp [intOf]; omega
      | false =>
        have hEk := run_stop _ _ _ _ hp.out (show isL (bAt s k) = false by rw [hbk.out]; exact hl)
        have HEk : Hid (E = k) := hEk
        clear hEk
        go_wp2_with (go_at_call 66; refine (risLetter_any _ _).mono ?_; rintro e w' ⟨rfl, rfl⟩)
        go_ret
        exact ⟨ret_str (by rw [HEk.out]), rfl⟩
    · have HEk : Hid (E = k) := run_stop _ _ _ _ hp.out (by rw [bAt_out s k (by omega)]; rfl)
      go_wp2_with fail
      go_ret
      exact ⟨ret_str (by rw [HEk.out]), rfl⟩

/-- Does a letter stand twice? -/
def tw (l : ByteArray) : Bool := (List.range l.size).any fun i => (List.range i).any fun j => bAt l i == bAt l j
theorem tw_true {l : ByteArray} {i j : Nat} (h1 : j < i) (h2 : i < l.size) (h : bAt l i = bAt l j) : tw l = true := by
  unfold tw; rw [List.any_eq_true]
  exact ⟨i, by simpa using h2, by rw [List.any_eq_true]; exact ⟨j, by simpa using h1, by simpa using h⟩⟩
theorem tw_false {l : ByteArray} (h : ∀ i j, j < i → i < l.size → bAt l i ≠ bAt l j) : tw l = false := by
  unfold tw; rw [List.any_eq_false]; intro i hi
  simp only [List.mem_range] at hi
  rw [Bool.not_eq_true, List.any_eq_false]
  intro j hj
  simp only [List.mem_range] at hj
  simpa using h i j hj hi

set_option maxHeartbeats 1000000 in
theorem twice_any (l : ByteArray) (w : World) (_hs : l.size ≤ 9000000) :
    Calls Tryd.prog 60 #[.string l] w fun e w' => e = .returned (.bool (tw l)) ∧ Below w.heap.size w w' := by
  go_enter Tryd.func60, Tryd.ntmps60
  go_wp2_with fail
  go_loopw [3] (fun v wr => ∃ i : Nat, i ≤ l.size ∧ v = .int .i64 i ∧ Hid (∀ a b, b < a → a < i → bAt l a ≠ bAt l b) ∧ Below w.heap.size w wr) (fun v _ => l.size - (intOf v).toNat)
  case atStart => exact ⟨0, Nat.zero_le _, rfl, fun a b _ h => by omega, Below.refl _ _⟩
  case round =>
    obtain ⟨i, hi, rfl, hno, hb⟩ := hrel
    by_cases hlt : i < l.size
    · have hbi : Hid (bAt l i = l[i].toNat) := bAt_in l i hlt
      obtain ⟨wo, rfl⟩ : ∃ wo : World, wo = wr := ⟨_, rfl⟩
      go_wp2_with fail
      go_loopw [4] (fun v wr => ∃ j : Nat, j ≤ i ∧ v = .int .i64 j ∧ Hid (∀ b, b < j → bAt l i ≠ bAt l b) ∧ Below w.heap.size w wr) (fun v _ => i - (intOf v).toNat)
      case atStart => exact ⟨0, Nat.zero_le _, rfl, fun b h => by omega, hb⟩
      case round =>
        obtain ⟨j, hj, rfl, hno2, hb2⟩ := hrel
        by_cases hlt2 : j < i
        · have hjl : j < l.size := by omega
          have hbj : Hid (bAt l j = l[j].toNat) := bAt_in l j hjl
          by_cases he : (l[i].toNat : Int) = l[j].toNat
          · have he' : ((l[i].toNat : Int) == (l[j].toNat : Int)) = true := by simpa using he
            have HE : Hid ((l[i].toNat : Int) = l[j].toNat) := he
            clear he
            go_wp2_with fail
            go_quiet (fail)
            go_wp2_with fail
            go_ret
            exact ⟨ret_bool (tw_true hlt2 hlt (by rw [hbi.out, hbj.out]; exact HE.out)).symm, below_drewN hb2 _⟩
          · have he' : ((l[i].toNat : Int) == (l[j].toNat : Int)) = false := by simpa using he
            have HE : Hid (¬ (l[i].toNat : Int) = l[j].toNat) := he
            clear he
            go_wp2_with fail
            go_quiet (fail)
            go_wp2_with fail
            go_roundw
            case rel =>
              refine ⟨j + 1, by omega, by go_num, ?_, below_drewN hb2 _⟩
              intro b hb3
              by_cases e : b = j
              · subst e; rw [hbi.out, hbj.out]; exact HE.out
              · exact hno2.out b (by omega)
            case measure => simp [intOf]; omega
        · go_wp2_with fail
          go_roundw
          case rel =>
            refine ⟨i + 1, by omega, by go_num, ?_, hb2⟩
            intro a b h1 h2
            by_cases e : a = i
            · subst e; exact hno2.out b (by omega)
            · exact hno.out a b h1 (by omega)
          case measure => simp [intOf]; omega
    · go_wp2_with fail
      go_ret
      exact ⟨ret_bool (tw_false (fun a b h1 h2 => hno.out a b h1 (by omega))).symm, hb⟩
end Go.Proofs.YtkkekopomiehlaaDoor
