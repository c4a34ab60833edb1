import Derived.Test.YtkkekopomiehlaaDoorRep
import Derived.Test.YtkkekopomiehlaaDoorEncBd
set_option linter.unusedVariables false
set_option linter.unusedSimpArgs false
namespace Go.Proofs.YtkkekopomiehlaaDoor
open Go.RowKit

def EncAtOK (n : Nat) (t : ByteArray) : Prop := ∀ (ty : Ty) (j : Nat) (w : World) (ai af : Option Addr) (li ci lf cf : Nat), j ≤ t.size → Rep n w ai li ci af lf cf ty →
  Calls Tryd.prog 39 #[.agg #[.int .i64 ty.kind, .string ty.letters, .bool ty.op, .slice ai li ci, .slice af lf cf], .string t, .int .i64 j] w fun e w' => e = .returned (encRet j (enc false t n ty j)) ∧ Below w.heap.size w w'
theorem EncAtOK.no {n : Nat} {t : ByteArray} (IH : EncAtOK n t) {ty : Ty} {j : Nat} {w : World} {ai af : Option Addr} {li ci lf cf : Nat} (hj : j ≤ t.size) (hr : Rep n w ai li ci af lf cf ty) (hx : enc false t n ty j = none) :
  Calls Tryd.prog 39 #[.agg #[.int .i64 ty.kind, .string ty.letters, .bool ty.op, .slice ai li ci, .slice af lf cf], .string t, .int .i64 j] w fun e w' => e = .returned (.tuple #[.string ByteArray.empty, .int .i64 j, .bool false]) ∧ Below w.heap.size w w' := by
  have := IH ty j w ai af li ci lf cf hj hr; rw [hx] at this; exact this
theorem EncAtOK.yes {n : Nat} {t : ByteArray} (IH : EncAtOK n t) {ty : Ty} {j : Nat} {w : World} {ai af : Option Addr} {li ci lf cf : Nat} (hj : j ≤ t.size) (hr : Rep n w ai li ci af lf cf ty) {d : ByteArray} {k : Nat} (hx : enc false t n ty j = some (d, k)) :
  Calls Tryd.prog 39 #[.agg #[.int .i64 ty.kind, .string ty.letters, .bool ty.op, .slice ai li ci, .slice af lf cf], .string t, .int .i64 j] w fun e w' => e = .returned (.tuple #[.string d, .int .i64 k, .bool true]) ∧ Below w.heap.size w w' := by
  have := IH ty j w ai af li ci lf cf hj hr; rw [hx] at this; exact this
/-- How much data there are, in a text of at most 4096 bytes. -/
theorem data_small {n a b : Nat} {d : ByteArray} (h : d.size ≤ (9 * n + 9) * (b - a)) (hn : n ≤ 100) (hb : b ≤ 4096) : d.size ≤ 4000000 := by
  have h1 : (9 * n + 9) * (b - a) ≤ 909 * (b - a) := Nat.mul_le_mul_right _ (by omega)
  omega

set_option maxHeartbeats 1000000 in
theorem encodeMaybe_any {n : Nat} {t : ByteArray} (IH : EncAtOK n t) (ht : t.size ≤ 4096) (hn : n ≤ 100) (ty : Ty) (j : Nat) (w : World) (ai af : Option Addr) (li ci lf cf : Nat) (hj : j ≤ t.size) (hr : Rep n w ai li ci af lf cf ty) :
    Calls Tryd.prog 71 #[.agg #[.int .i64 ty.kind, .string ty.letters, .bool ty.op, .slice ai li ci, .slice af lf cf], .string t, .int .i64 j] w fun e w' => e = .returned (encRet j (encMaybe (enc false t n ty) t j)) ∧ Below w.heap.size w w' := by
  have _hs : t.size ≤ 9000000 := by omega
  have hB : ∀ o, Below w.heap.size w (w.alloc o) := fun o => (Below.refl _ _).alloc (Nat.le_refl _) _
  by_cases hm : bAt t j = 95
  · have hm' : (bAt t j == 95) = true := by simp [hm]
    have hr' : Hid (encMaybe (enc false t n ty) t j = some (oneB 0, j + 1)) := by show _ = _; unfold encMaybe; rw [if_pos hm]
    clear hm
    go_enter Tryd.func71, Tryd.ntmps71
    go_wp2_with (first | (go_at_call 73; refine (byteAt_int _ _ _ (by omega) _hs).mono ?_; rintro e w' ⟨rfl, rfl⟩) | (go_at_call 79; refine (oneByte_any 0 _ (by omega)).mono ?_; rintro e w' ⟨rfl, hbw⟩))
    go_ret3
    rw [hr'.out]
    exact ⟨rfl, (hB _).trans (hbw.mono (by simp))⟩
  · have hm' : (bAt t j == 95) = false := by simpa using hm
    cases hx : enc false t n ty j with
    | none =>
      have hr' : Hid (encMaybe (enc false t n ty) t j = none) := by show _ = _; unfold encMaybe; rw [if_neg hm, hx]
      have hd := fun o => IH.no hj (hr.keep (hB o)) hx
      clear hm hx
      go_enter Tryd.func71, Tryd.ntmps71
      go_wp2_with (first | (go_at_call 73; refine (byteAt_int _ _ _ (by omega) _hs).mono ?_; rintro e w' ⟨rfl, rfl⟩) | (go_at_call 39; refine (hd _).mono ?_; rintro e w' ⟨rfl, hbw⟩))
      go_ret3
      rw [hr'.out]
      exact ⟨rfl, (hB _).trans (hbw.mono (by simp))⟩
    | some p =>
      obtain ⟨d, k⟩ := p
      have hr' : Hid (encMaybe (enc false t n ty) t j = some (oneB 1 ++ d, k)) := by show _ = _; unfold encMaybe; rw [if_neg hm, hx]
      have hd := fun o => IH.yes hj (hr.keep (hB o)) hx
      obtain ⟨hb1, hb2, hb3⟩ := enc_bd hx
      have hds := data_small hb3 hn (by omega)
      have hsz : (oneB 1).size = 1 := rfl
      clear hm hx hb3
      go_enter Tryd.func71, Tryd.ntmps71
      go_wp2_with (first | (go_at_call 73; refine (byteAt_int _ _ _ (by omega) _hs).mono ?_; rintro e w' ⟨rfl, rfl⟩) | (go_at_call 39; refine (hd _).mono ?_; rintro e w' ⟨rfl, hbw⟩) | (go_at_call 79; refine (oneByte_any 1 _ (by omega)).mono ?_; rintro e w' ⟨rfl, hbw2⟩))
      go_ret3
      rw [hr'.out]
      exact ⟨rfl, (hB _).trans ((hbw.mono (by simp)).trans (hbw2.mono (by have := hbw.size; simp at this; omega)))⟩

set_option maxHeartbeats 1000000 in
theorem encodeList_any {n : Nat} {t : ByteArray} (IH : EncAtOK n t) (ht : t.size ≤ 4096) (hn : n ≤ 100) (ty : Ty) (j : Nat) (w : World) (ai af : Option Addr) (li ci lf cf : Nat) (hj : j ≤ t.size) (hr : Rep n w ai li ci af lf cf ty) :
    Calls Tryd.prog 70 #[.agg #[.int .i64 ty.kind, .string ty.letters, .bool ty.op, .slice ai li ci, .slice af lf cf], .string t, .int .i64 j] w fun e w' => e = .returned (encRet j (encList (enc false t n ty) t j)) ∧ Below w.heap.size w w' := by
  have _hs : t.size ≤ 9000000 := by omega
  have hB : ∀ o, Below w.heap.size w (w.alloc o) := fun o => (Below.refl _ _).alloc (Nat.le_refl _) _
  by_cases hm : bAt t j = 91
  · have hm' : (bAt t j != 91) = false := by simp [hm]
    by_cases h2 : bAt t (j + 1) = 93
    · have h2' : (bAt t (j + 1) == 93) = true := by simp [h2]
      have hr' : Hid (encList (enc false t n ty) t j = some (oneB 0, j + 2)) := by show _ = _; unfold encList; rw [if_pos hm, if_pos h2]
      clear hm h2
      go_enter Tryd.func70, Tryd.ntmps70
      go_wp2_with (first | (go_at_call 73; refine (byteAt_int _ _ _ (by omega) _hs).mono ?_; rintro e w' ⟨rfl, rfl⟩) | (go_at_call 79; refine (oneByte_any 0 _ (by omega)).mono ?_; rintro e w' ⟨rfl, hbw⟩))
      go_ret3
      rw [hr'.out]
      exact ⟨rfl, (hB _).trans (hbw.mono (by simp))⟩
    · have h2' : (bAt t (j + 1) == 93) = false := by simpa using h2
      obtain ⟨R, hR⟩ : ∃ R, R = encItems (enc false t n ty) t 16 1 j ByteArray.empty := ⟨_, rfl⟩
      have hr' : encList (enc false t n ty) t j = R := by unfold encList; rw [if_pos hm, if_neg h2, hR]
      rw [hr']
      have HR : Hid (R = encItems (enc false t n ty) t 16 1 j ByteArray.empty) := hR
      have hjt : j < t.size := bAt_lt (by omega)
      clear hm h2 hr' hR
      go_enter Tryd.func70, Tryd.ntmps70
      go_wp2_with (first | (go_at_call 73; refine (byteAt_int _ _ _ (by omega) _hs).mono ?_; rintro e w' ⟨rfl, rfl⟩))
      go_loopw [9, 10, 11] (fun vd vb vc wr => ∃ (m c b : Nat) (d : ByteArray), c + m = 17 ∧ 1 ≤ c ∧ j ≤ b ∧ b < t.size ∧ vc = .int .i64 c ∧ vb = .int .i64 b ∧ vd = .string d ∧ Hid (R = encItems (enc false t n ty) t m c b d) ∧ Hid (d.size ≤ (9 * n + 9) * (b - j)) ∧ Below (w.heap.size + 1) (w.alloc (.cells #[.int .i64 ty.kind, .string ty.letters, .bool ty.op, .slice ai li ci, .slice af lf cf] 38)) wr) (fun _ _ c _ => 17 - (intOf c).toNat)
      case atStart => exact ⟨16, 1, j, ByteArray.empty, rfl, Nat.le_refl _, Nat.le_refl _, hjt, rfl, rfl, rfl, HR, Nat.zero_le _, Below.refl _ _⟩
      case round =>
        obtain ⟨m, c, b, d, hcm, hc1, hjb, hbt, rfl, rfl, rfl, hR, hd, hb⟩ := hrel
        obtain ⟨hc, hf⟩ := bcell hb
        have hrw : Rep n wr ai li ci af lf cf ty := (hr.keep (hB _)).keep (hb.mono (by simp))
        have hsw : w.heap.size + 1 ≤ wr.heap.size := by have := hb.size; simpa using this
        have hbw0 : Below w.heap.size w wr := (hB _).trans (hb.mono (by omega))
        cases m with
        | zero =>
          have hc17 : (17 : Int) ≤ c := by omega
          have hr' : Hid (R = none) := hR
          go_wp2_with fail
          go_ret3
          rw [hr'.out]
          exact ⟨rfl, hbw0⟩
        | succ m =>
          have hc16 : (c : Int) ≤ 16 := by omega
          cases hx : enc false t n ty (b + 1) with
          | none =>
            have hr' : Hid (R = none) := by show _ = _; rw [hR.out, encItems, hx]
            have hd := IH.no (show b + 1 ≤ t.size by omega) hrw hx
            clear hx
            go_wp2_with (go_at_call 39; refine hd.mono ?_; rintro e w' ⟨rfl, hbw⟩)
            go_ret3
            rw [hr'.out]
            exact ⟨rfl, hbw0.trans (hbw.mono (by omega))⟩
          | some p =>
            obtain ⟨x, k⟩ := p
            obtain ⟨hb1, hb2, hb3⟩ := enc_bd hx
            have hsum : (d ++ x).size ≤ (9 * n + 9) * (k - j) := by
              rw [ByteArray.size_append]
              have h1 := mul_sub_add (C := 9 * n + 9) (show j ≤ b + 1 by omega) (show b + 1 ≤ k by omega)
              have h2 := mul_mono (C := 9 * n + 9) (show b - j ≤ b + 1 - j by omega)
              have := hd.out
              omega
            have hs1 := data_small hb3 hn (by omega)
            have hs2 := data_small hd.out hn (by omega)
            have hs3 := data_small hsum hn (by omega)
            have HS : Hid ((d ++ x).size ≤ (9 * n + 9) * (k - j)) := hsum
            have hcall := IH.yes (show b + 1 ≤ t.size by omega) hrw hx
            have hso : (oneB c).size = 1 := rfl
            clear hb3 hsum
            by_cases h93 : bAt t k = 93
            · have hr' : Hid (R = some (oneB c ++ (d ++ x), k + 1)) := by show _ = _; rw [hR.out, encItems, hx]; simp only [if_pos h93]
              have h93' : (bAt t k == 93) = true := by simp [h93]
              clear hx h93
              go_wp2_with (first | (go_at_call 39; refine hcall.mono ?_; rintro e w' ⟨rfl, hbw⟩) | (go_at_call 73; refine (byteAt_int _ _ _ (by omega) _hs).mono ?_; rintro e w' ⟨rfl, rfl⟩) | (go_at_call 79; refine (oneByte_any c _ (by omega)).mono ?_; rintro e w' ⟨rfl, hbw2⟩))
              go_ret3
              rw [hr'.out]
              exact ⟨rfl, hbw0.trans ((hbw.mono (by omega)).trans (hbw2.mono (by have := hbw.size; omega)))⟩
            · have h93' : (bAt t k == 93) = false := by simpa using h93
              by_cases h44 : bAt t k = 44
              · have h44' : (bAt t k != 44) = false := by simp [h44]
                have hr' : Hid (R = encItems (enc false t n ty) t m (c + 1) k (d ++ x)) := by show _ = _; rw [hR.out, encItems, hx]; simp only [if_neg h93, if_pos h44]
                have hkt : k < t.size := bAt_lt (by omega)
                clear hx h93 h44
                go_wp2_with (first | (go_at_call 39; refine hcall.mono ?_; rintro e w' ⟨rfl, hbw⟩) | (go_at_call 73; refine (byteAt_int _ _ _ (by omega) _hs).mono ?_; rintro e w' ⟨rfl, rfl⟩))
                go_roundw
                case rel => exact ⟨m, c + 1, k, d ++ x, by omega, by omega, by omega, hkt, by go_num, rfl, rfl, hr', HS, hb.trans (hbw.mono (by omega))⟩
                case measure => simp [intOf]; omega
              · have h44' : (bAt t k != 44) = true := by simpa using h44
                have hr' : Hid (R = none) := by show _ = _; rw [hR.out, encItems, hx]; simp only [if_neg h93, if_neg h44]
                clear hx h93 h44
                go_wp2_with (first | (go_at_call 39; refine hcall.mono ?_; rintro e w' ⟨rfl, hbw⟩) | (go_at_call 73; refine (byteAt_int _ _ _ (by omega) _hs).mono ?_; rintro e w' ⟨rfl, rfl⟩))
                go_ret3
                rw [hr'.out]
                exact ⟨rfl, hbw0.trans (hbw.mono (by omega))⟩
  · have hm' : (bAt t j != 91) = true := by simpa using hm
    have hr' : Hid (encList (enc false t n ty) t j = none) := by show _ = _; unfold encList; rw [if_neg hm]
    clear hm
    go_enter Tryd.func70, Tryd.ntmps70
    go_wp2_with (go_at_call 73; refine (byteAt_int _ _ _ (by omega) _hs).mono ?_; rintro e w' ⟨rfl, rfl⟩)
    go_ret3
    rw [hr'.out]
    exact ⟨rfl, hB _⟩
end Go.Proofs.YtkkekopomiehlaaDoor
