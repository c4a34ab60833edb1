import Derived.Test.YtkkekopomiehlaaDoorLeaf
set_option linter.unusedVariables false
set_option linter.unusedSimpArgs false
namespace Go.Proofs.YtkkekopomiehlaaDoor
open Go.RowKit

theorem pFrom_end (l : ByteArray) (c : Int) (k : Nat) (h : pOf l c = pFrom l c (l.size - k) k) (hk : ¬ k < l.size) : pOf l c = -1 := by
  rw [h, show l.size - k = 0 by omega]; rfl
theorem pFrom_hit (l : ByteArray) (c : Int) (k : Nat) (h : pOf l c = pFrom l c (l.size - k) k) (hk : k < l.size) (hb : bAt l k = c) : pOf l c = k := by
  rw [h, show l.size - k = (l.size - (k + 1)) + 1 by omega]; simp [pFrom, hb]
theorem pFrom_miss (l : ByteArray) (c : Int) (k : Nat) (h : pOf l c = pFrom l c (l.size - k) k) (hk : k < l.size) (hb : bAt l k ≠ c) : pOf l c = pFrom l c (l.size - (k + 1)) (k + 1) := by
  rw [h, show l.size - k = (l.size - (k + 1)) + 1 by omega]; simp [pFrom, hb]

set_option maxHeartbeats 400000 in
theorem placeOf_any (l : ByteArray) (c : Int) (w : World) (_hs : l.size ≤ 9000000) :
    Calls Tryd.prog 77 #[.string l, .int .i64 c] w fun e w' => e = .returned (.int .i64 (pOf l c)) ∧ w' = w := by
  go_enter Tryd.func77, Tryd.ntmps77
  go_wp2
  go_loop [5] (fun i => ∃ k : Nat, k ≤ l.size ∧ i = .int .i64 k ∧ Hid (pOf l c = pFrom l c (l.size - k) k)) (fun i => l.size - (intOf i).toNat)
  case atStart => exact ⟨0, Nat.zero_le _, rfl, rfl⟩
  case round =>
    obtain ⟨k, hk, rfl, hp⟩ := hrel
    by_cases hlt : k < l.size
    · have hw := wrap_byte l[k]
      have hbk : Hid (bAt l k = l[k].toNat) := bAt_in l k hlt
      go_wp2
      · go_ret
        refine ⟨ret_int ?_, rfl⟩
        rw [pFrom_hit l c k hp.out hlt (by rw [hbk.out]; exact of_beq ‹_›)]
      · go_round
        case rel => exact ⟨k + 1, by omega, by go_num, pFrom_miss l c k hp.out hlt (by rw [hbk.out]; exact ne_beq ‹_›)⟩
        case measure => simp [intOf]; omega
    · go_wp2
      go_ret
      exact ⟨ret_int (by rw [pFrom_end l c k hp.out hlt]), rfl⟩

theorem lEnd_out (s : ByteArray) (a E e : Nat) (h : E = lEnd s a (s.size - e) e) (hk : ¬ e < s.size) : E = e := by
  rw [h, show s.size - e = 0 by omega]; rfl
theorem lEnd_stop (s : ByteArray) (a E e : Nat) (h : E = lEnd s a (s.size - e) e) (hk : e < s.size) (hb : isL (bAt s e) = false ∨ 0 ≤ pOf (s.extract a e) (bAt s e)) : E = e := by
  rw [h, show s.size - e = (s.size - (e + 1)) + 1 by omega]; rw [lEnd, if_neg]
  rintro ⟨h1, h2⟩; rcases hb with hb | hb
  · rw [h1] at hb; cases hb
  · omega
theorem lEnd_step (s : ByteArray) (a E e : Nat) (h : E = lEnd s a (s.size - e) e) (hk : e < s.size) (h1 : isL (bAt s e) = true) (h2 : pOf (s.extract a e) (bAt s e) < 0) : E = lEnd s a (s.size - (e + 1)) (e + 1) := by
  rw [h, show s.size - e = (s.size - (e + 1)) + 1 by omega]; rw [lEnd, if_pos ⟨h1, h2⟩]
theorem size_extract (s : ByteArray) (a b : Nat) (h1 : a ≤ b) (h2 : b ≤ s.size) : (s.extract a b).size = b - a := by
  rw [ByteArray.size_extract]; omega

set_option maxHeartbeats 400000 in
theorem lettersEnd_any (s : ByteArray) (a : Nat) (w : World) (_hs : s.size ≤ 9000000) (ha : a ≤ s.size) :
    Calls Tryd.prog 99 #[.string s, .int .i64 a] w fun e w' => e = .returned (.int .i64 (lEnd s a (s.size - a) a)) ∧ w' = w := by
  obtain ⟨E, hE⟩ : ∃ E, E = lEnd s a (s.size - a) a := ⟨_, rfl⟩
  rw [← hE]
  have HE : Hid (E = lEnd s a (s.size - a) a) := hE
  clear hE
  go_enter Tryd.func99, Tryd.ntmps99
  go_wp2_with fail
  go_loop [5] (fun i => ∃ k : Nat, a ≤ k ∧ k ≤ s.size ∧ i = .int .i64 k ∧ Hid (E = lEnd s a (s.size - k) k)) (fun i => s.size - (intOf i).toNat)
  case atStart => exact ⟨a, Nat.le_refl _, ha, rfl, HE⟩
  case round =>
    obtain ⟨k, hak, hk, rfl, hp⟩ := hrel
    by_cases hlt : k < s.size
    · have hx := size_extract s a k hak hk
      cases hl : isL (bAt s k) with
      | false =>
        go_wp2_with (first | (go_at_call 73; refine (byteAt_any _ _ _ ?_).mono ?_; (first | assumption | omega); rintro e w' ⟨rfl, rfl⟩) | (go_at_call 107; refine (isLetter_any _ _).mono ?_; rintro e w' ⟨rfl, rfl⟩))
        go_ret
        exact ⟨ret_int (by rw [lEnd_stop s a E k hp.out hlt (.inl hl)]), rfl⟩
      | true =>
        by_cases hq : pOf (s.extract a k) (bAt s k) < 0
        · go_wp2_with (first | (go_at_call 73; refine (byteAt_any _ _ _ ?_).mono ?_; (first | assumption | omega); rintro e w' ⟨rfl, rfl⟩) | (go_at_call 107; refine (isLetter_any _ _).mono ?_; rintro e w' ⟨rfl, rfl⟩) | (go_at_call 75; refine (span_any _ _ _ _ hak hk _hs).mono ?_; rintro e w' ⟨rfl, rfl⟩) | (go_at_call 77; refine (placeOf_any _ _ _ ?_).mono ?_; omega; rintro e w' ⟨rfl, rfl⟩))
          go_round
          case rel => exact ⟨k + 1, by omega, by omega, by go_num, lEnd_step s a E k hp.out hlt hl hq⟩
          case measure => simp [intOf]; omega
        · go_wp2_with (first | (go_at_call 73; refine (byteAt_any _ _ _ ?_).mono ?_; (first | assumption | omega); rintro e w' ⟨rfl, rfl⟩) | (go_at_call 107; refine (isLetter_any _ _).mono ?_; rintro e w' ⟨rfl, rfl⟩) | (go_at_call 75; refine (span_any _ _ _ _ hak hk _hs).mono ?_; rintro e w' ⟨rfl, rfl⟩) | (go_at_call 77; refine (placeOf_any _ _ _ ?_).mono ?_; omega; rintro e w' ⟨rfl, rfl⟩))
          go_ret
          exact ⟨ret_int (by rw [lEnd_stop s a E k hp.out hlt (.inr (by omega))]), rfl⟩
    · go_wp2
      go_ret
      exact ⟨ret_int (by rw [lEnd_out s a E k hp.out hlt]), rfl⟩
end Go.Proofs.YtkkekopomiehlaaDoor
