import Derived.Test.YtccmcgckechhgaaDoorSn7
import Derived.Test.YtccmcgckechhgaaDoorRd9
set_option linter.unusedVariables false
set_option linter.unusedSimpArgs false
set_option maxRecDepth 4000
namespace Go.Proofs.YtccmcgckechhgaaDoor
open Go.RowKit

set_option maxHeartbeats 1000000 in
theorem rRead_err (s t d : ByteArray) (hd : d.size ≤ maxLen) (n r : Int) (hb : ∀ w, Calls Tryd.prog 28 #[.string s, .string t] w fun e w' => e = .returned (.int .i64 n) ∧ Below w.heap.size w w') (h : (n = 1 ∧ r = 1) ∨ (n ≠ 1 ∧ 64 < d.size ∧ r = 1) ∨ (n = 2 ∧ ¬ 64 < d.size ∧ r = 2)) (w : World) :
    Calls Tryd.prog 16 #[.string s, .string t, .string d] w fun e w' => e = .returned (.tuple #[.string ByteArray.empty, .int .i64 r]) ∧ Below w.heap.size w w' := by
  unfold maxLen at hd
  rcases h with ⟨rfl, rfl⟩ | ⟨h1, h2, rfl⟩ | ⟨rfl, h2, rfl⟩
  · go_enter Tryd.func16, Tryd.ntmps16
    go_wp2_with (go_at_call 28; refine (hb _).mono ?_; rintro e w1 ⟨rfl, hb1⟩)
    go_ret2
    exact ⟨rfl, hb1⟩
  · have h1' : (n == 1) = false := by simpa using h1
    clear h1
    go_enter Tryd.func16, Tryd.ntmps16
    go_wp2_with (go_at_call 28; refine (hb _).mono ?_; rintro e w1 ⟨rfl, hb1⟩)
    go_ret2
    exact ⟨rfl, hb1⟩
  · go_enter Tryd.func16, Tryd.ntmps16
    go_wp2_with (go_at_call 28; refine (hb _).mono ?_; rintro e w1 ⟨rfl, hb1⟩)
    go_ret2
    exact ⟨rfl, hb1⟩

set_option maxHeartbeats 1000000 in
theorem rRead_no (s t d T : ByteArray) (hd : d.size ≤ 64) (k : Int) (hk : (k != (d.size : Int)) = true) (hb : ∀ w, Calls Tryd.prog 28 #[.string s, .string t] w fun e w' => e = .returned (.int .i64 0) ∧ Below w.heap.size w w')
    (ht : ∀ w, Calls Tryd.prog 23 #[.string s, .int .i64 0, .string d, .int .i64 0] w fun e w' => e = .returned (.tuple #[.string T, .int .i64 k]) ∧ Below w.heap.size w w') (w : World) :
    Calls Tryd.prog 16 #[.string s, .string t, .string d] w fun e w' => e = .returned (.tuple #[.string ByteArray.empty, .int .i64 5]) ∧ Below w.heap.size w w' := by
  go_enter Tryd.func16, Tryd.ntmps16
  go_wp2_with (first | (go_at_call 28; refine (hb _).mono ?_; rintro e w1 ⟨rfl, hb1⟩) | (go_at_call 23; refine (ht _).mono ?_; rintro e w2 ⟨rfl, hb2⟩))
  go_ret2
  exact ⟨rfl, hb1.trans (hb2.mono hb1.size)⟩

set_option maxHeartbeats 1000000 in
theorem rRead_fail (s t d T : ByteArray) (hd : d.size ≤ 64) (hb : ∀ w, Calls Tryd.prog 28 #[.string s, .string t] w fun e w' => e = .returned (.int .i64 0) ∧ Below w.heap.size w w')
    (ht : ∀ w, Calls Tryd.prog 23 #[.string s, .int .i64 0, .string d, .int .i64 0] w fun e w' => e = .returned (.tuple #[.string T, .int .i64 d.size]) ∧ Below w.heap.size w w')
    (hsn : ∀ w, Calls Tryd.prog 29 #[.string s, .int .i64 0, .string t, .int .i64 0, .string d, .int .i64 0] w fun e w' => SRet none e ∧ Below w.heap.size w w') (w : World) :
    Calls Tryd.prog 16 #[.string s, .string t, .string d] w fun e w' => e = .returned (.tuple #[.string ByteArray.empty, .int .i64 6]) ∧ Below w.heap.size w w' := by
  have hk : ((d.size : Int) != (d.size : Int)) = false := by simp
  go_enter Tryd.func16, Tryd.ntmps16
  go_wp2_with (first | (go_at_call 28; refine (hb _).mono ?_; rintro e w1 ⟨rfl, hb1⟩) | (go_at_call 23; refine (ht _).mono ?_; rintro e w2 ⟨rfl, hb2⟩) | (go_at_call 29; refine (hsn _).mono ?_; rintro e w3 ⟨⟨z, rfl⟩, hb3⟩))
  go_ret2
  exact ⟨rfl, (hb1.trans (hb2.mono hb1.size)).trans (hb3.mono (Nat.le_trans hb1.size hb2.size))⟩

set_option maxHeartbeats 1000000 in
theorem rRead_done (s t d T y : ByteArray) (hd : d.size ≤ 64) (hb : ∀ w, Calls Tryd.prog 28 #[.string s, .string t] w fun e w' => e = .returned (.int .i64 0) ∧ Below w.heap.size w w')
    (ht : ∀ w, Calls Tryd.prog 23 #[.string s, .int .i64 0, .string d, .int .i64 0] w fun e w' => e = .returned (.tuple #[.string T, .int .i64 d.size]) ∧ Below w.heap.size w w')
    (hsn : ∀ w, Calls Tryd.prog 29 #[.string s, .int .i64 0, .string t, .int .i64 0, .string d, .int .i64 0] w fun e w' => SRet (some y) e ∧ Below w.heap.size w w') (w : World) :
    Calls Tryd.prog 16 #[.string s, .string t, .string d] w fun e w' => e = .returned (.tuple #[.string y, .int .i64 0]) ∧ Below w.heap.size w w' := by
  have hk : ((d.size : Int) != (d.size : Int)) = false := by simp
  go_enter Tryd.func16, Tryd.ntmps16
  go_wp2_with (first | (go_at_call 28; refine (hb _).mono ?_; rintro e w1 ⟨rfl, hb1⟩) | (go_at_call 23; refine (ht _).mono ?_; rintro e w2 ⟨rfl, hb2⟩) | (go_at_call 29; refine (hsn _).mono ?_; rintro e w3 ⟨rfl, hb3⟩))
  go_ret2
  exact ⟨rfl, (hb1.trans (hb2.mono hb1.size)).trans (hb3.mono (Nat.le_trans hb1.size hb2.size))⟩

theorem chk_long {s : ByteArray} (h : 60 < s.size) : chk true s = 1 := by unfold chk; rw [if_pos h]
theorem chk_bad {s : ByteArray} (h : ¬ 60 < s.size) (hx : pAll true s = none) : chk true s = 2 := by unfold chk; rw [if_neg h, hx]; rfl
theorem chk_good {s : ByteArray} (h : ¬ 60 < s.size) {x : Ty} (hx : pAll true s = some x) : chk true s = 0 := by unfold chk; rw [if_neg h, hx]; rfl
/-- The reference gives the answer that is said of 'Read'. -/
theorem rRead_any (s t d : ByteArray) (hs : s.size ≤ maxLen) (ht : t.size ≤ maxLen) (hd : d.size ≤ maxLen) (a : ByteArray × Int) (h : ReadIs s t d a) (w : World) :
    Calls Tryd.prog 16 #[.string s, .string t, .string d] w fun e w' => e = .returned (.tuple #[.string a.1, .int .i64 a.2]) ∧ Below w.heap.size w w' := by
  have hbo := fun w => both_any s t hs ht w
  unfold ReadIs at h
  by_cases h2 : 60 < s.size ∨ 60 < t.size
  · rw [if_pos (by omega)] at h
    rw [show bothI s t = 1 by unfold bothI; rw [if_pos]; rcases h2 with h | h; exact .inl (chk_long h); exact .inr (chk_long h)] at hbo
    rw [h]
    exact rRead_err s t d hd 1 1 hbo (.inl ⟨rfl, rfl⟩) w
  have hs60 : ¬ 60 < s.size := by omega
  have ht60 : ¬ 60 < t.size := by omega
  have hne1 : bothI s t ≠ 1 := by
    have e1 : ¬ (chk true s = 1 ∨ chk true t = 1) := by
      rintro (h | h) <;> (unfold chk at h; rw [if_neg (by assumption)] at h; split at h <;> omega)
    unfold bothI; rw [if_neg e1]; split <;> omega
  by_cases h1 : 64 < d.size
  · rw [if_pos (by omega)] at h
    rw [h]
    exact rRead_err s t d hd _ 1 hbo (.inr (.inl ⟨hne1, h1, rfl⟩)) w
  rw [if_neg (by omega), ← pAll_st s, ← pAll_st t] at h
  cases hx : pAll true s with
  | none =>
    rw [hx] at h
    have hb2 : bothI s t = 2 := by
      have := chk_bad hs60 hx
      unfold bothI at hne1 ⊢
      split at hne1
      · exact absurd rfl hne1
      · rename_i hc; rw [if_neg hc, if_pos (.inl (by omega))]
    rw [hb2] at hbo
    simp only at h
    rw [h]
    exact rRead_err s t d hd 2 2 hbo (.inr (.inr ⟨rfl, h1, rfl⟩)) w
  | some x =>
    cases hr : pAll true t with
    | none =>
      rw [hx, hr] at h
      have hb2 : bothI s t = 2 := by
        have := chk_bad ht60 hr
        unfold bothI at hne1 ⊢
        split at hne1
        · exact absurd rfl hne1
        · rename_i hc; rw [if_neg hc, if_pos (.inr (by omega))]
      rw [hb2] at hbo
      simp only at h
      rw [h]
      exact rRead_err s t d hd 2 2 hbo (.inr (.inr ⟨rfl, h1, rfl⟩)) w
    | some r =>
      rw [hx, hr] at h
      simp only at h
      have hb0 : bothI s t = 0 := by
        have e1 := chk_good hs60 hx
        have e2 := chk_good ht60 hr
        unfold bothI; rw [e1, e2]; rfl
      rw [hb0] at hbo
      have hp := pAll_some hx
      have hq := pAll_some hr
      have IL := tell_all (s := s) (t := d) (by omega) (by omega) s.size (by omega)
      unfold decAll at h
      cases hy : dec d s.size x 0 with
      | none =>
        rw [hy] at h
        simp only at h
        rw [h]
        exact rRead_no s t d _ (by omega) (-1) (by rw [bne_iff_ne]; omega) hbo (fun w => IL.no w hp (by omega) (Nat.zero_le _) hy) w
      | some q =>
        obtain ⟨T, k⟩ := q
        have ht := fun w => IL.yes w hp (by omega) (Nat.zero_le _) hy
        rw [hy] at h
        by_cases hk : k = d.size
        · simp only [if_pos hk] at h
          subst hk
          obtain ⟨v, hv1, hv2, hv3⟩ := h
          have hsn := fun w => seen_all (s := s) (t := t) (d := d) (by omega) (by omega) (by omega) (s.size + t.size) s.size t.size 0 0 0 x r s.size t.size v w (Nat.le_refl _) (by omega) (by omega) hp (by omega) hq (by omega) hv1 (by rw [hv2]; exact At.self _) (pAll_wt hr (by omega) _)
          rw [hv3]
          cases hz : rdT (s.size + t.size) x r v with
          | none =>
            rw [hz] at hsn
            exact rRead_fail s t d T (by omega) hbo ht hsn w
          | some y =>
            rw [hz] at hsn
            exact rRead_done s t d T y (by omega) hbo ht hsn w
        · simp only [if_neg hk] at h
          rw [h]
          exact rRead_no s t d T (by omega) k (by simp; omega) hbo ht w
end Go.Proofs.YtccmcgckechhgaaDoor
