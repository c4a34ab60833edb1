import Derived.Test.YtkkekopomiehlaaRef9
import Derived.Test.YtkkekopomiehlaaEnc1
set_option linter.unusedVariables false
set_option linter.unusedSimpArgs false
namespace Go.Proofs.Ytkkekopomiehlaa
open Go.RowKit

theorem encAll_st (t : ByteArray) (n : Nat) (ty : Ty) : encAll true t n ty = encAll false t n ty := by
  have h := enc_rel t n ty
  unfold encAll
  rcases hf : enc false t n ty 0 with _ | ⟨d, k⟩
  · rw [h.none hf]
  · by_cases hk : k = t.size
    · rw [h.2 _ _ _ hf (by rw [bAt_out t k (by omega)]; omega)]
    · simp only [if_neg hk]
      rcases hg : enc true t n ty 0 with _ | ⟨d', k'⟩
      · rfl
      · have := h.1 _ _ _ hg
        rw [hf] at this
        simp only [Option.some.injEq, Prod.mk.injEq] at this
        obtain ⟨rfl, rfl⟩ := this
        simp only [if_neg hk]
def encD : Option ByteArray → ByteArray × Int
  | none => (ByteArray.empty, 3)
  | some d => if 64 < d.size then (ByteArray.empty, 4) else (d, 0)
theorem encOut_st (s t : ByteArray) : encOut true s t = encOut false s t := by
  unfold encOut; rw [pAll_st]
  split
  · rfl
  · split
    · rfl
    · rw [encAll_st]

set_option maxHeartbeats 1000000 in
theorem rEncode_any (s t : ByteArray) (hs : s.size ≤ maxLen) (ht : t.size ≤ maxLen) (w : World) :
    Calls Try.prog 10 #[.string s, .string t] w fun e w' => e = .returned (.tuple #[.string (encOut true s t).1, .int .i64 (encOut true s t).2]) ∧ Below w.heap.size w w' := by
  have hck := fun w => rCheck_any s hs w
  by_cases h1 : 60 < s.size
  · have hr : Hid (encOut true s t = (ByteArray.empty, 1)) := by show _ = _; unfold encOut; rw [if_pos (.inl h1)]
    rw [show chk true s = 1 by unfold chk; rw [if_pos h1]] at hck
    clear hs ht
    go_enter Try.func10, Try.ntmps10
    go_wp2_with (go_at_call 8; refine (hck _).mono ?_; rintro e w1 ⟨rfl, hb1⟩)
    go_ret2
    rw [hr.out]
    exact ⟨rfl, hb1⟩
  · cases hx : pAll true s with
    | none =>
      rw [show chk true s = 2 by unfold chk; rw [if_neg h1, hx]; rfl] at hck
      by_cases h2 : 4096 < t.size
      · have hr : Hid (encOut true s t = (ByteArray.empty, 1)) := by show _ = _; unfold encOut; rw [if_pos (.inr h2)]
        unfold maxLen at hs ht
        clear hx
        go_enter Try.func10, Try.ntmps10
        go_wp2_with (go_at_call 8; refine (hck _).mono ?_; rintro e w1 ⟨rfl, hb1⟩)
        go_ret2
        rw [hr.out]
        exact ⟨rfl, hb1⟩
      · have hr : Hid (encOut true s t = (ByteArray.empty, 2)) := by show _ = _; unfold encOut; rw [if_neg (by omega), hx]
        clear hx hs ht
        go_enter Try.func10, Try.ntmps10
        go_wp2_with (go_at_call 8; refine (hck _).mono ?_; rintro e w1 ⟨rfl, hb1⟩)
        go_ret2
        rw [hr.out]
        exact ⟨rfl, hb1⟩
    | some ty =>
      rw [show chk true s = 0 by unfold chk; rw [if_neg h1, hx]; rfl] at hck
      by_cases h2 : 4096 < t.size
      · have hr : Hid (encOut true s t = (ByteArray.empty, 1)) := by show _ = _; unfold encOut; rw [if_pos (.inr h2)]
        unfold maxLen at hs ht
        clear hx
        go_enter Try.func10, Try.ntmps10
        go_wp2_with (go_at_call 8; refine (hck _).mono ?_; rintro e w1 ⟨rfl, hb1⟩)
        go_ret2
        rw [hr.out]
        exact ⟨rfl, hb1⟩
      · have IL := (ref_all (s := s) (by omega) s.size (by omega)).2 t (by omega)
        have hp : ∃ k, pType true s s.size 0 = some (ty, k) := by
          unfold pAll at hx
          rcases hq : pType true s s.size 0 with _ | ⟨ty', k⟩
          · rw [hq] at hx; cases hx
          · rw [hq] at hx; simp only at hx
            split at hx
            · cases hx; exact ⟨k, rfl⟩
            · cases hx
        obtain ⟨kp, hp⟩ := hp
        have hOut : encOut true s t = encD (encAll true t s.size ty) := by unfold encOut; rw [if_neg (by omega), hx]; simp only; rcases encAll true t s.size ty with _ | d <;> rfl
        clear hx hs ht
        cases hy : enc true t s.size ty 0 with
        | none =>
          have hr : Hid (encOut true s t = (ByteArray.empty, 3)) := by show _ = _; rw [hOut]; unfold encAll; rw [hy]; rfl
          have hcall := fun w => IL.no w hp (by omega) (Nat.zero_le _) hy
          have hne : ((-1 : Int) != (t.size : Int)) = true := by rw [bne_iff_ne]; omega
          clear hOut hp hy IL
          go_enter Try.func10, Try.ntmps10
          go_wp2_with (first | (go_at_call 8; refine (hck _).mono ?_; rintro e w1 ⟨rfl, hb1⟩) | (go_at_call 20; refine (hcall _).mono ?_; rintro e w2 ⟨d', hd', rfl, hb2⟩))
          go_ret2
          rw [hr.out]
          exact ⟨rfl, hb1.trans (hb2.mono hb1.size)⟩
        | some q =>
          obtain ⟨d, k⟩ := q
          have hcall := fun w => IL.yes w hp (by omega) (Nat.zero_le _) hy
          obtain ⟨b1, b2, b3⟩ := enc_bd hy
          have hds := data_small b3 (show s.size ≤ 100 by omega) (by omega)
          by_cases hk : k = t.size
          · have hne : ((k : Int) != (t.size : Int)) = false := by simp; omega
            by_cases h64 : 64 < d.size
            · have hr : Hid (encOut true s t = (ByteArray.empty, 4)) := by show _ = _; rw [hOut]; unfold encAll; rw [hy]; simp only [if_pos hk, encD, if_pos h64]
              clear hOut hp hy IL b3 hk
              go_enter Try.func10, Try.ntmps10
              go_wp2_with (first | (go_at_call 8; refine (hck _).mono ?_; rintro e w1 ⟨rfl, hb1⟩) | (go_at_call 20; refine (hcall _).mono ?_; rintro e w2 ⟨rfl, hb2⟩))
              go_ret2
              rw [hr.out]
              exact ⟨rfl, hb1.trans (hb2.mono hb1.size)⟩
            · have hr : Hid (encOut true s t = (d, 0)) := by show _ = _; rw [hOut]; unfold encAll; rw [hy]; simp only [if_pos hk, encD, if_neg h64]
              clear hOut hp hy IL b3 hk
              go_enter Try.func10, Try.ntmps10
              go_wp2_with (first | (go_at_call 8; refine (hck _).mono ?_; rintro e w1 ⟨rfl, hb1⟩) | (go_at_call 20; refine (hcall _).mono ?_; rintro e w2 ⟨rfl, hb2⟩))
              go_ret2
              rw [hr.out]
              exact ⟨rfl, hb1.trans (hb2.mono hb1.size)⟩
          · have hne : ((k : Int) != (t.size : Int)) = true := by simp; omega
            have hr : Hid (encOut true s t = (ByteArray.empty, 3)) := by show _ = _; rw [hOut]; unfold encAll; rw [hy]; simp only [if_neg hk, encD]
            clear hOut hp hy IL b3 hk
            go_enter Try.func10, Try.ntmps10
            go_wp2_with (first | (go_at_call 8; refine (hck _).mono ?_; rintro e w1 ⟨rfl, hb1⟩) | (go_at_call 20; refine (hcall _).mono ?_; rintro e w2 ⟨rfl, hb2⟩))
            go_ret2
            rw [hr.out]
            exact ⟨rfl, hb1.trans (hb2.mono hb1.size)⟩

end Go.Proofs.Ytkkekopomiehlaa
