import Derived.Test.YtkkekopomiehlaaDoorDec8
import Derived.Test.YtkkekopomiehlaaDoorDec11
set_option linter.unusedVariables false
set_option linter.unusedSimpArgs false
set_option maxRecDepth 4000
namespace Go.Proofs.YtkkekopomiehlaaDoor
open Go.RowKit

set_option maxRecDepth 10000 in
set_option maxHeartbeats 8000000 in
theorem tellNumber_any (s : ByteArray) (a : Nat) (lo hi : Int) (w : World) (_hs : s.size ≤ 9000000) (ha : a < s.size) (hl0 : -1000000000000000 ≤ lo) (hh0 : hi ≤ 1000000000000000) :
    Calls Tryd.prog 34 #[.string s, .int .i64 a, .int .i64 lo, .int .i64 hi] w fun e w' => e = .returned (layRet (tellN lo hi s a)) ∧ Below w.heap.size w w' := by
  obtain ⟨U, E, hUE⟩ : ∃ U E, scanL s 8 a 0 1 = (U, E) := ⟨_, _, rfl⟩
  have HP : Hid (tellN lo hi s a = if numData (unzig U) ≠ s.extract a E ∨ unzig U < lo ∨ hi < unzig U then none else some (decI (unzig U), E)) := by show _ = _; unfold tellN; rw [hUE]
  have HR : Hid (scanL s 8 a 0 1 = (U, E)) := hUE
  have hUb := scan_le s 8 a 0 1 U E (by omega) (by omega) hUE
  obtain ⟨hU1, hE1, hE2, _⟩ := hUb
  have hU2 : U < 72057594037927936 := by simpa using hU1
  clear hUE hU1
  obtain ⟨V, hV⟩ : ∃ V, V = unzig U := ⟨_, rfl⟩
  rw [← hV] at HP
  have hV1 : -40000000000000000 ≤ V := by rw [hV]; unfold unzig; split <;> omega
  have hV2 : V ≤ 40000000000000000 := by rw [hV]; unfold unzig; split <;> omega
  have hVo : Hid (U % 2 = 1 → wrap64 (-((U : Int) + 1).tdiv 2) = V) := by
    intro h
    rw [hV, Int.tdiv_eq_ediv_of_nonneg (by omega)]; unfold unzig wrap64; rw [if_pos h]; omega
  have hVe : Hid (U % 2 = 0 → (U : Int) / 2 = V) := by
    intro h
    rw [hV]; unfold unzig; rw [if_neg (by omega)]; omega
  clear hV
  have hEsz := size_extract s a E (by omega) hE2
  go_enter Tryd.func34, Tryd.ntmps34
  go_wp2_with fail
  go_loop [10, 11, 12] (fun vk vu vx => ∃ (m k u x : Nat), k + m = a + 8 ∧ a ≤ k ∧ k ≤ s.size ∧ vk = .int .i64 k ∧ vu = .int .i64 u ∧ vx = .int .i64 x ∧ u < x ∧ 1 ≤ x ∧ x ≤ 72057594037927936 ∧ Hid (x * 128 ^ m = 72057594037927936) ∧ Hid (scanL s m k u x = (U, E))) (fun k _ _ => a + 8 - (intOf k).toNat)
  case atStart => exact ⟨8, a, 0, 1, rfl, Nat.le_refl _, by omega, rfl, rfl, rfl, by omega, by omega, by omega, by show 1 * 128 ^ 8 = _; omega, HR⟩
  case round =>
    obtain ⟨m, k, u, x, hkm, hak, hks, rfl, rfl, rfl, hux, hx1, hx2, hxm, hR⟩ := hrel

    by_cases hlt : k < s.size
    · have hbk : Hid (bAt s k = s[k].toNat) := bAt_in s k hlt
      have hb256 := s[k].toNat_lt
      cases m with
      | zero =>
        have h8 : ¬ (k : Int) - (a : Int) < 8 := by omega
        have hr : Hid (u = U ∧ k = E) := by have h := hR.out; simp only [scanL, Prod.mk.injEq] at h; exact h
        have hZ : Hid ((u : Int) = (U : Int)) := by show _ = _; have := hr.out.1; omega
        have hE : Hid ((k : Int) = (E : Int)) := by show _ = _; have := hr.out.2; omega
        clear hR hxm
        by_cases hpar : U % 2 = 1
        · have hp' : ((u : Int) % 2 == 1) = true := by rw [hZ.out]; simp; omega
          have hVV : wrap64 (-((u : Int) + 1).tdiv 2) = V := by rw [hZ.out]; exact hVo.out hpar
          clear hpar hVo hVe
          by_cases hc : numData V = s.extract a E
          · have hc' : ((numData V).toList == (s.extract a k).toList) = true := by rw [hc, show k = E by have := hE.out; omega]; simp
            by_cases hlo : V < lo
            · have hr' : Hid (tellN lo hi s a = none) := by show _ = _; rw [HP.out, if_pos (.inr (.inl hlo))]
              clear HP hc
              go_wp2_with (first | (go_at_call 63; refine (coded_any V _ hV1 hV2).mono ?_; rintro e w1 ⟨rfl, hb1⟩) | (go_at_call 64; refine (decimal_any V _ (by omega) (by omega)).mono ?_; rintro e w2 ⟨rfl, hb2⟩))
              go_ret2
              rw [hr'.out]
              exact ⟨rfl, hb1⟩
            · by_cases hhi : hi < V
              · have hr' : Hid (tellN lo hi s a = none) := by show _ = _; rw [HP.out, if_pos (.inr (.inr hhi))]
                clear HP hc
                go_wp2_with (first | (go_at_call 63; refine (coded_any V _ hV1 hV2).mono ?_; rintro e w1 ⟨rfl, hb1⟩) | (go_at_call 64; refine (decimal_any V _ (by omega) (by omega)).mono ?_; rintro e w2 ⟨rfl, hb2⟩))
                go_ret2
                rw [hr'.out]
                exact ⟨rfl, hb1⟩
              · have hr' : Hid (tellN lo hi s a = some (decI V, E)) := by show _ = _; rw [HP.out, if_neg]; rintro (h | h | h); exact h hc; exact hlo h; exact hhi h
                clear HP hc
                go_wp2_with (first | (go_at_call 63; refine (coded_any V _ hV1 hV2).mono ?_; rintro e w1 ⟨rfl, hb1⟩) | (go_at_call 64; refine (decimal_any V _ (by omega) (by omega)).mono ?_; rintro e w2 ⟨rfl, hb2⟩))
                go_ret2
                rw [hr'.out]
                exact ⟨ret2 rfl (v_int hE.out), hb1.trans (hb2.mono hb1.size)⟩
          · have hc' : ((numData V).toList == (s.extract a k).toList) = false := by
              rw [show k = E by have := hE.out; omega, beq_eq_false_iff_ne]; intro h; apply hc; rw [ByteArray.toList_eq, ByteArray.toList_eq] at h; apply ByteArray.ext; exact Array.ext' h
            have hr' : Hid (tellN lo hi s a = none) := by show _ = _; rw [HP.out, if_pos (.inl hc)]
            clear HP hc
            go_wp2_with (first | (go_at_call 63; refine (coded_any V _ hV1 hV2).mono ?_; rintro e w1 ⟨rfl, hb1⟩) | (go_at_call 64; refine (decimal_any V _ (by omega) (by omega)).mono ?_; rintro e w2 ⟨rfl, hb2⟩))
            go_ret2
            rw [hr'.out]
            exact ⟨rfl, hb1⟩
        · have hp' : ((u : Int) % 2 == 1) = false := by rw [hZ.out]; rw [beq_eq_false_iff_ne]; omega
          have hVV : (u : Int) / 2 = V := by rw [hZ.out]; exact hVe.out (by omega)
          clear hpar hVo hVe
          by_cases hc : numData V = s.extract a E
          · have hc' : ((numData V).toList == (s.extract a k).toList) = true := by rw [hc, show k = E by have := hE.out; omega]; simp
            by_cases hlo : V < lo
            · have hr' : Hid (tellN lo hi s a = none) := by show _ = _; rw [HP.out, if_pos (.inr (.inl hlo))]
              clear HP hc
              go_wp2_with (first | (go_at_call 63; refine (coded_any V _ hV1 hV2).mono ?_; rintro e w1 ⟨rfl, hb1⟩) | (go_at_call 64; refine (decimal_any V _ (by omega) (by omega)).mono ?_; rintro e w2 ⟨rfl, hb2⟩))
              go_ret2
              rw [hr'.out]
              exact ⟨rfl, hb1⟩
            · by_cases hhi : hi < V
              · have hr' : Hid (tellN lo hi s a = none) := by show _ = _; rw [HP.out, if_pos (.inr (.inr hhi))]
                clear HP hc
                go_wp2_with (first | (go_at_call 63; refine (coded_any V _ hV1 hV2).mono ?_; rintro e w1 ⟨rfl, hb1⟩) | (go_at_call 64; refine (decimal_any V _ (by omega) (by omega)).mono ?_; rintro e w2 ⟨rfl, hb2⟩))
                go_ret2
                rw [hr'.out]
                exact ⟨rfl, hb1⟩
              · have hr' : Hid (tellN lo hi s a = some (decI V, E)) := by show _ = _; rw [HP.out, if_neg]; rintro (h | h | h); exact h hc; exact hlo h; exact hhi h
                clear HP hc
                go_wp2_with (first | (go_at_call 63; refine (coded_any V _ hV1 hV2).mono ?_; rintro e w1 ⟨rfl, hb1⟩) | (go_at_call 64; refine (decimal_any V _ (by omega) (by omega)).mono ?_; rintro e w2 ⟨rfl, hb2⟩))
                go_ret2
                rw [hr'.out]
                exact ⟨ret2 rfl (v_int hE.out), hb1.trans (hb2.mono hb1.size)⟩
          · have hc' : ((numData V).toList == (s.extract a k).toList) = false := by
              rw [show k = E by have := hE.out; omega, beq_eq_false_iff_ne]; intro h; apply hc; rw [ByteArray.toList_eq, ByteArray.toList_eq] at h; apply ByteArray.ext; exact Array.ext' h
            have hr' : Hid (tellN lo hi s a = none) := by show _ = _; rw [HP.out, if_pos (.inl hc)]
            clear HP hc
            go_wp2_with (first | (go_at_call 63; refine (coded_any V _ hV1 hV2).mono ?_; rintro e w1 ⟨rfl, hb1⟩) | (go_at_call 64; refine (decimal_any V _ (by omega) (by omega)).mono ?_; rintro e w2 ⟨rfl, hb2⟩))
            go_ret2
            rw [hr'.out]
            exact ⟨rfl, hb1⟩
      | succ m =>
        have h8 : (k : Int) - (a : Int) < 8 := by omega
        have hx3 : x ≤ 562949953421312 := by
          have := hxm.out
          rw [Nat.pow_succ] at this
          have hp : 1 ≤ 128 ^ m := Nat.pow_pos (by omega)
          have h2 : x * 128 ≤ x * (128 ^ m * 128) := Nat.mul_le_mul_left x (by omega)
          omega
        have hcx : 0 ≤ (s[k].toNat : Int) % 128 * (x : Int) ∧ (s[k].toNat : Int) % 128 * (x : Int) ≤ 127 * (x : Int) := ⟨Int.mul_nonneg (by omega) (by omega), Int.mul_le_mul_of_nonneg_right (by omega) (by omega)⟩
        obtain ⟨hcx1, hcx2⟩ := hcx
        have hnat : s[k].toNat % 128 * x ≤ 127 * x := Nat.mul_le_mul_right x (by omega)
        have hst : scanL s (m + 1) k u x = if (s[k].toNat : Int) < 128 then (u + s[k].toNat % 128 * x, k + 1) else scanL s m (k + 1) (u + s[k].toNat % 128 * x) (x * 128) := by
          rw [scanL, if_neg (by omega), hbk.out, Int.toNat_natCast]
        by_cases h128 : (s[k].toNat : Int) < 128
        · have hr : Hid (((u + s[k].toNat % 128 * x : Nat) : Int) = U ∧ k + 1 = E) := by
            have h := hR.out; rw [hst, if_pos h128] at h; simp only [Prod.mk.injEq] at h; exact ⟨by rw [h.1], h.2⟩
          have hr : Hid ((u : Int) + (s[k].toNat : Int) % 128 * (x : Int) = U ∧ k + 1 = E) := by
            refine ⟨?_, hr.out.2⟩; rw [← hr.out.1]; simp
          clear hst
          have hZ : Hid (((u : Int) + (s[k].toNat : Int) % 128 * (x : Int)) = (U : Int)) := by show _ = _; have := hr.out.1; omega
          have hE : Hid (((k : Int) + 1) = (E : Int)) := by show _ = _; have := hr.out.2; omega
          clear hR hxm
          by_cases hpar : U % 2 = 1
          · have hp' : (((u : Int) + (s[k].toNat : Int) % 128 * (x : Int)) % 2 == 1) = true := by rw [hZ.out]; simp; omega
            have hVV : wrap64 (-(((u : Int) + (s[k].toNat : Int) % 128 * (x : Int)) + 1).tdiv 2) = V := by rw [hZ.out]; exact hVo.out hpar
            clear hpar hVo hVe
            by_cases hc : numData V = s.extract a E
            · have hc' : ((numData V).toList == (s.extract a (k + 1)).toList) = true := by rw [hc, show (k + 1) = E by have := hE.out; omega]; simp
              by_cases hlo : V < lo
              · have hr' : Hid (tellN lo hi s a = none) := by show _ = _; rw [HP.out, if_pos (.inr (.inl hlo))]
                clear HP hc
                go_wp2_with (first | (go_at_call 63; refine (coded_any V _ hV1 hV2).mono ?_; rintro e w1 ⟨rfl, hb1⟩) | (go_at_call 64; refine (decimal_any V _ (by omega) (by omega)).mono ?_; rintro e w2 ⟨rfl, hb2⟩))
                go_ret2
                rw [hr'.out]
                exact ⟨rfl, hb1⟩
              · by_cases hhi : hi < V
                · have hr' : Hid (tellN lo hi s a = none) := by show _ = _; rw [HP.out, if_pos (.inr (.inr hhi))]
                  clear HP hc
                  go_wp2_with (first | (go_at_call 63; refine (coded_any V _ hV1 hV2).mono ?_; rintro e w1 ⟨rfl, hb1⟩) | (go_at_call 64; refine (decimal_any V _ (by omega) (by omega)).mono ?_; rintro e w2 ⟨rfl, hb2⟩))
                  go_ret2
                  rw [hr'.out]
                  exact ⟨rfl, hb1⟩
                · have hr' : Hid (tellN lo hi s a = some (decI V, E)) := by show _ = _; rw [HP.out, if_neg]; rintro (h | h | h); exact h hc; exact hlo h; exact hhi h
                  clear HP hc
                  go_wp2_with (first | (go_at_call 63; refine (coded_any V _ hV1 hV2).mono ?_; rintro e w1 ⟨rfl, hb1⟩) | (go_at_call 64; refine (decimal_any V _ (by omega) (by omega)).mono ?_; rintro e w2 ⟨rfl, hb2⟩))
                  go_ret2
                  rw [hr'.out]
                  exact ⟨ret2 rfl (v_int hE.out), hb1.trans (hb2.mono hb1.size)⟩
            · have hc' : ((numData V).toList == (s.extract a (k + 1)).toList) = false := by
                rw [show (k + 1) = E by have := hE.out; omega, beq_eq_false_iff_ne]; intro h; apply hc; rw [ByteArray.toList_eq, ByteArray.toList_eq] at h; apply ByteArray.ext; exact Array.ext' h
              have hr' : Hid (tellN lo hi s a = none) := by show _ = _; rw [HP.out, if_pos (.inl hc)]
              clear HP hc
              go_wp2_with (first | (go_at_call 63; refine (coded_any V _ hV1 hV2).mono ?_; rintro e w1 ⟨rfl, hb1⟩) | (go_at_call 64; refine (decimal_any V _ (by omega) (by omega)).mono ?_; rintro e w2 ⟨rfl, hb2⟩))
              go_ret2
              rw [hr'.out]
              exact ⟨rfl, hb1⟩
          · have hp' : (((u : Int) + (s[k].toNat : Int) % 128 * (x : Int)) % 2 == 1) = false := by rw [hZ.out]; rw [beq_eq_false_iff_ne]; omega
            have hVV : ((u : Int) + (s[k].toNat : Int) % 128 * (x : Int)) / 2 = V := by rw [hZ.out]; exact hVe.out (by omega)
            clear hpar hVo hVe
            by_cases hc : numData V = s.extract a E
            · have hc' : ((numData V).toList == (s.extract a (k + 1)).toList) = true := by rw [hc, show (k + 1) = E by have := hE.out; omega]; simp
              by_cases hlo : V < lo
              · have hr' : Hid (tellN lo hi s a = none) := by show _ = _; rw [HP.out, if_pos (.inr (.inl hlo))]
                clear HP hc
                go_wp2_with (first | (go_at_call 63; refine (coded_any V _ hV1 hV2).mono ?_; rintro e w1 ⟨rfl, hb1⟩) | (go_at_call 64; refine (decimal_any V _ (by omega) (by omega)).mono ?_; rintro e w2 ⟨rfl, hb2⟩))
                go_ret2
                rw [hr'.out]
                exact ⟨rfl, hb1⟩
              · by_cases hhi : hi < V
                · have hr' : Hid (tellN lo hi s a = none) := by show _ = _; rw [HP.out, if_pos (.inr (.inr hhi))]
                  clear HP hc
                  go_wp2_with (first | (go_at_call 63; refine (coded_any V _ hV1 hV2).mono ?_; rintro e w1 ⟨rfl, hb1⟩) | (go_at_call 64; refine (decimal_any V _ (by omega) (by omega)).mono ?_; rintro e w2 ⟨rfl, hb2⟩))
                  go_ret2
                  rw [hr'.out]
                  exact ⟨rfl, hb1⟩
                · have hr' : Hid (tellN lo hi s a = some (decI V, E)) := by show _ = _; rw [HP.out, if_neg]; rintro (h | h | h); exact h hc; exact hlo h; exact hhi h
                  clear HP hc
                  go_wp2_with (first | (go_at_call 63; refine (coded_any V _ hV1 hV2).mono ?_; rintro e w1 ⟨rfl, hb1⟩) | (go_at_call 64; refine (decimal_any V _ (by omega) (by omega)).mono ?_; rintro e w2 ⟨rfl, hb2⟩))
                  go_ret2
                  rw [hr'.out]
                  exact ⟨ret2 rfl (v_int hE.out), hb1.trans (hb2.mono hb1.size)⟩
            · have hc' : ((numData V).toList == (s.extract a (k + 1)).toList) = false := by
                rw [show (k + 1) = E by have := hE.out; omega, beq_eq_false_iff_ne]; intro h; apply hc; rw [ByteArray.toList_eq, ByteArray.toList_eq] at h; apply ByteArray.ext; exact Array.ext' h
              have hr' : Hid (tellN lo hi s a = none) := by show _ = _; rw [HP.out, if_pos (.inl hc)]
              clear HP hc
              go_wp2_with (first | (go_at_call 63; refine (coded_any V _ hV1 hV2).mono ?_; rintro e w1 ⟨rfl, hb1⟩) | (go_at_call 64; refine (decimal_any V _ (by omega) (by omega)).mono ?_; rintro e w2 ⟨rfl, hb2⟩))
              go_ret2
              rw [hr'.out]
              exact ⟨rfl, hb1⟩
        · have hr : Hid (scanL s m (k + 1) (u + s[k].toNat % 128 * x) (x * 128) = (U, E)) := by
            have h := hR.out; rw [hst, if_neg h128] at h; exact h
          clear hst hVo hVe
          go_wp2_with fail
          go_round
          case rel =>
            refine ⟨m, k + 1, u + s[k].toNat % 128 * x, x * 128, by omega, by omega, by omega, by go_num, v_int ?_, v_int ?_, by omega, by omega, by omega, ?_, hr⟩
            · simp
            · simp
            · show _ = _
              have := hxm.out
              rw [Nat.pow_succ, Nat.mul_comm (128 ^ m)] at this
              rw [Nat.mul_assoc]; exact this
          case measure => simp [intOf]; omega
    · have hlt' : (s.size : Int) ≤ (k : Int) := by omega
      have hr : Hid (u = U ∧ k = E) := by
        have h := hR.out
        cases m with
        | zero => simp only [scanL, Prod.mk.injEq] at h; exact h
        | succ m => rw [scanL, if_pos (by omega)] at h; simp only [Prod.mk.injEq] at h; exact h
      have hZ : Hid ((u : Int) = (U : Int)) := by show _ = _; have := hr.out.1; omega
      have hE : Hid ((k : Int) = (E : Int)) := by show _ = _; have := hr.out.2; omega
      clear hR hxm
      by_cases hpar : U % 2 = 1
      · have hp' : ((u : Int) % 2 == 1) = true := by rw [hZ.out]; simp; omega
        have hVV : wrap64 (-((u : Int) + 1).tdiv 2) = V := by rw [hZ.out]; exact hVo.out hpar
        clear hpar hVo hVe
        by_cases hc : numData V = s.extract a E
        · have hc' : ((numData V).toList == (s.extract a k).toList) = true := by rw [hc, show k = E by have := hE.out; omega]; simp
          by_cases hlo : V < lo
          · have hr' : Hid (tellN lo hi s a = none) := by show _ = _; rw [HP.out, if_pos (.inr (.inl hlo))]
            clear HP hc
            go_wp2_with (first | (go_at_call 63; refine (coded_any V _ hV1 hV2).mono ?_; rintro e w1 ⟨rfl, hb1⟩) | (go_at_call 64; refine (decimal_any V _ (by omega) (by omega)).mono ?_; rintro e w2 ⟨rfl, hb2⟩))
            go_ret2
            rw [hr'.out]
            exact ⟨rfl, hb1⟩
          · by_cases hhi : hi < V
            · have hr' : Hid (tellN lo hi s a = none) := by show _ = _; rw [HP.out, if_pos (.inr (.inr hhi))]
              clear HP hc
              go_wp2_with (first | (go_at_call 63; refine (coded_any V _ hV1 hV2).mono ?_; rintro e w1 ⟨rfl, hb1⟩) | (go_at_call 64; refine (decimal_any V _ (by omega) (by omega)).mono ?_; rintro e w2 ⟨rfl, hb2⟩))
              go_ret2
              rw [hr'.out]
              exact ⟨rfl, hb1⟩
            · have hr' : Hid (tellN lo hi s a = some (decI V, E)) := by show _ = _; rw [HP.out, if_neg]; rintro (h | h | h); exact h hc; exact hlo h; exact hhi h
              clear HP hc
              go_wp2_with (first | (go_at_call 63; refine (coded_any V _ hV1 hV2).mono ?_; rintro e w1 ⟨rfl, hb1⟩) | (go_at_call 64; refine (decimal_any V _ (by omega) (by omega)).mono ?_; rintro e w2 ⟨rfl, hb2⟩))
              go_ret2
              rw [hr'.out]
              exact ⟨ret2 rfl (v_int hE.out), hb1.trans (hb2.mono hb1.size)⟩
        · have hc' : ((numData V).toList == (s.extract a k).toList) = false := by
            rw [show k = E by have := hE.out; omega, beq_eq_false_iff_ne]; intro h; apply hc; rw [ByteArray.toList_eq, ByteArray.toList_eq] at h; apply ByteArray.ext; exact Array.ext' h
          have hr' : Hid (tellN lo hi s a = none) := by show _ = _; rw [HP.out, if_pos (.inl hc)]
          clear HP hc
          go_wp2_with (first | (go_at_call 63; refine (coded_any V _ hV1 hV2).mono ?_; rintro e w1 ⟨rfl, hb1⟩) | (go_at_call 64; refine (decimal_any V _ (by omega) (by omega)).mono ?_; rintro e w2 ⟨rfl, hb2⟩))
          go_ret2
          rw [hr'.out]
          exact ⟨rfl, hb1⟩
      · have hp' : ((u : Int) % 2 == 1) = false := by rw [hZ.out]; rw [beq_eq_false_iff_ne]; omega
        have hVV : (u : Int) / 2 = V := by rw [hZ.out]; exact hVe.out (by omega)
        clear hpar hVo hVe
        by_cases hc : numData V = s.extract a E
        · have hc' : ((numData V).toList == (s.extract a k).toList) = true := by rw [hc, show k = E by have := hE.out; omega]; simp
          by_cases hlo : V < lo
          · have hr' : Hid (tellN lo hi s a = none) := by show _ = _; rw [HP.out, if_pos (.inr (.inl hlo))]
            clear HP hc
            go_wp2_with (first | (go_at_call 63; refine (coded_any V _ hV1 hV2).mono ?_; rintro e w1 ⟨rfl, hb1⟩) | (go_at_call 64; refine (decimal_any V _ (by omega) (by omega)).mono ?_; rintro e w2 ⟨rfl, hb2⟩))
            go_ret2
            rw [hr'.out]
            exact ⟨rfl, hb1⟩
          · by_cases hhi : hi < V
            · have hr' : Hid (tellN lo hi s a = none) := by show _ = _; rw [HP.out, if_pos (.inr (.inr hhi))]
              clear HP hc
              go_wp2_with (first | (go_at_call 63; refine (coded_any V _ hV1 hV2).mono ?_; rintro e w1 ⟨rfl, hb1⟩) | (go_at_call 64; refine (decimal_any V _ (by omega) (by omega)).mono ?_; rintro e w2 ⟨rfl, hb2⟩))
              go_ret2
              rw [hr'.out]
              exact ⟨rfl, hb1⟩
            · have hr' : Hid (tellN lo hi s a = some (decI V, E)) := by show _ = _; rw [HP.out, if_neg]; rintro (h | h | h); exact h hc; exact hlo h; exact hhi h
              clear HP hc
              go_wp2_with (first | (go_at_call 63; refine (coded_any V _ hV1 hV2).mono ?_; rintro e w1 ⟨rfl, hb1⟩) | (go_at_call 64; refine (decimal_any V _ (by omega) (by omega)).mono ?_; rintro e w2 ⟨rfl, hb2⟩))
              go_ret2
              rw [hr'.out]
              exact ⟨ret2 rfl (v_int hE.out), hb1.trans (hb2.mono hb1.size)⟩
        · have hc' : ((numData V).toList == (s.extract a k).toList) = false := by
            rw [show k = E by have := hE.out; omega, beq_eq_false_iff_ne]; intro h; apply hc; rw [ByteArray.toList_eq, ByteArray.toList_eq] at h; apply ByteArray.ext; exact Array.ext' h
          have hr' : Hid (tellN lo hi s a = none) := by show _ = _; rw [HP.out, if_pos (.inl hc)]
          clear HP hc
          go_wp2_with (first | (go_at_call 63; refine (coded_any V _ hV1 hV2).mono ?_; rintro e w1 ⟨rfl, hb1⟩) | (go_at_call 64; refine (decimal_any V _ (by omega) (by omega)).mono ?_; rintro e w2 ⟨rfl, hb2⟩))
          go_ret2
          rw [hr'.out]
          exact ⟨rfl, hb1⟩
end Go.Proofs.YtkkekopomiehlaaDoor
