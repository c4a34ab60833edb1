import Derived.Test.YtkkekopomiehlaaDoorRef5
set_option linter.unusedVariables false
set_option linter.unusedSimpArgs false
set_option maxRecDepth 4000
namespace Go.Proofs.YtkkekopomiehlaaDoor
open Go.RowKit

set_option maxHeartbeats 4000000 in
theorem layRecord_any {n : Nat} {s t : ByteArray} (IL : LayOK n s t) (ht : t.size ≤ 4096) (hn : n ≤ 100) (i j : Nat) {fs : List (Nat × Ty × ByteArray)} {k0 : Nat} (hne : 0 < fs.length) (hfl : fs.length ≤ 4096)
    (hF0 : ∀ w, Calls Tryd.prog 62 #[.string s, .int .i64 i] w fun e w' => GRet w.heap.size n s (some (fs, k0)) e w' ∧ Below w.heap.size w w') (w : World) (hj : j < t.size) :
    Calls Tryd.prog 105 #[.string s, .int .i64 i, .string t, .int .i64 j] w fun e w' => e = .returned (layRet (encFlds (enc true t n) t fs 123 j ByteArray.empty)) ∧ Below w.heap.size w w' := by
  have _hs : t.size ≤ 9000000 := by omega
  have hF : ∀ w, Calls Tryd.prog 62 #[.string s, .int .i64 i] w fun e w' => ∃ g cap xs, e = .returned (.tuple #[.slice (some ⟨g, 0, none⟩) fs.length cap, .int .i64 k0]) ∧ w'.ownsRow w.heap.size 79 4 (.slice (some ⟨g, 0, none⟩) fs.length cap) fs.length xs ∧ RowR n s xs fs ∧ Below w.heap.size w w' := fun w => by
    refine (hF0 w).mono ?_
    rintro e w' ⟨⟨g, cap, xs, h1, h2, h3⟩, h4⟩
    exact ⟨g, cap, xs, h1, h2, h3, h4⟩
  clear hF0
  obtain ⟨R, hR⟩ : ∃ R, R = encFlds (enc true t n) t fs 123 j ByteArray.empty := ⟨_, rfl⟩
  rw [← hR]
  have HR : Hid (R = encFlds (enc true t n) t fs 123 j ByteArray.empty) := hR
  clear hR
  go_enter Tryd.func105, Tryd.ntmps105
  go_wp2_with (go_at_call 62; refine (hF _).mono ?_; rintro e wf ⟨g, cap, xs, rfl, hown, hrow, hbf0⟩)
  go_loopw [12, 13, 14] (fun vd vb vi wr => ∃ (x b : Nat) (d : ByteArray), x ≤ fs.length ∧ j ≤ b ∧ b ≤ t.size ∧ vi = .int .i64 x ∧ vb = .int .i64 b ∧ vd = .string d ∧ Hid (R = encFlds (enc true t n) t (fs.drop x) (if x = 0 then 123 else 44) b d) ∧ Hid (d.size ≤ (9 * n + 9) * (b - j)) ∧ Below wf.heap.size wf wr) (fun _ _ x _ => fs.length - (intOf x).toNat)
  case atStart => exact ⟨0, j, ByteArray.empty, Nat.zero_le _, Nat.le_refl _, by omega, rfl, rfl, rfl, HR, Nat.zero_le _, Below.refl _ _⟩
  case round =>
    obtain ⟨x, b, d, hx0, hjb, hbt, rfl, rfl, rfl, hR, hd, hb⟩ := hrel
    by_cases hlt : x < fs.length
    · obtain ⟨f, hf⟩ : ∃ f, fs[x]? = some f := ⟨fs[x], List.getElem?_eq_getElem hlt⟩
      have hdrop : fs.drop x = f :: fs.drop (x + 1) := by
        rw [List.drop_eq_getElem_cons hlt]; rw [List.getElem?_eq_getElem hlt] at hf; simp at hf; rw [hf]
      obtain ⟨p, kp, hp, hpn, h256, c0, c1, c2, c3⟩ := hrow.2 x f hf
      have k0 := cell_keep hb (own_cell hown c0)
      have k1 := cell_keep hb (own_cell hown c1)
      have hg' : g < wr.heap.size := lt_of_cell k0
      clear hf c0 c1 c2 c3
      have hds := data_small hd.out hn (by omega)
      rw [hdrop, encFlds] at hR
      by_cases hx1 : x = 0
      · have hx' : ((x : Int) == 0) = true := by simp; omega
        rw [if_pos hx1] at hR
        have HX : Hid (x = 0) := hx1
        clear hx1
        by_cases h1 : bAt t b = 123
        · have h1' : atB t b 123 = true := atB_yes rfl h1
          by_cases h2 : bAt t (b + 1) = f.1
          · have h2' : atB t ((b : Int) + 1) f.1 = true := atB_yes rfl h2
            by_cases h3 : bAt t (b + 2) = 58
            · have h3' : atB t ((b : Int) + 2) 58 = true := atB_yes rfl h3
              have hb3 : b + 2 < t.size := bAt_lt (by omega)
              cases hy : enc true t n f.2.1 (b + 3) with
              | none =>
                have hr' : Hid (R = none) := by show _ = _; rw [hR.out, if_pos ⟨h1, h2, h3⟩, hy]
                have hcall := fun w => IL.no w hp hpn (show b + 3 ≤ t.size by omega) hy
                clear h1 h2 h3 hy hR hrow hown
                go_wp2_with (first | (go_at_call 61; refine (flipW (at_any _ _ _ _ (by omega) _hs)).mono ?_; rintro e _ ⟨rfl, rfl⟩) | (go_at_call 94; refine (hcall _).mono ?_; rintro e w1 ⟨d', hd', rfl, hb1⟩))
                go_ret2
                rw [hr'.out]
                exact ⟨rfl, (hbf0.trans (hb.mono hbf0.size)).trans (hb1.mono (Nat.le_trans hbf0.size hb.size))⟩
              | some q =>
                obtain ⟨y, k⟩ := q
                obtain ⟨hk1, hk2, hks⟩ := enc_bd hy
                have hsum : (d ++ y).size ≤ (9 * n + 9) * (k - j) := by
                  rw [ByteArray.size_append]
                  have e1 := mul_sub_add (C := 9 * n + 9) (show j ≤ b + 3 by omega) (show b + 3 ≤ k by omega)
                  have e2 := mul_mono (C := 9 * n + 9) (show b - j ≤ b + 3 - j by omega)
                  have := hd.out
                  omega
                have hys := data_small hks hn (by omega)
                have HS : Hid ((d ++ y).size ≤ (9 * n + 9) * (k - j)) := hsum
                have hr' : Hid (R = encFlds (enc true t n) t (fs.drop (x + 1)) (if x + 1 = 0 then 123 else 44) k (d ++ y)) := by show _ = _; rw [hR.out, if_pos ⟨h1, h2, h3⟩, hy, if_neg (by omega)]
                have hcall := fun w => IL.yes w hp hpn (show b + 3 ≤ t.size by omega) hy
                clear h1 h2 h3 hy hks hsum hR hrow hown
                go_wp2_with (first | (go_at_call 61; refine (flipW (at_any _ _ _ _ (by omega) _hs)).mono ?_; rintro e _ ⟨rfl, rfl⟩) | (go_at_call 94; refine (hcall _).mono ?_; rintro e w1 ⟨rfl, hb1⟩))
                go_roundw
                case rel => exact ⟨x + 1, k, d ++ y, by omega, by omega, by omega, by go_num, rfl, rfl, hr', HS, hb.trans (hb1.mono hb.size)⟩
                case measure => simp [intOf]; omega
            · have h3' : atB t ((b : Int) + 2) 58 = false := atB_no rfl h3
              have hr' : Hid (R = none) := by show _ = _; rw [hR.out, if_neg (fun h => h3 h.2.2)]
              clear h1 h2 h3 hR hrow hown
              go_wp2_with (first | (go_at_call 61; refine (flipW (at_any _ _ _ _ (by omega) _hs)).mono ?_; rintro e _ ⟨rfl, rfl⟩))
              go_ret2
              rw [hr'.out]
              exact ⟨rfl, hbf0.trans (hb.mono hbf0.size)⟩
          · have h2' : atB t ((b : Int) + 1) f.1 = false := atB_no rfl h2
            have hr' : Hid (R = none) := by show _ = _; rw [hR.out, if_neg (fun h => h2 h.2.1)]
            clear h1 h2 hR hrow hown
            go_wp2_with (first | (go_at_call 61; refine (flipW (at_any _ _ _ _ (by omega) _hs)).mono ?_; rintro e _ ⟨rfl, rfl⟩))
            go_ret2
            rw [hr'.out]
            exact ⟨rfl, hbf0.trans (hb.mono hbf0.size)⟩
        · have h1' : atB t b 123 = false := atB_no rfl h1
          have hr' : Hid (R = none) := by show _ = _; rw [hR.out, if_neg (fun h => h1 h.1)]
          clear h1 hR hrow hown
          go_wp2_with (first | (go_at_call 61; refine (flipW (at_any _ _ _ _ (by omega) _hs)).mono ?_; rintro e _ ⟨rfl, rfl⟩))
          go_ret2
          rw [hr'.out]
          exact ⟨rfl, hbf0.trans (hb.mono hbf0.size)⟩
      · have hx' : ((x : Int) == 0) = false := by simp; omega
        rw [if_neg hx1] at hR
        clear hx1
        by_cases h1 : bAt t b = 44
        · have h1' : atB t b 44 = true := atB_yes rfl h1
          by_cases h2 : bAt t (b + 1) = f.1
          · have h2' : atB t ((b : Int) + 1) f.1 = true := atB_yes rfl h2
            by_cases h3 : bAt t (b + 2) = 58
            · have h3' : atB t ((b : Int) + 2) 58 = true := atB_yes rfl h3
              have hb3 : b + 2 < t.size := bAt_lt (by omega)
              cases hy : enc true t n f.2.1 (b + 3) with
              | none =>
                have hr' : Hid (R = none) := by show _ = _; rw [hR.out, if_pos ⟨h1, h2, h3⟩, hy]
                have hcall := fun w => IL.no w hp hpn (show b + 3 ≤ t.size by omega) hy
                clear h1 h2 h3 hy hR hrow hown
                go_wp2_with (first | (go_at_call 61; refine (flipW (at_any _ _ _ _ (by omega) _hs)).mono ?_; rintro e _ ⟨rfl, rfl⟩) | (go_at_call 94; refine (hcall _).mono ?_; rintro e w1 ⟨d', hd', rfl, hb1⟩))
                go_ret2
                rw [hr'.out]
                exact ⟨rfl, (hbf0.trans (hb.mono hbf0.size)).trans (hb1.mono (Nat.le_trans hbf0.size hb.size))⟩
              | some q =>
                obtain ⟨y, k⟩ := q
                obtain ⟨hk1, hk2, hks⟩ := enc_bd hy
                have hsum : (d ++ y).size ≤ (9 * n + 9) * (k - j) := by
                  rw [ByteArray.size_append]
                  have e1 := mul_sub_add (C := 9 * n + 9) (show j ≤ b + 3 by omega) (show b + 3 ≤ k by omega)
                  have e2 := mul_mono (C := 9 * n + 9) (show b - j ≤ b + 3 - j by omega)
                  have := hd.out
                  omega
                have hys := data_small hks hn (by omega)
                have HS : Hid ((d ++ y).size ≤ (9 * n + 9) * (k - j)) := hsum
                have hr' : Hid (R = encFlds (enc true t n) t (fs.drop (x + 1)) (if x + 1 = 0 then 123 else 44) k (d ++ y)) := by show _ = _; rw [hR.out, if_pos ⟨h1, h2, h3⟩, hy, if_neg (by omega)]
                have hcall := fun w => IL.yes w hp hpn (show b + 3 ≤ t.size by omega) hy
                clear h1 h2 h3 hy hks hsum hR hrow hown
                go_wp2_with (first | (go_at_call 61; refine (flipW (at_any _ _ _ _ (by omega) _hs)).mono ?_; rintro e _ ⟨rfl, rfl⟩) | (go_at_call 94; refine (hcall _).mono ?_; rintro e w1 ⟨rfl, hb1⟩))
                go_roundw
                case rel => exact ⟨x + 1, k, d ++ y, by omega, by omega, by omega, by go_num, rfl, rfl, hr', HS, hb.trans (hb1.mono hb.size)⟩
                case measure => simp [intOf]; omega
            · have h3' : atB t ((b : Int) + 2) 58 = false := atB_no rfl h3
              have hr' : Hid (R = none) := by show _ = _; rw [hR.out, if_neg (fun h => h3 h.2.2)]
              clear h1 h2 h3 hR hrow hown
              go_wp2_with (first | (go_at_call 61; refine (flipW (at_any _ _ _ _ (by omega) _hs)).mono ?_; rintro e _ ⟨rfl, rfl⟩))
              go_ret2
              rw [hr'.out]
              exact ⟨rfl, hbf0.trans (hb.mono hbf0.size)⟩
          · have h2' : atB t ((b : Int) + 1) f.1 = false := atB_no rfl h2
            have hr' : Hid (R = none) := by show _ = _; rw [hR.out, if_neg (fun h => h2 h.2.1)]
            clear h1 h2 hR hrow hown
            go_wp2_with (first | (go_at_call 61; refine (flipW (at_any _ _ _ _ (by omega) _hs)).mono ?_; rintro e _ ⟨rfl, rfl⟩))
            go_ret2
            rw [hr'.out]
            exact ⟨rfl, hbf0.trans (hb.mono hbf0.size)⟩
        · have h1' : atB t b 44 = false := atB_no rfl h1
          have hr' : Hid (R = none) := by show _ = _; rw [hR.out, if_neg (fun h => h1 h.1)]
          clear h1 hR hrow hown
          go_wp2_with (first | (go_at_call 61; refine (flipW (at_any _ _ _ _ (by omega) _hs)).mono ?_; rintro e _ ⟨rfl, rfl⟩))
          go_ret2
          rw [hr'.out]
          exact ⟨rfl, hbf0.trans (hb.mono hbf0.size)⟩
    · have hnil : fs.drop x = [] := List.drop_of_length_le (by omega)
      rw [hnil, encFlds] at hR
      have hlen : ((fs.length : Int) == 0) = false := by rw [beq_eq_false_iff_ne]; omega
      clear hrow hown
      by_cases h5 : bAt t b = 125
      · have h5' : atB t b 125 = true := atB_yes rfl h5
        have hr' : Hid (R = some (d, b + 1)) := by show _ = _; rw [hR.out, if_pos h5]
        clear h5 hR
        go_wp2_with (first | (go_at_call 61; refine (flipW (at_any _ _ _ _ (by omega) _hs)).mono ?_; rintro e _ ⟨rfl, rfl⟩))
        go_ret2
        rw [hr'.out]
        exact ⟨rfl, hbf0.trans (hb.mono hbf0.size)⟩
      · have h5' : atB t b 125 = false := atB_no rfl h5
        have hr' : Hid (R = none) := by show _ = _; rw [hR.out, if_neg h5]
        clear h5 hR
        go_wp2_with (first | (go_at_call 61; refine (flipW (at_any _ _ _ _ (by omega) _hs)).mono ?_; rintro e _ ⟨rfl, rfl⟩))
        go_ret2
        rw [hr'.out]
        exact ⟨rfl, hbf0.trans (hb.mono hbf0.size)⟩
end Go.Proofs.YtkkekopomiehlaaDoor
