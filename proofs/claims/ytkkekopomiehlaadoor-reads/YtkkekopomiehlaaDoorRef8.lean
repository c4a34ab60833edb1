import Derived.Test.YtkkekopomiehlaaDoorRef7
set_option linter.unusedVariables false
set_option linter.unusedSimpArgs false
set_option maxRecDepth 4000
namespace Go.Proofs.YtkkekopomiehlaaDoor
open Go.RowKit

set_option maxHeartbeats 4000000 in
theorem ends_out {s : ByteArray} (hs : s.size ≤ 4096) (i : Nat) (w : World) (hi : s.size ≤ i) (hi2 : i ≤ s.size + 1) :
    Calls Tryd.prog 33 #[.string s, .int .i64 i] w fun e w' => e = .returned (.int .i64 (-1)) ∧ Below w.heap.size w w' := by
  go_enter Tryd.func33, Tryd.ntmps33
  go_wp2_with fail
  go_ret
  exact ⟨rfl, Below.refl _ _⟩

set_option maxRecDepth 10000 in
set_option maxHeartbeats 4000000 in
theorem ends_succ {n : Nat} {s : ByteArray} (IE : EndsOK n s) (IF : FieldsOK n s) (hs : s.size ≤ 4096) (hn : n ≤ 100) : EndsOK (n + 1) s := by
  intro i w hi hi2
  have _hs : s.size ≤ 9000000 := by omega
  by_cases his : s.size ≤ i
  · rcases hx : pType true s (n + 1) i with _ | ⟨ty, k⟩
    · exact ends_out hs i w his hi2
    · have := pType_bd true s _ _ _ _ hx; omega
  · have his' : i < s.size := by omega
    have hbi : Hid (bAt s i = s[i].toNat) := bAt_in s i his'
    rw [pType]
    by_cases h105 : bAt s i = 105
    · have h105' : ((s[i].toNat : Int) == 105) = true := by rw [← hbi.out]; simp [h105]
      rw [if_pos h105]
      clear h105 
      go_enter Tryd.func33, Tryd.ntmps33
      go_wp2_with fail
      go_ret
      exact ⟨rfl, Below.refl _ _⟩
    have h105' : ((s[i].toNat : Int) == 105) = false := by rw [← hbi.out]; simpa using h105
    by_cases h108 : bAt s i = 108
    · have h108' : ((s[i].toNat : Int) == 108) = true := by rw [← hbi.out]; simp [h108]
      rw [if_neg h105, if_pos h108]
      clear h105 h108 
      go_enter Tryd.func33, Tryd.ntmps33
      go_wp2_with fail
      go_ret
      exact ⟨rfl, Below.refl _ _⟩
    have h108' : ((s[i].toNat : Int) == 108) = false := by rw [← hbi.out]; simpa using h108
    by_cases h115 : bAt s i = 115
    · have h115' : ((s[i].toNat : Int) == 115) = true := by rw [← hbi.out]; simp [h115]
      rw [if_neg h105, if_neg h108, if_pos h115]
      clear h105 h108 h115 
      go_enter Tryd.func33, Tryd.ntmps33
      go_wp2_with fail
      go_ret
      exact ⟨rfl, Below.refl _ _⟩
    have h115' : ((s[i].toNat : Int) == 115) = false := by rw [← hbi.out]; simpa using h115
    by_cases h60 : bAt s i = 60
    · have h60' : ((s[i].toNat : Int) == 60) = true := by rw [← hbi.out]; simp [h60]
      rw [if_neg h105, if_neg h108, if_neg h115, if_pos h60, pChoice_eq s (i + 1) (by omega)]
      obtain ⟨E, hE⟩ : ∃ E, E = runEnd isL s (s.size - (i + 1)) (i + 1) := ⟨_, rfl⟩
      have hle := run_le isL s (s.size - (i + 1)) (i + 1)
      rw [← hE] at hle
      obtain ⟨hle1, hle2⟩ := hle
      have hP : rChoice s (i + 1) = if E - (i + 1) < 1 ∨ 8 < E - (i + 1) ∨ tw (s.extract (i + 1) E) = true then none else if bAt s E = 43 then (if bAt s (E + 1) = 62 then some (⟨60, s.extract (i + 1) E, true, [], []⟩, E + 2) else none) else if bAt s E = 62 then some (⟨60, s.extract (i + 1) E, false, [], []⟩, E + 1) else none := by rw [hE]; rfl
      have hlc : ∀ w, Calls Tryd.prog 36 #[.string s, .int .i64 i] w fun e w' => e = .returned (.string (s.extract (i + 1) E)) ∧ w = w' := fun w => by rw [hE]; exact flipW (letters_any s i w _hs his')
      rw [hP]
      clear h105 h108 h115 h60 hP hE
      obtain ⟨L, rfl⟩ : ∃ L, E = i + 1 + L := ⟨E - (i + 1), by omega⟩
      have hsz : (s.extract (i + 1) (i + 1 + L)).size = L := by rw [size_extract s (i + 1) (i + 1 + L) hle1 (by omega)]; omega
      have hLs : i + 1 + L ≤ s.size := by omega
      clear hle1 hle2
      by_cases h43 : bAt s (i + 1 + L) = 43
      · have h43' : atB s ((i : Int) + 1 + (L : Int)) 43 = true := atB_yes (i := i + 1 + L) (by omega) h43
        by_cases hA : L < 1
        · rw [if_pos (by left; omega)]
          clear h43
          go_enter Tryd.func33, Tryd.ntmps33
          go_wp2_with (first | (go_at_call 61; refine (flipW (at_any _ _ _ _ (by omega) _hs)).mono ?_; rintro e _ ⟨rfl, rfl⟩) | (go_at_call 36; refine (hlc _).mono ?_; rintro e _ ⟨rfl, rfl⟩) | (go_at_call 60; refine (twice_any _ _ (by rw [hsz]; omega)).mono ?_; rintro e wt ⟨rfl, hbt⟩))
          go_ret
          exact ⟨rfl, hbt⟩
        · by_cases hB : 8 < L
          · rw [if_pos (by right; left; omega)]
            clear h43
            go_enter Tryd.func33, Tryd.ntmps33
            go_wp2_with (first | (go_at_call 61; refine (flipW (at_any _ _ _ _ (by omega) _hs)).mono ?_; rintro e _ ⟨rfl, rfl⟩) | (go_at_call 36; refine (hlc _).mono ?_; rintro e _ ⟨rfl, rfl⟩) | (go_at_call 60; refine (twice_any _ _ (by rw [hsz]; omega)).mono ?_; rintro e wt ⟨rfl, hbt⟩))
            go_ret
            exact ⟨rfl, hbt⟩
          · cases htw : tw (s.extract (i + 1) (i + 1 + L)) with
            | true =>
              rw [if_pos (.inr (.inr rfl))]
              clear h43
              go_enter Tryd.func33, Tryd.ntmps33
              go_wp2_with (first | (go_at_call 61; refine (flipW (at_any _ _ _ _ (by omega) _hs)).mono ?_; rintro e _ ⟨rfl, rfl⟩) | (go_at_call 36; refine (hlc _).mono ?_; rintro e _ ⟨rfl, rfl⟩) | (go_at_call 60; refine (twice_any _ _ (by rw [hsz]; omega)).mono ?_; rintro e wt ⟨rfl, hbt⟩))
              go_ret
              exact ⟨rfl, hbt⟩
            | false =>
              rw [if_neg (by rintro (h | h | h); omega; omega; cases h), if_pos h43]
              by_cases h62 : bAt s (i + 1 + L + 1) = 62
              · have h62' : atB s ((i : Int) + 1 + (L : Int) + 1) 62 = true := atB_yes (i := i + 1 + L + 1) (by omega) h62
                rw [if_pos h62]
                clear h43 h62
                go_enter Tryd.func33, Tryd.ntmps33
                go_wp2_with (first | (go_at_call 61; refine (flipW (at_any _ _ _ _ (by omega) _hs)).mono ?_; rintro e _ ⟨rfl, rfl⟩) | (go_at_call 36; refine (hlc _).mono ?_; rintro e _ ⟨rfl, rfl⟩) | (go_at_call 60; refine (twice_any _ _ (by rw [hsz]; omega)).mono ?_; rintro e wt ⟨rfl, hbt⟩))
                go_ret
                exact ⟨ret_int (by show _ = ((_ : Nat) : Int); omega), hbt⟩
              · have h62' : atB s ((i : Int) + 1 + (L : Int) + 1) 62 = false := atB_no (i := i + 1 + L + 1) (by omega) h62
                rw [if_neg h62]
                clear h43 h62
                go_enter Tryd.func33, Tryd.ntmps33
                go_wp2_with (first | (go_at_call 61; refine (flipW (at_any _ _ _ _ (by omega) _hs)).mono ?_; rintro e _ ⟨rfl, rfl⟩) | (go_at_call 36; refine (hlc _).mono ?_; rintro e _ ⟨rfl, rfl⟩) | (go_at_call 60; refine (twice_any _ _ (by rw [hsz]; omega)).mono ?_; rintro e wt ⟨rfl, hbt⟩))
                go_ret
                exact ⟨rfl, hbt⟩
      · have h43' : atB s ((i : Int) + 1 + (L : Int)) 43 = false := atB_no (i := i + 1 + L) (by omega) h43
        by_cases hA : L < 1
        · rw [if_pos (by left; omega)]
          clear h43
          go_enter Tryd.func33, Tryd.ntmps33
          go_wp2_with (first | (go_at_call 61; refine (flipW (at_any _ _ _ _ (by omega) _hs)).mono ?_; rintro e _ ⟨rfl, rfl⟩) | (go_at_call 36; refine (hlc _).mono ?_; rintro e _ ⟨rfl, rfl⟩) | (go_at_call 60; refine (twice_any _ _ (by rw [hsz]; omega)).mono ?_; rintro e wt ⟨rfl, hbt⟩))
          go_ret
          exact ⟨rfl, hbt⟩
        · by_cases hB : 8 < L
          · rw [if_pos (by right; left; omega)]
            clear h43
            go_enter Tryd.func33, Tryd.ntmps33
            go_wp2_with (first | (go_at_call 61; refine (flipW (at_any _ _ _ _ (by omega) _hs)).mono ?_; rintro e _ ⟨rfl, rfl⟩) | (go_at_call 36; refine (hlc _).mono ?_; rintro e _ ⟨rfl, rfl⟩) | (go_at_call 60; refine (twice_any _ _ (by rw [hsz]; omega)).mono ?_; rintro e wt ⟨rfl, hbt⟩))
            go_ret
            exact ⟨rfl, hbt⟩
          · cases htw : tw (s.extract (i + 1) (i + 1 + L)) with
            | true =>
              rw [if_pos (.inr (.inr rfl))]
              clear h43
              go_enter Tryd.func33, Tryd.ntmps33
              go_wp2_with (first | (go_at_call 61; refine (flipW (at_any _ _ _ _ (by omega) _hs)).mono ?_; rintro e _ ⟨rfl, rfl⟩) | (go_at_call 36; refine (hlc _).mono ?_; rintro e _ ⟨rfl, rfl⟩) | (go_at_call 60; refine (twice_any _ _ (by rw [hsz]; omega)).mono ?_; rintro e wt ⟨rfl, hbt⟩))
              go_ret
              exact ⟨rfl, hbt⟩
            | false =>
              rw [if_neg (by rintro (h | h | h); omega; omega; cases h), if_neg h43]
              by_cases h62 : bAt s (i + 1 + L) = 62
              · have h62' : atB s ((i : Int) + 1 + (L : Int)) 62 = true := atB_yes (i := i + 1 + L) (by omega) h62
                rw [if_pos h62]
                clear h43 h62
                go_enter Tryd.func33, Tryd.ntmps33
                go_wp2_with (first | (go_at_call 61; refine (flipW (at_any _ _ _ _ (by omega) _hs)).mono ?_; rintro e _ ⟨rfl, rfl⟩) | (go_at_call 36; refine (hlc _).mono ?_; rintro e _ ⟨rfl, rfl⟩) | (go_at_call 60; refine (twice_any _ _ (by rw [hsz]; omega)).mono ?_; rintro e wt ⟨rfl, hbt⟩))
                go_ret
                exact ⟨ret_int (by show _ = ((_ : Nat) : Int); omega), hbt⟩
              · have h62' : atB s ((i : Int) + 1 + (L : Int)) 62 = false := atB_no (i := i + 1 + L) (by omega) h62
                rw [if_neg h62]
                clear h43 h62
                go_enter Tryd.func33, Tryd.ntmps33
                go_wp2_with (first | (go_at_call 61; refine (flipW (at_any _ _ _ _ (by omega) _hs)).mono ?_; rintro e _ ⟨rfl, rfl⟩) | (go_at_call 36; refine (hlc _).mono ?_; rintro e _ ⟨rfl, rfl⟩) | (go_at_call 60; refine (twice_any _ _ (by rw [hsz]; omega)).mono ?_; rintro e wt ⟨rfl, hbt⟩))
                go_ret
                exact ⟨rfl, hbt⟩
    have h60' : ((s[i].toNat : Int) == 60) = false := by rw [← hbi.out]; simpa using h60
    by_cases h91 : bAt s i = 91
    · have h91' : ((s[i].toNat : Int) == 91) = true := by rw [← hbi.out]; simp [h91]
      rw [if_neg h105, if_neg h108, if_neg h115, if_neg h60, if_pos h91]
      unfold pList
      rcases hq : pType true s n (i + 1) with _ | ⟨t', k'⟩
      · have hcall := fun w => IE.no w (show s.size ≤ i + 1 + n by omega) (by omega) hq
        have hng : atB s (-1) 93 = false := rfl
        clear h105 h108 h115 h60 h91 hq
        go_enter Tryd.func33, Tryd.ntmps33
        go_wp2_with (first | (go_at_call 61; refine (flipW (at_any _ _ _ _ (by omega) _hs)).mono ?_; rintro e _ ⟨rfl, rfl⟩) | (go_at_call 33; refine (hcall _).mono ?_; rintro e w1 ⟨rfl, hb1⟩))
        go_ret
        exact ⟨rfl, hb1⟩
      · have hcall := fun w => IE.yes w (show s.size ≤ i + 1 + n by omega) (by omega) hq
        have hkb := pType_bd true s _ _ _ _ hq
        simp only
        by_cases h93 : bAt s k' = 93
        · have h93' : atB s k' 93 = true := atB_yes rfl h93
          rw [if_pos h93]
          clear h105 h108 h115 h60 h91 hq h93
          go_enter Tryd.func33, Tryd.ntmps33
          go_wp2_with (first | (go_at_call 61; refine (flipW (at_any _ _ _ _ (by omega) _hs)).mono ?_; rintro e _ ⟨rfl, rfl⟩) | (go_at_call 33; refine (hcall _).mono ?_; rintro e w1 ⟨rfl, hb1⟩))
          go_ret
          exact ⟨rfl, hb1⟩
        · have h93' : atB s k' 93 = false := atB_no rfl h93
          rw [if_neg h93]
          clear h105 h108 h115 h60 h91 hq h93
          go_enter Tryd.func33, Tryd.ntmps33
          go_wp2_with (first | (go_at_call 61; refine (flipW (at_any _ _ _ _ (by omega) _hs)).mono ?_; rintro e _ ⟨rfl, rfl⟩) | (go_at_call 33; refine (hcall _).mono ?_; rintro e w1 ⟨rfl, hb1⟩))
          go_ret
          exact ⟨rfl, hb1⟩
    have h91' : ((s[i].toNat : Int) == 91) = false := by rw [← hbi.out]; simpa using h91
    by_cases h63 : bAt s i = 63
    · have h63' : ((s[i].toNat : Int) == 63) = true := by rw [← hbi.out]; simp [h63]
      rw [if_neg h105, if_neg h108, if_neg h115, if_neg h60, if_neg h91, if_pos h63]
      by_cases h63b : bAt s (i + 1) = 63
      · have h63b' : atB s ((i : Int) + 1) 63 = true := atB_yes rfl h63b
        have hnone : pMaybe (pType true s n) (i + 1) = none := by
          unfold pMaybe
          rcases hq : pType true s n (i + 1) with _ | ⟨t', k'⟩
          · rfl
          · simp only; rw [if_pos ((pType_maybe hq).mpr h63b)]
        rw [hnone]
        clear h105 h108 h115 h60 h91 h63 hnone h63b
        go_enter Tryd.func33, Tryd.ntmps33
        go_wp2_with (first | (go_at_call 61; refine (flipW (at_any _ _ _ _ (by omega) _hs)).mono ?_; rintro e _ ⟨rfl, rfl⟩))
        go_ret
        exact ⟨rfl, Below.refl _ _⟩
      · have h63b' : atB s ((i : Int) + 1) 63 = false := atB_no rfl h63b
        unfold pMaybe
        rcases hq : pType true s n (i + 1) with _ | ⟨t', k'⟩
        · have hcall := fun w => IE.no w (show s.size ≤ i + 1 + n by omega) (by omega) hq
          clear h105 h108 h115 h60 h91 h63 hq h63b
          go_enter Tryd.func33, Tryd.ntmps33
          go_wp2_with (first | (go_at_call 61; refine (flipW (at_any _ _ _ _ (by omega) _hs)).mono ?_; rintro e _ ⟨rfl, rfl⟩) | (go_at_call 33; refine (hcall _).mono ?_; rintro e w1 ⟨rfl, hb1⟩))
          go_ret
          exact ⟨rfl, hb1⟩
        · have hcall := fun w => IE.yes w (show s.size ≤ i + 1 + n by omega) (by omega) hq
          simp only
          rw [if_neg (fun h => h63b ((pType_maybe hq).mp h))]
          clear h105 h108 h115 h60 h91 h63 hq h63b
          go_enter Tryd.func33, Tryd.ntmps33
          go_wp2_with (first | (go_at_call 61; refine (flipW (at_any _ _ _ _ (by omega) _hs)).mono ?_; rintro e _ ⟨rfl, rfl⟩) | (go_at_call 33; refine (hcall _).mono ?_; rintro e w1 ⟨rfl, hb1⟩))
          go_ret
          exact ⟨rfl, hb1⟩
    have h63' : ((s[i].toNat : Int) == 63) = false := by rw [← hbi.out]; simpa using h63
    by_cases h123 : bAt s i = 123
    · have h123' : ((s[i].toNat : Int) == 123) = true := by rw [← hbi.out]; simp [h123]
      rw [if_neg h105, if_neg h108, if_neg h115, if_neg h60, if_neg h91, if_neg h63, if_pos h123]
      unfold pRec
      have hF := fun w => IF i w his' (by omega)
      rcases hq : pFlds (pField (pType true s n) (enc true s n) s) s (s.size - (i + 1)) (i + 1) [] with _ | ⟨fs, k'⟩
      · rw [hq] at hF
        have hcall : ∀ w, Calls Tryd.prog 62 #[.string s, .int .i64 i] w fun e w' => e = .returned (.tuple #[.slice none 0 0, .int .i64 (-1)]) ∧ Below w.heap.size w w' := hF
        clear h105 h108 h115 h60 h91 h63 h123 hq hF
        go_enter Tryd.func33, Tryd.ntmps33
        go_wp2_with (go_at_call 62; refine (hcall _).mono ?_; rintro e w1 ⟨rfl, hb1⟩)
        go_ret
        exact ⟨rfl, hb1⟩
      · rw [hq] at hF
        have hcall : ∀ w, Calls Tryd.prog 62 #[.string s, .int .i64 i] w fun e w' => ∃ g cap, e = .returned (.tuple #[.slice (some ⟨g, 0, none⟩) fs.length cap, .int .i64 k']) ∧ Below w.heap.size w w' := fun w => by
          refine (hF w).mono ?_
          rintro e w' ⟨⟨g, cap, xs, h1, h2, h3⟩, h4⟩
          exact ⟨g, cap, h1, h4⟩
        clear h105 h108 h115 h60 h91 h63 h123 hq hF
        go_enter Tryd.func33, Tryd.ntmps33
        go_wp2_with (go_at_call 62; refine (hcall _).mono ?_; rintro e w1 ⟨g, cap, rfl, hb1⟩)
        go_ret
        exact ⟨rfl, hb1⟩
    have h123' : ((s[i].toNat : Int) == 123) = false := by rw [← hbi.out]; simpa using h123
    rw [if_neg h105, if_neg h108, if_neg h115, if_neg h60, if_neg h91, if_neg h63, if_neg h123]
    clear h105 h108 h115 h60 h91 h63 h123 
    go_enter Tryd.func33, Tryd.ntmps33
    go_wp2_with fail
    go_ret
    exact ⟨rfl, Below.refl _ _⟩

theorem ref_all {s : ByteArray} (hs : s.size ≤ 4096) : ∀ n, n ≤ 101 → EndsOK n s ∧ ∀ t : ByteArray, t.size ≤ 4096 → LayOK n s t
  | 0, _ => ⟨fun i w h1 h2 => ends_out hs i w (by omega) h2, fun t ht i j w ty k hp => by simp [pType] at hp⟩
  | n + 1, hn => by
    obtain ⟨h1, h2⟩ := ref_all hs n (by omega)
    have hF := fieldsOK h1 (h2 s hs) hs (by omega)
    exact ⟨ends_succ h1 hF hs (by omega), fun t ht => lay_succ (h2 t ht) hF hs ht (by omega)⟩
end Go.Proofs.YtkkekopomiehlaaDoor
