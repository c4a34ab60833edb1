import Derived.Test.YtkkekopomiehlaaDoorDec10
import Derived.Test.YtkkekopomiehlaaDoorDec12
import Derived.Test.YtkkekopomiehlaaDoorRef8
set_option linter.unusedVariables false
set_option linter.unusedSimpArgs false
set_option maxRecDepth 4000
namespace Go.Proofs.YtkkekopomiehlaaDoor
open Go.RowKit

theorem dec_out {t : ByteArray} {n : Nat} {ty : Ty} {j : Nat} (h : t.size ≤ j) : dec t n ty j = none := by
  rcases hx : dec t n ty j with _ | ⟨d, k⟩
  · rfl
  · have := dec_bd hx; omega

set_option maxRecDepth 10000 in
set_option maxHeartbeats 4000000 in
theorem tell_succ {n : Nat} {s t : ByteArray} (IL : TellOK n s t) (IF : FieldsOK n s) (hs : s.size ≤ 4096) (ht : t.size ≤ 4096) (hn : n ≤ 100) : TellOK (n + 1) s t := by
  intro i j w ty k hp hi hj
  have _hs : t.size ≤ 9000000 := by omega
  have hik := pType_bd true s _ _ _ _ hp
  have his : i < s.size := by omega
  have hbi : Hid (bAt s i = s[i].toNat) := bAt_in s i his
  by_cases hjt : t.size ≤ j
  · rw [dec_out hjt]
    clear hp
    go_enter Tryd.func23, Tryd.ntmps23
    go_wp2_with fail
    go_ret2
    exact ⟨rfl, Below.refl _ _⟩
  · have hjt' : j < t.size := by omega
    have hbj : Hid (bAt t j = t[j].toNat) := bAt_in t j hjt'
    rw [pType] at hp
    by_cases h105 : bAt s i = 105
    · have h105' : ((s[i].toNat : Int) == 105) = true := by rw [← hbi.out]; simp [h105]
      rw [if_pos h105] at hp
      have hk : ty.kind = 105 := by simp only [Option.some.injEq, Prod.mk.injEq] at hp; rw [← hp.1]; rfl
      have hr' : Hid (dec t (n + 1) ty j = decNum (-2147483648) 2147483647 t j) := by show _ = _; rw [dec, if_pos hk]
      have hjt2 := hjt'
      cases hx : decNum (-2147483648) 2147483647 t j with
      | none =>
        have hcall : ∀ w, Calls Tryd.prog 34 #[.string t, .int .i64 j, .int .i64 (-2147483648), .int .i64 2147483647] w fun e w' => e = .returned (.tuple #[.string ByteArray.empty, .int .i64 (-1)]) ∧ Below w.heap.size w w' := fun w => by have : Calls _ _ _ _ (fun e w' => e = .returned (layRet (tellN (-2147483648) 2147483647 t j)) ∧ Below w.heap.size w w') := tellNumber_any t j (-2147483648) 2147483647 w _hs hjt' (by omega) (by omega); rw [tellN_eq _ _ _ _ hjt2, hx] at this; exact this
        rw [hr'.out, hx]
        clear hx h105 hp hk
        go_enter Tryd.func23, Tryd.ntmps23
        go_wp2_with (go_at_call 34; refine (hcall _).mono ?_; rintro e w1 ⟨rfl, hb1⟩)
        go_ret2
        exact ⟨rfl, hb1⟩
      | some p =>
        obtain ⟨d, m⟩ := p
        have hcall : ∀ w, Calls Tryd.prog 34 #[.string t, .int .i64 j, .int .i64 (-2147483648), .int .i64 2147483647] w fun e w' => e = .returned (.tuple #[.string d, .int .i64 m]) ∧ Below w.heap.size w w' := fun w => by have : Calls _ _ _ _ (fun e w' => e = .returned (layRet (tellN (-2147483648) 2147483647 t j)) ∧ Below w.heap.size w w') := tellNumber_any t j (-2147483648) 2147483647 w _hs hjt' (by omega) (by omega); rw [tellN_eq _ _ _ _ hjt2, hx] at this; exact this
        rw [hr'.out, hx]
        clear hx h105 hp hk
        go_enter Tryd.func23, Tryd.ntmps23
        go_wp2_with (go_at_call 34; refine (hcall _).mono ?_; rintro e w1 ⟨rfl, hb1⟩)
        go_ret2
        exact ⟨rfl, hb1⟩
    have h105' : ((s[i].toNat : Int) == 105) = false := by rw [← hbi.out]; simpa using h105
    by_cases h108 : bAt s i = 108
    · have h108' : ((s[i].toNat : Int) == 108) = true := by rw [← hbi.out]; simp [h108]
      rw [if_neg h105, if_pos h108] at hp
      have hk : ty.kind = 108 := by simp only [Option.some.injEq, Prod.mk.injEq] at hp; rw [← hp.1]; rfl
      have hr' : Hid (dec t (n + 1) ty j = decNum (-1000000000000000) 1000000000000000 t j) := by show _ = _; rw [dec, if_neg (by omega), if_pos hk]
      have hjt2 := hjt'
      cases hx : decNum (-1000000000000000) 1000000000000000 t j with
      | none =>
        have hcall : ∀ w, Calls Tryd.prog 34 #[.string t, .int .i64 j, .int .i64 (-1000000000000000), .int .i64 1000000000000000] w fun e w' => e = .returned (.tuple #[.string ByteArray.empty, .int .i64 (-1)]) ∧ Below w.heap.size w w' := fun w => by have : Calls _ _ _ _ (fun e w' => e = .returned (layRet (tellN (-1000000000000000) 1000000000000000 t j)) ∧ Below w.heap.size w w') := tellNumber_any t j (-1000000000000000) 1000000000000000 w _hs hjt' (by omega) (by omega); rw [tellN_eq _ _ _ _ hjt2, hx] at this; exact this
        rw [hr'.out, hx]
        clear hx h105 h108 hp hk
        go_enter Tryd.func23, Tryd.ntmps23
        go_wp2_with (go_at_call 34; refine (hcall _).mono ?_; rintro e w1 ⟨rfl, hb1⟩)
        go_ret2
        exact ⟨rfl, hb1⟩
      | some p =>
        obtain ⟨d, m⟩ := p
        have hcall : ∀ w, Calls Tryd.prog 34 #[.string t, .int .i64 j, .int .i64 (-1000000000000000), .int .i64 1000000000000000] w fun e w' => e = .returned (.tuple #[.string d, .int .i64 m]) ∧ Below w.heap.size w w' := fun w => by have : Calls _ _ _ _ (fun e w' => e = .returned (layRet (tellN (-1000000000000000) 1000000000000000 t j)) ∧ Below w.heap.size w w') := tellNumber_any t j (-1000000000000000) 1000000000000000 w _hs hjt' (by omega) (by omega); rw [tellN_eq _ _ _ _ hjt2, hx] at this; exact this
        rw [hr'.out, hx]
        clear hx h105 h108 hp hk
        go_enter Tryd.func23, Tryd.ntmps23
        go_wp2_with (go_at_call 34; refine (hcall _).mono ?_; rintro e w1 ⟨rfl, hb1⟩)
        go_ret2
        exact ⟨rfl, hb1⟩
    have h108' : ((s[i].toNat : Int) == 108) = false := by rw [← hbi.out]; simpa using h108
    by_cases h115 : bAt s i = 115
    · have h115' : ((s[i].toNat : Int) == 115) = true := by rw [← hbi.out]; simp [h115]
      rw [if_neg h105, if_neg h108, if_pos h115] at hp
      have hk : ty.kind = 115 := by simp only [Option.some.injEq, Prod.mk.injEq] at hp; rw [← hp.1]; rfl
      have hr' : Hid (dec t (n + 1) ty j = decStr t j) := by show _ = _; rw [dec, if_neg (by omega), if_neg (by omega), if_pos hk]
      cases hx : decStr t j with
      | none =>
        have hcall : ∀ w, Calls Tryd.prog 35 #[.string t, .int .i64 j] w fun e w' => e = .returned (.tuple #[.string ByteArray.empty, .int .i64 (-1)]) ∧ Below w.heap.size w w' := fun w => by have : Calls _ _ _ _ (fun e w' => e = .returned (layRet (decStr t j)) ∧ Below w.heap.size w w') := (tellString_any t j w _hs hjt').mono (fun _ _ (h : _ ∧ _) => And.intro h.1 (h.2 ▸ Below.refl _ _)); rw [hx] at this; exact this
        rw [hr'.out, hx]
        clear hx h105 h108 h115 hp hk
        go_enter Tryd.func23, Tryd.ntmps23
        go_wp2_with (go_at_call 35; refine (hcall _).mono ?_; rintro e w1 ⟨rfl, hb1⟩)
        go_ret2
        exact ⟨rfl, hb1⟩
      | some p =>
        obtain ⟨d, m⟩ := p
        have hcall : ∀ w, Calls Tryd.prog 35 #[.string t, .int .i64 j] w fun e w' => e = .returned (.tuple #[.string d, .int .i64 m]) ∧ Below w.heap.size w w' := fun w => by have : Calls _ _ _ _ (fun e w' => e = .returned (layRet (decStr t j)) ∧ Below w.heap.size w w') := (tellString_any t j w _hs hjt').mono (fun _ _ (h : _ ∧ _) => And.intro h.1 (h.2 ▸ Below.refl _ _)); rw [hx] at this; exact this
        rw [hr'.out, hx]
        clear hx h105 h108 h115 hp hk
        go_enter Tryd.func23, Tryd.ntmps23
        go_wp2_with (go_at_call 35; refine (hcall _).mono ?_; rintro e w1 ⟨rfl, hb1⟩)
        go_ret2
        exact ⟨rfl, hb1⟩
    have h115' : ((s[i].toNat : Int) == 115) = false := by rw [← hbi.out]; simpa using h115
    by_cases h60 : bAt s i = 60
    · have h60' : ((s[i].toNat : Int) == 60) = true := by rw [← hbi.out]; simp [h60]
      rw [if_neg h105, if_neg h108, if_neg h115, if_pos h60, pChoice_eq s (i + 1) (by omega)] at hp
      obtain ⟨hk, hlet, hl8⟩ := rChoice_form hp
      have hr' : dec t (n + 1) ty j = decCho ty.letters t j := by rw [dec, if_neg (by omega), if_neg (by omega), if_neg (by omega), if_pos hk]
      rw [hr']
      obtain ⟨l, hl⟩ : ∃ l, l = ty.letters := ⟨_, rfl⟩
      rw [← hl] at hlet hl8 ⊢
      have hcall : ∀ w, Calls Tryd.prog 36 #[.string s, .int .i64 i] w fun e w' => e = .returned (.string l) ∧ w = w' := fun w => by rw [hlet]; exact flipW (letters_any s i w (by omega) his)
      have hb256 := t[j].toNat_lt
      by_cases hx : t[j].toNat < l.size
      · have hr : Hid (decCho l t j = some (l.extract t[j].toNat (t[j].toNat + 1), j + 1)) := by
          show _ = _; unfold decCho; rw [hbj.out, Int.toNat_natCast, bAt_in l _ hx, if_neg (by omega), extract_oneB l _ hx, bAt_in l _ hx]
        have hx' : (t[j].toNat : Int) < (l.size : Int) := by omega
        have hx8 : t[j].toNat < 8 := by omega
        clear h105 h108 h115 h60 hp hk hr' hl hlet hik
        go_enter Tryd.func23, Tryd.ntmps23
        have i2' : IntKind.u8.wrap ((t[j].toNat : Int) + 1) = (t[j].toNat : Int) + 1 := by rw [IntKind.wrap_u8]; omega
        have i3' : IntKind.i64.wrap ((j : Int) + 1) = (j : Int) + 1 := by rw [IntKind.wrap_i64]; omega
        go_wp2_with (go_at_call 36; refine (hcall _).mono ?_; rintro e _ ⟨rfl, rfl⟩)
        go_quiet (fail)
        go_wp2_with fail
        go_ret2
        rw [hr.out]
        exact ⟨rfl, below_drewN (Below.refl _ _) _⟩
      · have hr : Hid (decCho l t j = none) := by
          show _ = _; unfold decCho; rw [hbj.out, Int.toNat_natCast, bAt_out l _ (by omega), if_pos (by omega)]
        have hx' : ¬ (t[j].toNat : Int) < (l.size : Int) := by omega
        clear h105 h108 h115 h60 hp hk hr' hl hlet hik
        go_enter Tryd.func23, Tryd.ntmps23
        go_wp2_with (go_at_call 36; refine (hcall _).mono ?_; rintro e _ ⟨rfl, rfl⟩)
        go_ret2
        rw [hr.out]
        exact ⟨rfl, Below.refl _ _⟩
    have h60' : ((s[i].toNat : Int) == 60) = false := by rw [← hbi.out]; simpa using h60
    by_cases h91 : bAt s i = 91
    · have h91' : ((s[i].toNat : Int) == 91) = true := by rw [← hbi.out]; simp [h91]
      rw [if_neg h105, if_neg h108, if_neg h115, if_neg h60, if_pos h91] at hp
      unfold pList at hp
      rcases hq : pType true s n (i + 1) with _ | ⟨t', k'⟩
      · rw [hq] at hp; cases hp
      rw [hq] at hp
      simp only at hp
      by_cases h93 : bAt s k' = 93
      · rw [if_pos h93] at hp
        simp only [Option.some.injEq, Prod.mk.injEq] at hp
        obtain ⟨rfl, rfl⟩ := hp
        have hr' : Hid (dec t (n + 1) ⟨91, ByteArray.empty, false, [t'], []⟩ j = decList (dec t n t') t j) := rfl
        cases hx : decList (dec t n t') t j with
        | none =>
          have hcall : ∀ w, Calls Tryd.prog 37 #[.string s, .int .i64 (i + 1 : Nat), .string t, .int .i64 j] w fun e w' => e = .returned (.tuple #[.string ByteArray.empty, .int .i64 (-1)]) ∧ Below w.heap.size w w' := fun w => by have : Calls _ _ _ _ (fun e w' => e = .returned (layRet (decList (dec t n t') t j)) ∧ Below w.heap.size w w') := tellList_any IL ht hn (i + 1) j w hq (by omega) hjt'; rw [hx] at this; exact this
          rw [hr'.out, hx]
          clear hx h105 h108 h115 h60 h91 hq h93
          go_enter Tryd.func23, Tryd.ntmps23
          go_wp2_with (go_at_call 37; refine (hcall _).mono ?_; rintro e w1 ⟨rfl, hb1⟩)
          go_ret2
          exact ⟨rfl, hb1⟩
        | some p =>
          obtain ⟨d, m⟩ := p
          have hcall : ∀ w, Calls Tryd.prog 37 #[.string s, .int .i64 (i + 1 : Nat), .string t, .int .i64 j] w fun e w' => e = .returned (.tuple #[.string d, .int .i64 m]) ∧ Below w.heap.size w w' := fun w => by have : Calls _ _ _ _ (fun e w' => e = .returned (layRet (decList (dec t n t') t j)) ∧ Below w.heap.size w w') := tellList_any IL ht hn (i + 1) j w hq (by omega) hjt'; rw [hx] at this; exact this
          rw [hr'.out, hx]
          clear hx h105 h108 h115 h60 h91 hq h93
          go_enter Tryd.func23, Tryd.ntmps23
          go_wp2_with (go_at_call 37; refine (hcall _).mono ?_; rintro e w1 ⟨rfl, hb1⟩)
          go_ret2
          exact ⟨rfl, hb1⟩
      · rw [if_neg h93] at hp; cases hp
    have h91' : ((s[i].toNat : Int) == 91) = false := by rw [← hbi.out]; simpa using h91
    by_cases h63 : bAt s i = 63
    · have h63' : ((s[i].toNat : Int) == 63) = true := by rw [← hbi.out]; simp [h63]
      rw [if_neg h105, if_neg h108, if_neg h115, if_neg h60, if_neg h91, if_pos h63] at hp
      unfold pMaybe at hp
      rcases hq : pType true s n (i + 1) with _ | ⟨t', k'⟩
      · rw [hq] at hp; cases hp
      rw [hq] at hp
      simp only at hp
      by_cases hm : t'.kind = 63
      · rw [if_pos hm] at hp; cases hp
      rw [if_neg hm] at hp
      simp only [Option.some.injEq, Prod.mk.injEq] at hp
      obtain ⟨rfl, rfl⟩ := hp
      have hr' : dec t (n + 1) ⟨63, ByteArray.empty, false, [t'], []⟩ j = decMaybe (dec t n t') t j := rfl
      rw [hr']
      by_cases h0 : bAt t j = 0
      · have h0' : ((t[j].toNat : Int) == 0) = true := by rw [← hbj.out]; simp [h0]
        have hr : Hid (decMaybe (dec t n t') t j = some (⟨#[95]⟩, j + 1)) := by show _ = _; unfold decMaybe; rw [if_pos h0]
        clear h105 h108 h115 h60 h91 h63 hq hm hr' h0
        go_enter Tryd.func23, Tryd.ntmps23
        go_wp2_with fail
        go_ret2
        rw [hr.out]
        exact ⟨rfl, Below.refl _ _⟩
      · have h0' : ((t[j].toNat : Int) == 0) = false := by rw [← hbj.out]; simpa using h0
        by_cases h1 : bAt t j = 1
        · have h1' : ((t[j].toNat : Int) == 1) = true := by rw [← hbj.out]; simp [h1]
          cases hx : dec t n t' (j + 1) with
          | none =>
            have hr : Hid (decMaybe (dec t n t') t j = none) := by show _ = _; unfold decMaybe; rw [if_neg h0, if_pos h1, hx]
            have hcall := fun w => IL.no w hq (show s.size ≤ i + 1 + n by omega) (show j + 1 ≤ t.size by omega) hx
            clear h105 h108 h115 h60 h91 h63 hq hm hr' h0 h1 hx
            go_enter Tryd.func23, Tryd.ntmps23
            go_wp2_with (go_at_call 23; refine (hcall _).mono ?_; rintro e w1 ⟨rfl, hb1⟩)
            go_ret2
            rw [hr.out]
            exact ⟨rfl, hb1⟩
          | some p =>
            obtain ⟨d, m⟩ := p
            have hr : Hid (decMaybe (dec t n t') t j = some (d, m)) := by show _ = _; unfold decMaybe; rw [if_neg h0, if_pos h1, hx]
            have hcall := fun w => IL.yes w hq (show s.size ≤ i + 1 + n by omega) (show j + 1 ≤ t.size by omega) hx
            clear h105 h108 h115 h60 h91 h63 hq hm hr' h0 h1 hx
            go_enter Tryd.func23, Tryd.ntmps23
            go_wp2_with (go_at_call 23; refine (hcall _).mono ?_; rintro e w1 ⟨rfl, hb1⟩)
            go_ret2
            rw [hr.out]
            exact ⟨rfl, hb1⟩
        · have h1' : ((t[j].toNat : Int) == 1) = false := by rw [← hbj.out]; simpa using h1
          have hr : Hid (decMaybe (dec t n t') t j = none) := by show _ = _; unfold decMaybe; rw [if_neg h0, if_neg h1]
          clear h105 h108 h115 h60 h91 h63 hq hm hr' h0 h1
          go_enter Tryd.func23, Tryd.ntmps23
          go_wp2_with fail
          go_ret2
          rw [hr.out]
          exact ⟨rfl, Below.refl _ _⟩
    have h63' : ((s[i].toNat : Int) == 63) = false := by rw [← hbi.out]; simpa using h63
    by_cases h123 : bAt s i = 123
    · have h123' : ((s[i].toNat : Int) == 123) = true := by rw [← hbi.out]; simp [h123]
      rw [if_neg h105, if_neg h108, if_neg h115, if_neg h60, if_neg h91, if_neg h63, if_pos h123] at hp
      unfold pRec at hp
      rcases hq : pFlds (pField (pType true s n) (enc true s n) s) s (s.size - (i + 1)) (i + 1) [] with _ | ⟨fs, k'⟩
      · rw [hq] at hp; cases hp
      rw [hq] at hp
      simp only [Option.some.injEq, Prod.mk.injEq] at hp
      obtain ⟨rfl, rfl⟩ := hp
      have hfb := fun a f k (h : pField (pType true s n) (enc true s n) s a = some (f, k)) => pField_bd (pType_bd true s n) (fun ty j d k h => ⟨(enc_bd h).1, (enc_bd h).2.1⟩) h
      have hlen := pFlds_len hfb (by simp) hq
      have hkk := (pFlds_bd hfb hq).2
      have hF := fun w => IF i w his (by omega)
      rw [hq] at hF
      have hr' : Hid (dec t (n + 1) ⟨123, ByteArray.empty, false, [], fs⟩ j = decFlds (dec t n) fs ⟨#[123]⟩ j ByteArray.empty) := by show _ = _; rw [dec]; simp only [Nat.reduceEqDiff, if_false]; rw [if_pos ⟨trivial, by intro h; rw [h] at hlen; simp at hlen⟩]
      cases hx : decFlds (dec t n) fs ⟨#[123]⟩ j ByteArray.empty with
      | none =>
        have hcall : ∀ w, Calls Tryd.prog 38 #[.string s, .int .i64 i, .string t, .int .i64 j] w fun e w' => e = .returned (.tuple #[.string ByteArray.empty, .int .i64 (-1)]) ∧ Below w.heap.size w w' := fun w => by have : Calls _ _ _ _ (fun e w' => e = .returned (layRet (decFlds (dec t n) fs ⟨#[123]⟩ j ByteArray.empty)) ∧ Below w.heap.size w w') := tellRecord_any IL ht hn i j hlen.1 (by omega) hF w hjt'; rw [hx] at this; exact this
        rw [hr'.out, hx]
        clear hx h105 h108 h115 h60 h91 h63 h123 hq hF hfb
        go_enter Tryd.func23, Tryd.ntmps23
        go_wp2_with (go_at_call 38; refine (hcall _).mono ?_; rintro e w1 ⟨rfl, hb1⟩)
        go_ret2
        exact ⟨rfl, hb1⟩
      | some p =>
        obtain ⟨d, m⟩ := p
        have hcall : ∀ w, Calls Tryd.prog 38 #[.string s, .int .i64 i, .string t, .int .i64 j] w fun e w' => e = .returned (.tuple #[.string d, .int .i64 m]) ∧ Below w.heap.size w w' := fun w => by have : Calls _ _ _ _ (fun e w' => e = .returned (layRet (decFlds (dec t n) fs ⟨#[123]⟩ j ByteArray.empty)) ∧ Below w.heap.size w w') := tellRecord_any IL ht hn i j hlen.1 (by omega) hF w hjt'; rw [hx] at this; exact this
        rw [hr'.out, hx]
        clear hx h105 h108 h115 h60 h91 h63 h123 hq hF hfb
        go_enter Tryd.func23, Tryd.ntmps23
        go_wp2_with (go_at_call 38; refine (hcall _).mono ?_; rintro e w1 ⟨rfl, hb1⟩)
        go_ret2
        exact ⟨rfl, hb1⟩
    have h123' : ((s[i].toNat : Int) == 123) = false := by rw [← hbi.out]; simpa using h123
    rw [if_neg h105, if_neg h108, if_neg h115, if_neg h60, if_neg h91, if_neg h63, if_neg h123] at hp
    cases hp
theorem tell_all {s t : ByteArray} (hs : s.size ≤ 4096) (ht : t.size ≤ 4096) : ∀ n, n ≤ 100 → TellOK n s t
  | 0, _ => fun _ _ _ _ _ h => by simp [pType] at h
  | n + 1, hn => tell_succ (tell_all hs ht n (by omega)) (fieldsOK (ref_all hs n (by omega)).1 ((ref_all hs n (by omega)).2 s hs) hs (by omega)) hs ht (by omega)
end Go.Proofs.YtkkekopomiehlaaDoor
