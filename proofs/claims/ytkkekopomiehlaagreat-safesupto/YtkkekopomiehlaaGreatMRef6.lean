import Derived.Test.YtkkekopomiehlaaGreatRef5
import Derived.Test.YtkkekopomiehlaaGreatMEq1
set_option linter.unusedVariables false
set_option linter.unusedSimpArgs false
namespace Go.Proofs.YtkkekopomiehlaaGreat
section
set_option maxRecDepth 4000
open Go.RowKit

set_option maxHeartbeats 4000000 in
theorem layRecord_any {n : Nat} {s t : ByteArray} (IL : LayOK n s t) (ht : t.size ≤ 4096) (hn : n ≤ 100) (i j : Nat) {fs : List (Nat × Ty × ByteArray)} {k0 : Nat} (hne : 0 < fs.length) (hfl : fs.length ≤ 4096)
    (hF0 : ∀ w, Calls Tryz.prog 94 #[.string s, .int .i64 i] w fun e w' => GRet w.heap.size n s (some (fs, k0)) e w' ∧ Below w.heap.size w w') (w : World) (hj : j < t.size) :
    Calls Tryz.prog 130 #[.string s, .int .i64 i, .string t, .int .i64 j] w fun e w' => e = .returned (layRet (encFlds (enc true t n) t fs 123 j ByteArray.empty)) ∧ Below w.heap.size w w' := by
  have _hs : t.size ≤ 9000000 := by omega
  have hF : ∀ w, Calls Tryz.prog 94 #[.string s, .int .i64 i] w fun e w' => ∃ g cap xs, e = .returned (.tuple #[.slice (some ⟨g, 0, none⟩) fs.length cap, .int .i64 k0]) ∧ w'.ownsRow w.heap.size 176 4 (.slice (some ⟨g, 0, none⟩) fs.length cap) fs.length xs ∧ RowR n s xs fs ∧ Below w.heap.size w w' := fun w => by
    refine (hF0 w).mono ?_
    rintro e w' ⟨⟨g, cap, xs, h1, h2, h3⟩, h4⟩
    exact ⟨g, cap, xs, h1, h2, h3, h4⟩
  clear hF0
  obtain ⟨R, hR⟩ : ∃ R, R = encFlds (enc true t n) t fs 123 j ByteArray.empty := ⟨_, rfl⟩
  rw [← hR]
  have HR : Hid (R = encFlds (enc true t n) t fs 123 j ByteArray.empty) := hR
  clear hR
  go_enter Tryz.func130, Tryz.ntmps130
  go_wp2_with (go_at_call 94; refine (hF _).mono ?_; rintro e wf ⟨g, cap, xs, rfl, hown, hrow, hbf0⟩)
  go_loopw [12, 13, 14] (fun vd vb vi wr => ∃ (x b : Nat) (d : ByteArray), x ≤ fs.length ∧ j ≤ b ∧ b ≤ t.size ∧ vi = .int .i64 x ∧ vb = .int .i64 b ∧ vd = .string d ∧ Hid (R = encFlds (enc true t n) t (fs.drop x) (if x = 0 then 123 else 44) b d) ∧ Hid (d.size ≤ (9 * n + 9) * (b - j)) ∧ Below wf.heap.size wf wr) (fun _ _ x _ => fs.length - (intOf x).toNat)
  case atStart => exact ⟨0, j, ByteArray.empty, Nat.zero_le _, Nat.le_refl _, by omega, rfl, rfl, rfl, HR, Nat.zero_le _, Below.refl _ _⟩
  case round =>
    obtain ⟨x, b, d, hx0, hjb, hbt, rfl, rfl, rfl, hR, hd, hb⟩ := hrel
    by_cases hlt : x < fs.length
    · obtain ⟨f, hf⟩ : ∃ f, fs[x]? = some f := ⟨fs[x], List.getElem?_eq_getElem hlt⟩
      have hdrop : fs.drop x = f :: fs.drop (x + 1) := by
        rw [List.drop_eq_getElem_cons hlt]; rw [List.getElem?_eq_getElem hlt] at hf; simp at hf; rw [hf]
      obtain ⟨p, kp, hp, hpn, h256, c0, c1, c2, c3⟩ := hrow.2 x f hf
      have k0 := cell_keep hb (own_cell hown c0)
      have k1 := cell_keep hb (own_cell hown c1)
      have hg' : g < wr.heap.size := lt_of_cell k0
      clear hf c0 c1 c2 c3
      have hds := data_small hd.out hn (by omega)
      rw [hdrop, encFlds] at hR
      by_cases hx1 : x = 0
      · have hx' : ((x : Int) == 0) = true := by simp; omega
        rw [if_pos hx1] at hR
        have HX : Hid (x = 0) := hx1
        clear hx1
        by_cases h1 : bAt t b = 123
        · have h1' : atB t b 123 = true := atB_yes rfl h1
          by_cases h2 : bAt t (b + 1) = f.1
          · have h2' : atB t ((b : Int) + 1) f.1 = true := atB_yes rfl h2
            by_cases h3 : bAt t (b + 2) = 58
            · have h3' : atB t ((b : Int) + 2) 58 = true := atB_yes rfl h3
              have hb3 : b + 2 < t.size := bAt_lt (by omega)
              cases hy : enc true t n f.2.1 (b + 3) with
              | none =>
                have hr' : Hid (R = none) := by show _ = _; rw [hR.out, if_pos ⟨h1, h2, h3⟩, hy]
                have hcall := fun w => IL.no w hp hpn (show b + 3 ≤ t.size by omega) hy
                clear h1 h2 h3 hy hR hrow hown
                go_wp2_with (first | (go_at_call 93; refine (flipW (at_any _ _ _ _ (by omega) _hs)).mono ?_; rintro e _ ⟨rfl, rfl⟩) | (go_at_call 115; refine (hcall _).mono ?_; rintro e w1 ⟨d', hd', rfl, hb1⟩))
                go_ret2
                rw [hr'.out]
                exact ⟨rfl, (hbf0.trans (hb.mono hbf0.size)).trans (hb1.mono (Nat.le_trans hbf0.size hb.size))⟩
              | some q =>
                obtain ⟨y, k⟩ := q
                obtain ⟨hk1, hk2, hks⟩ := enc_bd hy
                have hsum : (d ++ y).size ≤ (9 * n + 9) * (k - j) := by
                  rw [ByteArray.size_append]
                  have e1 := mul_sub_add (C := 9 * n + 9) (show j ≤ b + 3 by omega) (show b + 3 ≤ k by omega)
                  have e2 := mul_mono (C := 9 * n + 9) (show b - j ≤ b + 3 - j by omega)
                  have := hd.out
                  omega
                have hys := data_small hks hn (by omega)
                have HS : Hid ((d ++ y).size ≤ (9 * n + 9) * (k - j)) := hsum
                have hr' : Hid (R = encFlds (enc true t n) t (fs.drop (x + 1)) (if x + 1 = 0 then 123 else 44) k (d ++ y)) := by show _ = _; rw [hR.out, if_pos ⟨h1, h2, h3⟩, hy, if_neg (by omega)]
                have hcall := fun w => IL.yes w hp hpn (show b + 3 ≤ t.size by omega) hy
                clear h1 h2 h3 hy hks hsum hR hrow hown
                go_wp2_with (first | (go_at_call 93; refine (flipW (at_any _ _ _ _ (by omega) _hs)).mono ?_; rintro e _ ⟨rfl, rfl⟩) | (go_at_call 115; refine (hcall _).mono ?_; rintro e w1 ⟨rfl, hb1⟩))
                go_roundw
                case rel => exact ⟨x + 1, k, d ++ y, by omega, by omega, by omega, by go_num, rfl, rfl, hr', HS, hb.trans (hb1.mono hb.size)⟩
                case measure => simp [intOf]; omega
            · have h3' : atB t ((b : Int) + 2) 58 = false := atB_no rfl h3
              have hr' : Hid (R = none) := by show _ = _; rw [hR.out, if_neg (fun h => h3 h.2.2)]
              clear h1 h2 h3 hR hrow hown
              go_wp2_with (first | (go_at_call 93; refine (flipW (at_any _ _ _ _ (by omega) _hs)).mono ?_; rintro e _ ⟨rfl, rfl⟩))
              go_ret2
              rw [hr'.out]
              exact ⟨rfl, hbf0.trans (hb.mono hbf0.size)⟩
          · have h2' : atB t ((b : Int) + 1) f.1 = false := atB_no rfl h2
            have hr' : Hid (R = none) := by show _ = _; rw [hR.out, if_neg (fun h => h2 h.2.1)]
            clear h1 h2 hR hrow hown
            go_wp2_with (first | (go_at_call 93; refine (flipW (at_any _ _ _ _ (by omega) _hs)).mono ?_; rintro e _ ⟨rfl, rfl⟩))
            go_ret2
            rw [hr'.out]
            exact ⟨rfl, hbf0.trans (hb.mono hbf0.size)⟩
        · have h1' : atB t b 123 = false := atB_no rfl h1
          have hr' : Hid (R = none) := by show _ = _; rw [hR.out, if_neg (fun h => h1 h.1)]
          clear h1 hR hrow hown
          go_wp2_with (first | (go_at_call 93; refine (flipW (at_any _ _ _ _ (by omega) _hs)).mono ?_; rintro e _ ⟨rfl, rfl⟩))
          go_ret2
          rw [hr'.out]
          exact ⟨rfl, hbf0.trans (hb.mono hbf0.size)⟩
      · have hx' : ((x : Int) == 0) = false := by simp; omega
        rw [if_neg hx1] at hR
        clear hx1
        by_cases h1 : bAt t b = 44
        · have h1' : atB t b 44 = true := atB_yes rfl h1
          by_cases h2 : bAt t (b + 1) = f.1
          · have h2' : atB t ((b : Int) + 1) f.1 = true := atB_yes rfl h2
            by_cases h3 : bAt t (b + 2) = 58
            · have h3' : atB t ((b : Int) + 2) 58 = true := atB_yes rfl h3
              have hb3 : b + 2 < t.size := bAt_lt (by omega)
              cases hy : enc true t n f.2.1 (b + 3) with
              | none =>
                have hr' : Hid (R = none) := by show _ = _; rw [hR.out, if_pos ⟨h1, h2, h3⟩, hy]
                have hcall := fun w => IL.no w hp hpn (show b + 3 ≤ t.size by omega) hy
                clear h1 h2 h3 hy hR hrow hown
                go_wp2_with (first | (go_at_call 93; refine (flipW (at_any _ _ _ _ (by omega) _hs)).mono ?_; rintro e _ ⟨rfl, rfl⟩) | (go_at_call 115; refine (hcall _).mono ?_; rintro e w1 ⟨d', hd', rfl, hb1⟩))
                go_ret2
                rw [hr'.out]
                exact ⟨rfl, (hbf0.trans (hb.mono hbf0.size)).trans (hb1.mono (Nat.le_trans hbf0.size hb.size))⟩
              | some q =>
                obtain ⟨y, k⟩ := q
                obtain ⟨hk1, hk2, hks⟩ := enc_bd hy
                have hsum : (d ++ y).size ≤ (9 * n + 9) * (k - j) := by
                  rw [ByteArray.size_append]
                  have e1 := mul_sub_add (C := 9 * n + 9) (show j ≤ b + 3 by omega) (show b + 3 ≤ k by omega)
                  have e2 := mul_mono (C := 9 * n + 9) (show b - j ≤ b + 3 - j by omega)
                  have := hd.out
                  omega
                have hys := data_small hks hn (by omega)
                have HS : Hid ((d ++ y).size ≤ (9 * n + 9) * (k - j)) := hsum
                have hr' : Hid (R = encFlds (enc true t n) t (fs.drop (x + 1)) (if x + 1 = 0 then 123 else 44) k (d ++ y)) := by show _ = _; rw [hR.out, if_pos ⟨h1, h2, h3⟩, hy, if_neg (by omega)]
                have hcall := fun w => IL.yes w hp hpn (show b + 3 ≤ t.size by omega) hy
                clear h1 h2 h3 hy hks hsum hR hrow hown
                go_wp2_with (first | (go_at_call 93; refine (flipW (at_any _ _ _ _ (by omega) _hs)).mono ?_; rintro e _ ⟨rfl, rfl⟩) | (go_at_call 115; refine (hcall _).mono ?_; rintro e w1 ⟨rfl, hb1⟩))
                go_roundw
                case rel => exact ⟨x + 1, k, d ++ y, by omega, by omega, by omega, by go_num, rfl, rfl, hr', HS, hb.trans (hb1.mono hb.size)⟩
                case measure => simp [intOf]; omega
            · have h3' : atB t ((b : Int) + 2) 58 = false := atB_no rfl h3
              have hr' : Hid (R = none) := by show _ = _; rw [hR.out, if_neg (fun h => h3 h.2.2)]
              clear h1 h2 h3 hR hrow hown
              go_wp2_with (first | (go_at_call 93; refine (flipW (at_any _ _ _ _ (by omega) _hs)).mono ?_; rintro e _ ⟨rfl, rfl⟩))
              go_ret2
              rw [hr'.out]
              exact ⟨rfl, hbf0.trans (hb.mono hbf0.size)⟩
          · have h2' : atB t ((b : Int) + 1) f.1 = false := atB_no rfl h2
            have hr' : Hid (R = none) := by show _ = _; rw [hR.out, if_neg (fun h => h2 h.2.1)]
            clear h1 h2 hR hrow hown
            go_wp2_with (first | (go_at_call 93; refine (flipW (at_any _ _ _ _ (by omega) _hs)).mono ?_; rintro e _ ⟨rfl, rfl⟩))
            go_ret2
            rw [hr'.out]
            exact ⟨rfl, hbf0.trans (hb.mono hbf0.size)⟩
        · have h1' : atB t b 44 = false := atB_no rfl h1
          have hr' : Hid (R = none) := by show _ = _; rw [hR.out, if_neg (fun h => h1 h.1)]
          clear h1 hR hrow hown
          go_wp2_with (first | (go_at_call 93; refine (flipW (at_any _ _ _ _ (by omega) _hs)).mono ?_; rintro e _ ⟨rfl, rfl⟩))
          go_ret2
          rw [hr'.out]
          exact ⟨rfl, hbf0.trans (hb.mono hbf0.size)⟩
    · have hnil : fs.drop x = [] := List.drop_of_length_le (by omega)
      rw [hnil, encFlds] at hR
      have hlen : ((fs.length : Int) == 0) = false := by rw [beq_eq_false_iff_ne]; omega
      clear hrow hown
      by_cases h5 : bAt t b = 125
      · have h5' : atB t b 125 = true := atB_yes rfl h5
        have hr' : Hid (R = some (d, b + 1)) := by show _ = _; rw [hR.out, if_pos h5]
        clear h5 hR
        go_wp2_with (first | (go_at_call 93; refine (flipW (at_any _ _ _ _ (by omega) _hs)).mono ?_; rintro e _ ⟨rfl, rfl⟩))
        go_ret2
        rw [hr'.out]
        exact ⟨rfl, hbf0.trans (hb.mono hbf0.size)⟩
      · have h5' : atB t b 125 = false := atB_no rfl h5
        have hr' : Hid (R = none) := by show _ = _; rw [hR.out, if_neg h5]
        clear h5 hR
        go_wp2_with (first | (go_at_call 93; refine (flipW (at_any _ _ _ _ (by omega) _hs)).mono ?_; rintro e _ ⟨rfl, rfl⟩))
        go_ret2
        rw [hr'.out]
        exact ⟨rfl, hbf0.trans (hb.mono hbf0.size)⟩
end
section
set_option maxRecDepth 4000
open Go.RowKit

def FieldsOK (n : Nat) (s : ByteArray) : Prop := ∀ (i : Nat) (w : World), i < s.size → s.size ≤ i + 1 + n →
  Calls Tryz.prog 94 #[.string s, .int .i64 i] w fun e w' => GRet w.heap.size n s (pFlds (pField (pType true s n) (enc true s n) s) s (s.size - (i + 1)) (i + 1) []) e w' ∧ Below w.heap.size w w'
theorem fieldsOK {n : Nat} {s : ByteArray} (IE : EndsOK n s) (IL : LayOK n s s) (hs : s.size ≤ 4096) (hn : n ≤ 100) : FieldsOK n s := fun i w h1 h2 => by
  rw [fields_eq]; exact fields_any IE IL hs hn i w h1 h2
theorem pFlds_len {pf : Nat → Option ((Nat × Ty × ByteArray) × Nat)} {s : ByteArray} (hp : ∀ a f k, pf a = some (f, k) → a < k ∧ k ≤ s.size) : ∀ {m a k : Nat} {acc fs : List (Nat × Ty × ByteArray)}, acc.length ≤ a → pFlds pf s m a acc = some (fs, k) → 0 < fs.length ∧ fs.length ≤ k
  | 0, a, k, acc, fs, _, h => by simp [pFlds] at h
  | m + 1, a, k, acc, fs, ha, h => by
    rw [pFlds] at h
    split at h
    · cases h
    · rename_i f k' hx
      have := hp _ _ _ hx
      split at h
      · cases h
      · split at h
        · simp only [Option.some.injEq, Prod.mk.injEq] at h
          obtain ⟨rfl, rfl⟩ := h
          simp; omega
        · split at h
          · exact pFlds_len hp (by simp; omega) h
          · cases h
theorem enc_out {st : Bool} {t : ByteArray} {n : Nat} {ty : Ty} {j : Nat} (h : t.size ≤ j) : enc st t n ty j = none := by
  rcases hx : enc st t n ty j with _ | ⟨d, k⟩
  · rfl
  · have := enc_bd hx; omega
theorem rChoice_form {s : ByteArray} {a k : Nat} {ty : Ty} (h : rChoice s a = some (ty, k)) : ty.kind = 60 ∧ ty.letters = s.extract a (runEnd isL s (s.size - a) a) ∧ ty.letters.size ≤ 8 := by
  unfold rChoice at h
  simp only at h
  have hle := run_le isL s (s.size - a) a
  generalize hE : runEnd isL s (s.size - a) a = E at h hle
  split at h
  · cases h
  · rename_i hc
    have hb : (s.extract a E).size ≤ 8 := by rw [ByteArray.size_extract]; omega
    split at h
    · split at h
      · simp only [Option.some.injEq, Prod.mk.injEq] at h; rw [← h.1]; exact ⟨rfl, rfl, hb⟩
      · cases h
    · split at h
      · simp only [Option.some.injEq, Prod.mk.injEq] at h; rw [← h.1]; exact ⟨rfl, rfl, hb⟩
      · cases h

set_option maxRecDepth 10000 in
set_option maxHeartbeats 4000000 in
theorem lay_succ {n : Nat} {s t : ByteArray} (IL : LayOK n s t) (IF : FieldsOK n s) (hs : s.size ≤ 4096) (ht : t.size ≤ 4096) (hn : n ≤ 100) : LayOK (n + 1) s t := by
  intro i j w ty k hp hi hj
  have _hs : t.size ≤ 9000000 := by omega
  have hik := pType_bd true s _ _ _ _ hp
  have his : i < s.size := by omega
  have hbi : Hid (bAt s i = s[i].toNat) := bAt_in s i his
  by_cases hjt : t.size ≤ j
  · rw [enc_out hjt]
    clear hp
    go_enter Tryz.func115, Tryz.ntmps115
    go_wp2_with fail
    go_ret2
    exact ⟨⟨ByteArray.empty, Nat.zero_le _, rfl⟩, Below.refl _ _⟩
  · have hjt' : j < t.size := by omega
    have hbj : Hid (bAt t j = t[j].toNat) := bAt_in t j hjt'
    rw [pType] at hp
    by_cases h105 : bAt s i = 105
    · have h105' : ((s[i].toNat : Int) == 105) = true := by rw [← hbi.out]; simp [h105]
      rw [if_pos h105] at hp
      have hk : ty.kind = 105 := by simp only [Option.some.injEq, Prod.mk.injEq] at hp; rw [← hp.1]; rfl
      have hr' : Hid (enc true t (n + 1) ty j = encNum true (-2147483648) 2147483647 t j) := by show _ = _; rw [enc, if_pos hk]
      have hjt2 := hjt'
      cases hx : encNum true (-2147483648) 2147483647 t j with
      | none =>
        have hcall : ∀ w, Calls Tryz.prog 127 #[.string t, .int .i64 j, .int .i64 (-2147483648), .int .i64 2147483647] w fun e w' => e = .returned (.tuple #[.string ByteArray.empty, .int .i64 (-1)]) ∧ Below w.heap.size w w' := fun w => by have := layNumber_any t j (-2147483648) 2147483647 w _hs hjt' (by omega) (by omega); rw [layN_eq (by omega) (by omega) hjt2, hx] at this; exact this
        rw [hr'.out, hx]
        clear hx h105 hp hk
        go_enter Tryz.func115, Tryz.ntmps115
        go_wp2_with (go_at_call 127; refine (hcall _).mono ?_; rintro e w1 ⟨rfl, hb1⟩)
        go_ret2
        exact ⟨⟨ByteArray.empty, Nat.zero_le _, rfl⟩, hb1⟩
      | some p =>
        obtain ⟨d, m⟩ := p
        have hcall : ∀ w, Calls Tryz.prog 127 #[.string t, .int .i64 j, .int .i64 (-2147483648), .int .i64 2147483647] w fun e w' => e = .returned (.tuple #[.string d, .int .i64 m]) ∧ Below w.heap.size w w' := fun w => by have := layNumber_any t j (-2147483648) 2147483647 w _hs hjt' (by omega) (by omega); rw [layN_eq (by omega) (by omega) hjt2, hx] at this; exact this
        rw [hr'.out, hx]
        clear hx h105 hp hk
        go_enter Tryz.func115, Tryz.ntmps115
        go_wp2_with (go_at_call 127; refine (hcall _).mono ?_; rintro e w1 ⟨rfl, hb1⟩)
        go_ret2
        exact ⟨rfl, hb1⟩
    have h105' : ((s[i].toNat : Int) == 105) = false := by rw [← hbi.out]; simpa using h105
    by_cases h108 : bAt s i = 108
    · have h108' : ((s[i].toNat : Int) == 108) = true := by rw [← hbi.out]; simp [h108]
      rw [if_neg h105, if_pos h108] at hp
      have hk : ty.kind = 108 := by simp only [Option.some.injEq, Prod.mk.injEq] at hp; rw [← hp.1]; rfl
      have hr' : Hid (enc true t (n + 1) ty j = encNum true (-1000000000000000) 1000000000000000 t j) := by show _ = _; rw [enc, if_neg (by omega), if_pos hk]
      have hjt2 := hjt'
      cases hx : encNum true (-1000000000000000) 1000000000000000 t j with
      | none =>
        have hcall : ∀ w, Calls Tryz.prog 127 #[.string t, .int .i64 j, .int .i64 (-1000000000000000), .int .i64 1000000000000000] w fun e w' => e = .returned (.tuple #[.string ByteArray.empty, .int .i64 (-1)]) ∧ Below w.heap.size w w' := fun w => by have := layNumber_any t j (-1000000000000000) 1000000000000000 w _hs hjt' (by omega) (by omega); rw [layN_eq (by omega) (by omega) hjt2, hx] at this; exact this
        rw [hr'.out, hx]
        clear hx h105 h108 hp hk
        go_enter Tryz.func115, Tryz.ntmps115
        go_wp2_with (go_at_call 127; refine (hcall _).mono ?_; rintro e w1 ⟨rfl, hb1⟩)
        go_ret2
        exact ⟨⟨ByteArray.empty, Nat.zero_le _, rfl⟩, hb1⟩
      | some p =>
        obtain ⟨d, m⟩ := p
        have hcall : ∀ w, Calls Tryz.prog 127 #[.string t, .int .i64 j, .int .i64 (-1000000000000000), .int .i64 1000000000000000] w fun e w' => e = .returned (.tuple #[.string d, .int .i64 m]) ∧ Below w.heap.size w w' := fun w => by have := layNumber_any t j (-1000000000000000) 1000000000000000 w _hs hjt' (by omega) (by omega); rw [layN_eq (by omega) (by omega) hjt2, hx] at this; exact this
        rw [hr'.out, hx]
        clear hx h105 h108 hp hk
        go_enter Tryz.func115, Tryz.ntmps115
        go_wp2_with (go_at_call 127; refine (hcall _).mono ?_; rintro e w1 ⟨rfl, hb1⟩)
        go_ret2
        exact ⟨rfl, hb1⟩
    have h108' : ((s[i].toNat : Int) == 108) = false := by rw [← hbi.out]; simpa using h108
    by_cases h115 : bAt s i = 115
    · have h115' : ((s[i].toNat : Int) == 115) = true := by rw [← hbi.out]; simp [h115]
      rw [if_neg h105, if_neg h108, if_pos h115] at hp
      have hk : ty.kind = 115 := by simp only [Option.some.injEq, Prod.mk.injEq] at hp; rw [← hp.1]; rfl
      have hr' : Hid (enc true t (n + 1) ty j = encStr t j) := by show _ = _; rw [enc, if_neg (by omega), if_neg (by omega), if_pos hk]
      cases hx : encStr t j with
      | none =>
        have hcall : ∀ w, Calls Tryz.prog 128 #[.string t, .int .i64 j] w fun e w' => e = .returned (.tuple #[.string ByteArray.empty, .int .i64 (-1)]) ∧ Below w.heap.size w w' := fun w => by have := layString_any t j w _hs hjt'; rw [hx] at this; exact this
        rw [hr'.out, hx]
        clear hx h105 h108 h115 hp hk
        go_enter Tryz.func115, Tryz.ntmps115
        go_wp2_with (go_at_call 128; refine (hcall _).mono ?_; rintro e w1 ⟨rfl, hb1⟩)
        go_ret2
        exact ⟨⟨ByteArray.empty, Nat.zero_le _, rfl⟩, hb1⟩
      | some p =>
        obtain ⟨d, m⟩ := p
        have hcall : ∀ w, Calls Tryz.prog 128 #[.string t, .int .i64 j] w fun e w' => e = .returned (.tuple #[.string d, .int .i64 m]) ∧ Below w.heap.size w w' := fun w => by have := layString_any t j w _hs hjt'; rw [hx] at this; exact this
        rw [hr'.out, hx]
        clear hx h105 h108 h115 hp hk
        go_enter Tryz.func115, Tryz.ntmps115
        go_wp2_with (go_at_call 128; refine (hcall _).mono ?_; rintro e w1 ⟨rfl, hb1⟩)
        go_ret2
        exact ⟨rfl, hb1⟩
    have h115' : ((s[i].toNat : Int) == 115) = false := by rw [← hbi.out]; simpa using h115
    by_cases h60 : bAt s i = 60
    · have h60' : ((s[i].toNat : Int) == 60) = true := by rw [← hbi.out]; simp [h60]
      rw [if_neg h105, if_neg h108, if_neg h115, if_pos h60, pChoice_eq s (i + 1) (by omega)] at hp
      obtain ⟨hk, hlet, hl8⟩ := rChoice_form hp
      have hr' : enc true t (n + 1) ty j = encCho ty.letters t j := by rw [enc, if_neg (by omega), if_neg (by omega), if_neg (by omega), if_pos hk]; rfl
      rw [hr']
      obtain ⟨l, hl⟩ : ∃ l, l = ty.letters := ⟨_, rfl⟩
      rw [← hl] at hlet hl8 ⊢
      have hcall : ∀ w, Calls Tryz.prog 91 #[.string s, .int .i64 i] w fun e w' => e = .returned (.string l) ∧ w = w' := fun w => by rw [hlet]; exact flipW (letters_any s i w (by omega) his)
      clear h105 h108 h115 h60 hp hk hr' hl hlet hik
      go_enter Tryz.func115, Tryz.ntmps115
      go_wp2_with (go_at_call 91; refine (hcall _).mono ?_; rintro e _ ⟨rfl, rfl⟩)
      go_loopw [11] (fun v wr => ∃ x : Nat, x ≤ l.size ∧ v = .int .i64 x ∧ Hid (pOf l (bAt t j) = pFrom l (bAt t j) (l.size - x) x) ∧ Below w.heap.size w wr) (fun v _ => l.size - (intOf v).toNat)
      case atStart => exact ⟨0, Nat.zero_le _, rfl, rfl, Below.refl _ _⟩
      case round =>
        obtain ⟨x, hx, rfl, hpf, hb⟩ := hrel
        by_cases hlt : x < l.size
        · have hbx : Hid (bAt l x = l[x].toNat) := bAt_in l x hlt
          by_cases he : (l[x].toNat : Int) = t[j].toNat
          · have he' : ((l[x].toNat : Int) == (t[j].toNat : Int)) = true := by simpa using he
            have hr : Hid (encCho l t j = some (oneB x, j + 1)) := by
              show _ = _; unfold encCho; rw [pFrom_hit l (bAt t j) x hpf.out hlt (by rw [hbx.out, hbj.out]; exact he), if_neg (by omega)]; rfl
            clear he
            go_wp2_with fail
            go_quiet (fail)
            go_wp2_with ((go_at_call 95; refine (one_any x _ (by omega)).mono ?_; rintro e wo ⟨rfl, hbo⟩))
            go_ret2
            rw [hr.out]
            exact ⟨rfl, (below_drewN hb _).trans (hbo.mono (by have := hb.size; simp; omega))⟩
          · have he' : ((l[x].toNat : Int) == (t[j].toNat : Int)) = false := by simpa using he
            have hpf2 : Hid (pOf l (bAt t j) = pFrom l (bAt t j) (l.size - (x + 1)) (x + 1)) := pFrom_miss l (bAt t j) x hpf.out hlt (by rw [hbx.out, hbj.out]; exact he)
            clear he
            go_wp2_with fail
            go_quiet (fail)
            go_wp2_with fail
            go_roundw
            case rel => exact ⟨x + 1, by omega, by go_num, hpf2, below_drewN hb _⟩
            case measure => simp [intOf]; omega
        · have hr : Hid (encCho l t j = none) := by show _ = _; unfold encCho; rw [pFrom_end l (bAt t j) x hpf.out hlt, if_pos (by omega)]
          go_wp2_with fail
          go_ret2
          rw [hr.out]
          exact ⟨⟨ByteArray.empty, Nat.zero_le _, rfl⟩, hb⟩
    have h60' : ((s[i].toNat : Int) == 60) = false := by rw [← hbi.out]; simpa using h60
    by_cases h91 : bAt s i = 91
    · have h91' : ((s[i].toNat : Int) == 91) = true := by rw [← hbi.out]; simp [h91]
      rw [if_neg h105, if_neg h108, if_neg h115, if_neg h60, if_pos h91] at hp
      unfold pList at hp
      rcases hq : pType true s n (i + 1) with _ | ⟨t', k'⟩
      · rw [hq] at hp; cases hp
      rw [hq] at hp
      simp only at hp
      by_cases h93 : bAt s k' = 93
      · rw [if_pos h93] at hp
        simp only [Option.some.injEq, Prod.mk.injEq] at hp
        obtain ⟨rfl, rfl⟩ := hp
        have hr' : Hid (enc true t (n + 1) ⟨91, ByteArray.empty, false, [t'], []⟩ j = encList (enc true t n t') t j) := rfl
        cases hx : encList (enc true t n t') t j with
        | none =>
          have hcall : ∀ w, Calls Tryz.prog 129 #[.string s, .int .i64 (i + 1 : Nat), .string t, .int .i64 j] w fun e w' => e = .returned (.tuple #[.string ByteArray.empty, .int .i64 (-1)]) ∧ Below w.heap.size w w' := fun w => by have := layList_any IL ht hn (i + 1) j w hq (by omega) hjt'; rw [hx] at this; exact this
          rw [hr'.out, hx]
          clear hx h105 h108 h115 h60 h91 hq h93
          go_enter Tryz.func115, Tryz.ntmps115
          go_wp2_with (go_at_call 129; refine (hcall _).mono ?_; rintro e w1 ⟨rfl, hb1⟩)
          go_ret2
          exact ⟨⟨ByteArray.empty, Nat.zero_le _, rfl⟩, hb1⟩
        | some p =>
          obtain ⟨d, m⟩ := p
          have hcall : ∀ w, Calls Tryz.prog 129 #[.string s, .int .i64 (i + 1 : Nat), .string t, .int .i64 j] w fun e w' => e = .returned (.tuple #[.string d, .int .i64 m]) ∧ Below w.heap.size w w' := fun w => by have := layList_any IL ht hn (i + 1) j w hq (by omega) hjt'; rw [hx] at this; exact this
          rw [hr'.out, hx]
          clear hx h105 h108 h115 h60 h91 hq h93
          go_enter Tryz.func115, Tryz.ntmps115
          go_wp2_with (go_at_call 129; refine (hcall _).mono ?_; rintro e w1 ⟨rfl, hb1⟩)
          go_ret2
          exact ⟨rfl, hb1⟩
      · rw [if_neg h93] at hp; cases hp
    have h91' : ((s[i].toNat : Int) == 91) = false := by rw [← hbi.out]; simpa using h91
    by_cases h63 : bAt s i = 63
    · have h63' : ((s[i].toNat : Int) == 63) = true := by rw [← hbi.out]; simp [h63]
      rw [if_neg h105, if_neg h108, if_neg h115, if_neg h60, if_neg h91, if_pos h63] at hp
      unfold pMaybe at hp
      rcases hq : pType true s n (i + 1) with _ | ⟨t', k'⟩
      · rw [hq] at hp; cases hp
      rw [hq] at hp
      simp only at hp
      by_cases hm : t'.kind = 63
      · rw [if_pos hm] at hp; cases hp
      rw [if_neg hm] at hp
      simp only [Option.some.injEq, Prod.mk.injEq] at hp
      obtain ⟨rfl, rfl⟩ := hp
      have hr' : enc true t (n + 1) ⟨63, ByteArray.empty, false, [t'], []⟩ j = encMaybe (enc true t n t') t j := rfl
      rw [hr']
      by_cases h95 : bAt t j = 95
      · have h95' : ((t[j].toNat : Int) == 95) = true := by rw [← hbj.out]; simp [h95]
        have hr : Hid (encMaybe (enc true t n t') t j = some (oneB 0, j + 1)) := by show _ = _; unfold encMaybe; rw [if_pos h95]
        clear h105 h108 h115 h60 h91 h63 hq hm hr' h95
        go_enter Tryz.func115, Tryz.ntmps115
        go_wp2_with ((go_at_call 95; refine (one_any 0 _ (by omega)).mono ?_; rintro e wo ⟨rfl, hbo⟩))
        go_ret2
        rw [hr.out]
        exact ⟨rfl, hbo⟩
      · have h95' : ((t[j].toNat : Int) == 95) = false := by rw [← hbj.out]; simpa using h95
        cases hx : enc true t n t' j with
        | none =>
          have hr : Hid (encMaybe (enc true t n t') t j = none) := by show _ = _; unfold encMaybe; rw [if_neg h95, hx]
          have hcall := fun w => IL.no w hq (show s.size ≤ i + 1 + n by omega) (show j ≤ t.size by omega) hx
          have hone : (oneB 1).size = 1 := rfl
          clear h105 h108 h115 h60 h91 h63 hq hm hr' h95 hx
          go_enter Tryz.func115, Tryz.ntmps115
          go_wp2_with (first | (go_at_call 95; refine (one_any 1 _ (by omega)).mono ?_; rintro e wo ⟨rfl, hbo⟩) | (go_at_call 115; refine (hcall _).mono ?_; rintro e w1 ⟨d', hd', rfl, hb1⟩))
          go_ret2
          rw [hr.out]
          exact ⟨⟨oneB 1 ++ d', by rw [ByteArray.size_append, hone]; omega, rfl⟩, hb1.trans (hbo.mono hb1.size)⟩
        | some p =>
          obtain ⟨d, m⟩ := p
          have hr : Hid (encMaybe (enc true t n t') t j = some (oneB 1 ++ d, m)) := by show _ = _; unfold encMaybe; rw [if_neg h95, hx]
          have hcall := fun w => IL.yes w hq (show s.size ≤ i + 1 + n by omega) (show j ≤ t.size by omega) hx
          obtain ⟨e1, e2, e3⟩ := enc_bd hx
          have hds := data_small e3 hn (by omega)
          have hone : (oneB 1).size = 1 := rfl
          clear h105 h108 h115 h60 h91 h63 hq hm hr' h95 hx e3
          go_enter Tryz.func115, Tryz.ntmps115
          go_wp2_with (first | (go_at_call 95; refine (one_any 1 _ (by omega)).mono ?_; rintro e wo ⟨rfl, hbo⟩) | (go_at_call 115; refine (hcall _).mono ?_; rintro e w1 ⟨rfl, hb1⟩))
          go_ret2
          rw [hr.out]
          exact ⟨rfl, hb1.trans (hbo.mono hb1.size)⟩
    have h63' : ((s[i].toNat : Int) == 63) = false := by rw [← hbi.out]; simpa using h63
    by_cases h123 : bAt s i = 123
    · have h123' : ((s[i].toNat : Int) == 123) = true := by rw [← hbi.out]; simp [h123]
      rw [if_neg h105, if_neg h108, if_neg h115, if_neg h60, if_neg h91, if_neg h63, if_pos h123] at hp
      unfold pRec at hp
      rcases hq : pFlds (pField (pType true s n) (enc true s n) s) s (s.size - (i + 1)) (i + 1) [] with _ | ⟨fs, k'⟩
      · rw [hq] at hp; cases hp
      rw [hq] at hp
      simp only [Option.some.injEq, Prod.mk.injEq] at hp
      obtain ⟨rfl, rfl⟩ := hp
      have hfb := fun a f k (h : pField (pType true s n) (enc true s n) s a = some (f, k)) => pField_bd (pType_bd true s n) (fun ty j d k h => ⟨(enc_bd h).1, (enc_bd h).2.1⟩) h
      have hlen := pFlds_len hfb (by simp) hq
      have hkk := (pFlds_bd hfb hq).2
      have hF := fun w => IF i w his (by omega)
      rw [hq] at hF
      have hr' : Hid (enc true t (n + 1) ⟨123, ByteArray.empty, false, [], fs⟩ j = encFlds (enc true t n) t fs 123 j ByteArray.empty) := rfl
      cases hx : encFlds (enc true t n) t fs 123 j ByteArray.empty with
      | none =>
        have hcall : ∀ w, Calls Tryz.prog 130 #[.string s, .int .i64 i, .string t, .int .i64 j] w fun e w' => e = .returned (.tuple #[.string ByteArray.empty, .int .i64 (-1)]) ∧ Below w.heap.size w w' := fun w => by have := layRecord_any IL ht hn i j hlen.1 (by omega) hF w hjt'; rw [hx] at this; exact this
        rw [hr'.out, hx]
        clear hx h105 h108 h115 h60 h91 h63 h123 hq hF hfb
        go_enter Tryz.func115, Tryz.ntmps115
        go_wp2_with (go_at_call 130; refine (hcall _).mono ?_; rintro e w1 ⟨rfl, hb1⟩)
        go_ret2
        exact ⟨⟨ByteArray.empty, Nat.zero_le _, rfl⟩, hb1⟩
      | some p =>
        obtain ⟨d, m⟩ := p
        have hcall : ∀ w, Calls Tryz.prog 130 #[.string s, .int .i64 i, .string t, .int .i64 j] w fun e w' => e = .returned (.tuple #[.string d, .int .i64 m]) ∧ Below w.heap.size w w' := fun w => by have := layRecord_any IL ht hn i j hlen.1 (by omega) hF w hjt'; rw [hx] at this; exact this
        rw [hr'.out, hx]
        clear hx h105 h108 h115 h60 h91 h63 h123 hq hF hfb
        go_enter Tryz.func115, Tryz.ntmps115
        go_wp2_with (go_at_call 130; refine (hcall _).mono ?_; rintro e w1 ⟨rfl, hb1⟩)
        go_ret2
        exact ⟨rfl, hb1⟩
    have h123' : ((s[i].toNat : Int) == 123) = false := by rw [← hbi.out]; simpa using h123
    rw [if_neg h105, if_neg h108, if_neg h115, if_neg h60, if_neg h91, if_neg h63, if_neg h123] at hp
    cases hp
end
section
set_option maxRecDepth 4000
open Go.RowKit

set_option maxHeartbeats 4000000 in
theorem ends_out {s : ByteArray} (hs : s.size ≤ 4096) (i : Nat) (w : World) (hi : s.size ≤ i) (hi2 : i ≤ s.size + 1) :
    Calls Tryz.prog 75 #[.string s, .int .i64 i] w fun e w' => e = .returned (.int .i64 (-1)) ∧ Below w.heap.size w w' := by
  go_enter Tryz.func75, Tryz.ntmps75
  go_wp2_with fail
  go_ret
  exact ⟨rfl, Below.refl _ _⟩

set_option maxRecDepth 10000 in
set_option maxHeartbeats 4000000 in
theorem ends_succ {n : Nat} {s : ByteArray} (IE : EndsOK n s) (IF : FieldsOK n s) (hs : s.size ≤ 4096) (hn : n ≤ 100) : EndsOK (n + 1) s := by
  intro i w hi hi2
  have _hs : s.size ≤ 9000000 := by omega
  by_cases his : s.size ≤ i
  · rcases hx : pType true s (n + 1) i with _ | ⟨ty, k⟩
    · exact ends_out hs i w his hi2
    · have := pType_bd true s _ _ _ _ hx; omega
  · have his' : i < s.size := by omega
    have hbi : Hid (bAt s i = s[i].toNat) := bAt_in s i his'
    rw [pType]
    by_cases h105 : bAt s i = 105
    · have h105' : ((s[i].toNat : Int) == 105) = true := by rw [← hbi.out]; simp [h105]
      rw [if_pos h105]
      clear h105 
      go_enter Tryz.func75, Tryz.ntmps75
      go_wp2_with fail
      go_ret
      exact ⟨rfl, Below.refl _ _⟩
    have h105' : ((s[i].toNat : Int) == 105) = false := by rw [← hbi.out]; simpa using h105
    by_cases h108 : bAt s i = 108
    · have h108' : ((s[i].toNat : Int) == 108) = true := by rw [← hbi.out]; simp [h108]
      rw [if_neg h105, if_pos h108]
      clear h105 h108 
      go_enter Tryz.func75, Tryz.ntmps75
      go_wp2_with fail
      go_ret
      exact ⟨rfl, Below.refl _ _⟩
    have h108' : ((s[i].toNat : Int) == 108) = false := by rw [← hbi.out]; simpa using h108
    by_cases h115 : bAt s i = 115
    · have h115' : ((s[i].toNat : Int) == 115) = true := by rw [← hbi.out]; simp [h115]
      rw [if_neg h105, if_neg h108, if_pos h115]
      clear h105 h108 h115 
      go_enter Tryz.func75, Tryz.ntmps75
      go_wp2_with fail
      go_ret
      exact ⟨rfl, Below.refl _ _⟩
    have h115' : ((s[i].toNat : Int) == 115) = false := by rw [← hbi.out]; simpa using h115
    by_cases h60 : bAt s i = 60
    · have h60' : ((s[i].toNat : Int) == 60) = true := by rw [← hbi.out]; simp [h60]
      rw [if_neg h105, if_neg h108, if_neg h115, if_pos h60, pChoice_eq s (i + 1) (by omega)]
      obtain ⟨E, hE⟩ : ∃ E, E = runEnd isL s (s.size - (i + 1)) (i + 1) := ⟨_, rfl⟩
      have hle := run_le isL s (s.size - (i + 1)) (i + 1)
      rw [← hE] at hle
      obtain ⟨hle1, hle2⟩ := hle
      have hP : rChoice s (i + 1) = if E - (i + 1) < 1 ∨ 8 < E - (i + 1) ∨ tw (s.extract (i + 1) E) = true then none else if bAt s E = 43 then (if bAt s (E + 1) = 62 then some (⟨60, s.extract (i + 1) E, true, [], []⟩, E + 2) else none) else if bAt s E = 62 then some (⟨60, s.extract (i + 1) E, false, [], []⟩, E + 1) else none := by rw [hE]; rfl
      have hlc : ∀ w, Calls Tryz.prog 91 #[.string s, .int .i64 i] w fun e w' => e = .returned (.string (s.extract (i + 1) E)) ∧ w = w' := fun w => by rw [hE]; exact flipW (letters_any s i w _hs his')
      rw [hP]
      clear h105 h108 h115 h60 hP hE
      obtain ⟨L, rfl⟩ : ∃ L, E = i + 1 + L := ⟨E - (i + 1), by omega⟩
      have hsz : (s.extract (i + 1) (i + 1 + L)).size = L := by rw [size_extract s (i + 1) (i + 1 + L) hle1 (by omega)]; omega
      have hLs : i + 1 + L ≤ s.size := by omega
      clear hle1 hle2
      by_cases h43 : bAt s (i + 1 + L) = 43
      · have h43' : atB s ((i : Int) + 1 + (L : Int)) 43 = true := atB_yes (i := i + 1 + L) (by omega) h43
        by_cases hA : L < 1
        · rw [if_pos (by left; omega)]
          clear h43
          go_enter Tryz.func75, Tryz.ntmps75
          go_wp2_with (first | (go_at_call 93; refine (flipW (at_any _ _ _ _ (by omega) _hs)).mono ?_; rintro e _ ⟨rfl, rfl⟩) | (go_at_call 91; refine (hlc _).mono ?_; rintro e _ ⟨rfl, rfl⟩) | (go_at_call 92; refine (twice_any _ _ (by rw [hsz]; omega)).mono ?_; rintro e wt ⟨rfl, hbt⟩))
          go_ret
          exact ⟨rfl, hbt⟩
        · by_cases hB : 8 < L
          · rw [if_pos (by right; left; omega)]
            clear h43
            go_enter Tryz.func75, Tryz.ntmps75
            go_wp2_with (first | (go_at_call 93; refine (flipW (at_any _ _ _ _ (by omega) _hs)).mono ?_; rintro e _ ⟨rfl, rfl⟩) | (go_at_call 91; refine (hlc _).mono ?_; rintro e _ ⟨rfl, rfl⟩) | (go_at_call 92; refine (twice_any _ _ (by rw [hsz]; omega)).mono ?_; rintro e wt ⟨rfl, hbt⟩))
            go_ret
            exact ⟨rfl, hbt⟩
          · cases htw : tw (s.extract (i + 1) (i + 1 + L)) with
            | true =>
              rw [if_pos (.inr (.inr rfl))]
              clear h43
              go_enter Tryz.func75, Tryz.ntmps75
              go_wp2_with (first | (go_at_call 93; refine (flipW (at_any _ _ _ _ (by omega) _hs)).mono ?_; rintro e _ ⟨rfl, rfl⟩) | (go_at_call 91; refine (hlc _).mono ?_; rintro e _ ⟨rfl, rfl⟩) | (go_at_call 92; refine (twice_any _ _ (by rw [hsz]; omega)).mono ?_; rintro e wt ⟨rfl, hbt⟩))
              go_ret
              exact ⟨rfl, hbt⟩
            | false =>
              rw [if_neg (by rintro (h | h | h); omega; omega; cases h), if_pos h43]
              by_cases h62 : bAt s (i + 1 + L + 1) = 62
              · have h62' : atB s ((i : Int) + 1 + (L : Int) + 1) 62 = true := atB_yes (i := i + 1 + L + 1) (by omega) h62
                rw [if_pos h62]
                clear h43 h62
                go_enter Tryz.func75, Tryz.ntmps75
                go_wp2_with (first | (go_at_call 93; refine (flipW (at_any _ _ _ _ (by omega) _hs)).mono ?_; rintro e _ ⟨rfl, rfl⟩) | (go_at_call 91; refine (hlc _).mono ?_; rintro e _ ⟨rfl, rfl⟩) | (go_at_call 92; refine (twice_any _ _ (by rw [hsz]; omega)).mono ?_; rintro e wt ⟨rfl, hbt⟩))
                go_ret
                exact ⟨ret_int (by show _ = ((_ : Nat) : Int); omega), hbt⟩
              · have h62' : atB s ((i : Int) + 1 + (L : Int) + 1) 62 = false := atB_no (i := i + 1 + L + 1) (by omega) h62
                rw [if_neg h62]
                clear h43 h62
                go_enter Tryz.func75, Tryz.ntmps75
                go_wp2_with (first | (go_at_call 93; refine (flipW (at_any _ _ _ _ (by omega) _hs)).mono ?_; rintro e _ ⟨rfl, rfl⟩) | (go_at_call 91; refine (hlc _).mono ?_; rintro e _ ⟨rfl, rfl⟩) | (go_at_call 92; refine (twice_any _ _ (by rw [hsz]; omega)).mono ?_; rintro e wt ⟨rfl, hbt⟩))
                go_ret
                exact ⟨rfl, hbt⟩
      · have h43' : atB s ((i : Int) + 1 + (L : Int)) 43 = false := atB_no (i := i + 1 + L) (by omega) h43
        by_cases hA : L < 1
        · rw [if_pos (by left; omega)]
          clear h43
          go_enter Tryz.func75, Tryz.ntmps75
          go_wp2_with (first | (go_at_call 93; refine (flipW (at_any _ _ _ _ (by omega) _hs)).mono ?_; rintro e _ ⟨rfl, rfl⟩) | (go_at_call 91; refine (hlc _).mono ?_; rintro e _ ⟨rfl, rfl⟩) | (go_at_call 92; refine (twice_any _ _ (by rw [hsz]; omega)).mono ?_; rintro e wt ⟨rfl, hbt⟩))
          go_ret
          exact ⟨rfl, hbt⟩
        · by_cases hB : 8 < L
          · rw [if_pos (by right; left; omega)]
            clear h43
            go_enter Tryz.func75, Tryz.ntmps75
            go_wp2_with (first | (go_at_call 93; refine (flipW (at_any _ _ _ _ (by omega) _hs)).mono ?_; rintro e _ ⟨rfl, rfl⟩) | (go_at_call 91; refine (hlc _).mono ?_; rintro e _ ⟨rfl, rfl⟩) | (go_at_call 92; refine (twice_any _ _ (by rw [hsz]; omega)).mono ?_; rintro e wt ⟨rfl, hbt⟩))
            go_ret
            exact ⟨rfl, hbt⟩
          · cases htw : tw (s.extract (i + 1) (i + 1 + L)) with
            | true =>
              rw [if_pos (.inr (.inr rfl))]
              clear h43
              go_enter Tryz.func75, Tryz.ntmps75
              go_wp2_with (first | (go_at_call 93; refine (flipW (at_any _ _ _ _ (by omega) _hs)).mono ?_; rintro e _ ⟨rfl, rfl⟩) | (go_at_call 91; refine (hlc _).mono ?_; rintro e _ ⟨rfl, rfl⟩) | (go_at_call 92; refine (twice_any _ _ (by rw [hsz]; omega)).mono ?_; rintro e wt ⟨rfl, hbt⟩))
              go_ret
              exact ⟨rfl, hbt⟩
            | false =>
              rw [if_neg (by rintro (h | h | h); omega; omega; cases h), if_neg h43]
              by_cases h62 : bAt s (i + 1 + L) = 62
              · have h62' : atB s ((i : Int) + 1 + (L : Int)) 62 = true := atB_yes (i := i + 1 + L) (by omega) h62
                rw [if_pos h62]
                clear h43 h62
                go_enter Tryz.func75, Tryz.ntmps75
                go_wp2_with (first | (go_at_call 93; refine (flipW (at_any _ _ _ _ (by omega) _hs)).mono ?_; rintro e _ ⟨rfl, rfl⟩) | (go_at_call 91; refine (hlc _).mono ?_; rintro e _ ⟨rfl, rfl⟩) | (go_at_call 92; refine (twice_any _ _ (by rw [hsz]; omega)).mono ?_; rintro e wt ⟨rfl, hbt⟩))
                go_ret
                exact ⟨ret_int (by show _ = ((_ : Nat) : Int); omega), hbt⟩
              · have h62' : atB s ((i : Int) + 1 + (L : Int)) 62 = false := atB_no (i := i + 1 + L) (by omega) h62
                rw [if_neg h62]
                clear h43 h62
                go_enter Tryz.func75, Tryz.ntmps75
                go_wp2_with (first | (go_at_call 93; refine (flipW (at_any _ _ _ _ (by omega) _hs)).mono ?_; rintro e _ ⟨rfl, rfl⟩) | (go_at_call 91; refine (hlc _).mono ?_; rintro e _ ⟨rfl, rfl⟩) | (go_at_call 92; refine (twice_any _ _ (by rw [hsz]; omega)).mono ?_; rintro e wt ⟨rfl, hbt⟩))
                go_ret
                exact ⟨rfl, hbt⟩
    have h60' : ((s[i].toNat : Int) == 60) = false := by rw [← hbi.out]; simpa using h60
    by_cases h91 : bAt s i = 91
    · have h91' : ((s[i].toNat : Int) == 91) = true := by rw [← hbi.out]; simp [h91]
      rw [if_neg h105, if_neg h108, if_neg h115, if_neg h60, if_pos h91]
      unfold pList
      rcases hq : pType true s n (i + 1) with _ | ⟨t', k'⟩
      · have hcall := fun w => IE.no w (show s.size ≤ i + 1 + n by omega) (by omega) hq
        have hng : atB s (-1) 93 = false := rfl
        clear h105 h108 h115 h60 h91 hq
        go_enter Tryz.func75, Tryz.ntmps75
        go_wp2_with (first | (go_at_call 93; refine (flipW (at_any _ _ _ _ (by omega) _hs)).mono ?_; rintro e _ ⟨rfl, rfl⟩) | (go_at_call 75; refine (hcall _).mono ?_; rintro e w1 ⟨rfl, hb1⟩))
        go_ret
        exact ⟨rfl, hb1⟩
      · have hcall := fun w => IE.yes w (show s.size ≤ i + 1 + n by omega) (by omega) hq
        have hkb := pType_bd true s _ _ _ _ hq
        simp only
        by_cases h93 : bAt s k' = 93
        · have h93' : atB s k' 93 = true := atB_yes rfl h93
          rw [if_pos h93]
          clear h105 h108 h115 h60 h91 hq h93
          go_enter Tryz.func75, Tryz.ntmps75
          go_wp2_with (first | (go_at_call 93; refine (flipW (at_any _ _ _ _ (by omega) _hs)).mono ?_; rintro e _ ⟨rfl, rfl⟩) | (go_at_call 75; refine (hcall _).mono ?_; rintro e w1 ⟨rfl, hb1⟩))
          go_ret
          exact ⟨rfl, hb1⟩
        · have h93' : atB s k' 93 = false := atB_no rfl h93
          rw [if_neg h93]
          clear h105 h108 h115 h60 h91 hq h93
          go_enter Tryz.func75, Tryz.ntmps75
          go_wp2_with (first | (go_at_call 93; refine (flipW (at_any _ _ _ _ (by omega) _hs)).mono ?_; rintro e _ ⟨rfl, rfl⟩) | (go_at_call 75; refine (hcall _).mono ?_; rintro e w1 ⟨rfl, hb1⟩))
          go_ret
          exact ⟨rfl, hb1⟩
    have h91' : ((s[i].toNat : Int) == 91) = false := by rw [← hbi.out]; simpa using h91
    by_cases h63 : bAt s i = 63
    · have h63' : ((s[i].toNat : Int) == 63) = true := by rw [← hbi.out]; simp [h63]
      rw [if_neg h105, if_neg h108, if_neg h115, if_neg h60, if_neg h91, if_pos h63]
      by_cases h63b : bAt s (i + 1) = 63
      · have h63b' : atB s ((i : Int) + 1) 63 = true := atB_yes rfl h63b
        have hnone : pMaybe (pType true s n) (i + 1) = none := by
          unfold pMaybe
          rcases hq : pType true s n (i + 1) with _ | ⟨t', k'⟩
          · rfl
          · simp only; rw [if_pos ((pType_maybe hq).mpr h63b)]
        rw [hnone]
        clear h105 h108 h115 h60 h91 h63 hnone h63b
        go_enter Tryz.func75, Tryz.ntmps75
        go_wp2_with (first | (go_at_call 93; refine (flipW (at_any _ _ _ _ (by omega) _hs)).mono ?_; rintro e _ ⟨rfl, rfl⟩))
        go_ret
        exact ⟨rfl, Below.refl _ _⟩
      · have h63b' : atB s ((i : Int) + 1) 63 = false := atB_no rfl h63b
        unfold pMaybe
        rcases hq : pType true s n (i + 1) with _ | ⟨t', k'⟩
        · have hcall := fun w => IE.no w (show s.size ≤ i + 1 + n by omega) (by omega) hq
          clear h105 h108 h115 h60 h91 h63 hq h63b
          go_enter Tryz.func75, Tryz.ntmps75
          go_wp2_with (first | (go_at_call 93; refine (flipW (at_any _ _ _ _ (by omega) _hs)).mono ?_; rintro e _ ⟨rfl, rfl⟩) | (go_at_call 75; refine (hcall _).mono ?_; rintro e w1 ⟨rfl, hb1⟩))
          go_ret
          exact ⟨rfl, hb1⟩
        · have hcall := fun w => IE.yes w (show s.size ≤ i + 1 + n by omega) (by omega) hq
          simp only
          rw [if_neg (fun h => h63b ((pType_maybe hq).mp h))]
          clear h105 h108 h115 h60 h91 h63 hq h63b
          go_enter Tryz.func75, Tryz.ntmps75
          go_wp2_with (first | (go_at_call 93; refine (flipW (at_any _ _ _ _ (by omega) _hs)).mono ?_; rintro e _ ⟨rfl, rfl⟩) | (go_at_call 75; refine (hcall _).mono ?_; rintro e w1 ⟨rfl, hb1⟩))
          go_ret
          exact ⟨rfl, hb1⟩
    have h63' : ((s[i].toNat : Int) == 63) = false := by rw [← hbi.out]; simpa using h63
    by_cases h123 : bAt s i = 123
    · have h123' : ((s[i].toNat : Int) == 123) = true := by rw [← hbi.out]; simp [h123]
      rw [if_neg h105, if_neg h108, if_neg h115, if_neg h60, if_neg h91, if_neg h63, if_pos h123]
      unfold pRec
      have hF := fun w => IF i w his' (by omega)
      rcases hq : pFlds (pField (pType true s n) (enc true s n) s) s (s.size - (i + 1)) (i + 1) [] with _ | ⟨fs, k'⟩
      · rw [hq] at hF
        have hcall : ∀ w, Calls Tryz.prog 94 #[.string s, .int .i64 i] w fun e w' => e = .returned (.tuple #[.slice none 0 0, .int .i64 (-1)]) ∧ Below w.heap.size w w' := hF
        clear h105 h108 h115 h60 h91 h63 h123 hq hF
        go_enter Tryz.func75, Tryz.ntmps75
        go_wp2_with (go_at_call 94; refine (hcall _).mono ?_; rintro e w1 ⟨rfl, hb1⟩)
        go_ret
        exact ⟨rfl, hb1⟩
      · rw [hq] at hF
        have hcall : ∀ w, Calls Tryz.prog 94 #[.string s, .int .i64 i] w fun e w' => ∃ g cap, e = .returned (.tuple #[.slice (some ⟨g, 0, none⟩) fs.length cap, .int .i64 k']) ∧ Below w.heap.size w w' := fun w => by
          refine (hF w).mono ?_
          rintro e w' ⟨⟨g, cap, xs, h1, h2, h3⟩, h4⟩
          exact ⟨g, cap, h1, h4⟩
        clear h105 h108 h115 h60 h91 h63 h123 hq hF
        go_enter Tryz.func75, Tryz.ntmps75
        go_wp2_with (go_at_call 94; refine (hcall _).mono ?_; rintro e w1 ⟨g, cap, rfl, hb1⟩)
        go_ret
        exact ⟨rfl, hb1⟩
    have h123' : ((s[i].toNat : Int) == 123) = false := by rw [← hbi.out]; simpa using h123
    rw [if_neg h105, if_neg h108, if_neg h115, if_neg h60, if_neg h91, if_neg h63, if_neg h123]
    clear h105 h108 h115 h60 h91 h63 h123 
    go_enter Tryz.func75, Tryz.ntmps75
    go_wp2_with fail
    go_ret
    exact ⟨rfl, Below.refl _ _⟩

theorem ref_all {s : ByteArray} (hs : s.size ≤ 4096) : ∀ n, n ≤ 101 → EndsOK n s ∧ ∀ t : ByteArray, t.size ≤ 4096 → LayOK n s t
  | 0, _ => ⟨fun i w h1 h2 => ends_out hs i w (by omega) h2, fun t ht i j w ty k hp => by simp [pType] at hp⟩
  | n + 1, hn => by
    obtain ⟨h1, h2⟩ := ref_all hs n (by omega)
    have hF := fieldsOK h1 (h2 s hs) hs (by omega)
    exact ⟨ends_succ h1 hF hs (by omega), fun t ht => lay_succ (h2 t ht) hF hs ht (by omega)⟩
end
section
set_option maxRecDepth 4000
open Go.RowKit

/-- A type as a schema tells it at a place: what the reference's 'some' and 'samples' go by. -/
def SomeOK (n : Nat) (s : ByteArray) : Prop := ∀ (i : Nat) (w : World) (ty : Ty) (k : Nat), pType true s n i = some (ty, k) → s.size ≤ i + n → wt n ty ≤ 20000 →
  Calls Tryz.prog 116 #[.string s, .int .i64 i] w fun e w' => e = .returned (.string (datV n (lv n ty))) ∧ Below w.heap.size w w'
theorem lv_dsz : ∀ (n : Nat) (ty : Ty), (datV n (lv n ty)).size ≤ wt n ty
  | 0, ty => Nat.zero_le _
  | n + 1, ty => by
    have h70 := wt_pos n ty
    rw [lv]
    split
    · rw [datV_num]; have : (numData 0).size = 1 := (by decide); omega
    · split
      · rw [datV_str]; have : (oneB ByteArray.empty.size ++ ByteArray.empty : ByteArray).size = 1 := (by decide); omega
      · split
        · rw [datV_cho, oneB_size]; omega
        · split
          · rw [datV_lst]; have : (oneB ([] : List Val).length ++ catB (([] : List Val).map (datV n))).size = 1 := (by simp [catB, oneB_size]); omega
          · split
            · rw [datV_non, oneB_size]; omega
            · rw [datV_rcd, List.map_map]
              have : ∀ l : List (Nat × Ty × ByteArray), (catB (l.map (datV n ∘ fun f => lv n f.2.1))).size ≤ (l.map fun f => wt n f.2.1 + f.2.2.size + 4).sum := fun l => by
                induction l with
                | nil => simp [catB]
                | cons a l ih =>
                  have := lv_dsz n a.2.1
                  simp only [List.map_cons, catB, ByteArray.size_append, List.sum_cons, Function.comp]
                  omega
              have := this ty.fields
              rw [wt]; omega
theorem lv_plain {n : Nat} {ty : Ty} (h : ty.kind ≠ 123) (hk : ty.kind = 105 ∨ ty.kind = 108 ∨ ty.kind = 115 ∨ ty.kind = 60 ∨ ty.kind = 91 ∨ ty.kind = 63 ∨ ty.kind = 123) : datV (n + 1) (lv (n + 1) ty) = oneB 0 := by
  rw [lv]
  split
  · rw [datV_num]; decide
  · split
    · rw [datV_str]; decide
    · split
      · rw [datV_cho]
      · split
        · rw [datV_lst]; simp [catB]
        · split
          · rw [datV_non]
          · omega
set_option maxHeartbeats 1000000 in
theorem some_plain (s : ByteArray) (i : Nat) (w : World) (hs : s.size ≤ 9000000) (h : bAt s i ≠ 123) :
    Calls Tryz.prog 116 #[.string s, .int .i64 i] w fun e w' => e = .returned (.string (oneB 0)) ∧ Below w.heap.size w w' := by
  have hat : ∀ w, Calls Tryz.prog 93 #[.string s, .int .i64 i, .int .u8 123] w fun e w' => e = .returned (.bool false) ∧ w = w' := fun w => by
    have := flipW (at_any s i 123 w (by omega) hs)
    rw [atB_no (i := i) rfl h] at this; exact this
  have hone := fun w => one_any 0 w (by omega)
  clear h
  go_enter Tryz.func116, Tryz.ntmps116
  go_wp2_with (first | (go_at_call 93; refine (hat _).mono ?_; rintro e _ ⟨rfl, rfl⟩) | (go_at_call 95; refine (hone _).mono ?_; rintro e w1 ⟨rfl, hb1⟩))
  go_ret
  exact ⟨rfl, hb1⟩
set_option maxHeartbeats 1000000 in
theorem some_rcd {n : Nat} {s : ByteArray} (IH : SomeOK n s) (hs : s.size ≤ 4096) (i : Nat) {fs : List (Nat × Ty × ByteArray)} {k0 : Nat} (hfl : fs.length ≤ 4096) (h : bAt s i = 123)
    (hF0 : ∀ w, Calls Tryz.prog 94 #[.string s, .int .i64 i] w fun e w' => GRet w.heap.size n s (some (fs, k0)) e w' ∧ Below w.heap.size w w') (hwt : (fs.map fun f => wt n f.2.1 + f.2.2.size + 4).sum ≤ 20000) (w : World) :
    Calls Tryz.prog 116 #[.string s, .int .i64 i] w fun e w' => e = .returned (.string (catB (fs.map fun f => datV n (lv n f.2.1)))) ∧ Below w.heap.size w w' := by
  have _hs : s.size ≤ 9000000 := by omega
  have hat : ∀ w, Calls Tryz.prog 93 #[.string s, .int .i64 i, .int .u8 123] w fun e w' => e = .returned (.bool true) ∧ w = w' := fun w => by
    have := flipW (at_any s i 123 w (by omega) _hs)
    rw [atB_yes (i := i) rfl h] at this; exact this
  have hF : ∀ w, Calls Tryz.prog 94 #[.string s, .int .i64 i] w fun e w' => ∃ g cap xs, e = .returned (.tuple #[.slice (some ⟨g, 0, none⟩) fs.length cap, .int .i64 k0]) ∧ w'.ownsRow w.heap.size 176 4 (.slice (some ⟨g, 0, none⟩) fs.length cap) fs.length xs ∧ RowR n s xs fs ∧ Below w.heap.size w w' := fun w => by
    refine (hF0 w).mono ?_
    rintro e w' ⟨⟨g, cap, xs, h1, h2, h3⟩, h4⟩
    exact ⟨g, cap, xs, h1, h2, h3, h4⟩
  obtain ⟨R, hR⟩ : ∃ R, R = catB (fs.map fun f => datV n (lv n f.2.1)) := ⟨_, rfl⟩
  rw [← hR]
  have HR : Hid (R = ByteArray.empty ++ catB ((fs.drop 0).map fun f => datV n (lv n f.2.1))) := by show _ = _; rw [ByteArray.empty_append]; exact hR
  clear hF0 hR h
  go_enter Tryz.func116, Tryz.ntmps116
  go_wp2_with (first | (go_at_call 93; refine (hat _).mono ?_; rintro e _ ⟨rfl, rfl⟩) | (go_at_call 94; refine (hF _).mono ?_; rintro e wf ⟨g, cap, xs, rfl, hown, hrow, hbf0⟩))
  go_loopw [7, 8] (fun vd vi wr => ∃ (x : Nat) (d : ByteArray), x ≤ fs.length ∧ vi = .int .i64 x ∧ vd = .string d ∧ Hid (R = d ++ catB ((fs.drop x).map fun f => datV n (lv n f.2.1))) ∧ Hid (d.size + ((fs.drop x).map fun f => wt n f.2.1 + f.2.2.size + 4).sum ≤ 20000) ∧ Below wf.heap.size wf wr) (fun _ x _ => fs.length - (intOf x).toNat)
  case atStart => exact ⟨0, ByteArray.empty, Nat.zero_le _, rfl, rfl, HR, (by show _ ≤ _; rw [List.drop_zero, show ByteArray.empty.size = 0 from rfl]; omega), Below.refl _ _⟩
  case round =>
    obtain ⟨x, d, hx0, rfl, rfl, hR, hsz, hb⟩ := hrel
    have hds : d.size ≤ 20000 := by have := hsz.out; omega
    by_cases hlt : x < fs.length
    · obtain ⟨f, hf⟩ : ∃ f, fs[x]? = some f := ⟨fs[x], List.getElem?_eq_getElem hlt⟩
      have hdrop : fs.drop x = f :: fs.drop (x + 1) := by
        rw [List.drop_eq_getElem_cons hlt]; rw [List.getElem?_eq_getElem hlt] at hf; simp at hf; rw [hf]
      obtain ⟨p, kp, hp, hpn, h256, c0, c1, c2, c3⟩ := hrow.2 x f hf
      have k0 := cell_keep hb (own_cell hown c0)
      have k1 := cell_keep hb (own_cell hown c1)
      have hg' : g < wr.heap.size := lt_of_cell k0
      have hsz2 : d.size + (wt n f.2.1 + f.2.2.size + 4) + ((fs.drop (x + 1)).map fun f => wt n f.2.1 + f.2.2.size + 4).sum ≤ 20000 := by
        have := hsz.out; rw [hdrop, List.map_cons, List.sum_cons] at this; omega
      have hcall := fun w => IH p w f.2.1 kp hp hpn (by omega)
      have hls := lv_dsz n f.2.1
      obtain ⟨Y, hY⟩ : ∃ Y, Y = datV n (lv n f.2.1) := ⟨_, rfl⟩
      rw [← hY] at hcall hls
      have hr' : Hid (R = (d ++ Y) ++ catB ((fs.drop (x + 1)).map fun f => datV n (lv n f.2.1))) := by show _ = _; rw [hR.out, hdrop, List.map_cons, catB, ByteArray.append_assoc, hY]
      have HS : Hid ((d ++ Y).size + ((fs.drop (x + 1)).map fun f => wt n f.2.1 + f.2.2.size + 4).sum ≤ 20000) := by show _ ≤ _; rw [ByteArray.size_append]; omega
      have hYs : Y.size ≤ 20000 := by omega
      clear hf c0 c1 c2 c3 hdrop hR hsz hsz2 hls hY hp
      go_wp2_with (first | (go_at_call 116; refine (hcall _).mono ?_; rintro e w1 ⟨rfl, hb1⟩))
      go_roundw
      case rel => exact ⟨x + 1, d ++ Y, by omega, by go_num, rfl, hr', HS, hb.trans (hb1.mono hb.size)⟩
      case measure => simp [intOf]; omega
    · have hnil : fs.drop x = [] := List.drop_of_length_le (by omega)
      have hr' : Hid (R = d) := by show _ = _; rw [hR.out, hnil]; simp [catB]
      clear hR hnil hsz
      go_wp2_with fail
      go_ret
      exact ⟨ret_str hr'.out.symm, hbf0.trans (hb.mono hbf0.size)⟩
end
end Go.Proofs.YtkkekopomiehlaaGreat
