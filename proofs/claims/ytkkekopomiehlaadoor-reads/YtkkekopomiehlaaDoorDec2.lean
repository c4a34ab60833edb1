import Derived.Test.YtkkekopomiehlaaDoorDec1
set_option linter.unusedVariables false
set_option linter.unusedSimpArgs false
set_option maxRecDepth 4000
namespace Go.Proofs.YtkkekopomiehlaaDoor
open Go.RowKit

/-- What is asked of strconv.FormatInt in a world in which its tables lie ('Tab'), and that they stay. -/
def FmtOK (Tab : World → Prop) : Prop := (∀ w w', Below w.heap.size w w' → Tab w → Tab w') ∧ ∀ (n : Int) (w : World), -1000000000000000 ≤ n → n ≤ 1000000000000000 → Tab w →
  Calls Tryd.prog 92 #[.int .i64 n, .int .i64 10] w fun e w' => e = .returned (.string (decI n)) ∧ Below w.heap.size w w'
theorem unsignedAt_no {s : ByteArray} {a : Nat} (h : uAt s a = none) (w : World) (hs : s.size ≤ 9000000) (ha : a ≤ s.size) :
    Calls Tryd.prog 91 #[.string s, .int .i64 a] w fun e w' => e = .returned (.tuple #[.int .i64 0, .int .i64 a, .bool false]) ∧ w = w' := by
  have := unsignedAt_any s a w hs ha; rw [h] at this; exact this.mono (fun _ _ ⟨h1, h2⟩ => ⟨h1, h2.symm⟩)
theorem unsignedAt_yes {s : ByteArray} {a u k : Nat} (h : uAt s a = some (u, k)) (w : World) (hs : s.size ≤ 9000000) (ha : a ≤ s.size) :
    Calls Tryd.prog 91 #[.string s, .int .i64 a] w fun e w' => e = .returned (.tuple #[.int .i64 u, .int .i64 k, .bool true]) ∧ w = w' := by
  have := unsignedAt_any s a w hs ha; rw [h] at this; exact this.mono (fun _ _ ⟨h1, h2⟩ => ⟨h1, h2.symm⟩)

set_option maxHeartbeats 1000000 in
theorem decodeNumber_any {Tab : World → Prop} (F : FmtOK Tab) (lo hi : Int) (s : ByteArray) (a : Nat) (w : World) (_hs : s.size ≤ 9000000) (ha : a ≤ s.size) (hl0 : -1000000000000000 ≤ lo) (hh0 : hi ≤ 1000000000000000) (hT : Tab w) :
    Calls Tryd.prog 54 #[.int .i64 lo, .int .i64 hi, .string s, .int .i64 a] w fun e w' => e = .returned (encRet a (decNum lo hi s a)) ∧ Below w.heap.size w w' := by
  cases hx : uAt s a with
  | none =>
    have hr : Hid (decNum lo hi s a = none) := by show _ = _; unfold decNum; rw [hx]
    have hcall := fun w => unsignedAt_no hx w _hs ha
    clear hx F hT
    go_enter Tryd.func54, Tryd.ntmps54
    go_wp2_with (go_at_call 91; refine (hcall _).mono ?_; rintro e _ ⟨rfl, rfl⟩)
    go_ret3
    rw [hr.out]
    exact ⟨rfl, Below.refl _ _⟩
  | some p =>
    obtain ⟨u, k⟩ := p
    obtain ⟨hu, hk1, hk2⟩ := uAt_bd hx
    have hcall := fun w => unsignedAt_yes hx w _hs ha
    have hP : decNum lo hi s a = if unzig u < lo ∨ hi < unzig u then none else some (decI (unzig u), k) := by unfold decNum; rw [hx]
    obtain ⟨v, hv⟩ : ∃ v, v = unzig u := ⟨_, rfl⟩
    rw [← hv] at hP
    clear hx
    by_cases hodd : u % 2 = 1
    · have ho' : ((u : Int) % 2 == 1) = true := by simp; omega
      have hv2 : Hid (-((u : Int) / 2) - 1 = v) := by show _ = _; rw [hv]; unfold unzig; rw [if_pos hodd]; omega
      have hform := fun w => F.2 v w
      rw [← hv2.out] at hform
      clear hv hodd
      by_cases hlo : -((u : Int) / 2) - 1 < lo
      · have hr : Hid (decNum lo hi s a = none) := by show _ = _; rw [hP, if_pos (.inl (by rw [← hv2.out]; exact hlo))]
        clear hP hform F hT
        go_enter Tryd.func54, Tryd.ntmps54
        go_wp2_with (go_at_call 91; refine (hcall _).mono ?_; rintro e _ ⟨rfl, rfl⟩)
        go_ret3
        rw [hr.out]
        exact ⟨rfl, Below.refl _ _⟩
      · by_cases hhi : hi < -((u : Int) / 2) - 1
        · have hr : Hid (decNum lo hi s a = none) := by show _ = _; rw [hP, if_pos (.inr (by rw [← hv2.out]; exact hhi))]
          clear hP hform F hT
          go_enter Tryd.func54, Tryd.ntmps54
          go_wp2_with (go_at_call 91; refine (hcall _).mono ?_; rintro e _ ⟨rfl, rfl⟩)
          go_ret3
          rw [hr.out]
          exact ⟨rfl, Below.refl _ _⟩
        · have hr : Hid (decNum lo hi s a = some (decI (-((u : Int) / 2) - 1), k)) := by show _ = _; rw [hP, if_neg (by rw [← hv2.out]; omega), hv2.out]
          have hfc := fun w => hform w (by omega) (by omega)
          clear hP hform F
          go_enter Tryd.func54, Tryd.ntmps54
          go_wp2_with (first | (go_at_call 91; refine (hcall _).mono ?_; rintro e _ ⟨rfl, rfl⟩) | (go_at_call 92; refine (hfc _ hT).mono ?_; rintro e w1 ⟨rfl, hb1⟩))
          go_ret3
          rw [hr.out]
          exact ⟨rfl, hb1⟩
    · have ho' : ((u : Int) % 2 == 1) = false := by rw [beq_eq_false_iff_ne]; omega
      have hv2 : Hid ((u : Int) / 2 = v) := by show _ = _; rw [hv]; unfold unzig; rw [if_neg hodd]; omega
      have hform := fun w => F.2 v w
      rw [← hv2.out] at hform
      clear hv hodd
      by_cases hlo : (u : Int) / 2 < lo
      · have hr : Hid (decNum lo hi s a = none) := by show _ = _; rw [hP, if_pos (.inl (by rw [← hv2.out]; exact hlo))]
        clear hP hform F hT
        go_enter Tryd.func54, Tryd.ntmps54
        go_wp2_with (go_at_call 91; refine (hcall _).mono ?_; rintro e _ ⟨rfl, rfl⟩)
        go_ret3
        rw [hr.out]
        exact ⟨rfl, Below.refl _ _⟩
      · by_cases hhi : hi < (u : Int) / 2
        · have hr : Hid (decNum lo hi s a = none) := by show _ = _; rw [hP, if_pos (.inr (by rw [← hv2.out]; exact hhi))]
          clear hP hform F hT
          go_enter Tryd.func54, Tryd.ntmps54
          go_wp2_with (go_at_call 91; refine (hcall _).mono ?_; rintro e _ ⟨rfl, rfl⟩)
          go_ret3
          rw [hr.out]
          exact ⟨rfl, Below.refl _ _⟩
        · have hr : Hid (decNum lo hi s a = some (decI ((u : Int) / 2), k)) := by show _ = _; rw [hP, if_neg (by rw [← hv2.out]; omega), hv2.out]
          have hfc := fun w => hform w (by omega) (by omega)
          clear hP hform F
          go_enter Tryd.func54, Tryd.ntmps54
          go_wp2_with (first | (go_at_call 91; refine (hcall _).mono ?_; rintro e _ ⟨rfl, rfl⟩) | (go_at_call 92; refine (hfc _ hT).mono ?_; rintro e w1 ⟨rfl, hb1⟩))
          go_ret3
          rw [hr.out]
          exact ⟨rfl, hb1⟩

set_option maxHeartbeats 1000000 in
theorem decodeString_any (s : ByteArray) (a : Nat) (w : World) (_hs : s.size ≤ 9000000) (ha : a ≤ s.size) :
    Calls Tryd.prog 55 #[.string s, .int .i64 a] w fun e w' => e = .returned (encRet a (decStr s a)) ∧ w' = w := by
  have hlo := bAt_lo s a
  obtain ⟨b, hb⟩ : ∃ b, b = bAt s a := ⟨_, rfl⟩
  have hby : ∀ w, Calls Tryd.prog 73 #[.string s, .int .i64 a] w fun e w' => e = .returned (.int .i64 b) ∧ w = w' := fun w => by
    rw [hb]; exact (byteAt_any s a w _hs).mono (fun _ _ ⟨h1, h2⟩ => ⟨h1, h2.symm⟩)
  have hP : decStr s a = if b < 0 ∨ 60 < b then none else if allS s b.toNat (a + 1) = true then some (quo ++ s.extract (a + 1) (a + 1 + b.toNat) ++ quo, a + 1 + b.toNat) else none := by rw [hb]; rfl
  rw [← hb] at hlo
  by_cases h0 : b < 0
  · have hr : Hid (decStr s a = none) := by show _ = _; rw [hP, if_pos (.inl h0)]
    clear hP hb
    go_enter Tryd.func55, Tryd.ntmps55
    go_wp2_with (go_at_call 73; refine (hby _).mono ?_; rintro e _ ⟨rfl, rfl⟩)
    go_ret3
    rw [hr.out]
    exact ⟨rfl, rfl⟩
  · by_cases h60 : 60 < b
    · have hr : Hid (decStr s a = none) := by show _ = _; rw [hP, if_pos (.inr h60)]
      clear hP hb
      go_enter Tryd.func55, Tryd.ntmps55
      go_wp2_with (go_at_call 73; refine (hby _).mono ?_; rintro e _ ⟨rfl, rfl⟩)
      go_ret3
      rw [hr.out]
      exact ⟨rfl, rfl⟩
    · obtain ⟨L, rfl⟩ : ∃ L : Nat, b = L := ⟨b.toNat, by omega⟩
      rw [if_neg (by omega)] at hP
      simp only [Int.toNat_natCast] at hP
      have hal : a < s.size := bAt_lt (by omega)
      obtain ⟨R, hR⟩ : ∃ R, R = allS s L (a + 1) := ⟨_, rfl⟩
      rw [← hR] at hP
      have HP : Hid (decStr s a = if R = true then some (quo ++ s.extract (a + 1) (a + 1 + L) ++ quo, a + 1 + L) else none) := hP
      have HR : Hid (R = allS s L (a + 1)) := hR
      clear hP hR hb
      go_enter Tryd.func55, Tryd.ntmps55
      go_wp2_with (go_at_call 73; refine (hby _).mono ?_; rintro e _ ⟨rfl, rfl⟩)
      clear hby
      go_loop [10] (fun v => ∃ k : Nat, a + 1 ≤ k ∧ k ≤ a + 1 + L ∧ k ≤ s.size ∧ v = .int .i64 k ∧ Hid (R = allS s (a + 1 + L - k) k)) (fun v => a + 1 + L - (intOf v).toNat)
      case atStart => exact ⟨a + 1, Nat.le_refl _, by omega, by omega, by go_num, by rw [show a + 1 + L - (a + 1) = L by omega]; exact HR⟩
      case round =>
        obtain ⟨k, hk1, hk2, hks, rfl, hp⟩ := hrel
        by_cases hlt : k < a + 1 + L
        · have hlt' : (k : Int) < (a : Int) + 1 + (L : Int) := by omega
          have hstep : Hid (R = (inS (bAt s k) && allS s (a + 1 + L - (k + 1)) (k + 1))) := by
            show _ = _; rw [hp.out, show a + 1 + L - k = (a + 1 + L - (k + 1)) + 1 by omega]; rfl
          cases hd : inS (bAt s k) with
          | true =>
            have hkl := inS_lt hd
            have hp2 : Hid (R = allS s (a + 1 + L - (k + 1)) (k + 1)) := by show _ = _; rw [hstep.out, hd]; rfl
            go_wp2_with (first | (go_at_call 73; refine (byteAt_int _ _ _ (by omega) _hs).mono ?_; rintro e w' ⟨rfl, rfl⟩) | (go_at_call 93; refine (inString_any _ _).mono ?_; rintro e w' ⟨rfl, rfl⟩))
            go_round
            case rel => exact ⟨k + 1, by omega, by omega, by omega, by go_num, hp2⟩
            case measure => simp [intOf]; omega
          | false =>
            have hr : Hid (decStr s a = none) := by show _ = _; rw [HP.out, hstep.out, hd]; rfl
            clear hstep HP
            go_wp2_with (first | (go_at_call 73; refine (byteAt_int _ _ _ (by omega) _hs).mono ?_; rintro e w' ⟨rfl, rfl⟩) | (go_at_call 93; refine (inString_any _ _).mono ?_; rintro e w' ⟨rfl, rfl⟩))
            go_ret3
            rw [hr.out]
            exact ⟨rfl, rfl⟩
        · have hlt' : ¬ (k : Int) < (a : Int) + 1 + (L : Int) := by omega
          have hRt : R = true := by rw [hp.out, show a + 1 + L - k = 0 by omega]; rfl
          have hr : Hid (decStr s a = some (quo ++ s.extract (a + 1) (a + 1 + L) ++ quo, a + 1 + L)) := by show _ = _; rw [HP.out, if_pos hRt]
          have hsx := size_extract s (a + 1) (a + 1 + L) (by omega) (by omega)
          have hq1 : (⟨#[34]⟩ : ByteArray).size = 1 := rfl
          have hsy : ((⟨#[34]⟩ : ByteArray) ++ s.extract (a + 1) (a + 1 + L)).size = 1 + L := by rw [ByteArray.size_append, hq1, hsx]; omega
          clear HP hRt hp
          go_wp2_with (go_at_call 75; refine (span_int s _ _ _ (by omega) (by omega) (by omega) _hs).mono ?_; rintro e w' ⟨rfl, rfl⟩)
          go_ret3
          rw [hr.out]
          refine ⟨ret3 (v_str ?_) (v_int ?_) rfl, rfl⟩
          · rfl
          · omega

theorem byteAt_neg (s : ByteArray) (w : World) (_hs : s.size ≤ 9000000) :
    Calls Tryd.prog 73 #[.string s, .int .i64 (-1)] w fun e w' => e = .returned (.int .i64 (-1)) ∧ w = w' := by
  go_enter Tryd.func73, Tryd.ntmps73
  go_wp2
  go_ret
  exact ⟨rfl, rfl⟩
set_option maxHeartbeats 1000000 in
theorem decodeChoice_any (l s : ByteArray) (a : Nat) (w : World) (_hs : s.size ≤ 9000000) (hl : l.size ≤ 8) (ha : a ≤ s.size) :
    Calls Tryd.prog 56 #[.string l, .string s, .int .i64 a] w fun e w' => e = .returned (encRet a (decCho l s a)) ∧ Below w.heap.size w w' := by
  have hlo := bAt_lo s a
  obtain ⟨b, hb⟩ : ∃ b, b = bAt s a := ⟨_, rfl⟩
  have hby : ∀ w, Calls Tryd.prog 73 #[.string s, .int .i64 a] w fun e w' => e = .returned (.int .i64 b) ∧ w = w' := fun w => by
    rw [hb]; exact (byteAt_any s a w _hs).mono (fun _ _ ⟨h1, h2⟩ => ⟨h1, h2.symm⟩)
  have hP : decCho l s a = if b < 0 ∨ bAt l b.toNat < 0 then none else some (oneB (bAt l b.toNat).toNat, a + 1) := by rw [hb]; rfl
  rw [← hb] at hlo
  clear hb
  obtain ⟨c, hc⟩ : ∃ c, c = (if b < 0 then -1 else bAt l b.toNat) := ⟨_, rfl⟩
  have hcc := bAt_hi l b.toNat
  have hcl := bAt_lo l b.toNat
  have hby2 : ∀ w, Calls Tryd.prog 73 #[.string l, .int .i64 b] w fun e w' => e = .returned (.int .i64 c) ∧ w = w' := fun w => by
    by_cases h0 : b < 0
    · rw [hc, if_pos h0, show b = -1 by omega]; exact byteAt_neg l w (by omega)
    · rw [hc, if_neg h0]; exact (byteAt_int l b w (by omega) (by omega)).mono (fun _ _ ⟨h1, h2⟩ => ⟨h1, h2.symm⟩)
  have hc255 : c ≤ 255 := by rw [hc]; split <;> omega
  have hP2 : decCho l s a = if c < 0 then none else some (oneB c.toNat, a + 1) := by
    rw [hP, hc]
    by_cases h0 : b < 0
    · rw [if_pos (.inl h0), if_pos h0, if_pos (by omega)]
    · rw [if_neg h0]
      by_cases h1 : bAt l b.toNat < 0
      · rw [if_pos (.inr h1), if_pos h1]
      · rw [if_neg (by omega), if_neg h1]
  clear hP hc hcc hcl
  by_cases hc0 : c < 0
  · have hr : Hid (decCho l s a = none) := by show _ = _; rw [hP2, if_pos hc0]
    clear hP2
    have tok1 : True := trivial
    go_enter Tryd.func56, Tryd.ntmps56
    go_wp2_with (first | (go_at_call 73; have _t := tok1; refine (hby _).mono ?_; rintro e _ ⟨rfl, rfl⟩; clear tok1) | (go_at_call 73; refine (hby2 _).mono ?_; rintro e _ ⟨rfl, rfl⟩))
    go_ret3
    rw [hr.out]
    exact ⟨rfl, Below.refl _ _⟩
  · have hr : Hid (decCho l s a = some (oneB c.toNat, a + 1)) := by show _ = _; rw [hP2, if_neg hc0]
    clear hP2
    have tok1 : True := trivial
    go_enter Tryd.func56, Tryd.ntmps56
    go_wp2_with (first | (go_at_call 73; have _t := tok1; refine (hby _).mono ?_; rintro e _ ⟨rfl, rfl⟩; clear tok1) | (go_at_call 73; refine (hby2 _).mono ?_; rintro e _ ⟨rfl, rfl⟩) | (go_at_call 79; refine (oneByte_int _ _ (by omega) (by omega)).mono ?_; rintro e w1 ⟨rfl, hb1⟩))
    go_ret3
    rw [hr.out]
    exact ⟨rfl, hb1⟩
end Go.Proofs.YtkkekopomiehlaaDoor
