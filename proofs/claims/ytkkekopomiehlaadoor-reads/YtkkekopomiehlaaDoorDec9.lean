import Derived.Test.YtkkekopomiehlaaDoorDec8
import Derived.Test.YtkkekopomiehlaaDoorRef6
set_option linter.unusedVariables false
set_option linter.unusedSimpArgs false
set_option maxRecDepth 4000
namespace Go.Proofs.YtkkekopomiehlaaDoor
open Go.RowKit

set_option maxHeartbeats 1000000 in
theorem tellList_any {n : Nat} {s t : ByteArray} (IH : TellOK n s t) (ht : t.size ≤ 4096) (hn : n ≤ 100) (i j : Nat) (w : World) {ty : Ty} {k0 : Nat} (hp : pType true s n i = some (ty, k0)) (hi : s.size ≤ i + n) (hj : j < t.size) :
    Calls Tryd.prog 37 #[.string s, .int .i64 i, .string t, .int .i64 j] w fun e w' => e = .returned (layRet (decList (dec t n ty) t j)) ∧ Below w.heap.size w w' := by
  have _hs : t.size ≤ 9000000 := by omega
  obtain ⟨L, hL⟩ : ∃ L, L = t[j].toNat := ⟨_, rfl⟩
  have hL256 : t[j].toNat < 256 := t[j].toNat_lt
  have hb : bAt t j = (L : Int) := by rw [hL]; exact bAt_in t j hj
  have hP : decList (dec t n ty) t j = if 16 < L then none else decItems (dec t n ty) L 0 (j + 1) ⟨#[91]⟩ := by
    unfold decList; rw [hb]; simp only [Int.toNat_natCast]
    by_cases h : 16 < L
    · rw [if_pos (by omega), if_pos h]
    · rw [if_neg (by omega), if_neg h]
  by_cases h16 : 16 < L
  · have hr : Hid (decList (dec t n ty) t j = none) := by show _ = _; rw [hP, if_pos h16]
    rw [hL] at h16
    clear hP hb hp
    go_enter Tryd.func37, Tryd.ntmps37
    go_wp2_with fail
    go_ret2
    rw [hr.out]
    exact ⟨rfl, Below.refl _ _⟩
  · rw [if_neg h16] at hP
    obtain ⟨R, hR⟩ : ∃ R, R = decItems (dec t n ty) L 0 (j + 1) ⟨#[91]⟩ := ⟨_, rfl⟩
    rw [hP, ← hR]
    have HR : Hid (R = decItems (dec t n ty) L 0 (j + 1) ⟨#[91]⟩) := hR
    clear hP hR hb
    subst hL
    have h16' : ¬ (16 : Int) < (t[j].toNat : Int) := by omega
    go_enter Tryd.func37, Tryd.ntmps37
    go_wp2_with fail
    go_loopw [11, 12, 13] (fun vd vb vc wr => ∃ (m c b : Nat) (d : ByteArray), c + m = t[j].toNat ∧ j + 1 ≤ b ∧ b ≤ t.size ∧ vc = .int .i64 c ∧ vb = .int .i64 b ∧ vd = .string d ∧ Hid (R = decItems (dec t n ty) m c b d) ∧ Hid (d.size ≤ (4 * n + 21) * (b - j)) ∧ Below w.heap.size w wr) (fun _ _ c _ => 17 - (intOf c).toNat)
    case atStart => exact ⟨t[j].toNat, 0, j + 1, ⟨#[91]⟩, by omega, Nat.le_refl _, hj, rfl, by go_num, rfl, HR, (by show (1 : Nat) ≤ _; rw [show j + 1 - j = 1 by omega]; omega), Below.refl _ _⟩
    case round =>
      obtain ⟨m, c, b, d, hcm, hjb, hbt, rfl, rfl, rfl, hR, hd, hb⟩ := hrel
      have hs2 := text_sm hd.out (by omega) hn (by omega)
      have one1 : (⟨#[93]⟩ : ByteArray).size = 1 := rfl
      have one2 : (⟨#[44]⟩ : ByteArray).size = 1 := rfl
      cases m with
      | zero =>
        have hcL : ¬ (c : Int) < (t[j].toNat : Int) := by omega
        have hr' : Hid (R = some (d ++ ⟨#[93]⟩, b)) := hR
        go_wp2_with fail
        go_ret2
        rw [hr'.out]
        exact ⟨rfl, hb⟩
      | succ m =>
        have hcL : (c : Int) < (t[j].toNat : Int) := by omega
        have hsz : (d ++ ⟨#[44]⟩).size = d.size + 1 := by rw [ByteArray.size_append, one2]
        by_cases hc0 : c = 0
        · subst hc0
          cases hx : dec t n ty b with
          | none =>
            have hr' : Hid (R = none) := by show _ = _; rw [hR.out, decItems, hx]
            have hcall := fun w => IH.no w hp hi hbt hx
            clear hx hp
            go_wp2_with (go_at_call 23; refine (hcall _).mono ?_; rintro e w' ⟨rfl, hbw⟩)
            go_ret2
            rw [hr'.out]
            exact ⟨rfl, hb.trans (hbw.mono hb.size)⟩
          | some p =>
            obtain ⟨x, k⟩ := p
            obtain ⟨hb1, hb2, hb3⟩ := dec_bd hx
            have hs1 := text_sm hb3 (by omega) hn (by omega)
            have hr' : Hid (R = decItems (dec t n ty) m (0 + 1) k (d ++ x)) := by show _ = _; rw [hR.out, decItems, hx]; rfl
            have HS : Hid ((d ++ x).size ≤ (4 * n + 21) * (k - j)) := by
              show _ ≤ _
              rw [ByteArray.size_append]
              have h1 := mul_sub_add (C := 4 * n + 21) (show j ≤ b by omega) (show b ≤ k by omega)
              have h2 : (4 * n + 21) * (k - b) = (4 * n + 20) * (k - b) + (k - b) := by rw [show 4 * n + 21 = (4 * n + 20) + 1 by omega, Nat.add_mul, Nat.one_mul]
              have := hd.out
              omega
            have hcall := fun w => IH.yes w hp hi hbt hx
            clear hx hp hb3
            go_wp2_with (go_at_call 23; refine (hcall _).mono ?_; rintro e w' ⟨rfl, hbw⟩)
            go_roundw
            case rel => exact ⟨m, 0 + 1, k, d ++ x, by omega, by omega, by omega, by go_num, rfl, rfl, hr', HS, hb.trans (hbw.mono hb.size)⟩
            case measure => simp [intOf]
        · have hc0' : (0 : Int) < (c : Int) := by omega
          cases hx : dec t n ty b with
          | none =>
            have hr' : Hid (R = none) := by show _ = _; rw [hR.out, decItems, hx]
            have hcall := fun w => IH.no w hp hi hbt hx
            clear hx hp
            go_wp2_with (go_at_call 23; refine (hcall _).mono ?_; rintro e w' ⟨rfl, hbw⟩)
            go_ret2
            rw [hr'.out]
            exact ⟨rfl, hb.trans (hbw.mono hb.size)⟩
          | some p =>
            obtain ⟨x, k⟩ := p
            obtain ⟨hb1, hb2, hb3⟩ := dec_bd hx
            have hs1 := text_sm hb3 (by omega) hn (by omega)
            have hr' : Hid (R = decItems (dec t n ty) m (c + 1) k (d ++ ⟨#[44]⟩ ++ x)) := by show _ = _; rw [hR.out, decItems, hx]; simp only [if_pos (show 0 < c by omega)]
            have HS : Hid ((d ++ ⟨#[44]⟩ ++ x).size ≤ (4 * n + 21) * (k - j)) := by
              show _ ≤ _
              rw [ByteArray.size_append, hsz]
              have h1 := mul_sub_add (C := 4 * n + 21) (show j ≤ b by omega) (show b ≤ k by omega)
              have h2 : (4 * n + 21) * (k - b) = (4 * n + 20) * (k - b) + (k - b) := by rw [show 4 * n + 21 = (4 * n + 20) + 1 by omega, Nat.add_mul, Nat.one_mul]
              have := hd.out
              omega
            have hcall := fun w => IH.yes w hp hi hbt hx
            clear hx hp hb3
            go_wp2_with (go_at_call 23; refine (hcall _).mono ?_; rintro e w' ⟨rfl, hbw⟩)
            go_roundw
            case rel => exact ⟨m, c + 1, k, d ++ ⟨#[44]⟩ ++ x, by omega, by omega, by omega, by go_num, rfl, rfl, hr', HS, hb.trans (hbw.mono hb.size)⟩
            case measure => simp [intOf]; omega

/-- As the reference writes the fields of a record: a comma ahead of each. -/
theorem decFlds_mark {f : Ty → Nat → Option (ByteArray × Nat)} : ∀ (fs : List (Nat × Ty × ByteArray)) (mk : ByteArray) (fr : Nat) (t u : ByteArray), fs ≠ [] →
    decFlds f fs mk fr (u ++ t) = (decFlds f fs mk fr t).map (fun p => (u ++ p.1, p.2))
  | [], _, _, _, _, h => absurd rfl h
  | g :: fs, mk, fr, t, u, _ => by
    simp only [decFlds]
    cases hx : f g.2.1 fr with
    | none => rfl
    | some p =>
      obtain ⟨x, nx⟩ := p
      simp only
      by_cases hfs : fs = []
      · subst hfs
        simp only [decFlds, Option.map_some, ByteArray.append_assoc]
      · rw [ByteArray.append_assoc, decFlds_mark fs _ nx _ u hfs]
end Go.Proofs.YtkkekopomiehlaaDoor
