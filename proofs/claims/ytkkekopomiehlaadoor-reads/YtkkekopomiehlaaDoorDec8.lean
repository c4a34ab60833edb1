import Derived.Test.YtkkekopomiehlaaDoorDecP
import Derived.Test.YtkkekopomiehlaaDoorRef4
set_option linter.unusedVariables false
set_option linter.unusedSimpArgs false
set_option maxRecDepth 4000
namespace Go.Proofs.YtkkekopomiehlaaDoor
open Go.RowKit

def TellOK (n : Nat) (s t : ByteArray) : Prop := ∀ (i j : Nat) (w : World) (ty : Ty) (k : Nat), pType true s n i = some (ty, k) → s.size ≤ i + n → j ≤ t.size →
  Calls Tryd.prog 23 #[.string s, .int .i64 i, .string t, .int .i64 j] w fun e w' => e = .returned (layRet (dec t n ty j)) ∧ Below w.heap.size w w'
theorem TellOK.no {n : Nat} {s t : ByteArray} (IH : TellOK n s t) {i j : Nat} (w : World) {ty : Ty} {k : Nat} (hp : pType true s n i = some (ty, k)) (hi : s.size ≤ i + n) (hj : j ≤ t.size) (hx : dec t n ty j = none) :
    Calls Tryd.prog 23 #[.string s, .int .i64 i, .string t, .int .i64 j] w fun e w' => e = .returned (.tuple #[.string ByteArray.empty, .int .i64 (-1)]) ∧ Below w.heap.size w w' := by
  have := IH i j w ty k hp hi hj; rw [hx] at this; exact this
theorem TellOK.yes {n : Nat} {s t : ByteArray} (IH : TellOK n s t) {i j : Nat} (w : World) {ty : Ty} {k : Nat} (hp : pType true s n i = some (ty, k)) (hi : s.size ≤ i + n) (hj : j ≤ t.size) {d : ByteArray} {m : Nat} (hx : dec t n ty j = some (d, m)) :
    Calls Tryd.prog 23 #[.string s, .int .i64 i, .string t, .int .i64 j] w fun e w' => e = .returned (.tuple #[.string d, .int .i64 m]) ∧ Below w.heap.size w w' := by
  have := IH i j w ty k hp hi hj; rw [hx] at this; exact this
theorem text_sm {n a b c : Nat} {d : ByteArray} (h : d.size ≤ (4 * n + c) * (b - a)) (hc : c ≤ 30) (hn : n ≤ 100) (hb : b ≤ 4096) : d.size ≤ 4000000 := by
  have h1 : (4 * n + c) * (b - a) ≤ 430 * (b - a) := Nat.mul_le_mul_right _ (by omega)
  omega

set_option maxHeartbeats 1000000 in
theorem tellString_any (s : ByteArray) (a : Nat) (w : World) (_hs : s.size ≤ 9000000) (ha : a < s.size) :
    Calls Tryd.prog 35 #[.string s, .int .i64 a] w fun e w' => e = .returned (layRet (decStr s a)) ∧ w = w' := by
  obtain ⟨L, hL⟩ : ∃ L, L = s[a].toNat := ⟨_, rfl⟩
  have hb : bAt s a = (L : Int) := by rw [hL]; exact bAt_in s a ha
  have hL256 : L < 256 := by rw [hL]; exact s[a].toNat_lt
  have hP : decStr s a = if 60 < L then none else if allS s L (a + 1) = true then some (quo ++ s.extract (a + 1) (a + 1 + L) ++ quo, a + 1 + L) else none := by
    unfold decStr; rw [hb]; simp only [Int.toNat_natCast]
    by_cases h : 60 < L
    · rw [if_pos (by omega), if_pos h]
    · rw [if_neg (by omega), if_neg h]
  by_cases h60 : 60 < L
  · have hr : Hid (decStr s a = none) := by show _ = _; rw [hP, if_pos h60]
    rw [hL] at h60
    clear hP hb
    go_enter Tryd.func35, Tryd.ntmps35
    go_wp2_with fail
    go_ret2
    rw [hr.out]
    exact ⟨rfl, rfl⟩
  · by_cases hlen : s.size < a + 1 + L
    · have hr : Hid (decStr s a = none) := by
        show _ = _; rw [hP, if_neg h60, if_neg]
        intro h
        rcases allS_lt s _ _ h with h | h <;> omega
      rw [hL] at h60 hlen
      clear hP hb
      go_enter Tryd.func35, Tryd.ntmps35
      go_wp2_with fail
      go_ret2
      rw [hr.out]
      exact ⟨rfl, rfl⟩
    · obtain ⟨R, hR⟩ : ∃ R, R = allS s L (a + 1) := ⟨_, rfl⟩
      rw [if_neg h60, ← hR] at hP
      have HP : Hid (decStr s a = if R = true then some (quo ++ s.extract (a + 1) (a + 1 + L) ++ quo, a + 1 + L) else none) := hP
      have HR : Hid (R = allS s L (a + 1)) := hR
      clear hP hR hb
      subst hL
      have h60' : ¬ (60 : Int) < (s[a].toNat : Int) := by omega
      have hlen' : ¬ (s.size : Int) < (a : Int) + 1 + (s[a].toNat : Int) := by omega
      go_enter Tryd.func35, Tryd.ntmps35
      go_wp2_with fail
      go_loop [7] (fun v => ∃ k : Nat, a + 1 ≤ k ∧ k ≤ a + 1 + s[a].toNat ∧ v = .int .i64 k ∧ Hid (R = allS s (a + 1 + s[a].toNat - k) k)) (fun v => a + 1 + s[a].toNat - (intOf v).toNat)
      case atStart => exact ⟨a + 1, Nat.le_refl _, by omega, by go_num, by rw [show a + 1 + s[a].toNat - (a + 1) = s[a].toNat by omega]; exact HR⟩
      case round =>
        obtain ⟨k, hk1, hk2, rfl, hp⟩ := hrel
        by_cases hlt : k < a + 1 + s[a].toNat
        · have hks : k < s.size := by omega
          have hlt' : (k : Int) ≤ (a : Int) + (s[a].toNat : Int) := by omega
          have hbk : bAt s k = s[k].toNat := bAt_in s k hks
          have hstep : Hid (R = (inS (s[k].toNat : Int) && allS s (a + 1 + s[a].toNat - (k + 1)) (k + 1))) := by
            show _ = _; rw [hp.out, show a + 1 + s[a].toNat - k = (a + 1 + s[a].toNat - (k + 1)) + 1 by omega, allS, hbk]
          clear hbk
          cases hd : inS (s[k].toNat : Int) with
          | true =>
            have hp2 : Hid (R = allS s (a + 1 + s[a].toNat - (k + 1)) (k + 1)) := by show _ = _; rw [hstep.out, hd]; rfl
            go_wp2_with (go_at_call 65; refine (printable_any _ _).mono ?_; rintro e w' ⟨rfl, rfl⟩)
            go_round
            case rel => exact ⟨k + 1, by omega, by omega, by go_num, hp2⟩
            case measure => simp [intOf]; omega
          | false =>
            have hr : Hid (decStr s a = none) := by show _ = _; rw [HP.out, hstep.out, hd]; rfl
            clear hstep HP
            go_wp2_with (go_at_call 65; refine (printable_any _ _).mono ?_; rintro e w' ⟨rfl, rfl⟩)
            go_ret2
            rw [hr.out]
            exact ⟨rfl, rfl⟩
        · have hlt' : ¬ (k : Int) ≤ (a : Int) + (s[a].toNat : Int) := by omega
          have hRt : R = true := by rw [hp.out, show a + 1 + s[a].toNat - k = 0 by omega]; rfl
          have hr : Hid (decStr s a = some (quo ++ s.extract (a + 1) (a + 1 + s[a].toNat) ++ quo, a + 1 + s[a].toNat)) := by show _ = _; rw [HP.out, if_pos hRt]
          have hsx := size_extract s (a + 1) (a + 1 + s[a].toNat) (by omega) (by omega)
          have hq1 : (⟨#[34]⟩ : ByteArray).size = 1 := rfl
          have hsy : ((⟨#[34]⟩ : ByteArray) ++ s.extract (a + 1) (a + 1 + s[a].toNat)).size = 1 + s[a].toNat := by rw [ByteArray.size_append, hq1, hsx]; omega
          have i1 : (0 : Int) ≤ (a : Int) + 1 := by omega
          have i2 : (a : Int) + 1 ≤ (a : Int) + 1 + (s[a].toNat : Int) := by omega
          have i3 : (a : Int) + 1 + (s[a].toNat : Int) ≤ (s.size : Int) := by omega
          clear HP hRt hp
          go_wp2_with fail
          go_ret2
          rw [hr.out]
          refine ⟨ret2 (v_str ?_) (v_int ?_), rfl⟩
          · rfl
          · omega
end Go.Proofs.YtkkekopomiehlaaDoor
