import Derived.Test.YtkkekopomiehlaaDoorEncAt
import Derived.Deep.QuietTactic
import Derived.BigQuiet
set_option linter.unusedVariables false
set_option linter.unusedSimpArgs false
namespace Go.Proofs.YtkkekopomiehlaaDoor
open Go.RowKit

/-- The fields of a record lie in the world as 'fs' says. -/
def RepF (n : Nat) (w : World) (af : Option Addr) (fs : List (Nat × Ty × ByteArray)) : Prop :=
  (fs = [] ∧ af = none) ∨
        ∃ g, af = some ⟨g, 0, none⟩ ∧
          ∀ i f, fs[i]? = some f → ∃ p1 p2 p3 q1 q2 q3, Rep n w p1 p2 p3 q1 q2 q3 f.2.1 ∧ w.cell? ⟨g, i * 7, none⟩ = some (.int .i64 f.1) ∧
            w.cell? ⟨g, i * 7 + 1, none⟩ = some (.int .i64 f.2.1.kind) ∧ w.cell? ⟨g, i * 7 + 2, none⟩ = some (.string f.2.1.letters) ∧ w.cell? ⟨g, i * 7 + 3, none⟩ = some (.bool f.2.1.op) ∧ w.cell? ⟨g, i * 7 + 4, none⟩ = some (.slice p1 p2 p3) ∧ w.cell? ⟨g, i * 7 + 5, none⟩ = some (.slice q1 q2 q3) ∧
            w.cell? ⟨g, i * 7 + 6, none⟩ = some (.string f.2.2)
theorem Rep.flds {n : Nat} {w : World} {ai af : Option Addr} {li ci lf cf : Nat} {ty : Ty} (h : Rep (n + 1) w ai li ci af lf cf ty) : lf = ty.fields.length ∧ ty.fields.length ≤ 9000000 ∧ RepF n w af ty.fields := by
  obtain ⟨_, h1, h2, _, _, h3⟩ := h
  refine ⟨h2, h1, ?_⟩
  rcases h3 with h3 | h3
  · exact .inl ⟨h3.1, h3.2.1⟩
  · exact .inr h3

set_option maxHeartbeats 1000000 in
theorem encodeRecord_any {n : Nat} {t : ByteArray} (IH : EncAtOK n t) (ht : t.size ≤ 4096) (hn : n ≤ 100) (fs : List (Nat × Ty × ByteArray)) (j : Nat) (w : World) (af : Option Addr) (lf cf : Nat) (hj : j ≤ t.size) (hlf : lf = fs.length) (hfl : fs.length ≤ 9000000) (hr : RepF n w af fs) :
    Calls Tryd.prog 72 #[.slice af lf cf, .string t, .int .i64 j] w fun e w' => e = .returned (encRet j (encFlds (enc false t n) t fs 123 j ByteArray.empty)) ∧ Below w.heap.size w w' := by
  have _hs : t.size ≤ 9000000 := by omega
  subst hlf
  obtain ⟨R, hR⟩ : ∃ R, R = encFlds (enc false t n) t fs 123 j ByteArray.empty := ⟨_, rfl⟩
  rw [← hR]
  have HR : Hid (R = encFlds (enc false t n) t fs 123 j ByteArray.empty) := hR
  clear hR
  go_enter Tryd.func72, Tryd.ntmps72
  go_wp2_with fail
  go_loopw [9, 10, 11, 20] (fun vd vb vm vi wr => ∃ (i b : Nat) (mk : Int) (d : ByteArray), i ≤ fs.length ∧ j ≤ b ∧ b ≤ t.size ∧ vi = .int .i64 i ∧ vb = .int .i64 b ∧ vm = .int .i64 mk ∧ vd = .string d ∧ Hid (0 ≤ mk) ∧ Hid (R = encFlds (enc false t n) t (fs.drop i) mk b d) ∧ Hid (d.size ≤ (9 * n + 9) * (b - j)) ∧ Below w.heap.size w wr) (fun _ _ _ i _ => fs.length - (intOf i).toNat)
  case atStart => exact ⟨0, j, 123, ByteArray.empty, Nat.zero_le _, Nat.le_refl _, hj, rfl, rfl, rfl, rfl, (by show (0 : Int) ≤ 123; omega), HR, Nat.zero_le _, Below.refl _ _⟩
  case round =>
    obtain ⟨i, b, mk, d, hi, hjb, hbt, rfl, rfl, rfl, rfl, hmk, hR, hd, hb⟩ := hrel
    by_cases hlt : i < fs.length
    · obtain ⟨f, hf⟩ : ∃ f, fs[i]? = some f := ⟨fs[i], List.getElem?_eq_getElem hlt⟩
      have hdrop : fs.drop i = f :: fs.drop (i + 1) := by
        rw [List.drop_eq_getElem_cons hlt]; rw [List.getElem?_eq_getElem hlt] at hf; simp at hf; rw [hf]
      have hr0 := hr
      rcases hr with ⟨hr, _⟩ | ⟨g, rfl, hcells⟩
      · rw [hr] at hf; simp at hf
      · obtain ⟨p1, p2, p3, q1, q2, q3, hrep, k0, k1, k2, k3, k4, k5, k6⟩ := hcells i f hf
        have hg := lt_of_cell k0
        have k0 := cell_keep hb k0
        have k1 := cell_keep hb k1
        have k2 := cell_keep hb k2
        have k3 := cell_keep hb k3
        have k4 := cell_keep hb k4
        have k5 := cell_keep hb k5
        have k6 := cell_keep hb k6
        have hg' : g < wr.heap.size := lt_of_cell k0
        have hrepw := hrep.keep hb
        have hBa : ∀ o m, Below wr.heap.size wr ((wr.alloc o).drewN m) := fun o m => below_drewN ((Below.refl _ _).alloc (Nat.le_refl _) _) m
        by_cases h1 : bAt t b = mk
        · have h1' : (bAt t b != mk) = false := by simp [h1]
          by_cases h2 : bAt t (b + 1) = f.1
          · have h2' : (bAt t (b + 1) != (f.1 : Int)) = false := by simp [h2]
            by_cases h3 : bAt t (b + 2) = 58
            · have h3' : (bAt t (b + 2) != 58) = false := by simp [h3]
              have hb3 : b + 2 < t.size := bAt_lt (by omega)
              cases hx : enc false t n f.2.1 (b + 3) with
              | none =>
                have hr' : Hid (R = none) := by show _ = _; rw [hR.out, hdrop, encFlds, if_pos ⟨h1, h2, h3⟩, hx]
                have hcall := fun o m => IH.no (show b + 3 ≤ t.size by omega) (hrepw.keep (hBa o m)) hx
                clear h1 h2 h3 hx
                go_wp2_with fail
                go_quiet ((go_at_call 73; exact Calls.quiet_of_same (byteAt_int _ _ _ (by omega) _hs)))
                go_wp2_with (go_at_call 39; refine (hcall _ _).mono ?_; rintro e w' ⟨rfl, hbw⟩)
                go_ret3
                rw [hr'.out]
                exact ⟨rfl, hb.trans (((hBa _ _).mono hb.size).trans (hbw.mono (by have := hb.size; simp; omega)))⟩
              | some p =>
                obtain ⟨x, k⟩ := p
                obtain ⟨hb1, hb2, hbs⟩ := enc_bd hx
                have hsum : (d ++ x).size ≤ (9 * n + 9) * (k - j) := by
                  rw [ByteArray.size_append]
                  have e1 := mul_sub_add (C := 9 * n + 9) (show j ≤ b + 3 by omega) (show b + 3 ≤ k by omega)
                  have e2 := mul_mono (C := 9 * n + 9) (show b - j ≤ b + 3 - j by omega)
                  have := hd.out
                  omega
                have hs1 := data_small hbs hn (by omega)
                have hs2 := data_small hd.out hn (by omega)
                have HS : Hid ((d ++ x).size ≤ (9 * n + 9) * (k - j)) := hsum
                have hr' : Hid (R = encFlds (enc false t n) t (fs.drop (i + 1)) 44 k (d ++ x)) := by show _ = _; rw [hR.out, hdrop, encFlds, if_pos ⟨h1, h2, h3⟩, hx]
                have hcall := fun o m => IH.yes (show b + 3 ≤ t.size by omega) (hrepw.keep (hBa o m)) hx
                clear h1 h2 h3 hx hbs hsum
                go_wp2_with fail
                go_quiet ((go_at_call 73; exact Calls.quiet_of_same (byteAt_int _ _ _ (by omega) _hs)))
                go_wp2_with (go_at_call 39; refine (hcall _ _).mono ?_; rintro e w' ⟨rfl, hbw⟩)
                go_roundw
                case rel => exact ⟨i + 1, k, 44, d ++ x, by omega, by omega, by omega, by go_num, rfl, rfl, rfl, (by show (0 : Int) ≤ 44; omega), hr', HS, hb.trans (((hBa _ _).mono hb.size).trans (hbw.mono (by have := hb.size; simp; omega)))⟩
                case measure => simp [intOf]; omega
            · have h3' : (bAt t (b + 2) != 58) = true := by simpa using h3
              have hr' : Hid (R = none) := by show _ = _; rw [hR.out, hdrop, encFlds, if_neg (fun h => h3 h.2.2)]
              clear h1 h2 h3
              go_wp2_with fail
              go_quiet ((go_at_call 73; exact Calls.quiet_of_same (byteAt_int _ _ _ (by omega) _hs)))
              go_wp2_with fail
              go_ret3
              rw [hr'.out]
              exact ⟨rfl, hb.trans ((hBa _ _).mono hb.size)⟩
          · have h2' : (bAt t (b + 1) != (f.1 : Int)) = true := by simpa using h2
            have hr' : Hid (R = none) := by show _ = _; rw [hR.out, hdrop, encFlds, if_neg (fun h => h2 h.2.1)]
            clear h1 h2
            go_wp2_with fail
            go_quiet ((go_at_call 73; exact Calls.quiet_of_same (byteAt_int _ _ _ (by omega) _hs)))
            go_wp2_with fail
            go_ret3
            rw [hr'.out]
            exact ⟨rfl, hb.trans ((hBa _ _).mono hb.size)⟩
        · have h1' : (bAt t b != mk) = true := by simpa using h1
          have hr' : Hid (R = none) := by show _ = _; rw [hR.out, hdrop, encFlds, if_neg (fun h => h1 h.1)]
          clear h1
          go_wp2_with fail
          go_quiet ((go_at_call 73; exact Calls.quiet_of_same (byteAt_int _ _ _ (by omega) _hs)))
          go_wp2_with fail
          go_ret3
          rw [hr'.out]
          exact ⟨rfl, hb.trans ((hBa _ _).mono hb.size)⟩
    · have hnil : fs.drop i = [] := List.drop_of_length_le (by omega)
      by_cases h5 : bAt t b = 125
      · have h5' : (bAt t b != 125) = false := by simp [h5]
        have hr' : Hid (R = some (d, b + 1)) := by show _ = _; rw [hR.out, hnil, encFlds, if_pos h5]
        clear h5
        go_wp2_with (go_at_call 73; refine (byteAt_int _ _ _ (by omega) _hs).mono ?_; rintro e w' ⟨rfl, rfl⟩)
        go_ret3
        rw [hr'.out]
        exact ⟨rfl, hb⟩
      · have h5' : (bAt t b != 125) = true := by simpa using h5
        have hr' : Hid (R = none) := by show _ = _; rw [hR.out, hnil, encFlds, if_neg h5]
        clear h5
        go_wp2_with (go_at_call 73; refine (byteAt_int _ _ _ (by omega) _hs).mono ?_; rintro e w' ⟨rfl, rfl⟩)
        go_ret3
        rw [hr'.out]
        exact ⟨rfl, hb⟩
end Go.Proofs.YtkkekopomiehlaaDoor
