import Derived.Test.YtkkekopomiehlaaDoorDec4
set_option linter.unusedVariables false
set_option linter.unusedSimpArgs false
set_option maxRecDepth 4000
namespace Go.Proofs.YtkkekopomiehlaaDoor
open Go.RowKit

set_option maxHeartbeats 1000000 in
theorem decodeRecord_any {Tab : World → Prop} (F : FmtOK Tab) {n : Nat} {s : ByteArray} (IH : DecAtOK Tab n s) (hs : s.size ≤ 4096) (hn : n ≤ 100) (fs : List (Nat × Ty × ByteArray)) (a : Nat) (w : World) (af : Option Addr) (lf cf : Nat) (ha : a ≤ s.size) (hlf : lf = fs.length) (hfl : fs.length ≤ 9000000) (hT : Tab w) (hok : ∀ f ∈ fs, f.1 < 256 ∧ okT n f.2.1) (hr : RepF n w af fs) :
    Calls Tryd.prog 59 #[.slice af lf cf, .string s, .int .i64 a] w fun e w' => e = .returned (encRet a (decFlds (dec s n) fs ⟨#[123]⟩ a ByteArray.empty)) ∧ Below w.heap.size w w' := by
  have _hs : s.size ≤ 9000000 := by omega
  subst hlf
  obtain ⟨R, hR⟩ : ∃ R, R = decFlds (dec s n) fs ⟨#[123]⟩ a ByteArray.empty := ⟨_, rfl⟩
  rw [← hR]
  have HR : Hid (R = decFlds (dec s n) fs ⟨#[123]⟩ a ByteArray.empty) := hR
  clear hR
  go_enter Tryd.func59, Tryd.ntmps59
  go_wp2_with fail
  go_loopw [9, 10, 11, 20] (fun vd vb vm vi wr => ∃ (i b : Nat) (mk d : ByteArray), i ≤ fs.length ∧ a ≤ b ∧ b ≤ s.size ∧ vi = .int .i64 i ∧ vb = .int .i64 b ∧ vm = .string mk ∧ vd = .string d ∧ mk.size = 1 ∧ Hid (R = decFlds (dec s n) (fs.drop i) mk b d) ∧ Hid (d.size ≤ (4 * n + 23) * (b - a)) ∧ Below w.heap.size w wr) (fun _ _ _ i _ => fs.length - (intOf i).toNat)
  case atStart => exact ⟨0, a, ⟨#[123]⟩, ByteArray.empty, Nat.zero_le _, Nat.le_refl _, ha, rfl, rfl, rfl, rfl, rfl, HR, Nat.zero_le _, Below.refl _ _⟩
  case round =>
    obtain ⟨i, b, mk, d, hi, hjb, hbt, rfl, rfl, rfl, rfl, hmk, hR, hd, hb⟩ := hrel
    have hTw : Tab wr := F.1 _ _ hb hT
    have hs2 := text_small hd.out (by omega) hn (by omega)
    have one1 : (⟨#[125]⟩ : ByteArray).size = 1 := rfl
    have one2 : (⟨#[58]⟩ : ByteArray).size = 1 := rfl
    by_cases hlt : i < fs.length
    · obtain ⟨f, hf⟩ : ∃ f, fs[i]? = some f := ⟨fs[i], List.getElem?_eq_getElem hlt⟩
      have hdrop : fs.drop i = f :: fs.drop (i + 1) := by
        rw [List.drop_eq_getElem_cons hlt]; rw [List.getElem?_eq_getElem hlt] at hf; simp at hf; rw [hf]
      obtain ⟨hf256, hokf⟩ := hok f (List.mem_of_getElem? hf)
      have hr0 := hr
      rcases hr with ⟨hr, _⟩ | ⟨g, rfl, hcells⟩
      · rw [hr] at hf; simp at hf
      · obtain ⟨p1, p2, p3, q1, q2, q3, hrep, k0, k1, k2, k3, k4, k5, k6⟩ := hcells i f hf
        have hg := lt_of_cell k0
        have k0 := cell_keep hb k0
        have k1 := cell_keep hb k1
        have k2 := cell_keep hb k2
        have k3 := cell_keep hb k3
        have k4 := cell_keep hb k4
        have k5 := cell_keep hb k5
        have k6 := cell_keep hb k6
        have hg' : g < wr.heap.size := lt_of_cell k0
        have hrepw := hrep.keep hb
        have hBa : ∀ o, Below wr.heap.size wr (wr.alloc o) := fun o => (Below.refl _ _).alloc (Nat.le_refl _) _
        have hTa : ∀ o, Tab (wr.alloc o) := fun o => F.1 _ _ (hBa o) hTw
        cases hx : dec s n f.2.1 b with
        | none =>
          have hr' : Hid (R = none) := by show _ = _; rw [hR.out, hdrop, decFlds, hx]
          have hcall := fun o => IH.no hbt (hTa o) hokf (hrepw.keep (hBa o)) hx
          clear hx
          go_wp2_with (go_at_call 32; refine (hcall _).mono ?_; rintro e w' ⟨rfl, hbw⟩)
          go_ret3
          rw [hr'.out]
          exact ⟨rfl, hb.trans (((hBa _).mono hb.size).trans (hbw.mono (by have := hb.size; simp; omega)))⟩
        | some p =>
          obtain ⟨x, k⟩ := p
          obtain ⟨hb1, hb2, hbs⟩ := dec_bd hx
          have hso : (oneB f.1).size = 1 := rfl
          have hz1 : (mk ++ oneB f.1).size = 2 := by rw [ByteArray.size_append, hmk, hso]
          have hz2 : (mk ++ oneB f.1 ++ ⟨#[58]⟩).size = 3 := by rw [ByteArray.size_append, hz1, one2]
          have hs1 := text_small hbs (by omega) hn (by omega)
          have hz3 : (mk ++ oneB f.1 ++ ⟨#[58]⟩ ++ x).size = 3 + x.size := by rw [ByteArray.size_append, hz2]
          have HS : Hid ((d ++ (mk ++ oneB f.1 ++ ⟨#[58]⟩ ++ x)).size ≤ (4 * n + 23) * (k - a)) := by
            show _ ≤ _
            rw [ByteArray.size_append, hz3]
            have e1 := mul_sub_add (C := 4 * n + 23) (show a ≤ b by omega) (show b ≤ k by omega)
            have e2 : (4 * n + 23) * (k - b) = (4 * n + 20) * (k - b) + 3 * (k - b) := by rw [show 4 * n + 23 = (4 * n + 20) + 3 by omega, Nat.add_mul]
            have := hd.out
            omega
          have hr' : Hid (R = decFlds (dec s n) (fs.drop (i + 1)) ⟨#[44]⟩ k (d ++ (mk ++ oneB f.1 ++ ⟨#[58]⟩ ++ x))) := by show _ = _; rw [hR.out, hdrop, decFlds, hx]
          have hcall := fun o => IH.yes hbt (hTa o) hokf (hrepw.keep (hBa o)) hx
          clear hx hbs
          go_wp2_with (first | (go_at_call 32; refine (hcall _).mono ?_; rintro e w' ⟨rfl, hbw⟩; obtain ⟨hc1, hf1⟩ := bcell hbw) | (go_at_call 79; refine (oneByte_any f.1 _ (by omega)).mono ?_; rintro e w2 ⟨rfl, hbw2⟩))
          go_roundw
          case rel => exact ⟨i + 1, k, ⟨#[44]⟩, d ++ (mk ++ oneB f.1 ++ ⟨#[58]⟩ ++ x), by omega, by omega, by omega, by go_num, rfl, rfl, rfl, rfl, hr', HS, hb.trans (((hBa _).mono hb.size).trans ((hbw.mono (by have := hb.size; simp; omega)).trans (hbw2.mono (by have := hb.size; have := hbw.size; simp at this; omega))))⟩
          case measure => simp [intOf]; omega
    · have hnil : fs.drop i = [] := List.drop_of_length_le (by omega)
      have hr' : Hid (R = some (d ++ ⟨#[125]⟩, b)) := by show _ = _; rw [hR.out, hnil, decFlds]
      go_wp2_with fail
      go_ret3
      rw [hr'.out]
      exact ⟨rfl, hb⟩
end Go.Proofs.YtkkekopomiehlaaDoor
