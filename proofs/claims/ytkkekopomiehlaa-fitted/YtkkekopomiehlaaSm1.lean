import Derived.Test.YtkkekopomiehlaaFt1
import Derived.Test.YtkkekopomiehlaaRef8
import Derived.Test.YtkkekopomiehlaaV2
set_option linter.unusedVariables false
set_option linter.unusedSimpArgs false
set_option maxRecDepth 4000
namespace Go.Proofs.Ytkkekopomiehlaa
open Go.RowKit

/-- A type as a schema tells it at a place: what the reference's 'some' and 'samples' go by. -/
def SomeOK (n : Nat) (s : ByteArray) : Prop := ∀ (i : Nat) (w : World) (ty : Ty) (k : Nat), pType true s n i = some (ty, k) → s.size ≤ i + n → wt n ty ≤ 20000 →
  Calls Try.prog 100 #[.string s, .int .i64 i] w fun e w' => e = .returned (.string (datV n (lv n ty))) ∧ Below w.heap.size w w'
theorem lv_dsz : ∀ (n : Nat) (ty : Ty), (datV n (lv n ty)).size ≤ wt n ty
  | 0, ty => Nat.zero_le _
  | n + 1, ty => by
    have h70 := wt_pos n ty
    rw [lv]
    split
    · rw [datV_num]; have : (numData 0).size = 1 := (by decide); omega
    · split
      · rw [datV_str]; have : (oneB ByteArray.empty.size ++ ByteArray.empty : ByteArray).size = 1 := (by decide); omega
      · split
        · rw [datV_cho, oneB_size]; omega
        · split
          · rw [datV_lst]; have : (oneB ([] : List Val).length ++ catB (([] : List Val).map (datV n))).size = 1 := (by simp [catB, oneB_size]); omega
          · split
            · rw [datV_non, oneB_size]; omega
            · rw [datV_rcd, List.map_map]
              have : ∀ l : List (Nat × Ty × ByteArray), (catB (l.map (datV n ∘ fun f => lv n f.2.1))).size ≤ (l.map fun f => wt n f.2.1 + f.2.2.size + 4).sum := fun l => by
                induction l with
                | nil => simp [catB]
                | cons a l ih =>
                  have := lv_dsz n a.2.1
                  simp only [List.map_cons, catB, ByteArray.size_append, List.sum_cons, Function.comp]
                  omega
              have := this ty.fields
              rw [wt]; omega
theorem lv_plain {n : Nat} {ty : Ty} (h : ty.kind ≠ 123) (hk : ty.kind = 105 ∨ ty.kind = 108 ∨ ty.kind = 115 ∨ ty.kind = 60 ∨ ty.kind = 91 ∨ ty.kind = 63 ∨ ty.kind = 123) : datV (n + 1) (lv (n + 1) ty) = oneB 0 := by
  rw [lv]
  split
  · rw [datV_num]; decide
  · split
    · rw [datV_str]; decide
    · split
      · rw [datV_cho]
      · split
        · rw [datV_lst]; simp [catB]
        · split
          · rw [datV_non]
          · omega
set_option maxHeartbeats 1000000 in
theorem some_plain (s : ByteArray) (i : Nat) (w : World) (hs : s.size ≤ 9000000) (h : bAt s i ≠ 123) :
    Calls Try.prog 100 #[.string s, .int .i64 i] w fun e w' => e = .returned (.string (oneB 0)) ∧ Below w.heap.size w w' := by
  have hat : ∀ w, Calls Try.prog 36 #[.string s, .int .i64 i, .int .u8 123] w fun e w' => e = .returned (.bool false) ∧ w = w' := fun w => by
    have := flipW (at_any s i 123 w (by omega) hs)
    rw [atB_no (i := i) rfl h] at this; exact this
  have hone := fun w => one_any 0 w (by omega)
  clear h
  go_enter Try.func100, Try.ntmps100
  go_wp2_with (first | (go_at_call 36; refine (hat _).mono ?_; rintro e _ ⟨rfl, rfl⟩) | (go_at_call 41; refine (hone _).mono ?_; rintro e w1 ⟨rfl, hb1⟩))
  go_ret
  exact ⟨rfl, hb1⟩
set_option maxHeartbeats 1000000 in
theorem some_rcd {n : Nat} {s : ByteArray} (IH : SomeOK n s) (hs : s.size ≤ 4096) (i : Nat) {fs : List (Nat × Ty × ByteArray)} {k0 : Nat} (hfl : fs.length ≤ 4096) (h : bAt s i = 123)
    (hF0 : ∀ w, Calls Try.prog 37 #[.string s, .int .i64 i] w fun e w' => GRet w.heap.size n s (some (fs, k0)) e w' ∧ Below w.heap.size w w') (hwt : (fs.map fun f => wt n f.2.1 + f.2.2.size + 4).sum ≤ 20000) (w : World) :
    Calls Try.prog 100 #[.string s, .int .i64 i] w fun e w' => e = .returned (.string (catB (fs.map fun f => datV n (lv n f.2.1)))) ∧ Below w.heap.size w w' := by
  have _hs : s.size ≤ 9000000 := by omega
  have hat : ∀ w, Calls Try.prog 36 #[.string s, .int .i64 i, .int .u8 123] w fun e w' => e = .returned (.bool true) ∧ w = w' := fun w => by
    have := flipW (at_any s i 123 w (by omega) _hs)
    rw [atB_yes (i := i) rfl h] at this; exact this
  have hF : ∀ w, Calls Try.prog 37 #[.string s, .int .i64 i] w fun e w' => ∃ g cap xs, e = .returned (.tuple #[.slice (some ⟨g, 0, none⟩) fs.length cap, .int .i64 k0]) ∧ w'.ownsRow w.heap.size 97 4 (.slice (some ⟨g, 0, none⟩) fs.length cap) fs.length xs ∧ RowR n s xs fs ∧ Below w.heap.size w w' := fun w => by
    refine (hF0 w).mono ?_
    rintro e w' ⟨⟨g, cap, xs, h1, h2, h3⟩, h4⟩
    exact ⟨g, cap, xs, h1, h2, h3, h4⟩
  obtain ⟨R, hR⟩ : ∃ R, R = catB (fs.map fun f => datV n (lv n f.2.1)) := ⟨_, rfl⟩
  rw [← hR]
  have HR : Hid (R = ByteArray.empty ++ catB ((fs.drop 0).map fun f => datV n (lv n f.2.1))) := by show _ = _; rw [ByteArray.empty_append]; exact hR
  clear hF0 hR h
  go_enter Try.func100, Try.ntmps100
  go_wp2_with (first | (go_at_call 36; refine (hat _).mono ?_; rintro e _ ⟨rfl, rfl⟩) | (go_at_call 37; refine (hF _).mono ?_; rintro e wf ⟨g, cap, xs, rfl, hown, hrow, hbf0⟩))
  go_loopw [7, 8] (fun vd vi wr => ∃ (x : Nat) (d : ByteArray), x ≤ fs.length ∧ vi = .int .i64 x ∧ vd = .string d ∧ Hid (R = d ++ catB ((fs.drop x).map fun f => datV n (lv n f.2.1))) ∧ Hid (d.size + ((fs.drop x).map fun f => wt n f.2.1 + f.2.2.size + 4).sum ≤ 20000) ∧ Below wf.heap.size wf wr) (fun _ x _ => fs.length - (intOf x).toNat)
  case atStart => exact ⟨0, ByteArray.empty, Nat.zero_le _, rfl, rfl, HR, (by show _ ≤ _; rw [List.drop_zero, show ByteArray.empty.size = 0 from rfl]; omega), Below.refl _ _⟩
  case round =>
    obtain ⟨x, d, hx0, rfl, rfl, hR, hsz, hb⟩ := hrel
    have hds : d.size ≤ 20000 := by have := hsz.out; omega
    by_cases hlt : x < fs.length
    · obtain ⟨f, hf⟩ : ∃ f, fs[x]? = some f := ⟨fs[x], List.getElem?_eq_getElem hlt⟩
      have hdrop : fs.drop x = f :: fs.drop (x + 1) := by
        rw [List.drop_eq_getElem_cons hlt]; rw [List.getElem?_eq_getElem hlt] at hf; simp at hf; rw [hf]
      obtain ⟨p, kp, hp, hpn, h256, c0, c1, c2, c3⟩ := hrow.2 x f hf
      have k0 := cell_keep hb (own_cell hown c0)
      have k1 := cell_keep hb (own_cell hown c1)
      have hg' : g < wr.heap.size := lt_of_cell k0
      have hsz2 : d.size + (wt n f.2.1 + f.2.2.size + 4) + ((fs.drop (x + 1)).map fun f => wt n f.2.1 + f.2.2.size + 4).sum ≤ 20000 := by
        have := hsz.out; rw [hdrop, List.map_cons, List.sum_cons] at this; omega
      have hcall := fun w => IH p w f.2.1 kp hp hpn (by omega)
      have hls := lv_dsz n f.2.1
      obtain ⟨Y, hY⟩ : ∃ Y, Y = datV n (lv n f.2.1) := ⟨_, rfl⟩
      rw [← hY] at hcall hls
      have hr' : Hid (R = (d ++ Y) ++ catB ((fs.drop (x + 1)).map fun f => datV n (lv n f.2.1))) := by show _ = _; rw [hR.out, hdrop, List.map_cons, catB, ByteArray.append_assoc, hY]
      have HS : Hid ((d ++ Y).size + ((fs.drop (x + 1)).map fun f => wt n f.2.1 + f.2.2.size + 4).sum ≤ 20000) := by show _ ≤ _; rw [ByteArray.size_append]; omega
      have hYs : Y.size ≤ 20000 := by omega
      clear hf c0 c1 c2 c3 hdrop hR hsz hsz2 hls hY hp
      go_wp2_with (first | (go_at_call 100; refine (hcall _).mono ?_; rintro e w1 ⟨rfl, hb1⟩))
      go_roundw
      case rel => exact ⟨x + 1, d ++ Y, by omega, by go_num, rfl, hr', HS, hb.trans (hb1.mono hb.size)⟩
      case measure => simp [intOf]; omega
    · have hnil : fs.drop x = [] := List.drop_of_length_le (by omega)
      have hr' : Hid (R = d) := by show _ = _; rw [hR.out, hnil]; simp [catB]
      clear hR hnil hsz
      go_wp2_with fail
      go_ret
      exact ⟨ret_str hr'.out.symm, hbf0.trans (hb.mono hbf0.size)⟩
end Go.Proofs.Ytkkekopomiehlaa
