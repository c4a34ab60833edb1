import Derived.Test.YtkkekopomiehlaaDoorDec2
set_option linter.unusedVariables false
set_option linter.unusedSimpArgs false
set_option maxRecDepth 4000
namespace Go.Proofs.YtkkekopomiehlaaDoor
open Go.RowKit

/-- The letters of the fields of a type, and of the types in it, are bytes. -/
def okT : Nat → Ty → Prop
  | 0, _ => True
  | n + 1, ty => (∀ t ∈ ty.inner, okT n t) ∧ ∀ f ∈ ty.fields, f.1 < 256 ∧ okT n f.2.1

def DecAtOK (Tab : World → Prop) (n : Nat) (s : ByteArray) : Prop := ∀ (ty : Ty) (a : Nat) (w : World) (ai af : Option Addr) (li ci lf cf : Nat), a ≤ s.size → Tab w → okT n ty → Rep n w ai li ci af lf cf ty →
  Calls Tryd.prog 32 #[.agg #[.int .i64 ty.kind, .string ty.letters, .bool ty.op, .slice ai li ci, .slice af lf cf], .string s, .int .i64 a] w fun e w' => e = .returned (encRet a (dec s n ty a)) ∧ Below w.heap.size w w'
theorem DecAtOK.no {Tab : World → Prop} {n : Nat} {s : ByteArray} (IH : DecAtOK Tab n s) {ty : Ty} {a : Nat} {w : World} {ai af : Option Addr} {li ci lf cf : Nat} (hj : a ≤ s.size) (hT : Tab w) (hok : okT n ty) (hr : Rep n w ai li ci af lf cf ty) (hx : dec s n ty a = none) :
  Calls Tryd.prog 32 #[.agg #[.int .i64 ty.kind, .string ty.letters, .bool ty.op, .slice ai li ci, .slice af lf cf], .string s, .int .i64 a] w fun e w' => e = .returned (.tuple #[.string ByteArray.empty, .int .i64 a, .bool false]) ∧ Below w.heap.size w w' := by
  have := IH ty a w ai af li ci lf cf hj hT hok hr; rw [hx] at this; exact this
theorem DecAtOK.yes {Tab : World → Prop} {n : Nat} {s : ByteArray} (IH : DecAtOK Tab n s) {ty : Ty} {a : Nat} {w : World} {ai af : Option Addr} {li ci lf cf : Nat} (hj : a ≤ s.size) (hT : Tab w) (hok : okT n ty) (hr : Rep n w ai li ci af lf cf ty) {d : ByteArray} {k : Nat} (hx : dec s n ty a = some (d, k)) :
  Calls Tryd.prog 32 #[.agg #[.int .i64 ty.kind, .string ty.letters, .bool ty.op, .slice ai li ci, .slice af lf cf], .string s, .int .i64 a] w fun e w' => e = .returned (.tuple #[.string d, .int .i64 k, .bool true]) ∧ Below w.heap.size w w' := by
  have := IH ty a w ai af li ci lf cf hj hT hok hr; rw [hx] at this; exact this
/-- How long a text is, of at most 4096 bytes of data. -/
theorem text_small {n a b c : Nat} {d : ByteArray} (h : d.size ≤ (4 * n + c) * (b - a)) (hc : c ≤ 30) (hn : n ≤ 100) (hb : b ≤ 4096) : d.size ≤ 4000000 := by
  have h1 : (4 * n + c) * (b - a) ≤ 430 * (b - a) := Nat.mul_le_mul_right _ (by omega)
  omega

set_option maxHeartbeats 1000000 in
theorem decodeMaybe_any {Tab : World → Prop} (F : FmtOK Tab) {n : Nat} {s : ByteArray} (IH : DecAtOK Tab n s) (hs : s.size ≤ 4096) (hn : n ≤ 100) (ty : Ty) (a : Nat) (w : World) (ai af : Option Addr) (li ci lf cf : Nat) (ha : a ≤ s.size) (hT : Tab w) (hok : okT n ty) (hr : Rep n w ai li ci af lf cf ty) :
    Calls Tryd.prog 58 #[.agg #[.int .i64 ty.kind, .string ty.letters, .bool ty.op, .slice ai li ci, .slice af lf cf], .string s, .int .i64 a] w fun e w' => e = .returned (encRet a (decMaybe (dec s n ty) s a)) ∧ Below w.heap.size w w' := by
  have _hs : s.size ≤ 9000000 := by omega
  have hB : ∀ o, Below w.heap.size w (w.alloc o) := fun o => (Below.refl _ _).alloc (Nat.le_refl _) _
  by_cases hm : bAt s a = 0
  · have hm' : (bAt s a == 0) = true := by simp [hm]
    have hr' : Hid (decMaybe (dec s n ty) s a = some (⟨#[95]⟩, a + 1)) := by show _ = _; unfold decMaybe; rw [if_pos hm]
    clear hm
    go_enter Tryd.func58, Tryd.ntmps58
    go_wp2_with (go_at_call 73; refine (byteAt_int _ _ _ (by omega) _hs).mono ?_; rintro e w' ⟨rfl, rfl⟩)
    go_ret3
    rw [hr'.out]
    exact ⟨rfl, hB _⟩
  · have hm' : (bAt s a == 0) = false := by simpa using hm
    by_cases h1 : bAt s a = 1
    · have h1' : (bAt s a != 1) = false := by simp [h1]
      have hal : a < s.size := bAt_lt (by omega)
      cases hx : dec s n ty (a + 1) with
      | none =>
        have hr' : Hid (decMaybe (dec s n ty) s a = none) := by show _ = _; unfold decMaybe; rw [if_neg hm, if_pos h1, hx]
        have hd := fun o => IH.no (show a + 1 ≤ s.size by omega) (F.1 _ _ (hB o) hT) hok (hr.keep (hB o)) hx
        clear hm hx h1
        go_enter Tryd.func58, Tryd.ntmps58
        go_wp2_with (first | (go_at_call 73; refine (byteAt_int _ _ _ (by omega) _hs).mono ?_; rintro e w' ⟨rfl, rfl⟩) | (go_at_call 32; refine (hd _).mono ?_; rintro e w' ⟨rfl, hbw⟩))
        go_ret3
        rw [hr'.out]
        exact ⟨rfl, (hB _).trans (hbw.mono (by simp))⟩
      | some p =>
        obtain ⟨d, k⟩ := p
        have hr' : Hid (decMaybe (dec s n ty) s a = some (d, k)) := by show _ = _; unfold decMaybe; rw [if_neg hm, if_pos h1, hx]
        have hd := fun o => IH.yes (show a + 1 ≤ s.size by omega) (F.1 _ _ (hB o) hT) hok (hr.keep (hB o)) hx
        clear hm hx h1
        go_enter Tryd.func58, Tryd.ntmps58
        go_wp2_with (first | (go_at_call 73; refine (byteAt_int _ _ _ (by omega) _hs).mono ?_; rintro e w' ⟨rfl, rfl⟩) | (go_at_call 32; refine (hd _).mono ?_; rintro e w' ⟨rfl, hbw⟩))
        go_ret3
        rw [hr'.out]
        exact ⟨rfl, (hB _).trans (hbw.mono (by simp))⟩
    · have h1' : (bAt s a != 1) = true := by simpa using h1
      have hr' : Hid (decMaybe (dec s n ty) s a = none) := by show _ = _; unfold decMaybe; rw [if_neg hm, if_neg h1]
      clear hm h1
      go_enter Tryd.func58, Tryd.ntmps58
      go_wp2_with (go_at_call 73; refine (byteAt_int _ _ _ (by omega) _hs).mono ?_; rintro e w' ⟨rfl, rfl⟩)
      go_ret3
      rw [hr'.out]
      exact ⟨rfl, hB _⟩

set_option maxHeartbeats 1000000 in
theorem decodeList_any {Tab : World → Prop} (F : FmtOK Tab) {n : Nat} {s : ByteArray} (IH : DecAtOK Tab n s) (hs : s.size ≤ 4096) (hn : n ≤ 100) (ty : Ty) (a : Nat) (w : World) (ai af : Option Addr) (li ci lf cf : Nat) (ha : a ≤ s.size) (hT : Tab w) (hok : okT n ty) (hr : Rep n w ai li ci af lf cf ty) :
    Calls Tryd.prog 57 #[.agg #[.int .i64 ty.kind, .string ty.letters, .bool ty.op, .slice ai li ci, .slice af lf cf], .string s, .int .i64 a] w fun e w' => e = .returned (encRet a (decList (dec s n ty) s a)) ∧ Below w.heap.size w w' := by
  have _hs : s.size ≤ 9000000 := by omega
  have hB : ∀ o, Below w.heap.size w (w.alloc o) := fun o => (Below.refl _ _).alloc (Nat.le_refl _) _
  have hlo := bAt_lo s a
  obtain ⟨b, hb⟩ : ∃ b, b = bAt s a := ⟨_, rfl⟩
  have hby : ∀ w, Calls Tryd.prog 73 #[.string s, .int .i64 a] w fun e w' => e = .returned (.int .i64 b) ∧ w = w' := fun w => by
    rw [hb]; exact (byteAt_any s a w _hs).mono (fun _ _ ⟨h1, h2⟩ => ⟨h1, h2.symm⟩)
  have hP : decList (dec s n ty) s a = if b < 0 ∨ 16 < b then none else decItems (dec s n ty) b.toNat 0 (a + 1) ⟨#[91]⟩ := by rw [hb]; rfl
  rw [← hb] at hlo
  by_cases h0 : b < 0
  · have hr' : Hid (decList (dec s n ty) s a = none) := by show _ = _; rw [hP, if_pos (.inl h0)]
    clear hP hb
    go_enter Tryd.func57, Tryd.ntmps57
    go_wp2_with (go_at_call 73; refine (hby _).mono ?_; rintro e _ ⟨rfl, rfl⟩)
    go_ret3
    rw [hr'.out]
    exact ⟨rfl, hB _⟩
  · by_cases h16 : 16 < b
    · have hr' : Hid (decList (dec s n ty) s a = none) := by show _ = _; rw [hP, if_pos (.inr h16)]
      clear hP hb
      go_enter Tryd.func57, Tryd.ntmps57
      go_wp2_with (go_at_call 73; refine (hby _).mono ?_; rintro e _ ⟨rfl, rfl⟩)
      go_ret3
      rw [hr'.out]
      exact ⟨rfl, hB _⟩
    · obtain ⟨L, rfl⟩ : ∃ L : Nat, b = L := ⟨b.toNat, by omega⟩
      rw [if_neg (by omega)] at hP
      simp only [Int.toNat_natCast] at hP
      have hal : a < s.size := bAt_lt (by omega)
      obtain ⟨R, hR⟩ : ∃ R, R = decItems (dec s n ty) L 0 (a + 1) ⟨#[91]⟩ := ⟨_, rfl⟩
      rw [← hR] at hP
      rw [hP]
      have HR : Hid (R = decItems (dec s n ty) L 0 (a + 1) ⟨#[91]⟩) := hR
      have hL16 : (L : Int) ≤ 16 := by omega
      clear hP hR hb h16
      go_enter Tryd.func57, Tryd.ntmps57
      go_wp2_with (go_at_call 73; refine (hby _).mono ?_; rintro e _ ⟨rfl, rfl⟩)
      clear hby
      go_loopw [10, 11, 12] (fun vd vb vc wr => ∃ (m c b : Nat) (d : ByteArray), c + m = L ∧ a + 1 ≤ b ∧ b ≤ s.size ∧ vc = .int .i64 c ∧ vb = .int .i64 b ∧ vd = .string d ∧ Hid (R = decItems (dec s n ty) m c b d) ∧ Hid (d.size ≤ (4 * n + 21) * (b - a)) ∧ Below (w.heap.size + 1) (w.alloc (.cells #[.int .i64 ty.kind, .string ty.letters, .bool ty.op, .slice ai li ci, .slice af lf cf] 38)) wr) (fun _ _ c _ => 17 - (intOf c).toNat)
      case atStart => exact ⟨L, 0, a + 1, ⟨#[91]⟩, by omega, Nat.le_refl _, hal, rfl, by go_num, rfl, HR, (by show (1 : Nat) ≤ _; rw [show a + 1 - a = 1 by omega]; omega), Below.refl _ _⟩
      case round =>
        obtain ⟨m, c, b, d, hcm, hjb, hbt, rfl, rfl, rfl, hR, hd, hb⟩ := hrel
        obtain ⟨hc, hf⟩ := bcell hb
        have hrw : Rep n wr ai li ci af lf cf ty := (hr.keep (hB _)).keep (hb.mono (by simp))
        have hsw : w.heap.size + 1 ≤ wr.heap.size := by have := hb.size; simpa using this
        have hbw0 : Below w.heap.size w wr := (hB _).trans (hb.mono (by omega))
        have hTw : Tab wr := F.1 _ _ hbw0 hT
        have hs2 := text_small hd.out (by omega) hn (by omega)
        have one1 : (⟨#[93]⟩ : ByteArray).size = 1 := rfl
        have one2 : (⟨#[44]⟩ : ByteArray).size = 1 := rfl
        cases m with
        | zero =>
          have hcL : ¬ (c : Int) < (L : Int) := by omega
          have hr' : Hid (R = some (d ++ ⟨#[93]⟩, b)) := hR
          go_wp2_with fail
          go_ret3
          rw [hr'.out]
          exact ⟨rfl, hbw0⟩
        | succ m =>
          have hcL : (c : Int) < (L : Int) := by omega
          cases hx : dec s n ty b with
          | none =>
            have hr' : Hid (R = none) := by show _ = _; rw [hR.out, decItems, hx]
            have hd := IH.no hbt hTw hok hrw hx
            clear hx
            go_wp2_with (go_at_call 32; refine hd.mono ?_; rintro e w' ⟨rfl, hbw⟩)
            go_ret3
            rw [hr'.out]
            exact ⟨rfl, hbw0.trans (hbw.mono (by omega))⟩
          | some p =>
            obtain ⟨x, k⟩ := p
            obtain ⟨hb1, hb2, hb3⟩ := dec_bd hx
            have hsum : d.size + 1 + x.size ≤ (4 * n + 21) * (k - a) := by
              have h1 := mul_sub_add (C := 4 * n + 21) (show a ≤ b by omega) (show b ≤ k by omega)
              have h2 : (4 * n + 21) * (k - b) = (4 * n + 20) * (k - b) + (k - b) := by rw [show 4 * n + 21 = (4 * n + 20) + 1 by omega, Nat.add_mul, Nat.one_mul]
              have := hd.out
              omega
            have hs1 := text_small hb3 (by omega) hn (by omega)
            have hcall := IH.yes hbt hTw hok hrw hx
            by_cases hc0 : c = 0
            · subst hc0
              have hr' : Hid (R = decItems (dec s n ty) m (0 + 1) k (d ++ x)) := by show _ = _; rw [hR.out, decItems, hx]; rfl
              have HS : Hid ((d ++ x).size ≤ (4 * n + 21) * (k - a)) := by show _ ≤ _; rw [ByteArray.size_append]; omega
              clear hb3 hsum hx
              go_wp2_with (go_at_call 32; refine hcall.mono ?_; rintro e w' ⟨rfl, hbw⟩)
              go_roundw
              case rel => exact ⟨m, 0 + 1, k, d ++ x, by omega, by omega, by omega, by go_num, rfl, rfl, hr', HS, hb.trans (hbw.mono (by omega))⟩
              case measure => simp [intOf]
            · have hc0' : (0 : Int) < (c : Int) := by omega
              have hr' : Hid (R = decItems (dec s n ty) m (c + 1) k (d ++ ⟨#[44]⟩ ++ x)) := by show _ = _; rw [hR.out, decItems, hx]; simp only [if_pos (show 0 < c by omega)]
              have hsz : (d ++ ⟨#[44]⟩).size = d.size + 1 := by rw [ByteArray.size_append, one2]
              have HS : Hid ((d ++ ⟨#[44]⟩ ++ x).size ≤ (4 * n + 21) * (k - a)) := by show _ ≤ _; rw [ByteArray.size_append, hsz]; omega
              clear hb3 hsum hx
              go_wp2_with (go_at_call 32; refine hcall.mono ?_; rintro e w' ⟨rfl, hbw⟩)
              go_roundw
              case rel => exact ⟨m, c + 1, k, d ++ ⟨#[44]⟩ ++ x, by omega, by omega, by omega, by go_num, rfl, rfl, hr', HS, hb.trans (hbw.mono (by omega))⟩
              case measure => simp [intOf]; omega
end Go.Proofs.YtkkekopomiehlaaDoor
