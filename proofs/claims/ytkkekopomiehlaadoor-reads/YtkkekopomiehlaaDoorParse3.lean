import Derived.Test.YtkkekopomiehlaaDoorParse2
import Derived.Deep.RegionHeld3
set_option linter.unusedVariables false
set_option linter.unusedSimpArgs false
namespace Go.Proofs.YtkkekopomiehlaaDoor
open Go.RowKit

/-- What 'parseField' hands back. -/
def FRet (B n : Nat) (r : Option ((Nat × Ty × ByteArray) × Nat)) (e : Ending) (w' : World) : Prop :=
  match r with
  | some (f, k) => ∃ ai li ci af lf cf, e = .returned (.tuple #[.agg #[.int .i64 f.1, .int .i64 f.2.1.kind, .string f.2.1.letters, .bool f.2.1.op, .slice ai li ci, .slice af lf cf, .string f.2.2], .int .i64 k, .bool true]) ∧ RepB (fun b => B ≤ b) n w' ai li ci af lf cf f.2.1
  | none => ∃ k' : Nat, e = .returned (.tuple #[.agg #[.int .i64 0, .int .i64 0, .string ByteArray.empty, .bool false, .slice none 0 0, .slice none 0 0, .string ByteArray.empty], .int .i64 k', .bool false])
theorem Below.set7 {a w : World} (h : Below a.heap.size a w) {p : Nat} (hp : a.heap.size ≤ p) {v0 v1 v2 v3 v4 v5 v6 : Value} : Below a.heap.size a (((((((w.setCell ⟨p, 0, none⟩ v0).setCell ⟨p, 1, none⟩ v1).setCell ⟨p, 2, none⟩ v2).setCell ⟨p, 3, none⟩ v3).setCell ⟨p, 4, none⟩ v4).setCell ⟨p, 5, none⟩ v5).setCell ⟨p, 6, none⟩ v6) :=
  (((Below.set5 h hp).setCell hp v5).setCell hp v6)
theorem cell_set7 {w : World} {b o p : Nat} {v v0 v1 v2 v3 v4 v5 v6 : Value} (h : w.cell? ⟨b, o, none⟩ = some v) (hne : b ≠ p) : (((((((w.setCell ⟨p, 0, none⟩ v0).setCell ⟨p, 1, none⟩ v1).setCell ⟨p, 2, none⟩ v2).setCell ⟨p, 3, none⟩ v3).setCell ⟨p, 4, none⟩ v4).setCell ⟨p, 5, none⟩ v5).setCell ⟨p, 6, none⟩ v6).cell? ⟨b, o, none⟩ = some v :=
  cell_set (cell_set (cell_set5 h hne) hne) hne
theorem cell_drew {w : World} {b o : Nat} {v : Value} (h : w.cell? ⟨b, o, none⟩ = some v) : w.drew.cell? ⟨b, o, none⟩ = some v := h

set_option maxHeartbeats 2000000 in
theorem parseField_dflt {n : Nat} {s : ByteArray} (IH : ParseTypeOK n s) (IE : EncAtOK n s) (hs : s.size ≤ 4096) (i : Nat) (w : World) (hi : i ≤ s.size) (hn : s.size ≤ i + 2 + n) (hbd : ∀ a ty k, pType false s n a = some (ty, k) → k ≤ s.size)
    (h1a : isL (bAt s i) = true) (h1b : bAt s (i + 1) = 58) {ty : Ty} {k : Nat} (hx : pType false s n (i + 2) = some (ty, k)) (h2 : bAt s k = 61) {d : ByteArray} {m : Nat} (hy : enc false s n ty (k + 1) = some (d, m)) :
    Calls Tryd.prog 100 #[.string s, .int .i64 i] w fun e w' => FRet w.heap.size n (pField (pType false s n) (enc false s n) s i) e w' ∧ Below w.heap.size w w' := by
  have _hs : s.size ≤ 9000000 := by omega
  have hB : ∀ o, Below w.heap.size w (w.alloc o) := fun o => (Below.refl _ _).alloc (Nat.le_refl _) _
  have h1b' : (bAt s (i + 1) != 58) = false := by simp [h1b]
  have hi1 : i + 1 < s.size := bAt_lt (by omega)
  have hlet : 97 ≤ bAt s i := by simp [isL] at h1a; omega
  have hk := hbd _ ty k hx
  have hcall := fun w => IH.yes w (show i + 2 ≤ s.size by omega) (by omega) hx
  have h2' : (bAt s k != 61) = false := by simp [h2]
  have hk1 : k < s.size := bAt_lt (by omega)
  obtain ⟨hm1, hm2, hm3⟩ := enc_bd hy
  have hr' : Hid (pField (pType false s n) (enc false s n) s i = some (((bAt s i).toNat, ty, s.extract (k + 1) m), m)) := by show _ = _; unfold pField; rw [if_pos ⟨h1a, h1b⟩, hx]; simp only [if_pos h2]; rw [hy]
  have hecall : ∀ (B : Nat → Prop) (w1 : World) (o : Obj) ai li ci af lf cf, RepB B n w1 ai li ci af lf cf ty → Calls Tryd.prog 39 #[.agg #[.int .i64 ty.kind, .string ty.letters, .bool ty.op, .slice ai li ci, .slice af lf cf], .string s, .int .i64 (k + 1 : Nat)] (w1.alloc o) fun e w' => e = .returned (.tuple #[.string d, .int .i64 m, .bool true]) ∧ Below (w1.alloc o).heap.size (w1.alloc o) w' := fun B w1 o ai li ci af lf cf h => IE.yes (by omega) ((h.rep).keep ((Below.refl _ _).alloc (Nat.le_refl _) _)) hy
  clear hx hy hbd h1b h2 hm3
  go_enter Tryd.func100, Tryd.ntmps100
  go_wp2_with (first | (go_at_call 73; refine (byteAt_int _ _ _ (by omega) _hs).mono ?_; rintro e w' ⟨rfl, rfl⟩) | (go_at_call 107; refine (isLetter_any _ _).mono ?_; rintro e w' ⟨rfl, rfl⟩) | (go_at_call 53; refine (hcall _).mono ?_; rintro e w1 ⟨ai, li, ci, af, lf, cf, rfl, hr1, hb1⟩; obtain ⟨hc1, hf1⟩ := bcell hb1; have hz1 : w.heap.size < w1.heap.size := (by have := hb1.size; simp at this; omega)) | (go_at_call 39; refine (hecall _ _ _ _ _ _ _ _ _ hr1).mono ?_; rintro e w2 ⟨rfl, hb2⟩; obtain ⟨hc2, hf2⟩ := bcell hb2; have hz2 : w1.heap.size < w2.heap.size := (by have := hb2.size; simp at this; omega); have hz3 : w.heap.size < w1.heap.size + 1 := (by omega)))
  have e0 : w2.cell? ⟨w1.heap.size, 0, none⟩ = some (.int .i64 ty.kind) := cell_keep hb2 (cell_last rfl rfl)
  have e1 : w2.cell? ⟨w1.heap.size, 1, none⟩ = some (.string ty.letters) := cell_keep hb2 (cell_last rfl rfl)
  have e2 : w2.cell? ⟨w1.heap.size, 2, none⟩ = some (.bool ty.op) := cell_keep hb2 (cell_last rfl rfl)
  have e3 : w2.cell? ⟨w1.heap.size, 3, none⟩ = some (.slice ai li ci) := cell_keep hb2 (cell_last rfl rfl)
  have e4 : w2.cell? ⟨w1.heap.size, 4, none⟩ = some (.slice af lf cf) := cell_keep hb2 (cell_last rfl rfl)
  have hne : w1.heap.size ≠ w.heap.size := by omega
  have hne2 : ¬ w.heap.size = w1.heap.size := by omega
  have hwk : IntKind.i64.wrap ((k : Int) + 1) = (k : Int) + 1 := by rw [IntKind.wrap_i64]; omega
  go_region_held3 (fun w' => w'.cell? ⟨w1.heap.size, 0, none⟩ = some (.int .i64 ty.kind) ∧ w'.cell? ⟨w1.heap.size, 1, none⟩ = some (.string ty.letters) ∧ w'.cell? ⟨w1.heap.size, 2, none⟩ = some (.bool ty.op) ∧ w'.cell? ⟨w1.heap.size, 3, none⟩ = some (.slice ai li ci) ∧ w'.cell? ⟨w1.heap.size, 4, none⟩ = some (.slice af lf cf)) (go_keep) (first | (go_at_call 75; refine (span_int s _ _ _ (by omega) (by omega) (by omega) _hs).mono ?_; rintro e w' ⟨rfl, rfl⟩))
  go_wp2_with fail
  have hb0 : Below w.heap.size w w2 := ((hB _).trans (hb1.mono (by simp))).trans ((((Below.refl _ _).alloc (Nat.le_refl _) _).trans (hb2.mono (by simp))).mono (by omega))
  refine bodyPost_ret (v := .tuple #[.agg #[.int .i64 (bAt s i), .int .i64 ty.kind, .string ty.letters, .bool ty.op, .slice ai li ci, .slice af lf cf, .string (s.extract (k + 1) m)], .int .i64 m, .bool true]) (by simp [results, Tryd.results100, go_sem, hc1, hz1, hc2, hz2, hz3]) rfl ?_
  rw [hr'.out]
  refine ⟨⟨ai, li, ci, af, lf, cf, ?_, ?_⟩, (Below.set7 hb0 (Nat.le_refl _)).drew⟩
  · rw [show (((bAt s i).toNat : Nat) : Int) = bAt s i by omega]
  · exact (hr1.keep (fun b o v hb h => cell_drew (cell_set7 (cell_keep hb2 (cell_new _ h)) (by simp at hb; omega)))).imp (fun b _ h => by simp at h; omega)


set_option maxHeartbeats 2000000 in
theorem parseField_any {n : Nat} {s : ByteArray} (IH : ParseTypeOK n s) (IE : EncAtOK n s) (hs : s.size ≤ 4096) (i : Nat) (w : World) (hi : i ≤ s.size) (hn : s.size ≤ i + 2 + n) (hbd : ∀ a ty k, pType false s n a = some (ty, k) → k ≤ s.size) :
    Calls Tryd.prog 100 #[.string s, .int .i64 i] w fun e w' => FRet w.heap.size n (pField (pType false s n) (enc false s n) s i) e w' ∧ Below w.heap.size w w' := by
  have _hs : s.size ≤ 9000000 := by omega
  have hB : ∀ o, Below w.heap.size w (w.alloc o) := fun o => (Below.refl _ _).alloc (Nat.le_refl _) _
  by_cases h1 : isL (bAt s i) = true ∧ bAt s (i + 1) = 58
  · obtain ⟨h1a, h1b⟩ := h1
    have h1b' : (bAt s (i + 1) != 58) = false := by simp [h1b]
    have hi1 : i + 1 < s.size := bAt_lt (by omega)
    have hlet : 97 ≤ bAt s i := by simp [isL] at h1a; omega
    cases hx : pType false s n (i + 2) with
    | none =>
      have hr' : Hid (pField (pType false s n) (enc false s n) s i = none) := by show _ = _; unfold pField; rw [if_pos ⟨h1a, h1b⟩, hx]
      have hcall := fun w => IH.no w (show i + 2 ≤ s.size by omega) (by omega) hx
      clear hx hbd h1b
      go_enter Tryd.func100, Tryd.ntmps100
      go_wp2_with (first | (go_at_call 73; refine (byteAt_int _ _ _ (by omega) _hs).mono ?_; rintro e w' ⟨rfl, rfl⟩) | (go_at_call 107; refine (isLetter_any _ _).mono ?_; rintro e w' ⟨rfl, rfl⟩) | (go_at_call 53; refine (hcall _).mono ?_; rintro e w1 ⟨k', rfl, hb1⟩; obtain ⟨hc1, hf1⟩ := bcell hb1; have hz1 : w.heap.size < w1.heap.size := (by have := hb1.size; simp at this; omega)))
      have hb0 : Below w.heap.size w w1 := (hB _).trans (hb1.mono (by simp))
      refine bodyPost_ret (v := .tuple #[.agg #[.int .i64 0, .int .i64 0, .string ByteArray.empty, .bool false, .slice none 0 0, .slice none 0 0, .string ByteArray.empty], .int .i64 i, .bool false]) (by simp [results, Tryd.results100, go_sem, hc1, hz1]; rfl) rfl ?_
      rw [hr'.out]
      exact ⟨⟨i, rfl⟩, Below.alloc' (Below.set7 hb0 (Nat.le_refl _)) _⟩
    | some p =>
      obtain ⟨ty, k⟩ := p
      have hk := hbd _ ty k hx
      have hcall := fun w => IH.yes w (show i + 2 ≤ s.size by omega) (by omega) hx
      by_cases h2 : bAt s k = 61
      · have h2' : (bAt s k != 61) = false := by simp [h2]
        have hk1 : k < s.size := bAt_lt (by omega)
        cases hy : enc false s n ty (k + 1) with
        | none =>
          have hr' : Hid (pField (pType false s n) (enc false s n) s i = none) := by show _ = _; unfold pField; rw [if_pos ⟨h1a, h1b⟩, hx]; simp only [if_pos h2]; rw [hy]
          have hecall : ∀ (B : Nat → Prop) (w1 : World) (o : Obj) ai li ci af lf cf, RepB B n w1 ai li ci af lf cf ty → Calls Tryd.prog 39 #[.agg #[.int .i64 ty.kind, .string ty.letters, .bool ty.op, .slice ai li ci, .slice af lf cf], .string s, .int .i64 (k + 1 : Nat)] (w1.alloc o) fun e w' => e = .returned (.tuple #[.string ByteArray.empty, .int .i64 (k + 1 : Nat), .bool false]) ∧ Below (w1.alloc o).heap.size (w1.alloc o) w' := fun B w1 o ai li ci af lf cf h => IE.no (by omega) ((h.rep).keep ((Below.refl _ _).alloc (Nat.le_refl _) _)) hy
          clear hx hy hbd h1b h2
          go_enter Tryd.func100, Tryd.ntmps100
          go_wp2_with (first | (go_at_call 73; refine (byteAt_int _ _ _ (by omega) _hs).mono ?_; rintro e w' ⟨rfl, rfl⟩) | (go_at_call 107; refine (isLetter_any _ _).mono ?_; rintro e w' ⟨rfl, rfl⟩) | (go_at_call 53; refine (hcall _).mono ?_; rintro e w1 ⟨ai, li, ci, af, lf, cf, rfl, hr1, hb1⟩; obtain ⟨hc1, hf1⟩ := bcell hb1; have hz1 : w.heap.size < w1.heap.size := (by have := hb1.size; simp at this; omega)) | (go_at_call 39; refine (hecall _ _ _ _ _ _ _ _ _ hr1).mono ?_; rintro e w2 ⟨rfl, hb2⟩; obtain ⟨hc2, hf2⟩ := bcell hb2; have hz2 : w1.heap.size < w2.heap.size := (by have := hb2.size; simp at this; omega); have hz3 : w.heap.size < w1.heap.size + 1 := (by omega)))
          have hb0 : Below w.heap.size w w2 := ((hB _).trans (hb1.mono (by simp))).trans ((((Below.refl _ _).alloc (Nat.le_refl _) _).trans (hb2.mono (by simp))).mono (by omega))
          refine bodyPost_ret (v := .tuple #[.agg #[.int .i64 0, .int .i64 0, .string ByteArray.empty, .bool false, .slice none 0 0, .slice none 0 0, .string ByteArray.empty], .int .i64 i, .bool false]) (by simp [results, Tryd.results100, go_sem, hc1, hz1, hc2, hz2, hz3]; rfl) rfl ?_
          rw [hr'.out]
          exact ⟨⟨i, rfl⟩, Below.set7 hb0 (Nat.le_refl _)⟩
        | some q =>
          obtain ⟨d, m⟩ := q
          exact parseField_dflt IH IE hs i w hi hn hbd h1a h1b hx h2 hy
      · have h2' : (bAt s k != 61) = true := by simpa using h2
        have hr' : Hid (pField (pType false s n) (enc false s n) s i = some (((bAt s i).toNat, ty, ByteArray.empty), k)) := by show _ = _; unfold pField; rw [if_pos ⟨h1a, h1b⟩, hx]; simp only [if_neg h2]
        clear hx hbd h1b h2
        go_enter Tryd.func100, Tryd.ntmps100
        go_wp2_with (first | (go_at_call 73; refine (byteAt_int _ _ _ (by omega) _hs).mono ?_; rintro e w' ⟨rfl, rfl⟩) | (go_at_call 107; refine (isLetter_any _ _).mono ?_; rintro e w' ⟨rfl, rfl⟩) | (go_at_call 53; refine (hcall _).mono ?_; rintro e w1 ⟨ai, li, ci, af, lf, cf, rfl, hr1, hb1⟩; obtain ⟨hc1, hf1⟩ := bcell hb1; have hz1 : w.heap.size < w1.heap.size := (by have := hb1.size; simp at this; omega)))
        have hb0 : Below w.heap.size w w1 := (hB _).trans (hb1.mono (by simp))
        refine bodyPost_ret (v := .tuple #[.agg #[.int .i64 (bAt s i), .int .i64 ty.kind, .string ty.letters, .bool ty.op, .slice ai li ci, .slice af lf cf, .string ByteArray.empty], .int .i64 k, .bool true]) (by simp [results, Tryd.results100, go_sem, hc1, hz1]; rfl) rfl ?_
        rw [hr'.out]
        refine ⟨⟨ai, li, ci, af, lf, cf, ?_, ?_⟩, Below.alloc' (Below.set7 hb0 (Nat.le_refl _)) _⟩
        · rw [show (((bAt s i).toNat : Nat) : Int) = bAt s i by omega]
        · exact (hr1.keep (fun b o v hb h => cell_new _ (cell_set7 h (by simp at hb; omega)))).imp (fun b _ h => by simp at h; omega)
  · rw [show pField (pType false s n) (enc false s n) s i = none by unfold pField; rw [if_neg h1]]
    cases hl : isL (bAt s i) with
    | false =>
      go_enter Tryd.func100, Tryd.ntmps100
      go_wp2_with (first | (go_at_call 73; refine (byteAt_int _ _ _ (by omega) _hs).mono ?_; rintro e w' ⟨rfl, rfl⟩) | (go_at_call 107; refine (isLetter_any _ _).mono ?_; rintro e w' ⟨rfl, rfl⟩))
      exact bodyPost_ret (v := .tuple #[.agg #[.int .i64 0, .int .i64 0, .string ByteArray.empty, .bool false, .slice none 0 0, .slice none 0 0, .string ByteArray.empty], .int .i64 i, .bool false]) (by simp [results, Tryd.results100, go_sem]; rfl) rfl ⟨⟨i, rfl⟩, hB _⟩
    | true =>
      have h2' : (bAt s (i + 1) != 58) = true := by simp; exact fun h => h1 ⟨hl, h⟩
      clear h1
      go_enter Tryd.func100, Tryd.ntmps100
      go_wp2_with (first | (go_at_call 73; refine (byteAt_int _ _ _ (by omega) _hs).mono ?_; rintro e w' ⟨rfl, rfl⟩) | (go_at_call 107; refine (isLetter_any _ _).mono ?_; rintro e w' ⟨rfl, rfl⟩))
      exact bodyPost_ret (v := .tuple #[.agg #[.int .i64 0, .int .i64 0, .string ByteArray.empty, .bool false, .slice none 0 0, .slice none 0 0, .string ByteArray.empty], .int .i64 i, .bool false]) (by simp [results, Tryd.results100, go_sem]; rfl) rfl ⟨⟨i, rfl⟩, hB _⟩
end Go.Proofs.YtkkekopomiehlaaDoor
