import Derived.Test.YtkkekopomiehlaaDoorParse5
set_option linter.unusedVariables false
set_option linter.unusedSimpArgs false
namespace Go.Proofs.YtkkekopomiehlaaDoor
open Go.RowKit

theorem pChoice_bd {s : ByteArray} {a k : Nat} {ty : Ty} (h : pChoice s a = some (ty, k)) : a < k ∧ k ≤ s.size := by
  unfold pChoice at h
  simp only at h
  have hle := lEnd_le s a (s.size - a) a
  generalize lEnd s a (s.size - a) a = E at h hle
  split at h
  · cases h
  · split at h
    · split at h
      · simp only [Option.some.injEq, Prod.mk.injEq] at h
        have : E + 1 < s.size := bAt_lt (by omega)
        omega
      · cases h
    · split at h
      · simp only [Option.some.injEq, Prod.mk.injEq] at h
        have : E < s.size := bAt_lt (by omega)
        omega
      · cases h
theorem pField_bd {pt : Nat → Option (Ty × Nat)} {ef : Ty → Nat → Option (ByteArray × Nat)} {s : ByteArray} (hp : ∀ a ty k, pt a = some (ty, k) → a < k ∧ k ≤ s.size) (he : ∀ ty j d k, ef ty j = some (d, k) → j < k ∧ k ≤ s.size)
    {i k : Nat} {f : Nat × Ty × ByteArray} (h : pField pt ef s i = some (f, k)) : i < k ∧ k ≤ s.size := by
  unfold pField at h
  split at h
  · split at h
    · cases h
    · rename_i ty k' hx
      have := hp _ _ _ hx
      split at h
      · split at h
        · cases h
        · rename_i d m hy
          have := he _ _ _ _ hy
          simp only [Option.some.injEq, Prod.mk.injEq] at h
          omega
      · simp only [Option.some.injEq, Prod.mk.injEq] at h
        omega
  · cases h
theorem pFlds_bd {pf : Nat → Option ((Nat × Ty × ByteArray) × Nat)} {s : ByteArray} (hp : ∀ a f k, pf a = some (f, k) → a < k ∧ k ≤ s.size) : ∀ {m a k : Nat} {acc fs : List (Nat × Ty × ByteArray)}, pFlds pf s m a acc = some (fs, k) → a < k ∧ k ≤ s.size
  | 0, a, k, acc, fs, h => by simp [pFlds] at h
  | m + 1, a, k, acc, fs, h => by
    rw [pFlds] at h
    split at h
    · cases h
    · rename_i f k' hx
      have := hp _ _ _ hx
      split at h
      · cases h
      · split at h
        · simp only [Option.some.injEq, Prod.mk.injEq] at h
          have : k' < s.size := bAt_lt (by omega)
          omega
        · split at h
          · have := pFlds_bd hp h; omega
          · cases h
theorem pType_bd (st : Bool) (s : ByteArray) : ∀ (n i : Nat) (ty : Ty) (k : Nat), pType st s n i = some (ty, k) → i < k ∧ k ≤ s.size
  | 0, i, ty, k, h => by simp [pType] at h
  | n + 1, i, ty, k, h => by
    have ih := pType_bd st s n
    rw [pType] at h
    have one : ∀ {c : Nat}, some (plainTy c, i + 1) = some (ty, k) → 0 ≤ bAt s i → i < k ∧ k ≤ s.size := fun h hb => by
      simp only [Option.some.injEq, Prod.mk.injEq] at h
      have := bAt_lt hb; omega
    split at h
    · exact one h (by omega)
    · split at h
      · exact one h (by omega)
      · split at h
        · exact one h (by omega)
        · split at h
          · have := pChoice_bd h; omega
          · split at h
            · unfold pList at h
              split at h
              · cases h
              · rename_i t k' hx
                have := ih _ _ _ hx
                split at h
                · simp only [Option.some.injEq, Prod.mk.injEq] at h
                  have : k' < s.size := bAt_lt (by omega)
                  omega
                · cases h
            · split at h
              · unfold pMaybe at h
                split at h
                · cases h
                · rename_i t k' hx
                  have := ih _ _ _ hx
                  split at h
                  · cases h
                  · simp only [Option.some.injEq, Prod.mk.injEq] at h
                    omega
              · split at h
                · unfold pRec at h
                  split at h
                  · cases h
                  · rename_i fs k' hx
                    have := pFlds_bd (fun a f k h => pField_bd ih (fun ty j d k h => ⟨(enc_bd h).1, (enc_bd h).2.1⟩) h) hx
                    simp only [Option.some.injEq, Prod.mk.injEq] at h
                    omega
                · cases h

theorem PRet_no {f : FuncId} {args : Array Value} {w : World} {B n : Nat} {r : Option (Ty × Nat)} (h : Calls Tryd.prog f args w fun e w' => PRet B n r e w' ∧ Below w.heap.size w w') (hr : r = none) :
    Calls Tryd.prog f args w fun e w' => ∃ k' : Nat, e = .returned (.tuple #[.agg #[.int .i64 0, .string ByteArray.empty, .bool false, .slice none 0 0, .slice none 0 0], .int .i64 k', .bool false]) ∧ Below w.heap.size w w' := by
  refine h.mono ?_
  rintro e w' ⟨h1, h2⟩; rw [hr] at h1; obtain ⟨k', h1⟩ := h1; exact ⟨k', h1, h2⟩
theorem PRet_yes {f : FuncId} {args : Array Value} {w : World} {B n : Nat} {r : Option (Ty × Nat)} {ty : Ty} {k : Nat} (h : Calls Tryd.prog f args w fun e w' => PRet B n r e w' ∧ Below w.heap.size w w') (hr : r = some (ty, k)) :
    Calls Tryd.prog f args w fun e w' => ∃ ai li ci af lf cf, e = .returned (.tuple #[.agg #[.int .i64 ty.kind, .string ty.letters, .bool ty.op, .slice ai li ci, .slice af lf cf], .int .i64 k, .bool true]) ∧ RepB (fun b => B ≤ b) n w' ai li ci af lf cf ty ∧ Below w.heap.size w w' := by
  refine h.mono ?_
  rintro e w' ⟨h1, h2⟩; rw [hr] at h1; obtain ⟨ai, li, ci, af, lf, cf, h1, h3⟩ := h1; exact ⟨ai, li, ci, af, lf, cf, h1, h3, h2⟩

set_option maxHeartbeats 2000000 in
theorem parseType_zero {s : ByteArray} (hs : s.size ≤ 4096) : ParseTypeOK 0 s := by
  intro i w hi hn
  have _hs : s.size ≤ 9000000 := by omega
  have hB : ∀ o, Below w.heap.size w (w.alloc o) := fun o => (Below.refl _ _).alloc (Nat.le_refl _) _
  have hb : Hid (bAt s i = -1) := bAt_out s i (by omega)
  have h105' : (bAt s i == 105) = false := by rw [hb.out]; rfl
  have h108' : (bAt s i == 108) = false := by rw [hb.out]; rfl
  have h115' : (bAt s i == 115) = false := by rw [hb.out]; rfl
  have h60' : (bAt s i == 60) = false := by rw [hb.out]; rfl
  have h91' : (bAt s i == 91) = false := by rw [hb.out]; rfl
  have h63' : (bAt s i == 63) = false := by rw [hb.out]; rfl
  have h123' : (bAt s i == 123) = false := by rw [hb.out]; rfl
  go_enter Tryd.func53, Tryd.ntmps53
  go_wp2_with (go_at_call 73; refine (byteAt_int _ _ _ (by omega) _hs).mono ?_; rintro e w' ⟨rfl, rfl⟩)
  exact bodyPost_ret (v := .tuple #[.agg #[.int .i64 0, .string ByteArray.empty, .bool false, .slice none 0 0, .slice none 0 0], .int .i64 i, .bool false]) (by simp [results, Tryd.results53, go_sem]; rfl) rfl ⟨⟨i, rfl⟩, hB _⟩

set_option maxHeartbeats 2000000 in
theorem parseType_succ {n : Nat} {s : ByteArray} (IH : ParseTypeOK n s) (hs : s.size ≤ 4096) (hn100 : n ≤ 100) : ParseTypeOK (n + 1) s := by
  intro i w hi hn
  have _hs : s.size ≤ 9000000 := by omega
  have hB : ∀ o, Below w.heap.size w (w.alloc o) := fun o => (Below.refl _ _).alloc (Nat.le_refl _) _
  have hbd := fun a ty k (h : pType false s n a = some (ty, k)) => (pType_bd false s n a ty k h).2
  have hfbd := fun i f k (h : pField (pType false s n) (enc false s n) s i = some (f, k)) => pField_bd (pType_bd false s n) (fun ty j d k h => ⟨(enc_bd h).1, (enc_bd h).2.1⟩) h
  have IF : FieldOK n s := fun i w h1 h2 => parseField_any IH (encodeAt_all hs n (by omega)) hs i w h1 h2 hbd
  by_cases h105 : bAt s i = 105
  · have h105' : (bAt s i == 105) = true := by simp [h105]
    have hil : i < s.size := bAt_lt (by omega)
    have hr' : Hid (pType false s (n + 1) i = some (plainTy 105, i + 1)) := by show _ = _; rw [pType, if_pos h105]
    have HK : Hid (bAt s i = 105) := h105
    clear h105 hbd hfbd
    go_enter Tryd.func53, Tryd.ntmps53
    go_wp2_with ((go_at_call 73; refine (byteAt_int _ _ _ (by omega) _hs).mono ?_; rintro e w' ⟨rfl, rfl⟩))
    refine bodyPost_ret (v := .tuple #[.agg #[.int .i64 (bAt s i), .string ByteArray.empty, .bool false, .slice none 0 0, .slice none 0 0], .int .i64 (i + 1 : Nat), .bool true]) (by simp [results, Tryd.results53, go_sem]; rfl) rfl ?_
    rw [hr'.out, HK.out]
    exact ⟨⟨_, _, _, _, _, _, rfl, RepB.plain (Nat.zero_le _) (by simp [plainTy]) rfl rfl⟩, hB _⟩
  have h105' : (bAt s i == 105) = false := by simpa using h105
  by_cases h108 : bAt s i = 108
  · have h108' : (bAt s i == 108) = true := by simp [h108]
    have hil : i < s.size := bAt_lt (by omega)
    have hr' : Hid (pType false s (n + 1) i = some (plainTy 108, i + 1)) := by show _ = _; rw [pType, if_neg h105, if_pos h108]
    have HK : Hid (bAt s i = 108) := h108
    clear h105 h108 hbd hfbd
    go_enter Tryd.func53, Tryd.ntmps53
    go_wp2_with ((go_at_call 73; refine (byteAt_int _ _ _ (by omega) _hs).mono ?_; rintro e w' ⟨rfl, rfl⟩))
    refine bodyPost_ret (v := .tuple #[.agg #[.int .i64 (bAt s i), .string ByteArray.empty, .bool false, .slice none 0 0, .slice none 0 0], .int .i64 (i + 1 : Nat), .bool true]) (by simp [results, Tryd.results53, go_sem]; rfl) rfl ?_
    rw [hr'.out, HK.out]
    exact ⟨⟨_, _, _, _, _, _, rfl, RepB.plain (Nat.zero_le _) (by simp [plainTy]) rfl rfl⟩, hB _⟩
  have h108' : (bAt s i == 108) = false := by simpa using h108
  by_cases h115 : bAt s i = 115
  · have h115' : (bAt s i == 115) = true := by simp [h115]
    have hil : i < s.size := bAt_lt (by omega)
    have hr' : Hid (pType false s (n + 1) i = some (plainTy 115, i + 1)) := by show _ = _; rw [pType, if_neg h105, if_neg h108, if_pos h115]
    have HK : Hid (bAt s i = 115) := h115
    clear h105 h108 h115 hbd hfbd
    go_enter Tryd.func53, Tryd.ntmps53
    go_wp2_with ((go_at_call 73; refine (byteAt_int _ _ _ (by omega) _hs).mono ?_; rintro e w' ⟨rfl, rfl⟩))
    refine bodyPost_ret (v := .tuple #[.agg #[.int .i64 (bAt s i), .string ByteArray.empty, .bool false, .slice none 0 0, .slice none 0 0], .int .i64 (i + 1 : Nat), .bool true]) (by simp [results, Tryd.results53, go_sem]; rfl) rfl ?_
    rw [hr'.out, HK.out]
    exact ⟨⟨_, _, _, _, _, _, rfl, RepB.plain (Nat.zero_le _) (by simp [plainTy]) rfl rfl⟩, hB _⟩
  have h115' : (bAt s i == 115) = false := by simpa using h115
  by_cases h60 : bAt s i = 60
  · have h60' : (bAt s i == 60) = true := by simp [h60]
    have hil : i < s.size := bAt_lt (by omega)
    have hr' : Hid (pType false s (n + 1) i = pChoice s (i + 1)) := by show _ = _; rw [pType, if_neg h105, if_neg h108, if_neg h115, if_pos h60]
    have hc := fun w1 => parseChoice_any n hs (i + 1) w1 (by omega)
    clear h105 h108 h115 h60 hbd hfbd
    cases hx : pChoice s (i + 1) with
    | none =>
      have hcall := fun w1 => PRet_no (hc w1) hx
      clear hc
      go_enter Tryd.func53, Tryd.ntmps53
      go_wp2_with (first | (go_at_call 73; refine (byteAt_int _ _ _ (by omega) _hs).mono ?_; rintro e w' ⟨rfl, rfl⟩) | (go_at_call 87; refine (hcall _).mono ?_; rintro e w1 ⟨k', rfl, hb1⟩; obtain ⟨hc1, hf1⟩ := bcell hb1; have hz1 : w.heap.size < w1.heap.size := (by have := hb1.size; simp at this; omega)))
      refine bodyPost_ret (v := .tuple #[.agg #[.int .i64 0, .string ByteArray.empty, .bool false, .slice none 0 0, .slice none 0 0], .int .i64 k', .bool false]) (by simp [results, Tryd.results53, go_sem, hc1, hz1]) rfl ?_
      rw [hr'.out, hx]
      exact ⟨⟨k', rfl⟩, Below.set5 ((hB _).trans (hb1.mono (by simp))) (Nat.le_refl _)⟩
    | some p =>
      obtain ⟨ty, k⟩ := p
      have hcall := fun w1 => PRet_yes (hc w1) hx
      clear hc
      go_enter Tryd.func53, Tryd.ntmps53
      go_wp2_with (first | (go_at_call 73; refine (byteAt_int _ _ _ (by omega) _hs).mono ?_; rintro e w' ⟨rfl, rfl⟩) | (go_at_call 87; refine (hcall _).mono ?_; rintro e w1 ⟨ai, li, ci, af, lf, cf, rfl, hr1, hb1⟩; obtain ⟨hc1, hf1⟩ := bcell hb1; have hz1 : w.heap.size < w1.heap.size := (by have := hb1.size; simp at this; omega)))
      refine bodyPost_ret (v := .tuple #[.agg #[.int .i64 ty.kind, .string ty.letters, .bool ty.op, .slice ai li ci, .slice af lf cf], .int .i64 k, .bool true]) (by simp [results, Tryd.results53, go_sem, hc1, hz1]) rfl ?_
      rw [hr'.out, hx]
      exact ⟨⟨ai, li, ci, af, lf, cf, rfl, (hr1.keep (fun b o v hS h => cell_set5 h (by simp at hS; omega))).imp (fun b _ h => by simp at h; omega)⟩, Below.set5 ((hB _).trans (hb1.mono (by simp))) (Nat.le_refl _)⟩
  have h60' : (bAt s i == 60) = false := by simpa using h60
  by_cases h91 : bAt s i = 91
  · have h91' : (bAt s i == 91) = true := by simp [h91]
    have hil : i < s.size := bAt_lt (by omega)
    have hr' : Hid (pType false s (n + 1) i = pList (pType false s n) s (i + 1)) := by show _ = _; rw [pType, if_neg h105, if_neg h108, if_neg h115, if_neg h60, if_pos h91]
    have hc := fun w1 => parseList_any IH hs (i + 1) w1 (by omega) (by omega) (hbd (i + 1))
    clear h105 h108 h115 h60 h91 hbd hfbd
    cases hx : pList (pType false s n) s (i + 1) with
    | none =>
      have hcall := fun w1 => PRet_no (hc w1) hx
      clear hc
      go_enter Tryd.func53, Tryd.ntmps53
      go_wp2_with (first | (go_at_call 73; refine (byteAt_int _ _ _ (by omega) _hs).mono ?_; rintro e w' ⟨rfl, rfl⟩) | (go_at_call 88; refine (hcall _).mono ?_; rintro e w1 ⟨k', rfl, hb1⟩; obtain ⟨hc1, hf1⟩ := bcell hb1; have hz1 : w.heap.size < w1.heap.size := (by have := hb1.size; simp at this; omega)))
      refine bodyPost_ret (v := .tuple #[.agg #[.int .i64 0, .string ByteArray.empty, .bool false, .slice none 0 0, .slice none 0 0], .int .i64 k', .bool false]) (by simp [results, Tryd.results53, go_sem, hc1, hz1]) rfl ?_
      rw [hr'.out, hx]
      exact ⟨⟨k', rfl⟩, Below.set5 ((hB _).trans (hb1.mono (by simp))) (Nat.le_refl _)⟩
    | some p =>
      obtain ⟨ty, k⟩ := p
      have hcall := fun w1 => PRet_yes (hc w1) hx
      clear hc
      go_enter Tryd.func53, Tryd.ntmps53
      go_wp2_with (first | (go_at_call 73; refine (byteAt_int _ _ _ (by omega) _hs).mono ?_; rintro e w' ⟨rfl, rfl⟩) | (go_at_call 88; refine (hcall _).mono ?_; rintro e w1 ⟨ai, li, ci, af, lf, cf, rfl, hr1, hb1⟩; obtain ⟨hc1, hf1⟩ := bcell hb1; have hz1 : w.heap.size < w1.heap.size := (by have := hb1.size; simp at this; omega)))
      refine bodyPost_ret (v := .tuple #[.agg #[.int .i64 ty.kind, .string ty.letters, .bool ty.op, .slice ai li ci, .slice af lf cf], .int .i64 k, .bool true]) (by simp [results, Tryd.results53, go_sem, hc1, hz1]) rfl ?_
      rw [hr'.out, hx]
      exact ⟨⟨ai, li, ci, af, lf, cf, rfl, (hr1.keep (fun b o v hS h => cell_set5 h (by simp at hS; omega))).imp (fun b _ h => by simp at h; omega)⟩, Below.set5 ((hB _).trans (hb1.mono (by simp))) (Nat.le_refl _)⟩
  have h91' : (bAt s i == 91) = false := by simpa using h91
  by_cases h63 : bAt s i = 63
  · have h63' : (bAt s i == 63) = true := by simp [h63]
    have hil : i < s.size := bAt_lt (by omega)
    have hr' : Hid (pType false s (n + 1) i = pMaybe (pType false s n) (i + 1)) := by show _ = _; rw [pType, if_neg h105, if_neg h108, if_neg h115, if_neg h60, if_neg h91, if_pos h63]
    have hc := fun w1 => parseMaybe_any IH hs (i + 1) w1 (by omega) (by omega) (hbd (i + 1))
    clear h105 h108 h115 h60 h91 h63 hbd hfbd
    cases hx : pMaybe (pType false s n) (i + 1) with
    | none =>
      have hcall := fun w1 => PRet_no (hc w1) hx
      clear hc
      go_enter Tryd.func53, Tryd.ntmps53
      go_wp2_with (first | (go_at_call 73; refine (byteAt_int _ _ _ (by omega) _hs).mono ?_; rintro e w' ⟨rfl, rfl⟩) | (go_at_call 89; refine (hcall _).mono ?_; rintro e w1 ⟨k', rfl, hb1⟩; obtain ⟨hc1, hf1⟩ := bcell hb1; have hz1 : w.heap.size < w1.heap.size := (by have := hb1.size; simp at this; omega)))
      refine bodyPost_ret (v := .tuple #[.agg #[.int .i64 0, .string ByteArray.empty, .bool false, .slice none 0 0, .slice none 0 0], .int .i64 k', .bool false]) (by simp [results, Tryd.results53, go_sem, hc1, hz1]) rfl ?_
      rw [hr'.out, hx]
      exact ⟨⟨k', rfl⟩, Below.set5 ((hB _).trans (hb1.mono (by simp))) (Nat.le_refl _)⟩
    | some p =>
      obtain ⟨ty, k⟩ := p
      have hcall := fun w1 => PRet_yes (hc w1) hx
      clear hc
      go_enter Tryd.func53, Tryd.ntmps53
      go_wp2_with (first | (go_at_call 73; refine (byteAt_int _ _ _ (by omega) _hs).mono ?_; rintro e w' ⟨rfl, rfl⟩) | (go_at_call 89; refine (hcall _).mono ?_; rintro e w1 ⟨ai, li, ci, af, lf, cf, rfl, hr1, hb1⟩; obtain ⟨hc1, hf1⟩ := bcell hb1; have hz1 : w.heap.size < w1.heap.size := (by have := hb1.size; simp at this; omega)))
      refine bodyPost_ret (v := .tuple #[.agg #[.int .i64 ty.kind, .string ty.letters, .bool ty.op, .slice ai li ci, .slice af lf cf], .int .i64 k, .bool true]) (by simp [results, Tryd.results53, go_sem, hc1, hz1]) rfl ?_
      rw [hr'.out, hx]
      exact ⟨⟨ai, li, ci, af, lf, cf, rfl, (hr1.keep (fun b o v hS h => cell_set5 h (by simp at hS; omega))).imp (fun b _ h => by simp at h; omega)⟩, Below.set5 ((hB _).trans (hb1.mono (by simp))) (Nat.le_refl _)⟩
  have h63' : (bAt s i == 63) = false := by simpa using h63
  by_cases h123 : bAt s i = 123
  · have h123' : (bAt s i == 123) = true := by simp [h123]
    have hil : i < s.size := bAt_lt (by omega)
    have hr' : Hid (pType false s (n + 1) i = pRec (pField (pType false s n) (enc false s n) s) s (i + 1)) := by show _ = _; rw [pType, if_neg h105, if_neg h108, if_neg h115, if_neg h60, if_neg h91, if_neg h63, if_pos h123]
    have hc := fun w1 => parseRecord_any IF hs (i + 1) w1 (by omega) (by omega) hfbd
    clear h105 h108 h115 h60 h91 h63 h123 hbd hfbd
    cases hx : pRec (pField (pType false s n) (enc false s n) s) s (i + 1) with
    | none =>
      have hcall := fun w1 => PRet_no (hc w1) hx
      clear hc
      go_enter Tryd.func53, Tryd.ntmps53
      go_wp2_with (first | (go_at_call 73; refine (byteAt_int _ _ _ (by omega) _hs).mono ?_; rintro e w' ⟨rfl, rfl⟩) | (go_at_call 90; refine (hcall _).mono ?_; rintro e w1 ⟨k', rfl, hb1⟩; obtain ⟨hc1, hf1⟩ := bcell hb1; have hz1 : w.heap.size < w1.heap.size := (by have := hb1.size; simp at this; omega)))
      refine bodyPost_ret (v := .tuple #[.agg #[.int .i64 0, .string ByteArray.empty, .bool false, .slice none 0 0, .slice none 0 0], .int .i64 k', .bool false]) (by simp [results, Tryd.results53, go_sem, hc1, hz1]) rfl ?_
      rw [hr'.out, hx]
      exact ⟨⟨k', rfl⟩, Below.set5 ((hB _).trans (hb1.mono (by simp))) (Nat.le_refl _)⟩
    | some p =>
      obtain ⟨ty, k⟩ := p
      have hcall := fun w1 => PRet_yes (hc w1) hx
      clear hc
      go_enter Tryd.func53, Tryd.ntmps53
      go_wp2_with (first | (go_at_call 73; refine (byteAt_int _ _ _ (by omega) _hs).mono ?_; rintro e w' ⟨rfl, rfl⟩) | (go_at_call 90; refine (hcall _).mono ?_; rintro e w1 ⟨ai, li, ci, af, lf, cf, rfl, hr1, hb1⟩; obtain ⟨hc1, hf1⟩ := bcell hb1; have hz1 : w.heap.size < w1.heap.size := (by have := hb1.size; simp at this; omega)))
      refine bodyPost_ret (v := .tuple #[.agg #[.int .i64 ty.kind, .string ty.letters, .bool ty.op, .slice ai li ci, .slice af lf cf], .int .i64 k, .bool true]) (by simp [results, Tryd.results53, go_sem, hc1, hz1]) rfl ?_
      rw [hr'.out, hx]
      exact ⟨⟨ai, li, ci, af, lf, cf, rfl, (hr1.keep (fun b o v hS h => cell_set5 h (by simp at hS; omega))).imp (fun b _ h => by simp at h; omega)⟩, Below.set5 ((hB _).trans (hb1.mono (by simp))) (Nat.le_refl _)⟩
  have h123' : (bAt s i == 123) = false := by simpa using h123
  have hr' : Hid (pType false s (n + 1) i = none) := by show _ = _; rw [pType, if_neg h105, if_neg h108, if_neg h115, if_neg h60, if_neg h91, if_neg h63, if_neg h123]
  clear h105 h108 h115 h60 h91 h63 h123 hbd hfbd
  go_enter Tryd.func53, Tryd.ntmps53
  go_wp2_with ((go_at_call 73; refine (byteAt_int _ _ _ (by omega) _hs).mono ?_; rintro e w' ⟨rfl, rfl⟩))
  refine bodyPost_ret (v := .tuple #[.agg #[.int .i64 0, .string ByteArray.empty, .bool false, .slice none 0 0, .slice none 0 0], .int .i64 i, .bool false]) (by simp [results, Tryd.results53, go_sem]; rfl) rfl ?_
  rw [hr'.out]
  exact ⟨⟨i, rfl⟩, hB _⟩

theorem parseType_all {s : ByteArray} (hs : s.size ≤ 4096) : ∀ n, n ≤ 101 → ParseTypeOK n s
  | 0, _ => parseType_zero hs
  | n + 1, hn => parseType_succ (parseType_all hs n (by omega)) hs (by omega)
end Go.Proofs.YtkkekopomiehlaaDoor
