import Derived.Test.YtkkekopomiehlaaDoorParse1
set_option linter.unusedVariables false
set_option linter.unusedSimpArgs false
namespace Go.Proofs.YtkkekopomiehlaaDoor
open Go.RowKit

theorem RepB.plain {S : Nat → Prop} {n : Nat} {w : World} {ty : Ty} (hl : ty.letters.size ≤ 8) (hk : ¬ (ty.kind = 91 ∨ ty.kind = 63 ∨ ty.kind = 123)) (hi : ty.inner = []) (hf : ty.fields = []) : RepB S (n + 1) w none 0 0 none 0 0 ty :=
  ⟨hl, by rw [hf]; exact Nat.zero_le _, by rw [hf]; rfl, ⟨fun h => absurd (by omega) hk, fun h => absurd (by omega) hk⟩, .inl ⟨hi, rfl, rfl, rfl⟩, .inl ⟨hf, rfl, rfl, rfl⟩⟩

set_option maxHeartbeats 1000000 in
theorem parseChoice_any (n : Nat) {s : ByteArray} (hs : s.size ≤ 4096) (a : Nat) (w : World) (ha : a ≤ s.size) :
    Calls Tryd.prog 87 #[.string s, .int .i64 a] w fun e w' => PRet w.heap.size (n + 1) (pChoice s a) e w' ∧ Below w.heap.size w w' := by
  have _hs : s.size ≤ 9000000 := by omega
  have hB : ∀ o, Below w.heap.size w (w.alloc o) := fun o => (Below.refl _ _).alloc (Nat.le_refl _) _
  obtain ⟨E, hE⟩ : ∃ E, E = lEnd s a (s.size - a) a := ⟨_, rfl⟩
  have hle := lEnd_le s a (s.size - a) a
  rw [← hE] at hle
  obtain ⟨hle1, hle2⟩ := hle
  have hP : pChoice s a = if E - a < 1 ∨ 8 < E - a then none
      else if bAt s E = 43 then (if bAt s (E + 1) = 62 then some (⟨60, s.extract a E, true, [], []⟩, E + 2) else none)
      else if bAt s E = 62 then some (⟨60, s.extract a E, false, [], []⟩, E + 1) else none := by rw [hE]; rfl
  have hend : ∀ w, Calls Tryd.prog 99 #[.string s, .int .i64 a] w fun e w' => e = .returned (.int .i64 E) ∧ w' = w := fun w => by rw [hE]; exact lettersEnd_any s a w _hs ha
  have hx := size_extract s a E hle1 (by omega)
  have HP : Hid (pChoice s a = _) := hP
  clear hE hP
  by_cases h1 : E - a < 1 ∨ 8 < E - a
  · have hr' : Hid (pChoice s a = none) := by show _ = _; rw [HP.out, if_pos h1]
    clear HP
    rcases h1 with h1 | h1
    · have h1' : (s.extract a E).size < 1 := by omega
      go_enter Tryd.func87, Tryd.ntmps87
      go_wp2_with (first | (go_at_call 73; refine (byteAt_int _ _ _ (by omega) _hs).mono ?_; rintro e w' ⟨rfl, rfl⟩) | (go_at_call 99; refine (hend _).mono ?_; rintro e w' ⟨rfl, rfl⟩) | (go_at_call 75; refine (span_any s a E _ hle1 (by omega) _hs).mono ?_; rintro e w' ⟨rfl, rfl⟩))
      refine bodyPost_ret (v := .tuple #[.agg #[.int .i64 0, .string ByteArray.empty, .bool false, .slice none 0 0, .slice none 0 0], .int .i64 a, .bool false]) (by simp [results, Tryd.results87, go_sem]; rfl) rfl ?_
      rw [hr'.out]
      exact ⟨⟨a, rfl⟩, hB _⟩
    · have h1' : ¬ (s.extract a E).size < 1 := by omega
      have h1'' : 8 < (s.extract a E).size := by omega
      go_enter Tryd.func87, Tryd.ntmps87
      go_wp2_with (first | (go_at_call 73; refine (byteAt_int _ _ _ (by omega) _hs).mono ?_; rintro e w' ⟨rfl, rfl⟩) | (go_at_call 99; refine (hend _).mono ?_; rintro e w' ⟨rfl, rfl⟩) | (go_at_call 75; refine (span_any s a E _ hle1 (by omega) _hs).mono ?_; rintro e w' ⟨rfl, rfl⟩))
      refine bodyPost_ret (v := .tuple #[.agg #[.int .i64 0, .string ByteArray.empty, .bool false, .slice none 0 0, .slice none 0 0], .int .i64 a, .bool false]) (by simp [results, Tryd.results87, go_sem]; rfl) rfl ?_
      rw [hr'.out]
      exact ⟨⟨a, rfl⟩, hB _⟩
  · have h1' : ¬ (s.extract a E).size < 1 := by omega
    have h1'' : ¬ 8 < (s.extract a E).size := by omega
    by_cases h2 : bAt s E = 43
    · have h2' : (bAt s E == 43) = true := by simp [h2]
      by_cases h3 : bAt s (E + 1) = 62
      · have h3' : (bAt s (E + 1) != 62) = false := by simp [h3]
        have hr' : Hid (pChoice s a = some (⟨60, s.extract a E, true, [], []⟩, E + 2)) := by show _ = _; rw [HP.out, if_neg h1, if_pos h2, if_pos h3]
        clear HP h2 h3
        go_enter Tryd.func87, Tryd.ntmps87
        go_wp2_with (first | (go_at_call 73; refine (byteAt_int _ _ _ (by omega) _hs).mono ?_; rintro e w' ⟨rfl, rfl⟩) | (go_at_call 99; refine (hend _).mono ?_; rintro e w' ⟨rfl, rfl⟩) | (go_at_call 75; refine (span_any s a E _ hle1 (by omega) _hs).mono ?_; rintro e w' ⟨rfl, rfl⟩))
        refine bodyPost_ret (v := .tuple #[.agg #[.int .i64 60, .string (s.extract a E), .bool true, .slice none 0 0, .slice none 0 0], .int .i64 (E + 2 : Nat), .bool true]) (by simp [results, Tryd.results87, go_sem]; try omega) rfl ?_
        rw [hr'.out]
        exact ⟨⟨_, _, _, _, _, _, rfl, RepB.plain (by show (s.extract a E).size ≤ 8; omega) (by simp) rfl rfl⟩, hB _⟩
      · have h3' : (bAt s (E + 1) != 62) = true := by simpa using h3
        have hr' : Hid (pChoice s a = none) := by show _ = _; rw [HP.out, if_neg h1, if_pos h2, if_neg h3]
        clear HP h2 h3
        go_enter Tryd.func87, Tryd.ntmps87
        go_wp2_with (first | (go_at_call 73; refine (byteAt_int _ _ _ (by omega) _hs).mono ?_; rintro e w' ⟨rfl, rfl⟩) | (go_at_call 99; refine (hend _).mono ?_; rintro e w' ⟨rfl, rfl⟩) | (go_at_call 75; refine (span_any s a E _ hle1 (by omega) _hs).mono ?_; rintro e w' ⟨rfl, rfl⟩))
        refine bodyPost_ret (v := .tuple #[.agg #[.int .i64 0, .string ByteArray.empty, .bool false, .slice none 0 0, .slice none 0 0], .int .i64 a, .bool false]) (by simp [results, Tryd.results87, go_sem]; rfl) rfl ?_
        rw [hr'.out]
        exact ⟨⟨a, rfl⟩, hB _⟩
    · have h2' : (bAt s E == 43) = false := by simpa using h2
      by_cases h3 : bAt s E = 62
      · have h3' : (bAt s E != 62) = false := by simp [h3]
        have hr' : Hid (pChoice s a = some (⟨60, s.extract a E, false, [], []⟩, E + 1)) := by show _ = _; rw [HP.out, if_neg h1, if_neg h2, if_pos h3]
        clear HP h2 h3
        go_enter Tryd.func87, Tryd.ntmps87
        go_wp2_with (first | (go_at_call 73; refine (byteAt_int _ _ _ (by omega) _hs).mono ?_; rintro e w' ⟨rfl, rfl⟩) | (go_at_call 99; refine (hend _).mono ?_; rintro e w' ⟨rfl, rfl⟩) | (go_at_call 75; refine (span_any s a E _ hle1 (by omega) _hs).mono ?_; rintro e w' ⟨rfl, rfl⟩))
        refine bodyPost_ret (v := .tuple #[.agg #[.int .i64 60, .string (s.extract a E), .bool false, .slice none 0 0, .slice none 0 0], .int .i64 (E + 1 : Nat), .bool true]) (by simp [results, Tryd.results87, go_sem]; try omega) rfl ?_
        rw [hr'.out]
        exact ⟨⟨_, _, _, _, _, _, rfl, RepB.plain (by show (s.extract a E).size ≤ 8; omega) (by simp) rfl rfl⟩, hB _⟩
      · have h3' : (bAt s E != 62) = true := by simpa using h3
        have hr' : Hid (pChoice s a = none) := by show _ = _; rw [HP.out, if_neg h1, if_neg h2, if_neg h3]
        clear HP h2 h3
        go_enter Tryd.func87, Tryd.ntmps87
        go_wp2_with (first | (go_at_call 73; refine (byteAt_int _ _ _ (by omega) _hs).mono ?_; rintro e w' ⟨rfl, rfl⟩) | (go_at_call 99; refine (hend _).mono ?_; rintro e w' ⟨rfl, rfl⟩) | (go_at_call 75; refine (span_any s a E _ hle1 (by omega) _hs).mono ?_; rintro e w' ⟨rfl, rfl⟩))
        refine bodyPost_ret (v := .tuple #[.agg #[.int .i64 0, .string ByteArray.empty, .bool false, .slice none 0 0, .slice none 0 0], .int .i64 a, .bool false]) (by simp [results, Tryd.results87, go_sem]; rfl) rfl ?_
        rw [hr'.out]
        exact ⟨⟨a, rfl⟩, hB _⟩
end Go.Proofs.YtkkekopomiehlaaDoor
