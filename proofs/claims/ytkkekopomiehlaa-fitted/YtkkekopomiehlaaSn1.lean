import Derived.Test.YtkkekopomiehlaaV2
import Derived.Test.YtkkekopomiehlaaDec13
set_option linter.unusedVariables false
set_option linter.unusedSimpArgs false
set_option maxRecDepth 4000
namespace Go.Proofs.Ytkkekopomiehlaa
open Go.RowKit

/-- The parts of a type that a schema tells at a place. -/
theorem type_parts {s : ByteArray} {n i k : Nat} {ty : Ty} (h : pType true s n i = some (ty, k)) : bAt s i = ty.kind ∧ ∃ n', n = n' + 1 ∧
    (ty.kind = 60 → rChoice s (i + 1) = some (ty, k)) ∧ (ty.kind = 91 ∨ ty.kind = 63 → ∃ k', pType true s n' (i + 1) = some (ty.in, k')) ∧ (ty.kind = 63 → ty.in.kind ≠ 63) ∧
    (ty.kind = 123 → ∃ k', pFlds (pField (pType true s n') (enc true s n') s) s (s.size - (i + 1)) (i + 1) [] = some (ty.fields, k')) ∧ (ty.kind = 105 ∨ ty.kind = 108 ∨ ty.kind = 115 ∨ ty.kind = 60 ∨ ty.kind = 91 ∨ ty.kind = 63 ∨ ty.kind = 123) := by
  cases n with
  | zero => simp [pType] at h
  | succ n =>
    have his : i < s.size := by have := pType_bd true s _ _ _ _ h; omega
    rw [pType] at h
    split at h
    · rename_i hb; cases h; exact ⟨hb, n, rfl, (fun h => by cases h), (fun h => by rcases h with h | h <;> cases h), (fun h => by cases h), (fun h => by cases h), .inl rfl⟩
    · split at h
      · rename_i hb; cases h; exact ⟨hb, n, rfl, (fun h => by cases h), (fun h => by rcases h with h | h <;> cases h), (fun h => by cases h), (fun h => by cases h), .inr (.inl rfl)⟩
      · split at h
        · rename_i hb; cases h; exact ⟨hb, n, rfl, (fun h => by cases h), (fun h => by rcases h with h | h <;> cases h), (fun h => by cases h), (fun h => by cases h), .inr (.inr (.inl rfl))⟩
        · split at h
          · rename_i hb
            rw [pChoice_eq s (i + 1) (by omega)] at h
            have hk := (rChoice_form h).1
            rw [hb, hk]
            exact ⟨rfl, n, rfl, fun _ => h, (fun h => by omega), (fun h => by omega), (fun h => by omega), by omega⟩
          · split at h
            · rename_i hb
              unfold pList at h
              split at h
              · cases h
              · rename_i t k' ht
                split at h
                · cases h
                  exact ⟨hb, n, rfl, (fun h => by cases h), fun _ => ⟨k', ht⟩, (fun h => by cases h), (fun h => by cases h), .inr (.inr (.inr (.inr (.inl rfl))))⟩
                · cases h
            · split at h
              · rename_i hb
                unfold pMaybe at h
                split at h
                · cases h
                · rename_i t k' ht
                  split at h
                  · cases h
                  · rename_i hne
                    cases h
                    exact ⟨hb, n, rfl, (fun h => by cases h), fun _ => ⟨_, ht⟩, fun _ => hne, (fun h => by cases h), .inr (.inr (.inr (.inr (.inr (.inl rfl)))))⟩
              · split at h
                · rename_i hb
                  unfold pRec at h
                  split at h
                  · cases h
                  · rename_i fs k' hfs
                    cases h
                    exact ⟨hb, n, rfl, (fun h => by cases h), (fun h => by rcases h with h | h <;> cases h), (fun h => by cases h), fun _ => ⟨_, hfs⟩, .inr (.inr (.inr (.inr (.inr (.inr rfl)))))⟩
                · cases h
theorem rChoice_op {s : ByteArray} {a k : Nat} {ty : Ty} (ha : a ≤ s.size) (h : rChoice s a = some (ty, k)) : ty.letters = s.extract a (runEnd isL s (s.size - a) a) ∧ runEnd isL s (s.size - a) a = a + ty.letters.size ∧ 1 ≤ ty.letters.size ∧ ty.letters.size ≤ 8 ∧ ty.op = (bAt s (a + ty.letters.size) == 43) := by
  obtain ⟨_, h2, h3⟩ := rChoice_form h
  have hle := run_le isL s (s.size - a) a
  have hsz : ty.letters.size = runEnd isL s (s.size - a) a - a := by rw [h2, ByteArray.size_extract]; omega
  unfold rChoice at h
  simp only at h
  generalize hE : runEnd isL s (s.size - a) a = E at h hle hsz h2
  split at h
  · cases h
  · rename_i hc
    have he : E = a + ty.letters.size := by omega
    refine ⟨h2, he, by omega, h3, ?_⟩
    rw [← he]
    split at h
    · rename_i h43
      split at h
      · simp only [Option.some.injEq, Prod.mk.injEq] at h; rw [← h.1, h43]; rfl
      · cases h
    · rename_i h43
      split at h
      · simp only [Option.some.injEq, Prod.mk.injEq] at h; rw [← h.1]; simp [h43]
      · cases h

set_option maxHeartbeats 1000000 in
theorem open_any {s : ByteArray} {i k : Nat} {ty : Ty} (hs : s.size ≤ 4096) (hi : i < s.size) (h : rChoice s (i + 1) = some (ty, k)) (w : World) :
    Calls Try.prog 101 #[.string s, .int .i64 i] w fun e w' => e = .returned (.bool ty.op) ∧ w = w' := by
  have _hs : s.size ≤ 9000000 := by omega
  obtain ⟨h1, h2, h3, h4, h5⟩ := rChoice_op (by omega) h
  have hl : ∀ w, Calls Try.prog 34 #[.string s, .int .i64 i] w fun e w' => e = .returned (.string ty.letters) ∧ w = w' := fun w => by rw [h1]; exact flipW (letters_any s i w _hs hi)
  have hat : ∀ w, Calls Try.prog 36 #[.string s, .int .i64 ((i : Int) + 1 + (ty.letters.size : Int)), .int .u8 43] w fun e w' => e = .returned (.bool ty.op) ∧ w = w' := fun w => by
    have := flipW (at_any s ((i : Int) + 1 + (ty.letters.size : Int)) 43 w (by omega) _hs)
    rw [atB_of (i := i + 1 + ty.letters.size) (by omega), ← h5] at this; exact this
  clear h h1 h2 h5
  go_enter Try.func101, Try.ntmps101
  go_wp2_with (first | (go_at_call 34; refine (hl _).mono ?_; rintro e _ ⟨rfl, rfl⟩) | (go_at_call 36; refine (hat _).mono ?_; rintro e _ ⟨rfl, rfl⟩))
  go_ret
  exact ⟨rfl, rfl⟩

def sRet : Option ByteArray → Value
  | some t => .tuple #[.string t, .bool true]
  | none => .tuple #[.string ByteArray.empty, .bool false]
set_option maxHeartbeats 1000000 in
theorem seenChoice_any {s : ByteArray} {i k : Nat} {ty : Ty} (hs : s.size ≤ 4096) (hi : i < s.size) (h : rChoice s (i + 1) = some (ty, k)) (c : Nat) (hc : c < 256) (w : World) :
    Calls Try.prog 79 #[.int .u8 c, .string s, .int .i64 i] w fun e w' => e = .returned (sRet (if pOf ty.letters c < 0 then (if ty.op = true then some (ty.letters.extract 0 1) else none) else some (oneB c))) ∧ Below w.heap.size w w' := by
  have _hs : s.size ≤ 9000000 := by omega
  have ho := fun w => open_any hs hi h w
  obtain ⟨h1, h2, h3, h4, h5⟩ := rChoice_op (by omega) h
  have hl : ∀ w, Calls Try.prog 34 #[.string s, .int .i64 i] w fun e w' => e = .returned (.string ty.letters) ∧ w = w' := fun w => by rw [h1]; exact flipW (letters_any s i w _hs hi)
  obtain ⟨L, hL⟩ : ∃ L, L = ty.letters := ⟨_, rfl⟩
  rw [← hL] at h3 h4 hl ⊢
  obtain ⟨o, hO⟩ : ∃ o, o = ty.op := ⟨_, rfl⟩
  rw [← hO] at ho ⊢
  have HP : Hid (pOf L c = pFrom L c (L.size - 0) 0) := rfl
  obtain ⟨O, hOO⟩ : ∃ O, O = (if pOf L c < 0 then (if o = true then some (L.extract 0 1) else none) else some (oneB c) : Option ByteArray) := ⟨_, rfl⟩
  rw [← hOO]
  have HO : Hid (O = (if pOf L c < 0 then (if o = true then some (L.extract 0 1) else none) else some (oneB c) : Option ByteArray)) := hOO
  clear hOO
  clear h h1 h2 h5 hL hO
  go_enter Try.func79, Try.ntmps79
  go_wp2_with (first | (go_at_call 34; refine (hl _).mono ?_; rintro e _ ⟨rfl, rfl⟩) | (go_at_call 101; refine (ho _).mono ?_; rintro e _ ⟨rfl, rfl⟩))
  go_loop [10] (fun v => ∃ x : Nat, x ≤ L.size ∧ v = .int .i64 x ∧ Hid (pOf L c = pFrom L c (L.size - x) x)) (fun v => L.size - (intOf v).toNat)
  case atStart => exact ⟨0, Nat.zero_le _, rfl, HP⟩
  case round =>
    obtain ⟨x, hx, rfl, hp⟩ := hrel
    by_cases hlt : x < L.size
    · have hbx : Hid (bAt L x = L[x].toNat) := bAt_in L x hlt
      by_cases heq : L[x].toNat = c
      · have heq' : ((L[x].toNat : Int) == (c : Int)) = true := by simp [heq]
        have hr' : Hid (O = some (L.extract x (x + 1))) := by
          show _ = _
          rw [HO.out, pFrom_hit L c x hp.out hlt (by rw [hbx.out, heq]), if_neg (by omega), extract_oneB L x hlt, hbx.out, heq]; rfl
        clear heq
        go_wp2_with fail
        go_ret2
        rw [hr'.out]
        exact ⟨rfl, Below.refl _ _⟩
      · have heq' : ((L[x].toNat : Int) == (c : Int)) = false := by simp; omega
        have hp2 : Hid (pOf L c = pFrom L c (L.size - (x + 1)) (x + 1)) := pFrom_miss L c x hp.out hlt (by rw [hbx.out]; omega)
        go_wp2_with fail
        go_round
        case rel => exact ⟨x + 1, by omega, by go_num, hp2⟩
        case measure => simp [intOf]; omega
    · have hno : pOf L c = -1 := pFrom_end L c x hp.out hlt
      have h0 : (0 : Int) < (L.size : Int) := by omega
      cases o with
      | true =>
        have hr' : Hid (O = some (L.extract 0 1)) := by show _ = _; rw [HO.out, if_pos (by omega)]; rfl
        clear hno
        go_wp2_with fail
        go_ret2
        rw [hr'.out]
        exact ⟨rfl, Below.refl _ _⟩
      | false =>
        have hr' : Hid (O = none) := by show _ = _; rw [HO.out, if_pos (by omega)]; rfl
        clear hno
        go_wp2_with fail
        go_ret2
        rw [hr'.out]
        exact ⟨rfl, Below.refl _ _⟩
end Go.Proofs.Ytkkekopomiehlaa
