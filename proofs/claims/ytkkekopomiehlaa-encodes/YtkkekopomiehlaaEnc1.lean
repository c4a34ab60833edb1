import Derived.Test.YtkkekopomiehlaaProg1
set_option linter.unusedVariables false
set_option linter.unusedSimpArgs false
namespace Go.Proofs.Ytkkekopomiehlaa
open Go.RowKit

/-- The data of a whole text. -/
def encAll (st : Bool) (t : ByteArray) (n : Nat) (ty : Ty) : Option ByteArray :=
  match enc st t n ty 0 with
  | none => none
  | some (d, k) => if k = t.size then some d else none
def eRet : Option ByteArray → Value
  | some d => .tuple #[.string d, .bool true]
  | none => .tuple #[.string ByteArray.empty, .bool false]

set_option maxHeartbeats 1000000 in
theorem sEncode_any {t : ByteArray} (ht : t.size ≤ 4096) {n : Nat} (hn : n ≤ 100) (ty : Ty) (w : World) (ai af : Option Addr) (li ci lf cf : Nat) (hr : Rep n w ai li ci af lf cf ty) :
    Calls Try.prog 19 #[.agg #[.int .i64 ty.kind, .string ty.letters, .bool ty.op, .slice ai li ci, .slice af lf cf], .string t] w fun e w' => e = .returned (eRet (encAll false t n ty)) ∧ Below w.heap.size w w' := by
  have hB : ∀ o, Below w.heap.size w (w.alloc o) := fun o => (Below.refl _ _).alloc (Nat.le_refl _) _
  have IH := encodeAt_all ht n (by omega)
  cases hx : enc false t n ty 0 with
  | none =>
    have hr' : Hid (encAll false t n ty = none) := by show _ = _; unfold encAll; rw [hx]
    have hcall := fun o => IH.no (Nat.zero_le _) (hr.keep (hB o)) hx
    clear hx IH
    go_enter Try.func19, Try.ntmps19
    go_wp2_with (go_at_call 38; refine (hcall _).mono ?_; rintro e w1 ⟨rfl, hb1⟩)
    go_ret2
    rw [hr'.out]
    exact ⟨rfl, (hB _).trans (hb1.mono (by simp))⟩
  | some p =>
    obtain ⟨d, k⟩ := p
    have hcall := fun o => IH.yes (Nat.zero_le _) (hr.keep (hB o)) hx
    by_cases hk : k = t.size
    · have hk' : ((k : Int) != (t.size : Int)) = false := by simp; omega
      have hr' : Hid (encAll false t n ty = some d) := by show _ = _; unfold encAll; rw [hx]; simp only [if_pos hk]
      clear hx IH hk
      go_enter Try.func19, Try.ntmps19
      go_wp2_with (go_at_call 38; refine (hcall _).mono ?_; rintro e w1 ⟨rfl, hb1⟩)
      go_ret2
      rw [hr'.out]
      exact ⟨rfl, (hB _).trans (hb1.mono (by simp))⟩
    · have hk' : ((k : Int) != (t.size : Int)) = true := by simp; omega
      have hr' : Hid (encAll false t n ty = none) := by show _ = _; unfold encAll; rw [hx]; simp only [if_neg hk]
      clear hx IH hk
      go_enter Try.func19, Try.ntmps19
      go_wp2_with (go_at_call 38; refine (hcall _).mono ?_; rintro e w1 ⟨rfl, hb1⟩)
      go_ret2
      rw [hr'.out]
      exact ⟨rfl, (hB _).trans (hb1.mono (by simp))⟩

/-- What 'Encode' answers: the data, the error. -/
def encOut (st : Bool) (s t : ByteArray) : ByteArray × Int :=
  if 60 < s.size ∨ 4096 < t.size then (ByteArray.empty, 1) else
    match pAll st s with
    | none => (ByteArray.empty, 2)
    | some ty =>
      match encAll st t s.size ty with
      | none => (ByteArray.empty, 3)
      | some d => if 64 < d.size then (ByteArray.empty, 4) else (d, 0)

theorem encAll_bd {st : Bool} {t d : ByteArray} {n : Nat} {ty : Ty} (h : encAll st t n ty = some d) (ht : t.size ≤ 4096) (hn : n ≤ 100) : d.size ≤ 4000000 := by
  unfold encAll at h
  rcases hx : enc st t n ty 0 with _ | ⟨d', k⟩
  · rw [hx] at h; cases h
  · rw [hx] at h
    simp only at h
    split at h
    · cases h
      have := enc_bd hx
      exact data_small this.2.2 hn (by omega)
    · cases h

set_option maxHeartbeats 1000000 in
theorem Encode_any (s t : ByteArray) (hs : s.size ≤ maxLen) (ht : t.size ≤ maxLen) (w : World) :
    Calls Try.prog 9 #[.string s, .string t] w fun e w' => e = .returned (.tuple #[.string (encOut false s t).1, .int .i64 (encOut false s t).2]) ∧ Below w.heap.size w w' := by
  by_cases h1 : 4096 < t.size
  · have hr : Hid (encOut false s t = (ByteArray.empty, 1)) := by show _ = _; unfold encOut; rw [if_pos (.inr h1)]
    unfold maxLen at hs ht
    go_enter Try.func9, Try.ntmps9
    go_wp2_with fail
    go_ret2
    rw [hr.out]
    exact ⟨rfl, Below.refl _ _⟩
  · by_cases h2 : 60 < s.size
    · have hr : Hid (encOut false s t = (ByteArray.empty, 1)) := by show _ = _; unfold encOut; rw [if_pos (.inl h2)]
      have hcall := fun w => typeOf_long h2 hs w
      clear hs ht
      go_enter Try.func9, Try.ntmps9
      go_wp2_with (go_at_call 17; refine (hcall _).mono ?_; rintro e w1 ⟨rfl, hb1⟩)
      go_ret2
      rw [hr.out]
      exact ⟨rfl, Below.alloc' hb1 _⟩
    · have h0 : ¬ (60 < s.size ∨ 4096 < t.size) := by omega
      cases hx : pAll false s with
      | none =>
        have hr : Hid (encOut false s t = (ByteArray.empty, 2)) := by show _ = _; unfold encOut; rw [if_neg h0, hx]
        have hcall := fun w => TRet_no (typeOf_any (s := s) (by omega) w) hx
        clear hs ht hx
        go_enter Try.func9, Try.ntmps9
        go_wp2_with (go_at_call 17; refine (hcall _).mono ?_; rintro e w1 ⟨rfl, hb1⟩)
        go_ret2
        rw [hr.out]
        exact ⟨rfl, Below.alloc' hb1 _⟩
      | some ty =>
        have hcall := fun w => TRet_yes (typeOf_any (s := s) (by omega) w) hx
        have he := fun (W : World) (o : Obj) (ai : Option Addr) (li ci : Nat) (af : Option Addr) (lf cf : Nat) (S : Nat → Prop) (h : RepB S s.size W ai li ci af lf cf ty) => sEncode_any (t := t) (by omega) (show s.size ≤ 100 by omega) ty (W.alloc o) ai af li ci lf cf (h.rep.keep ((Below.refl _ _).alloc (Nat.le_refl _) _))
        cases hy : encAll false t s.size ty with
        | none =>
          have hr : Hid (encOut false s t = (ByteArray.empty, 3)) := by show _ = _; unfold encOut; rw [if_neg h0, hx]; simp only [hy]
          rw [hy] at he
          simp only [eRet] at he
          clear hs ht hx hy
          go_enter Try.func9, Try.ntmps9
          go_wp2_with (first | (go_at_call 17; refine (hcall _).mono ?_; rintro e w1 ⟨ai, li, ci, af, lf, cf, rfl, hr1, hb1⟩) | (go_at_call 19; refine (he _ _ _ _ _ _ _ _ _ hr1).mono ?_; rintro e w2 ⟨rfl, hb2⟩))
          go_ret2
          rw [hr.out]
          exact ⟨rfl, (Below.alloc' hb1 _).trans (hb2.mono (by have := hb1.size; simp; omega))⟩
        | some d =>
          have hds := encAll_bd hy (by omega) (by omega)
          rw [hy] at he
          simp only [eRet] at he
          by_cases h64 : 64 < d.size
          · have hr : Hid (encOut false s t = (ByteArray.empty, 4)) := by show _ = _; unfold encOut; rw [if_neg h0, hx]; simp only [hy, if_pos h64]
            clear hs ht hx hy
            go_enter Try.func9, Try.ntmps9
            go_wp2_with (first | (go_at_call 17; refine (hcall _).mono ?_; rintro e w1 ⟨ai, li, ci, af, lf, cf, rfl, hr1, hb1⟩) | (go_at_call 19; refine (he _ _ _ _ _ _ _ _ _ hr1).mono ?_; rintro e w2 ⟨rfl, hb2⟩))
            go_ret2
            rw [hr.out]
            exact ⟨rfl, (Below.alloc' hb1 _).trans (hb2.mono (by have := hb1.size; simp; omega))⟩
          · have hr : Hid (encOut false s t = (d, 0)) := by show _ = _; unfold encOut; rw [if_neg h0, hx]; simp only [hy, if_neg h64]
            clear hs ht hx hy
            go_enter Try.func9, Try.ntmps9
            go_wp2_with (first | (go_at_call 17; refine (hcall _).mono ?_; rintro e w1 ⟨ai, li, ci, af, lf, cf, rfl, hr1, hb1⟩) | (go_at_call 19; refine (he _ _ _ _ _ _ _ _ _ hr1).mono ?_; rintro e w2 ⟨rfl, hb2⟩))
            go_ret2
            rw [hr.out]
            exact ⟨rfl, (Below.alloc' hb1 _).trans (hb2.mono (by have := hb1.size; simp; omega))⟩
end Go.Proofs.Ytkkekopomiehlaa
