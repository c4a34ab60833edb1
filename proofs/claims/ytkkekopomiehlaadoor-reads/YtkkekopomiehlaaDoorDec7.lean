import Derived.Test.YtkkekopomiehlaaDoorDec6
import Derived.Test.YtkkekopomiehlaaDoorProg1
set_option linter.unusedVariables false
set_option linter.unusedSimpArgs false
set_option maxRecDepth 4000
namespace Go.Proofs.YtkkekopomiehlaaDoor
open Go.RowKit

/-- The letters of the fields of a type that a schema tells are bytes. -/
theorem pField_ok {pt : Nat → Option (Ty × Nat)} {ef : Ty → Nat → Option (ByteArray × Nat)} {s : ByteArray} {n i k : Nat} {f : Nat × Ty × ByteArray} (hpt : ∀ i t k, pt i = some (t, k) → okT n t) (h : pField pt ef s i = some (f, k)) : f.1 < 256 ∧ okT n f.2.1 := by
  unfold pField at h
  split at h
  · rename_i hc
    have hb : (bAt s i).toNat < 256 := by have := hc.1; simp [isL] at this; omega
    split at h
    · cases h
    · rename_i t k' ht
      split at h
      · split at h
        · cases h
        · cases h; exact ⟨hb, hpt _ _ _ ht⟩
      · cases h; exact ⟨hb, hpt _ _ _ ht⟩
  · cases h
theorem pFlds_ok {pf : Nat → Option ((Nat × Ty × ByteArray) × Nat)} {s : ByteArray} {n : Nat} (hpf : ∀ i f k, pf i = some (f, k) → f.1 < 256 ∧ okT n f.2.1) : ∀ (m a : Nat) (acc fs : List (Nat × Ty × ByteArray)) (k : Nat), (∀ f ∈ acc, f.1 < 256 ∧ okT n f.2.1) → pFlds pf s m a acc = some (fs, k) → ∀ f ∈ fs, f.1 < 256 ∧ okT n f.2.1
  | 0, _, _, _, _, _, h => by cases h
  | m + 1, a, acc, fs, k, ha, h => by
    rw [pFlds] at h
    split at h
    · cases h
    · rename_i f k' hf
      have hf' := hpf _ _ _ hf
      have hacc : ∀ g ∈ acc ++ [f], g.1 < 256 ∧ okT n g.2.1 := by
        intro g hg
        rcases List.mem_append.1 hg with hg | hg
        · exact ha g hg
        · rw [List.mem_singleton.1 hg]; exact hf'
      split at h
      · cases h
      · split at h
        · cases h; exact hacc
        · split at h
          · exact pFlds_ok hpf m _ _ _ _ hacc h
          · cases h
theorem okT_plain (n : Nat) (ty : Ty) (h1 : ty.inner = []) (h2 : ty.fields = []) : okT n ty := by
  cases n with
  | zero => trivial
  | succ n => exact ⟨(fun t ht => by rw [h1] at ht; exact absurd ht List.not_mem_nil), (fun f hf => by rw [h2] at hf; exact absurd hf List.not_mem_nil)⟩
theorem okT_inner {n : Nat} {ty t : Ty} (h1 : ty.inner = [t]) (h2 : ty.fields = []) (h : okT n t) : okT (n + 1) ty :=
  ⟨(fun u hu => by rw [h1, List.mem_singleton] at hu; rw [hu]; exact h), (fun f hf => by rw [h2] at hf; exact absurd hf List.not_mem_nil)⟩
theorem pType_ok (st : Bool) (s : ByteArray) : ∀ (n i : Nat) (ty : Ty) (k : Nat), pType st s n i = some (ty, k) → okT n ty
  | 0, _, _, _, h => by cases h
  | n + 1, i, ty, k, h => by
    have IH := pType_ok st s n
    rw [pType] at h
    split at h
    · cases h; exact okT_plain _ _ rfl rfl
    · split at h
      · cases h; exact okT_plain _ _ rfl rfl
      · split at h
        · cases h; exact okT_plain _ _ rfl rfl
        · split at h
          · simp only [pChoice] at h
            split at h
            · cases h
            · split at h
              · split at h
                · cases h; exact okT_plain _ _ rfl rfl
                · cases h
              · split at h
                · cases h; exact okT_plain _ _ rfl rfl
                · cases h
          · split at h
            · unfold pList at h
              split at h
              · cases h
              · rename_i t k' ht
                split at h
                · cases h; exact okT_inner rfl rfl (IH _ _ _ ht)
                · cases h
            · split at h
              · unfold pMaybe at h
                split at h
                · cases h
                · rename_i t k' ht
                  first
                  | (split at h
                     · cases h
                     · cases h; exact okT_inner rfl rfl (IH _ _ _ ht))
                  | (cases h; exact okT_inner rfl rfl (IH _ _ _ ht))
              · split at h
                · unfold pRec at h
                  split at h
                  · cases h
                  · rename_i fs k' hfs
                    cases h
                    refine ⟨(fun u hu => absurd hu List.not_mem_nil), ?_⟩
                    exact pFlds_ok (fun i f k hf => pField_ok (fun i t k ht => IH i t k ht) hf) _ _ _ _ _ (fun f hf => absurd hf List.not_mem_nil) hfs
                · cases h
theorem pAll_ok {st : Bool} {s : ByteArray} {ty : Ty} (h : pAll st s = some ty) : okT s.size ty := by
  unfold pAll at h
  split at h
  · cases h
  · rename_i t k ht
    split at h
    · cases h; exact pType_ok _ _ _ _ _ _ ht
    · cases h

/-- The text of the whole data. -/
def decAll (d : ByteArray) (n : Nat) (ty : Ty) : Option ByteArray :=
  match dec d n ty 0 with
  | none => none
  | some (t, k) => if k = d.size then some t else none
def dRet : Option ByteArray → Value
  | some d => .tuple #[.string d, .bool true]
  | none => .tuple #[.string ByteArray.empty, .bool false]
set_option maxHeartbeats 1000000 in
theorem sDecode_any {Tab : World → Prop} (F : FmtOK Tab) {t : ByteArray} (ht : t.size ≤ 4096) {n : Nat} (hn : n ≤ 100) (ty : Ty) (w : World) (ai af : Option Addr) (li ci lf cf : Nat) (hT : Tab w) (hok : okT n ty) (hr : Rep n w ai li ci af lf cf ty) :
    Calls Tryd.prog 21 #[.agg #[.int .i64 ty.kind, .string ty.letters, .bool ty.op, .slice ai li ci, .slice af lf cf], .string t] w fun e w' => e = .returned (dRet (decAll t n ty)) ∧ Below w.heap.size w w' := by
  have hB : ∀ o, Below w.heap.size w (w.alloc o) := fun o => (Below.refl _ _).alloc (Nat.le_refl _) _
  have IH := decodeAt_all F ht n (by omega)
  cases hx : dec t n ty 0 with
  | none =>
    have hr' : Hid (decAll t n ty = none) := by show _ = _; unfold decAll; rw [hx]
    have hcall := fun o => IH.no (Nat.zero_le _) (F.1 _ _ (hB o) hT) hok (hr.keep (hB o)) hx
    clear hx IH
    go_enter Tryd.func21, Tryd.ntmps21
    go_wp2_with (go_at_call 32; refine (hcall _).mono ?_; rintro e w1 ⟨rfl, hb1⟩)
    go_ret2
    rw [hr'.out]
    exact ⟨rfl, (hB _).trans (hb1.mono (by simp))⟩
  | some p =>
    obtain ⟨d, k⟩ := p
    have hcall := fun o => IH.yes (Nat.zero_le _) (F.1 _ _ (hB o) hT) hok (hr.keep (hB o)) hx
    by_cases hk : k = t.size
    · have hk' : ((k : Int) != (t.size : Int)) = false := by simp; omega
      have hr' : Hid (decAll t n ty = some d) := by show _ = _; unfold decAll; rw [hx]; simp only [if_pos hk]
      clear hx IH hk
      go_enter Tryd.func21, Tryd.ntmps21
      go_wp2_with (go_at_call 32; refine (hcall _).mono ?_; rintro e w1 ⟨rfl, hb1⟩)
      go_ret2
      rw [hr'.out]
      exact ⟨rfl, (hB _).trans (hb1.mono (by simp))⟩
    · have hk' : ((k : Int) != (t.size : Int)) = true := by simp; omega
      have hr' : Hid (decAll t n ty = none) := by show _ = _; unfold decAll; rw [hx]; simp only [if_neg hk]
      clear hx IH hk
      go_enter Tryd.func21, Tryd.ntmps21
      go_wp2_with (go_at_call 32; refine (hcall _).mono ?_; rintro e w1 ⟨rfl, hb1⟩)
      go_ret2
      rw [hr'.out]
      exact ⟨rfl, (hB _).trans (hb1.mono (by simp))⟩

/-- What 'Decode' answers: the text, the error. -/
def decOut (st : Bool) (s d : ByteArray) : ByteArray × Int :=
  if 60 < s.size ∨ 64 < d.size then (ByteArray.empty, 1) else
    match pAll st s with
    | none => (ByteArray.empty, 2)
    | some ty =>
      match decAll d s.size ty with
      | none => (ByteArray.empty, 5)
      | some t => (t, 0)

set_option maxHeartbeats 1000000 in
theorem Decode_any {Tab : World → Prop} (F : FmtOK Tab) (s t : ByteArray) (hs : s.size ≤ maxLen) (ht : t.size ≤ maxLen) (w : World) (hT : Tab w) :
    Calls Tryd.prog 9 #[.string s, .string t] w fun e w' => e = .returned (.tuple #[.string (decOut false s t).1, .int .i64 (decOut false s t).2]) ∧ Below w.heap.size w w' := by
  by_cases h1 : 64 < t.size
  · have hr : Hid (decOut false s t = (ByteArray.empty, 1)) := by show _ = _; unfold decOut; rw [if_pos (.inr h1)]
    unfold maxLen at hs ht
    go_enter Tryd.func9, Tryd.ntmps9
    go_wp2_with fail
    go_ret2
    rw [hr.out]
    exact ⟨rfl, Below.refl _ _⟩
  · by_cases h2 : 60 < s.size
    · have hr : Hid (decOut false s t = (ByteArray.empty, 1)) := by show _ = _; unfold decOut; rw [if_pos (.inl h2)]
      have hcall := fun w => typeOf_long h2 hs w
      clear hs ht
      go_enter Tryd.func9, Tryd.ntmps9
      go_wp2_with (go_at_call 20; refine (hcall _).mono ?_; rintro e w1 ⟨rfl, hb1⟩)
      go_ret2
      rw [hr.out]
      exact ⟨rfl, Below.alloc' hb1 _⟩
    · have h0 : ¬ (60 < s.size ∨ 64 < t.size) := by omega
      cases hx : pAll false s with
      | none =>
        have hr : Hid (decOut false s t = (ByteArray.empty, 2)) := by show _ = _; unfold decOut; rw [if_neg h0, hx]
        have hcall := fun w => TRet_no (typeOf_any (s := s) (by omega) w) hx
        clear hs ht hx
        go_enter Tryd.func9, Tryd.ntmps9
        go_wp2_with (go_at_call 20; refine (hcall _).mono ?_; rintro e w1 ⟨rfl, hb1⟩)
        go_ret2
        rw [hr.out]
        exact ⟨rfl, Below.alloc' hb1 _⟩
      | some ty =>
        have hcall := fun w => TRet_yes (typeOf_any (s := s) (by omega) w) hx
        have he := fun (W : World) (o : Obj) (ai : Option Addr) (li ci : Nat) (af : Option Addr) (lf cf : Nat) (S : Nat → Prop) (hTW : Tab W) (h : RepB S s.size W ai li ci af lf cf ty) => sDecode_any F (t := t) (by omega) (show s.size ≤ 100 by omega) ty (W.alloc o) ai af li ci lf cf (F.1 _ _ ((Below.refl _ _).alloc (Nat.le_refl _) _) hTW) (pAll_ok hx) (h.rep.keep ((Below.refl _ _).alloc (Nat.le_refl _) _))
        cases hy : decAll t s.size ty with
        | none =>
          have hr : Hid (decOut false s t = (ByteArray.empty, 5)) := by show _ = _; unfold decOut; rw [if_neg h0, hx]; simp only [hy]
          rw [hy] at he
          simp only [dRet] at he
          clear hs ht hx hy
          go_enter Tryd.func9, Tryd.ntmps9
          go_wp2_with (first | (go_at_call 20; refine (hcall _).mono ?_; rintro e w1 ⟨ai, li, ci, af, lf, cf, rfl, hr1, hb1⟩) | (go_at_call 21; refine (he _ _ _ _ _ _ _ _ _ (F.1 _ _ hb1 hT) hr1).mono ?_; rintro e w2 ⟨rfl, hb2⟩))
          go_ret2
          rw [hr.out]
          exact ⟨rfl, (Below.alloc' hb1 _).trans (hb2.mono (by have := hb1.size; simp; omega))⟩
        | some d =>
          rw [hy] at he
          simp only [dRet] at he
          have hr : Hid (decOut false s t = (d, 0)) := by show _ = _; unfold decOut; rw [if_neg h0, hx]; simp only [hy]
          clear hs ht hx hy
          go_enter Tryd.func9, Tryd.ntmps9
          go_wp2_with (first | (go_at_call 20; refine (hcall _).mono ?_; rintro e w1 ⟨ai, li, ci, af, lf, cf, rfl, hr1, hb1⟩) | (go_at_call 21; refine (he _ _ _ _ _ _ _ _ _ (F.1 _ _ hb1 hT) hr1).mono ?_; rintro e w2 ⟨rfl, hb2⟩))
          go_ret2
          rw [hr.out]
          exact ⟨rfl, (Below.alloc' hb1 _).trans (hb2.mono (by have := hb1.size; simp; omega))⟩
end Go.Proofs.YtkkekopomiehlaaDoor
