import Derived.Test.YtnlipjilhldiiaaParse6
import Derived.Test.YtnlipjilhldiiaaEq3
import Derived.Test.YtnlipjilhldiiaaRef8
import Derived.Test.YtnlipjilhldiiaaSn6
set_option linter.unusedVariables false
set_option linter.unusedSimpArgs false
namespace Go.Proofs.Ytnlipjilhldiiaa
open Go.RowKit

/-- The type that a schema tells. -/
def pAll (st : Bool) (s : ByteArray) : Option Ty :=
  match pType st s s.size 0 with
  | none => none
  | some (t, k) => if k = s.size then some t else none

/-- What 'Parse' and 'typeOf' hand back: 'no' and 'yes' are the second results. -/
def TRet (B n : Nat) (no yes : Value) (r : Option Ty) (e : Ending) (w' : World) : Prop :=
  match r with
  | some ty => ∃ ai li ci af lf cf, e = .returned (.tuple #[.agg #[.int .i64 ty.kind, .string ty.letters, .bool ty.op, .slice ai li ci, .slice af lf cf], yes]) ∧ RepB (fun b => B ≤ b) n w' ai li ci af lf cf ty
  | none => e = .returned (.tuple #[.agg #[.int .i64 0, .string ByteArray.empty, .bool false, .slice none 0 0, .slice none 0 0], no])
theorem TRet_no {f : FuncId} {args : Array Value} {w : World} {B n : Nat} {no yes : Value} {r : Option Ty} (h : Calls Try.prog f args w fun e w' => TRet B n no yes r e w' ∧ Below w.heap.size w w') (hr : r = none) :
    Calls Try.prog f args w fun e w' => e = .returned (.tuple #[.agg #[.int .i64 0, .string ByteArray.empty, .bool false, .slice none 0 0, .slice none 0 0], no]) ∧ Below w.heap.size w w' := by
  refine h.mono ?_
  rintro e w' ⟨h1, h2⟩; rw [hr] at h1; exact ⟨h1, h2⟩
theorem TRet_yes {f : FuncId} {args : Array Value} {w : World} {B n : Nat} {no yes : Value} {r : Option Ty} {ty : Ty} (h : Calls Try.prog f args w fun e w' => TRet B n no yes r e w' ∧ Below w.heap.size w w') (hr : r = some ty) :
    Calls Try.prog f args w fun e w' => ∃ ai li ci af lf cf, e = .returned (.tuple #[.agg #[.int .i64 ty.kind, .string ty.letters, .bool ty.op, .slice ai li ci, .slice af lf cf], yes]) ∧ RepB (fun b => B ≤ b) n w' ai li ci af lf cf ty ∧ Below w.heap.size w w' := by
  refine h.mono ?_
  rintro e w' ⟨h1, h2⟩; rw [hr] at h1; obtain ⟨ai, li, ci, af, lf, cf, h1, h3⟩ := h1; exact ⟨ai, li, ci, af, lf, cf, h1, h3, h2⟩

set_option maxHeartbeats 1000000 in
theorem Parse_any {s : ByteArray} (hs : s.size ≤ 60) (w : World) :
    Calls Try.prog 33 #[.string s] w fun e w' => TRet w.heap.size s.size (.bool false) (.bool true) (pAll false s) e w' ∧ Below w.heap.size w w' := by
  have _hs : s.size ≤ 9000000 := by omega
  have hB : ∀ o, Below w.heap.size w (w.alloc o) := fun o => (Below.refl _ _).alloc (Nat.le_refl _) _
  have IH := parseType_all (s := s) (by omega) s.size (by omega)
  cases hx : pType false s s.size 0 with
  | none =>
    have hr' : Hid (pAll false s = none) := by show _ = _; unfold pAll; rw [hx]
    have hcall := fun w => IH.no w (Nat.zero_le _) (by omega) hx
    clear hx IH
    go_enter Try.func33, Try.ntmps33
    go_wp2_with (go_at_call 60; refine (hcall _).mono ?_; rintro e w1 ⟨k', rfl, hb1⟩; obtain ⟨hc1, hf1⟩ := bcell hb1; have hz1 : w.heap.size < w1.heap.size := (by have := hb1.size; simp at this; omega))
    refine bodyPost_ret (v := .tuple #[.agg #[.int .i64 0, .string ByteArray.empty, .bool false, .slice none 0 0, .slice none 0 0], .bool false]) (by simp [results, Try.results33, go_sem, hc1, hz1]; rfl) rfl ?_
    rw [hr'.out]
    exact ⟨rfl, Below.alloc' (Below.set5 ((hB _).trans (hb1.mono (by simp))) (Nat.le_refl _)) _⟩
  | some p =>
    obtain ⟨ty, k⟩ := p
    have hcall := fun w => IH.yes w (Nat.zero_le _) (by omega) hx
    by_cases hk : k = s.size
    · subst hk
      have hk' : ((s.size : Int) != (s.size : Int)) = false := by simp
      have hr' : Hid (pAll false s = some ty) := by show _ = _; unfold pAll; rw [hx]; simp only [if_true]
      clear hx IH
      go_enter Try.func33, Try.ntmps33
      go_wp2_with (go_at_call 60; refine (hcall _).mono ?_; rintro e w1 ⟨ai, li, ci, af, lf, cf, rfl, hr1, hb1⟩; obtain ⟨hc1, hf1⟩ := bcell hb1; have hz1 : w.heap.size < w1.heap.size := (by have := hb1.size; simp at this; omega))
      refine bodyPost_ret (v := .tuple #[.agg #[.int .i64 ty.kind, .string ty.letters, .bool ty.op, .slice ai li ci, .slice af lf cf], .bool true]) (by simp [results, Try.results33, go_sem, hc1, hz1]) rfl ?_
      rw [hr'.out]
      exact ⟨⟨ai, li, ci, af, lf, cf, rfl, (hr1.keep (fun b o v hS h => cell_new _ (cell_set5 h (by simp at hS; omega)))).imp (fun b _ h => by simp at h; omega)⟩, Below.alloc' (Below.set5 ((hB _).trans (hb1.mono (by simp))) (Nat.le_refl _)) _⟩
    · have hk' : ((k : Int) != (s.size : Int)) = true := by simp; omega
      have hr' : Hid (pAll false s = none) := by show _ = _; unfold pAll; rw [hx]; simp only [if_neg hk]
      clear hx IH
      go_enter Try.func33, Try.ntmps33
      go_wp2_with (go_at_call 60; refine (hcall _).mono ?_; rintro e w1 ⟨ai, li, ci, af, lf, cf, rfl, hr1, hb1⟩; obtain ⟨hc1, hf1⟩ := bcell hb1; have hz1 : w.heap.size < w1.heap.size := (by have := hb1.size; simp at this; omega))
      refine bodyPost_ret (v := .tuple #[.agg #[.int .i64 0, .string ByteArray.empty, .bool false, .slice none 0 0, .slice none 0 0], .bool false]) (by simp [results, Try.results33, go_sem, hc1, hz1]; rfl) rfl ?_
      rw [hr'.out]
      exact ⟨rfl, Below.alloc' (Below.set5 ((hB _).trans (hb1.mono (by simp))) (Nat.le_refl _)) _⟩

set_option maxHeartbeats 1000000 in
theorem typeOf_long {s : ByteArray} (hs : 60 < s.size) (hm : s.size ≤ maxLen) (w : World) :
    Calls Try.prog 17 #[.string s] w fun e w' => e = .returned (.tuple #[.agg #[.int .i64 0, .string ByteArray.empty, .bool false, .slice none 0 0, .slice none 0 0], .int .i64 1]) ∧ Below w.heap.size w w' := by
  unfold maxLen at hm
  go_enter Try.func17, Try.ntmps17
  go_wp2_with fail
  exact bodyPost_ret (v := .tuple #[.agg #[.int .i64 0, .string ByteArray.empty, .bool false, .slice none 0 0, .slice none 0 0], .int .i64 1]) (by simp [results, Try.results17, go_sem]; rfl) rfl ⟨rfl, (Below.refl _ _).alloc (Nat.le_refl _) _⟩

set_option maxHeartbeats 1000000 in
theorem typeOf_any {s : ByteArray} (hs : s.size ≤ 60) (w : World) :
    Calls Try.prog 17 #[.string s] w fun e w' => TRet w.heap.size s.size (.int .i64 2) (.int .i64 0) (pAll false s) e w' ∧ Below w.heap.size w w' := by
  have _hs : s.size ≤ 9000000 := by omega
  have hB : ∀ o, Below w.heap.size w (w.alloc o) := fun o => (Below.refl _ _).alloc (Nat.le_refl _) _
  cases hx : pAll false s with
  | none =>
    have hcall := fun w => TRet_no (Parse_any hs w) hx
    clear hx
    go_enter Try.func17, Try.ntmps17
    go_wp2_with (go_at_call 33; refine (hcall _).mono ?_; rintro e w1 ⟨rfl, hb1⟩; obtain ⟨hc1, hf1⟩ := bcell hb1; have hz1 : w.heap.size < w1.heap.size := (by have := hb1.size; simp at this; omega))
    exact bodyPost_ret (v := .tuple #[.agg #[.int .i64 0, .string ByteArray.empty, .bool false, .slice none 0 0, .slice none 0 0], .int .i64 2]) (by simp [results, Try.results17, go_sem, hc1, hz1]; rfl) rfl ⟨rfl, Below.alloc' (Below.set5 ((hB _).trans (hb1.mono (by simp))) (Nat.le_refl _)) _⟩
  | some ty =>
    have hcall := fun w => TRet_yes (Parse_any hs w) hx
    clear hx
    go_enter Try.func17, Try.ntmps17
    go_wp2_with (go_at_call 33; refine (hcall _).mono ?_; rintro e w1 ⟨ai, li, ci, af, lf, cf, rfl, hr1, hb1⟩; obtain ⟨hc1, hf1⟩ := bcell hb1; have hz1 : w.heap.size < w1.heap.size := (by have := hb1.size; simp at this; omega))
    refine bodyPost_ret (v := .tuple #[.agg #[.int .i64 ty.kind, .string ty.letters, .bool ty.op, .slice ai li ci, .slice af lf cf], .int .i64 0]) (by simp [results, Try.results17, go_sem, hc1, hz1]) rfl ?_
    exact ⟨⟨ai, li, ci, af, lf, cf, rfl, (hr1.keep (fun b o v hS h => cell_new _ (cell_set5 h (by simp at hS; omega)))).imp (fun b _ h => by simp at h; omega)⟩, Below.alloc' (Below.set5 ((hB _).trans (hb1.mono (by simp))) (Nat.le_refl _)) _⟩

/-- What 'Check' answers. -/
def chk (st : Bool) (s : ByteArray) : Int := if 60 < s.size then 1 else if (pAll st s).isSome = true then 0 else 2

end Go.Proofs.Ytnlipjilhldiiaa
set_option linter.unusedVariables false
set_option linter.unusedSimpArgs false
namespace Go.Proofs.Ytnlipjilhldiiaa

/-- 'g' gives what 'f' gives, but where a '-' stands behind. -/
def Rel (t : ByteArray) (f g : Nat → Option (ByteArray × Nat)) : Prop := (∀ j d k, g j = some (d, k) → f j = some (d, k)) ∧ (∀ j d k, f j = some (d, k) → bAt t k ≠ 45 → g j = some (d, k))
theorem Rel.refl (t : ByteArray) (f : Nat → Option (ByteArray × Nat)) : Rel t f f := ⟨fun _ _ _ h => h, fun _ _ _ h _ => h⟩
theorem Rel.none {t : ByteArray} {f g : Nat → Option (ByteArray × Nat)} (h : Rel t f g) {j : Nat} (hf : f j = none) : g j = none := by
  rcases hg : g j with _ | ⟨d, k⟩
  · rfl
  · rw [h.1 _ _ _ hg] at hf; cases hf
theorem encNum_rel (lo hi : Int) (t : ByteArray) : Rel t (encNum false lo hi t) (encNum true lo hi t) := by
  constructor
  · intro j d k h
    unfold encNum at h ⊢
    split at h
    · cases h
    · split at h
      · cases h
      · rename_i hr
        split at h
        · cases h
        · simp only [if_neg hr]; simpa using h
  · intro j d k h hk
    unfold encNum at h ⊢
    split at h
    · cases h
    · split at h
      · cases h
      · rename_i hr
        simp only [if_neg hr]
        simp at h
        rw [if_neg (by rw [h.2]; exact fun x => hk x.2)]
        simp [h]
theorem encItems_rel {t : ByteArray} {f g : Nat → Option (ByteArray × Nat)} (h : Rel t f g) : ∀ (m c b : Nat) (d : ByteArray), encItems g t m c b d = encItems f t m c b d
  | 0, c, b, d => rfl
  | m + 1, c, b, d => by
    rw [encItems, encItems]
    rcases hf : f (b + 1) with _ | ⟨x, k⟩
    · rw [h.none hf]
    · by_cases h45 : bAt t k = 45
      · simp only [if_neg (show ¬ bAt t k = 93 by omega), if_neg (show ¬ bAt t k = 44 by omega)]
        rcases hg : g (b + 1) with _ | ⟨x', k'⟩
        · rfl
        · have := h.1 _ _ _ hg
          rw [hf] at this
          simp only [Option.some.injEq, Prod.mk.injEq] at this
          obtain ⟨rfl, rfl⟩ := this
          simp only [if_neg (show ¬ bAt t k = 93 by omega), if_neg (show ¬ bAt t k = 44 by omega)]
      · rw [h.2 _ _ _ hf h45]
        simp only
        rw [encItems_rel h m (c + 1) k (d ++ x)]
theorem encFlds_minus {t : ByteArray} {f : Ty → Nat → Option (ByteArray × Nat)} {fs : List (Nat × Ty × ByteArray)} {b : Nat} {d : ByteArray} (h : bAt t b = 45) : encFlds f t fs 44 b d = none := by
  cases fs with
  | nil => rw [encFlds, if_neg (by omega)]
  | cons g fs => rw [encFlds, if_neg (by omega)]
theorem encFlds_rel {t : ByteArray} {f g : Ty → Nat → Option (ByteArray × Nat)} (h : ∀ ty, Rel t (f ty) (g ty)) : ∀ (fs : List (Nat × Ty × ByteArray)) (mk : Int) (b : Nat) (d : ByteArray), encFlds g t fs mk b d = encFlds f t fs mk b d
  | [], mk, b, d => by rw [encFlds, encFlds]
  | x :: fs, mk, b, d => by
    rw [encFlds, encFlds]
    split
    · rcases hf : f x.2.1 (b + 3) with _ | ⟨y, k⟩
      · rw [(h _).none hf]
      · by_cases h45 : bAt t k = 45
        · simp only
          rw [encFlds_minus h45]
          rcases hg : g x.2.1 (b + 3) with _ | ⟨y', k'⟩
          · rfl
          · have := (h _).1 _ _ _ hg
            rw [hf] at this
            simp only [Option.some.injEq, Prod.mk.injEq] at this
            obtain ⟨rfl, rfl⟩ := this
            simp only
            exact encFlds_minus h45
        · rw [(h _).2 _ _ _ hf h45]
          simp only
          exact encFlds_rel h fs 44 k (d ++ y)
    · rfl
theorem encMaybe_rel {t : ByteArray} {f g : Nat → Option (ByteArray × Nat)} (h : Rel t f g) : Rel t (encMaybe f t) (encMaybe g t) := by
  constructor
  · intro j d k hj
    unfold encMaybe at hj ⊢
    split at hj
    · rename_i hc; rw [if_pos hc]; exact hj
    · rename_i hc; rw [if_neg hc]
      rcases hg : g j with _ | ⟨x, k'⟩
      · rw [hg] at hj; cases hj
      · rw [hg] at hj; rw [h.1 _ _ _ hg]; exact hj
  · intro j d k hj hk
    unfold encMaybe at hj ⊢
    split at hj
    · rename_i hc; rw [if_pos hc]; exact hj
    · rename_i hc; rw [if_neg hc]
      rcases hf : f j with _ | ⟨x, k'⟩
      · rw [hf] at hj; cases hj
      · rw [hf] at hj
        simp only [Option.some.injEq, Prod.mk.injEq] at hj
        rw [h.2 _ _ _ hf (by rw [hj.2]; exact hk)]
        simp [hj]
theorem enc_rel (t : ByteArray) : ∀ (n : Nat) (ty : Ty), Rel t (enc false t n ty) (enc true t n ty)
  | 0, ty => ⟨fun j d k h => by simp [enc] at h, fun j d k h => by simp [enc] at h⟩
  | n + 1, ty => by
    have ih := enc_rel t n
    have eF : ∀ j, enc false t (n + 1) ty j = _ := fun j => by rw [enc]
    have eT : ∀ j, enc true t (n + 1) ty j = _ := fun j => by rw [enc]
    have key : ∀ (a b : Nat → Option (ByteArray × Nat)), (∀ j, enc false t (n + 1) ty j = a j) → (∀ j, enc true t (n + 1) ty j = b j) → Rel t a b → Rel t (enc false t (n + 1) ty) (enc true t (n + 1) ty) := fun a b ha hb h =>
      ⟨fun j d k hj => by rw [ha]; rw [hb] at hj; exact h.1 j d k hj, fun j d k hj hk => by rw [hb]; rw [ha] at hj; exact h.2 j d k hj hk⟩
    by_cases h1 : ty.kind = 105
    · exact key _ _ (fun j => by rw [enc, if_pos h1]) (fun j => by rw [enc, if_pos h1]) (encNum_rel _ _ t)
    by_cases h2 : ty.kind = 108
    · exact key _ _ (fun j => by rw [enc, if_neg h1, if_pos h2]) (fun j => by rw [enc, if_neg h1, if_pos h2]) (encNum_rel _ _ t)
    by_cases h3 : ty.kind = 115
    · exact key _ _ (fun j => by rw [enc, if_neg h1, if_neg h2, if_pos h3]) (fun j => by rw [enc, if_neg h1, if_neg h2, if_pos h3]) (Rel.refl t _)
    by_cases h4 : ty.kind = 60
    · exact key (encCho ty.letters t) (encCho ty.letters t) (fun j => by rw [enc, if_neg h1, if_neg h2, if_neg h3, if_pos h4]; rfl) (fun j => by rw [enc, if_neg h1, if_neg h2, if_neg h3, if_pos h4]; rfl) (Rel.refl t _)
    by_cases h5 : ty.kind = 91
    · refine key (encList (enc false t n ty.in) t) (encList (enc false t n ty.in) t) (fun j => by rw [enc, if_neg h1, if_neg h2, if_neg h3, if_neg h4, if_pos h5]) (fun j => ?_) (Rel.refl t _)
      rw [enc, if_neg h1, if_neg h2, if_neg h3, if_neg h4, if_pos h5]
      unfold encList
      rw [encItems_rel (ih ty.in)]
    by_cases h6 : ty.kind = 63
    · exact key _ _ (fun j => by rw [enc, if_neg h1, if_neg h2, if_neg h3, if_neg h4, if_neg h5, if_pos h6]) (fun j => by rw [enc, if_neg h1, if_neg h2, if_neg h3, if_neg h4, if_neg h5, if_pos h6]) (encMaybe_rel (ih ty.in))
    by_cases h7 : ty.kind = 123
    · exact key (fun j => encFlds (enc false t n) t ty.fields 123 j ByteArray.empty) (fun j => encFlds (enc false t n) t ty.fields 123 j ByteArray.empty) (fun j => by rw [enc, if_neg h1, if_neg h2, if_neg h3, if_neg h4, if_neg h5, if_neg h6, if_pos h7]) (fun j => by
        rw [enc, if_neg h1, if_neg h2, if_neg h3, if_neg h4, if_neg h5, if_neg h6, if_pos h7, encFlds_rel ih]) (Rel.refl t _)
    · exact key (fun _ => none) (fun _ => none) (fun j => by rw [enc, if_neg h1, if_neg h2, if_neg h3, if_neg h4, if_neg h5, if_neg h6, if_neg h7]) (fun j => by rw [enc, if_neg h1, if_neg h2, if_neg h3, if_neg h4, if_neg h5, if_neg h6, if_neg h7]) (Rel.refl t _)
theorem pField_rel {pt : Nat → Option (Ty × Nat)} {ef eg : Ty → Nat → Option (ByteArray × Nat)} {s : ByteArray} (h : ∀ ty, Rel s (ef ty) (eg ty)) :
    (∀ a f k, pField pt eg s a = some (f, k) → pField pt ef s a = some (f, k)) ∧ (∀ a f k, pField pt ef s a = some (f, k) → bAt s k ≠ 45 → pField pt eg s a = some (f, k)) := by
  constructor
  · intro a f k hx
    unfold pField at hx ⊢
    split at hx
    · rename_i hc; rw [if_pos hc]
      rcases hp : pt (a + 2) with _ | ⟨ty, k'⟩
      · rw [hp] at hx; cases hx
      · rw [hp] at hx
        simp only at hx ⊢
        split at hx
        · rename_i h6; rw [if_pos h6]
          rcases hy : eg ty (k' + 1) with _ | ⟨d, m⟩
          · rw [hy] at hx; cases hx
          · rw [hy] at hx; rw [(h ty).1 _ _ _ hy]; exact hx
        · rename_i h6; rw [if_neg h6]; exact hx
    · cases hx
  · intro a f k hx hk
    unfold pField at hx ⊢
    split at hx
    · rename_i hc; rw [if_pos hc]
      rcases hp : pt (a + 2) with _ | ⟨ty, k'⟩
      · rw [hp] at hx; cases hx
      · rw [hp] at hx
        simp only at hx ⊢
        split at hx
        · rename_i h6; rw [if_pos h6]
          rcases hy : ef ty (k' + 1) with _ | ⟨d, m⟩
          · rw [hy] at hx; cases hx
          · rw [hy] at hx
            have hx2 := hx
            simp only [Option.some.injEq, Prod.mk.injEq] at hx2
            rw [(h ty).2 _ _ _ hy (by rw [hx2.2]; exact hk)]; exact hx
        · rename_i h6; rw [if_neg h6]; exact hx
    · cases hx
theorem pFlds_rel {pf pg : Nat → Option ((Nat × Ty × ByteArray) × Nat)} {s : ByteArray} (h1 : ∀ a f k, pg a = some (f, k) → pf a = some (f, k)) (h2 : ∀ a f k, pf a = some (f, k) → bAt s k ≠ 45 → pg a = some (f, k)) :
    ∀ (m a : Nat) (acc : List (Nat × Ty × ByteArray)), pFlds pg s m a acc = pFlds pf s m a acc
  | 0, a, acc => rfl
  | m + 1, a, acc => by
    rw [pFlds, pFlds]
    rcases hf : pf a with _ | ⟨f, k⟩
    · rcases hg : pg a with _ | ⟨f', k'⟩
      · rfl
      · rw [h1 _ _ _ hg] at hf; cases hf
    · by_cases h45 : bAt s k = 45
      · simp only [if_neg (show ¬ bAt s k = 125 by omega), if_neg (show ¬ bAt s k = 44 by omega), ite_self]
        rcases hg : pg a with _ | ⟨f', k'⟩
        · rfl
        · have := h1 _ _ _ hg
          rw [hf] at this
          simp only [Option.some.injEq, Prod.mk.injEq] at this
          obtain ⟨rfl, rfl⟩ := this
          simp only [if_neg (show ¬ bAt s k = 125 by omega), if_neg (show ¬ bAt s k = 44 by omega), ite_self]
      · rw [h2 _ _ _ hf h45]
        simp only
        rw [pFlds_rel h1 h2 m (k + 1) (acc ++ [f])]
theorem pType_st (s : ByteArray) : ∀ (n i : Nat), pType true s n i = pType false s n i
  | 0, i => rfl
  | n + 1, i => by
    have ih : pType true s n = pType false s n := funext (pType_st s n)
    rw [pType, pType, ih]
    have hr := pField_rel (pt := pType false s n) (s := s) (fun ty => enc_rel s n ty)
    have e : ∀ a, pRec (pField (pType false s n) (enc true s n) s) s a = pRec (pField (pType false s n) (enc false s n) s) s a := fun a => by
      unfold pRec; rw [pFlds_rel hr.1 hr.2]
    rw [e]
theorem pAll_st (s : ByteArray) : pAll true s = pAll false s := by unfold pAll; rw [pType_st]
end Go.Proofs.Ytnlipjilhldiiaa
set_option linter.unusedVariables false
set_option linter.unusedSimpArgs false
set_option maxRecDepth 4000
namespace Go.Proofs.Ytnlipjilhldiiaa
open Go.RowKit

set_option maxHeartbeats 1000000 in
theorem rCheck_any (s : ByteArray) (hm : s.size ≤ maxLen) (w : World) :
    Calls Try.prog 8 #[.string s] w fun e w' => e = .returned (.int .i64 (chk true s)) ∧ Below w.heap.size w w' := by
  by_cases hs : 60 < s.size
  · have hr : Hid (chk true s = 1) := by show _ = _; unfold chk; rw [if_pos hs]
    unfold maxLen at hm
    go_enter Try.func8, Try.ntmps8
    go_wp2_with fail
    go_ret
    exact ⟨ret_int hr.out.symm, Below.refl _ _⟩
  · have IE := (ref_all (s := s) (by omega) s.size (by omega)).1
    rcases hx : pType true s s.size 0 with _ | ⟨ty, k⟩
    · have hr : Hid (chk true s = 2) := by show _ = _; unfold chk pAll; rw [if_neg hs, hx]; rfl
      have hcall := fun w => IE.no w (by omega) (by omega) hx
      have hne : ((-1 : Int) != (s.size : Int)) = true := by rw [bne_iff_ne]; omega
      clear hx IE hm
      go_enter Try.func8, Try.ntmps8
      go_wp2_with (go_at_call 18; refine (hcall _).mono ?_; rintro e w1 ⟨rfl, hb1⟩)
      go_ret
      exact ⟨ret_int hr.out.symm, hb1⟩
    · have hk := pType_bd true s _ _ _ _ hx
      have hcall := fun w => IE.yes w (by omega) (by omega) hx
      by_cases he : k = s.size
      · have hr : Hid (chk true s = 0) := by show _ = _; unfold chk pAll; rw [if_neg hs, hx]; simp only [if_pos he]; rfl
        have hne : ((k : Int) != (s.size : Int)) = false := by simp; omega
        have h1 : ¬ (k : Int) < 1 := by omega
        clear hx IE hm he
        go_enter Try.func8, Try.ntmps8
        go_wp2_with (go_at_call 18; refine (hcall _).mono ?_; rintro e w1 ⟨rfl, hb1⟩)
        go_ret
        exact ⟨ret_int hr.out.symm, hb1⟩
      · have hr : Hid (chk true s = 2) := by show _ = _; unfold chk pAll; rw [if_neg hs, hx]; simp only [if_neg he]; rfl
        have hne : ((k : Int) != (s.size : Int)) = true := by simp; omega
        clear hx IE hm he
        go_enter Try.func8, Try.ntmps8
        go_wp2_with (go_at_call 18; refine (hcall _).mono ?_; rintro e w1 ⟨rfl, hb1⟩)
        go_ret
        exact ⟨ret_int hr.out.symm, hb1⟩
theorem chk_st (s : ByteArray) : chk true s = chk false s := by unfold chk; rw [pAll_st]

end Go.Proofs.Ytnlipjilhldiiaa
set_option linter.unusedVariables false
set_option linter.unusedSimpArgs false
set_option maxRecDepth 4000
namespace Go.Proofs.Ytnlipjilhldiiaa
open Go.RowKit

/-- The error of two schemas. -/
def bothI (s t : ByteArray) : Int := if chk true s = 1 ∨ chk true t = 1 then 1 else if chk true s ≠ 0 ∨ chk true t ≠ 0 then 2 else 0
theorem chk_cs (s : ByteArray) : chk true s = 1 ∨ chk true s = 0 ∨ chk true s = 2 := by unfold chk; split; exact .inl rfl; split; exact .inr (.inl rfl); exact .inr (.inr rfl)

set_option maxHeartbeats 1000000 in
theorem both_any (s t : ByteArray) (hs : s.size ≤ maxLen) (ht : t.size ≤ maxLen) (w : World) :
    Calls Try.prog 50 #[.string s, .string t] w fun e w' => e = .returned (.int .i64 (bothI s t)) ∧ Below w.heap.size w w' := by
  have h1 := fun w => rCheck_any s hs w
  have h2 := fun w => rCheck_any t ht w
  have key : ∀ (a b r : Int), (∀ w, Calls Try.prog 8 #[.string s] w fun e w' => e = .returned (.int .i64 a) ∧ Below w.heap.size w w') → (∀ w, Calls Try.prog 8 #[.string t] w fun e w' => e = .returned (.int .i64 b) ∧ Below w.heap.size w w') → (a = 1 ∨ a = 0 ∨ a = 2) → (b = 1 ∨ b = 0 ∨ b = 2) → r = (if a = 1 ∨ b = 1 then 1 else if a ≠ 0 ∨ b ≠ 0 then 2 else 0) →
      Calls Try.prog 50 #[.string s, .string t] w fun e w' => e = .returned (.int .i64 r) ∧ Below w.heap.size w w' := by
    clear h1 h2 hs ht
    intro a b r h1 h2 ha hb hr
    rcases ha with rfl | rfl | rfl <;> rcases hb with rfl | rfl | rfl <;> (
      simp at hr
      subst hr
      go_enter Try.func50, Try.ntmps50
      go_wp2_with (first | (go_at_call 8; have hq := hb1; refine (h2 _).mono ?_; rintro e w2 ⟨rfl, hb2⟩) | (go_at_call 8; refine (h1 _).mono ?_; rintro e w1 ⟨rfl, hb1⟩))
      go_ret
      exact ⟨rfl, hb1.trans (hb2.mono hb1.size)⟩)
  exact key _ _ _ h1 h2 (chk_cs s) (chk_cs t) rfl
end Go.Proofs.Ytnlipjilhldiiaa
