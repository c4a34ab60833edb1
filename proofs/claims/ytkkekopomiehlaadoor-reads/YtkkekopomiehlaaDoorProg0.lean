import Derived.Test.YtkkekopomiehlaaDoorParse6
set_option linter.unusedVariables false
set_option linter.unusedSimpArgs false
namespace Go.Proofs.YtkkekopomiehlaaDoor
open Go.RowKit

/-- The type that a schema tells. -/
def pAll (st : Bool) (s : ByteArray) : Option Ty :=
  match pType st s s.size 0 with
  | none => none
  | some (t, k) => if k = s.size then some t else none

/-- What 'Parse' and 'typeOf' hand back: 'no' and 'yes' are the second results. -/
def TRet (B n : Nat) (no yes : Value) (r : Option Ty) (e : Ending) (w' : World) : Prop :=
  match r with
  | some ty => ∃ ai li ci af lf cf, e = .returned (.tuple #[.agg #[.int .i64 ty.kind, .string ty.letters, .bool ty.op, .slice ai li ci, .slice af lf cf], yes]) ∧ RepB (fun b => B ≤ b) n w' ai li ci af lf cf ty
  | none => e = .returned (.tuple #[.agg #[.int .i64 0, .string ByteArray.empty, .bool false, .slice none 0 0, .slice none 0 0], no])
theorem TRet_no {f : FuncId} {args : Array Value} {w : World} {B n : Nat} {no yes : Value} {r : Option Ty} (h : Calls Tryd.prog f args w fun e w' => TRet B n no yes r e w' ∧ Below w.heap.size w w') (hr : r = none) :
    Calls Tryd.prog f args w fun e w' => e = .returned (.tuple #[.agg #[.int .i64 0, .string ByteArray.empty, .bool false, .slice none 0 0, .slice none 0 0], no]) ∧ Below w.heap.size w w' := by
  refine h.mono ?_
  rintro e w' ⟨h1, h2⟩; rw [hr] at h1; exact ⟨h1, h2⟩
theorem TRet_yes {f : FuncId} {args : Array Value} {w : World} {B n : Nat} {no yes : Value} {r : Option Ty} {ty : Ty} (h : Calls Tryd.prog f args w fun e w' => TRet B n no yes r e w' ∧ Below w.heap.size w w') (hr : r = some ty) :
    Calls Tryd.prog f args w fun e w' => ∃ ai li ci af lf cf, e = .returned (.tuple #[.agg #[.int .i64 ty.kind, .string ty.letters, .bool ty.op, .slice ai li ci, .slice af lf cf], yes]) ∧ RepB (fun b => B ≤ b) n w' ai li ci af lf cf ty ∧ Below w.heap.size w w' := by
  refine h.mono ?_
  rintro e w' ⟨h1, h2⟩; rw [hr] at h1; obtain ⟨ai, li, ci, af, lf, cf, h1, h3⟩ := h1; exact ⟨ai, li, ci, af, lf, cf, h1, h3, h2⟩

set_option maxHeartbeats 1000000 in
theorem Parse_any {s : ByteArray} (hs : s.size ≤ 60) (w : World) :
    Calls Tryd.prog 31 #[.string s] w fun e w' => TRet w.heap.size s.size (.bool false) (.bool true) (pAll false s) e w' ∧ Below w.heap.size w w' := by
  have _hs : s.size ≤ 9000000 := by omega
  have hB : ∀ o, Below w.heap.size w (w.alloc o) := fun o => (Below.refl _ _).alloc (Nat.le_refl _) _
  have IH := parseType_all (s := s) (by omega) s.size (by omega)
  cases hx : pType false s s.size 0 with
  | none =>
    have hr' : Hid (pAll false s = none) := by show _ = _; unfold pAll; rw [hx]
    have hcall := fun w => IH.no w (Nat.zero_le _) (by omega) hx
    clear hx IH
    go_enter Tryd.func31, Tryd.ntmps31
    go_wp2_with (go_at_call 53; refine (hcall _).mono ?_; rintro e w1 ⟨k', rfl, hb1⟩; obtain ⟨hc1, hf1⟩ := bcell hb1; have hz1 : w.heap.size < w1.heap.size := (by have := hb1.size; simp at this; omega))
    refine bodyPost_ret (v := .tuple #[.agg #[.int .i64 0, .string ByteArray.empty, .bool false, .slice none 0 0, .slice none 0 0], .bool false]) (by simp [results, Tryd.results31, go_sem, hc1, hz1]; rfl) rfl ?_
    rw [hr'.out]
    exact ⟨rfl, Below.alloc' (Below.set5 ((hB _).trans (hb1.mono (by simp))) (Nat.le_refl _)) _⟩
  | some p =>
    obtain ⟨ty, k⟩ := p
    have hcall := fun w => IH.yes w (Nat.zero_le _) (by omega) hx
    by_cases hk : k = s.size
    · subst hk
      have hk' : ((s.size : Int) != (s.size : Int)) = false := by simp
      have hr' : Hid (pAll false s = some ty) := by show _ = _; unfold pAll; rw [hx]; simp only [if_true]
      clear hx IH
      go_enter Tryd.func31, Tryd.ntmps31
      go_wp2_with (go_at_call 53; refine (hcall _).mono ?_; rintro e w1 ⟨ai, li, ci, af, lf, cf, rfl, hr1, hb1⟩; obtain ⟨hc1, hf1⟩ := bcell hb1; have hz1 : w.heap.size < w1.heap.size := (by have := hb1.size; simp at this; omega))
      refine bodyPost_ret (v := .tuple #[.agg #[.int .i64 ty.kind, .string ty.letters, .bool ty.op, .slice ai li ci, .slice af lf cf], .bool true]) (by simp [results, Tryd.results31, go_sem, hc1, hz1]) rfl ?_
      rw [hr'.out]
      exact ⟨⟨ai, li, ci, af, lf, cf, rfl, (hr1.keep (fun b o v hS h => cell_new _ (cell_set5 h (by simp at hS; omega)))).imp (fun b _ h => by simp at h; omega)⟩, Below.alloc' (Below.set5 ((hB _).trans (hb1.mono (by simp))) (Nat.le_refl _)) _⟩
    · have hk' : ((k : Int) != (s.size : Int)) = true := by simp; omega
      have hr' : Hid (pAll false s = none) := by show _ = _; unfold pAll; rw [hx]; simp only [if_neg hk]
      clear hx IH
      go_enter Tryd.func31, Tryd.ntmps31
      go_wp2_with (go_at_call 53; refine (hcall _).mono ?_; rintro e w1 ⟨ai, li, ci, af, lf, cf, rfl, hr1, hb1⟩; obtain ⟨hc1, hf1⟩ := bcell hb1; have hz1 : w.heap.size < w1.heap.size := (by have := hb1.size; simp at this; omega))
      refine bodyPost_ret (v := .tuple #[.agg #[.int .i64 0, .string ByteArray.empty, .bool false, .slice none 0 0, .slice none 0 0], .bool false]) (by simp [results, Tryd.results31, go_sem, hc1, hz1]; rfl) rfl ?_
      rw [hr'.out]
      exact ⟨rfl, Below.alloc' (Below.set5 ((hB _).trans (hb1.mono (by simp))) (Nat.le_refl _)) _⟩

/-- What 'Check' answers. -/
def chk (st : Bool) (s : ByteArray) : Int := if 60 < s.size then 1 else if (pAll st s).isSome = true then 0 else 2

end Go.Proofs.YtkkekopomiehlaaDoor
