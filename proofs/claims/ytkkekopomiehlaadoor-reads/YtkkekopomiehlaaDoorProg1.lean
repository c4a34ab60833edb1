import Derived.Test.YtkkekopomiehlaaDoorProg0
set_option linter.unusedVariables false
set_option linter.unusedSimpArgs false
namespace Go.Proofs.YtkkekopomiehlaaDoor
open Go.RowKit

set_option maxHeartbeats 1000000 in
theorem typeOf_long {s : ByteArray} (hs : 60 < s.size) (hm : s.size ≤ maxLen) (w : World) :
    Calls Tryd.prog 20 #[.string s] w fun e w' => e = .returned (.tuple #[.agg #[.int .i64 0, .string ByteArray.empty, .bool false, .slice none 0 0, .slice none 0 0], .int .i64 1]) ∧ Below w.heap.size w w' := by
  unfold maxLen at hm
  go_enter Tryd.func20, Tryd.ntmps20
  go_wp2_with fail
  exact bodyPost_ret (v := .tuple #[.agg #[.int .i64 0, .string ByteArray.empty, .bool false, .slice none 0 0, .slice none 0 0], .int .i64 1]) (by simp [results, Tryd.results20, go_sem]; rfl) rfl ⟨rfl, (Below.refl _ _).alloc (Nat.le_refl _) _⟩

set_option maxHeartbeats 1000000 in
theorem typeOf_any {s : ByteArray} (hs : s.size ≤ 60) (w : World) :
    Calls Tryd.prog 20 #[.string s] w fun e w' => TRet w.heap.size s.size (.int .i64 2) (.int .i64 0) (pAll false s) e w' ∧ Below w.heap.size w w' := by
  have _hs : s.size ≤ 9000000 := by omega
  have hB : ∀ o, Below w.heap.size w (w.alloc o) := fun o => (Below.refl _ _).alloc (Nat.le_refl _) _
  cases hx : pAll false s with
  | none =>
    have hcall := fun w => TRet_no (Parse_any hs w) hx
    clear hx
    go_enter Tryd.func20, Tryd.ntmps20
    go_wp2_with (go_at_call 31; refine (hcall _).mono ?_; rintro e w1 ⟨rfl, hb1⟩; obtain ⟨hc1, hf1⟩ := bcell hb1; have hz1 : w.heap.size < w1.heap.size := (by have := hb1.size; simp at this; omega))
    exact bodyPost_ret (v := .tuple #[.agg #[.int .i64 0, .string ByteArray.empty, .bool false, .slice none 0 0, .slice none 0 0], .int .i64 2]) (by simp [results, Tryd.results20, go_sem, hc1, hz1]; rfl) rfl ⟨rfl, Below.alloc' (Below.set5 ((hB _).trans (hb1.mono (by simp))) (Nat.le_refl _)) _⟩
  | some ty =>
    have hcall := fun w => TRet_yes (Parse_any hs w) hx
    clear hx
    go_enter Tryd.func20, Tryd.ntmps20
    go_wp2_with (go_at_call 31; refine (hcall _).mono ?_; rintro e w1 ⟨ai, li, ci, af, lf, cf, rfl, hr1, hb1⟩; obtain ⟨hc1, hf1⟩ := bcell hb1; have hz1 : w.heap.size < w1.heap.size := (by have := hb1.size; simp at this; omega))
    refine bodyPost_ret (v := .tuple #[.agg #[.int .i64 ty.kind, .string ty.letters, .bool ty.op, .slice ai li ci, .slice af lf cf], .int .i64 0]) (by simp [results, Tryd.results20, go_sem, hc1, hz1]) rfl ?_
    exact ⟨⟨ai, li, ci, af, lf, cf, rfl, (hr1.keep (fun b o v hS h => cell_new _ (cell_set5 h (by simp at hS; omega)))).imp (fun b _ h => by simp at h; omega)⟩, Below.alloc' (Below.set5 ((hB _).trans (hb1.mono (by simp))) (Nat.le_refl _)) _⟩

end Go.Proofs.YtkkekopomiehlaaDoor
