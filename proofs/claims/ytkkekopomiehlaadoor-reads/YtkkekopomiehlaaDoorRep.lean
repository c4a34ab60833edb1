import Derived.Test.YtkkekopomiehlaaDoorEncs
import Derived.Deep.AppendLies
set_option linter.unusedVariables false
set_option linter.unusedSimpArgs false
namespace Go.Proofs.YtkkekopomiehlaaDoor
open Go.RowKit

/-- Behind a call that makes memory, and turns none of the old, old cells and marks read as before. -/
theorem bcell {B : Nat} {W w1 : World} (hb : Below B W w1) : (∀ b o, b < B → w1.cell? ⟨b, o, none⟩ = W.cell? ⟨b, o, none⟩) ∧ (∀ b o, b < B → w1.frozen? ⟨b, o, none⟩ = W.frozen? ⟨b, o, none⟩) :=
  ⟨fun b o h => hb.cell (p := ⟨b, o, none⟩) h, fun b o h => hb.frozen (p := ⟨b, o, none⟩) h⟩
theorem lt_of_cell {w : World} {b o : Nat} {v : Value} (h : w.cell? ⟨b, o, none⟩ = some v) : b < w.heap.size := World.block_lt_of_cell? w ⟨b, o, none⟩ h

/-- The value of the Go type Type with these two slices in it lies in the world as 'ty' says: 'n' bounds its depth. -/
def Rep : Nat → World → Option Addr → Nat → Nat → Option Addr → Nat → Nat → Ty → Prop
  | 0, _, _, _, _, _, _, _, _ => False
  | n + 1, w, ai, li, ci, af, lf, cf, ty => ty.letters.size ≤ 8 ∧ ty.fields.length ≤ 9000000 ∧ lf = ty.fields.length ∧ ((ty.kind = 91 ∨ ty.kind = 63 → ty.inner ≠ []) ∧ (ty.kind = 123 → ty.fields ≠ [])) ∧
      ((ty.inner = [] ∧ ai = none ∧ li = 0 ∧ ci = 0) ∨
        ∃ t b p1 p2 p3 q1 q2 q3, ty.inner = [t] ∧ ai = some ⟨b, 0, none⟩ ∧ li = 1 ∧ Rep n w p1 p2 p3 q1 q2 q3 t ∧
          w.cell? ⟨b, 0, none⟩ = some (.int .i64 t.kind) ∧ w.cell? ⟨b, 1, none⟩ = some (.string t.letters) ∧ w.cell? ⟨b, 2, none⟩ = some (.bool t.op) ∧ w.cell? ⟨b, 3, none⟩ = some (.slice p1 p2 p3) ∧ w.cell? ⟨b, 4, none⟩ = some (.slice q1 q2 q3)) ∧
      ((ty.fields = [] ∧ af = none ∧ lf = 0 ∧ cf = 0) ∨
        ∃ g, af = some ⟨g, 0, none⟩ ∧
          ∀ i f, ty.fields[i]? = some f → ∃ p1 p2 p3 q1 q2 q3, Rep n w p1 p2 p3 q1 q2 q3 f.2.1 ∧ w.cell? ⟨g, i * 7, none⟩ = some (.int .i64 f.1) ∧
            w.cell? ⟨g, i * 7 + 1, none⟩ = some (.int .i64 f.2.1.kind) ∧ w.cell? ⟨g, i * 7 + 2, none⟩ = some (.string f.2.1.letters) ∧ w.cell? ⟨g, i * 7 + 3, none⟩ = some (.bool f.2.1.op) ∧ w.cell? ⟨g, i * 7 + 4, none⟩ = some (.slice p1 p2 p3) ∧ w.cell? ⟨g, i * 7 + 5, none⟩ = some (.slice q1 q2 q3) ∧
            w.cell? ⟨g, i * 7 + 6, none⟩ = some (.string f.2.2))

theorem cell_keep {w w' : World} (hb : Below w.heap.size w w') {b o : Nat} {v : Value} (h : w.cell? ⟨b, o, none⟩ = some v) : w'.cell? ⟨b, o, none⟩ = some v := by
  rw [hb.cell (p := ⟨b, o, none⟩) (lt_of_cell h)]; exact h

theorem Rep.keep {w w' : World} (hb : Below w.heap.size w w') : ∀ {n : Nat} {ai af : Option Addr} {li ci lf cf : Nat} {ty : Ty}, Rep n w ai li ci af lf cf ty → Rep n w' ai li ci af lf cf ty
  | 0, _, _, _, _, _, _, _, h => h
  | n + 1, ai, af, li, ci, lf, cf, ty, h => by
    obtain ⟨hl, hn, hlf, hk, hi, hf⟩ := h
    refine ⟨hl, hn, hlf, hk, ?_, ?_⟩
    · rcases hi with hi | ⟨t, b, p1, p2, p3, q1, q2, q3, h1, h2, h2', h3, k0, k1, k2, k3, k4⟩
      · exact .inl hi
      · exact .inr ⟨t, b, p1, p2, p3, q1, q2, q3, h1, h2, h2', Rep.keep hb h3, cell_keep hb k0, cell_keep hb k1, cell_keep hb k2, cell_keep hb k3, cell_keep hb k4⟩
    · rcases hf with hf | ⟨g, h1, h2⟩
      · exact .inl hf
      · refine .inr ⟨g, h1, fun i f hi => ?_⟩
        obtain ⟨p1, p2, p3, q1, q2, q3, h3, k0, k1, k2, k3, k4, k5, k6⟩ := h2 i f hi
        exact ⟨p1, p2, p3, q1, q2, q3, Rep.keep hb h3, cell_keep hb k0, cell_keep hb k1, cell_keep hb k2, cell_keep hb k3, cell_keep hb k4, cell_keep hb k5, cell_keep hb k6⟩

set_option maxHeartbeats 1000000 in
theorem inner_any (n : Nat) (w : World) (ai af : Option Addr) (li ci lf cf : Nat) (ty : Ty) (h : Rep (n + 1) w ai li ci af lf cf ty) (hne : ty.inner ≠ []) :
    Calls Tryd.prog 41 #[.agg #[.int .i64 ty.kind, .string ty.letters, .bool ty.op, .slice ai li ci, .slice af lf cf]] w fun e w' => ∃ p1 p2 p3 q1 q2 q3, e = .returned (.agg #[.int .i64 ty.in.kind, .string ty.in.letters, .bool ty.in.op, .slice p1 p2 p3, .slice q1 q2 q3]) ∧ Rep n w' p1 p2 p3 q1 q2 q3 ty.in ∧ Below w.heap.size w w' := by
  obtain ⟨hl, hn, hlf, hk, hi, hf⟩ := h
  clear hf hk
  rcases hi with ⟨hi, _⟩ | ⟨t, b, p1, p2, p3, q1, q2, q3, h1, rfl, rfl, h3, k0, k1, k2, k3, k4⟩
  · exact absurd hi hne
  · have hin : ty.in = t := by unfold Ty.in; rw [h1]; rfl
    rw [hin]
    have hb := lt_of_cell k0
    clear hne h1 hin hlf
    go_enter Tryd.func41, Tryd.ntmps41
    go_wp2
    have hB : Below w.heap.size w ((w.alloc (.cells #[.int .i64 ty.kind, .string ty.letters, .bool ty.op, .slice (some ⟨b, 0, none⟩) 1 ci, .slice af lf cf] 38)).alloc (.cells #[.int .i64 t.kind, .string t.letters, .bool t.op, .slice p1 p2 p3, .slice q1 q2 q3] 38)) :=
      ((Below.refl _ _).alloc (Nat.le_refl _) _).alloc (by simp) _
    exact bodyPost_ret (v := .agg #[.int .i64 t.kind, .string t.letters, .bool t.op, .slice p1 p2 p3, .slice q1 q2 q3]) (by simp [results, Tryd.results41, go_sem]) rfl ⟨p1, p2, p3, q1, q2, q3, rfl, h3.keep hB, hB⟩
end Go.Proofs.YtkkekopomiehlaaDoor
