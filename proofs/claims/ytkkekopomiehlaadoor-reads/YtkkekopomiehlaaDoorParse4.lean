import Derived.Test.YtkkekopomiehlaaDoorParse3
set_option linter.unusedVariables false
set_option linter.unusedSimpArgs false
namespace Go.Proofs.YtkkekopomiehlaaDoor
open Go.RowKit

/-- The cells of the fields 'fs', in a row: 'xs'. The types' own memory lies in blocks of 'S'. -/
def RowOf (S : Nat → Prop) (n : Nat) (w : World) (xs : List Value) (fs : List (Nat × Ty × ByteArray)) : Prop :=
  xs.length = fs.length * 7 ∧ ∀ i f, fs[i]? = some f → ∃ p1 p2 p3 q1 q2 q3, RepB S n w p1 p2 p3 q1 q2 q3 f.2.1 ∧ xs[i * 7]? = some (.int .i64 f.1) ∧
            xs[i * 7 + 1]? = some (.int .i64 f.2.1.kind) ∧ xs[i * 7 + 2]? = some (.string f.2.1.letters) ∧ xs[i * 7 + 3]? = some (.bool f.2.1.op) ∧ xs[i * 7 + 4]? = some (.slice p1 p2 p3) ∧ xs[i * 7 + 5]? = some (.slice q1 q2 q3) ∧
            xs[i * 7 + 6]? = some (.string f.2.2)
theorem RowOf.keep {S : Nat → Prop} {n : Nat} {w w' : World} {xs : List Value} {fs : List (Nat × Ty × ByteArray)} (h : RowOf S n w xs fs) (hb : ∀ b o v, S b → w.cell? ⟨b, o, none⟩ = some v → w'.cell? ⟨b, o, none⟩ = some v) : RowOf S n w' xs fs :=
  ⟨h.1, fun i f hi => by obtain ⟨p1, p2, p3, q1, q2, q3, h1, h2⟩ := h.2 i f hi; exact ⟨p1, p2, p3, q1, q2, q3, h1.keep hb, h2⟩⟩
theorem RowOf.imp {S S' : Nat → Prop} {n : Nat} {w : World} {xs : List Value} {fs : List (Nat × Ty × ByteArray)} (h : RowOf S n w xs fs) (hS : ∀ b, b < w.heap.size → S b → S' b) : RowOf S' n w xs fs :=
  ⟨h.1, fun i f hi => by obtain ⟨p1, p2, p3, q1, q2, q3, h1, h2⟩ := h.2 i f hi; exact ⟨p1, p2, p3, q1, q2, q3, h1.imp hS, h2⟩⟩
theorem RowOf.nil {S : Nat → Prop} {n : Nat} {w : World} : RowOf S n w [] [] := ⟨rfl, fun i f hi => by simp at hi⟩
theorem RowOf.snoc {S : Nat → Prop} {n : Nat} {w : World} {xs : List Value} {fs : List (Nat × Ty × ByteArray)} (h : RowOf S n w xs fs) {f : Nat × Ty × ByteArray} {p1 q1 : Option Addr} {p2 p3 q2 q3 : Nat} (hr : RepB S n w p1 p2 p3 q1 q2 q3 f.2.1) :
    RowOf S n w (xs ++ [.int .i64 f.1, .int .i64 f.2.1.kind, .string f.2.1.letters, .bool f.2.1.op, .slice p1 p2 p3, .slice q1 q2 q3, .string f.2.2]) (fs ++ [f]) := by
  refine ⟨by simp [h.1]; omega, fun i g hi => ?_⟩
  by_cases hl : i < fs.length
  · rw [List.getElem?_append_left hl] at hi
    obtain ⟨a1, a2, a3, b1, b2, b3, h1, h2⟩ := h.2 i g hi
    have hx := h.1
    refine ⟨a1, a2, a3, b1, b2, b3, h1, ?_⟩
    rw [List.getElem?_append_left (by omega), List.getElem?_append_left (by omega), List.getElem?_append_left (by omega), List.getElem?_append_left (by omega), List.getElem?_append_left (by omega), List.getElem?_append_left (by omega), List.getElem?_append_left (by omega)]
    exact h2
  · rw [List.getElem?_append_right (by omega)] at hi
    obtain rfl : i = fs.length := by
      rcases Nat.eq_or_lt_of_le (Nat.le_of_not_lt hl) with h | h
      · exact h.symm
      · rw [List.getElem?_eq_none (by simp; omega)] at hi; cases hi
    simp at hi
    subst hi
    have hx := h.1
    refine ⟨p1, p2, p3, q1, q2, q3, hr, ?_⟩
    rw [← hx]
    refine ⟨?_, ?_, ?_, ?_, ?_, ?_, ?_⟩ <;> (rw [List.getElem?_append_right (by omega)]; simp)
/-- The cells of a row that the call owns. -/
theorem own_cell {w : World} {base : Nat} {e : TypeId} {size : Nat} {g n cap : Nat} {xs : List Value} (h : w.ownsRow base e size (.slice (some ⟨g, 0, none⟩) n cap) n xs) {i : Nat} {v : Value} (hi : xs[i]? = some v) : w.cell? ⟨g, i, none⟩ = some v := by
  obtain ⟨hl, h | ⟨g', cap', cur, hv, hb, hh, hc, hm, hs, ht⟩⟩ := h
  · obtain ⟨h, _⟩ := h; cases h
  · cases hv
    rw [cell_of_row w g i cur e (0, 0) hh]
    rw [← ht, List.getElem?_take] at hi
    split at hi
    · simpa using hi
    · cases hi

def hasL (fs : List (Nat × Ty × ByteArray)) (c : Nat) : Bool := fs.any (fun g => g.1 == c)
theorem hasL_none (fs : List (Nat × Ty × ByteArray)) (c : Nat) (h : ∀ (i : Nat) (f : Nat × Ty × ByteArray), fs[i]? = some f → f.1 ≠ c) : hasL fs c = false := by
  unfold hasL; rw [List.any_eq_false]; intro f hf
  obtain ⟨i, hi, rfl⟩ := List.getElem_of_mem hf
  have := h i _ (List.getElem?_eq_getElem hi)
  simpa using this
theorem hasL_some (fs : List (Nat × Ty × ByteArray)) (c i : Nat) (f : Nat × Ty × ByteArray) (h : fs[i]? = some f) (hf : f.1 = c) : hasL fs c = true := by
  unfold hasL; rw [List.any_eq_true]; exact ⟨f, List.mem_of_getElem? h, by simp [hf]⟩

/-- The place of the first field with the letter 'c', or -1. -/
def plF (fs : List (Nat × Ty × ByteArray)) (c : Nat) : Int := match fs.findIdx? (fun g => g.1 == c) with | some i => (i : Nat) | none => -1
theorem plF_none (fs : List (Nat × Ty × ByteArray)) (c : Nat) (h : ∀ (i : Nat) (f : Nat × Ty × ByteArray), fs[i]? = some f → f.1 ≠ c) : plF fs c = -1 := by
  have : fs.findIdx? (fun g => g.1 == c) = none := by
    rw [List.findIdx?_eq_none_iff]; intro f hf
    obtain ⟨i, hi, rfl⟩ := List.getElem_of_mem hf
    have := h i _ (List.getElem?_eq_getElem hi)
    simpa using this
  unfold plF; rw [this]
theorem plF_some (fs : List (Nat × Ty × ByteArray)) (c i : Nat) (f : Nat × Ty × ByteArray) (h : fs[i]? = some f) (hf : f.1 = c) (hn : ∀ (k : Nat) (f : Nat × Ty × ByteArray), k < i → fs[k]? = some f → f.1 ≠ c) : plF fs c = (i : Nat) := by
  have : fs.findIdx? (fun g => g.1 == c) = some i := by
    rw [List.findIdx?_eq_some_iff_getElem]
    have hl : i < fs.length := by
      rcases Nat.lt_or_ge i fs.length with h' | h'
      · exact h'
      · rw [List.getElem?_eq_none h'] at h; cases h
    refine ⟨hl, ?_, fun j hj => ?_⟩
    · rw [List.getElem?_eq_getElem hl] at h; cases h; simpa using hf
    · have := hn j _ hj (List.getElem?_eq_getElem (by omega)); simpa using this
  unfold plF; rw [this]
theorem plF_false (fs : List (Nat × Ty × ByteArray)) (c : Nat) (h : hasL fs c = false) : plF fs c = -1 := by
  refine plF_none fs c (fun i f hi => ?_)
  unfold hasL at h; rw [List.any_eq_false] at h
  have := h f (List.mem_of_getElem? hi)
  simpa using this
theorem plF_true (fs : List (Nat × Ty × ByteArray)) (c : Nat) (h : hasL fs c = true) : ∃ p : Nat, plF fs c = (p : Nat) ∧ p < fs.length := by
  unfold plF
  cases hx : fs.findIdx? (fun g => g.1 == c) with
  | none =>
    rw [List.findIdx?_eq_none_iff] at hx
    unfold hasL at h; rw [List.any_eq_true] at h
    obtain ⟨f, hf, hf'⟩ := h
    have := hx f hf
    rw [this] at hf'; cases hf'
  | some i =>
    rw [List.findIdx?_eq_some_iff_getElem] at hx
    exact ⟨i, rfl, hx.1⟩

set_option maxHeartbeats 1000000 in
theorem placeOfField_any (fs : List (Nat × Ty × ByteArray)) (c : Nat) (w : World) (g cap : Nat) (hfl : fs.length ≤ 9000000)
    (hcells : ∀ i f, fs[i]? = some f → ∃ p1 p2 p3 q1 q2 q3, w.cell? ⟨g, i * 7, none⟩ = some (.int .i64 f.1) ∧ w.cell? ⟨g, i * 7 + 1, none⟩ = some (.int .i64 f.2.1.kind) ∧ w.cell? ⟨g, i * 7 + 2, none⟩ = some (.string f.2.1.letters) ∧ w.cell? ⟨g, i * 7 + 3, none⟩ = some (.bool f.2.1.op) ∧ w.cell? ⟨g, i * 7 + 4, none⟩ = some (.slice p1 p2 p3) ∧ w.cell? ⟨g, i * 7 + 5, none⟩ = some (.slice q1 q2 q3) ∧ w.cell? ⟨g, i * 7 + 6, none⟩ = some (.string f.2.2)) :
    Calls Tryd.prog 85 #[.slice (some ⟨g, 0, none⟩) fs.length cap, .int .i64 c] w fun e w' => e = .returned (.int .i64 (plF fs c)) ∧ Below w.heap.size w w' := by
  go_enter Tryd.func85, Tryd.ntmps85
  go_wp2_with fail
  go_loopw [9] (fun vi wr => ∃ i : Nat, i ≤ fs.length ∧ vi = .int .i64 i ∧ Hid (∀ (k : Nat) (f : Nat × Ty × ByteArray), k < i → fs[k]? = some f → f.1 ≠ c) ∧ Below w.heap.size w wr) (fun i _ => fs.length - (intOf i).toNat)
  case atStart => exact ⟨0, Nat.zero_le _, rfl, fun k f hk => by omega, Below.refl _ _⟩
  case round =>
    obtain ⟨i, hi, rfl, hno, hb⟩ := hrel
    by_cases hlt : i < fs.length
    · obtain ⟨f, hf⟩ : ∃ f, fs[i]? = some f := ⟨fs[i], List.getElem?_eq_getElem hlt⟩
      obtain ⟨p1, p2, p3, q1, q2, q3, k0, k1, k2, k3, k4, k5, k6⟩ := hcells i f hf
      have k0 := cell_keep hb k0
      have k1 := cell_keep hb k1
      have k2 := cell_keep hb k2
      have k3 := cell_keep hb k3
      have k4 := cell_keep hb k4
      have k5 := cell_keep hb k5
      have k6 := cell_keep hb k6
      have hg' : g < wr.heap.size := lt_of_cell k0
      have HF : Hid (fs[i]? = some f) := hf
      clear hf hcells
      by_cases hc : f.1 = c
      · have hc' : ((f.1 : Int) == (c : Int)) = true := by simp; omega
        have HC : Hid (f.1 = c) := hc
        clear hc
        go_wp2_with fail
        go_ret
        rw [plF_some fs c i f HF.out HC.out hno.out]
        exact ⟨rfl, hb.alloc hb.size _⟩
      · have hc' : ((f.1 : Int) == (c : Int)) = false := by simp; omega
        go_wp2_with fail
        go_roundw
        case rel =>
          refine ⟨i + 1, by omega, by go_num, ?_, hb.alloc hb.size _⟩
          intro k h hk hh
          by_cases e : k = i
          · subst e; rw [HF.out] at hh; cases hh; exact hc
          · exact hno.out k h (by omega) hh
        case measure => simp [intOf]; omega
    · go_wp2_with fail
      go_ret
      rw [plF_none fs c (fun k f hf => hno.out k f (by
        rcases Nat.lt_or_ge k fs.length with h | h
        · omega
        · rw [List.getElem?_eq_none h] at hf; cases hf) hf)]
      exact ⟨rfl, hb⟩
end Go.Proofs.YtkkekopomiehlaaDoor
