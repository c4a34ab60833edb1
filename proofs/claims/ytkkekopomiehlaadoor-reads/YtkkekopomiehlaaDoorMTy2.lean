import Derived.Test.YtkkekopomiehlaaDoorProg1
import Derived.Test.YtkkekopomiehlaaDoorMSn6
import Derived.Test.YtkkekopomiehlaaDoorDec7
import Derived.Test.YtkkekopomiehlaaDoorDec13
import Derived.Test.YtkkekopomiehlaaDoorMRd1
set_option linter.unusedVariables false
set_option linter.unusedSimpArgs false
namespace Go.Proofs.YtkkekopomiehlaaDoor
section
set_option maxRecDepth 4000
open Go.RowKit

theorem zeros2 {w w1 : World} (hb : Below ((w.alloc (.cells #[.int .i64 0, .string ⟨#[]⟩, .bool false, .slice none 0 0, .slice none 0 0] 38)).alloc (.cells #[.int .i64 0, .string ⟨#[]⟩, .bool false, .slice none 0 0, .slice none 0 0] 38)).heap.size ((w.alloc (.cells #[.int .i64 0, .string ⟨#[]⟩, .bool false, .slice none 0 0, .slice none 0 0] 38)).alloc (.cells #[.int .i64 0, .string ⟨#[]⟩, .bool false, .slice none 0 0, .slice none 0 0] 38)) w1) :
    w1.cell? ⟨w.heap.size, 0, none⟩ = some (.int .i64 0) ∧ w1.cell? ⟨w.heap.size, 1, none⟩ = some (.string ⟨#[]⟩) ∧ w1.cell? ⟨w.heap.size, 2, none⟩ = some (.bool false) ∧ w1.cell? ⟨w.heap.size, 3, none⟩ = some (.slice none 0 0) ∧ w1.cell? ⟨w.heap.size, 4, none⟩ = some (.slice none 0 0) ∧ w1.cell? ⟨w.heap.size + 1, 0, none⟩ = some (.int .i64 0) ∧ w1.cell? ⟨w.heap.size + 1, 1, none⟩ = some (.string ⟨#[]⟩) ∧ w1.cell? ⟨w.heap.size + 1, 2, none⟩ = some (.bool false) ∧ w1.cell? ⟨w.heap.size + 1, 3, none⟩ = some (.slice none 0 0) ∧ w1.cell? ⟨w.heap.size + 1, 4, none⟩ = some (.slice none 0 0) := by
  have h : (w.alloc (.cells #[.int .i64 0, .string ⟨#[]⟩, .bool false, .slice none 0 0, .slice none 0 0] 38)).heap.size = w.heap.size + 1 := by simp
  refine ⟨cell_keep hb (cell_new _ (cell_last rfl rfl)), cell_keep hb (cell_new _ (cell_last rfl rfl)), cell_keep hb (cell_new _ (cell_last rfl rfl)), cell_keep hb (cell_new _ (cell_last rfl rfl)), cell_keep hb (cell_new _ (cell_last rfl rfl)), ?_⟩
  rw [← h]
  exact ⟨cell_keep hb (cell_last rfl rfl), cell_keep hb (cell_last rfl rfl), cell_keep hb (cell_last rfl rfl), cell_keep hb (cell_last rfl rfl), cell_keep hb (cell_last rfl rfl)⟩
theorem zeros3 {w w1 w2 : World} {o o2 : Obj} (hb : Below ((w.alloc (.cells #[.int .i64 0, .string ⟨#[]⟩, .bool false, .slice none 0 0, .slice none 0 0] 38)).alloc (.cells #[.int .i64 0, .string ⟨#[]⟩, .bool false, .slice none 0 0, .slice none 0 0] 38)).heap.size ((w.alloc (.cells #[.int .i64 0, .string ⟨#[]⟩, .bool false, .slice none 0 0, .slice none 0 0] 38)).alloc (.cells #[.int .i64 0, .string ⟨#[]⟩, .bool false, .slice none 0 0, .slice none 0 0] 38)) w1) (hb2 : Below (w1.alloc o).heap.size (w1.alloc o) w2) :
    (w2.alloc o2).cell? ⟨w.heap.size, 0, none⟩ = some (.int .i64 0) ∧ (w2.alloc o2).cell? ⟨w.heap.size, 1, none⟩ = some (.string ⟨#[]⟩) ∧ (w2.alloc o2).cell? ⟨w.heap.size, 2, none⟩ = some (.bool false) ∧ (w2.alloc o2).cell? ⟨w.heap.size, 3, none⟩ = some (.slice none 0 0) ∧ (w2.alloc o2).cell? ⟨w.heap.size, 4, none⟩ = some (.slice none 0 0) ∧ (w2.alloc o2).cell? ⟨w.heap.size + 1, 0, none⟩ = some (.int .i64 0) ∧ (w2.alloc o2).cell? ⟨w.heap.size + 1, 1, none⟩ = some (.string ⟨#[]⟩) ∧ (w2.alloc o2).cell? ⟨w.heap.size + 1, 2, none⟩ = some (.bool false) ∧ (w2.alloc o2).cell? ⟨w.heap.size + 1, 3, none⟩ = some (.slice none 0 0) ∧ (w2.alloc o2).cell? ⟨w.heap.size + 1, 4, none⟩ = some (.slice none 0 0) := by
  obtain ⟨h0, h1, h2, h3, h4, k0, k1, k2, k3, k4⟩ := zeros2 hb
  have q : ∀ {b i : Nat} {v : Value}, w1.cell? ⟨b, i, none⟩ = some v → (w2.alloc o2).cell? ⟨b, i, none⟩ = some v := fun h => cell_new _ (cell_keep hb2 (cell_new _ h))
  exact ⟨q h0, q h1, q h2, q h3, q h4, q k0, q k1, q k2, q k3, q k4⟩
theorem zeros4 {w w1 w2 : World} {o : Obj} (hb : Below ((w.alloc (.cells #[.int .i64 0, .string ⟨#[]⟩, .bool false, .slice none 0 0, .slice none 0 0] 38)).alloc (.cells #[.int .i64 0, .string ⟨#[]⟩, .bool false, .slice none 0 0, .slice none 0 0] 38)).heap.size ((w.alloc (.cells #[.int .i64 0, .string ⟨#[]⟩, .bool false, .slice none 0 0, .slice none 0 0] 38)).alloc (.cells #[.int .i64 0, .string ⟨#[]⟩, .bool false, .slice none 0 0, .slice none 0 0] 38)) w1) (hb2 : Below (w1.alloc o).heap.size (w1.alloc o) w2) :
    w2.cell? ⟨w.heap.size, 0, none⟩ = some (.int .i64 0) ∧ w2.cell? ⟨w.heap.size, 1, none⟩ = some (.string ⟨#[]⟩) ∧ w2.cell? ⟨w.heap.size, 2, none⟩ = some (.bool false) ∧ w2.cell? ⟨w.heap.size, 3, none⟩ = some (.slice none 0 0) ∧ w2.cell? ⟨w.heap.size, 4, none⟩ = some (.slice none 0 0) ∧ w2.cell? ⟨w.heap.size + 1, 0, none⟩ = some (.int .i64 0) ∧ w2.cell? ⟨w.heap.size + 1, 1, none⟩ = some (.string ⟨#[]⟩) ∧ w2.cell? ⟨w.heap.size + 1, 2, none⟩ = some (.bool false) ∧ w2.cell? ⟨w.heap.size + 1, 3, none⟩ = some (.slice none 0 0) ∧ w2.cell? ⟨w.heap.size + 1, 4, none⟩ = some (.slice none 0 0) := by
  obtain ⟨h0, h1, h2, h3, h4, k0, k1, k2, k3, k4⟩ := zeros2 hb
  have q : ∀ {b i : Nat} {v : Value}, w1.cell? ⟨b, i, none⟩ = some v → w2.cell? ⟨b, i, none⟩ = some v := fun h => cell_keep hb2 (cell_new _ h)
  exact ⟨q h0, q h1, q h2, q h3, q h4, q k0, q k1, q k2, q k3, q k4⟩
theorem thnT {w W w1 : World} (h : Below w.heap.size w W) (k : Below W.heap.size W w1) : Below w.heap.size w w1 := h.trans (k.mono h.size)
theorem BBt (w : World) (o o2 : Obj) : Below w.heap.size w ((w.alloc o).alloc o2) := ((Below.refl _ _).alloc (Nat.le_refl _) _).alloc (by simp) _
set_option maxHeartbeats 1000000 in
theorem typesOf_long {s t : ByteArray} (hs : s.size ≤ maxLen) (ht : t.size ≤ maxLen) (h : 60 < s.size ∨ 60 < t.size) (w : World) :
    Calls Tryd.prog 26 #[.string s, .string t] w fun e w' => e = .returned (.tuple #[.agg #[.int .i64 0, .string ByteArray.empty, .bool false, .slice none 0 0, .slice none 0 0], .agg #[.int .i64 0, .string ByteArray.empty, .bool false, .slice none 0 0, .slice none 0 0], .int .i64 1]) ∧ Below w.heap.size w w' := by
  unfold maxLen at hs ht
  by_cases h1 : 60 < s.size
  · go_enter Tryd.func26, Tryd.ntmps26
    go_wp2_with fail
    exact bodyPost_ret (v := .tuple #[.agg #[.int .i64 0, .string ByteArray.empty, .bool false, .slice none 0 0, .slice none 0 0], .agg #[.int .i64 0, .string ByteArray.empty, .bool false, .slice none 0 0, .slice none 0 0], .int .i64 1]) (by simp [results, Tryd.results26, go_sem]; rfl) rfl ⟨rfl, ((Below.refl _ _).alloc (Nat.le_refl _) _).alloc (by simp) _⟩
  · have h2 : 60 < t.size := by omega
    go_enter Tryd.func26, Tryd.ntmps26
    go_wp2_with fail
    exact bodyPost_ret (v := .tuple #[.agg #[.int .i64 0, .string ByteArray.empty, .bool false, .slice none 0 0, .slice none 0 0], .agg #[.int .i64 0, .string ByteArray.empty, .bool false, .slice none 0 0, .slice none 0 0], .int .i64 1]) (by simp [results, Tryd.results26, go_sem]; rfl) rfl ⟨rfl, ((Below.refl _ _).alloc (Nat.le_refl _) _).alloc (by simp) _⟩

set_option maxHeartbeats 1000000 in
theorem typesOf_bad1 {s t : ByteArray} (hs : s.size ≤ 60) (ht : t.size ≤ 60) (hx : pAll false s = none) (w : World) :
    Calls Tryd.prog 26 #[.string s, .string t] w fun e w' => e = .returned (.tuple #[.agg #[.int .i64 0, .string ByteArray.empty, .bool false, .slice none 0 0, .slice none 0 0], .agg #[.int .i64 0, .string ByteArray.empty, .bool false, .slice none 0 0, .slice none 0 0], .int .i64 2]) ∧ Below w.heap.size w w' := by
  have hcall := fun w => TRet_no (typeOf_any hs w) hx
  clear hx
  go_enter Tryd.func26, Tryd.ntmps26
  go_wp2_with (go_at_call 20; refine (hcall _).mono ?_; rintro e w1 ⟨rfl, hb1⟩; obtain ⟨hc1, hf1⟩ := bcell hb1; have hz1 : w.heap.size + 1 < w1.heap.size := (by have := hb1.size; simp at this; omega); have hz2 : w.heap.size < w1.heap.size := (by omega))
  have kz := zeros2 hb1
  exact bodyPost_ret (v := .tuple #[.agg #[.int .i64 0, .string ByteArray.empty, .bool false, .slice none 0 0, .slice none 0 0], .agg #[.int .i64 0, .string ByteArray.empty, .bool false, .slice none 0 0, .slice none 0 0], .int .i64 2]) (by simp [results, Tryd.results26, go_sem, kz, hz1, hz2]; rfl) rfl ⟨rfl, Below.alloc' (Below.set5 (Below.set5 ((BBt w _ _).trans (hb1.mono (by simp; omega))) (Nat.le_refl _)) (by omega)) _⟩
set_option maxHeartbeats 1000000 in
theorem typesOf_ok {s t : ByteArray} (hs : s.size ≤ 60) (ht : t.size ≤ 60) {x r : Ty} (hx : pAll false s = some x) (hr : pAll false t = some r) (w : World) :
    Calls Tryd.prog 26 #[.string s, .string t] w fun e w' => ∃ ai li ci af lf cf bi mi di bf mf df, e = .returned (.tuple #[.agg #[.int .i64 x.kind, .string x.letters, .bool x.op, .slice ai li ci, .slice af lf cf], .agg #[.int .i64 r.kind, .string r.letters, .bool r.op, .slice bi mi di, .slice bf mf df], .int .i64 0]) ∧
      RepB (fun b => w.heap.size ≤ b) s.size w' ai li ci af lf cf x ∧ RepB (fun b => w.heap.size ≤ b) t.size w' bi mi di bf mf df r ∧ Below w.heap.size w w' := by
  have hcall := fun w => TRet_yes (typeOf_any hs w) hx
  have hcall2 := fun w => TRet_yes (typeOf_any ht w) hr
  clear hx hr
  go_enter Tryd.func26, Tryd.ntmps26
  go_wp2_with (first | (go_at_call 20; have hq := hb1; refine (hcall2 _).mono ?_; rintro e w2 ⟨bi, mi, di, bf, mf, df, rfl, hr2, hb2⟩; obtain ⟨hc2, hf2⟩ := bcell hb2; have hy1 : w1.heap.size < w2.heap.size := (by have := hb2.size; simp at this; omega); have hy2 : w.heap.size < w2.heap.size := (by omega); have hy3 : w.heap.size + 1 < w2.heap.size := (by omega)) | (go_at_call 20; refine (hcall _).mono ?_; rintro e w1 ⟨ai, li, ci, af, lf, cf, rfl, hr1, hb1⟩; obtain ⟨hc1, hf1⟩ := bcell hb1; have hz1 : w.heap.size + 1 < w1.heap.size := (by have := hb1.size; simp at this; omega); have hz2 : w.heap.size < w1.heap.size := (by omega)))
  have k1 : (w2.alloc (.cells #[.int .i64 r.kind, .string r.letters, .bool r.op, .slice bi mi di, .slice bf mf df] 38)).cell? ⟨w1.heap.size, 0, none⟩ = some (.int .i64 x.kind) ∧ (w2.alloc (.cells #[.int .i64 r.kind, .string r.letters, .bool r.op, .slice bi mi di, .slice bf mf df] 38)).cell? ⟨w1.heap.size, 1, none⟩ = some (.string x.letters) ∧ (w2.alloc (.cells #[.int .i64 r.kind, .string r.letters, .bool r.op, .slice bi mi di, .slice bf mf df] 38)).cell? ⟨w1.heap.size, 2, none⟩ = some (.bool x.op) ∧ (w2.alloc (.cells #[.int .i64 r.kind, .string r.letters, .bool r.op, .slice bi mi di, .slice bf mf df] 38)).cell? ⟨w1.heap.size, 3, none⟩ = some (.slice ai li ci) ∧ (w2.alloc (.cells #[.int .i64 r.kind, .string r.letters, .bool r.op, .slice bi mi di, .slice bf mf df] 38)).cell? ⟨w1.heap.size, 4, none⟩ = some (.slice af lf cf) := by
    refine ⟨cell_new _ (cell_keep hb2 (cell_last rfl rfl)), cell_new _ (cell_keep hb2 (cell_last rfl rfl)), cell_new _ (cell_keep hb2 (cell_last rfl rfl)), cell_new _ (cell_keep hb2 (cell_last rfl rfl)), cell_new _ (cell_keep hb2 (cell_last rfl rfl))⟩
  have k2 : (w2.alloc (.cells #[.int .i64 r.kind, .string r.letters, .bool r.op, .slice bi mi di, .slice bf mf df] 38)).cell? ⟨w2.heap.size, 0, none⟩ = some (.int .i64 r.kind) ∧ (w2.alloc (.cells #[.int .i64 r.kind, .string r.letters, .bool r.op, .slice bi mi di, .slice bf mf df] 38)).cell? ⟨w2.heap.size, 1, none⟩ = some (.string r.letters) ∧ (w2.alloc (.cells #[.int .i64 r.kind, .string r.letters, .bool r.op, .slice bi mi di, .slice bf mf df] 38)).cell? ⟨w2.heap.size, 2, none⟩ = some (.bool r.op) ∧ (w2.alloc (.cells #[.int .i64 r.kind, .string r.letters, .bool r.op, .slice bi mi di, .slice bf mf df] 38)).cell? ⟨w2.heap.size, 3, none⟩ = some (.slice bi mi di) ∧ (w2.alloc (.cells #[.int .i64 r.kind, .string r.letters, .bool r.op, .slice bi mi di, .slice bf mf df] 38)).cell? ⟨w2.heap.size, 4, none⟩ = some (.slice bf mf df) := ⟨cell_last rfl rfl, cell_last rfl rfl, cell_last rfl rfl, cell_last rfl rfl, cell_last rfl rfl⟩
  have kz := zeros3 hb1 hb2 (o := .cells #[.int .i64 x.kind, .string x.letters, .bool x.op, .slice ai li ci, .slice af lf cf] 38) (o2 := .cells #[.int .i64 r.kind, .string r.letters, .bool r.op, .slice bi mi di, .slice bf mf df] 38)
  have hbW : Below w.heap.size w (w2.alloc (.cells #[.int .i64 r.kind, .string r.letters, .bool r.op, .slice bi mi di, .slice bf mf df] 38)) := Below.alloc' (thnT (Below.alloc' (thnT (BBt w _ _) hb1) _) hb2) _
  have hR1 : RepB (fun b => w.heap.size + 2 ≤ b) s.size (w2.alloc (.cells #[.int .i64 r.kind, .string r.letters, .bool r.op, .slice bi mi di, .slice bf mf df] 38)) ai li ci af lf cf x := (hr1.keep (fun b o v hS h => cell_new _ (cell_keep hb2 (cell_new _ h)))).imp (fun b _ h => by simp at h; omega)
  have hR2 : RepB (fun b => w.heap.size + 2 ≤ b) t.size (w2.alloc (.cells #[.int .i64 r.kind, .string r.letters, .bool r.op, .slice bi mi di, .slice bf mf df] 38)) bi mi di bf mf df r := (hr2.keep (fun b o v hS h => cell_new _ h)).imp (fun b _ h => by simp at h; omega)
  have fz : ∀ o, (w2.alloc (.cells #[.int .i64 r.kind, .string r.letters, .bool r.op, .slice bi mi di, .slice bf mf df] 38)).frozen? ⟨w.heap.size, o, none⟩ = false := fun o => by
    rw [frozen?_alloc_cells, hf2 _ _ (by simp; omega), frozen?_alloc_cells, hf1 _ _ (by simp; omega), frozen?_alloc_cells, frozen?_alloc_cells]; simp [World.frozen?]
  have fz2 : ∀ o, (w2.alloc (.cells #[.int .i64 r.kind, .string r.letters, .bool r.op, .slice bi mi di, .slice bf mf df] 38)).frozen? ⟨w.heap.size + 1, o, none⟩ = false := fun o => by
    rw [frozen?_alloc_cells, hf2 _ _ (by simp; omega), frozen?_alloc_cells, hf1 _ _ (by simp), frozen?_alloc_cells, frozen?_alloc_cells]; simp [World.frozen?]
  have n1 : ¬ w1.heap.size = w.heap.size := by omega
  have n2 : ¬ w1.heap.size = w.heap.size + 1 := by omega
  have n3 : ¬ w2.heap.size = w.heap.size := by omega
  have n4 : ¬ w2.heap.size = w.heap.size + 1 := by omega
  have n5 : ¬ w.heap.size = w1.heap.size := by omega
  have n6 : ¬ w.heap.size + 1 = w1.heap.size := by omega
  have n7 : ¬ w.heap.size = w2.heap.size := by omega
  have n8 : ¬ w.heap.size + 1 = w2.heap.size := by omega
  generalize (w2.alloc (.cells #[.int .i64 r.kind, .string r.letters, .bool r.op, .slice bi mi di, .slice bf mf df] 38)) = W3 at k1 k2 kz fz fz2 hbW hR1 hR2 ⊢
  go_region_held3 (fun w' => (w'.cell? ⟨w1.heap.size, 0, none⟩ = some (.int .i64 x.kind) ∧ w'.cell? ⟨w1.heap.size, 1, none⟩ = some (.string x.letters) ∧ w'.cell? ⟨w1.heap.size, 2, none⟩ = some (.bool x.op) ∧ w'.cell? ⟨w1.heap.size, 3, none⟩ = some (.slice ai li ci) ∧ w'.cell? ⟨w1.heap.size, 4, none⟩ = some (.slice af lf cf)) ∧ w'.cell? ⟨w2.heap.size, 0, none⟩ = some (.int .i64 r.kind) ∧ w'.cell? ⟨w2.heap.size, 1, none⟩ = some (.string r.letters) ∧ w'.cell? ⟨w2.heap.size, 2, none⟩ = some (.bool r.op) ∧ w'.cell? ⟨w2.heap.size, 3, none⟩ = some (.slice bi mi di) ∧ w'.cell? ⟨w2.heap.size, 4, none⟩ = some (.slice bf mf df)) (go_keep) (fail)
  go_wp2_with fail
  refine bodyPost_ret (v := .tuple #[.agg #[.int .i64 x.kind, .string x.letters, .bool x.op, .slice ai li ci, .slice af lf cf], .agg #[.int .i64 r.kind, .string r.letters, .bool r.op, .slice bi mi di, .slice bf mf df], .int .i64 0]) (by simp [results, Tryd.results26, go_sem, kz]) rfl ?_
  exact ⟨ai, li, ci, af, lf, cf, bi, mi, di, bf, mf, df, rfl, (hR1.keep (fun b o v hS h => cell_drew (cell_set5 (cell_set5 h (by omega)) (by omega)))).imp (fun b _ h => by show w.heap.size ≤ b; omega),
    (hR2.keep (fun b o v hS h => cell_drew (cell_set5 (cell_set5 h (by omega)) (by omega)))).imp (fun b _ h => by show w.heap.size ≤ b; omega), (Below.set5 (Below.set5 hbW (Nat.le_refl _)) (by omega)).drew⟩
set_option maxHeartbeats 1000000 in
theorem typesOf_bad2 {s t : ByteArray} (hs : s.size ≤ 60) (ht : t.size ≤ 60) {x : Ty} (hx : pAll false s = some x) (hr : pAll false t = none) (w : World) :
    Calls Tryd.prog 26 #[.string s, .string t] w fun e w' => e = .returned (.tuple #[.agg #[.int .i64 0, .string ByteArray.empty, .bool false, .slice none 0 0, .slice none 0 0], .agg #[.int .i64 0, .string ByteArray.empty, .bool false, .slice none 0 0, .slice none 0 0], .int .i64 2]) ∧ Below w.heap.size w w' := by
  have hcall := fun w => TRet_yes (typeOf_any hs w) hx
  have hcall2 := fun w => TRet_no (typeOf_any ht w) hr
  clear hx hr
  go_enter Tryd.func26, Tryd.ntmps26
  go_wp2_with (first | (go_at_call 20; have hq := hb1; refine (hcall2 _).mono ?_; rintro e w2 ⟨rfl, hb2⟩; obtain ⟨hc2, hf2⟩ := bcell hb2; have hy1 : w1.heap.size < w2.heap.size := (by have := hb2.size; simp at this; omega); have hy2 : w.heap.size < w2.heap.size := (by omega); have hy3 : w.heap.size + 1 < w2.heap.size := (by omega)) | (go_at_call 20; refine (hcall _).mono ?_; rintro e w1 ⟨ai, li, ci, af, lf, cf, rfl, hr1, hb1⟩; obtain ⟨hc1, hf1⟩ := bcell hb1; have hz1 : w.heap.size + 1 < w1.heap.size := (by have := hb1.size; simp at this; omega); have hz2 : w.heap.size < w1.heap.size := (by omega)))
  have kz := zeros4 hb1 hb2
  exact bodyPost_ret (v := .tuple #[.agg #[.int .i64 0, .string ByteArray.empty, .bool false, .slice none 0 0, .slice none 0 0], .agg #[.int .i64 0, .string ByteArray.empty, .bool false, .slice none 0 0, .slice none 0 0], .int .i64 2]) (by simp [results, Tryd.results26, go_sem, kz, hy1, hy2, hy3]; rfl) rfl ⟨rfl, Below.alloc' (Below.set5 (Below.set5 (thnT (Below.alloc' (thnT (BBt w _ _) hb1) _) hb2) (Nat.le_refl _)) (by omega)) _⟩
end
section
set_option maxRecDepth 4000
open Go.RowKit

theorem decOut_st (s t : ByteArray) : decOut true s t = decOut false s t := by
  unfold decOut; rw [pAll_st]
theorem pAll_some {st : Bool} {s : ByteArray} {ty : Ty} (hx : pAll st s = some ty) : pType st s s.size 0 = some (ty, s.size) := by
  unfold pAll at hx
  rcases hq : pType st s s.size 0 with _ | ⟨ty', k⟩
  · rw [hq] at hx; cases hx
  · rw [hq] at hx; simp only at hx
    split at hx
    · rename_i h; cases hx; rw [h]
    · cases hx

set_option maxHeartbeats 1000000 in
theorem rDecode_any (s t : ByteArray) (hs : s.size ≤ maxLen) (ht : t.size ≤ maxLen) (w : World) :
    Calls Tryd.prog 10 #[.string s, .string t] w fun e w' => e = .returned (.tuple #[.string (decOut true s t).1, .int .i64 (decOut true s t).2]) ∧ Below w.heap.size w w' := by
  have hck := fun w => rCheck_any s hs w
  by_cases h1 : 60 < s.size
  · have hr : Hid (decOut true s t = (ByteArray.empty, 1)) := by show _ = _; unfold decOut; rw [if_pos (.inl h1)]
    rw [show chk true s = 1 by unfold chk; rw [if_pos h1]] at hck
    clear hs ht
    go_enter Tryd.func10, Tryd.ntmps10
    go_wp2_with (go_at_call 22; refine (hck _).mono ?_; rintro e w1 ⟨rfl, hb1⟩)
    go_ret2
    rw [hr.out]
    exact ⟨rfl, hb1⟩
  · cases hx : pAll true s with
    | none =>
      rw [show chk true s = 2 by unfold chk; rw [if_neg h1, hx]; rfl] at hck
      by_cases h2 : 64 < t.size
      · have hr : Hid (decOut true s t = (ByteArray.empty, 1)) := by show _ = _; unfold decOut; rw [if_pos (.inr h2)]
        unfold maxLen at hs ht
        clear hx
        go_enter Tryd.func10, Tryd.ntmps10
        go_wp2_with (go_at_call 22; refine (hck _).mono ?_; rintro e w1 ⟨rfl, hb1⟩)
        go_ret2
        rw [hr.out]
        exact ⟨rfl, hb1⟩
      · have hr : Hid (decOut true s t = (ByteArray.empty, 2)) := by show _ = _; unfold decOut; rw [if_neg (by omega), hx]
        clear hx hs ht
        go_enter Tryd.func10, Tryd.ntmps10
        go_wp2_with (go_at_call 22; refine (hck _).mono ?_; rintro e w1 ⟨rfl, hb1⟩)
        go_ret2
        rw [hr.out]
        exact ⟨rfl, hb1⟩
    | some ty =>
      rw [show chk true s = 0 by unfold chk; rw [if_neg h1, hx]; rfl] at hck
      by_cases h2 : 64 < t.size
      · have hr : Hid (decOut true s t = (ByteArray.empty, 1)) := by show _ = _; unfold decOut; rw [if_pos (.inr h2)]
        unfold maxLen at hs ht
        clear hx
        go_enter Tryd.func10, Tryd.ntmps10
        go_wp2_with (go_at_call 22; refine (hck _).mono ?_; rintro e w1 ⟨rfl, hb1⟩)
        go_ret2
        rw [hr.out]
        exact ⟨rfl, hb1⟩
      · have IL := tell_all (s := s) (t := t) (by omega) (by omega) s.size (by omega)
        have hp := pAll_some hx
        have hOut : decOut true s t = (match decAll t s.size ty with | none => (ByteArray.empty, 5) | some t => (t, 0)) := by unfold decOut; rw [if_neg (by omega), hx]; simp only; rcases decAll t s.size ty with _ | d <;> rfl
        clear hx hs ht
        cases hy : dec t s.size ty 0 with
        | none =>
          have hr : Hid (decOut true s t = (ByteArray.empty, 5)) := by show _ = _; rw [hOut]; unfold decAll; rw [hy]
          have hcall := fun w => IL.no w hp (by omega) (Nat.zero_le _) hy
          have hne : ((-1 : Int) != (t.size : Int)) = true := by rw [bne_iff_ne]; omega
          clear hOut hp hy IL
          go_enter Tryd.func10, Tryd.ntmps10
          go_wp2_with (first | (go_at_call 22; refine (hck _).mono ?_; rintro e w1 ⟨rfl, hb1⟩) | (go_at_call 23; refine (hcall _).mono ?_; rintro e w2 ⟨rfl, hb2⟩))
          go_ret2
          rw [hr.out]
          exact ⟨rfl, hb1.trans (hb2.mono hb1.size)⟩
        | some q =>
          obtain ⟨d, k⟩ := q
          have hcall := fun w => IL.yes w hp (by omega) (Nat.zero_le _) hy
          by_cases hk : k = t.size
          · have hne : ((k : Int) != (t.size : Int)) = false := by simp; omega
            have hr : Hid (decOut true s t = (d, 0)) := by show _ = _; rw [hOut]; unfold decAll; rw [hy]; simp only [if_pos hk]
            clear hOut hp hy IL hk
            go_enter Tryd.func10, Tryd.ntmps10
            go_wp2_with (first | (go_at_call 22; refine (hck _).mono ?_; rintro e w1 ⟨rfl, hb1⟩) | (go_at_call 23; refine (hcall _).mono ?_; rintro e w2 ⟨rfl, hb2⟩))
            go_ret2
            rw [hr.out]
            exact ⟨rfl, hb1.trans (hb2.mono hb1.size)⟩
          · have hne : ((k : Int) != (t.size : Int)) = true := by simp; omega
            have hr : Hid (decOut true s t = (ByteArray.empty, 5)) := by show _ = _; rw [hOut]; unfold decAll; rw [hy]; simp only [if_neg hk]
            clear hOut hp hy IL hk
            go_enter Tryd.func10, Tryd.ntmps10
            go_wp2_with (first | (go_at_call 22; refine (hck _).mono ?_; rintro e w1 ⟨rfl, hb1⟩) | (go_at_call 23; refine (hcall _).mono ?_; rintro e w2 ⟨rfl, hb2⟩))
            go_ret2
            rw [hr.out]
            exact ⟨rfl, hb1.trans (hb2.mono hb1.size)⟩
end
section
set_option maxRecDepth 4000
open Go.RowKit

set_option maxHeartbeats 1000000 in
theorem Read_data (s t d : ByteArray) (hd : 64 < d.size) (hm : d.size ≤ maxLen) (w : World) :
    Calls Tryd.prog 15 #[.string s, .string t, .string d] w fun e w' => e = .returned (.tuple #[.string ByteArray.empty, .int .i64 1]) ∧ Below w.heap.size w w' := by
  unfold maxLen at hm
  go_enter Tryd.func15, Tryd.ntmps15
  go_wp2_with fail
  go_ret2
  exact ⟨rfl, Below.refl _ _⟩

set_option maxHeartbeats 1000000 in
/-- The way where the schemas have an error. -/
theorem Read_err (s t d : ByteArray) (hd : d.size ≤ 64) (w : World) (n : Int) (hn : (n != 0) = true)
    (hcall : ∀ w, Calls Tryd.prog 26 #[.string s, .string t] w fun e w' => e = .returned (.tuple #[.agg #[.int .i64 0, .string ByteArray.empty, .bool false, .slice none 0 0, .slice none 0 0], .agg #[.int .i64 0, .string ByteArray.empty, .bool false, .slice none 0 0, .slice none 0 0], .int .i64 n]) ∧ Below w.heap.size w w') :
    Calls Tryd.prog 15 #[.string s, .string t, .string d] w fun e w' => e = .returned (.tuple #[.string ByteArray.empty, .int .i64 n]) ∧ Below w.heap.size w w' := by
  go_enter Tryd.func15, Tryd.ntmps15
  go_wp2_with (go_at_call 26; refine (hcall _).mono ?_; rintro e w1 ⟨rfl, hb1⟩)
  go_ret2
  exact ⟨rfl, Below.alloc' (Below.alloc' hb1 _) _⟩


set_option maxHeartbeats 1000000 in
/-- The way where the data are no value's. -/
theorem Read_no (s t d : ByteArray) (hd : d.size ≤ 64) (w : World) (x r : Ty) (n m : Nat)
    (hcall : ∀ w, Calls Tryd.prog 26 #[.string s, .string t] w fun e w' => ∃ ai li ci af lf cf bi mi di bf mf df, e = .returned (.tuple #[.agg #[.int .i64 x.kind, .string x.letters, .bool x.op, .slice ai li ci, .slice af lf cf], .agg #[.int .i64 r.kind, .string r.letters, .bool r.op, .slice bi mi di, .slice bf mf df], .int .i64 0]) ∧
      RepB (fun b => w.heap.size ≤ b) n w' ai li ci af lf cf x ∧ RepB (fun b => w.heap.size ≤ b) m w' bi mi di bf mf df r ∧ Below w.heap.size w w')
    (hdec : ∀ (W : World) (ai af : Option Addr) (li ci lf cf : Nat), Below w.heap.size w W → Rep n W ai li ci af lf cf x → Calls Tryd.prog 21 #[.agg #[.int .i64 x.kind, .string x.letters, .bool x.op, .slice ai li ci, .slice af lf cf], .string d] W fun e w' => e = .returned (.tuple #[.string ByteArray.empty, .bool false]) ∧ Below W.heap.size W w') :
    Calls Tryd.prog 15 #[.string s, .string t, .string d] w fun e w' => e = .returned (.tuple #[.string ByteArray.empty, .int .i64 5]) ∧ Below w.heap.size w w' := by
  go_enter Tryd.func15, Tryd.ntmps15
  go_wp2_with (first | (go_at_call 26; refine (hcall _).mono ?_; rintro e w1 ⟨ai, li, ci, af, lf, cf, bi, mi, di, bf, mf, df, rfl, hr1, hr2, hb1⟩) | (go_at_call 21; refine (hdec _ _ _ _ _ _ _ (Below.alloc' (Below.alloc' hb1 _) _) (hr1.rep.keep (BB w1 _ _))).mono ?_; rintro e w2 ⟨rfl, hb2⟩))
  go_ret2
  exact ⟨rfl, (Below.alloc' (Below.alloc' hb1 _) _).thn hb2⟩

set_option maxHeartbeats 1000000 in
theorem Read_fail (s t d T y : ByteArray) (hd : d.size ≤ 64) (w : World) (x r : Ty) (n m : Nat)
    (hcall : ∀ w, Calls Tryd.prog 26 #[.string s, .string t] w fun e w' => ∃ ai li ci af lf cf bi mi di bf mf df, e = .returned (.tuple #[.agg #[.int .i64 x.kind, .string x.letters, .bool x.op, .slice ai li ci, .slice af lf cf], .agg #[.int .i64 r.kind, .string r.letters, .bool r.op, .slice bi mi di, .slice bf mf df], .int .i64 0]) ∧
      RepB (fun b => w.heap.size ≤ b) n w' ai li ci af lf cf x ∧ RepB (fun b => w.heap.size ≤ b) m w' bi mi di bf mf df r ∧ Below w.heap.size w w')
    (hdec : ∀ (W : World) (ai af : Option Addr) (li ci lf cf : Nat), Below w.heap.size w W → Rep n W ai li ci af lf cf x → Calls Tryd.prog 21 #[.agg #[.int .i64 x.kind, .string x.letters, .bool x.op, .slice ai li ci, .slice af lf cf], .string d] W fun e w' => e = .returned (.tuple #[.string T, .bool true]) ∧ Below W.heap.size W w')
    (hrd : ∀ (W : World) (ai af : Option Addr) (li ci lf cf : Nat) (bi bf : Option Addr) (mi di mf df : Nat), Below w.heap.size w W → Rep n W ai li ci af lf cf x → Rep m W bi mi di bf mf df r → Calls Tryd.prog 27 #[.agg #[.int .i64 x.kind, .string x.letters, .bool x.op, .slice ai li ci, .slice af lf cf], .agg #[.int .i64 r.kind, .string r.letters, .bool r.op, .slice bi mi di, .slice bf mf df], .string d] W fun e w' => e = .returned (.tuple #[.string y, .bool false]) ∧ Below W.heap.size W w') :
    Calls Tryd.prog 15 #[.string s, .string t, .string d] w fun e w' => e = .returned (.tuple #[.string ByteArray.empty, .int .i64 6]) ∧ Below w.heap.size w w' := by
  go_enter Tryd.func15, Tryd.ntmps15
  go_wp2_with (first | (go_at_call 26; refine (hcall _).mono ?_; rintro e w1 ⟨ai, li, ci, af, lf, cf, bi, mi, di, bf, mf, df, rfl, hr1, hr2, hb1⟩) | (go_at_call 21; refine (hdec _ _ _ _ _ _ _ (Below.alloc' (Below.alloc' hb1 _) _) (hr1.rep.keep (BB w1 _ _))).mono ?_; rintro e w2 ⟨rfl, hb2⟩; have e2 := keep10 hb2 (boxes2 w1 x r ai li ci af lf cf bi mi di bf mf df)) | (go_at_call 27; refine (hrd _ _ _ _ _ _ _ _ _ _ _ _ _ ((Below.alloc' (Below.alloc' hb1 _) _).thn hb2) (hr1.rep.keep ((BB w1 _ _).thn hb2)) (hr2.rep.keep ((BB w1 _ _).thn hb2))).mono ?_; rintro e w3 ⟨rfl, hb3⟩))
  go_ret2
  exact ⟨rfl, ((Below.alloc' (Below.alloc' hb1 _) _).thn hb2).thn hb3⟩

set_option maxHeartbeats 1000000 in
theorem Read_done (s t d T y : ByteArray) (hd : d.size ≤ 64) (w : World) (x r : Ty) (n m : Nat)
    (hcall : ∀ w, Calls Tryd.prog 26 #[.string s, .string t] w fun e w' => ∃ ai li ci af lf cf bi mi di bf mf df, e = .returned (.tuple #[.agg #[.int .i64 x.kind, .string x.letters, .bool x.op, .slice ai li ci, .slice af lf cf], .agg #[.int .i64 r.kind, .string r.letters, .bool r.op, .slice bi mi di, .slice bf mf df], .int .i64 0]) ∧
      RepB (fun b => w.heap.size ≤ b) n w' ai li ci af lf cf x ∧ RepB (fun b => w.heap.size ≤ b) m w' bi mi di bf mf df r ∧ Below w.heap.size w w')
    (hdec : ∀ (W : World) (ai af : Option Addr) (li ci lf cf : Nat), Below w.heap.size w W → Rep n W ai li ci af lf cf x → Calls Tryd.prog 21 #[.agg #[.int .i64 x.kind, .string x.letters, .bool x.op, .slice ai li ci, .slice af lf cf], .string d] W fun e w' => e = .returned (.tuple #[.string T, .bool true]) ∧ Below W.heap.size W w')
    (hrd : ∀ (W : World) (ai af : Option Addr) (li ci lf cf : Nat) (bi bf : Option Addr) (mi di mf df : Nat), Below w.heap.size w W → Rep n W ai li ci af lf cf x → Rep m W bi mi di bf mf df r → Calls Tryd.prog 27 #[.agg #[.int .i64 x.kind, .string x.letters, .bool x.op, .slice ai li ci, .slice af lf cf], .agg #[.int .i64 r.kind, .string r.letters, .bool r.op, .slice bi mi di, .slice bf mf df], .string d] W fun e w' => e = .returned (.tuple #[.string y, .bool true]) ∧ Below W.heap.size W w') :
    Calls Tryd.prog 15 #[.string s, .string t, .string d] w fun e w' => e = .returned (.tuple #[.string y, .int .i64 0]) ∧ Below w.heap.size w w' := by
  go_enter Tryd.func15, Tryd.ntmps15
  go_wp2_with (first | (go_at_call 26; refine (hcall _).mono ?_; rintro e w1 ⟨ai, li, ci, af, lf, cf, bi, mi, di, bf, mf, df, rfl, hr1, hr2, hb1⟩) | (go_at_call 21; refine (hdec _ _ _ _ _ _ _ (Below.alloc' (Below.alloc' hb1 _) _) (hr1.rep.keep (BB w1 _ _))).mono ?_; rintro e w2 ⟨rfl, hb2⟩; have e2 := keep10 hb2 (boxes2 w1 x r ai li ci af lf cf bi mi di bf mf df)) | (go_at_call 27; refine (hrd _ _ _ _ _ _ _ _ _ _ _ _ _ ((Below.alloc' (Below.alloc' hb1 _) _).thn hb2) (hr1.rep.keep ((BB w1 _ _).thn hb2)) (hr2.rep.keep ((BB w1 _ _).thn hb2))).mono ?_; rintro e w3 ⟨rfl, hb3⟩))
  go_ret2
  exact ⟨rfl, ((Below.alloc' (Below.alloc' hb1 _) _).thn hb2).thn hb3⟩

/-- What 'Read' answers of a value: by 'rdT'. -/
def rdOut : Option ByteArray → ByteArray × Int
  | none => (ByteArray.empty, 6)
  | some t => (t, 0)
/-- What 'Read' answers: 'a' is said of the answer. -/
def ReadIs (s t d : ByteArray) (a : ByteArray × Int) : Prop :=
  if 60 < s.size ∨ 60 < t.size ∨ 64 < d.size then a = (ByteArray.empty, 1)
  else match pAll false s, pAll false t with
    | some x, some r =>
      (match decAll d s.size x with
        | none => a = (ByteArray.empty, 5)
        | some _ => ∃ v, okV s.size x v ∧ d = datV s.size v ∧ a = rdOut (rdT (s.size + t.size) x r v))
    | _, _ => a = (ByteArray.empty, 2)
theorem decAll_un {d : ByteArray} {n : Nat} {x : Ty} {T : ByteArray} (h : decAll d n x = some T) : ∃ v, okV n x v ∧ d = datV n v ∧ T = txtV n x v := by
  unfold decAll at h
  split at h
  · cases h
  · rename_i t k hk
    split at h
    · rename_i hks
      cases h
      obtain ⟨v, h1, h2, h3, h4⟩ := dec_un n x 0 T k (Nat.zero_le _) hk
      refine ⟨v, h1, ?_, h4⟩
      have h5 := h2.ext
      rw [← h3, hks] at h5
      rw [← h5]
      exact bytes_eq (by rw [size_extract _ _ _ (Nat.zero_le _) (Nat.le_refl _)]; omega) (fun i hi => by rw [bAt_ext _ _ _ _ (by omega) (Nat.le_refl _), Nat.zero_add])
    · cases h
theorem pAll_wt {st : Bool} {s : ByteArray} {x : Ty} (h : pAll st s = some x) (hs : s.size ≤ 60) (N : Nat) : wt N x ≤ 20000 := by
  have := pType_wt st s N _ _ _ _ (pAll_some h)
  omega
/-- There is an answer of 'Read', and the program gives it. -/
theorem Read_any {Tab : World → Prop} (F : FmtOK Tab) (s t d : ByteArray) (hs : s.size ≤ maxLen) (ht : t.size ≤ maxLen) (hd : d.size ≤ maxLen) :
    ∃ a, ReadIs s t d a ∧ ∀ w, Tab w → Calls Tryd.prog 15 #[.string s, .string t, .string d] w fun e w' => e = .returned (.tuple #[.string a.1, .int .i64 a.2]) ∧ Below w.heap.size w w' := by
  unfold ReadIs
  by_cases h1 : 64 < d.size
  · exact ⟨_, by rw [if_pos (.inr (.inr h1))], fun w _ => Read_data s t d h1 hd w⟩
  by_cases h2 : 60 < s.size ∨ 60 < t.size
  · exact ⟨_, by rw [if_pos (by omega)], fun w _ => Read_err s t d (by omega) w 1 rfl (fun w => typesOf_long hs ht h2 w)⟩
  have hs60 : s.size ≤ 60 := by omega
  have ht60 : t.size ≤ 60 := by omega
  simp only [if_neg (show ¬ (60 < s.size ∨ 60 < t.size ∨ 64 < d.size) by omega)]
  cases hx : pAll false s with
  | none => exact ⟨_, rfl, fun w _ => Read_err s t d (by omega) w 2 rfl (fun w => typesOf_bad1 hs60 ht60 hx w)⟩
  | some x =>
    cases hr : pAll false t with
    | none => exact ⟨_, rfl, fun w _ => Read_err s t d (by omega) w 2 rfl (fun w => typesOf_bad2 hs60 ht60 hx hr w)⟩
    | some r =>
      have hc := fun w => typesOf_ok hs60 ht60 hx hr w
      have hdec := fun (w : World) (hT : Tab w) (W : World) (ai af : Option Addr) (li ci lf cf : Nat) (hb : Below w.heap.size w W) (h : Rep s.size W ai li ci af lf cf x) => sDecode_any F (t := d) (by omega) (show s.size ≤ 100 by omega) x W ai af li ci lf cf (F.1 _ _ hb hT) (pAll_ok hx) h
      cases hy : decAll d s.size x with
      | none =>
        rw [hy] at hdec
        exact ⟨(ByteArray.empty, 5), by simp only [hy], fun w hT => Read_no s t d (by omega) w x r _ _ hc (fun W ai af li ci lf cf hb h => hdec w hT W ai af li ci lf cf hb h)⟩
      | some T =>
        rw [hy] at hdec
        obtain ⟨v, hv1, hv2, hv3⟩ := decAll_un hy
        have hrd := fun (w : World) (hT : Tab w) (W : World) (ai af : Option Addr) (li ci lf cf : Nat) (bi bf : Option Addr) (mi di mf df : Nat) (hb : Below w.heap.size w W) (h : Rep s.size W ai li ci af lf cf x) (h' : Rep t.size W bi mi di bf mf df r) =>
          read_all F (s.size + t.size) s.size t.size x r v W ai af li ci lf cf bi bf mi di mf df (Nat.le_refl _) (by omega) (by omega) (F.1 _ _ hb hT) (pAll_ok hx) (pAll_ok hr) h h' hv1 (by rw [← hv2]; omega) (pAll_wt hr ht60 _)
        refine ⟨rdOut (rdT (s.size + t.size) x r v), by simp only [hy]; exact ⟨v, hv1, hv2, rfl⟩, fun w hT => ?_⟩
        rw [← hv2] at hrd
        cases hz : rdT (s.size + t.size) x r v with
        | none =>
          rw [hz] at hrd
          exact Read_fail s t d T _ (by omega) w x r _ _ hc (fun W ai af li ci lf cf hb h => hdec w hT W ai af li ci lf cf hb h) (fun W ai af li ci lf cf bi bf mi di mf df hb h h' => hrd w hT W ai af li ci lf cf bi bf mi di mf df hb h h')
        | some y =>
          rw [hz] at hrd
          exact Read_done s t d T y (by omega) w x r _ _ hc (fun W ai af li ci lf cf hb h => hdec w hT W ai af li ci lf cf hb h) (fun W ai af li ci lf cf bi bf mi di mf df hb h h' => hrd w hT W ai af li ci lf cf bi bf mi di mf df hb h h')
end
section
set_option maxRecDepth 4000
open Go.RowKit

set_option maxHeartbeats 1000000 in
theorem rRead_err (s t d : ByteArray) (hd : d.size ≤ maxLen) (n r : Int) (hb : ∀ w, Calls Tryd.prog 28 #[.string s, .string t] w fun e w' => e = .returned (.int .i64 n) ∧ Below w.heap.size w w') (h : (n = 1 ∧ r = 1) ∨ (n ≠ 1 ∧ 64 < d.size ∧ r = 1) ∨ (n = 2 ∧ ¬ 64 < d.size ∧ r = 2)) (w : World) :
    Calls Tryd.prog 16 #[.string s, .string t, .string d] w fun e w' => e = .returned (.tuple #[.string ByteArray.empty, .int .i64 r]) ∧ Below w.heap.size w w' := by
  unfold maxLen at hd
  rcases h with ⟨rfl, rfl⟩ | ⟨h1, h2, rfl⟩ | ⟨rfl, h2, rfl⟩
  · go_enter Tryd.func16, Tryd.ntmps16
    go_wp2_with (go_at_call 28; refine (hb _).mono ?_; rintro e w1 ⟨rfl, hb1⟩)
    go_ret2
    exact ⟨rfl, hb1⟩
  · have h1' : (n == 1) = false := by simpa using h1
    clear h1
    go_enter Tryd.func16, Tryd.ntmps16
    go_wp2_with (go_at_call 28; refine (hb _).mono ?_; rintro e w1 ⟨rfl, hb1⟩)
    go_ret2
    exact ⟨rfl, hb1⟩
  · go_enter Tryd.func16, Tryd.ntmps16
    go_wp2_with (go_at_call 28; refine (hb _).mono ?_; rintro e w1 ⟨rfl, hb1⟩)
    go_ret2
    exact ⟨rfl, hb1⟩

set_option maxHeartbeats 1000000 in
theorem rRead_no (s t d T : ByteArray) (hd : d.size ≤ 64) (k : Int) (hk : (k != (d.size : Int)) = true) (hb : ∀ w, Calls Tryd.prog 28 #[.string s, .string t] w fun e w' => e = .returned (.int .i64 0) ∧ Below w.heap.size w w')
    (ht : ∀ w, Calls Tryd.prog 23 #[.string s, .int .i64 0, .string d, .int .i64 0] w fun e w' => e = .returned (.tuple #[.string T, .int .i64 k]) ∧ Below w.heap.size w w') (w : World) :
    Calls Tryd.prog 16 #[.string s, .string t, .string d] w fun e w' => e = .returned (.tuple #[.string ByteArray.empty, .int .i64 5]) ∧ Below w.heap.size w w' := by
  go_enter Tryd.func16, Tryd.ntmps16
  go_wp2_with (first | (go_at_call 28; refine (hb _).mono ?_; rintro e w1 ⟨rfl, hb1⟩) | (go_at_call 23; refine (ht _).mono ?_; rintro e w2 ⟨rfl, hb2⟩))
  go_ret2
  exact ⟨rfl, hb1.trans (hb2.mono hb1.size)⟩

set_option maxHeartbeats 1000000 in
theorem rRead_fail (s t d T : ByteArray) (hd : d.size ≤ 64) (hb : ∀ w, Calls Tryd.prog 28 #[.string s, .string t] w fun e w' => e = .returned (.int .i64 0) ∧ Below w.heap.size w w')
    (ht : ∀ w, Calls Tryd.prog 23 #[.string s, .int .i64 0, .string d, .int .i64 0] w fun e w' => e = .returned (.tuple #[.string T, .int .i64 d.size]) ∧ Below w.heap.size w w')
    (hsn : ∀ w, Calls Tryd.prog 29 #[.string s, .int .i64 0, .string t, .int .i64 0, .string d, .int .i64 0] w fun e w' => SRet none e ∧ Below w.heap.size w w') (w : World) :
    Calls Tryd.prog 16 #[.string s, .string t, .string d] w fun e w' => e = .returned (.tuple #[.string ByteArray.empty, .int .i64 6]) ∧ Below w.heap.size w w' := by
  have hk : ((d.size : Int) != (d.size : Int)) = false := by simp
  go_enter Tryd.func16, Tryd.ntmps16
  go_wp2_with (first | (go_at_call 28; refine (hb _).mono ?_; rintro e w1 ⟨rfl, hb1⟩) | (go_at_call 23; refine (ht _).mono ?_; rintro e w2 ⟨rfl, hb2⟩) | (go_at_call 29; refine (hsn _).mono ?_; rintro e w3 ⟨⟨z, rfl⟩, hb3⟩))
  go_ret2
  exact ⟨rfl, (hb1.trans (hb2.mono hb1.size)).trans (hb3.mono (Nat.le_trans hb1.size hb2.size))⟩

set_option maxHeartbeats 1000000 in
theorem rRead_done (s t d T y : ByteArray) (hd : d.size ≤ 64) (hb : ∀ w, Calls Tryd.prog 28 #[.string s, .string t] w fun e w' => e = .returned (.int .i64 0) ∧ Below w.heap.size w w')
    (ht : ∀ w, Calls Tryd.prog 23 #[.string s, .int .i64 0, .string d, .int .i64 0] w fun e w' => e = .returned (.tuple #[.string T, .int .i64 d.size]) ∧ Below w.heap.size w w')
    (hsn : ∀ w, Calls Tryd.prog 29 #[.string s, .int .i64 0, .string t, .int .i64 0, .string d, .int .i64 0] w fun e w' => SRet (some y) e ∧ Below w.heap.size w w') (w : World) :
    Calls Tryd.prog 16 #[.string s, .string t, .string d] w fun e w' => e = .returned (.tuple #[.string y, .int .i64 0]) ∧ Below w.heap.size w w' := by
  have hk : ((d.size : Int) != (d.size : Int)) = false := by simp
  go_enter Tryd.func16, Tryd.ntmps16
  go_wp2_with (first | (go_at_call 28; refine (hb _).mono ?_; rintro e w1 ⟨rfl, hb1⟩) | (go_at_call 23; refine (ht _).mono ?_; rintro e w2 ⟨rfl, hb2⟩) | (go_at_call 29; refine (hsn _).mono ?_; rintro e w3 ⟨rfl, hb3⟩))
  go_ret2
  exact ⟨rfl, (hb1.trans (hb2.mono hb1.size)).trans (hb3.mono (Nat.le_trans hb1.size hb2.size))⟩

theorem chk_long {s : ByteArray} (h : 60 < s.size) : chk true s = 1 := by unfold chk; rw [if_pos h]
theorem chk_bad {s : ByteArray} (h : ¬ 60 < s.size) (hx : pAll true s = none) : chk true s = 2 := by unfold chk; rw [if_neg h, hx]; rfl
theorem chk_good {s : ByteArray} (h : ¬ 60 < s.size) {x : Ty} (hx : pAll true s = some x) : chk true s = 0 := by unfold chk; rw [if_neg h, hx]; rfl
/-- The reference gives the answer that is said of 'Read'. -/
theorem rRead_any (s t d : ByteArray) (hs : s.size ≤ maxLen) (ht : t.size ≤ maxLen) (hd : d.size ≤ maxLen) (a : ByteArray × Int) (h : ReadIs s t d a) (w : World) :
    Calls Tryd.prog 16 #[.string s, .string t, .string d] w fun e w' => e = .returned (.tuple #[.string a.1, .int .i64 a.2]) ∧ Below w.heap.size w w' := by
  have hbo := fun w => both_any s t hs ht w
  unfold ReadIs at h
  by_cases h2 : 60 < s.size ∨ 60 < t.size
  · rw [if_pos (by omega)] at h
    rw [show bothI s t = 1 by unfold bothI; rw [if_pos]; rcases h2 with h | h; exact .inl (chk_long h); exact .inr (chk_long h)] at hbo
    rw [h]
    exact rRead_err s t d hd 1 1 hbo (.inl ⟨rfl, rfl⟩) w
  have hs60 : ¬ 60 < s.size := by omega
  have ht60 : ¬ 60 < t.size := by omega
  have hne1 : bothI s t ≠ 1 := by
    have e1 : ¬ (chk true s = 1 ∨ chk true t = 1) := by
      rintro (h | h) <;> (unfold chk at h; rw [if_neg (by assumption)] at h; split at h <;> omega)
    unfold bothI; rw [if_neg e1]; split <;> omega
  by_cases h1 : 64 < d.size
  · rw [if_pos (by omega)] at h
    rw [h]
    exact rRead_err s t d hd _ 1 hbo (.inr (.inl ⟨hne1, h1, rfl⟩)) w
  rw [if_neg (by omega), ← pAll_st s, ← pAll_st t] at h
  cases hx : pAll true s with
  | none =>
    rw [hx] at h
    have hb2 : bothI s t = 2 := by
      have := chk_bad hs60 hx
      unfold bothI at hne1 ⊢
      split at hne1
      · exact absurd rfl hne1
      · rename_i hc; rw [if_neg hc, if_pos (.inl (by omega))]
    rw [hb2] at hbo
    simp only at h
    rw [h]
    exact rRead_err s t d hd 2 2 hbo (.inr (.inr ⟨rfl, h1, rfl⟩)) w
  | some x =>
    cases hr : pAll true t with
    | none =>
      rw [hx, hr] at h
      have hb2 : bothI s t = 2 := by
        have := chk_bad ht60 hr
        unfold bothI at hne1 ⊢
        split at hne1
        · exact absurd rfl hne1
        · rename_i hc; rw [if_neg hc, if_pos (.inr (by omega))]
      rw [hb2] at hbo
      simp only at h
      rw [h]
      exact rRead_err s t d hd 2 2 hbo (.inr (.inr ⟨rfl, h1, rfl⟩)) w
    | some r =>
      rw [hx, hr] at h
      simp only at h
      have hb0 : bothI s t = 0 := by
        have e1 := chk_good hs60 hx
        have e2 := chk_good ht60 hr
        unfold bothI; rw [e1, e2]; rfl
      rw [hb0] at hbo
      have hp := pAll_some hx
      have hq := pAll_some hr
      have IL := tell_all (s := s) (t := d) (by omega) (by omega) s.size (by omega)
      unfold decAll at h
      cases hy : dec d s.size x 0 with
      | none =>
        rw [hy] at h
        simp only at h
        rw [h]
        exact rRead_no s t d _ (by omega) (-1) (by rw [bne_iff_ne]; omega) hbo (fun w => IL.no w hp (by omega) (Nat.zero_le _) hy) w
      | some q =>
        obtain ⟨T, k⟩ := q
        have ht := fun w => IL.yes w hp (by omega) (Nat.zero_le _) hy
        rw [hy] at h
        by_cases hk : k = d.size
        · simp only [if_pos hk] at h
          subst hk
          obtain ⟨v, hv1, hv2, hv3⟩ := h
          have hsn := fun w => seen_all (s := s) (t := t) (d := d) (by omega) (by omega) (by omega) (s.size + t.size) s.size t.size 0 0 0 x r s.size t.size v w (Nat.le_refl _) (by omega) (by omega) hp (by omega) hq (by omega) hv1 (by rw [hv2]; exact At.self _) (pAll_wt hr (by omega) _)
          rw [hv3]
          cases hz : rdT (s.size + t.size) x r v with
          | none =>
            rw [hz] at hsn
            exact rRead_fail s t d T (by omega) hbo ht hsn w
          | some y =>
            rw [hz] at hsn
            exact rRead_done s t d T y (by omega) hbo ht hsn w
        · simp only [if_neg hk] at h
          rw [h]
          exact rRead_no s t d T (by omega) k (by simp; omega) hbo ht w
end
end Go.Proofs.YtkkekopomiehlaaDoor
