import Derived.Test.YtkkekopomiehlaaDoorProg1
set_option linter.unusedVariables false
set_option linter.unusedSimpArgs false
set_option maxRecDepth 4000
namespace Go.Proofs.YtkkekopomiehlaaDoor
open Go.RowKit

theorem zeros2 {w w1 : World} (hb : Below ((w.alloc (.cells #[.int .i64 0, .string ⟨#[]⟩, .bool false, .slice none 0 0, .slice none 0 0] 38)).alloc (.cells #[.int .i64 0, .string ⟨#[]⟩, .bool false, .slice none 0 0, .slice none 0 0] 38)).heap.size ((w.alloc (.cells #[.int .i64 0, .string ⟨#[]⟩, .bool false, .slice none 0 0, .slice none 0 0] 38)).alloc (.cells #[.int .i64 0, .string ⟨#[]⟩, .bool false, .slice none 0 0, .slice none 0 0] 38)) w1) :
    w1.cell? ⟨w.heap.size, 0, none⟩ = some (.int .i64 0) ∧ w1.cell? ⟨w.heap.size, 1, none⟩ = some (.string ⟨#[]⟩) ∧ w1.cell? ⟨w.heap.size, 2, none⟩ = some (.bool false) ∧ w1.cell? ⟨w.heap.size, 3, none⟩ = some (.slice none 0 0) ∧ w1.cell? ⟨w.heap.size, 4, none⟩ = some (.slice none 0 0) ∧ w1.cell? ⟨w.heap.size + 1, 0, none⟩ = some (.int .i64 0) ∧ w1.cell? ⟨w.heap.size + 1, 1, none⟩ = some (.string ⟨#[]⟩) ∧ w1.cell? ⟨w.heap.size + 1, 2, none⟩ = some (.bool false) ∧ w1.cell? ⟨w.heap.size + 1, 3, none⟩ = some (.slice none 0 0) ∧ w1.cell? ⟨w.heap.size + 1, 4, none⟩ = some (.slice none 0 0) := by
  have h : (w.alloc (.cells #[.int .i64 0, .string ⟨#[]⟩, .bool false, .slice none 0 0, .slice none 0 0] 38)).heap.size = w.heap.size + 1 := by simp
  refine ⟨cell_keep hb (cell_new _ (cell_last rfl rfl)), cell_keep hb (cell_new _ (cell_last rfl rfl)), cell_keep hb (cell_new _ (cell_last rfl rfl)), cell_keep hb (cell_new _ (cell_last rfl rfl)), cell_keep hb (cell_new _ (cell_last rfl rfl)), ?_⟩
  rw [← h]
  exact ⟨cell_keep hb (cell_last rfl rfl), cell_keep hb (cell_last rfl rfl), cell_keep hb (cell_last rfl rfl), cell_keep hb (cell_last rfl rfl), cell_keep hb (cell_last rfl rfl)⟩
theorem zeros3 {w w1 w2 : World} {o o2 : Obj} (hb : Below ((w.alloc (.cells #[.int .i64 0, .string ⟨#[]⟩, .bool false, .slice none 0 0, .slice none 0 0] 38)).alloc (.cells #[.int .i64 0, .string ⟨#[]⟩, .bool false, .slice none 0 0, .slice none 0 0] 38)).heap.size ((w.alloc (.cells #[.int .i64 0, .string ⟨#[]⟩, .bool false, .slice none 0 0, .slice none 0 0] 38)).alloc (.cells #[.int .i64 0, .string ⟨#[]⟩, .bool false, .slice none 0 0, .slice none 0 0] 38)) w1) (hb2 : Below (w1.alloc o).heap.size (w1.alloc o) w2) :
    (w2.alloc o2).cell? ⟨w.heap.size, 0, none⟩ = some (.int .i64 0) ∧ (w2.alloc o2).cell? ⟨w.heap.size, 1, none⟩ = some (.string ⟨#[]⟩) ∧ (w2.alloc o2).cell? ⟨w.heap.size, 2, none⟩ = some (.bool false) ∧ (w2.alloc o2).cell? ⟨w.heap.size, 3, none⟩ = some (.slice none 0 0) ∧ (w2.alloc o2).cell? ⟨w.heap.size, 4, none⟩ = some (.slice none 0 0) ∧ (w2.alloc o2).cell? ⟨w.heap.size + 1, 0, none⟩ = some (.int .i64 0) ∧ (w2.alloc o2).cell? ⟨w.heap.size + 1, 1, none⟩ = some (.string ⟨#[]⟩) ∧ (w2.alloc o2).cell? ⟨w.heap.size + 1, 2, none⟩ = some (.bool false) ∧ (w2.alloc o2).cell? ⟨w.heap.size + 1, 3, none⟩ = some (.slice none 0 0) ∧ (w2.alloc o2).cell? ⟨w.heap.size + 1, 4, none⟩ = some (.slice none 0 0) := by
  obtain ⟨h0, h1, h2, h3, h4, k0, k1, k2, k3, k4⟩ := zeros2 hb
  have q : ∀ {b i : Nat} {v : Value}, w1.cell? ⟨b, i, none⟩ = some v → (w2.alloc o2).cell? ⟨b, i, none⟩ = some v := fun h => cell_new _ (cell_keep hb2 (cell_new _ h))
  exact ⟨q h0, q h1, q h2, q h3, q h4, q k0, q k1, q k2, q k3, q k4⟩
theorem zeros4 {w w1 w2 : World} {o : Obj} (hb : Below ((w.alloc (.cells #[.int .i64 0, .string ⟨#[]⟩, .bool false, .slice none 0 0, .slice none 0 0] 38)).alloc (.cells #[.int .i64 0, .string ⟨#[]⟩, .bool false, .slice none 0 0, .slice none 0 0] 38)).heap.size ((w.alloc (.cells #[.int .i64 0, .string ⟨#[]⟩, .bool false, .slice none 0 0, .slice none 0 0] 38)).alloc (.cells #[.int .i64 0, .string ⟨#[]⟩, .bool false, .slice none 0 0, .slice none 0 0] 38)) w1) (hb2 : Below (w1.alloc o).heap.size (w1.alloc o) w2) :
    w2.cell? ⟨w.heap.size, 0, none⟩ = some (.int .i64 0) ∧ w2.cell? ⟨w.heap.size, 1, none⟩ = some (.string ⟨#[]⟩) ∧ w2.cell? ⟨w.heap.size, 2, none⟩ = some (.bool false) ∧ w2.cell? ⟨w.heap.size, 3, none⟩ = some (.slice none 0 0) ∧ w2.cell? ⟨w.heap.size, 4, none⟩ = some (.slice none 0 0) ∧ w2.cell? ⟨w.heap.size + 1, 0, none⟩ = some (.int .i64 0) ∧ w2.cell? ⟨w.heap.size + 1, 1, none⟩ = some (.string ⟨#[]⟩) ∧ w2.cell? ⟨w.heap.size + 1, 2, none⟩ = some (.bool false) ∧ w2.cell? ⟨w.heap.size + 1, 3, none⟩ = some (.slice none 0 0) ∧ w2.cell? ⟨w.heap.size + 1, 4, none⟩ = some (.slice none 0 0) := by
  obtain ⟨h0, h1, h2, h3, h4, k0, k1, k2, k3, k4⟩ := zeros2 hb
  have q : ∀ {b i : Nat} {v : Value}, w1.cell? ⟨b, i, none⟩ = some v → w2.cell? ⟨b, i, none⟩ = some v := fun h => cell_keep hb2 (cell_new _ h)
  exact ⟨q h0, q h1, q h2, q h3, q h4, q k0, q k1, q k2, q k3, q k4⟩
theorem thnT {w W w1 : World} (h : Below w.heap.size w W) (k : Below W.heap.size W w1) : Below w.heap.size w w1 := h.trans (k.mono h.size)
theorem BBt (w : World) (o o2 : Obj) : Below w.heap.size w ((w.alloc o).alloc o2) := ((Below.refl _ _).alloc (Nat.le_refl _) _).alloc (by simp) _
set_option maxHeartbeats 1000000 in
theorem typesOf_long {s t : ByteArray} (hs : s.size ≤ maxLen) (ht : t.size ≤ maxLen) (h : 60 < s.size ∨ 60 < t.size) (w : World) :
    Calls Tryd.prog 26 #[.string s, .string t] w fun e w' => e = .returned (.tuple #[.agg #[.int .i64 0, .string ByteArray.empty, .bool false, .slice none 0 0, .slice none 0 0], .agg #[.int .i64 0, .string ByteArray.empty, .bool false, .slice none 0 0, .slice none 0 0], .int .i64 1]) ∧ Below w.heap.size w w' := by
  unfold maxLen at hs ht
  by_cases h1 : 60 < s.size
  · go_enter Tryd.func26, Tryd.ntmps26
    go_wp2_with fail
    exact bodyPost_ret (v := .tuple #[.agg #[.int .i64 0, .string ByteArray.empty, .bool false, .slice none 0 0, .slice none 0 0], .agg #[.int .i64 0, .string ByteArray.empty, .bool false, .slice none 0 0, .slice none 0 0], .int .i64 1]) (by simp [results, Tryd.results26, go_sem]; rfl) rfl ⟨rfl, ((Below.refl _ _).alloc (Nat.le_refl _) _).alloc (by simp) _⟩
  · have h2 : 60 < t.size := by omega
    go_enter Tryd.func26, Tryd.ntmps26
    go_wp2_with fail
    exact bodyPost_ret (v := .tuple #[.agg #[.int .i64 0, .string ByteArray.empty, .bool false, .slice none 0 0, .slice none 0 0], .agg #[.int .i64 0, .string ByteArray.empty, .bool false, .slice none 0 0, .slice none 0 0], .int .i64 1]) (by simp [results, Tryd.results26, go_sem]; rfl) rfl ⟨rfl, ((Below.refl _ _).alloc (Nat.le_refl _) _).alloc (by simp) _⟩

set_option maxHeartbeats 1000000 in
theorem typesOf_bad1 {s t : ByteArray} (hs : s.size ≤ 60) (ht : t.size ≤ 60) (hx : pAll false s = none) (w : World) :
    Calls Tryd.prog 26 #[.string s, .string t] w fun e w' => e = .returned (.tuple #[.agg #[.int .i64 0, .string ByteArray.empty, .bool false, .slice none 0 0, .slice none 0 0], .agg #[.int .i64 0, .string ByteArray.empty, .bool false, .slice none 0 0, .slice none 0 0], .int .i64 2]) ∧ Below w.heap.size w w' := by
  have hcall := fun w => TRet_no (typeOf_any hs w) hx
  clear hx
  go_enter Tryd.func26, Tryd.ntmps26
  go_wp2_with (go_at_call 20; refine (hcall _).mono ?_; rintro e w1 ⟨rfl, hb1⟩; obtain ⟨hc1, hf1⟩ := bcell hb1; have hz1 : w.heap.size + 1 < w1.heap.size := (by have := hb1.size; simp at this; omega); have hz2 : w.heap.size < w1.heap.size := (by omega))
  have kz := zeros2 hb1
  exact bodyPost_ret (v := .tuple #[.agg #[.int .i64 0, .string ByteArray.empty, .bool false, .slice none 0 0, .slice none 0 0], .agg #[.int .i64 0, .string ByteArray.empty, .bool false, .slice none 0 0, .slice none 0 0], .int .i64 2]) (by simp [results, Tryd.results26, go_sem, kz, hz1, hz2]; rfl) rfl ⟨rfl, Below.alloc' (Below.set5 (Below.set5 ((BBt w _ _).trans (hb1.mono (by simp; omega))) (Nat.le_refl _)) (by omega)) _⟩
set_option maxHeartbeats 1000000 in
theorem typesOf_ok {s t : ByteArray} (hs : s.size ≤ 60) (ht : t.size ≤ 60) {x r : Ty} (hx : pAll false s = some x) (hr : pAll false t = some r) (w : World) :
    Calls Tryd.prog 26 #[.string s, .string t] w fun e w' => ∃ ai li ci af lf cf bi mi di bf mf df, e = .returned (.tuple #[.agg #[.int .i64 x.kind, .string x.letters, .bool x.op, .slice ai li ci, .slice af lf cf], .agg #[.int .i64 r.kind, .string r.letters, .bool r.op, .slice bi mi di, .slice bf mf df], .int .i64 0]) ∧
      RepB (fun b => w.heap.size ≤ b) s.size w' ai li ci af lf cf x ∧ RepB (fun b => w.heap.size ≤ b) t.size w' bi mi di bf mf df r ∧ Below w.heap.size w w' := by
  have hcall := fun w => TRet_yes (typeOf_any hs w) hx
  have hcall2 := fun w => TRet_yes (typeOf_any ht w) hr
  clear hx hr
  go_enter Tryd.func26, Tryd.ntmps26
  go_wp2_with (first | (go_at_call 20; have hq := hb1; refine (hcall2 _).mono ?_; rintro e w2 ⟨bi, mi, di, bf, mf, df, rfl, hr2, hb2⟩; obtain ⟨hc2, hf2⟩ := bcell hb2; have hy1 : w1.heap.size < w2.heap.size := (by have := hb2.size; simp at this; omega); have hy2 : w.heap.size < w2.heap.size := (by omega); have hy3 : w.heap.size + 1 < w2.heap.size := (by omega)) | (go_at_call 20; refine (hcall _).mono ?_; rintro e w1 ⟨ai, li, ci, af, lf, cf, rfl, hr1, hb1⟩; obtain ⟨hc1, hf1⟩ := bcell hb1; have hz1 : w.heap.size + 1 < w1.heap.size := (by have := hb1.size; simp at this; omega); have hz2 : w.heap.size < w1.heap.size := (by omega)))
  have k1 : (w2.alloc (.cells #[.int .i64 r.kind, .string r.letters, .bool r.op, .slice bi mi di, .slice bf mf df] 38)).cell? ⟨w1.heap.size, 0, none⟩ = some (.int .i64 x.kind) ∧ (w2.alloc (.cells #[.int .i64 r.kind, .string r.letters, .bool r.op, .slice bi mi di, .slice bf mf df] 38)).cell? ⟨w1.heap.size, 1, none⟩ = some (.string x.letters) ∧ (w2.alloc (.cells #[.int .i64 r.kind, .string r.letters, .bool r.op, .slice bi mi di, .slice bf mf df] 38)).cell? ⟨w1.heap.size, 2, none⟩ = some (.bool x.op) ∧ (w2.alloc (.cells #[.int .i64 r.kind, .string r.letters, .bool r.op, .slice bi mi di, .slice bf mf df] 38)).cell? ⟨w1.heap.size, 3, none⟩ = some (.slice ai li ci) ∧ (w2.alloc (.cells #[.int .i64 r.kind, .string r.letters, .bool r.op, .slice bi mi di, .slice bf mf df] 38)).cell? ⟨w1.heap.size, 4, none⟩ = some (.slice af lf cf) := by
    refine ⟨cell_new _ (cell_keep hb2 (cell_last rfl rfl)), cell_new _ (cell_keep hb2 (cell_last rfl rfl)), cell_new _ (cell_keep hb2 (cell_last rfl rfl)), cell_new _ (cell_keep hb2 (cell_last rfl rfl)), cell_new _ (cell_keep hb2 (cell_last rfl rfl))⟩
  have k2 : (w2.alloc (.cells #[.int .i64 r.kind, .string r.letters, .bool r.op, .slice bi mi di, .slice bf mf df] 38)).cell? ⟨w2.heap.size, 0, none⟩ = some (.int .i64 r.kind) ∧ (w2.alloc (.cells #[.int .i64 r.kind, .string r.letters, .bool r.op, .slice bi mi di, .slice bf mf df] 38)).cell? ⟨w2.heap.size, 1, none⟩ = some (.string r.letters) ∧ (w2.alloc (.cells #[.int .i64 r.kind, .string r.letters, .bool r.op, .slice bi mi di, .slice bf mf df] 38)).cell? ⟨w2.heap.size, 2, none⟩ = some (.bool r.op) ∧ (w2.alloc (.cells #[.int .i64 r.kind, .string r.letters, .bool r.op, .slice bi mi di, .slice bf mf df] 38)).cell? ⟨w2.heap.size, 3, none⟩ = some (.slice bi mi di) ∧ (w2.alloc (.cells #[.int .i64 r.kind, .string r.letters, .bool r.op, .slice bi mi di, .slice bf mf df] 38)).cell? ⟨w2.heap.size, 4, none⟩ = some (.slice bf mf df) := ⟨cell_last rfl rfl, cell_last rfl rfl, cell_last rfl rfl, cell_last rfl rfl, cell_last rfl rfl⟩
  have kz := zeros3 hb1 hb2 (o := .cells #[.int .i64 x.kind, .string x.letters, .bool x.op, .slice ai li ci, .slice af lf cf] 38) (o2 := .cells #[.int .i64 r.kind, .string r.letters, .bool r.op, .slice bi mi di, .slice bf mf df] 38)
  have hbW : Below w.heap.size w (w2.alloc (.cells #[.int .i64 r.kind, .string r.letters, .bool r.op, .slice bi mi di, .slice bf mf df] 38)) := Below.alloc' (thnT (Below.alloc' (thnT (BBt w _ _) hb1) _) hb2) _
  have hR1 : RepB (fun b => w.heap.size + 2 ≤ b) s.size (w2.alloc (.cells #[.int .i64 r.kind, .string r.letters, .bool r.op, .slice bi mi di, .slice bf mf df] 38)) ai li ci af lf cf x := (hr1.keep (fun b o v hS h => cell_new _ (cell_keep hb2 (cell_new _ h)))).imp (fun b _ h => by simp at h; omega)
  have hR2 : RepB (fun b => w.heap.size + 2 ≤ b) t.size (w2.alloc (.cells #[.int .i64 r.kind, .string r.letters, .bool r.op, .slice bi mi di, .slice bf mf df] 38)) bi mi di bf mf df r := (hr2.keep (fun b o v hS h => cell_new _ h)).imp (fun b _ h => by simp at h; omega)
  have fz : ∀ o, (w2.alloc (.cells #[.int .i64 r.kind, .string r.letters, .bool r.op, .slice bi mi di, .slice bf mf df] 38)).frozen? ⟨w.heap.size, o, none⟩ = false := fun o => by
    rw [frozen?_alloc_cells, hf2 _ _ (by simp; omega), frozen?_alloc_cells, hf1 _ _ (by simp; omega), frozen?_alloc_cells, frozen?_alloc_cells]; simp [World.frozen?]
  have fz2 : ∀ o, (w2.alloc (.cells #[.int .i64 r.kind, .string r.letters, .bool r.op, .slice bi mi di, .slice bf mf df] 38)).frozen? ⟨w.heap.size + 1, o, none⟩ = false := fun o => by
    rw [frozen?_alloc_cells, hf2 _ _ (by simp; omega), frozen?_alloc_cells, hf1 _ _ (by simp), frozen?_alloc_cells, frozen?_alloc_cells]; simp [World.frozen?]
  have n1 : ¬ w1.heap.size = w.heap.size := by omega
  have n2 : ¬ w1.heap.size = w.heap.size + 1 := by omega
  have n3 : ¬ w2.heap.size = w.heap.size := by omega
  have n4 : ¬ w2.heap.size = w.heap.size + 1 := by omega
  have n5 : ¬ w.heap.size = w1.heap.size := by omega
  have n6 : ¬ w.heap.size + 1 = w1.heap.size := by omega
  have n7 : ¬ w.heap.size = w2.heap.size := by omega
  have n8 : ¬ w.heap.size + 1 = w2.heap.size := by omega
  generalize (w2.alloc (.cells #[.int .i64 r.kind, .string r.letters, .bool r.op, .slice bi mi di, .slice bf mf df] 38)) = W3 at k1 k2 kz fz fz2 hbW hR1 hR2 ⊢
  go_region_held3 (fun w' => (w'.cell? ⟨w1.heap.size, 0, none⟩ = some (.int .i64 x.kind) ∧ w'.cell? ⟨w1.heap.size, 1, none⟩ = some (.string x.letters) ∧ w'.cell? ⟨w1.heap.size, 2, none⟩ = some (.bool x.op) ∧ w'.cell? ⟨w1.heap.size, 3, none⟩ = some (.slice ai li ci) ∧ w'.cell? ⟨w1.heap.size, 4, none⟩ = some (.slice af lf cf)) ∧ w'.cell? ⟨w2.heap.size, 0, none⟩ = some (.int .i64 r.kind) ∧ w'.cell? ⟨w2.heap.size, 1, none⟩ = some (.string r.letters) ∧ w'.cell? ⟨w2.heap.size, 2, none⟩ = some (.bool r.op) ∧ w'.cell? ⟨w2.heap.size, 3, none⟩ = some (.slice bi mi di) ∧ w'.cell? ⟨w2.heap.size, 4, none⟩ = some (.slice bf mf df)) (go_keep) (fail)
  go_wp2_with fail
  refine bodyPost_ret (v := .tuple #[.agg #[.int .i64 x.kind, .string x.letters, .bool x.op, .slice ai li ci, .slice af lf cf], .agg #[.int .i64 r.kind, .string r.letters, .bool r.op, .slice bi mi di, .slice bf mf df], .int .i64 0]) (by simp [results, Tryd.results26, go_sem, kz]) rfl ?_
  exact ⟨ai, li, ci, af, lf, cf, bi, mi, di, bf, mf, df, rfl, (hR1.keep (fun b o v hS h => cell_drew (cell_set5 (cell_set5 h (by omega)) (by omega)))).imp (fun b _ h => by show w.heap.size ≤ b; omega),
    (hR2.keep (fun b o v hS h => cell_drew (cell_set5 (cell_set5 h (by omega)) (by omega)))).imp (fun b _ h => by show w.heap.size ≤ b; omega), (Below.set5 (Below.set5 hbW (Nat.le_refl _)) (by omega)).drew⟩
set_option maxHeartbeats 1000000 in
theorem typesOf_bad2 {s t : ByteArray} (hs : s.size ≤ 60) (ht : t.size ≤ 60) {x : Ty} (hx : pAll false s = some x) (hr : pAll false t = none) (w : World) :
    Calls Tryd.prog 26 #[.string s, .string t] w fun e w' => e = .returned (.tuple #[.agg #[.int .i64 0, .string ByteArray.empty, .bool false, .slice none 0 0, .slice none 0 0], .agg #[.int .i64 0, .string ByteArray.empty, .bool false, .slice none 0 0, .slice none 0 0], .int .i64 2]) ∧ Below w.heap.size w w' := by
  have hcall := fun w => TRet_yes (typeOf_any hs w) hx
  have hcall2 := fun w => TRet_no (typeOf_any ht w) hr
  clear hx hr
  go_enter Tryd.func26, Tryd.ntmps26
  go_wp2_with (first | (go_at_call 20; have hq := hb1; refine (hcall2 _).mono ?_; rintro e w2 ⟨rfl, hb2⟩; obtain ⟨hc2, hf2⟩ := bcell hb2; have hy1 : w1.heap.size < w2.heap.size := (by have := hb2.size; simp at this; omega); have hy2 : w.heap.size < w2.heap.size := (by omega); have hy3 : w.heap.size + 1 < w2.heap.size := (by omega)) | (go_at_call 20; refine (hcall _).mono ?_; rintro e w1 ⟨ai, li, ci, af, lf, cf, rfl, hr1, hb1⟩; obtain ⟨hc1, hf1⟩ := bcell hb1; have hz1 : w.heap.size + 1 < w1.heap.size := (by have := hb1.size; simp at this; omega); have hz2 : w.heap.size < w1.heap.size := (by omega)))
  have kz := zeros4 hb1 hb2
  exact bodyPost_ret (v := .tuple #[.agg #[.int .i64 0, .string ByteArray.empty, .bool false, .slice none 0 0, .slice none 0 0], .agg #[.int .i64 0, .string ByteArray.empty, .bool false, .slice none 0 0, .slice none 0 0], .int .i64 2]) (by simp [results, Tryd.results26, go_sem, kz, hy1, hy2, hy3]; rfl) rfl ⟨rfl, Below.alloc' (Below.set5 (Below.set5 (thnT (Below.alloc' (thnT (BBt w _ _) hb1) _) hb2) (Nat.le_refl _)) (by omega)) _⟩
end Go.Proofs.YtkkekopomiehlaaDoor
