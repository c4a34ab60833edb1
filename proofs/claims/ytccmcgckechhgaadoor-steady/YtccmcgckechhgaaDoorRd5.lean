import Derived.Test.YtccmcgckechhgaaDoorRd4
set_option linter.unusedVariables false
set_option linter.unusedSimpArgs false
set_option maxRecDepth 4000
namespace Go.Proofs.YtccmcgckechhgaaDoor
open Go.RowKit

/-- The place of a field with the letter, and the value that stands there. -/
theorem plF_zip (c : Nat) : ∀ (fs : List (Nat × Ty × ByteArray)) (vs : List Val), vs.length = fs.length →
    (plF fs c = -1 ∧ (fs.zip vs).find? (fun p => p.1.1 == c) = none) ∨
    ∃ i f v, plF fs c = (i : Nat) ∧ i < fs.length ∧ fs[i]? = some f ∧ vs[i]? = some v ∧ (fs.zip vs).find? (fun p => p.1.1 == c) = some (f, v)
  | [], vs, h => .inl ⟨rfl, rfl⟩
  | f :: fs, [], h => by simp at h
  | f :: fs, v :: vs, h => by
    by_cases hc : (f.1 == c) = true
    · right
      refine ⟨0, f, v, ?_, by simp, rfl, rfl, ?_⟩
      · unfold plF; rw [List.findIdx?_cons, if_pos hc]
      · rw [List.zip_cons_cons, List.find?_cons_of_pos (by exact hc)]
    · have hc'' : ((f, v).1.1 == c) = false := by simpa using hc
      rcases plF_zip c fs vs (by simpa using h) with ⟨h1, h2⟩ | ⟨i, f', v', h1, h2, h3, h4, h5⟩
      · left
        constructor
        · unfold plF at h1 ⊢
          rw [List.findIdx?_cons, if_neg hc]
          cases hx : List.findIdx? (fun g => g.1 == c) fs with
          | none => rfl
          | some k => rw [hx] at h1; simp only at h1; omega
        · rw [List.zip_cons_cons, List.find?_cons, hc'']; exact h2
      · right
        refine ⟨i + 1, f', v', ?_, by simp; omega, by simpa using h3, by simpa using h4, ?_⟩
        · unfold plF at h1 ⊢
          rw [List.findIdx?_cons, if_neg hc]
          cases hx : List.findIdx? (fun g => g.1 == c) fs with
          | none => rw [hx] at h1; simp only at h1; omega
          | some k => rw [hx] at h1; simp only at h1; simp only [Option.map_some]; omega
        · rw [List.zip_cons_cons, List.find?_cons, hc'']; exact h5

theorem isEmpty_no {d : ByteArray} (h : 1 ≤ d.size) : d.toList.isEmpty = false := by
  rw [ByteArray.toList_eq]
  cases hl : d.data.toList with
  | nil =>
    have h2 : d.data.size = 0 := by rw [← Array.length_toList, hl]; rfl
    have h3 : d.size = d.data.size := rfl
    omega
  | cons _ _ => rfl
theorem field_box (w : World) (gf : Nat × Ty × ByteArray) (bi : Option Addr) (mi di : Nat) (bf : Option Addr) (mf df : Nat) :
    (w.alloc (.cells #[.int .i64 gf.1, .int .i64 gf.2.1.kind, .string gf.2.1.letters, .bool gf.2.1.op, .slice bi mi di, .slice bf mf df, .string gf.2.2] 87)).cell? ⟨w.heap.size, 1, none⟩ = some (.int .i64 gf.2.1.kind) ∧ (w.alloc (.cells #[.int .i64 gf.1, .int .i64 gf.2.1.kind, .string gf.2.1.letters, .bool gf.2.1.op, .slice bi mi di, .slice bf mf df, .string gf.2.2] 87)).cell? ⟨w.heap.size, 2, none⟩ = some (.string gf.2.1.letters) ∧ (w.alloc (.cells #[.int .i64 gf.1, .int .i64 gf.2.1.kind, .string gf.2.1.letters, .bool gf.2.1.op, .slice bi mi di, .slice bf mf df, .string gf.2.2] 87)).cell? ⟨w.heap.size, 3, none⟩ = some (.bool gf.2.1.op) ∧ (w.alloc (.cells #[.int .i64 gf.1, .int .i64 gf.2.1.kind, .string gf.2.1.letters, .bool gf.2.1.op, .slice bi mi di, .slice bf mf df, .string gf.2.2] 87)).cell? ⟨w.heap.size, 4, none⟩ = some (.slice bi mi di) ∧ (w.alloc (.cells #[.int .i64 gf.1, .int .i64 gf.2.1.kind, .string gf.2.1.letters, .bool gf.2.1.op, .slice bi mi di, .slice bf mf df, .string gf.2.2] 87)).cell? ⟨w.heap.size, 5, none⟩ = some (.slice bf mf df) :=
  ⟨cell_last rfl rfl, cell_last rfl rfl, cell_last rfl rfl, cell_last rfl rfl, cell_last rfl rfl⟩
theorem keep5 {W w1 : World} (hb : Below W.heap.size W w1) {b o0 o1 o2 o3 o4 : Nat} {v0 v1 v2 v3 v4 : Value} (h : W.cell? ⟨b, o0, none⟩ = some v0 ∧ W.cell? ⟨b, o1, none⟩ = some v1 ∧ W.cell? ⟨b, o2, none⟩ = some v2 ∧ W.cell? ⟨b, o3, none⟩ = some v3 ∧ W.cell? ⟨b, o4, none⟩ = some v4) :
    w1.cell? ⟨b, o0, none⟩ = some v0 ∧ w1.cell? ⟨b, o1, none⟩ = some v1 ∧ w1.cell? ⟨b, o2, none⟩ = some v2 ∧ w1.cell? ⟨b, o3, none⟩ = some v3 ∧ w1.cell? ⟨b, o4, none⟩ = some v4 := by
  obtain ⟨h0, h1, h2, h3, h4⟩ := h
  exact ⟨cell_keep hb h0, cell_keep hb h1, cell_keep hb h2, cell_keep hb h3, cell_keep hb h4⟩

set_option maxHeartbeats 1000000 in
theorem readField_any {Tab : World → Prop} (F : FmtOK Tab) {m : Nat} (IH : ReadOK Tab m) (nw nr : Nat) (hm : nw + nr ≤ m) (hnw : nw ≤ 100) (hnr : nr ≤ 100) (fs : List (Nat × Ty × ByteArray)) (vs : List Val) (gf : Nat × Ty × ByteArray) (w : World) (g cf pb pc : Nat) (bi bf : Option Addr) (mi di mf df : Nat)
    (hfl : fs.length ≤ 9000000) (hT : Tab w) (hoT : ∀ f ∈ fs, f.1 < 256 ∧ okT nw f.2.1) (hlen : vs.length = fs.length) (hok : ∀ p ∈ fs.zip vs, okV nw p.1.2.1 p.2) (hDs : (catB (vs.map (datV nw))).size ≤ 64)
    (hcells : ∀ i f, fs[i]? = some f → ∃ p1 p2 p3 q1 q2 q3, Rep nw w p1 p2 p3 q1 q2 q3 f.2.1 ∧ w.cell? ⟨g, i * 7, none⟩ = some (.int .i64 f.1) ∧ w.cell? ⟨g, i * 7 + 1, none⟩ = some (.int .i64 f.2.1.kind) ∧ w.cell? ⟨g, i * 7 + 2, none⟩ = some (.string f.2.1.letters) ∧ w.cell? ⟨g, i * 7 + 3, none⟩ = some (.bool f.2.1.op) ∧ w.cell? ⟨g, i * 7 + 4, none⟩ = some (.slice p1 p2 p3) ∧ w.cell? ⟨g, i * 7 + 5, none⟩ = some (.slice q1 q2 q3) ∧ w.cell? ⟨g, i * 7 + 6, none⟩ = some (.string f.2.2))
    (hparts : ∀ i v, vs[i]? = some v → w.cell? ⟨pb, i, none⟩ = some (.string (datV nw v)))
    (hog : okT nr gf.2.1) (hrg : Rep nr w bi mi di bf mf df gf.2.1) (hwt : wt m gf.2.1 ≤ 20000) :
    Calls Tryd.prog 81 #[.slice (some ⟨g, 0, none⟩) fs.length cf, .slice (some ⟨pb, 0, none⟩) fs.length pc, .agg #[.int .i64 gf.1, .int .i64 gf.2.1.kind, .string gf.2.1.letters, .bool gf.2.1.op, .slice bi mi di, .slice bf mf df, .string gf.2.2]] w fun e w' => e = .returned (dRet (rdFld (rdT m) (fs.zip vs) gf)) ∧ Below w.heap.size w w' := by
  have hB : ∀ o, Below w.heap.size w (w.alloc o) := fun o => (Below.refl _ _).alloc (Nat.le_refl _) _
  have hpl : ∀ o, Calls Tryd.prog 85 #[.slice (some ⟨g, 0, none⟩) fs.length cf, .int .i64 gf.1] (w.alloc o) fun e w' => e = .returned (.int .i64 (plF fs gf.1)) ∧ Below (w.alloc o).heap.size (w.alloc o) w' := fun o =>
    placeOfField_any fs gf.1 (w.alloc o) g cf hfl (fun i f hi => by
      obtain ⟨p1, p2, p3, q1, q2, q3, _, k0, k1, k2, k3, k4, k5, k6⟩ := hcells i f hi
      exact ⟨p1, p2, p3, q1, q2, q3, cell_new _ k0, cell_new _ k1, cell_new _ k2, cell_new _ k3, cell_new _ k4, cell_new _ k5, cell_new _ k6⟩)
  rcases plF_zip gf.1 fs vs hlen with ⟨h1, h2⟩ | ⟨i, f, v, h1, hi, hf, hv, h2⟩
  · rw [h1] at hpl
    have hP : rdFld (rdT m) (fs.zip vs) gf = if gf.2.2.size = 0 then none else some gf.2.2 := by unfold rdFld; rw [h2]
    clear hcells hparts hok hoT h1 h2
    by_cases hz : gf.2.2.size = 0
    · have hr' : Hid (rdFld (rdT m) (fs.zip vs) gf = none) := by show _ = _; rw [hP, if_pos hz]
      have hze : gf.2.2 = ByteArray.empty := bytes_eq hz (fun i hi => by omega)
      clear hP hz
      rw [hze]
      go_enter Tryd.func81, Tryd.ntmps81
      go_wp2_with (first | (go_at_call 85; refine (hpl _).mono ?_; rintro e w1 ⟨rfl, hb1⟩; obtain ⟨hc1, hf1⟩ := bcell hb1))
      have e6 : w1.cell? ⟨w.heap.size, 6, none⟩ = some (.string ByteArray.empty) := cell_keep hb1 (cell_last rfl rfl)
      go_region_held3 (fun w' => w'.cell? ⟨w.heap.size, 6, none⟩ = some (.string ByteArray.empty)) (go_keep) (fail)
      go_wp2_with fail
      go_ret2
      rw [hr'.out]
      exact ⟨rfl, ((hB _).thn hb1).drew⟩
    · have hr' : Hid (rdFld (rdT m) (fs.zip vs) gf = some gf.2.2) := by show _ = _; rw [hP, if_neg hz]
      clear hP
      generalize gf.2.2 = E at hr' hz
      go_enter Tryd.func81, Tryd.ntmps81
      go_wp2_with (first | (go_at_call 85; refine (hpl _).mono ?_; rintro e w1 ⟨rfl, hb1⟩; obtain ⟨hc1, hf1⟩ := bcell hb1))
      have e6 : w1.cell? ⟨w.heap.size, 6, none⟩ = some (.string E) := cell_keep hb1 (cell_last rfl rfl)
      go_region_held3 (fun w' => w'.cell? ⟨w.heap.size, 6, none⟩ = some (.string E)) (go_keep) (fail)
      have hE : E.toList.isEmpty = false := isEmpty_no (by omega)
      go_wp2_with fail
      go_ret2
      rw [hr'.out]
      refine ⟨?_, ((hB _).thn hb1).drew⟩
      show Ending.returned (.tuple #[.string E, .bool (!E.toList.isEmpty)]) = _
      rw [hE]; rfl
  · rw [h1] at hpl
    obtain ⟨p1, p2, p3, q1, q2, q3, hrep, k0, k1, k2, k3, k4, k5, k6⟩ := hcells i f hf
    have hpv := hparts i v hv
    have hvk : okV nw f.2.1 v := hok (f, v) (zip_get hf hv)
    have hokf := (hoT f (List.mem_of_getElem? hf)).2
    have hvs : (datV nw v).size ≤ 64 := by
      have := cat_mem (l := vs.map (datV nw)) (x := datV nw v) (List.mem_map.2 ⟨v, List.mem_of_getElem? hv, rfl⟩)
      omega
    have hr' : Hid (rdFld (rdT m) (fs.zip vs) gf = rdT m f.2.1 gf.2.1 v) := by show _ = _; unfold rdFld; rw [h2]
    have hrd := fun (W : World) (hb : Below w.heap.size w W) => IH nw nr f.2.1 gf.2.1 v W p1 q1 p2 p3 q2 q3 bi bf mi di mf df hm hnw hnr (F.1 _ _ hb hT) hokf hog (hrep.keep hb) (hrg.keep hb) hvk hvs hwt
    obtain ⟨V, hV⟩ : ∃ V, V = datV nw v := ⟨_, rfl⟩
    rw [← hV] at hpv hrd
    have hgl : g < w.heap.size := lt_of_cell k0
    have hpl2 : pb < w.heap.size := lt_of_cell hpv
    clear hcells hparts hok hoT h1 h2 hV hvs hvk hf hv
    cases hy : rdT m f.2.1 gf.2.1 v with
    | none =>
      rw [hy] at hr'
      rw [hy] at hrd
      simp only [dRet] at hrd
      clear hy
      go_enter Tryd.func81, Tryd.ntmps81
      go_wp2_with (first | (go_at_call 85; refine (hpl _).mono ?_; rintro e w1 ⟨rfl, hb1⟩; obtain ⟨hc1, hf1⟩ := bcell hb1))
      have e5 := keep5 hb1 (field_box w gf bi mi di bf mf df)
      have e7 := keep5 hb1 ⟨cell_new _ k1, cell_new _ k2, cell_new _ k3, cell_new _ k4, cell_new _ k5⟩
      have e8 := cell_keep hb1 (cell_new _ hpv)
      go_region_held3 (fun w' => (w'.cell? ⟨w.heap.size, 1, none⟩ = some (.int .i64 gf.2.1.kind) ∧ w'.cell? ⟨w.heap.size, 2, none⟩ = some (.string gf.2.1.letters) ∧ w'.cell? ⟨w.heap.size, 3, none⟩ = some (.bool gf.2.1.op) ∧ w'.cell? ⟨w.heap.size, 4, none⟩ = some (.slice bi mi di) ∧ w'.cell? ⟨w.heap.size, 5, none⟩ = some (.slice bf mf df)) ∧ (w'.cell? ⟨g, i * 7 + 1, none⟩ = some (.int .i64 f.2.1.kind) ∧ w'.cell? ⟨g, i * 7 + 2, none⟩ = some (.string f.2.1.letters) ∧ w'.cell? ⟨g, i * 7 + 3, none⟩ = some (.bool f.2.1.op) ∧ w'.cell? ⟨g, i * 7 + 4, none⟩ = some (.slice p1 p2 p3) ∧ w'.cell? ⟨g, i * 7 + 5, none⟩ = some (.slice q1 q2 q3)) ∧ w'.cell? ⟨pb, i, none⟩ = some (.string V)) (go_keep) (first | (go_at_call 27; refine (hrd _ (by first | exact ((hB _).thn hb1).drew | exact (hB _).thn hb1)).mono ?_; rintro e w2 ⟨rfl, hb2⟩; have e5' := keep5 hb2 e5; have e7' := keep5 hb2 e7; have e8' := cell_keep hb2 e8))
      go_wp2_with fail
      go_ret2
      rw [hr'.out]
      exact ⟨rfl, ((hB _).thn hb1).drew.thn hb2⟩
    | some y =>
      rw [hy] at hr'
      rw [hy] at hrd
      simp only [dRet] at hrd
      clear hy
      go_enter Tryd.func81, Tryd.ntmps81
      go_wp2_with (first | (go_at_call 85; refine (hpl _).mono ?_; rintro e w1 ⟨rfl, hb1⟩; obtain ⟨hc1, hf1⟩ := bcell hb1))
      have e5 := keep5 hb1 (field_box w gf bi mi di bf mf df)
      have e7 := keep5 hb1 ⟨cell_new _ k1, cell_new _ k2, cell_new _ k3, cell_new _ k4, cell_new _ k5⟩
      have e8 := cell_keep hb1 (cell_new _ hpv)
      go_region_held3 (fun w' => (w'.cell? ⟨w.heap.size, 1, none⟩ = some (.int .i64 gf.2.1.kind) ∧ w'.cell? ⟨w.heap.size, 2, none⟩ = some (.string gf.2.1.letters) ∧ w'.cell? ⟨w.heap.size, 3, none⟩ = some (.bool gf.2.1.op) ∧ w'.cell? ⟨w.heap.size, 4, none⟩ = some (.slice bi mi di) ∧ w'.cell? ⟨w.heap.size, 5, none⟩ = some (.slice bf mf df)) ∧ (w'.cell? ⟨g, i * 7 + 1, none⟩ = some (.int .i64 f.2.1.kind) ∧ w'.cell? ⟨g, i * 7 + 2, none⟩ = some (.string f.2.1.letters) ∧ w'.cell? ⟨g, i * 7 + 3, none⟩ = some (.bool f.2.1.op) ∧ w'.cell? ⟨g, i * 7 + 4, none⟩ = some (.slice p1 p2 p3) ∧ w'.cell? ⟨g, i * 7 + 5, none⟩ = some (.slice q1 q2 q3)) ∧ w'.cell? ⟨pb, i, none⟩ = some (.string V)) (go_keep) (first | (go_at_call 27; refine (hrd _ (by first | exact ((hB _).thn hb1).drew | exact (hB _).thn hb1)).mono ?_; rintro e w2 ⟨rfl, hb2⟩; have e5' := keep5 hb2 e5; have e7' := keep5 hb2 e7; have e8' := cell_keep hb2 e8))
      go_wp2_with fail
      go_ret2
      rw [hr'.out]
      exact ⟨rfl, ((hB _).thn hb1).drew.thn hb2⟩
end Go.Proofs.YtccmcgckechhgaaDoor
