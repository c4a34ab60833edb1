import Derived.Test.YtccmcgckechhgaaDoorRd3
set_option linter.unusedVariables false
set_option linter.unusedSimpArgs false
set_option maxRecDepth 4000
namespace Go.Proofs.YtccmcgckechhgaaDoor
open Go.RowKit

theorem Tryd.infoStr : (Tryd.prog.info? 9).map (fun i => (i.zero, i.size, i.bytes)) = some (some (.string ⟨#[]⟩), 1, 16) := by kernel_rfl
theorem zip_get {α β : Type} {fs : List α} {vs : List β} {i : Nat} {f : α} {v : β} (hf : fs[i]? = some f) (hv : vs[i]? = some v) : (f, v) ∈ fs.zip vs := by
  refine List.mem_of_getElem? (i := i) ?_
  rw [List.getElem?_zip_eq_some]; exact ⟨hf, hv⟩

set_option maxHeartbeats 1000000 in
theorem fieldData_any {Tab : World → Prop} (F : FmtOK Tab) {nw : Nat} (hnw : nw ≤ 100) (fs : List (Nat × Ty × ByteArray)) (vs : List Val) (D : ByteArray) (w : World) (af : Option Addr) (lf cf : Nat) (hlf : lf = fs.length) (hfl : fs.length ≤ 9000000) (hT : Tab w) (hoT : ∀ f ∈ fs, f.1 < 256 ∧ okT nw f.2.1) (hr : RepF nw w af fs)
    (hlen : vs.length = fs.length) (hok : ∀ p ∈ fs.zip vs, okV nw p.1.2.1 p.2) (hD : D = catB (vs.map (datV nw))) (hDs : D.size ≤ 64) :
    Calls Tryd.prog 80 #[.slice af lf cf, .string D] w fun e w' => ∃ g cap, e = .returned (.tuple #[.slice (some ⟨g, 0, none⟩) fs.length cap, .bool true]) ∧ (∀ i v, vs[i]? = some v → w'.cell? ⟨g, i, none⟩ = some (.string (datV nw v))) ∧ Below w.heap.size w w' := by
  subst hlf
  have _hs : D.size ≤ 9000000 := by omega
  have HA : Hid (At D 0 (catB (vs.map (datV nw)))) := by rw [← hD]; exact At.self D
  have DA := decodeAt_all F (s := D) (by omega) nw (by omega)
  clear hD
  go_enter Tryd.func80, Tryd.ntmps80
  go_wp2_with fail
  go_loopw [6, 7, 16] (fun vp vb vi wr => ∃ (i b g cap : Nat) (xs : List Value), i ≤ fs.length ∧ b ≤ D.size ∧ i ≤ b ∧ vi = .int .i64 i ∧ vb = .int .i64 b ∧ vp = .slice (some ⟨g, 0, none⟩) i cap ∧
      wr.ownsRow w.heap.size 9 1 (.slice (some ⟨g, 0, none⟩) i cap) i xs ∧ Hid (xs = (vs.take i).map fun v => .string (datV nw v)) ∧ Hid (At D b (catB ((vs.drop i).map (datV nw)))) ∧ Below w.heap.size w wr) (fun _ _ i _ => fs.length - (intOf i).toNat)
  case atStart =>
    refine ⟨0, 0, w.heap.size, 0, [], Nat.zero_le _, Nat.zero_le _, Nat.le_refl _, rfl, rfl, rfl, ?_, by show _ = _; simp, HA, (Below.refl _ _).alloc (Nat.le_refl _) _⟩
    exact World.ownsRow_made (base := w.heap.size) (e := 9) (size := 1) w #[] 0 (Nat.le_refl _) (by unfold maxLen; omega) rfl
  case round =>
    obtain ⟨i, b, g, cap, xs, hi, hbD, hib, rfl, rfl, rfl, hown, hxs, hA, hb⟩ := hrel
    have hTw : Tab wr := F.1 _ _ hb hT
    by_cases hlt : i < fs.length
    · obtain ⟨f, hf⟩ : ∃ f, fs[i]? = some f := ⟨fs[i], List.getElem?_eq_getElem hlt⟩
      obtain ⟨v, hv⟩ : ∃ v, vs[i]? = some v := ⟨vs[i], List.getElem?_eq_getElem (by omega)⟩
      obtain ⟨hf256, hokf⟩ := hoT f (List.mem_of_getElem? hf)
      have hvk : okV nw f.2.1 v := hok (f, v) (zip_get hf hv)
      have hdrop : vs.drop i = v :: vs.drop (i + 1) := by
        rw [List.drop_eq_getElem_cons (by omega)]; rw [List.getElem?_eq_getElem (by omega)] at hv; simp at hv; rw [hv]
      have htake : vs.take (i + 1) = vs.take i ++ [v] := by rw [List.take_add_one, hv]; rfl
      have hA2 : At D b (datV nw v) ∧ At D (b + (datV nw v).size) (catB ((vs.drop (i + 1)).map (datV nw))) := by
        have := hA.out; rw [hdrop] at this; simp only [List.map_cons, catB] at this; exact At.app.1 this
      have hdx := dec_mk nw f.2.1 v b hvk hA2.1
      obtain ⟨k, hk⟩ : ∃ k, k = b + (datV nw v).size := ⟨_, rfl⟩
      rw [← hk] at hdx hA2
      have hk1 := hA2.1.le
      have hku := datV_pos _ _ _ hvk
      have hext : D.extract b k = datV nw v := by rw [hk]; exact hA2.1.ext
      have hsp : ∀ w, Calls Tryd.prog 75 #[.string D, .int .i64 b, .int .i64 k] w fun e w' => e = .returned (.string (datV nw v)) ∧ w = w' := fun w => by
        have := span_any D b k w (by omega) (by omega) _hs; rw [hext] at this; exact this.mono (fun _ _ ⟨h1, h2⟩ => ⟨h1, h2.symm⟩)
      rcases hr with ⟨hr, _⟩ | ⟨h, rfl, hcells⟩
      · rw [hr] at hf; simp at hf
      · obtain ⟨p1, p2, p3, q1, q2, q3, hrep, k0, k1, k2, k3, k4, k5, k6⟩ := hcells i f hf
        have k0 := cell_keep hb k0
        have k1 := cell_keep hb k1
        have k2 := cell_keep hb k2
        have k3 := cell_keep hb k3
        have k4 := cell_keep hb k4
        have k5 := cell_keep hb k5
        have k6 := cell_keep hb k6
        have hg' : h < wr.heap.size := lt_of_cell k0
        have hrepw := hrep.keep hb
        have hBa : ∀ o, Below wr.heap.size wr (wr.alloc o) := fun o => (Below.refl _ _).alloc (Nat.le_refl _) _
        have hTa : ∀ o, Tab (wr.alloc o) := fun o => F.1 _ _ (hBa o) hTw
        have hcall := fun o => DA.yes hbD (hTa o) hokf (hrepw.keep (hBa o)) hdx
        have HA2 : Hid (At D k (catB ((vs.drop (i + 1)).map (datV nw)))) := hA2.2
        obtain ⟨V, hV⟩ : ∃ V, V = datV nw v := ⟨_, rfl⟩
        rw [← hV] at hsp
        have HX : Hid (xs ++ [.string V] = (vs.take (i + 1)).map fun v => .string (datV nw v)) := by show _ = _; rw [htake, List.map_append, ← hxs.out, hV]; rfl
        have hbk : b < k := by omega
        have hkD : k ≤ D.size := by omega
        obtain ⟨i0, hi0, hz0, hzz1, hzz2⟩ := info_parts Tryd.infoStr
        have hgl := hown.lt g rfl
        have hzr : w.heap.size ≤ wr.heap.size := hb.size
        have hown3 : ∀ (w1 : World) (o : Obj) (o2 : Obj), Below (wr.alloc o).heap.size (wr.alloc o) w1 → (w1.alloc o2).ownsRow w.heap.size 9 1 (.slice (some ⟨g, 0, none⟩) i cap) i xs := fun w1 o o2 hb1 => (own_keep (hown.alloc o) hb1).alloc o2
        have hbig : ∀ (w1 w3 : World) (o o2 : Obj), Below (wr.alloc o).heap.size (wr.alloc o) w1 → (w1.alloc o2).grownBy w3 (some g) → Below w.heap.size w w3 := fun w1 w3 o o2 hb1 hgrow => by
          have z1 := hb1.size
          simp at z1
          have c1 := (hb.alloc hzr o).thn hb1
          exact Below.grown (c1.alloc (by omega) o2) hgrow (by simp; omega) (fun k hk => by cases hk; omega)
        clear hcells hA hdrop hk hA2 hext hku hk1 hdx htake hV hvk hrep hrepw hxs
        go_wp2_with (first | (go_at_call 32; refine (hcall _).mono ?_; rintro e w1 ⟨rfl, hb1⟩; obtain ⟨hc1, hf1⟩ := bcell hb1; have hz1 : wr.heap.size ≤ w1.heap.size := (by have := hb1.size; simp at this; omega)) | (go_at_call 75; refine (hsp _).mono ?_; rintro e _ ⟨rfl, rfl⟩) | (at_builtin; refine wpList_append_lies _ rfl _ _ _ rfl w.heap.size 9 i0 _ 1 16 Tryd.underlying83 hi0 hz0 hzz1 hzz2 rfl (by omega) _ i xs rfl (hown3 _ _ _ hb1) ⟨w1.heap.size, 0, none⟩ 1 1 [.string V] rfl rfl (World.news_of_block (heap_alloc_new w1 _)) (by simp [Value.oneCell']) (by omega) (by unfold maxLen; omega) (by omega) (by simp; omega) (w1.heap.size + 1) (by simp) ?_; intro g' cap' w3 hown' hgrow hat hlt3; have hb3 := hbig _ _ _ _ hb1 hgrow))
        go_roundw
        case rel => exact ⟨i + 1, k, g', cap', xs ++ [.string V], by omega, hkD, by omega, by go_num, rfl, rfl, hown', HX, HA2, hb3⟩
        case measure => simp [intOf]; omega
    · obtain rfl : i = fs.length := by omega
      go_wp2_with fail
      go_ret2
      refine ⟨g, cap, rfl, fun j u hu => own_cell hown ?_, hb⟩
      rw [hxs.out, List.getElem?_map, List.getElem?_take, if_pos (by rcases Nat.lt_or_ge j vs.length with h | h; omega; rw [List.getElem?_eq_none h] at hu; cases hu), hu]; rfl
end Go.Proofs.YtccmcgckechhgaaDoor
