import Derived.Test.YtccmcgckechhgaaDoorSn3
set_option linter.unusedVariables false
set_option linter.unusedSimpArgs false
set_option maxRecDepth 4000
namespace Go.Proofs.YtccmcgckechhgaaDoor
open Go.RowKit

theorem sum_sm {α : Type} (c : α → Nat) (K : Nat) : ∀ (l : List α) (x : α), x ∈ l → (l.map c).sum ≤ K → c x ≤ K
  | y :: l, x, h, hk => by
    simp at hk
    rcases List.mem_cons.1 h with rfl | h
    · omega
    · exact sum_sm c K l x h (by omega)
theorem rdFld_size {m nw : Nat} {fs : List (Nat × Ty × ByteArray)} {vs : List Val} {gf : Nat × Ty × ByteArray} {y : ByteArray} (hok : ∀ p ∈ fs.zip vs, okV nw p.1.2.1 p.2) (hpos : 1 ≤ (catB (vs.map (datV nw))).size) (hy : rdFld (rdT m) (fs.zip vs) gf = some y) : y.size ≤ (wt m gf.2.1 + gf.2.2.size) * (catB (vs.map (datV nw))).size := by
  rw [Nat.add_mul]
  unfold rdFld at hy
  split at hy
  · split at hy
    · cases hy
    · cases hy
      have := Nat.le_mul_of_pos_right gf.2.2.size hpos
      omega
  · rename_i p hp'
    have hmm := find_mem hp'
    have h1 := rdT_size m nw _ _ _ _ (hok p hmm) hy
    have h2 := cat_mem (l := vs.map (datV nw)) (x := datV nw p.2) (List.mem_map.2 ⟨p.2, (List.of_mem_zip (a := p.1) (b := p.2) hmm).2, rfl⟩)
    have h3 := Nat.mul_le_mul_left (wt m gf.2.1) h2
    omega

set_option maxHeartbeats 2000000 in
theorem seenRecord_any {m : Nat} {s t d : ByteArray} (IH : SeenOK m s t d) (hs : s.size ≤ 4096) (ht : t.size ≤ 4096) (hd : d.size ≤ 64) (nw nr i k j : Nat) (hm : nw + nr ≤ m) (hnw : nw ≤ 100) (hnr : nr ≤ 100) {fs gs : List (Nat × Ty × ByteArray)} {k0 k1 : Nat} (hfl : fs.length ≤ 4096) (hgl : gs.length ≤ 4096) (hfn : fs ≠ []) (hgn : gs ≠ [])
    (hFs : ∀ w, Calls Tryd.prog 62 #[.string s, .int .i64 i] w fun e w' => GRet w.heap.size nw s (some (fs, k0)) e w' ∧ Below w.heap.size w w')
    (hFt : ∀ w, Calls Tryd.prog 62 #[.string t, .int .i64 k] w fun e w' => GRet w.heap.size nr t (some (gs, k1)) e w' ∧ Below w.heap.size w w')
    (vs : List Val) (hlen : vs.length = fs.length) (hok : ∀ p ∈ fs.zip vs, okV nw p.1.2.1 p.2) (hat : At d j (catB (vs.map (datV nw)))) (hwt : (gs.map fun f => wt m f.2.1 + f.2.2.size + 4).sum ≤ 20000) (w : World) :
    Calls Tryd.prog 48 #[.string s, .int .i64 i, .string t, .int .i64 k, .string d, .int .i64 j] w fun e w' => e = .returned (sRet (rdFlds (rdFld (rdT m) (fs.zip vs)) gs ⟨#[123]⟩ ByteArray.empty)) ∧ Below w.heap.size w w' := by
  have _hd : d.size ≤ 9000000 := by omega
  have hF : ∀ w, Calls Tryd.prog 62 #[.string t, .int .i64 k] w fun e w' => ∃ g cap xs, e = .returned (.tuple #[.slice (some ⟨g, 0, none⟩) gs.length cap, .int .i64 k1]) ∧ w'.ownsRow w.heap.size 79 4 (.slice (some ⟨g, 0, none⟩) gs.length cap) gs.length xs ∧ RowR nr t xs gs ∧ Below w.heap.size w w' := fun w => by
    refine (hFt w).mono ?_
    rintro e w' ⟨⟨g, cap, xs, h1, h2, h3⟩, h4⟩
    exact ⟨g, cap, xs, h1, h2, h3, h4⟩
  have hst := fun c w => starts_any (tell_all (s := s) (t := d) hs (by omega) nw hnw) hd hnw i j c hfl hFs vs hlen hok hat w
  have hpos : 1 ≤ (catB (vs.map (datV nw))).size := by
    have := datV_pos (nw + 1) ⟨123, ByteArray.empty, false, [], fs⟩ (.rcd vs) (okV_rcd ⟨rfl, hfn, hlen, hok⟩)
    rw [datV_rcd] at this; exact this
  have hsf := fun gf y => rdFld_size (m := m) (gf := gf) (y := y) hok hpos
  have hLe := hat.le
  obtain ⟨L, hL⟩ : ∃ L, L = (catB (vs.map (datV nw))).size := ⟨_, rfl⟩
  rw [← hL] at hpos hsf hLe
  rw [snFlds_all _ gs hgn]
  obtain ⟨R, hR⟩ : ∃ R, R = snFlds (rdFld (rdT m) (fs.zip vs)) gs ByteArray.empty := ⟨_, rfl⟩
  rw [← hR]
  have HR : Hid (R = snFlds (rdFld (rdT m) (fs.zip vs)) gs ByteArray.empty) := hR
  have HO : Hid (∀ p ∈ fs.zip vs, okV nw p.1.2.1 p.2) := hok
  have hgl0 : 0 < gs.length := by
    rcases gs with _ | ⟨g, gs⟩
    · exact absurd rfl hgn
    · simp
  clear hR hFs hFt hok hat hL hfn hgn
  go_enter Tryd.func48, Tryd.ntmps48
  go_wp2_with (go_at_call 62; refine (hF _).mono ?_; rintro e wf ⟨g, cap, xs, rfl, hown, hrow, hbf0⟩)
  go_loopw [16, 17] (fun vd vi wr => ∃ (x : Nat) (u : ByteArray), x ≤ gs.length ∧ vi = .int .i64 x ∧ vd = .string u ∧ x ≤ u.size ∧ Hid (R = snFlds (rdFld (rdT m) (fs.zip vs)) (gs.drop x) u) ∧ Hid (u.size + ((gs.drop x).map fun f => (wt m f.2.1 + f.2.2.size + 4) * L).sum ≤ 20000 * L) ∧ Below wf.heap.size wf wr) (fun _ x _ => gs.length - (intOf x).toNat)
  case atStart =>
    refine ⟨0, ByteArray.empty, Nat.zero_le _, rfl, rfl, Nat.zero_le _, HR, ?_, Below.refl _ _⟩
    show _ ≤ _
    rw [List.drop_zero, mul_sum (fun f : Nat × Ty × ByteArray => wt m f.2.1 + f.2.2.size + 4), show ByteArray.empty.size = 0 from rfl, Nat.zero_add]
    exact Nat.mul_le_mul_right _ hwt
  case round =>
    obtain ⟨x, u, hx0, rfl, rfl, hxu, hR, hsz, hb⟩ := hrel
    have hK : 20000 * L ≤ 1280000 := by omega
    have hus : u.size ≤ 1280000 := by have := hsz.out; omega
    have one1 : (⟨#[44]⟩ : ByteArray).size = 1 := rfl
    have one2 : (⟨#[58]⟩ : ByteArray).size = 1 := rfl
    have one3 : (⟨#[123]⟩ : ByteArray).size = 1 := rfl
    have one4 : (⟨#[125]⟩ : ByteArray).size = 1 := rfl
    by_cases hlt : x < gs.length
    · obtain ⟨gf, hf⟩ : ∃ f, gs[x]? = some f := ⟨gs[x], List.getElem?_eq_getElem hlt⟩
      have hdrop : gs.drop x = gf :: gs.drop (x + 1) := by
        rw [List.drop_eq_getElem_cons hlt]; rw [List.getElem?_eq_getElem hlt] at hf; simp at hf; rw [hf]
      have hmem := List.mem_of_getElem? hf
      obtain ⟨p, kp, hp, hpn, h256, c0, c1, c2, c3⟩ := hrow.2 x gf hf
      have k0 := cell_keep hb (own_cell hown c0)
      have k1 := cell_keep hb (own_cell hown c1)
      have k2 := cell_keep hb (own_cell hown c2)
      have k3 := cell_keep hb (own_cell hown c3)
      have hg' : g < wr.heap.size := lt_of_cell k0
      have hwf : wt m gf.2.1 ≤ 20000 := by
        have := sum_sm (fun f : Nat × Ty × ByteArray => wt m f.2.1 + f.2.2.size + 4) 20000 gs gf hmem hwt
        omega
      have hstc := hst gf.1
      have hsfg := hsf gf
      have hstep : ∀ o, rdFld (rdT m) (fs.zip vs) gf = o → R = (match o with | none => none | some y => snFlds (rdFld (rdT m) (fs.zip vs)) (gs.drop (x + 1)) ((((u ++ ⟨#[44]⟩) ++ oneB gf.1) ++ ⟨#[58]⟩) ++ y)) := fun o ho => by
        rw [hR.out, hdrop, snFlds, ho]
        cases o <;> rfl
      have hsum : u.size + (wt m gf.2.1 + gf.2.2.size) * L + 4 * L + ((gs.drop (x + 1)).map fun f => (wt m f.2.1 + f.2.2.size + 4) * L).sum ≤ 20000 * L := by
        have h1 := hsz.out
        rw [hdrop, List.map_cons, List.sum_cons, Nat.add_mul] at h1
        omega
      have hconv := fun (W : World) (b : Nat) (h : W.cell? ⟨b, 0, none⟩ = some (.int .u8 gf.1)) => conv_byte W b gf.1 h256 h
      have hso : (oneB gf.1).size = 1 := rfl
      have z1 : (u ++ ⟨#[44]⟩).size = u.size + 1 := by rw [ByteArray.size_append, one1]
      have z2 : (u ++ ⟨#[44]⟩ ++ oneB gf.1).size = u.size + 2 := by rw [ByteArray.size_append, z1, hso]
      have z3 : (u ++ ⟨#[44]⟩ ++ oneB gf.1 ++ ⟨#[58]⟩).size = u.size + 3 := by rw [ByteArray.size_append, z2, one2]
      have HS : ∀ y : ByteArray, y.size ≤ (wt m gf.2.1 + gf.2.2.size) * L → Hid ((u ++ ⟨#[44]⟩ ++ oneB gf.1 ++ ⟨#[58]⟩ ++ y).size + ((gs.drop (x + 1)).map fun f => (wt m f.2.1 + f.2.2.size + 4) * L).sum ≤ 20000 * L) := fun y hy => by
        show _ ≤ _
        rw [ByteArray.size_append, z3]
        omega
      have hzx : ∀ y : ByteArray, x + 1 ≤ (u ++ ⟨#[44]⟩ ++ oneB gf.1 ++ ⟨#[58]⟩ ++ y).size := fun y => by rw [ByteArray.size_append, z3]; omega
      have hKK : (wt m gf.2.1 + gf.2.2.size) * L ≤ 1280000 := by omega
      have HSTEP : Hid (∀ o, rdFld (rdT m) (fs.zip vs) gf = o → R = (match o with | none => none | some y => snFlds (rdFld (rdT m) (fs.zip vs)) (gs.drop (x + 1)) ((((u ++ ⟨#[44]⟩) ++ oneB gf.1) ++ ⟨#[58]⟩) ++ y))) := hstep
      have hbw : Below w.heap.size w wr := hbf0.trans (hb.mono hbf0.size)
      cases hfd : (fs.zip vs).find? (fun p => p.1.1 == gf.1) with
      | none =>
        rw [hfd] at hstc
        have hfv : rdFld (rdT m) (fs.zip vs) gf = if gf.2.2.size = 0 then none else some gf.2.2 := by unfold rdFld; rw [hfd]
        by_cases hz : gf.2.2.size = 0
        · have hr' : Hid (R = none) := hstep none (by rw [hfv, if_pos hz])
          have hz' : ¬ 0 < gf.2.2.size := by omega
          rw [show decide (0 < gf.2.2.size) = false by simpa using hz] at k2
          clear hfd hfv hst hsf hsfg hstep HSTEP hdrop hf hR hrow hown hp c0 c1 c2 c3 hz hsum HS hz'
          go_wp2_with (first | (go_at_call 83; refine (hstc _).mono ?_; rintro e w1 ⟨rfl, hb1⟩; obtain ⟨hc1, hf1⟩ := bcell hb1))
          go_ret2
          rw [hr'.out]
          exact ⟨rfl, hbw.trans (hb1.mono hbw.size)⟩
        · have hr' : Hid (R = snFlds (rdFld (rdT m) (fs.zip vs)) (gs.drop (x + 1)) ((((u ++ ⟨#[44]⟩) ++ oneB gf.1) ++ ⟨#[58]⟩) ++ gf.2.2)) := hstep (some gf.2.2) (by rw [hfv, if_neg hz])
          rw [show decide (0 < gf.2.2.size) = true by simp; omega] at k2
          have hys : gf.2.2.size ≤ (wt m gf.2.1 + gf.2.2.size) * L := hsfg gf.2.2 (by rw [hfv, if_neg hz])
          have HS2 := HS gf.2.2 hys
          have hzx2 := hzx gf.2.2
          have hy3 : gf.2.2.size ≤ 1280000 := by omega
          clear hfd hfv hst hsf hsfg hstep HSTEP hdrop hf hR hrow hown hp c0 c1 c2 c3 hz hsum HS hys hKK
          go_wp2_with (first | (go_at_call 83; refine (hstc _).mono ?_; rintro e w1 ⟨rfl, hb1⟩; obtain ⟨hc1, hf1⟩ := bcell hb1))
          go_roundw
          case rel => exact ⟨x + 1, _, by omega, by go_num, rfl, hzx2, hr', HS2, (hb.trans (hb1.mono hb.size)).alloc (Nat.le_trans hb.size hb1.size) _⟩
          case measure => simp [intOf]; omega
      | some pf =>
        rw [hfd] at hstc
        have hfv : rdFld (rdT m) (fs.zip vs) gf = rdT m pf.1.2.1 gf.2.1 pf.2 := by unfold rdFld; rw [hfd]
        have hvk : okV nw pf.1.2.1 pf.2 := HO.out pf (find_mem hfd)
        have hseen := fun (w : World) (a q kq : Nat) (h1 : At d a (datV nw pf.2)) (h2 : pType true s nw q = some (pf.1.2.1, kq)) (h3 : s.size ≤ q + nw) => IH nw nr q p a pf.1.2.1 gf.2.1 kq kp pf.2 w hm hnw hnr h2 h3 hp hpn hvk h1 hwf
        cases hy : rdT m pf.1.2.1 gf.2.1 pf.2 with
        | none =>
          have hr' : Hid (R = none) := hstep none (by rw [hfv, hy])
          rw [hy] at hseen
          clear hfd hfv hst hsf hsfg hstep HSTEP hdrop hf hR hrow hown c0 c1 c2 c3 hsum HS hKK hy hvk
          go_wp2_with (first | (go_at_call 83; refine (hstc _).mono ?_; rintro e w1 ⟨⟨a, q, kq, rfl, ha, hq, hqn⟩, hb1⟩; obtain ⟨hc1, hf1⟩ := bcell hb1) | (go_at_call 29; refine (hseen _ _ _ _ ha hq hqn).mono ?_; rintro e w2 ⟨⟨z, rfl⟩, hb2⟩; obtain ⟨hc2, hf2⟩ := bcell hb2))
          go_ret2
          rw [hr'.out]
          exact ⟨rfl, (hbw.trans (hb1.mono hbw.size)).trans (hb2.mono (Nat.le_trans hbw.size hb1.size))⟩
        | some z =>
          have hr' : Hid (R = snFlds (rdFld (rdT m) (fs.zip vs)) (gs.drop (x + 1)) ((((u ++ ⟨#[44]⟩) ++ oneB gf.1) ++ ⟨#[58]⟩) ++ z)) := hstep (some z) (by rw [hfv, hy])
          have hys : z.size ≤ (wt m gf.2.1 + gf.2.2.size) * L := hsfg z (by rw [hfv, hy])
          have HS2 := HS z hys
          have hzx2 := hzx z
          have hy3 : z.size ≤ 1280000 := by omega
          rw [hy] at hseen
          clear hfd hfv hst hsf hsfg hstep HSTEP hdrop hf hR hrow hown c0 c1 c2 c3 hsum HS hKK hy hvk hys
          go_wp2_with (first | (go_at_call 83; refine (hstc _).mono ?_; rintro e w1 ⟨⟨a, q, kq, rfl, ha, hq, hqn⟩, hb1⟩; obtain ⟨hc1, hf1⟩ := bcell hb1) | (go_at_call 29; refine (hseen _ _ _ _ ha hq hqn).mono ?_; rintro e w2 ⟨rfl, hb2⟩; obtain ⟨hc2, hf2⟩ := bcell hb2; have hg1 : g < w1.heap.size := (Nat.lt_of_lt_of_le hg' hb1.size)))
          go_roundw
          case rel => exact ⟨x + 1, _, by omega, by go_num, rfl, hzx2, hr', HS2, ((hb.trans (hb1.mono hb.size)).trans (hb2.mono (Nat.le_trans hb.size hb1.size))).alloc (Nat.le_trans hb.size (Nat.le_trans hb1.size hb2.size)) _⟩
          case measure => simp [intOf]; omega
    · have hnil : gs.drop x = [] := List.drop_of_length_le (by omega)
      have hr' : Hid (R = some u) := by show _ = _; rw [hR.out, hnil, snFlds]
      have hu1 : 1 ≤ u.size := by omega
      have hue := not_isEmpty hu1
      have hsx := size_extract u 1 u.size hu1 (Nat.le_refl _)
      clear hR hnil hst hsf hsz
      go_wp2_with fail
      go_ret2
      rw [hr'.out]
      exact ⟨rfl, hbf0.trans (hb.mono hbf0.size)⟩
end Go.Proofs.YtccmcgckechhgaaDoor
