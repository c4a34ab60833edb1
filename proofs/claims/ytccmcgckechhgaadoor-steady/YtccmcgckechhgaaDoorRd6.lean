import Derived.Test.YtccmcgckechhgaaDoorRd5
set_option linter.unusedVariables false
set_option linter.unusedSimpArgs false
set_option maxRecDepth 4000
namespace Go.Proofs.YtccmcgckechhgaaDoor
open Go.RowKit

theorem sum_small {α : Type} (c : α → Nat) (K : Nat) : ∀ (l : List α) (x : α), x ∈ l → (l.map c).sum ≤ K → c x ≤ K
  | y :: l, x, h, hk => by
    simp at hk
    rcases List.mem_cons.1 h with rfl | h
    · omega
    · exact sum_small c K l x h (by omega)
set_option maxHeartbeats 1000000 in
theorem readRecord_any {Tab : World → Prop} (F : FmtOK Tab) {m : Nat} (IH : ReadOK Tab m) (nw nr : Nat) (hm : nw + nr ≤ m) (hnw : nw ≤ 100) (hnr : nr ≤ 100) (fs gs : List (Nat × Ty × ByteArray)) (vs : List Val) (D : ByteArray) (w : World) (af bf : Option Addr) (lf cf mf df : Nat)
    (hlf : lf = fs.length) (hmf : mf = gs.length) (hfl : fs.length ≤ 9000000) (hgl : gs.length ≤ 9000000) (hfn : fs ≠ []) (hgn : gs ≠ []) (hT : Tab w) (hoT : ∀ f ∈ fs, f.1 < 256 ∧ okT nw f.2.1) (hoG : ∀ f ∈ gs, f.1 < 256 ∧ okT nr f.2.1) (hlen : vs.length = fs.length) (hok : ∀ p ∈ fs.zip vs, okV nw p.1.2.1 p.2)
    (hD : D = catB (vs.map (datV nw))) (hDs : D.size ≤ 64) (hr : RepF nw w af fs) (hrg : RepF nr w bf gs) (hwt : (gs.map fun f => wt m f.2.1 + f.2.2.size + 4).sum ≤ 20000) :
    Calls Tryd.prog 45 #[.slice af lf cf, .slice bf mf df, .string D] w fun e w' => e = .returned (dRet (rdFlds (rdFld (rdT m) (fs.zip vs)) gs ⟨#[123]⟩ ByteArray.empty)) ∧ Below w.heap.size w w' := by
  subst hlf hmf
  have hfd := fieldData_any F hnw fs vs D w af fs.length cf rfl hfl hT hoT hr hlen hok hD hDs
  obtain ⟨R, hR⟩ : ∃ R, R = rdFlds (rdFld (rdT m) (fs.zip vs)) gs ⟨#[123]⟩ ByteArray.empty := ⟨_, rfl⟩
  rw [← hR]
  have HR : Hid (R = rdFlds (rdFld (rdT m) (fs.zip vs)) gs ⟨#[123]⟩ ByteArray.empty) := hR
  have hDc : (catB (vs.map (datV nw))).size ≤ 64 := by rw [← hD]; exact hDs
  have hpos : 1 ≤ D.size := by
    have := datV_pos (nw + 1) ⟨123, ByteArray.empty, false, [], fs⟩ (.rcd vs) (okV_rcd ⟨rfl, hfn, hlen, hok⟩)
    rw [datV_rcd, ← hD] at this; exact this
  rcases hr with ⟨hr, _⟩ | ⟨g, rfl, hcells⟩
  · exact absurd hr hfn
  rcases hrg with ⟨hrg, _⟩ | ⟨h, rfl, hcellg⟩
  · exact absurd hrg hgn
  have hszf : ∀ gf ∈ gs, ∀ y, rdFld (rdT m) (fs.zip vs) gf = some y → y.size ≤ (wt m gf.2.1 + gf.2.2.size) * D.size := fun gf _ y hy => by
    rw [Nat.add_mul]
    unfold rdFld at hy
    split at hy
    · split at hy
      · cases hy
      · cases hy
        have := Nat.le_mul_of_pos_right gf.2.2.size hpos
        omega
    · rename_i p hp'
      have hmm := find_mem hp'
      have h1 := rdT_size m nw _ _ _ _ (hok p hmm) hy
      have h2 := cat_mem (l := vs.map (datV nw)) (x := datV nw p.2) (List.mem_map.2 ⟨p.2, (List.of_mem_zip (a := p.1) (b := p.2) hmm).2, rfl⟩)
      rw [← hD] at h2
      have h3 := Nat.mul_le_mul_left (wt m gf.2.1) h2
      omega
  clear hR hD hfn hgn
  go_enter Tryd.func45, Tryd.ntmps45
  go_wp2_with (first | (go_at_call 80; refine hfd.mono ?_; rintro e w1 ⟨pb, pc, rfl, hparts, hb1⟩))
  have hT1 : Tab w1 := F.1 _ _ hb1 hT
  clear hfd
  go_loopw [10, 11, 26] (fun vd vm vi wr => ∃ (i : Nat) (mk d : ByteArray), i ≤ gs.length ∧ vi = .int .i64 i ∧ vm = .string mk ∧ vd = .string d ∧ mk.size = 1 ∧ Hid (R = rdFlds (rdFld (rdT m) (fs.zip vs)) (gs.drop i) mk d) ∧ Hid (d.size + ((gs.drop i).map fun f => (wt m f.2.1 + f.2.2.size + 4) * D.size).sum ≤ 20000 * D.size) ∧ Below w1.heap.size w1 wr) (fun _ _ i _ => gs.length - (intOf i).toNat)
  case atStart =>
    refine ⟨0, ⟨#[123]⟩, ByteArray.empty, Nat.zero_le _, rfl, rfl, rfl, rfl, HR, ?_, Below.refl _ _⟩
    show _ ≤ _
    rw [List.drop_zero, mul_sum (fun f : Nat × Ty × ByteArray => wt m f.2.1 + f.2.2.size + 4), show ByteArray.empty.size = 0 from rfl, Nat.zero_add]
    exact Nat.mul_le_mul_right _ hwt
  case round =>
    obtain ⟨i, mk, d, hi, rfl, rfl, rfl, hmk, hR, hd, hb⟩ := hrel
    have hbw : Below w.heap.size w wr := hb1.thn hb
    have hTw : Tab wr := F.1 _ _ hb hT1
    have one1 : (⟨#[125]⟩ : ByteArray).size = 1 := rfl
    have one2 : (⟨#[58]⟩ : ByteArray).size = 1 := rfl
    have hK : 20000 * D.size ≤ 1280000 := by omega
    have hds : d.size ≤ 1280000 := by have := hd.out; omega
    by_cases hlt : i < gs.length
    · obtain ⟨gf, hf⟩ : ∃ f, gs[i]? = some f := ⟨gs[i], List.getElem?_eq_getElem hlt⟩
      have hdrop : gs.drop i = gf :: gs.drop (i + 1) := by
        rw [List.drop_eq_getElem_cons hlt]; rw [List.getElem?_eq_getElem hlt] at hf; simp at hf; rw [hf]
      have hmem := List.mem_of_getElem? hf
      obtain ⟨hf256, hokf⟩ := hoG gf hmem
      obtain ⟨p1, p2, p3, q1, q2, q3, hrep, k0, k1, k2, k3, k4, k5, k6⟩ := hcellg i gf hf
      have k0 := cell_keep hbw k0
      have k1 := cell_keep hbw k1
      have k2 := cell_keep hbw k2
      have k3 := cell_keep hbw k3
      have k4 := cell_keep hbw k4
      have k5 := cell_keep hbw k5
      have k6 := cell_keep hbw k6
      have hg' : h < wr.heap.size := lt_of_cell k0
      have hrepw := hrep.keep hbw
      have hBa : ∀ o, Below wr.heap.size wr (wr.alloc o) := fun o => (Below.refl _ _).alloc (Nat.le_refl _) _
      have hwf : wt m gf.2.1 ≤ 20000 := by
        have := sum_small (fun f : Nat × Ty × ByteArray => wt m f.2.1 + f.2.2.size + 4) 20000 gs gf hmem hwt
        omega
      have hfc := fun o => readField_any F IH nw nr hm hnw hnr fs vs gf (wr.alloc o) g cf pb pc p1 q1 p2 p3 q2 q3 hfl (F.1 _ _ (hBa o) hTw) hoT hlen hok hDc
        (fun j f hj => by
          obtain ⟨a1, a2, a3, b1, b2, b3, c0, c1, c2, c3, c4, c5, c6, c7⟩ := hcells j f hj
          have hq := hbw.thn (hBa o)
          exact ⟨a1, a2, a3, b1, b2, b3, c0.keep hq, cell_keep hq c1, cell_keep hq c2, cell_keep hq c3, cell_keep hq c4, cell_keep hq c5, cell_keep hq c6, cell_keep hq c7⟩)
        (fun j v hj => cell_keep (hb.thn (hBa o)) (hparts j v hj)) hokf (hrepw.keep (hBa o)) hwf
      cases hy : rdFld (rdT m) (fs.zip vs) gf with
      | none =>
        have hr' : Hid (R = none) := by show _ = _; rw [hR.out, hdrop, rdFlds, hy]
        rw [hy] at hfc
        simp only [dRet] at hfc
        clear hy hdrop hcells hcellg hparts hok hoT hoG hszf
        go_wp2_with (first | (go_at_call 81; refine (hfc _).mono ?_; rintro e w2 ⟨rfl, hb2⟩))
        go_ret2
        rw [hr'.out]
        exact ⟨rfl, (hbw.thn (hBa _)).thn hb2⟩
      | some x =>
        have hxs := hszf gf hmem x hy
        have hso : (oneB gf.1).size = 1 := rfl
        have hz1 : (mk ++ oneB gf.1).size = 2 := by rw [ByteArray.size_append, hmk, hso]
        have hz2 : (mk ++ oneB gf.1 ++ ⟨#[58]⟩).size = 3 := by rw [ByteArray.size_append, hz1, one2]
        have hz3 : (mk ++ oneB gf.1 ++ ⟨#[58]⟩ ++ x).size = 3 + x.size := by rw [ByteArray.size_append, hz2]
        have hsum : d.size + 3 + x.size + ((gs.drop (i + 1)).map fun f => (wt m f.2.1 + f.2.2.size + 4) * D.size).sum ≤ 20000 * D.size := by
          have h1 := hd.out
          rw [hdrop, List.map_cons, List.sum_cons, Nat.add_mul] at h1
          omega
        have HS : Hid ((d ++ (mk ++ oneB gf.1 ++ ⟨#[58]⟩ ++ x)).size + ((gs.drop (i + 1)).map fun f => (wt m f.2.1 + f.2.2.size + 4) * D.size).sum ≤ 20000 * D.size) := by
          show _ ≤ _
          rw [ByteArray.size_append, hz3]; omega
        have hs1 : x.size ≤ 1280000 := by omega
        have hr' : Hid (R = rdFlds (rdFld (rdT m) (fs.zip vs)) (gs.drop (i + 1)) ⟨#[44]⟩ (d ++ (mk ++ oneB gf.1 ++ ⟨#[58]⟩ ++ x))) := by show _ = _; rw [hR.out, hdrop, rdFlds, hy]
        rw [hy] at hfc
        simp only [dRet] at hfc
        clear hy hdrop hcells hcellg hparts hok hoT hoG hszf hxs hsum
        go_wp2_with (first | (go_at_call 81; refine (hfc _).mono ?_; rintro e w2 ⟨rfl, hb2⟩; obtain ⟨hc1, hf1⟩ := bcell hb2) | (go_at_call 79; refine (oneByte_any gf.1 _ (by omega)).mono ?_; rintro e w3 ⟨rfl, hb3⟩))
        go_roundw
        case rel => exact ⟨i + 1, ⟨#[44]⟩, d ++ (mk ++ oneB gf.1 ++ ⟨#[58]⟩ ++ x), by omega, by go_num, rfl, rfl, rfl, hr', HS, ((hb.thn (hBa _)).thn hb2).thn hb3⟩
        case measure => simp [intOf]; omega
    · have hnil : gs.drop i = [] := List.drop_of_length_le (by omega)
      have hr' : Hid (R = some (d ++ ⟨#[125]⟩)) := by show _ = _; rw [hR.out, hnil, rdFlds]
      go_wp2_with fail
      go_ret2
      rw [hr'.out]
      exact ⟨rfl, hbw⟩
end Go.Proofs.YtccmcgckechhgaaDoor
