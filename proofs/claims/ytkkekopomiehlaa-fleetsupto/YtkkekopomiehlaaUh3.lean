import Derived.Test.YtkkekopomiehlaaUh2
set_option linter.unusedVariables false
set_option linter.unusedSimpArgs false
set_option maxRecDepth 4000
namespace Go.Proofs.Ytkkekopomiehlaa
open Go.RowKit

set_option maxHeartbeats 4000000 in
theorem unhurtReleases_any (rels : List (List PinD)) (w : World) (B : Nat) (v : Value) (a : Option Addr) (l cap : Nat) (hv : LRel w B v rels) (hp : RelSl PinSl w a l cap rels) :
    Calls Try.prog 58 #[v, .slice a l cap] w fun e W => e = .returned (.bool true) ∧ Below w.heap.size w W := by
  obtain ⟨rfl, hl, hlc, hc9, hp⟩ := hp
  obtain ⟨g, g', cs, rfl, _, hgg, hcl, hrow, hsp, hpin⟩ := hv
  have hgl := hrow.lt
  have hgl' := hsp.lt
  have l9 : w.cell? ⟨g, rels.length, none⟩ = some (.slice (some ⟨g', 0, none⟩) 1 1) := hrow.cell (get_last hcl)
  have s0 : w.cell? ⟨g', 0, none⟩ = some (.int .i64 (-7)) := hsp.cell rfl
  have s1 : w.cell? ⟨g', 1, none⟩ = some (.int .i64 (-7)) := hsp.cell rfl
  have s2 : w.cell? ⟨g', 2, none⟩ = some (.int .i64 (-7)) := hsp.cell rfl
  have HRow := (hidMk hrow)
  have HP := (hidMk hp)
  have HN := (hidMk hpin)
  have HC := (hidMk hcl)
  have hnn : ((rels.length : Int) != (rels.length : Int)) = false := by simp
  have hx9 : (0 : Int) ≤ (rels.length : Int) := Int.natCast_nonneg _
  clear hrow hp hsp hpin hcl
  go_enter Try.func58, Try.ntmps58
  go_wp2_with fail
  go_loopw [6] (fun vi wr => ∃ i : Nat, i ≤ rels.length ∧ vi = .int .i64 i ∧ Below w.heap.size w wr) (fun i _ => rels.length - (intOf i).toNat)
  case atStart => exact ⟨0, Nat.zero_le _, rfl, Below.refl _ _⟩
  case round =>
    obtain ⟨i, hi, rfl, hb⟩ := hrel
    have hgl2 : g < wr.heap.size := Nat.lt_of_lt_of_le hgl hb.size
    have hx0 : (0 : Int) ≤ (i : Int) := Int.natCast_nonneg _
    by_cases hlt : i < rels.length
    · obtain ⟨ps, hpi⟩ : ∃ ps, rels[i]? = some ps := ⟨rels[i], List.getElem?_eq_getElem hlt⟩
      obtain ⟨u, hu⟩ : ∃ u, cs[i]? = some u := ⟨cs[i]'(by rw [HC.out]; omega), List.getElem?_eq_getElem (by rw [HC.out]; omega)⟩
      obtain ⟨gp, k1, k2, k3⟩ := HN.out i u ps hu hpi
      have c0 := cell_keep hb (HRow.out.cell (j := i) (v := u) (by rw [List.getElem?_append_left (by rw [HC.out]; omega)]; exact hu))
      rw [k1] at c0
      obtain ⟨b, o, pa, pl, pc, rfl, d0, hps⟩ := HP.out i ps hpi
      have d0 := cell_keep hb d0
      have hbl := lt_of_cell d0
      have hx1 : (i : Int) < (rels.length : Int) := by omega
      have hx2 : (i : Int) < (rels.length : Int) + 1 := by omega
      have hcall := fun (W : World) (h : Below wr.heap.size wr W) => unhurtPins_any ps W gp pa pl pc (k3.keep (thn3 hb h)) (hps.keep (thn3 hb h))
      have K3 := (hidMk k3)
      clear hpi hu k1 k3 hps
      go_wp2_with fail
      (first | go_region_held3 (fun w' => w'.cell? ⟨g, i, none⟩ = some (.slice (some ⟨gp, 0, none⟩) ps.length (ps.length + 1)) ∧ w'.cell? ⟨b, o + i, none⟩ = some (.slice pa pl pc)) (go_keep) (first | (go_at_call 88; refine (hcall _ (by first | exact (Below.refl _ _).drew | exact Below.refl _ _)).mono ?_; rintro e w3 ⟨rfl, hb3⟩; have e0 := cell_keep hb3 c0; have e3 := cell_keep hb3 d0)) | (go_at_call 88; refine (hcall _ (Below.refl _ _)).mono ?_; rintro e w3 ⟨rfl, hb3⟩))
      go_wp2_with fail
      go_roundw
      case rel => first | exact ⟨i + 1, by omega, by go_num, thn3 hb.drew hb3⟩ | exact ⟨i + 1, by omega, by go_num, thn3 hb hb3⟩
      case measure => simp [intOf]; omega
    · have c9 := cell_keep hb l9
      have c0 := cell_keep hb s0
      have c1 := cell_keep hb s1
      have c2 := cell_keep hb s2
      have hcall := fun W => samePin_same (-7) (-7) (-7) W
      go_wp2_with fail
      (first | go_region_held3 (fun w' => w'.cell? ⟨g', 0, none⟩ = some (.int .i64 (-7)) ∧ w'.cell? ⟨g', 1, none⟩ = some (.int .i64 (-7)) ∧ w'.cell? ⟨g', 2, none⟩ = some (.int .i64 (-7))) (go_keep) (first | (go_at_call 89; refine (hcall _).mono ?_; rintro e w3 ⟨rfl, hb3⟩; have e0 := cell_keep hb3 c0; have e1 := cell_keep hb3 c1; have e2 := cell_keep hb3 c2)) | (go_at_call 89; refine (hcall _).mono ?_; rintro e w3 ⟨rfl, hb3⟩))
      go_wp2_with fail
      go_ret
      first | exact ⟨rfl, thn3 hb.drew hb3⟩ | exact ⟨rfl, thn3 hb hb3⟩
theorem nil_eql (W : World) : (binOp BinOp.eql 62 (Value.slice none 0 0) (Value.slice none 0 0)).run Try.prog W = .ok (.bool true) W := by kernel_rfl
set_option maxHeartbeats 8000000 in
theorem unhurtServices_any (vs : List SvcD) (w : World) (gv : Nat) (D : List (SvcD × Value)) (a : Option Addr) (cap : Nat) (hl : vs.length ≤ 2000000) (hD : D.map Prod.fst = vs) (hrow : RowIs w gv 64 (svC D ++ [.int .i64 (-7), .int .i64 (-7), .int .i64 (-7), .slice none 0 0])) (hr : ∀ p ∈ D, LRel w (gv + 1) p.2 p.1.rels) (hp : SvcsAt (RelSl PinSl) w a vs) :
    Calls Try.prog 31 #[.slice (some ⟨gv, 0, none⟩) vs.length (vs.length + 1), .slice a vs.length cap] w fun e W => e = .returned (.bool true) ∧ Below w.heap.size w W := by
  have hgl := hrow.lt
  have hDl : D.length = vs.length := by rw [← hD, List.length_map]
  have hCl := svC_len D
  rw [hDl] at hCl
  have l0 : w.cell? ⟨gv, vs.length * 4, none⟩ = some (.int .i64 (-7)) := hrow.cell (by rw [List.getElem?_append_right (by omega), hCl, Nat.sub_self]; rfl)
  have l1 : w.cell? ⟨gv, vs.length * 4 + 1, none⟩ = some (.int .i64 (-7)) := hrow.cell (by rw [List.getElem?_append_right (by omega), hCl, show vs.length * 4 + 1 - vs.length * 4 = 1 by omega]; rfl)
  have l2 : w.cell? ⟨gv, vs.length * 4 + 2, none⟩ = some (.int .i64 (-7)) := hrow.cell (by rw [List.getElem?_append_right (by omega), hCl, show vs.length * 4 + 2 - vs.length * 4 = 2 by omega]; rfl)
  have l3 : w.cell? ⟨gv, vs.length * 4 + 3, none⟩ = some (.slice none 0 0) := hrow.cell (by rw [List.getElem?_append_right (by omega), hCl, show vs.length * 4 + 3 - vs.length * 4 = 3 by omega]; rfl)
  have HRow := (hidMk hrow)
  have HP := (hidMk hp)
  have HR := (hidMk hr)
  have HD := (hidMk hD)
  have hnn : ((vs.length : Int) != (vs.length : Int)) = false := by simp
  have hx9 : (0 : Int) ≤ (vs.length : Int) := Int.natCast_nonneg _
  clear hrow hp hr hD hDl hCl
  go_enter Try.func31, Try.ntmps31
  go_wp2_with fail
  go_loopw [6] (fun vi wr => ∃ i : Nat, i ≤ vs.length ∧ vi = .int .i64 i ∧ Below w.heap.size w wr) (fun i _ => vs.length - (intOf i).toNat)
  case atStart => exact ⟨0, Nat.zero_le _, rfl, Below.refl _ _⟩
  case round =>
    obtain ⟨i, hi, rfl, hb⟩ := hrel
    have hgl2 : gv < wr.heap.size := Nat.lt_of_lt_of_le hgl hb.size
    have hx0 : (0 : Int) ≤ (i : Int) := Int.natCast_nonneg _
    by_cases hlt : i < vs.length
    · obtain ⟨v, hvi⟩ : ∃ v, vs[i]? = some v := ⟨vs[i], List.getElem?_eq_getElem hlt⟩
      obtain ⟨⟨v', u⟩, hpi, rfl⟩ : ∃ p, D[i]? = some p ∧ p.1 = v := by
        have h1 := hvi
        rw [← HD.out, List.getElem?_map] at h1
        obtain ⟨p, h1, h2⟩ := Option.map_eq_some_iff.1 h1
        exact ⟨p, h1, h2⟩
      simp only at hvi
      obtain ⟨t0, t1, t2, t3⟩ := svC_get D i (v', u) [.int .i64 (-7), .int .i64 (-7), .int .i64 (-7), .slice none 0 0] hpi
      have c0 := cell_keep hb (HRow.out.cell t0)
      have c1 := cell_keep hb (HRow.out.cell t1)
      have c2 := cell_keep hb (HRow.out.cell t2)
      have c3 := cell_keep hb (HRow.out.cell t3)
      have hlr := HR.out (v', u) (List.mem_of_getElem? hpi)
      obtain ⟨b, o, ra, rl, rc, rfl, d0, d1, d2, d3, hrs⟩ := HP.out i v' hvi
      have d0 := cell_keep hb d0
      have d1 := cell_keep hb d1
      have d2 := cell_keep hb d2
      have d3 := cell_keep hb d3
      have hbl := lt_of_cell d0
      have hx1 : (i : Int) < (vs.length : Int) := by omega
      have hx2 : (i : Int) < (vs.length : Int) + 1 := by omega
      obtain ⟨x, y, z, rels⟩ := v'
      simp only at c0 c1 c2 c3 d0 d1 d2 d3 hlr hrs
      have hcall := fun (W : World) (h : Below wr.heap.size wr W) => unhurtReleases_any rels W (gv + 1) u ra rl rc (hlr.keep (thn3 hb h)) (RelSl.keepP (thn3 hb h) hrs)
      have n1 : (x != x) = false := by simp
      have n2 : (y != y) = false := by simp
      have n3 : (z != z) = false := by simp
      clear hpi t0 t1 t2 t3 hvi hrs
      have HL := (hidMk hlr)
      clear hlr
      go_wp2_with fail
      (first | go_region_held3 (fun w' => w'.cell? ⟨gv, i * 4 + 3, none⟩ = some u ∧ w'.cell? ⟨b, o + i * 4 + 3, none⟩ = some (.slice ra rl rc)) (go_keep) (first | (go_at_call 58; refine (hcall _ (by first | exact (Below.refl _ _).drew | exact Below.refl _ _)).mono ?_; rintro e w3 ⟨rfl, hb3⟩; have e0 := cell_keep hb3 c0; have e1 := cell_keep hb3 c1; have e2 := cell_keep hb3 c2; have e3 := cell_keep hb3 c3; have f0 := cell_keep hb3 d0; have f1 := cell_keep hb3 d1; have f2 := cell_keep hb3 d2; have f3 := cell_keep hb3 d3)) | (go_at_call 58; refine (hcall _ (Below.refl _ _)).mono ?_; rintro e w3 ⟨rfl, hb3⟩; have e0 := cell_keep hb3 c0; have e1 := cell_keep hb3 c1; have e2 := cell_keep hb3 c2; have e3 := cell_keep hb3 c3; have f0 := cell_keep hb3 d0; have f1 := cell_keep hb3 d1; have f2 := cell_keep hb3 d2; have f3 := cell_keep hb3 d3))
      go_wp2_with fail
      (first | go_region_held3 (fun w' => (w'.cell? ⟨gv, i * 4, none⟩ = some (.int .i64 x) ∧ w'.cell? ⟨gv, i * 4 + 1, none⟩ = some (.int .i64 y) ∧ w'.cell? ⟨gv, i * 4 + 2, none⟩ = some (.int .i64 z)) ∧ w'.cell? ⟨b, o + i * 4, none⟩ = some (.int .i64 x) ∧ w'.cell? ⟨b, o + i * 4 + 1, none⟩ = some (.int .i64 y) ∧ w'.cell? ⟨b, o + i * 4 + 2, none⟩ = some (.int .i64 z)) (go_keep) (fail) | skip)
      go_wp2_with fail
      go_roundw
      case rel => first | exact ⟨i + 1, by omega, by go_num, (thn3 hb.drew hb3).drew⟩ | exact ⟨i + 1, by omega, by go_num, (thn3 hb hb3).drew⟩
      case measure => simp [intOf]; omega
    · have c0 := cell_keep hb l0
      have c1 := cell_keep hb l1
      have c2 := cell_keep hb l2
      have c3 := cell_keep hb l3
      have hnil := nil_eql
      go_wp2_with fail
      go_ret
      exact ⟨ret_bool (by rfl), thn3 hb (bel1 _ _)⟩
set_option maxHeartbeats 2000000 in
theorem unhurt_any (f : FleetD) (gs gt gv : Nat) (D : List (SvcD × Value)) (sa ta va : Option Addr) (sl sc tl tc vl vc : Nat) (w : World) (hL : LentF w gs gt gv D f) (hf : FleetAt w sa sl sc ta tl tc va vl vc f) :
    Calls Try.prog 15 #[lentA gs gt gv f, .agg #[.slice sa sl sc, .slice ta tl tc, .slice va vl vc]] w fun e W => e = .returned (.bool true) ∧ Below w.heap.size w W := by
  have c1 := fun (W : World) (h : Below w.heap.size w W) => unhurtStrings_any f.ss W gs sa sc hf.s2 (hL.s.keep h) (hf.s4.keep h)
  have c2 := fun (W : World) (h : Below w.heap.size w W) => unhurtTopics_any f.ts W gt ta tc hf.t2 (hL.t.keep h) (hf.t3.keep h)
  have c3 := fun (W : World) (h : Below w.heap.size w W) => unhurtServices_any f.vs W gv D va vc hf.v2 hL.d (hL.v.keep h) (fun p hp => (hL.r p hp).keep h) (hf.v3.keep (fun _ _ _ _ h' => RelSl.keepP h h') h)
  unfold lentA
  rw [← hf.s1] at c1 ⊢
  rw [← hf.t1] at c2 ⊢
  rw [← hf.v1] at c3 ⊢
  have e0 := new3 (.cells #[.slice sa sl sc, .slice ta tl tc, .slice va vl vc] 33) (box3 w (.slice (some ⟨gs, 0, none⟩) sl (sl + 1)) (.slice (some ⟨gt, 0, none⟩) tl (tl + 1)) (.slice (some ⟨gv, 0, none⟩) vl (vl + 1)) 33)
  have z0 := box3 (w.alloc (.cells #[.slice (some ⟨gs, 0, none⟩) sl (sl + 1), .slice (some ⟨gt, 0, none⟩) tl (tl + 1), .slice (some ⟨gv, 0, none⟩) vl (vl + 1)] 33)) (.slice sa sl sc) (.slice ta tl tc) (.slice va vl vc) 33
  have hBB := thn3 (bel1 w (.cells #[.slice (some ⟨gs, 0, none⟩) sl (sl + 1), .slice (some ⟨gt, 0, none⟩) tl (tl + 1), .slice (some ⟨gv, 0, none⟩) vl (vl + 1)] 33)) (bel1 _ (.cells #[.slice sa sl sc, .slice ta tl tc, .slice va vl vc] 33))
  rw [show (w.alloc (.cells #[.slice (some ⟨gs, 0, none⟩) sl (sl + 1), .slice (some ⟨gt, 0, none⟩) tl (tl + 1), .slice (some ⟨gv, 0, none⟩) vl (vl + 1)] 33)).heap.size = w.heap.size + 1 by simp] at z0
  clear hf hL
  go_enter Try.func15, Try.ntmps15
  go_wp2_with (first
    | (go_at_call 29; refine (c1 _ hBB).mono ?_; rintro e w1 ⟨rfl, hb1⟩; have e1 := keep3 hb1 e0; have z1 := keep3 hb1 z0)
    | (go_at_call 30; refine (c2 _ (thn3 hBB hb1)).mono ?_; rintro e w2 ⟨rfl, hb2⟩; have e2 := keep3 hb2 e1; have z2 := keep3 hb2 z1)
    | (go_at_call 31; refine (c3 _ (thn3 (thn3 hBB hb1) hb2)).mono ?_; rintro e w3 ⟨rfl, hb3⟩))
  go_ret
  exact ⟨rfl, thn3 (thn3 (thn3 hBB hb1) hb2) hb3⟩
end Go.Proofs.Ytkkekopomiehlaa
