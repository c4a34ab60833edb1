import Derived.Test.YtkkekopomiehlaaLn4
set_option linter.unusedVariables false
set_option linter.unusedSimpArgs false
set_option maxRecDepth 4000
namespace Go.Proofs.Ytkkekopomiehlaa
open Go.RowKit

/-- A fleet as it is lent. -/
structure LentF (w : World) (gs gt gv : Nat) (D : List (SvcD × Value)) (f : FleetD) : Prop where
  s : RowIs w gs 9 (f.ss.map .string ++ [.string beyondB])
  t : RowIs w gt 61 (f.ts.map (.int .i64) ++ [.int .i64 (-7)])
  d : D.map Prod.fst = f.vs
  v : RowIs w gv 64 (svC D ++ [.int .i64 (-7), .int .i64 (-7), .int .i64 (-7), .slice none 0 0])
  r : ∀ p ∈ D, LRel w (gv + 1) p.2 p.1.rels
theorem LentF.keep {w w' : World} (hb : Below w.heap.size w w') {gs gt gv : Nat} {D : List (SvcD × Value)} {f : FleetD} (h : LentF w gs gt gv D f) : LentF w' gs gt gv D f :=
  ⟨h.s.keep hb, h.t.keep hb, h.d, h.v.keep hb, fun p hp => (h.r p hp).keep hb⟩
def lentA (gs gt gv : Nat) (f : FleetD) : Value := .agg #[.slice (some ⟨gs, 0, none⟩) f.ss.length (f.ss.length + 1), .slice (some ⟨gt, 0, none⟩) f.ts.length (f.ts.length + 1), .slice (some ⟨gv, 0, none⟩) f.vs.length (f.vs.length + 1)]
set_option maxHeartbeats 2000000 in
theorem lent_any (f : FleetD) (sa ta va : Option Addr) (sl sc tl tc vl vc : Nat) (w : World) (hf : FleetAt w sa sl sc ta tl tc va vl vc f) :
    Calls Try.prog 13 #[.agg #[.slice sa sl sc, .slice ta tl tc, .slice va vl vc]] w fun e W => ∃ gs gt gv D, e = .returned (lentA gs gt gv f) ∧ LentF W gs gt gv D f ∧ Below w.heap.size w W := by
  have c1 := fun (W : World) (h : Below w.heap.size w W) => lentStrings_any f.ss W sa sc hf.s2 (hf.s4.keep h)
  have c2 := fun (W : World) (h : Below w.heap.size w W) => lentTopics_any f.ts W ta tc hf.t2 (hf.t3.keep h)
  have c3 := fun (W : World) (h : Below w.heap.size w W) => lentServices_any f.vs W va vc hf.v2 (hf.v3.keep (fun _ _ _ _ h' => RelSl.keepP h h') h)
  rw [← hf.s1] at c1
  rw [← hf.t1] at c2
  rw [← hf.v1] at c3
  have e0 := new3 (.cells #[.slice none 0 0, .slice none 0 0, .slice none 0 0] 33) (box3 w (.slice sa sl sc) (.slice ta tl tc) (.slice va vl vc) 33)
  have z0 := box3 (w.alloc (.cells #[.slice sa sl sc, .slice ta tl tc, .slice va vl vc] 33)) (.slice none 0 0) (.slice none 0 0) (.slice none 0 0) 33
  have hBB := thn3 (bel1 w (.cells #[.slice sa sl sc, .slice ta tl tc, .slice va vl vc] 33)) (bel1 _ (.cells #[.slice none 0 0, .slice none 0 0, .slice none 0 0] 33))
  rw [show (w.alloc (.cells #[.slice sa sl sc, .slice ta tl tc, .slice va vl vc] 33)).heap.size = w.heap.size + 1 by simp] at z0
  have H1 := (hidMk hf.s1)
  have H2 := (hidMk hf.t1)
  have H3 := (hidMk hf.v1)
  clear hf
  go_enter Try.func13, Try.ntmps13
  go_wp2_with (first
    | (go_at_call 25; refine (c1 _ hBB).mono ?_; rintro e w1 ⟨gs, rfl, hgs, hrs, hb1⟩; have e1 := keep3 hb1 e0; have z1 := keep3 hb1 z0)
    | (go_at_call 26; refine (c2 _ (thn3 hBB hb1)).mono ?_; rintro e w2 ⟨gt, rfl, hgt, hrt, hb2⟩; have e2 := keep3 hb2 e1; have z2 := keep3 hb2 z1)
    | (go_at_call 27; refine (c3 _ (thn3 (thn3 hBB hb1) hb2)).mono ?_; rintro e w3 ⟨gv, D, rfl, hgv, hD, hrv, hrr, hb3⟩; have z3 := keep3 hb3 z2; have hB3 := thn3 (thn3 hb1 hb2) hb3; obtain ⟨hcc, hff⟩ := bcell hB3))
  refine bodyPost_ret (v := .agg #[.slice (some ⟨gs, 0, none⟩) sl (sl + 1), .slice (some ⟨gt, 0, none⟩) tl (tl + 1), .slice (some ⟨gv, 0, none⟩) vl (vl + 1)]) (by simp [results, Try.results13, go_sem, z3.1, z3.2.1, z3.2.2]) rfl ?_
  have hz0 : ((w.alloc (.cells #[.slice sa sl sc, .slice ta tl tc, .slice va vl vc] 33)).alloc (.cells #[.slice none 0 0, .slice none 0 0, .slice none 0 0] 33)).heap.size = w.heap.size + 2 := by simp
  have hs1 := hb1.size
  have hs2 := hb2.size
  rw [hz0] at hgs hs1
  have hBW := thn3 hBB hB3
  refine ⟨gs, gt, gv, D, ?_, ⟨?_, ?_, hD, ?_, ?_⟩, ((hBW.setCell (Nat.le_succ _) _).setCell (Nat.le_succ _) _).setCell (Nat.le_succ _) _⟩
  · unfold lentA; rw [H1.out, H2.out, H3.out]
  · exact (((((hrs.keep hb2).keep hb3).setOther (by show w.heap.size + 1 ≠ gs; omega) _).setOther (by show w.heap.size + 1 ≠ gs; omega) _).setOther (by show w.heap.size + 1 ≠ gs; omega) _)
  · exact ((((hrt.keep hb3).setOther (by show w.heap.size + 1 ≠ gt; omega) _).setOther (by show w.heap.size + 1 ≠ gt; omega) _).setOther (by show w.heap.size + 1 ≠ gt; omega) _)
  · exact (((hrv.setOther (by show w.heap.size + 1 ≠ gv; omega) _).setOther (by show w.heap.size + 1 ≠ gv; omega) _).setOther (by show w.heap.size + 1 ≠ gv; omega) _)
  · intro p hp
    exact ((((hrr p hp).setOther (by show w.heap.size + 1 < gv + 1; omega) _).setOther (by show w.heap.size + 1 < gv + 1; omega) _).setOther (by show w.heap.size + 1 < gv + 1; omega) _)
theorem RowIs.strs {w : World} {g : Nat} {t : TypeId} {ss : List ByteArray} {r : List Value} (h : RowIs w g t (ss.map .string ++ r)) : StrsAt w (some ⟨g, 0, none⟩) ss := fun i s hi => by
  refine ⟨g, 0, rfl, ?_⟩
  rw [Nat.zero_add]
  refine h.cell ?_
  rw [List.getElem?_append_left (by rw [List.length_map]; exact (List.getElem?_eq_some_iff.1 hi).1), List.getElem?_map, hi]; rfl
theorem RowIs.ints {w : World} {g : Nat} {t : TypeId} {ns : List Int} {r : List Value} (h : RowIs w g t (ns.map (.int .i64) ++ r)) : IntsAt w (some ⟨g, 0, none⟩) ns := fun i s hi => by
  refine ⟨g, 0, rfl, ?_⟩
  rw [Nat.zero_add]
  refine h.cell ?_
  rw [List.getElem?_append_left (by rw [List.length_map]; exact (List.getElem?_eq_some_iff.1 hi).1), List.getElem?_map, hi]; rfl
theorem pin_cells {ps : List PinD} {i : Nat} {p : PinD} (h : ps[i]? = some p) (r : List Value) : (pinC ps ++ r)[i * 3]? = some (.int .i64 p.t) ∧ (pinC ps ++ r)[i * 3 + 1]? = some (.int .i64 p.w) ∧ (pinC ps ++ r)[i * 3 + 2]? = some (.int .i64 p.r) := by
  have hl := (List.getElem?_eq_some_iff.1 h).1
  have hc := pinC_len ps
  refine ⟨?_, ?_, ?_⟩
  · rw [List.getElem?_append_left (by omega), pinC_get, show i * 3 / 3 = i by omega, h]; simp
  · rw [List.getElem?_append_left (by omega), pinC_get, show (i * 3 + 1) / 3 = i by omega, h, show (i * 3 + 1) % 3 = 1 by omega]; simp
  · rw [List.getElem?_append_left (by omega), pinC_get, show (i * 3 + 2) / 3 = i by omega, h, show (i * 3 + 2) % 3 = 2 by omega]; simp
theorem RowIs.pins {w : World} {g : Nat} {t : TypeId} {ps : List PinD} {r : List Value} (h : RowIs w g t (pinC ps ++ r)) : PinsAt w (some ⟨g, 0, none⟩) ps := fun i p hi => by
  obtain ⟨h1, h2, h3⟩ := pin_cells hi r
  refine ⟨g, 0, rfl, ?_, ?_, ?_⟩ <;> rw [Nat.zero_add]
  · exact h.cell h1
  · exact h.cell h2
  · exact h.cell h3
theorem LRel.sl {w : World} {B : Nat} {v : Value} {rels : List (List PinD)} (h : LRel w B v rels) (hl : rels.length ≤ 2000000) (hps : ∀ ps ∈ rels, ps.length ≤ 2000000) : ∃ a l c, v = .slice a l c ∧ RelSl PinSl w a l c rels := by
  obtain ⟨g, g', cs, h1, h2, h3, h4, h5, h6, h7⟩ := h
  refine ⟨_, _, _, h1, rfl, hl, by omega, by omega, fun i ps hi => ?_⟩
  have hil := (List.getElem?_eq_some_iff.1 hi).1
  obtain ⟨u, hu⟩ : ∃ u, cs[i]? = some u := ⟨cs[i]'(by omega), List.getElem?_eq_getElem (by omega)⟩
  obtain ⟨gp, k1, k2, k3⟩ := h7 i u ps hu hi
  have hc : w.cell? ⟨g, i, none⟩ = some u := h5.cell (by rw [List.getElem?_append_left (by omega)]; exact hu)
  rw [k1] at hc
  exact ⟨g, 0, _, _, _, rfl, by rw [Nat.zero_add]; exact hc, rfl, hps ps (List.mem_of_getElem? hi), by omega, by have := hps ps (List.mem_of_getElem? hi); omega, k3.pins⟩
theorem svC_get : ∀ (D : List (SvcD × Value)) (i : Nat) (p : SvcD × Value) (r : List Value), D[i]? = some p → (svC D ++ r)[i * 4]? = some (.int .i64 p.1.size) ∧ (svC D ++ r)[i * 4 + 1]? = some (.int .i64 p.1.now) ∧ (svC D ++ r)[i * 4 + 2]? = some (.int .i64 p.1.want) ∧ (svC D ++ r)[i * 4 + 3]? = some p.2
  | [], i, p, r, h => by simp at h
  | q :: D, 0, p, r, h => by
    simp at h; subst h
    exact ⟨rfl, rfl, rfl, rfl⟩
  | q :: D, i + 1, p, r, h => by
    rw [List.getElem?_cons_succ] at h
    have := svC_get D i p r h
    have e : svC (q :: D) ++ r = .int .i64 q.1.size :: .int .i64 q.1.now :: .int .i64 q.1.want :: q.2 :: (svC D ++ r) := by simp [svC]
    rw [e, show (i + 1) * 4 = i * 4 + 1 + 1 + 1 + 1 by omega, show i * 4 + 1 + 1 + 1 + 1 + 1 = i * 4 + 1 + 1 + 1 + 1 + 1 by omega]
    exact this
/-- The lists of a fleet are not too long. -/
def small (f : FleetD) : Prop := f.ss.length ≤ 2000000 ∧ (∀ s ∈ f.ss, s.size ≤ maxLen) ∧ f.ts.length ≤ 2000000 ∧ f.vs.length ≤ 2000000 ∧ ∀ v ∈ f.vs, v.rels.length ≤ 2000000 ∧ ∀ ps ∈ v.rels, ps.length ≤ 2000000
theorem LentF.at {w : World} {gs gt gv : Nat} {D : List (SvcD × Value)} {f : FleetD} (h : LentF w gs gt gv D f) (hs : small f) : FleetAt w (some ⟨gs, 0, none⟩) f.ss.length (f.ss.length + 1) (some ⟨gt, 0, none⟩) f.ts.length (f.ts.length + 1) (some ⟨gv, 0, none⟩) f.vs.length (f.vs.length + 1) f := by
  obtain ⟨s1, s2, s3, s4, s5⟩ := hs
  refine ⟨rfl, s1, s2, h.s.strs, rfl, s3, h.t.ints, rfl, s4, fun i v hi => ?_⟩
  have hi' := hi
  rw [← h.d, List.getElem?_map] at hi'
  obtain ⟨p, hp, rfl⟩ := Option.map_eq_some_iff.1 hi'
  obtain ⟨k0, k1, k2, k3⟩ := svC_get D i p [.int .i64 (-7), .int .i64 (-7), .int .i64 (-7), .slice none 0 0] hp
  have hm := List.mem_of_getElem? hi
  obtain ⟨a, l, c, hv, hr⟩ := (h.r p (List.mem_of_getElem? hp)).sl (s5 _ hm).1 (s5 _ hm).2
  have c3 := h.v.cell k3
  rw [hv] at c3
  refine ⟨gv, 0, a, l, c, rfl, ?_, ?_, ?_, ?_, hr⟩ <;> rw [Nat.zero_add]
  · exact h.v.cell k0
  · exact h.v.cell k1
  · exact h.v.cell k2
  · exact c3
end Go.Proofs.Ytkkekopomiehlaa
