import Derived.Test.YtkkekopomiehlaaGreatMEq4
import Derived.Test.YtkkekopomiehlaaGreatMSf8
import Derived.Deep.RegionHeld3
import Derived.Test.YtkkekopomiehlaaGreatMLn1
set_option linter.unusedVariables false
set_option linter.unusedSimpArgs false
namespace Go.Proofs.YtkkekopomiehlaaGreat
section
set_option maxRecDepth 8000
open Go.RowKit
open Go.Lib (below_setCells)

theorem Tryz.infoTyp : (Tryz.prog.info? 135).map (fun i => (i.zero, i.size, i.bytes)) = some (some (.agg #[.int .i64 0, .string ⟨#[]⟩, .bool false, .slice none 0 0, .slice none 0 0]), 5, 80) := by kernel_rfl
theorem heap_new2 (w : World) (o1 o2 : Obj) : ((w.alloc o1).alloc o2).heap[w.heap.size + 1]? = some o2 := by
  have := heap_box (w.alloc o1) o2
  rw [size_new] at this; exact this
theorem Parse_good {s : ByteArray} {x : Ty} (hs : s.size ≤ 60) (hx : pAll false s = some x) (w : World) :
    Calls Tryz.prog 67 #[.string s] w fun e w' => ∃ ai li ci af lf cf, e = .returned (.tuple #[.agg #[.int .i64 x.kind, .string x.letters, .bool x.op, .slice ai li ci, .slice af lf cf], .bool true]) ∧ RepB (fun b => w.heap.size ≤ b) s.size w' ai li ci af lf cf x ∧ Below w.heap.size w w' := by
  refine (Parse_any hs w).mono ?_
  rintro e w' ⟨h, hb⟩
  rw [hx] at h
  obtain ⟨ai, li, ci, af, lf, cf, h1, h2⟩ := h
  exact ⟨ai, li, ci, af, lf, cf, h1, h2, hb⟩
theorem unr_good {s t : ByteArray} {x r : Ty} (hs : s.size ≤ 60) (hx : pAll false s = some x) (hr : pAll false t = some r) (w : World) (ai af : Option Addr) (li ci lf cf : Nat) (bi bf : Option Addr) (mi di mf df : Nat) (h1 : Rep s.size w ai li ci af lf cf x) (h2 : Rep t.size w bi mi di bf mf df r) :
    Calls Tryz.prog 70 #[.agg #[.int .i64 x.kind, .string x.letters, .bool x.op, .slice ai li ci, .slice af lf cf], .agg #[.int .i64 r.kind, .string r.letters, .bool r.op, .slice bi mi di, .slice bf mf df]] w fun e w' => ∃ y : ByteArray, e = .returned (.tuple #[.string y, .bool (!fitB s t)]) ∧ Below w.heap.size w w' := by
  have hK := type_K _ _ _ _ (pAll_sm (show pAll true s = some x by rw [pAll_st]; exact hx))
  have := unr_all (s.size + t.size) s.size t.size x r w ai af li ci lf cf bi bf mi di mf df (Nat.le_refl _) hK (pAll_wt hx hs _) h1 h2
  refine this.mono ?_
  rintro e w' ⟨rfl, hb⟩
  have hf : fitB s t = (unV (s.size + t.size) s.size x r).isNone := by unfold fitB; rw [hx, hr]
  rw [hf, uR_eq]
  refine ⟨outU ((unV (s.size + t.size) s.size x r).map (txtV s.size x)), ?_, hb⟩
  cases unV (s.size + t.size) s.size x r <;> rfl
set_option maxHeartbeats 4000000 in
theorem readableOf_any (ss : List ByteArray) (hok : schsB ss = true) (w : World) (a : Option Addr) (cap : Nat) (hp : StrsAt w a ss) :
    Calls Tryz.prog 46 #[.slice a ss.length cap] w fun e W => e = .returned (.agg (tabC (tabOf ss)).toArray) ∧ Below w.heap.size w W := by
  unfold schsB at hok
  rw [Bool.and_eq_true, List.all_eq_true] at hok
  have hl8 : ss.length ≤ 8 := of_decide_eq_true hok.1
  have hgood : ∀ s ∈ ss, s.size ≤ 60 ∧ ∃ x, pAll false s = some x := fun s hs => by
    have := hok.2 s hs
    unfold schB at this
    rw [Bool.and_eq_true] at this
    exact ⟨of_decide_eq_true this.1, Option.isSome_iff_exists.1 this.2⟩
  have HG := (hidMk hgood)
  have HP := (hidMk hp)
  clear hok hgood hp
  obtain ⟨i0, hi0, hz0, hzz1, hzz2⟩ := info_parts Tryz.infoTyp
  go_enter Tryz.func46, Tryz.ntmps46
  go_wp2_with fail
  generalize hO : (Obj.cells #[.bool false, .bool false, .bool false, .bool false, .bool false, .bool false, .bool false, .bool false, .bool false, .bool false, .bool false, .bool false, .bool false, .bool false, .bool false, .bool false, .bool false, .bool false, .bool false, .bool false, .bool false, .bool false, .bool false, .bool false, .bool false, .bool false, .bool false, .bool false, .bool false, .bool false, .bool false, .bool false, .bool false, .bool false, .bool false, .bool false, .bool false, .bool false, .bool false, .bool false, .bool false, .bool false, .bool false, .bool false, .bool false, .bool false, .bool false, .bool false, .bool false, .bool false, .bool false, .bool false, .bool false, .bool false, .bool false, .bool false, .bool false, .bool false, .bool false, .bool false, .bool false, .bool false, .bool false, .bool false] 101) = O
  have HO := (hidMk hO)
  clear hO
  go_loopw [3, 18] (fun vt vi wr => ∃ (i g cap : Nat) (es : List (ByteArray × Ty)) (xs : List Value), i ≤ ss.length ∧ vi = .int .i64 i ∧ vt = .slice (some ⟨g, 0, none⟩) es.length cap ∧ es.length = i ∧
      wr.ownsRow (w.heap.size + 1) 135 5 (.slice (some ⟨g, 0, none⟩) es.length cap) es.length xs ∧ RowT (fun b => w.heap.size + 1 ≤ b ∧ b ≠ g) wr xs es ∧ Hid (es.map Prod.fst = ss.take i) ∧ Hid (∀ e ∈ es, pAll false e.1 = some e.2) ∧
      Below (w.heap.size + 1) (w.alloc O) wr) (fun _ i _ => ss.length - (intOf i).toNat)
  case atStart =>
    refine ⟨0, w.heap.size + 1, 0, [], [], Nat.zero_le _, rfl, rfl, rfl, ?_, RowT.nil, (by show _ = _; rfl), (fun e he => by simp at he), (Below.refl (w.heap.size + 1) _).alloc (by simp) _⟩
    have h := World.ownsRow_made (base := w.heap.size + 1) (e := 135) (size := 5) (w.alloc O) #[] 0 (by simp) (by unfold maxLen; omega) rfl
    rw [size_new] at h; exact h
  case round =>
    obtain ⟨i, g, cp, es, xs, hi, rfl, rfl, hel, hown, hrow, hmap, hpa, hb⟩ := hrel
    rename World => w5
    have z5 := hb.size
    rw [size_new] at z5
    have hbw : Below w.heap.size w w5 := (belS w O).trans (hb.mono (by simp))
    obtain ⟨hg1, hg2⟩ := hown.lt g rfl
    have hx0 : (0 : Int) ≤ (i : Int) := Int.natCast_nonneg _
    by_cases hlt : i < ss.length
    · obtain ⟨s, hsi⟩ : ∃ s, ss[i]? = some s := ⟨ss[i], List.getElem?_eq_getElem hlt⟩
      obtain ⟨b, o, rfl, c0⟩ := HP.out i s hsi
      have c0 := cell_keep hbw c0
      have hbl := lt_of_cell c0
      obtain ⟨hs60, x, hx⟩ := HG.out s (List.mem_of_getElem? hsi)
      have hcall := fun W => Parse_good hs60 hx W
      have hx1 : (i : Int) < (ss.length : Int) := by omega
      have HEL := (hidMk hel)
      have hel8 : es.length ≤ 8 := by omega
      have HSI := (hidMk hsi)
      have HX := (hidMk hx)
      have HROW := (hidMk hrow)
      have HOWN := (hidMk hown)
      clear hsi hx hrow hown hel
      go_wp2_with (first
        | (go_at_call 67; refine (hcall _).mono ?_; rintro e w1 ⟨ai, li, ci, af, lf, cf, rfl, hr1, hb1⟩; have hz1 : w5.heap.size ≤ w1.heap.size := hb1.size)
        | (at_builtin; refine wpList_append_lies _ rfl _ _ _ rfl (w.heap.size + 1) 135 i0 _ 5 80 Tryz.underlying132 hi0 hz0 hzz1 hzz2 rfl (by omega) _ es.length xs rfl (((own_keep HOWN.out hb1).alloc _).alloc _) ⟨w1.heap.size + 1, 0, none⟩ 1 1 [.int .i64 x.kind, .string x.letters, .bool x.op, .slice ai li ci, .slice af lf cf] rfl rfl (World.news_of_block (heap_new2 w1 _ _)) (by simp [Value.oneCell']) (by omega) (by unfold maxLen; omega) (by omega) (by simp; omega) (w1.heap.size + 2) (by simp) ?_; intro g' cap' w3 hown' hgrow hat hlt3))
      go_roundw
      case rel =>
        have hl : (es ++ [(s, x)]).length = es.length + 1 := by simp
        rw [← hl] at hown'
        have hr3 := rowT_next (f := (s, x)) HROW.out hr1 hb1 (bx w1 _ _) hgrow (by rcases hat with h | h; exact .inl h; right; simpa using h) (by omega) hg2
        refine ⟨i + 1, g', cap', es ++ [(s, x)], _, by omega, by go_num, by rw [hl], by rw [hl, HEL.out], hown', hr3, ?_, ?_, ?_⟩
        · show _ = _
          rw [List.map_append, hmap.out, List.take_add_one, HSI.out]; rfl
        · intro e he
          rcases List.mem_append.1 he with h | h
          · exact hpa.out e h
          · simp at h; subst h; exact HX.out
        · exact Below.grown (((hb.trans (hb1.mono (by omega))).alloc (by omega) _).alloc (by simp; omega) _) hgrow (by simp; omega) (fun k hk => by cases hk; omega)
      case measure => simp [intOf]; omega
    · have hie : i = ss.length := by omega
      have hty := tysAt_of hown hrow
      have hms : es.map Prod.fst = ss := by rw [hmap.out, hie, List.take_length]
      have HTY := (hidMk hty)
      have HMS := (hidMk hms)
      clear hty hms hmap hown hrow
      have hesl : es.length ≤ 8 := by omega
      have HEL := (hidMk hel)
      have HIE := (hidMk hie)
      clear hel hie
      have hrowR : RowIs w5 w.heap.size 101 ((List.replicate 64 false).map .bool) := by
        refine RowIs.keep (w := w.alloc O) ?_ (hb.mono (by simp))
        rw [← HO.out]; exact heap_box w _
      have hrow0 : RowIs (w5.alloc O) w5.heap.size 101 ((tabTo ss 0 0).map .bool) := by
        rw [tabTo_zero, ← HO.out]; exact heap_box w5 _
      have HRR := (hidMk hrowR)
      have HR0 := (hidMk hrow0)
      clear hrowR hrow0
      go_wp2_with fail
      generalize hO2 : (Obj.cells #[.bool false, .bool false, .bool false, .bool false, .bool false, .bool false, .bool false, .bool false, .bool false, .bool false, .bool false, .bool false, .bool false, .bool false, .bool false, .bool false, .bool false, .bool false, .bool false, .bool false, .bool false, .bool false, .bool false, .bool false, .bool false, .bool false, .bool false, .bool false, .bool false, .bool false, .bool false, .bool false, .bool false, .bool false, .bool false, .bool false, .bool false, .bool false, .bool false, .bool false, .bool false, .bool false, .bool false, .bool false, .bool false, .bool false, .bool false, .bool false, .bool false, .bool false, .bool false, .bool false, .bool false, .bool false, .bool false, .bool false, .bool false, .bool false, .bool false, .bool false, .bool false, .bool false, .bool false, .bool false] 101) = O2
      have hOO : O2 = O := by rw [← hO2]; exact HO.out
      subst hOO
      clear hO2
      go_loopw [34] (fun vi wr => ∃ i : Nat, i ≤ es.length ∧ vi = .int .i64 i ∧ RowIs wr w5.heap.size 101 ((tabTo ss i 0).map .bool) ∧ Below w5.heap.size w5 wr) (fun i _ => es.length - (intOf i).toNat)
      case atStart => exact ⟨0, Nat.zero_le _, rfl, HR0.out, belS _ _⟩
      case round =>
        obtain ⟨i, hi, rfl, hrow, hbi⟩ := hrel
        rename World => w6
        have hz6 := hbi.size
        have hx0 : (0 : Int) ≤ (i : Int) := Int.natCast_nonneg _
        by_cases hlt : i < es.length
        · obtain ⟨e1, he1⟩ : ∃ e, es[i]? = some e := ⟨es[i], List.getElem?_eq_getElem hlt⟩
          obtain ⟨p1, p2, p3, q1, q2, q3, rep1, a0, a1, a2, a3, a4⟩ := HTY.out i e1 he1
          have a0 := cell_keep hbi a0
          have a1 := cell_keep hbi a1
          have a2 := cell_keep hbi a2
          have a3 := cell_keep hbi a3
          have a4 := cell_keep hbi a4
          have hx1 : (i : Int) < (es.length : Int) := by omega
          have HE1 := (hidMk he1)
          have hal := lt_of_cell a0
          have HROW := (hidMk hrow)
          have hrl := hrow.lt
          clear he1 hrow
          have hbx0 := heap_box w6 (.cells #[.int .i64 e1.2.kind, .string e1.2.letters, .bool e1.2.op, .slice p1 p2 p3, .slice q1 q2 q3] 135)
          have hwb : RowIs (w6.alloc (.cells #[.int .i64 e1.2.kind, .string e1.2.letters, .bool e1.2.op, .slice p1 p2 p3, .slice q1 q2 q3] 135)) w6.heap.size 135 [.int .i64 e1.2.kind, .string e1.2.letters, .bool e1.2.op, .slice p1 p2 p3, .slice q1 q2 q3] := hbx0
          have HWB := (hidMk hwb)
          have HREP := (hidMk rep1)
          clear hbx0 hwb rep1
          go_wp2_with fail
          clear a0 a1 a2 a3 a4
          go_loopw [41] (fun vj wr => ∃ j : Nat, j ≤ es.length ∧ vj = .int .i64 j ∧ RowIs wr w5.heap.size 101 ((tabTo ss i j).map .bool) ∧ RowIs wr w6.heap.size 135 [.int .i64 e1.2.kind, .string e1.2.letters, .bool e1.2.op, .slice p1 p2 p3, .slice q1 q2 q3] ∧ Below w5.heap.size w5 wr) (fun j _ => es.length - (intOf j).toNat)
          case atStart => exact ⟨0, Nat.zero_le _, rfl, HROW.out.keep (belS _ _), HWB.out, hbi.alloc hz6 _⟩
          case round =>
            obtain ⟨j, hj, rfl, hrow, hwb, hbj⟩ := hrel
            have hrep := (hidMk (HREP.out.keep hbj))
            have hz7 := hbj.size
            have hy0 : (0 : Int) ≤ (j : Int) := Int.natCast_nonneg _
            by_cases hjl : j < es.length
            · obtain ⟨e2, he2⟩ : ∃ e, es[j]? = some e := ⟨es[j], List.getElem?_eq_getElem hjl⟩
              obtain ⟨m1, m2, m3, n1, n2, n3, rep2, a0, a1, a2, a3, a4⟩ := HTY.out.keep hbj j e2 he2
              have hy1 : (j : Int) < (es.length : Int) := by omega
              have hal := lt_of_cell a0
              have hwl := hwb.lt
              have hs1 : ss[i]? = some e1.1 := by rw [← HMS.out, List.getElem?_map, HE1.out]; rfl
              have hs2 : ss[j]? = some e2.1 := by rw [← HMS.out, List.getElem?_map, he2]; rfl
              have hcall := fun W (h : Below wr.heap.size wr W) => unr_good (HG.out e1.1 (List.mem_of_getElem? hs1)).1 (hpa.out e1 (List.mem_of_getElem? HE1.out)) (hpa.out e2 (List.mem_of_getElem? he2)) W p1 q1 p2 p3 q2 q3 m1 n1 m2 m3 n2 n3 (hrep.out.keep h) (rep2.keep h)
              have hi8 : i < 8 := by omega
              have hj8 : j < 8 := by omega
              have hi8' : (i : Int) < 8 := by omega
              have hj8' : (j : Int) < 8 := by omega
              have hst := tabTo_step ss hi8 hj8
              have htI : tabI ss i j = fitB e1.1 e2.1 := by unfold tabI; rw [hs1, hs2]
              rw [htI] at hst
              have HST := (hidMk hst)
              have hcl : wr.cell? ⟨w5.heap.size, i * 8 + j, none⟩ = some (.bool ((tabTo ss i j)[i * 8 + j]'(by rw [tabTo_len]; omega))) := hrow.cell (by rw [List.getElem?_map, List.getElem?_eq_getElem (by rw [tabTo_len]; omega)]; rfl)
              generalize (tabTo ss i j)[i * 8 + j]'(by rw [tabTo_len]; omega) = u0 at hcl
              have hfz := hrow.frozen (i * 8 + j)
              have b0 := hwb.cell (j := 0) rfl
              have b1 := hwb.cell (j := 1) rfl
              have b2 := hwb.cell (j := 2) rfl
              have b3 := hwb.cell (j := 3) rfl
              have b4 := hwb.cell (j := 4) rfl
              have HROW := (hidMk hrow)
              have HWB := (hidMk hwb)
              have HREP2 := (hidMk rep2)
              have hne5 : w5.heap.size ≠ w6.heap.size := fun h => by have := hrl; omega
              have hrl7 := hrow.lt
              clear hrow hwb he2 hs1 hs2 htI hst rep2
              generalize fitB e1.1 e2.1 = F at hcall HST
              go_wp2_with (go_at_call 70; refine (hcall _ (belS _ _)).mono ?_; rintro e w9 ⟨y9, rfl, hb9⟩; have k1 := cell_keep hb9 (cell_new (.cells #[.int .i64 e2.2.kind, .string e2.2.letters, .bool e2.2.op, .slice m1 m2 m3, .slice n1 n2 n3] 135) hcl); have k2 : w9.frozen? ⟨w5.heap.size, i * 8 + j, none⟩ = false := ((HROW.out.keep (belS wr (.cells #[.int .i64 e2.2.kind, .string e2.2.letters, .bool e2.2.op, .slice m1 m2 m3, .slice n1 n2 n3] 135))).keep hb9).frozen _)
              go_roundw
              case rel =>
                have hb8 := thn3 (belS wr (.cells #[.int .i64 e2.2.kind, .string e2.2.letters, .bool e2.2.op, .slice m1 m2 m3, .slice n1 n2 n3] 135)) hb9
                have r9 := (HROW.out.keep hb8).set (i * 8 + j) (.bool F)
                rw [← List.map_set, ← HST.out] at r9
                exact ⟨j + 1, by omega, by go_num, r9, (HWB.out.keep hb8).setOther (show w5.heap.size ≠ w6.heap.size from hne5) _, (hbj.trans (hb8.mono hz7)).setCell (Nat.le_refl _) _⟩
              case measure => simp [intOf]; omega
            · have hje : j = ss.length := by have := congrArg List.length HMS.out; rw [List.length_map] at this; omega
              have hesl2 : es.length = ss.length := by have := congrArg List.length HMS.out; rw [List.length_map] at this; exact this
              rw [hje, tabTo_row ss hl8] at hrow
              have HR9 := (hidMk hrow)
              have HJE := (hidMk hje)
              clear hje hesl2 hrow hwb hrep
              go_wp2_with fail
              go_roundw
              case rel => exact ⟨i + 1, by omega, by go_num, HR9.out, hbj⟩
              case measure => simp [intOf]; omega
        · have hie2 : i = ss.length := by have := congrArg List.length HMS.out; rw [List.length_map] at this; omega
          rw [hie2, tabTo_all ss hl8] at hrow
          obtain ⟨C, hCe⟩ : ∃ C, C = tabC (tabOf ss) := ⟨_, rfl⟩
          have hrow : RowIs w6 w5.heap.size 101 C := by rw [hCe]; exact hrow
          have hCl : C.length = 64 := by rw [hCe]; exact (tabOf_ok ss).len
          have hr6 := range_row hrow
          have ht6 : w6.there w.heap.size 0 C.toArray.size := by
            rw [show C.toArray.size = 64 by simpa using hCl]
            have := there_row (HRR.out.keep hbi)
            simpa using this
          have hi6 : (Tryz.prog.info? 101).map (·.size) = some C.length := by rw [hCe]; exact (tabOf_ok ss).info
          have hi7 : (Tryz.prog.info? 101).map (·.size) = some C.toArray.size := by rw [List.size_toArray]; exact hi6
          have h16 : C.toArray.all (·.oneCell') = true := by rw [hCe]; exact bits_one _
          have hbF := hbw.trans (hbi.mono hbw.size)
          have HCe := (hidMk hCe)
          clear hCe hrow hCl hie2
          go_wp2_with (first
            | (refine wpList_load_mid (w := w6) rfl 101 _ rfl w5.heap.size 0 rfl C _ hr6 Tryz.underlying101 rfl hi6 ?_)
            | (refine wpList_store_mid (w := w6) rfl 101 _ _ rfl w.heap.size 0 C.toArray rfl rfl ht6 hi7 h16 ?_))
          have hrs := World.rangeAt_setCells_same w6 w.heap.size 0 C (by simpa using ht6)
          refine bodyPost_ret (v := .agg C.toArray) ?_ rfl ⟨by rw [HCe.out], below_setCells w.heap.size (Nat.le_refl _) _ _ hbF⟩
          have hlv := run_loadVar_mid (P := Tryz.prog) _ w.heap.size 0 101 C _ hrs Tryz.underlying101 rfl hi6
          simp [results, Tryz.results46, asAddr, Act.put, hlv]
end
section
set_option maxRecDepth 16000
open Go.RowKit
open Go.Lib (below_setCells)

def chTo (P : Nat → Bool) (n k : Nat) : List Bool := (List.range n).map fun p => decide (p < k) && P p
theorem chTo_len (P : Nat → Bool) (n k : Nat) : (chTo P n k).length = n := by simp [chTo]
theorem chTo_get (P : Nat → Bool) (n k : Nat) {p : Nat} (h : p < n) : (chTo P n k)[p]? = some (decide (p < k) && P p) := by rw [chTo, List.getElem?_map, List.getElem?_range h]; rfl
theorem chTo_zero (P : Nat → Bool) (n : Nat) : chTo P n 0 = List.replicate n false := by
  apply List.ext_getElem?
  intro k
  by_cases hk : k < n
  · rw [chTo_get P n 0 hk, List.getElem?_replicate, if_pos hk]; simp
  · rw [List.getElem?_eq_none (by rw [chTo_len]; omega), List.getElem?_eq_none (by simp; omega)]
theorem chTo_step (P : Nat → Bool) {n k : Nat} (hk : k < n) : chTo P n (k + 1) = (chTo P n k).set k (P k) := by
  apply List.ext_getElem?
  intro q
  by_cases hq : q < n
  · rw [chTo_get P n (k + 1) hq, List.getElem?_set]
    by_cases hkq : k = q
    · subst hkq; rw [if_pos rfl, if_pos (by rw [chTo_len]; exact hk)]; simp
    · rw [if_neg hkq, chTo_get P n k hq]
      by_cases h : q < k
      · simp [h, show q < k + 1 by omega]
      · simp [h, show ¬ q < k + 1 by omega]
  · rw [List.getElem?_eq_none (by rw [chTo_len]; omega), List.getElem?_eq_none (by rw [List.length_set, chTo_len]; omega)]
theorem chTo_skip (P : Nat → Bool) {n k k' : Nat} (hk : k ≤ k') (h : ∀ p, k ≤ p → p < k' → P p = false) : chTo P n k = chTo P n k' := by
  unfold chTo
  refine List.map_congr_left fun p hp => ?_
  by_cases h1 : p < k
  · simp [h1, show p < k' by omega]
  · by_cases h2 : p < k'
    · rw [h p (by omega) h2]; simp
    · simp [h1, h2]
theorem chTo_all (P : Nat → Bool) (n k : Nat) (h : ∀ p, k ≤ p → p < n → P p = false) : chTo P n k = (List.range n).map P := by
  unfold chTo
  refine List.map_congr_left fun p hp => ?_
  have := List.mem_range.1 hp
  by_cases h1 : p < k
  · simp [h1]
  · rw [h p (by omega) this]; simp
/-- The chart's bits while it is filled in: the releases ahead of place 'k', the pairs ahead of number 'q'. -/
def chB (f : FleetD) (A F : Nat → Bool) (k q : Nat) : List Bool := chTo (thB f) 9 k ++ (chTo (fsB f) 9 k ++ (chTo (wnB f) 9 k ++ (chTo A 81 q ++ chTo F 81 q)))
theorem chB_len (f : FleetD) (A F : Nat → Bool) (k q : Nat) : (chB f A F k q).length = 189 := by simp [chB, chTo_len]
theorem chB_zero (f : FleetD) (A F : Nat → Bool) : chB f A F 0 0 = List.replicate 189 false := by
  unfold chB; rw [chTo_zero, chTo_zero, chTo_zero, chTo_zero, chTo_zero]; rfl
theorem set_at {a b : List Bool} {n i : Nat} (h : a.length = n) (x : Bool) : (a ++ b).set (n + i) x = a ++ b.set i x := by
  rw [List.set_append_right _ _ (by omega), h, show n + i - n = i by omega]
theorem set3 {a b c d : List Bool} {k : Nat} (ha : a.length = 9) (hb : b.length = 9) (hc : c.length = 9) (hk : k < 9) (x y z : Bool) : (((a ++ (b ++ (c ++ d))).set k x).set (9 + k) y).set (18 + k) z = a.set k x ++ (b.set k y ++ (c.set k z ++ d)) := by
  have e1 : (a ++ (b ++ (c ++ d))).set k x = a.set k x ++ (b ++ (c ++ d)) := List.set_append_left _ _ (by omega)
  have e2 : (a.set k x ++ (b ++ (c ++ d))).set (9 + k) y = a.set k x ++ (b.set k y ++ (c ++ d)) := by rw [set_at (by rw [List.length_set]; exact ha), List.set_append_left _ _ (by omega)]
  have e3 : (a.set k x ++ (b.set k y ++ (c ++ d))).set (18 + k) z = a.set k x ++ (b.set k y ++ (c.set k z ++ d)) := by
    rw [show 18 + k = 9 + (9 + k) by omega, set_at (by rw [List.length_set]; exact ha), set_at (by rw [List.length_set]; exact hb), List.set_append_left _ _ (by omega)]
  rw [e1, e2, e3]
theorem set2 {a b c d e : List Bool} {q : Nat} (ha : a.length = 9) (hb : b.length = 9) (hc : c.length = 9) (hd : d.length = 81) (hq : q < 81) (x y : Bool) : ((a ++ (b ++ (c ++ (d ++ e)))).set (27 + q) x).set (108 + q) y = a ++ (b ++ (c ++ (d.set q x ++ e.set q y))) := by
  have e1 : (a ++ (b ++ (c ++ (d ++ e)))).set (27 + q) x = a ++ (b ++ (c ++ (d.set q x ++ e))) := by
    rw [show 27 + q = 9 + (9 + (9 + q)) by omega, set_at ha, set_at hb, set_at hc, List.set_append_left _ _ (by omega)]
  have e2 : (a ++ (b ++ (c ++ (d.set q x ++ e)))).set (108 + q) y = a ++ (b ++ (c ++ (d.set q x ++ e.set q y))) := by
    rw [show 108 + q = 9 + (9 + (9 + (81 + q))) by omega, set_at ha, set_at hb, set_at hc, set_at (by rw [List.length_set]; exact hd)]
  rw [e1, e2]
theorem chB_step (f : FleetD) (A F : Nat → Bool) {k : Nat} (hk : k < 9) : chB f A F (k + 1) 0 = (((chB f A F k 0).set k (thB f k)).set (9 + k) (fsB f k)).set (18 + k) (wnB f k) := by
  unfold chB
  rw [set3 (chTo_len _ _ _) (chTo_len _ _ _) (chTo_len _ _ _) hk, chTo_step _ hk, chTo_step _ hk, chTo_step _ hk]
theorem chB_pair (f : FleetD) (A F : Nat → Bool) {k q : Nat} (hq : q < 81) : chB f A F k (q + 1) = ((chB f A F k q).set (27 + q) (A q)).set (108 + q) (F q) := by
  unfold chB
  rw [set2 (chTo_len _ _ _) (chTo_len _ _ _) (chTo_len _ _ _) (chTo_len _ _ _) hq, chTo_step _ hq, chTo_step _ hq]
theorem chB_row (f : FleetD) (A F : Nat → Bool) {k k' : Nat} (hk : k ≤ k') (h : ∀ p, k ≤ p → p < k' → thB f p = false) : chB f A F k 0 = chB f A F k' 0 := by
  have h1 : ∀ p, k ≤ p → p < k' → fsB f p = false := fun p a b => by
    have := h p a b
    unfold thB at this; unfold fsB
    cases hv : f.vs[p / 3]? with
    | none => rfl
    | some v => rw [hv] at this; simp only at this ⊢; rw [this]; rfl
  have h2 : ∀ p, k ≤ p → p < k' → wnB f p = false := fun p a b => by
    have := h p a b
    unfold thB at this; unfold wnB
    cases hv : f.vs[p / 3]? with
    | none => rfl
    | some v => rw [hv] at this; simp only at this ⊢; rw [this]; rfl
  unfold chB
  rw [chTo_skip _ hk h, chTo_skip _ hk h1, chTo_skip _ hk h2]
/-- The pins of the releases ahead of place 'k'. -/
def PvAt (w : World) (f : FleetD) (k : Nat) (pv : List Value) : Prop := pv.length = 9 ∧ ∀ p v, pv[p]? = some v → ∃ pa pl pc, v = .slice pa pl pc ∧ PinSl w pa pl pc (if p < k then plOf f p else [])
theorem PvAt.zero (w : World) (f : FleetD) : PvAt w f 0 (List.replicate 9 (.slice none 0 0)) := by
  refine ⟨by simp, fun p v h => ?_⟩
  rw [List.getElem?_replicate] at h
  split at h
  · cases h; exact ⟨none, 0, 0, rfl, by rw [if_neg (by omega)]; exact ⟨rfl, Nat.zero_le _, Nat.le_refl _, Nat.zero_le _, fun i p hi => by simp at hi⟩⟩
  · cases h
theorem PvAt.step {w : World} {f : FleetD} {k : Nat} {pv : List Value} (h : PvAt w f k pv) {pa : Option Addr} {pl pc : Nat} (hp : PinSl w pa pl pc (plOf f k)) : PvAt w f (k + 1) (pv.set k (.slice pa pl pc)) := by
  refine ⟨by simp [h.1], fun p v hv => ?_⟩
  rw [List.getElem?_set] at hv
  by_cases hk : k = p
  · subst hk
    rw [if_pos rfl] at hv
    split at hv
    · cases hv; exact ⟨pa, pl, pc, rfl, by rw [if_pos (by omega)]; exact hp⟩
    · cases hv
  · rw [if_neg hk] at hv
    obtain ⟨a, b, c, h1, h2⟩ := h.2 p v hv
    refine ⟨a, b, c, h1, ?_⟩
    by_cases hl : p < k
    · rw [if_pos hl] at h2; rw [if_pos (by omega)]; exact h2
    · rw [if_neg hl] at h2; rw [if_neg (by omega)]; exact h2
theorem PvAt.skip {w : World} {f : FleetD} {k k' : Nat} {pv : List Value} (h : PvAt w f k pv) (hk : k ≤ k') (hn : ∀ p, k ≤ p → p < k' → plOf f p = []) : PvAt w f k' pv := by
  refine ⟨h.1, fun p v hv => ?_⟩
  obtain ⟨a, b, c, h1, h2⟩ := h.2 p v hv
  refine ⟨a, b, c, h1, ?_⟩
  by_cases hl : p < k
  · rw [if_pos hl] at h2; rw [if_pos (by omega)]; exact h2
  · rw [if_neg hl] at h2
    by_cases hl2 : p < k'
    · rw [if_pos hl2, hn p (by omega) hl2]; exact h2
    · rw [if_neg hl2]; exact h2
theorem pl_none {f : FleetD} {s p : Nat} {v : SvcD} (hv : f.vs[s]? = some v) (h1 : s * 3 + v.rels.length ≤ p) (h2 : p < (s + 1) * 3) : thB f p = false ∧ plOf f p = [] := by
  have e : p / 3 = s := by omega
  unfold thB plOf
  rw [e, hv]
  refine ⟨by simp; omega, ?_⟩
  simp only
  rw [List.getD, List.getElem?_eq_none (by omega)]; rfl
theorem pl_out {f : FleetD} {p : Nat} (h : f.vs.length * 3 ≤ p) : thB f p = false ∧ plOf f p = [] := by
  unfold thB plOf
  rw [List.getElem?_eq_none (by omega)]
  exact ⟨rfl, rfl⟩
theorem pl_some {f : FleetD} {s r : Nat} {v : SvcD} {ps : List PinD} (hv : f.vs[s]? = some v) (hr : v.rels[r]? = some ps) (h3 : r < 3) : plOf f (s * 3 + r) = ps ∧ thB f (s * 3 + r) = true ∧ fsB f (s * 3 + r) = ((r : Int) == v.now) ∧ wnB f (s * 3 + r) = ((r : Int) == v.want) := by
  have e1 : (s * 3 + r) / 3 = s := by omega
  have e2 : (s * 3 + r) % 3 = r := by omega
  have hl := (List.getElem?_eq_some_iff.1 hr).1
  unfold plOf thB fsB wnB
  rw [e1, e2, hv]
  have hg : v.rels[r] = ps := by rw [List.getElem?_eq_getElem hl] at hr; exact Option.some.inj hr
  simp [List.getD, hl, hg]
theorem Tryz.zeroCht : Tryz.zeroCells52 = ((List.replicate 189 false).map Value.bool).toArray := by kernel_rfl
/-- What lies where while the chart is filled in. -/
structure Ck (w : World) (fv : List Value) (wr : World) (bs : List Bool) (pv : List Value) : Prop where
  F : RowIs wr w.heap.size 26 fv
  R : RowIs wr (w.heap.size + 1) 52 ((List.replicate 189 false).map .bool)
  C : RowIs wr (w.heap.size + 1 + 1) 52 (bs.map .bool)
  P : RowIs wr (w.heap.size + 1 + 1 + 1) 98 pv
  bl : Below w.heap.size w wr
theorem Ck.keep {w : World} {fv : List Value} {wr wr' : World} {bs : List Bool} {pv : List Value} (h : Ck w fv wr bs pv) (hb : Below wr.heap.size wr wr') : Ck w fv wr' bs pv :=
  ⟨h.F.keep hb, h.R.keep hb, h.C.keep hb, h.P.keep hb, h.bl.trans (hb.mono h.bl.size)⟩
theorem Ck.setC {w : World} {fv : List Value} {wr : World} {bs : List Bool} {pv : List Value} (h : Ck w fv wr bs pv) (i : Nat) (x : Bool) : Ck w fv (wr.setCell ⟨w.heap.size + 1 + 1, i, none⟩ (.bool x)) (bs.set i x) pv := by
  refine ⟨h.F.setOther (by show w.heap.size + 1 + 1 ≠ w.heap.size; omega) _, h.R.setOther (by show w.heap.size + 1 + 1 ≠ w.heap.size + 1; omega) _, ?_, h.P.setOther (by show w.heap.size + 1 + 1 ≠ w.heap.size + 1 + 1 + 1; omega) _, h.bl.setCell (by show w.heap.size ≤ w.heap.size + 1 + 1; omega) _⟩
  rw [List.map_set]; exact h.C.set i (.bool x)
theorem Ck.setP {w : World} {fv : List Value} {wr : World} {bs : List Bool} {pv : List Value} (h : Ck w fv wr bs pv) (i : Nat) (v : Value) : Ck w fv (wr.setCell ⟨w.heap.size + 1 + 1 + 1, i, none⟩ v) bs (pv.set i v) :=
  ⟨h.F.setOther (by show w.heap.size + 1 + 1 + 1 ≠ w.heap.size; omega) _, h.R.setOther (by show w.heap.size + 1 + 1 + 1 ≠ w.heap.size + 1; omega) _, h.C.setOther (by show w.heap.size + 1 + 1 + 1 ≠ w.heap.size + 1 + 1; omega) _, h.P.set i v, h.bl.setCell (by show w.heap.size ≤ w.heap.size + 1 + 1 + 1; omega) _⟩
theorem Ck.drew {w : World} {fv : List Value} {wr : World} {bs : List Bool} {pv : List Value} (h : Ck w fv wr bs pv) : Ck w fv wr.drew bs pv := ⟨h.F, h.R, h.C, h.P, h.bl.drew⟩
theorem range_far {w : World} {b o : Nat} {cs : List Value} (h : w.rangeAt b o cs) {p : Addr} (hp : p.block ≠ b) (u : Value) : (w.setCell p u).rangeAt b o cs := fun j v hj => by
  rw [World.cell?_setCell_far _ _ _ _ (by exact hp)]; exact h j v hj
theorem flat81 (H : Nat → Nat → Bool) : ((List.range 9).map fun a => (List.range 9).map (H a)).flatten = (List.range 81).map fun q => H (q / 9) (q % 9) := by
  have hr : ∀ r ∈ ((List.range 9).map fun a => (List.range 9).map (H a)), r.length = 9 := fun r hr => by
    obtain ⟨i, _, rfl⟩ := List.mem_map.1 hr; simp
  apply List.ext_getElem?
  intro k
  by_cases hk : k < 81
  · have h1 : ((List.range 9).map fun a => (List.range 9).map (H a))[k / 9]? = some ((List.range 9).map (H (k / 9))) := by rw [List.getElem?_map, List.getElem?_range (by omega)]; rfl
    have h2 := flat_get _ (k / 9) (k % 9) _ hr h1 (by omega)
    rw [show k / 9 * 9 + k % 9 = k by omega] at h2
    rw [h2, List.getElem?_map, List.getElem?_map, List.getElem?_range (by omega), List.getElem?_range hk]; rfl
  · rw [List.getElem?_eq_none (by rw [flat_len _ hr]; simp; omega), List.getElem?_eq_none (by simp; omega)]
theorem chB_done (f : FleetD) : chB f (fun q => cmpA (tabOf f.ss) (plOf f (q / 9)) (plOf f (q % 9))) (fun q => cmpF (tabOf f.ss) f.ts (plOf f (q / 9)) (plOf f (q % 9))) 9 81 = (chartOf f).bits := by
  unfold chB ChD.bits chartOf
  rw [chTo_all _ 9 9 (fun p a b => by omega), chTo_all _ 9 9 (fun p a b => by omega), chTo_all _ 9 9 (fun p a b => by omega), chTo_all _ 81 81 (fun p a b => by omega), chTo_all _ 81 81 (fun p a b => by omega)]
  simp only
  rw [flat81 (fun a b => cmpA (tabOf f.ss) (plOf f a) (plOf f b)), flat81 (fun a b => cmpF (tabOf f.ss) f.ts (plOf f a) (plOf f b))]
theorem Ck.cellC {w : World} {fv : List Value} {wr : World} {bs : List Bool} {pv : List Value} (h : Ck w fv wr bs pv) {i : Nat} (hi : i < bs.length) : ∃ u, wr.cell? ⟨w.heap.size + 1 + 1, i, none⟩ = some u := ⟨_, h.C.cell (by rw [List.getElem?_map, List.getElem?_eq_getElem hi]; rfl)⟩
theorem Ck.cellP {w : World} {fv : List Value} {wr : World} {bs : List Bool} {pv : List Value} (h : Ck w fv wr bs pv) {i : Nat} (hi : i < pv.length) : ∃ u, wr.cell? ⟨w.heap.size + 1 + 1 + 1, i, none⟩ = some u := ⟨_, h.P.cell (List.getElem?_eq_getElem hi)⟩
set_option maxHeartbeats 8000000 in
theorem ChartOf_any (f : FleetD) (ho : Ord f) (sa ta va : Option Addr) (sl sc tl tc vl vc : Nat) (w : World) (hf : FleetAt w sa sl sc ta tl tc va vl vc f) :
    Calls Tryz.prog 21 #[.agg #[.slice sa sl sc, .slice ta tl tc, .slice va vl vc]] w fun e W => e = .returned (.agg (chartOf f).cells.toArray) ∧ Below w.heap.size w W := by
  have hv1 := hf.v1
  have h3 := ho.vs3
  have HF := (hidMk hf)
  have HOD := (hidMk ho)
  obtain ⟨v1a, v1b⟩ : vl ≤ f.vs.length ∧ f.vs.length ≤ vl := by omega
  clear hf ho hv1
  obtain ⟨A, hA⟩ : ∃ A : Nat → Bool, A = fun q => cmpA (tabOf f.ss) (plOf f (q / 9)) (plOf f (q % 9)) := ⟨_, rfl⟩
  obtain ⟨F, hFF⟩ : ∃ F : Nat → Bool, F = fun q => cmpF (tabOf f.ss) f.ts (plOf f (q / 9)) (plOf f (q % 9)) := ⟨_, rfl⟩
  have HA := (hidMk hA)
  have HFF := (hidMk hFF)
  clear hA hFF
  have hck0 : ∀ W, W = ((((w.alloc (.cells #[.slice sa sl sc, .slice ta tl tc, .slice va vl vc] 26)).alloc (.cells Tryz.zeroCells52 52)).alloc (.cells Tryz.zeroCells52 52)).alloc (.cells #[.slice none 0 0, .slice none 0 0, .slice none 0 0, .slice none 0 0, .slice none 0 0, .slice none 0 0, .slice none 0 0, .slice none 0 0, .slice none 0 0] 98)) → Ck w [.slice sa sl sc, .slice ta tl tc, .slice va vl vc] W (chB f A F 0 0) (List.replicate 9 (.slice none 0 0)) := fun W hW => by
    subst hW
    have z1 := size_new w (.cells #[.slice sa sl sc, .slice ta tl tc, .slice va vl vc] 26)
    refine ⟨?_, ?_, ?_, ?_, ((((Below.refl _ _).alloc (Nat.le_refl _) _).alloc (by simp) _).alloc (by simp; omega) _).alloc (by simp; omega) _⟩
    · exact RowIs.keep (RowIs.keep (RowIs.keep (w := w.alloc (.cells #[.slice sa sl sc, .slice ta tl tc, .slice va vl vc] 26)) (heap_box w _) (belS _ _)) (belS _ _)) (belS _ _)
    · refine RowIs.keep (RowIs.keep ?_ (belS _ _)) (belS _ _)
      have := heap_box (w.alloc (.cells #[.slice sa sl sc, .slice ta tl tc, .slice va vl vc] 26)) (.cells Tryz.zeroCells52 52)
      rw [z1] at this
      unfold RowIs; rw [← Tryz.zeroCht]; exact this
    · refine RowIs.keep ?_ (belS _ _)
      have := heap_box ((w.alloc (.cells #[.slice sa sl sc, .slice ta tl tc, .slice va vl vc] 26)).alloc (.cells Tryz.zeroCells52 52)) (.cells Tryz.zeroCells52 52)
      rw [size_new, z1] at this
      unfold RowIs; rw [chB_zero, ← Tryz.zeroCht]; exact this
    · have := heap_box (((w.alloc (.cells #[.slice sa sl sc, .slice ta tl tc, .slice va vl vc] 26)).alloc (.cells Tryz.zeroCells52 52)).alloc (.cells Tryz.zeroCells52 52)) (.cells #[.slice none 0 0, .slice none 0 0, .slice none 0 0, .slice none 0 0, .slice none 0 0, .slice none 0 0, .slice none 0 0, .slice none 0 0, .slice none 0 0] 98)
      rw [size_new, size_new, z1] at this
      exact this
  have HCK0 := (hidMk hck0)
  clear hck0
  go_enter Tryz.func21, Tryz.ntmps21
  go_wp2_with fail
  go_loopw [18] (fun vi wr => ∃ (s : Nat) (pv : List Value), s ≤ vl ∧ vi = .int .i64 s ∧ Hid (Ck w [.slice sa sl sc, .slice ta tl tc, .slice va vl vc] wr (chB f A F (s * 3) 0) pv) ∧ Hid (PvAt w f (s * 3) pv)) (fun s _ => vl - (intOf s).toNat)
  case atStart => exact ⟨0, _, Nat.zero_le _, rfl, HCK0.out _ rfl, PvAt.zero w f⟩
  case round =>
    obtain ⟨s, pv, hs, rfl, hck, hpv⟩ := hrel
    rename World => w5
    have hx0 : (0 : Int) ≤ (s : Int) := Int.natCast_nonneg _
    have hz5 := hck.out.P.lt
    by_cases hlt : s < vl
    · obtain ⟨v, hv⟩ : ∃ v, f.vs[s]? = some v := ⟨f.vs[s]'(by omega), List.getElem?_eq_getElem (by omega)⟩
      obtain ⟨b, o, ra, rl, rc, rfl, c0, c1, c2, c3, hrl⟩ := HF.out.v3 s v hv
      have hpt := HOD.out.parts (List.mem_of_getElem? hv)
      have hrle : rl = v.rels.length := hrl.1
      obtain ⟨rla, rlb⟩ : rl ≤ v.rels.length ∧ v.rels.length ≤ rl := by omega
      have hrl3 : rl ≤ 3 := by have := hpt.2.1; omega
      have c0 := cell_keep hck.out.bl c0
      have c1 := cell_keep hck.out.bl c1
      have c2 := cell_keep hck.out.bl c2
      have c3 := cell_keep hck.out.bl c3
      have hbl := lt_of_cell c0
      have hx1 : (s : Int) < (vl : Int) := by omega
      have HV := (hidMk hv)
      have HRL := (hidMk hrl.2.2.2.2)
      have hsb : RowIs (w5.alloc (.cells #[.int .i64 v.size, .int .i64 v.now, .int .i64 v.want, .slice ra rl rc] 67)) w5.heap.size 67 [.int .i64 v.size, .int .i64 v.now, .int .i64 v.want, .slice ra rl rc] := heap_box w5 _
      have HSB := (hidMk hsb)
      clear hv hrl hpt hrle hsb
      go_wp2_with fail
      clear c0 c1 c2 c3
      go_loopw [26] (fun vr wr => ∃ (r : Nat) (pv : List Value), r ≤ rl ∧ vr = .int .i64 r ∧ Hid (Ck w [.slice sa sl sc, .slice ta tl tc, .slice (some ⟨b, o, none⟩) vl vc] wr (chB f A F (s * 3 + r) 0) pv) ∧ Hid (PvAt w f (s * 3 + r) pv) ∧ RowIs wr w5.heap.size 67 [.int .i64 v.size, .int .i64 v.now, .int .i64 v.want, .slice ra rl rc]) (fun r _ => rl - (intOf r).toNat)
      case atStart => exact ⟨0, pv, Nat.zero_le _, rfl, hck.out.keep (belS _ _), hpv, HSB.out⟩
      case round =>
        clear hck hpv
        obtain ⟨r, pv, hr, rfl, hck, hpv, hsv⟩ := hrel
        have hy0 : (0 : Int) ≤ (r : Int) := Int.natCast_nonneg _
        by_cases hrlt : r < rl
        · obtain ⟨ps, hps⟩ : ∃ ps, v.rels[r]? = some ps := ⟨v.rels[r]'(by omega), List.getElem?_eq_getElem (by omega)⟩
          obtain ⟨bR, oR, pa, pl, pc, rfl, d0, hpsl⟩ := HRL.out r ps hps
          obtain ⟨e1, e2, e3, e4⟩ := pl_some HV.out hps (by omega)
          have d0 := cell_keep hck.out.bl d0
          have hy1 : (r : Int) < (rl : Int) := by omega
          have hpl := fun W => flPlace_any (s : Int) (r : Int) W
          rw [show plI (s : Int) (r : Int) = ((s * 3 + r : Nat) : Int) by
            unfold plI
            rw [show numB (s : Int) 3 = true by unfold numB; simp; omega, show numB (r : Int) 3 = true by unfold numB; simp; omega]
            simp] at hpl
          have hst := chB_step f A F (k := s * 3 + r) (by omega)
          rw [e2, e3, e4] at hst
          have hpp : PinSl w pa pl pc (plOf f (s * 3 + r)) := by rw [e1]; exact hpsl
          have hpst := hpv.out.step hpp
          obtain ⟨p0, hp0⟩ : ∃ p0, p0 = s * 3 + r := ⟨_, rfl⟩
          have hp9 : p0 < 9 := by omega
          have hp9' : ((p0 : Nat) : Int) < 9 := by omega
          have hp90 : (0 : Int) ≤ ((p0 : Nat) : Int) := Int.natCast_nonneg _
          rw [← hp0] at hpl
          have HP0 := (hidMk hp0)
          have HST := (hidMk hst)
          have HPST := (hidMk hpst)
          have s1 : wr.cell? ⟨w5.heap.size, 1, none⟩ = some (.int .i64 v.now) := hsv.cell rfl
          have s2 : wr.cell? ⟨w5.heap.size, 2, none⟩ = some (.int .i64 v.want) := hsv.cell rfl
          have hsl5 := hsv.lt
          have hCl := hck.out.C.lt
          have hPl := hck.out.P.lt
          have HSV := (hidMk hsv)
          clear hps hpsl e1 e2 e3 e4 hst hpst hpp hp0 hsv
          have hrest : ∀ w9, Below (wr.alloc (.cells #[.slice pa pl pc] 92)).heap.size (wr.alloc (.cells #[.slice pa pl pc] 92)) w9 →
              ((∃ u, w9.cell? ⟨w.heap.size + 1 + 1, p0, none⟩ = some u) ∧ w9.frozen? ⟨w.heap.size + 1 + 1, p0, none⟩ = false) ∧
              ((∃ u, (w9.setCell ⟨w.heap.size + 1 + 1, p0, none⟩ (.bool true)).cell? ⟨w.heap.size + 1 + 1, 9 + p0, none⟩ = some u) ∧ (w9.setCell ⟨w.heap.size + 1 + 1, p0, none⟩ (.bool true)).frozen? ⟨w.heap.size + 1 + 1, 9 + p0, none⟩ = false ∧ (w9.setCell ⟨w.heap.size + 1 + 1, p0, none⟩ (.bool true)).cell? ⟨w5.heap.size, 1, none⟩ = some (.int .i64 v.now)) ∧
              ((∃ u, ((w9.setCell ⟨w.heap.size + 1 + 1, p0, none⟩ (.bool true)).setCell ⟨w.heap.size + 1 + 1, 9 + p0, none⟩ (.bool ((r : Int) == v.now))).cell? ⟨w.heap.size + 1 + 1, 18 + p0, none⟩ = some u) ∧ ((w9.setCell ⟨w.heap.size + 1 + 1, p0, none⟩ (.bool true)).setCell ⟨w.heap.size + 1 + 1, 9 + p0, none⟩ (.bool ((r : Int) == v.now))).frozen? ⟨w.heap.size + 1 + 1, 18 + p0, none⟩ = false ∧ ((w9.setCell ⟨w.heap.size + 1 + 1, p0, none⟩ (.bool true)).setCell ⟨w.heap.size + 1 + 1, 9 + p0, none⟩ (.bool ((r : Int) == v.now))).cell? ⟨w5.heap.size, 2, none⟩ = some (.int .i64 v.want)) ∧
              ((∃ u, (((w9.setCell ⟨w.heap.size + 1 + 1, p0, none⟩ (.bool true)).setCell ⟨w.heap.size + 1 + 1, 9 + p0, none⟩ (.bool ((r : Int) == v.now))).setCell ⟨w.heap.size + 1 + 1, 18 + p0, none⟩ (.bool ((r : Int) == v.want))).cell? ⟨w.heap.size + 1 + 1 + 1, p0, none⟩ = some u) ∧ (((w9.setCell ⟨w.heap.size + 1 + 1, p0, none⟩ (.bool true)).setCell ⟨w.heap.size + 1 + 1, 9 + p0, none⟩ (.bool ((r : Int) == v.now))).setCell ⟨w.heap.size + 1 + 1, 18 + p0, none⟩ (.bool ((r : Int) == v.want))).frozen? ⟨w.heap.size + 1 + 1 + 1, p0, none⟩ = false ∧ (((w9.setCell ⟨w.heap.size + 1 + 1, p0, none⟩ (.bool true)).setCell ⟨w.heap.size + 1 + 1, 9 + p0, none⟩ (.bool ((r : Int) == v.now))).setCell ⟨w.heap.size + 1 + 1, 18 + p0, none⟩ (.bool ((r : Int) == v.want))).cell? ⟨wr.heap.size, 0, none⟩ = some (.slice pa pl pc)) ∧
              Ck w [.slice sa sl sc, .slice ta tl tc, .slice (some ⟨b, o, none⟩) vl vc] ((((w9.setCell ⟨w.heap.size + 1 + 1, p0, none⟩ (.bool true)).setCell ⟨w.heap.size + 1 + 1, 9 + p0, none⟩ (.bool ((r : Int) == v.now))).setCell ⟨w.heap.size + 1 + 1, 18 + p0, none⟩ (.bool ((r : Int) == v.want))).setCell ⟨w.heap.size + 1 + 1 + 1, p0, none⟩ (.slice pa pl pc)) (chB f A F (s * 3 + r + 1) 0) (pv.set p0 (.slice pa pl pc)) ∧
              RowIs ((((w9.setCell ⟨w.heap.size + 1 + 1, p0, none⟩ (.bool true)).setCell ⟨w.heap.size + 1 + 1, 9 + p0, none⟩ (.bool ((r : Int) == v.now))).setCell ⟨w.heap.size + 1 + 1, 18 + p0, none⟩ (.bool ((r : Int) == v.want))).setCell ⟨w.heap.size + 1 + 1 + 1, p0, none⟩ (.slice pa pl pc)) w5.heap.size 67 [.int .i64 v.size, .int .i64 v.now, .int .i64 v.want, .slice (some ⟨bR, oR, none⟩) rl rc] := fun w9 hb9 => by
            have k9 := (hck.out.keep (belS wr (.cells #[.slice pa pl pc] 92))).keep hb9
            have k1 := k9.setC p0 true
            have k2 := k1.setC (9 + p0) ((r : Int) == v.now)
            have k3 := k2.setC (18 + p0) ((r : Int) == v.want)
            have k4 := k3.setP p0 (.slice pa pl pc)
            have v9 := (HSV.out.keep (belS wr (.cells #[.slice pa pl pc] 92))).keep hb9
            have v1 := v9.setOther (p := ⟨w.heap.size + 1 + 1, p0, none⟩) (by show w.heap.size + 1 + 1 ≠ w5.heap.size; omega) (.bool true)
            have v2 := v1.setOther (p := ⟨w.heap.size + 1 + 1, 9 + p0, none⟩) (by show w.heap.size + 1 + 1 ≠ w5.heap.size; omega) (.bool ((r : Int) == v.now))
            have v3 := v2.setOther (p := ⟨w.heap.size + 1 + 1, 18 + p0, none⟩) (by show w.heap.size + 1 + 1 ≠ w5.heap.size; omega) (.bool ((r : Int) == v.want))
            have v4 := v3.setOther (p := ⟨w.heap.size + 1 + 1 + 1, p0, none⟩) (by show w.heap.size + 1 + 1 + 1 ≠ w5.heap.size; omega) (.slice pa pl pc)
            have r0 : RowIs (wr.alloc (.cells #[.slice pa pl pc] 92)) wr.heap.size 92 [.slice pa pl pc] := heap_box wr _
            have r3 := (((r0.keep hb9).setOther (p := ⟨w.heap.size + 1 + 1, p0, none⟩) (by show w.heap.size + 1 + 1 ≠ wr.heap.size; omega) (.bool true)).setOther (p := ⟨w.heap.size + 1 + 1, 9 + p0, none⟩) (by show w.heap.size + 1 + 1 ≠ wr.heap.size; omega) (.bool ((r : Int) == v.now))).setOther (p := ⟨w.heap.size + 1 + 1, 18 + p0, none⟩) (by show w.heap.size + 1 + 1 ≠ wr.heap.size; omega) (.bool ((r : Int) == v.want))
            have hl := hpv.out.1
            refine ⟨⟨k9.cellC (by rw [chB_len]; omega), k9.C.frozen _⟩, ⟨k1.cellC (by rw [List.length_set, chB_len]; omega), k1.C.frozen _, v1.cell rfl⟩, ⟨k2.cellC (by rw [List.length_set, List.length_set, chB_len]; omega), k2.C.frozen _, v2.cell rfl⟩, ⟨k3.cellP (by omega), k3.P.frozen _, r3.cell rfl⟩, ?_, v4⟩
            rw [HST.out]
            rw [HP0.out] at k4 ⊢
            exact k4
          have HREST := (hidMk hrest)
          clear hrest
          go_wp2_with (go_at_call 45; refine (hpl _).mono ?_; rintro e w9 ⟨rfl, hb9⟩; have hR9 := (hidMk (HREST.out w9 hb9)); obtain ⟨⟨⟨x0, y0⟩, z0⟩, ⟨⟨x1, y1⟩, z1, t1⟩, ⟨⟨x2, y2⟩, z2, t2⟩, ⟨⟨x3, y3⟩, z3, t3⟩, _, _⟩ := hR9.out)
          go_roundw
          case rel => exact ⟨r + 1, pv.set p0 (.slice pa pl pc), by omega, by go_num, hR9.out.2.2.2.2.1, by rw [HP0.out]; exact HPST.out, hR9.out.2.2.2.2.2⟩
          case measure => simp [intOf]; omega
        · have hre : r = rl := by omega
          subst hre
          have hrow := chB_row f A F (k := s * 3 + r) (k' := (s + 1) * 3) (by omega) (fun p a1 a2 => (pl_none HV.out (by omega) a2).1)
          have hpv2 := hpv.out.skip (k' := (s + 1) * 3) (by omega) (fun p a1 a2 => (pl_none HV.out (by omega) a2).2)
          have hck2 := hck.out
          rw [hrow] at hck2
          have HCK2 := (hidMk hck2)
          have HPV2 := (hidMk hpv2)
          clear hrow hpv2 hck2 hck hpv hsv
          go_wp2_with fail
          go_roundw
          case rel => exact ⟨s + 1, pv, by omega, by go_num, HCK2, HPV2⟩
          case measure => simp [intOf]; omega
    · have hse : s = vl := by omega
      subst hse
      have hrow := chB_row f A F (k := s * 3) (k' := 9) (by omega) (fun p a1 a2 => (pl_out (by omega)).1)
      have hpv2 := hpv.out.skip (k' := 9) (by omega) (fun p a1 a2 => (pl_out (by omega)).2)
      have hck2 := hck.out
      rw [hrow] at hck2
      have HPV2 := (hidMk hpv2)
      have HCK2 := (hidMk hck2)
      clear hrow hpv2 hck2 hck hpv
      obtain ⟨T, hT⟩ : ∃ T, T = tabOf f.ss := ⟨_, rfl⟩
      have hTok : tabOk T := by rw [hT]; exact tabOf_ok _
      have hro := fun (W : World) (h : Below w.heap.size w W) => readableOf_any f.ss HOD.out.sch W sa sc (HF.out.s4.keep h)
      rw [← hT, ← HF.out.s1] at hro
      have HT := (hidMk hT)
      have it := hTok.info
      have it2 : (Tryz.prog.info? 101).map (·.size) = some (tabC T).toArray.size := by rw [List.size_toArray]; exact it
      have i1 : (tabC T).toArray.all (·.oneCell') = true := bits_one _
      have hcl : (tabC T).length = 64 := hTok.len
      have hz : ∀ W : World, (W.alloc (.cells #[.bool false, .bool false, .bool false, .bool false, .bool false, .bool false, .bool false, .bool false, .bool false, .bool false, .bool false, .bool false, .bool false, .bool false, .bool false, .bool false, .bool false, .bool false, .bool false, .bool false, .bool false, .bool false, .bool false, .bool false, .bool false, .bool false, .bool false, .bool false, .bool false, .bool false, .bool false, .bool false, .bool false, .bool false, .bool false, .bool false, .bool false, .bool false, .bool false, .bool false, .bool false, .bool false, .bool false, .bool false, .bool false, .bool false, .bool false, .bool false, .bool false, .bool false, .bool false, .bool false, .bool false, .bool false, .bool false, .bool false, .bool false, .bool false, .bool false, .bool false, .bool false, .bool false, .bool false, .bool false] 101)).there W.heap.size 0 (tabC T).toArray.size := fun W => by
        rw [show (tabC T).toArray.size = 64 by simpa using hcl]; exact there_row (heap_box W _)
      have HTOK := (hidMk hTok)
      have HCL := (hidMk hcl)
      clear hT hTok hcl
      have f0 : w5.cell? ⟨w.heap.size, 0, none⟩ = some (.slice sa sl sc) := HCK2.out.F.cell rfl
      have hb5 := HCK2.out.bl
      have hfl : w.heap.size < w5.heap.size := lt_of_cell f0
      go_wp2_with (first
        | (go_at_call 46; refine (hro _ hb5).mono ?_; rintro e w7 ⟨rfl, hb7⟩; have hz7 := hz w7)
        | (have hq := hz7; refine wpList_store_mid rfl 101 _ _ rfl w7.heap.size 0 (tabC T).toArray rfl rfl hz7 it2 i1 ?_))
      have rt0 := World.rangeAt_setCells_same (w7.alloc (.cells #[.bool false, .bool false, .bool false, .bool false, .bool false, .bool false, .bool false, .bool false, .bool false, .bool false, .bool false, .bool false, .bool false, .bool false, .bool false, .bool false, .bool false, .bool false, .bool false, .bool false, .bool false, .bool false, .bool false, .bool false, .bool false, .bool false, .bool false, .bool false, .bool false, .bool false, .bool false, .bool false, .bool false, .bool false, .bool false, .bool false, .bool false, .bool false, .bool false, .bool false, .bool false, .bool false, .bool false, .bool false, .bool false, .bool false, .bool false, .bool false, .bool false, .bool false, .bool false, .bool false, .bool false, .bool false, .bool false, .bool false, .bool false, .bool false, .bool false, .bool false, .bool false, .bool false, .bool false, .bool false] 101)) w7.heap.size 0 (tabC T) (by simpa using hz7)
      have hb8 : Below w7.heap.size w7 ((w7.alloc (.cells #[.bool false, .bool false, .bool false, .bool false, .bool false, .bool false, .bool false, .bool false, .bool false, .bool false, .bool false, .bool false, .bool false, .bool false, .bool false, .bool false, .bool false, .bool false, .bool false, .bool false, .bool false, .bool false, .bool false, .bool false, .bool false, .bool false, .bool false, .bool false, .bool false, .bool false, .bool false, .bool false, .bool false, .bool false, .bool false, .bool false, .bool false, .bool false, .bool false, .bool false, .bool false, .bool false, .bool false, .bool false, .bool false, .bool false, .bool false, .bool false, .bool false, .bool false, .bool false, .bool false, .bool false, .bool false, .bool false, .bool false, .bool false, .bool false, .bool false, .bool false, .bool false, .bool false, .bool false, .bool false] 101)).setCells w7.heap.size 0 (tabC T)) := below_setCells w7.heap.size (Nat.le_refl _) _ _ (belS _ _)
      have hck8 := (HCK2.out.keep hb7).keep hb8
      have HCK8 := (hidMk hck8)
      have HRT := (hidMk rt0)
      clear hck8 rt0 hz hz7 f0
      generalize (w7.alloc (.cells #[.bool false, .bool false, .bool false, .bool false, .bool false, .bool false, .bool false, .bool false, .bool false, .bool false, .bool false, .bool false, .bool false, .bool false, .bool false, .bool false, .bool false, .bool false, .bool false, .bool false, .bool false, .bool false, .bool false, .bool false, .bool false, .bool false, .bool false, .bool false, .bool false, .bool false, .bool false, .bool false, .bool false, .bool false, .bool false, .bool false, .bool false, .bool false, .bool false, .bool false, .bool false, .bool false, .bool false, .bool false, .bool false, .bool false, .bool false, .bool false, .bool false, .bool false, .bool false, .bool false, .bool false, .bool false, .bool false, .bool false, .bool false, .bool false, .bool false, .bool false, .bool false, .bool false, .bool false, .bool false] 101)).setCells w7.heap.size 0 (tabC T) = w8 at HCK8 HRT hb8 ⊢
      go_loopw [11] (fun va' wr => ∃ a : Nat, a ≤ 9 ∧ va' = .int .i64 a ∧ Hid (Ck w [.slice sa sl sc, .slice ta tl tc, .slice va s vc] wr (chB f A F 9 (a * 9)) pv) ∧ Hid (wr.rangeAt w7.heap.size 0 (tabC T))) (fun a _ => 9 - (intOf a).toNat)
      case atStart => exact ⟨0, by omega, rfl, HCK8, HRT⟩
      case round =>
        obtain ⟨a, ha, rfl, hck, hrt⟩ := hrel
        have hx0 : (0 : Int) ≤ (a : Int) := Int.natCast_nonneg _
        by_cases hlt : a < 9
        · have hx1 : (a : Int) < 9 := by omega
          go_wp2_with fail
          go_loopw [12] (fun vb wr => ∃ b : Nat, b ≤ 9 ∧ vb = .int .i64 b ∧ Hid (Ck w [.slice sa sl sc, .slice ta tl tc, .slice va s vc] wr (chB f A F 9 (a * 9 + b)) pv) ∧ Hid (wr.rangeAt w7.heap.size 0 (tabC T))) (fun b _ => 9 - (intOf b).toNat)
          case atStart => exact ⟨0, by omega, rfl, hck, hrt⟩
          case round =>
            clear hck hrt
            obtain ⟨b, hbb, rfl, hck, hrt⟩ := hrel
            have hy0 : (0 : Int) ≤ (b : Int) := Int.natCast_nonneg _
            by_cases hblt : b < 9
            · have hy1 : (b : Int) < 9 := by omega
              have hl9 := HPV2.out.1
              obtain ⟨va1, hva1⟩ : ∃ v, pv[a]? = some v := ⟨pv[a]'(by omega), List.getElem?_eq_getElem (by omega)⟩
              obtain ⟨vb1, hvb1⟩ : ∃ v, pv[b]? = some v := ⟨pv[b]'(by omega), List.getElem?_eq_getElem (by omega)⟩
              obtain ⟨pa, pl, pc, rfl, hpa⟩ := HPV2.out.2 a va1 hva1
              obtain ⟨qa, ql, qc, rfl, hqa⟩ := HPV2.out.2 b vb1 hvb1
              rw [if_pos hlt] at hpa
              rw [if_pos hblt] at hqa
              have p1 : wr.cell? ⟨w.heap.size + 1 + 1 + 1, a, none⟩ = some (.slice pa pl pc) := hck.out.P.cell hva1
              have p2 : wr.cell? ⟨w.heap.size + 1 + 1 + 1, b, none⟩ = some (.slice qa ql qc) := hck.out.P.cell hvb1
              have f1 : wr.cell? ⟨w.heap.size, 1, none⟩ = some (.slice ta tl tc) := hck.out.F.cell rfl
              have hcmp := fun (W : World) (h : Below w.heap.size w W) => compare_any T HTOK.out f.ts (plOf f a) (plOf f b) ta pa qa tc pc qc W HF.out.t2 hpa.2.1 hqa.2.1 (HF.out.t3.keep h) (hpa.2.2.2.2.keep h) (hqa.2.2.2.2.keep h)
              rw [← HF.out.t1, ← hpa.1, ← hqa.1] at hcmp
              have rt := hrt.out
              have hbl := hck.out.bl
              have lP := lt_of_cell p1
              have lF := lt_of_cell f1
              clear hva1 hvb1 hpa hqa hl9
              go_wp2_with fail
              refine wp_region_held_drew (S := (fun w' => (w'.cell? ⟨w.heap.size, 1, none⟩ = some (.slice ta tl tc) ∧ w'.cell? ⟨w.heap.size + 1 + 1 + 1, a, none⟩ = some (.slice pa pl pc) ∧ w'.cell? ⟨w.heap.size + 1 + 1 + 1, b, none⟩ = some (.slice qa ql qc)) ∧ w'.rangeAt w7.heap.size 0 (tabC T))) (by kernel_rfl) ⟨⟨f1, p1, p2⟩, rt⟩ (fun hH => ?_)
              refine wpAnyH_take (i := 0) (v := ?_) rfl (by kernel_rfl) (by kernel_rfl) (by kernel_rfl) (fun _ _ _ h => h) (Or.inl ⟨by rfl, ?_⟩) hH ?_
              rotate_left
              · intro w' hS'; obtain ⟨⟨hk1, hk2, hk3⟩, hk4⟩ := hS'; clear hk4; go_simp <;> (try with_reducible rfl)
              simp only [Act.put, List.setIfInBounds_toArray, List.set_cons_zero, List.set_cons_succ, List.getElem_toArray, List.getElem_cons_zero, List.getElem_cons_succ]
              refine wpAnyH_take (i := 1) (v := ?_) rfl (by kernel_rfl) (by kernel_rfl) (by kernel_rfl) (fun _ _ _ h => h) (Or.inl ⟨by rfl, ?_⟩) hH ?_
              rotate_left
              · intro w' hS'; obtain ⟨⟨hk1, hk2, hk3⟩, hk4⟩ := hS'; clear hk4; go_simp <;> (try with_reducible rfl)
              simp only [Act.put, List.setIfInBounds_toArray, List.set_cons_zero, List.set_cons_succ, List.getElem_toArray, List.getElem_cons_zero, List.getElem_cons_succ]
              refine wpAnyH_take (i := 2) (v := .agg (tabC T).toArray) rfl (by kernel_rfl) (by kernel_rfl) (by kernel_rfl) (fun _ _ _ h => h) (yieldsIf_load_mid (by rfl) _ _ rfl _ _ rfl _ _ (fun w' h => h.2) Tryz.underlying101 rfl it) hH ?_
              simp only [Act.put, List.setIfInBounds_toArray, List.set_cons_zero, List.set_cons_succ, List.getElem_toArray, List.getElem_cons_zero, List.getElem_cons_succ]
              refine wpAnyH_take (i := 3) (v := ?_) rfl (by kernel_rfl) (by kernel_rfl) (by kernel_rfl) (fun _ _ _ h => h) (Or.inl ⟨by rfl, ?_⟩) hH ?_
              rotate_left
              · intro w' hS'; obtain ⟨⟨hk1, hk2, hk3⟩, hk4⟩ := hS'; clear hk4; go_simp <;> (try with_reducible rfl)
              simp only [Act.put, List.setIfInBounds_toArray, List.set_cons_zero, List.set_cons_succ, List.getElem_toArray, List.getElem_cons_zero, List.getElem_cons_succ]
              refine wpAnyH_take (i := 4) (v := ?_) rfl (by kernel_rfl) (by kernel_rfl) (by kernel_rfl) (fun _ _ _ h => h) (Or.inl ⟨by rfl, ?_⟩) hH ?_
              rotate_left
              · intro w' hS'; obtain ⟨⟨hk1, hk2, hk3⟩, hk4⟩ := hS'; clear hk4; go_simp <;> (try with_reducible rfl)
              simp only [Act.put, List.setIfInBounds_toArray, List.set_cons_zero, List.set_cons_succ, List.getElem_toArray, List.getElem_cons_zero, List.getElem_cons_succ]
              refine wpAnyH_take (i := 5) (v := ?_) rfl (by kernel_rfl) (by kernel_rfl) (by kernel_rfl) (fun _ _ _ h => h) (Or.inl ⟨by rfl, ?_⟩) hH ?_
              rotate_left
              · intro w' hS'; obtain ⟨⟨hk1, hk2, hk3⟩, hk4⟩ := hS'; clear hk4; go_simp <;> (try with_reducible rfl)
              simp only [Act.put, List.setIfInBounds_toArray, List.set_cons_zero, List.set_cons_succ, List.getElem_toArray, List.getElem_cons_zero, List.getElem_cons_succ]
              refine wpAnyH_take (i := 6) (v := ?_) rfl (by kernel_rfl) (by kernel_rfl) (by kernel_rfl) (fun _ _ _ h => h) (Or.inl ⟨by rfl, ?_⟩) hH ?_
              rotate_left
              · intro w' hS'; obtain ⟨⟨hk1, hk2, hk3⟩, hk4⟩ := hS'; clear hk4; go_simp <;> (try with_reducible rfl)
              simp only [Act.put, List.setIfInBounds_toArray, List.set_cons_zero, List.set_cons_succ, List.getElem_toArray, List.getElem_cons_zero, List.getElem_cons_succ]
              refine wpAnyH_take (i := 7) (v := ?_) rfl (by kernel_rfl) (by kernel_rfl) (by kernel_rfl) (fun _ _ _ h => h) (Or.inl ⟨by rfl, ?_⟩) hH ?_
              rotate_left
              · intro w' hS'; obtain ⟨⟨hk1, hk2, hk3⟩, hk4⟩ := hS'; clear hk4; go_simp <;> (try with_reducible rfl)
              simp only [Act.put, List.setIfInBounds_toArray, List.set_cons_zero, List.set_cons_succ, List.getElem_toArray, List.getElem_cons_zero, List.getElem_cons_succ]
              refine wpAnyH_take (i := 8) (v := ?_) rfl (by kernel_rfl) (by kernel_rfl) (by kernel_rfl) (fun _ _ _ h => h) (Or.inl ⟨by rfl, ?_⟩) hH ?_
              rotate_left
              · intro w' hS'; obtain ⟨⟨hk1, hk2, hk3⟩, hk4⟩ := hS'; clear hk4; go_simp <;> (try with_reducible rfl)
              simp only [Act.put, List.setIfInBounds_toArray, List.set_cons_zero, List.set_cons_succ, List.getElem_toArray, List.getElem_cons_zero, List.getElem_cons_succ]
              refine wpAnyH_ready (rs := [9]) (by kernel_rfl) (by simp) ?_
              refine AllReadyH.cons rfl (fun K hK => ?_) AllReadyH.nil
              go_simp
              refine (hcmp _ hbl.drew).mono ?_
              rintro e w9 ⟨rfl, hb9⟩
              go_wp2_with fail
              refine hK.out _ _ ⟨⟨cell_keep hb9 hH.1.1, cell_keep hb9 hH.1.2.1, cell_keep hb9 hH.1.2.2⟩, range_keep hb9 hH.2⟩ (fun hH2 => ?_)
              clear hK K
              replace hH := hH2
              (try simp only [Act.put, List.setIfInBounds_toArray, List.set_cons_zero, List.set_cons_succ, List.getElem_toArray, List.getElem_cons_zero, List.getElem_cons_succ])
              refine wpAnyH_take (i := 10) (v := ?_) rfl (by kernel_rfl) (by kernel_rfl) (by kernel_rfl) (fun _ _ _ h => h) (Or.inl ⟨by rfl, ?_⟩) hH ?_
              rotate_left
              · intro w' hS'; obtain ⟨⟨hk1, hk2, hk3⟩, hk4⟩ := hS'; clear hk4; go_simp <;> (try with_reducible rfl)
              simp only [Act.put, List.setIfInBounds_toArray, List.set_cons_zero, List.set_cons_succ, List.getElem_toArray, List.getElem_cons_zero, List.getElem_cons_succ]
              refine wpAnyH_take (i := 11) (v := ?_) rfl (by kernel_rfl) (by kernel_rfl) (by kernel_rfl) (fun _ _ _ h => h) (Or.inl ⟨by rfl, ?_⟩) hH ?_
              rotate_left
              · intro w' hS'; obtain ⟨⟨hk1, hk2, hk3⟩, hk4⟩ := hS'; clear hk4; go_simp <;> (try with_reducible rfl)
              simp only [Act.put, List.setIfInBounds_toArray, List.set_cons_zero, List.set_cons_succ, List.getElem_toArray, List.getElem_cons_zero, List.getElem_cons_succ]
              refine wpAnyH_take (i := 12) (v := ?_) rfl (by kernel_rfl) (by kernel_rfl) (by kernel_rfl) (fun _ _ _ h => h) (Or.inl ⟨by rfl, ?_⟩) hH ?_
              rotate_left
              · intro w' hS'; obtain ⟨⟨hk1, hk2, hk3⟩, hk4⟩ := hS'; clear hk4; go_simp <;> (try with_reducible rfl)
              simp only [Act.put, List.setIfInBounds_toArray, List.set_cons_zero, List.set_cons_succ, List.getElem_toArray, List.getElem_cons_zero, List.getElem_cons_succ]
              refine wpAnyH_take (i := 13) (v := ?_) rfl (by kernel_rfl) (by kernel_rfl) (by kernel_rfl) (fun _ _ _ h => h) (Or.inl ⟨by rfl, ?_⟩) hH ?_
              rotate_left
              · intro w' hS'; obtain ⟨⟨hk1, hk2, hk3⟩, hk4⟩ := hS'; clear hk4; go_simp <;> (try with_reducible rfl)
              simp only [Act.put, List.setIfInBounds_toArray, List.set_cons_zero, List.set_cons_succ, List.getElem_toArray, List.getElem_cons_zero, List.getElem_cons_succ]
              refine wpAnyH_take (i := 14) (v := ?_) rfl (by kernel_rfl) (by kernel_rfl) (by kernel_rfl) (fun _ _ _ h => h) (Or.inl ⟨by rfl, ?_⟩) hH ?_
              rotate_left
              · intro w' hS'; obtain ⟨⟨hk1, hk2, hk3⟩, hk4⟩ := hS'; clear hk4; go_simp <;> (try with_reducible rfl)
              simp only [Act.put, List.setIfInBounds_toArray, List.set_cons_zero, List.set_cons_succ, List.getElem_toArray, List.getElem_cons_zero, List.getElem_cons_succ]
              refine wpAnyH_done (by kernel_rfl) ?_ _
              have k9 := hck.out.drew.keep hb9
              have k10 := k9.setC (27 + a * 9 + b) (cmpA T (plOf f a) (plOf f b))
              obtain ⟨y1, m1⟩ := k9.cellC (i := 27 + a * 9 + b) (by rw [chB_len]; omega)
              obtain ⟨y2, m2⟩ := k10.cellC (i := 108 + a * 9 + b) (by rw [List.length_set, chB_len]; omega)
              have g1 := k9.C.frozen (27 + a * 9 + b)
              have g2 := k10.C.frozen (108 + a * 9 + b)
              have hst := chB_pair f A F (k := 9) (q := a * 9 + b) (by omega)
              have hAq : A (a * 9 + b) = cmpA T (plOf f a) (plOf f b) := by rw [HA.out, HT.out]; show cmpA (tabOf f.ss) (plOf f ((a * 9 + b) / 9)) (plOf f ((a * 9 + b) % 9)) = _; rw [show (a * 9 + b) / 9 = a by omega, show (a * 9 + b) % 9 = b by omega]
              have hFq : F (a * 9 + b) = cmpF T f.ts (plOf f a) (plOf f b) := by rw [HFF.out, HT.out]; show cmpF (tabOf f.ss) f.ts (plOf f ((a * 9 + b) / 9)) (plOf f ((a * 9 + b) % 9)) = _; rw [show (a * 9 + b) / 9 = a by omega, show (a * 9 + b) % 9 = b by omega]
              rw [hAq, hFq, ← Nat.add_assoc, ← Nat.add_assoc] at hst
              have k11 := k10.setC (108 + a * 9 + b) (cmpF T f.ts (plOf f a) (plOf f b))
              rw [← hst] at k11
              have hne7 : w.heap.size + 1 + 1 ≠ w7.heap.size := fun h => by have := hb7.size; omega
              have r11 := range_far (range_far hH.2 (p := ⟨w.heap.size + 1 + 1, 27 + a * 9 + b, none⟩) hne7 (.bool (cmpA T (plOf f a) (plOf f b)))) (p := ⟨w.heap.size + 1 + 1, 108 + a * 9 + b, none⟩) hne7 (.bool (cmpF T f.ts (plOf f a) (plOf f b)))
              have K11 := (hidMk k11)
              have R11 := (hidMk r11)
              clear k11 r11 hst hAq hFq k9 k10 hH hck hrt
              go_wp2_with fail
              go_roundw
              case rel => exact ⟨b + 1, by omega, by go_num, K11, R11⟩
              case measure => simp [intOf]; omega
            · have hbe : b = 9 := by omega
              subst hbe
              rw [show a * 9 + 9 = (a + 1) * 9 by omega] at hck
              go_wp2_with fail
              go_roundw
              case rel => exact ⟨a + 1, by omega, by go_num, hck, hrt⟩
              case measure => simp [intOf]; omega
        · have hae : a = 9 := by omega
          subst hae
          rename World => w6
          have hk := hck.out
          rw [show 9 * 9 = 81 from rfl, HA.out, HFF.out, chB_done] at hk
          obtain ⟨C, hCe⟩ : ∃ C, C = (chartOf f).cells := ⟨_, rfl⟩
          have hrow : RowIs w6 (w.heap.size + 1 + 1) 52 C := by rw [hCe]; exact hk.C
          have hCl : C.length = 189 := by rw [hCe]; exact (chartOf_ok f).len
          have hr6 := range_row hrow
          have ht6 : w6.there (w.heap.size + 1) 0 C.toArray.size := by
            rw [show C.toArray.size = 189 by simpa using hCl]
            have := there_row hk.R
            simpa using this
          have hi6 : (Tryz.prog.info? 52).map (·.size) = some C.length := by rw [hCl]; exact Tryz.infoCht
          have hi7 : (Tryz.prog.info? 52).map (·.size) = some C.toArray.size := by rw [List.size_toArray]; exact hi6
          have h16 : C.toArray.all (·.oneCell') = true := by rw [hCe]; exact bits_one _
          have hbF := hk.bl
          have HCe := (hidMk hCe)
          clear hCe hrow hCl hk hck hrt
          go_wp2_with (first
            | (refine wpList_load_mid (w := w6) rfl 52 _ rfl (w.heap.size + 1 + 1) 0 rfl C _ hr6 Tryz.underlying52 rfl hi6 ?_)
            | (refine wpList_store_mid (w := w6) rfl 52 _ _ rfl (w.heap.size + 1) 0 C.toArray rfl rfl ht6 hi7 h16 ?_))
          have hrs := World.rangeAt_setCells_same w6 (w.heap.size + 1) 0 C (by simpa using ht6)
          refine bodyPost_ret (v := .agg C.toArray) ?_ rfl ⟨by rw [HCe.out], below_setCells (w.heap.size + 1) (Nat.le_succ _) _ _ hbF⟩
          have hlv := run_loadVar_mid (P := Tryz.prog) _ (w.heap.size + 1) 0 52 C _ hrs Tryz.underlying52 rfl hi6
          simp [results, Tryz.results21, asAddr, Act.put, hlv]
end
section
set_option maxRecDepth 16000
open Go.RowKit
open Go.Lib (below_setCells)

set_option maxHeartbeats 2000000 in
theorem AreMoves_long (c : ChD) (n cap : Nat) (a : Option Addr) (hl : 200 < n) (hn : n ≤ 2000000) (w : World) :
    Calls Tryz.prog 22 #[.agg c.cells.toArray, .slice a n cap] w fun e W => e = .returned (.bool false) ∧ Below w.heap.size w W := by
  have hl' : (200 : Int) < (n : Int) := by omega
  go_enter Tryz.func22, Tryz.ntmps22
  go_wp2_with fail
  go_ret
  exact ⟨rfl, belS _ _⟩
def amB (c : ChD) (ms : List (Int × Int)) : Bool := decide (ms.length ≤ 200) && mvsB c (begD c) ms
theorem AreMoves_all (c : ChD) (hc : c.ok) (ms : List (Int × Int)) (w : World) (a : Option Addr) (cap : Nat) (hl : ms.length ≤ 2000000) (hp : MvsAt w a ms) :
    Calls Tryz.prog 22 #[.agg c.cells.toArray, .slice a ms.length cap] w fun e W => e = .returned (.bool (amB c ms)) ∧ Below w.heap.size w W := by
  unfold amB
  by_cases h : ms.length ≤ 200
  · rw [decide_eq_true h, Bool.true_and]
    exact AreMoves_any c hc ms w a cap h hp
  · rw [decide_eq_false h, Bool.false_and]
    exact AreMoves_long c ms.length cap a (by omega) hl w
/-- What 'Safe' answers: the number, the error. -/
def safOut (f : FleetD) (ms : List (Int × Int)) : Int × Int :=
  if ordB f = true then (if amB (chartOf f) ms = true then (if sndB (chartOf f) = true then ((sfN (chartOf f) (begD (chartOf f)) ms : Nat), 0) else (0, 10)) else (0, 9)) else (0, 8)
set_option maxHeartbeats 8000000 in
theorem Safe_any (f : FleetD) (sa ta va : Option Addr) (sl sc tl tc vl vc : Nat) (ms : List (Int × Int)) (ma : Option Addr) (mc : Nat) (w : World) (hf : FleetAt w sa sl sc ta tl tc va vl vc f) (hml : ms.length ≤ 2000000) (hm : MvsAt w ma ms) :
    Calls Tryz.prog 7 #[.agg #[.slice sa sl sc, .slice ta tl tc, .slice va vl vc], .slice ma ms.length mc] w fun e W => e = .returned (.tuple #[.int .i64 (safOut f ms).1, .int .i64 (safOut f ms).2]) ∧ Below w.heap.size w W := by
  have f0 := box3 w (.slice sa sl sc) (.slice ta tl tc) (.slice va vl vc) 26
  have hio := fun (W : World) (h : Below w.heap.size w W) => InOrder_any f sa ta va sl sc tl tc vl vc W (hf.keep h)
  unfold safOut
  cases hob : ordB f with
  | false =>
    rw [hob] at hio
    simp only [Bool.false_eq_true, if_false]
    clear hf hm
    go_enter Tryz.func7, Tryz.ntmps7
    go_wp2_with (go_at_call 20; refine (hio _ (bel1 _ _)).mono ?_; rintro e w1 ⟨rfl, hb1⟩)
    go_ret2
    exact ⟨rfl, thn3 (bel1 _ _) hb1⟩
  | true =>
    rw [hob] at hio
    simp only [if_true]
    have ho := ord_of hob
    have hch := fun (W : World) (h : Below w.heap.size w W) => ChartOf_any f ho sa ta va sl sc tl tc vl vc W (hf.keep h)
    have hok := chartOf_ok f
    have ham := fun (W : World) (h : Below w.heap.size w W) => AreMoves_all (chartOf f) hok ms W ma mc hml (fun i m hi => by obtain ⟨b, o, h1, h2, h3⟩ := hm i m hi; exact ⟨b, o, h1, cell_keep h h2, cell_keep h h3⟩)
    have hsn := fun (W : World) => Sound_any (chartOf f) hok W
    have hsf := fun (hl : ms.length ≤ 200) (W : World) (h : Below w.heap.size w W) => SafeMoves_any (chartOf f) hok ms W ma mc hl (fun i m hi => by obtain ⟨b, o, h1, h2, h3⟩ := hm i m hi; exact ⟨b, o, h1, cell_keep h h2, cell_keep h h3⟩)
    have hi6 : (Tryz.prog.info? 52).map (·.size) = some (chartOf f).cells.length := by rw [hok.len]; exact Tryz.infoCht
    have h16 : (chartOf f).cells.toArray.all (·.oneCell') = true := bits_one _
    have hCl := hok.len
    have hleam : amB (chartOf f) ms = true → ms.length ≤ 200 := fun h => by unfold amB at h; rw [Bool.and_eq_true] at h; exact of_decide_eq_true h.1
    generalize amB (chartOf f) ms = x at ham hleam
    generalize sndB (chartOf f) = y at hsn
    generalize (sfN (chartOf f) (begD (chartOf f)) ms) = z at hsf
    generalize (chartOf f).cells = C at hch ham hsn hsf hi6 h16 hCl
    have hi7 : (Tryz.prog.info? 52).map (·.size) = some C.toArray.size := by rw [List.size_toArray]; exact hi6
    have hz : ∀ W : World, (W.alloc (.cells Tryz.zeroCells52 52)).there W.heap.size 0 C.toArray.size := fun W => by
      rw [show C.toArray.size = 189 by simpa using hCl, Tryz.zeroCht]
      have := there_row (heap_box W (.cells ((List.replicate 189 false).map Value.bool).toArray 52))
      simpa using this
    have hrs : ∀ W : World, ((W.alloc (.cells Tryz.zeroCells52 52)).setCells W.heap.size 0 C).rangeAt W.heap.size 0 C := fun W => World.rangeAt_setCells_same _ W.heap.size 0 C (by simpa using hz W)
    have hbs : ∀ W : World, Below W.heap.size W ((W.alloc (.cells Tryz.zeroCells52 52)).setCells W.heap.size 0 C) := fun W => below_setCells W.heap.size (Nat.le_refl _) _ _ (belS _ _)
    have HRS := (hidMk hrs)
    have HBS := (hidMk hbs)
    have HZ := (hidMk hz)
    clear hf hm ho hok hob hCl hrs hbs hz
    have hb0 := bel1 w (.cells #[.slice sa sl sc, .slice ta tl tc, .slice va vl vc] 26)
    cases x with
    | false =>
      simp only [Bool.false_eq_true, if_false]
      clear hsn hsf hleam
      go_enter Tryz.func7, Tryz.ntmps7
      go_wp2_with (first
        | (go_at_call 20; refine (hio _ hb0).mono ?_; rintro e w1 ⟨rfl, hb1⟩; have f1 := keep3 hb1 f0)
        | (go_at_call 21; refine (hch _ (thn3 hb0 hb1)).mono ?_; rintro e w2 ⟨rfl, hb2⟩; have hz2 := HZ.out w2; have rs2 := HRS.out w2; have bs2 : Below w.heap.size w ((w2.alloc (.cells Tryz.zeroCells52 52)).setCells w2.heap.size 0 C) := thn3 (thn3 (thn3 hb0 hb1) hb2) (HBS.out w2))
        | (go_at_call 22; refine (ham _ bs2).mono ?_; rintro e w3 ⟨rfl, hb3⟩)
        | (have hq := hz2; refine wpList_store_mid rfl 52 _ _ rfl w2.heap.size 0 C.toArray rfl rfl hz2 hi7 h16 ?_)
        | (have hq := rs2; refine wpList_load_mid rfl 52 _ rfl w2.heap.size 0 rfl C _ rs2 Tryz.underlying52 rfl hi6 ?_))
      go_ret2
      exact ⟨rfl, thn3 bs2 hb3⟩
    | true =>
      simp only [if_true]
      have hsf := hsf (hleam rfl)
      cases y with
      | false =>
        simp only [Bool.false_eq_true, if_false]
        clear hsf hleam
        go_enter Tryz.func7, Tryz.ntmps7
        go_wp2_with (first
          | (go_at_call 20; refine (hio _ hb0).mono ?_; rintro e w1 ⟨rfl, hb1⟩; have f1 := keep3 hb1 f0)
          | (go_at_call 21; refine (hch _ (thn3 hb0 hb1)).mono ?_; rintro e w2 ⟨rfl, hb2⟩; have hz2 := HZ.out w2; have rs2 := HRS.out w2; have bs2 : Below w.heap.size w ((w2.alloc (.cells Tryz.zeroCells52 52)).setCells w2.heap.size 0 C) := thn3 (thn3 (thn3 hb0 hb1) hb2) (HBS.out w2))
          | (go_at_call 22; refine (ham _ bs2).mono ?_; rintro e w3 ⟨rfl, hb3⟩; have rs3 := range_keep hb3 rs2)
          | (go_at_call 23; refine (hsn _).mono ?_; rintro e w4 ⟨rfl, hb4⟩)
          | (have hq := hz2; refine wpList_store_mid rfl 52 _ _ rfl w2.heap.size 0 C.toArray rfl rfl hz2 hi7 h16 ?_)
          | (have hq := rs3; refine wpList_load_mid rfl 52 _ rfl w2.heap.size 0 rfl C _ rs3 Tryz.underlying52 rfl hi6 ?_)
          | (have hq := rs2; refine wpList_load_mid rfl 52 _ rfl w2.heap.size 0 rfl C _ rs2 Tryz.underlying52 rfl hi6 ?_))
        go_ret2
        exact ⟨rfl, thn3 (thn3 bs2 hb3) hb4⟩
      | true =>
        simp only [if_true]
        clear hleam
        go_enter Tryz.func7, Tryz.ntmps7
        go_wp2_with (first
          | (go_at_call 20; refine (hio _ hb0).mono ?_; rintro e w1 ⟨rfl, hb1⟩; have f1 := keep3 hb1 f0)
          | (go_at_call 21; refine (hch _ (thn3 hb0 hb1)).mono ?_; rintro e w2 ⟨rfl, hb2⟩; have hz2 := HZ.out w2; have rs2 := HRS.out w2; have bs2 : Below w.heap.size w ((w2.alloc (.cells Tryz.zeroCells52 52)).setCells w2.heap.size 0 C) := thn3 (thn3 (thn3 hb0 hb1) hb2) (HBS.out w2))
          | (go_at_call 22; refine (ham _ bs2).mono ?_; rintro e w3 ⟨rfl, hb3⟩; have rs3 := range_keep hb3 rs2)
          | (go_at_call 23; refine (hsn _).mono ?_; rintro e w4 ⟨rfl, hb4⟩; have rs4 := range_keep hb4 rs3)
          | (go_at_call 24; refine (hsf _ (thn3 (thn3 bs2 hb3) hb4)).mono ?_; rintro e w5 ⟨rfl, hb5⟩)
          | (have hq := hz2; refine wpList_store_mid rfl 52 _ _ rfl w2.heap.size 0 C.toArray rfl rfl hz2 hi7 h16 ?_)
          | (have hq := rs4; refine wpList_load_mid rfl 52 _ rfl w2.heap.size 0 rfl C _ rs4 Tryz.underlying52 rfl hi6 ?_)
          | (have hq := rs3; refine wpList_load_mid rfl 52 _ rfl w2.heap.size 0 rfl C _ rs3 Tryz.underlying52 rfl hi6 ?_)
          | (have hq := rs2; refine wpList_load_mid rfl 52 _ rfl w2.heap.size 0 rfl C _ rs2 Tryz.underlying52 rfl hi6 ?_))
        go_ret2
        exact ⟨rfl, thn3 (thn3 (thn3 bs2 hb3) hb4) hb5⟩
end
end Go.Proofs.YtkkekopomiehlaaGreat
