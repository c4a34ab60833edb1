import Derived.Test.YtkkekopomiehlaaGreatMSq1
import Derived.Test.YtkkekopomiehlaaGreatSr9
import Derived.Test.YtkkekopomiehlaaGreatMSf13
import Derived.Deep.RegionLaw
set_option linter.unusedVariables false
set_option linter.unusedSimpArgs false
set_option maxRecDepth 4000
namespace Go.Proofs.YtkkekopomiehlaaGreat
open Go.RowKit

theorem prAt_of {w : World} {base n : Nat} {v : Value} {l : List (Nat × Nat)} (h : w.ownsRow base 64 2 v n (prC l)) (hl : l.length = n) : ∃ a c, v = .slice a n c ∧ PrAt w a l := by
  have h0 := h
  obtain ⟨hl', h | ⟨g', cap', cur, hv', hb, hh, hc, hm, hs, ht'⟩⟩ := h
  · obtain ⟨h1, h2⟩ := h
    have hn : n = 0 := by simpa using h2
    subst hn
    refine ⟨none, 0, h1, fun i q hi => ?_⟩
    rw [List.length_eq_zero_iff.1 hl] at hi
    simp at hi
  · subst hv'
    refine ⟨_, _, rfl, fun i q hi => ⟨g', rfl, own_cell h0 (prC_get _ i q hi).1, own_cell h0 (prC_get _ i q hi).2⟩⟩
def nowL (f : FleetD) (ms : List (Int × Int)) (j s : Nat) : List (Nat × Nat) := (List.range s).map fun s => (s, (hasI (nowI f s) ms s j).toNat)
def pastL (f : FleetD) (s : Nat) : List (Nat × Nat) := (List.range s).map fun s => (s, (nowI f s).toNat)
def mvP (ms : List (Int × Int)) (i : Nat) : Nat × Nat := ((mvAt ms i).1.toNat, (mvAt ms i).2.toNat)
def goneL (f : FleetD) (ms : List (Int × Int)) (i : Nat) : List (Nat × Nat) := pastL f f.vs.length ++ (List.range i).map (mvP ms)
theorem sfe_eq {f : FleetD} {ms : List (Int × Int)} {j : Nat} : sfeB f (mvP ms j) (nowL f ms j f.vs.length) (goneL f ms j) = rsB f ms j := by
  unfold sfeB rsB nowL goneL pastL
  rw [List.all_append, List.all_map, List.all_map, List.all_map]
  rfl
theorem mvP_mem {f : FleetD} {ms : List (Int × Int)} {j : Nat} (ho : Ord f) (h : rmB f ms j = true) : mvP ms j ∈ prs f.vs ∧ mvAt ms j = (((mvP ms j).1 : Int), ((mvP ms j).2 : Int)) := by
  obtain ⟨x, y, hxy, hx, hy, _⟩ := rmB_parts ho h
  have : mvP ms j = (x, y) := by unfold mvP; rw [hxy]; simp
  rw [this, hxy]
  exact ⟨prs_mem hx hy, rfl⟩
theorem safOut_eq {f : FleetD} {ms : List (Int × Int)} (ho : Ord f) (hob : ordB f = true) : safOut f ms = if ms.length ≤ 200 ∧ (List.range ms.length).all (rmB f ms) = true then (if rndB f = true then (((rN (rsB f ms) ms.length 0 : Nat) : Int), (0 : Int)) else (0, 10)) else (0, 9) := by
  unfold safOut
  rw [if_pos hob]
  have h1 := mvs_eq (ms := ms) ho ms.length 0 _ (by omega) (Nat.zero_le _) St.zero (fun i hi => by omega)
  rw [List.drop_zero] at h1
  have ham : amB (chartOf f) ms = true ↔ ms.length ≤ 200 ∧ (List.range ms.length).all (rmB f ms) = true := by
    unfold amB; rw [Bool.and_eq_true, decide_eq_true_eq, h1]
  by_cases hc : ms.length ≤ 200 ∧ (List.range ms.length).all (rmB f ms) = true
  · rw [if_pos hc, if_pos (ham.2 hc), snd_eq ho]
    have h2 := sfN_eq (ms := ms) ho (fun i hi => List.all_eq_true.1 hc.2 i (List.mem_range.2 hi)) ms.length 0 _ (by omega) (Nat.zero_le _) St.zero
    rw [List.drop_zero, Nat.add_zero] at h2
    rw [h2]
  · rw [if_neg hc, if_neg (fun h => hc (ham.1 h))]
set_option maxHeartbeats 8000000 in
theorem rSafe_any (f : FleetD) (sa ta va : Option Addr) (sl sc tl tc vl vc : Nat) (ms : List (Int × Int)) (ma : Option Addr) (mc : Nat) (w : World) (hf : FleetAt w sa sl sc ta tl tc va vl vc f) (hml : ms.length ≤ 2000000) (hm : MvsAt w ma ms) :
    Calls Tryz.prog 10 #[.agg #[.slice sa sl sc, .slice ta tl tc, .slice va vl vc], .slice ma ms.length mc] w fun e W => e = .returned (.tuple #[.int .i64 (safOut f ms).1, .int .i64 (safOut f ms).2]) ∧ Below w.heap.size w W := by
  have f0 := box3 w (.slice sa sl sc) (.slice ta tl tc) (.slice va vl vc) 26
  have hio := fun (W : World) (h : Below w.heap.size w W) => rInOrder_any f sa ta va sl sc tl tc vl vc W (hf.keep h)
  rw [rord_eq] at hio
  have hb0 := bel1 w (.cells #[.slice sa sl sc, .slice ta tl tc, .slice va vl vc] 26)
  cases hob : ordB f with
  | false =>
    rw [hob] at hio
    rw [show safOut f ms = (0, 8) by unfold safOut; rw [if_neg (by rw [hob]; simp)]]
    clear hf hm
    go_enter Tryz.func10, Tryz.ntmps10
    go_wp2_with (go_at_call 28; refine (hio _ hb0).mono ?_; rintro e w1 ⟨rfl, hb1⟩)
    go_ret2
    exact ⟨rfl, thn3 hb0 hb1⟩
  | true =>
    rw [hob] at hio
    have ho := ord_of hob
    rw [safOut_eq ho hob]
    have hmo := fun (W : World) (h : Below w.heap.size w W) => moved_any f ho sa ta va sl sc tl tc vl vc ms ma mc W (hf.keep h) hml (hm.keep h)
    have hlo := fun (W : World) (h : Below w.heap.size w W) => Look_any f ho sa ta va sl sc tl tc vl vc W (hf.keep h)
    have hsn := fun (g : Nat) (E K : List (List Bool)) (W : World) (h : LookAt W g sa sl sc ta tl tc va vl vc f E K) => sound_any f ho sa ta va sl sc tl tc vl vc g E K W h
    by_cases hlen : ¬ ms.length ≤ 200
    · rw [if_neg (fun h => hlen h.1)]
      have hl' : (200 : Int) < (ms.length : Int) := by omega
      clear hf hm hmo hlo hsn
      go_enter Tryz.func10, Tryz.ntmps10
      go_wp2_with (go_at_call 28; refine (hio _ hb0).mono ?_; rintro e w1 ⟨rfl, hb1⟩)
      go_ret2
      exact ⟨rfl, thn3 hb0 hb1⟩
    have hlen : ms.length ≤ 200 := by omega
    cases hall : (List.range ms.length).all (rmB f ms) with
    | false =>
      rw [if_neg (by simp)]
      rw [hall] at hmo
      have hl' : (ms.length : Int) ≤ 200 := by omega
      clear hf hm hlo hsn
      go_enter Tryz.func10, Tryz.ntmps10
      go_wp2_with (first
        | (go_at_call 28; refine (hio _ hb0).mono ?_; rintro e w1 ⟨rfl, hb1⟩; have f1 := keep3 hb1 f0)
        | (go_at_call 29; refine (hmo _ (thn3 hb0 hb1)).mono ?_; rintro e w2 ⟨rfl, hb2⟩))
      go_ret2
      exact ⟨rfl, thn3 (thn3 hb0 hb1) hb2⟩
    | true =>
      rw [if_pos ⟨hlen, rfl⟩]
      rw [hall] at hmo
      have hl' : (ms.length : Int) ≤ 200 := by omega
      cases hrn : rndB f with
      | false =>
        rw [hrn] at hsn
        rw [if_neg (by simp)]
        clear hf hm
        go_enter Tryz.func10, Tryz.ntmps10
        go_wp2_with (first
          | (go_at_call 28; refine (hio _ hb0).mono ?_; rintro e w1 ⟨rfl, hb1⟩; have f1 := keep3 hb1 f0)
          | (go_at_call 29; refine (hmo _ (thn3 hb0 hb1)).mono ?_; rintro e w2 ⟨rfl, hb2⟩; have f2 := keep3 hb2 f1)
          | (go_at_call 30; refine (hlo _ (thn3 (thn3 hb0 hb1) hb2)).mono ?_; rintro e w3 ⟨g, E, K, rfl, hLk, hb3⟩; have hLk := (hidMk hLk))
          | (go_at_call 31; refine (hsn g E K _ hLk.out).mono ?_; rintro e w4 ⟨rfl, hb4⟩))
        go_ret2
        exact ⟨rfl, thn3 (thn3 (thn3 (thn3 hb0 hb1) hb2) hb3) hb4⟩
      | true =>
        rw [hrn] at hsn
        rw [if_pos rfl]
        obtain ⟨R, hR⟩ : ∃ R, R = rN (rsB f ms) ms.length 0 := ⟨_, rfl⟩
        rw [← hR]
        have HR : Hid (R = rN (rsB f ms) (ms.length - 0) 0) := hR
        have HF := (hidMk hf)
        have HM := (hidMk hm)
        have HO := (hidMk ho)
        have HALL := (hidMk (fun i (hi : i < ms.length) => List.all_eq_true.1 hall i (List.mem_range.2 hi)))
        have hv1 := hf.v1
        have h3 := ho.vs3
        obtain ⟨v1a, v1b⟩ : vl ≤ f.vs.length ∧ f.vs.length ≤ vl := by omega
        obtain ⟨ii, hii, hz0, hzz1, hzz2⟩ := info_parts Tryz.infoPair
        clear hf hm ho hall hrn hR hob hv1
        go_enter Tryz.func10, Tryz.ntmps10
        go_wp2_with (first
          | (go_at_call 28; refine (hio _ hb0).mono ?_; rintro e w1 ⟨rfl, hb1⟩; have f1 := keep3 hb1 f0)
          | (go_at_call 29; refine (hmo _ (thn3 hb0 hb1)).mono ?_; rintro e w2 ⟨rfl, hb2⟩; have f2 := keep3 hb2 f1)
          | (go_at_call 30; refine (hlo _ (thn3 (thn3 hb0 hb1) hb2)).mono ?_; rintro e w3 ⟨g, E, K, rfl, hLk, hb3⟩; have f3 := keep3 hb3 f2; have hLk := (hidMk hLk))
          | (go_at_call 31; refine (hsn g E K _ hLk.out).mono ?_; rintro e w4 ⟨rfl, hb4⟩; have f4 := keep3 hb4 f3; have HL4 := (hidMk (hLk.out.keep hb4)); have hB4 := thn3 (thn3 (thn3 (thn3 hb0 hb1) hb2) hb3) hb4))
        go_loopw [8] (fun vj wr => ∃ j : Nat, j ≤ ms.length ∧ vj = .int .i64 j ∧ Hid (R = rN (rsB f ms) (ms.length - j) j) ∧ Below w4.heap.size w4 wr) (fun j _ => ms.length - (intOf j).toNat)
        case atStart => exact ⟨0, Nat.zero_le _, rfl, HR, Below.refl _ _⟩
        case round =>
          obtain ⟨j, hj, rfl, hr, hbj⟩ := hrel
          rename World => w5
          have hbw := thn3 hB4 hbj
          obtain ⟨g0, g1, g2⟩ := keep3 hbj f4
          have hfl := lt_of_cell g0
          have hx0 : (0 : Int) ≤ (j : Int) := Int.natCast_nonneg _
          by_cases hlt : j < ms.length
          · have hx1 : (j : Int) < (ms.length : Int) := by omega
            go_wp2_with fail
            go_loopw [9, 10, 11] (fun vn vp vs wr => ∃ s : Nat, s ≤ vl ∧ vs = .int .i64 s ∧ wr.ownsRow w5.heap.size 64 2 vn s (prC (nowL f ms j s)) ∧ wr.ownsRow w5.heap.size 64 2 vp s (prC (pastL f s)) ∧ Hid ((vn.ownBlock = none ∧ vp.ownBlock = none) ∨ vn.ownBlock ≠ vp.ownBlock) ∧ Below w5.heap.size w5 wr) (fun _ _ s _ => vl - (intOf s).toNat)
            case atStart => exact ⟨0, Nat.zero_le _, rfl, World.ownsRow_nil _ _ _ _, World.ownsRow_nil _ _ _ _, .inl ⟨rfl, rfl⟩, Below.refl _ _⟩
            case round =>
              obtain ⟨s, hs, rfl, hoN, hoP, hdis, hbs⟩ := hrel
              rename World => w6
              obtain ⟨k0, k1, k2⟩ := keep3 hbs ⟨g0, g1, g2⟩
              have hy0 : (0 : Int) ≤ (s : Int) := Int.natCast_nonneg _
              by_cases hslt : s < vl
              · obtain ⟨v, hv⟩ : ∃ v, f.vs[s]? = some v := ⟨f.vs[s]'(by omega), List.getElem?_eq_getElem (by omega)⟩
                obtain ⟨b, o, ra, rl, rc, rfl, _, d1, _, _, _⟩ := HF.out.v3 s v hv
                have hyv : (s : Int) < (vl : Int) := by omega
                have hin := has_in (ms := ms) HO.out (f := f) (s := s) (by omega) j (fun i hi => HALL.out i (by omega))
                have hrl := HO.out.rl (s := s) (by omega)
                obtain ⟨hn, hhn⟩ : ∃ hn : Nat, hasI (nowI f s) ms s j = hn := ⟨(hasI (nowI f s) ms s j).toNat, by omega⟩
                obtain ⟨nn, hnn⟩ : ∃ nn : Nat, nowI f s = nn := ⟨(nowI f s).toNat, by omega⟩
                have hb6 := thn3 hbw hbs
                have hhas := fun (W : World) (h : Below w.heap.size w W) => has_any f sa ta _ sl sc tl tc vl vc ms ma mc j s v W (HF.out.keep h) hv (by omega) hml (HM.out.keep h)
                rw [← nowI_of hv, hhn] at hhas
                rw [← nowI_of hv, hnn] at d1
                have d1 := cell_keep hb6 d1
                have lN : ∀ k, u9.ownBlock = some k → w5.heap.size ≤ k ∧ k < w6.heap.size := fun k h => hoN.lt k h
                have lP : ∀ k, u10.ownBlock = some k → w5.heap.size ≤ k ∧ k < w6.heap.size := fun k h => hoP.lt k h
                have z6 := hbs.size
                have hdl := lt_of_cell d1
                have hd5 : b < w5.heap.size := by
                  obtain ⟨b', o', _, _, _, heq, q0, _, _, _, _⟩ := (HF.out.keep hbw).v3 s v hv
                  cases heq; exact lt_of_cell q0
                have nN : nowL f ms j (s + 1) = nowL f ms j s ++ [(s, hn)] := by unfold nowL; rw [List.range_succ, List.map_append]; simp [hhn]
                have nP : pastL f (s + 1) = pastL f s ++ [(s, nn)] := by unfold pastL; rw [List.range_succ, List.map_append]; simp [hnn]
                have HON := (hidMk hoN)
                have HOP := (hidMk hoP)
                have NN := (hidMk nN)
                have NP := (hidMk nP)
                have hkP : u10.ownBlock = none ∨ u10.ownBlock ≠ u9.ownBlock := by
                  rcases hdis.out with h | h
                  · exact .inl h.2
                  · exact .inr (fun e => h e.symm)
                have HKP := (hidMk hkP)
                have hn1 : some w.heap.size ≠ u9.ownBlock := fun e => by have := (lN _ e.symm).1; have := hbj.size; have := lt_of_cell g0; omega
                have hn2 : some b ≠ u9.ownBlock := fun e => by have := (lN _ e.symm).1; omega
                clear hoN hoP hv hin hrl hhn hnn nN nP hkP
                go_wp2_with (first
                  | (go_at_call 32; refine (hhas _ hb6).mono ?_; rintro e w7 ⟨rfl, hb7⟩; have hz7 : w6.heap.size ≤ w7.heap.size := hb7.size)
                  | (at_builtin; have hq := hgrow1; (refine wpList_append_lies _ rfl _ _ _ rfl w5.heap.size 64 ii _ 2 16 Tryz.underlying61 hii hz0 hzz1 hzz2 rfl (by omega) u10 s _ rfl (hoP8.alloc _) ⟨w8.heap.size, 0, none⟩ 1 1 [.int .i64 s, .int .i64 nn] rfl rfl (World.news_of_block (heap_alloc_new w8 _)) (by simp [Value.oneCell']) (by omega) (by unfold maxLen; omega) (by omega) (by simp; omega) (w8.heap.size + 1) (by simp) ?_; intro g2' cap2 w9 hown2 hgrow2 hat2 hlt2))
                  | (at_builtin; refine wpList_append_lies _ rfl _ _ _ rfl w5.heap.size 64 ii _ 2 16 Tryz.underlying61 hii hz0 hzz1 hzz2 rfl (by omega) u9 s _ rfl ((own_keep HON.out hb7).alloc _) ⟨w7.heap.size, 0, none⟩ 1 1 [.int .i64 s, .int .i64 hn] rfl rfl (World.news_of_block (heap_alloc_new w7 _)) (by simp [Value.oneCell']) (by omega) (by unfold maxLen; omega) (by omega) (by simp; omega) (w7.heap.size + 1) (by simp) ?_; intro g1' cap1 w8 hown1 hgrow1 hat1 hlt1; have hz8 : w7.heap.size + 1 ≤ w8.heap.size := (by have := hgrow1.size; simp at this; omega); have hoP8 := ((own_keep HOP.out hb7).alloc (.cells #[.int .i64 s, .int .i64 hn] 64)).kept hgrow1 HKP.out; have q2 : w8.cell? ⟨w.heap.size, 2, none⟩ = _ := hgrow1.cell (cell_new _ (cell_keep hb7 k2)) hn1; have q3 : w8.cell? ⟨b, o + s * 4 + 1, none⟩ = _ := hgrow1.cell (cell_new _ (cell_keep hb7 d1)) hn2))
                go_roundw
                case rel =>
                  have hne1 : some g1' ≠ u10.ownBlock := fun e => by
                    rcases hat1 with h1 | h1
                    · rcases hdis.out with h | h
                      · rw [h.1] at h1; cases h1
                      · exact h (h1.trans e)
                    · have := (lP g1' e.symm).2; omega
                  have hne12 : some g1' ≠ some g2' := fun e => by
                    rcases hat2 with h2 | h2
                    · exact hne1 (e.trans h2.symm)
                    · simp at e
                      rcases hat1 with h1 | h1
                      · have := (lN g1' h1).2; omega
                      · omega
                  refine ⟨s + 1, by omega, by go_num, ?_, ?_, .inr hne12, ?_⟩
                  · rw [NN.out, prC_app]; exact (hown1.alloc _).kept hgrow2 (.inr hne1)
                  · rw [NP.out, prC_app]; exact hown2
                  · exact Below.grown ((Below.grown ((hbs.trans (hb7.mono z6)).alloc (by omega) _) hgrow1 (by simp; omega) (fun k hk => (lN k hk).1)).alloc (by omega) _) hgrow2 (by simp; omega) (fun k hk => (lP k hk).1)
                case measure => simp [intOf]; omega
              · have hse : s = f.vs.length := by omega
                have hoN' : w6.ownsRow w5.heap.size 64 2 u9 vl (prC (nowL f ms j f.vs.length)) := by rw [← hse, show vl = s by omega]; exact hoN
                have hoP' : w6.ownsRow w5.heap.size 64 2 u10 (vl + 0) (prC (goneL f ms 0)) := by
                  have : goneL f ms 0 = pastL f s := by unfold goneL; rw [hse]; simp
                  rw [this, Nat.add_zero, show vl = s by omega]; exact hoP
                have HON := (hidMk hoN')
                have HOP := (hidMk hoP')
                have hz6 := hbs.size
                clear hoN hoP hoN' hoP' hse
                go_wp2_with fail
                go_loopw [10, 12] (fun vp vi wr => ∃ i : Nat, i ≤ j ∧ vi = .int .i64 i ∧ wr.ownsRow w5.heap.size 64 2 vp (vl + i) (prC (goneL f ms i)) ∧ Hid (wr.ownsRow w5.heap.size 64 2 u9 vl (prC (nowL f ms j f.vs.length))) ∧ Hid ((u9.ownBlock = none ∧ vp.ownBlock = none) ∨ u9.ownBlock ≠ vp.ownBlock) ∧ Below w5.heap.size w5 wr) (fun _ i _ => j - (intOf i).toNat)
                case atStart => exact ⟨0, Nat.zero_le _, rfl, HOP.out, HON, hdis, hbs⟩
                case round =>
                  clear hdis hbs HON HOP k0 k1 k2
                  obtain ⟨i, hi, rfl, hoP, hoN, hdis, hbs⟩ := hrel
                  rename World => w7
                  have hz7 := hbs.size
                  have lP : ∀ k, u10.ownBlock = some k → w5.heap.size ≤ k ∧ k < w7.heap.size := fun k h => hoP.lt k h
                  have lN : ∀ k, u9.ownBlock = some k → w5.heap.size ≤ k ∧ k < w7.heap.size := fun k h => hoN.out.lt k h
                  have hu0 : (0 : Int) ≤ (i : Int) := Int.natCast_nonneg _
                  have hb7 := thn3 hbw hbs
                  by_cases hilt : i < j
                  · obtain ⟨m, hmi⟩ : ∃ m, ms[i]? = some m := ⟨ms[i]'(by omega), List.getElem?_eq_getElem (by omega)⟩
                    obtain ⟨bm, om, rfl, e0, e1⟩ := HM.out i m hmi
                    have hbm5 : bm < w5.heap.size := lt_of_cell (cell_keep hbw e0)
                    have hmv : mvAt ms i = m := by simp [mvAt, List.getD, hmi]
                    obtain ⟨_, hmp⟩ := mvP_mem HO.out (HALL.out i (by omega))
                    rw [hmv] at hmp
                    rw [hmp] at e0 e1
                    have e0 := cell_keep hb7 e0
                    have e1 := cell_keep hb7 e1
                    have hel := lt_of_cell e0
                    have hu1 : (i : Int) < (ms.length : Int) := by omega
                    have nG : goneL f ms (i + 1) = goneL f ms i ++ [mvP ms i] := by unfold goneL; rw [List.range_succ, List.map_append, List.append_assoc]; rfl
                    have NG := (hidMk nG)
                    have HOP := (hidMk hoP)
                    simp only at e0 e1
                    clear nG hoP hmi hmv hmp
                    generalize (mvP ms i) = q at e0 e1 NG
                    have hgne : some bm ≠ u10.ownBlock := fun e => by
                      have := (lP _ e.symm).1
                      have := hbm5
                      omega
                    go_wp2_with fail
                    go_region_held3 (fun w' => w'.cell? ⟨bm, om + i * 2, none⟩ = some (.int .i64 q.1) ∧ w'.cell? ⟨bm, om + i * 2 + 1, none⟩ = some (.int .i64 q.2)) (first | go_keep | exact ⟨hgrow2.cell (cell_new _ e0) hgne, hgrow2.cell (cell_new _ e1) hgne⟩)
                      (first | (refine step_append_lies _ (by rfl) _ _ _ (by rfl) w5.heap.size 64 ii _ 2 16 Tryz.underlying61 hii hz0 hzz1 hzz2 rfl (by omega) u10 (vl + i) _ (by rfl) (HOP.out.drew.alloc _) ⟨w7.heap.size, 0, none⟩ 1 1 [.int .i64 q.1, .int .i64 q.2] (by rfl) (by rfl) (World.news_of_block (heap_alloc_new w7.drew _)) (by simp [Value.oneCell']) (by omega) (by unfold maxLen; omega) (by omega) (by simp; omega) (w7.heap.size + 1) (by simp) ?_; intro g2' cap2 w9 hown2 hgrow2 hat2 hlt2))
                    go_wp2_with fail
                    go_roundw
                    case rel =>
                      have hkN : u9.ownBlock = none ∨ u9.ownBlock ≠ u10.ownBlock := by
                        rcases hdis.out with h | h
                        · exact .inl h.1
                        · exact .inr h
                      have hne : u9.ownBlock ≠ some g2' := fun e => by
                        rcases hat2 with h2 | h2
                        · rcases hdis.out with h | h
                          · rw [h.1] at e; cases e
                          · exact h (e.trans h2.symm)
                        · have := (lN _ e).2; omega
                      refine ⟨i + 1, by omega, by go_num, ?_, (hoN.out.drew.alloc _).kept hgrow2 hkN, .inr hne, ?_⟩
                      · rw [NG.out, prC_app, ← Nat.add_assoc]; exact hown2
                      · exact Below.grown (hbs.drew.alloc hz7 _) hgrow2 (by simp; omega) (fun k hk => (lP k hk).1)
                    case measure => simp [intOf]; omega
                  · have hie : i = j := by omega
                    subst hie
                    have hvs1 := HO.out.vs1
                    obtain ⟨na, nc, hvn, hpn⟩ := prAt_of hoN.out (by unfold nowL; rw [List.length_map, List.length_range]; omega)
                    obtain ⟨qa, qc, hvp, hpp⟩ := prAt_of hoP (by unfold goneL pastL; rw [List.length_append, List.length_map, List.length_map, List.length_range, List.length_range]; omega)
                    obtain ⟨m, hmi⟩ : ∃ m, ms[i]? = some m := ⟨ms[i]'(by omega), List.getElem?_eq_getElem (by omega)⟩
                    obtain ⟨bm, om, rfl, e0, e1⟩ := HM.out i m hmi
                    have hmv : mvAt ms i = m := by simp [mvAt, List.getD, hmi]
                    obtain ⟨hpm, hmp⟩ := mvP_mem HO.out (HALL.out i (by omega))
                    rw [hmv] at hmp
                    rw [hmp] at e0 e1
                    have e0 := cell_keep hb7 e0
                    have e1 := cell_keep hb7 e1
                    have hel := lt_of_cell e0
                    simp only at e0 e1
                    have hLk7 := HL4.out.keep (thn3 hbj hbs)
                    have hl1 : (nowL f ms i f.vs.length).length = vl := by unfold nowL; rw [List.length_map, List.length_range]; omega
                    have hl2 : (goneL f ms i).length = vl + i := by unfold goneL pastL; rw [List.length_append, List.length_map, List.length_map, List.length_range, List.length_range]; omega
                    have hn1 : ∀ q ∈ nowL f ms i f.vs.length, q ∈ prs f.vs := fun q hq => by
                      unfold nowL at hq
                      obtain ⟨t, ht, rfl⟩ := List.mem_map.1 hq
                      have ht := List.mem_range.1 ht
                      have := has_in (ms := ms) HO.out (f := f) ht i (fun k hk => HALL.out k (by omega))
                      exact prs_mem ht (by omega)
                    have hn2 : ∀ q ∈ goneL f ms i, q ∈ prs f.vs := fun q hq => by
                      unfold goneL pastL at hq
                      rcases List.mem_append.1 hq with h | h
                      · obtain ⟨t, ht, rfl⟩ := List.mem_map.1 h
                        have ht := List.mem_range.1 ht
                        have := HO.out.rl (f := f) ht
                        exact prs_mem ht (by omega)
                      · obtain ⟨t, ht, rfl⟩ := List.mem_map.1 h
                        have ht := List.mem_range.1 ht
                        exact (mvP_mem HO.out (HALL.out t (by omega))).1
                    have hsafe := fun (W : World) (h : Below w7.heap.size w7 W) => safe_any f HO.out sa ta va sl sc tl tc vl vc g E K W (hLk7.keep h) (mvP ms i) hpm (nowL f ms i f.vs.length) (goneL f ms i) hn1 hn2 na qa nc qc (by omega) (by omega) (hpn.keep h) (hpp.keep h)
                    rw [hl1, hl2, sfe_eq, ← hvn, ← hvp] at hsafe
                    have hstep : rN (rsB f ms) (ms.length - i) i = if rsB f ms i = true then rN (rsB f ms) (ms.length - (i + 1)) (i + 1) else i := by
                      rw [show ms.length - i = (ms.length - (i + 1)) + 1 by omega, rN]
                    have hr2 := hr.out
                    rw [hstep] at hr2
                    have HR2 := (hidMk hr2)
                    clear hr hr2 hstep hl1 hl2 hn1 hn2 hLk7 hpn hpp hmi hmv hmp hvn hvp hoN hoP
                    generalize rsB f ms i = x at hsafe HR2
                    generalize (mvP ms i) = q at e0 e1 hsafe
                    cases x with
                    | true =>
                      have HR3 : Hid (R = rN (rsB f ms) (ms.length - (i + 1)) (i + 1)) := by show _ = _; rw [HR2.out, if_pos rfl]
                      clear HR2
                      go_wp2_with fail
                      go_region_held3 (fun w' => w'.cell? ⟨bm, om + i * 2, none⟩ = some (.int .i64 q.1) ∧ w'.cell? ⟨bm, om + i * 2 + 1, none⟩ = some (.int .i64 q.2)) (go_keep) (first | (go_at_call 33; refine (hsafe _ (Below.refl _ _).drew).mono ?_; rintro e w9 ⟨rfl, hb9⟩; have j1 := cell_keep hb9 e0; have j2 := cell_keep hb9 e1))
                      go_wp2_with fail
                      go_roundw
                      case rel => exact ⟨i + 1, by omega, by go_num, HR3, thn3 (thn3 hbj hbs).drew hb9⟩
                      case measure => simp [intOf]; omega
                    | false =>
                      have hR1 : i = R := by rw [HR2.out, if_neg (by simp)]
                      clear HR2
                      subst hR1
                      go_wp2_with fail
                      go_region_held3 (fun w' => w'.cell? ⟨bm, om + i * 2, none⟩ = some (.int .i64 q.1) ∧ w'.cell? ⟨bm, om + i * 2 + 1, none⟩ = some (.int .i64 q.2)) (go_keep) (first | (go_at_call 33; refine (hsafe _ (Below.refl _ _).drew).mono ?_; rintro e w9 ⟨rfl, hb9⟩; have j1 := cell_keep hb9 e0; have j2 := cell_keep hb9 e1))
                      go_wp2_with fail
                      go_ret2
                      exact ⟨rfl, thn3 hb7.drew hb9⟩
          · have hR1 : R = ms.length := by have := hr.out; rw [show ms.length - j = 0 by omega, rN] at this; omega
            clear hr HR
            subst hR1
            go_wp2_with fail
            go_ret2
            exact ⟨rfl, hbw⟩
end Go.Proofs.YtkkekopomiehlaaGreat
