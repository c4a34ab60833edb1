import Derived.Test.YtkkekopomiehlaaGreatMSq1
set_option linter.unusedVariables false
set_option linter.unusedSimpArgs false
set_option maxRecDepth 4000
namespace Go.Proofs.YtkkekopomiehlaaGreat
open Go.RowKit

theorem z1 {α : Type} (l : List α) (i : Nat) (a : α) : l.toArray.setIfInBounds i a = (l.set i a).toArray := List.setIfInBounds_toArray ..
theorem z2 {α : Type} {a b : α} {l : List α} : (a :: l).set 0 b = b :: l := List.set_cons_zero ..
theorem z3 {α : Type} {a b : α} {l : List α} {i : Nat} : (a :: l).set (i + 1) b = a :: l.set i b := List.set_cons_succ ..
theorem z4 {α : Type} {l : List α} {i : Nat} (h : i < l.toArray.size) : l.toArray[i] = l[i]'(by simpa using h) := List.getElem_toArray ..
theorem z5 {α : Type} {a : α} {l : List α} (h : 0 < (a :: l).length) : (a :: l)[0] = a := List.getElem_cons_zero ..
theorem z6 {α : Type} {a : α} {l : List α} {i : Nat} (h : i + 1 < (a :: l).length) : (a :: l)[i + 1] = l[i]'(Nat.lt_of_succ_lt_succ h) := List.getElem_cons_succ ..
set_option maxHeartbeats 4000000 in
theorem moved_any (f : FleetD) (ho : Ord f) (sa ta va : Option Addr) (sl sc tl tc vl vc : Nat) (ms : List (Int × Int)) (ma : Option Addr) (mc : Nat) (w : World) (hf : FleetAt w sa sl sc ta tl tc va vl vc f) (hml : ms.length ≤ 2000000) (hm : MvsAt w ma ms) :
    Calls Tryz.prog 29 #[.agg #[.slice sa sl sc, .slice ta tl tc, .slice va vl vc], .slice ma ms.length mc] w fun e W => e = .returned (.bool ((List.range ms.length).all (rmB f ms))) ∧ Below w.heap.size w W := by
  have hv1 := hf.v1
  have h3 := ho.vs3
  obtain ⟨v1a, v1b⟩ : vl ≤ f.vs.length ∧ f.vs.length ≤ vl := by omega
  obtain ⟨R, hR⟩ : ∃ R, R = (List.range ms.length).all (rmB f ms) := ⟨_, rfl⟩
  rw [← hR]
  have HR := (hidMk hR)
  have HF := (hidMk hf)
  have HO := (hidMk ho)
  have HM := (hidMk hm)
  clear hR hf ho hm hv1
  have hb0 := bel1 w (.cells #[.slice sa sl sc, .slice ta tl tc, .slice va vl vc] 26)
  have f0 := box3 w (.slice sa sl sc) (.slice ta tl tc) (.slice va vl vc) 26
  go_enter Tryz.func29, Tryz.ntmps29
  go_wp2_with fail
  go_loopw [5] (fun vj wr => ∃ j : Nat, j ≤ ms.length ∧ vj = .int .i64 j ∧ Hid ((List.range j).all (rmB f ms) = true) ∧ Below (w.alloc (.cells #[.slice sa sl sc, .slice ta tl tc, .slice va vl vc] 26)).heap.size (w.alloc (.cells #[.slice sa sl sc, .slice ta tl tc, .slice va vl vc] 26)) wr) (fun j _ => ms.length - (intOf j).toNat)
  case atStart => exact ⟨0, Nat.zero_le _, rfl, (by show _ = _; rfl), Below.refl _ _⟩
  case round =>
    obtain ⟨j, hj, rfl, hal, hb⟩ := hrel
    have hbw := thn3 hb0 hb
    obtain ⟨f0r, f1r, f2r⟩ := keep3 hb f0
    have hfl := lt_of_cell f0r
    have hx0 : (0 : Int) ≤ (j : Int) := Int.natCast_nonneg _
    by_cases hlt : j < ms.length
    · obtain ⟨m, hmj⟩ : ∃ m, ms[j]? = some m := ⟨ms[j], List.getElem?_eq_getElem hlt⟩
      obtain ⟨b, o, rfl, d0, d1⟩ := HM.out j m hmj
      have hmv : mvAt ms j = m := by simp [mvAt, List.getD, hmj]
      obtain ⟨x, y⟩ := m
      simp only at d0 d1
      have d0 := cell_keep hbw d0
      have d1 := cell_keep hbw d1
      have hbl := lt_of_cell d0
      have hx1 : (j : Int) < (ms.length : Int) := by omega
      have hsn := all_rng (rmB f ms) j
      rw [hal.out, Bool.true_and] at hsn
      have hno : rmB f ms j = false → R = false := fun h => by rw [HR.out]; exact all_rng_no hlt h
      have hrm : rmB f ms j = ((numB x f.vs.length && numB y (rlen f.vs x.toNat)) && !(hasI (nowI f x.toNat) ms x j == y)) := by unfold rmB; rw [hmv]
      rw [hrm] at hsn hno
      have HSN := (hidMk hsn)
      have HNO := (hidMk hno)
      clear hsn hno hal hmj hmv hrm HR
      have mb := box2 wr (.int .i64 x) (.int .i64 y) 46
      obtain ⟨m0, m1⟩ := mb
      have f2n := cell_new (.cells #[.int .i64 x, .int .i64 y] 46) f2r
      have hbm := thn3 hbw (bel1 wr (.cells #[.int .i64 x, .int .i64 y] 46))
      by_cases c1 : x < 0
      · have hR1 : R = false := HNO.out (by rw [show numB x f.vs.length = false by unfold numB; simp; omega]; rfl)
        subst hR1
        go_wp2_with fail
        refine wp_region_held_drew (S := (fun w' => (w'.cell? ⟨wr.heap.size, 0, none⟩ = some (.int .i64 x) ∧ w'.cell? ⟨wr.heap.size, 1, none⟩ = some (.int .i64 y)) ∧ w'.cell? ⟨w.heap.size, 2, none⟩ = some (.slice va vl vc) ∧ True)) (by kernel_rfl) ⟨⟨m0, m1⟩, f2n, trivial⟩ (fun hH => ?_)
        refine wpAnyH_take (i := 0) (v := ?_) rfl (by kernel_rfl) (by kernel_rfl) (by kernel_rfl) (fun _ _ _ h => h) (.inl ⟨by rfl, ?_⟩) hH ?_
        rotate_left
        · intro w' hS'; obtain ⟨⟨hk1, hk2⟩, hk3, hk4⟩ := hS'; go_simp <;> (try with_reducible rfl)
        simp only [Act.put, z1, z2, z3, z4, z5, z6]
        refine wpAnyH_take (i := 1) (v := ?_) rfl (by kernel_rfl) (by kernel_rfl) (by kernel_rfl) (fun _ _ _ h => h) (.inl ⟨by rfl, ?_⟩) hH ?_
        rotate_left
        · intro w' hS'; obtain ⟨⟨hk1, hk2⟩, hk3, hk4⟩ := hS'; go_simp <;> (try with_reducible rfl)
        simp only [Act.put, z1, z2, z3, z4, z5, z6]
        refine wpAnyH_take (i := 2) (v := .bool true) rfl (by kernel_rfl) (by kernel_rfl) (by kernel_rfl) (fun _ _ _ h => h) (.inl ⟨by rfl, ?_⟩) hH ?_
        · intro w' hS'; obtain ⟨⟨hk1, hk2⟩, hk3, hk4⟩ := hS'; go_simp <;> (first | (simp; omega) | simp | omega)
        simp only [Act.put, z1, z2, z3, z4, z5, z6]
        refine wpAnyH_take (i := 3) (v := ?_) rfl (by kernel_rfl) (by kernel_rfl) (by kernel_rfl) (fun _ _ _ h => h) (.inl ⟨by rfl, ?_⟩) hH ?_
        rotate_left
        · intro w' hS'; obtain ⟨⟨hk1, hk2⟩, hk3, hk4⟩ := hS'; go_simp <;> (try with_reducible rfl)
        simp only [Act.put, z1, z2, z3, z4, z5, z6]
        refine wpAnyH_take (i := 4) (v := undef) rfl (by kernel_rfl) (by kernel_rfl) (by kernel_rfl) (fun _ _ _ h => h) (Or.inr ⟨by rfl, rfl⟩) hH ?_
        simp only [Act.put, z1, z2, z3, z4, z5, z6]
        refine wpAnyH_take (i := 5) (v := undef) rfl (by kernel_rfl) (by kernel_rfl) (by kernel_rfl) (fun _ _ _ h => h) (Or.inr ⟨by rfl, rfl⟩) hH ?_
        simp only [Act.put, z1, z2, z3, z4, z5, z6]
        refine wpAnyH_take (i := 6) (v := undef) rfl (by kernel_rfl) (by kernel_rfl) (by kernel_rfl) (fun _ _ _ h => h) (Or.inr ⟨by rfl, rfl⟩) hH ?_
        simp only [Act.put, z1, z2, z3, z4, z5, z6]
        refine wpAnyH_take (i := 7) (v := undef) rfl (by kernel_rfl) (by kernel_rfl) (by kernel_rfl) (fun _ _ _ h => h) (Or.inr ⟨by rfl, rfl⟩) hH ?_
        simp only [Act.put, z1, z2, z3, z4, z5, z6]
        refine wpAnyH_take (i := 8) (v := undef) rfl (by kernel_rfl) (by kernel_rfl) (by kernel_rfl) (fun _ _ _ h => h) (Or.inr ⟨by rfl, rfl⟩) hH ?_
        simp only [Act.put, z1, z2, z3, z4, z5, z6]
        refine wpAnyH_take (i := 9) (v := undef) rfl (by kernel_rfl) (by kernel_rfl) (by kernel_rfl) (fun _ _ _ h => h) (Or.inr ⟨by rfl, rfl⟩) hH ?_
        simp only [Act.put, z1, z2, z3, z4, z5, z6]
        refine wpAnyH_take (i := 10) (v := ?_) rfl (by kernel_rfl) (by kernel_rfl) (by kernel_rfl) (fun _ _ _ h => h) (.inl ⟨by rfl, ?_⟩) hH ?_
        rotate_left
        · intro w' hS'; obtain ⟨⟨hk1, hk2⟩, hk3, hk4⟩ := hS'; go_simp <;> (try with_reducible rfl)
        simp only [Act.put, z1, z2, z3, z4, z5, z6]
        refine wpAnyH_take (i := 11) (v := ?_) rfl (by kernel_rfl) (by kernel_rfl) (by kernel_rfl) (fun _ _ _ h => h) (.inl ⟨by rfl, ?_⟩) hH ?_
        rotate_left
        · intro w' hS'; obtain ⟨⟨hk1, hk2⟩, hk3, hk4⟩ := hS'; go_simp <;> (try with_reducible rfl)
        simp only [Act.put, z1, z2, z3, z4, z5, z6]
        refine wpAnyH_take (i := 12) (v := undef) rfl (by kernel_rfl) (by kernel_rfl) (by kernel_rfl) (fun _ _ _ h => h) (Or.inr ⟨by rfl, rfl⟩) hH ?_
        simp only [Act.put, z1, z2, z3, z4, z5, z6]
        refine wpAnyH_take (i := 13) (v := undef) rfl (by kernel_rfl) (by kernel_rfl) (by kernel_rfl) (fun _ _ _ h => h) (Or.inr ⟨by rfl, rfl⟩) hH ?_
        simp only [Act.put, z1, z2, z3, z4, z5, z6]
        refine wpAnyH_take (i := 14) (v := undef) rfl (by kernel_rfl) (by kernel_rfl) (by kernel_rfl) (fun _ _ _ h => h) (Or.inr ⟨by rfl, rfl⟩) hH ?_
        simp only [Act.put, z1, z2, z3, z4, z5, z6]
        refine wpAnyH_take (i := 15) (v := ?_) rfl (by kernel_rfl) (by kernel_rfl) (by kernel_rfl) (fun _ _ _ h => h) (.inl ⟨by rfl, ?_⟩) hH ?_
        rotate_left
        · intro w' hS'; obtain ⟨⟨hk1, hk2⟩, hk3, hk4⟩ := hS'; go_simp <;> (try with_reducible rfl)
        simp only [Act.put, z1, z2, z3, z4, z5, z6]
        refine wpAnyH_take (i := 16) (v := ?_) rfl (by kernel_rfl) (by kernel_rfl) (by kernel_rfl) (fun _ _ _ h => h) (.inl ⟨by rfl, ?_⟩) hH ?_
        rotate_left
        · intro w' hS'; obtain ⟨⟨hk1, hk2⟩, hk3, hk4⟩ := hS'; go_simp <;> (try with_reducible rfl)
        simp only [Act.put, z1, z2, z3, z4, z5, z6]
        refine wpAnyH_take (i := 17) (v := undef) rfl (by kernel_rfl) (by kernel_rfl) (by kernel_rfl) (fun _ _ _ h => h) (Or.inr ⟨by rfl, rfl⟩) hH ?_
        simp only [Act.put, z1, z2, z3, z4, z5, z6]
        refine wpAnyH_take (i := 18) (v := undef) rfl (by kernel_rfl) (by kernel_rfl) (by kernel_rfl) (fun _ _ _ h => h) (Or.inr ⟨by rfl, rfl⟩) hH ?_
        simp only [Act.put, z1, z2, z3, z4, z5, z6]
        refine wpAnyH_take (i := 19) (v := undef) rfl (by kernel_rfl) (by kernel_rfl) (by kernel_rfl) (fun _ _ _ h => h) (Or.inr ⟨by rfl, rfl⟩) hH ?_
        simp only [Act.put, z1, z2, z3, z4, z5, z6]
        refine wpAnyH_take (i := 20) (v := undef) rfl (by kernel_rfl) (by kernel_rfl) (by kernel_rfl) (fun _ _ _ h => h) (Or.inr ⟨by rfl, rfl⟩) hH ?_
        simp only [Act.put, z1, z2, z3, z4, z5, z6]
        refine wpAnyH_take (i := 21) (v := undef) rfl (by kernel_rfl) (by kernel_rfl) (by kernel_rfl) (fun _ _ _ h => h) (Or.inr ⟨by rfl, rfl⟩) hH ?_
        simp only [Act.put, z1, z2, z3, z4, z5, z6]
        refine wpAnyH_take (i := 22) (v := undef) rfl (by kernel_rfl) (by kernel_rfl) (by kernel_rfl) (fun _ _ _ h => h) (Or.inr ⟨by rfl, rfl⟩) hH ?_
        simp only [Act.put, z1, z2, z3, z4, z5, z6]
        refine wpAnyH_take (i := 23) (v := undef) rfl (by kernel_rfl) (by kernel_rfl) (by kernel_rfl) (fun _ _ _ h => h) (Or.inr ⟨by rfl, rfl⟩) hH ?_
        simp only [Act.put, z1, z2, z3, z4, z5, z6]
        refine wpAnyH_take (i := 24) (v := undef) rfl (by kernel_rfl) (by kernel_rfl) (by kernel_rfl) (fun _ _ _ h => h) (Or.inr ⟨by rfl, rfl⟩) hH ?_
        simp only [Act.put, z1, z2, z3, z4, z5, z6]
        refine wpAnyH_take (i := 25) (v := undef) rfl (by kernel_rfl) (by kernel_rfl) (by kernel_rfl) (fun _ _ _ h => h) (Or.inr ⟨by rfl, rfl⟩) hH ?_
        simp only [Act.put, z1, z2, z3, z4, z5, z6]
        refine wpAnyH_take (i := 26) (v := undef) rfl (by kernel_rfl) (by kernel_rfl) (by kernel_rfl) (fun _ _ _ h => h) (Or.inr ⟨by rfl, rfl⟩) hH ?_
        simp only [Act.put, z1, z2, z3, z4, z5, z6]
        refine wpAnyH_take (i := 27) (v := undef) rfl (by kernel_rfl) (by kernel_rfl) (by kernel_rfl) (fun _ _ _ h => h) (Or.inr ⟨by rfl, rfl⟩) hH ?_
        simp only [Act.put, z1, z2, z3, z4, z5, z6]
        refine wpAnyH_take (i := 28) (v := ?_) rfl (by kernel_rfl) (by kernel_rfl) (by kernel_rfl) (fun _ _ _ h => h) (.inl ⟨by rfl, ?_⟩) hH ?_
        rotate_left
        · intro w' hS'; obtain ⟨⟨hk1, hk2⟩, hk3, hk4⟩ := hS'; go_simp <;> (try with_reducible rfl)
        simp only [Act.put, z1, z2, z3, z4, z5, z6]
        refine wpAnyH_done (by kernel_rfl) ?_ _
        clear hH
        go_wp2_with fail
        go_ret
        exact ⟨rfl, hbm.drew⟩
      by_cases c2 : (vl : Int) ≤ x
      · have hR1 : R = false := HNO.out (by rw [show numB x f.vs.length = false by unfold numB; simp; omega]; rfl)
        subst hR1
        go_wp2_with fail
        refine wp_region_held_drew (S := (fun w' => (w'.cell? ⟨wr.heap.size, 0, none⟩ = some (.int .i64 x) ∧ w'.cell? ⟨wr.heap.size, 1, none⟩ = some (.int .i64 y)) ∧ w'.cell? ⟨w.heap.size, 2, none⟩ = some (.slice va vl vc) ∧ True)) (by kernel_rfl) ⟨⟨m0, m1⟩, f2n, trivial⟩ (fun hH => ?_)
        refine wpAnyH_take (i := 0) (v := ?_) rfl (by kernel_rfl) (by kernel_rfl) (by kernel_rfl) (fun _ _ _ h => h) (.inl ⟨by rfl, ?_⟩) hH ?_
        rotate_left
        · intro w' hS'; obtain ⟨⟨hk1, hk2⟩, hk3, hk4⟩ := hS'; go_simp <;> (try with_reducible rfl)
        simp only [Act.put, z1, z2, z3, z4, z5, z6]
        refine wpAnyH_take (i := 1) (v := ?_) rfl (by kernel_rfl) (by kernel_rfl) (by kernel_rfl) (fun _ _ _ h => h) (.inl ⟨by rfl, ?_⟩) hH ?_
        rotate_left
        · intro w' hS'; obtain ⟨⟨hk1, hk2⟩, hk3, hk4⟩ := hS'; go_simp <;> (try with_reducible rfl)
        simp only [Act.put, z1, z2, z3, z4, z5, z6]
        refine wpAnyH_take (i := 2) (v := .bool false) rfl (by kernel_rfl) (by kernel_rfl) (by kernel_rfl) (fun _ _ _ h => h) (.inl ⟨by rfl, ?_⟩) hH ?_
        · intro w' hS'; obtain ⟨⟨hk1, hk2⟩, hk3, hk4⟩ := hS'; go_simp <;> (first | (simp; omega) | simp | omega)
        simp only [Act.put, z1, z2, z3, z4, z5, z6]
        refine wpAnyH_take (i := 3) (v := ?_) rfl (by kernel_rfl) (by kernel_rfl) (by kernel_rfl) (fun _ _ _ h => h) (.inl ⟨by rfl, ?_⟩) hH ?_
        rotate_left
        · intro w' hS'; obtain ⟨⟨hk1, hk2⟩, hk3, hk4⟩ := hS'; go_simp <;> (try with_reducible rfl)
        simp only [Act.put, z1, z2, z3, z4, z5, z6]
        refine wpAnyH_take (i := 4) (v := ?_) rfl (by kernel_rfl) (by kernel_rfl) (by kernel_rfl) (fun _ _ _ h => h) (.inl ⟨by rfl, ?_⟩) hH ?_
        rotate_left
        · intro w' hS'; obtain ⟨⟨hk1, hk2⟩, hk3, hk4⟩ := hS'; go_simp <;> (try with_reducible rfl)
        simp only [Act.put, z1, z2, z3, z4, z5, z6]
        refine wpAnyH_take (i := 5) (v := ?_) rfl (by kernel_rfl) (by kernel_rfl) (by kernel_rfl) (fun _ _ _ h => h) (.inl ⟨by rfl, ?_⟩) hH ?_
        rotate_left
        · intro w' hS'; obtain ⟨⟨hk1, hk2⟩, hk3, hk4⟩ := hS'; go_simp <;> (try with_reducible rfl)
        simp only [Act.put, z1, z2, z3, z4, z5, z6]
        refine wpAnyH_take (i := 6) (v := ?_) rfl (by kernel_rfl) (by kernel_rfl) (by kernel_rfl) (fun _ _ _ h => h) (.inl ⟨by rfl, ?_⟩) hH ?_
        rotate_left
        · intro w' hS'; obtain ⟨⟨hk1, hk2⟩, hk3, hk4⟩ := hS'; go_simp <;> (try with_reducible rfl)
        simp only [Act.put, z1, z2, z3, z4, z5, z6]
        refine wpAnyH_take (i := 7) (v := ?_) rfl (by kernel_rfl) (by kernel_rfl) (by kernel_rfl) (fun _ _ _ h => h) (.inl ⟨by rfl, ?_⟩) hH ?_
        rotate_left
        · intro w' hS'; obtain ⟨⟨hk1, hk2⟩, hk3, hk4⟩ := hS'; go_simp <;> (try with_reducible rfl)
        simp only [Act.put, z1, z2, z3, z4, z5, z6]
        refine wpAnyH_take (i := 8) (v := ?_) rfl (by kernel_rfl) (by kernel_rfl) (by kernel_rfl) (fun _ _ _ h => h) (.inl ⟨by rfl, ?_⟩) hH ?_
        rotate_left
        · intro w' hS'; obtain ⟨⟨hk1, hk2⟩, hk3, hk4⟩ := hS'; go_simp <;> (try with_reducible rfl)
        simp only [Act.put, z1, z2, z3, z4, z5, z6]
        refine wpAnyH_take (i := 9) (v := .bool true) rfl (by kernel_rfl) (by kernel_rfl) (by kernel_rfl) (fun _ _ _ h => h) (.inl ⟨by rfl, ?_⟩) hH ?_
        · intro w' hS'; obtain ⟨⟨hk1, hk2⟩, hk3, hk4⟩ := hS'; go_simp <;> (first | (simp; omega) | simp | omega)
        simp only [Act.put, z1, z2, z3, z4, z5, z6]
        refine wpAnyH_take (i := 10) (v := ?_) rfl (by kernel_rfl) (by kernel_rfl) (by kernel_rfl) (fun _ _ _ h => h) (.inl ⟨by rfl, ?_⟩) hH ?_
        rotate_left
        · intro w' hS'; obtain ⟨⟨hk1, hk2⟩, hk3, hk4⟩ := hS'; go_simp <;> (try with_reducible rfl)
        simp only [Act.put, z1, z2, z3, z4, z5, z6]
        refine wpAnyH_take (i := 11) (v := ?_) rfl (by kernel_rfl) (by kernel_rfl) (by kernel_rfl) (fun _ _ _ h => h) (.inl ⟨by rfl, ?_⟩) hH ?_
        rotate_left
        · intro w' hS'; obtain ⟨⟨hk1, hk2⟩, hk3, hk4⟩ := hS'; go_simp <;> (try with_reducible rfl)
        simp only [Act.put, z1, z2, z3, z4, z5, z6]
        refine wpAnyH_take (i := 12) (v := undef) rfl (by kernel_rfl) (by kernel_rfl) (by kernel_rfl) (fun _ _ _ h => h) (Or.inr ⟨by rfl, rfl⟩) hH ?_
        simp only [Act.put, z1, z2, z3, z4, z5, z6]
        refine wpAnyH_take (i := 13) (v := undef) rfl (by kernel_rfl) (by kernel_rfl) (by kernel_rfl) (fun _ _ _ h => h) (Or.inr ⟨by rfl, rfl⟩) hH ?_
        simp only [Act.put, z1, z2, z3, z4, z5, z6]
        refine wpAnyH_take (i := 14) (v := undef) rfl (by kernel_rfl) (by kernel_rfl) (by kernel_rfl) (fun _ _ _ h => h) (Or.inr ⟨by rfl, rfl⟩) hH ?_
        simp only [Act.put, z1, z2, z3, z4, z5, z6]
        refine wpAnyH_take (i := 15) (v := ?_) rfl (by kernel_rfl) (by kernel_rfl) (by kernel_rfl) (fun _ _ _ h => h) (.inl ⟨by rfl, ?_⟩) hH ?_
        rotate_left
        · intro w' hS'; obtain ⟨⟨hk1, hk2⟩, hk3, hk4⟩ := hS'; go_simp <;> (try with_reducible rfl)
        simp only [Act.put, z1, z2, z3, z4, z5, z6]
        refine wpAnyH_take (i := 16) (v := ?_) rfl (by kernel_rfl) (by kernel_rfl) (by kernel_rfl) (fun _ _ _ h => h) (.inl ⟨by rfl, ?_⟩) hH ?_
        rotate_left
        · intro w' hS'; obtain ⟨⟨hk1, hk2⟩, hk3, hk4⟩ := hS'; go_simp <;> (try with_reducible rfl)
        simp only [Act.put, z1, z2, z3, z4, z5, z6]
        refine wpAnyH_take (i := 17) (v := undef) rfl (by kernel_rfl) (by kernel_rfl) (by kernel_rfl) (fun _ _ _ h => h) (Or.inr ⟨by rfl, rfl⟩) hH ?_
        simp only [Act.put, z1, z2, z3, z4, z5, z6]
        refine wpAnyH_take (i := 18) (v := undef) rfl (by kernel_rfl) (by kernel_rfl) (by kernel_rfl) (fun _ _ _ h => h) (Or.inr ⟨by rfl, rfl⟩) hH ?_
        simp only [Act.put, z1, z2, z3, z4, z5, z6]
        refine wpAnyH_take (i := 19) (v := undef) rfl (by kernel_rfl) (by kernel_rfl) (by kernel_rfl) (fun _ _ _ h => h) (Or.inr ⟨by rfl, rfl⟩) hH ?_
        simp only [Act.put, z1, z2, z3, z4, z5, z6]
        refine wpAnyH_take (i := 20) (v := undef) rfl (by kernel_rfl) (by kernel_rfl) (by kernel_rfl) (fun _ _ _ h => h) (Or.inr ⟨by rfl, rfl⟩) hH ?_
        simp only [Act.put, z1, z2, z3, z4, z5, z6]
        refine wpAnyH_take (i := 21) (v := undef) rfl (by kernel_rfl) (by kernel_rfl) (by kernel_rfl) (fun _ _ _ h => h) (Or.inr ⟨by rfl, rfl⟩) hH ?_
        simp only [Act.put, z1, z2, z3, z4, z5, z6]
        refine wpAnyH_take (i := 22) (v := undef) rfl (by kernel_rfl) (by kernel_rfl) (by kernel_rfl) (fun _ _ _ h => h) (Or.inr ⟨by rfl, rfl⟩) hH ?_
        simp only [Act.put, z1, z2, z3, z4, z5, z6]
        refine wpAnyH_take (i := 23) (v := undef) rfl (by kernel_rfl) (by kernel_rfl) (by kernel_rfl) (fun _ _ _ h => h) (Or.inr ⟨by rfl, rfl⟩) hH ?_
        simp only [Act.put, z1, z2, z3, z4, z5, z6]
        refine wpAnyH_take (i := 24) (v := undef) rfl (by kernel_rfl) (by kernel_rfl) (by kernel_rfl) (fun _ _ _ h => h) (Or.inr ⟨by rfl, rfl⟩) hH ?_
        simp only [Act.put, z1, z2, z3, z4, z5, z6]
        refine wpAnyH_take (i := 25) (v := undef) rfl (by kernel_rfl) (by kernel_rfl) (by kernel_rfl) (fun _ _ _ h => h) (Or.inr ⟨by rfl, rfl⟩) hH ?_
        simp only [Act.put, z1, z2, z3, z4, z5, z6]
        refine wpAnyH_take (i := 26) (v := undef) rfl (by kernel_rfl) (by kernel_rfl) (by kernel_rfl) (fun _ _ _ h => h) (Or.inr ⟨by rfl, rfl⟩) hH ?_
        simp only [Act.put, z1, z2, z3, z4, z5, z6]
        refine wpAnyH_take (i := 27) (v := undef) rfl (by kernel_rfl) (by kernel_rfl) (by kernel_rfl) (fun _ _ _ h => h) (Or.inr ⟨by rfl, rfl⟩) hH ?_
        simp only [Act.put, z1, z2, z3, z4, z5, z6]
        refine wpAnyH_take (i := 28) (v := ?_) rfl (by kernel_rfl) (by kernel_rfl) (by kernel_rfl) (fun _ _ _ h => h) (.inl ⟨by rfl, ?_⟩) hH ?_
        rotate_left
        · intro w' hS'; obtain ⟨⟨hk1, hk2⟩, hk3, hk4⟩ := hS'; go_simp <;> (try with_reducible rfl)
        simp only [Act.put, z1, z2, z3, z4, z5, z6]
        refine wpAnyH_done (by kernel_rfl) ?_ _
        clear hH
        go_wp2_with fail
        go_ret
        exact ⟨rfl, hbm.drew⟩
      by_cases c3 : y < 0
      · have hR1 : R = false := HNO.out (by rw [show numB y (rlen f.vs x.toNat) = false by unfold numB; simp; omega]; simp)
        subst hR1
        go_wp2_with fail
        refine wp_region_held_drew (S := (fun w' => (w'.cell? ⟨wr.heap.size, 0, none⟩ = some (.int .i64 x) ∧ w'.cell? ⟨wr.heap.size, 1, none⟩ = some (.int .i64 y)) ∧ w'.cell? ⟨w.heap.size, 2, none⟩ = some (.slice va vl vc) ∧ True)) (by kernel_rfl) ⟨⟨m0, m1⟩, f2n, trivial⟩ (fun hH => ?_)
        refine wpAnyH_take (i := 0) (v := ?_) rfl (by kernel_rfl) (by kernel_rfl) (by kernel_rfl) (fun _ _ _ h => h) (.inl ⟨by rfl, ?_⟩) hH ?_
        rotate_left
        · intro w' hS'; obtain ⟨⟨hk1, hk2⟩, hk3, hk4⟩ := hS'; go_simp <;> (try with_reducible rfl)
        simp only [Act.put, z1, z2, z3, z4, z5, z6]
        refine wpAnyH_take (i := 1) (v := ?_) rfl (by kernel_rfl) (by kernel_rfl) (by kernel_rfl) (fun _ _ _ h => h) (.inl ⟨by rfl, ?_⟩) hH ?_
        rotate_left
        · intro w' hS'; obtain ⟨⟨hk1, hk2⟩, hk3, hk4⟩ := hS'; go_simp <;> (try with_reducible rfl)
        simp only [Act.put, z1, z2, z3, z4, z5, z6]
        refine wpAnyH_take (i := 2) (v := .bool false) rfl (by kernel_rfl) (by kernel_rfl) (by kernel_rfl) (fun _ _ _ h => h) (.inl ⟨by rfl, ?_⟩) hH ?_
        · intro w' hS'; obtain ⟨⟨hk1, hk2⟩, hk3, hk4⟩ := hS'; go_simp <;> (first | (simp; omega) | simp | omega)
        simp only [Act.put, z1, z2, z3, z4, z5, z6]
        refine wpAnyH_take (i := 3) (v := ?_) rfl (by kernel_rfl) (by kernel_rfl) (by kernel_rfl) (fun _ _ _ h => h) (.inl ⟨by rfl, ?_⟩) hH ?_
        rotate_left
        · intro w' hS'; obtain ⟨⟨hk1, hk2⟩, hk3, hk4⟩ := hS'; go_simp <;> (try with_reducible rfl)
        simp only [Act.put, z1, z2, z3, z4, z5, z6]
        refine wpAnyH_take (i := 4) (v := ?_) rfl (by kernel_rfl) (by kernel_rfl) (by kernel_rfl) (fun _ _ _ h => h) (.inl ⟨by rfl, ?_⟩) hH ?_
        rotate_left
        · intro w' hS'; obtain ⟨⟨hk1, hk2⟩, hk3, hk4⟩ := hS'; go_simp <;> (try with_reducible rfl)
        simp only [Act.put, z1, z2, z3, z4, z5, z6]
        refine wpAnyH_take (i := 5) (v := ?_) rfl (by kernel_rfl) (by kernel_rfl) (by kernel_rfl) (fun _ _ _ h => h) (.inl ⟨by rfl, ?_⟩) hH ?_
        rotate_left
        · intro w' hS'; obtain ⟨⟨hk1, hk2⟩, hk3, hk4⟩ := hS'; go_simp <;> (try with_reducible rfl)
        simp only [Act.put, z1, z2, z3, z4, z5, z6]
        refine wpAnyH_take (i := 6) (v := ?_) rfl (by kernel_rfl) (by kernel_rfl) (by kernel_rfl) (fun _ _ _ h => h) (.inl ⟨by rfl, ?_⟩) hH ?_
        rotate_left
        · intro w' hS'; obtain ⟨⟨hk1, hk2⟩, hk3, hk4⟩ := hS'; go_simp <;> (try with_reducible rfl)
        simp only [Act.put, z1, z2, z3, z4, z5, z6]
        refine wpAnyH_take (i := 7) (v := ?_) rfl (by kernel_rfl) (by kernel_rfl) (by kernel_rfl) (fun _ _ _ h => h) (.inl ⟨by rfl, ?_⟩) hH ?_
        rotate_left
        · intro w' hS'; obtain ⟨⟨hk1, hk2⟩, hk3, hk4⟩ := hS'; go_simp <;> (try with_reducible rfl)
        simp only [Act.put, z1, z2, z3, z4, z5, z6]
        refine wpAnyH_take (i := 8) (v := ?_) rfl (by kernel_rfl) (by kernel_rfl) (by kernel_rfl) (fun _ _ _ h => h) (.inl ⟨by rfl, ?_⟩) hH ?_
        rotate_left
        · intro w' hS'; obtain ⟨⟨hk1, hk2⟩, hk3, hk4⟩ := hS'; go_simp <;> (try with_reducible rfl)
        simp only [Act.put, z1, z2, z3, z4, z5, z6]
        refine wpAnyH_take (i := 9) (v := .bool false) rfl (by kernel_rfl) (by kernel_rfl) (by kernel_rfl) (fun _ _ _ h => h) (.inl ⟨by rfl, ?_⟩) hH ?_
        · intro w' hS'; obtain ⟨⟨hk1, hk2⟩, hk3, hk4⟩ := hS'; go_simp <;> (first | (simp; omega) | simp | omega)
        simp only [Act.put, z1, z2, z3, z4, z5, z6]
        refine wpAnyH_take (i := 10) (v := ?_) rfl (by kernel_rfl) (by kernel_rfl) (by kernel_rfl) (fun _ _ _ h => h) (.inl ⟨by rfl, ?_⟩) hH ?_
        rotate_left
        · intro w' hS'; obtain ⟨⟨hk1, hk2⟩, hk3, hk4⟩ := hS'; go_simp <;> (try with_reducible rfl)
        simp only [Act.put, z1, z2, z3, z4, z5, z6]
        refine wpAnyH_take (i := 11) (v := ?_) rfl (by kernel_rfl) (by kernel_rfl) (by kernel_rfl) (fun _ _ _ h => h) (.inl ⟨by rfl, ?_⟩) hH ?_
        rotate_left
        · intro w' hS'; obtain ⟨⟨hk1, hk2⟩, hk3, hk4⟩ := hS'; go_simp <;> (try with_reducible rfl)
        simp only [Act.put, z1, z2, z3, z4, z5, z6]
        refine wpAnyH_take (i := 12) (v := ?_) rfl (by kernel_rfl) (by kernel_rfl) (by kernel_rfl) (fun _ _ _ h => h) (.inl ⟨by rfl, ?_⟩) hH ?_
        rotate_left
        · intro w' hS'; obtain ⟨⟨hk1, hk2⟩, hk3, hk4⟩ := hS'; go_simp <;> (try with_reducible rfl)
        simp only [Act.put, z1, z2, z3, z4, z5, z6]
        refine wpAnyH_take (i := 13) (v := ?_) rfl (by kernel_rfl) (by kernel_rfl) (by kernel_rfl) (fun _ _ _ h => h) (.inl ⟨by rfl, ?_⟩) hH ?_
        rotate_left
        · intro w' hS'; obtain ⟨⟨hk1, hk2⟩, hk3, hk4⟩ := hS'; go_simp <;> (try with_reducible rfl)
        simp only [Act.put, z1, z2, z3, z4, z5, z6]
        refine wpAnyH_take (i := 14) (v := .bool true) rfl (by kernel_rfl) (by kernel_rfl) (by kernel_rfl) (fun _ _ _ h => h) (.inl ⟨by rfl, ?_⟩) hH ?_
        · intro w' hS'; obtain ⟨⟨hk1, hk2⟩, hk3, hk4⟩ := hS'; go_simp <;> (first | (simp; omega) | simp | omega)
        simp only [Act.put, z1, z2, z3, z4, z5, z6]
        refine wpAnyH_take (i := 15) (v := ?_) rfl (by kernel_rfl) (by kernel_rfl) (by kernel_rfl) (fun _ _ _ h => h) (.inl ⟨by rfl, ?_⟩) hH ?_
        rotate_left
        · intro w' hS'; obtain ⟨⟨hk1, hk2⟩, hk3, hk4⟩ := hS'; go_simp <;> (try with_reducible rfl)
        simp only [Act.put, z1, z2, z3, z4, z5, z6]
        refine wpAnyH_take (i := 16) (v := ?_) rfl (by kernel_rfl) (by kernel_rfl) (by kernel_rfl) (fun _ _ _ h => h) (.inl ⟨by rfl, ?_⟩) hH ?_
        rotate_left
        · intro w' hS'; obtain ⟨⟨hk1, hk2⟩, hk3, hk4⟩ := hS'; go_simp <;> (try with_reducible rfl)
        simp only [Act.put, z1, z2, z3, z4, z5, z6]
        refine wpAnyH_take (i := 17) (v := undef) rfl (by kernel_rfl) (by kernel_rfl) (by kernel_rfl) (fun _ _ _ h => h) (Or.inr ⟨by rfl, rfl⟩) hH ?_
        simp only [Act.put, z1, z2, z3, z4, z5, z6]
        refine wpAnyH_take (i := 18) (v := undef) rfl (by kernel_rfl) (by kernel_rfl) (by kernel_rfl) (fun _ _ _ h => h) (Or.inr ⟨by rfl, rfl⟩) hH ?_
        simp only [Act.put, z1, z2, z3, z4, z5, z6]
        refine wpAnyH_take (i := 19) (v := undef) rfl (by kernel_rfl) (by kernel_rfl) (by kernel_rfl) (fun _ _ _ h => h) (Or.inr ⟨by rfl, rfl⟩) hH ?_
        simp only [Act.put, z1, z2, z3, z4, z5, z6]
        refine wpAnyH_take (i := 20) (v := undef) rfl (by kernel_rfl) (by kernel_rfl) (by kernel_rfl) (fun _ _ _ h => h) (Or.inr ⟨by rfl, rfl⟩) hH ?_
        simp only [Act.put, z1, z2, z3, z4, z5, z6]
        refine wpAnyH_take (i := 21) (v := undef) rfl (by kernel_rfl) (by kernel_rfl) (by kernel_rfl) (fun _ _ _ h => h) (Or.inr ⟨by rfl, rfl⟩) hH ?_
        simp only [Act.put, z1, z2, z3, z4, z5, z6]
        refine wpAnyH_take (i := 22) (v := undef) rfl (by kernel_rfl) (by kernel_rfl) (by kernel_rfl) (fun _ _ _ h => h) (Or.inr ⟨by rfl, rfl⟩) hH ?_
        simp only [Act.put, z1, z2, z3, z4, z5, z6]
        refine wpAnyH_take (i := 23) (v := undef) rfl (by kernel_rfl) (by kernel_rfl) (by kernel_rfl) (fun _ _ _ h => h) (Or.inr ⟨by rfl, rfl⟩) hH ?_
        simp only [Act.put, z1, z2, z3, z4, z5, z6]
        refine wpAnyH_take (i := 24) (v := undef) rfl (by kernel_rfl) (by kernel_rfl) (by kernel_rfl) (fun _ _ _ h => h) (Or.inr ⟨by rfl, rfl⟩) hH ?_
        simp only [Act.put, z1, z2, z3, z4, z5, z6]
        refine wpAnyH_take (i := 25) (v := undef) rfl (by kernel_rfl) (by kernel_rfl) (by kernel_rfl) (fun _ _ _ h => h) (Or.inr ⟨by rfl, rfl⟩) hH ?_
        simp only [Act.put, z1, z2, z3, z4, z5, z6]
        refine wpAnyH_take (i := 26) (v := undef) rfl (by kernel_rfl) (by kernel_rfl) (by kernel_rfl) (fun _ _ _ h => h) (Or.inr ⟨by rfl, rfl⟩) hH ?_
        simp only [Act.put, z1, z2, z3, z4, z5, z6]
        refine wpAnyH_take (i := 27) (v := undef) rfl (by kernel_rfl) (by kernel_rfl) (by kernel_rfl) (fun _ _ _ h => h) (Or.inr ⟨by rfl, rfl⟩) hH ?_
        simp only [Act.put, z1, z2, z3, z4, z5, z6]
        refine wpAnyH_take (i := 28) (v := ?_) rfl (by kernel_rfl) (by kernel_rfl) (by kernel_rfl) (fun _ _ _ h => h) (.inl ⟨by rfl, ?_⟩) hH ?_
        rotate_left
        · intro w' hS'; obtain ⟨⟨hk1, hk2⟩, hk3, hk4⟩ := hS'; go_simp <;> (try with_reducible rfl)
        simp only [Act.put, z1, z2, z3, z4, z5, z6]
        refine wpAnyH_done (by kernel_rfl) ?_ _
        clear hH
        go_wp2_with fail
        go_ret
        exact ⟨rfl, hbm.drew⟩
      obtain ⟨x, rfl⟩ : ∃ n : Nat, x = n := ⟨x.toNat, by omega⟩
      obtain ⟨v, hv⟩ : ∃ v, f.vs[x]? = some v := ⟨f.vs[x]'(by omega), List.getElem?_eq_getElem (by omega)⟩
      obtain ⟨bv, ov, ra, rl, rc, rfl, _, _, _, e3, hrl⟩ := HF.out.v3 x v hv
      have hrle : rlen f.vs x = rl := by rw [rlen_of hv]; exact hrl.1.symm
      have e3n := cell_keep hbm e3
      rw [Int.toNat_natCast, hrle] at HNO HSN
      have hx0x : (0 : Int) ≤ (x : Int) := Int.natCast_nonneg _
      have hxv : (x : Int) < (vl : Int) := by omega
      have hev := lt_of_cell e3n
      by_cases c4 : (rl : Int) ≤ y
      · have hR1 : R = false := HNO.out (by rw [show numB y rl = false by unfold numB; simp; omega]; simp)
        subst hR1
        clear hrle hv hrl
        go_wp2_with fail
        refine wp_region_held_drew (S := (fun w' => (w'.cell? ⟨wr.heap.size, 0, none⟩ = some (.int .i64 (x : Int)) ∧ w'.cell? ⟨wr.heap.size, 1, none⟩ = some (.int .i64 y)) ∧ w'.cell? ⟨w.heap.size, 2, none⟩ = some (.slice (some ⟨bv, ov, none⟩) vl vc) ∧ w'.cell? ⟨bv, ov + x * 4 + 3, none⟩ = some (.slice ra rl rc))) (by kernel_rfl) ⟨⟨m0, m1⟩, f2n, e3n⟩ (fun hH => ?_)
        refine wpAnyH_take (i := 0) (v := ?_) rfl (by kernel_rfl) (by kernel_rfl) (by kernel_rfl) (fun _ _ _ h => h) (.inl ⟨by rfl, ?_⟩) hH ?_
        rotate_left
        · intro w' hS'; obtain ⟨⟨hk1, hk2⟩, hk3, hk4⟩ := hS'; go_simp <;> (try with_reducible rfl)
        simp only [Act.put, z1, z2, z3, z4, z5, z6]
        refine wpAnyH_take (i := 1) (v := ?_) rfl (by kernel_rfl) (by kernel_rfl) (by kernel_rfl) (fun _ _ _ h => h) (.inl ⟨by rfl, ?_⟩) hH ?_
        rotate_left
        · intro w' hS'; obtain ⟨⟨hk1, hk2⟩, hk3, hk4⟩ := hS'; go_simp <;> (try with_reducible rfl)
        simp only [Act.put, z1, z2, z3, z4, z5, z6]
        refine wpAnyH_take (i := 2) (v := .bool false) rfl (by kernel_rfl) (by kernel_rfl) (by kernel_rfl) (fun _ _ _ h => h) (.inl ⟨by rfl, ?_⟩) hH ?_
        · intro w' hS'; obtain ⟨⟨hk1, hk2⟩, hk3, hk4⟩ := hS'; go_simp <;> (first | (simp; omega) | simp | omega)
        simp only [Act.put, z1, z2, z3, z4, z5, z6]
        refine wpAnyH_take (i := 3) (v := ?_) rfl (by kernel_rfl) (by kernel_rfl) (by kernel_rfl) (fun _ _ _ h => h) (.inl ⟨by rfl, ?_⟩) hH ?_
        rotate_left
        · intro w' hS'; obtain ⟨⟨hk1, hk2⟩, hk3, hk4⟩ := hS'; go_simp <;> (try with_reducible rfl)
        simp only [Act.put, z1, z2, z3, z4, z5, z6]
        refine wpAnyH_take (i := 4) (v := ?_) rfl (by kernel_rfl) (by kernel_rfl) (by kernel_rfl) (fun _ _ _ h => h) (.inl ⟨by rfl, ?_⟩) hH ?_
        rotate_left
        · intro w' hS'; obtain ⟨⟨hk1, hk2⟩, hk3, hk4⟩ := hS'; go_simp <;> (try with_reducible rfl)
        simp only [Act.put, z1, z2, z3, z4, z5, z6]
        refine wpAnyH_take (i := 5) (v := ?_) rfl (by kernel_rfl) (by kernel_rfl) (by kernel_rfl) (fun _ _ _ h => h) (.inl ⟨by rfl, ?_⟩) hH ?_
        rotate_left
        · intro w' hS'; obtain ⟨⟨hk1, hk2⟩, hk3, hk4⟩ := hS'; go_simp <;> (try with_reducible rfl)
        simp only [Act.put, z1, z2, z3, z4, z5, z6]
        refine wpAnyH_take (i := 6) (v := ?_) rfl (by kernel_rfl) (by kernel_rfl) (by kernel_rfl) (fun _ _ _ h => h) (.inl ⟨by rfl, ?_⟩) hH ?_
        rotate_left
        · intro w' hS'; obtain ⟨⟨hk1, hk2⟩, hk3, hk4⟩ := hS'; go_simp <;> (try with_reducible rfl)
        simp only [Act.put, z1, z2, z3, z4, z5, z6]
        refine wpAnyH_take (i := 7) (v := ?_) rfl (by kernel_rfl) (by kernel_rfl) (by kernel_rfl) (fun _ _ _ h => h) (.inl ⟨by rfl, ?_⟩) hH ?_
        rotate_left
        · intro w' hS'; obtain ⟨⟨hk1, hk2⟩, hk3, hk4⟩ := hS'; go_simp <;> (try with_reducible rfl)
        simp only [Act.put, z1, z2, z3, z4, z5, z6]
        refine wpAnyH_take (i := 8) (v := ?_) rfl (by kernel_rfl) (by kernel_rfl) (by kernel_rfl) (fun _ _ _ h => h) (.inl ⟨by rfl, ?_⟩) hH ?_
        rotate_left
        · intro w' hS'; obtain ⟨⟨hk1, hk2⟩, hk3, hk4⟩ := hS'; go_simp <;> (try with_reducible rfl)
        simp only [Act.put, z1, z2, z3, z4, z5, z6]
        refine wpAnyH_take (i := 9) (v := .bool false) rfl (by kernel_rfl) (by kernel_rfl) (by kernel_rfl) (fun _ _ _ h => h) (.inl ⟨by rfl, ?_⟩) hH ?_
        · intro w' hS'; obtain ⟨⟨hk1, hk2⟩, hk3, hk4⟩ := hS'; go_simp <;> (first | (simp; omega) | simp | omega)
        simp only [Act.put, z1, z2, z3, z4, z5, z6]
        refine wpAnyH_take (i := 10) (v := ?_) rfl (by kernel_rfl) (by kernel_rfl) (by kernel_rfl) (fun _ _ _ h => h) (.inl ⟨by rfl, ?_⟩) hH ?_
        rotate_left
        · intro w' hS'; obtain ⟨⟨hk1, hk2⟩, hk3, hk4⟩ := hS'; go_simp <;> (try with_reducible rfl)
        simp only [Act.put, z1, z2, z3, z4, z5, z6]
        refine wpAnyH_take (i := 11) (v := ?_) rfl (by kernel_rfl) (by kernel_rfl) (by kernel_rfl) (fun _ _ _ h => h) (.inl ⟨by rfl, ?_⟩) hH ?_
        rotate_left
        · intro w' hS'; obtain ⟨⟨hk1, hk2⟩, hk3, hk4⟩ := hS'; go_simp <;> (try with_reducible rfl)
        simp only [Act.put, z1, z2, z3, z4, z5, z6]
        refine wpAnyH_take (i := 12) (v := ?_) rfl (by kernel_rfl) (by kernel_rfl) (by kernel_rfl) (fun _ _ _ h => h) (.inl ⟨by rfl, ?_⟩) hH ?_
        rotate_left
        · intro w' hS'; obtain ⟨⟨hk1, hk2⟩, hk3, hk4⟩ := hS'; go_simp <;> (try with_reducible rfl)
        simp only [Act.put, z1, z2, z3, z4, z5, z6]
        refine wpAnyH_take (i := 13) (v := ?_) rfl (by kernel_rfl) (by kernel_rfl) (by kernel_rfl) (fun _ _ _ h => h) (.inl ⟨by rfl, ?_⟩) hH ?_
        rotate_left
        · intro w' hS'; obtain ⟨⟨hk1, hk2⟩, hk3, hk4⟩ := hS'; go_simp <;> (try with_reducible rfl)
        simp only [Act.put, z1, z2, z3, z4, z5, z6]
        refine wpAnyH_take (i := 14) (v := .bool false) rfl (by kernel_rfl) (by kernel_rfl) (by kernel_rfl) (fun _ _ _ h => h) (.inl ⟨by rfl, ?_⟩) hH ?_
        · intro w' hS'; obtain ⟨⟨hk1, hk2⟩, hk3, hk4⟩ := hS'; go_simp <;> (first | (simp; omega) | simp | omega)
        simp only [Act.put, z1, z2, z3, z4, z5, z6]
        refine wpAnyH_take (i := 15) (v := ?_) rfl (by kernel_rfl) (by kernel_rfl) (by kernel_rfl) (fun _ _ _ h => h) (.inl ⟨by rfl, ?_⟩) hH ?_
        rotate_left
        · intro w' hS'; obtain ⟨⟨hk1, hk2⟩, hk3, hk4⟩ := hS'; go_simp <;> (try with_reducible rfl)
        simp only [Act.put, z1, z2, z3, z4, z5, z6]
        refine wpAnyH_take (i := 16) (v := ?_) rfl (by kernel_rfl) (by kernel_rfl) (by kernel_rfl) (fun _ _ _ h => h) (.inl ⟨by rfl, ?_⟩) hH ?_
        rotate_left
        · intro w' hS'; obtain ⟨⟨hk1, hk2⟩, hk3, hk4⟩ := hS'; go_simp <;> (try with_reducible rfl)
        simp only [Act.put, z1, z2, z3, z4, z5, z6]
        refine wpAnyH_take (i := 17) (v := ?_) rfl (by kernel_rfl) (by kernel_rfl) (by kernel_rfl) (fun _ _ _ h => h) (.inl ⟨by rfl, ?_⟩) hH ?_
        rotate_left
        · intro w' hS'; obtain ⟨⟨hk1, hk2⟩, hk3, hk4⟩ := hS'; go_simp <;> (try with_reducible rfl)
        simp only [Act.put, z1, z2, z3, z4, z5, z6]
        refine wpAnyH_take (i := 18) (v := ?_) rfl (by kernel_rfl) (by kernel_rfl) (by kernel_rfl) (fun _ _ _ h => h) (.inl ⟨by rfl, ?_⟩) hH ?_
        rotate_left
        · intro w' hS'; obtain ⟨⟨hk1, hk2⟩, hk3, hk4⟩ := hS'; go_simp <;> (try with_reducible rfl)
        simp only [Act.put, z1, z2, z3, z4, z5, z6]
        refine wpAnyH_take (i := 19) (v := ?_) rfl (by kernel_rfl) (by kernel_rfl) (by kernel_rfl) (fun _ _ _ h => h) (.inl ⟨by rfl, ?_⟩) hH ?_
        rotate_left
        · intro w' hS'; obtain ⟨⟨hk1, hk2⟩, hk3, hk4⟩ := hS'; go_simp <;> (try with_reducible rfl)
        simp only [Act.put, z1, z2, z3, z4, z5, z6]
        refine wpAnyH_take (i := 20) (v := ?_) rfl (by kernel_rfl) (by kernel_rfl) (by kernel_rfl) (fun _ _ _ h => h) (.inl ⟨by rfl, ?_⟩) hH ?_
        rotate_left
        · intro w' hS'; obtain ⟨⟨hk1, hk2⟩, hk3, hk4⟩ := hS'; go_simp <;> (try with_reducible rfl)
        simp only [Act.put, z1, z2, z3, z4, z5, z6]
        refine wpAnyH_take (i := 21) (v := ?_) rfl (by kernel_rfl) (by kernel_rfl) (by kernel_rfl) (fun _ _ _ h => h) (.inl ⟨by rfl, ?_⟩) hH ?_
        rotate_left
        · intro w' hS'; obtain ⟨⟨hk1, hk2⟩, hk3, hk4⟩ := hS'; go_simp <;> (try with_reducible rfl)
        simp only [Act.put, z1, z2, z3, z4, z5, z6]
        refine wpAnyH_take (i := 22) (v := ?_) rfl (by kernel_rfl) (by kernel_rfl) (by kernel_rfl) (fun _ _ _ h => h) (.inl ⟨by rfl, ?_⟩) hH ?_
        rotate_left
        · intro w' hS'; obtain ⟨⟨hk1, hk2⟩, hk3, hk4⟩ := hS'; go_simp <;> (try with_reducible rfl)
        simp only [Act.put, z1, z2, z3, z4, z5, z6]
        refine wpAnyH_take (i := 23) (v := ?_) rfl (by kernel_rfl) (by kernel_rfl) (by kernel_rfl) (fun _ _ _ h => h) (.inl ⟨by rfl, ?_⟩) hH ?_
        rotate_left
        · intro w' hS'; obtain ⟨⟨hk1, hk2⟩, hk3, hk4⟩ := hS'; go_simp <;> (try with_reducible rfl)
        simp only [Act.put, z1, z2, z3, z4, z5, z6]
        refine wpAnyH_take (i := 24) (v := ?_) rfl (by kernel_rfl) (by kernel_rfl) (by kernel_rfl) (fun _ _ _ h => h) (.inl ⟨by rfl, ?_⟩) hH ?_
        rotate_left
        · intro w' hS'; obtain ⟨⟨hk1, hk2⟩, hk3, hk4⟩ := hS'; go_simp <;> (try with_reducible rfl)
        simp only [Act.put, z1, z2, z3, z4, z5, z6]
        refine wpAnyH_take (i := 25) (v := ?_) rfl (by kernel_rfl) (by kernel_rfl) (by kernel_rfl) (fun _ _ _ h => h) (.inl ⟨by rfl, ?_⟩) hH ?_
        rotate_left
        · intro w' hS'; obtain ⟨⟨hk1, hk2⟩, hk3, hk4⟩ := hS'; go_simp <;> (try with_reducible rfl)
        simp only [Act.put, z1, z2, z3, z4, z5, z6]
        refine wpAnyH_take (i := 26) (v := ?_) rfl (by kernel_rfl) (by kernel_rfl) (by kernel_rfl) (fun _ _ _ h => h) (.inl ⟨by rfl, ?_⟩) hH ?_
        rotate_left
        · intro w' hS'; obtain ⟨⟨hk1, hk2⟩, hk3, hk4⟩ := hS'; go_simp <;> (try with_reducible rfl)
        simp only [Act.put, z1, z2, z3, z4, z5, z6]
        refine wpAnyH_take (i := 27) (v := .bool true) rfl (by kernel_rfl) (by kernel_rfl) (by kernel_rfl) (fun _ _ _ h => h) (.inl ⟨by rfl, ?_⟩) hH ?_
        · intro w' hS'; obtain ⟨⟨hk1, hk2⟩, hk3, hk4⟩ := hS'; go_simp <;> (first | (simp; omega) | simp | omega)
        simp only [Act.put, z1, z2, z3, z4, z5, z6]
        refine wpAnyH_take (i := 28) (v := ?_) rfl (by kernel_rfl) (by kernel_rfl) (by kernel_rfl) (fun _ _ _ h => h) (.inl ⟨by rfl, ?_⟩) hH ?_
        rotate_left
        · intro w' hS'; obtain ⟨⟨hk1, hk2⟩, hk3, hk4⟩ := hS'; go_simp <;> (try with_reducible rfl)
        simp only [Act.put, z1, z2, z3, z4, z5, z6]
        refine wpAnyH_done (by kernel_rfl) ?_ _
        clear hH
        go_wp2_with fail
        go_ret
        exact ⟨rfl, hbm.drew⟩
      have hcall := fun (W : World) (h : Below w.heap.size w W) => has_any f sa ta _ sl sc tl tc vl vc ms _ mc j x v W (HF.out.keep h) hv (by omega) hml (HM.out.keep h)
      have hn : nowI f x = v.now := nowI_of hv
      rw [show numB (x : Int) f.vs.length = true by unfold numB; simp; omega, show numB y rl = true by unfold numB; simp; omega, hn] at HNO HSN
      simp only [Bool.true_and] at HNO HSN
      obtain ⟨f0n, f1n, _⟩ := new3 (.cells #[.int .i64 (x : Int), .int .i64 y] 46) ⟨f0r, f1r, f2r⟩
      generalize hasI v.now ms (x : Int) j = h0 at hcall HNO HSN
      clear hrle hv hrl hn
      go_wp2_with fail
      refine wp_region_held_drew (S := (fun w' => (w'.cell? ⟨wr.heap.size, 0, none⟩ = some (.int .i64 (x : Int)) ∧ w'.cell? ⟨wr.heap.size, 1, none⟩ = some (.int .i64 y)) ∧ w'.cell? ⟨w.heap.size, 2, none⟩ = some (.slice (some ⟨bv, ov, none⟩) vl vc) ∧ w'.cell? ⟨bv, ov + x * 4 + 3, none⟩ = some (.slice ra rl rc))) (by kernel_rfl) ⟨⟨m0, m1⟩, f2n, e3n⟩ (fun hH => ?_)
      refine wpAnyH_take (i := 0) (v := ?_) rfl (by kernel_rfl) (by kernel_rfl) (by kernel_rfl) (fun _ _ _ h => h) (.inl ⟨by rfl, ?_⟩) hH ?_
      rotate_left
      · intro w' hS'; obtain ⟨⟨hk1, hk2⟩, hk3, hk4⟩ := hS'; go_simp <;> (try with_reducible rfl)
      simp only [Act.put, z1, z2, z3, z4, z5, z6]
      refine wpAnyH_take (i := 1) (v := ?_) rfl (by kernel_rfl) (by kernel_rfl) (by kernel_rfl) (fun _ _ _ h => h) (.inl ⟨by rfl, ?_⟩) hH ?_
      rotate_left
      · intro w' hS'; obtain ⟨⟨hk1, hk2⟩, hk3, hk4⟩ := hS'; go_simp <;> (try with_reducible rfl)
      simp only [Act.put, z1, z2, z3, z4, z5, z6]
      refine wpAnyH_take (i := 2) (v := .bool false) rfl (by kernel_rfl) (by kernel_rfl) (by kernel_rfl) (fun _ _ _ h => h) (.inl ⟨by rfl, ?_⟩) hH ?_
      · intro w' hS'; obtain ⟨⟨hk1, hk2⟩, hk3, hk4⟩ := hS'; go_simp <;> (first | (simp; omega) | simp | omega)
      simp only [Act.put, z1, z2, z3, z4, z5, z6]
      refine wpAnyH_take (i := 3) (v := ?_) rfl (by kernel_rfl) (by kernel_rfl) (by kernel_rfl) (fun _ _ _ h => h) (.inl ⟨by rfl, ?_⟩) hH ?_
      rotate_left
      · intro w' hS'; obtain ⟨⟨hk1, hk2⟩, hk3, hk4⟩ := hS'; go_simp <;> (try with_reducible rfl)
      simp only [Act.put, z1, z2, z3, z4, z5, z6]
      refine wpAnyH_take (i := 4) (v := ?_) rfl (by kernel_rfl) (by kernel_rfl) (by kernel_rfl) (fun _ _ _ h => h) (.inl ⟨by rfl, ?_⟩) hH ?_
      rotate_left
      · intro w' hS'; obtain ⟨⟨hk1, hk2⟩, hk3, hk4⟩ := hS'; go_simp <;> (try with_reducible rfl)
      simp only [Act.put, z1, z2, z3, z4, z5, z6]
      refine wpAnyH_take (i := 5) (v := ?_) rfl (by kernel_rfl) (by kernel_rfl) (by kernel_rfl) (fun _ _ _ h => h) (.inl ⟨by rfl, ?_⟩) hH ?_
      rotate_left
      · intro w' hS'; obtain ⟨⟨hk1, hk2⟩, hk3, hk4⟩ := hS'; go_simp <;> (try with_reducible rfl)
      simp only [Act.put, z1, z2, z3, z4, z5, z6]
      refine wpAnyH_take (i := 6) (v := ?_) rfl (by kernel_rfl) (by kernel_rfl) (by kernel_rfl) (fun _ _ _ h => h) (.inl ⟨by rfl, ?_⟩) hH ?_
      rotate_left
      · intro w' hS'; obtain ⟨⟨hk1, hk2⟩, hk3, hk4⟩ := hS'; go_simp <;> (try with_reducible rfl)
      simp only [Act.put, z1, z2, z3, z4, z5, z6]
      refine wpAnyH_take (i := 7) (v := ?_) rfl (by kernel_rfl) (by kernel_rfl) (by kernel_rfl) (fun _ _ _ h => h) (.inl ⟨by rfl, ?_⟩) hH ?_
      rotate_left
      · intro w' hS'; obtain ⟨⟨hk1, hk2⟩, hk3, hk4⟩ := hS'; go_simp <;> (try with_reducible rfl)
      simp only [Act.put, z1, z2, z3, z4, z5, z6]
      refine wpAnyH_take (i := 8) (v := ?_) rfl (by kernel_rfl) (by kernel_rfl) (by kernel_rfl) (fun _ _ _ h => h) (.inl ⟨by rfl, ?_⟩) hH ?_
      rotate_left
      · intro w' hS'; obtain ⟨⟨hk1, hk2⟩, hk3, hk4⟩ := hS'; go_simp <;> (try with_reducible rfl)
      simp only [Act.put, z1, z2, z3, z4, z5, z6]
      refine wpAnyH_take (i := 9) (v := .bool false) rfl (by kernel_rfl) (by kernel_rfl) (by kernel_rfl) (fun _ _ _ h => h) (.inl ⟨by rfl, ?_⟩) hH ?_
      · intro w' hS'; obtain ⟨⟨hk1, hk2⟩, hk3, hk4⟩ := hS'; go_simp <;> (first | (simp; omega) | simp | omega)
      simp only [Act.put, z1, z2, z3, z4, z5, z6]
      refine wpAnyH_take (i := 10) (v := ?_) rfl (by kernel_rfl) (by kernel_rfl) (by kernel_rfl) (fun _ _ _ h => h) (.inl ⟨by rfl, ?_⟩) hH ?_
      rotate_left
      · intro w' hS'; obtain ⟨⟨hk1, hk2⟩, hk3, hk4⟩ := hS'; go_simp <;> (try with_reducible rfl)
      simp only [Act.put, z1, z2, z3, z4, z5, z6]
      refine wpAnyH_take (i := 11) (v := ?_) rfl (by kernel_rfl) (by kernel_rfl) (by kernel_rfl) (fun _ _ _ h => h) (.inl ⟨by rfl, ?_⟩) hH ?_
      rotate_left
      · intro w' hS'; obtain ⟨⟨hk1, hk2⟩, hk3, hk4⟩ := hS'; go_simp <;> (try with_reducible rfl)
      simp only [Act.put, z1, z2, z3, z4, z5, z6]
      refine wpAnyH_take (i := 12) (v := ?_) rfl (by kernel_rfl) (by kernel_rfl) (by kernel_rfl) (fun _ _ _ h => h) (.inl ⟨by rfl, ?_⟩) hH ?_
      rotate_left
      · intro w' hS'; obtain ⟨⟨hk1, hk2⟩, hk3, hk4⟩ := hS'; go_simp <;> (try with_reducible rfl)
      simp only [Act.put, z1, z2, z3, z4, z5, z6]
      refine wpAnyH_take (i := 13) (v := ?_) rfl (by kernel_rfl) (by kernel_rfl) (by kernel_rfl) (fun _ _ _ h => h) (.inl ⟨by rfl, ?_⟩) hH ?_
      rotate_left
      · intro w' hS'; obtain ⟨⟨hk1, hk2⟩, hk3, hk4⟩ := hS'; go_simp <;> (try with_reducible rfl)
      simp only [Act.put, z1, z2, z3, z4, z5, z6]
      refine wpAnyH_take (i := 14) (v := .bool false) rfl (by kernel_rfl) (by kernel_rfl) (by kernel_rfl) (fun _ _ _ h => h) (.inl ⟨by rfl, ?_⟩) hH ?_
      · intro w' hS'; obtain ⟨⟨hk1, hk2⟩, hk3, hk4⟩ := hS'; go_simp <;> (first | (simp; omega) | simp | omega)
      simp only [Act.put, z1, z2, z3, z4, z5, z6]
      refine wpAnyH_take (i := 15) (v := ?_) rfl (by kernel_rfl) (by kernel_rfl) (by kernel_rfl) (fun _ _ _ h => h) (.inl ⟨by rfl, ?_⟩) hH ?_
      rotate_left
      · intro w' hS'; obtain ⟨⟨hk1, hk2⟩, hk3, hk4⟩ := hS'; go_simp <;> (try with_reducible rfl)
      simp only [Act.put, z1, z2, z3, z4, z5, z6]
      refine wpAnyH_take (i := 16) (v := ?_) rfl (by kernel_rfl) (by kernel_rfl) (by kernel_rfl) (fun _ _ _ h => h) (.inl ⟨by rfl, ?_⟩) hH ?_
      rotate_left
      · intro w' hS'; obtain ⟨⟨hk1, hk2⟩, hk3, hk4⟩ := hS'; go_simp <;> (try with_reducible rfl)
      simp only [Act.put, z1, z2, z3, z4, z5, z6]
      refine wpAnyH_take (i := 17) (v := ?_) rfl (by kernel_rfl) (by kernel_rfl) (by kernel_rfl) (fun _ _ _ h => h) (.inl ⟨by rfl, ?_⟩) hH ?_
      rotate_left
      · intro w' hS'; obtain ⟨⟨hk1, hk2⟩, hk3, hk4⟩ := hS'; go_simp <;> (try with_reducible rfl)
      simp only [Act.put, z1, z2, z3, z4, z5, z6]
      refine wpAnyH_take (i := 18) (v := ?_) rfl (by kernel_rfl) (by kernel_rfl) (by kernel_rfl) (fun _ _ _ h => h) (.inl ⟨by rfl, ?_⟩) hH ?_
      rotate_left
      · intro w' hS'; obtain ⟨⟨hk1, hk2⟩, hk3, hk4⟩ := hS'; go_simp <;> (try with_reducible rfl)
      simp only [Act.put, z1, z2, z3, z4, z5, z6]
      refine wpAnyH_take (i := 19) (v := ?_) rfl (by kernel_rfl) (by kernel_rfl) (by kernel_rfl) (fun _ _ _ h => h) (.inl ⟨by rfl, ?_⟩) hH ?_
      rotate_left
      · intro w' hS'; obtain ⟨⟨hk1, hk2⟩, hk3, hk4⟩ := hS'; go_simp <;> (try with_reducible rfl)
      simp only [Act.put, z1, z2, z3, z4, z5, z6]
      refine wpAnyH_take (i := 20) (v := ?_) rfl (by kernel_rfl) (by kernel_rfl) (by kernel_rfl) (fun _ _ _ h => h) (.inl ⟨by rfl, ?_⟩) hH ?_
      rotate_left
      · intro w' hS'; obtain ⟨⟨hk1, hk2⟩, hk3, hk4⟩ := hS'; go_simp <;> (try with_reducible rfl)
      simp only [Act.put, z1, z2, z3, z4, z5, z6]
      refine wpAnyH_take (i := 21) (v := ?_) rfl (by kernel_rfl) (by kernel_rfl) (by kernel_rfl) (fun _ _ _ h => h) (.inl ⟨by rfl, ?_⟩) hH ?_
      rotate_left
      · intro w' hS'; obtain ⟨⟨hk1, hk2⟩, hk3, hk4⟩ := hS'; go_simp <;> (try with_reducible rfl)
      simp only [Act.put, z1, z2, z3, z4, z5, z6]
      refine wpAnyH_take (i := 22) (v := ?_) rfl (by kernel_rfl) (by kernel_rfl) (by kernel_rfl) (fun _ _ _ h => h) (.inl ⟨by rfl, ?_⟩) hH ?_
      rotate_left
      · intro w' hS'; obtain ⟨⟨hk1, hk2⟩, hk3, hk4⟩ := hS'; go_simp <;> (try with_reducible rfl)
      simp only [Act.put, z1, z2, z3, z4, z5, z6]
      refine wpAnyH_take (i := 23) (v := ?_) rfl (by kernel_rfl) (by kernel_rfl) (by kernel_rfl) (fun _ _ _ h => h) (.inl ⟨by rfl, ?_⟩) hH ?_
      rotate_left
      · intro w' hS'; obtain ⟨⟨hk1, hk2⟩, hk3, hk4⟩ := hS'; go_simp <;> (try with_reducible rfl)
      simp only [Act.put, z1, z2, z3, z4, z5, z6]
      refine wpAnyH_take (i := 24) (v := ?_) rfl (by kernel_rfl) (by kernel_rfl) (by kernel_rfl) (fun _ _ _ h => h) (.inl ⟨by rfl, ?_⟩) hH ?_
      rotate_left
      · intro w' hS'; obtain ⟨⟨hk1, hk2⟩, hk3, hk4⟩ := hS'; go_simp <;> (try with_reducible rfl)
      simp only [Act.put, z1, z2, z3, z4, z5, z6]
      refine wpAnyH_take (i := 25) (v := ?_) rfl (by kernel_rfl) (by kernel_rfl) (by kernel_rfl) (fun _ _ _ h => h) (.inl ⟨by rfl, ?_⟩) hH ?_
      rotate_left
      · intro w' hS'; obtain ⟨⟨hk1, hk2⟩, hk3, hk4⟩ := hS'; go_simp <;> (try with_reducible rfl)
      simp only [Act.put, z1, z2, z3, z4, z5, z6]
      refine wpAnyH_take (i := 26) (v := ?_) rfl (by kernel_rfl) (by kernel_rfl) (by kernel_rfl) (fun _ _ _ h => h) (.inl ⟨by rfl, ?_⟩) hH ?_
      rotate_left
      · intro w' hS'; obtain ⟨⟨hk1, hk2⟩, hk3, hk4⟩ := hS'; go_simp <;> (try with_reducible rfl)
      simp only [Act.put, z1, z2, z3, z4, z5, z6]
      refine wpAnyH_take (i := 27) (v := .bool false) rfl (by kernel_rfl) (by kernel_rfl) (by kernel_rfl) (fun _ _ _ h => h) (.inl ⟨by rfl, ?_⟩) hH ?_
      · intro w' hS'; obtain ⟨⟨hk1, hk2⟩, hk3, hk4⟩ := hS'; go_simp <;> (first | (simp; omega) | simp | omega)
      simp only [Act.put, z1, z2, z3, z4, z5, z6]
      refine wpAnyH_take (i := 28) (v := ?_) rfl (by kernel_rfl) (by kernel_rfl) (by kernel_rfl) (fun _ _ _ h => h) (.inl ⟨by rfl, ?_⟩) hH ?_
      rotate_left
      · intro w' hS'; obtain ⟨⟨hk1, hk2⟩, hk3, hk4⟩ := hS'; go_simp <;> (try with_reducible rfl)
      simp only [Act.put, z1, z2, z3, z4, z5, z6]
      refine wpAnyH_done (by kernel_rfl) ?_ _
      clear hH
      by_cases c5 : h0 = y
      · have hR1 : R = false := HNO.out (by simp [c5])
        have c5' : (h0 == y) = true := by simp [c5]
        subst hR1
        clear c5 HNO HSN
        go_wp2_with (go_at_call 32; refine (hcall _ hbm.drew).mono ?_; rintro e w3 ⟨rfl, hb3⟩; have m1' := cell_keep hb3 m1)
        go_ret
        exact ⟨rfl, thn3 hbm.drew hb3⟩
      · have c5' : (h0 == y) = false := by simp [c5]
        have HX : Hid ((List.range (j + 1)).all (rmB f ms) = true) := by show _ = _; rw [HSN.out, c5']; rfl
        clear c5 HNO HSN
        go_wp2_with (go_at_call 32; refine (hcall _ hbm.drew).mono ?_; rintro e w3 ⟨rfl, hb3⟩; have m1' := cell_keep hb3 m1)
        go_roundw
        case rel => exact ⟨j + 1, by omega, by go_num, HX, thn3 (thn3 hb (bel1 _ _)).drew hb3⟩
        case measure => simp [intOf]; omega
    · have hR1 : R = true := by rw [HR.out, ← hal.out, show j = ms.length by omega]
      clear hal HR
      subst hR1
      go_wp2_with fail
      go_ret
      exact ⟨rfl, hbw⟩
end Go.Proofs.YtkkekopomiehlaaGreat
