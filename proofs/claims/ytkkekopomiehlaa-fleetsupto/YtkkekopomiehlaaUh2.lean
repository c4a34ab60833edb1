import Derived.Test.YtkkekopomiehlaaUh1
set_option linter.unusedVariables false
set_option linter.unusedSimpArgs false
set_option maxRecDepth 4000
namespace Go.Proofs.Ytkkekopomiehlaa
open Go.RowKit

set_option maxHeartbeats 1000000 in
theorem samePin_same (x y z : Int) (w : World) : Calls Try.prog 89 #[.agg #[.int .i64 x, .int .i64 y, .int .i64 z], .agg #[.int .i64 x, .int .i64 y, .int .i64 z]] w fun e W => e = .returned (.bool true) ∧ Below w.heap.size w W := by
  have h1 : (x == x) = true := by simp
  have h2 : (y == y) = true := by simp
  have h3 : (z == z) = true := by simp
  go_enter Try.func89, Try.ntmps89
  go_wp2_with fail
  go_ret
  exact ⟨ret_bool (by simp), thn3 (bel1 _ _) (bel1 _ _)⟩
theorem three_last {cs : List Value} {n : Nat} (h : cs.length = n * 3) : (cs ++ spare3)[n * 3]? = some (.int .i64 (-7)) ∧ (cs ++ spare3)[n * 3 + 1]? = some (.int .i64 (-7)) ∧ (cs ++ spare3)[n * 3 + 2]? = some (.int .i64 (-7)) := by
  refine ⟨?_, ?_, ?_⟩
  · rw [List.getElem?_append_right (by omega), h, Nat.sub_self]; rfl
  · rw [List.getElem?_append_right (by omega), h, show n * 3 + 1 - n * 3 = 1 by omega]; rfl
  · rw [List.getElem?_append_right (by omega), h, show n * 3 + 2 - n * 3 = 2 by omega]; rfl
set_option maxHeartbeats 4000000 in
theorem unhurtPins_any (ps : List PinD) (w : World) (g : Nat) (a : Option Addr) (l cap : Nat) (hrow : RowIs w g 92 (pinC ps ++ spare3)) (hp : PinSl w a l cap ps) :
    Calls Try.prog 88 #[.slice (some ⟨g, 0, none⟩) ps.length (ps.length + 1), .slice a l cap] w fun e W => e = .returned (.bool true) ∧ Below w.heap.size w W := by
  obtain ⟨rfl, hl, hlc, hc9, hp⟩ := hp
  have hgl := hrow.lt
  obtain ⟨t0, t1, t2⟩ := three_last (pinC_len ps)
  have l0 := hrow.cell t0
  have l1 := hrow.cell t1
  have l2 := hrow.cell t2
  have HRow := (hidMk hrow)
  have HP := (hidMk hp)
  have hnn : ((ps.length : Int) != (ps.length : Int)) = false := by simp
  have hx9 : (0 : Int) ≤ (ps.length : Int) := Int.natCast_nonneg _
  clear hrow hp t0 t1 t2
  go_enter Try.func88, Try.ntmps88
  go_wp2_with fail
  go_loopw [6] (fun vi wr => ∃ i : Nat, i ≤ ps.length ∧ vi = .int .i64 i ∧ Below w.heap.size w wr) (fun i _ => ps.length - (intOf i).toNat)
  case atStart => exact ⟨0, Nat.zero_le _, rfl, Below.refl _ _⟩
  case round =>
    obtain ⟨i, hi, rfl, hb⟩ := hrel
    have hgl2 : g < wr.heap.size := Nat.lt_of_lt_of_le hgl hb.size
    have hx0 : (0 : Int) ≤ (i : Int) := Int.natCast_nonneg _
    by_cases hlt : i < ps.length
    · obtain ⟨p, hpi⟩ : ∃ p, ps[i]? = some p := ⟨ps[i], List.getElem?_eq_getElem hlt⟩
      obtain ⟨t0, t1, t2⟩ := pin_cells hpi spare3
      have c0 := cell_keep hb (HRow.out.cell t0)
      have c1 := cell_keep hb (HRow.out.cell t1)
      have c2 := cell_keep hb (HRow.out.cell t2)
      obtain ⟨b, o, rfl, d0, d1, d2⟩ := HP.out i p hpi
      have d0 := cell_keep hb d0
      have d1 := cell_keep hb d1
      have d2 := cell_keep hb d2
      have hbl := lt_of_cell d0
      have hx1 : (i : Int) < (ps.length : Int) := by omega
      have hx2 : (i : Int) < (ps.length : Int) + 1 := by omega
      obtain ⟨x, y, z⟩ := p
      simp only at c0 c1 c2 d0 d1 d2
      have hcall := fun W => samePin_same x y z W
      clear hpi t0 t1 t2
      go_wp2_with fail
      (first | go_region_held3 (fun w' => (w'.cell? ⟨g, i * 3, none⟩ = some (.int .i64 x) ∧ w'.cell? ⟨g, i * 3 + 1, none⟩ = some (.int .i64 y) ∧ w'.cell? ⟨g, i * 3 + 2, none⟩ = some (.int .i64 z)) ∧ w'.cell? ⟨b, o + i * 3, none⟩ = some (.int .i64 x) ∧ w'.cell? ⟨b, o + i * 3 + 1, none⟩ = some (.int .i64 y) ∧ w'.cell? ⟨b, o + i * 3 + 2, none⟩ = some (.int .i64 z)) (go_keep) (first | (go_at_call 89; refine (hcall _).mono ?_; rintro e w3 ⟨rfl, hb3⟩; have e0 := cell_keep hb3 c0; have e1 := cell_keep hb3 c1; have e2 := cell_keep hb3 c2; have e3 := cell_keep hb3 d0; have e4 := cell_keep hb3 d1; have e5 := cell_keep hb3 d2)) | (go_at_call 89; refine (hcall _).mono ?_; rintro e w3 ⟨rfl, hb3⟩))
      go_wp2_with fail
      go_roundw
      case rel => first | exact ⟨i + 1, by omega, by go_num, thn3 hb.drew hb3⟩ | exact ⟨i + 1, by omega, by go_num, thn3 hb hb3⟩
      case measure => simp [intOf]; omega
    · have c0 := cell_keep hb l0
      have c1 := cell_keep hb l1
      have c2 := cell_keep hb l2
      have hcall := fun W => samePin_same (-7) (-7) (-7) W
      go_wp2_with fail
      (first | go_region_held3 (fun w' => w'.cell? ⟨g, ps.length * 3, none⟩ = some (.int .i64 (-7)) ∧ w'.cell? ⟨g, ps.length * 3 + 1, none⟩ = some (.int .i64 (-7)) ∧ w'.cell? ⟨g, ps.length * 3 + 2, none⟩ = some (.int .i64 (-7))) (go_keep) (first | (go_at_call 89; refine (hcall _).mono ?_; rintro e w3 ⟨rfl, hb3⟩; have e0 := cell_keep hb3 c0; have e1 := cell_keep hb3 c1; have e2 := cell_keep hb3 c2)) | (go_at_call 89; refine (hcall _).mono ?_; rintro e w3 ⟨rfl, hb3⟩))
      go_wp2_with fail
      go_ret
      first | exact ⟨rfl, thn3 hb.drew hb3⟩ | exact ⟨rfl, thn3 hb hb3⟩
end Go.Proofs.Ytkkekopomiehlaa
