import Derived.Test.YtkkekopomiehlaaDoorMV3
import Derived.Deep.RegionHeld3
set_option linter.unusedVariables false
set_option linter.unusedSimpArgs false
namespace Go.Proofs.YtkkekopomiehlaaDoor
section
set_option maxRecDepth 4000
open Go.RowKit

set_option maxHeartbeats 1000000 in
theorem kDigits_any : ∀ (m n : Nat) (w : World), m ≤ 20 → n ≤ 1000000000000000000 → n < 10 ^ (m + 1) →
    Calls Tryd.prog 24 #[.int .i64 n] w fun e w' => e = .returned (.string (decS m n)) ∧ Below w.heap.size w w' := by
  intro m
  induction m with
  | zero =>
    intro n w hm hn h1
    have h10 : n < 10 := by simpa using h1
    have hr : Hid (decS 0 n = oneB (48 + n)) := rfl
    clear h1
    have hc := conv_byte (w.alloc (.cells #[.int .u8 (48 + n : Nat)] 5)) w.heap.size (48 + n) (by omega) (cell_last rfl rfl)
    simp only [Int.natCast_add, Int.cast_ofNat_Int] at hc
    go_enter Tryd.func24, Tryd.ntmps24
    go_wp2_with fail
    go_ret
    exact ⟨ret_str hr.out.symm, (Below.refl _ _).alloc (Nat.le_refl _) _⟩
  | succ m ih =>
    intro n w hm hn h1
    by_cases h10 : n < 10
    · have hr : Hid (decS (m + 1) n = oneB (48 + n)) := by show _ = _; rw [decS, if_pos h10]
      clear h1
      have hc := conv_byte (w.alloc (.cells #[.int .u8 (48 + n : Nat)] 5)) w.heap.size (48 + n) (by omega) (cell_last rfl rfl)
      simp only [Int.natCast_add, Int.cast_ofNat_Int] at hc
      go_enter Tryd.func24, Tryd.ntmps24
      go_wp2_with fail
      go_ret
      exact ⟨ret_str hr.out.symm, (Below.refl _ _).alloc (Nat.le_refl _) _⟩
    · have hr : Hid (decS (m + 1) n = decS m (n / 10) ++ oneB (48 + n % 10)) := by show _ = _; rw [decS, if_neg h10]
      have hcall := fun w => ih (n / 10) w (by omega) (by omega) (by rw [Nat.pow_succ] at h1; omega)
      have hsz := decS_size m (n / 10)
      have hs1 : (oneB (48 + n % 10)).size = 1 := rfl
      clear h1 ih
      simp only [Int.natCast_ediv, Int.cast_ofNat_Int] at hcall
      have hconv := fun (W : World) (b : Nat) (h : W.cell? ⟨b, 0, none⟩ = some (.int .u8 (48 + (n : Int) % 10))) => conv_byte W b (48 + n % 10) (by omega) (by rw [h]; simp)
      have ht : (n : Int).tmod 10 = (n : Int) % 10 := Int.tmod_eq_emod_of_nonneg (by omega)
      have hw1 : IntKind.i64.wrap ((n : Int) / 10) = (n : Int) / 10 := by rw [IntKind.wrap_i64]; omega
      have hw2 : IntKind.i64.wrap ((n : Int) % 10) = (n : Int) % 10 := by rw [IntKind.wrap_i64]; omega
      have hw3 : IntKind.i64.wrap (48 + (n : Int) % 10) = 48 + (n : Int) % 10 := by rw [IntKind.wrap_i64]; omega
      have hw4 : IntKind.u8.wrap (48 + (n : Int) % 10) = 48 + (n : Int) % 10 := by rw [IntKind.wrap_u8]; omega
      go_enter Tryd.func24, Tryd.ntmps24
      go_wp2_with fail
      go_region_with (go_at_call 24; refine (hcall _).mono ?_; rintro e w1 ⟨rfl, hb1⟩; obtain ⟨hc1, hf1⟩ := bcell hb1)
      all_goals
        go_wp2_with fail
        go_ret
        refine ⟨ret_str hr.out.symm, ?_⟩
        first | exact Below.trans (((Below.refl _ _).alloc (Nat.le_refl _) _).drew) (hb1.mono (by simp)) | exact Below.alloc' ((Below.refl w.heap.size w).drew.trans (hb1.mono (by simp))) _

theorem kDigits_int (x : Int) (w : World) (h0 : 0 ≤ x) (h1 : x ≤ 1000000000000000000) :
    Calls Tryd.prog 24 #[.int .i64 x] w fun e w' => e = .returned (.string (decS 18 x.toNat)) ∧ Below w.heap.size w w' := by
  obtain ⟨n, rfl⟩ : ∃ n : Nat, x = n := ⟨x.toNat, by omega⟩
  exact kDigits_any 18 n w (by omega) (by omega) (by omega)

set_option maxHeartbeats 1000000 in
theorem kDecimal_any (n : Int) (w : World) (h1 : -1000000000000000000 ≤ n) (h2 : n ≤ 1000000000000000000) :
    Calls Tryd.prog 11 #[.int .i64 n] w fun e w' => e = .returned (.string (decI n)) ∧ Below w.heap.size w w' := by
  by_cases hn : n < 0
  · have hr : Hid (decI n = ⟨#[45]⟩ ++ decS 18 (-n).toNat) := by show _ = _; unfold decI; rw [if_pos hn]
    have hsz := decS_size 18 (-n).toNat
    have hs1 : (⟨#[45]⟩ : ByteArray).size = 1 := rfl
    go_enter Tryd.func11, Tryd.ntmps11
    go_wp2_with (go_at_call 24; refine (kDigits_int _ _ (by omega) (by omega)).mono ?_; rintro e w1 ⟨rfl, hb1⟩)
    go_ret
    exact ⟨ret_str hr.out.symm, hb1⟩
  · have hr : Hid (decI n = decS 18 n.toNat) := by show _ = _; unfold decI; rw [if_neg hn]
    go_enter Tryd.func11, Tryd.ntmps11
    go_wp2_with (go_at_call 24; refine (kDigits_int _ _ (by omega) (by omega)).mono ?_; rintro e w1 ⟨rfl, hb1⟩)
    go_ret
    exact ⟨ret_str hr.out.symm, hb1⟩


theorem allS_in {s : ByteArray} : ∀ (m k : Nat), allS s m k = true → ∀ i, i < m → inS (bAt s (k + i)) = true
  | 0, k, h, i, hi => by omega
  | m + 1, k, h, i, hi => by
    rw [allS, Bool.and_eq_true] at h
    cases i with
    | zero => exact h.1
    | succ i => have := allS_in m (k + 1) h.2 i (by omega); rwa [show k + 1 + i = k + (i + 1) by omega] at this
theorem allS_snoc {t s : ByteArray} {x : Nat} (hx : x < s.size) (h : allS t t.size 0 = true) (hi : inS (bAt s x) = true) : allS (t ++ s.extract x (x + 1)) (t ++ s.extract x (x + 1)).size 0 = true := by
  have hz := size_extract s x (x + 1) (by omega) (by omega)
  refine allS_of _ _ (fun i hlt => ?_)
  rw [ByteArray.size_append, hz] at hlt
  rw [Nat.zero_add]
  by_cases hit : i < t.size
  · rw [bAt_app_left _ _ _ hit]
    have := allS_in t.size 0 h i hit
    rwa [Nat.zero_add] at this
  · rw [show i = t.size + 0 by omega, bAt_app_right, bAt_ext _ _ _ _ (by omega) (by omega)]; exact hi
/-- The first fit bytes of a text. -/
def clF (s : ByteArray) : Nat → Nat → ByteArray → ByteArray
  | 0, _, t => t
  | m + 1, i, t => if t.size < 20 then clF s m (i + 1) (if inS (bAt s i) = true then t ++ s.extract i (i + 1) else t) else t
theorem clF_ok {s : ByteArray} : ∀ (m i : Nat) (t : ByteArray), i + m ≤ s.size → t.size ≤ 20 → allS t t.size 0 = true → (clF s m i t).size ≤ 20 ∧ allS (clF s m i t) (clF s m i t).size 0 = true
  | 0, i, t, h, h1, h2 => ⟨h1, h2⟩
  | m + 1, i, t, h, h1, h2 => by
    rw [clF]
    split
    · rename_i h20
      refine clF_ok m (i + 1) _ (by omega) ?_ ?_
      · split
        · rw [ByteArray.size_append, size_extract s i (i + 1) (by omega) (by omega)]; omega
        · omega
      · split
        · rename_i hc; exact allS_snoc (by omega) h2 hc
        · exact h2
    · exact ⟨h1, h2⟩
set_option maxHeartbeats 1000000 in
/-- The string of a value: its first fit bytes. -/
theorem clean_any (s : ByteArray) (hs : s.size ≤ maxLen) (w : World) :
    Calls Tryd.prog 12 #[.string s] w fun e w' => e = .returned (.string (clF s s.size 0 ByteArray.empty)) ∧ Below w.heap.size w w' := by
  unfold maxLen at hs
  obtain ⟨R, hR⟩ : ∃ R, R = clF s s.size 0 ByteArray.empty := ⟨_, rfl⟩
  rw [← hR]
  have HR : Hid (R = clF s (s.size - 0) 0 ByteArray.empty) := hR
  clear hR
  go_enter Tryd.func12, Tryd.ntmps12
  go_wp2_with fail
  go_loopw [3, 4] (fun vt vi wr => ∃ (x : Nat) (t : ByteArray), x ≤ s.size ∧ vi = .int .i64 x ∧ vt = .string t ∧ t.size ≤ 20 ∧ Hid (R = clF s (s.size - x) x t) ∧ Below w.heap.size w wr) (fun _ x _ => s.size - (intOf x).toNat)
  case atStart => exact ⟨0, ByteArray.empty, Nat.zero_le _, rfl, rfl, by decide, HR, Below.refl _ _⟩
  case round =>
    obtain ⟨x, t, hx, rfl, rfl, ht, hal, hb⟩ := hrel
    by_cases hlt : x < s.size
    · have hst : R = if t.size < 20 then clF s (s.size - (x + 1)) (x + 1) (if inS (bAt s x) = true then t ++ s.extract x (x + 1) else t) else t := by
        rw [hal.out, show s.size - x = (s.size - (x + 1)) + 1 by omega, clF]
      clear hal HR
      by_cases h20 : t.size < 20
      · rw [if_pos h20] at hst
        have hz : (s.extract x (x + 1)).size = 1 := by rw [size_extract s x (x + 1) (by omega) (by omega)]; omega
        have hbx := bAt_in s x hlt
        by_cases hc : 32 ≤ s[x].toNat ∧ s[x].toNat ≤ 126 ∧ s[x].toNat ≠ 34
        · obtain ⟨h1, h2, h3⟩ := hc
          rw [if_pos (by rw [hbx]; unfold inS; simp; omega)] at hst
          have hal' : Hid (R = clF s (s.size - (x + 1)) (x + 1) (t ++ s.extract x (x + 1))) := hst
          clear hst hbx
          go_wp2_with fail
          go_roundw
          case rel => exact ⟨x + 1, t ++ s.extract x (x + 1), by omega, by go_num, by go_num, by rw [ByteArray.size_append]; omega, hal', hb⟩
          case measure => simp [intOf]; omega
        · rw [if_neg (by rw [hbx]; unfold inS; simp; omega)] at hst
          have hal' : Hid (R = clF s (s.size - (x + 1)) (x + 1) t) := hst
          clear hbx hz hst
          by_cases h1 : 32 ≤ s[x].toNat
          · by_cases h2 : s[x].toNat ≤ 126
            · have h3 : s[x].toNat = 34 := by omega
              clear hc h1 h2
              go_wp2_with fail
              go_roundw
              case rel => exact ⟨x + 1, t, by omega, by go_num, rfl, ht, hal', hb⟩
              case measure => simp [intOf]; omega
            · clear hc
              go_wp2_with fail
              go_roundw
              case rel => exact ⟨x + 1, t, by omega, by go_num, rfl, ht, hal', hb⟩
              case measure => simp [intOf]; omega
          · clear hc
            go_wp2_with fail
            go_roundw
            case rel => exact ⟨x + 1, t, by omega, by go_num, rfl, ht, hal', hb⟩
            case measure => simp [intOf]; omega
      · rw [if_neg h20] at hst
        subst hst
        go_wp2_with fail
        go_ret
        exact ⟨rfl, hb⟩
    · have hst : R = t := by rw [hal.out, show s.size - x = 0 by omega]; rfl
      clear hal HR
      subst hst
      go_wp2_with fail
      go_ret
      exact ⟨rfl, hb⟩
/-- Texts with commas between them. -/
def jn : Nat → List ByteArray → ByteArray → ByteArray
  | _, [], t => t
  | k, v :: vs, t => jn (k + 1) vs ((if 0 < k then t ++ ⟨#[44]⟩ else t) ++ v)
theorem jn_snoc : ∀ (vs : List ByteArray) (k : Nat) (t v : ByteArray), jn k (vs ++ [v]) t = (if 0 < k + vs.length then jn k vs t ++ ⟨#[44]⟩ else jn k vs t) ++ v
  | [], k, t, v => by simp [jn]
  | u :: vs, k, t, v => by
    have h1 : 0 < k + 1 + vs.length := by omega
    have h2 : 0 < k + (u :: vs).length := by rw [List.length_cons]; omega
    rw [List.cons_append, jn, jn_snoc vs (k + 1), if_pos h1, if_pos h2, jn]
theorem jn_items : ∀ (vs : List ByteArray) (k : Nat) (t : ByteArray), itemsT k vs (⟨#[91]⟩ ++ t) = ⟨#[91]⟩ ++ jn k vs t ++ ⟨#[93]⟩
  | [], k, t => rfl
  | v :: vs, k, t => by
    rw [itemsT, jn, ← jn_items vs (k + 1)]
    congr 1
    split
    · rw [ByteArray.append_assoc, ByteArray.append_assoc, ByteArray.append_assoc]
    · rw [ByteArray.append_assoc]
theorem jn_size : ∀ (vs : List ByteArray) (k : Nat) (t : ByteArray), (∀ v ∈ vs, v.size = 1) → (jn k vs t).size ≤ t.size + 2 * vs.length
  | [], k, t, h => by simp [jn]
  | v :: vs, k, t, h => by
    have h1 := h v (by simp)
    have := jn_size vs (k + 1) ((if 0 < k then t ++ ⟨#[44]⟩ else t) ++ v) (fun u hu => h u (by simp [hu]))
    rw [jn, List.length_cons]
    have : ((if 0 < k then t ++ ⟨#[44]⟩ else t) ++ v).size ≤ t.size + 2 := by
      rw [ByteArray.size_append, h1]
      split
      · rw [ByteArray.size_append]; have : (⟨#[44]⟩ : ByteArray).size = 1 := rfl; omega
      · omega
    omega
/-- The letter that is listed for a number. -/
def ix (v : Int) : Nat := (v.tmod 3).natAbs
theorem ix_lt (v : Int) : ix v < 3 := by unfold ix; rw [Int.natAbs_tmod]; exact Nat.mod_lt _ (by decide)
def lsT (names : ByteArray) (ns : List Int) : List ByteArray := (ns.take 8).map fun v => names.extract (ix v) (ix v + 1)
theorem lsT_len (names : ByteArray) (ns : List Int) : (lsT names ns).length = min 8 ns.length := by rw [lsT, List.length_map, List.length_take]
theorem lsT_snoc {names : ByteArray} {ns : List Int} {x : Nat} {v : Int} (hx : x < 8) (h : ns[x]? = some v) : (lsT names ns).take (x + 1) = (lsT names ns).take x ++ [names.extract (ix v) (ix v + 1)] := by
  rw [List.take_add_one, lsT, List.getElem?_map, List.getElem?_take_of_lt hx, h]; rfl
set_option maxHeartbeats 2000000 in
theorem listed_any (names : ByteArray) (hn : names.size = 3) (ns : List Int) (hlen : ns.length ≤ maxLen) (ao : Option Addr) (cap : Nat) (w : World)
    (hs : ∀ (i : Nat) (v : Int), ns[i]? = some v → ∃ b o, ao = some ⟨b, o, none⟩ ∧ w.cell? ⟨b, o + i, none⟩ = some (.int .i64 v)) :
    Calls Tryd.prog 13 #[.slice ao ns.length cap, .string names] w fun e w' => e = .returned (.string (⟨#[91]⟩ ++ jn 0 (lsT names ns) ByteArray.empty ++ ⟨#[93]⟩)) ∧ Below w.heap.size w w' := by
  unfold maxLen at hlen
  have hsz : ∀ x, (jn 0 ((lsT names ns).take x) ByteArray.empty).size ≤ 16 := fun x => by
    have := jn_size ((lsT names ns).take x) 0 ByteArray.empty (fun v hv => by
      have hv := List.mem_of_mem_take hv
      unfold lsT at hv
      obtain ⟨u, hu, rfl⟩ := List.mem_map.1 hv
      have := ix_lt u
      rw [size_extract _ _ _ (by omega) (by omega)]; omega)
    have e : ByteArray.empty.size = 0 := rfl
    have : ((lsT names ns).take x).length ≤ 8 := by rw [List.length_take, lsT_len]; omega
    omega
  have hll := lsT_len names ns
  obtain ⟨L, hL⟩ : ∃ L, L = lsT names ns := ⟨_, rfl⟩
  have HL : Hid (L = lsT names ns) := hL
  rw [← hL] at hsz hll ⊢
  clear hL
  go_enter Tryd.func13, Tryd.ntmps13
  go_wp2_with fail
  go_loopw [5, 6] (fun vt vi wr => ∃ (x : Nat) (t : ByteArray), x ≤ 8 ∧ x ≤ ns.length ∧ vi = .int .i64 x ∧ vt = .string t ∧ Hid (t = jn 0 (L.take x) ByteArray.empty) ∧ wr = w) (fun _ x _ => 8 - (intOf x).toNat)
  case atStart => exact ⟨0, ByteArray.empty, Nat.zero_le _, Nat.zero_le _, rfl, rfl, (by show _ = _; rfl), rfl⟩
  case round =>
    obtain ⟨x, t, h8, hx, rfl, rfl, hT, rfl⟩ := hrel
    have ht : t.size ≤ 16 := by rw [hT.out]; exact hsz x
    by_cases hlt : x < ns.length
    · by_cases hx8 : x < 8
      · obtain ⟨v, hv⟩ : ∃ v, ns[x]? = some v := ⟨ns[x], List.getElem?_eq_getElem hlt⟩
        obtain ⟨b, o, rfl, hc⟩ := hs x v hv
        have hsn : Hid (jn 0 (L.take (x + 1)) ByteArray.empty = (if 0 < x then t ++ ⟨#[44]⟩ else t) ++ names.extract (ix v) (ix v + 1)) := by
          show _ = _
          rw [hT.out, HL.out, lsT_snoc hx8 hv, jn_snoc, Nat.zero_add, List.length_take, Nat.min_eq_left (by rw [lsT_len]; omega)]
        have hix := ix_lt v
        have hixv : v.tmod 3 = ix v ∨ (v.tmod 3 = -(ix v : Int) ∧ 0 < ix v) := by unfold ix; omega
        obtain ⟨k, hk⟩ : ∃ k, k = ix v := ⟨_, rfl⟩
        rw [← hk] at hsn hix hixv
        have hez : (names.extract k (k + 1)).size = 1 := by rw [size_extract _ _ _ (by omega) (by omega)]; omega
        have hcz : (⟨#[44]⟩ : ByteArray).size = 1 := rfl
        have hx0 : (0 : Int) ≤ (x : Int) := Int.natCast_nonneg _
        have hx1 : (x : Int) < (ns.length : Int) := by omega
        clear hs hv hk hT HL hsz hll
        rcases hixv with hm | ⟨hm, hk0⟩
        · have hk1 : ¬ (k : Int) < 0 := by omega
          have hw1 : IntKind.i64.wrap (k : Int) = (k : Int) := by rw [IntKind.wrap_i64]; omega
          by_cases h0 : 0 < x
          · rw [if_pos h0] at hsn
            go_wp2_with fail
            go_roundw
            case rel => exact ⟨x + 1, (t ++ ⟨#[44]⟩) ++ names.extract k (k + 1), by omega, by omega, by go_num, by go_num, (by show _ = _; exact hsn.out.symm), trivial⟩
            case measure => simp [intOf]; omega
          · rw [if_neg h0] at hsn
            go_wp2_with fail
            go_roundw
            case rel => exact ⟨x + 1, t ++ names.extract k (k + 1), by omega, by omega, by go_num, by go_num, (by show _ = _; exact hsn.out.symm), trivial⟩
            case measure => simp [intOf]; omega
        · have hk1 : -(k : Int) < 0 := by omega
          have hw1 : IntKind.i64.wrap (-(k : Int)) = -(k : Int) := by rw [IntKind.wrap_i64]; omega
          by_cases h0 : 0 < x
          · rw [if_pos h0] at hsn
            go_wp2_with fail
            go_roundw
            case rel => exact ⟨x + 1, (t ++ ⟨#[44]⟩) ++ names.extract k (k + 1), by omega, by omega, by go_num, by go_num, (by show _ = _; exact hsn.out.symm), trivial⟩
            case measure => simp [intOf]; omega
          · rw [if_neg h0] at hsn
            go_wp2_with fail
            go_roundw
            case rel => exact ⟨x + 1, t ++ names.extract k (k + 1), by omega, by omega, by go_num, by go_num, (by show _ = _; exact hsn.out.symm), trivial⟩
            case measure => simp [intOf]; omega
      · have hr : Hid (t = jn 0 L ByteArray.empty) := by show _ = _; rw [hT.out, List.take_of_length_le (by omega)]
        clear hs hT HL hsz
        go_wp2_with fail
        go_ret
        exact ⟨ret_str (by rw [hr.out]), Below.refl _ _⟩
    · have hr : Hid (t = jn 0 L ByteArray.empty) := by show _ = _; rw [hT.out, List.take_of_length_le (by omega)]
      clear hs hT HL hsz
      go_wp2_with fail
      go_ret
      exact ⟨ret_str (by rw [hr.out]), Below.refl _ _⟩
end
section
set_option maxRecDepth 4000
open Go.RowKit

def thL : Ty := ⟨91, ByteArray.empty, false, [⟨60, ⟨#[120, 121, 122]⟩, false, [], []⟩], []⟩
def thM : Ty := ⟨63, ByteArray.empty, false, [plainTy 105], []⟩
def thX : Ty := ⟨123, ByteArray.empty, false, [], [(97, plainTy 105, ByteArray.empty), (98, plainTy 108, ByteArray.empty), (99, plainTy 115, ByteArray.empty), (100, thL, ByteArray.empty), (101, thM, ByteArray.empty)]⟩
def thK : Ty := ⟨91, ByteArray.empty, false, [⟨60, ⟨#[113, 121]⟩, true, [], []⟩], []⟩
def thN : Ty := ⟨63, ByteArray.empty, false, [plainTy 108], []⟩
def thR : Ty := ⟨123, ByteArray.empty, false, [], [(101, thN, ByteArray.empty), (102, plainTy 115, ⟨#[34, 110, 101, 119, 34]⟩), (97, plainTy 108, ByteArray.empty), (100, thK, ByteArray.empty), (99, plainTy 115, ByteArray.empty)]⟩
def thSb : ByteArray := ⟨#[123, 97, 58, 105, 44, 98, 58, 108, 44, 99, 58, 115, 44, 100, 58, 91, 60, 120, 121, 122, 62, 93, 44, 101, 58, 63, 105, 125]⟩
def thRb : ByteArray := ⟨#[123, 101, 58, 63, 108, 44, 102, 58, 115, 61, 34, 110, 101, 119, 34, 44, 97, 58, 108, 44, 100, 58, 91, 60, 113, 121, 43, 62, 93, 44, 99, 58, 115, 125]⟩
theorem th_p1 : pAll false thSb = some thX := by kernel_rfl
theorem th_p2 : pAll false thRb = some thR := by kernel_rfl
def thE (a : Int) (no : Bool) : Val := if no = true then .non else .som (.num a)
def thV (a b : Int) (c : ByteArray) (ks : List Nat) (no : Bool) : Val := .rcd [.num a, .num b, .str c, .lst (ks.map Val.cho), thE a no]
theorem th_ok {a b : Int} {c : ByteArray} {ks : List Nat} (no : Bool) (ha : -2147483648 ≤ a ∧ a ≤ 2147483647) (hb : -1000000000000000 ≤ b ∧ b ≤ 1000000000000000) (hc : c.size ≤ 20 ∧ allS c c.size 0 = true) (hk : ks.length ≤ 8 ∧ ∀ k ∈ ks, k < 3) : okV 28 thX (thV a b c ks no) := by
  refine okV_rcd ⟨rfl, by simp [thX], rfl, fun p hp => ?_⟩
  simp only [thX, List.zip_cons_cons, List.zip_nil_left, List.mem_cons, List.not_mem_nil, or_false] at hp
  rcases hp with rfl | rfl | rfl | rfl | rfl
  · exact okV_num (.inl ⟨rfl, ha.1, ha.2⟩)
  · exact okV_num (.inr ⟨rfl, hb.1, hb.2⟩)
  · exact okV_str ⟨rfl, by have := hc.1; show c.size ≤ 60; omega, hc.2⟩
  · refine okV_lst ⟨rfl, by rw [List.length_map]; omega, fun v hv => ?_⟩
    obtain ⟨k, hk', rfl⟩ := List.mem_map.1 hv
    have := hk.2 k hk'
    exact okV_cho ⟨rfl, (by show k < 3; omega), by omega⟩
  · show okV 27 thM (thE a no)
    unfold thE
    split
    · exact okV_non rfl
    · exact okV_som ⟨rfl, okV_num (.inl ⟨rfl, ha.1, ha.2⟩)⟩
theorem codU_len : ∀ (m u : Nat), (codU m ByteArray.empty u).size ≤ m + 1
  | 0, u => by rw [codU, ByteArray.size_append, oneB_size]; simp
  | m + 1, u => by
    by_cases h : u < 128
    · rw [codU_small h, oneB_size]; omega
    · rw [codU_big (by omega), ByteArray.size_append, oneB_size]; have := codU_len m (u / 128); omega
theorem num_len (a : Int) : (numData a).size ≤ 9 := codU_len 8 _
theorem cat_cho (n : Nat) : ∀ ks : List Nat, (catB ((ks.map Val.cho).map (datV (n + 1)))).size = ks.length
  | [] => rfl
  | k :: ks => by rw [List.map_cons, List.map_cons, catB, ByteArray.size_append, cat_cho n ks, datV_cho, oneB_size, List.length_cons]; omega
theorem th_dat {a b : Int} {c : ByteArray} {ks : List Nat} (no : Bool) (hc : c.size ≤ 20) (hk : ks.length ≤ 8) : (datV 28 (thV a b c ks no)).size ≤ 58 := by
  show (datV (27 + 1) (.rcd [.num a, .num b, .str c, .lst (ks.map Val.cho), thE a no])).size ≤ 58
  rw [datV_rcd]
  simp only [List.map_cons, List.map_nil, catB, ByteArray.size_append]
  have h1 := num_len a
  have h2 := num_len b
  have e1 : (datV 27 (.num a)).size ≤ 9 := h1
  have e2 : (datV 27 (.num b)).size ≤ 9 := h2
  have e3 : (datV 27 (.str c)).size ≤ 21 := by show (oneB c.size ++ c).size ≤ 21; rw [ByteArray.size_append, oneB_size]; omega
  have e4 : (datV 27 (.lst (ks.map Val.cho))).size ≤ 9 := by
    show (datV (26 + 1) (.lst (ks.map Val.cho))).size ≤ 9
    rw [datV_lst, ByteArray.size_append, oneB_size, cat_cho 25]; omega
  have e5 : (datV 27 (thE a no)).size ≤ 10 := by
    unfold thE
    split
    · show (oneB 0).size ≤ 10; rw [oneB_size]; omega
    · show (oneB 1 ++ numData a).size ≤ 10; rw [ByteArray.size_append, oneB_size]; omega
  have e6 : ByteArray.empty.size = 0 := rfl
  omega
/-- The text's last part. -/
def thT (a : Int) (no : Bool) : ByteArray := if no = true then ⟨#[95]⟩ else decI a
def thW (c : ByteArray) : ByteArray := ⟨#[34]⟩ ++ c ++ ⟨#[34]⟩
def thI (names : ByteArray) (ns : List Int) : ByteArray := ⟨#[91]⟩ ++ jn 0 (lsT names ns) ByteArray.empty ++ ⟨#[93]⟩
theorem lit3 {p q r m : ByteArray} (h : p ++ q ++ r = m) (x : ByteArray) : p ++ (q ++ (r ++ x)) = m ++ x := by rw [← h, ByteArray.append_assoc, ByteArray.append_assoc]
theorem th_items (names : ByteArray) (ns : List Int) : itemsT 0 (lsT names ns) ⟨#[91]⟩ = thI names ns := jn_items (lsT names ns) 0 ByteArray.empty
theorem th_txt (a b : Int) (c : ByteArray) (ns : List Int) (no : Bool) : txtV 28 thX (thV a b c ((ns.take 8).map ix) no) =
    (((((((((⟨#[123, 97, 58]⟩ ++ decI a) ++ ⟨#[44, 98, 58]⟩) ++ decI b) ++ ⟨#[44, 99, 58]⟩) ++ thW c) ++ ⟨#[44, 100, 58]⟩) ++ thI ⟨#[120, 121, 122]⟩ ns) ++ ⟨#[44, 101, 58]⟩) ++ thT a no) ++ ⟨#[125]⟩ := by
  have h4 : txtV 27 thL (.lst (((ns.take 8).map ix).map Val.cho)) = thI ⟨#[120, 121, 122]⟩ ns := by
    rw [← th_items]
    show itemsT 0 ((((ns.take 8).map ix).map Val.cho).map (txtV 26 thL.in)) ⟨#[91]⟩ = _
    congr 1
    rw [List.map_map, List.map_map]
    refine List.map_congr_left fun v _ => ?_
    show oneB (bAt ⟨#[120, 121, 122]⟩ (ix v)).toNat = _
    rw [extract_oneB _ _ (by have := ix_lt v; show ix v < 3; omega)]
  have h5 : txtV 27 thM (thE a no) = thT a no := by unfold thE thT; split <;> rfl
  show fldsT [(97, txtV 27 (plainTy 105) (.num a)), (98, txtV 27 (plainTy 108) (.num b)), (99, txtV 27 (plainTy 115) (.str c)), (100, txtV 27 thL (.lst (((ns.take 8).map ix).map Val.cho))), (101, txtV 27 thM (thE a no))] ⟨#[123]⟩ ByteArray.empty = _
  rw [h4, h5]
  simp only [fldsT, ByteArray.append_assoc, ByteArray.empty_append]
  rw [lit3 (p := ⟨#[123]⟩) (q := oneB 97) (r := ⟨#[58]⟩) (m := ⟨#[123, 97, 58]⟩) (by decide +kernel), lit3 (p := ⟨#[44]⟩) (q := oneB 98) (r := ⟨#[58]⟩) (m := ⟨#[44, 98, 58]⟩) (by decide +kernel), lit3 (p := ⟨#[44]⟩) (q := oneB 99) (r := ⟨#[58]⟩) (m := ⟨#[44, 99, 58]⟩) (by decide +kernel), lit3 (p := ⟨#[44]⟩) (q := oneB 100) (r := ⟨#[58]⟩) (m := ⟨#[44, 100, 58]⟩) (by decide +kernel), lit3 (p := ⟨#[44]⟩) (q := oneB 101) (r := ⟨#[58]⟩) (m := ⟨#[44, 101, 58]⟩) (by decide +kernel)]
  simp only [thW]
  rfl
theorem rdItems_all {f : Val → Option ByteArray} {g : Val → ByteArray} : ∀ (vs : List Val) (k : Nat) (t : ByteArray), (∀ v ∈ vs, f v = some (g v)) → rdItems f vs k t = some (itemsT k (vs.map g) t)
  | [], k, t, h => rfl
  | v :: vs, k, t, h => by
    rw [rdItems, h v (by simp), List.map_cons, itemsT]
    exact rdItems_all vs (k + 1) _ (fun u hu => h u (by simp [hu]))
theorem th_rd (a b : Int) (c : ByteArray) (ns : List Int) (no : Bool) : rdT 62 thX thR (thV a b c ((ns.take 8).map ix) no) =
    some ((((((((⟨#[123, 101, 58]⟩ ++ thT a no) ++ ⟨#[44, 102, 58, 34, 110, 101, 119, 34, 44, 97, 58]⟩) ++ decI a) ++ ⟨#[44, 100, 58]⟩) ++ thI ⟨#[113, 121, 113]⟩ ns) ++ ⟨#[44, 99, 58]⟩) ++ thW c) ++ ⟨#[125]⟩) := by
  have h4 : rdT 61 thL thK (.lst (((ns.take 8).map ix).map Val.cho)) = some (thI ⟨#[113, 121, 113]⟩ ns) := by
    rw [← th_items]
    show rdItems (rdT 60 thL.in thK.in) (((ns.take 8).map ix).map Val.cho) 0 ⟨#[91]⟩ = _
    rw [rdItems_all (g := fun v => (⟨#[113, 121, 113]⟩ : ByteArray).extract v.n.toNat (v.n.toNat + 1)) _ _ _ (fun v hv => by
      obtain ⟨k, hk, rfl⟩ := List.mem_map.1 hv
      obtain ⟨u, _, rfl⟩ := List.mem_map.1 hk
      have := ix_lt u
      obtain h | h | h : ix u = 0 ∨ ix u = 1 ∨ ix u = 2 := by omega
      all_goals (rw [h]; decide +kernel))]
    rw [List.map_map, List.map_map]
    rfl
  have h5 : rdT 61 thM thN (thE a no) = some (thT a no) := by unfold thE thT; split <;> rfl
  have g1 : rdFld (rdT 61) (thX.fields.zip (thV a b c ((ns.take 8).map ix) no).vs) (101, thN, ByteArray.empty) = rdT 61 thM thN (thE a no) := rfl
  have g4 : rdFld (rdT 61) (thX.fields.zip (thV a b c ((ns.take 8).map ix) no).vs) (100, thK, ByteArray.empty) = rdT 61 thL thK (.lst (((ns.take 8).map ix).map Val.cho)) := rfl
  have g2 : rdFld (rdT 61) (thX.fields.zip (thV a b c ((ns.take 8).map ix) no).vs) (102, plainTy 115, ⟨#[34, 110, 101, 119, 34]⟩) = some ⟨#[34, 110, 101, 119, 34]⟩ := rfl
  have g3 : rdFld (rdT 61) (thX.fields.zip (thV a b c ((ns.take 8).map ix) no).vs) (97, plainTy 108, ByteArray.empty) = some (decI a) := rfl
  have g5 : rdFld (rdT 61) (thX.fields.zip (thV a b c ((ns.take 8).map ix) no).vs) (99, plainTy 115, ByteArray.empty) = some (quo ++ c ++ quo) := rfl
  show rdFlds (rdFld (rdT 61) (thX.fields.zip (thV a b c ((ns.take 8).map ix) no).vs)) [(101, thN, ByteArray.empty), (102, plainTy 115, ⟨#[34, 110, 101, 119, 34]⟩), (97, plainTy 108, ByteArray.empty), (100, thK, ByteArray.empty), (99, plainTy 115, ByteArray.empty)] ⟨#[123]⟩ ByteArray.empty = _
  rw [rdFlds, g1, h5]
  simp only
  rw [rdFlds, g2]
  simp only
  rw [rdFlds, g3]
  simp only
  rw [rdFlds, g4, h4]
  simp only
  rw [rdFlds, g5]
  simp only [rdFlds, ByteArray.append_assoc, ByteArray.empty_append]
  rw [lit3 (p := ⟨#[123]⟩) (q := oneB 101) (r := ⟨#[58]⟩) (m := ⟨#[123, 101, 58]⟩) (by decide +kernel), lit3 (p := ⟨#[44]⟩) (q := oneB 102) (r := ⟨#[58]⟩) (m := ⟨#[44, 102, 58]⟩) (by decide +kernel), lit3 (p := ⟨#[44]⟩) (q := oneB 97) (r := ⟨#[58]⟩) (m := ⟨#[44, 97, 58]⟩) (by decide +kernel), lit3 (p := ⟨#[44]⟩) (q := oneB 100) (r := ⟨#[58]⟩) (m := ⟨#[44, 100, 58]⟩) (by decide +kernel), lit3 (p := ⟨#[44]⟩) (q := oneB 99) (r := ⟨#[58]⟩) (m := ⟨#[44, 99, 58]⟩) (by decide +kernel)]
  rw [← ByteArray.append_assoc (a := ⟨#[34, 110, 101, 119, 34]⟩), ← ByteArray.append_assoc (a := ⟨#[44, 102, 58]⟩) (b := ⟨#[34, 110, 101, 119, 34]⟩ ++ ⟨#[44, 97, 58]⟩)]
  rw [show (⟨#[44, 102, 58]⟩ : ByteArray) ++ (⟨#[34, 110, 101, 119, 34]⟩ ++ ⟨#[44, 97, 58]⟩) = ⟨#[44, 102, 58, 34, 110, 101, 119, 34, 44, 97, 58]⟩ by decide +kernel]
  simp only [thW, quo, ByteArray.append_assoc]
/-- Data cut short are nothing. -/
theorem dec_pre {n : Nat} {x : Ty} {v : Val} (hv : okV n x v) : decAll ((datV n v).extract 0 ((datV n v).size - 1)) n x = none := by
  have hp := datV_pos _ _ _ hv
  cases h : decAll ((datV n v).extract 0 ((datV n v).size - 1)) n x with
  | none => rfl
  | some T =>
    obtain ⟨v', h1, h2, h3⟩ := decAll_un h
    have hA := At.of (d := datV n v) (j := 0) (k := (datV n v).size - 1) (Nat.zero_le _) (by omega)
    rw [h2] at hA
    have e1 := dec_mk n x v' 0 h1 hA
    rw [dec_mk n x v 0 hv (At.self _)] at e1
    have hs := congrArg ByteArray.size h2
    rw [size_extract _ _ _ (Nat.zero_le _) (by omega)] at hs
    simp only [Option.some.injEq, Prod.mk.injEq] at e1
    omega
/-- Data with a byte more are nothing. -/
theorem dec_ext {n : Nat} {x : Ty} {v : Val} (hv : okV n x v) (z : ByteArray) (hz : z.size = 1) : decAll (datV n v ++ z) n x = none := by
  cases h : decAll (datV n v ++ z) n x with
  | none => rfl
  | some T =>
    obtain ⟨v', h1, h2, h3⟩ := decAll_un h
    have e1 := dec_mk n x v 0 hv ((At.app.1 (At.self (datV n v ++ z))).1)
    have e2 := dec_mk (d := datV n v ++ z) n x v' 0 h1 (by rw [← h2]; exact At.self _)
    rw [e1] at e2
    have hs := congrArg ByteArray.size h2
    rw [ByteArray.size_append] at hs
    simp only [Option.some.injEq, Prod.mk.injEq] at e2
    omega
end
section
set_option maxRecDepth 4000
open Go.RowKit

set_option maxHeartbeats 4000000 in
theorem there_walk0 (n m : Int) (s : ByteArray) (sv : Value) (no : Bool) (w : World) (A B C W L1 L2 T D TX WT : ByteArray) (zA : A.size ≤ 20) (zB : B.size ≤ 20) (zC : C.size ≤ 20) (zW : W.size ≤ 22) (z1 : L1.size ≤ 20) (z2 : L2.size ≤ 20) (zT : T.size ≤ 20) (zD : D.size ≤ 64) (zD0 : 1 ≤ D.size)
    (hW : W = ⟨#[34]⟩ ++ C ++ ⟨#[34]⟩) (hTX : TX = (((((((((⟨#[123, 97, 58]⟩ ++ A) ++ ⟨#[44, 98, 58]⟩) ++ B) ++ ⟨#[44, 99, 58]⟩) ++ W) ++ ⟨#[44, 100, 58]⟩) ++ L1) ++ ⟨#[44, 101, 58]⟩) ++ T) ++ ⟨#[125]⟩) (hWT : WT = (((((((⟨#[123, 101, 58]⟩ ++ T) ++ ⟨#[44, 102, 58, 34, 110, 101, 119, 34, 44, 97, 58]⟩) ++ A) ++ ⟨#[44, 100, 58]⟩) ++ L2) ++ ⟨#[44, 99, 58]⟩) ++ W) ++ ⟨#[125]⟩) (hT : T = if no = true then ⟨#[95]⟩ else A)
    (h1 : ∀ W, Calls Tryd.prog 11 #[.int .i64 (n.tmod 2147483648)] W fun e w' => e = .returned (.string A) ∧ Below W.heap.size W w')
    (h2 : ∀ W, Calls Tryd.prog 11 #[.int .i64 (m.tmod 1000000000000001)] W fun e w' => e = .returned (.string B) ∧ Below W.heap.size W w')
    (h3 : ∀ W, Calls Tryd.prog 12 #[.string s] W fun e w' => e = .returned (.string C) ∧ Below W.heap.size W w')
    (h4 : ∀ W, Below w.heap.size w W → Calls Tryd.prog 13 #[sv, .string ⟨#[120, 121, 122]⟩] W fun e w' => e = .returned (.string L1) ∧ Below W.heap.size W w')
    (h5 : ∀ W, Below w.heap.size w W → Calls Tryd.prog 13 #[sv, .string ⟨#[113, 121, 113]⟩] W fun e w' => e = .returned (.string L2) ∧ Below W.heap.size W w')
    (h6 : ∀ W, Calls Tryd.prog 14 #[.string ⟨#[123, 97, 58, 105, 44, 98, 58, 108, 44, 99, 58, 115, 44, 100, 58, 91, 60, 120, 121, 122, 62, 93, 44, 101, 58, 63, 105, 125]⟩, .string TX] W fun e w' => e = .returned (.tuple #[.string D, .int .i64 0]) ∧ Below W.heap.size W w')
    (h7 : ∀ W, Below w.heap.size w W → Calls Tryd.prog 9 #[.string ⟨#[123, 97, 58, 105, 44, 98, 58, 108, 44, 99, 58, 115, 44, 100, 58, 91, 60, 120, 121, 122, 62, 93, 44, 101, 58, 63, 105, 125]⟩, .string D] W fun e w' => e = .returned (.tuple #[.string TX, .int .i64 0]) ∧ Below W.heap.size W w')
    (h8 : ∀ W, Below w.heap.size w W → Calls Tryd.prog 15 #[.string ⟨#[123, 97, 58, 105, 44, 98, 58, 108, 44, 99, 58, 115, 44, 100, 58, 91, 60, 120, 121, 122, 62, 93, 44, 101, 58, 63, 105, 125]⟩, .string ⟨#[123, 101, 58, 63, 108, 44, 102, 58, 115, 61, 34, 110, 101, 119, 34, 44, 97, 58, 108, 44, 100, 58, 91, 60, 113, 121, 43, 62, 93, 44, 99, 58, 115, 125]⟩, .string D] W fun e w' => e = .returned (.tuple #[.string WT, .int .i64 0]) ∧ Below W.heap.size W w')
    (h9 : ∀ W, Below w.heap.size w W → Calls Tryd.prog 9 #[.string ⟨#[123, 97, 58, 105, 44, 98, 58, 108, 44, 99, 58, 115, 44, 100, 58, 91, 60, 120, 121, 122, 62, 93, 44, 101, 58, 63, 105, 125]⟩, .string (D.extract 0 (D.size - 1))] W fun e w' => e = .returned (.tuple #[.string ByteArray.empty, .int .i64 5]) ∧ Below W.heap.size W w')
    (h10 : ∀ W, Below w.heap.size w W → Calls Tryd.prog 9 #[.string ⟨#[123, 97, 58, 105, 44, 98, 58, 108, 44, 99, 58, 115, 44, 100, 58, 91, 60, 120, 121, 122, 62, 93, 44, 101, 58, 63, 105, 125]⟩, .string (D ++ ⟨#[0]⟩)] W fun e w' => e = .returned (.tuple #[.string ByteArray.empty, .int .i64 5]) ∧ Below W.heap.size W w') :
    Calls Tryd.prog 4 #[.int .i64 n, .int .i64 m, .string s, sv, .bool no] w fun e w' => e = .returned (.bool true) ∧ Below w.heap.size w w' := by
  have hDd : ((D.size : Int) == 0) = false := by rw [beq_eq_false_iff_ne]; omega
  cases no with
  | true =>
    rw [if_pos rfl] at hT
    subst hT hW hTX hWT
    go_enter Tryd.func4, Tryd.ntmps4
    go_wp2_with (first
      | (go_at_call 11; have hq := hb1; refine (h2 _).mono ?_; rintro e w2 ⟨rfl, hb2⟩)
      | (go_at_call 11; refine (h1 _).mono ?_; rintro e w1 ⟨rfl, hb1⟩)
      | (go_at_call 12; refine (h3 _).mono ?_; rintro e w3 ⟨rfl, hb3⟩; have g3 := (hb1.thn hb2).thn hb3)
      | (go_at_call 13; have hq := hb4; refine (h5 _ g4).mono ?_; rintro e w5 ⟨rfl, hb5⟩; have g5 := g4.thn hb5)
      | (go_at_call 13; refine (h4 _ g3).mono ?_; rintro e w4 ⟨rfl, hb4⟩; have g4 := g3.thn hb4)
      | (go_at_call 14; refine (h6 _).mono ?_; rintro e w6 ⟨rfl, hb6⟩; have g6 := g5.thn hb6)
      | (go_at_call 15; refine (h8 _ g7).mono ?_; rintro e w8 ⟨rfl, hb8⟩; have g8 := g7.thn hb8)
      | (go_at_call 9; have hq := hb9; refine (h10 _ g9).mono ?_; rintro e w10 ⟨rfl, hb10⟩; have g10 := g9.thn hb10)
      | (go_at_call 9; have hq := hb8; refine (h9 _ g8).mono ?_; rintro e w9 ⟨rfl, hb9⟩; have g9 := g8.thn hb9)
      | (go_at_call 9; refine (h7 _ g6).mono ?_; rintro e w7 ⟨rfl, hb7⟩; have g7 := g6.thn hb7))
    go_ret
    exact ⟨ret_bool (by simp), g10⟩
  | false =>
    rw [if_neg (by simp)] at hT
    subst hT hW hTX hWT
    go_enter Tryd.func4, Tryd.ntmps4
    go_wp2_with (first
      | (go_at_call 11; have hq := hb1; refine (h2 _).mono ?_; rintro e w2 ⟨rfl, hb2⟩)
      | (go_at_call 11; refine (h1 _).mono ?_; rintro e w1 ⟨rfl, hb1⟩)
      | (go_at_call 12; refine (h3 _).mono ?_; rintro e w3 ⟨rfl, hb3⟩; have g3 := (hb1.thn hb2).thn hb3)
      | (go_at_call 13; have hq := hb4; refine (h5 _ g4).mono ?_; rintro e w5 ⟨rfl, hb5⟩; have g5 := g4.thn hb5)
      | (go_at_call 13; refine (h4 _ g3).mono ?_; rintro e w4 ⟨rfl, hb4⟩; have g4 := g3.thn hb4)
      | (go_at_call 14; refine (h6 _).mono ?_; rintro e w6 ⟨rfl, hb6⟩; have g6 := g5.thn hb6)
      | (go_at_call 15; refine (h8 _ g7).mono ?_; rintro e w8 ⟨rfl, hb8⟩; have g8 := g7.thn hb8)
      | (go_at_call 9; have hq := hb9; refine (h10 _ g9).mono ?_; rintro e w10 ⟨rfl, hb10⟩; have g10 := g9.thn hb10)
      | (go_at_call 9; have hq := hb8; refine (h9 _ g8).mono ?_; rintro e w9 ⟨rfl, hb9⟩; have g9 := g8.thn hb9)
      | (go_at_call 9; refine (h7 _ g6).mono ?_; rintro e w7 ⟨rfl, hb7⟩; have g7 := g6.thn hb7))
    go_ret
    exact ⟨ret_bool (by simp), g10⟩
end
section
set_option maxRecDepth 4000
open Go.RowKit

theorem thD_len (x : Int) : (decI x).size ≤ 20 := by
  unfold decI
  split
  · have := decS_size 18 (-x).toNat
    rw [ByteArray.size_append]; have : (⟨#[45]⟩ : ByteArray).size = 1 := rfl; omega
  · have := decS_size 18 x.toNat; omega
theorem thI_len {names : ByteArray} (hn : names.size = 3) (ns : List Int) : (thI names ns).size ≤ 18 := by
  have := jn_size (lsT names ns) 0 ByteArray.empty (fun v hv => by
    unfold lsT at hv
    obtain ⟨u, hu, rfl⟩ := List.mem_map.1 hv
    have := ix_lt u
    rw [size_extract _ _ _ (by omega) (by omega)]; omega)
  have e : ByteArray.empty.size = 0 := rfl
  have h8 := lsT_len names ns
  have e1 : (⟨#[91]⟩ : ByteArray).size = 1 := rfl
  have e2 : (⟨#[93]⟩ : ByteArray).size = 1 := rfl
  rw [thI, ByteArray.size_append, ByteArray.size_append]
  omega
theorem tmod_lt (n k : Int) (hk : 0 < k) : -k < n.tmod k ∧ n.tmod k < k := by
  have h := Int.natAbs_tmod n k
  have h2 : n.natAbs % k.natAbs < k.natAbs := Nat.mod_lt _ (by omega)
  omega
theorem there_walk (n m : Int) (s : ByteArray) (hs : s.size ≤ maxLen) (ns : List Int) (hlen : ns.length ≤ maxLen) (ao : Option Addr) (cap : Nat) (no : Bool) (w : World) (hT : Tab w)
    (hc : ∀ (i : Nat) (v : Int), ns[i]? = some v → ∃ b o, ao = some ⟨b, o, none⟩ ∧ w.cell? ⟨b, o + i, none⟩ = some (.int .i64 v)) :
    Calls Tryd.prog 4 #[.int .i64 n, .int .i64 m, .string s, .slice ao ns.length cap, .bool no] w fun e w' => e = .returned (.bool true) ∧ Below w.heap.size w w' := by
  have ha := tmod_lt n 2147483648 (by decide)
  have hb := tmod_lt m 1000000000000001 (by decide)
  have hcl := clF_ok (s := s) s.size 0 ByteArray.empty (by omega) (by decide) rfl
  have hk : ((ns.take 8).map ix).length ≤ 8 ∧ ∀ k ∈ (ns.take 8).map ix, k < 3 := ⟨by rw [List.length_map, List.length_take]; omega, fun k hk => by obtain ⟨u, _, rfl⟩ := List.mem_map.1 hk; exact ix_lt u⟩
  have hok := th_ok no (a := n.tmod 2147483648) (b := m.tmod 1000000000000001) ⟨by omega, by omega⟩ ⟨by omega, by omega⟩ hcl hk
  have hdat := th_dat no (a := n.tmod 2147483648) (b := m.tmod 1000000000000001) hcl.1 hk.1
  have hpos := datV_pos _ _ _ hok
  have htx := th_txt (n.tmod 2147483648) (m.tmod 1000000000000001) (clF s s.size 0 ByteArray.empty) ns no
  have hrd := th_rd (n.tmod 2147483648) (m.tmod 1000000000000001) (clF s s.size 0 ByteArray.empty) ns no
  have hsz : thSb.size = 28 := rfl
  have hsr : thRb.size = 34 := rfl
  have hp := pAll_some (show pAll true thSb = some thX by rw [pAll_st]; exact th_p1)
  have hln := type_ln 28 _ _ _ _ hp
  have hlen2 := txt_len 28 thX _ hok
  have htl : (txtV 28 thX (thV (n.tmod 2147483648) (m.tmod 1000000000000001) (clF s s.size 0 ByteArray.empty) ((ns.take 8).map ix) no)).size ≤ 4096 := by
    have := Nat.mul_le_mul (show ln 28 thX + 4 ≤ 32 by omega) hdat
    omega
  have hE := enc_of (s := thSb) (by omega) th_p1 (by rw [hsz]; exact hok) (by rw [hsz]; exact htl)
  rw [hsz, if_neg (by omega)] at hE
  have e6 := fun W => Encode_any thSb (txtV 28 thX (thV (n.tmod 2147483648) (m.tmod 1000000000000001) (clF s s.size 0 ByteArray.empty) ((ns.take 8).map ix) no)) (by unfold maxLen; omega) (by unfold maxLen; omega) W
  rw [hE] at e6
  have dOut : ∀ d T : ByteArray, d.size ≤ 64 → decAll d 28 thX = some T → decOut false thSb d = (T, 0) := fun d T h1 h2 => by
    unfold decOut; rw [if_neg (by omega), th_p1]; simp only; rw [hsz, h2]
  have dNo : ∀ d : ByteArray, d.size ≤ 64 → decAll d 28 thX = none → decOut false thSb d = (ByteArray.empty, 5) := fun d h1 h2 => by
    unfold decOut; rw [if_neg (by omega), th_p1]; simp only; rw [hsz, h2]
  have e7 := fun (W : World) (hb : Below w.heap.size w W) => Decode_any fmtOK thSb (datV 28 (thV (n.tmod 2147483648) (m.tmod 1000000000000001) (clF s s.size 0 ByteArray.empty) ((ns.take 8).map ix) no)) (by unfold maxLen; omega) (by unfold maxLen; omega) W (hT.keep hb)
  rw [dOut _ _ (by omega) (decAll_val hok)] at e7
  have e8 := fun (W : World) (hb : Below w.heap.size w W) => Read_of thSb thRb (datV 28 (thV (n.tmod 2147483648) (m.tmod 1000000000000001) (clF s s.size 0 ByteArray.empty) ((ns.take 8).map ix) no)) thX thR _ (by omega) (by omega) (by omega) th_p1 th_p2 (by rw [hsz]; exact hok) (by rw [hsz]) W (hT.keep hb)
  rw [hsz, hsr, hrd] at e8
  have hx9 := size_extract (datV 28 (thV (n.tmod 2147483648) (m.tmod 1000000000000001) (clF s s.size 0 ByteArray.empty) ((ns.take 8).map ix) no)) 0 ((datV 28 (thV (n.tmod 2147483648) (m.tmod 1000000000000001) (clF s s.size 0 ByteArray.empty) ((ns.take 8).map ix) no)).size - 1) (Nat.zero_le _) (by omega)
  have e9 := fun (W : World) (hb : Below w.heap.size w W) => Decode_any fmtOK thSb ((datV 28 (thV (n.tmod 2147483648) (m.tmod 1000000000000001) (clF s s.size 0 ByteArray.empty) ((ns.take 8).map ix) no)).extract 0 ((datV 28 (thV (n.tmod 2147483648) (m.tmod 1000000000000001) (clF s s.size 0 ByteArray.empty) ((ns.take 8).map ix) no)).size - 1)) (by unfold maxLen; omega) (by unfold maxLen; omega) W (hT.keep hb)
  rw [dNo _ (by omega) (dec_pre hok)] at e9
  have hz0 : (⟨#[0]⟩ : ByteArray).size = 1 := rfl
  have hx10 := ByteArray.size_append (a := datV 28 (thV (n.tmod 2147483648) (m.tmod 1000000000000001) (clF s s.size 0 ByteArray.empty) ((ns.take 8).map ix) no)) (b := ⟨#[0]⟩)
  have e10 := fun (W : World) (hb : Below w.heap.size w W) => Decode_any fmtOK thSb (datV 28 (thV (n.tmod 2147483648) (m.tmod 1000000000000001) (clF s s.size 0 ByteArray.empty) ((ns.take 8).map ix) no) ++ ⟨#[0]⟩) (by unfold maxLen; omega) (by unfold maxLen; omega) W (hT.keep hb)
  rw [dNo _ (by omega) (dec_ext hok _ rfl)] at e10
  have hcw : ∀ W, Below w.heap.size w W → ∀ (i : Nat) (v : Int), ns[i]? = some v → ∃ b o, ao = some ⟨b, o, none⟩ ∧ W.cell? ⟨b, o + i, none⟩ = some (.int .i64 v) := fun W hb i v hi => by
    obtain ⟨b, o, h1, h2⟩ := hc i v hi
    exact ⟨b, o, h1, cell_keep hb h2⟩
  have hWl : (thW (clF s s.size 0 ByteArray.empty)).size ≤ 22 := by
    have e1 : (⟨#[34]⟩ : ByteArray).size = 1 := rfl
    rw [thW, ByteArray.size_append, ByteArray.size_append]; have := hcl.1; omega
  have hTl : (thT (n.tmod 2147483648) no).size ≤ 20 := by
    unfold thT
    split
    · show 1 ≤ 20; omega
    · exact thD_len _
  have z1 := thI_len (names := ⟨#[120, 121, 122]⟩) rfl ns
  have z2 := thI_len (names := ⟨#[113, 121, 113]⟩) rfl ns
  exact there_walk0 n m s _ no w (decI (n.tmod 2147483648)) (decI (m.tmod 1000000000000001)) (clF s s.size 0 ByteArray.empty) (thW (clF s s.size 0 ByteArray.empty)) (thI ⟨#[120, 121, 122]⟩ ns) (thI ⟨#[113, 121, 113]⟩ ns) (thT (n.tmod 2147483648) no) _ _ _
    (thD_len _) (thD_len _) hcl.1 hWl (by omega) (by omega) hTl (by omega) hpos rfl htx rfl rfl
    (fun W => kDecimal_any _ W (by omega) (by omega)) (fun W => kDecimal_any _ W (by omega) (by omega)) (fun W => clean_any s hs W)
    (fun W hb => listed_any _ rfl ns hlen ao cap W (hcw W hb)) (fun W hb => listed_any _ rfl ns hlen ao cap W (hcw W hb)) e6 e7 e8 e9 e10
end
end Go.Proofs.YtkkekopomiehlaaDoor
