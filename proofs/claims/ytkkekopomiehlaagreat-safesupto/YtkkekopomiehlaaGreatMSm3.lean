import Derived.Test.YtkkekopomiehlaaGreatMRef6
import Derived.Test.YtkkekopomiehlaaGreatMSn1
import Derived.Test.YtkkekopomiehlaaGreatSn6
import Derived.Deep.RegionHeld3
import Derived.Deep.Onto
set_option linter.unusedVariables false
set_option linter.unusedSimpArgs false
namespace Go.Proofs.YtkkekopomiehlaaGreat
section
set_option maxRecDepth 4000
open Go.RowKit

theorem flds_at {n : Nat} {s : ByteArray} (hs : s.size ≤ 99) (hn : n ≤ 99) {i k : Nat} {ty : Ty} (h : pType true s (n + 1) i = some (ty, k)) (hi : s.size ≤ i + (n + 1)) (hk : ty.kind = 123) : ∃ k0,
    ∀ w, Calls Tryz.prog 94 #[.string s, .int .i64 i] w fun e w' => GRet w.heap.size n s (some (ty.fields, k0)) e w' ∧ Below w.heap.size w w' := by
  obtain ⟨hb, n', hn', _, _, _, hf, _⟩ := type_parts h
  cases hn'
  obtain ⟨k', hf⟩ := hf hk
  have his : i < s.size := by have := pType_bd true s _ _ _ _ h; omega
  have hr := ref_all (s := s) (by omega) n (by omega)
  have hF := fieldsOK hr.1 (hr.2 s (by omega)) (by omega) (by omega)
  refine ⟨k', fun w => ?_⟩
  have := hF i w his (by omega)
  rw [hf] at this
  exact this
theorem some_all {s : ByteArray} (hs : s.size ≤ 99) : ∀ (n : Nat), n ≤ 100 → SomeOK n s
  | 0, _ => fun i w ty k h => by simp [pType] at h
  | n + 1, hn => fun i w ty k h hi hw => by
    have hp := type_parts h
    by_cases hk : ty.kind = 123
    · obtain ⟨k0, hF⟩ := flds_at hs (by omega) h hi hk
      have hfl := (fields_ne h hk).2
      have := some_rcd (some_all hs n (by omega)) (by omega) i (by omega) (by rw [hp.1, hk]; rfl) hF (by rw [wt] at hw; omega) w
      rw [lv_rcd hk, datV_rcd, List.map_map]
      exact this
    · rw [lv_plain hk hp.2.choose_spec.2.2.2.2.2]
      exact some_plain s i w (by omega) (by rw [hp.1]; intro hc; exact hk (by omega))
end
section
set_option maxRecDepth 4000
open Go.RowKit

/-- A row of strings, as 'samples' gives it. -/
def SmR (B : Nat) (ds : List ByteArray) (e : Ending) (w' : World) : Prop := ∃ v, e = .returned v ∧ w'.ownsRow B 9 1 v ds.length (ds.map .string)
def SmOK (n : Nat) (s : ByteArray) : Prop := ∀ (i : Nat) (w : World) (ty : Ty) (k : Nat), pType true s n i = some (ty, k) → s.size ≤ i + n → wt n ty ≤ 20000 →
  Calls Tryz.prog 78 #[.string s, .int .i64 i] w fun e w' => SmR w.heap.size ((smV n ty).map (datV n)) e w' ∧ Below w.heap.size w w'
theorem Tryz.infoStrS : (Tryz.prog.info? 9).map (fun i => (i.zero, i.size, i.bytes)) = some (some (.string ⟨#[]⟩), 1, 16) := by kernel_rfl

set_option maxHeartbeats 1000000 in
theorem samples_plain (s : ByteArray) (i : Nat) (w : World) (hs : s.size ≤ 9000000) (hi : i < s.size) (h : bAt s i ≠ 123 ∧ bAt s i ≠ 60 ∧ bAt s i ≠ 91 ∧ bAt s i ≠ 63) :
    Calls Tryz.prog 78 #[.string s, .int .i64 i] w fun e w' => SmR w.heap.size [oneB 0] e w' ∧ Below w.heap.size w w' := by
  have hone := fun w => one_any 0 w (by omega)
  have hbk := bAt_in s i hi
  obtain ⟨ii, hii, hz0, hzz1, hzz2⟩ := info_parts Tryz.infoStrS
  rw [hbk] at h
  obtain ⟨h1, h2, h3, h4⟩ := h
  have h1' : s[i].toNat ≠ 123 := by omega
  have h2' : s[i].toNat ≠ 60 := by omega
  have h3' : s[i].toNat ≠ 91 := by omega
  have h4' : s[i].toNat ≠ 63 := by omega
  clear hbk
  go_enter Tryz.func78, Tryz.ntmps78
  go_wp2_with (first | (go_at_call 95; refine (hone _).mono ?_; rintro e w1 ⟨rfl, hb1⟩) | (at_builtin; refine wpList_append_lies _ rfl _ _ _ rfl w.heap.size 9 ii _ 1 16 Tryz.underlying22 hii hz0 hzz1 hzz2 rfl (by omega) (.slice none 0 0) 0 [] rfl (World.ownsRow_nil _ _ _ _) ⟨w1.heap.size, 0, none⟩ 1 1 [.string (oneB 0)] rfl rfl (World.news_of_block (heap_alloc_new w1 _)) (by simp [Value.oneCell']) (by omega) (by unfold maxLen; omega) (by omega) (by have := hb1.size; simp; omega) (w1.heap.size + 1) (by simp) ?_; intro g' cap' w3 hown' hgrow hat hlt3))
  go_ret
  exact ⟨⟨_, rfl, hown'⟩, Below.grown (Below.alloc' hb1 _) hgrow (by have := hb1.size; simp; omega) (fun k hk => by simp [Value.ownBlock] at hk)⟩
theorem range_snoc (x : Nat) : (List.range (x + 1)).map oneB = (List.range x).map oneB ++ [oneB x] := by rw [List.range_succ, List.map_append]; rfl
set_option maxHeartbeats 1000000 in
theorem samples_cho (s : ByteArray) (i : Nat) (w : World) (hs : s.size ≤ 9000000) (hi : i < s.size) (h : bAt s i = 60) (l : ByteArray) (hl : l.size ≤ 8)
    (hlet : ∀ w, Calls Tryz.prog 91 #[.string s, .int .i64 i] w fun e w' => e = .returned (.string l) ∧ w = w') :
    Calls Tryz.prog 78 #[.string s, .int .i64 i] w fun e w' => SmR w.heap.size ((List.range l.size).map oneB) e w' ∧ Below w.heap.size w w' := by
  have hbk := bAt_in s i hi
  obtain ⟨ii, hii, hz0, hzz1, hzz2⟩ := info_parts Tryz.infoStrS
  have h1' : s[i].toNat = 60 := by omega
  clear hbk h
  go_enter Tryz.func78, Tryz.ntmps78
  go_wp2_with (go_at_call 91; refine (hlet _).mono ?_; rintro e _ ⟨rfl, rfl⟩)
  go_loopw [5, 7] (fun vl vn wr => ∃ x : Nat, x ≤ l.size ∧ vn = .int .i64 x ∧ wr.ownsRow w.heap.size 9 1 vl x (((List.range x).map oneB).map .string) ∧ Below w.heap.size w wr) (fun _ x _ => l.size - (intOf x).toNat)
  case atStart => exact ⟨0, Nat.zero_le _, rfl, World.ownsRow_nil _ _ _ _, Below.refl _ _⟩
  case round =>
    obtain ⟨x, hx, rfl, hown, hb⟩ := hrel
    have hlow : ∀ k, u5.ownBlock = some k → w.heap.size ≤ k ∧ k < wr.heap.size := fun k h => hown.lt k h
    have hzw := hb.size
    by_cases hlt : x < l.size
    · have hone := fun w => one_any x w (by omega)
      go_wp2_with (first | (go_at_call 95; refine (hone _).mono ?_; rintro e w1 ⟨rfl, hb1⟩) | (at_builtin; refine wpList_append_lies _ rfl _ _ _ rfl w.heap.size 9 ii _ 1 16 Tryz.underlying22 hii hz0 hzz1 hzz2 rfl (by omega) u5 x _ rfl ((own_keep hown hb1).alloc _) ⟨w1.heap.size, 0, none⟩ 1 1 [.string (oneB x)] rfl rfl (World.news_of_block (heap_alloc_new w1 _)) (by simp [Value.oneCell']) (by omega) (by unfold maxLen; omega) (by omega) (by have := hb1.size; simp; omega) (w1.heap.size + 1) (by simp) ?_; intro g' cap' w3 hown' hgrow hat hlt3))
      go_roundw
      case rel =>
        refine ⟨x + 1, by omega, by go_num, ?_, Below.grown (Below.alloc' (hb.trans (hb1.mono hzw)) _) hgrow (by have := hb1.size; simp; omega) (fun k hk => (hlow k hk).1)⟩
        rw [range_snoc, List.map_append]; exact hown'
      case measure => simp [intOf]; omega
    · have hxe : x = l.size := by omega
      subst hxe
      go_wp2_with fail
      go_ret
      exact ⟨⟨_, rfl, by rw [List.length_map, List.length_range]; exact hown⟩, hb⟩
theorem add_str {a b : ByteArray} (h : a.size + b.size ≤ 9000000) : Op.stringOp .add a b = (pure (.string (a ++ b)) : Sem Value) := by
  unfold Op.stringOp
  simp only
  rw [if_neg]
  rw [show IntKind.i64.max = 9223372036854775807 from rfl]
  omega
theorem take_snoc {ds : List ByteArray} {x : Nat} {d : ByteArray} (h : ds[x]? = some d) : (ds.take (x + 1)).map (oneB 1 ++ ·) = (ds.take x).map (oneB 1 ++ ·) ++ [oneB 1 ++ d] := by
  rw [List.take_add_one, h, List.map_append]; rfl
set_option maxHeartbeats 1000000 in
theorem samples_in (s : ByteArray) (i : Nat) (w : World) (hs : s.size ≤ 9000000) (hi : i < s.size) (h : bAt s i = 91 ∨ bAt s i = 63) (ds : List ByteArray) (hl : ds.length ≤ 20000) (hds : ∀ d ∈ ds, d.size ≤ 20000)
    (hcall : ∀ w, Calls Tryz.prog 78 #[.string s, .int .i64 ((i : Int) + 1)] w fun e w' => ∃ g cap, e = .returned (.slice (some ⟨g, 0, none⟩) ds.length cap) ∧ w'.ownsRow w.heap.size 9 1 (.slice (some ⟨g, 0, none⟩) ds.length cap) ds.length (ds.map .string) ∧ Below w.heap.size w w') :
    Calls Tryz.prog 78 #[.string s, .int .i64 i] w fun e w' => SmR w.heap.size (oneB 0 :: ds.map (oneB 1 ++ ·)) e w' ∧ Below w.heap.size w w' := by
  have hbk := bAt_in s i hi
  obtain ⟨ii, hii, hz0, hzz1, hzz2⟩ := info_parts Tryz.infoStrS
  have h1' : s[i].toNat = 91 ∨ s[i].toNat = 63 := by omega
  have hone := fun w => one_any 0 w (by omega)
  have hone1 := fun w => one_any 1 w (by omega)
  clear hbk h
  obtain ⟨T, hT⟩ : ∃ T, T = s[i].toNat := ⟨_, rfl⟩
  rcases h1' with h1' | h1' <;> (
  go_enter Tryz.func78, Tryz.ntmps78
  go_wp2_with (first | (go_at_call 78; refine (hcall _).mono ?_; rintro e w1 ⟨g, cap, rfl, hm, hb1⟩) | (go_at_call 95; refine (hone _).mono ?_; rintro e w2 ⟨rfl, hb2⟩) | (at_builtin; refine wpList_append_lies _ rfl _ _ _ rfl w1.heap.size 9 ii _ 1 16 Tryz.underlying22 hii hz0 hzz1 hzz2 rfl (by omega) (.slice none 0 0) 0 [] rfl (World.ownsRow_nil _ _ _ _) ⟨w2.heap.size, 0, none⟩ 1 1 [.string (oneB 0)] rfl rfl (World.news_of_block (heap_alloc_new w2 _)) (by simp [Value.oneCell']) (by omega) (by unfold maxLen; omega) (by omega) (by have := hb2.size; simp; omega) (w2.heap.size + 1) (by simp) ?_; intro g' cap' w3 hown' hgrow hat hlt3))
  have hb3 : Below w1.heap.size w1 w3 := Below.grown (Below.alloc' hb2 _) hgrow (by have := hb2.size; simp; omega) (fun k hk => by simp [Value.ownBlock] at hk)
  go_loopw [5, 9] (fun vl vn wr => ∃ x : Nat, x ≤ ds.length ∧ vn = .int .i64 x ∧ wr.ownsRow w1.heap.size 9 1 vl (x + 1) ((oneB 0 :: (ds.take x).map (oneB 1 ++ ·)).map .string) ∧ Below w1.heap.size w1 wr) (fun _ x _ => ds.length - (intOf x).toNat)
  case atStart => exact ⟨0, Nat.zero_le _, rfl, hown', hb3⟩
  case round =>
    obtain ⟨x, hx, rfl, hown, hb⟩ := hrel
    have hlow : ∀ k, u5.ownBlock = some k → w1.heap.size ≤ k ∧ k < wr.heap.size := fun k h => hown.lt k h
    have hzw := hb.size
    by_cases hlt : x < ds.length
    · obtain ⟨d, hd⟩ : ∃ d, ds[x]? = some d := ⟨ds[x], List.getElem?_eq_getElem hlt⟩
      have hdz := hds d (List.mem_of_getElem? hd)
      have k0 := cell_keep hb (own_cell hm (i := x) (v := .string d) (by rw [List.getElem?_map, hd]; rfl))
      have hg' : g < wr.heap.size := lt_of_cell k0
      have hsn := take_snoc hd
      have ho1 : (oneB 1).size = 1 := oneB_size 1
      have hgw := lt_of_cell (own_cell hm (i := x) (v := .string d) (by rw [List.getElem?_map, hd]; rfl))
      have hgne : some g ≠ u5.ownBlock := fun h => by have := (hlow g h.symm).1; omega
      clear hd
      have hadd : Op.stringOp .add (oneB 1) d = (pure (.string (oneB 1 ++ d)) : Sem Value) := add_str (by rw [ho1]; omega)
      have hx0 : (0 : Int) ≤ (x : Int) := Int.natCast_nonneg _
      have hx1 : (x : Int) < (ds.length : Int) := by omega
      go_wp2_with fail
      go_region_held3 (fun w' => w'.cell? ⟨g, x, none⟩ = some (.string d)) (first | go_keep | (rw [hgrow.cell_far _ (by simp; omega) hgne]; assumption) | exact cell_keep hb4 (by assumption))
        (first | (go_at_call 95; refine (hone1 _).mono ?_; rintro e w4 ⟨rfl, hb4⟩; have hz4 : wr.heap.size ≤ w4.heap.size := hb4.size) | (refine step_append_lies _ (by rfl) _ _ _ (by rfl) w1.heap.size 9 ii _ 1 16 Tryz.underlying22 hii hz0 hzz1 hzz2 rfl (by omega) u5 (x + 1) _ (by rfl) ((own_keep hown.drew hb4).alloc _) ⟨w4.heap.size, 0, none⟩ 1 1 [.string (oneB 1 ++ d)] (by rfl) (by rfl) (World.news_of_block (heap_alloc_new w4 _)) (by simp [Value.oneCell']) (by omega) (by unfold maxLen; omega) (by omega) (by simp; omega) (w4.heap.size + 1) (by simp) ?_; intro g' cap' w5 hown' hgrow hat hlt3))
      go_wp2_with fail
      go_roundw
      case rel =>
        refine ⟨x + 1, by omega, by go_num, ?_, Below.grown (Below.alloc' (hb.drew.trans (hb4.mono hzw)) _) hgrow (by simp; omega) (fun k hk => (hlow k hk).1)⟩
        rw [hsn, List.map_cons, List.map_append]; exact hown'
      case measure => simp [intOf]; omega
    · have hxe : x = ds.length := by omega
      subst hxe
      go_wp2_with fail
      go_ret
      exact ⟨⟨_, rfl, by rw [List.length_cons, List.length_map]; have := World.ownsRow.mono hown hb1.size; rw [List.take_length] at this; exact this⟩, hb1.trans (hb.mono hb1.size)⟩)
end
section
set_option maxRecDepth 4000
open Go.RowKit

/-- Of a record's fields: the data Y, but for one, of which there are all that D gives. -/
def trD (D : Ty → List ByteArray) (Y : List ByteArray) : List (Nat × Ty × ByteArray) → Nat → List ByteArray
  | [], _ => []
  | g :: gs, p => (D g.2.1).map (fun d => (catB (Y.take p) ++ d) ++ catB (Y.drop (p + 1))) ++ trD D Y gs (p + 1)
theorem catB_app : ∀ (a b : List ByteArray), catB (a ++ b) = catB a ++ catB b
  | [], b => by rw [List.nil_append, catB, ByteArray.empty_append]
  | x :: a, b => by rw [List.cons_append, catB, catB, catB_app a b, ByteArray.append_assoc]
theorem cat_set {n p : Nat} {ls : List Val} {u : Val} (h : p < ls.length) : catB ((ls.set p u).map (datV n)) = (catB ((ls.map (datV n)).take p) ++ datV n u) ++ catB ((ls.map (datV n)).drop (p + 1)) := by
  rw [List.set_eq_take_append_cons_drop, if_pos h, List.map_append, List.map_cons, catB_app, catB, ← List.map_take, ← List.map_drop, ByteArray.append_assoc]
theorem trn_dat {n : Nat} {f : Ty → List Val} {ls : List Val} : ∀ (gs : List (Nat × Ty × ByteArray)) (p : Nat), p + gs.length ≤ ls.length →
    (trn f ls gs p).map (datV (n + 1)) = trD (fun t => (f t).map (datV n)) (ls.map (datV n)) gs p
  | [], p, h => rfl
  | g :: gs, p, h => by
    rw [List.length_cons] at h
    rw [trn, trD, List.map_append, trn_dat gs (p + 1) (by omega), List.map_map, List.map_map]
    congr 1
    refine List.map_congr_left fun u hu => ?_
    show datV (n + 1) (.rcd (ls.set p u)) = _
    rw [datV_rcd, cat_set (by omega)]
    rfl
end
section
set_option maxRecDepth 4000
open Go.RowKit

/-- What 'samples' gives at a place, as the walk of 'turned' wants it. -/
def SmIs (n : Nat) (s : ByteArray) (D : Ty → List ByteArray) : Prop := ∀ (p : Nat) (ty : Ty) (k : Nat) (w : World), pType true s n p = some (ty, k) → s.size ≤ p + n → wt n ty ≤ 20000 →
  Calls Tryz.prog 78 #[.string s, .int .i64 p] w fun e w' => ∃ g cap, e = .returned (.slice (some ⟨g, 0, none⟩) (D ty).length cap) ∧ w'.ownsRow w.heap.size 9 1 (.slice (some ⟨g, 0, none⟩) (D ty).length cap) (D ty).length ((D ty).map .string) ∧ Below w.heap.size w w'
theorem cat_take (Y : List ByteArray) (x : Nat) : (catB (Y.take x)).size ≤ (catB Y).size := by
  have := congrArg ByteArray.size (catB_app (Y.take x) (Y.drop x)); rw [List.take_append_drop, ByteArray.size_append] at this; omega
theorem cat_drop (Y : List ByteArray) (x : Nat) : (catB (Y.drop x)).size ≤ (catB Y).size := by
  have := congrArg ByteArray.size (catB_app (Y.take x) (Y.drop x)); rw [List.take_append_drop, ByteArray.size_append] at this; omega
theorem cat_snoc {Y : List ByteArray} {c : Nat} {y : ByteArray} (h : Y[c]? = some y) : catB (Y.take (c + 1)) = catB (Y.take c) ++ y := by
  rw [List.take_add_one, h, catB_app]; simp [catB]
theorem drop_snoc {Y : List ByteArray} {c x : Nat} {y : ByteArray} (h : Y[c]? = some y) (hx : x < c) : catB ((Y.take (c + 1)).drop (x + 1)) = catB ((Y.take c).drop (x + 1)) ++ y := by
  have hl : c < Y.length := (List.getElem?_eq_some_iff.1 h).1
  rw [List.take_add_one, h, List.drop_append_of_le_length (by rw [List.length_take]; omega), catB_app]; simp [catB]
theorem drop_none {Y : List ByteArray} {c x : Nat} (hx : c ≤ x + 1) : catB ((Y.take c).drop (x + 1)) = ByteArray.empty := by
  rw [List.drop_of_length_le (by rw [List.length_take]; omega)]; rfl
theorem trD_len {D : Ty → List ByteArray} {Y : List ByteArray} {f : Nat × Ty × ByteArray} {fs : List (Nat × Ty × ByteArray)} {x : Nat} (h : fs.drop x = f :: fs.drop (x + 1)) :
    trD D Y (fs.drop x) x = (D f.2.1).map (fun d => (catB (Y.take x) ++ d) ++ catB (Y.drop (x + 1))) ++ trD D Y (fs.drop (x + 1)) (x + 1) := by rw [h, trD]
set_option maxHeartbeats 4000000 in
theorem turned_any {n : Nat} {s : ByteArray} (IS : SomeOK n s) {D : Ty → List ByteArray} (IM : SmIs n s D) (hs : s.size ≤ 4096) (i : Nat) {fs : List (Nat × Ty × ByteArray)} {k0 : Nat} (hfl : fs.length ≤ 4096)
    (hF0 : ∀ w, Calls Tryz.prog 94 #[.string s, .int .i64 i] w fun e w' => GRet w.heap.size n s (some (fs, k0)) e w' ∧ Below w.heap.size w w') (hwt : ∀ f ∈ fs, wt n f.2.1 ≤ 20000)
    {Y : List ByteArray} (hY : Y = fs.map fun f => datV n (lv n f.2.1)) (hYs : (catB Y).size ≤ 20000) (hD : ∀ f ∈ fs, ∀ d ∈ D f.2.1, d.size ≤ 20000) (hDl : (trD D Y fs 0).length ≤ 20000) (w : World) :
    Calls Tryz.prog 96 #[.string s, .int .i64 i] w fun e w' => SmR w.heap.size (trD D Y fs 0) e w' ∧ Below w.heap.size w w' := by
  have hF : ∀ w, Calls Tryz.prog 94 #[.string s, .int .i64 i] w fun e w' => ∃ g cap xs, e = .returned (.tuple #[.slice (some ⟨g, 0, none⟩) fs.length cap, .int .i64 k0]) ∧ w'.ownsRow w.heap.size 176 4 (.slice (some ⟨g, 0, none⟩) fs.length cap) fs.length xs ∧ RowR n s xs fs ∧ Below w.heap.size w w' := fun w => by
    refine (hF0 w).mono ?_
    rintro e w' ⟨⟨g, cap, xs, h1, h2, h3⟩, h4⟩
    exact ⟨g, cap, xs, h1, h2, h3, h4⟩
  have hYl : ∀ (x : Nat) (f : Nat × Ty × ByteArray), fs[x]? = some f → Y[x]? = some (datV n (lv n f.2.1)) := fun x f h => by rw [hY, List.getElem?_map, h]; rfl
  obtain ⟨R, hR⟩ : ∃ R, R = trD D Y fs 0 := ⟨_, rfl⟩
  rw [← hR] at hDl ⊢
  obtain ⟨ii, hii, hz0, hzz1, hzz2⟩ := info_parts Tryz.infoStrS
  have HR : Hid (R = [] ++ trD D Y (fs.drop 0) 0) := by show _ = _; rw [hR]; rfl
  have hYt := cat_take Y
  have hYd := cat_drop Y
  have hYlen : Y.length = fs.length := by rw [hY, List.length_map]
  clear hF0 hR hY
  go_enter Tryz.func96, Tryz.ntmps96
  go_wp2_with (go_at_call 94; refine (hF _).mono ?_; rintro e wf ⟨g, cap, xs, rfl, hown0, hrow, hbf0⟩)
  go_loopw [5, 8] (fun vl vn wr => ∃ (x : Nat) (done : List ByteArray), x ≤ fs.length ∧ vn = .int .i64 x ∧ Hid (R = done ++ trD D Y (fs.drop x) x) ∧ wr.ownsRow wf.heap.size 9 1 vl done.length (done.map .string) ∧ Below wf.heap.size wf wr) (fun _ x _ => fs.length - (intOf x).toNat)
  case atStart => exact ⟨0, [], Nat.zero_le _, rfl, HR, World.ownsRow_nil _ _ _ _, Below.refl _ _⟩
  case round =>
    obtain ⟨x, done, hx0, rfl, hR, hown, hb⟩ := hrel
    by_cases hlt : x < fs.length
    · obtain ⟨f, hf⟩ : ∃ f, fs[x]? = some f := ⟨fs[x], List.getElem?_eq_getElem hlt⟩
      have hdrop : fs.drop x = f :: fs.drop (x + 1) := by
        rw [List.drop_eq_getElem_cons hlt]; rw [List.getElem?_eq_getElem hlt] at hf; simp at hf; rw [hf]
      have hfm : f ∈ fs := List.mem_of_getElem? hf
      obtain ⟨p, kp, hp, hpn, h256, c0, c1, c2, c3⟩ := hrow.2 x f hf
      have k1 := cell_keep hb (own_cell hown0 c1)
      have hg' : g < wr.heap.size := lt_of_cell k1
      have hcall := fun w => IM p f.2.1 kp w hp hpn (hwt f hfm)
      have hds := hD f hfm
      obtain ⟨ds, hdsd⟩ : ∃ ds, ds = D f.2.1 := ⟨_, rfl⟩
      rw [← hdsd] at hcall hds
      have hr' : Hid (R = done ++ (ds.map (fun d => (catB (Y.take x) ++ d) ++ catB (Y.drop (x + 1))) ++ trD D Y (fs.drop (x + 1)) (x + 1))) := by show _ = _; rw [hR.out, trD_len hdrop, hdsd]
      clear hf c0 c1 c2 c3 hdrop hR hp hdsd hfm
      go_wp2_with (go_at_call 78; refine (hcall _).mono ?_; rintro e w1 ⟨gm, cm, rfl, hm, hb1⟩)
      go_loopw [10, 11, 12] (fun vh vt vc wq => ∃ c : Nat, c ≤ fs.length ∧ vc = .int .i64 c ∧ vh = .string (catB (Y.take (min c x))) ∧ vt = .string (catB ((Y.take c).drop (x + 1))) ∧ Below w1.heap.size w1 wq) (fun _ _ c _ => fs.length - (intOf c).toNat)
      case atStart => exact ⟨0, Nat.zero_le _, rfl, by simp [catB]; rfl, by simp [catB]; rfl, Below.refl _ _⟩
      case round =>
        obtain ⟨c, hc0, rfl, rfl, rfl, hbq⟩ := hrel
        have k1q := cell_keep hbq (cell_keep hb1 k1)
        by_cases hcl : c < fs.length
        · obtain ⟨f', hf'⟩ : ∃ f', fs[c]? = some f' := ⟨fs[c], List.getElem?_eq_getElem hcl⟩
          have hfm' : f' ∈ fs := List.mem_of_getElem? hf'
          obtain ⟨p', kp', hp', hpn', h256', c0, c1, c2, c3⟩ := hrow.2 c f' hf'
          have j1 := cell_keep hbq (cell_keep hb1 (cell_keep hb (own_cell hown0 c1)))
          have hgq : g < wr.heap.size := lt_of_cell j1
          have hcs := fun w => IS p' w f'.2.1 kp' hp' hpn' (hwt f' hfm')
          have hyl := hYl c f' hf'
          obtain ⟨y, hy⟩ : ∃ y, y = datV n (lv n f'.2.1) := ⟨_, rfl⟩
          rw [← hy] at hcs hyl
          have h1 := hYt (c + 1)
          rw [cat_snoc hyl, ByteArray.size_append] at h1
          have h2 := hYt (min c x)
          have h3 : (catB ((Y.take c).drop (x + 1))).size ≤ 20000 := Nat.le_trans (cat_drop _ _) (Nat.le_trans (hYt c) hYs)
          have h4 : y.size ≤ 20000 := by omega
          have h5 : (catB (Y.take (min c x))).size ≤ 20000 := by omega
          have e1 : c < x → catB (Y.take (min (c + 1) x)) = catB (Y.take (min c x)) ++ y := fun h => by rw [Nat.min_eq_left (by omega), Nat.min_eq_left (by omega), cat_snoc hyl]
          have e2 : ¬ c < x → min (c + 1) x = min c x := fun h => by omega
          have e3 : x < c → catB ((Y.take (c + 1)).drop (x + 1)) = catB ((Y.take c).drop (x + 1)) ++ y := fun h => drop_snoc hyl h
          have e4 : ¬ x < c → catB ((Y.take (c + 1)).drop (x + 1)) = catB ((Y.take c).drop (x + 1)) := fun h => by rw [drop_none (by omega), drop_none (by omega)]
          clear c0 c1 c2 c3 hf' hfm' hp' hyl hy h1 h2 hYl
          obtain ⟨H, hH⟩ : ∃ H, H = catB (Y.take (min c x)) := ⟨_, rfl⟩
          obtain ⟨T, hT⟩ : ∃ T, T = catB ((Y.take c).drop (x + 1)) := ⟨_, rfl⟩
          rw [← hH] at e1 h5 ⊢
          rw [← hT] at e3 e4 h3 ⊢
          have HH : Hid (H = catB (Y.take (min c x))) := hH
          clear hH hT
          rcases Nat.lt_trichotomy c x with hcx | hcx | hcx
          · have e1' := e1 hcx
            have e4' := e4 (by omega)
            clear e1 e2 e3 e4
            clear IS IM hF hrow hown0 hown hm hwt hD hDl hds hcall hr' HR hYlen hYs hii hz0 hzz1 hzz2 hbf0 k1 hb hb1 hg' k1q
            have hcx' : (c : Int) < (x : Int) := by omega
            have hcx2 : ¬ (x : Int) < (c : Int) := by omega
            have hcx3 : ¬ x < c := by omega
            go_wp2_with (go_at_call 116; refine (hcs _).mono ?_; rintro e w2 ⟨rfl, hb2⟩)
            go_roundw
            case rel => exact ⟨c + 1, by omega, by go_num, by rw [e1'], by rw [e4'], hbq.trans (hb2.mono hbq.size)⟩
            case measure => simp [intOf]; omega
          · have e2' := e2 (by omega)
            have e4' := e4 (by omega)
            clear e1 e2 e3 e4
            clear IS IM hF hrow hown0 hown hm hwt hD hDl hds hcall hr' HR hYlen hYs hii hz0 hzz1 hzz2 hbf0 k1 hb hb1 hg' k1q
            have hcx2 : ¬ (c : Int) < (x : Int) := by omega
            have hcx3 : ¬ (x : Int) < (c : Int) := by omega
            have hcx4 : ¬ c < x := by omega
            have hcx5 : ¬ x < c := by omega
            clear hcx
            go_wp2_with (go_at_call 116; refine (hcs _).mono ?_; rintro e w2 ⟨rfl, hb2⟩)
            go_roundw
            case rel => exact ⟨c + 1, by omega, by go_num, by rw [e2', HH.out], by rw [e4'], hbq.trans (hb2.mono hbq.size)⟩
            case measure => simp [intOf]; omega
          · have e2' := e2 (by omega)
            have e3' := e3 hcx
            clear e1 e2 e3 e4
            clear IS IM hF hrow hown0 hown hm hwt hD hDl hds hcall hr' HR hYlen hYs hii hz0 hzz1 hzz2 hbf0 k1 hb hb1 hg' k1q
            have hcx' : (x : Int) < (c : Int) := by omega
            have hcx2 : ¬ (c : Int) < (x : Int) := by omega
            have hcx3 : ¬ c < x := by omega
            go_wp2_with (go_at_call 116; refine (hcs _).mono ?_; rintro e w2 ⟨rfl, hb2⟩)
            go_roundw
            case rel => exact ⟨c + 1, by omega, by go_num, by rw [e2', HH.out], by rw [e3'], hbq.trans (hb2.mono hbq.size)⟩
            case measure => simp [intOf]; omega
        · have hce : c = fs.length := by omega
          subst hce
          have eh : catB (Y.take (min fs.length x)) = catB (Y.take x) := by rw [Nat.min_eq_right (by omega)]
          have et : catB ((Y.take fs.length).drop (x + 1)) = catB (Y.drop (x + 1)) := by rw [List.take_of_length_le (by omega)]
          rw [eh, et]
          have hzh : (catB (Y.take x)).size ≤ 20000 := Nat.le_trans (hYt x) hYs
          have hzt : (catB (Y.drop (x + 1))).size ≤ 20000 := Nat.le_trans (hYd (x + 1)) hYs
          obtain ⟨H, hH⟩ : ∃ H, H = catB (Y.take x) := ⟨_, rfl⟩
          obtain ⟨T, hT⟩ : ∃ T, T = catB (Y.drop (x + 1)) := ⟨_, rfl⟩
          rw [← hH] at hr' hzh ⊢
          rw [← hT] at hr' hzt ⊢
          have HH : Hid (H = catB (Y.take x)) := hH
          have HT : Hid (T = catB (Y.drop (x + 1))) := hT
          clear hH hT
          have hzw := hb.size
          have hz1 := hb1.size
          have hzq := hbq.size
          have hownq := own_keep (own_keep hown hb1) (hbq)
          have hmq : ∀ (j : Nat) (d : ByteArray), ds[j]? = some d → wr.cell? ⟨gm, j, none⟩ = some (.string d) := fun j d hj => cell_keep hbq (own_cell hm (i := j) (v := .string d) (by rw [List.getElem?_map, hj]; rfl))
          have hgm := hm.lt gm rfl
          have hgne : some gm ≠ u5.ownBlock := fun h => by have := (hown.lt gm h.symm).2; omega
          have hbw : Below wf.heap.size wf wr := (hb.trans (hb1.mono hzw)).trans (hbq.mono (by omega))
          have hdl : done.length + ds.length ≤ 20000 := by have := congrArg List.length hr'.out; rw [List.length_append, List.length_append, List.length_map] at this; omega
          clear eh et k1q hYl hYt hYd
          go_wp2_with fail
          go_loopw [5, 14] (fun vl vc wz => ∃ c : Nat, c ≤ ds.length ∧ vc = .int .i64 c ∧ wz.ownsRow wf.heap.size 9 1 vl (done.length + c) ((done ++ (ds.take c).map fun d => (H ++ d) ++ T).map .string) ∧
            (∀ (j : Nat) (d : ByteArray), ds[j]? = some d → wz.cell? ⟨gm, j, none⟩ = some (.string d)) ∧ some gm ≠ vl.ownBlock ∧ gm < wz.heap.size ∧ Below wf.heap.size wf wz) (fun _ c _ => ds.length - (intOf c).toNat)
          case atStart => exact ⟨0, Nat.zero_le _, rfl, by rw [List.take_zero, List.map_nil, List.append_nil]; exact hownq, hmq, hgne, by omega, hbw⟩
          case round =>
            obtain ⟨c, hc0, rfl, hownz, hmz, hgnz, hgz, hbz⟩ := hrel
            have hlow : ∀ k, u5.ownBlock = some k → wf.heap.size ≤ k ∧ k < wr.heap.size := fun k h => hownz.lt k h
            have hzz := hbz.size
            by_cases hcl : c < ds.length
            · obtain ⟨d, hd⟩ : ∃ d, ds[c]? = some d := ⟨ds[c], List.getElem?_eq_getElem hcl⟩
              have hdz := hds d (List.mem_of_getElem? hd)
              have k4 := hmz c d hd
              have HM : Hid (∀ (j : Nat) (d : ByteArray), ds[j]? = some d → wr.cell? ⟨gm, j, none⟩ = some (.string d)) := hmz
              clear hmz
              have hsn : (ds.take (c + 1)).map (fun d => (H ++ d) ++ T) = (ds.take c).map (fun d => (H ++ d) ++ T) ++ [(H ++ d) ++ T] := by rw [List.take_add_one, hd, List.map_append]; rfl
              have hHd : (H ++ d).size ≤ 40000 := by rw [ByteArray.size_append]; omega
              have hx0' : (0 : Int) ≤ (c : Int) := Int.natCast_nonneg _
              have hx1' : (c : Int) < (ds.length : Int) := by omega
              clear hd hr' hown hownq hm hmq hrow hown0 hcall hds IS IM hF hwt hD hDl HR hb1 hbq hb hbf0 hbw k1 hgm hgne
              go_wp2_with (at_builtin; refine wpList_append_lies _ rfl _ _ _ rfl wf.heap.size 9 ii _ 1 16 Tryz.underlying22 hii hz0 hzz1 hzz2 rfl (by omega) u5 (done.length + c) _ rfl (hownz.alloc _) ⟨wr.heap.size, 0, none⟩ 1 1 [.string ((H ++ d) ++ T)] rfl rfl (World.news_of_block (heap_alloc_new wr _)) (by simp [Value.oneCell']) (by omega) (by unfold maxLen; omega) (by omega) (by simp; omega) (wr.heap.size + 1) (by simp) ?_; intro g' cap' w5 hown' hgrow hat hlt3)
              go_roundw
              case rel => exact ⟨c + 1, by omega, by go_num, by rw [hsn, ← List.append_assoc, List.map_append]; exact hown', fun j e hj => by rw [hgrow.cell_far _ (by simp; have := lt_of_cell (HM.out j e hj); omega) hgnz]; exact cell_new _ (HM.out j e hj), fun h => by rcases hat with hat | hat; exact hgnz (by rw [hat]; simpa [Value.ownBlock] using h); simp [Value.ownBlock] at h; omega, by have := hgrow.size; simp at this; omega, Below.grown (Below.alloc' hbz _) hgrow (by simp; omega) (fun k hk => (hlow k hk).1)⟩
              case measure => simp [intOf]; omega
            · have hce : c = ds.length := by omega
              subst hce
              rw [List.take_length] at hownz
              clear hcl
              go_wp2_with fail
              go_roundw
              case rel => exact ⟨x + 1, done ++ ds.map (fun d => (H ++ d) ++ T), by omega, by go_num, by show _ = _; rw [hr'.out, List.append_assoc], by rw [List.length_append, List.length_map]; exact hownz, hbz⟩
              case measure => simp [intOf]; omega
    · have hnil : fs.drop x = [] := List.drop_of_length_le (by omega)
      have hr' : R = done := by rw [hR.out, hnil]; simp [trD]
      clear hR hnil hYl hYt hYd
      go_wp2_with fail
      go_ret
      rw [hr']
      exact ⟨⟨_, rfl, World.ownsRow.mono hown hbf0.size⟩, hbf0.trans (hb.mono hbf0.size)⟩
end
section
set_option maxRecDepth 4000
open Go.RowKit

set_option maxHeartbeats 1000000 in
theorem samples_rcd (s : ByteArray) (i : Nat) (w : World) (hs : s.size ≤ 9000000) (hi : i < s.size) (h : bAt s i = 123) (R : List ByteArray)
    (hcall : ∀ w, Calls Tryz.prog 96 #[.string s, .int .i64 i] w fun e w' => SmR w.heap.size R e w' ∧ Below w.heap.size w w') :
    Calls Tryz.prog 78 #[.string s, .int .i64 i] w fun e w' => SmR w.heap.size R e w' ∧ Below w.heap.size w w' := by
  have hbk := bAt_in s i hi
  have h1' : s[i].toNat = 123 := by omega
  clear hbk h
  go_enter Tryz.func78, Tryz.ntmps78
  go_wp2_with (go_at_call 96; refine (hcall _).mono ?_; rintro e w1 ⟨⟨v, rfl, hm⟩, hb1⟩)
  go_ret
  exact ⟨⟨_, rfl, hm⟩, hb1⟩
theorem SmIs.of {n : Nat} {s : ByteArray} (h : SmOK n s) : SmIs n s (fun t => (smV n t).map (datV n)) := fun p ty k w h1 h2 h3 => by
  refine (h p w ty k h1 h2 h3).mono ?_
  rintro e w' ⟨⟨v, rfl, hm⟩, hb⟩
  have hpos : 0 < ((smV n ty).map (datV n)).length := by
    rw [List.length_map]
    exact List.length_pos_of_mem (lv_sm n ty (type_all _ _ _ _ h1).1)
  obtain ⟨g, cap, rfl, _⟩ := hm.form hpos
  exact ⟨g, cap, rfl, hm, hb⟩
theorem wt_sum {n : Nat} {ty : Ty} {f : Nat × Ty × ByteArray} (h : f ∈ ty.fields) : wt n f.2.1 ≤ wt (n + 1) ty := by
  have := sum_mem (fun f : Nat × Ty × ByteArray => wt n f.2.1 + f.2.2.size + 4) ty.fields f h
  rw [wt]; omega
theorem ln_zero (n : Nat) : ln n (plainTy 0) ≤ 1 := by
  cases n with
  | zero => exact Nat.zero_le _
  | succ n => rw [ln, if_neg (by decide), if_neg (by decide), if_neg (by decide)]; exact Nat.le_refl _
theorem ln_wt : ∀ (n : Nat) (ty : Ty), ln n ty ≤ wt n ty
  | 0, ty => Nat.zero_le _
  | n + 1, ty => by
    have h70 := wt_pos n ty
    have hin : ln n ty.in + 2 ≤ wt (n + 1) ty := by
      cases hi : ty.inner with
      | nil =>
        have : ty.in = plainTy 0 := by rw [Ty.in, hi]; rfl
        have := this ▸ ln_zero n
        omega
      | cons a r =>
        have h1 : ty.in = a := by rw [Ty.in, hi]; rfl
        have h2 := ln_wt n a
        rw [h1, wt, hi, List.map_cons, List.sum_cons]; omega
    rw [ln]
    split
    · omega
    · split
      · omega
      · split
        · have := sum_le (fun f : Nat × Ty × ByteArray => ln n f.2.1 + 3) (fun f => wt n f.2.1 + f.2.2.size + 4) ty.fields (fun f hf => by have := ln_wt n f.2.1; show ln n f.2.1 + 3 ≤ wt n f.2.1 + f.2.2.size + 4; omega)
          rw [wt]; omega
        · omega
theorem samples_all {s : ByteArray} (hs : s.size ≤ 99) : ∀ (n : Nat), n ≤ 100 → SmOK n s
  | 0, _ => fun i w ty k h => by simp [pType] at h
  | n + 1, hn => fun i w ty k h hi hw => by
    have IH := samples_all hs n (by omega)
    have hL := (type_all _ _ _ _ h).1
    have his : i < s.size := by have := pType_bd true s _ _ _ _ h; omega
    have hf0 := fun hk => fields_ne h hk
    have hF0 := fun hk => flds_at hs (show n ≤ 99 by omega) h hi hk
    obtain ⟨hb, n', hn', h60, hin, h63, hfl, hks⟩ := type_parts h
    cases hn'
    by_cases hk : ty.kind = 60
    · rw [smV, if_pos hk, List.map_map]
      have h1 := rChoice_op (by omega) (h60 hk)
      have := samples_cho s i w (by omega) his (by rw [hb, hk]; rfl) ty.letters (hL.2.1 hk).2 (fun w => by rw [h1.1]; exact flipW (letters_any s i w (by omega) his))
      exact this
    by_cases hk1 : ty.kind = 91
    · obtain ⟨k', hk'⟩ := hin (.inl hk1)
      have hwi := inn_wt hL (.inl hk1)
      have hc := fun w => SmIs.of IH (i + 1) ty.in k' w hk' (by omega) (by omega)
      rw [show (((i + 1 : Nat)) : Int) = (i : Int) + 1 by omega] at hc
      have hl := sm_len n ty.in (hL.2.2.1 (.inl hk1))
      have hd := sm_dat n ty.in (hL.2.2.1 (.inl hk1))
      have hlw := ln_wt n ty.in
      have := samples_in s i w (by omega) his (by rw [hb, hk1]; exact .inl rfl) ((smV n ty.in).map (datV n)) (by rw [List.length_map]; omega) (fun d hd' => by obtain ⟨v, hv, rfl⟩ := List.mem_map.1 hd'; have := hd v hv; omega) hc
      rw [smV, if_neg hk, if_pos hk1, List.map_cons, List.map_map]
      rw [List.map_map] at this
      rw [show datV (n + 1) (.lst []) = oneB 0 by rw [datV_lst]; simp [catB]]
      rw [show (smV n ty.in).map (datV (n + 1) ∘ fun v => .lst [v]) = (smV n ty.in).map ((oneB 1 ++ ·) ∘ datV n) from List.map_congr_left fun v hv => by simp only [Function.comp]; rw [datV_lst]; simp [catB]]
      exact this
    by_cases hk2 : ty.kind = 63
    · obtain ⟨k', hk'⟩ := hin (.inr hk2)
      have hwi := inn_wt hL (.inr hk2)
      have hc := fun w => SmIs.of IH (i + 1) ty.in k' w hk' (by omega) (by omega)
      rw [show (((i + 1 : Nat)) : Int) = (i : Int) + 1 by omega] at hc
      have hl := sm_len n ty.in (hL.2.2.1 (.inr hk2))
      have hd := sm_dat n ty.in (hL.2.2.1 (.inr hk2))
      have hlw := ln_wt n ty.in
      have := samples_in s i w (by omega) his (by rw [hb, hk2]; exact .inr rfl) ((smV n ty.in).map (datV n)) (by rw [List.length_map]; omega) (fun d hd' => by obtain ⟨v, hv, rfl⟩ := List.mem_map.1 hd'; have := hd v hv; omega) hc
      rw [smV, if_neg hk, if_neg hk1, if_pos hk2, List.map_cons, List.map_map]
      rw [List.map_map] at this
      exact this
    by_cases hk3 : ty.kind = 123
    · obtain ⟨k0, hF⟩ := hF0 hk3
      have h5 := hL.2.2.2.2 hk3
      have hlen := sm_len (n + 1) ty hL
      have hlv : (catB (ty.fields.map fun f => datV n (lv n f.2.1))).size ≤ 20000 := by
        have := lv_dsz (n + 1) ty
        rw [lv_rcd hk3, datV_rcd, List.map_map] at this
        exact Nat.le_trans this hw
      have hdat := trn_dat (n := n) (f := smV n) (ls := ty.fields.map fun f => lv n f.2.1) ty.fields 0 (by simp)
      rw [smV, if_neg hk, if_neg hk1, if_neg hk2, if_pos hk3] at hlen ⊢
      rw [hdat]
      have hfl' := (hf0 hk3).2
      rw [List.map_map] at hdat ⊢
      refine samples_rcd s i w (by omega) his (by rw [hb, hk3]; rfl) _ (fun w => turned_any (some_all hs n (by omega)) (SmIs.of IH) (by omega) i (by omega) hF (fun f hf => by have := wt_sum (n := n) hf; omega) rfl hlv (fun f hf d hd => ?_) ?_ w)
      · obtain ⟨v, hv, rfl⟩ := List.mem_map.1 hd
        have h1 := sm_dat n f.2.1 (h5.2 f hf) v hv
        have h2 := ln_wt n f.2.1
        have h3 := wt_sum (n := n) hf
        omega
      · have := congrArg List.length hdat
        rw [List.length_map] at this
        have e : (trD (fun t => (smV n t).map (datV n)) (ty.fields.map (datV n ∘ fun f => lv n f.2.1)) ty.fields 0).length ≤ 20000 := by omega
        exact e
    · rw [smV, if_neg hk, if_neg hk1, if_neg hk2, if_neg hk3, List.map_cons, List.map_nil, lv_plain hk3 hks]
      refine samples_plain s i w (by omega) his ⟨?_, ?_, ?_, ?_⟩ <;> (rw [hb]; intro hc; omega)
end
end Go.Proofs.YtkkekopomiehlaaGreat
