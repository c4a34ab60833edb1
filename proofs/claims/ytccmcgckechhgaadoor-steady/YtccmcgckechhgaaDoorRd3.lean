import Derived.Test.YtccmcgckechhgaaDoorRd2
set_option linter.unusedVariables false
set_option linter.unusedSimpArgs false
set_option maxRecDepth 4000
namespace Go.Proofs.YtccmcgckechhgaaDoor
open Go.RowKit

/-- What is asked of 'Read', of values of at most 64 bytes of data. -/
def ReadOK (Tab : World → Prop) (m : Nat) : Prop := ∀ (nw nr : Nat) (x r : Ty) (v : Val) (w : World) (ai af : Option Addr) (li ci lf cf : Nat) (bi bf : Option Addr) (mi di mf df : Nat),
  nw + nr ≤ m → nw ≤ 100 → nr ≤ 100 → Tab w → okT nw x → okT nr r → Rep nw w ai li ci af lf cf x → Rep nr w bi mi di bf mf df r → okV nw x v → (datV nw v).size ≤ 64 → wt m r ≤ 20000 →
  Calls Tryd.prog 27 #[.agg #[.int .i64 x.kind, .string x.letters, .bool x.op, .slice ai li ci, .slice af lf cf], .agg #[.int .i64 r.kind, .string r.letters, .bool r.op, .slice bi mi di, .slice bf mf df], .string (datV nw v)] w fun e w' => e = .returned (dRet (rdT m x r v)) ∧ Below w.heap.size w w'

theorem cat1 {a : Nat} (b : ByteArray) (ha : a < 256) : (oneB a ++ b).size = 1 + b.size ∧ bAt (oneB a ++ b) (Int.toNat 0) = a ∧ (oneB a ++ b).extract 1 (oneB a ++ b).size = b := by
  have h1 : (oneB a ++ b).size = 1 + b.size := by rw [ByteArray.size_append, oneB_size]
  refine ⟨h1, ?_, ?_⟩
  · show bAt (oneB a ++ b) 0 = a
    rw [bAt_app_left _ _ _ (by rw [oneB_size]; omega), bAt_one a ha]
  · have := (At.self (oneB a ++ b))
    rw [At.app, oneB_size] at this
    have h2 := this.2.ext
    rw [show 0 + 1 = 1 by omega] at h2
    rw [h1]; exact h2

theorem keep10 {W w1 : World} (hb : Below W.heap.size W w1) {b c : Nat} {v0 v1 v2 v3 v4 u0 u1 u2 u3 u4 : Value} (h : W.cell? ⟨b, 0, none⟩ = some v0 ∧ W.cell? ⟨b, 1, none⟩ = some v1 ∧ W.cell? ⟨b, 2, none⟩ = some v2 ∧ W.cell? ⟨b, 3, none⟩ = some v3 ∧ W.cell? ⟨b, 4, none⟩ = some v4 ∧ W.cell? ⟨c, 0, none⟩ = some u0 ∧ W.cell? ⟨c, 1, none⟩ = some u1 ∧ W.cell? ⟨c, 2, none⟩ = some u2 ∧ W.cell? ⟨c, 3, none⟩ = some u3 ∧ W.cell? ⟨c, 4, none⟩ = some u4) :
    w1.cell? ⟨b, 0, none⟩ = some v0 ∧ w1.cell? ⟨b, 1, none⟩ = some v1 ∧ w1.cell? ⟨b, 2, none⟩ = some v2 ∧ w1.cell? ⟨b, 3, none⟩ = some v3 ∧ w1.cell? ⟨b, 4, none⟩ = some v4 ∧ w1.cell? ⟨c, 0, none⟩ = some u0 ∧ w1.cell? ⟨c, 1, none⟩ = some u1 ∧ w1.cell? ⟨c, 2, none⟩ = some u2 ∧ w1.cell? ⟨c, 3, none⟩ = some u3 ∧ w1.cell? ⟨c, 4, none⟩ = some u4 := by
  obtain ⟨h0, h1, h2, h3, h4, k0, k1, k2, k3, k4⟩ := h
  exact ⟨cell_keep hb h0, cell_keep hb h1, cell_keep hb h2, cell_keep hb h3, cell_keep hb h4, cell_keep hb k0, cell_keep hb k1, cell_keep hb k2, cell_keep hb k3, cell_keep hb k4⟩
theorem boxes2 (w : World) (x r : Ty) (ai : Option Addr) (li ci : Nat) (af : Option Addr) (lf cf : Nat) (bi : Option Addr) (mi di : Nat) (bf : Option Addr) (mf df : Nat) :
    ((w.alloc (.cells #[.int .i64 x.kind, .string x.letters, .bool x.op, .slice ai li ci, .slice af lf cf] 38)).alloc (.cells #[.int .i64 r.kind, .string r.letters, .bool r.op, .slice bi mi di, .slice bf mf df] 38)).cell? ⟨w.heap.size, 0, none⟩ = some (.int .i64 x.kind) ∧ ((w.alloc (.cells #[.int .i64 x.kind, .string x.letters, .bool x.op, .slice ai li ci, .slice af lf cf] 38)).alloc (.cells #[.int .i64 r.kind, .string r.letters, .bool r.op, .slice bi mi di, .slice bf mf df] 38)).cell? ⟨w.heap.size, 1, none⟩ = some (.string x.letters) ∧ ((w.alloc (.cells #[.int .i64 x.kind, .string x.letters, .bool x.op, .slice ai li ci, .slice af lf cf] 38)).alloc (.cells #[.int .i64 r.kind, .string r.letters, .bool r.op, .slice bi mi di, .slice bf mf df] 38)).cell? ⟨w.heap.size, 2, none⟩ = some (.bool x.op) ∧ ((w.alloc (.cells #[.int .i64 x.kind, .string x.letters, .bool x.op, .slice ai li ci, .slice af lf cf] 38)).alloc (.cells #[.int .i64 r.kind, .string r.letters, .bool r.op, .slice bi mi di, .slice bf mf df] 38)).cell? ⟨w.heap.size, 3, none⟩ = some (.slice ai li ci) ∧ ((w.alloc (.cells #[.int .i64 x.kind, .string x.letters, .bool x.op, .slice ai li ci, .slice af lf cf] 38)).alloc (.cells #[.int .i64 r.kind, .string r.letters, .bool r.op, .slice bi mi di, .slice bf mf df] 38)).cell? ⟨w.heap.size, 4, none⟩ = some (.slice af lf cf) ∧ ((w.alloc (.cells #[.int .i64 x.kind, .string x.letters, .bool x.op, .slice ai li ci, .slice af lf cf] 38)).alloc (.cells #[.int .i64 r.kind, .string r.letters, .bool r.op, .slice bi mi di, .slice bf mf df] 38)).cell? ⟨w.heap.size + 1, 0, none⟩ = some (.int .i64 r.kind) ∧ ((w.alloc (.cells #[.int .i64 x.kind, .string x.letters, .bool x.op, .slice ai li ci, .slice af lf cf] 38)).alloc (.cells #[.int .i64 r.kind, .string r.letters, .bool r.op, .slice bi mi di, .slice bf mf df] 38)).cell? ⟨w.heap.size + 1, 1, none⟩ = some (.string r.letters) ∧ ((w.alloc (.cells #[.int .i64 x.kind, .string x.letters, .bool x.op, .slice ai li ci, .slice af lf cf] 38)).alloc (.cells #[.int .i64 r.kind, .string r.letters, .bool r.op, .slice bi mi di, .slice bf mf df] 38)).cell? ⟨w.heap.size + 1, 2, none⟩ = some (.bool r.op) ∧ ((w.alloc (.cells #[.int .i64 x.kind, .string x.letters, .bool x.op, .slice ai li ci, .slice af lf cf] 38)).alloc (.cells #[.int .i64 r.kind, .string r.letters, .bool r.op, .slice bi mi di, .slice bf mf df] 38)).cell? ⟨w.heap.size + 1, 3, none⟩ = some (.slice bi mi di) ∧ ((w.alloc (.cells #[.int .i64 x.kind, .string x.letters, .bool x.op, .slice ai li ci, .slice af lf cf] 38)).alloc (.cells #[.int .i64 r.kind, .string r.letters, .bool r.op, .slice bi mi di, .slice bf mf df] 38)).cell? ⟨w.heap.size + 1, 4, none⟩ = some (.slice bf mf df) := by
  have h : (w.alloc (.cells #[.int .i64 x.kind, .string x.letters, .bool x.op, .slice ai li ci, .slice af lf cf] 38)).heap.size = w.heap.size + 1 := by simp
  refine ⟨cell_new _ (cell_last rfl rfl), cell_new _ (cell_last rfl rfl), cell_new _ (cell_last rfl rfl), cell_new _ (cell_last rfl rfl), cell_new _ (cell_last rfl rfl), ?_⟩
  rw [← h]
  exact ⟨cell_last rfl rfl, cell_last rfl rfl, cell_last rfl rfl, cell_last rfl rfl, cell_last rfl rfl⟩

set_option maxHeartbeats 1000000 in
theorem readMaybe_non (x r : Ty) (ai : Option Addr) (li ci : Nat) (af : Option Addr) (lf cf : Nat) (bi : Option Addr) (mi di : Nat) (bf : Option Addr) (mf df : Nat) (w : World) :
    Calls Tryd.prog 40 #[.agg #[.int .i64 x.kind, .string x.letters, .bool x.op, .slice ai li ci, .slice af lf cf], .agg #[.int .i64 r.kind, .string r.letters, .bool r.op, .slice bi mi di, .slice bf mf df], .string (oneB 0)] w fun e w' => e = .returned (dRet (if r.kind = 63 then some ⟨#[95]⟩ else none)) ∧ Below w.heap.size w w' := by
  obtain ⟨D, hD⟩ : ∃ D, D = oneB 0 := ⟨_, rfl⟩
  have hDs : D.size ≤ 9000000 := by rw [hD, oneB_size]; omega
  have hb0 : bAt D (Int.toNat 0) = (0 : Nat) := by rw [hD]; exact bAt_one 0 (by omega)
  rw [← hD]
  have hna := fun w => nothingAs_any r bi mi di bf mf df w
  clear hD
  by_cases hk : r.kind = 63
  · rw [if_pos hk]
    rw [if_pos hk] at hna
    clear hk
    go_enter Tryd.func40, Tryd.ntmps40
    go_wp2_with (first | (go_at_call 73; refine (byteAt_int _ _ _ (by omega) hDs).mono ?_; rintro e _ ⟨rfl, rfl⟩; rw [hb0]) | (go_at_call 74; refine (hna _).mono ?_; rintro e w1 ⟨rfl, hb1⟩))
    go_ret2
    exact ⟨rfl, (BB w _ _).thn hb1⟩
  · rw [if_neg hk]
    rw [if_neg hk] at hna
    clear hk
    go_enter Tryd.func40, Tryd.ntmps40
    go_wp2_with (first | (go_at_call 73; refine (byteAt_int _ _ _ (by omega) hDs).mono ?_; rintro e _ ⟨rfl, rfl⟩; rw [hb0]) | (go_at_call 74; refine (hna _).mono ?_; rintro e w1 ⟨rfl, hb1⟩))
    go_ret2
    exact ⟨rfl, (BB w _ _).thn hb1⟩

set_option maxHeartbeats 1000000 in
theorem readMaybe_som {Tab : World → Prop} (F : FmtOK Tab) {m : Nat} (IH : ReadOK Tab m) (nw nr : Nat) (x r : Ty) (v : Val) (w : World) (ai af : Option Addr) (li ci lf cf : Nat) (bi bf : Option Addr) (mi di mf df : Nat)
    (hm : nw + nr ≤ m) (hnw : nw ≤ 100) (hnr : nr ≤ 100) (hT : Tab w) (hox : okT nw x) (hor : okT nr r) (hx : Rep nw w ai li ci af lf cf x) (hr : Rep nr w bi mi di bf mf df r) (hv : okV nw x v) (hsz : (datV nw v).size ≤ 63) (hwt : wt m r ≤ 20000) :
    Calls Tryd.prog 40 #[.agg #[.int .i64 x.kind, .string x.letters, .bool x.op, .slice ai li ci, .slice af lf cf], .agg #[.int .i64 r.kind, .string r.letters, .bool r.op, .slice bi mi di, .slice bf mf df], .string (oneB 1 ++ datV nw v)] w fun e w' => e = .returned (dRet (rdT m x r v)) ∧ Below w.heap.size w w' := by
  obtain ⟨h1, h2, h3⟩ := cat1 (a := 1) (datV nw v) (by omega)
  obtain ⟨D, hD⟩ : ∃ D, D = oneB 1 ++ datV nw v := ⟨_, rfl⟩
  rw [← hD] at h1 h2 h3 ⊢
  have hDs : D.size ≤ 9000000 := by omega
  have hsp := fun w => span_any D 1 D.size w (by omega) (Nat.le_refl _) hDs
  rw [h3] at hsp
  have hcall := fun (W : World) (hb : Below w.heap.size w W) => IH nw nr x r v W ai af li ci lf cf bi bf mi di mf df hm hnw hnr (F.1 _ _ hb hT) hox hor (hx.keep hb) (hr.keep hb) hv (by omega) hwt
  simp only [Int.cast_ofNat_Int] at hsp
  generalize datV nw v = V at hcall hsp
  clear hD h3 hx hr hv IH h1
  cases hy : rdT m x r v with
  | none =>
    rw [hy] at hcall
    simp only [dRet] at hcall
    clear hy
    go_enter Tryd.func40, Tryd.ntmps40
    go_wp2_with (first | (go_at_call 73; refine (byteAt_int _ _ _ (by omega) hDs).mono ?_; rintro e _ ⟨rfl, rfl⟩; rw [h2]))
    have e0 := boxes2 w x r ai li ci af lf cf bi mi di bf mf df
    go_region_held3 (fun w' => w'.cell? ⟨w.heap.size, 0, none⟩ = some (.int .i64 x.kind) ∧ w'.cell? ⟨w.heap.size, 1, none⟩ = some (.string x.letters) ∧ w'.cell? ⟨w.heap.size, 2, none⟩ = some (.bool x.op) ∧ w'.cell? ⟨w.heap.size, 3, none⟩ = some (.slice ai li ci) ∧ w'.cell? ⟨w.heap.size, 4, none⟩ = some (.slice af lf cf) ∧ w'.cell? ⟨w.heap.size + 1, 0, none⟩ = some (.int .i64 r.kind) ∧ w'.cell? ⟨w.heap.size + 1, 1, none⟩ = some (.string r.letters) ∧ w'.cell? ⟨w.heap.size + 1, 2, none⟩ = some (.bool r.op) ∧ w'.cell? ⟨w.heap.size + 1, 3, none⟩ = some (.slice bi mi di) ∧ w'.cell? ⟨w.heap.size + 1, 4, none⟩ = some (.slice bf mf df)) (go_keep) (first | (go_at_call 75; refine (hsp _).mono ?_; rintro e _ ⟨rfl, rfl⟩) | (go_at_call 27; refine (hcall _ (by first | exact (BB w _ _).drew | exact BB w _ _)).mono ?_; rintro e w1 ⟨rfl, hb1⟩; have e1 := keep10 hb1 e0))
    go_wp2_with fail
    go_ret2
    exact ⟨rfl, (BB w _ _).drew.thn hb1⟩
  | some y =>
    rw [hy] at hcall
    simp only [dRet] at hcall
    clear hy
    go_enter Tryd.func40, Tryd.ntmps40
    go_wp2_with (first | (go_at_call 73; refine (byteAt_int _ _ _ (by omega) hDs).mono ?_; rintro e _ ⟨rfl, rfl⟩; rw [h2]))
    have e0 := boxes2 w x r ai li ci af lf cf bi mi di bf mf df
    go_region_held3 (fun w' => w'.cell? ⟨w.heap.size, 0, none⟩ = some (.int .i64 x.kind) ∧ w'.cell? ⟨w.heap.size, 1, none⟩ = some (.string x.letters) ∧ w'.cell? ⟨w.heap.size, 2, none⟩ = some (.bool x.op) ∧ w'.cell? ⟨w.heap.size, 3, none⟩ = some (.slice ai li ci) ∧ w'.cell? ⟨w.heap.size, 4, none⟩ = some (.slice af lf cf) ∧ w'.cell? ⟨w.heap.size + 1, 0, none⟩ = some (.int .i64 r.kind) ∧ w'.cell? ⟨w.heap.size + 1, 1, none⟩ = some (.string r.letters) ∧ w'.cell? ⟨w.heap.size + 1, 2, none⟩ = some (.bool r.op) ∧ w'.cell? ⟨w.heap.size + 1, 3, none⟩ = some (.slice bi mi di) ∧ w'.cell? ⟨w.heap.size + 1, 4, none⟩ = some (.slice bf mf df)) (go_keep) (first | (go_at_call 75; refine (hsp _).mono ?_; rintro e _ ⟨rfl, rfl⟩) | (go_at_call 27; refine (hcall _ (by first | exact (BB w _ _).drew | exact BB w _ _)).mono ?_; rintro e w1 ⟨rfl, hb1⟩; have e1 := keep10 hb1 e0))
    go_wp2_with fail
    go_ret2
    exact ⟨rfl, (BB w _ _).drew.thn hb1⟩

theorem rd_small {C b : Nat} {t : ByteArray} (h : t.size ≤ C * b) (hC : C ≤ 20001) (hb : b ≤ 65) : t.size ≤ 1300100 := by
  have h1 := Nat.mul_le_mul hC hb
  omega

set_option maxHeartbeats 1000000 in
theorem readList_any {Tab : World → Prop} (F : FmtOK Tab) {m : Nat} (IH : ReadOK Tab m) (nw nr : Nat) (x r : Ty) (vs : List Val) (w : World) (ai af : Option Addr) (li ci lf cf : Nat) (bi bf : Option Addr) (mi di mf df : Nat)
    (hm : nw + nr ≤ m) (hnw : nw ≤ 100) (hnr : nr ≤ 100) (hT : Tab w) (hox : okT nw x) (hor : okT nr r) (hx : Rep nw w ai li ci af lf cf x) (hr : Rep nr w bi mi di bf mf df r) (hvl : vs.length ≤ 16) (hv : ∀ v ∈ vs, okV nw x v)
    (hsz : (oneB vs.length ++ catB (vs.map (datV nw))).size ≤ 64) (hwt : wt m r ≤ 20000) :
    Calls Tryd.prog 44 #[.agg #[.int .i64 x.kind, .string x.letters, .bool x.op, .slice ai li ci, .slice af lf cf], .agg #[.int .i64 r.kind, .string r.letters, .bool r.op, .slice bi mi di, .slice bf mf df], .string (oneB vs.length ++ catB (vs.map (datV nw)))] w fun e w' => e = .returned (dRet (rdItems (rdT m x r) vs 0 ⟨#[91]⟩)) ∧ Below w.heap.size w w' := by
  obtain ⟨h1, h2, _⟩ := cat1 (a := vs.length) (catB (vs.map (datV nw))) (by omega)
  have hat : At (oneB vs.length ++ catB (vs.map (datV nw))) 1 (catB (vs.map (datV nw))) := by
    have := At.self (oneB vs.length ++ catB (vs.map (datV nw)))
    rw [At.app, oneB_size] at this
    exact this.2
  obtain ⟨D, hD⟩ : ∃ D, D = oneB vs.length ++ catB (vs.map (datV nw)) := ⟨_, rfl⟩
  rw [← hD] at h1 h2 hat hsz ⊢
  have hDs : D.size ≤ 9000000 := by omega
  obtain ⟨R, hR⟩ : ∃ R, R = rdItems (rdT m x r) vs 0 ⟨#[91]⟩ := ⟨_, rfl⟩
  rw [← hR]
  have HR : Hid (R = rdItems (rdT m x r) vs 0 ⟨#[91]⟩) := hR
  have HD : Hid (D.size = 1 + (catB (vs.map (datV nw))).size) := h1
  have HV : Hid (∀ v ∈ vs, okV nw x v) := hv
  have DA := decodeAt_all F (s := D) (by omega) nw (by omega)
  clear hD hR h1 hv
  go_enter Tryd.func44, Tryd.ntmps44
  go_wp2_with (go_at_call 73; refine (byteAt_int _ _ _ (by omega) hDs).mono ?_; rintro e _ ⟨rfl, rfl⟩; rw [h2])
  clear h2
  go_loopw [9, 10, 11] (fun vd vb vc wr => ∃ (c b : Nat) (us : List Val) (t : ByteArray), c + us.length = vs.length ∧ 1 ≤ b ∧ b ≤ D.size ∧ vc = .int .i64 c ∧ vb = .int .i64 b ∧ vd = .string t ∧ Hid (R = rdItems (rdT m x r) us c t) ∧ Hid (At D b (catB (us.map (datV nw)))) ∧ Hid (∀ u ∈ us, okV nw x u) ∧ Hid (t.size ≤ (wt m r + 1) * b) ∧ Below (w.heap.size + 2) ((w.alloc (.cells #[.int .i64 x.kind, .string x.letters, .bool x.op, .slice ai li ci, .slice af lf cf] 38)).alloc (.cells #[.int .i64 r.kind, .string r.letters, .bool r.op, .slice bi mi di, .slice bf mf df] 38)) wr) (fun _ _ c _ => 17 - (intOf c).toNat)
  case atStart => exact ⟨0, 1, vs, ⟨#[91]⟩, by omega, Nat.le_refl _, by have := HD.out; omega, rfl, by go_num, rfl, HR, hat, HV, (by show (1 : Nat) ≤ _; omega), Below.refl _ _⟩
  case round =>
    obtain ⟨c, b, us, t, hcm, hb1, hbt, rfl, rfl, rfl, hR, hA, hU, ht, hb⟩ := hrel
    have hbW : Below w.heap.size w wr := (BB w _ _).trans (hb.mono (by omega))
    have e0 := keep10 (W := ((w.alloc (.cells #[.int .i64 x.kind, .string x.letters, .bool x.op, .slice ai li ci, .slice af lf cf] 38)).alloc (.cells #[.int .i64 r.kind, .string r.letters, .bool r.op, .slice bi mi di, .slice bf mf df] 38))) (w1 := wr) (hb.mono (by simp)) (boxes2 w x r ai li ci af lf cf bi mi di bf mf df)
    have hTw : Tab wr := F.1 _ _ hbW hT
    have hs2 := rd_small ht.out (by omega) (by omega)
    have hsw : w.heap.size + 2 ≤ wr.heap.size := by have := hb.size; simpa using this
    have one1 : (⟨#[93]⟩ : ByteArray).size = 1 := rfl
    have one2 : (⟨#[44]⟩ : ByteArray).size = 1 := rfl
    cases us with
    | nil =>
      have hcL : ¬ (c : Int) < (vs.length : Int) := by simp at hcm; omega
      have hr' : Hid (R = some (t ++ ⟨#[93]⟩)) := hR
      go_wp2_with fail
      go_ret2
      rw [hr'.out]
      exact ⟨rfl, hbW⟩
    | cons u us =>
      have hcL : (c : Int) < (vs.length : Int) := by simp at hcm; omega
      have hA2 : At D b (datV nw u) ∧ At D (b + (datV nw u).size) (catB (us.map (datV nw))) := by
        have := hA.out; simp only [List.map_cons, catB] at this; exact At.app.1 this
      have hu := hU.out u (by simp)
      have hdx := dec_mk nw x u b hu hA2.1
      obtain ⟨k, hk⟩ : ∃ k, k = b + (datV nw u).size := ⟨_, rfl⟩
      rw [← hk] at hdx hA2
      have hk1 := hA2.1.le
      have hku := datV_pos _ _ _ hu
      have hext : D.extract b k = datV nw u := by rw [hk]; exact hA2.1.ext
      have hcall := DA.yes hbt hTw hox (hx.keep hbW) hdx
      have hsp := fun w => span_any D b k w (by omega) (by omega) hDs
      rw [hext] at hsp
      have hrd := fun (W : World) (hb' : Below wr.heap.size wr W) => IH nw nr x r u W ai af li ci lf cf bi bf mi di mf df hm hnw hnr (F.1 _ _ (hbW.thn hb') hT) hox hor (hx.keep (hbW.thn hb')) (hr.keep (hbW.thn hb')) hu (by omega) hwt
      have HA : Hid (At D k (catB (us.map (datV nw)))) := hA2.2
      have HU : Hid (∀ v ∈ us, okV nw x v) := fun v hv => hU.out v (by simp [hv])
      have hkD : k ≤ D.size := by omega
      have hbk : b < k := by omega
      have hxs := fun y (hy : rdT m x r u = some y) => rdT_size m nw x r u y hu hy
      have hkb : (datV nw u).size = k - b := by omega
      rw [hkb] at hxs
      have hlen : c + 1 + us.length = vs.length := by simp at hcm; omega
      generalize datV nw u = V at hsp hrd
      clear hdx hA2 hext hk hU hA hk1 hku hkb hcm
      cases hy : rdT m x r u with
      | none =>
        have hr' : Hid (R = none) := by show _ = _; rw [hR.out, rdItems, hy]
        rw [hy] at hrd
        simp only [dRet] at hrd
        clear hy hxs
        go_wp2_with (first | (go_at_call 32; refine hcall.mono ?_; rintro e w1 ⟨rfl, hb1⟩; have e1 := keep10 hb1 e0))
        go_region_held3 (fun w' => w'.cell? ⟨w.heap.size, 0, none⟩ = some (.int .i64 x.kind) ∧ w'.cell? ⟨w.heap.size, 1, none⟩ = some (.string x.letters) ∧ w'.cell? ⟨w.heap.size, 2, none⟩ = some (.bool x.op) ∧ w'.cell? ⟨w.heap.size, 3, none⟩ = some (.slice ai li ci) ∧ w'.cell? ⟨w.heap.size, 4, none⟩ = some (.slice af lf cf) ∧ w'.cell? ⟨w.heap.size + 1, 0, none⟩ = some (.int .i64 r.kind) ∧ w'.cell? ⟨w.heap.size + 1, 1, none⟩ = some (.string r.letters) ∧ w'.cell? ⟨w.heap.size + 1, 2, none⟩ = some (.bool r.op) ∧ w'.cell? ⟨w.heap.size + 1, 3, none⟩ = some (.slice bi mi di) ∧ w'.cell? ⟨w.heap.size + 1, 4, none⟩ = some (.slice bf mf df)) (go_keep) (first | (go_at_call 75; refine (hsp _).mono ?_; rintro e _ ⟨rfl, rfl⟩) | (go_at_call 27; refine (hrd _ (by first | exact hb1.drew | exact hb1)).mono ?_; rintro e w2 ⟨rfl, hb2⟩; have e2 := keep10 hb2 e1))
        go_wp2_with fail
        go_ret2
        rw [hr'.out]
        exact ⟨rfl, (hbW.thn hb1).drew.thn hb2⟩
      | some y =>
        have hys := hxs y hy
        rw [hy] at hrd
        simp only [dRet] at hrd
        have hsum : t.size + 1 + y.size ≤ (wt m r + 1) * k := by
          have h1 := mul_sub_add (C := wt m r + 1) (show 0 ≤ b by omega) (show b ≤ k by omega)
          have h2 : (wt m r + 1) * (k - b) = wt m r * (k - b) + (k - b) := by rw [Nat.add_mul, Nat.one_mul]
          have := ht.out
          simp only [Nat.sub_zero] at h1
          omega
        have hs3 : y.size ≤ 1300100 := by
          have h3 : y.size ≤ (wt m r + 1) * k := by omega
          exact rd_small h3 (by omega) (by omega)
        by_cases hc0 : c = 0
        · subst hc0
          have hr' : Hid (R = rdItems (rdT m x r) us (0 + 1) (t ++ y)) := by show _ = _; rw [hR.out, rdItems, hy]; rfl
          have HS : Hid ((t ++ y).size ≤ (wt m r + 1) * k) := by show _ ≤ _; rw [ByteArray.size_append]; omega
          clear hy hxs hsum hys
          go_wp2_with (first | (go_at_call 32; refine hcall.mono ?_; rintro e w1 ⟨rfl, hb1⟩; have e1 := keep10 hb1 e0))
          go_region_held3 (fun w' => w'.cell? ⟨w.heap.size, 0, none⟩ = some (.int .i64 x.kind) ∧ w'.cell? ⟨w.heap.size, 1, none⟩ = some (.string x.letters) ∧ w'.cell? ⟨w.heap.size, 2, none⟩ = some (.bool x.op) ∧ w'.cell? ⟨w.heap.size, 3, none⟩ = some (.slice ai li ci) ∧ w'.cell? ⟨w.heap.size, 4, none⟩ = some (.slice af lf cf) ∧ w'.cell? ⟨w.heap.size + 1, 0, none⟩ = some (.int .i64 r.kind) ∧ w'.cell? ⟨w.heap.size + 1, 1, none⟩ = some (.string r.letters) ∧ w'.cell? ⟨w.heap.size + 1, 2, none⟩ = some (.bool r.op) ∧ w'.cell? ⟨w.heap.size + 1, 3, none⟩ = some (.slice bi mi di) ∧ w'.cell? ⟨w.heap.size + 1, 4, none⟩ = some (.slice bf mf df)) (go_keep) (first | (go_at_call 75; refine (hsp _).mono ?_; rintro e _ ⟨rfl, rfl⟩) | (go_at_call 27; refine (hrd _ (by first | exact hb1.drew | exact hb1)).mono ?_; rintro e w2 ⟨rfl, hb2⟩; have e2 := keep10 hb2 e1))
          go_wp2_with fail
          go_roundw
          case rel => exact ⟨0 + 1, k, us, t ++ y, hlen, by omega, hkD, by go_num, rfl, rfl, hr', HA, HU, HS, hb.trans ((hb1.drew.thn hb2).mono hsw)⟩
          case measure => simp [intOf]
        · have hc0' : (0 : Int) < (c : Int) := by omega
          have hr' : Hid (R = rdItems (rdT m x r) us (c + 1) (t ++ ⟨#[44]⟩ ++ y)) := by show _ = _; rw [hR.out, rdItems, hy]; simp only [if_pos (show 0 < c by omega)]
          have hsz1 : (t ++ ⟨#[44]⟩).size = t.size + 1 := by rw [ByteArray.size_append, one2]
          have HS : Hid ((t ++ ⟨#[44]⟩ ++ y).size ≤ (wt m r + 1) * k) := by show _ ≤ _; rw [ByteArray.size_append, hsz1]; omega
          clear hy hxs hsum hys
          go_wp2_with (first | (go_at_call 32; refine hcall.mono ?_; rintro e w1 ⟨rfl, hb1⟩; have e1 := keep10 hb1 e0))
          go_region_held3 (fun w' => w'.cell? ⟨w.heap.size, 0, none⟩ = some (.int .i64 x.kind) ∧ w'.cell? ⟨w.heap.size, 1, none⟩ = some (.string x.letters) ∧ w'.cell? ⟨w.heap.size, 2, none⟩ = some (.bool x.op) ∧ w'.cell? ⟨w.heap.size, 3, none⟩ = some (.slice ai li ci) ∧ w'.cell? ⟨w.heap.size, 4, none⟩ = some (.slice af lf cf) ∧ w'.cell? ⟨w.heap.size + 1, 0, none⟩ = some (.int .i64 r.kind) ∧ w'.cell? ⟨w.heap.size + 1, 1, none⟩ = some (.string r.letters) ∧ w'.cell? ⟨w.heap.size + 1, 2, none⟩ = some (.bool r.op) ∧ w'.cell? ⟨w.heap.size + 1, 3, none⟩ = some (.slice bi mi di) ∧ w'.cell? ⟨w.heap.size + 1, 4, none⟩ = some (.slice bf mf df)) (go_keep) (first | (go_at_call 75; refine (hsp _).mono ?_; rintro e _ ⟨rfl, rfl⟩) | (go_at_call 27; refine (hrd _ (by first | exact hb1.drew | exact hb1)).mono ?_; rintro e w2 ⟨rfl, hb2⟩; have e2 := keep10 hb2 e1))
          go_wp2_with fail
          go_roundw
          case rel => exact ⟨c + 1, k, us, t ++ ⟨#[44]⟩ ++ y, hlen, by omega, hkD, by go_num, rfl, rfl, hr', HA, HU, HS, hb.trans ((hb1.drew.thn hb2).mono hsw)⟩
          case measure => simp [intOf]; omega
end Go.Proofs.YtccmcgckechhgaaDoor
