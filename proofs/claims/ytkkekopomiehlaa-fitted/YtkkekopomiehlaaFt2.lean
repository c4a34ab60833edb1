import Derived.Test.YtkkekopomiehlaaFt1
set_option linter.unusedVariables false
set_option linter.unusedSimpArgs false
set_option maxRecDepth 4000
namespace Go.Proofs.Ytkkekopomiehlaa
open Go.RowKit

theorem thn2 {w W w1 : World} (h : Below w.heap.size w W) (k : Below W.heap.size W w1) : Below w.heap.size w w1 := h.trans (k.mono h.size)
set_option maxHeartbeats 1000000 in
theorem leastRecord_walk (w : World) (af : Option Addr) (lf cf : Nat) (R : ByteArray) (h : Calls Try.prog 77 #[.slice af lf cf, .int .i64 (-1), .string ⟨#[]⟩] w fun e w' => e = .returned (.string R) ∧ Below w.heap.size w w') :
    Calls Try.prog 72 #[.slice af lf cf] w fun e w' => e = .returned (.string R) ∧ Below w.heap.size w w' := by
  go_enter Try.func72, Try.ntmps72
  go_wp2_with (first | (go_at_call 77; refine h.mono ?_; rintro e w1 ⟨rfl, hb1⟩))
  go_ret
  exact ⟨rfl, hb1⟩
theorem leastRecord_any {n : Nat} (IH : LeastOK n) (fs : List (Nat × Ty × ByteArray)) (w : World) (af : Option Addr) (lf cf : Nat) (hlf : lf = fs.length) (hfl : fs.length ≤ 9000000) (hk : ∀ f ∈ fs, f.1 < 256 ∧ tyK n f.2.1) (hwt : (fs.map fun f => wt n f.2.1 + f.2.2.size + 4).sum ≤ 20000) (hr : RepF n w af fs) :
    Calls Try.prog 72 #[.slice af lf cf] w fun e w' => e = .returned (.string (rwT (fun t => txtV n t (lv n t)) ⟨#[]⟩ (-1) fs 0 ⟨#[123]⟩ ByteArray.empty)) ∧ Below w.heap.size w w' :=
  leastRecord_walk w af lf cf _ (recordWith_any IH fs (-1) ⟨#[]⟩ w af lf cf hlf hfl (Nat.zero_le _) hk hwt hr)

set_option maxHeartbeats 1000000 in
theorem least_plain (ty : Ty) (w : World) (ai af : Option Addr) (li ci lf cf : Nat) (k : Nat) (x : ByteArray) (hk : ty.kind = k) (h : (k = 105 ∧ x = ⟨#[48]⟩) ∨ (k = 108 ∧ x = ⟨#[48]⟩) ∨ (k = 115 ∧ x = ⟨#[34, 34]⟩) ∨ (k = 91 ∧ x = ⟨#[91, 93]⟩) ∨ (k = 63 ∧ x = ⟨#[95]⟩)) :
    Calls Try.prog 46 #[.agg #[.int .i64 ty.kind, .string ty.letters, .bool ty.op, .slice ai li ci, .slice af lf cf]] w fun e w' => e = .returned (.string x) ∧ Below w.heap.size w w' := by
  have hB : ∀ o, Below w.heap.size w (w.alloc o) := fun o => (Below.refl _ _).alloc (Nat.le_refl _) _
  rw [hk]
  rcases h with ⟨rfl, rfl⟩ | ⟨rfl, rfl⟩ | ⟨rfl, rfl⟩ | ⟨rfl, rfl⟩ | ⟨rfl, rfl⟩ <;> (
    clear hk
    go_enter Try.func46, Try.ntmps46
    go_wp2_with fail
    go_ret
    exact ⟨rfl, by first | exact hB _ | exact Below.refl _ _⟩)
set_option maxHeartbeats 1000000 in
theorem least_cho (ty : Ty) (w : World) (ai af : Option Addr) (li ci lf cf : Nat) (hk : ty.kind = 60) (hl : ty.letters.size ≤ 8) :
    Calls Try.prog 46 #[.agg #[.int .i64 ty.kind, .string ty.letters, .bool ty.op, .slice ai li ci, .slice af lf cf]] w fun e w' => e = .returned (.string (ty.letters.extract 0 1)) ∧ Below w.heap.size w w' := by
  have hB : ∀ o, Below w.heap.size w (w.alloc o) := fun o => (Below.refl _ _).alloc (Nat.le_refl _) _
  have hfl := fun W => firstLetter_any ty ai li ci af lf cf W hl
  rw [hk] at hfl ⊢
  clear hk
  go_enter Try.func46, Try.ntmps46
  go_wp2_with (first | (go_at_call 71; refine (hfl _).mono ?_; rintro e w1 ⟨rfl, hb1⟩))
  go_ret
  exact ⟨rfl, by first | exact thn2 (hB _) hb1 | exact hb1⟩
set_option maxHeartbeats 1000000 in
theorem least_rcd (ty : Ty) (w : World) (ai af : Option Addr) (li ci lf cf : Nat) (hk : ty.kind = 123) (x : ByteArray) (h : ∀ W, Below w.heap.size w W → Calls Try.prog 72 #[.slice af lf cf] W fun e w' => e = .returned (.string x) ∧ Below W.heap.size W w') :
    Calls Try.prog 46 #[.agg #[.int .i64 ty.kind, .string ty.letters, .bool ty.op, .slice ai li ci, .slice af lf cf]] w fun e w' => e = .returned (.string x) ∧ Below w.heap.size w w' := by
  have hB : ∀ o, Below w.heap.size w (w.alloc o) := fun o => (Below.refl _ _).alloc (Nat.le_refl _) _
  rw [hk]
  clear hk
  go_enter Try.func46, Try.ntmps46
  go_wp2_with (first | (go_at_call 72; refine (h _ (by first | exact hB _ | exact Below.refl _ _)).mono ?_; rintro e w1 ⟨rfl, hb1⟩))
  go_ret
  exact ⟨rfl, by first | exact thn2 (hB _) hb1 | exact hb1⟩
theorem least_succ {n : Nat} (IH : LeastOK n) : LeastOK (n + 1) := by
  intro ty w ai af li ci lf cf hk hwt hr
  obtain ⟨hkk, hl1, _, hkf⟩ := hk
  have hl8 : ty.letters.size ≤ 8 := hr.1
  rcases hkk with h | h | h | h | h | h | h
  · rw [show lv (n + 1) ty = .num 0 by rw [lv, if_pos (.inl h)]]
    exact least_plain ty w ai af li ci lf cf _ _ h (.inl ⟨rfl, rfl⟩)
  · rw [show lv (n + 1) ty = .num 0 by rw [lv, if_pos (.inr h)]]
    exact least_plain ty w ai af li ci lf cf _ _ h (.inr (.inl ⟨rfl, rfl⟩))
  · rw [show lv (n + 1) ty = .str ByteArray.empty by rw [lv, if_neg (by omega), if_pos h]]
    exact least_plain ty w ai af li ci lf cf _ _ h (.inr (.inr (.inl ⟨rfl, by show (quo ++ ByteArray.empty ++ quo : ByteArray) = _; decide⟩)))
  · rw [show lv (n + 1) ty = .cho 0 by rw [lv, if_neg (by omega), if_neg (by omega), if_pos h], txtV_cho, ← extract_oneB ty.letters 0 (hl1 h)]
    exact least_cho ty w ai af li ci lf cf h hl8
  · rw [show lv (n + 1) ty = .lst [] by rw [lv, if_neg (by omega), if_neg (by omega), if_neg (by omega), if_pos h]]
    exact least_plain ty w ai af li ci lf cf _ _ h (.inr (.inr (.inr (.inl ⟨rfl, by show (⟨#[91]⟩ ++ ⟨#[93]⟩ : ByteArray) = _; decide⟩))))
  · rw [show lv (n + 1) ty = .non by rw [lv, if_neg (by omega), if_neg (by omega), if_neg (by omega), if_neg (by omega), if_pos h]]
    exact least_plain ty w ai af li ci lf cf _ _ h (.inr (.inr (.inr (.inr ⟨rfl, rfl⟩))))
  · rw [show lv (n + 1) ty = .rcd (ty.fields.map fun f => lv n f.2.1) by rw [lv, if_neg (by omega), if_neg (by omega), if_neg (by omega), if_neg (by omega), if_neg (by omega)], txtV_rcd, ← rwT_eq (fun t => txtV n t (lv n t)) (txtV n) ⟨#[]⟩ (-1) ty.fields _ 0 _ _ (by simp) (fun i g v hg hv => by
                rw [List.getElem?_map, hg] at hv; simp at hv; rw [if_neg (by omega), ← hv])]
    refine least_rcd ty w ai af li ci lf cf h _ (fun W hb => ?_)
    have hfl := (hr.keep hb).flds
    exact leastRecord_any IH ty.fields W af lf cf hfl.1 hfl.2.1 hkf (by rw [wt] at hwt; omega) hfl.2.2
theorem least_all : ∀ n, LeastOK n
  | 0 => fun ty w ai af li ci lf cf _ _ hr => hr.elim
  | n + 1 => least_succ (least_all n)

/-- The first letter of the writer's from k on that the reader does not take. -/
def unL (wl rl : ByteArray) (op : Bool) : Nat → Nat → Option Nat
  | 0, _ => none
  | m + 1, k => if (op || decide (0 ≤ pOf rl (bAt wl k))) = true then unL wl rl op m (k + 1) else some k
def uRetL (wl : ByteArray) : Option Nat → Value
  | some k => .tuple #[.string (oneB (bAt wl k).toNat), .bool true]
  | none => .tuple #[.string ByteArray.empty, .bool false]
set_option maxHeartbeats 1000000 in
theorem unreadableLetter_any (x r : Ty) (ai : Option Addr) (li ci : Nat) (af : Option Addr) (lf cf : Nat) (bi : Option Addr) (mi di : Nat) (bf : Option Addr) (mf df : Nat) (w : World) (hx8 : x.letters.size ≤ 8) (hr8 : r.letters.size ≤ 8) :
    Calls Try.prog 47 #[.agg #[.int .i64 x.kind, .string x.letters, .bool x.op, .slice ai li ci, .slice af lf cf], .agg #[.int .i64 r.kind, .string r.letters, .bool r.op, .slice bi mi di, .slice bf mf df]] w fun e w' => e = .returned (uRetL x.letters (unL x.letters r.letters r.op x.letters.size 0)) ∧ Below w.heap.size w w' := by
  have _hx : x.letters.size ≤ 9000000 := by omega
  obtain ⟨R, hR⟩ : ∃ R, R = unL x.letters r.letters r.op x.letters.size 0 := ⟨_, rfl⟩
  rw [← hR]
  have HR : Hid (R = unL x.letters r.letters r.op (x.letters.size - 0) 0) := hR
  clear hR
  go_enter Try.func47, Try.ntmps47
  go_wp2_with fail
  go_loopw [6] (fun vk wr => ∃ (k : Nat), k ≤ x.letters.size ∧ vk = .int .i64 k ∧ Hid (R = unL x.letters r.letters r.op (x.letters.size - k) k) ∧ Below (w.heap.size + 2) ((w.alloc (.cells #[.int .i64 x.kind, .string x.letters, .bool x.op, .slice ai li ci, .slice af lf cf] 41)).alloc (.cells #[.int .i64 r.kind, .string r.letters, .bool r.op, .slice bi mi di, .slice bf mf df] 41)) wr) (fun k _ => 9 - (intOf k).toNat)
  case atStart => exact ⟨0, Nat.zero_le _, rfl, HR, Below.refl _ _⟩
  case round =>
    obtain ⟨k, hk, rfl, hR, hb⟩ := hrel
    have hbB : Below ((w.alloc (.cells #[.int .i64 x.kind, .string x.letters, .bool x.op, .slice ai li ci, .slice af lf cf] 41)).alloc (.cells #[.int .i64 r.kind, .string r.letters, .bool r.op, .slice bi mi di, .slice bf mf df] 41)).heap.size ((w.alloc (.cells #[.int .i64 x.kind, .string x.letters, .bool x.op, .slice ai li ci, .slice af lf cf] 41)).alloc (.cells #[.int .i64 r.kind, .string r.letters, .bool r.op, .slice bi mi di, .slice bf mf df] 41)) wr := hb.mono (by simp)
    obtain ⟨hc, hf⟩ := bcell hbB
    have hsw : w.heap.size + 2 ≤ wr.heap.size := by have := hb.size; simpa using this
    have hbw : Below w.heap.size w wr := (((Below.refl _ _).alloc (Nat.le_refl _) _).alloc (by simp) _).trans (hb.mono (by omega))
    by_cases hlt : k < x.letters.size
    · have hlt' : (k : Int) < (x.letters.size : Int) := by omega
      have hlo : 0 ≤ bAt x.letters k := by rw [bAt_in _ _ hlt]; omega
      have hhi := bAt_hi x.letters k
      have hR2 : R = if (r.op || decide (0 ≤ pOf r.letters (bAt x.letters k))) = true then unL x.letters r.letters r.op (x.letters.size - (k + 1)) (k + 1) else some k := by
        rw [hR.out, show x.letters.size - k = (x.letters.size - (k + 1)) + 1 by omega]; rfl
      have hby := fun W => byteAt_any x.letters k W _hx
      have htk := fun W => takesLetter_any r bi mi di bf mf df (bAt x.letters k) W hr8
      obtain ⟨c, hc0⟩ : ∃ c, c = bAt x.letters k := ⟨_, rfl⟩
      rw [← hc0] at hlo hhi hR2 hby htk
      cases hT : (r.op || decide (0 ≤ pOf r.letters c)) with
      | true =>
        rw [hT] at htk
        have hr' : Hid (R = unL x.letters r.letters r.op (x.letters.size - (k + 1)) (k + 1)) := by show _ = _; rw [hR2, if_pos hT]
        clear hR2 hT hc0
        go_wp2_with (first | (go_at_call 73; refine (hby _).mono ?_; rintro e _ ⟨rfl, rfl⟩) | (go_at_call 74; refine (htk _).mono ?_; rintro e w1 ⟨rfl, hb1⟩))
        go_roundw
        case rel => exact ⟨k + 1, by omega, by go_num, hr', hb.trans (hb1.mono hsw)⟩
        case measure => simp [intOf]; omega
      | false =>
        rw [hT] at htk
        have hr' : Hid (R = some k) := by show _ = _; rw [hR2, if_neg (by rw [hT]; simp)]
        have HC : Hid (bAt x.letters k = c) := hc0.symm
        clear hR2 hT hc0
        go_wp2_with (first | (go_at_call 73; refine (hby _).mono ?_; rintro e _ ⟨rfl, rfl⟩) | (go_at_call 74; refine (htk _).mono ?_; rintro e w1 ⟨rfl, hb1⟩) | (go_at_call 75; refine (oneByte_int c _ hlo (by omega)).mono ?_; rintro e w2 ⟨rfl, hb2⟩))
        go_ret2
        rw [hr'.out]
        simp only [uRetL, HC.out]
        exact ⟨rfl, thn2 (thn2 hbw hb1) hb2⟩
    · have hr' : Hid (R = none) := by show _ = _; rw [hR.out, show x.letters.size - k = 0 by omega]; rfl
      go_wp2_with fail
      go_ret2
      rw [hr'.out]
      exact ⟨rfl, hbw⟩

/-- The least value that can't be read; none: there is none. -/
def unF (f : Ty → Ty → Option Val) (n : Nat) (wf : List (Nat × Ty × ByteArray)) : List (Nat × Ty × ByteArray) → Option Val
  | [] => none
  | g :: gs =>
    match wf.findIdx? (fun h => h.1 == g.1) with
    | none => if g.2.2.size = 0 then some (.rcd (wf.map fun f => lv n f.2.1)) else unF f n wf gs
    | some p =>
      match f ((wf.map fun h => h.2.1).getD p (plainTy 0)) g.2.1 with
      | none => unF f n wf gs
      | some u => some (.rcd ((wf.map fun f => lv n f.2.1).set p u))
def unStep (f g : Ty → Ty → Option Val) (n : Nat) (w r : Ty) : Option Val :=
  if w.kind = 63 ∧ r.kind = 63 then (f w.in r.in).map Val.som
  else if r.kind = 63 then g w r.in
  else if sameK w.kind r.kind = true then none
  else if w.kind ≠ r.kind then some (lv (n + 1) w)
  else if w.kind = 60 then (unL w.letters r.letters r.op w.letters.size 0).map Val.cho
  else if w.kind = 91 then (f w.in r.in).map fun u => .lst [u]
  else if w.kind = 123 then unF f n w.fields r.fields
  else none
def unV : Nat → Nat → Ty → Ty → Option Val
  | 0, _, _, _ => none
  | _ + 1, 0, _, _ => none
  | m + 1, n + 1, w, r => unStep (unV m n) (unV m (n + 1)) n w r
def uR : Option ByteArray → Value
  | some t => .tuple #[.string t, .bool true]
  | none => .tuple #[.string ByteArray.empty, .bool false]
end Go.Proofs.Ytkkekopomiehlaa
