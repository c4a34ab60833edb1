import Derived.Test.YtkkekopomiehlaaGreatMEq1
import Derived.Test.YtkkekopomiehlaaGreatParse3
import Derived.Test.YtkkekopomiehlaaGreatMRef1
import Derived.Test.YtkkekopomiehlaaGreatRef4
import Derived.Test.YtkkekopomiehlaaGreatMRef6
set_option linter.unusedVariables false
set_option linter.unusedSimpArgs false
namespace Go.Proofs.YtkkekopomiehlaaGreat
section
set_option maxRecDepth 4000
open Go.RowKit

theorem thn2 {w W w1 : World} (h : Below w.heap.size w W) (k : Below W.heap.size W w1) : Below w.heap.size w w1 := h.trans (k.mono h.size)
set_option maxHeartbeats 1000000 in
theorem leastRecord_walk (w : World) (af : Option Addr) (lf cf : Nat) (R : ByteArray) (h : Calls Tryz.prog 113 #[.slice af lf cf, .int .i64 (-1), .string ⟨#[]⟩] w fun e w' => e = .returned (.string R) ∧ Below w.heap.size w w') :
    Calls Tryz.prog 109 #[.slice af lf cf] w fun e w' => e = .returned (.string R) ∧ Below w.heap.size w w' := by
  go_enter Tryz.func109, Tryz.ntmps109
  go_wp2_with (first | (go_at_call 113; refine h.mono ?_; rintro e w1 ⟨rfl, hb1⟩))
  go_ret
  exact ⟨rfl, hb1⟩
theorem leastRecord_any {n : Nat} (IH : LeastOK n) (fs : List (Nat × Ty × ByteArray)) (w : World) (af : Option Addr) (lf cf : Nat) (hlf : lf = fs.length) (hfl : fs.length ≤ 9000000) (hk : ∀ f ∈ fs, f.1 < 256 ∧ tyK n f.2.1) (hwt : (fs.map fun f => wt n f.2.1 + f.2.2.size + 4).sum ≤ 20000) (hr : RepF n w af fs) :
    Calls Tryz.prog 109 #[.slice af lf cf] w fun e w' => e = .returned (.string (rwT (fun t => txtV n t (lv n t)) ⟨#[]⟩ (-1) fs 0 ⟨#[123]⟩ ByteArray.empty)) ∧ Below w.heap.size w w' :=
  leastRecord_walk w af lf cf _ (recordWith_any IH fs (-1) ⟨#[]⟩ w af lf cf hlf hfl (Nat.zero_le _) hk hwt hr)

set_option maxHeartbeats 1000000 in
theorem least_plain (ty : Ty) (w : World) (ai af : Option Addr) (li ci lf cf : Nat) (k : Nat) (x : ByteArray) (hk : ty.kind = k) (h : (k = 105 ∧ x = ⟨#[48]⟩) ∨ (k = 108 ∧ x = ⟨#[48]⟩) ∨ (k = 115 ∧ x = ⟨#[34, 34]⟩) ∨ (k = 91 ∧ x = ⟨#[91, 93]⟩) ∨ (k = 63 ∧ x = ⟨#[95]⟩)) :
    Calls Tryz.prog 86 #[.agg #[.int .i64 ty.kind, .string ty.letters, .bool ty.op, .slice ai li ci, .slice af lf cf]] w fun e w' => e = .returned (.string x) ∧ Below w.heap.size w w' := by
  have hB : ∀ o, Below w.heap.size w (w.alloc o) := fun o => (Below.refl _ _).alloc (Nat.le_refl _) _
  rw [hk]
  rcases h with ⟨rfl, rfl⟩ | ⟨rfl, rfl⟩ | ⟨rfl, rfl⟩ | ⟨rfl, rfl⟩ | ⟨rfl, rfl⟩ <;> (
    clear hk
    go_enter Tryz.func86, Tryz.ntmps86
    go_wp2_with fail
    go_ret
    exact ⟨rfl, by first | exact hB _ | exact Below.refl _ _⟩)
set_option maxHeartbeats 1000000 in
theorem least_cho (ty : Ty) (w : World) (ai af : Option Addr) (li ci lf cf : Nat) (hk : ty.kind = 60) (hl : ty.letters.size ≤ 8) :
    Calls Tryz.prog 86 #[.agg #[.int .i64 ty.kind, .string ty.letters, .bool ty.op, .slice ai li ci, .slice af lf cf]] w fun e w' => e = .returned (.string (ty.letters.extract 0 1)) ∧ Below w.heap.size w w' := by
  have hB : ∀ o, Below w.heap.size w (w.alloc o) := fun o => (Below.refl _ _).alloc (Nat.le_refl _) _
  have hfl := fun W => firstLetter_any ty ai li ci af lf cf W hl
  rw [hk] at hfl ⊢
  clear hk
  go_enter Tryz.func86, Tryz.ntmps86
  go_wp2_with (first | (go_at_call 108; refine (hfl _).mono ?_; rintro e w1 ⟨rfl, hb1⟩))
  go_ret
  exact ⟨rfl, by first | exact thn2 (hB _) hb1 | exact hb1⟩
set_option maxHeartbeats 1000000 in
theorem least_rcd (ty : Ty) (w : World) (ai af : Option Addr) (li ci lf cf : Nat) (hk : ty.kind = 123) (x : ByteArray) (h : ∀ W, Below w.heap.size w W → Calls Tryz.prog 109 #[.slice af lf cf] W fun e w' => e = .returned (.string x) ∧ Below W.heap.size W w') :
    Calls Tryz.prog 86 #[.agg #[.int .i64 ty.kind, .string ty.letters, .bool ty.op, .slice ai li ci, .slice af lf cf]] w fun e w' => e = .returned (.string x) ∧ Below w.heap.size w w' := by
  have hB : ∀ o, Below w.heap.size w (w.alloc o) := fun o => (Below.refl _ _).alloc (Nat.le_refl _) _
  rw [hk]
  clear hk
  go_enter Tryz.func86, Tryz.ntmps86
  go_wp2_with (first | (go_at_call 109; refine (h _ (by first | exact hB _ | exact Below.refl _ _)).mono ?_; rintro e w1 ⟨rfl, hb1⟩))
  go_ret
  exact ⟨rfl, by first | exact thn2 (hB _) hb1 | exact hb1⟩
theorem least_succ {n : Nat} (IH : LeastOK n) : LeastOK (n + 1) := by
  intro ty w ai af li ci lf cf hk hwt hr
  obtain ⟨hkk, hl1, _, hkf⟩ := hk
  have hl8 : ty.letters.size ≤ 8 := hr.1
  rcases hkk with h | h | h | h | h | h | h
  · rw [show lv (n + 1) ty = .num 0 by rw [lv, if_pos (.inl h)]]
    exact least_plain ty w ai af li ci lf cf _ _ h (.inl ⟨rfl, rfl⟩)
  · rw [show lv (n + 1) ty = .num 0 by rw [lv, if_pos (.inr h)]]
    exact least_plain ty w ai af li ci lf cf _ _ h (.inr (.inl ⟨rfl, rfl⟩))
  · rw [show lv (n + 1) ty = .str ByteArray.empty by rw [lv, if_neg (by omega), if_pos h]]
    exact least_plain ty w ai af li ci lf cf _ _ h (.inr (.inr (.inl ⟨rfl, by show (quo ++ ByteArray.empty ++ quo : ByteArray) = _; decide⟩)))
  · rw [show lv (n + 1) ty = .cho 0 by rw [lv, if_neg (by omega), if_neg (by omega), if_pos h], txtV_cho, ← extract_oneB ty.letters 0 (hl1 h)]
    exact least_cho ty w ai af li ci lf cf h hl8
  · rw [show lv (n + 1) ty = .lst [] by rw [lv, if_neg (by omega), if_neg (by omega), if_neg (by omega), if_pos h]]
    exact least_plain ty w ai af li ci lf cf _ _ h (.inr (.inr (.inr (.inl ⟨rfl, by show (⟨#[91]⟩ ++ ⟨#[93]⟩ : ByteArray) = _; decide⟩))))
  · rw [show lv (n + 1) ty = .non by rw [lv, if_neg (by omega), if_neg (by omega), if_neg (by omega), if_neg (by omega), if_pos h]]
    exact least_plain ty w ai af li ci lf cf _ _ h (.inr (.inr (.inr (.inr ⟨rfl, rfl⟩))))
  · rw [show lv (n + 1) ty = .rcd (ty.fields.map fun f => lv n f.2.1) by rw [lv, if_neg (by omega), if_neg (by omega), if_neg (by omega), if_neg (by omega), if_neg (by omega)], txtV_rcd, ← rwT_eq (fun t => txtV n t (lv n t)) (txtV n) ⟨#[]⟩ (-1) ty.fields _ 0 _ _ (by simp) (fun i g v hg hv => by
                rw [List.getElem?_map, hg] at hv; simp at hv; rw [if_neg (by omega), ← hv])]
    refine least_rcd ty w ai af li ci lf cf h _ (fun W hb => ?_)
    have hfl := (hr.keep hb).flds
    exact leastRecord_any IH ty.fields W af lf cf hfl.1 hfl.2.1 hkf (by rw [wt] at hwt; omega) hfl.2.2
theorem least_all : ∀ n, LeastOK n
  | 0 => fun ty w ai af li ci lf cf _ _ hr => hr.elim
  | n + 1 => least_succ (least_all n)

/-- The first letter of the writer's from k on that the reader does not take. -/
def unL (wl rl : ByteArray) (op : Bool) : Nat → Nat → Option Nat
  | 0, _ => none
  | m + 1, k => if (op || decide (0 ≤ pOf rl (bAt wl k))) = true then unL wl rl op m (k + 1) else some k
def uRetL (wl : ByteArray) : Option Nat → Value
  | some k => .tuple #[.string (oneB (bAt wl k).toNat), .bool true]
  | none => .tuple #[.string ByteArray.empty, .bool false]
set_option maxHeartbeats 1000000 in
theorem unreadableLetter_any (x r : Ty) (ai : Option Addr) (li ci : Nat) (af : Option Addr) (lf cf : Nat) (bi : Option Addr) (mi di : Nat) (bf : Option Addr) (mf df : Nat) (w : World) (hx8 : x.letters.size ≤ 8) (hr8 : r.letters.size ≤ 8) :
    Calls Tryz.prog 87 #[.agg #[.int .i64 x.kind, .string x.letters, .bool x.op, .slice ai li ci, .slice af lf cf], .agg #[.int .i64 r.kind, .string r.letters, .bool r.op, .slice bi mi di, .slice bf mf df]] w fun e w' => e = .returned (uRetL x.letters (unL x.letters r.letters r.op x.letters.size 0)) ∧ Below w.heap.size w w' := by
  have _hx : x.letters.size ≤ 9000000 := by omega
  obtain ⟨R, hR⟩ : ∃ R, R = unL x.letters r.letters r.op x.letters.size 0 := ⟨_, rfl⟩
  rw [← hR]
  have HR : Hid (R = unL x.letters r.letters r.op (x.letters.size - 0) 0) := hR
  clear hR
  go_enter Tryz.func87, Tryz.ntmps87
  go_wp2_with fail
  go_loopw [6] (fun vk wr => ∃ (k : Nat), k ≤ x.letters.size ∧ vk = .int .i64 k ∧ Hid (R = unL x.letters r.letters r.op (x.letters.size - k) k) ∧ Below (w.heap.size + 2) ((w.alloc (.cells #[.int .i64 x.kind, .string x.letters, .bool x.op, .slice ai li ci, .slice af lf cf] 135)).alloc (.cells #[.int .i64 r.kind, .string r.letters, .bool r.op, .slice bi mi di, .slice bf mf df] 135)) wr) (fun k _ => 9 - (intOf k).toNat)
  case atStart => exact ⟨0, Nat.zero_le _, rfl, HR, Below.refl _ _⟩
  case round =>
    obtain ⟨k, hk, rfl, hR, hb⟩ := hrel
    have hbB : Below ((w.alloc (.cells #[.int .i64 x.kind, .string x.letters, .bool x.op, .slice ai li ci, .slice af lf cf] 135)).alloc (.cells #[.int .i64 r.kind, .string r.letters, .bool r.op, .slice bi mi di, .slice bf mf df] 135)).heap.size ((w.alloc (.cells #[.int .i64 x.kind, .string x.letters, .bool x.op, .slice ai li ci, .slice af lf cf] 135)).alloc (.cells #[.int .i64 r.kind, .string r.letters, .bool r.op, .slice bi mi di, .slice bf mf df] 135)) wr := hb.mono (by simp)
    obtain ⟨hc, hf⟩ := bcell hbB
    have hsw : w.heap.size + 2 ≤ wr.heap.size := by have := hb.size; simpa using this
    have hbw : Below w.heap.size w wr := (((Below.refl _ _).alloc (Nat.le_refl _) _).alloc (by simp) _).trans (hb.mono (by omega))
    by_cases hlt : k < x.letters.size
    · have hlt' : (k : Int) < (x.letters.size : Int) := by omega
      have hlo : 0 ≤ bAt x.letters k := by rw [bAt_in _ _ hlt]; omega
      have hhi := bAt_hi x.letters k
      have hR2 : R = if (r.op || decide (0 ≤ pOf r.letters (bAt x.letters k))) = true then unL x.letters r.letters r.op (x.letters.size - (k + 1)) (k + 1) else some k := by
        rw [hR.out, show x.letters.size - k = (x.letters.size - (k + 1)) + 1 by omega]; rfl
      have hby := fun W => byteAt_any x.letters k W _hx
      have htk := fun W => takesLetter_any r bi mi di bf mf df (bAt x.letters k) W hr8
      obtain ⟨c, hc0⟩ : ∃ c, c = bAt x.letters k := ⟨_, rfl⟩
      rw [← hc0] at hlo hhi hR2 hby htk
      cases hT : (r.op || decide (0 ≤ pOf r.letters c)) with
      | true =>
        rw [hT] at htk
        have hr' : Hid (R = unL x.letters r.letters r.op (x.letters.size - (k + 1)) (k + 1)) := by show _ = _; rw [hR2, if_pos hT]
        clear hR2 hT hc0
        go_wp2_with (first | (go_at_call 101; refine (hby _).mono ?_; rintro e _ ⟨rfl, rfl⟩) | (go_at_call 110; refine (htk _).mono ?_; rintro e w1 ⟨rfl, hb1⟩))
        go_roundw
        case rel => exact ⟨k + 1, by omega, by go_num, hr', hb.trans (hb1.mono hsw)⟩
        case measure => simp [intOf]; omega
      | false =>
        rw [hT] at htk
        have hr' : Hid (R = some k) := by show _ = _; rw [hR2, if_neg (by rw [hT]; simp)]
        have HC : Hid (bAt x.letters k = c) := hc0.symm
        clear hR2 hT hc0
        go_wp2_with (first | (go_at_call 101; refine (hby _).mono ?_; rintro e _ ⟨rfl, rfl⟩) | (go_at_call 110; refine (htk _).mono ?_; rintro e w1 ⟨rfl, hb1⟩) | (go_at_call 111; refine (oneByte_int c _ hlo (by omega)).mono ?_; rintro e w2 ⟨rfl, hb2⟩))
        go_ret2
        rw [hr'.out]
        simp only [uRetL, HC.out]
        exact ⟨rfl, thn2 (thn2 hbw hb1) hb2⟩
    · have hr' : Hid (R = none) := by show _ = _; rw [hR.out, show x.letters.size - k = 0 by omega]; rfl
      go_wp2_with fail
      go_ret2
      rw [hr'.out]
      exact ⟨rfl, hbw⟩

/-- The least value that can't be read; none: there is none. -/
def unF (f : Ty → Ty → Option Val) (n : Nat) (wf : List (Nat × Ty × ByteArray)) : List (Nat × Ty × ByteArray) → Option Val
  | [] => none
  | g :: gs =>
    match wf.findIdx? (fun h => h.1 == g.1) with
    | none => if g.2.2.size = 0 then some (.rcd (wf.map fun f => lv n f.2.1)) else unF f n wf gs
    | some p =>
      match f ((wf.map fun h => h.2.1).getD p (plainTy 0)) g.2.1 with
      | none => unF f n wf gs
      | some u => some (.rcd ((wf.map fun f => lv n f.2.1).set p u))
def unStep (f g : Ty → Ty → Option Val) (n : Nat) (w r : Ty) : Option Val :=
  if w.kind = 63 ∧ r.kind = 63 then (f w.in r.in).map Val.som
  else if r.kind = 63 then g w r.in
  else if sameK w.kind r.kind = true then none
  else if w.kind ≠ r.kind then some (lv (n + 1) w)
  else if w.kind = 60 then (unL w.letters r.letters r.op w.letters.size 0).map Val.cho
  else if w.kind = 91 then (f w.in r.in).map fun u => .lst [u]
  else if w.kind = 123 then unF f n w.fields r.fields
  else none
def unV : Nat → Nat → Ty → Ty → Option Val
  | 0, _, _, _ => none
  | _ + 1, 0, _, _ => none
  | m + 1, n + 1, w, r => unStep (unV m n) (unV m (n + 1)) n w r
def uR : Option ByteArray → Value
  | some t => .tuple #[.string t, .bool true]
  | none => .tuple #[.string ByteArray.empty, .bool false]
end
section
set_option maxRecDepth 4000
open Go.RowKit

theorem set_txt {n : Nat} {ty : Ty} {p : Nat} {u : Val} {g : Nat × Ty × ByteArray} (hg : ty.fields[p]? = some g) : rwT (fun t => txtV n t (lv n t)) (txtV n g.2.1 u) (p : Nat) ty.fields 0 ⟨#[123]⟩ ByteArray.empty = txtV (n + 1) ty (.rcd ((ty.fields.map fun f => lv n f.2.1).set p u)) := by
  rw [txtV_rcd]
  refine rwT_eq (fun t => txtV n t (lv n t)) (txtV n) _ _ ty.fields _ 0 _ _ (by simp) (fun i g' v hg' hv => ?_)
  rw [Nat.zero_add]
  by_cases hi : i = p
  · subst hi
    rw [if_pos rfl]
    rw [hg] at hg'; cases hg'
    rw [List.getElem?_set_self (by rcases Nat.lt_or_ge i ty.fields.length with h | h; simpa using h; rw [List.getElem?_eq_none h] at hg; cases hg)] at hv
    cases hv; rfl
  · rw [if_neg (by omega)]
    rw [List.getElem?_set_ne (by omega), List.getElem?_map, hg'] at hv
    simp at hv; rw [← hv]
theorem getD_field {fs : List (Nat × Ty × ByteArray)} {p : Nat} {g : Nat × Ty × ByteArray} (h : fs[p]? = some g) : (fs.map fun h => h.2.1).getD p (plainTy 0) = g.2.1 := by
  rw [List.getD_eq_getElem?_getD, List.getElem?_map, h]; rfl
theorem unF_size {f : Ty → Ty → Option Val} {n : Nat} {ty : Ty} (hf : ∀ (g : Nat × Ty × ByteArray) r u, g ∈ ty.fields → f g.2.1 r = some u → (txtV n g.2.1 u).size ≤ wt n g.2.1) : ∀ (gs : List (Nat × Ty × ByteArray)) (u : Val), unF f n ty.fields gs = some u → (txtV (n + 1) ty u).size ≤ wt (n + 1) ty
  | [], u, h => by simp [unF] at h
  | g :: gs, u, h => by
    have h70 := wt_pos n ty
    have he : ByteArray.empty.size = 0 := rfl
    rw [unF] at h
    split at h
    · split at h
      · cases h
        rw [txtV_rcd, ← rwT_eq (fun t => txtV n t (lv n t)) (txtV n) ⟨#[]⟩ (-1) ty.fields _ 0 _ _ (by simp) (fun i g v hg hv => by
                rw [List.getElem?_map, hg] at hv; simp at hv; rw [if_neg (by omega), ← hv])]
        have := rwT_size (f := fun t => txtV n t (lv n t)) (x := ⟨#[]⟩) (p := -1) (c := fun f => wt n f.2.1 + f.2.2.size + 4) ty.fields 0 ⟨#[123]⟩ ByteArray.empty rfl (fun i g hg => by
                rw [if_neg (by omega)]; have := lv_size n g.2.1; omega)
        rw [wt]; omega
      · exact unF_size hf gs u h
    · rename_i p hp
      rw [List.findIdx?_eq_some_iff_getElem] at hp
      obtain ⟨hpl, _⟩ := hp
      obtain ⟨q, hq⟩ : ∃ q, ty.fields[p]? = some q := ⟨ty.fields[p], List.getElem?_eq_getElem hpl⟩
      rw [getD_field hq] at h
      split at h
      · exact unF_size hf gs u h
      · rename_i v hv
        cases h
        rw [← set_txt hq]
        have h1 := hf q _ v (List.mem_of_getElem? hq) hv
        have := rwT_size (f := fun t => txtV n t (lv n t)) (x := txtV n q.2.1 v) (p := (p : Nat)) (c := fun f => wt n f.2.1 + f.2.2.size + 4) ty.fields 0 ⟨#[123]⟩ ByteArray.empty rfl (fun i g hg => by
          rw [Nat.zero_add]
          by_cases hi : i = p
          · subst hi; rw [if_pos rfl]; rw [hq] at hg; cases hg; omega
          · rw [if_neg (by omega)]; have := lv_size n g.2.1; omega)
        rw [wt]; omega
theorem wtI {m : Nat} {r : Ty} (h : r.inner ≠ []) : wt m r.in + 70 ≤ wt (m + 1) r := by
  unfold Ty.in
  rcases hi : r.inner with _ | ⟨t, ts⟩
  · exact absurd hi h
  · rw [wt, hi]; simp; omega
theorem un_size : ∀ (m n : Nat) (x r : Ty) (u : Val), tyK n x → unV m n x r = some u → (txtV n x u).size ≤ wt n x
  | 0, n, x, r, u, hk, h => by simp [unV] at h
  | m + 1, 0, x, r, u, hk, h => by simp [unV] at h
  | m + 1, n + 1, x, r, u, hk, h => by
    have h70 := wt_pos n x
    change unStep (unV m n) (unV m (n + 1)) n x r = some u at h
    unfold unStep at h
    split at h
    · rename_i hc
      obtain ⟨v, hv, rfl⟩ := Option.map_eq_some_iff.1 h
      have hi := hk.2.2.1 (.inr hc.1)
      have := un_size m n x.in r.in v hi.2 hv
      have := wtI (m := n) hi.1
      rw [txtV_som]; omega
    · split at h
      · exact un_size m (n + 1) x r.in u hk h
      · split at h
        · cases h
        · split at h
          · cases h; exact lv_size (n + 1) x
          · split at h
            · obtain ⟨v, hv, rfl⟩ := Option.map_eq_some_iff.1 h
              rw [txtV_cho, oneB_size]; omega
            · split at h
              · rename_i h91
                obtain ⟨v, hv, rfl⟩ := Option.map_eq_some_iff.1 h
                have hi := hk.2.2.1 (.inl h91)
                have := un_size m n x.in r.in v hi.2 hv
                have := wtI (m := n) hi.1
                rw [txtV_lst]
                show (⟨#[91]⟩ ++ txtV n x.in v ++ ⟨#[93]⟩ : ByteArray).size ≤ _
                have e1 : (⟨#[91]⟩ : ByteArray).size = 1 := rfl
                have e2 : (⟨#[93]⟩ : ByteArray).size = 1 := rfl
                rw [ByteArray.size_append, ByteArray.size_append]; omega
              · split at h
                · exact unF_size (fun g r u hg hu => un_size m n g.2.1 r u (hk.2.2.2 g hg).2 hu) _ u h
                · cases h

/-- What is asked of 'Unreadable'. -/
def UnrOK (m : Nat) : Prop := ∀ (nw nr : Nat) (x r : Ty) (w : World) (ai af : Option Addr) (li ci lf cf : Nat) (bi bf : Option Addr) (mi di mf df : Nat), nw + nr ≤ m → tyK nw x → wt nw x ≤ 20000 → Rep nw w ai li ci af lf cf x → Rep nr w bi mi di bf mf df r →
  Calls Tryz.prog 70 #[.agg #[.int .i64 x.kind, .string x.letters, .bool x.op, .slice ai li ci, .slice af lf cf], .agg #[.int .i64 r.kind, .string r.letters, .bool r.op, .slice bi mi di, .slice bf mf df]] w fun e w' => e = .returned (uR ((unV m nw x r).map (txtV nw x))) ∧ Below w.heap.size w w'

set_option maxHeartbeats 1000000 in
theorem unreadableList_walk (x r : Ty) (w : World) (ai : Option Addr) (li ci : Nat) (af : Option Addr) (lf cf : Nat) (bi : Option Addr) (mi di : Nat) (bf : Option Addr) (mf df : Nat) (y : ByteArray) (b : Bool) (hy : y.size ≤ 20000)
    (h : ∀ W, Below w.heap.size w W → Calls Tryz.prog 70 #[.agg #[.int .i64 x.kind, .string x.letters, .bool x.op, .slice ai li ci, .slice af lf cf], .agg #[.int .i64 r.kind, .string r.letters, .bool r.op, .slice bi mi di, .slice bf mf df]] W fun e w' => e = .returned (.tuple #[.string y, .bool b]) ∧ Below W.heap.size W w') :
    Calls Tryz.prog 88 #[.agg #[.int .i64 x.kind, .string x.letters, .bool x.op, .slice ai li ci, .slice af lf cf], .agg #[.int .i64 r.kind, .string r.letters, .bool r.op, .slice bi mi di, .slice bf mf df]] w fun e w' => e = .returned (if b = true then .tuple #[.string (⟨#[91]⟩ ++ y ++ ⟨#[93]⟩), .bool true] else .tuple #[.string ByteArray.empty, .bool false]) ∧ Below w.heap.size w w' := by
  have hB : ∀ o o2, Below w.heap.size w ((w.alloc o).alloc o2) := fun o o2 => ((Below.refl _ _).alloc (Nat.le_refl _) _).alloc (by simp) _
  have e1 : (⟨#[91]⟩ : ByteArray).size = 1 := rfl
  have e2 : (⟨#[93]⟩ : ByteArray).size = 1 := rfl
  have e3 : (⟨#[91]⟩ ++ y : ByteArray).size = 1 + y.size := by rw [ByteArray.size_append, e1]
  cases b with
  | true =>
    rw [if_pos rfl]
    go_enter Tryz.func88, Tryz.ntmps88
    go_wp2_with (first | (go_at_call 70; refine (h _ (hB _ _)).mono ?_; rintro e w1 ⟨rfl, hb1⟩))
    go_ret2
    exact ⟨rfl, thn2 (hB _ _) hb1⟩
  | false =>
    rw [if_neg (by simp)]
    go_enter Tryz.func88, Tryz.ntmps88
    go_wp2_with (first | (go_at_call 70; refine (h _ (hB _ _)).mono ?_; rintro e w1 ⟨rfl, hb1⟩))
    go_ret2
    exact ⟨rfl, thn2 (hB _ _) hb1⟩

theorem plF_idx (c : Nat) (fs : List (Nat × Ty × ByteArray)) : (plF fs c = -1 ∧ fs.findIdx? (fun g => g.1 == c) = none) ∨ ∃ i f, plF fs c = (i : Nat) ∧ i < fs.length ∧ fs[i]? = some f ∧ fs.findIdx? (fun g => g.1 == c) = some i := by
  unfold plF
  cases hx : fs.findIdx? (fun g => g.1 == c) with
  | none => exact .inl ⟨rfl, rfl⟩
  | some i =>
    have := hx
    rw [List.findIdx?_eq_some_iff_getElem] at this
    exact .inr ⟨i, fs[i]'this.1, rfl, this.1, List.getElem?_eq_getElem this.1, rfl⟩
theorem isEmpty_no1 {d : ByteArray} (h : 1 ≤ d.size) : d.toList.isEmpty = false := by
  rw [ByteArray.toList_eq]
  cases hl : d.data.toList with
  | nil =>
    have h2 : d.data.size = 0 := by rw [← Array.length_toList, hl]; rfl
    have h3 : d.size = d.data.size := rfl
    omega
  | cons _ _ => rfl

theorem keep5a {W w1 : World} (hb : Below W.heap.size W w1) {b o0 o1 o2 o3 o4 : Nat} {v0 v1 v2 v3 v4 : Value} (h : W.cell? ⟨b, o0, none⟩ = some v0 ∧ W.cell? ⟨b, o1, none⟩ = some v1 ∧ W.cell? ⟨b, o2, none⟩ = some v2 ∧ W.cell? ⟨b, o3, none⟩ = some v3 ∧ W.cell? ⟨b, o4, none⟩ = some v4) :
    w1.cell? ⟨b, o0, none⟩ = some v0 ∧ w1.cell? ⟨b, o1, none⟩ = some v1 ∧ w1.cell? ⟨b, o2, none⟩ = some v2 ∧ w1.cell? ⟨b, o3, none⟩ = some v3 ∧ w1.cell? ⟨b, o4, none⟩ = some v4 := by
  obtain ⟨h0, h1, h2, h3, h4⟩ := h
  exact ⟨cell_keep hb h0, cell_keep hb h1, cell_keep hb h2, cell_keep hb h3, cell_keep hb h4⟩
theorem new5a {W : World} (o : Obj) {b o0 o1 o2 o3 o4 : Nat} {v0 v1 v2 v3 v4 : Value} (h : W.cell? ⟨b, o0, none⟩ = some v0 ∧ W.cell? ⟨b, o1, none⟩ = some v1 ∧ W.cell? ⟨b, o2, none⟩ = some v2 ∧ W.cell? ⟨b, o3, none⟩ = some v3 ∧ W.cell? ⟨b, o4, none⟩ = some v4) :
    (W.alloc o).cell? ⟨b, o0, none⟩ = some v0 ∧ (W.alloc o).cell? ⟨b, o1, none⟩ = some v1 ∧ (W.alloc o).cell? ⟨b, o2, none⟩ = some v2 ∧ (W.alloc o).cell? ⟨b, o3, none⟩ = some v3 ∧ (W.alloc o).cell? ⟨b, o4, none⟩ = some v4 := by
  obtain ⟨h0, h1, h2, h3, h4⟩ := h
  exact ⟨cell_new _ h0, cell_new _ h1, cell_new _ h2, cell_new _ h3, cell_new _ h4⟩
theorem box7 (w : World) (gf : Nat × Ty × ByteArray) (bi : Option Addr) (mi di : Nat) (bf : Option Addr) (mf df : Nat) :
    (w.alloc (.cells #[.int .i64 gf.1, .int .i64 gf.2.1.kind, .string gf.2.1.letters, .bool gf.2.1.op, .slice bi mi di, .slice bf mf df, .string gf.2.2] 171)).cell? ⟨w.heap.size, 1, none⟩ = some (.int .i64 gf.2.1.kind) ∧ (w.alloc (.cells #[.int .i64 gf.1, .int .i64 gf.2.1.kind, .string gf.2.1.letters, .bool gf.2.1.op, .slice bi mi di, .slice bf mf df, .string gf.2.2] 171)).cell? ⟨w.heap.size, 2, none⟩ = some (.string gf.2.1.letters) ∧ (w.alloc (.cells #[.int .i64 gf.1, .int .i64 gf.2.1.kind, .string gf.2.1.letters, .bool gf.2.1.op, .slice bi mi di, .slice bf mf df, .string gf.2.2] 171)).cell? ⟨w.heap.size, 3, none⟩ = some (.bool gf.2.1.op) ∧ (w.alloc (.cells #[.int .i64 gf.1, .int .i64 gf.2.1.kind, .string gf.2.1.letters, .bool gf.2.1.op, .slice bi mi di, .slice bf mf df, .string gf.2.2] 171)).cell? ⟨w.heap.size, 4, none⟩ = some (.slice bi mi di) ∧ (w.alloc (.cells #[.int .i64 gf.1, .int .i64 gf.2.1.kind, .string gf.2.1.letters, .bool gf.2.1.op, .slice bi mi di, .slice bf mf df, .string gf.2.2] 171)).cell? ⟨w.heap.size, 5, none⟩ = some (.slice bf mf df) :=
  ⟨cell_last rfl rfl, cell_last rfl rfl, cell_last rfl rfl, cell_last rfl rfl, cell_last rfl rfl⟩

set_option maxHeartbeats 2000000 in
theorem unreadableRecord_any {m : Nat} (IH : UnrOK m) (nw nr : Nat) (hm : nw + nr ≤ m) (x : Ty) (gs : List (Nat × Ty × ByteArray)) (w : World) (af bf : Option Addr) (lf cf mf df : Nat) (hlf : lf = x.fields.length) (hmf : mf = gs.length) (hfl : x.fields.length ≤ 9000000) (hgl : gs.length ≤ 9000000) (hfn : x.fields ≠ []) (hk : ∀ f ∈ x.fields, f.1 < 256 ∧ tyK nw f.2.1)
    (hwt : (x.fields.map fun f => wt nw f.2.1 + f.2.2.size + 4).sum ≤ 20000) (hr : RepF nw w af x.fields) (hrg : RepF nr w bf gs) :
    Calls Tryz.prog 89 #[.slice af lf cf, .slice bf mf df] w fun e w' => e = .returned (uR ((unF (unV m nw) nw x.fields gs).map (txtV (nw + 1) x))) ∧ Below w.heap.size w w' := by
  subst hlf hmf
  rcases hr with ⟨hr, _⟩ | ⟨g, rfl, hcells⟩
  · exact absurd hr hfn
  obtain ⟨R, hR⟩ : ∃ R, R = unF (unV m nw) nw x.fields gs := ⟨_, rfl⟩
  rw [← hR]
  have HR : Hid (R = unF (unV m nw) nw x.fields (gs.drop 0)) := hR
  clear hR
  have hrf : ∀ W, Below w.heap.size w W → RepF nw W (some ⟨g, 0, none⟩) x.fields := fun W hb => .inr ⟨g, rfl, fun i f hi => by
    obtain ⟨p1, p2, p3, q1, q2, q3, h0, k0, k1, k2, k3, k4, k5, k6⟩ := hcells i f hi
    exact ⟨p1, p2, p3, q1, q2, q3, h0.keep hb, cell_keep hb k0, cell_keep hb k1, cell_keep hb k2, cell_keep hb k3, cell_keep hb k4, cell_keep hb k5, cell_keep hb k6⟩⟩
  go_enter Tryz.func89, Tryz.ntmps89
  go_wp2_with fail
  go_loopw [13] (fun vi wr => ∃ (i : Nat), i ≤ gs.length ∧ vi = .int .i64 i ∧ Hid (R = unF (unV m nw) nw x.fields (gs.drop i)) ∧ Below w.heap.size w wr) (fun i _ => gs.length - (intOf i).toNat)
  case atStart => exact ⟨0, Nat.zero_le _, rfl, HR, Below.refl _ _⟩
  case round =>
    obtain ⟨i, hi, rfl, hR, hb⟩ := hrel
    by_cases hlt : i < gs.length
    · obtain ⟨gf, hf⟩ : ∃ f, gs[i]? = some f := ⟨gs[i], List.getElem?_eq_getElem hlt⟩
      have hdrop : gs.drop i = gf :: gs.drop (i + 1) := by
        rw [List.drop_eq_getElem_cons hlt]; rw [List.getElem?_eq_getElem hlt] at hf; simp at hf; rw [hf]
      rcases hrg with ⟨hrg, _⟩ | ⟨h, rfl, hcellg⟩
      · rw [hrg] at hf; simp at hf
      obtain ⟨p1, p2, p3, q1, q2, q3, hrep, k0, k1, k2, k3, k4, k5, k6⟩ := hcellg i gf hf
      have k0 := cell_keep hb k0
      have k1 := cell_keep hb k1
      have k2 := cell_keep hb k2
      have k3 := cell_keep hb k3
      have k4 := cell_keep hb k4
      have k5 := cell_keep hb k5
      have k6 := cell_keep hb k6
      have hg' : h < wr.heap.size := lt_of_cell k0
      have hBa : ∀ o, Below wr.heap.size wr (wr.alloc o) := fun o => (Below.refl _ _).alloc (Nat.le_refl _) _
      have hpl : ∀ o, Calls Tryz.prog 112 #[.slice (some ⟨g, 0, none⟩) x.fields.length cf, .int .i64 gf.1] (wr.alloc o) fun e w' => e = .returned (.int .i64 (plF x.fields gf.1)) ∧ Below (wr.alloc o).heap.size (wr.alloc o) w' := fun o =>
        placeOfField_any x.fields gf.1 (wr.alloc o) g cf hfl (fun i f hi => by
          obtain ⟨a1, a2, a3, b1, b2, b3, _, c0, c1, c2, c3, c4, c5, c6⟩ := hcells i f hi
          have hq := thn2 hb (hBa o)
          exact ⟨a1, a2, a3, b1, b2, b3, cell_keep hq c0, cell_keep hq c1, cell_keep hq c2, cell_keep hq c3, cell_keep hq c4, cell_keep hq c5, cell_keep hq c6⟩)
      rcases plF_idx gf.1 x.fields with ⟨hp1, hp2⟩ | ⟨p, f, hp1, hpl', hpf, hp2⟩
      · rw [hp1] at hpl
        by_cases hz : gf.2.2.size = 0
        · have hze : gf.2.2 = ByteArray.empty := bytes_eq hz (fun i hi => by omega)
          have hr' : Hid (R = some (.rcd (x.fields.map fun f => lv nw f.2.1))) := by show _ = _; rw [hR.out, hdrop, unF, hp2]; simp only; rw [if_pos hz]
          have hlr := fun (W : World) (hb' : Below w.heap.size w W) => leastRecord_any (least_all nw) x.fields W (some ⟨g, 0, none⟩) x.fields.length cf rfl hfl hk hwt (hrf W hb')
          have HT : Hid (rwT (fun t => txtV nw t (lv nw t)) ⟨#[]⟩ (-1) x.fields 0 ⟨#[123]⟩ ByteArray.empty = txtV (nw + 1) x (.rcd (x.fields.map fun f => lv nw f.2.1))) := by
            show _ = _
            rw [txtV_rcd]
            exact rwT_eq (fun t => txtV nw t (lv nw t)) (txtV nw) ⟨#[]⟩ (-1) x.fields _ 0 _ _ (by simp) (fun i g v hg hv => by rw [List.getElem?_map, hg] at hv; simp at hv; rw [if_neg (by omega), ← hv])
          rw [HT.out] at hlr
          obtain ⟨Y, hY⟩ : ∃ Y, Y = txtV (nw + 1) x (.rcd (x.fields.map fun f => lv nw f.2.1)) := ⟨_, rfl⟩
          rw [← hY] at hlr
          have HY : Hid (txtV (nw + 1) x (.rcd (x.fields.map fun f => lv nw f.2.1)) = Y) := hY.symm
          rw [hze] at k6
          clear hdrop hf hcellg hcells hR hp1 hp2 hz hY HT
          go_wp2_with (first | (go_at_call 112; refine (hpl _).mono ?_; rintro e w1 ⟨rfl, hb1⟩; obtain ⟨hc1, hf1⟩ := bcell hb1; have hz1 : wr.heap.size < w1.heap.size := (by have := hb1.size; simp at this; omega)) | (go_at_call 109; refine (hlr _ (thn2 (thn2 hb (hBa _)) hb1)).mono ?_; rintro e w2 ⟨rfl, hb2⟩))
          go_ret2
          rw [hr'.out]
          simp only [Option.map_some, uR, HY.out]
          exact ⟨rfl, thn2 (thn2 (thn2 hb (hBa _)) hb1) hb2⟩
        · have hr' : Hid (R = unF (unV m nw) nw x.fields (gs.drop (i + 1))) := by show _ = _; rw [hR.out, hdrop, unF, hp2]; simp only; rw [if_neg hz]
          have hE : gf.2.2.toList.isEmpty = false := isEmpty_no1 (by omega)
          clear hdrop hf hcellg hcells hR hp1 hp2 hz
          go_wp2_with (first | (go_at_call 112; refine (hpl _).mono ?_; rintro e w1 ⟨rfl, hb1⟩; obtain ⟨hc1, hf1⟩ := bcell hb1; have hz1 : wr.heap.size < w1.heap.size := (by have := hb1.size; simp at this; omega)))
          go_roundw
          case rel => exact ⟨i + 1, by omega, by go_num, hr', thn2 (thn2 hb (hBa _)) hb1⟩
          case measure => simp [intOf]; omega
      · rw [hp1] at hpl
        obtain ⟨a1, a2, a3, b1, b2, b3, hrepf, c0, c1, c2, c3, c4, c5, c6⟩ := hcells p f hpf
        have hkf := hk f (List.mem_of_getElem? hpf)
        have hwf : wt nw f.2.1 ≤ 20000 := by
          have := sum_le1 (fun f : Nat × Ty × ByteArray => wt nw f.2.1 + f.2.2.size + 4) 20000 x.fields f (List.mem_of_getElem? hpf) hwt
          omega
        have hun := fun (W : World) (hb' : Below wr.heap.size wr W) => IH nw nr f.2.1 gf.2.1 W a1 b1 a2 a3 b2 b3 p1 q1 p2 p3 q2 q3 hm hkf.2 hwf (hrepf.keep (thn2 hb hb')) (hrep.keep (thn2 hb hb'))
        have c0' := cell_keep hb c0
        have hgw : g < wr.heap.size := lt_of_cell c0'
        have k71 : wr.cell? ⟨g, p * 7 + 1, none⟩ = some (.int .i64 f.2.1.kind) ∧ wr.cell? ⟨g, p * 7 + 2, none⟩ = some (.string f.2.1.letters) ∧ wr.cell? ⟨g, p * 7 + 3, none⟩ = some (.bool f.2.1.op) ∧ wr.cell? ⟨g, p * 7 + 4, none⟩ = some (.slice a1 a2 a3) ∧ wr.cell? ⟨g, p * 7 + 5, none⟩ = some (.slice b1 b2 b3) := ⟨cell_keep hb c1, cell_keep hb c2, cell_keep hb c3, cell_keep hb c4, cell_keep hb c5⟩
        have hgd := getD_field hpf
        cases hy : unV m nw f.2.1 gf.2.1 with
        | none =>
          have hr' : Hid (R = unF (unV m nw) nw x.fields (gs.drop (i + 1))) := by show _ = _; rw [hR.out, hdrop, unF, hp2]; simp only; rw [hgd, hy]
          rw [hy] at hun
          simp only [Option.map_none, uR] at hun
          clear hdrop hf hcellg hcells hR hp1 hp2 hy hgd hrepf c0 c1 c2 c3 c4 c5 c6 c0' hkf hwf hk hwt hpf
          go_wp2_with (first | (go_at_call 112; refine (hpl _).mono ?_; rintro e w1 ⟨rfl, hb1⟩; obtain ⟨hc1, hf1⟩ := bcell hb1; have hz1 : wr.heap.size < w1.heap.size := (by have := hb1.size; simp at this; omega)))
          have e5 := keep5a hb1 (box7 wr gf p1 p2 p3 q1 q2 q3)
          have e7 := keep5a hb1 (new5a (.cells #[.int .i64 gf.1, .int .i64 gf.2.1.kind, .string gf.2.1.letters, .bool gf.2.1.op, .slice p1 p2 p3, .slice q1 q2 q3, .string gf.2.2] 171) k71)
          go_region_held3 (fun w' => (w'.cell? ⟨wr.heap.size, 1, none⟩ = some (.int .i64 gf.2.1.kind) ∧ w'.cell? ⟨wr.heap.size, 2, none⟩ = some (.string gf.2.1.letters) ∧ w'.cell? ⟨wr.heap.size, 3, none⟩ = some (.bool gf.2.1.op) ∧ w'.cell? ⟨wr.heap.size, 4, none⟩ = some (.slice p1 p2 p3) ∧ w'.cell? ⟨wr.heap.size, 5, none⟩ = some (.slice q1 q2 q3)) ∧ w'.cell? ⟨g, p * 7 + 1, none⟩ = some (.int .i64 f.2.1.kind) ∧ w'.cell? ⟨g, p * 7 + 2, none⟩ = some (.string f.2.1.letters) ∧ w'.cell? ⟨g, p * 7 + 3, none⟩ = some (.bool f.2.1.op) ∧ w'.cell? ⟨g, p * 7 + 4, none⟩ = some (.slice a1 a2 a3) ∧ w'.cell? ⟨g, p * 7 + 5, none⟩ = some (.slice b1 b2 b3)) (go_keep) (first | (go_at_call 70; refine (hun _ (by first | exact (thn2 (hBa _) hb1).drew | exact thn2 (hBa _) hb1)).mono ?_; rintro e w2 ⟨rfl, hb2⟩; have e5' := keep5a hb2 e5; have e7' := keep5a hb2 e7))
          go_wp2_with fail
          go_roundw
          case rel => exact ⟨i + 1, by omega, by go_num, hr', thn2 (thn2 (thn2 hb (hBa _)) hb1).drew hb2⟩
          case measure => simp [intOf]; omega
        | some u =>
          have hr' : Hid (R = some (.rcd ((x.fields.map fun f => lv nw f.2.1).set p u))) := by show _ = _; rw [hR.out, hdrop, unF, hp2]; simp only; rw [hgd, hy]
          rw [hy] at hun
          simp only [Option.map_some, uR] at hun
          have hus := un_size m nw f.2.1 gf.2.1 u hkf.2 hy
          have hrw := fun (W : World) (hb' : Below w.heap.size w W) => recordWith_any (least_all nw) x.fields (p : Nat) (txtV nw f.2.1 u) W (some ⟨g, 0, none⟩) x.fields.length cf rfl hfl (by omega) hk hwt (hrf W hb')
          rw [set_txt hpf] at hrw
          obtain ⟨Y, hY⟩ : ∃ Y, Y = txtV (nw + 1) x (.rcd ((x.fields.map fun f => lv nw f.2.1).set p u)) := ⟨_, rfl⟩
          rw [← hY] at hrw
          have HY : Hid (txtV (nw + 1) x (.rcd ((x.fields.map fun f => lv nw f.2.1).set p u)) = Y) := hY.symm
          generalize txtV nw f.2.1 u = Z at hun hrw hus
          clear hdrop hf hcellg hcells hR hp1 hp2 hy hgd hrepf c0 c1 c2 c3 c4 c5 c6 c0' hkf hwf hk hwt hpf hY hus
          go_wp2_with (first | (go_at_call 112; refine (hpl _).mono ?_; rintro e w1 ⟨rfl, hb1⟩; obtain ⟨hc1, hf1⟩ := bcell hb1; have hz1 : wr.heap.size < w1.heap.size := (by have := hb1.size; simp at this; omega)))
          have e5 := keep5a hb1 (box7 wr gf p1 p2 p3 q1 q2 q3)
          have e7 := keep5a hb1 (new5a (.cells #[.int .i64 gf.1, .int .i64 gf.2.1.kind, .string gf.2.1.letters, .bool gf.2.1.op, .slice p1 p2 p3, .slice q1 q2 q3, .string gf.2.2] 171) k71)
          go_region_held3 (fun w' => (w'.cell? ⟨wr.heap.size, 1, none⟩ = some (.int .i64 gf.2.1.kind) ∧ w'.cell? ⟨wr.heap.size, 2, none⟩ = some (.string gf.2.1.letters) ∧ w'.cell? ⟨wr.heap.size, 3, none⟩ = some (.bool gf.2.1.op) ∧ w'.cell? ⟨wr.heap.size, 4, none⟩ = some (.slice p1 p2 p3) ∧ w'.cell? ⟨wr.heap.size, 5, none⟩ = some (.slice q1 q2 q3)) ∧ w'.cell? ⟨g, p * 7 + 1, none⟩ = some (.int .i64 f.2.1.kind) ∧ w'.cell? ⟨g, p * 7 + 2, none⟩ = some (.string f.2.1.letters) ∧ w'.cell? ⟨g, p * 7 + 3, none⟩ = some (.bool f.2.1.op) ∧ w'.cell? ⟨g, p * 7 + 4, none⟩ = some (.slice a1 a2 a3) ∧ w'.cell? ⟨g, p * 7 + 5, none⟩ = some (.slice b1 b2 b3)) (go_keep) (first | (go_at_call 70; refine (hun _ (by first | exact (thn2 (hBa _) hb1).drew | exact thn2 (hBa _) hb1)).mono ?_; rintro e w2 ⟨rfl, hb2⟩; have e5' := keep5a hb2 e5; have e7' := keep5a hb2 e7))
          go_wp2_with (first | (go_at_call 113; refine (hrw _ (thn2 (thn2 (thn2 hb (hBa _)) hb1).drew hb2)).mono ?_; rintro e w3 ⟨rfl, hb3⟩))
          go_ret2
          rw [hr'.out]
          simp only [Option.map_some, uR, HY.out]
          exact ⟨rfl, thn2 (thn2 (thn2 (thn2 hb (hBa _)) hb1).drew hb2) hb3⟩
    · have hnil : gs.drop i = [] := List.drop_of_length_le (by omega)
      have hr' : Hid (R = none) := by show _ = _; rw [hR.out, hnil, unF]
      go_wp2_with fail
      go_ret2
      rw [hr'.out]
      exact ⟨rfl, hb⟩
end
section
set_option maxRecDepth 4000
open Go.RowKit

theorem bx (w : World) (o o2 : Obj) : Below w.heap.size w ((w.alloc o).alloc o2) := ((Below.refl _ _).alloc (Nat.le_refl _) _).alloc (by simp) _
theorem kp10 {W w1 : World} (hb : Below W.heap.size W w1) {b c : Nat} {v0 v1 v2 v3 v4 u0 u1 u2 u3 u4 : Value} (h : W.cell? ⟨b, 0, none⟩ = some v0 ∧ W.cell? ⟨b, 1, none⟩ = some v1 ∧ W.cell? ⟨b, 2, none⟩ = some v2 ∧ W.cell? ⟨b, 3, none⟩ = some v3 ∧ W.cell? ⟨b, 4, none⟩ = some v4 ∧ W.cell? ⟨c, 0, none⟩ = some u0 ∧ W.cell? ⟨c, 1, none⟩ = some u1 ∧ W.cell? ⟨c, 2, none⟩ = some u2 ∧ W.cell? ⟨c, 3, none⟩ = some u3 ∧ W.cell? ⟨c, 4, none⟩ = some u4) :
    w1.cell? ⟨b, 0, none⟩ = some v0 ∧ w1.cell? ⟨b, 1, none⟩ = some v1 ∧ w1.cell? ⟨b, 2, none⟩ = some v2 ∧ w1.cell? ⟨b, 3, none⟩ = some v3 ∧ w1.cell? ⟨b, 4, none⟩ = some v4 ∧ w1.cell? ⟨c, 0, none⟩ = some u0 ∧ w1.cell? ⟨c, 1, none⟩ = some u1 ∧ w1.cell? ⟨c, 2, none⟩ = some u2 ∧ w1.cell? ⟨c, 3, none⟩ = some u3 ∧ w1.cell? ⟨c, 4, none⟩ = some u4 := by
  obtain ⟨h0, h1, h2, h3, h4, k0, k1, k2, k3, k4⟩ := h
  exact ⟨cell_keep hb h0, cell_keep hb h1, cell_keep hb h2, cell_keep hb h3, cell_keep hb h4, cell_keep hb k0, cell_keep hb k1, cell_keep hb k2, cell_keep hb k3, cell_keep hb k4⟩
theorem bx2 (w : World) (x r : Ty) (ai : Option Addr) (li ci : Nat) (af : Option Addr) (lf cf : Nat) (bi : Option Addr) (mi di : Nat) (bf : Option Addr) (mf df : Nat) :
    ((w.alloc (.cells #[.int .i64 x.kind, .string x.letters, .bool x.op, .slice ai li ci, .slice af lf cf] 135)).alloc (.cells #[.int .i64 r.kind, .string r.letters, .bool r.op, .slice bi mi di, .slice bf mf df] 135)).cell? ⟨w.heap.size, 0, none⟩ = some (.int .i64 x.kind) ∧ ((w.alloc (.cells #[.int .i64 x.kind, .string x.letters, .bool x.op, .slice ai li ci, .slice af lf cf] 135)).alloc (.cells #[.int .i64 r.kind, .string r.letters, .bool r.op, .slice bi mi di, .slice bf mf df] 135)).cell? ⟨w.heap.size, 1, none⟩ = some (.string x.letters) ∧ ((w.alloc (.cells #[.int .i64 x.kind, .string x.letters, .bool x.op, .slice ai li ci, .slice af lf cf] 135)).alloc (.cells #[.int .i64 r.kind, .string r.letters, .bool r.op, .slice bi mi di, .slice bf mf df] 135)).cell? ⟨w.heap.size, 2, none⟩ = some (.bool x.op) ∧ ((w.alloc (.cells #[.int .i64 x.kind, .string x.letters, .bool x.op, .slice ai li ci, .slice af lf cf] 135)).alloc (.cells #[.int .i64 r.kind, .string r.letters, .bool r.op, .slice bi mi di, .slice bf mf df] 135)).cell? ⟨w.heap.size, 3, none⟩ = some (.slice ai li ci) ∧ ((w.alloc (.cells #[.int .i64 x.kind, .string x.letters, .bool x.op, .slice ai li ci, .slice af lf cf] 135)).alloc (.cells #[.int .i64 r.kind, .string r.letters, .bool r.op, .slice bi mi di, .slice bf mf df] 135)).cell? ⟨w.heap.size, 4, none⟩ = some (.slice af lf cf) ∧ ((w.alloc (.cells #[.int .i64 x.kind, .string x.letters, .bool x.op, .slice ai li ci, .slice af lf cf] 135)).alloc (.cells #[.int .i64 r.kind, .string r.letters, .bool r.op, .slice bi mi di, .slice bf mf df] 135)).cell? ⟨w.heap.size + 1, 0, none⟩ = some (.int .i64 r.kind) ∧ ((w.alloc (.cells #[.int .i64 x.kind, .string x.letters, .bool x.op, .slice ai li ci, .slice af lf cf] 135)).alloc (.cells #[.int .i64 r.kind, .string r.letters, .bool r.op, .slice bi mi di, .slice bf mf df] 135)).cell? ⟨w.heap.size + 1, 1, none⟩ = some (.string r.letters) ∧ ((w.alloc (.cells #[.int .i64 x.kind, .string x.letters, .bool x.op, .slice ai li ci, .slice af lf cf] 135)).alloc (.cells #[.int .i64 r.kind, .string r.letters, .bool r.op, .slice bi mi di, .slice bf mf df] 135)).cell? ⟨w.heap.size + 1, 2, none⟩ = some (.bool r.op) ∧ ((w.alloc (.cells #[.int .i64 x.kind, .string x.letters, .bool x.op, .slice ai li ci, .slice af lf cf] 135)).alloc (.cells #[.int .i64 r.kind, .string r.letters, .bool r.op, .slice bi mi di, .slice bf mf df] 135)).cell? ⟨w.heap.size + 1, 3, none⟩ = some (.slice bi mi di) ∧ ((w.alloc (.cells #[.int .i64 x.kind, .string x.letters, .bool x.op, .slice ai li ci, .slice af lf cf] 135)).alloc (.cells #[.int .i64 r.kind, .string r.letters, .bool r.op, .slice bi mi di, .slice bf mf df] 135)).cell? ⟨w.heap.size + 1, 4, none⟩ = some (.slice bf mf df) := by
  have h : (w.alloc (.cells #[.int .i64 x.kind, .string x.letters, .bool x.op, .slice ai li ci, .slice af lf cf] 135)).heap.size = w.heap.size + 1 := by simp
  refine ⟨cell_new _ (cell_last rfl rfl), cell_new _ (cell_last rfl rfl), cell_new _ (cell_last rfl rfl), cell_new _ (cell_last rfl rfl), cell_new _ (cell_last rfl rfl), ?_⟩
  rw [← h]
  exact ⟨cell_last rfl rfl, cell_last rfl rfl, cell_last rfl rfl, cell_last rfl rfl, cell_last rfl rfl⟩

set_option maxHeartbeats 2000000 in
theorem un_both (x r : Ty) (w : World) (ai : Option Addr) (li ci : Nat) (af : Option Addr) (lf cf : Nat) (bi : Option Addr) (mi di : Nat) (bf : Option Addr) (mf df : Nat) (t : ByteArray) (b : Bool)
    (h1 : ((x.kind : Int) == 63) = true) (h2 : ((r.kind : Int) == 63) = true) (nw nr : Nat) (hin : ∀ W, Below w.heap.size w W → Calls Tryz.prog 84 #[.agg #[.int .i64 x.kind, .string x.letters, .bool x.op, .slice ai li ci, .slice af lf cf]] W fun e w' => ∃ p1 p2 p3 p4 p5 p6, e = .returned (.agg #[.int .i64 x.in.kind, .string x.in.letters, .bool x.in.op, .slice p1 p2 p3, .slice p4 p5 p6]) ∧ Rep nw w' p1 p2 p3 p4 p5 p6 x.in ∧ Below W.heap.size W w') (hin2 : ∀ W, Below w.heap.size w W → Calls Tryz.prog 84 #[.agg #[.int .i64 r.kind, .string r.letters, .bool r.op, .slice bi mi di, .slice bf mf df]] W fun e w' => ∃ p1 p2 p3 p4 p5 p6, e = .returned (.agg #[.int .i64 r.in.kind, .string r.in.letters, .bool r.in.op, .slice p1 p2 p3, .slice p4 p5 p6]) ∧ Rep nr w' p1 p2 p3 p4 p5 p6 r.in ∧ Below W.heap.size W w') (hcall : ∀ (W : World) (p1 : Option Addr) (p2 p3 : Nat) (p4 : Option Addr) (p5 p6 : Nat) (q1 : Option Addr) (q2 q3 : Nat) (q4 : Option Addr) (q5 q6 : Nat), Below w.heap.size w W → Rep nw W p1 p2 p3 p4 p5 p6 x.in → Rep nr W q1 q2 q3 q4 q5 q6 r.in → Calls Tryz.prog 70 #[.agg #[.int .i64 x.in.kind, .string x.in.letters, .bool x.in.op, .slice p1 p2 p3, .slice p4 p5 p6], .agg #[.int .i64 r.in.kind, .string r.in.letters, .bool r.in.op, .slice q1 q2 q3, .slice q4 q5 q6]] W fun e w' => e = .returned (.tuple #[.string t, .bool b]) ∧ Below W.heap.size W w') :
    Calls Tryz.prog 70 #[.agg #[.int .i64 x.kind, .string x.letters, .bool x.op, .slice ai li ci, .slice af lf cf], .agg #[.int .i64 r.kind, .string r.letters, .bool r.op, .slice bi mi di, .slice bf mf df]] w fun e w' => e = .returned (.tuple #[.string t, .bool b]) ∧ Below w.heap.size w w' := by
  have e0 := bx2 w x r ai li ci af lf cf bi mi di bf mf df
  go_enter Tryz.func70, Tryz.ntmps70
  go_wp2_with fail
  go_region_held3 (fun w' => w'.cell? ⟨w.heap.size, 0, none⟩ = some (.int .i64 x.kind) ∧ w'.cell? ⟨w.heap.size, 1, none⟩ = some (.string x.letters) ∧ w'.cell? ⟨w.heap.size, 2, none⟩ = some (.bool x.op) ∧ w'.cell? ⟨w.heap.size, 3, none⟩ = some (.slice ai li ci) ∧ w'.cell? ⟨w.heap.size, 4, none⟩ = some (.slice af lf cf) ∧ w'.cell? ⟨w.heap.size + 1, 0, none⟩ = some (.int .i64 r.kind) ∧ w'.cell? ⟨w.heap.size + 1, 1, none⟩ = some (.string r.letters) ∧ w'.cell? ⟨w.heap.size + 1, 2, none⟩ = some (.bool r.op) ∧ w'.cell? ⟨w.heap.size + 1, 3, none⟩ = some (.slice bi mi di) ∧ w'.cell? ⟨w.heap.size + 1, 4, none⟩ = some (.slice bf mf df)) (go_keep) (first | (go_at_call 84; have hq := hb1; refine (hin2 _ (by first | exact thn2 (bx w _ _).drew hb1 | exact thn2 (bx w _ _) hb1)).mono ?_; rintro e w2 ⟨q1, q2, q3, q4, q5, q6, rfl, hr2, hb2⟩; have e2 := kp10 hb2 e1) | (go_at_call 84; refine (hin _ (by first | exact (bx w _ _).drew | exact bx w _ _)).mono ?_; rintro e w1 ⟨p1, p2, p3, p4, p5, p6, rfl, hr1, hb1⟩; have e1 := kp10 hb1 e0) | (go_at_call 70; refine (hcall _ _ _ _ _ _ _ _ _ _ _ _ _ (by first | exact thn2 (thn2 (bx w _ _).drew hb1) hb2 | exact thn2 (thn2 (bx w _ _) hb1) hb2) (hr1.keep hb2) hr2).mono ?_; rintro e w3 ⟨rfl, hb3⟩; have e3 := kp10 hb3 e2))
  go_wp2_with fail
  go_ret2
  exact ⟨rfl, thn2 (thn2 (thn2 (bx w _ _).drew hb1) hb2) hb3⟩

set_option maxHeartbeats 2000000 in
theorem un_rdr (x r : Ty) (w : World) (ai : Option Addr) (li ci : Nat) (af : Option Addr) (lf cf : Nat) (bi : Option Addr) (mi di : Nat) (bf : Option Addr) (mf df : Nat) (t : ByteArray) (b : Bool)
    (h1 : ((x.kind : Int) == 63) = false) (h2 : ((r.kind : Int) == 63) = true) (nr : Nat) (hin : ∀ W, Below w.heap.size w W → Calls Tryz.prog 84 #[.agg #[.int .i64 r.kind, .string r.letters, .bool r.op, .slice bi mi di, .slice bf mf df]] W fun e w' => ∃ p1 p2 p3 p4 p5 p6, e = .returned (.agg #[.int .i64 r.in.kind, .string r.in.letters, .bool r.in.op, .slice p1 p2 p3, .slice p4 p5 p6]) ∧ Rep nr w' p1 p2 p3 p4 p5 p6 r.in ∧ Below W.heap.size W w') (hcall : ∀ (W : World) (p1 : Option Addr) (p2 p3 : Nat) (p4 : Option Addr) (p5 p6 : Nat), Below w.heap.size w W → Rep nr W p1 p2 p3 p4 p5 p6 r.in → Calls Tryz.prog 70 #[.agg #[.int .i64 x.kind, .string x.letters, .bool x.op, .slice ai li ci, .slice af lf cf], .agg #[.int .i64 r.in.kind, .string r.in.letters, .bool r.in.op, .slice p1 p2 p3, .slice p4 p5 p6]] W fun e w' => e = .returned (.tuple #[.string t, .bool b]) ∧ Below W.heap.size W w') :
    Calls Tryz.prog 70 #[.agg #[.int .i64 x.kind, .string x.letters, .bool x.op, .slice ai li ci, .slice af lf cf], .agg #[.int .i64 r.kind, .string r.letters, .bool r.op, .slice bi mi di, .slice bf mf df]] w fun e w' => e = .returned (.tuple #[.string t, .bool b]) ∧ Below w.heap.size w w' := by
  have e0 := bx2 w x r ai li ci af lf cf bi mi di bf mf df
  go_enter Tryz.func70, Tryz.ntmps70
  go_wp2_with fail
  go_region_held3 (fun w' => w'.cell? ⟨w.heap.size, 0, none⟩ = some (.int .i64 x.kind) ∧ w'.cell? ⟨w.heap.size, 1, none⟩ = some (.string x.letters) ∧ w'.cell? ⟨w.heap.size, 2, none⟩ = some (.bool x.op) ∧ w'.cell? ⟨w.heap.size, 3, none⟩ = some (.slice ai li ci) ∧ w'.cell? ⟨w.heap.size, 4, none⟩ = some (.slice af lf cf) ∧ w'.cell? ⟨w.heap.size + 1, 0, none⟩ = some (.int .i64 r.kind) ∧ w'.cell? ⟨w.heap.size + 1, 1, none⟩ = some (.string r.letters) ∧ w'.cell? ⟨w.heap.size + 1, 2, none⟩ = some (.bool r.op) ∧ w'.cell? ⟨w.heap.size + 1, 3, none⟩ = some (.slice bi mi di) ∧ w'.cell? ⟨w.heap.size + 1, 4, none⟩ = some (.slice bf mf df)) (go_keep) (first | (go_at_call 84; refine (hin _ (by first | exact (bx w _ _).drew | exact bx w _ _)).mono ?_; rintro e w1 ⟨p1, p2, p3, p4, p5, p6, rfl, hr1, hb1⟩; have e1 := kp10 hb1 e0) | (go_at_call 70; refine (hcall _ _ _ _ _ _ _ (by first | exact thn2 (bx w _ _).drew hb1 | exact thn2 (bx w _ _) hb1) hr1).mono ?_; rintro e w2 ⟨rfl, hb2⟩; have e2 := kp10 hb2 e1))
  go_wp2_with fail
  go_ret2
  exact ⟨rfl, thn2 (thn2 (bx w _ _).drew hb1) hb2⟩

set_option maxHeartbeats 2000000 in
theorem un_samea (x r : Ty) (w : World) (ai : Option Addr) (li ci : Nat) (af : Option Addr) (lf cf : Nat) (bi : Option Addr) (mi di : Nat) (bf : Option Addr) (mf df : Nat) (t : ByteArray) (b : Bool)
    (h1 : ((x.kind : Int) == 63) = true) (h2 : ((r.kind : Int) == 63) = false) (hs : sameK x.kind r.kind = true) (ht : t = ByteArray.empty) (hb : b = false) :
    Calls Tryz.prog 70 #[.agg #[.int .i64 x.kind, .string x.letters, .bool x.op, .slice ai li ci, .slice af lf cf], .agg #[.int .i64 r.kind, .string r.letters, .bool r.op, .slice bi mi di, .slice bf mf df]] w fun e w' => e = .returned (.tuple #[.string t, .bool b]) ∧ Below w.heap.size w w' := by
  have e0 := bx2 w x r ai li ci af lf cf bi mi di bf mf df
  go_enter Tryz.func70, Tryz.ntmps70
  subst ht hb
  go_wp2_with (first | (go_at_call 85; refine (sameValue_any _ _ _).mono ?_; rintro e _ ⟨rfl, rfl⟩; rw [hs]))
  go_ret2
  exact ⟨rfl, bx w _ _⟩

set_option maxHeartbeats 2000000 in
theorem un_diffa (x r : Ty) (w : World) (ai : Option Addr) (li ci : Nat) (af : Option Addr) (lf cf : Nat) (bi : Option Addr) (mi di : Nat) (bf : Option Addr) (mf df : Nat) (t : ByteArray) (b : Bool)
    (h1 : ((x.kind : Int) == 63) = true) (h2 : ((r.kind : Int) == 63) = false) (hs : sameK x.kind r.kind = false) (h3 : ((x.kind : Int) != (r.kind : Int)) = true) (hb : b = true) (hcall : ∀ (W : World) , Below w.heap.size w W →  Calls Tryz.prog 86 #[.agg #[.int .i64 x.kind, .string x.letters, .bool x.op, .slice ai li ci, .slice af lf cf]] W fun e w' => e = .returned (.string t) ∧ Below W.heap.size W w') :
    Calls Tryz.prog 70 #[.agg #[.int .i64 x.kind, .string x.letters, .bool x.op, .slice ai li ci, .slice af lf cf], .agg #[.int .i64 r.kind, .string r.letters, .bool r.op, .slice bi mi di, .slice bf mf df]] w fun e w' => e = .returned (.tuple #[.string t, .bool b]) ∧ Below w.heap.size w w' := by
  have e0 := bx2 w x r ai li ci af lf cf bi mi di bf mf df
  go_enter Tryz.func70, Tryz.ntmps70
  subst hb
  go_wp2_with (first | (go_at_call 85; refine (sameValue_any _ _ _).mono ?_; rintro e _ ⟨rfl, rfl⟩; rw [hs]) | (go_at_call 86; refine (hcall _ (bx w _ _)).mono ?_; rintro e w1 ⟨rfl, hb1⟩))
  go_ret2
  exact ⟨rfl, thn2 (bx w _ _) hb1⟩

set_option maxHeartbeats 2000000 in
theorem un_sameb (x r : Ty) (w : World) (ai : Option Addr) (li ci : Nat) (af : Option Addr) (lf cf : Nat) (bi : Option Addr) (mi di : Nat) (bf : Option Addr) (mf df : Nat) (t : ByteArray) (b : Bool)
    (h1 : ((x.kind : Int) == 63) = false) (h2 : ((r.kind : Int) == 63) = false) (hs : sameK x.kind r.kind = true) (ht : t = ByteArray.empty) (hb : b = false) :
    Calls Tryz.prog 70 #[.agg #[.int .i64 x.kind, .string x.letters, .bool x.op, .slice ai li ci, .slice af lf cf], .agg #[.int .i64 r.kind, .string r.letters, .bool r.op, .slice bi mi di, .slice bf mf df]] w fun e w' => e = .returned (.tuple #[.string t, .bool b]) ∧ Below w.heap.size w w' := by
  have e0 := bx2 w x r ai li ci af lf cf bi mi di bf mf df
  go_enter Tryz.func70, Tryz.ntmps70
  subst ht hb
  go_wp2_with (first | (go_at_call 85; refine (sameValue_any _ _ _).mono ?_; rintro e _ ⟨rfl, rfl⟩; rw [hs]))
  go_ret2
  exact ⟨rfl, bx w _ _⟩

set_option maxHeartbeats 2000000 in
theorem un_diffb (x r : Ty) (w : World) (ai : Option Addr) (li ci : Nat) (af : Option Addr) (lf cf : Nat) (bi : Option Addr) (mi di : Nat) (bf : Option Addr) (mf df : Nat) (t : ByteArray) (b : Bool)
    (h1 : ((x.kind : Int) == 63) = false) (h2 : ((r.kind : Int) == 63) = false) (hs : sameK x.kind r.kind = false) (h3 : ((x.kind : Int) != (r.kind : Int)) = true) (hb : b = true) (hcall : ∀ (W : World) , Below w.heap.size w W →  Calls Tryz.prog 86 #[.agg #[.int .i64 x.kind, .string x.letters, .bool x.op, .slice ai li ci, .slice af lf cf]] W fun e w' => e = .returned (.string t) ∧ Below W.heap.size W w') :
    Calls Tryz.prog 70 #[.agg #[.int .i64 x.kind, .string x.letters, .bool x.op, .slice ai li ci, .slice af lf cf], .agg #[.int .i64 r.kind, .string r.letters, .bool r.op, .slice bi mi di, .slice bf mf df]] w fun e w' => e = .returned (.tuple #[.string t, .bool b]) ∧ Below w.heap.size w w' := by
  have e0 := bx2 w x r ai li ci af lf cf bi mi di bf mf df
  go_enter Tryz.func70, Tryz.ntmps70
  subst hb
  go_wp2_with (first | (go_at_call 85; refine (sameValue_any _ _ _).mono ?_; rintro e _ ⟨rfl, rfl⟩; rw [hs]) | (go_at_call 86; refine (hcall _ (bx w _ _)).mono ?_; rintro e w1 ⟨rfl, hb1⟩))
  go_ret2
  exact ⟨rfl, thn2 (bx w _ _) hb1⟩

set_option maxHeartbeats 2000000 in
theorem un_cho (x r : Ty) (w : World) (ai : Option Addr) (li ci : Nat) (af : Option Addr) (lf cf : Nat) (bi : Option Addr) (mi di : Nat) (bf : Option Addr) (mf df : Nat) (t : ByteArray) (b : Bool)
    (h1 : ((x.kind : Int) == 63) = false) (h2 : ((r.kind : Int) == 63) = false) (hs : sameK x.kind r.kind = false) (h3 : ((x.kind : Int) != (r.kind : Int)) = false) (k60 : ((x.kind : Int) == 60) = true) (hcall : ∀ (W : World) , Below w.heap.size w W →  Calls Tryz.prog 87 #[.agg #[.int .i64 x.kind, .string x.letters, .bool x.op, .slice ai li ci, .slice af lf cf], .agg #[.int .i64 r.kind, .string r.letters, .bool r.op, .slice bi mi di, .slice bf mf df]] W fun e w' => e = .returned (.tuple #[.string t, .bool b]) ∧ Below W.heap.size W w') :
    Calls Tryz.prog 70 #[.agg #[.int .i64 x.kind, .string x.letters, .bool x.op, .slice ai li ci, .slice af lf cf], .agg #[.int .i64 r.kind, .string r.letters, .bool r.op, .slice bi mi di, .slice bf mf df]] w fun e w' => e = .returned (.tuple #[.string t, .bool b]) ∧ Below w.heap.size w w' := by
  have e0 := bx2 w x r ai li ci af lf cf bi mi di bf mf df
  go_enter Tryz.func70, Tryz.ntmps70
  go_wp2_with (first | (go_at_call 85; refine (sameValue_any _ _ _).mono ?_; rintro e _ ⟨rfl, rfl⟩; rw [hs]) | (go_at_call 87; refine (hcall _ (bx w _ _)).mono ?_; rintro e w1 ⟨rfl, hb1⟩))
  go_ret2
  exact ⟨rfl, thn2 (bx w _ _) hb1⟩

set_option maxHeartbeats 2000000 in
theorem un_lst (x r : Ty) (w : World) (ai : Option Addr) (li ci : Nat) (af : Option Addr) (lf cf : Nat) (bi : Option Addr) (mi di : Nat) (bf : Option Addr) (mf df : Nat) (t : ByteArray) (b : Bool)
    (h1 : ((x.kind : Int) == 63) = false) (h2 : ((r.kind : Int) == 63) = false) (hs : sameK x.kind r.kind = false) (h3 : ((x.kind : Int) != (r.kind : Int)) = false) (k60 : ((x.kind : Int) == 60) = false) (k91 : ((x.kind : Int) == 91) = true) (nw nr : Nat) (hin : ∀ W, Below w.heap.size w W → Calls Tryz.prog 84 #[.agg #[.int .i64 x.kind, .string x.letters, .bool x.op, .slice ai li ci, .slice af lf cf]] W fun e w' => ∃ p1 p2 p3 p4 p5 p6, e = .returned (.agg #[.int .i64 x.in.kind, .string x.in.letters, .bool x.in.op, .slice p1 p2 p3, .slice p4 p5 p6]) ∧ Rep nw w' p1 p2 p3 p4 p5 p6 x.in ∧ Below W.heap.size W w') (hin2 : ∀ W, Below w.heap.size w W → Calls Tryz.prog 84 #[.agg #[.int .i64 r.kind, .string r.letters, .bool r.op, .slice bi mi di, .slice bf mf df]] W fun e w' => ∃ p1 p2 p3 p4 p5 p6, e = .returned (.agg #[.int .i64 r.in.kind, .string r.in.letters, .bool r.in.op, .slice p1 p2 p3, .slice p4 p5 p6]) ∧ Rep nr w' p1 p2 p3 p4 p5 p6 r.in ∧ Below W.heap.size W w') (hcall : ∀ (W : World) (p1 : Option Addr) (p2 p3 : Nat) (p4 : Option Addr) (p5 p6 : Nat) (q1 : Option Addr) (q2 q3 : Nat) (q4 : Option Addr) (q5 q6 : Nat), Below w.heap.size w W → Rep nw W p1 p2 p3 p4 p5 p6 x.in → Rep nr W q1 q2 q3 q4 q5 q6 r.in → Calls Tryz.prog 88 #[.agg #[.int .i64 x.in.kind, .string x.in.letters, .bool x.in.op, .slice p1 p2 p3, .slice p4 p5 p6], .agg #[.int .i64 r.in.kind, .string r.in.letters, .bool r.in.op, .slice q1 q2 q3, .slice q4 q5 q6]] W fun e w' => e = .returned (.tuple #[.string t, .bool b]) ∧ Below W.heap.size W w') :
    Calls Tryz.prog 70 #[.agg #[.int .i64 x.kind, .string x.letters, .bool x.op, .slice ai li ci, .slice af lf cf], .agg #[.int .i64 r.kind, .string r.letters, .bool r.op, .slice bi mi di, .slice bf mf df]] w fun e w' => e = .returned (.tuple #[.string t, .bool b]) ∧ Below w.heap.size w w' := by
  have e0 := bx2 w x r ai li ci af lf cf bi mi di bf mf df
  go_enter Tryz.func70, Tryz.ntmps70
  go_wp2_with (first | (go_at_call 85; refine (sameValue_any _ _ _).mono ?_; rintro e _ ⟨rfl, rfl⟩; rw [hs]))
  go_region_held3 (fun w' => w'.cell? ⟨w.heap.size, 0, none⟩ = some (.int .i64 x.kind) ∧ w'.cell? ⟨w.heap.size, 1, none⟩ = some (.string x.letters) ∧ w'.cell? ⟨w.heap.size, 2, none⟩ = some (.bool x.op) ∧ w'.cell? ⟨w.heap.size, 3, none⟩ = some (.slice ai li ci) ∧ w'.cell? ⟨w.heap.size, 4, none⟩ = some (.slice af lf cf) ∧ w'.cell? ⟨w.heap.size + 1, 0, none⟩ = some (.int .i64 r.kind) ∧ w'.cell? ⟨w.heap.size + 1, 1, none⟩ = some (.string r.letters) ∧ w'.cell? ⟨w.heap.size + 1, 2, none⟩ = some (.bool r.op) ∧ w'.cell? ⟨w.heap.size + 1, 3, none⟩ = some (.slice bi mi di) ∧ w'.cell? ⟨w.heap.size + 1, 4, none⟩ = some (.slice bf mf df)) (go_keep) (first | (go_at_call 84; have hq := hb1; refine (hin2 _ (by first | exact thn2 (bx w _ _).drew hb1 | exact thn2 (bx w _ _) hb1)).mono ?_; rintro e w2 ⟨q1, q2, q3, q4, q5, q6, rfl, hr2, hb2⟩; have e2 := kp10 hb2 e1) | (go_at_call 84; refine (hin _ (by first | exact (bx w _ _).drew | exact bx w _ _)).mono ?_; rintro e w1 ⟨p1, p2, p3, p4, p5, p6, rfl, hr1, hb1⟩; have e1 := kp10 hb1 e0) | (go_at_call 88; refine (hcall _ _ _ _ _ _ _ _ _ _ _ _ _ (by first | exact thn2 (thn2 (bx w _ _).drew hb1) hb2 | exact thn2 (thn2 (bx w _ _) hb1) hb2) (hr1.keep hb2) hr2).mono ?_; rintro e w3 ⟨rfl, hb3⟩; have e3 := kp10 hb3 e2))
  go_wp2_with fail
  go_ret2
  exact ⟨rfl, thn2 (thn2 (thn2 (bx w _ _).drew hb1) hb2) hb3⟩

set_option maxHeartbeats 2000000 in
theorem un_rcd (x r : Ty) (w : World) (ai : Option Addr) (li ci : Nat) (af : Option Addr) (lf cf : Nat) (bi : Option Addr) (mi di : Nat) (bf : Option Addr) (mf df : Nat) (t : ByteArray) (b : Bool)
    (h1 : ((x.kind : Int) == 63) = false) (h2 : ((r.kind : Int) == 63) = false) (hs : sameK x.kind r.kind = false) (h3 : ((x.kind : Int) != (r.kind : Int)) = false) (k60 : ((x.kind : Int) == 60) = false) (k91 : ((x.kind : Int) == 91) = false) (k123 : ((x.kind : Int) == 123) = true) (hcall : ∀ (W : World) , Below w.heap.size w W →  Calls Tryz.prog 89 #[.slice af lf cf, .slice bf mf df] W fun e w' => e = .returned (.tuple #[.string t, .bool b]) ∧ Below W.heap.size W w') :
    Calls Tryz.prog 70 #[.agg #[.int .i64 x.kind, .string x.letters, .bool x.op, .slice ai li ci, .slice af lf cf], .agg #[.int .i64 r.kind, .string r.letters, .bool r.op, .slice bi mi di, .slice bf mf df]] w fun e w' => e = .returned (.tuple #[.string t, .bool b]) ∧ Below w.heap.size w w' := by
  have e0 := bx2 w x r ai li ci af lf cf bi mi di bf mf df
  go_enter Tryz.func70, Tryz.ntmps70
  go_wp2_with (first | (go_at_call 85; refine (sameValue_any _ _ _).mono ?_; rintro e _ ⟨rfl, rfl⟩; rw [hs]) | (go_at_call 89; refine (hcall _ (bx w _ _)).mono ?_; rintro e w1 ⟨rfl, hb1⟩))
  go_ret2
  exact ⟨rfl, thn2 (bx w _ _) hb1⟩
end
section
open Go.RowKit

/-- A type as a schema tells it: the letters of a choice are different letters, no ? stands in a ?. -/
def tyG : Nat → Ty → Prop
  | 0, _ => True
  | n + 1, ty => (ty.kind = 60 → ∀ i, i < ty.letters.size → isL (bAt ty.letters i) = true ∧ ∀ j, j < i → bAt ty.letters j ≠ bAt ty.letters i) ∧ (ty.kind = 63 → ty.in.kind ≠ 63) ∧ (ty.kind = 91 ∨ ty.kind = 63 → tyG n ty.in) ∧ ∀ f ∈ ty.fields, f.1 < 256 ∧ tyG n f.2.1
/-- What may stand behind a text. -/
def DL (st : Bool) (b : Int) : Prop := isD b = false ∧ (st = true → b ≠ 45)
theorem dVal_at {t : ByteArray} : ∀ (m n a : Nat), n < 10 ^ (m + 1) → At t a (decS m n) → dVal t a (decS m n).size = n
  | 0, n, a, hn, h => by
    rw [decS] at h ⊢
    rw [At.one (by omega)] at h
    rw [oneB_size, dVal, dVal, Nat.add_zero, h]; omega
  | m + 1, n, a, hn, h => by
    rw [decS] at h ⊢
    split at h
    · rw [At.one (by omega)] at h
      rw [if_pos (by assumption), oneB_size, dVal, dVal, Nat.add_zero, h]; omega
    · rw [if_neg (by assumption)]
      rw [At.app, At.one (by omega)] at h
      rw [ByteArray.size_append, oneB_size, dVal, dVal_at m (n / 10) a (by rw [Nat.pow_succ] at hn; omega) h.1, h.2]
      omega
theorem pDig_at {t : ByteArray} {n a : Nat} (hn : n ≤ 1000000000000000) (h : At t a (decS 18 n)) (hd : isD (bAt t (a + (decS 18 n).size)) = false) : pDig t a = some ((n : Int), a + (decS 18 n).size) := by
  have hp := decS_pos 18 n
  have hl := decS_len 15 18 n (by omega)
  have hle := h.le
  have e := pDig_mk (s := t) (a := a) (e := a + (decS 18 n).size) (by omega) hle (fun i h1 h2 => by
    have := h.2 (i - a) (by omega)
    rw [show a + (i - a) = i by omega] at this
    rw [this]
    exact isD_mk (decS_dig 18 n (i - a) (by omega) (by omega))) hd (by omega) (fun h1 => by
      have h2 := h.2 0 hp
      rw [Nat.add_zero] at h2
      rw [h2]
      exact decS_first 18 n (by omega) (decS_big 18 n (by omega) (by omega)))
  rw [e, show a + (decS 18 n).size - a = (decS 18 n).size by omega, dVal_at 18 n a (by omega) h]
theorem pNum_at {t : ByteArray} {n : Int} {a : Nat} (h1 : -1000000000000000 ≤ n) (h2 : n ≤ 1000000000000000) (h : At t a (decI n)) (hd : isD (bAt t (a + (decI n).size)) = false) : pNum t a = some (n, a + (decI n).size) := by
  unfold decI at h hd ⊢
  by_cases hn : n < 0
  · rw [if_pos hn] at h hd ⊢
    rw [At.app] at h
    have e1 : (⟨#[45]⟩ : ByteArray).size = 1 := rfl
    rw [e1] at h
    have h45 : bAt t a = 45 := by have := h.1.2 0 (by rw [e1]; omega); rw [Nat.add_zero] at this; rw [this]; rfl
    rw [ByteArray.size_append, e1] at hd ⊢
    unfold pNum
    rw [if_pos h45, pDig_at (by omega) h.2 (by rw [show a + 1 + (decS 18 (-n).toNat).size = a + (1 + (decS 18 (-n).toNat).size) by omega]; exact hd)]
    simp only
    rw [if_neg (by omega)]
    congr 1
    refine Prod.ext ?_ ?_
    · show -((-n).toNat : Int) = n; omega
    · show a + 1 + _ = a + (1 + _); omega
  · rw [if_neg hn] at h hd ⊢
    have hb := decS_dig 18 n.toNat 0 (by omega) (decS_pos _ _)
    have h0 := h.2 0 (decS_pos _ _)
    rw [Nat.add_zero] at h0
    unfold pNum
    rw [if_neg (by rw [h0]; omega), pDig_at (by omega) h hd]
    congr 1
    refine Prod.ext ?_ rfl
    show ((n.toNat : Nat) : Int) = n; omega
theorem encNum_at {st : Bool} {lo hi n : Int} {t : ByteArray} {a : Nat} (hl : -1000000000000000 ≤ lo) (hh : hi ≤ 1000000000000000) (h1 : lo ≤ n) (h2 : n ≤ hi) (h : At t a (decI n)) (hd : DL st (bAt t (a + (decI n).size))) : encNum st lo hi t a = some (numData n, a + (decI n).size) := by
  unfold encNum
  rw [pNum_at (by omega) (by omega) h hd.1]
  simp only
  rw [if_neg (by omega), if_neg (fun hc => hd.2 hc.1 hc.2)]
theorem allS_all {s : ByteArray} : ∀ (m k : Nat), allS s m k = true → ∀ i, i < m → inS (bAt s (k + i)) = true
  | 0, k, h, i, hi => by omega
  | m + 1, k, h, i, hi => by
    rw [allS, Bool.and_eq_true] at h
    cases i with
    | zero => rw [Nat.add_zero]; exact h.1
    | succ i => rw [show k + (i + 1) = k + 1 + i by omega]; exact allS_all m (k + 1) h.2 i (by omega)
theorem encStr_at {s t : ByteArray} {a : Nat} (h1 : s.size ≤ 60) (h2 : allS s s.size 0 = true) (h : At t a (quo ++ s ++ quo)) : encStr t a = some (oneB s.size ++ s, a + (quo ++ s ++ quo).size) := by
  rw [At.app, At.app, ByteArray.size_append, quo_size] at h
  obtain ⟨⟨h3, h4⟩, h5⟩ := h
  have hq : bAt quo 0 = 34 := rfl
  have a0 : bAt t a = 34 := by have := h3.2 0 (by rw [quo_size]; omega); rw [Nat.add_zero] at this; rw [this]; exact hq
  have a1 : bAt t (a + 1 + s.size) = 34 := by have := h5.2 0 (by rw [quo_size]; omega); rw [Nat.add_zero, show a + (1 + s.size) = a + 1 + s.size by omega] at this; rw [this]; exact hq
  have hE := run_unique inS t s.size (a + 1) (a + 1 + s.size) rfl h4.le (fun i hi1 hi2 => by
    have := h4.2 (i - (a + 1)) (by omega)
    rw [show a + 1 + (i - (a + 1)) = i by omega] at this
    rw [this]
    have := allS_all _ _ h2 (i - (a + 1)) (by omega)
    rw [Nat.zero_add] at this; exact this) (by rw [a1]; rfl)
  unfold encStr
  rw [if_pos a0]
  simp only
  rw [hE, if_pos ⟨a1, by omega⟩, show a + 1 + s.size - (a + 1) = s.size by omega, h4.ext, ByteArray.size_append, ByteArray.size_append, quo_size]
  congr 2; omega
theorem pFrom_at {l : ByteArray} {c : Int} {i : Nat} (hb : bAt l i = c) : ∀ (m k : Nat), k ≤ i → i < k + m → (∀ j, k ≤ j → j < i → bAt l j ≠ c) → pFrom l c m k = i
  | 0, k, h1, h2, h3 => by omega
  | m + 1, k, h1, h2, h3 => by
    rw [pFrom]
    by_cases hk : k = i
    · subst hk; rw [if_pos hb]
    · rw [if_neg (h3 k (Nat.le_refl _) (by omega))]
      exact pFrom_at hb m (k + 1) (by omega) (by omega) (fun j hj1 hj2 => h3 j (by omega) hj2)
theorem pOf_at {l : ByteArray} {i : Nat} (hi : i < l.size) (hd : ∀ j, j < i → bAt l j ≠ bAt l i) : pOf l (bAt l i) = i := by
  unfold pOf; exact pFrom_at rfl l.size 0 (Nat.zero_le _) (by omega) (fun j _ hj => hd j hj)
end
section
open Go.RowKit

def sepT : List ByteArray → ByteArray
  | [] => ⟨#[93]⟩
  | x :: xs => ⟨#[44]⟩ ++ (x ++ sepT xs)
theorem itemsT_sep : ∀ (xs : List ByteArray) (k : Nat) (t : ByteArray), itemsT (k + 1) xs t = t ++ sepT xs
  | [], k, t => rfl
  | x :: xs, k, t => by
    rw [itemsT, if_pos (by omega), itemsT_sep xs (k + 1), sepT]
    simp only [ByteArray.append_assoc]
def recT : List (Nat × ByteArray) → ByteArray → ByteArray
  | [], _ => ⟨#[125]⟩
  | p :: ps, mk => (mk ++ (oneB p.1 ++ (⟨#[58]⟩ ++ p.2))) ++ recT ps ⟨#[44]⟩
theorem fldsT_rec : ∀ (ps : List (Nat × ByteArray)) (mk t : ByteArray), fldsT ps mk t = t ++ recT ps mk
  | [], mk, t => rfl
  | p :: ps, mk, t => by
    rw [fldsT, fldsT_rec ps, recT]
    simp only [ByteArray.append_assoc]
theorem at0 {t x : ByteArray} {j : Nat} (h : At t j x) (hx : 1 ≤ x.size) : bAt t j = bAt x 0 := by
  have := h.2 0 hx; rw [Nat.add_zero] at this; exact this
theorem first_app {x y : ByteArray} (h : 1 ≤ x.size) : bAt (x ++ y) 0 = bAt x 0 := bAt_app_left _ _ _ h
theorem sz1 (c : UInt8) : (⟨#[c]⟩ : ByteArray).size = 1 := rfl
theorem sepT_first (xs : List ByteArray) : (bAt (sepT xs) 0 = 93 ∨ bAt (sepT xs) 0 = 44) ∧ 1 ≤ (sepT xs).size := by
  cases xs with
  | nil => exact ⟨.inl rfl, Nat.le_refl _⟩
  | cons x xs =>
    rw [sepT]
    refine ⟨.inr ?_, by rw [ByteArray.size_append, sz1]; omega⟩
    rw [first_app (by rw [sz1]; omega)]; rfl
theorem recT_first (ps : List (Nat × ByteArray)) : (bAt (recT ps ⟨#[44]⟩) 0 = 125 ∨ bAt (recT ps ⟨#[44]⟩) 0 = 44) ∧ 1 ≤ (recT ps ⟨#[44]⟩).size := by
  cases ps with
  | nil => exact ⟨.inl rfl, Nat.le_refl _⟩
  | cons p ps =>
    rw [recT]
    have e : 1 ≤ (⟨#[44]⟩ ++ (oneB p.1 ++ (⟨#[58]⟩ ++ p.2)) : ByteArray).size := by rw [ByteArray.size_append, sz1]; omega
    refine ⟨.inr ?_, by rw [ByteArray.size_append]; omega⟩
    rw [first_app e, first_app (by rw [sz1]; omega)]; rfl
theorem DL_of {st : Bool} {b : Int} (h : b = 93 ∨ b = 44 ∨ b = 125 ∨ b = -1) : DL st b := by
  rcases h with rfl | rfl | rfl | rfl <;> exact ⟨rfl, fun _ => by omega⟩
/-- A text has a first byte, which no closing bracket is; of a type that is no ? it is no _. -/
theorem txt_first : ∀ (n : Nat) (ty : Ty) (v : Val), okV n ty v → tyG n ty → 1 ≤ (txtV n ty v).size ∧ bAt (txtV n ty v) 0 ≠ 93 ∧ (ty.kind ≠ 63 → bAt (txtV n ty v) 0 ≠ 95)
  | 0, ty, v, h, _ => h.elim
  | n + 1, ty, v, h, hg => by
    rcases h with ⟨x, rfl, h⟩ | ⟨s, rfl, h⟩ | ⟨i, rfl, h⟩ | ⟨vs, rfl, h⟩ | ⟨rfl, h⟩ | ⟨v, rfl, h⟩ | ⟨vs, rfl, h⟩
    · rw [txtV_num]
      unfold decI
      split
      · have e1 : 1 ≤ (⟨#[45]⟩ : ByteArray).size := Nat.le_refl _
        refine ⟨by rw [ByteArray.size_append]; omega, ?_, ?_⟩
        · rw [first_app e1]; decide
        · intro _; rw [first_app e1]; decide
      · have h1 := decS_pos 18 x.toNat
        have h2 := decS_dig 18 x.toNat 0 (by omega) h1
        exact ⟨h1, by omega, fun _ => by omega⟩
    · rw [txtV_str]
      have e : bAt (quo ++ s ++ quo) 0 = 34 := by rw [first_app (by rw [ByteArray.size_append, quo_size]; omega), first_app (by rw [quo_size]; omega)]; rfl
      exact ⟨by rw [ByteArray.size_append, ByteArray.size_append, quo_size]; omega, by omega, fun _ => by omega⟩
    · rw [txtV_cho]
      have hl := isL_bd ((hg.1 h.1 i h.2.1).1)
      have e : bAt (oneB (bAt ty.letters i).toNat) 0 = bAt ty.letters i := by rw [bAt_one _ (by omega)]; omega
      exact ⟨by rw [oneB_size]; omega, by omega, fun _ => by omega⟩
    · rw [txtV_lst]
      have e : 1 ≤ (itemsT 0 (vs.map (txtV n ty.in)) ⟨#[91]⟩).size ∧ bAt (itemsT 0 (vs.map (txtV n ty.in)) ⟨#[91]⟩) 0 = 91 := by
        cases vs with
        | nil => exact ⟨by show 1 ≤ (⟨#[91]⟩ ++ ⟨#[93]⟩ : ByteArray).size; decide, rfl⟩
        | cons v vs =>
          rw [List.map_cons, itemsT, itemsT_sep]
          simp only [Nat.lt_irrefl, if_false]
          have e1 : 1 ≤ (⟨#[91]⟩ ++ txtV n ty.in v : ByteArray).size := by rw [ByteArray.size_append, sz1]; omega
          refine ⟨by rw [ByteArray.size_append]; omega, ?_⟩
          rw [first_app e1, first_app (by rw [sz1]; omega)]; rfl
      exact ⟨e.1, by omega, fun _ => by omega⟩
    · rw [txtV_non]
      exact ⟨Nat.le_refl _, by decide, fun hk => absurd h hk⟩
    · rw [txtV_som]
      have := txt_first n ty.in v h.2 (hg.2.2.1 (.inr h.1))
      exact ⟨this.1, this.2.1, fun hk => absurd h.1 hk⟩
    · rw [txtV_rcd, fldsT_rec, ByteArray.empty_append]
      rcases hf : ty.fields with _ | ⟨g, fs⟩
      · exact absurd hf h.2.1
      · rcases vs with _ | ⟨v, vs⟩
        · rw [hf] at h; simp at h
        · rw [List.zip_cons_cons, List.map_cons, recT]
          have e : ∀ y : ByteArray, 1 ≤ (⟨#[123]⟩ ++ y : ByteArray).size := fun y => by rw [ByteArray.size_append, sz1]; omega
          have e1 : ∀ y z : ByteArray, bAt ((⟨#[123]⟩ ++ y : ByteArray) ++ z) 0 = 123 := fun y z => by rw [first_app (e y), first_app (by rw [sz1]; omega)]; rfl
          rw [e1]
          exact ⟨by rw [ByteArray.size_append, ByteArray.size_append, sz1]; omega, by omega, fun _ => by omega⟩
theorem encItems_at {st : Bool} {t : ByteArray} {f : Nat → Option (ByteArray × Nat)} {dv tv : Val → ByteArray} : ∀ (us : List Val) (v : Val) (m c b : Nat) (d : ByteArray), us.length < m → (∀ u, u = v ∨ u ∈ us → ∀ j, At t j (tv u) → DL st (bAt t (j + (tv u).size)) → f j = some (dv u, j + (tv u).size)) →
    At t (b + 1) (tv v ++ sepT (us.map tv)) → encItems f t m c b d = some (oneB (c + us.length) ++ (d ++ (dv v ++ catB (us.map dv))), b + 1 + (tv v ++ sepT (us.map tv)).size)
  | us, v, 0, c, b, d, hm, hf, h => by omega
  | [], v, m + 1, c, b, d, hm, hf, h => by
    rw [At.app] at h
    have h1 : bAt t (b + 1 + (tv v).size) = 93 := by rw [at0 h.2 (Nat.le_refl _)]; rfl
    rw [encItems, hf v (.inl rfl) (b + 1) h.1 (by rw [h1]; exact DL_of (.inl rfl))]
    simp only
    rw [if_pos h1, ByteArray.size_append]
    simp [catB, sepT]
    rfl
  | u :: us, v, m + 1, c, b, d, hm, hf, h => by
    rw [At.app] at h
    have h0 := h
    rw [List.map_cons, sepT, At.app, sz1] at h0
    have h1 : bAt t (b + 1 + (tv v).size) = 44 := by rw [at0 h0.2.1 (Nat.le_refl _)]; rfl
    rw [encItems, hf v (.inl rfl) (b + 1) h.1 (by rw [h1]; exact DL_of (.inr (.inl rfl)))]
    simp only
    rw [if_neg (by rw [h1]; omega), if_pos h1, encItems_at us u m (c + 1) _ _ (by simp at hm; omega) (fun w hw => hf w (.inr (by rcases hw with rfl | hw <;> simp [*]))) h0.2.2]
    congr 2
    · rw [List.length_cons, List.map_cons, catB, show c + 1 + us.length = c + (us.length + 1) by omega]
      simp only [ByteArray.append_assoc]
    · rw [List.map_cons, sepT]
      simp only [ByteArray.size_append, sz1]; omega
theorem encFlds_at {st : Bool} {t : ByteArray} {f : Ty → Nat → Option (ByteArray × Nat)} {dv : Val → ByteArray} {tv : Ty → Val → ByteArray} : ∀ (fs : List (Nat × Ty × ByteArray)) (vs : List Val) (mk : UInt8) (b : Nat) (d : ByteArray), vs.length = fs.length → (∀ g ∈ fs, g.1 < 256) →
    (∀ p ∈ fs.zip vs, ∀ j, At t j (tv p.1.2.1 p.2) → DL st (bAt t (j + (tv p.1.2.1 p.2).size)) → f p.1.2.1 j = some (dv p.2, j + (tv p.1.2.1 p.2).size)) →
    At t b (recT ((fs.zip vs).map fun p => (p.1.1, tv p.1.2.1 p.2)) ⟨#[mk]⟩) → encFlds f t fs (mk.toNat : Int) b d = some (d ++ catB (vs.map dv), b + (recT ((fs.zip vs).map fun p => (p.1.1, tv p.1.2.1 p.2)) ⟨#[mk]⟩).size) ∨ fs = []
  | [], vs, mk, b, d, hl, hg, hf, h => .inr rfl
  | g :: fs, [], mk, b, d, hl, hg, hf, h => by simp at hl
  | g :: fs, v :: vs, mk, b, d, hl, hg, hf, h => by
    left
    simp only [List.zip_cons_cons, List.map_cons, recT] at h ⊢
    have h256 := hg g (by simp)
    have h0 := h
    rw [At.app, At.app, At.app, At.app, At.one h256] at h0
    simp only [ByteArray.size_append, sz1, oneB_size] at h0
    obtain ⟨⟨h1, h2, h3, h4⟩, h5⟩ := h0
    have b0 : bAt t b = (mk.toNat : Int) := by rw [at0 h1 (Nat.le_refl _)]; rfl
    have b2 : bAt t (b + 2) = 58 := by have := at0 h3 (Nat.le_refl _); rw [show b + 1 + 1 = b + 2 by omega] at this; rw [this]; rfl
    have hfirst := recT_first ((fs.zip vs).map fun p => (p.1.1, tv p.1.2.1 p.2))
    rw [show b + 1 + 1 + 1 = b + 3 by omega] at h4
    rw [show b + (1 + (1 + (1 + (tv g.2.1 v).size))) = b + 3 + (tv g.2.1 v).size by omega] at h5
    have hnext : bAt t (b + 3 + (tv g.2.1 v).size) = 125 ∨ bAt t (b + 3 + (tv g.2.1 v).size) = 44 := by rw [at0 h5 hfirst.2]; exact hfirst.1
    rw [encFlds, if_pos ⟨b0, h2, b2⟩, hf (g, v) (by simp) (b + 3) h4 (DL_of (by rcases hnext with h | h; exact .inr (.inr (.inl h)); exact .inr (.inl h)))]
    simp only
    have hsz : (⟨#[mk]⟩ ++ (oneB g.1 ++ (⟨#[58]⟩ ++ tv g.2.1 v)) ++ recT ((fs.zip vs).map fun p => (p.1.1, tv p.1.2.1 p.2)) ⟨#[44]⟩ : ByteArray).size = 3 + (tv g.2.1 v).size + (recT ((fs.zip vs).map fun p => (p.1.1, tv p.1.2.1 p.2)) ⟨#[44]⟩).size := by
      simp only [ByteArray.size_append, sz1, oneB_size]; omega
    rw [hsz]
    rcases encFlds_at (st := st) fs vs 44 (b + 3 + (tv g.2.1 v).size) (d ++ dv v) (by simpa using hl) (fun g' h' => hg g' (by simp [h'])) (fun p hp => hf p (by simp [hp])) h5 with e | e
    · rw [show ((44 : UInt8).toNat : Int) = 44 from rfl] at e
      rw [e, catB]
      congr 2
      · simp only [ByteArray.append_assoc]
      · omega
    · subst e
      obtain rfl : vs = [] := by simpa using hl
      have h125 : bAt t (b + 3 + (tv g.2.1 v).size) = 125 := by rw [at0 h5 hfirst.2]; rfl
      rw [encFlds, if_pos h125]
      simp only [List.zip_nil_left, List.map_nil, recT, catB, sz1, ByteArray.append_empty]
      congr 2
      omega
/-- A value's text is encoded as its data. -/
theorem enc_at {st : Bool} {t : ByteArray} : ∀ (n : Nat) (ty : Ty) (v : Val) (j : Nat), okV n ty v → tyG n ty → At t j (txtV n ty v) → DL st (bAt t (j + (txtV n ty v).size)) → enc st t n ty j = some (datV n v, j + (txtV n ty v).size)
  | 0, ty, v, j, hv, _, _, _ => hv.elim
  | n + 1, ty, v, j, hv, hg, h, hd => by
    have ih := enc_at (st := st) (t := t) n
    have hv0 := hv
    rcases hv with ⟨x, rfl, hv⟩ | ⟨s, rfl, hv⟩ | ⟨i, rfl, hv⟩ | ⟨vs, rfl, hv⟩ | ⟨rfl, hv⟩ | ⟨v, rfl, hv⟩ | ⟨vs, rfl, hv⟩
    · rw [txtV_num] at h hd ⊢
      rw [datV_num]
      rcases hv with ⟨hk, h1, h2⟩ | ⟨hk, h1, h2⟩
      · rw [enc, if_pos hk, encNum_at (by omega) (by omega) h1 h2 h hd]
      · rw [enc, if_neg (by omega), if_pos hk, encNum_at (by omega) (by omega) h1 h2 h hd]
    · rw [txtV_str] at h hd ⊢
      rw [datV_str, enc, if_neg (by omega), if_neg (by omega), if_pos hv.1, encStr_at hv.2.1 hv.2.2 h]
    · have hl := hg.1 hv.1 i hv.2.1
      have hl2 := isL_bd hl.1
      rw [txtV_cho] at h hd ⊢
      rw [At.one (by omega)] at h
      rw [datV_cho, enc, if_neg (by omega), if_neg (by omega), if_neg (by omega), if_pos hv.1]
      have hb : bAt t j = bAt ty.letters i := by omega
      rw [hb, pOf_at hv.2.1 hl.2, if_neg (by omega), oneB_size]
      rfl
    · rw [txtV_lst] at h hd ⊢
      rw [datV_lst, enc, if_neg (by omega), if_neg (by omega), if_neg (by omega), if_neg (by omega), if_pos hv.1]
      unfold encList
      cases vs with
      | nil =>
        simp only [List.map_nil, itemsT] at h hd ⊢
        rw [At.app, sz1] at h
        have b0 : bAt t j = 91 := by rw [at0 h.1 (Nat.le_refl _)]; rfl
        have b1 : bAt t (j + 1) = 93 := by rw [at0 h.2 (Nat.le_refl _)]; rfl
        rw [if_pos b0, if_pos b1]
        simp [catB]
        rfl
      | cons v vs =>
        simp only [List.map_cons, itemsT, itemsT_sep, Nat.lt_irrefl, if_false, ByteArray.append_assoc] at h hd ⊢
        rw [At.app, sz1] at h
        have b0 : bAt t j = 91 := by rw [at0 h.1 (Nat.le_refl _)]; rfl
        have hf := txt_first n ty.in v (hv.2.2 v (by simp)) (hg.2.2.1 (.inl hv.1))
        have b1 : bAt t (j + 1) ≠ 93 := by rw [at0 (At.app.1 h.2).1 hf.1]; exact hf.2.1
        have hl16 : vs.length < 16 := by have := hv.2.1; simp at this; omega
        rw [if_pos b0, if_neg b1, encItems_at (st := st) (dv := datV n) (tv := txtV n ty.in) vs v 16 1 j _ hl16 (fun u hu j h hd => ih ty.in u j (hv.2.2 u (by rcases hu with rfl | hu <;> simp [*])) (hg.2.2.1 (.inl hv.1)) h hd) h.2]
        rw [ByteArray.size_append (a := ⟨#[91]⟩), sz1, List.length_cons, catB, ByteArray.empty_append, Nat.add_comm 1 vs.length, Nat.add_assoc]
    · rw [txtV_non] at h hd ⊢
      have b0 : bAt t j = 95 := by rw [at0 h (Nat.le_refl _)]; rfl
      rw [datV_non, enc, if_neg (by omega), if_neg (by omega), if_neg (by omega), if_neg (by omega), if_neg (by omega), if_pos hv]
      unfold encMaybe
      rw [if_pos b0]; rfl
    · rw [txtV_som] at h hd ⊢
      have hgi := hg.2.2.1 (.inr hv.1)
      have hf := txt_first n ty.in v hv.2 hgi
      have b0 : bAt t j ≠ 95 := by rw [at0 h hf.1]; exact hf.2.2 (hg.2.1 hv.1)
      rw [datV_som, enc, if_neg (by omega), if_neg (by omega), if_neg (by omega), if_neg (by omega), if_neg (by omega), if_pos hv.1]
      unfold encMaybe
      rw [if_neg b0, ih ty.in v j hv.2 hgi h hd]
    · rw [txtV_rcd, fldsT_rec, ByteArray.empty_append] at h hd ⊢
      rw [datV_rcd, enc, if_neg (by omega), if_neg (by omega), if_neg (by omega), if_neg (by omega), if_neg (by omega), if_neg (by omega), if_pos hv.1]
      rcases encFlds_at (st := st) (t := t) (f := enc st t n) (dv := datV n) (tv := txtV n) ty.fields vs 123 j ByteArray.empty hv.2.2.1 (fun g hg' => (hg.2.2.2 g hg').1) (fun p hp j h hd => ih p.1.2.1 p.2 j (hv.2.2.2 p hp) (hg.2.2.2 p.1 (List.of_mem_zip (a := p.1) (b := p.2) hp).1).2 h hd) h with e | e
      · rw [show ((123 : UInt8).toNat : Int) = 123 from rfl] at e
        rw [e, ByteArray.empty_append]
      · exact absurd e hv.2.1
end
section
set_option maxRecDepth 4000
open Go.RowKit

def TellOK (n : Nat) (s t : ByteArray) : Prop := ∀ (i j : Nat) (w : World) (ty : Ty) (k : Nat), pType true s n i = some (ty, k) → s.size ≤ i + n → j ≤ t.size →
  Calls Tryz.prog 97 #[.string s, .int .i64 i, .string t, .int .i64 j] w fun e w' => e = .returned (layRet (dec t n ty j)) ∧ Below w.heap.size w w'
theorem TellOK.no {n : Nat} {s t : ByteArray} (IH : TellOK n s t) {i j : Nat} (w : World) {ty : Ty} {k : Nat} (hp : pType true s n i = some (ty, k)) (hi : s.size ≤ i + n) (hj : j ≤ t.size) (hx : dec t n ty j = none) :
    Calls Tryz.prog 97 #[.string s, .int .i64 i, .string t, .int .i64 j] w fun e w' => e = .returned (.tuple #[.string ByteArray.empty, .int .i64 (-1)]) ∧ Below w.heap.size w w' := by
  have := IH i j w ty k hp hi hj; rw [hx] at this; exact this
theorem TellOK.yes {n : Nat} {s t : ByteArray} (IH : TellOK n s t) {i j : Nat} (w : World) {ty : Ty} {k : Nat} (hp : pType true s n i = some (ty, k)) (hi : s.size ≤ i + n) (hj : j ≤ t.size) {d : ByteArray} {m : Nat} (hx : dec t n ty j = some (d, m)) :
    Calls Tryz.prog 97 #[.string s, .int .i64 i, .string t, .int .i64 j] w fun e w' => e = .returned (.tuple #[.string d, .int .i64 m]) ∧ Below w.heap.size w w' := by
  have := IH i j w ty k hp hi hj; rw [hx] at this; exact this
theorem text_sm {n a b c : Nat} {d : ByteArray} (h : d.size ≤ (4 * n + c) * (b - a)) (hc : c ≤ 30) (hn : n ≤ 100) (hb : b ≤ 4096) : d.size ≤ 4000000 := by
  have h1 : (4 * n + c) * (b - a) ≤ 430 * (b - a) := Nat.mul_le_mul_right _ (by omega)
  omega

set_option maxHeartbeats 1000000 in
theorem tellString_any (s : ByteArray) (a : Nat) (w : World) (_hs : s.size ≤ 9000000) (ha : a < s.size) :
    Calls Tryz.prog 118 #[.string s, .int .i64 a] w fun e w' => e = .returned (layRet (decStr s a)) ∧ w = w' := by
  obtain ⟨L, hL⟩ : ∃ L, L = s[a].toNat := ⟨_, rfl⟩
  have hb : bAt s a = (L : Int) := by rw [hL]; exact bAt_in s a ha
  have hL256 : L < 256 := by rw [hL]; exact s[a].toNat_lt
  have hP : decStr s a = if 60 < L then none else if allS s L (a + 1) = true then some (quo ++ s.extract (a + 1) (a + 1 + L) ++ quo, a + 1 + L) else none := by
    unfold decStr; rw [hb]; simp only [Int.toNat_natCast]
    by_cases h : 60 < L
    · rw [if_pos (by omega), if_pos h]
    · rw [if_neg (by omega), if_neg h]
  by_cases h60 : 60 < L
  · have hr : Hid (decStr s a = none) := by show _ = _; rw [hP, if_pos h60]
    rw [hL] at h60
    clear hP hb
    go_enter Tryz.func118, Tryz.ntmps118
    go_wp2_with fail
    go_ret2
    rw [hr.out]
    exact ⟨rfl, rfl⟩
  · by_cases hlen : s.size < a + 1 + L
    · have hr : Hid (decStr s a = none) := by
        show _ = _; rw [hP, if_neg h60, if_neg]
        intro h
        rcases allS_lt s _ _ h with h | h <;> omega
      rw [hL] at h60 hlen
      clear hP hb
      go_enter Tryz.func118, Tryz.ntmps118
      go_wp2_with fail
      go_ret2
      rw [hr.out]
      exact ⟨rfl, rfl⟩
    · obtain ⟨R, hR⟩ : ∃ R, R = allS s L (a + 1) := ⟨_, rfl⟩
      rw [if_neg h60, ← hR] at hP
      have HP : Hid (decStr s a = if R = true then some (quo ++ s.extract (a + 1) (a + 1 + L) ++ quo, a + 1 + L) else none) := hP
      have HR : Hid (R = allS s L (a + 1)) := hR
      clear hP hR hb
      subst hL
      have h60' : ¬ (60 : Int) < (s[a].toNat : Int) := by omega
      have hlen' : ¬ (s.size : Int) < (a : Int) + 1 + (s[a].toNat : Int) := by omega
      go_enter Tryz.func118, Tryz.ntmps118
      go_wp2_with fail
      go_loop [7] (fun v => ∃ k : Nat, a + 1 ≤ k ∧ k ≤ a + 1 + s[a].toNat ∧ v = .int .i64 k ∧ Hid (R = allS s (a + 1 + s[a].toNat - k) k)) (fun v => a + 1 + s[a].toNat - (intOf v).toNat)
      case atStart => exact ⟨a + 1, Nat.le_refl _, by omega, by go_num, by rw [show a + 1 + s[a].toNat - (a + 1) = s[a].toNat by omega]; exact HR⟩
      case round =>
        obtain ⟨k, hk1, hk2, rfl, hp⟩ := hrel
        by_cases hlt : k < a + 1 + s[a].toNat
        · have hks : k < s.size := by omega
          have hlt' : (k : Int) ≤ (a : Int) + (s[a].toNat : Int) := by omega
          have hbk : bAt s k = s[k].toNat := bAt_in s k hks
          have hstep : Hid (R = (inS (s[k].toNat : Int) && allS s (a + 1 + s[a].toNat - (k + 1)) (k + 1))) := by
            show _ = _; rw [hp.out, show a + 1 + s[a].toNat - k = (a + 1 + s[a].toNat - (k + 1)) + 1 by omega, allS, hbk]
          clear hbk
          cases hd : inS (s[k].toNat : Int) with
          | true =>
            have hp2 : Hid (R = allS s (a + 1 + s[a].toNat - (k + 1)) (k + 1)) := by show _ = _; rw [hstep.out, hd]; rfl
            go_wp2_with (go_at_call 133; refine (printable_any _ _).mono ?_; rintro e w' ⟨rfl, rfl⟩)
            go_round
            case rel => exact ⟨k + 1, by omega, by omega, by go_num, hp2⟩
            case measure => simp [intOf]; omega
          | false =>
            have hr : Hid (decStr s a = none) := by show _ = _; rw [HP.out, hstep.out, hd]; rfl
            clear hstep HP
            go_wp2_with (go_at_call 133; refine (printable_any _ _).mono ?_; rintro e w' ⟨rfl, rfl⟩)
            go_ret2
            rw [hr.out]
            exact ⟨rfl, rfl⟩
        · have hlt' : ¬ (k : Int) ≤ (a : Int) + (s[a].toNat : Int) := by omega
          have hRt : R = true := by rw [hp.out, show a + 1 + s[a].toNat - k = 0 by omega]; rfl
          have hr : Hid (decStr s a = some (quo ++ s.extract (a + 1) (a + 1 + s[a].toNat) ++ quo, a + 1 + s[a].toNat)) := by show _ = _; rw [HP.out, if_pos hRt]
          have hsx := size_extract s (a + 1) (a + 1 + s[a].toNat) (by omega) (by omega)
          have hq1 : (⟨#[34]⟩ : ByteArray).size = 1 := rfl
          have hsy : ((⟨#[34]⟩ : ByteArray) ++ s.extract (a + 1) (a + 1 + s[a].toNat)).size = 1 + s[a].toNat := by rw [ByteArray.size_append, hq1, hsx]; omega
          have i1 : (0 : Int) ≤ (a : Int) + 1 := by omega
          have i2 : (a : Int) + 1 ≤ (a : Int) + 1 + (s[a].toNat : Int) := by omega
          have i3 : (a : Int) + 1 + (s[a].toNat : Int) ≤ (s.size : Int) := by omega
          clear HP hRt hp
          go_wp2_with fail
          go_ret2
          rw [hr.out]
          refine ⟨ret2 (v_str ?_) (v_int ?_), rfl⟩
          · rfl
          · omega
end
section
set_option maxRecDepth 4000
open Go.RowKit

set_option maxHeartbeats 1000000 in
theorem tellList_any {n : Nat} {s t : ByteArray} (IH : TellOK n s t) (ht : t.size ≤ 4096) (hn : n ≤ 100) (i j : Nat) (w : World) {ty : Ty} {k0 : Nat} (hp : pType true s n i = some (ty, k0)) (hi : s.size ≤ i + n) (hj : j < t.size) :
    Calls Tryz.prog 119 #[.string s, .int .i64 i, .string t, .int .i64 j] w fun e w' => e = .returned (layRet (decList (dec t n ty) t j)) ∧ Below w.heap.size w w' := by
  have _hs : t.size ≤ 9000000 := by omega
  obtain ⟨L, hL⟩ : ∃ L, L = t[j].toNat := ⟨_, rfl⟩
  have hL256 : t[j].toNat < 256 := t[j].toNat_lt
  have hb : bAt t j = (L : Int) := by rw [hL]; exact bAt_in t j hj
  have hP : decList (dec t n ty) t j = if 16 < L then none else decItems (dec t n ty) L 0 (j + 1) ⟨#[91]⟩ := by
    unfold decList; rw [hb]; simp only [Int.toNat_natCast]
    by_cases h : 16 < L
    · rw [if_pos (by omega), if_pos h]
    · rw [if_neg (by omega), if_neg h]
  by_cases h16 : 16 < L
  · have hr : Hid (decList (dec t n ty) t j = none) := by show _ = _; rw [hP, if_pos h16]
    rw [hL] at h16
    clear hP hb hp
    go_enter Tryz.func119, Tryz.ntmps119
    go_wp2_with fail
    go_ret2
    rw [hr.out]
    exact ⟨rfl, Below.refl _ _⟩
  · rw [if_neg h16] at hP
    obtain ⟨R, hR⟩ : ∃ R, R = decItems (dec t n ty) L 0 (j + 1) ⟨#[91]⟩ := ⟨_, rfl⟩
    rw [hP, ← hR]
    have HR : Hid (R = decItems (dec t n ty) L 0 (j + 1) ⟨#[91]⟩) := hR
    clear hP hR hb
    subst hL
    have h16' : ¬ (16 : Int) < (t[j].toNat : Int) := by omega
    go_enter Tryz.func119, Tryz.ntmps119
    go_wp2_with fail
    go_loopw [11, 12, 13] (fun vd vb vc wr => ∃ (m c b : Nat) (d : ByteArray), c + m = t[j].toNat ∧ j + 1 ≤ b ∧ b ≤ t.size ∧ vc = .int .i64 c ∧ vb = .int .i64 b ∧ vd = .string d ∧ Hid (R = decItems (dec t n ty) m c b d) ∧ Hid (d.size ≤ (4 * n + 21) * (b - j)) ∧ Below w.heap.size w wr) (fun _ _ c _ => 17 - (intOf c).toNat)
    case atStart => exact ⟨t[j].toNat, 0, j + 1, ⟨#[91]⟩, by omega, Nat.le_refl _, hj, rfl, by go_num, rfl, HR, (by show (1 : Nat) ≤ _; rw [show j + 1 - j = 1 by omega]; omega), Below.refl _ _⟩
    case round =>
      obtain ⟨m, c, b, d, hcm, hjb, hbt, rfl, rfl, rfl, hR, hd, hb⟩ := hrel
      have hs2 := text_sm hd.out (by omega) hn (by omega)
      have one1 : (⟨#[93]⟩ : ByteArray).size = 1 := rfl
      have one2 : (⟨#[44]⟩ : ByteArray).size = 1 := rfl
      cases m with
      | zero =>
        have hcL : ¬ (c : Int) < (t[j].toNat : Int) := by omega
        have hr' : Hid (R = some (d ++ ⟨#[93]⟩, b)) := hR
        go_wp2_with fail
        go_ret2
        rw [hr'.out]
        exact ⟨rfl, hb⟩
      | succ m =>
        have hcL : (c : Int) < (t[j].toNat : Int) := by omega
        have hsz : (d ++ ⟨#[44]⟩).size = d.size + 1 := by rw [ByteArray.size_append, one2]
        by_cases hc0 : c = 0
        · subst hc0
          cases hx : dec t n ty b with
          | none =>
            have hr' : Hid (R = none) := by show _ = _; rw [hR.out, decItems, hx]
            have hcall := fun w => IH.no w hp hi hbt hx
            clear hx hp
            go_wp2_with (go_at_call 97; refine (hcall _).mono ?_; rintro e w' ⟨rfl, hbw⟩)
            go_ret2
            rw [hr'.out]
            exact ⟨rfl, hb.trans (hbw.mono hb.size)⟩
          | some p =>
            obtain ⟨x, k⟩ := p
            obtain ⟨hb1, hb2, hb3⟩ := dec_bd hx
            have hs1 := text_sm hb3 (by omega) hn (by omega)
            have hr' : Hid (R = decItems (dec t n ty) m (0 + 1) k (d ++ x)) := by show _ = _; rw [hR.out, decItems, hx]; rfl
            have HS : Hid ((d ++ x).size ≤ (4 * n + 21) * (k - j)) := by
              show _ ≤ _
              rw [ByteArray.size_append]
              have h1 := mul_sub_add (C := 4 * n + 21) (show j ≤ b by omega) (show b ≤ k by omega)
              have h2 : (4 * n + 21) * (k - b) = (4 * n + 20) * (k - b) + (k - b) := by rw [show 4 * n + 21 = (4 * n + 20) + 1 by omega, Nat.add_mul, Nat.one_mul]
              have := hd.out
              omega
            have hcall := fun w => IH.yes w hp hi hbt hx
            clear hx hp hb3
            go_wp2_with (go_at_call 97; refine (hcall _).mono ?_; rintro e w' ⟨rfl, hbw⟩)
            go_roundw
            case rel => exact ⟨m, 0 + 1, k, d ++ x, by omega, by omega, by omega, by go_num, rfl, rfl, hr', HS, hb.trans (hbw.mono hb.size)⟩
            case measure => simp [intOf]
        · have hc0' : (0 : Int) < (c : Int) := by omega
          cases hx : dec t n ty b with
          | none =>
            have hr' : Hid (R = none) := by show _ = _; rw [hR.out, decItems, hx]
            have hcall := fun w => IH.no w hp hi hbt hx
            clear hx hp
            go_wp2_with (go_at_call 97; refine (hcall _).mono ?_; rintro e w' ⟨rfl, hbw⟩)
            go_ret2
            rw [hr'.out]
            exact ⟨rfl, hb.trans (hbw.mono hb.size)⟩
          | some p =>
            obtain ⟨x, k⟩ := p
            obtain ⟨hb1, hb2, hb3⟩ := dec_bd hx
            have hs1 := text_sm hb3 (by omega) hn (by omega)
            have hr' : Hid (R = decItems (dec t n ty) m (c + 1) k (d ++ ⟨#[44]⟩ ++ x)) := by show _ = _; rw [hR.out, decItems, hx]; simp only [if_pos (show 0 < c by omega)]
            have HS : Hid ((d ++ ⟨#[44]⟩ ++ x).size ≤ (4 * n + 21) * (k - j)) := by
              show _ ≤ _
              rw [ByteArray.size_append, hsz]
              have h1 := mul_sub_add (C := 4 * n + 21) (show j ≤ b by omega) (show b ≤ k by omega)
              have h2 : (4 * n + 21) * (k - b) = (4 * n + 20) * (k - b) + (k - b) := by rw [show 4 * n + 21 = (4 * n + 20) + 1 by omega, Nat.add_mul, Nat.one_mul]
              have := hd.out
              omega
            have hcall := fun w => IH.yes w hp hi hbt hx
            clear hx hp hb3
            go_wp2_with (go_at_call 97; refine (hcall _).mono ?_; rintro e w' ⟨rfl, hbw⟩)
            go_roundw
            case rel => exact ⟨m, c + 1, k, d ++ ⟨#[44]⟩ ++ x, by omega, by omega, by omega, by go_num, rfl, rfl, hr', HS, hb.trans (hbw.mono hb.size)⟩
            case measure => simp [intOf]; omega

/-- As the reference writes the fields of a record: a comma ahead of each. -/
theorem decFlds_mark {f : Ty → Nat → Option (ByteArray × Nat)} : ∀ (fs : List (Nat × Ty × ByteArray)) (mk : ByteArray) (fr : Nat) (t u : ByteArray), fs ≠ [] →
    decFlds f fs mk fr (u ++ t) = (decFlds f fs mk fr t).map (fun p => (u ++ p.1, p.2))
  | [], _, _, _, _, h => absurd rfl h
  | g :: fs, mk, fr, t, u, _ => by
    simp only [decFlds]
    cases hx : f g.2.1 fr with
    | none => rfl
    | some p =>
      obtain ⟨x, nx⟩ := p
      simp only
      by_cases hfs : fs = []
      · subst hfs
        simp only [decFlds, Option.map_some, ByteArray.append_assoc]
      · rw [ByteArray.append_assoc, decFlds_mark fs _ nx _ u hfs]
end
section
set_option maxRecDepth 4000
open Go.RowKit

def tellF (f : Ty → Nat → Option (ByteArray × Nat)) : List (Nat × Ty × ByteArray) → Nat → ByteArray → Option (ByteArray × Nat)
  | [], fr, t => some (t, fr)
  | g :: fs, fr, t =>
    match f g.2.1 fr with
    | none => none
    | some (x, nx) => tellF f fs nx (((t ++ ⟨#[44]⟩) ++ oneB g.1) ++ ⟨#[58]⟩ ++ x)
def brace (p : ByteArray × Nat) : ByteArray × Nat := (⟨#[123]⟩ ++ p.1.extract 1 p.1.size ++ ⟨#[125]⟩, p.2)
theorem cut_one (c : UInt8) (a : ByteArray) : ((⟨#[c]⟩ : ByteArray) ++ a).extract 1 ((⟨#[c]⟩ : ByteArray) ++ a).size = a := by
  have h1 : (⟨#[c]⟩ : ByteArray).size = 1 := rfl
  rw [ByteArray.extract_append, h1, ByteArray.size_append, h1]
  have h2 : (⟨#[c]⟩ : ByteArray).extract 1 (1 + a.size) = ByteArray.empty := by
    apply ByteArray.ext; simp [ByteArray.data_extract]
  rw [h2]; simp
theorem not_isEmpty {d : ByteArray} (h : 1 ≤ d.size) : d.toList.isEmpty = false := by
  rw [ByteArray.toList_eq]
  cases hl : d.data.toList with
  | nil =>
    have h2 : d.data.size = 0 := by rw [← Array.length_toList, hl]; rfl
    have h3 : d.size = d.data.size := rfl
    omega
  | cons _ _ => rfl
theorem tellF_rest (f : Ty → Nat → Option (ByteArray × Nat)) : ∀ (fs : List (Nat × Ty × ByteArray)) (fr : Nat) (a : ByteArray),
    decFlds f fs ⟨#[44]⟩ fr (⟨#[123]⟩ ++ a) = (tellF f fs fr (⟨#[44]⟩ ++ a)).map brace
  | [], fr, a => by simp only [decFlds, tellF, Option.map_some, brace, cut_one]
  | g :: fs, fr, a => by
    simp only [decFlds, tellF]
    cases hx : f g.2.1 fr with
    | none => rfl
    | some p =>
      obtain ⟨x, nx⟩ := p
      simp only
      have := tellF_rest f fs nx (a ++ (⟨#[44]⟩ ++ oneB g.1 ++ ⟨#[58]⟩ ++ x))
      simp only [ByteArray.append_assoc] at this ⊢
      exact this
theorem tellF_all (f : Ty → Nat → Option (ByteArray × Nat)) (fs : List (Nat × Ty × ByteArray)) (fr : Nat) (h : fs ≠ []) :
    decFlds f fs ⟨#[123]⟩ fr ByteArray.empty = (tellF f fs fr ByteArray.empty).map brace := by
  cases fs with
  | nil => exact absurd rfl h
  | cons g fs =>
    simp only [decFlds, tellF]
    cases hx : f g.2.1 fr with
    | none => rfl
    | some p =>
      obtain ⟨x, nx⟩ := p
      simp only
      have := tellF_rest f fs nx (oneB g.1 ++ ⟨#[58]⟩ ++ x)
      simp only [ByteArray.append_assoc, ByteArray.empty_append] at this ⊢
      exact this

set_option maxHeartbeats 2000000 in
theorem tellRecord_any {n : Nat} {s t : ByteArray} (IL : TellOK n s t) (ht : t.size ≤ 4096) (hn : n ≤ 100) (i j : Nat) {fs : List (Nat × Ty × ByteArray)} {k0 : Nat} (hne : 0 < fs.length) (hfl : fs.length ≤ 4096)
    (hF0 : ∀ w, Calls Tryz.prog 94 #[.string s, .int .i64 i] w fun e w' => GRet w.heap.size n s (some (fs, k0)) e w' ∧ Below w.heap.size w w') (w : World) (hj : j < t.size) :
    Calls Tryz.prog 120 #[.string s, .int .i64 i, .string t, .int .i64 j] w fun e w' => e = .returned (layRet (decFlds (dec t n) fs ⟨#[123]⟩ j ByteArray.empty)) ∧ Below w.heap.size w w' := by
  have _hs : t.size ≤ 9000000 := by omega
  have hF : ∀ w, Calls Tryz.prog 94 #[.string s, .int .i64 i] w fun e w' => ∃ g cap xs, e = .returned (.tuple #[.slice (some ⟨g, 0, none⟩) fs.length cap, .int .i64 k0]) ∧ w'.ownsRow w.heap.size 176 4 (.slice (some ⟨g, 0, none⟩) fs.length cap) fs.length xs ∧ RowR n s xs fs ∧ Below w.heap.size w w' := fun w => by
    refine (hF0 w).mono ?_
    rintro e w' ⟨⟨g, cap, xs, h1, h2, h3⟩, h4⟩
    exact ⟨g, cap, xs, h1, h2, h3, h4⟩
  clear hF0
  rw [tellF_all _ fs j (by intro h; rw [h] at hne; simp at hne)]
  obtain ⟨R, hR⟩ : ∃ R, R = tellF (dec t n) fs j ByteArray.empty := ⟨_, rfl⟩
  rw [← hR]
  have HR : Hid (R = tellF (dec t n) fs j ByteArray.empty) := hR
  clear hR
  go_enter Tryz.func120, Tryz.ntmps120
  go_wp2_with (go_at_call 94; refine (hF _).mono ?_; rintro e wf ⟨g, cap, xs, rfl, hown, hrow, hbf0⟩)
  go_loopw [12, 13, 14] (fun vd vb vi wr => ∃ (x b : Nat) (d : ByteArray), x ≤ fs.length ∧ j ≤ b ∧ b ≤ t.size ∧ vi = .int .i64 x ∧ vb = .int .i64 b ∧ vd = .string d ∧ Hid (R = tellF (dec t n) (fs.drop x) b d) ∧ Hid (d.size ≤ (4 * n + 23) * (b - j)) ∧ x ≤ d.size ∧ Below wf.heap.size wf wr) (fun _ _ x _ => fs.length - (intOf x).toNat)
  case atStart => exact ⟨0, j, ByteArray.empty, Nat.zero_le _, Nat.le_refl _, by omega, rfl, rfl, rfl, HR, Nat.zero_le _, Nat.zero_le _, Below.refl _ _⟩
  case round =>
    obtain ⟨x, b, d, hx0, hjb, hbt, rfl, rfl, rfl, hR, hd, hxd, hb⟩ := hrel
    have hds := text_sm hd.out (by omega) hn (by omega)
    by_cases hlt : x < fs.length
    · obtain ⟨f, hf⟩ : ∃ f, fs[x]? = some f := ⟨fs[x], List.getElem?_eq_getElem hlt⟩
      have hdrop : fs.drop x = f :: fs.drop (x + 1) := by
        rw [List.drop_eq_getElem_cons hlt]; rw [List.getElem?_eq_getElem hlt] at hf; simp at hf; rw [hf]
      obtain ⟨p, kp, hp, hpn, h256, c0, c1, c2, c3⟩ := hrow.2 x f hf
      have k0 := cell_keep hb (own_cell hown c0)
      have k1 := cell_keep hb (own_cell hown c1)
      have hg' : g < wr.heap.size := lt_of_cell k0
      clear hf c0 c1 c2 c3
      rw [hdrop, tellF] at hR
      cases hy : dec t n f.2.1 b with
      | none =>
        have hr' : Hid (R = none) := by show _ = _; rw [hR.out, hy]
        have hcall := fun w => IL.no w hp hpn hbt hy
        clear hy hR hrow hown
        go_wp2_with (go_at_call 97; refine (hcall _).mono ?_; rintro e w1 ⟨rfl, hb1⟩)
        go_ret2
        rw [hr'.out]
        exact ⟨rfl, (hbf0.trans (hb.mono hbf0.size)).trans (hb1.mono (Nat.le_trans hbf0.size hb.size))⟩
      | some q =>
        obtain ⟨y, k⟩ := q
        obtain ⟨e1, e2, e3⟩ := dec_bd hy
        have hs1 := text_sm e3 (by omega) hn (by omega)
        have one1 : (⟨#[44]⟩ : ByteArray).size = 1 := rfl
        have one2 : (⟨#[58]⟩ : ByteArray).size = 1 := rfl
        have hso : (oneB f.1).size = 1 := rfl
        have z1 : (d ++ ⟨#[44]⟩).size = d.size + 1 := by rw [ByteArray.size_append, one1]
        have z2 : (d ++ ⟨#[44]⟩ ++ oneB f.1).size = d.size + 2 := by rw [ByteArray.size_append, z1, hso]
        have z3 : (d ++ ⟨#[44]⟩ ++ oneB f.1 ++ ⟨#[58]⟩).size = d.size + 3 := by rw [ByteArray.size_append, z2, one2]
        have z4 : (d ++ ⟨#[44]⟩ ++ oneB f.1 ++ ⟨#[58]⟩ ++ y).size = d.size + 3 + y.size := by rw [ByteArray.size_append, z3]
        have hr' : Hid (R = tellF (dec t n) (fs.drop (x + 1)) k (d ++ ⟨#[44]⟩ ++ oneB f.1 ++ ⟨#[58]⟩ ++ y)) := by show _ = _; rw [hR.out, hy]
        have HS : Hid ((d ++ ⟨#[44]⟩ ++ oneB f.1 ++ ⟨#[58]⟩ ++ y).size ≤ (4 * n + 23) * (k - j)) := by
          show _ ≤ _
          rw [z4]
          have h1 := mul_sub_add (C := 4 * n + 23) (show j ≤ b by omega) (show b ≤ k by omega)
          have h2 : (4 * n + 23) * (k - b) = (4 * n + 20) * (k - b) + 3 * (k - b) := by rw [show 4 * n + 23 = (4 * n + 20) + 3 by omega, Nat.add_mul]
          have := hd.out
          omega
        have hcall := fun w => IL.yes w hp hpn hbt hy
        have hconv := fun (W : World) (b : Nat) (h : W.cell? ⟨b, 0, none⟩ = some (.int .u8 f.1)) => conv_byte W b f.1 h256 h
        clear hy hR hrow hown e3
        go_wp2_with (go_at_call 97; refine (hcall _).mono ?_; rintro e w1 ⟨rfl, hb1⟩; obtain ⟨hc1, hf1⟩ := bcell hb1)
        go_roundw
        case rel => exact ⟨x + 1, k, _, by omega, by omega, by omega, by go_num, rfl, rfl, hr', HS, by rw [z4]; omega, (hb.trans (hb1.mono hb.size)).alloc (Nat.le_trans hb.size hb1.size) _⟩
        case measure => simp [intOf]; omega
    · have hnil : fs.drop x = [] := List.drop_of_length_le (by omega)
      have hr' : Hid (R = some (d, b)) := by show _ = _; rw [hR.out, hnil, tellF]
      have hd1 : 1 ≤ d.size := by omega
      have hde := not_isEmpty hd1
      have hsx := size_extract d 1 d.size hd1 (Nat.le_refl _)
      clear hR hnil
      go_wp2_with fail
      go_ret2
      rw [hr'.out]
      exact ⟨rfl, hbf0.trans (hb.mono hbf0.size)⟩
end
end Go.Proofs.YtkkekopomiehlaaGreat
