import Derived.Test.YtkkekopomiehlaaDoorRef9
import Derived.Test.YtkkekopomiehlaaDoorDec7
import Derived.Test.YtkkekopomiehlaaDoorDec13
import Derived.Test.YtkkekopomiehlaaDoorMRd1
import Derived.Test.YtkkekopomiehlaaDoorTy2
import Derived.Test.YtkkekopomiehlaaDoorParse4
import Derived.Test.YtkkekopomiehlaaDoorDec11
import Derived.Test.YtkkekopomiehlaaDoorParse3
import Derived.Test.YtkkekopomiehlaaDoorV2
import Derived.Test.YtkkekopomiehlaaDoorProg0
import Derived.Test.YtkkekopomiehlaaDoorEq4
import Derived.Test.YtkkekopomiehlaaDoorProg1
set_option linter.unusedVariables false
set_option linter.unusedSimpArgs false
namespace Go.Proofs.YtkkekopomiehlaaDoor
section
set_option maxRecDepth 4000
open Go.RowKit

theorem decOut_st (s t : ByteArray) : decOut true s t = decOut false s t := by
  unfold decOut; rw [pAll_st]
theorem pAll_some {st : Bool} {s : ByteArray} {ty : Ty} (hx : pAll st s = some ty) : pType st s s.size 0 = some (ty, s.size) := by
  unfold pAll at hx
  rcases hq : pType st s s.size 0 with _ | ⟨ty', k⟩
  · rw [hq] at hx; cases hx
  · rw [hq] at hx; simp only at hx
    split at hx
    · rename_i h; cases hx; rw [h]
    · cases hx

set_option maxHeartbeats 1000000 in
theorem rDecode_any (s t : ByteArray) (hs : s.size ≤ maxLen) (ht : t.size ≤ maxLen) (w : World) :
    Calls Tryd.prog 10 #[.string s, .string t] w fun e w' => e = .returned (.tuple #[.string (decOut true s t).1, .int .i64 (decOut true s t).2]) ∧ Below w.heap.size w w' := by
  have hck := fun w => rCheck_any s hs w
  by_cases h1 : 60 < s.size
  · have hr : Hid (decOut true s t = (ByteArray.empty, 1)) := by show _ = _; unfold decOut; rw [if_pos (.inl h1)]
    rw [show chk true s = 1 by unfold chk; rw [if_pos h1]] at hck
    clear hs ht
    go_enter Tryd.func10, Tryd.ntmps10
    go_wp2_with (go_at_call 22; refine (hck _).mono ?_; rintro e w1 ⟨rfl, hb1⟩)
    go_ret2
    rw [hr.out]
    exact ⟨rfl, hb1⟩
  · cases hx : pAll true s with
    | none =>
      rw [show chk true s = 2 by unfold chk; rw [if_neg h1, hx]; rfl] at hck
      by_cases h2 : 64 < t.size
      · have hr : Hid (decOut true s t = (ByteArray.empty, 1)) := by show _ = _; unfold decOut; rw [if_pos (.inr h2)]
        unfold maxLen at hs ht
        clear hx
        go_enter Tryd.func10, Tryd.ntmps10
        go_wp2_with (go_at_call 22; refine (hck _).mono ?_; rintro e w1 ⟨rfl, hb1⟩)
        go_ret2
        rw [hr.out]
        exact ⟨rfl, hb1⟩
      · have hr : Hid (decOut true s t = (ByteArray.empty, 2)) := by show _ = _; unfold decOut; rw [if_neg (by omega), hx]
        clear hx hs ht
        go_enter Tryd.func10, Tryd.ntmps10
        go_wp2_with (go_at_call 22; refine (hck _).mono ?_; rintro e w1 ⟨rfl, hb1⟩)
        go_ret2
        rw [hr.out]
        exact ⟨rfl, hb1⟩
    | some ty =>
      rw [show chk true s = 0 by unfold chk; rw [if_neg h1, hx]; rfl] at hck
      by_cases h2 : 64 < t.size
      · have hr : Hid (decOut true s t = (ByteArray.empty, 1)) := by show _ = _; unfold decOut; rw [if_pos (.inr h2)]
        unfold maxLen at hs ht
        clear hx
        go_enter Tryd.func10, Tryd.ntmps10
        go_wp2_with (go_at_call 22; refine (hck _).mono ?_; rintro e w1 ⟨rfl, hb1⟩)
        go_ret2
        rw [hr.out]
        exact ⟨rfl, hb1⟩
      · have IL := tell_all (s := s) (t := t) (by omega) (by omega) s.size (by omega)
        have hp := pAll_some hx
        have hOut : decOut true s t = (match decAll t s.size ty with | none => (ByteArray.empty, 5) | some t => (t, 0)) := by unfold decOut; rw [if_neg (by omega), hx]; simp only; rcases decAll t s.size ty with _ | d <;> rfl
        clear hx hs ht
        cases hy : dec t s.size ty 0 with
        | none =>
          have hr : Hid (decOut true s t = (ByteArray.empty, 5)) := by show _ = _; rw [hOut]; unfold decAll; rw [hy]
          have hcall := fun w => IL.no w hp (by omega) (Nat.zero_le _) hy
          have hne : ((-1 : Int) != (t.size : Int)) = true := by rw [bne_iff_ne]; omega
          clear hOut hp hy IL
          go_enter Tryd.func10, Tryd.ntmps10
          go_wp2_with (first | (go_at_call 22; refine (hck _).mono ?_; rintro e w1 ⟨rfl, hb1⟩) | (go_at_call 23; refine (hcall _).mono ?_; rintro e w2 ⟨rfl, hb2⟩))
          go_ret2
          rw [hr.out]
          exact ⟨rfl, hb1.trans (hb2.mono hb1.size)⟩
        | some q =>
          obtain ⟨d, k⟩ := q
          have hcall := fun w => IL.yes w hp (by omega) (Nat.zero_le _) hy
          by_cases hk : k = t.size
          · have hne : ((k : Int) != (t.size : Int)) = false := by simp; omega
            have hr : Hid (decOut true s t = (d, 0)) := by show _ = _; rw [hOut]; unfold decAll; rw [hy]; simp only [if_pos hk]
            clear hOut hp hy IL hk
            go_enter Tryd.func10, Tryd.ntmps10
            go_wp2_with (first | (go_at_call 22; refine (hck _).mono ?_; rintro e w1 ⟨rfl, hb1⟩) | (go_at_call 23; refine (hcall _).mono ?_; rintro e w2 ⟨rfl, hb2⟩))
            go_ret2
            rw [hr.out]
            exact ⟨rfl, hb1.trans (hb2.mono hb1.size)⟩
          · have hne : ((k : Int) != (t.size : Int)) = true := by simp; omega
            have hr : Hid (decOut true s t = (ByteArray.empty, 5)) := by show _ = _; rw [hOut]; unfold decAll; rw [hy]; simp only [if_neg hk]
            clear hOut hp hy IL hk
            go_enter Tryd.func10, Tryd.ntmps10
            go_wp2_with (first | (go_at_call 22; refine (hck _).mono ?_; rintro e w1 ⟨rfl, hb1⟩) | (go_at_call 23; refine (hcall _).mono ?_; rintro e w2 ⟨rfl, hb2⟩))
            go_ret2
            rw [hr.out]
            exact ⟨rfl, hb1.trans (hb2.mono hb1.size)⟩
end
section
set_option maxRecDepth 4000
open Go.RowKit

set_option maxHeartbeats 1000000 in
theorem Read_data (s t d : ByteArray) (hd : 64 < d.size) (hm : d.size ≤ maxLen) (w : World) :
    Calls Tryd.prog 15 #[.string s, .string t, .string d] w fun e w' => e = .returned (.tuple #[.string ByteArray.empty, .int .i64 1]) ∧ Below w.heap.size w w' := by
  unfold maxLen at hm
  go_enter Tryd.func15, Tryd.ntmps15
  go_wp2_with fail
  go_ret2
  exact ⟨rfl, Below.refl _ _⟩

set_option maxHeartbeats 1000000 in
/-- The way where the schemas have an error. -/
theorem Read_err (s t d : ByteArray) (hd : d.size ≤ 64) (w : World) (n : Int) (hn : (n != 0) = true)
    (hcall : ∀ w, Calls Tryd.prog 26 #[.string s, .string t] w fun e w' => e = .returned (.tuple #[.agg #[.int .i64 0, .string ByteArray.empty, .bool false, .slice none 0 0, .slice none 0 0], .agg #[.int .i64 0, .string ByteArray.empty, .bool false, .slice none 0 0, .slice none 0 0], .int .i64 n]) ∧ Below w.heap.size w w') :
    Calls Tryd.prog 15 #[.string s, .string t, .string d] w fun e w' => e = .returned (.tuple #[.string ByteArray.empty, .int .i64 n]) ∧ Below w.heap.size w w' := by
  go_enter Tryd.func15, Tryd.ntmps15
  go_wp2_with (go_at_call 26; refine (hcall _).mono ?_; rintro e w1 ⟨rfl, hb1⟩)
  go_ret2
  exact ⟨rfl, Below.alloc' (Below.alloc' hb1 _) _⟩


set_option maxHeartbeats 1000000 in
/-- The way where the data are no value's. -/
theorem Read_no (s t d : ByteArray) (hd : d.size ≤ 64) (w : World) (x r : Ty) (n m : Nat)
    (hcall : ∀ w, Calls Tryd.prog 26 #[.string s, .string t] w fun e w' => ∃ ai li ci af lf cf bi mi di bf mf df, e = .returned (.tuple #[.agg #[.int .i64 x.kind, .string x.letters, .bool x.op, .slice ai li ci, .slice af lf cf], .agg #[.int .i64 r.kind, .string r.letters, .bool r.op, .slice bi mi di, .slice bf mf df], .int .i64 0]) ∧
      RepB (fun b => w.heap.size ≤ b) n w' ai li ci af lf cf x ∧ RepB (fun b => w.heap.size ≤ b) m w' bi mi di bf mf df r ∧ Below w.heap.size w w')
    (hdec : ∀ (W : World) (ai af : Option Addr) (li ci lf cf : Nat), Below w.heap.size w W → Rep n W ai li ci af lf cf x → Calls Tryd.prog 21 #[.agg #[.int .i64 x.kind, .string x.letters, .bool x.op, .slice ai li ci, .slice af lf cf], .string d] W fun e w' => e = .returned (.tuple #[.string ByteArray.empty, .bool false]) ∧ Below W.heap.size W w') :
    Calls Tryd.prog 15 #[.string s, .string t, .string d] w fun e w' => e = .returned (.tuple #[.string ByteArray.empty, .int .i64 5]) ∧ Below w.heap.size w w' := by
  go_enter Tryd.func15, Tryd.ntmps15
  go_wp2_with (first | (go_at_call 26; refine (hcall _).mono ?_; rintro e w1 ⟨ai, li, ci, af, lf, cf, bi, mi, di, bf, mf, df, rfl, hr1, hr2, hb1⟩) | (go_at_call 21; refine (hdec _ _ _ _ _ _ _ (Below.alloc' (Below.alloc' hb1 _) _) (hr1.rep.keep (BB w1 _ _))).mono ?_; rintro e w2 ⟨rfl, hb2⟩))
  go_ret2
  exact ⟨rfl, (Below.alloc' (Below.alloc' hb1 _) _).thn hb2⟩

set_option maxHeartbeats 1000000 in
theorem Read_fail (s t d T y : ByteArray) (hd : d.size ≤ 64) (w : World) (x r : Ty) (n m : Nat)
    (hcall : ∀ w, Calls Tryd.prog 26 #[.string s, .string t] w fun e w' => ∃ ai li ci af lf cf bi mi di bf mf df, e = .returned (.tuple #[.agg #[.int .i64 x.kind, .string x.letters, .bool x.op, .slice ai li ci, .slice af lf cf], .agg #[.int .i64 r.kind, .string r.letters, .bool r.op, .slice bi mi di, .slice bf mf df], .int .i64 0]) ∧
      RepB (fun b => w.heap.size ≤ b) n w' ai li ci af lf cf x ∧ RepB (fun b => w.heap.size ≤ b) m w' bi mi di bf mf df r ∧ Below w.heap.size w w')
    (hdec : ∀ (W : World) (ai af : Option Addr) (li ci lf cf : Nat), Below w.heap.size w W → Rep n W ai li ci af lf cf x → Calls Tryd.prog 21 #[.agg #[.int .i64 x.kind, .string x.letters, .bool x.op, .slice ai li ci, .slice af lf cf], .string d] W fun e w' => e = .returned (.tuple #[.string T, .bool true]) ∧ Below W.heap.size W w')
    (hrd : ∀ (W : World) (ai af : Option Addr) (li ci lf cf : Nat) (bi bf : Option Addr) (mi di mf df : Nat), Below w.heap.size w W → Rep n W ai li ci af lf cf x → Rep m W bi mi di bf mf df r → Calls Tryd.prog 27 #[.agg #[.int .i64 x.kind, .string x.letters, .bool x.op, .slice ai li ci, .slice af lf cf], .agg #[.int .i64 r.kind, .string r.letters, .bool r.op, .slice bi mi di, .slice bf mf df], .string d] W fun e w' => e = .returned (.tuple #[.string y, .bool false]) ∧ Below W.heap.size W w') :
    Calls Tryd.prog 15 #[.string s, .string t, .string d] w fun e w' => e = .returned (.tuple #[.string ByteArray.empty, .int .i64 6]) ∧ Below w.heap.size w w' := by
  go_enter Tryd.func15, Tryd.ntmps15
  go_wp2_with (first | (go_at_call 26; refine (hcall _).mono ?_; rintro e w1 ⟨ai, li, ci, af, lf, cf, bi, mi, di, bf, mf, df, rfl, hr1, hr2, hb1⟩) | (go_at_call 21; refine (hdec _ _ _ _ _ _ _ (Below.alloc' (Below.alloc' hb1 _) _) (hr1.rep.keep (BB w1 _ _))).mono ?_; rintro e w2 ⟨rfl, hb2⟩; have e2 := keep10 hb2 (boxes2 w1 x r ai li ci af lf cf bi mi di bf mf df)) | (go_at_call 27; refine (hrd _ _ _ _ _ _ _ _ _ _ _ _ _ ((Below.alloc' (Below.alloc' hb1 _) _).thn hb2) (hr1.rep.keep ((BB w1 _ _).thn hb2)) (hr2.rep.keep ((BB w1 _ _).thn hb2))).mono ?_; rintro e w3 ⟨rfl, hb3⟩))
  go_ret2
  exact ⟨rfl, ((Below.alloc' (Below.alloc' hb1 _) _).thn hb2).thn hb3⟩

set_option maxHeartbeats 1000000 in
theorem Read_done (s t d T y : ByteArray) (hd : d.size ≤ 64) (w : World) (x r : Ty) (n m : Nat)
    (hcall : ∀ w, Calls Tryd.prog 26 #[.string s, .string t] w fun e w' => ∃ ai li ci af lf cf bi mi di bf mf df, e = .returned (.tuple #[.agg #[.int .i64 x.kind, .string x.letters, .bool x.op, .slice ai li ci, .slice af lf cf], .agg #[.int .i64 r.kind, .string r.letters, .bool r.op, .slice bi mi di, .slice bf mf df], .int .i64 0]) ∧
      RepB (fun b => w.heap.size ≤ b) n w' ai li ci af lf cf x ∧ RepB (fun b => w.heap.size ≤ b) m w' bi mi di bf mf df r ∧ Below w.heap.size w w')
    (hdec : ∀ (W : World) (ai af : Option Addr) (li ci lf cf : Nat), Below w.heap.size w W → Rep n W ai li ci af lf cf x → Calls Tryd.prog 21 #[.agg #[.int .i64 x.kind, .string x.letters, .bool x.op, .slice ai li ci, .slice af lf cf], .string d] W fun e w' => e = .returned (.tuple #[.string T, .bool true]) ∧ Below W.heap.size W w')
    (hrd : ∀ (W : World) (ai af : Option Addr) (li ci lf cf : Nat) (bi bf : Option Addr) (mi di mf df : Nat), Below w.heap.size w W → Rep n W ai li ci af lf cf x → Rep m W bi mi di bf mf df r → Calls Tryd.prog 27 #[.agg #[.int .i64 x.kind, .string x.letters, .bool x.op, .slice ai li ci, .slice af lf cf], .agg #[.int .i64 r.kind, .string r.letters, .bool r.op, .slice bi mi di, .slice bf mf df], .string d] W fun e w' => e = .returned (.tuple #[.string y, .bool true]) ∧ Below W.heap.size W w') :
    Calls Tryd.prog 15 #[.string s, .string t, .string d] w fun e w' => e = .returned (.tuple #[.string y, .int .i64 0]) ∧ Below w.heap.size w w' := by
  go_enter Tryd.func15, Tryd.ntmps15
  go_wp2_with (first | (go_at_call 26; refine (hcall _).mono ?_; rintro e w1 ⟨ai, li, ci, af, lf, cf, bi, mi, di, bf, mf, df, rfl, hr1, hr2, hb1⟩) | (go_at_call 21; refine (hdec _ _ _ _ _ _ _ (Below.alloc' (Below.alloc' hb1 _) _) (hr1.rep.keep (BB w1 _ _))).mono ?_; rintro e w2 ⟨rfl, hb2⟩; have e2 := keep10 hb2 (boxes2 w1 x r ai li ci af lf cf bi mi di bf mf df)) | (go_at_call 27; refine (hrd _ _ _ _ _ _ _ _ _ _ _ _ _ ((Below.alloc' (Below.alloc' hb1 _) _).thn hb2) (hr1.rep.keep ((BB w1 _ _).thn hb2)) (hr2.rep.keep ((BB w1 _ _).thn hb2))).mono ?_; rintro e w3 ⟨rfl, hb3⟩))
  go_ret2
  exact ⟨rfl, ((Below.alloc' (Below.alloc' hb1 _) _).thn hb2).thn hb3⟩

/-- What 'Read' answers of a value: by 'rdT'. -/
def rdOut : Option ByteArray → ByteArray × Int
  | none => (ByteArray.empty, 6)
  | some t => (t, 0)
/-- What 'Read' answers: 'a' is said of the answer. -/
def ReadIs (s t d : ByteArray) (a : ByteArray × Int) : Prop :=
  if 60 < s.size ∨ 60 < t.size ∨ 64 < d.size then a = (ByteArray.empty, 1)
  else match pAll false s, pAll false t with
    | some x, some r =>
      (match decAll d s.size x with
        | none => a = (ByteArray.empty, 5)
        | some _ => ∃ v, okV s.size x v ∧ d = datV s.size v ∧ a = rdOut (rdT (s.size + t.size) x r v))
    | _, _ => a = (ByteArray.empty, 2)
theorem decAll_un {d : ByteArray} {n : Nat} {x : Ty} {T : ByteArray} (h : decAll d n x = some T) : ∃ v, okV n x v ∧ d = datV n v ∧ T = txtV n x v := by
  unfold decAll at h
  split at h
  · cases h
  · rename_i t k hk
    split at h
    · rename_i hks
      cases h
      obtain ⟨v, h1, h2, h3, h4⟩ := dec_un n x 0 T k (Nat.zero_le _) hk
      refine ⟨v, h1, ?_, h4⟩
      have h5 := h2.ext
      rw [← h3, hks] at h5
      rw [← h5]
      exact bytes_eq (by rw [size_extract _ _ _ (Nat.zero_le _) (Nat.le_refl _)]; omega) (fun i hi => by rw [bAt_ext _ _ _ _ (by omega) (Nat.le_refl _), Nat.zero_add])
    · cases h
theorem pAll_wt {st : Bool} {s : ByteArray} {x : Ty} (h : pAll st s = some x) (hs : s.size ≤ 60) (N : Nat) : wt N x ≤ 20000 := by
  have := pType_wt st s N _ _ _ _ (pAll_some h)
  omega
/-- There is an answer of 'Read', and the program gives it. -/
theorem Read_any {Tab : World → Prop} (F : FmtOK Tab) (s t d : ByteArray) (hs : s.size ≤ maxLen) (ht : t.size ≤ maxLen) (hd : d.size ≤ maxLen) :
    ∃ a, ReadIs s t d a ∧ ∀ w, Tab w → Calls Tryd.prog 15 #[.string s, .string t, .string d] w fun e w' => e = .returned (.tuple #[.string a.1, .int .i64 a.2]) ∧ Below w.heap.size w w' := by
  unfold ReadIs
  by_cases h1 : 64 < d.size
  · exact ⟨_, by rw [if_pos (.inr (.inr h1))], fun w _ => Read_data s t d h1 hd w⟩
  by_cases h2 : 60 < s.size ∨ 60 < t.size
  · exact ⟨_, by rw [if_pos (by omega)], fun w _ => Read_err s t d (by omega) w 1 rfl (fun w => typesOf_long hs ht h2 w)⟩
  have hs60 : s.size ≤ 60 := by omega
  have ht60 : t.size ≤ 60 := by omega
  simp only [if_neg (show ¬ (60 < s.size ∨ 60 < t.size ∨ 64 < d.size) by omega)]
  cases hx : pAll false s with
  | none => exact ⟨_, rfl, fun w _ => Read_err s t d (by omega) w 2 rfl (fun w => typesOf_bad1 hs60 ht60 hx w)⟩
  | some x =>
    cases hr : pAll false t with
    | none => exact ⟨_, rfl, fun w _ => Read_err s t d (by omega) w 2 rfl (fun w => typesOf_bad2 hs60 ht60 hx hr w)⟩
    | some r =>
      have hc := fun w => typesOf_ok hs60 ht60 hx hr w
      have hdec := fun (w : World) (hT : Tab w) (W : World) (ai af : Option Addr) (li ci lf cf : Nat) (hb : Below w.heap.size w W) (h : Rep s.size W ai li ci af lf cf x) => sDecode_any F (t := d) (by omega) (show s.size ≤ 100 by omega) x W ai af li ci lf cf (F.1 _ _ hb hT) (pAll_ok hx) h
      cases hy : decAll d s.size x with
      | none =>
        rw [hy] at hdec
        exact ⟨(ByteArray.empty, 5), by simp only [hy], fun w hT => Read_no s t d (by omega) w x r _ _ hc (fun W ai af li ci lf cf hb h => hdec w hT W ai af li ci lf cf hb h)⟩
      | some T =>
        rw [hy] at hdec
        obtain ⟨v, hv1, hv2, hv3⟩ := decAll_un hy
        have hrd := fun (w : World) (hT : Tab w) (W : World) (ai af : Option Addr) (li ci lf cf : Nat) (bi bf : Option Addr) (mi di mf df : Nat) (hb : Below w.heap.size w W) (h : Rep s.size W ai li ci af lf cf x) (h' : Rep t.size W bi mi di bf mf df r) =>
          read_all F (s.size + t.size) s.size t.size x r v W ai af li ci lf cf bi bf mi di mf df (Nat.le_refl _) (by omega) (by omega) (F.1 _ _ hb hT) (pAll_ok hx) (pAll_ok hr) h h' hv1 (by rw [← hv2]; omega) (pAll_wt hr ht60 _)
        refine ⟨rdOut (rdT (s.size + t.size) x r v), by simp only [hy]; exact ⟨v, hv1, hv2, rfl⟩, fun w hT => ?_⟩
        rw [← hv2] at hrd
        cases hz : rdT (s.size + t.size) x r v with
        | none =>
          rw [hz] at hrd
          exact Read_fail s t d T _ (by omega) w x r _ _ hc (fun W ai af li ci lf cf hb h => hdec w hT W ai af li ci lf cf hb h) (fun W ai af li ci lf cf bi bf mi di mf df hb h h' => hrd w hT W ai af li ci lf cf bi bf mi di mf df hb h h')
        | some y =>
          rw [hz] at hrd
          exact Read_done s t d T y (by omega) w x r _ _ hc (fun W ai af li ci lf cf hb h => hdec w hT W ai af li ci lf cf hb h) (fun W ai af li ci lf cf bi bf mi di mf df hb h h' => hrd w hT W ai af li ci lf cf bi bf mi di mf df hb h h')
end
section
set_option maxRecDepth 4000
open Go.RowKit

/-- The kinds are such as schemas tell, all the way down; a choice has a letter. -/
def tyK : Nat → Ty → Prop
  | 0, _ => True
  | n + 1, ty => (ty.kind = 105 ∨ ty.kind = 108 ∨ ty.kind = 115 ∨ ty.kind = 60 ∨ ty.kind = 91 ∨ ty.kind = 63 ∨ ty.kind = 123) ∧ (ty.kind = 60 → 1 ≤ ty.letters.size) ∧ (ty.kind = 91 ∨ ty.kind = 63 → ty.inner ≠ [] ∧ tyK n ty.in) ∧ ∀ f ∈ ty.fields, f.1 < 256 ∧ tyK n f.2.1
/-- The least value of a type. -/
def lv : Nat → Ty → Val
  | 0, _ => .non
  | n + 1, ty => if ty.kind = 105 ∨ ty.kind = 108 then .num 0 else if ty.kind = 115 then .str ByteArray.empty else if ty.kind = 60 then .cho 0 else if ty.kind = 91 then .lst [] else if ty.kind = 63 then .non else .rcd (ty.fields.map fun f => lv n f.2.1)
/-- The text of a record with one field's text given and the others' by 'f'. -/
def rwT (f : Ty → ByteArray) (x : ByteArray) (p : Int) : List (Nat × Ty × ByteArray) → Nat → ByteArray → ByteArray → ByteArray
  | [], _, _, t => t ++ ⟨#[125]⟩
  | g :: gs, k, mk, t => rwT f x p gs (k + 1) ⟨#[44]⟩ (t ++ (((mk ++ oneB g.1) ++ ⟨#[58]⟩) ++ (if (k : Int) = p then x else f g.2.1)))
theorem rwT_eq (f : Ty → ByteArray) (tv : Ty → Val → ByteArray) (x : ByteArray) (p : Int) : ∀ (fs : List (Nat × Ty × ByteArray)) (vs : List Val) (k : Nat) (mk t : ByteArray), vs.length = fs.length →
    (∀ i g v, fs[i]? = some g → vs[i]? = some v → (if ((k + i : Nat) : Int) = p then x else f g.2.1) = tv g.2.1 v) → rwT f x p fs k mk t = fldsT ((fs.zip vs).map fun q => (q.1.1, tv q.1.2.1 q.2)) mk t
  | [], vs, k, mk, t, hl, h => by cases vs <;> rfl
  | g :: fs, [], k, mk, t, hl, h => by simp at hl
  | g :: fs, v :: vs, k, mk, t, hl, h => by
    have h0 := h 0 g v rfl rfl
    rw [Nat.add_zero] at h0
    rw [rwT, h0, rwT_eq f tv x p fs vs (k + 1) _ _ (by simpa using hl) (fun i g' v' hg hv => by have := h (i + 1) g' v' (by simpa using hg) (by simpa using hv); rw [show k + (i + 1) = k + 1 + i by omega] at this; exact this), List.zip_cons_cons, List.map_cons, fldsT]
/-- How long such a text is. -/
theorem rwT_size {f : Ty → ByteArray} {x : ByteArray} {p : Int} {c : Nat × Ty × ByteArray → Nat} : ∀ (gs : List (Nat × Ty × ByteArray)) (k : Nat) (mk t : ByteArray), mk.size = 1 → (∀ i g, gs[i]? = some g → (if ((k + i : Nat) : Int) = p then x else f g.2.1).size + 3 ≤ c g) → (rwT f x p gs k mk t).size ≤ t.size + 1 + (gs.map c).sum
  | [], k, mk, t, hm, h => by rw [rwT, ByteArray.size_append]; have : (⟨#[125]⟩ : ByteArray).size = 1 := rfl; simp; omega
  | g :: gs, k, mk, t, hm, h => by
    have h0 := h 0 g rfl
    simp only [Nat.add_zero] at h0
    have ih := rwT_size (f := f) (x := x) (p := p) (c := c) gs (k + 1) ⟨#[44]⟩ (t ++ (((mk ++ oneB g.1) ++ ⟨#[58]⟩) ++ (if (k : Int) = p then x else f g.2.1))) rfl (fun i g' hg => by have := h (i + 1) g' (by simpa using hg); rw [show k + (i + 1) = k + 1 + i by omega] at this; exact this)
    rw [rwT]
    have e1 : (⟨#[58]⟩ : ByteArray).size = 1 := rfl
    simp only [ByteArray.size_append, oneB_size, hm, e1] at ih
    simp only [List.map_cons, List.sum_cons]
    omega

def LeastOK (n : Nat) : Prop := ∀ (ty : Ty) (w : World) (ai af : Option Addr) (li ci lf cf : Nat), tyK n ty → wt n ty ≤ 20000 → Rep n w ai li ci af lf cf ty →
  Calls Tryd.prog 49 #[.agg #[.int .i64 ty.kind, .string ty.letters, .bool ty.op, .slice ai li ci, .slice af lf cf]] w fun e w' => e = .returned (.string (txtV n ty (lv n ty))) ∧ Below w.heap.size w w'
theorem lv_size : ∀ (n : Nat) (ty : Ty), (txtV n ty (lv n ty)).size ≤ wt n ty
  | 0, ty => Nat.zero_le _
  | n + 1, ty => by
    have h70 := wt_pos n ty
    rw [lv]
    split
    · rw [txtV_num]; have := decI_size 0; omega
    · split
      · rw [txtV_str]; simp only [ByteArray.size_append]; have := quo_size; have : ByteArray.empty.size = 0 := rfl; omega
      · split
        · rw [txtV_cho, oneB_size]; omega
        · split
          · rw [txtV_lst]; show (⟨#[91]⟩ ++ ⟨#[93]⟩ : ByteArray).size ≤ _; rw [ByteArray.size_append]; have : (⟨#[91]⟩ : ByteArray).size = 1 := rfl; have : (⟨#[93]⟩ : ByteArray).size = 1 := rfl; omega
          · split
            · rw [txtV_non]; have : (⟨#[95]⟩ : ByteArray).size = 1 := rfl; omega
            · rw [txtV_rcd, ← rwT_eq (fun t => txtV n t (lv n t)) (txtV n) ByteArray.empty (-1) ty.fields _ 0 _ _ (by simp) (fun i g v hg hv => by
                rw [List.getElem?_map, hg] at hv; simp at hv; rw [if_neg (by omega), ← hv])]
              have := rwT_size (f := fun t => txtV n t (lv n t)) (x := ByteArray.empty) (p := -1) (c := fun f => wt n f.2.1 + f.2.2.size + 4) ty.fields 0 ⟨#[123]⟩ ByteArray.empty rfl (fun i g hg => by
                rw [if_neg (by omega)]; have := lv_size n g.2.1; omega)
              have e : ByteArray.empty.size = 0 := rfl
              rw [wt]; omega

theorem sum_le1 {α : Type} (c : α → Nat) (K : Nat) : ∀ (l : List α) (x : α), x ∈ l → (l.map c).sum ≤ K → c x ≤ K
  | y :: l, x, h, hk => by
    simp at hk
    rcases List.mem_cons.1 h with rfl | h
    · omega
    · exact sum_le1 c K l x h (by omega)
set_option maxHeartbeats 1000000 in
theorem recordWith_any {n : Nat} (IH : LeastOK n) (fs : List (Nat × Ty × ByteArray)) (p : Int) (x : ByteArray) (w : World) (af : Option Addr) (lf cf : Nat) (hlf : lf = fs.length) (hfl : fs.length ≤ 9000000) (hx : x.size ≤ 20000) (hk : ∀ f ∈ fs, f.1 < 256 ∧ tyK n f.2.1) (hwt : (fs.map fun f => wt n f.2.1 + f.2.2.size + 4).sum ≤ 20000) (hr : RepF n w af fs) :
    Calls Tryd.prog 86 #[.slice af lf cf, .int .i64 p, .string x] w fun e w' => e = .returned (.string (rwT (fun t => txtV n t (lv n t)) x p fs 0 ⟨#[123]⟩ ByteArray.empty)) ∧ Below w.heap.size w w' := by
  subst hlf
  obtain ⟨R, hR⟩ : ∃ R, R = rwT (fun t => txtV n t (lv n t)) x p fs 0 ⟨#[123]⟩ ByteArray.empty := ⟨_, rfl⟩
  rw [← hR]
  have HR : Hid (R = rwT (fun t => txtV n t (lv n t)) x p (fs.drop 0) 0 ⟨#[123]⟩ ByteArray.empty) := hR
  clear hR
  have hfl2 : fs.length ≤ 5000 := by
    have : ∀ l : List (Nat × Ty × ByteArray), l.length * 4 ≤ (l.map fun f => wt n f.2.1 + f.2.2.size + 4).sum := fun l => by
      induction l with
      | nil => simp
      | cons a l ih => simp; omega
    have := this fs; omega
  go_enter Tryd.func86, Tryd.ntmps86
  go_wp2_with fail
  go_loopw [7, 8, 14] (fun vt vm vi wr => ∃ (i : Nat) (mk t : ByteArray), i ≤ fs.length ∧ vi = .int .i64 i ∧ vm = .string mk ∧ vt = .string t ∧ mk.size = 1 ∧ t.size ≤ 20010 * i ∧ Hid (R = rwT (fun t => txtV n t (lv n t)) x p (fs.drop i) i mk t) ∧ Below w.heap.size w wr) (fun _ _ i _ => fs.length - (intOf i).toNat)
  case atStart => exact ⟨0, ⟨#[123]⟩, ByteArray.empty, Nat.zero_le _, rfl, rfl, rfl, rfl, Nat.le_refl _, HR, Below.refl _ _⟩
  case round =>
    obtain ⟨i, mk, t, hi, rfl, rfl, rfl, hmk, hts, hR, hb⟩ := hrel
    have one1 : (⟨#[125]⟩ : ByteArray).size = 1 := rfl
    have one2 : (⟨#[58]⟩ : ByteArray).size = 1 := rfl
    have hmul : 20010 * i ≤ 20010 * 5000 := Nat.mul_le_mul_left _ (by omega)
    have hts2 : t.size ≤ 100050000 := by omega
    by_cases hlt : i < fs.length
    · obtain ⟨f, hf⟩ : ∃ f, fs[i]? = some f := ⟨fs[i], List.getElem?_eq_getElem hlt⟩
      have hdrop : fs.drop i = f :: fs.drop (i + 1) := by
        rw [List.drop_eq_getElem_cons hlt]; rw [List.getElem?_eq_getElem hlt] at hf; simp at hf; rw [hf]
      have hmem := List.mem_of_getElem? hf
      obtain ⟨h256, hkf⟩ := hk f hmem
      have hwf : wt n f.2.1 ≤ 20000 := by
        have := sum_le1 (fun f : Nat × Ty × ByteArray => wt n f.2.1 + f.2.2.size + 4) 20000 fs f hmem hwt
        omega
      rcases hr with ⟨hr, _⟩ | ⟨g, rfl, hcells⟩
      · rw [hr] at hf; simp at hf
      · obtain ⟨p1, p2, p3, q1, q2, q3, hrep, k0, k1, k2, k3, k4, k5, k6⟩ := hcells i f hf
        have k0 := cell_keep hb k0
        have k1 := cell_keep hb k1
        have k2 := cell_keep hb k2
        have k3 := cell_keep hb k3
        have k4 := cell_keep hb k4
        have k5 := cell_keep hb k5
        have k6 := cell_keep hb k6
        have hg' : g < wr.heap.size := lt_of_cell k0
        have hBa : ∀ o, Below wr.heap.size wr (wr.alloc o) := fun o => (Below.refl _ _).alloc (Nat.le_refl _) _
        have hcall := fun o => IH f.2.1 (wr.alloc o) p1 q1 p2 p3 q2 q3 hkf hwf ((hrep.keep hb).keep (hBa o))
        have hls := lv_size n f.2.1
        have hso : (oneB f.1).size = 1 := rfl
        have hz1 : (mk ++ oneB f.1).size = 2 := by rw [ByteArray.size_append, hmk, hso]
        have hz2 : (mk ++ oneB f.1 ++ ⟨#[58]⟩).size = 3 := by rw [ByteArray.size_append, hz1, one2]
        have hmul2 : 20010 * (i + 1) = 20010 * i + 20010 := by omega
        by_cases hp : (i : Int) = p
        · have hp' : ((i : Int) != p) = false := by simp [hp]
          have hr' : Hid (R = rwT (fun t => txtV n t (lv n t)) x p (fs.drop (i + 1)) (i + 1) ⟨#[44]⟩ (t ++ (mk ++ oneB f.1 ++ ⟨#[58]⟩ ++ x))) := by show _ = _; rw [hR.out, hdrop, rwT, if_pos hp]
          have hz3 : (mk ++ oneB f.1 ++ ⟨#[58]⟩ ++ x).size = 3 + x.size := by rw [ByteArray.size_append, hz2]
          have HS : (t ++ (mk ++ oneB f.1 ++ ⟨#[58]⟩ ++ x)).size ≤ 20010 * (i + 1) := by rw [ByteArray.size_append, hz3]; omega
          clear hdrop hf hcells hp hR hrep hls hmul hmul2
          go_wp2_with (first | (go_at_call 79; refine (oneByte_any f.1 _ (by omega)).mono ?_; rintro e w3 ⟨rfl, hb3⟩))
          go_roundw
          case rel => exact ⟨i + 1, ⟨#[44]⟩, _, by omega, by go_num, rfl, rfl, rfl, HS, hr', hb.trans (((hBa _).trans (hb3.mono (by simp))).mono hb.size)⟩
          case measure => simp [intOf]; omega
        · have hp' : ((i : Int) != p) = true := by simp [hp]
          obtain ⟨Y, hY⟩ : ∃ Y, Y = txtV n f.2.1 (lv n f.2.1) := ⟨_, rfl⟩
          rw [← hY] at hcall hls
          have hr' : Hid (R = rwT (fun t => txtV n t (lv n t)) x p (fs.drop (i + 1)) (i + 1) ⟨#[44]⟩ (t ++ (mk ++ oneB f.1 ++ ⟨#[58]⟩ ++ Y))) := by show _ = _; rw [hR.out, hdrop, rwT, if_neg hp, hY]
          have hz3 : (mk ++ oneB f.1 ++ ⟨#[58]⟩ ++ Y).size = 3 + Y.size := by rw [ByteArray.size_append, hz2]
          have HS : (t ++ (mk ++ oneB f.1 ++ ⟨#[58]⟩ ++ Y)).size ≤ 20010 * (i + 1) := by rw [ByteArray.size_append, hz3]; omega
          have hYs : Y.size ≤ 20000 := by omega
          clear hdrop hf hcells hp hR hrep hY hls hmul hmul2
          go_wp2_with (first | (go_at_call 49; refine (hcall _).mono ?_; rintro e w2 ⟨rfl, hb2⟩; obtain ⟨hc2, hf2⟩ := bcell hb2) | (go_at_call 79; refine (oneByte_any f.1 _ (by omega)).mono ?_; rintro e w3 ⟨rfl, hb3⟩))
          go_roundw
          case rel => exact ⟨i + 1, ⟨#[44]⟩, _, by omega, by go_num, rfl, rfl, rfl, HS, hr', hb.trans ((((hBa _).trans (hb2.mono (by simp))).trans (hb3.mono (by have := hb2.size; simp at this; omega))).mono hb.size)⟩
          case measure => simp [intOf]; omega
    · have hnil : fs.drop i = [] := List.drop_of_length_le (by omega)
      have hr' : Hid (R = t ++ ⟨#[125]⟩) := by show _ = _; rw [hR.out, hnil, rwT]
      go_wp2_with fail
      go_ret
      exact ⟨ret_str hr'.out.symm, hb⟩
end
section
set_option maxRecDepth 4000
open Go.RowKit

theorem thn2 {w W w1 : World} (h : Below w.heap.size w W) (k : Below W.heap.size W w1) : Below w.heap.size w w1 := h.trans (k.mono h.size)
set_option maxHeartbeats 1000000 in
theorem leastRecord_walk (w : World) (af : Option Addr) (lf cf : Nat) (R : ByteArray) (h : Calls Tryd.prog 86 #[.slice af lf cf, .int .i64 (-1), .string ⟨#[]⟩] w fun e w' => e = .returned (.string R) ∧ Below w.heap.size w w') :
    Calls Tryd.prog 84 #[.slice af lf cf] w fun e w' => e = .returned (.string R) ∧ Below w.heap.size w w' := by
  go_enter Tryd.func84, Tryd.ntmps84
  go_wp2_with (first | (go_at_call 86; refine h.mono ?_; rintro e w1 ⟨rfl, hb1⟩))
  go_ret
  exact ⟨rfl, hb1⟩
theorem leastRecord_any {n : Nat} (IH : LeastOK n) (fs : List (Nat × Ty × ByteArray)) (w : World) (af : Option Addr) (lf cf : Nat) (hlf : lf = fs.length) (hfl : fs.length ≤ 9000000) (hk : ∀ f ∈ fs, f.1 < 256 ∧ tyK n f.2.1) (hwt : (fs.map fun f => wt n f.2.1 + f.2.2.size + 4).sum ≤ 20000) (hr : RepF n w af fs) :
    Calls Tryd.prog 84 #[.slice af lf cf] w fun e w' => e = .returned (.string (rwT (fun t => txtV n t (lv n t)) ⟨#[]⟩ (-1) fs 0 ⟨#[123]⟩ ByteArray.empty)) ∧ Below w.heap.size w w' :=
  leastRecord_walk w af lf cf _ (recordWith_any IH fs (-1) ⟨#[]⟩ w af lf cf hlf hfl (Nat.zero_le _) hk hwt hr)

set_option maxHeartbeats 1000000 in
theorem least_plain (ty : Ty) (w : World) (ai af : Option Addr) (li ci lf cf : Nat) (k : Nat) (x : ByteArray) (hk : ty.kind = k) (h : (k = 105 ∧ x = ⟨#[48]⟩) ∨ (k = 108 ∧ x = ⟨#[48]⟩) ∨ (k = 115 ∧ x = ⟨#[34, 34]⟩) ∨ (k = 91 ∧ x = ⟨#[91, 93]⟩) ∨ (k = 63 ∧ x = ⟨#[95]⟩)) :
    Calls Tryd.prog 49 #[.agg #[.int .i64 ty.kind, .string ty.letters, .bool ty.op, .slice ai li ci, .slice af lf cf]] w fun e w' => e = .returned (.string x) ∧ Below w.heap.size w w' := by
  have hB : ∀ o, Below w.heap.size w (w.alloc o) := fun o => (Below.refl _ _).alloc (Nat.le_refl _) _
  rw [hk]
  rcases h with ⟨rfl, rfl⟩ | ⟨rfl, rfl⟩ | ⟨rfl, rfl⟩ | ⟨rfl, rfl⟩ | ⟨rfl, rfl⟩ <;> (
    clear hk
    go_enter Tryd.func49, Tryd.ntmps49
    go_wp2_with fail
    go_ret
    exact ⟨rfl, by first | exact hB _ | exact Below.refl _ _⟩)
set_option maxHeartbeats 1000000 in
theorem least_cho (ty : Ty) (w : World) (ai af : Option Addr) (li ci lf cf : Nat) (hk : ty.kind = 60) (hl : ty.letters.size ≤ 8) :
    Calls Tryd.prog 49 #[.agg #[.int .i64 ty.kind, .string ty.letters, .bool ty.op, .slice ai li ci, .slice af lf cf]] w fun e w' => e = .returned (.string (ty.letters.extract 0 1)) ∧ Below w.heap.size w w' := by
  have hB : ∀ o, Below w.heap.size w (w.alloc o) := fun o => (Below.refl _ _).alloc (Nat.le_refl _) _
  have hfl := fun W => firstLetter_any ty ai li ci af lf cf W hl
  rw [hk] at hfl ⊢
  clear hk
  go_enter Tryd.func49, Tryd.ntmps49
  go_wp2_with (first | (go_at_call 78; refine (hfl _).mono ?_; rintro e w1 ⟨rfl, hb1⟩))
  go_ret
  exact ⟨rfl, by first | exact thn2 (hB _) hb1 | exact hb1⟩
set_option maxHeartbeats 1000000 in
theorem least_rcd (ty : Ty) (w : World) (ai af : Option Addr) (li ci lf cf : Nat) (hk : ty.kind = 123) (x : ByteArray) (h : ∀ W, Below w.heap.size w W → Calls Tryd.prog 84 #[.slice af lf cf] W fun e w' => e = .returned (.string x) ∧ Below W.heap.size W w') :
    Calls Tryd.prog 49 #[.agg #[.int .i64 ty.kind, .string ty.letters, .bool ty.op, .slice ai li ci, .slice af lf cf]] w fun e w' => e = .returned (.string x) ∧ Below w.heap.size w w' := by
  have hB : ∀ o, Below w.heap.size w (w.alloc o) := fun o => (Below.refl _ _).alloc (Nat.le_refl _) _
  rw [hk]
  clear hk
  go_enter Tryd.func49, Tryd.ntmps49
  go_wp2_with (first | (go_at_call 84; refine (h _ (by first | exact hB _ | exact Below.refl _ _)).mono ?_; rintro e w1 ⟨rfl, hb1⟩))
  go_ret
  exact ⟨rfl, by first | exact thn2 (hB _) hb1 | exact hb1⟩
theorem least_succ {n : Nat} (IH : LeastOK n) : LeastOK (n + 1) := by
  intro ty w ai af li ci lf cf hk hwt hr
  obtain ⟨hkk, hl1, _, hkf⟩ := hk
  have hl8 : ty.letters.size ≤ 8 := hr.1
  rcases hkk with h | h | h | h | h | h | h
  · rw [show lv (n + 1) ty = .num 0 by rw [lv, if_pos (.inl h)]]
    exact least_plain ty w ai af li ci lf cf _ _ h (.inl ⟨rfl, rfl⟩)
  · rw [show lv (n + 1) ty = .num 0 by rw [lv, if_pos (.inr h)]]
    exact least_plain ty w ai af li ci lf cf _ _ h (.inr (.inl ⟨rfl, rfl⟩))
  · rw [show lv (n + 1) ty = .str ByteArray.empty by rw [lv, if_neg (by omega), if_pos h]]
    exact least_plain ty w ai af li ci lf cf _ _ h (.inr (.inr (.inl ⟨rfl, by show (quo ++ ByteArray.empty ++ quo : ByteArray) = _; decide⟩)))
  · rw [show lv (n + 1) ty = .cho 0 by rw [lv, if_neg (by omega), if_neg (by omega), if_pos h], txtV_cho, ← extract_oneB ty.letters 0 (hl1 h)]
    exact least_cho ty w ai af li ci lf cf h hl8
  · rw [show lv (n + 1) ty = .lst [] by rw [lv, if_neg (by omega), if_neg (by omega), if_neg (by omega), if_pos h]]
    exact least_plain ty w ai af li ci lf cf _ _ h (.inr (.inr (.inr (.inl ⟨rfl, by show (⟨#[91]⟩ ++ ⟨#[93]⟩ : ByteArray) = _; decide⟩))))
  · rw [show lv (n + 1) ty = .non by rw [lv, if_neg (by omega), if_neg (by omega), if_neg (by omega), if_neg (by omega), if_pos h]]
    exact least_plain ty w ai af li ci lf cf _ _ h (.inr (.inr (.inr (.inr ⟨rfl, rfl⟩))))
  · rw [show lv (n + 1) ty = .rcd (ty.fields.map fun f => lv n f.2.1) by rw [lv, if_neg (by omega), if_neg (by omega), if_neg (by omega), if_neg (by omega), if_neg (by omega)], txtV_rcd, ← rwT_eq (fun t => txtV n t (lv n t)) (txtV n) ⟨#[]⟩ (-1) ty.fields _ 0 _ _ (by simp) (fun i g v hg hv => by
                rw [List.getElem?_map, hg] at hv; simp at hv; rw [if_neg (by omega), ← hv])]
    refine least_rcd ty w ai af li ci lf cf h _ (fun W hb => ?_)
    have hfl := (hr.keep hb).flds
    exact leastRecord_any IH ty.fields W af lf cf hfl.1 hfl.2.1 hkf (by rw [wt] at hwt; omega) hfl.2.2
theorem least_all : ∀ n, LeastOK n
  | 0 => fun ty w ai af li ci lf cf _ _ hr => hr.elim
  | n + 1 => least_succ (least_all n)

/-- The first letter of the writer's from k on that the reader does not take. -/
def unL (wl rl : ByteArray) (op : Bool) : Nat → Nat → Option Nat
  | 0, _ => none
  | m + 1, k => if (op || decide (0 ≤ pOf rl (bAt wl k))) = true then unL wl rl op m (k + 1) else some k
def uRetL (wl : ByteArray) : Option Nat → Value
  | some k => .tuple #[.string (oneB (bAt wl k).toNat), .bool true]
  | none => .tuple #[.string ByteArray.empty, .bool false]
set_option maxHeartbeats 1000000 in
theorem unreadableLetter_any (x r : Ty) (ai : Option Addr) (li ci : Nat) (af : Option Addr) (lf cf : Nat) (bi : Option Addr) (mi di : Nat) (bf : Option Addr) (mf df : Nat) (w : World) (hx8 : x.letters.size ≤ 8) (hr8 : r.letters.size ≤ 8) :
    Calls Tryd.prog 50 #[.agg #[.int .i64 x.kind, .string x.letters, .bool x.op, .slice ai li ci, .slice af lf cf], .agg #[.int .i64 r.kind, .string r.letters, .bool r.op, .slice bi mi di, .slice bf mf df]] w fun e w' => e = .returned (uRetL x.letters (unL x.letters r.letters r.op x.letters.size 0)) ∧ Below w.heap.size w w' := by
  have _hx : x.letters.size ≤ 9000000 := by omega
  obtain ⟨R, hR⟩ : ∃ R, R = unL x.letters r.letters r.op x.letters.size 0 := ⟨_, rfl⟩
  rw [← hR]
  have HR : Hid (R = unL x.letters r.letters r.op (x.letters.size - 0) 0) := hR
  clear hR
  go_enter Tryd.func50, Tryd.ntmps50
  go_wp2_with fail
  go_loopw [6] (fun vk wr => ∃ (k : Nat), k ≤ x.letters.size ∧ vk = .int .i64 k ∧ Hid (R = unL x.letters r.letters r.op (x.letters.size - k) k) ∧ Below (w.heap.size + 2) ((w.alloc (.cells #[.int .i64 x.kind, .string x.letters, .bool x.op, .slice ai li ci, .slice af lf cf] 38)).alloc (.cells #[.int .i64 r.kind, .string r.letters, .bool r.op, .slice bi mi di, .slice bf mf df] 38)) wr) (fun k _ => 9 - (intOf k).toNat)
  case atStart => exact ⟨0, Nat.zero_le _, rfl, HR, Below.refl _ _⟩
  case round =>
    obtain ⟨k, hk, rfl, hR, hb⟩ := hrel
    have hbB : Below ((w.alloc (.cells #[.int .i64 x.kind, .string x.letters, .bool x.op, .slice ai li ci, .slice af lf cf] 38)).alloc (.cells #[.int .i64 r.kind, .string r.letters, .bool r.op, .slice bi mi di, .slice bf mf df] 38)).heap.size ((w.alloc (.cells #[.int .i64 x.kind, .string x.letters, .bool x.op, .slice ai li ci, .slice af lf cf] 38)).alloc (.cells #[.int .i64 r.kind, .string r.letters, .bool r.op, .slice bi mi di, .slice bf mf df] 38)) wr := hb.mono (by simp)
    obtain ⟨hc, hf⟩ := bcell hbB
    have hsw : w.heap.size + 2 ≤ wr.heap.size := by have := hb.size; simpa using this
    have hbw : Below w.heap.size w wr := (((Below.refl _ _).alloc (Nat.le_refl _) _).alloc (by simp) _).trans (hb.mono (by omega))
    by_cases hlt : k < x.letters.size
    · have hlt' : (k : Int) < (x.letters.size : Int) := by omega
      have hlo : 0 ≤ bAt x.letters k := by rw [bAt_in _ _ hlt]; omega
      have hhi := bAt_hi x.letters k
      have hR2 : R = if (r.op || decide (0 ≤ pOf r.letters (bAt x.letters k))) = true then unL x.letters r.letters r.op (x.letters.size - (k + 1)) (k + 1) else some k := by
        rw [hR.out, show x.letters.size - k = (x.letters.size - (k + 1)) + 1 by omega]; rfl
      have hby := fun W => byteAt_any x.letters k W _hx
      have htk := fun W => takesLetter_any r bi mi di bf mf df (bAt x.letters k) W hr8
      obtain ⟨c, hc0⟩ : ∃ c, c = bAt x.letters k := ⟨_, rfl⟩
      rw [← hc0] at hlo hhi hR2 hby htk
      cases hT : (r.op || decide (0 ≤ pOf r.letters c)) with
      | true =>
        rw [hT] at htk
        have hr' : Hid (R = unL x.letters r.letters r.op (x.letters.size - (k + 1)) (k + 1)) := by show _ = _; rw [hR2, if_pos hT]
        clear hR2 hT hc0
        go_wp2_with (first | (go_at_call 73; refine (hby _).mono ?_; rintro e _ ⟨rfl, rfl⟩) | (go_at_call 76; refine (htk _).mono ?_; rintro e w1 ⟨rfl, hb1⟩))
        go_roundw
        case rel => exact ⟨k + 1, by omega, by go_num, hr', hb.trans (hb1.mono hsw)⟩
        case measure => simp [intOf]; omega
      | false =>
        rw [hT] at htk
        have hr' : Hid (R = some k) := by show _ = _; rw [hR2, if_neg (by rw [hT]; simp)]
        have HC : Hid (bAt x.letters k = c) := hc0.symm
        clear hR2 hT hc0
        go_wp2_with (first | (go_at_call 73; refine (hby _).mono ?_; rintro e _ ⟨rfl, rfl⟩) | (go_at_call 76; refine (htk _).mono ?_; rintro e w1 ⟨rfl, hb1⟩) | (go_at_call 79; refine (oneByte_int c _ hlo (by omega)).mono ?_; rintro e w2 ⟨rfl, hb2⟩))
        go_ret2
        rw [hr'.out]
        simp only [uRetL, HC.out]
        exact ⟨rfl, thn2 (thn2 hbw hb1) hb2⟩
    · have hr' : Hid (R = none) := by show _ = _; rw [hR.out, show x.letters.size - k = 0 by omega]; rfl
      go_wp2_with fail
      go_ret2
      rw [hr'.out]
      exact ⟨rfl, hbw⟩

/-- The least value that can't be read; none: there is none. -/
def unF (f : Ty → Ty → Option Val) (n : Nat) (wf : List (Nat × Ty × ByteArray)) : List (Nat × Ty × ByteArray) → Option Val
  | [] => none
  | g :: gs =>
    match wf.findIdx? (fun h => h.1 == g.1) with
    | none => if g.2.2.size = 0 then some (.rcd (wf.map fun f => lv n f.2.1)) else unF f n wf gs
    | some p =>
      match f ((wf.map fun h => h.2.1).getD p (plainTy 0)) g.2.1 with
      | none => unF f n wf gs
      | some u => some (.rcd ((wf.map fun f => lv n f.2.1).set p u))
def unStep (f g : Ty → Ty → Option Val) (n : Nat) (w r : Ty) : Option Val :=
  if w.kind = 63 ∧ r.kind = 63 then (f w.in r.in).map Val.som
  else if r.kind = 63 then g w r.in
  else if sameK w.kind r.kind = true then none
  else if w.kind ≠ r.kind then some (lv (n + 1) w)
  else if w.kind = 60 then (unL w.letters r.letters r.op w.letters.size 0).map Val.cho
  else if w.kind = 91 then (f w.in r.in).map fun u => .lst [u]
  else if w.kind = 123 then unF f n w.fields r.fields
  else none
def unV : Nat → Nat → Ty → Ty → Option Val
  | 0, _, _, _ => none
  | _ + 1, 0, _, _ => none
  | m + 1, n + 1, w, r => unStep (unV m n) (unV m (n + 1)) n w r
def uR : Option ByteArray → Value
  | some t => .tuple #[.string t, .bool true]
  | none => .tuple #[.string ByteArray.empty, .bool false]
end
section
set_option maxRecDepth 4000
open Go.RowKit

theorem set_txt {n : Nat} {ty : Ty} {p : Nat} {u : Val} {g : Nat × Ty × ByteArray} (hg : ty.fields[p]? = some g) : rwT (fun t => txtV n t (lv n t)) (txtV n g.2.1 u) (p : Nat) ty.fields 0 ⟨#[123]⟩ ByteArray.empty = txtV (n + 1) ty (.rcd ((ty.fields.map fun f => lv n f.2.1).set p u)) := by
  rw [txtV_rcd]
  refine rwT_eq (fun t => txtV n t (lv n t)) (txtV n) _ _ ty.fields _ 0 _ _ (by simp) (fun i g' v hg' hv => ?_)
  rw [Nat.zero_add]
  by_cases hi : i = p
  · subst hi
    rw [if_pos rfl]
    rw [hg] at hg'; cases hg'
    rw [List.getElem?_set_self (by rcases Nat.lt_or_ge i ty.fields.length with h | h; simpa using h; rw [List.getElem?_eq_none h] at hg; cases hg)] at hv
    cases hv; rfl
  · rw [if_neg (by omega)]
    rw [List.getElem?_set_ne (by omega), List.getElem?_map, hg'] at hv
    simp at hv; rw [← hv]
theorem getD_field {fs : List (Nat × Ty × ByteArray)} {p : Nat} {g : Nat × Ty × ByteArray} (h : fs[p]? = some g) : (fs.map fun h => h.2.1).getD p (plainTy 0) = g.2.1 := by
  rw [List.getD_eq_getElem?_getD, List.getElem?_map, h]; rfl
theorem unF_size {f : Ty → Ty → Option Val} {n : Nat} {ty : Ty} (hf : ∀ (g : Nat × Ty × ByteArray) r u, g ∈ ty.fields → f g.2.1 r = some u → (txtV n g.2.1 u).size ≤ wt n g.2.1) : ∀ (gs : List (Nat × Ty × ByteArray)) (u : Val), unF f n ty.fields gs = some u → (txtV (n + 1) ty u).size ≤ wt (n + 1) ty
  | [], u, h => by simp [unF] at h
  | g :: gs, u, h => by
    have h70 := wt_pos n ty
    have he : ByteArray.empty.size = 0 := rfl
    rw [unF] at h
    split at h
    · split at h
      · cases h
        rw [txtV_rcd, ← rwT_eq (fun t => txtV n t (lv n t)) (txtV n) ⟨#[]⟩ (-1) ty.fields _ 0 _ _ (by simp) (fun i g v hg hv => by
                rw [List.getElem?_map, hg] at hv; simp at hv; rw [if_neg (by omega), ← hv])]
        have := rwT_size (f := fun t => txtV n t (lv n t)) (x := ⟨#[]⟩) (p := -1) (c := fun f => wt n f.2.1 + f.2.2.size + 4) ty.fields 0 ⟨#[123]⟩ ByteArray.empty rfl (fun i g hg => by
                rw [if_neg (by omega)]; have := lv_size n g.2.1; omega)
        rw [wt]; omega
      · exact unF_size hf gs u h
    · rename_i p hp
      rw [List.findIdx?_eq_some_iff_getElem] at hp
      obtain ⟨hpl, _⟩ := hp
      obtain ⟨q, hq⟩ : ∃ q, ty.fields[p]? = some q := ⟨ty.fields[p], List.getElem?_eq_getElem hpl⟩
      rw [getD_field hq] at h
      split at h
      · exact unF_size hf gs u h
      · rename_i v hv
        cases h
        rw [← set_txt hq]
        have h1 := hf q _ v (List.mem_of_getElem? hq) hv
        have := rwT_size (f := fun t => txtV n t (lv n t)) (x := txtV n q.2.1 v) (p := (p : Nat)) (c := fun f => wt n f.2.1 + f.2.2.size + 4) ty.fields 0 ⟨#[123]⟩ ByteArray.empty rfl (fun i g hg => by
          rw [Nat.zero_add]
          by_cases hi : i = p
          · subst hi; rw [if_pos rfl]; rw [hq] at hg; cases hg; omega
          · rw [if_neg (by omega)]; have := lv_size n g.2.1; omega)
        rw [wt]; omega
theorem wtI {m : Nat} {r : Ty} (h : r.inner ≠ []) : wt m r.in + 70 ≤ wt (m + 1) r := by
  unfold Ty.in
  rcases hi : r.inner with _ | ⟨t, ts⟩
  · exact absurd hi h
  · rw [wt, hi]; simp; omega
theorem un_size : ∀ (m n : Nat) (x r : Ty) (u : Val), tyK n x → unV m n x r = some u → (txtV n x u).size ≤ wt n x
  | 0, n, x, r, u, hk, h => by simp [unV] at h
  | m + 1, 0, x, r, u, hk, h => by simp [unV] at h
  | m + 1, n + 1, x, r, u, hk, h => by
    have h70 := wt_pos n x
    change unStep (unV m n) (unV m (n + 1)) n x r = some u at h
    unfold unStep at h
    split at h
    · rename_i hc
      obtain ⟨v, hv, rfl⟩ := Option.map_eq_some_iff.1 h
      have hi := hk.2.2.1 (.inr hc.1)
      have := un_size m n x.in r.in v hi.2 hv
      have := wtI (m := n) hi.1
      rw [txtV_som]; omega
    · split at h
      · exact un_size m (n + 1) x r.in u hk h
      · split at h
        · cases h
        · split at h
          · cases h; exact lv_size (n + 1) x
          · split at h
            · obtain ⟨v, hv, rfl⟩ := Option.map_eq_some_iff.1 h
              rw [txtV_cho, oneB_size]; omega
            · split at h
              · rename_i h91
                obtain ⟨v, hv, rfl⟩ := Option.map_eq_some_iff.1 h
                have hi := hk.2.2.1 (.inl h91)
                have := un_size m n x.in r.in v hi.2 hv
                have := wtI (m := n) hi.1
                rw [txtV_lst]
                show (⟨#[91]⟩ ++ txtV n x.in v ++ ⟨#[93]⟩ : ByteArray).size ≤ _
                have e1 : (⟨#[91]⟩ : ByteArray).size = 1 := rfl
                have e2 : (⟨#[93]⟩ : ByteArray).size = 1 := rfl
                rw [ByteArray.size_append, ByteArray.size_append]; omega
              · split at h
                · exact unF_size (fun g r u hg hu => un_size m n g.2.1 r u (hk.2.2.2 g hg).2 hu) _ u h
                · cases h

/-- What is asked of 'Unreadable'. -/
def UnrOK (m : Nat) : Prop := ∀ (nw nr : Nat) (x r : Ty) (w : World) (ai af : Option Addr) (li ci lf cf : Nat) (bi bf : Option Addr) (mi di mf df : Nat), nw + nr ≤ m → tyK nw x → wt nw x ≤ 20000 → Rep nw w ai li ci af lf cf x → Rep nr w bi mi di bf mf df r →
  Calls Tryd.prog 30 #[.agg #[.int .i64 x.kind, .string x.letters, .bool x.op, .slice ai li ci, .slice af lf cf], .agg #[.int .i64 r.kind, .string r.letters, .bool r.op, .slice bi mi di, .slice bf mf df]] w fun e w' => e = .returned (uR ((unV m nw x r).map (txtV nw x))) ∧ Below w.heap.size w w'

set_option maxHeartbeats 1000000 in
theorem unreadableList_walk (x r : Ty) (w : World) (ai : Option Addr) (li ci : Nat) (af : Option Addr) (lf cf : Nat) (bi : Option Addr) (mi di : Nat) (bf : Option Addr) (mf df : Nat) (y : ByteArray) (b : Bool) (hy : y.size ≤ 20000)
    (h : ∀ W, Below w.heap.size w W → Calls Tryd.prog 30 #[.agg #[.int .i64 x.kind, .string x.letters, .bool x.op, .slice ai li ci, .slice af lf cf], .agg #[.int .i64 r.kind, .string r.letters, .bool r.op, .slice bi mi di, .slice bf mf df]] W fun e w' => e = .returned (.tuple #[.string y, .bool b]) ∧ Below W.heap.size W w') :
    Calls Tryd.prog 51 #[.agg #[.int .i64 x.kind, .string x.letters, .bool x.op, .slice ai li ci, .slice af lf cf], .agg #[.int .i64 r.kind, .string r.letters, .bool r.op, .slice bi mi di, .slice bf mf df]] w fun e w' => e = .returned (if b = true then .tuple #[.string (⟨#[91]⟩ ++ y ++ ⟨#[93]⟩), .bool true] else .tuple #[.string ByteArray.empty, .bool false]) ∧ Below w.heap.size w w' := by
  have hB : ∀ o o2, Below w.heap.size w ((w.alloc o).alloc o2) := fun o o2 => ((Below.refl _ _).alloc (Nat.le_refl _) _).alloc (by simp) _
  have e1 : (⟨#[91]⟩ : ByteArray).size = 1 := rfl
  have e2 : (⟨#[93]⟩ : ByteArray).size = 1 := rfl
  have e3 : (⟨#[91]⟩ ++ y : ByteArray).size = 1 + y.size := by rw [ByteArray.size_append, e1]
  cases b with
  | true =>
    rw [if_pos rfl]
    go_enter Tryd.func51, Tryd.ntmps51
    go_wp2_with (first | (go_at_call 30; refine (h _ (hB _ _)).mono ?_; rintro e w1 ⟨rfl, hb1⟩))
    go_ret2
    exact ⟨rfl, thn2 (hB _ _) hb1⟩
  | false =>
    rw [if_neg (by simp)]
    go_enter Tryd.func51, Tryd.ntmps51
    go_wp2_with (first | (go_at_call 30; refine (h _ (hB _ _)).mono ?_; rintro e w1 ⟨rfl, hb1⟩))
    go_ret2
    exact ⟨rfl, thn2 (hB _ _) hb1⟩

theorem plF_idx (c : Nat) (fs : List (Nat × Ty × ByteArray)) : (plF fs c = -1 ∧ fs.findIdx? (fun g => g.1 == c) = none) ∨ ∃ i f, plF fs c = (i : Nat) ∧ i < fs.length ∧ fs[i]? = some f ∧ fs.findIdx? (fun g => g.1 == c) = some i := by
  unfold plF
  cases hx : fs.findIdx? (fun g => g.1 == c) with
  | none => exact .inl ⟨rfl, rfl⟩
  | some i =>
    have := hx
    rw [List.findIdx?_eq_some_iff_getElem] at this
    exact .inr ⟨i, fs[i]'this.1, rfl, this.1, List.getElem?_eq_getElem this.1, rfl⟩
theorem isEmpty_no1 {d : ByteArray} (h : 1 ≤ d.size) : d.toList.isEmpty = false := by
  rw [ByteArray.toList_eq]
  cases hl : d.data.toList with
  | nil =>
    have h2 : d.data.size = 0 := by rw [← Array.length_toList, hl]; rfl
    have h3 : d.size = d.data.size := rfl
    omega
  | cons _ _ => rfl

theorem keep5a {W w1 : World} (hb : Below W.heap.size W w1) {b o0 o1 o2 o3 o4 : Nat} {v0 v1 v2 v3 v4 : Value} (h : W.cell? ⟨b, o0, none⟩ = some v0 ∧ W.cell? ⟨b, o1, none⟩ = some v1 ∧ W.cell? ⟨b, o2, none⟩ = some v2 ∧ W.cell? ⟨b, o3, none⟩ = some v3 ∧ W.cell? ⟨b, o4, none⟩ = some v4) :
    w1.cell? ⟨b, o0, none⟩ = some v0 ∧ w1.cell? ⟨b, o1, none⟩ = some v1 ∧ w1.cell? ⟨b, o2, none⟩ = some v2 ∧ w1.cell? ⟨b, o3, none⟩ = some v3 ∧ w1.cell? ⟨b, o4, none⟩ = some v4 := by
  obtain ⟨h0, h1, h2, h3, h4⟩ := h
  exact ⟨cell_keep hb h0, cell_keep hb h1, cell_keep hb h2, cell_keep hb h3, cell_keep hb h4⟩
theorem new5a {W : World} (o : Obj) {b o0 o1 o2 o3 o4 : Nat} {v0 v1 v2 v3 v4 : Value} (h : W.cell? ⟨b, o0, none⟩ = some v0 ∧ W.cell? ⟨b, o1, none⟩ = some v1 ∧ W.cell? ⟨b, o2, none⟩ = some v2 ∧ W.cell? ⟨b, o3, none⟩ = some v3 ∧ W.cell? ⟨b, o4, none⟩ = some v4) :
    (W.alloc o).cell? ⟨b, o0, none⟩ = some v0 ∧ (W.alloc o).cell? ⟨b, o1, none⟩ = some v1 ∧ (W.alloc o).cell? ⟨b, o2, none⟩ = some v2 ∧ (W.alloc o).cell? ⟨b, o3, none⟩ = some v3 ∧ (W.alloc o).cell? ⟨b, o4, none⟩ = some v4 := by
  obtain ⟨h0, h1, h2, h3, h4⟩ := h
  exact ⟨cell_new _ h0, cell_new _ h1, cell_new _ h2, cell_new _ h3, cell_new _ h4⟩
theorem box7 (w : World) (gf : Nat × Ty × ByteArray) (bi : Option Addr) (mi di : Nat) (bf : Option Addr) (mf df : Nat) :
    (w.alloc (.cells #[.int .i64 gf.1, .int .i64 gf.2.1.kind, .string gf.2.1.letters, .bool gf.2.1.op, .slice bi mi di, .slice bf mf df, .string gf.2.2] 87)).cell? ⟨w.heap.size, 1, none⟩ = some (.int .i64 gf.2.1.kind) ∧ (w.alloc (.cells #[.int .i64 gf.1, .int .i64 gf.2.1.kind, .string gf.2.1.letters, .bool gf.2.1.op, .slice bi mi di, .slice bf mf df, .string gf.2.2] 87)).cell? ⟨w.heap.size, 2, none⟩ = some (.string gf.2.1.letters) ∧ (w.alloc (.cells #[.int .i64 gf.1, .int .i64 gf.2.1.kind, .string gf.2.1.letters, .bool gf.2.1.op, .slice bi mi di, .slice bf mf df, .string gf.2.2] 87)).cell? ⟨w.heap.size, 3, none⟩ = some (.bool gf.2.1.op) ∧ (w.alloc (.cells #[.int .i64 gf.1, .int .i64 gf.2.1.kind, .string gf.2.1.letters, .bool gf.2.1.op, .slice bi mi di, .slice bf mf df, .string gf.2.2] 87)).cell? ⟨w.heap.size, 4, none⟩ = some (.slice bi mi di) ∧ (w.alloc (.cells #[.int .i64 gf.1, .int .i64 gf.2.1.kind, .string gf.2.1.letters, .bool gf.2.1.op, .slice bi mi di, .slice bf mf df, .string gf.2.2] 87)).cell? ⟨w.heap.size, 5, none⟩ = some (.slice bf mf df) :=
  ⟨cell_last rfl rfl, cell_last rfl rfl, cell_last rfl rfl, cell_last rfl rfl, cell_last rfl rfl⟩

set_option maxHeartbeats 2000000 in
theorem unreadableRecord_any {m : Nat} (IH : UnrOK m) (nw nr : Nat) (hm : nw + nr ≤ m) (x : Ty) (gs : List (Nat × Ty × ByteArray)) (w : World) (af bf : Option Addr) (lf cf mf df : Nat) (hlf : lf = x.fields.length) (hmf : mf = gs.length) (hfl : x.fields.length ≤ 9000000) (hgl : gs.length ≤ 9000000) (hfn : x.fields ≠ []) (hk : ∀ f ∈ x.fields, f.1 < 256 ∧ tyK nw f.2.1)
    (hwt : (x.fields.map fun f => wt nw f.2.1 + f.2.2.size + 4).sum ≤ 20000) (hr : RepF nw w af x.fields) (hrg : RepF nr w bf gs) :
    Calls Tryd.prog 52 #[.slice af lf cf, .slice bf mf df] w fun e w' => e = .returned (uR ((unF (unV m nw) nw x.fields gs).map (txtV (nw + 1) x))) ∧ Below w.heap.size w w' := by
  subst hlf hmf
  rcases hr with ⟨hr, _⟩ | ⟨g, rfl, hcells⟩
  · exact absurd hr hfn
  obtain ⟨R, hR⟩ : ∃ R, R = unF (unV m nw) nw x.fields gs := ⟨_, rfl⟩
  rw [← hR]
  have HR : Hid (R = unF (unV m nw) nw x.fields (gs.drop 0)) := hR
  clear hR
  have hrf : ∀ W, Below w.heap.size w W → RepF nw W (some ⟨g, 0, none⟩) x.fields := fun W hb => .inr ⟨g, rfl, fun i f hi => by
    obtain ⟨p1, p2, p3, q1, q2, q3, h0, k0, k1, k2, k3, k4, k5, k6⟩ := hcells i f hi
    exact ⟨p1, p2, p3, q1, q2, q3, h0.keep hb, cell_keep hb k0, cell_keep hb k1, cell_keep hb k2, cell_keep hb k3, cell_keep hb k4, cell_keep hb k5, cell_keep hb k6⟩⟩
  go_enter Tryd.func52, Tryd.ntmps52
  go_wp2_with fail
  go_loopw [13] (fun vi wr => ∃ (i : Nat), i ≤ gs.length ∧ vi = .int .i64 i ∧ Hid (R = unF (unV m nw) nw x.fields (gs.drop i)) ∧ Below w.heap.size w wr) (fun i _ => gs.length - (intOf i).toNat)
  case atStart => exact ⟨0, Nat.zero_le _, rfl, HR, Below.refl _ _⟩
  case round =>
    obtain ⟨i, hi, rfl, hR, hb⟩ := hrel
    by_cases hlt : i < gs.length
    · obtain ⟨gf, hf⟩ : ∃ f, gs[i]? = some f := ⟨gs[i], List.getElem?_eq_getElem hlt⟩
      have hdrop : gs.drop i = gf :: gs.drop (i + 1) := by
        rw [List.drop_eq_getElem_cons hlt]; rw [List.getElem?_eq_getElem hlt] at hf; simp at hf; rw [hf]
      rcases hrg with ⟨hrg, _⟩ | ⟨h, rfl, hcellg⟩
      · rw [hrg] at hf; simp at hf
      obtain ⟨p1, p2, p3, q1, q2, q3, hrep, k0, k1, k2, k3, k4, k5, k6⟩ := hcellg i gf hf
      have k0 := cell_keep hb k0
      have k1 := cell_keep hb k1
      have k2 := cell_keep hb k2
      have k3 := cell_keep hb k3
      have k4 := cell_keep hb k4
      have k5 := cell_keep hb k5
      have k6 := cell_keep hb k6
      have hg' : h < wr.heap.size := lt_of_cell k0
      have hBa : ∀ o, Below wr.heap.size wr (wr.alloc o) := fun o => (Below.refl _ _).alloc (Nat.le_refl _) _
      have hpl : ∀ o, Calls Tryd.prog 85 #[.slice (some ⟨g, 0, none⟩) x.fields.length cf, .int .i64 gf.1] (wr.alloc o) fun e w' => e = .returned (.int .i64 (plF x.fields gf.1)) ∧ Below (wr.alloc o).heap.size (wr.alloc o) w' := fun o =>
        placeOfField_any x.fields gf.1 (wr.alloc o) g cf hfl (fun i f hi => by
          obtain ⟨a1, a2, a3, b1, b2, b3, _, c0, c1, c2, c3, c4, c5, c6⟩ := hcells i f hi
          have hq := thn2 hb (hBa o)
          exact ⟨a1, a2, a3, b1, b2, b3, cell_keep hq c0, cell_keep hq c1, cell_keep hq c2, cell_keep hq c3, cell_keep hq c4, cell_keep hq c5, cell_keep hq c6⟩)
      rcases plF_idx gf.1 x.fields with ⟨hp1, hp2⟩ | ⟨p, f, hp1, hpl', hpf, hp2⟩
      · rw [hp1] at hpl
        by_cases hz : gf.2.2.size = 0
        · have hze : gf.2.2 = ByteArray.empty := bytes_eq hz (fun i hi => by omega)
          have hr' : Hid (R = some (.rcd (x.fields.map fun f => lv nw f.2.1))) := by show _ = _; rw [hR.out, hdrop, unF, hp2]; simp only; rw [if_pos hz]
          have hlr := fun (W : World) (hb' : Below w.heap.size w W) => leastRecord_any (least_all nw) x.fields W (some ⟨g, 0, none⟩) x.fields.length cf rfl hfl hk hwt (hrf W hb')
          have HT : Hid (rwT (fun t => txtV nw t (lv nw t)) ⟨#[]⟩ (-1) x.fields 0 ⟨#[123]⟩ ByteArray.empty = txtV (nw + 1) x (.rcd (x.fields.map fun f => lv nw f.2.1))) := by
            show _ = _
            rw [txtV_rcd]
            exact rwT_eq (fun t => txtV nw t (lv nw t)) (txtV nw) ⟨#[]⟩ (-1) x.fields _ 0 _ _ (by simp) (fun i g v hg hv => by rw [List.getElem?_map, hg] at hv; simp at hv; rw [if_neg (by omega), ← hv])
          rw [HT.out] at hlr
          obtain ⟨Y, hY⟩ : ∃ Y, Y = txtV (nw + 1) x (.rcd (x.fields.map fun f => lv nw f.2.1)) := ⟨_, rfl⟩
          rw [← hY] at hlr
          have HY : Hid (txtV (nw + 1) x (.rcd (x.fields.map fun f => lv nw f.2.1)) = Y) := hY.symm
          rw [hze] at k6
          clear hdrop hf hcellg hcells hR hp1 hp2 hz hY HT
          go_wp2_with (first | (go_at_call 85; refine (hpl _).mono ?_; rintro e w1 ⟨rfl, hb1⟩; obtain ⟨hc1, hf1⟩ := bcell hb1; have hz1 : wr.heap.size < w1.heap.size := (by have := hb1.size; simp at this; omega)) | (go_at_call 84; refine (hlr _ (thn2 (thn2 hb (hBa _)) hb1)).mono ?_; rintro e w2 ⟨rfl, hb2⟩))
          go_ret2
          rw [hr'.out]
          simp only [Option.map_some, uR, HY.out]
          exact ⟨rfl, thn2 (thn2 (thn2 hb (hBa _)) hb1) hb2⟩
        · have hr' : Hid (R = unF (unV m nw) nw x.fields (gs.drop (i + 1))) := by show _ = _; rw [hR.out, hdrop, unF, hp2]; simp only; rw [if_neg hz]
          have hE : gf.2.2.toList.isEmpty = false := isEmpty_no1 (by omega)
          clear hdrop hf hcellg hcells hR hp1 hp2 hz
          go_wp2_with (first | (go_at_call 85; refine (hpl _).mono ?_; rintro e w1 ⟨rfl, hb1⟩; obtain ⟨hc1, hf1⟩ := bcell hb1; have hz1 : wr.heap.size < w1.heap.size := (by have := hb1.size; simp at this; omega)))
          go_roundw
          case rel => exact ⟨i + 1, by omega, by go_num, hr', thn2 (thn2 hb (hBa _)) hb1⟩
          case measure => simp [intOf]; omega
      · rw [hp1] at hpl
        obtain ⟨a1, a2, a3, b1, b2, b3, hrepf, c0, c1, c2, c3, c4, c5, c6⟩ := hcells p f hpf
        have hkf := hk f (List.mem_of_getElem? hpf)
        have hwf : wt nw f.2.1 ≤ 20000 := by
          have := sum_le1 (fun f : Nat × Ty × ByteArray => wt nw f.2.1 + f.2.2.size + 4) 20000 x.fields f (List.mem_of_getElem? hpf) hwt
          omega
        have hun := fun (W : World) (hb' : Below wr.heap.size wr W) => IH nw nr f.2.1 gf.2.1 W a1 b1 a2 a3 b2 b3 p1 q1 p2 p3 q2 q3 hm hkf.2 hwf (hrepf.keep (thn2 hb hb')) (hrep.keep (thn2 hb hb'))
        have c0' := cell_keep hb c0
        have hgw : g < wr.heap.size := lt_of_cell c0'
        have k71 : wr.cell? ⟨g, p * 7 + 1, none⟩ = some (.int .i64 f.2.1.kind) ∧ wr.cell? ⟨g, p * 7 + 2, none⟩ = some (.string f.2.1.letters) ∧ wr.cell? ⟨g, p * 7 + 3, none⟩ = some (.bool f.2.1.op) ∧ wr.cell? ⟨g, p * 7 + 4, none⟩ = some (.slice a1 a2 a3) ∧ wr.cell? ⟨g, p * 7 + 5, none⟩ = some (.slice b1 b2 b3) := ⟨cell_keep hb c1, cell_keep hb c2, cell_keep hb c3, cell_keep hb c4, cell_keep hb c5⟩
        have hgd := getD_field hpf
        cases hy : unV m nw f.2.1 gf.2.1 with
        | none =>
          have hr' : Hid (R = unF (unV m nw) nw x.fields (gs.drop (i + 1))) := by show _ = _; rw [hR.out, hdrop, unF, hp2]; simp only; rw [hgd, hy]
          rw [hy] at hun
          simp only [Option.map_none, uR] at hun
          clear hdrop hf hcellg hcells hR hp1 hp2 hy hgd hrepf c0 c1 c2 c3 c4 c5 c6 c0' hkf hwf hk hwt hpf
          go_wp2_with (first | (go_at_call 85; refine (hpl _).mono ?_; rintro e w1 ⟨rfl, hb1⟩; obtain ⟨hc1, hf1⟩ := bcell hb1; have hz1 : wr.heap.size < w1.heap.size := (by have := hb1.size; simp at this; omega)))
          have e5 := keep5a hb1 (box7 wr gf p1 p2 p3 q1 q2 q3)
          have e7 := keep5a hb1 (new5a (.cells #[.int .i64 gf.1, .int .i64 gf.2.1.kind, .string gf.2.1.letters, .bool gf.2.1.op, .slice p1 p2 p3, .slice q1 q2 q3, .string gf.2.2] 87) k71)
          go_region_held3 (fun w' => (w'.cell? ⟨wr.heap.size, 1, none⟩ = some (.int .i64 gf.2.1.kind) ∧ w'.cell? ⟨wr.heap.size, 2, none⟩ = some (.string gf.2.1.letters) ∧ w'.cell? ⟨wr.heap.size, 3, none⟩ = some (.bool gf.2.1.op) ∧ w'.cell? ⟨wr.heap.size, 4, none⟩ = some (.slice p1 p2 p3) ∧ w'.cell? ⟨wr.heap.size, 5, none⟩ = some (.slice q1 q2 q3)) ∧ w'.cell? ⟨g, p * 7 + 1, none⟩ = some (.int .i64 f.2.1.kind) ∧ w'.cell? ⟨g, p * 7 + 2, none⟩ = some (.string f.2.1.letters) ∧ w'.cell? ⟨g, p * 7 + 3, none⟩ = some (.bool f.2.1.op) ∧ w'.cell? ⟨g, p * 7 + 4, none⟩ = some (.slice a1 a2 a3) ∧ w'.cell? ⟨g, p * 7 + 5, none⟩ = some (.slice b1 b2 b3)) (go_keep) (first | (go_at_call 30; refine (hun _ (by first | exact (thn2 (hBa _) hb1).drew | exact thn2 (hBa _) hb1)).mono ?_; rintro e w2 ⟨rfl, hb2⟩; have e5' := keep5a hb2 e5; have e7' := keep5a hb2 e7))
          go_wp2_with fail
          go_roundw
          case rel => exact ⟨i + 1, by omega, by go_num, hr', thn2 (thn2 (thn2 hb (hBa _)) hb1).drew hb2⟩
          case measure => simp [intOf]; omega
        | some u =>
          have hr' : Hid (R = some (.rcd ((x.fields.map fun f => lv nw f.2.1).set p u))) := by show _ = _; rw [hR.out, hdrop, unF, hp2]; simp only; rw [hgd, hy]
          rw [hy] at hun
          simp only [Option.map_some, uR] at hun
          have hus := un_size m nw f.2.1 gf.2.1 u hkf.2 hy
          have hrw := fun (W : World) (hb' : Below w.heap.size w W) => recordWith_any (least_all nw) x.fields (p : Nat) (txtV nw f.2.1 u) W (some ⟨g, 0, none⟩) x.fields.length cf rfl hfl (by omega) hk hwt (hrf W hb')
          rw [set_txt hpf] at hrw
          obtain ⟨Y, hY⟩ : ∃ Y, Y = txtV (nw + 1) x (.rcd ((x.fields.map fun f => lv nw f.2.1).set p u)) := ⟨_, rfl⟩
          rw [← hY] at hrw
          have HY : Hid (txtV (nw + 1) x (.rcd ((x.fields.map fun f => lv nw f.2.1).set p u)) = Y) := hY.symm
          generalize txtV nw f.2.1 u = Z at hun hrw hus
          clear hdrop hf hcellg hcells hR hp1 hp2 hy hgd hrepf c0 c1 c2 c3 c4 c5 c6 c0' hkf hwf hk hwt hpf hY hus
          go_wp2_with (first | (go_at_call 85; refine (hpl _).mono ?_; rintro e w1 ⟨rfl, hb1⟩; obtain ⟨hc1, hf1⟩ := bcell hb1; have hz1 : wr.heap.size < w1.heap.size := (by have := hb1.size; simp at this; omega)))
          have e5 := keep5a hb1 (box7 wr gf p1 p2 p3 q1 q2 q3)
          have e7 := keep5a hb1 (new5a (.cells #[.int .i64 gf.1, .int .i64 gf.2.1.kind, .string gf.2.1.letters, .bool gf.2.1.op, .slice p1 p2 p3, .slice q1 q2 q3, .string gf.2.2] 87) k71)
          go_region_held3 (fun w' => (w'.cell? ⟨wr.heap.size, 1, none⟩ = some (.int .i64 gf.2.1.kind) ∧ w'.cell? ⟨wr.heap.size, 2, none⟩ = some (.string gf.2.1.letters) ∧ w'.cell? ⟨wr.heap.size, 3, none⟩ = some (.bool gf.2.1.op) ∧ w'.cell? ⟨wr.heap.size, 4, none⟩ = some (.slice p1 p2 p3) ∧ w'.cell? ⟨wr.heap.size, 5, none⟩ = some (.slice q1 q2 q3)) ∧ w'.cell? ⟨g, p * 7 + 1, none⟩ = some (.int .i64 f.2.1.kind) ∧ w'.cell? ⟨g, p * 7 + 2, none⟩ = some (.string f.2.1.letters) ∧ w'.cell? ⟨g, p * 7 + 3, none⟩ = some (.bool f.2.1.op) ∧ w'.cell? ⟨g, p * 7 + 4, none⟩ = some (.slice a1 a2 a3) ∧ w'.cell? ⟨g, p * 7 + 5, none⟩ = some (.slice b1 b2 b3)) (go_keep) (first | (go_at_call 30; refine (hun _ (by first | exact (thn2 (hBa _) hb1).drew | exact thn2 (hBa _) hb1)).mono ?_; rintro e w2 ⟨rfl, hb2⟩; have e5' := keep5a hb2 e5; have e7' := keep5a hb2 e7))
          go_wp2_with (first | (go_at_call 86; refine (hrw _ (thn2 (thn2 (thn2 hb (hBa _)) hb1).drew hb2)).mono ?_; rintro e w3 ⟨rfl, hb3⟩))
          go_ret2
          rw [hr'.out]
          simp only [Option.map_some, uR, HY.out]
          exact ⟨rfl, thn2 (thn2 (thn2 (thn2 hb (hBa _)) hb1).drew hb2) hb3⟩
    · have hnil : gs.drop i = [] := List.drop_of_length_le (by omega)
      have hr' : Hid (R = none) := by show _ = _; rw [hR.out, hnil, unF]
      go_wp2_with fail
      go_ret2
      rw [hr'.out]
      exact ⟨rfl, hb⟩
end
section
set_option maxRecDepth 4000
open Go.RowKit

theorem bx (w : World) (o o2 : Obj) : Below w.heap.size w ((w.alloc o).alloc o2) := ((Below.refl _ _).alloc (Nat.le_refl _) _).alloc (by simp) _
theorem kp10 {W w1 : World} (hb : Below W.heap.size W w1) {b c : Nat} {v0 v1 v2 v3 v4 u0 u1 u2 u3 u4 : Value} (h : W.cell? ⟨b, 0, none⟩ = some v0 ∧ W.cell? ⟨b, 1, none⟩ = some v1 ∧ W.cell? ⟨b, 2, none⟩ = some v2 ∧ W.cell? ⟨b, 3, none⟩ = some v3 ∧ W.cell? ⟨b, 4, none⟩ = some v4 ∧ W.cell? ⟨c, 0, none⟩ = some u0 ∧ W.cell? ⟨c, 1, none⟩ = some u1 ∧ W.cell? ⟨c, 2, none⟩ = some u2 ∧ W.cell? ⟨c, 3, none⟩ = some u3 ∧ W.cell? ⟨c, 4, none⟩ = some u4) :
    w1.cell? ⟨b, 0, none⟩ = some v0 ∧ w1.cell? ⟨b, 1, none⟩ = some v1 ∧ w1.cell? ⟨b, 2, none⟩ = some v2 ∧ w1.cell? ⟨b, 3, none⟩ = some v3 ∧ w1.cell? ⟨b, 4, none⟩ = some v4 ∧ w1.cell? ⟨c, 0, none⟩ = some u0 ∧ w1.cell? ⟨c, 1, none⟩ = some u1 ∧ w1.cell? ⟨c, 2, none⟩ = some u2 ∧ w1.cell? ⟨c, 3, none⟩ = some u3 ∧ w1.cell? ⟨c, 4, none⟩ = some u4 := by
  obtain ⟨h0, h1, h2, h3, h4, k0, k1, k2, k3, k4⟩ := h
  exact ⟨cell_keep hb h0, cell_keep hb h1, cell_keep hb h2, cell_keep hb h3, cell_keep hb h4, cell_keep hb k0, cell_keep hb k1, cell_keep hb k2, cell_keep hb k3, cell_keep hb k4⟩
theorem bx2 (w : World) (x r : Ty) (ai : Option Addr) (li ci : Nat) (af : Option Addr) (lf cf : Nat) (bi : Option Addr) (mi di : Nat) (bf : Option Addr) (mf df : Nat) :
    ((w.alloc (.cells #[.int .i64 x.kind, .string x.letters, .bool x.op, .slice ai li ci, .slice af lf cf] 38)).alloc (.cells #[.int .i64 r.kind, .string r.letters, .bool r.op, .slice bi mi di, .slice bf mf df] 38)).cell? ⟨w.heap.size, 0, none⟩ = some (.int .i64 x.kind) ∧ ((w.alloc (.cells #[.int .i64 x.kind, .string x.letters, .bool x.op, .slice ai li ci, .slice af lf cf] 38)).alloc (.cells #[.int .i64 r.kind, .string r.letters, .bool r.op, .slice bi mi di, .slice bf mf df] 38)).cell? ⟨w.heap.size, 1, none⟩ = some (.string x.letters) ∧ ((w.alloc (.cells #[.int .i64 x.kind, .string x.letters, .bool x.op, .slice ai li ci, .slice af lf cf] 38)).alloc (.cells #[.int .i64 r.kind, .string r.letters, .bool r.op, .slice bi mi di, .slice bf mf df] 38)).cell? ⟨w.heap.size, 2, none⟩ = some (.bool x.op) ∧ ((w.alloc (.cells #[.int .i64 x.kind, .string x.letters, .bool x.op, .slice ai li ci, .slice af lf cf] 38)).alloc (.cells #[.int .i64 r.kind, .string r.letters, .bool r.op, .slice bi mi di, .slice bf mf df] 38)).cell? ⟨w.heap.size, 3, none⟩ = some (.slice ai li ci) ∧ ((w.alloc (.cells #[.int .i64 x.kind, .string x.letters, .bool x.op, .slice ai li ci, .slice af lf cf] 38)).alloc (.cells #[.int .i64 r.kind, .string r.letters, .bool r.op, .slice bi mi di, .slice bf mf df] 38)).cell? ⟨w.heap.size, 4, none⟩ = some (.slice af lf cf) ∧ ((w.alloc (.cells #[.int .i64 x.kind, .string x.letters, .bool x.op, .slice ai li ci, .slice af lf cf] 38)).alloc (.cells #[.int .i64 r.kind, .string r.letters, .bool r.op, .slice bi mi di, .slice bf mf df] 38)).cell? ⟨w.heap.size + 1, 0, none⟩ = some (.int .i64 r.kind) ∧ ((w.alloc (.cells #[.int .i64 x.kind, .string x.letters, .bool x.op, .slice ai li ci, .slice af lf cf] 38)).alloc (.cells #[.int .i64 r.kind, .string r.letters, .bool r.op, .slice bi mi di, .slice bf mf df] 38)).cell? ⟨w.heap.size + 1, 1, none⟩ = some (.string r.letters) ∧ ((w.alloc (.cells #[.int .i64 x.kind, .string x.letters, .bool x.op, .slice ai li ci, .slice af lf cf] 38)).alloc (.cells #[.int .i64 r.kind, .string r.letters, .bool r.op, .slice bi mi di, .slice bf mf df] 38)).cell? ⟨w.heap.size + 1, 2, none⟩ = some (.bool r.op) ∧ ((w.alloc (.cells #[.int .i64 x.kind, .string x.letters, .bool x.op, .slice ai li ci, .slice af lf cf] 38)).alloc (.cells #[.int .i64 r.kind, .string r.letters, .bool r.op, .slice bi mi di, .slice bf mf df] 38)).cell? ⟨w.heap.size + 1, 3, none⟩ = some (.slice bi mi di) ∧ ((w.alloc (.cells #[.int .i64 x.kind, .string x.letters, .bool x.op, .slice ai li ci, .slice af lf cf] 38)).alloc (.cells #[.int .i64 r.kind, .string r.letters, .bool r.op, .slice bi mi di, .slice bf mf df] 38)).cell? ⟨w.heap.size + 1, 4, none⟩ = some (.slice bf mf df) := by
  have h : (w.alloc (.cells #[.int .i64 x.kind, .string x.letters, .bool x.op, .slice ai li ci, .slice af lf cf] 38)).heap.size = w.heap.size + 1 := by simp
  refine ⟨cell_new _ (cell_last rfl rfl), cell_new _ (cell_last rfl rfl), cell_new _ (cell_last rfl rfl), cell_new _ (cell_last rfl rfl), cell_new _ (cell_last rfl rfl), ?_⟩
  rw [← h]
  exact ⟨cell_last rfl rfl, cell_last rfl rfl, cell_last rfl rfl, cell_last rfl rfl, cell_last rfl rfl⟩

set_option maxHeartbeats 2000000 in
theorem un_both (x r : Ty) (w : World) (ai : Option Addr) (li ci : Nat) (af : Option Addr) (lf cf : Nat) (bi : Option Addr) (mi di : Nat) (bf : Option Addr) (mf df : Nat) (t : ByteArray) (b : Bool)
    (h1 : ((x.kind : Int) == 63) = true) (h2 : ((r.kind : Int) == 63) = true) (nw nr : Nat) (hin : ∀ W, Below w.heap.size w W → Calls Tryd.prog 41 #[.agg #[.int .i64 x.kind, .string x.letters, .bool x.op, .slice ai li ci, .slice af lf cf]] W fun e w' => ∃ p1 p2 p3 p4 p5 p6, e = .returned (.agg #[.int .i64 x.in.kind, .string x.in.letters, .bool x.in.op, .slice p1 p2 p3, .slice p4 p5 p6]) ∧ Rep nw w' p1 p2 p3 p4 p5 p6 x.in ∧ Below W.heap.size W w') (hin2 : ∀ W, Below w.heap.size w W → Calls Tryd.prog 41 #[.agg #[.int .i64 r.kind, .string r.letters, .bool r.op, .slice bi mi di, .slice bf mf df]] W fun e w' => ∃ p1 p2 p3 p4 p5 p6, e = .returned (.agg #[.int .i64 r.in.kind, .string r.in.letters, .bool r.in.op, .slice p1 p2 p3, .slice p4 p5 p6]) ∧ Rep nr w' p1 p2 p3 p4 p5 p6 r.in ∧ Below W.heap.size W w') (hcall : ∀ (W : World) (p1 : Option Addr) (p2 p3 : Nat) (p4 : Option Addr) (p5 p6 : Nat) (q1 : Option Addr) (q2 q3 : Nat) (q4 : Option Addr) (q5 q6 : Nat), Below w.heap.size w W → Rep nw W p1 p2 p3 p4 p5 p6 x.in → Rep nr W q1 q2 q3 q4 q5 q6 r.in → Calls Tryd.prog 30 #[.agg #[.int .i64 x.in.kind, .string x.in.letters, .bool x.in.op, .slice p1 p2 p3, .slice p4 p5 p6], .agg #[.int .i64 r.in.kind, .string r.in.letters, .bool r.in.op, .slice q1 q2 q3, .slice q4 q5 q6]] W fun e w' => e = .returned (.tuple #[.string t, .bool b]) ∧ Below W.heap.size W w') :
    Calls Tryd.prog 30 #[.agg #[.int .i64 x.kind, .string x.letters, .bool x.op, .slice ai li ci, .slice af lf cf], .agg #[.int .i64 r.kind, .string r.letters, .bool r.op, .slice bi mi di, .slice bf mf df]] w fun e w' => e = .returned (.tuple #[.string t, .bool b]) ∧ Below w.heap.size w w' := by
  have e0 := bx2 w x r ai li ci af lf cf bi mi di bf mf df
  go_enter Tryd.func30, Tryd.ntmps30
  go_wp2_with fail
  go_region_held3 (fun w' => w'.cell? ⟨w.heap.size, 0, none⟩ = some (.int .i64 x.kind) ∧ w'.cell? ⟨w.heap.size, 1, none⟩ = some (.string x.letters) ∧ w'.cell? ⟨w.heap.size, 2, none⟩ = some (.bool x.op) ∧ w'.cell? ⟨w.heap.size, 3, none⟩ = some (.slice ai li ci) ∧ w'.cell? ⟨w.heap.size, 4, none⟩ = some (.slice af lf cf) ∧ w'.cell? ⟨w.heap.size + 1, 0, none⟩ = some (.int .i64 r.kind) ∧ w'.cell? ⟨w.heap.size + 1, 1, none⟩ = some (.string r.letters) ∧ w'.cell? ⟨w.heap.size + 1, 2, none⟩ = some (.bool r.op) ∧ w'.cell? ⟨w.heap.size + 1, 3, none⟩ = some (.slice bi mi di) ∧ w'.cell? ⟨w.heap.size + 1, 4, none⟩ = some (.slice bf mf df)) (go_keep) (first | (go_at_call 41; have hq := hb1; refine (hin2 _ (by first | exact thn2 (bx w _ _).drew hb1 | exact thn2 (bx w _ _) hb1)).mono ?_; rintro e w2 ⟨q1, q2, q3, q4, q5, q6, rfl, hr2, hb2⟩; have e2 := kp10 hb2 e1) | (go_at_call 41; refine (hin _ (by first | exact (bx w _ _).drew | exact bx w _ _)).mono ?_; rintro e w1 ⟨p1, p2, p3, p4, p5, p6, rfl, hr1, hb1⟩; have e1 := kp10 hb1 e0) | (go_at_call 30; refine (hcall _ _ _ _ _ _ _ _ _ _ _ _ _ (by first | exact thn2 (thn2 (bx w _ _).drew hb1) hb2 | exact thn2 (thn2 (bx w _ _) hb1) hb2) (hr1.keep hb2) hr2).mono ?_; rintro e w3 ⟨rfl, hb3⟩; have e3 := kp10 hb3 e2))
  go_wp2_with fail
  go_ret2
  exact ⟨rfl, thn2 (thn2 (thn2 (bx w _ _).drew hb1) hb2) hb3⟩

set_option maxHeartbeats 2000000 in
theorem un_rdr (x r : Ty) (w : World) (ai : Option Addr) (li ci : Nat) (af : Option Addr) (lf cf : Nat) (bi : Option Addr) (mi di : Nat) (bf : Option Addr) (mf df : Nat) (t : ByteArray) (b : Bool)
    (h1 : ((x.kind : Int) == 63) = false) (h2 : ((r.kind : Int) == 63) = true) (nr : Nat) (hin : ∀ W, Below w.heap.size w W → Calls Tryd.prog 41 #[.agg #[.int .i64 r.kind, .string r.letters, .bool r.op, .slice bi mi di, .slice bf mf df]] W fun e w' => ∃ p1 p2 p3 p4 p5 p6, e = .returned (.agg #[.int .i64 r.in.kind, .string r.in.letters, .bool r.in.op, .slice p1 p2 p3, .slice p4 p5 p6]) ∧ Rep nr w' p1 p2 p3 p4 p5 p6 r.in ∧ Below W.heap.size W w') (hcall : ∀ (W : World) (p1 : Option Addr) (p2 p3 : Nat) (p4 : Option Addr) (p5 p6 : Nat), Below w.heap.size w W → Rep nr W p1 p2 p3 p4 p5 p6 r.in → Calls Tryd.prog 30 #[.agg #[.int .i64 x.kind, .string x.letters, .bool x.op, .slice ai li ci, .slice af lf cf], .agg #[.int .i64 r.in.kind, .string r.in.letters, .bool r.in.op, .slice p1 p2 p3, .slice p4 p5 p6]] W fun e w' => e = .returned (.tuple #[.string t, .bool b]) ∧ Below W.heap.size W w') :
    Calls Tryd.prog 30 #[.agg #[.int .i64 x.kind, .string x.letters, .bool x.op, .slice ai li ci, .slice af lf cf], .agg #[.int .i64 r.kind, .string r.letters, .bool r.op, .slice bi mi di, .slice bf mf df]] w fun e w' => e = .returned (.tuple #[.string t, .bool b]) ∧ Below w.heap.size w w' := by
  have e0 := bx2 w x r ai li ci af lf cf bi mi di bf mf df
  go_enter Tryd.func30, Tryd.ntmps30
  go_wp2_with fail
  go_region_held3 (fun w' => w'.cell? ⟨w.heap.size, 0, none⟩ = some (.int .i64 x.kind) ∧ w'.cell? ⟨w.heap.size, 1, none⟩ = some (.string x.letters) ∧ w'.cell? ⟨w.heap.size, 2, none⟩ = some (.bool x.op) ∧ w'.cell? ⟨w.heap.size, 3, none⟩ = some (.slice ai li ci) ∧ w'.cell? ⟨w.heap.size, 4, none⟩ = some (.slice af lf cf) ∧ w'.cell? ⟨w.heap.size + 1, 0, none⟩ = some (.int .i64 r.kind) ∧ w'.cell? ⟨w.heap.size + 1, 1, none⟩ = some (.string r.letters) ∧ w'.cell? ⟨w.heap.size + 1, 2, none⟩ = some (.bool r.op) ∧ w'.cell? ⟨w.heap.size + 1, 3, none⟩ = some (.slice bi mi di) ∧ w'.cell? ⟨w.heap.size + 1, 4, none⟩ = some (.slice bf mf df)) (go_keep) (first | (go_at_call 41; refine (hin _ (by first | exact (bx w _ _).drew | exact bx w _ _)).mono ?_; rintro e w1 ⟨p1, p2, p3, p4, p5, p6, rfl, hr1, hb1⟩; have e1 := kp10 hb1 e0) | (go_at_call 30; refine (hcall _ _ _ _ _ _ _ (by first | exact thn2 (bx w _ _).drew hb1 | exact thn2 (bx w _ _) hb1) hr1).mono ?_; rintro e w2 ⟨rfl, hb2⟩; have e2 := kp10 hb2 e1))
  go_wp2_with fail
  go_ret2
  exact ⟨rfl, thn2 (thn2 (bx w _ _).drew hb1) hb2⟩

set_option maxHeartbeats 2000000 in
theorem un_samea (x r : Ty) (w : World) (ai : Option Addr) (li ci : Nat) (af : Option Addr) (lf cf : Nat) (bi : Option Addr) (mi di : Nat) (bf : Option Addr) (mf df : Nat) (t : ByteArray) (b : Bool)
    (h1 : ((x.kind : Int) == 63) = true) (h2 : ((r.kind : Int) == 63) = false) (hs : sameK x.kind r.kind = true) (ht : t = ByteArray.empty) (hb : b = false) :
    Calls Tryd.prog 30 #[.agg #[.int .i64 x.kind, .string x.letters, .bool x.op, .slice ai li ci, .slice af lf cf], .agg #[.int .i64 r.kind, .string r.letters, .bool r.op, .slice bi mi di, .slice bf mf df]] w fun e w' => e = .returned (.tuple #[.string t, .bool b]) ∧ Below w.heap.size w w' := by
  have e0 := bx2 w x r ai li ci af lf cf bi mi di bf mf df
  go_enter Tryd.func30, Tryd.ntmps30
  subst ht hb
  go_wp2_with (first | (go_at_call 42; refine (sameValue_any _ _ _).mono ?_; rintro e _ ⟨rfl, rfl⟩; rw [hs]))
  go_ret2
  exact ⟨rfl, bx w _ _⟩

set_option maxHeartbeats 2000000 in
theorem un_diffa (x r : Ty) (w : World) (ai : Option Addr) (li ci : Nat) (af : Option Addr) (lf cf : Nat) (bi : Option Addr) (mi di : Nat) (bf : Option Addr) (mf df : Nat) (t : ByteArray) (b : Bool)
    (h1 : ((x.kind : Int) == 63) = true) (h2 : ((r.kind : Int) == 63) = false) (hs : sameK x.kind r.kind = false) (h3 : ((x.kind : Int) != (r.kind : Int)) = true) (hb : b = true) (hcall : ∀ (W : World) , Below w.heap.size w W →  Calls Tryd.prog 49 #[.agg #[.int .i64 x.kind, .string x.letters, .bool x.op, .slice ai li ci, .slice af lf cf]] W fun e w' => e = .returned (.string t) ∧ Below W.heap.size W w') :
    Calls Tryd.prog 30 #[.agg #[.int .i64 x.kind, .string x.letters, .bool x.op, .slice ai li ci, .slice af lf cf], .agg #[.int .i64 r.kind, .string r.letters, .bool r.op, .slice bi mi di, .slice bf mf df]] w fun e w' => e = .returned (.tuple #[.string t, .bool b]) ∧ Below w.heap.size w w' := by
  have e0 := bx2 w x r ai li ci af lf cf bi mi di bf mf df
  go_enter Tryd.func30, Tryd.ntmps30
  subst hb
  go_wp2_with (first | (go_at_call 42; refine (sameValue_any _ _ _).mono ?_; rintro e _ ⟨rfl, rfl⟩; rw [hs]) | (go_at_call 49; refine (hcall _ (bx w _ _)).mono ?_; rintro e w1 ⟨rfl, hb1⟩))
  go_ret2
  exact ⟨rfl, thn2 (bx w _ _) hb1⟩

set_option maxHeartbeats 2000000 in
theorem un_sameb (x r : Ty) (w : World) (ai : Option Addr) (li ci : Nat) (af : Option Addr) (lf cf : Nat) (bi : Option Addr) (mi di : Nat) (bf : Option Addr) (mf df : Nat) (t : ByteArray) (b : Bool)
    (h1 : ((x.kind : Int) == 63) = false) (h2 : ((r.kind : Int) == 63) = false) (hs : sameK x.kind r.kind = true) (ht : t = ByteArray.empty) (hb : b = false) :
    Calls Tryd.prog 30 #[.agg #[.int .i64 x.kind, .string x.letters, .bool x.op, .slice ai li ci, .slice af lf cf], .agg #[.int .i64 r.kind, .string r.letters, .bool r.op, .slice bi mi di, .slice bf mf df]] w fun e w' => e = .returned (.tuple #[.string t, .bool b]) ∧ Below w.heap.size w w' := by
  have e0 := bx2 w x r ai li ci af lf cf bi mi di bf mf df
  go_enter Tryd.func30, Tryd.ntmps30
  subst ht hb
  go_wp2_with (first | (go_at_call 42; refine (sameValue_any _ _ _).mono ?_; rintro e _ ⟨rfl, rfl⟩; rw [hs]))
  go_ret2
  exact ⟨rfl, bx w _ _⟩

set_option maxHeartbeats 2000000 in
theorem un_diffb (x r : Ty) (w : World) (ai : Option Addr) (li ci : Nat) (af : Option Addr) (lf cf : Nat) (bi : Option Addr) (mi di : Nat) (bf : Option Addr) (mf df : Nat) (t : ByteArray) (b : Bool)
    (h1 : ((x.kind : Int) == 63) = false) (h2 : ((r.kind : Int) == 63) = false) (hs : sameK x.kind r.kind = false) (h3 : ((x.kind : Int) != (r.kind : Int)) = true) (hb : b = true) (hcall : ∀ (W : World) , Below w.heap.size w W →  Calls Tryd.prog 49 #[.agg #[.int .i64 x.kind, .string x.letters, .bool x.op, .slice ai li ci, .slice af lf cf]] W fun e w' => e = .returned (.string t) ∧ Below W.heap.size W w') :
    Calls Tryd.prog 30 #[.agg #[.int .i64 x.kind, .string x.letters, .bool x.op, .slice ai li ci, .slice af lf cf], .agg #[.int .i64 r.kind, .string r.letters, .bool r.op, .slice bi mi di, .slice bf mf df]] w fun e w' => e = .returned (.tuple #[.string t, .bool b]) ∧ Below w.heap.size w w' := by
  have e0 := bx2 w x r ai li ci af lf cf bi mi di bf mf df
  go_enter Tryd.func30, Tryd.ntmps30
  subst hb
  go_wp2_with (first | (go_at_call 42; refine (sameValue_any _ _ _).mono ?_; rintro e _ ⟨rfl, rfl⟩; rw [hs]) | (go_at_call 49; refine (hcall _ (bx w _ _)).mono ?_; rintro e w1 ⟨rfl, hb1⟩))
  go_ret2
  exact ⟨rfl, thn2 (bx w _ _) hb1⟩

set_option maxHeartbeats 2000000 in
theorem un_cho (x r : Ty) (w : World) (ai : Option Addr) (li ci : Nat) (af : Option Addr) (lf cf : Nat) (bi : Option Addr) (mi di : Nat) (bf : Option Addr) (mf df : Nat) (t : ByteArray) (b : Bool)
    (h1 : ((x.kind : Int) == 63) = false) (h2 : ((r.kind : Int) == 63) = false) (hs : sameK x.kind r.kind = false) (h3 : ((x.kind : Int) != (r.kind : Int)) = false) (k60 : ((x.kind : Int) == 60) = true) (hcall : ∀ (W : World) , Below w.heap.size w W →  Calls Tryd.prog 50 #[.agg #[.int .i64 x.kind, .string x.letters, .bool x.op, .slice ai li ci, .slice af lf cf], .agg #[.int .i64 r.kind, .string r.letters, .bool r.op, .slice bi mi di, .slice bf mf df]] W fun e w' => e = .returned (.tuple #[.string t, .bool b]) ∧ Below W.heap.size W w') :
    Calls Tryd.prog 30 #[.agg #[.int .i64 x.kind, .string x.letters, .bool x.op, .slice ai li ci, .slice af lf cf], .agg #[.int .i64 r.kind, .string r.letters, .bool r.op, .slice bi mi di, .slice bf mf df]] w fun e w' => e = .returned (.tuple #[.string t, .bool b]) ∧ Below w.heap.size w w' := by
  have e0 := bx2 w x r ai li ci af lf cf bi mi di bf mf df
  go_enter Tryd.func30, Tryd.ntmps30
  go_wp2_with (first | (go_at_call 42; refine (sameValue_any _ _ _).mono ?_; rintro e _ ⟨rfl, rfl⟩; rw [hs]) | (go_at_call 50; refine (hcall _ (bx w _ _)).mono ?_; rintro e w1 ⟨rfl, hb1⟩))
  go_ret2
  exact ⟨rfl, thn2 (bx w _ _) hb1⟩

set_option maxHeartbeats 2000000 in
theorem un_lst (x r : Ty) (w : World) (ai : Option Addr) (li ci : Nat) (af : Option Addr) (lf cf : Nat) (bi : Option Addr) (mi di : Nat) (bf : Option Addr) (mf df : Nat) (t : ByteArray) (b : Bool)
    (h1 : ((x.kind : Int) == 63) = false) (h2 : ((r.kind : Int) == 63) = false) (hs : sameK x.kind r.kind = false) (h3 : ((x.kind : Int) != (r.kind : Int)) = false) (k60 : ((x.kind : Int) == 60) = false) (k91 : ((x.kind : Int) == 91) = true) (nw nr : Nat) (hin : ∀ W, Below w.heap.size w W → Calls Tryd.prog 41 #[.agg #[.int .i64 x.kind, .string x.letters, .bool x.op, .slice ai li ci, .slice af lf cf]] W fun e w' => ∃ p1 p2 p3 p4 p5 p6, e = .returned (.agg #[.int .i64 x.in.kind, .string x.in.letters, .bool x.in.op, .slice p1 p2 p3, .slice p4 p5 p6]) ∧ Rep nw w' p1 p2 p3 p4 p5 p6 x.in ∧ Below W.heap.size W w') (hin2 : ∀ W, Below w.heap.size w W → Calls Tryd.prog 41 #[.agg #[.int .i64 r.kind, .string r.letters, .bool r.op, .slice bi mi di, .slice bf mf df]] W fun e w' => ∃ p1 p2 p3 p4 p5 p6, e = .returned (.agg #[.int .i64 r.in.kind, .string r.in.letters, .bool r.in.op, .slice p1 p2 p3, .slice p4 p5 p6]) ∧ Rep nr w' p1 p2 p3 p4 p5 p6 r.in ∧ Below W.heap.size W w') (hcall : ∀ (W : World) (p1 : Option Addr) (p2 p3 : Nat) (p4 : Option Addr) (p5 p6 : Nat) (q1 : Option Addr) (q2 q3 : Nat) (q4 : Option Addr) (q5 q6 : Nat), Below w.heap.size w W → Rep nw W p1 p2 p3 p4 p5 p6 x.in → Rep nr W q1 q2 q3 q4 q5 q6 r.in → Calls Tryd.prog 51 #[.agg #[.int .i64 x.in.kind, .string x.in.letters, .bool x.in.op, .slice p1 p2 p3, .slice p4 p5 p6], .agg #[.int .i64 r.in.kind, .string r.in.letters, .bool r.in.op, .slice q1 q2 q3, .slice q4 q5 q6]] W fun e w' => e = .returned (.tuple #[.string t, .bool b]) ∧ Below W.heap.size W w') :
    Calls Tryd.prog 30 #[.agg #[.int .i64 x.kind, .string x.letters, .bool x.op, .slice ai li ci, .slice af lf cf], .agg #[.int .i64 r.kind, .string r.letters, .bool r.op, .slice bi mi di, .slice bf mf df]] w fun e w' => e = .returned (.tuple #[.string t, .bool b]) ∧ Below w.heap.size w w' := by
  have e0 := bx2 w x r ai li ci af lf cf bi mi di bf mf df
  go_enter Tryd.func30, Tryd.ntmps30
  go_wp2_with (first | (go_at_call 42; refine (sameValue_any _ _ _).mono ?_; rintro e _ ⟨rfl, rfl⟩; rw [hs]))
  go_region_held3 (fun w' => w'.cell? ⟨w.heap.size, 0, none⟩ = some (.int .i64 x.kind) ∧ w'.cell? ⟨w.heap.size, 1, none⟩ = some (.string x.letters) ∧ w'.cell? ⟨w.heap.size, 2, none⟩ = some (.bool x.op) ∧ w'.cell? ⟨w.heap.size, 3, none⟩ = some (.slice ai li ci) ∧ w'.cell? ⟨w.heap.size, 4, none⟩ = some (.slice af lf cf) ∧ w'.cell? ⟨w.heap.size + 1, 0, none⟩ = some (.int .i64 r.kind) ∧ w'.cell? ⟨w.heap.size + 1, 1, none⟩ = some (.string r.letters) ∧ w'.cell? ⟨w.heap.size + 1, 2, none⟩ = some (.bool r.op) ∧ w'.cell? ⟨w.heap.size + 1, 3, none⟩ = some (.slice bi mi di) ∧ w'.cell? ⟨w.heap.size + 1, 4, none⟩ = some (.slice bf mf df)) (go_keep) (first | (go_at_call 41; have hq := hb1; refine (hin2 _ (by first | exact thn2 (bx w _ _).drew hb1 | exact thn2 (bx w _ _) hb1)).mono ?_; rintro e w2 ⟨q1, q2, q3, q4, q5, q6, rfl, hr2, hb2⟩; have e2 := kp10 hb2 e1) | (go_at_call 41; refine (hin _ (by first | exact (bx w _ _).drew | exact bx w _ _)).mono ?_; rintro e w1 ⟨p1, p2, p3, p4, p5, p6, rfl, hr1, hb1⟩; have e1 := kp10 hb1 e0) | (go_at_call 51; refine (hcall _ _ _ _ _ _ _ _ _ _ _ _ _ (by first | exact thn2 (thn2 (bx w _ _).drew hb1) hb2 | exact thn2 (thn2 (bx w _ _) hb1) hb2) (hr1.keep hb2) hr2).mono ?_; rintro e w3 ⟨rfl, hb3⟩; have e3 := kp10 hb3 e2))
  go_wp2_with fail
  go_ret2
  exact ⟨rfl, thn2 (thn2 (thn2 (bx w _ _).drew hb1) hb2) hb3⟩

set_option maxHeartbeats 2000000 in
theorem un_rcd (x r : Ty) (w : World) (ai : Option Addr) (li ci : Nat) (af : Option Addr) (lf cf : Nat) (bi : Option Addr) (mi di : Nat) (bf : Option Addr) (mf df : Nat) (t : ByteArray) (b : Bool)
    (h1 : ((x.kind : Int) == 63) = false) (h2 : ((r.kind : Int) == 63) = false) (hs : sameK x.kind r.kind = false) (h3 : ((x.kind : Int) != (r.kind : Int)) = false) (k60 : ((x.kind : Int) == 60) = false) (k91 : ((x.kind : Int) == 91) = false) (k123 : ((x.kind : Int) == 123) = true) (hcall : ∀ (W : World) , Below w.heap.size w W →  Calls Tryd.prog 52 #[.slice af lf cf, .slice bf mf df] W fun e w' => e = .returned (.tuple #[.string t, .bool b]) ∧ Below W.heap.size W w') :
    Calls Tryd.prog 30 #[.agg #[.int .i64 x.kind, .string x.letters, .bool x.op, .slice ai li ci, .slice af lf cf], .agg #[.int .i64 r.kind, .string r.letters, .bool r.op, .slice bi mi di, .slice bf mf df]] w fun e w' => e = .returned (.tuple #[.string t, .bool b]) ∧ Below w.heap.size w w' := by
  have e0 := bx2 w x r ai li ci af lf cf bi mi di bf mf df
  go_enter Tryd.func30, Tryd.ntmps30
  go_wp2_with (first | (go_at_call 42; refine (sameValue_any _ _ _).mono ?_; rintro e _ ⟨rfl, rfl⟩; rw [hs]) | (go_at_call 52; refine (hcall _ (bx w _ _)).mono ?_; rintro e w1 ⟨rfl, hb1⟩))
  go_ret2
  exact ⟨rfl, thn2 (bx w _ _) hb1⟩
end
section
open Go.RowKit

/-- A type as a schema tells it: the letters of a choice are different letters, no ? stands in a ?. -/
def tyG : Nat → Ty → Prop
  | 0, _ => True
  | n + 1, ty => (ty.kind = 60 → ∀ i, i < ty.letters.size → isL (bAt ty.letters i) = true ∧ ∀ j, j < i → bAt ty.letters j ≠ bAt ty.letters i) ∧ (ty.kind = 63 → ty.in.kind ≠ 63) ∧ (ty.kind = 91 ∨ ty.kind = 63 → tyG n ty.in) ∧ ∀ f ∈ ty.fields, f.1 < 256 ∧ tyG n f.2.1
/-- What may stand behind a text. -/
def DL (st : Bool) (b : Int) : Prop := isD b = false ∧ (st = true → b ≠ 45)
theorem dVal_at {t : ByteArray} : ∀ (m n a : Nat), n < 10 ^ (m + 1) → At t a (decS m n) → dVal t a (decS m n).size = n
  | 0, n, a, hn, h => by
    rw [decS] at h ⊢
    rw [At.one (by omega)] at h
    rw [oneB_size, dVal, dVal, Nat.add_zero, h]; omega
  | m + 1, n, a, hn, h => by
    rw [decS] at h ⊢
    split at h
    · rw [At.one (by omega)] at h
      rw [if_pos (by assumption), oneB_size, dVal, dVal, Nat.add_zero, h]; omega
    · rw [if_neg (by assumption)]
      rw [At.app, At.one (by omega)] at h
      rw [ByteArray.size_append, oneB_size, dVal, dVal_at m (n / 10) a (by rw [Nat.pow_succ] at hn; omega) h.1, h.2]
      omega
theorem pDig_at {t : ByteArray} {n a : Nat} (hn : n ≤ 1000000000000000) (h : At t a (decS 18 n)) (hd : isD (bAt t (a + (decS 18 n).size)) = false) : pDig t a = some ((n : Int), a + (decS 18 n).size) := by
  have hp := decS_pos 18 n
  have hl := decS_len 15 18 n (by omega)
  have hle := h.le
  have e := pDig_mk (s := t) (a := a) (e := a + (decS 18 n).size) (by omega) hle (fun i h1 h2 => by
    have := h.2 (i - a) (by omega)
    rw [show a + (i - a) = i by omega] at this
    rw [this]
    exact isD_mk (decS_dig 18 n (i - a) (by omega) (by omega))) hd (by omega) (fun h1 => by
      have h2 := h.2 0 hp
      rw [Nat.add_zero] at h2
      rw [h2]
      exact decS_first 18 n (by omega) (decS_big 18 n (by omega) (by omega)))
  rw [e, show a + (decS 18 n).size - a = (decS 18 n).size by omega, dVal_at 18 n a (by omega) h]
theorem pNum_at {t : ByteArray} {n : Int} {a : Nat} (h1 : -1000000000000000 ≤ n) (h2 : n ≤ 1000000000000000) (h : At t a (decI n)) (hd : isD (bAt t (a + (decI n).size)) = false) : pNum t a = some (n, a + (decI n).size) := by
  unfold decI at h hd ⊢
  by_cases hn : n < 0
  · rw [if_pos hn] at h hd ⊢
    rw [At.app] at h
    have e1 : (⟨#[45]⟩ : ByteArray).size = 1 := rfl
    rw [e1] at h
    have h45 : bAt t a = 45 := by have := h.1.2 0 (by rw [e1]; omega); rw [Nat.add_zero] at this; rw [this]; rfl
    rw [ByteArray.size_append, e1] at hd ⊢
    unfold pNum
    rw [if_pos h45, pDig_at (by omega) h.2 (by rw [show a + 1 + (decS 18 (-n).toNat).size = a + (1 + (decS 18 (-n).toNat).size) by omega]; exact hd)]
    simp only
    rw [if_neg (by omega)]
    congr 1
    refine Prod.ext ?_ ?_
    · show -((-n).toNat : Int) = n; omega
    · show a + 1 + _ = a + (1 + _); omega
  · rw [if_neg hn] at h hd ⊢
    have hb := decS_dig 18 n.toNat 0 (by omega) (decS_pos _ _)
    have h0 := h.2 0 (decS_pos _ _)
    rw [Nat.add_zero] at h0
    unfold pNum
    rw [if_neg (by rw [h0]; omega), pDig_at (by omega) h hd]
    congr 1
    refine Prod.ext ?_ rfl
    show ((n.toNat : Nat) : Int) = n; omega
theorem encNum_at {st : Bool} {lo hi n : Int} {t : ByteArray} {a : Nat} (hl : -1000000000000000 ≤ lo) (hh : hi ≤ 1000000000000000) (h1 : lo ≤ n) (h2 : n ≤ hi) (h : At t a (decI n)) (hd : DL st (bAt t (a + (decI n).size))) : encNum st lo hi t a = some (numData n, a + (decI n).size) := by
  unfold encNum
  rw [pNum_at (by omega) (by omega) h hd.1]
  simp only
  rw [if_neg (by omega), if_neg (fun hc => hd.2 hc.1 hc.2)]
theorem allS_all {s : ByteArray} : ∀ (m k : Nat), allS s m k = true → ∀ i, i < m → inS (bAt s (k + i)) = true
  | 0, k, h, i, hi => by omega
  | m + 1, k, h, i, hi => by
    rw [allS, Bool.and_eq_true] at h
    cases i with
    | zero => rw [Nat.add_zero]; exact h.1
    | succ i => rw [show k + (i + 1) = k + 1 + i by omega]; exact allS_all m (k + 1) h.2 i (by omega)
theorem encStr_at {s t : ByteArray} {a : Nat} (h1 : s.size ≤ 60) (h2 : allS s s.size 0 = true) (h : At t a (quo ++ s ++ quo)) : encStr t a = some (oneB s.size ++ s, a + (quo ++ s ++ quo).size) := by
  rw [At.app, At.app, ByteArray.size_append, quo_size] at h
  obtain ⟨⟨h3, h4⟩, h5⟩ := h
  have hq : bAt quo 0 = 34 := rfl
  have a0 : bAt t a = 34 := by have := h3.2 0 (by rw [quo_size]; omega); rw [Nat.add_zero] at this; rw [this]; exact hq
  have a1 : bAt t (a + 1 + s.size) = 34 := by have := h5.2 0 (by rw [quo_size]; omega); rw [Nat.add_zero, show a + (1 + s.size) = a + 1 + s.size by omega] at this; rw [this]; exact hq
  have hE := run_unique inS t s.size (a + 1) (a + 1 + s.size) rfl h4.le (fun i hi1 hi2 => by
    have := h4.2 (i - (a + 1)) (by omega)
    rw [show a + 1 + (i - (a + 1)) = i by omega] at this
    rw [this]
    have := allS_all _ _ h2 (i - (a + 1)) (by omega)
    rw [Nat.zero_add] at this; exact this) (by rw [a1]; rfl)
  unfold encStr
  rw [if_pos a0]
  simp only
  rw [hE, if_pos ⟨a1, by omega⟩, show a + 1 + s.size - (a + 1) = s.size by omega, h4.ext, ByteArray.size_append, ByteArray.size_append, quo_size]
  congr 2; omega
theorem pFrom_at {l : ByteArray} {c : Int} {i : Nat} (hb : bAt l i = c) : ∀ (m k : Nat), k ≤ i → i < k + m → (∀ j, k ≤ j → j < i → bAt l j ≠ c) → pFrom l c m k = i
  | 0, k, h1, h2, h3 => by omega
  | m + 1, k, h1, h2, h3 => by
    rw [pFrom]
    by_cases hk : k = i
    · subst hk; rw [if_pos hb]
    · rw [if_neg (h3 k (Nat.le_refl _) (by omega))]
      exact pFrom_at hb m (k + 1) (by omega) (by omega) (fun j hj1 hj2 => h3 j (by omega) hj2)
theorem pOf_at {l : ByteArray} {i : Nat} (hi : i < l.size) (hd : ∀ j, j < i → bAt l j ≠ bAt l i) : pOf l (bAt l i) = i := by
  unfold pOf; exact pFrom_at rfl l.size 0 (Nat.zero_le _) (by omega) (fun j _ hj => hd j hj)
end
section
open Go.RowKit

def sepT : List ByteArray → ByteArray
  | [] => ⟨#[93]⟩
  | x :: xs => ⟨#[44]⟩ ++ (x ++ sepT xs)
theorem itemsT_sep : ∀ (xs : List ByteArray) (k : Nat) (t : ByteArray), itemsT (k + 1) xs t = t ++ sepT xs
  | [], k, t => rfl
  | x :: xs, k, t => by
    rw [itemsT, if_pos (by omega), itemsT_sep xs (k + 1), sepT]
    simp only [ByteArray.append_assoc]
def recT : List (Nat × ByteArray) → ByteArray → ByteArray
  | [], _ => ⟨#[125]⟩
  | p :: ps, mk => (mk ++ (oneB p.1 ++ (⟨#[58]⟩ ++ p.2))) ++ recT ps ⟨#[44]⟩
theorem fldsT_rec : ∀ (ps : List (Nat × ByteArray)) (mk t : ByteArray), fldsT ps mk t = t ++ recT ps mk
  | [], mk, t => rfl
  | p :: ps, mk, t => by
    rw [fldsT, fldsT_rec ps, recT]
    simp only [ByteArray.append_assoc]
theorem at0 {t x : ByteArray} {j : Nat} (h : At t j x) (hx : 1 ≤ x.size) : bAt t j = bAt x 0 := by
  have := h.2 0 hx; rw [Nat.add_zero] at this; exact this
theorem first_app {x y : ByteArray} (h : 1 ≤ x.size) : bAt (x ++ y) 0 = bAt x 0 := bAt_app_left _ _ _ h
theorem sz1 (c : UInt8) : (⟨#[c]⟩ : ByteArray).size = 1 := rfl
theorem sepT_first (xs : List ByteArray) : (bAt (sepT xs) 0 = 93 ∨ bAt (sepT xs) 0 = 44) ∧ 1 ≤ (sepT xs).size := by
  cases xs with
  | nil => exact ⟨.inl rfl, Nat.le_refl _⟩
  | cons x xs =>
    rw [sepT]
    refine ⟨.inr ?_, by rw [ByteArray.size_append, sz1]; omega⟩
    rw [first_app (by rw [sz1]; omega)]; rfl
theorem recT_first (ps : List (Nat × ByteArray)) : (bAt (recT ps ⟨#[44]⟩) 0 = 125 ∨ bAt (recT ps ⟨#[44]⟩) 0 = 44) ∧ 1 ≤ (recT ps ⟨#[44]⟩).size := by
  cases ps with
  | nil => exact ⟨.inl rfl, Nat.le_refl _⟩
  | cons p ps =>
    rw [recT]
    have e : 1 ≤ (⟨#[44]⟩ ++ (oneB p.1 ++ (⟨#[58]⟩ ++ p.2)) : ByteArray).size := by rw [ByteArray.size_append, sz1]; omega
    refine ⟨.inr ?_, by rw [ByteArray.size_append]; omega⟩
    rw [first_app e, first_app (by rw [sz1]; omega)]; rfl
theorem DL_of {st : Bool} {b : Int} (h : b = 93 ∨ b = 44 ∨ b = 125 ∨ b = -1) : DL st b := by
  rcases h with rfl | rfl | rfl | rfl <;> exact ⟨rfl, fun _ => by omega⟩
/-- A text has a first byte, which no closing bracket is; of a type that is no ? it is no _. -/
theorem txt_first : ∀ (n : Nat) (ty : Ty) (v : Val), okV n ty v → tyG n ty → 1 ≤ (txtV n ty v).size ∧ bAt (txtV n ty v) 0 ≠ 93 ∧ (ty.kind ≠ 63 → bAt (txtV n ty v) 0 ≠ 95)
  | 0, ty, v, h, _ => h.elim
  | n + 1, ty, v, h, hg => by
    rcases h with ⟨x, rfl, h⟩ | ⟨s, rfl, h⟩ | ⟨i, rfl, h⟩ | ⟨vs, rfl, h⟩ | ⟨rfl, h⟩ | ⟨v, rfl, h⟩ | ⟨vs, rfl, h⟩
    · rw [txtV_num]
      unfold decI
      split
      · have e1 : 1 ≤ (⟨#[45]⟩ : ByteArray).size := Nat.le_refl _
        refine ⟨by rw [ByteArray.size_append]; omega, ?_, ?_⟩
        · rw [first_app e1]; decide
        · intro _; rw [first_app e1]; decide
      · have h1 := decS_pos 18 x.toNat
        have h2 := decS_dig 18 x.toNat 0 (by omega) h1
        exact ⟨h1, by omega, fun _ => by omega⟩
    · rw [txtV_str]
      have e : bAt (quo ++ s ++ quo) 0 = 34 := by rw [first_app (by rw [ByteArray.size_append, quo_size]; omega), first_app (by rw [quo_size]; omega)]; rfl
      exact ⟨by rw [ByteArray.size_append, ByteArray.size_append, quo_size]; omega, by omega, fun _ => by omega⟩
    · rw [txtV_cho]
      have hl := isL_bd ((hg.1 h.1 i h.2.1).1)
      have e : bAt (oneB (bAt ty.letters i).toNat) 0 = bAt ty.letters i := by rw [bAt_one _ (by omega)]; omega
      exact ⟨by rw [oneB_size]; omega, by omega, fun _ => by omega⟩
    · rw [txtV_lst]
      have e : 1 ≤ (itemsT 0 (vs.map (txtV n ty.in)) ⟨#[91]⟩).size ∧ bAt (itemsT 0 (vs.map (txtV n ty.in)) ⟨#[91]⟩) 0 = 91 := by
        cases vs with
        | nil => exact ⟨by show 1 ≤ (⟨#[91]⟩ ++ ⟨#[93]⟩ : ByteArray).size; decide, rfl⟩
        | cons v vs =>
          rw [List.map_cons, itemsT, itemsT_sep]
          simp only [Nat.lt_irrefl, if_false]
          have e1 : 1 ≤ (⟨#[91]⟩ ++ txtV n ty.in v : ByteArray).size := by rw [ByteArray.size_append, sz1]; omega
          refine ⟨by rw [ByteArray.size_append]; omega, ?_⟩
          rw [first_app e1, first_app (by rw [sz1]; omega)]; rfl
      exact ⟨e.1, by omega, fun _ => by omega⟩
    · rw [txtV_non]
      exact ⟨Nat.le_refl _, by decide, fun hk => absurd h hk⟩
    · rw [txtV_som]
      have := txt_first n ty.in v h.2 (hg.2.2.1 (.inr h.1))
      exact ⟨this.1, this.2.1, fun hk => absurd h.1 hk⟩
    · rw [txtV_rcd, fldsT_rec, ByteArray.empty_append]
      rcases hf : ty.fields with _ | ⟨g, fs⟩
      · exact absurd hf h.2.1
      · rcases vs with _ | ⟨v, vs⟩
        · rw [hf] at h; simp at h
        · rw [List.zip_cons_cons, List.map_cons, recT]
          have e : ∀ y : ByteArray, 1 ≤ (⟨#[123]⟩ ++ y : ByteArray).size := fun y => by rw [ByteArray.size_append, sz1]; omega
          have e1 : ∀ y z : ByteArray, bAt ((⟨#[123]⟩ ++ y : ByteArray) ++ z) 0 = 123 := fun y z => by rw [first_app (e y), first_app (by rw [sz1]; omega)]; rfl
          rw [e1]
          exact ⟨by rw [ByteArray.size_append, ByteArray.size_append, sz1]; omega, by omega, fun _ => by omega⟩
theorem encItems_at {st : Bool} {t : ByteArray} {f : Nat → Option (ByteArray × Nat)} {dv tv : Val → ByteArray} : ∀ (us : List Val) (v : Val) (m c b : Nat) (d : ByteArray), us.length < m → (∀ u, u = v ∨ u ∈ us → ∀ j, At t j (tv u) → DL st (bAt t (j + (tv u).size)) → f j = some (dv u, j + (tv u).size)) →
    At t (b + 1) (tv v ++ sepT (us.map tv)) → encItems f t m c b d = some (oneB (c + us.length) ++ (d ++ (dv v ++ catB (us.map dv))), b + 1 + (tv v ++ sepT (us.map tv)).size)
  | us, v, 0, c, b, d, hm, hf, h => by omega
  | [], v, m + 1, c, b, d, hm, hf, h => by
    rw [At.app] at h
    have h1 : bAt t (b + 1 + (tv v).size) = 93 := by rw [at0 h.2 (Nat.le_refl _)]; rfl
    rw [encItems, hf v (.inl rfl) (b + 1) h.1 (by rw [h1]; exact DL_of (.inl rfl))]
    simp only
    rw [if_pos h1, ByteArray.size_append]
    simp [catB, sepT]
    rfl
  | u :: us, v, m + 1, c, b, d, hm, hf, h => by
    rw [At.app] at h
    have h0 := h
    rw [List.map_cons, sepT, At.app, sz1] at h0
    have h1 : bAt t (b + 1 + (tv v).size) = 44 := by rw [at0 h0.2.1 (Nat.le_refl _)]; rfl
    rw [encItems, hf v (.inl rfl) (b + 1) h.1 (by rw [h1]; exact DL_of (.inr (.inl rfl)))]
    simp only
    rw [if_neg (by rw [h1]; omega), if_pos h1, encItems_at us u m (c + 1) _ _ (by simp at hm; omega) (fun w hw => hf w (.inr (by rcases hw with rfl | hw <;> simp [*]))) h0.2.2]
    congr 2
    · rw [List.length_cons, List.map_cons, catB, show c + 1 + us.length = c + (us.length + 1) by omega]
      simp only [ByteArray.append_assoc]
    · rw [List.map_cons, sepT]
      simp only [ByteArray.size_append, sz1]; omega
theorem encFlds_at {st : Bool} {t : ByteArray} {f : Ty → Nat → Option (ByteArray × Nat)} {dv : Val → ByteArray} {tv : Ty → Val → ByteArray} : ∀ (fs : List (Nat × Ty × ByteArray)) (vs : List Val) (mk : UInt8) (b : Nat) (d : ByteArray), vs.length = fs.length → (∀ g ∈ fs, g.1 < 256) →
    (∀ p ∈ fs.zip vs, ∀ j, At t j (tv p.1.2.1 p.2) → DL st (bAt t (j + (tv p.1.2.1 p.2).size)) → f p.1.2.1 j = some (dv p.2, j + (tv p.1.2.1 p.2).size)) →
    At t b (recT ((fs.zip vs).map fun p => (p.1.1, tv p.1.2.1 p.2)) ⟨#[mk]⟩) → encFlds f t fs (mk.toNat : Int) b d = some (d ++ catB (vs.map dv), b + (recT ((fs.zip vs).map fun p => (p.1.1, tv p.1.2.1 p.2)) ⟨#[mk]⟩).size) ∨ fs = []
  | [], vs, mk, b, d, hl, hg, hf, h => .inr rfl
  | g :: fs, [], mk, b, d, hl, hg, hf, h => by simp at hl
  | g :: fs, v :: vs, mk, b, d, hl, hg, hf, h => by
    left
    simp only [List.zip_cons_cons, List.map_cons, recT] at h ⊢
    have h256 := hg g (by simp)
    have h0 := h
    rw [At.app, At.app, At.app, At.app, At.one h256] at h0
    simp only [ByteArray.size_append, sz1, oneB_size] at h0
    obtain ⟨⟨h1, h2, h3, h4⟩, h5⟩ := h0
    have b0 : bAt t b = (mk.toNat : Int) := by rw [at0 h1 (Nat.le_refl _)]; rfl
    have b2 : bAt t (b + 2) = 58 := by have := at0 h3 (Nat.le_refl _); rw [show b + 1 + 1 = b + 2 by omega] at this; rw [this]; rfl
    have hfirst := recT_first ((fs.zip vs).map fun p => (p.1.1, tv p.1.2.1 p.2))
    rw [show b + 1 + 1 + 1 = b + 3 by omega] at h4
    rw [show b + (1 + (1 + (1 + (tv g.2.1 v).size))) = b + 3 + (tv g.2.1 v).size by omega] at h5
    have hnext : bAt t (b + 3 + (tv g.2.1 v).size) = 125 ∨ bAt t (b + 3 + (tv g.2.1 v).size) = 44 := by rw [at0 h5 hfirst.2]; exact hfirst.1
    rw [encFlds, if_pos ⟨b0, h2, b2⟩, hf (g, v) (by simp) (b + 3) h4 (DL_of (by rcases hnext with h | h; exact .inr (.inr (.inl h)); exact .inr (.inl h)))]
    simp only
    have hsz : (⟨#[mk]⟩ ++ (oneB g.1 ++ (⟨#[58]⟩ ++ tv g.2.1 v)) ++ recT ((fs.zip vs).map fun p => (p.1.1, tv p.1.2.1 p.2)) ⟨#[44]⟩ : ByteArray).size = 3 + (tv g.2.1 v).size + (recT ((fs.zip vs).map fun p => (p.1.1, tv p.1.2.1 p.2)) ⟨#[44]⟩).size := by
      simp only [ByteArray.size_append, sz1, oneB_size]; omega
    rw [hsz]
    rcases encFlds_at (st := st) fs vs 44 (b + 3 + (tv g.2.1 v).size) (d ++ dv v) (by simpa using hl) (fun g' h' => hg g' (by simp [h'])) (fun p hp => hf p (by simp [hp])) h5 with e | e
    · rw [show ((44 : UInt8).toNat : Int) = 44 from rfl] at e
      rw [e, catB]
      congr 2
      · simp only [ByteArray.append_assoc]
      · omega
    · subst e
      obtain rfl : vs = [] := by simpa using hl
      have h125 : bAt t (b + 3 + (tv g.2.1 v).size) = 125 := by rw [at0 h5 hfirst.2]; rfl
      rw [encFlds, if_pos h125]
      simp only [List.zip_nil_left, List.map_nil, recT, catB, sz1, ByteArray.append_empty]
      congr 2
      omega
/-- A value's text is encoded as its data. -/
theorem enc_at {st : Bool} {t : ByteArray} : ∀ (n : Nat) (ty : Ty) (v : Val) (j : Nat), okV n ty v → tyG n ty → At t j (txtV n ty v) → DL st (bAt t (j + (txtV n ty v).size)) → enc st t n ty j = some (datV n v, j + (txtV n ty v).size)
  | 0, ty, v, j, hv, _, _, _ => hv.elim
  | n + 1, ty, v, j, hv, hg, h, hd => by
    have ih := enc_at (st := st) (t := t) n
    have hv0 := hv
    rcases hv with ⟨x, rfl, hv⟩ | ⟨s, rfl, hv⟩ | ⟨i, rfl, hv⟩ | ⟨vs, rfl, hv⟩ | ⟨rfl, hv⟩ | ⟨v, rfl, hv⟩ | ⟨vs, rfl, hv⟩
    · rw [txtV_num] at h hd ⊢
      rw [datV_num]
      rcases hv with ⟨hk, h1, h2⟩ | ⟨hk, h1, h2⟩
      · rw [enc, if_pos hk, encNum_at (by omega) (by omega) h1 h2 h hd]
      · rw [enc, if_neg (by omega), if_pos hk, encNum_at (by omega) (by omega) h1 h2 h hd]
    · rw [txtV_str] at h hd ⊢
      rw [datV_str, enc, if_neg (by omega), if_neg (by omega), if_pos hv.1, encStr_at hv.2.1 hv.2.2 h]
    · have hl := hg.1 hv.1 i hv.2.1
      have hl2 := isL_bd hl.1
      rw [txtV_cho] at h hd ⊢
      rw [At.one (by omega)] at h
      rw [datV_cho, enc, if_neg (by omega), if_neg (by omega), if_neg (by omega), if_pos hv.1]
      have hb : bAt t j = bAt ty.letters i := by omega
      rw [hb, pOf_at hv.2.1 hl.2, if_neg (by omega), oneB_size]
      rfl
    · rw [txtV_lst] at h hd ⊢
      rw [datV_lst, enc, if_neg (by omega), if_neg (by omega), if_neg (by omega), if_neg (by omega), if_pos hv.1]
      unfold encList
      cases vs with
      | nil =>
        simp only [List.map_nil, itemsT] at h hd ⊢
        rw [At.app, sz1] at h
        have b0 : bAt t j = 91 := by rw [at0 h.1 (Nat.le_refl _)]; rfl
        have b1 : bAt t (j + 1) = 93 := by rw [at0 h.2 (Nat.le_refl _)]; rfl
        rw [if_pos b0, if_pos b1]
        simp [catB]
        rfl
      | cons v vs =>
        simp only [List.map_cons, itemsT, itemsT_sep, Nat.lt_irrefl, if_false, ByteArray.append_assoc] at h hd ⊢
        rw [At.app, sz1] at h
        have b0 : bAt t j = 91 := by rw [at0 h.1 (Nat.le_refl _)]; rfl
        have hf := txt_first n ty.in v (hv.2.2 v (by simp)) (hg.2.2.1 (.inl hv.1))
        have b1 : bAt t (j + 1) ≠ 93 := by rw [at0 (At.app.1 h.2).1 hf.1]; exact hf.2.1
        have hl16 : vs.length < 16 := by have := hv.2.1; simp at this; omega
        rw [if_pos b0, if_neg b1, encItems_at (st := st) (dv := datV n) (tv := txtV n ty.in) vs v 16 1 j _ hl16 (fun u hu j h hd => ih ty.in u j (hv.2.2 u (by rcases hu with rfl | hu <;> simp [*])) (hg.2.2.1 (.inl hv.1)) h hd) h.2]
        rw [ByteArray.size_append (a := ⟨#[91]⟩), sz1, List.length_cons, catB, ByteArray.empty_append, Nat.add_comm 1 vs.length, Nat.add_assoc]
    · rw [txtV_non] at h hd ⊢
      have b0 : bAt t j = 95 := by rw [at0 h (Nat.le_refl _)]; rfl
      rw [datV_non, enc, if_neg (by omega), if_neg (by omega), if_neg (by omega), if_neg (by omega), if_neg (by omega), if_pos hv]
      unfold encMaybe
      rw [if_pos b0]; rfl
    · rw [txtV_som] at h hd ⊢
      have hgi := hg.2.2.1 (.inr hv.1)
      have hf := txt_first n ty.in v hv.2 hgi
      have b0 : bAt t j ≠ 95 := by rw [at0 h hf.1]; exact hf.2.2 (hg.2.1 hv.1)
      rw [datV_som, enc, if_neg (by omega), if_neg (by omega), if_neg (by omega), if_neg (by omega), if_neg (by omega), if_pos hv.1]
      unfold encMaybe
      rw [if_neg b0, ih ty.in v j hv.2 hgi h hd]
    · rw [txtV_rcd, fldsT_rec, ByteArray.empty_append] at h hd ⊢
      rw [datV_rcd, enc, if_neg (by omega), if_neg (by omega), if_neg (by omega), if_neg (by omega), if_neg (by omega), if_neg (by omega), if_pos hv.1]
      rcases encFlds_at (st := st) (t := t) (f := enc st t n) (dv := datV n) (tv := txtV n) ty.fields vs 123 j ByteArray.empty hv.2.2.1 (fun g hg' => (hg.2.2.2 g hg').1) (fun p hp j h hd => ih p.1.2.1 p.2 j (hv.2.2.2 p hp) (hg.2.2.2 p.1 (List.of_mem_zip (a := p.1) (b := p.2) hp).1).2 h hd) h with e | e
      · rw [show ((123 : UInt8).toNat : Int) = 123 from rfl] at e
        rw [e, ByteArray.empty_append]
      · exact absurd e hv.2.1
end
section
set_option maxRecDepth 4000
open Go.RowKit

/-- The parts of a type that a schema tells at a place. -/
theorem type_parts {s : ByteArray} {n i k : Nat} {ty : Ty} (h : pType true s n i = some (ty, k)) : bAt s i = ty.kind ∧ ∃ n', n = n' + 1 ∧
    (ty.kind = 60 → rChoice s (i + 1) = some (ty, k)) ∧ (ty.kind = 91 ∨ ty.kind = 63 → ∃ k', pType true s n' (i + 1) = some (ty.in, k')) ∧ (ty.kind = 63 → ty.in.kind ≠ 63) ∧
    (ty.kind = 123 → ∃ k', pFlds (pField (pType true s n') (enc true s n') s) s (s.size - (i + 1)) (i + 1) [] = some (ty.fields, k')) ∧ (ty.kind = 105 ∨ ty.kind = 108 ∨ ty.kind = 115 ∨ ty.kind = 60 ∨ ty.kind = 91 ∨ ty.kind = 63 ∨ ty.kind = 123) := by
  cases n with
  | zero => simp [pType] at h
  | succ n =>
    have his : i < s.size := by have := pType_bd true s _ _ _ _ h; omega
    rw [pType] at h
    split at h
    · rename_i hb; cases h; exact ⟨hb, n, rfl, (fun h => by cases h), (fun h => by rcases h with h | h <;> cases h), (fun h => by cases h), (fun h => by cases h), .inl rfl⟩
    · split at h
      · rename_i hb; cases h; exact ⟨hb, n, rfl, (fun h => by cases h), (fun h => by rcases h with h | h <;> cases h), (fun h => by cases h), (fun h => by cases h), .inr (.inl rfl)⟩
      · split at h
        · rename_i hb; cases h; exact ⟨hb, n, rfl, (fun h => by cases h), (fun h => by rcases h with h | h <;> cases h), (fun h => by cases h), (fun h => by cases h), .inr (.inr (.inl rfl))⟩
        · split at h
          · rename_i hb
            rw [pChoice_eq s (i + 1) (by omega)] at h
            have hk := (rChoice_form h).1
            rw [hb, hk]
            exact ⟨rfl, n, rfl, fun _ => h, (fun h => by omega), (fun h => by omega), (fun h => by omega), by omega⟩
          · split at h
            · rename_i hb
              unfold pList at h
              split at h
              · cases h
              · rename_i t k' ht
                split at h
                · cases h
                  exact ⟨hb, n, rfl, (fun h => by cases h), fun _ => ⟨k', ht⟩, (fun h => by cases h), (fun h => by cases h), .inr (.inr (.inr (.inr (.inl rfl))))⟩
                · cases h
            · split at h
              · rename_i hb
                unfold pMaybe at h
                split at h
                · cases h
                · rename_i t k' ht
                  split at h
                  · cases h
                  · rename_i hne
                    cases h
                    exact ⟨hb, n, rfl, (fun h => by cases h), fun _ => ⟨_, ht⟩, fun _ => hne, (fun h => by cases h), .inr (.inr (.inr (.inr (.inr (.inl rfl)))))⟩
              · split at h
                · rename_i hb
                  unfold pRec at h
                  split at h
                  · cases h
                  · rename_i fs k' hfs
                    cases h
                    exact ⟨hb, n, rfl, (fun h => by cases h), (fun h => by rcases h with h | h <;> cases h), (fun h => by cases h), fun _ => ⟨_, hfs⟩, .inr (.inr (.inr (.inr (.inr (.inr rfl)))))⟩
                · cases h
theorem rChoice_op {s : ByteArray} {a k : Nat} {ty : Ty} (ha : a ≤ s.size) (h : rChoice s a = some (ty, k)) : ty.letters = s.extract a (runEnd isL s (s.size - a) a) ∧ runEnd isL s (s.size - a) a = a + ty.letters.size ∧ 1 ≤ ty.letters.size ∧ ty.letters.size ≤ 8 ∧ ty.op = (bAt s (a + ty.letters.size) == 43) := by
  obtain ⟨_, h2, h3⟩ := rChoice_form h
  have hle := run_le isL s (s.size - a) a
  have hsz : ty.letters.size = runEnd isL s (s.size - a) a - a := by rw [h2, ByteArray.size_extract]; omega
  unfold rChoice at h
  simp only at h
  generalize hE : runEnd isL s (s.size - a) a = E at h hle hsz h2
  split at h
  · cases h
  · rename_i hc
    have he : E = a + ty.letters.size := by omega
    refine ⟨h2, he, by omega, h3, ?_⟩
    rw [← he]
    split at h
    · rename_i h43
      split at h
      · simp only [Option.some.injEq, Prod.mk.injEq] at h; rw [← h.1, h43]; rfl
      · cases h
    · rename_i h43
      split at h
      · simp only [Option.some.injEq, Prod.mk.injEq] at h; rw [← h.1]; simp [h43]
      · cases h

set_option maxHeartbeats 1000000 in
theorem open_any {s : ByteArray} {i k : Nat} {ty : Ty} (hs : s.size ≤ 4096) (hi : i < s.size) (h : rChoice s (i + 1) = some (ty, k)) (w : World) :
    Calls Tryd.prog 82 #[.string s, .int .i64 i] w fun e w' => e = .returned (.bool ty.op) ∧ w = w' := by
  have _hs : s.size ≤ 9000000 := by omega
  obtain ⟨h1, h2, h3, h4, h5⟩ := rChoice_op (by omega) h
  have hl : ∀ w, Calls Tryd.prog 36 #[.string s, .int .i64 i] w fun e w' => e = .returned (.string ty.letters) ∧ w = w' := fun w => by rw [h1]; exact flipW (letters_any s i w _hs hi)
  have hat : ∀ w, Calls Tryd.prog 61 #[.string s, .int .i64 ((i : Int) + 1 + (ty.letters.size : Int)), .int .u8 43] w fun e w' => e = .returned (.bool ty.op) ∧ w = w' := fun w => by
    have := flipW (at_any s ((i : Int) + 1 + (ty.letters.size : Int)) 43 w (by omega) _hs)
    rw [atB_of (i := i + 1 + ty.letters.size) (by omega), ← h5] at this; exact this
  clear h h1 h2 h5
  go_enter Tryd.func82, Tryd.ntmps82
  go_wp2_with (first | (go_at_call 36; refine (hl _).mono ?_; rintro e _ ⟨rfl, rfl⟩) | (go_at_call 61; refine (hat _).mono ?_; rintro e _ ⟨rfl, rfl⟩))
  go_ret
  exact ⟨rfl, rfl⟩

def sRet : Option ByteArray → Value
  | some t => .tuple #[.string t, .bool true]
  | none => .tuple #[.string ByteArray.empty, .bool false]
set_option maxHeartbeats 1000000 in
theorem seenChoice_any {s : ByteArray} {i k : Nat} {ty : Ty} (hs : s.size ≤ 4096) (hi : i < s.size) (h : rChoice s (i + 1) = some (ty, k)) (c : Nat) (hc : c < 256) (w : World) :
    Calls Tryd.prog 46 #[.int .u8 c, .string s, .int .i64 i] w fun e w' => e = .returned (sRet (if pOf ty.letters c < 0 then (if ty.op = true then some (ty.letters.extract 0 1) else none) else some (oneB c))) ∧ Below w.heap.size w w' := by
  have _hs : s.size ≤ 9000000 := by omega
  have ho := fun w => open_any hs hi h w
  obtain ⟨h1, h2, h3, h4, h5⟩ := rChoice_op (by omega) h
  have hl : ∀ w, Calls Tryd.prog 36 #[.string s, .int .i64 i] w fun e w' => e = .returned (.string ty.letters) ∧ w = w' := fun w => by rw [h1]; exact flipW (letters_any s i w _hs hi)
  obtain ⟨L, hL⟩ : ∃ L, L = ty.letters := ⟨_, rfl⟩
  rw [← hL] at h3 h4 hl ⊢
  obtain ⟨o, hO⟩ : ∃ o, o = ty.op := ⟨_, rfl⟩
  rw [← hO] at ho ⊢
  have HP : Hid (pOf L c = pFrom L c (L.size - 0) 0) := rfl
  obtain ⟨O, hOO⟩ : ∃ O, O = (if pOf L c < 0 then (if o = true then some (L.extract 0 1) else none) else some (oneB c) : Option ByteArray) := ⟨_, rfl⟩
  rw [← hOO]
  have HO : Hid (O = (if pOf L c < 0 then (if o = true then some (L.extract 0 1) else none) else some (oneB c) : Option ByteArray)) := hOO
  clear hOO
  clear h h1 h2 h5 hL hO
  go_enter Tryd.func46, Tryd.ntmps46
  go_wp2_with (first | (go_at_call 36; refine (hl _).mono ?_; rintro e _ ⟨rfl, rfl⟩) | (go_at_call 82; refine (ho _).mono ?_; rintro e _ ⟨rfl, rfl⟩))
  go_loop [10] (fun v => ∃ x : Nat, x ≤ L.size ∧ v = .int .i64 x ∧ Hid (pOf L c = pFrom L c (L.size - x) x)) (fun v => L.size - (intOf v).toNat)
  case atStart => exact ⟨0, Nat.zero_le _, rfl, HP⟩
  case round =>
    obtain ⟨x, hx, rfl, hp⟩ := hrel
    by_cases hlt : x < L.size
    · have hbx : Hid (bAt L x = L[x].toNat) := bAt_in L x hlt
      by_cases heq : L[x].toNat = c
      · have heq' : ((L[x].toNat : Int) == (c : Int)) = true := by simp [heq]
        have hr' : Hid (O = some (L.extract x (x + 1))) := by
          show _ = _
          rw [HO.out, pFrom_hit L c x hp.out hlt (by rw [hbx.out, heq]), if_neg (by omega), extract_oneB L x hlt, hbx.out, heq]; rfl
        clear heq
        go_wp2_with fail
        go_ret2
        rw [hr'.out]
        exact ⟨rfl, Below.refl _ _⟩
      · have heq' : ((L[x].toNat : Int) == (c : Int)) = false := by simp; omega
        have hp2 : Hid (pOf L c = pFrom L c (L.size - (x + 1)) (x + 1)) := pFrom_miss L c x hp.out hlt (by rw [hbx.out]; omega)
        go_wp2_with fail
        go_round
        case rel => exact ⟨x + 1, by omega, by go_num, hp2⟩
        case measure => simp [intOf]; omega
    · have hno : pOf L c = -1 := pFrom_end L c x hp.out hlt
      have h0 : (0 : Int) < (L.size : Int) := by omega
      cases o with
      | true =>
        have hr' : Hid (O = some (L.extract 0 1)) := by show _ = _; rw [HO.out, if_pos (by omega)]; rfl
        clear hno
        go_wp2_with fail
        go_ret2
        rw [hr'.out]
        exact ⟨rfl, Below.refl _ _⟩
      | false =>
        have hr' : Hid (O = none) := by show _ = _; rw [HO.out, if_pos (by omega)]; rfl
        clear hno
        go_wp2_with fail
        go_ret2
        rw [hr'.out]
        exact ⟨rfl, Below.refl _ _⟩
end
section
open Go.RowKit

/-- The letters of the fields of records are different, all the way down. -/
def tyN : Nat → Ty → Prop
  | 0, _ => True
  | n + 1, ty => (ty.fields.map (·.1)).Nodup ∧ (ty.kind = 91 ∨ ty.kind = 63 → tyN n ty.in) ∧ ∀ f ∈ ty.fields, tyN n f.2.1
theorem pFlds_G {pf : Nat → Option ((Nat × Ty × ByteArray) × Nat)} {s : ByteArray} {Q : (Nat × Ty × ByteArray) → Prop} (hp : ∀ i f k, pf i = some (f, k) → Q f) :
    ∀ (m a : Nat) (acc fs : List (Nat × Ty × ByteArray)) (k : Nat), pFlds pf s m a acc = some (fs, k) → (∀ f ∈ acc, Q f) → (acc.map (·.1)).Nodup → (∀ f ∈ fs, Q f) ∧ (fs.map (·.1)).Nodup
  | 0, a, acc, fs, k, h, _, _ => by simp [pFlds] at h
  | m + 1, a, acc, fs, k, h, hq, hn => by
    rw [pFlds] at h
    split at h
    · cases h
    · rename_i f k' hf
      split at h
      · cases h
      · rename_i hany
        have hq' : ∀ g ∈ acc ++ [f], Q g := fun g hg => by
          rcases List.mem_append.1 hg with hg | hg
          · exact hq g hg
          · rw [List.mem_singleton.1 hg]; exact hp _ _ _ hf
        have hn' : ((acc ++ [f]).map (·.1)).Nodup := by
          rw [List.map_append, List.nodup_append]
          refine ⟨hn, by simp, fun a ha b hb => ?_⟩
          obtain ⟨g, hg, rfl⟩ := List.mem_map.1 ha
          simp at hb
          subst hb
          intro he
          apply hany
          rw [List.any_eq_true]
          exact ⟨g, hg, by simp [he]⟩
        split at h
        · cases h; exact ⟨hq', hn'⟩
        · split at h
          · exact pFlds_G hp m _ _ _ _ h hq' hn'
          · cases h
theorem type_good {s : ByteArray} : ∀ (n i : Nat) (ty : Ty) (k : Nat), pType true s n i = some (ty, k) → tyG n ty ∧ tyN n ty
  | 0, i, ty, k, h => by simp [pType] at h
  | n + 1, i, ty, k, h => by
    have ih := type_good (s := s) n
    have his : i < s.size := by have := pType_bd true s _ _ _ _ h; omega
    obtain ⟨_, n', hn, h60, hin, hne, h123, hk⟩ := type_parts h
    obtain rfl : n' = n := by omega
    have hfs : (∀ f ∈ ty.fields, f.1 < 256 ∧ tyG n' f.2.1 ∧ tyN n' f.2.1) ∧ (ty.fields.map (·.1)).Nodup := by
      by_cases h3 : ty.kind = 123
      · obtain ⟨k', hk'⟩ := h123 h3
        exact pFlds_G (Q := fun f => f.1 < 256 ∧ tyG n' f.2.1 ∧ tyN n' f.2.1) (fun i f k hf => by
          have h256 := pField_256 hf
          unfold pField at hf
          split at hf
          · split at hf
            · cases hf
            · rename_i t k' ht
              have h1 := ih _ _ _ ht
              split at hf
              · split at hf
                · cases hf
                · cases hf; exact ⟨h256, h1.1, h1.2⟩
              · cases hf; exact ⟨h256, h1.1, h1.2⟩
          · cases hf) _ _ _ _ _ hk' (fun f hf => absurd hf List.not_mem_nil) (by simp)
      · have : ty.fields = [] := by
          rw [pType] at h
          split at h
          · cases h; rfl
          · split at h
            · cases h; rfl
            · split at h
              · cases h; rfl
              · split at h
                · rw [pChoice_eq s (i + 1) (by omega)] at h
                  unfold rChoice at h
                  simp only at h
                  split at h
                  · cases h
                  · split at h
                    · split at h
                      · cases h; rfl
                      · cases h
                    · split at h
                      · cases h; rfl
                      · cases h
                · split at h
                  · unfold pList at h
                    split at h
                    · cases h
                    · split at h
                      · cases h; rfl
                      · cases h
                  · split at h
                    · unfold pMaybe at h
                      split at h
                      · cases h
                      · split at h
                        · cases h
                        · cases h; rfl
                    · split at h
                      · unfold pRec at h
                        split at h
                        · cases h
                        · cases h; exact absurd rfl h3
                      · cases h
        rw [this]
        exact ⟨fun f hf => absurd hf List.not_mem_nil, by simp⟩
    have hinn : ty.kind = 91 ∨ ty.kind = 63 → tyG n' ty.in ∧ tyN n' ty.in := fun h => by
      obtain ⟨k', hk'⟩ := hin h
      exact ih _ _ _ hk'
    refine ⟨⟨fun h6 j hj => ?_, hne, fun h => (hinn h).1, fun f hf => ⟨(hfs.1 f hf).1, (hfs.1 f hf).2.1⟩⟩, hfs.2, fun h => (hinn h).2, fun f hf => (hfs.1 f hf).2.2⟩
    have hr := h60 h6
    obtain ⟨l1, l2, l3, l4, l5⟩ := rChoice_op (by omega) hr
    have hle := run_le isL s (s.size - (i + 1)) (i + 1)
    have hb : ∀ q, q < ty.letters.size → bAt ty.letters q = bAt s (i + 1 + q) := fun q hq => by
      rw [l1, bAt_ext s (i + 1) _ q (by omega) (by omega)]
    constructor
    · rw [hb j hj]
      exact run_all isL s (s.size - (i + 1)) (i + 1) (i + 1 + j) (by omega) (by omega)
    · intro q hq he
      unfold rChoice at hr
      simp only at hr
      split at hr
      · cases hr
      · rename_i hc
        apply hc
        refine .inr (.inr ?_)
        rw [← l1]
        exact tw_true hq hj he.symm
theorem rdItems_txt {f : Val → Option ByteArray} {tv : Val → ByteArray} : ∀ (vs : List Val) (k : Nat) (t : ByteArray), (∀ v ∈ vs, f v = some (tv v)) → rdItems f vs k t = some (itemsT k (vs.map tv) t)
  | [], k, t, h => rfl
  | v :: vs, k, t, h => by
    rw [rdItems, h v (by simp)]
    simp only
    rw [rdItems_txt vs (k + 1) _ (fun v hv => h v (by simp [hv])), List.map_cons, itemsT]
theorem rdFlds_txt {f : Nat × Ty × ByteArray → Option ByteArray} {tv : Ty → Val → ByteArray} : ∀ (fs : List (Nat × Ty × ByteArray)) (vs : List Val) (mk t : ByteArray), vs.length = fs.length → (∀ p ∈ fs.zip vs, f p.1 = some (tv p.1.2.1 p.2)) → rdFlds f fs mk t = some (fldsT ((fs.zip vs).map fun p => (p.1.1, tv p.1.2.1 p.2)) mk t)
  | [], vs, mk, t, hl, h => by cases vs <;> rfl
  | g :: fs, [], mk, t, hl, h => by simp at hl
  | g :: fs, v :: vs, mk, t, hl, h => by
    rw [rdFlds, h (g, v) (by simp)]
    simp only
    rw [rdFlds_txt fs vs _ _ (by simpa using hl) (fun p hp => h p (by simp [hp])), List.zip_cons_cons, List.map_cons, fldsT]
theorem find_self : ∀ (fs : List (Nat × Ty × ByteArray)) (vs : List Val), vs.length = fs.length → (fs.map (·.1)).Nodup → ∀ p ∈ fs.zip vs, (fs.zip vs).find? (fun q => q.1.1 == p.1.1) = some p
  | [], vs, hl, hn, p, hp => by simp at hp
  | g :: fs, [], hl, hn, p, hp => by simp at hl
  | g :: fs, v :: vs, hl, hn, p, hp => by
    rw [List.zip_cons_cons] at hp ⊢
    rw [List.map_cons, List.nodup_cons] at hn
    rw [List.find?_cons]
    rcases List.mem_cons.1 hp with rfl | hp
    · simp
    · have hne : ((g, v).1.1 == p.1.1) = false := by
        have : p.1 ∈ fs := (List.of_mem_zip (a := p.1) (b := p.2) hp).1
        have h2 : g.1 ≠ p.1.1 := fun he => hn.1 (List.mem_map.2 ⟨p.1, this, he.symm⟩)
        simpa using h2
      rw [hne]
      exact find_self fs vs (by simpa using hl) hn.2 p hp
/-- A value is read by its own type as it is. -/
theorem rd_self : ∀ (n m : Nat) (ty : Ty) (v : Val), okV n ty v → tyG n ty → tyN n ty → n + n ≤ m → rdT m ty ty v = some (txtV n ty v)
  | 0, m, ty, v, h, _, _, _ => h.elim
  | n + 1, 0, ty, v, h, _, _, hm => by omega
  | n + 1, 1, ty, v, h, _, _, hm => by omega
  | n + 1, m + 2, ty, v, h, hg, hn, hm => by
    show rdStep (rdT (m + 1)) ty ty v = _
    unfold rdStep
    rcases h with ⟨x, rfl, h⟩ | ⟨s, rfl, h⟩ | ⟨i, rfl, h⟩ | ⟨vs, rfl, h⟩ | ⟨rfl, h⟩ | ⟨u, rfl, h⟩ | ⟨vs, rfl, h⟩
    · rw [if_neg (by omega), if_neg (by omega), if_pos (by rcases h with h | h <;> simp [sameK, h.1])]; rfl
    · rw [if_neg (by omega), if_neg (by omega), if_pos (by simp [sameK, h.1])]; rfl
    · rw [if_neg (by omega), if_neg (by omega), if_neg (by simp [sameK, h.1]), if_neg (by simp)]
      show rdCho ty.letters ty.letters ty.op i = _
      unfold rdCho
      rw [pOf_at h.2.1 (hg.1 h.1 i h.2.1).2, if_neg (by omega), txtV_cho]
    · rw [if_neg (by omega), if_neg (by omega), if_neg (by simp [sameK, h.1]), if_neg (by simp)]
      show rdItems (rdT (m + 1) ty.in ty.in) vs 0 ⟨#[91]⟩ = _
      rw [rdItems_txt (tv := txtV n ty.in) vs 0 _ (fun v hv => rd_self n (m + 1) ty.in v (h.2.2 v hv) (hg.2.2.1 (.inl h.1)) (hn.2.1 (.inl h.1)) (by omega)), txtV_lst]
    · rw [if_pos h]
      show (if ty.kind = 63 then some (⟨#[95]⟩ : ByteArray) else none) = _
      rw [if_pos h]; rfl
    · rw [if_pos h.1]
      show rdStep (rdT m) ty.in ty u = _
      unfold rdStep
      rw [if_neg (hg.2.1 h.1), if_pos h.1, rd_self n m ty.in u h.2 (hg.2.2.1 (.inr h.1)) (hn.2.1 (.inr h.1)) (by omega), txtV_som]
    · rw [if_neg (by omega), if_neg (by omega), if_neg (by simp [sameK, h.1]), if_neg (by simp)]
      show rdFlds (rdFld (rdT (m + 1)) (ty.fields.zip vs)) ty.fields ⟨#[123]⟩ ByteArray.empty = _
      rw [rdFlds_txt (tv := txtV n) ty.fields vs _ _ h.2.2.1 (fun p hp => by
        unfold rdFld
        rw [find_self ty.fields vs h.2.2.1 hn.1 p hp]
        have hpf := (List.of_mem_zip (a := p.1) (b := p.2) hp).1
        exact rd_self n (m + 1) p.1.2.1 p.2 (h.2.2.2 p hp) (hg.2.2.2 p.1 hpf).2 (hn.2.2 p.1 hpf) (by omega)), txtV_rcd]
end
section
set_option maxRecDepth 4000
open Go.RowKit

def outU : Option ByteArray → ByteArray
  | none => ByteArray.empty
  | some t => t
theorem uR_eq (o : Option ByteArray) : uR o = .tuple #[.string (outU o), .bool o.isSome] := by cases o <;> rfl
theorem iB {a b : Nat} (h : a = b) : ((a : Int) == (b : Int)) = true := by simp; omega
theorem iN {a b : Nat} (h : a ≠ b) : ((a : Int) == (b : Int)) = false := by simp; omega

theorem unr_succ {m : Nat} (IH : UnrOK m) : UnrOK (m + 1) := by
  intro nw nr x r w ai af li ci lf cf bi bf mi di mf df hm hk hwt hx hr
  cases nw with
  | zero => exact hx.elim
  | succ n =>
  cases nr with
  | zero => exact hr.elim
  | succ q =>
  show Calls _ _ _ _ (fun e w' => e = .returned (uR ((unStep (unV m n) (unV m (n + 1)) n x r).map (txtV (n + 1) x))) ∧ Below w.heap.size w w')
  rw [uR_eq]
  have hx8 : x.letters.size ≤ 8 := hx.1
  have hr8 : r.letters.size ≤ 8 := hr.1
  have hinx := fun (hne : x.inner ≠ []) (W : World) (hb : Below w.heap.size w W) => inner_any n W ai af li ci lf cf x (hx.keep hb) hne
  have hinr := fun (hne : r.inner ≠ []) (W : World) (hb : Below w.heap.size w W) => inner_any q W bi bf mi di mf df r (hr.keep hb) hne
  by_cases hr63 : r.kind = 63
  · have hnr : r.inner ≠ [] := hr.2.2.2.1.1 (.inr hr63)
    by_cases hx63 : x.kind = 63
    · have hi := hk.2.2.1 (.inr hx63)
      have hwi := wtI (m := n) hi.1
      rw [show (unStep (unV m n) (unV m (n + 1)) n x r).map (txtV (n + 1) x) = (unV m n x.in r.in).map (txtV n x.in) by unfold unStep; rw [if_pos ⟨hx63, hr63⟩, Option.map_map]; rfl]
      refine un_both x r w ai li ci af lf cf bi mi di bf mf df _ _ (iB hx63) (iB hr63) n q (hinx hi.1) (hinr hnr) (fun W p1 p2 p3 p4 p5 p6 q1 q2 q3 q4 q5 q6 hb hp hq => ?_)
      have := IH n q x.in r.in W p1 p4 p2 p3 p5 p6 q1 q4 q2 q3 q5 q6 (by omega) hi.2 (by omega) hp hq
      rw [uR_eq] at this; exact this
    · rw [show unStep (unV m n) (unV m (n + 1)) n x r = unV m (n + 1) x r.in by unfold unStep; rw [if_neg (fun h => hx63 h.1), if_pos hr63]]
      refine un_rdr x r w ai li ci af lf cf bi mi di bf mf df _ _ (iN hx63) (iB hr63) q (hinr hnr) (fun W p1 p2 p3 p4 p5 p6 hb hp => ?_)
      have := IH (n + 1) q x r.in W ai af li ci lf cf p1 p4 p2 p3 p5 p6 (by omega) hk hwt (hx.keep hb) hp
      rw [uR_eq] at this; exact this
  · have hst : unStep (unV m n) (unV m (n + 1)) n x r = if sameK x.kind r.kind = true then none else if x.kind ≠ r.kind then some (lv (n + 1) x) else if x.kind = 60 then (unL x.letters r.letters r.op x.letters.size 0).map Val.cho else if x.kind = 91 then (unV m n x.in r.in).map fun u => .lst [u] else if x.kind = 123 then unF (unV m n) n x.fields r.fields else none := by
      unfold unStep; rw [if_neg (fun h => hr63 h.2), if_neg hr63]
    have h2 := iN (b := 63) hr63
    cases hs : sameK x.kind r.kind with
    | true =>
      rw [hst, if_pos hs]
      have hx63 : x.kind ≠ 63 := by simp [sameK] at hs; omega
      exact un_sameb x r w ai li ci af lf cf bi mi di bf mf df _ _ (iN hx63) h2 hs rfl rfl
    | false =>
      have hs' : ¬ sameK x.kind r.kind = true := by rw [hs]; simp
      by_cases hkk : x.kind = r.kind
      · have hx63 : x.kind ≠ 63 := by omega
        have h1 := iN (b := 63) hx63
        have h3 : ((x.kind : Int) != (r.kind : Int)) = false := by simp; omega
        rw [hst, if_neg hs', if_neg (by simp [hkk])]
        rcases hk.1 with h | h | h | h | h | h | h
        · exfalso; rw [← hkk, h] at hs; cases hs
        · exfalso; rw [← hkk, h] at hs; cases hs
        · exfalso; rw [← hkk, h] at hs; cases hs
        · rw [if_pos h, Option.map_map]
          refine un_cho x r w ai li ci af lf cf bi mi di bf mf df _ _ h1 h2 hs h3 (iB h) (fun W hb => ?_)
          have := unreadableLetter_any x r ai li ci af lf cf bi mi di bf mf df W hx8 hr8
          refine this.mono (fun e w' he => ⟨?_, he.2⟩)
          rw [he.1]
          cases unL x.letters r.letters r.op x.letters.size 0 <;> rfl
        · have hi := hk.2.2.1 (.inl h)
          have hnr : r.inner ≠ [] := hr.2.2.2.1.1 (.inl (by omega))
          have hwi := wtI (m := n) hi.1
          rw [if_neg (by omega), if_pos h, Option.map_map]
          refine un_lst x r w ai li ci af lf cf bi mi di bf mf df _ _ h1 h2 hs h3 (iN (b := 60) (by omega)) (iB h) n q (hinx hi.1) (hinr hnr) (fun W p1 p2 p3 p4 p5 p6 q1 q2 q3 q4 q5 q6 hb hp hq => ?_)
          cases hu : unV m n x.in r.in with
          | none =>
            have := unreadableList_walk x.in r.in W p1 p2 p3 p4 p5 p6 q1 q2 q3 q4 q5 q6 ByteArray.empty false (Nat.zero_le _) (fun W' hb' => by
              have := IH n q x.in r.in W' p1 p4 p2 p3 p5 p6 q1 q4 q2 q3 q5 q6 (by omega) hi.2 (by omega) (hp.keep hb') (hq.keep hb')
              rw [hu] at this; exact this)
            exact this
          | some u =>
            have hus := un_size m n x.in r.in u hi.2 hu
            have := unreadableList_walk x.in r.in W p1 p2 p3 p4 p5 p6 q1 q2 q3 q4 q5 q6 (txtV n x.in u) true (by omega) (fun W' hb' => by
              have := IH n q x.in r.in W' p1 p4 p2 p3 p5 p6 q1 q4 q2 q3 q5 q6 (by omega) hi.2 (by omega) (hp.keep hb') (hq.keep hb')
              rw [hu] at this; exact this)
            exact this
        · omega
        · rw [if_neg (by omega), if_neg (by omega), if_pos h]
          have hfx := hx.flds
          have hfr := hr.flds
          refine un_rcd x r w ai li ci af lf cf bi mi di bf mf df _ _ h1 h2 hs h3 (iN (b := 60) (by omega)) (iN (b := 91) (by omega)) (iB h) (fun W hb => ?_)
          have := unreadableRecord_any IH n q (by omega) x r.fields W af bf lf cf mf df hfx.1 hfr.1 hfx.2.1 hfr.2.1 (hx.2.2.2.1.2 h) hk.2.2.2 (by rw [wt] at hwt; omega) (hx.keep hb).flds.2.2 (hr.keep hb).flds.2.2
          rw [uR_eq] at this; exact this
      · have h3 : ((x.kind : Int) != (r.kind : Int)) = true := by simp; omega
        rw [hst, if_neg hs', if_pos hkk]
        by_cases hx63 : x.kind = 63
        · exact un_diffa x r w ai li ci af lf cf bi mi di bf mf df _ _ (iB hx63) h2 hs h3 rfl (fun W hb => least_all (n + 1) x W ai af li ci lf cf hk hwt (hx.keep hb))
        · exact un_diffb x r w ai li ci af lf cf bi mi di bf mf df _ _ (iN hx63) h2 hs h3 rfl (fun W hb => least_all (n + 1) x W ai af li ci lf cf hk hwt (hx.keep hb))
theorem unr_all : ∀ m, UnrOK m
  | 0 => fun nw nr x r w ai af li ci lf cf bi bf mi di mf df hm hk hwt hx hr => by
    obtain rfl : nw = 0 := by omega
    exact hx.elim
  | m + 1 => unr_succ (unr_all m)

theorem fields_nil {s : ByteArray} {n i k : Nat} {ty : Ty} (h : pType true s (n + 1) i = some (ty, k)) (h3 : ¬ ty.kind = 123) : ty.fields = [] := by
  have his : i < s.size := by have := pType_bd true s _ _ _ _ h; omega
  rw [pType] at h
  split at h
  · cases h; rfl
  · split at h
    · cases h; rfl
    · split at h
      · cases h; rfl
      · split at h
        · rw [pChoice_eq s (i + 1) (by omega)] at h
          unfold rChoice at h
          simp only at h
          split at h
          · cases h
          · split at h
            · split at h
              · cases h; rfl
              · cases h
            · split at h
              · cases h; rfl
              · cases h
        · split at h
          · unfold pList at h
            split at h
            · cases h
            · split at h
              · cases h; rfl
              · cases h
          · split at h
            · unfold pMaybe at h
              split at h
              · cases h
              · split at h
                · cases h
                · cases h; rfl
            · split at h
              · unfold pRec at h
                split at h
                · cases h
                · cases h; exact absurd rfl h3
              · cases h
theorem type_K {s : ByteArray} : ∀ (n i : Nat) (ty : Ty) (k : Nat), pType true s n i = some (ty, k) → tyK n ty
  | 0, i, ty, k, h => by simp [pType] at h
  | n + 1, i, ty, k, h => by
    have ih := type_K (s := s) n
    have his : i < s.size := by have := pType_bd true s _ _ _ _ h; omega
    obtain ⟨_, n', hn, h60, hin, hne, h123, hk⟩ := type_parts h
    obtain rfl : n' = n := by omega
    have hg := type_good _ _ _ _ h
    refine ⟨hk, fun h6 => (rChoice_op (by omega) (h60 h6)).2.2.1, fun hh => ?_, fun f hf => ?_⟩
    · obtain ⟨k', hk'⟩ := hin hh
      refine ⟨fun hi => ?_, ih _ _ _ hk'⟩
      have : ty.in = plainTy 0 := by unfold Ty.in; rw [hi]; rfl
      rw [this] at hk'
      obtain ⟨_, _, _, _, _, _, _, h7⟩ := type_parts hk'
      have h0 : (plainTy 0).kind = 0 := rfl
      omega
    · have h3 : ty.kind = 123 := by
        rcases Nat.lt_or_ge 0 0 with h | _
        · omega
        · apply Classical.byContradiction
          intro h3
          have : ty.fields = [] := fields_nil h h3
          rw [this] at hf; exact absurd hf List.not_mem_nil
      obtain ⟨k', hk'⟩ := h123 h3
      exact (pFlds_G (Q := fun f => f.1 < 256 ∧ tyK n' f.2.1) (fun i f k hf => by
          have h256 := pField_256 hf
          unfold pField at hf
          split at hf
          · split at hf
            · cases hf
            · rename_i t k' ht
              have h1 := ih _ _ _ ht
              split at hf
              · split at hf
                · cases hf
                · cases hf; exact ⟨h256, h1⟩
              · cases hf; exact ⟨h256, h1⟩
          · cases hf) _ _ _ _ _ hk' (fun f hf => absurd hf List.not_mem_nil) (by simp)).1 f hf
theorem pAll_sm {st : Bool} {s : ByteArray} {ty : Ty} (hx : pAll st s = some ty) : pType st s s.size 0 = some (ty, s.size) := by
  unfold pAll at hx
  rcases hq : pType st s s.size 0 with _ | ⟨ty', k⟩
  · rw [hq] at hx; cases hx
  · rw [hq] at hx; simp only at hx
    split at hx
    · rename_i h; cases hx; rw [h]
    · cases hx
end
section
set_option maxRecDepth 4000
open Go.RowKit

set_option maxHeartbeats 1000000 in
theorem Fits_err (s t : ByteArray) (w : World) (n : Int) (hn : (n != 0) = true)
    (hcall : ∀ w, Calls Tryd.prog 26 #[.string s, .string t] w fun e w' => e = .returned (.tuple #[.agg #[.int .i64 0, .string ByteArray.empty, .bool false, .slice none 0 0, .slice none 0 0], .agg #[.int .i64 0, .string ByteArray.empty, .bool false, .slice none 0 0, .slice none 0 0], .int .i64 n]) ∧ Below w.heap.size w w') :
    Calls Tryd.prog 18 #[.string s, .string t] w fun e w' => e = .returned (.tuple #[.string ByteArray.empty, .int .i64 n]) ∧ Below w.heap.size w w' := by
  go_enter Tryd.func18, Tryd.ntmps18
  go_wp2_with (go_at_call 26; refine (hcall _).mono ?_; rintro e w1 ⟨rfl, hb1⟩)
  go_ret2
  exact ⟨rfl, Below.alloc' (Below.alloc' hb1 _) _⟩
set_option maxHeartbeats 1000000 in
theorem Fits_walk (s t y : ByteArray) (b : Bool) (w : World) (x r : Ty) (n m : Nat)
    (hcall : ∀ w, Calls Tryd.prog 26 #[.string s, .string t] w fun e w' => ∃ ai li ci af lf cf bi mi di bf mf df, e = .returned (.tuple #[.agg #[.int .i64 x.kind, .string x.letters, .bool x.op, .slice ai li ci, .slice af lf cf], .agg #[.int .i64 r.kind, .string r.letters, .bool r.op, .slice bi mi di, .slice bf mf df], .int .i64 0]) ∧
      RepB (fun b => w.heap.size ≤ b) n w' ai li ci af lf cf x ∧ RepB (fun b => w.heap.size ≤ b) m w' bi mi di bf mf df r ∧ Below w.heap.size w w')
    (hun : ∀ (W : World) (ai af : Option Addr) (li ci lf cf : Nat) (bi bf : Option Addr) (mi di mf df : Nat), Rep n W ai li ci af lf cf x → Rep m W bi mi di bf mf df r → Calls Tryd.prog 30 #[.agg #[.int .i64 x.kind, .string x.letters, .bool x.op, .slice ai li ci, .slice af lf cf], .agg #[.int .i64 r.kind, .string r.letters, .bool r.op, .slice bi mi di, .slice bf mf df]] W fun e w' => e = .returned (.tuple #[.string y, .bool b]) ∧ Below W.heap.size W w') :
    Calls Tryd.prog 18 #[.string s, .string t] w fun e w' => e = .returned (if b = true then .tuple #[.string y, .int .i64 7] else .tuple #[.string ByteArray.empty, .int .i64 0]) ∧ Below w.heap.size w w' := by
  cases b with
  | true =>
    rw [if_pos rfl]
    go_enter Tryd.func18, Tryd.ntmps18
    go_wp2_with (first | (go_at_call 26; refine (hcall _).mono ?_; rintro e w1 ⟨ai, li, ci, af, lf, cf, bi, mi, di, bf, mf, df, rfl, hr1, hr2, hb1⟩) | (go_at_call 30; refine (hun _ _ _ _ _ _ _ _ _ _ _ _ _ (hr1.rep.keep (bx w1 _ _)) (hr2.rep.keep (bx w1 _ _))).mono ?_; rintro e w2 ⟨rfl, hb2⟩))
    go_ret2
    exact ⟨rfl, thn2 (Below.alloc' (Below.alloc' hb1 _) _) hb2⟩
  | false =>
    rw [if_neg (by simp)]
    go_enter Tryd.func18, Tryd.ntmps18
    go_wp2_with (first | (go_at_call 26; refine (hcall _).mono ?_; rintro e w1 ⟨ai, li, ci, af, lf, cf, bi, mi, di, bf, mf, df, rfl, hr1, hr2, hb1⟩) | (go_at_call 30; refine (hun _ _ _ _ _ _ _ _ _ _ _ _ _ (hr1.rep.keep (bx w1 _ _)) (hr2.rep.keep (bx w1 _ _))).mono ?_; rintro e w2 ⟨rfl, hb2⟩))
    go_ret2
    exact ⟨rfl, thn2 (Below.alloc' (Below.alloc' hb1 _) _) hb2⟩

/-- What 'Fits' answers: the text, the error. -/
def fitOut (s t : ByteArray) : ByteArray × Int :=
  if 60 < s.size ∨ 60 < t.size then (ByteArray.empty, 1)
  else match pAll false s, pAll false t with
    | some x, some r =>
      (match unV (s.size + t.size) s.size x r with
        | some u => (txtV s.size x u, 7)
        | none => (ByteArray.empty, 0))
    | _, _ => (ByteArray.empty, 2)
theorem Fits_any (s t : ByteArray) (hs : s.size ≤ maxLen) (ht : t.size ≤ maxLen) (hW : ∀ x, pAll false s = some x → s.size ≤ 60 → wt s.size x ≤ 20000) (w : World) :
    Calls Tryd.prog 18 #[.string s, .string t] w fun e w' => e = .returned (.tuple #[.string (fitOut s t).1, .int .i64 (fitOut s t).2]) ∧ Below w.heap.size w w' := by
  unfold fitOut
  by_cases h2 : 60 < s.size ∨ 60 < t.size
  · rw [if_pos h2]
    exact Fits_err s t w 1 rfl (fun w => typesOf_long hs ht h2 w)
  have hs60 : s.size ≤ 60 := by omega
  have ht60 : t.size ≤ 60 := by omega
  rw [if_neg h2]
  cases hx : pAll false s with
  | none => exact Fits_err s t w 2 rfl (fun w => typesOf_bad1 hs60 ht60 hx w)
  | some x =>
    cases hr : pAll false t with
    | none => exact Fits_err s t w 2 rfl (fun w => typesOf_bad2 hs60 ht60 hx hr w)
    | some r =>
      have hc := fun w => typesOf_ok hs60 ht60 hx hr w
      have hK := type_K _ _ _ _ (pAll_sm (show pAll true s = some x by rw [pAll_st]; exact hx))
      have hun := fun (W : World) (ai af : Option Addr) (li ci lf cf : Nat) (bi bf : Option Addr) (mi di mf df : Nat) (h1 : Rep s.size W ai li ci af lf cf x) (h2 : Rep t.size W bi mi di bf mf df r) => unr_all (s.size + t.size) s.size t.size x r W ai af li ci lf cf bi bf mi di mf df (Nat.le_refl _) hK (hW x hx hs60) h1 h2
      simp only
      cases hu : unV (s.size + t.size) s.size x r with
      | none =>
        rw [hu] at hun
        exact Fits_walk s t _ false w x r _ _ hc hun
      | some u =>
        rw [hu] at hun
        exact Fits_walk s t _ true w x r _ _ hc hun
end
section
open Go.RowKit

/-- The data of a whole text. -/
def encAll (st : Bool) (t : ByteArray) (n : Nat) (ty : Ty) : Option ByteArray :=
  match enc st t n ty 0 with
  | none => none
  | some (d, k) => if k = t.size then some d else none
def eRet : Option ByteArray → Value
  | some d => .tuple #[.string d, .bool true]
  | none => .tuple #[.string ByteArray.empty, .bool false]

set_option maxHeartbeats 1000000 in
theorem sEncode_any {t : ByteArray} (ht : t.size ≤ 4096) {n : Nat} (hn : n ≤ 100) (ty : Ty) (w : World) (ai af : Option Addr) (li ci lf cf : Nat) (hr : Rep n w ai li ci af lf cf ty) :
    Calls Tryd.prog 25 #[.agg #[.int .i64 ty.kind, .string ty.letters, .bool ty.op, .slice ai li ci, .slice af lf cf], .string t] w fun e w' => e = .returned (eRet (encAll false t n ty)) ∧ Below w.heap.size w w' := by
  have hB : ∀ o, Below w.heap.size w (w.alloc o) := fun o => (Below.refl _ _).alloc (Nat.le_refl _) _
  have IH := encodeAt_all ht n (by omega)
  cases hx : enc false t n ty 0 with
  | none =>
    have hr' : Hid (encAll false t n ty = none) := by show _ = _; unfold encAll; rw [hx]
    have hcall := fun o => IH.no (Nat.zero_le _) (hr.keep (hB o)) hx
    clear hx IH
    go_enter Tryd.func25, Tryd.ntmps25
    go_wp2_with (go_at_call 39; refine (hcall _).mono ?_; rintro e w1 ⟨rfl, hb1⟩)
    go_ret2
    rw [hr'.out]
    exact ⟨rfl, (hB _).trans (hb1.mono (by simp))⟩
  | some p =>
    obtain ⟨d, k⟩ := p
    have hcall := fun o => IH.yes (Nat.zero_le _) (hr.keep (hB o)) hx
    by_cases hk : k = t.size
    · have hk' : ((k : Int) != (t.size : Int)) = false := by simp; omega
      have hr' : Hid (encAll false t n ty = some d) := by show _ = _; unfold encAll; rw [hx]; simp only [if_pos hk]
      clear hx IH hk
      go_enter Tryd.func25, Tryd.ntmps25
      go_wp2_with (go_at_call 39; refine (hcall _).mono ?_; rintro e w1 ⟨rfl, hb1⟩)
      go_ret2
      rw [hr'.out]
      exact ⟨rfl, (hB _).trans (hb1.mono (by simp))⟩
    · have hk' : ((k : Int) != (t.size : Int)) = true := by simp; omega
      have hr' : Hid (encAll false t n ty = none) := by show _ = _; unfold encAll; rw [hx]; simp only [if_neg hk]
      clear hx IH hk
      go_enter Tryd.func25, Tryd.ntmps25
      go_wp2_with (go_at_call 39; refine (hcall _).mono ?_; rintro e w1 ⟨rfl, hb1⟩)
      go_ret2
      rw [hr'.out]
      exact ⟨rfl, (hB _).trans (hb1.mono (by simp))⟩

/-- What 'Encode' answers: the data, the error. -/
def encOut (st : Bool) (s t : ByteArray) : ByteArray × Int :=
  if 60 < s.size ∨ 4096 < t.size then (ByteArray.empty, 1) else
    match pAll st s with
    | none => (ByteArray.empty, 2)
    | some ty =>
      match encAll st t s.size ty with
      | none => (ByteArray.empty, 3)
      | some d => if 64 < d.size then (ByteArray.empty, 4) else (d, 0)

theorem encAll_bd {st : Bool} {t d : ByteArray} {n : Nat} {ty : Ty} (h : encAll st t n ty = some d) (ht : t.size ≤ 4096) (hn : n ≤ 100) : d.size ≤ 4000000 := by
  unfold encAll at h
  rcases hx : enc st t n ty 0 with _ | ⟨d', k⟩
  · rw [hx] at h; cases h
  · rw [hx] at h
    simp only at h
    split at h
    · cases h
      have := enc_bd hx
      exact data_small this.2.2 hn (by omega)
    · cases h

set_option maxHeartbeats 1000000 in
theorem Encode_any (s t : ByteArray) (hs : s.size ≤ maxLen) (ht : t.size ≤ maxLen) (w : World) :
    Calls Tryd.prog 14 #[.string s, .string t] w fun e w' => e = .returned (.tuple #[.string (encOut false s t).1, .int .i64 (encOut false s t).2]) ∧ Below w.heap.size w w' := by
  by_cases h1 : 4096 < t.size
  · have hr : Hid (encOut false s t = (ByteArray.empty, 1)) := by show _ = _; unfold encOut; rw [if_pos (.inr h1)]
    unfold maxLen at hs ht
    go_enter Tryd.func14, Tryd.ntmps14
    go_wp2_with fail
    go_ret2
    rw [hr.out]
    exact ⟨rfl, Below.refl _ _⟩
  · by_cases h2 : 60 < s.size
    · have hr : Hid (encOut false s t = (ByteArray.empty, 1)) := by show _ = _; unfold encOut; rw [if_pos (.inl h2)]
      have hcall := fun w => typeOf_long h2 hs w
      clear hs ht
      go_enter Tryd.func14, Tryd.ntmps14
      go_wp2_with (go_at_call 20; refine (hcall _).mono ?_; rintro e w1 ⟨rfl, hb1⟩)
      go_ret2
      rw [hr.out]
      exact ⟨rfl, Below.alloc' hb1 _⟩
    · have h0 : ¬ (60 < s.size ∨ 4096 < t.size) := by omega
      cases hx : pAll false s with
      | none =>
        have hr : Hid (encOut false s t = (ByteArray.empty, 2)) := by show _ = _; unfold encOut; rw [if_neg h0, hx]
        have hcall := fun w => TRet_no (typeOf_any (s := s) (by omega) w) hx
        clear hs ht hx
        go_enter Tryd.func14, Tryd.ntmps14
        go_wp2_with (go_at_call 20; refine (hcall _).mono ?_; rintro e w1 ⟨rfl, hb1⟩)
        go_ret2
        rw [hr.out]
        exact ⟨rfl, Below.alloc' hb1 _⟩
      | some ty =>
        have hcall := fun w => TRet_yes (typeOf_any (s := s) (by omega) w) hx
        have he := fun (W : World) (o : Obj) (ai : Option Addr) (li ci : Nat) (af : Option Addr) (lf cf : Nat) (S : Nat → Prop) (h : RepB S s.size W ai li ci af lf cf ty) => sEncode_any (t := t) (by omega) (show s.size ≤ 100 by omega) ty (W.alloc o) ai af li ci lf cf (h.rep.keep ((Below.refl _ _).alloc (Nat.le_refl _) _))
        cases hy : encAll false t s.size ty with
        | none =>
          have hr : Hid (encOut false s t = (ByteArray.empty, 3)) := by show _ = _; unfold encOut; rw [if_neg h0, hx]; simp only [hy]
          rw [hy] at he
          simp only [eRet] at he
          clear hs ht hx hy
          go_enter Tryd.func14, Tryd.ntmps14
          go_wp2_with (first | (go_at_call 20; refine (hcall _).mono ?_; rintro e w1 ⟨ai, li, ci, af, lf, cf, rfl, hr1, hb1⟩) | (go_at_call 25; refine (he _ _ _ _ _ _ _ _ _ hr1).mono ?_; rintro e w2 ⟨rfl, hb2⟩))
          go_ret2
          rw [hr.out]
          exact ⟨rfl, (Below.alloc' hb1 _).trans (hb2.mono (by have := hb1.size; simp; omega))⟩
        | some d =>
          have hds := encAll_bd hy (by omega) (by omega)
          rw [hy] at he
          simp only [eRet] at he
          by_cases h64 : 64 < d.size
          · have hr : Hid (encOut false s t = (ByteArray.empty, 4)) := by show _ = _; unfold encOut; rw [if_neg h0, hx]; simp only [hy, if_pos h64]
            clear hs ht hx hy
            go_enter Tryd.func14, Tryd.ntmps14
            go_wp2_with (first | (go_at_call 20; refine (hcall _).mono ?_; rintro e w1 ⟨ai, li, ci, af, lf, cf, rfl, hr1, hb1⟩) | (go_at_call 25; refine (he _ _ _ _ _ _ _ _ _ hr1).mono ?_; rintro e w2 ⟨rfl, hb2⟩))
            go_ret2
            rw [hr.out]
            exact ⟨rfl, (Below.alloc' hb1 _).trans (hb2.mono (by have := hb1.size; simp; omega))⟩
          · have hr : Hid (encOut false s t = (d, 0)) := by show _ = _; unfold encOut; rw [if_neg h0, hx]; simp only [hy, if_neg h64]
            clear hs ht hx hy
            go_enter Tryd.func14, Tryd.ntmps14
            go_wp2_with (first | (go_at_call 20; refine (hcall _).mono ?_; rintro e w1 ⟨ai, li, ci, af, lf, cf, rfl, hr1, hb1⟩) | (go_at_call 25; refine (he _ _ _ _ _ _ _ _ _ hr1).mono ?_; rintro e w2 ⟨rfl, hb2⟩))
            go_ret2
            rw [hr.out]
            exact ⟨rfl, (Below.alloc' hb1 _).trans (hb2.mono (by have := hb1.size; simp; omega))⟩
end
section
open Go.RowKit

set_option maxHeartbeats 1000000 in
theorem Check_any (s : ByteArray) (hm : s.size ≤ maxLen) (w : World) :
    Calls Tryd.prog 17 #[.string s] w fun e w' => e = .returned (.int .i64 (chk false s)) ∧ Below w.heap.size w w' := by
  by_cases hs : 60 < s.size
  · have hr' : Hid (chk false s = 1) := by show _ = _; unfold chk; rw [if_pos hs]
    have hcall := fun w => typeOf_long hs hm w
    clear hs hm
    go_enter Tryd.func17, Tryd.ntmps17
    go_wp2_with (go_at_call 20; refine (hcall _).mono ?_; rintro e w1 ⟨rfl, hb1⟩)
    go_ret
    exact ⟨ret_int hr'.out.symm, Below.alloc' hb1 _⟩
  · cases hx : pAll false s with
    | none =>
      have hr' : Hid (chk false s = 2) := by show _ = _; unfold chk; rw [if_neg hs, hx]; rfl
      have hcall := fun w => TRet_no (typeOf_any (s := s) (by omega) w) hx
      clear hs hm hx
      go_enter Tryd.func17, Tryd.ntmps17
      go_wp2_with (go_at_call 20; refine (hcall _).mono ?_; rintro e w1 ⟨rfl, hb1⟩)
      go_ret
      exact ⟨ret_int hr'.out.symm, Below.alloc' hb1 _⟩
    | some ty =>
      have hr' : Hid (chk false s = 0) := by show _ = _; unfold chk; rw [if_neg hs, hx]; rfl
      have hcall := fun w => TRet_yes (typeOf_any (s := s) (by omega) w) hx
      clear hs hm hx
      go_enter Tryd.func17, Tryd.ntmps17
      go_wp2_with (go_at_call 20; refine (hcall _).mono ?_; rintro e w1 ⟨ai, li, ci, af, lf, cf, rfl, hr1, hb1⟩)
      go_ret
      exact ⟨ret_int hr'.out.symm, Below.alloc' hb1 _⟩
end
end Go.Proofs.YtkkekopomiehlaaDoor
