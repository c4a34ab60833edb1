import Derived.Test.YtccmcgckechhgaaDoorRd8
import Derived.Test.YtccmcgckechhgaaDoorTy2
import Derived.Test.YtccmcgckechhgaaDoorDec14
set_option linter.unusedVariables false
set_option linter.unusedSimpArgs false
set_option maxRecDepth 4000
namespace Go.Proofs.YtccmcgckechhgaaDoor
open Go.RowKit

set_option maxHeartbeats 1000000 in
theorem Read_data (s t d : ByteArray) (hd : 64 < d.size) (hm : d.size ≤ maxLen) (w : World) :
    Calls Tryd.prog 15 #[.string s, .string t, .string d] w fun e w' => e = .returned (.tuple #[.string ByteArray.empty, .int .i64 1]) ∧ Below w.heap.size w w' := by
  unfold maxLen at hm
  go_enter Tryd.func15, Tryd.ntmps15
  go_wp2_with fail
  go_ret2
  exact ⟨rfl, Below.refl _ _⟩

set_option maxHeartbeats 1000000 in
/-- The way where the schemas have an error. -/
theorem Read_err (s t d : ByteArray) (hd : d.size ≤ 64) (w : World) (n : Int) (hn : (n != 0) = true)
    (hcall : ∀ w, Calls Tryd.prog 26 #[.string s, .string t] w fun e w' => e = .returned (.tuple #[.agg #[.int .i64 0, .string ByteArray.empty, .bool false, .slice none 0 0, .slice none 0 0], .agg #[.int .i64 0, .string ByteArray.empty, .bool false, .slice none 0 0, .slice none 0 0], .int .i64 n]) ∧ Below w.heap.size w w') :
    Calls Tryd.prog 15 #[.string s, .string t, .string d] w fun e w' => e = .returned (.tuple #[.string ByteArray.empty, .int .i64 n]) ∧ Below w.heap.size w w' := by
  go_enter Tryd.func15, Tryd.ntmps15
  go_wp2_with (go_at_call 26; refine (hcall _).mono ?_; rintro e w1 ⟨rfl, hb1⟩)
  go_ret2
  exact ⟨rfl, Below.alloc' (Below.alloc' hb1 _) _⟩


set_option maxHeartbeats 1000000 in
/-- The way where the data are no value's. -/
theorem Read_no (s t d : ByteArray) (hd : d.size ≤ 64) (w : World) (x r : Ty) (n m : Nat)
    (hcall : ∀ w, Calls Tryd.prog 26 #[.string s, .string t] w fun e w' => ∃ ai li ci af lf cf bi mi di bf mf df, e = .returned (.tuple #[.agg #[.int .i64 x.kind, .string x.letters, .bool x.op, .slice ai li ci, .slice af lf cf], .agg #[.int .i64 r.kind, .string r.letters, .bool r.op, .slice bi mi di, .slice bf mf df], .int .i64 0]) ∧
      RepB (fun b => w.heap.size ≤ b) n w' ai li ci af lf cf x ∧ RepB (fun b => w.heap.size ≤ b) m w' bi mi di bf mf df r ∧ Below w.heap.size w w')
    (hdec : ∀ (W : World) (ai af : Option Addr) (li ci lf cf : Nat), Below w.heap.size w W → Rep n W ai li ci af lf cf x → Calls Tryd.prog 21 #[.agg #[.int .i64 x.kind, .string x.letters, .bool x.op, .slice ai li ci, .slice af lf cf], .string d] W fun e w' => e = .returned (.tuple #[.string ByteArray.empty, .bool false]) ∧ Below W.heap.size W w') :
    Calls Tryd.prog 15 #[.string s, .string t, .string d] w fun e w' => e = .returned (.tuple #[.string ByteArray.empty, .int .i64 5]) ∧ Below w.heap.size w w' := by
  go_enter Tryd.func15, Tryd.ntmps15
  go_wp2_with (first | (go_at_call 26; refine (hcall _).mono ?_; rintro e w1 ⟨ai, li, ci, af, lf, cf, bi, mi, di, bf, mf, df, rfl, hr1, hr2, hb1⟩) | (go_at_call 21; refine (hdec _ _ _ _ _ _ _ (Below.alloc' (Below.alloc' hb1 _) _) (hr1.rep.keep (BB w1 _ _))).mono ?_; rintro e w2 ⟨rfl, hb2⟩))
  go_ret2
  exact ⟨rfl, (Below.alloc' (Below.alloc' hb1 _) _).thn hb2⟩

set_option maxHeartbeats 1000000 in
theorem Read_fail (s t d T y : ByteArray) (hd : d.size ≤ 64) (w : World) (x r : Ty) (n m : Nat)
    (hcall : ∀ w, Calls Tryd.prog 26 #[.string s, .string t] w fun e w' => ∃ ai li ci af lf cf bi mi di bf mf df, e = .returned (.tuple #[.agg #[.int .i64 x.kind, .string x.letters, .bool x.op, .slice ai li ci, .slice af lf cf], .agg #[.int .i64 r.kind, .string r.letters, .bool r.op, .slice bi mi di, .slice bf mf df], .int .i64 0]) ∧
      RepB (fun b => w.heap.size ≤ b) n w' ai li ci af lf cf x ∧ RepB (fun b => w.heap.size ≤ b) m w' bi mi di bf mf df r ∧ Below w.heap.size w w')
    (hdec : ∀ (W : World) (ai af : Option Addr) (li ci lf cf : Nat), Below w.heap.size w W → Rep n W ai li ci af lf cf x → Calls Tryd.prog 21 #[.agg #[.int .i64 x.kind, .string x.letters, .bool x.op, .slice ai li ci, .slice af lf cf], .string d] W fun e w' => e = .returned (.tuple #[.string T, .bool true]) ∧ Below W.heap.size W w')
    (hrd : ∀ (W : World) (ai af : Option Addr) (li ci lf cf : Nat) (bi bf : Option Addr) (mi di mf df : Nat), Below w.heap.size w W → Rep n W ai li ci af lf cf x → Rep m W bi mi di bf mf df r → Calls Tryd.prog 27 #[.agg #[.int .i64 x.kind, .string x.letters, .bool x.op, .slice ai li ci, .slice af lf cf], .agg #[.int .i64 r.kind, .string r.letters, .bool r.op, .slice bi mi di, .slice bf mf df], .string d] W fun e w' => e = .returned (.tuple #[.string y, .bool false]) ∧ Below W.heap.size W w') :
    Calls Tryd.prog 15 #[.string s, .string t, .string d] w fun e w' => e = .returned (.tuple #[.string ByteArray.empty, .int .i64 6]) ∧ Below w.heap.size w w' := by
  go_enter Tryd.func15, Tryd.ntmps15
  go_wp2_with (first | (go_at_call 26; refine (hcall _).mono ?_; rintro e w1 ⟨ai, li, ci, af, lf, cf, bi, mi, di, bf, mf, df, rfl, hr1, hr2, hb1⟩) | (go_at_call 21; refine (hdec _ _ _ _ _ _ _ (Below.alloc' (Below.alloc' hb1 _) _) (hr1.rep.keep (BB w1 _ _))).mono ?_; rintro e w2 ⟨rfl, hb2⟩; have e2 := keep10 hb2 (boxes2 w1 x r ai li ci af lf cf bi mi di bf mf df)) | (go_at_call 27; refine (hrd _ _ _ _ _ _ _ _ _ _ _ _ _ ((Below.alloc' (Below.alloc' hb1 _) _).thn hb2) (hr1.rep.keep ((BB w1 _ _).thn hb2)) (hr2.rep.keep ((BB w1 _ _).thn hb2))).mono ?_; rintro e w3 ⟨rfl, hb3⟩))
  go_ret2
  exact ⟨rfl, ((Below.alloc' (Below.alloc' hb1 _) _).thn hb2).thn hb3⟩

set_option maxHeartbeats 1000000 in
theorem Read_done (s t d T y : ByteArray) (hd : d.size ≤ 64) (w : World) (x r : Ty) (n m : Nat)
    (hcall : ∀ w, Calls Tryd.prog 26 #[.string s, .string t] w fun e w' => ∃ ai li ci af lf cf bi mi di bf mf df, e = .returned (.tuple #[.agg #[.int .i64 x.kind, .string x.letters, .bool x.op, .slice ai li ci, .slice af lf cf], .agg #[.int .i64 r.kind, .string r.letters, .bool r.op, .slice bi mi di, .slice bf mf df], .int .i64 0]) ∧
      RepB (fun b => w.heap.size ≤ b) n w' ai li ci af lf cf x ∧ RepB (fun b => w.heap.size ≤ b) m w' bi mi di bf mf df r ∧ Below w.heap.size w w')
    (hdec : ∀ (W : World) (ai af : Option Addr) (li ci lf cf : Nat), Below w.heap.size w W → Rep n W ai li ci af lf cf x → Calls Tryd.prog 21 #[.agg #[.int .i64 x.kind, .string x.letters, .bool x.op, .slice ai li ci, .slice af lf cf], .string d] W fun e w' => e = .returned (.tuple #[.string T, .bool true]) ∧ Below W.heap.size W w')
    (hrd : ∀ (W : World) (ai af : Option Addr) (li ci lf cf : Nat) (bi bf : Option Addr) (mi di mf df : Nat), Below w.heap.size w W → Rep n W ai li ci af lf cf x → Rep m W bi mi di bf mf df r → Calls Tryd.prog 27 #[.agg #[.int .i64 x.kind, .string x.letters, .bool x.op, .slice ai li ci, .slice af lf cf], .agg #[.int .i64 r.kind, .string r.letters, .bool r.op, .slice bi mi di, .slice bf mf df], .string d] W fun e w' => e = .returned (.tuple #[.string y, .bool true]) ∧ Below W.heap.size W w') :
    Calls Tryd.prog 15 #[.string s, .string t, .string d] w fun e w' => e = .returned (.tuple #[.string y, .int .i64 0]) ∧ Below w.heap.size w w' := by
  go_enter Tryd.func15, Tryd.ntmps15
  go_wp2_with (first | (go_at_call 26; refine (hcall _).mono ?_; rintro e w1 ⟨ai, li, ci, af, lf, cf, bi, mi, di, bf, mf, df, rfl, hr1, hr2, hb1⟩) | (go_at_call 21; refine (hdec _ _ _ _ _ _ _ (Below.alloc' (Below.alloc' hb1 _) _) (hr1.rep.keep (BB w1 _ _))).mono ?_; rintro e w2 ⟨rfl, hb2⟩; have e2 := keep10 hb2 (boxes2 w1 x r ai li ci af lf cf bi mi di bf mf df)) | (go_at_call 27; refine (hrd _ _ _ _ _ _ _ _ _ _ _ _ _ ((Below.alloc' (Below.alloc' hb1 _) _).thn hb2) (hr1.rep.keep ((BB w1 _ _).thn hb2)) (hr2.rep.keep ((BB w1 _ _).thn hb2))).mono ?_; rintro e w3 ⟨rfl, hb3⟩))
  go_ret2
  exact ⟨rfl, ((Below.alloc' (Below.alloc' hb1 _) _).thn hb2).thn hb3⟩

/-- What 'Read' answers of a value: by 'rdT'. -/
def rdOut : Option ByteArray → ByteArray × Int
  | none => (ByteArray.empty, 6)
  | some t => (t, 0)
/-- What 'Read' answers: 'a' is said of the answer. -/
def ReadIs (s t d : ByteArray) (a : ByteArray × Int) : Prop :=
  if 60 < s.size ∨ 60 < t.size ∨ 64 < d.size then a = (ByteArray.empty, 1)
  else match pAll false s, pAll false t with
    | some x, some r =>
      (match decAll d s.size x with
        | none => a = (ByteArray.empty, 5)
        | some _ => ∃ v, okV s.size x v ∧ d = datV s.size v ∧ a = rdOut (rdT (s.size + t.size) x r v))
    | _, _ => a = (ByteArray.empty, 2)
theorem decAll_un {d : ByteArray} {n : Nat} {x : Ty} {T : ByteArray} (h : decAll d n x = some T) : ∃ v, okV n x v ∧ d = datV n v ∧ T = txtV n x v := by
  unfold decAll at h
  split at h
  · cases h
  · rename_i t k hk
    split at h
    · rename_i hks
      cases h
      obtain ⟨v, h1, h2, h3, h4⟩ := dec_un n x 0 T k (Nat.zero_le _) hk
      refine ⟨v, h1, ?_, h4⟩
      have h5 := h2.ext
      rw [← h3, hks] at h5
      rw [← h5]
      exact bytes_eq (by rw [size_extract _ _ _ (Nat.zero_le _) (Nat.le_refl _)]; omega) (fun i hi => by rw [bAt_ext _ _ _ _ (by omega) (Nat.le_refl _), Nat.zero_add])
    · cases h
theorem pAll_wt {st : Bool} {s : ByteArray} {x : Ty} (h : pAll st s = some x) (hs : s.size ≤ 60) (N : Nat) : wt N x ≤ 20000 := by
  have := pType_wt st s N _ _ _ _ (pAll_some h)
  omega
/-- There is an answer of 'Read', and the program gives it. -/
theorem Read_any {Tab : World → Prop} (F : FmtOK Tab) (s t d : ByteArray) (hs : s.size ≤ maxLen) (ht : t.size ≤ maxLen) (hd : d.size ≤ maxLen) :
    ∃ a, ReadIs s t d a ∧ ∀ w, Tab w → Calls Tryd.prog 15 #[.string s, .string t, .string d] w fun e w' => e = .returned (.tuple #[.string a.1, .int .i64 a.2]) ∧ Below w.heap.size w w' := by
  unfold ReadIs
  by_cases h1 : 64 < d.size
  · exact ⟨_, by rw [if_pos (.inr (.inr h1))], fun w _ => Read_data s t d h1 hd w⟩
  by_cases h2 : 60 < s.size ∨ 60 < t.size
  · exact ⟨_, by rw [if_pos (by omega)], fun w _ => Read_err s t d (by omega) w 1 rfl (fun w => typesOf_long hs ht h2 w)⟩
  have hs60 : s.size ≤ 60 := by omega
  have ht60 : t.size ≤ 60 := by omega
  simp only [if_neg (show ¬ (60 < s.size ∨ 60 < t.size ∨ 64 < d.size) by omega)]
  cases hx : pAll false s with
  | none => exact ⟨_, rfl, fun w _ => Read_err s t d (by omega) w 2 rfl (fun w => typesOf_bad1 hs60 ht60 hx w)⟩
  | some x =>
    cases hr : pAll false t with
    | none => exact ⟨_, rfl, fun w _ => Read_err s t d (by omega) w 2 rfl (fun w => typesOf_bad2 hs60 ht60 hx hr w)⟩
    | some r =>
      have hc := fun w => typesOf_ok hs60 ht60 hx hr w
      have hdec := fun (w : World) (hT : Tab w) (W : World) (ai af : Option Addr) (li ci lf cf : Nat) (hb : Below w.heap.size w W) (h : Rep s.size W ai li ci af lf cf x) => sDecode_any F (t := d) (by omega) (show s.size ≤ 100 by omega) x W ai af li ci lf cf (F.1 _ _ hb hT) (pAll_ok hx) h
      cases hy : decAll d s.size x with
      | none =>
        rw [hy] at hdec
        exact ⟨(ByteArray.empty, 5), by simp only [hy], fun w hT => Read_no s t d (by omega) w x r _ _ hc (fun W ai af li ci lf cf hb h => hdec w hT W ai af li ci lf cf hb h)⟩
      | some T =>
        rw [hy] at hdec
        obtain ⟨v, hv1, hv2, hv3⟩ := decAll_un hy
        have hrd := fun (w : World) (hT : Tab w) (W : World) (ai af : Option Addr) (li ci lf cf : Nat) (bi bf : Option Addr) (mi di mf df : Nat) (hb : Below w.heap.size w W) (h : Rep s.size W ai li ci af lf cf x) (h' : Rep t.size W bi mi di bf mf df r) =>
          read_all F (s.size + t.size) s.size t.size x r v W ai af li ci lf cf bi bf mi di mf df (Nat.le_refl _) (by omega) (by omega) (F.1 _ _ hb hT) (pAll_ok hx) (pAll_ok hr) h h' hv1 (by rw [← hv2]; omega) (pAll_wt hr ht60 _)
        refine ⟨rdOut (rdT (s.size + t.size) x r v), by simp only [hy]; exact ⟨v, hv1, hv2, rfl⟩, fun w hT => ?_⟩
        rw [← hv2] at hrd
        cases hz : rdT (s.size + t.size) x r v with
        | none =>
          rw [hz] at hrd
          exact Read_fail s t d T _ (by omega) w x r _ _ hc (fun W ai af li ci lf cf hb h => hdec w hT W ai af li ci lf cf hb h) (fun W ai af li ci lf cf bi bf mi di mf df hb h h' => hrd w hT W ai af li ci lf cf bi bf mi di mf df hb h h')
        | some y =>
          rw [hz] at hrd
          exact Read_done s t d T y (by omega) w x r _ _ hc (fun W ai af li ci lf cf hb h => hdec w hT W ai af li ci lf cf hb h) (fun W ai af li ci lf cf bi bf mi di mf df hb h h' => hrd w hT W ai af li ci lf cf bi bf mi di mf df hb h h')
end Go.Proofs.YtccmcgckechhgaaDoor
