import Derived.Test.YtccmcgckechhgaaDoorFt5
import Derived.Test.YtccmcgckechhgaaDoorTy2
import Derived.Test.YtccmcgckechhgaaDoorEq4
set_option linter.unusedVariables false
set_option linter.unusedSimpArgs false
set_option maxRecDepth 4000
namespace Go.Proofs.YtccmcgckechhgaaDoor
open Go.RowKit

set_option maxHeartbeats 1000000 in
theorem Fits_err (s t : ByteArray) (w : World) (n : Int) (hn : (n != 0) = true)
    (hcall : ∀ w, Calls Tryd.prog 26 #[.string s, .string t] w fun e w' => e = .returned (.tuple #[.agg #[.int .i64 0, .string ByteArray.empty, .bool false, .slice none 0 0, .slice none 0 0], .agg #[.int .i64 0, .string ByteArray.empty, .bool false, .slice none 0 0, .slice none 0 0], .int .i64 n]) ∧ Below w.heap.size w w') :
    Calls Tryd.prog 18 #[.string s, .string t] w fun e w' => e = .returned (.tuple #[.string ByteArray.empty, .int .i64 n]) ∧ Below w.heap.size w w' := by
  go_enter Tryd.func18, Tryd.ntmps18
  go_wp2_with (go_at_call 26; refine (hcall _).mono ?_; rintro e w1 ⟨rfl, hb1⟩)
  go_ret2
  exact ⟨rfl, Below.alloc' (Below.alloc' hb1 _) _⟩
set_option maxHeartbeats 1000000 in
theorem Fits_walk (s t y : ByteArray) (b : Bool) (w : World) (x r : Ty) (n m : Nat)
    (hcall : ∀ w, Calls Tryd.prog 26 #[.string s, .string t] w fun e w' => ∃ ai li ci af lf cf bi mi di bf mf df, e = .returned (.tuple #[.agg #[.int .i64 x.kind, .string x.letters, .bool x.op, .slice ai li ci, .slice af lf cf], .agg #[.int .i64 r.kind, .string r.letters, .bool r.op, .slice bi mi di, .slice bf mf df], .int .i64 0]) ∧
      RepB (fun b => w.heap.size ≤ b) n w' ai li ci af lf cf x ∧ RepB (fun b => w.heap.size ≤ b) m w' bi mi di bf mf df r ∧ Below w.heap.size w w')
    (hun : ∀ (W : World) (ai af : Option Addr) (li ci lf cf : Nat) (bi bf : Option Addr) (mi di mf df : Nat), Rep n W ai li ci af lf cf x → Rep m W bi mi di bf mf df r → Calls Tryd.prog 30 #[.agg #[.int .i64 x.kind, .string x.letters, .bool x.op, .slice ai li ci, .slice af lf cf], .agg #[.int .i64 r.kind, .string r.letters, .bool r.op, .slice bi mi di, .slice bf mf df]] W fun e w' => e = .returned (.tuple #[.string y, .bool b]) ∧ Below W.heap.size W w') :
    Calls Tryd.prog 18 #[.string s, .string t] w fun e w' => e = .returned (if b = true then .tuple #[.string y, .int .i64 7] else .tuple #[.string ByteArray.empty, .int .i64 0]) ∧ Below w.heap.size w w' := by
  cases b with
  | true =>
    rw [if_pos rfl]
    go_enter Tryd.func18, Tryd.ntmps18
    go_wp2_with (first | (go_at_call 26; refine (hcall _).mono ?_; rintro e w1 ⟨ai, li, ci, af, lf, cf, bi, mi, di, bf, mf, df, rfl, hr1, hr2, hb1⟩) | (go_at_call 30; refine (hun _ _ _ _ _ _ _ _ _ _ _ _ _ (hr1.rep.keep (bx w1 _ _)) (hr2.rep.keep (bx w1 _ _))).mono ?_; rintro e w2 ⟨rfl, hb2⟩))
    go_ret2
    exact ⟨rfl, thn2 (Below.alloc' (Below.alloc' hb1 _) _) hb2⟩
  | false =>
    rw [if_neg (by simp)]
    go_enter Tryd.func18, Tryd.ntmps18
    go_wp2_with (first | (go_at_call 26; refine (hcall _).mono ?_; rintro e w1 ⟨ai, li, ci, af, lf, cf, bi, mi, di, bf, mf, df, rfl, hr1, hr2, hb1⟩) | (go_at_call 30; refine (hun _ _ _ _ _ _ _ _ _ _ _ _ _ (hr1.rep.keep (bx w1 _ _)) (hr2.rep.keep (bx w1 _ _))).mono ?_; rintro e w2 ⟨rfl, hb2⟩))
    go_ret2
    exact ⟨rfl, thn2 (Below.alloc' (Below.alloc' hb1 _) _) hb2⟩

/-- What 'Fits' answers: the text, the error. -/
def fitOut (s t : ByteArray) : ByteArray × Int :=
  if 60 < s.size ∨ 60 < t.size then (ByteArray.empty, 1)
  else match pAll false s, pAll false t with
    | some x, some r =>
      (match unV (s.size + t.size) s.size x r with
        | some u => (txtV s.size x u, 7)
        | none => (ByteArray.empty, 0))
    | _, _ => (ByteArray.empty, 2)
theorem pAll_sm {st : Bool} {s : ByteArray} {ty : Ty} (hx : pAll st s = some ty) : pType st s s.size 0 = some (ty, s.size) := by
  unfold pAll at hx
  rcases hq : pType st s s.size 0 with _ | ⟨ty', k⟩
  · rw [hq] at hx; cases hx
  · rw [hq] at hx; simp only at hx
    split at hx
    · rename_i h; cases hx; rw [h]
    · cases hx
theorem Fits_any (s t : ByteArray) (hs : s.size ≤ maxLen) (ht : t.size ≤ maxLen) (hW : ∀ x, pAll false s = some x → s.size ≤ 60 → wt s.size x ≤ 20000) (w : World) :
    Calls Tryd.prog 18 #[.string s, .string t] w fun e w' => e = .returned (.tuple #[.string (fitOut s t).1, .int .i64 (fitOut s t).2]) ∧ Below w.heap.size w w' := by
  unfold fitOut
  by_cases h2 : 60 < s.size ∨ 60 < t.size
  · rw [if_pos h2]
    exact Fits_err s t w 1 rfl (fun w => typesOf_long hs ht h2 w)
  have hs60 : s.size ≤ 60 := by omega
  have ht60 : t.size ≤ 60 := by omega
  rw [if_neg h2]
  cases hx : pAll false s with
  | none => exact Fits_err s t w 2 rfl (fun w => typesOf_bad1 hs60 ht60 hx w)
  | some x =>
    cases hr : pAll false t with
    | none => exact Fits_err s t w 2 rfl (fun w => typesOf_bad2 hs60 ht60 hx hr w)
    | some r =>
      have hc := fun w => typesOf_ok hs60 ht60 hx hr w
      have hK := type_K _ _ _ _ (pAll_sm (show pAll true s = some x by rw [pAll_st]; exact hx))
      have hun := fun (W : World) (ai af : Option Addr) (li ci lf cf : Nat) (bi bf : Option Addr) (mi di mf df : Nat) (h1 : Rep s.size W ai li ci af lf cf x) (h2 : Rep t.size W bi mi di bf mf df r) => unr_all (s.size + t.size) s.size t.size x r W ai af li ci lf cf bi bf mi di mf df (Nat.le_refl _) hK (hW x hx hs60) h1 h2
      simp only
      cases hu : unV (s.size + t.size) s.size x r with
      | none =>
        rw [hu] at hun
        exact Fits_walk s t _ false w x r _ _ hc hun
      | some u =>
        rw [hu] at hun
        exact Fits_walk s t _ true w x r _ _ hc hun
end Go.Proofs.YtccmcgckechhgaaDoor
