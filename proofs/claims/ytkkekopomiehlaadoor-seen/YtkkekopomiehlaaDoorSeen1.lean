import Derived.Test.YtkkekopomiehlaaDoorMV3
import Derived.Test.YtkkekopomiehlaaDoorMDec14
import Derived.Test.YtkkekopomiehlaaDoorFmt
set_option linter.unusedVariables false
set_option linter.unusedSimpArgs false
set_option maxRecDepth 4000
namespace Go.Proofs.YtkkekopomiehlaaDoor
open Go.RowKit

theorem seen_head : fitOut ⟨#[60, 97, 98, 99, 62]⟩ ⟨#[60, 97, 98, 62]⟩ = (⟨#[99]⟩, 7) := by decide +kernel
theorem fit_self (s : ByteArray) : fitOut s s = (ByteArray.empty, chk false s) := by
  unfold fitOut chk
  by_cases h : 60 < s.size
  · rw [if_pos (.inl h), if_pos h]
  · rw [if_neg (by omega), if_neg h]
    cases hx : pAll false s with
    | none => rfl
    | some x =>
      simp only
      have hp := pAll_some (show pAll true s = some x by rw [pAll_st]; exact hx)
      have hg := type_good _ _ _ _ hp
      have ha := type_all _ _ _ _ hp
      cases hu : unV (s.size + s.size) s.size x x with
      | none => rfl
      | some u =>
        exfalso
        have hb := un_bad _ _ _ _ _ ha.1 hu
        have := rd_self s.size (s.size + s.size) x u hb.1 hg.1 hg.2 (Nat.le_refl _)
        rw [hb.2] at this; cases this
set_option maxHeartbeats 1000000 in
theorem unfit_walk (s t T D : ByteArray) (w : World) (h1 : ∀ W, Calls Tryd.prog 14 #[.string s, .string T] W fun e w' => e = .returned (.tuple #[.string D, .int .i64 0]) ∧ Below W.heap.size W w')
    (h2 : ∀ W, Below w.heap.size w W → Calls Tryd.prog 15 #[.string s, .string t, .string D] W fun e w' => e = .returned (.tuple #[.string ByteArray.empty, .int .i64 6]) ∧ Below W.heap.size W w')
    (h3 : ∀ W, Below w.heap.size w W → Calls Tryd.prog 9 #[.string s, .string D] W fun e w' => e = .returned (.tuple #[.string T, .int .i64 0]) ∧ Below W.heap.size W w') :
    Calls Tryd.prog 19 #[.string s, .string t, .string T] w fun e w' => e = .returned (.bool true) ∧ Below w.heap.size w w' := by
  have e2 : (T.toList == T.toList) = true := by simp
  go_enter Tryd.func19, Tryd.ntmps19
  go_wp2_with (first | (go_at_call 14; refine (h1 _).mono ?_; rintro e w1 ⟨rfl, hb1⟩) | (go_at_call 15; refine (h2 _ hb1).mono ?_; rintro e w2 ⟨rfl, hb2⟩) | (go_at_call 9; refine (h3 _ (hb1.thn hb2)).mono ?_; rintro e w3 ⟨rfl, hb3⟩))
  go_ret
  exact ⟨ret_bool (by simp), (hb1.thn hb2).thn hb3⟩
set_option maxHeartbeats 2000000 in
theorem seen_w1a (s t d : ByteArray) (w : World) (c : Int) (TD : ByteArray) (G : Int) (h1 : ∀ W, Calls Tryd.prog 18 #[.string ⟨#[60, 97, 98, 99, 62]⟩, .string ⟨#[60, 97, 98, 62]⟩] W fun e w' => e = .returned (.tuple #[.string ⟨#[99]⟩, .int .i64 7]) ∧ Below W.heap.size W w') (h2 : ∀ W, Calls Tryd.prog 17 #[.string s] W fun e w' => e = .returned (.int .i64 c) ∧ Below W.heap.size W w') (h3 : ∀ W, Calls Tryd.prog 18 #[.string s, .string s] W fun e w' => e = .returned (.tuple #[.string ByteArray.empty, .int .i64 c]) ∧ Below W.heap.size W w') (h4 : ∀ W, Calls Tryd.prog 18 #[.string s, .string t] W fun e w' => e = .returned (.tuple #[.string ByteArray.empty, .int .i64 1]) ∧ Below W.heap.size W w') (h5 : ∀ W, Below w.heap.size w W → Calls Tryd.prog 15 #[.string s, .string t, .string d] W fun e w' => e = .returned (.tuple #[.string ByteArray.empty, .int .i64 1]) ∧ Below W.heap.size W w') (h6 : ∀ W, Below w.heap.size w W → Calls Tryd.prog 9 #[.string s, .string d] W fun e w' => e = .returned (.tuple #[.string TD, .int .i64 G]) ∧ Below W.heap.size W w') :
    Calls Tryd.prog 7 #[.string s, .string t, .string d] w fun e w' => e = .returned (.bool true) ∧ Below w.heap.size w w' := by
  have ecc : (c == c) = true := by simp
  have ecn : (c != c) = false := by simp
  skip
  go_enter Tryd.func7, Tryd.ntmps7
  go_wp2_with (first
    | (go_at_call 18; have hq := hb3; refine (h4 _).mono ?_; rintro e w4 ⟨rfl, hb4⟩)
    | (go_at_call 18; have hq := hb2; refine (h3 _).mono ?_; rintro e w3 ⟨rfl, hb3⟩)
    | (go_at_call 18; refine (h1 _).mono ?_; rintro e w1 ⟨rfl, hb1⟩)
    | (go_at_call 17; refine (h2 _).mono ?_; rintro e w2 ⟨rfl, hb2⟩)
    | (go_at_call 15; refine (h5 _ (((hb1.thn hb2).thn hb3).thn hb4)).mono ?_; rintro e w5 ⟨rfl, hb5⟩)
    | (go_at_call 9; refine (h6 _ ((((hb1.thn hb2).thn hb3).thn hb4).thn hb5)).mono ?_; rintro e w6 ⟨rfl, hb6⟩)
    | (go_at_call 19; refine (h7 _ (((((hb1.thn hb2).thn hb3).thn hb4).thn hb5).thn hb6)).mono ?_; rintro e w7 ⟨rfl, hb7⟩)
    | (go_at_call 14; refine (h8 _).mono ?_; rintro e w8 ⟨rfl, hb8⟩))
  go_ret
  exact ⟨ret_bool (by simp [*]), ((((hb1.thn hb2).thn hb3).thn hb4).thn hb5).thn hb6⟩
set_option maxHeartbeats 2000000 in
theorem seen_w1b (s t d : ByteArray) (w : World) (c : Int) (TD : ByteArray) (G : Int) (h1 : ∀ W, Calls Tryd.prog 18 #[.string ⟨#[60, 97, 98, 99, 62]⟩, .string ⟨#[60, 97, 98, 62]⟩] W fun e w' => e = .returned (.tuple #[.string ⟨#[99]⟩, .int .i64 7]) ∧ Below W.heap.size W w') (h2 : ∀ W, Calls Tryd.prog 17 #[.string s] W fun e w' => e = .returned (.int .i64 c) ∧ Below W.heap.size W w') (h3 : ∀ W, Calls Tryd.prog 18 #[.string s, .string s] W fun e w' => e = .returned (.tuple #[.string ByteArray.empty, .int .i64 c]) ∧ Below W.heap.size W w') (h4 : ∀ W, Calls Tryd.prog 18 #[.string s, .string t] W fun e w' => e = .returned (.tuple #[.string ByteArray.empty, .int .i64 2]) ∧ Below W.heap.size W w') (h5 : ∀ W, Below w.heap.size w W → Calls Tryd.prog 15 #[.string s, .string t, .string d] W fun e w' => e = .returned (.tuple #[.string ByteArray.empty, .int .i64 2]) ∧ Below W.heap.size W w') (h6 : ∀ W, Below w.heap.size w W → Calls Tryd.prog 9 #[.string s, .string d] W fun e w' => e = .returned (.tuple #[.string TD, .int .i64 G]) ∧ Below W.heap.size W w') :
    Calls Tryd.prog 7 #[.string s, .string t, .string d] w fun e w' => e = .returned (.bool true) ∧ Below w.heap.size w w' := by
  have ecc : (c == c) = true := by simp
  have ecn : (c != c) = false := by simp
  skip
  go_enter Tryd.func7, Tryd.ntmps7
  go_wp2_with (first
    | (go_at_call 18; have hq := hb3; refine (h4 _).mono ?_; rintro e w4 ⟨rfl, hb4⟩)
    | (go_at_call 18; have hq := hb2; refine (h3 _).mono ?_; rintro e w3 ⟨rfl, hb3⟩)
    | (go_at_call 18; refine (h1 _).mono ?_; rintro e w1 ⟨rfl, hb1⟩)
    | (go_at_call 17; refine (h2 _).mono ?_; rintro e w2 ⟨rfl, hb2⟩)
    | (go_at_call 15; refine (h5 _ (((hb1.thn hb2).thn hb3).thn hb4)).mono ?_; rintro e w5 ⟨rfl, hb5⟩)
    | (go_at_call 9; refine (h6 _ ((((hb1.thn hb2).thn hb3).thn hb4).thn hb5)).mono ?_; rintro e w6 ⟨rfl, hb6⟩)
    | (go_at_call 19; refine (h7 _ (((((hb1.thn hb2).thn hb3).thn hb4).thn hb5).thn hb6)).mono ?_; rintro e w7 ⟨rfl, hb7⟩)
    | (go_at_call 14; refine (h8 _).mono ?_; rintro e w8 ⟨rfl, hb8⟩))
  go_ret
  exact ⟨ret_bool (by simp [*]), ((((hb1.thn hb2).thn hb3).thn hb4).thn hb5).thn hb6⟩
set_option maxHeartbeats 2000000 in
theorem seen_w1c (s t d : ByteArray) (w : World) (c : Int) (TD : ByteArray) (G : Int) (h1 : ∀ W, Calls Tryd.prog 18 #[.string ⟨#[60, 97, 98, 99, 62]⟩, .string ⟨#[60, 97, 98, 62]⟩] W fun e w' => e = .returned (.tuple #[.string ⟨#[99]⟩, .int .i64 7]) ∧ Below W.heap.size W w') (h2 : ∀ W, Calls Tryd.prog 17 #[.string s] W fun e w' => e = .returned (.int .i64 c) ∧ Below W.heap.size W w') (h3 : ∀ W, Calls Tryd.prog 18 #[.string s, .string s] W fun e w' => e = .returned (.tuple #[.string ByteArray.empty, .int .i64 c]) ∧ Below W.heap.size W w') (h4 : ∀ W, Calls Tryd.prog 18 #[.string s, .string t] W fun e w' => e = .returned (.tuple #[.string ByteArray.empty, .int .i64 2]) ∧ Below W.heap.size W w') (h5 : ∀ W, Below w.heap.size w W → Calls Tryd.prog 15 #[.string s, .string t, .string d] W fun e w' => e = .returned (.tuple #[.string ByteArray.empty, .int .i64 1]) ∧ Below W.heap.size W w') (h6 : ∀ W, Below w.heap.size w W → Calls Tryd.prog 9 #[.string s, .string d] W fun e w' => e = .returned (.tuple #[.string TD, .int .i64 G]) ∧ Below W.heap.size W w') :
    Calls Tryd.prog 7 #[.string s, .string t, .string d] w fun e w' => e = .returned (.bool true) ∧ Below w.heap.size w w' := by
  have ecc : (c == c) = true := by simp
  have ecn : (c != c) = false := by simp
  skip
  go_enter Tryd.func7, Tryd.ntmps7
  go_wp2_with (first
    | (go_at_call 18; have hq := hb3; refine (h4 _).mono ?_; rintro e w4 ⟨rfl, hb4⟩)
    | (go_at_call 18; have hq := hb2; refine (h3 _).mono ?_; rintro e w3 ⟨rfl, hb3⟩)
    | (go_at_call 18; refine (h1 _).mono ?_; rintro e w1 ⟨rfl, hb1⟩)
    | (go_at_call 17; refine (h2 _).mono ?_; rintro e w2 ⟨rfl, hb2⟩)
    | (go_at_call 15; refine (h5 _ (((hb1.thn hb2).thn hb3).thn hb4)).mono ?_; rintro e w5 ⟨rfl, hb5⟩)
    | (go_at_call 9; refine (h6 _ ((((hb1.thn hb2).thn hb3).thn hb4).thn hb5)).mono ?_; rintro e w6 ⟨rfl, hb6⟩)
    | (go_at_call 19; refine (h7 _ (((((hb1.thn hb2).thn hb3).thn hb4).thn hb5).thn hb6)).mono ?_; rintro e w7 ⟨rfl, hb7⟩)
    | (go_at_call 14; refine (h8 _).mono ?_; rintro e w8 ⟨rfl, hb8⟩))
  go_ret
  exact ⟨ret_bool (by simp [*]), ((((hb1.thn hb2).thn hb3).thn hb4).thn hb5).thn hb6⟩
set_option maxHeartbeats 2000000 in
theorem seen_w2a (s t d : ByteArray) (w : World) (c : Int) (TD : ByteArray) (G : Int) (hG : (G != 0) = true) (h1 : ∀ W, Calls Tryd.prog 18 #[.string ⟨#[60, 97, 98, 99, 62]⟩, .string ⟨#[60, 97, 98, 62]⟩] W fun e w' => e = .returned (.tuple #[.string ⟨#[99]⟩, .int .i64 7]) ∧ Below W.heap.size W w') (h2 : ∀ W, Calls Tryd.prog 17 #[.string s] W fun e w' => e = .returned (.int .i64 c) ∧ Below W.heap.size W w') (h3 : ∀ W, Calls Tryd.prog 18 #[.string s, .string s] W fun e w' => e = .returned (.tuple #[.string ByteArray.empty, .int .i64 c]) ∧ Below W.heap.size W w') (h4 : ∀ W, Calls Tryd.prog 18 #[.string s, .string t] W fun e w' => e = .returned (.tuple #[.string ByteArray.empty, .int .i64 0]) ∧ Below W.heap.size W w') (h5 : ∀ W, Below w.heap.size w W → Calls Tryd.prog 15 #[.string s, .string t, .string d] W fun e w' => e = .returned (.tuple #[.string ByteArray.empty, .int .i64 G]) ∧ Below W.heap.size W w') (h6 : ∀ W, Below w.heap.size w W → Calls Tryd.prog 9 #[.string s, .string d] W fun e w' => e = .returned (.tuple #[.string TD, .int .i64 G]) ∧ Below W.heap.size W w') :
    Calls Tryd.prog 7 #[.string s, .string t, .string d] w fun e w' => e = .returned (.bool true) ∧ Below w.heap.size w w' := by
  have ecc : (c == c) = true := by simp
  have ecn : (c != c) = false := by simp
  have egg : (G == G) = true := by simp
  go_enter Tryd.func7, Tryd.ntmps7
  go_wp2_with (first
    | (go_at_call 18; have hq := hb3; refine (h4 _).mono ?_; rintro e w4 ⟨rfl, hb4⟩)
    | (go_at_call 18; have hq := hb2; refine (h3 _).mono ?_; rintro e w3 ⟨rfl, hb3⟩)
    | (go_at_call 18; refine (h1 _).mono ?_; rintro e w1 ⟨rfl, hb1⟩)
    | (go_at_call 17; refine (h2 _).mono ?_; rintro e w2 ⟨rfl, hb2⟩)
    | (go_at_call 15; refine (h5 _ (((hb1.thn hb2).thn hb3).thn hb4)).mono ?_; rintro e w5 ⟨rfl, hb5⟩)
    | (go_at_call 9; refine (h6 _ ((((hb1.thn hb2).thn hb3).thn hb4).thn hb5)).mono ?_; rintro e w6 ⟨rfl, hb6⟩)
    | (go_at_call 19; refine (h7 _ (((((hb1.thn hb2).thn hb3).thn hb4).thn hb5).thn hb6)).mono ?_; rintro e w7 ⟨rfl, hb7⟩)
    | (go_at_call 14; refine (h8 _).mono ?_; rintro e w8 ⟨rfl, hb8⟩))
  go_ret
  exact ⟨ret_bool (by simp [*]), ((((hb1.thn hb2).thn hb3).thn hb4).thn hb5).thn hb6⟩
set_option maxHeartbeats 2000000 in
theorem seen_w2b (s t d : ByteArray) (w : World) (c : Int) (T TD : ByteArray) (hTe : T.toList.isEmpty = false) (G : Int) (hG : (G != 0) = true) (h1 : ∀ W, Calls Tryd.prog 18 #[.string ⟨#[60, 97, 98, 99, 62]⟩, .string ⟨#[60, 97, 98, 62]⟩] W fun e w' => e = .returned (.tuple #[.string ⟨#[99]⟩, .int .i64 7]) ∧ Below W.heap.size W w') (h2 : ∀ W, Calls Tryd.prog 17 #[.string s] W fun e w' => e = .returned (.int .i64 c) ∧ Below W.heap.size W w') (h3 : ∀ W, Calls Tryd.prog 18 #[.string s, .string s] W fun e w' => e = .returned (.tuple #[.string ByteArray.empty, .int .i64 c]) ∧ Below W.heap.size W w') (h4 : ∀ W, Calls Tryd.prog 18 #[.string s, .string t] W fun e w' => e = .returned (.tuple #[.string T, .int .i64 7]) ∧ Below W.heap.size W w') (h5 : ∀ W, Below w.heap.size w W → Calls Tryd.prog 15 #[.string s, .string t, .string d] W fun e w' => e = .returned (.tuple #[.string ByteArray.empty, .int .i64 G]) ∧ Below W.heap.size W w') (h6 : ∀ W, Below w.heap.size w W → Calls Tryd.prog 9 #[.string s, .string d] W fun e w' => e = .returned (.tuple #[.string TD, .int .i64 G]) ∧ Below W.heap.size W w') (h7 : ∀ W, Below w.heap.size w W → Calls Tryd.prog 19 #[.string s, .string t, .string T] W fun e w' => e = .returned (.bool true) ∧ Below W.heap.size W w') :
    Calls Tryd.prog 7 #[.string s, .string t, .string d] w fun e w' => e = .returned (.bool true) ∧ Below w.heap.size w w' := by
  have ecc : (c == c) = true := by simp
  have ecn : (c != c) = false := by simp
  have egg : (G == G) = true := by simp
  go_enter Tryd.func7, Tryd.ntmps7
  go_wp2_with (first
    | (go_at_call 18; have hq := hb3; refine (h4 _).mono ?_; rintro e w4 ⟨rfl, hb4⟩)
    | (go_at_call 18; have hq := hb2; refine (h3 _).mono ?_; rintro e w3 ⟨rfl, hb3⟩)
    | (go_at_call 18; refine (h1 _).mono ?_; rintro e w1 ⟨rfl, hb1⟩)
    | (go_at_call 17; refine (h2 _).mono ?_; rintro e w2 ⟨rfl, hb2⟩)
    | (go_at_call 15; refine (h5 _ (((hb1.thn hb2).thn hb3).thn hb4)).mono ?_; rintro e w5 ⟨rfl, hb5⟩)
    | (go_at_call 9; refine (h6 _ ((((hb1.thn hb2).thn hb3).thn hb4).thn hb5)).mono ?_; rintro e w6 ⟨rfl, hb6⟩)
    | (go_at_call 19; refine (h7 _ (((((hb1.thn hb2).thn hb3).thn hb4).thn hb5).thn hb6)).mono ?_; rintro e w7 ⟨rfl, hb7⟩)
    | (go_at_call 14; refine (h8 _).mono ?_; rintro e w8 ⟨rfl, hb8⟩))
  go_ret
  exact ⟨ret_bool (by simp [*]), (((((hb1.thn hb2).thn hb3).thn hb4).thn hb5).thn hb6).thn hb7⟩
set_option maxHeartbeats 2000000 in
theorem seen_w3 (s t d : ByteArray) (w : World) (c : Int) (T TD : ByteArray) (hTe : T.toList.isEmpty = false) (h1 : ∀ W, Calls Tryd.prog 18 #[.string ⟨#[60, 97, 98, 99, 62]⟩, .string ⟨#[60, 97, 98, 62]⟩] W fun e w' => e = .returned (.tuple #[.string ⟨#[99]⟩, .int .i64 7]) ∧ Below W.heap.size W w') (h2 : ∀ W, Calls Tryd.prog 17 #[.string s] W fun e w' => e = .returned (.int .i64 c) ∧ Below W.heap.size W w') (h3 : ∀ W, Calls Tryd.prog 18 #[.string s, .string s] W fun e w' => e = .returned (.tuple #[.string ByteArray.empty, .int .i64 c]) ∧ Below W.heap.size W w') (h4 : ∀ W, Calls Tryd.prog 18 #[.string s, .string t] W fun e w' => e = .returned (.tuple #[.string T, .int .i64 7]) ∧ Below W.heap.size W w') (h5 : ∀ W, Below w.heap.size w W → Calls Tryd.prog 15 #[.string s, .string t, .string d] W fun e w' => e = .returned (.tuple #[.string ByteArray.empty, .int .i64 6]) ∧ Below W.heap.size W w') (h6 : ∀ W, Below w.heap.size w W → Calls Tryd.prog 9 #[.string s, .string d] W fun e w' => e = .returned (.tuple #[.string TD, .int .i64 0]) ∧ Below W.heap.size W w') (h7 : ∀ W, Below w.heap.size w W → Calls Tryd.prog 19 #[.string s, .string t, .string T] W fun e w' => e = .returned (.bool true) ∧ Below W.heap.size W w') :
    Calls Tryd.prog 7 #[.string s, .string t, .string d] w fun e w' => e = .returned (.bool true) ∧ Below w.heap.size w w' := by
  have ecc : (c == c) = true := by simp
  have ecn : (c != c) = false := by simp
  skip
  go_enter Tryd.func7, Tryd.ntmps7
  go_wp2_with (first
    | (go_at_call 18; have hq := hb3; refine (h4 _).mono ?_; rintro e w4 ⟨rfl, hb4⟩)
    | (go_at_call 18; have hq := hb2; refine (h3 _).mono ?_; rintro e w3 ⟨rfl, hb3⟩)
    | (go_at_call 18; refine (h1 _).mono ?_; rintro e w1 ⟨rfl, hb1⟩)
    | (go_at_call 17; refine (h2 _).mono ?_; rintro e w2 ⟨rfl, hb2⟩)
    | (go_at_call 15; refine (h5 _ (((hb1.thn hb2).thn hb3).thn hb4)).mono ?_; rintro e w5 ⟨rfl, hb5⟩)
    | (go_at_call 9; refine (h6 _ ((((hb1.thn hb2).thn hb3).thn hb4).thn hb5)).mono ?_; rintro e w6 ⟨rfl, hb6⟩)
    | (go_at_call 19; refine (h7 _ (((((hb1.thn hb2).thn hb3).thn hb4).thn hb5).thn hb6)).mono ?_; rintro e w7 ⟨rfl, hb7⟩)
    | (go_at_call 14; refine (h8 _).mono ?_; rintro e w8 ⟨rfl, hb8⟩))
  go_ret
  exact ⟨ret_bool (by simp [*]), (((((hb1.thn hb2).thn hb3).thn hb4).thn hb5).thn hb6).thn hb7⟩
set_option maxHeartbeats 2000000 in
theorem seen_w4a0 (s t d : ByteArray) (w : World) (c : Int) (TD V X : ByteArray) (hV : V.toList.isEmpty = false) (h1 : ∀ W, Calls Tryd.prog 18 #[.string ⟨#[60, 97, 98, 99, 62]⟩, .string ⟨#[60, 97, 98, 62]⟩] W fun e w' => e = .returned (.tuple #[.string ⟨#[99]⟩, .int .i64 7]) ∧ Below W.heap.size W w') (h2 : ∀ W, Calls Tryd.prog 17 #[.string s] W fun e w' => e = .returned (.int .i64 c) ∧ Below W.heap.size W w') (h3 : ∀ W, Calls Tryd.prog 18 #[.string s, .string s] W fun e w' => e = .returned (.tuple #[.string ByteArray.empty, .int .i64 c]) ∧ Below W.heap.size W w') (h4 : ∀ W, Calls Tryd.prog 18 #[.string s, .string t] W fun e w' => e = .returned (.tuple #[.string ByteArray.empty, .int .i64 0]) ∧ Below W.heap.size W w') (h5 : ∀ W, Below w.heap.size w W → Calls Tryd.prog 15 #[.string s, .string t, .string d] W fun e w' => e = .returned (.tuple #[.string V, .int .i64 0]) ∧ Below W.heap.size W w') (h6 : ∀ W, Below w.heap.size w W → Calls Tryd.prog 9 #[.string s, .string d] W fun e w' => e = .returned (.tuple #[.string TD, .int .i64 0]) ∧ Below W.heap.size W w') (h8 : ∀ W, Calls Tryd.prog 14 #[.string t, .string V] W fun e w' => e = .returned (.tuple #[.string X, .int .i64 0]) ∧ Below W.heap.size W w') :
    Calls Tryd.prog 7 #[.string s, .string t, .string d] w fun e w' => e = .returned (.bool true) ∧ Below w.heap.size w w' := by
  have ecc : (c == c) = true := by simp
  have ecn : (c != c) = false := by simp
  skip
  go_enter Tryd.func7, Tryd.ntmps7
  go_wp2_with (first
    | (go_at_call 18; have hq := hb3; refine (h4 _).mono ?_; rintro e w4 ⟨rfl, hb4⟩)
    | (go_at_call 18; have hq := hb2; refine (h3 _).mono ?_; rintro e w3 ⟨rfl, hb3⟩)
    | (go_at_call 18; refine (h1 _).mono ?_; rintro e w1 ⟨rfl, hb1⟩)
    | (go_at_call 17; refine (h2 _).mono ?_; rintro e w2 ⟨rfl, hb2⟩)
    | (go_at_call 15; refine (h5 _ (((hb1.thn hb2).thn hb3).thn hb4)).mono ?_; rintro e w5 ⟨rfl, hb5⟩)
    | (go_at_call 9; refine (h6 _ ((((hb1.thn hb2).thn hb3).thn hb4).thn hb5)).mono ?_; rintro e w6 ⟨rfl, hb6⟩)
    | (go_at_call 19; refine (h7 _ (((((hb1.thn hb2).thn hb3).thn hb4).thn hb5).thn hb6)).mono ?_; rintro e w7 ⟨rfl, hb7⟩)
    | (go_at_call 14; refine (h8 _).mono ?_; rintro e w8 ⟨rfl, hb8⟩))
  go_ret
  exact ⟨ret_bool (by simp [*]), (((((hb1.thn hb2).thn hb3).thn hb4).thn hb5).thn hb6).thn hb8⟩
set_option maxHeartbeats 2000000 in
theorem seen_w4b0 (s t d : ByteArray) (w : World) (c : Int) (T TD V X : ByteArray) (hTe : T.toList.isEmpty = false) (hV : V.toList.isEmpty = false) (h1 : ∀ W, Calls Tryd.prog 18 #[.string ⟨#[60, 97, 98, 99, 62]⟩, .string ⟨#[60, 97, 98, 62]⟩] W fun e w' => e = .returned (.tuple #[.string ⟨#[99]⟩, .int .i64 7]) ∧ Below W.heap.size W w') (h2 : ∀ W, Calls Tryd.prog 17 #[.string s] W fun e w' => e = .returned (.int .i64 c) ∧ Below W.heap.size W w') (h3 : ∀ W, Calls Tryd.prog 18 #[.string s, .string s] W fun e w' => e = .returned (.tuple #[.string ByteArray.empty, .int .i64 c]) ∧ Below W.heap.size W w') (h4 : ∀ W, Calls Tryd.prog 18 #[.string s, .string t] W fun e w' => e = .returned (.tuple #[.string T, .int .i64 7]) ∧ Below W.heap.size W w') (h5 : ∀ W, Below w.heap.size w W → Calls Tryd.prog 15 #[.string s, .string t, .string d] W fun e w' => e = .returned (.tuple #[.string V, .int .i64 0]) ∧ Below W.heap.size W w') (h6 : ∀ W, Below w.heap.size w W → Calls Tryd.prog 9 #[.string s, .string d] W fun e w' => e = .returned (.tuple #[.string TD, .int .i64 0]) ∧ Below W.heap.size W w') (h7 : ∀ W, Below w.heap.size w W → Calls Tryd.prog 19 #[.string s, .string t, .string T] W fun e w' => e = .returned (.bool true) ∧ Below W.heap.size W w') (h8 : ∀ W, Calls Tryd.prog 14 #[.string t, .string V] W fun e w' => e = .returned (.tuple #[.string X, .int .i64 0]) ∧ Below W.heap.size W w') :
    Calls Tryd.prog 7 #[.string s, .string t, .string d] w fun e w' => e = .returned (.bool true) ∧ Below w.heap.size w w' := by
  have ecc : (c == c) = true := by simp
  have ecn : (c != c) = false := by simp
  skip
  go_enter Tryd.func7, Tryd.ntmps7
  go_wp2_with (first
    | (go_at_call 18; have hq := hb3; refine (h4 _).mono ?_; rintro e w4 ⟨rfl, hb4⟩)
    | (go_at_call 18; have hq := hb2; refine (h3 _).mono ?_; rintro e w3 ⟨rfl, hb3⟩)
    | (go_at_call 18; refine (h1 _).mono ?_; rintro e w1 ⟨rfl, hb1⟩)
    | (go_at_call 17; refine (h2 _).mono ?_; rintro e w2 ⟨rfl, hb2⟩)
    | (go_at_call 15; refine (h5 _ (((hb1.thn hb2).thn hb3).thn hb4)).mono ?_; rintro e w5 ⟨rfl, hb5⟩)
    | (go_at_call 9; refine (h6 _ ((((hb1.thn hb2).thn hb3).thn hb4).thn hb5)).mono ?_; rintro e w6 ⟨rfl, hb6⟩)
    | (go_at_call 19; refine (h7 _ (((((hb1.thn hb2).thn hb3).thn hb4).thn hb5).thn hb6)).mono ?_; rintro e w7 ⟨rfl, hb7⟩)
    | (go_at_call 14; refine (h8 _).mono ?_; rintro e w8 ⟨rfl, hb8⟩))
  go_ret
  exact ⟨ret_bool (by simp [*]), ((((((hb1.thn hb2).thn hb3).thn hb4).thn hb5).thn hb6).thn hb7).thn hb8⟩
set_option maxHeartbeats 2000000 in
theorem seen_w4a4 (s t d : ByteArray) (w : World) (c : Int) (TD V X : ByteArray) (hV : V.toList.isEmpty = false) (h1 : ∀ W, Calls Tryd.prog 18 #[.string ⟨#[60, 97, 98, 99, 62]⟩, .string ⟨#[60, 97, 98, 62]⟩] W fun e w' => e = .returned (.tuple #[.string ⟨#[99]⟩, .int .i64 7]) ∧ Below W.heap.size W w') (h2 : ∀ W, Calls Tryd.prog 17 #[.string s] W fun e w' => e = .returned (.int .i64 c) ∧ Below W.heap.size W w') (h3 : ∀ W, Calls Tryd.prog 18 #[.string s, .string s] W fun e w' => e = .returned (.tuple #[.string ByteArray.empty, .int .i64 c]) ∧ Below W.heap.size W w') (h4 : ∀ W, Calls Tryd.prog 18 #[.string s, .string t] W fun e w' => e = .returned (.tuple #[.string ByteArray.empty, .int .i64 0]) ∧ Below W.heap.size W w') (h5 : ∀ W, Below w.heap.size w W → Calls Tryd.prog 15 #[.string s, .string t, .string d] W fun e w' => e = .returned (.tuple #[.string V, .int .i64 0]) ∧ Below W.heap.size W w') (h6 : ∀ W, Below w.heap.size w W → Calls Tryd.prog 9 #[.string s, .string d] W fun e w' => e = .returned (.tuple #[.string TD, .int .i64 0]) ∧ Below W.heap.size W w') (h8 : ∀ W, Calls Tryd.prog 14 #[.string t, .string V] W fun e w' => e = .returned (.tuple #[.string X, .int .i64 4]) ∧ Below W.heap.size W w') :
    Calls Tryd.prog 7 #[.string s, .string t, .string d] w fun e w' => e = .returned (.bool true) ∧ Below w.heap.size w w' := by
  have ecc : (c == c) = true := by simp
  have ecn : (c != c) = false := by simp
  skip
  go_enter Tryd.func7, Tryd.ntmps7
  go_wp2_with (first
    | (go_at_call 18; have hq := hb3; refine (h4 _).mono ?_; rintro e w4 ⟨rfl, hb4⟩)
    | (go_at_call 18; have hq := hb2; refine (h3 _).mono ?_; rintro e w3 ⟨rfl, hb3⟩)
    | (go_at_call 18; refine (h1 _).mono ?_; rintro e w1 ⟨rfl, hb1⟩)
    | (go_at_call 17; refine (h2 _).mono ?_; rintro e w2 ⟨rfl, hb2⟩)
    | (go_at_call 15; refine (h5 _ (((hb1.thn hb2).thn hb3).thn hb4)).mono ?_; rintro e w5 ⟨rfl, hb5⟩)
    | (go_at_call 9; refine (h6 _ ((((hb1.thn hb2).thn hb3).thn hb4).thn hb5)).mono ?_; rintro e w6 ⟨rfl, hb6⟩)
    | (go_at_call 19; refine (h7 _ (((((hb1.thn hb2).thn hb3).thn hb4).thn hb5).thn hb6)).mono ?_; rintro e w7 ⟨rfl, hb7⟩)
    | (go_at_call 14; refine (h8 _).mono ?_; rintro e w8 ⟨rfl, hb8⟩))
  go_ret
  exact ⟨ret_bool (by simp [*]), (((((hb1.thn hb2).thn hb3).thn hb4).thn hb5).thn hb6).thn hb8⟩
set_option maxHeartbeats 2000000 in
theorem seen_w4b4 (s t d : ByteArray) (w : World) (c : Int) (T TD V X : ByteArray) (hTe : T.toList.isEmpty = false) (hV : V.toList.isEmpty = false) (h1 : ∀ W, Calls Tryd.prog 18 #[.string ⟨#[60, 97, 98, 99, 62]⟩, .string ⟨#[60, 97, 98, 62]⟩] W fun e w' => e = .returned (.tuple #[.string ⟨#[99]⟩, .int .i64 7]) ∧ Below W.heap.size W w') (h2 : ∀ W, Calls Tryd.prog 17 #[.string s] W fun e w' => e = .returned (.int .i64 c) ∧ Below W.heap.size W w') (h3 : ∀ W, Calls Tryd.prog 18 #[.string s, .string s] W fun e w' => e = .returned (.tuple #[.string ByteArray.empty, .int .i64 c]) ∧ Below W.heap.size W w') (h4 : ∀ W, Calls Tryd.prog 18 #[.string s, .string t] W fun e w' => e = .returned (.tuple #[.string T, .int .i64 7]) ∧ Below W.heap.size W w') (h5 : ∀ W, Below w.heap.size w W → Calls Tryd.prog 15 #[.string s, .string t, .string d] W fun e w' => e = .returned (.tuple #[.string V, .int .i64 0]) ∧ Below W.heap.size W w') (h6 : ∀ W, Below w.heap.size w W → Calls Tryd.prog 9 #[.string s, .string d] W fun e w' => e = .returned (.tuple #[.string TD, .int .i64 0]) ∧ Below W.heap.size W w') (h7 : ∀ W, Below w.heap.size w W → Calls Tryd.prog 19 #[.string s, .string t, .string T] W fun e w' => e = .returned (.bool true) ∧ Below W.heap.size W w') (h8 : ∀ W, Calls Tryd.prog 14 #[.string t, .string V] W fun e w' => e = .returned (.tuple #[.string X, .int .i64 4]) ∧ Below W.heap.size W w') :
    Calls Tryd.prog 7 #[.string s, .string t, .string d] w fun e w' => e = .returned (.bool true) ∧ Below w.heap.size w w' := by
  have ecc : (c == c) = true := by simp
  have ecn : (c != c) = false := by simp
  skip
  go_enter Tryd.func7, Tryd.ntmps7
  go_wp2_with (first
    | (go_at_call 18; have hq := hb3; refine (h4 _).mono ?_; rintro e w4 ⟨rfl, hb4⟩)
    | (go_at_call 18; have hq := hb2; refine (h3 _).mono ?_; rintro e w3 ⟨rfl, hb3⟩)
    | (go_at_call 18; refine (h1 _).mono ?_; rintro e w1 ⟨rfl, hb1⟩)
    | (go_at_call 17; refine (h2 _).mono ?_; rintro e w2 ⟨rfl, hb2⟩)
    | (go_at_call 15; refine (h5 _ (((hb1.thn hb2).thn hb3).thn hb4)).mono ?_; rintro e w5 ⟨rfl, hb5⟩)
    | (go_at_call 9; refine (h6 _ ((((hb1.thn hb2).thn hb3).thn hb4).thn hb5)).mono ?_; rintro e w6 ⟨rfl, hb6⟩)
    | (go_at_call 19; refine (h7 _ (((((hb1.thn hb2).thn hb3).thn hb4).thn hb5).thn hb6)).mono ?_; rintro e w7 ⟨rfl, hb7⟩)
    | (go_at_call 14; refine (h8 _).mono ?_; rintro e w8 ⟨rfl, hb8⟩))
  go_ret
  exact ⟨ret_bool (by simp [*]), ((((((hb1.thn hb2).thn hb3).thn hb4).thn hb5).thn hb6).thn hb7).thn hb8⟩
set_option maxHeartbeats 2000000 in
theorem seen_w4a1 (s t d : ByteArray) (w : World) (c : Int) (TD V X : ByteArray) (hV : V.toList.isEmpty = false) (h1 : ∀ W, Calls Tryd.prog 18 #[.string ⟨#[60, 97, 98, 99, 62]⟩, .string ⟨#[60, 97, 98, 62]⟩] W fun e w' => e = .returned (.tuple #[.string ⟨#[99]⟩, .int .i64 7]) ∧ Below W.heap.size W w') (h2 : ∀ W, Calls Tryd.prog 17 #[.string s] W fun e w' => e = .returned (.int .i64 c) ∧ Below W.heap.size W w') (h3 : ∀ W, Calls Tryd.prog 18 #[.string s, .string s] W fun e w' => e = .returned (.tuple #[.string ByteArray.empty, .int .i64 c]) ∧ Below W.heap.size W w') (h4 : ∀ W, Calls Tryd.prog 18 #[.string s, .string t] W fun e w' => e = .returned (.tuple #[.string ByteArray.empty, .int .i64 0]) ∧ Below W.heap.size W w') (h5 : ∀ W, Below w.heap.size w W → Calls Tryd.prog 15 #[.string s, .string t, .string d] W fun e w' => e = .returned (.tuple #[.string V, .int .i64 0]) ∧ Below W.heap.size W w') (h6 : ∀ W, Below w.heap.size w W → Calls Tryd.prog 9 #[.string s, .string d] W fun e w' => e = .returned (.tuple #[.string TD, .int .i64 0]) ∧ Below W.heap.size W w') (h8 : ∀ W, Calls Tryd.prog 14 #[.string t, .string V] W fun e w' => e = .returned (.tuple #[.string X, .int .i64 1]) ∧ Below W.heap.size W w') :
    Calls Tryd.prog 7 #[.string s, .string t, .string d] w fun e w' => e = .returned (.bool true) ∧ Below w.heap.size w w' := by
  have ecc : (c == c) = true := by simp
  have ecn : (c != c) = false := by simp
  skip
  go_enter Tryd.func7, Tryd.ntmps7
  go_wp2_with (first
    | (go_at_call 18; have hq := hb3; refine (h4 _).mono ?_; rintro e w4 ⟨rfl, hb4⟩)
    | (go_at_call 18; have hq := hb2; refine (h3 _).mono ?_; rintro e w3 ⟨rfl, hb3⟩)
    | (go_at_call 18; refine (h1 _).mono ?_; rintro e w1 ⟨rfl, hb1⟩)
    | (go_at_call 17; refine (h2 _).mono ?_; rintro e w2 ⟨rfl, hb2⟩)
    | (go_at_call 15; refine (h5 _ (((hb1.thn hb2).thn hb3).thn hb4)).mono ?_; rintro e w5 ⟨rfl, hb5⟩)
    | (go_at_call 9; refine (h6 _ ((((hb1.thn hb2).thn hb3).thn hb4).thn hb5)).mono ?_; rintro e w6 ⟨rfl, hb6⟩)
    | (go_at_call 19; refine (h7 _ (((((hb1.thn hb2).thn hb3).thn hb4).thn hb5).thn hb6)).mono ?_; rintro e w7 ⟨rfl, hb7⟩)
    | (go_at_call 14; refine (h8 _).mono ?_; rintro e w8 ⟨rfl, hb8⟩))
  go_ret
  exact ⟨ret_bool (by simp [*]), (((((hb1.thn hb2).thn hb3).thn hb4).thn hb5).thn hb6).thn hb8⟩
set_option maxHeartbeats 2000000 in
theorem seen_w4b1 (s t d : ByteArray) (w : World) (c : Int) (T TD V X : ByteArray) (hTe : T.toList.isEmpty = false) (hV : V.toList.isEmpty = false) (h1 : ∀ W, Calls Tryd.prog 18 #[.string ⟨#[60, 97, 98, 99, 62]⟩, .string ⟨#[60, 97, 98, 62]⟩] W fun e w' => e = .returned (.tuple #[.string ⟨#[99]⟩, .int .i64 7]) ∧ Below W.heap.size W w') (h2 : ∀ W, Calls Tryd.prog 17 #[.string s] W fun e w' => e = .returned (.int .i64 c) ∧ Below W.heap.size W w') (h3 : ∀ W, Calls Tryd.prog 18 #[.string s, .string s] W fun e w' => e = .returned (.tuple #[.string ByteArray.empty, .int .i64 c]) ∧ Below W.heap.size W w') (h4 : ∀ W, Calls Tryd.prog 18 #[.string s, .string t] W fun e w' => e = .returned (.tuple #[.string T, .int .i64 7]) ∧ Below W.heap.size W w') (h5 : ∀ W, Below w.heap.size w W → Calls Tryd.prog 15 #[.string s, .string t, .string d] W fun e w' => e = .returned (.tuple #[.string V, .int .i64 0]) ∧ Below W.heap.size W w') (h6 : ∀ W, Below w.heap.size w W → Calls Tryd.prog 9 #[.string s, .string d] W fun e w' => e = .returned (.tuple #[.string TD, .int .i64 0]) ∧ Below W.heap.size W w') (h7 : ∀ W, Below w.heap.size w W → Calls Tryd.prog 19 #[.string s, .string t, .string T] W fun e w' => e = .returned (.bool true) ∧ Below W.heap.size W w') (h8 : ∀ W, Calls Tryd.prog 14 #[.string t, .string V] W fun e w' => e = .returned (.tuple #[.string X, .int .i64 1]) ∧ Below W.heap.size W w') :
    Calls Tryd.prog 7 #[.string s, .string t, .string d] w fun e w' => e = .returned (.bool true) ∧ Below w.heap.size w w' := by
  have ecc : (c == c) = true := by simp
  have ecn : (c != c) = false := by simp
  skip
  go_enter Tryd.func7, Tryd.ntmps7
  go_wp2_with (first
    | (go_at_call 18; have hq := hb3; refine (h4 _).mono ?_; rintro e w4 ⟨rfl, hb4⟩)
    | (go_at_call 18; have hq := hb2; refine (h3 _).mono ?_; rintro e w3 ⟨rfl, hb3⟩)
    | (go_at_call 18; refine (h1 _).mono ?_; rintro e w1 ⟨rfl, hb1⟩)
    | (go_at_call 17; refine (h2 _).mono ?_; rintro e w2 ⟨rfl, hb2⟩)
    | (go_at_call 15; refine (h5 _ (((hb1.thn hb2).thn hb3).thn hb4)).mono ?_; rintro e w5 ⟨rfl, hb5⟩)
    | (go_at_call 9; refine (h6 _ ((((hb1.thn hb2).thn hb3).thn hb4).thn hb5)).mono ?_; rintro e w6 ⟨rfl, hb6⟩)
    | (go_at_call 19; refine (h7 _ (((((hb1.thn hb2).thn hb3).thn hb4).thn hb5).thn hb6)).mono ?_; rintro e w7 ⟨rfl, hb7⟩)
    | (go_at_call 14; refine (h8 _).mono ?_; rintro e w8 ⟨rfl, hb8⟩))
  go_ret
  exact ⟨ret_bool (by simp [*]), ((((((hb1.thn hb2).thn hb3).thn hb4).thn hb5).thn hb6).thn hb7).thn hb8⟩
end Go.Proofs.YtkkekopomiehlaaDoor
