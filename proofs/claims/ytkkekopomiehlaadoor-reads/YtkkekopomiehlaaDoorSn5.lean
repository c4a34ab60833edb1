import Derived.Test.YtkkekopomiehlaaDoorMSn1
set_option linter.unusedVariables false
set_option linter.unusedSimpArgs false
set_option maxRecDepth 4000
namespace Go.Proofs.YtkkekopomiehlaaDoor
open Go.RowKit

/-- An answer with this second result, and something said of the text. -/
def SR (b : Bool) (q : ByteArray → Prop) (e : Ending) : Prop := ∃ z : ByteArray, e = .returned (.tuple #[.string z, .bool b]) ∧ q z
theorem SR_of {o : Option ByteArray} {e : Ending} (h : SRet o e) : SR o.isSome (fun z => ∀ t, o = some t → z = t) e := by
  cases o with
  | none => obtain ⟨z, h⟩ := h; exact ⟨z, h, fun t h => by cases h⟩
  | some t => exact ⟨t, h, fun u h => by cases h; rfl⟩
theorem SR_to {o : Option ByteArray} {e : Ending} (h : SR o.isSome (fun z => ∀ t, o = some t → z = t) e) : SRet o e := by
  obtain ⟨z, h1, h2⟩ := h
  cases o with
  | none => exact ⟨z, h1⟩
  | some t => obtain rfl := h2 t rfl; exact h1

set_option maxHeartbeats 1000000 in
theorem seen_non {s t d : ByteArray} (i k j : Nat) (hi : i < s.size) (hk : k < t.size) (hj : j < d.size) (_hs : s.size ≤ 9000000) (_ht : t.size ≤ 9000000) (_hd : d.size ≤ 9000000) (w : World)
    (hA : s[i].toNat = 63) (hC : d[j].toNat = 0) :
    Calls Tryd.prog 29 #[.string s, .int .i64 i, .string t, .int .i64 k, .string d, .int .i64 j] w fun e w' => SR ((t[k].toNat : Int) == 63) (fun z => z = ⟨#[95]⟩) e ∧ Below w.heap.size w w' := by
  go_enter Tryd.func29, Tryd.ntmps29
  go_wp2_with fail
  go_ret2
  exact ⟨⟨_, rfl, rfl⟩, Below.refl _ _⟩

set_option maxHeartbeats 1000000 in
theorem seen_both {s t d : ByteArray} (i k j : Nat) (hi : i < s.size) (hk : k < t.size) (hj : j < d.size) (_hs : s.size ≤ 9000000) (_ht : t.size ≤ 9000000) (_hd : d.size ≤ 9000000) (w : World)
    (hA : s[i].toNat = 63) (hB : t[k].toNat = 63) (hC : ((d[j].toNat : Int) == 0) = false) (b : Bool) (q : ByteArray → Prop) (hcall : ∀ w, Calls Tryd.prog 29 #[.string s, .int .i64 ((i : Int) + 1), .string t, .int .i64 ((k : Int) + 1), .string d, .int .i64 ((j : Int) + 1)] w fun e w' => SR b q e ∧ Below w.heap.size w w') :
    Calls Tryd.prog 29 #[.string s, .int .i64 i, .string t, .int .i64 k, .string d, .int .i64 j] w fun e w' => SR b q e ∧ Below w.heap.size w w' := by
  go_enter Tryd.func29, Tryd.ntmps29
  go_wp2_with (first | (go_at_call 29; refine (hcall _).mono ?_; rintro e w1 ⟨⟨z, rfl, hz⟩, hb1⟩))
  go_ret2
  exact ⟨⟨z, rfl, hz⟩, hb1⟩

set_option maxHeartbeats 1000000 in
theorem seen_some {s t d : ByteArray} (i k j : Nat) (hi : i < s.size) (hk : k < t.size) (hj : j < d.size) (_hs : s.size ≤ 9000000) (_ht : t.size ≤ 9000000) (_hd : d.size ≤ 9000000) (w : World)
    (hA : s[i].toNat = 63) (hB : ((t[k].toNat : Int) == 63) = false) (hC : ((d[j].toNat : Int) == 0) = false) (b : Bool) (q : ByteArray → Prop) (hcall : ∀ w, Calls Tryd.prog 29 #[.string s, .int .i64 ((i : Int) + 1), .string t, .int .i64 k, .string d, .int .i64 ((j : Int) + 1)] w fun e w' => SR b q e ∧ Below w.heap.size w w') :
    Calls Tryd.prog 29 #[.string s, .int .i64 i, .string t, .int .i64 k, .string d, .int .i64 j] w fun e w' => SR b q e ∧ Below w.heap.size w w' := by
  go_enter Tryd.func29, Tryd.ntmps29
  go_wp2_with (first | (go_at_call 29; refine (hcall _).mono ?_; rintro e w1 ⟨⟨z, rfl, hz⟩, hb1⟩))
  go_ret2
  exact ⟨⟨z, rfl, hz⟩, hb1⟩

set_option maxHeartbeats 1000000 in
theorem seen_rdr {s t d : ByteArray} (i k j : Nat) (hi : i < s.size) (hk : k < t.size) (hj : j < d.size) (_hs : s.size ≤ 9000000) (_ht : t.size ≤ 9000000) (_hd : d.size ≤ 9000000) (w : World)
    (hA : ((s[i].toNat : Int) == 63) = false) (hB : t[k].toNat = 63) (b : Bool) (q : ByteArray → Prop) (hcall : ∀ w, Calls Tryd.prog 29 #[.string s, .int .i64 i, .string t, .int .i64 ((k : Int) + 1), .string d, .int .i64 j] w fun e w' => SR b q e ∧ Below w.heap.size w w') :
    Calls Tryd.prog 29 #[.string s, .int .i64 i, .string t, .int .i64 k, .string d, .int .i64 j] w fun e w' => SR b q e ∧ Below w.heap.size w w' := by
  go_enter Tryd.func29, Tryd.ntmps29
  go_wp2_with (first | (go_at_call 29; refine (hcall _).mono ?_; rintro e w1 ⟨⟨z, rfl, hz⟩, hb1⟩))
  go_ret2
  exact ⟨⟨z, rfl, hz⟩, hb1⟩

set_option maxHeartbeats 1000000 in
theorem seen_same105108 {s t d : ByteArray} (i k j : Nat) (hi : i < s.size) (hk : k < t.size) (hj : j < d.size) (_hs : s.size ≤ 9000000) (_ht : t.size ≤ 9000000) (_hd : d.size ≤ 9000000) (w : World)
    (hA : s[i].toNat = 105) (hB : t[k].toNat = 108) (T : ByteArray) (m : Nat) (hcall : ∀ w, Calls Tryd.prog 23 #[.string s, .int .i64 i, .string d, .int .i64 j] w fun e w' => e = .returned (.tuple #[.string T, .int .i64 m]) ∧ Below w.heap.size w w') :
    Calls Tryd.prog 29 #[.string s, .int .i64 i, .string t, .int .i64 k, .string d, .int .i64 j] w fun e w' => SR true (fun z => z = T) e ∧ Below w.heap.size w w' := by
  go_enter Tryd.func29, Tryd.ntmps29
  have hm : (m : Int) ≥ 0 := by omega
  go_wp2_with (first | (go_at_call 23; refine (hcall _).mono ?_; rintro e w1 ⟨rfl, hb1⟩))
  go_ret2
  exact ⟨⟨T, rfl, rfl⟩, hb1⟩

set_option maxHeartbeats 1000000 in
theorem seen_same105105 {s t d : ByteArray} (i k j : Nat) (hi : i < s.size) (hk : k < t.size) (hj : j < d.size) (_hs : s.size ≤ 9000000) (_ht : t.size ≤ 9000000) (_hd : d.size ≤ 9000000) (w : World)
    (hA : s[i].toNat = 105) (hB : t[k].toNat = 105) (T : ByteArray) (m : Nat) (hcall : ∀ w, Calls Tryd.prog 23 #[.string s, .int .i64 i, .string d, .int .i64 j] w fun e w' => e = .returned (.tuple #[.string T, .int .i64 m]) ∧ Below w.heap.size w w') :
    Calls Tryd.prog 29 #[.string s, .int .i64 i, .string t, .int .i64 k, .string d, .int .i64 j] w fun e w' => SR true (fun z => z = T) e ∧ Below w.heap.size w w' := by
  go_enter Tryd.func29, Tryd.ntmps29
  have hm : (m : Int) ≥ 0 := by omega
  go_wp2_with (first | (go_at_call 23; refine (hcall _).mono ?_; rintro e w1 ⟨rfl, hb1⟩))
  go_ret2
  exact ⟨⟨T, rfl, rfl⟩, hb1⟩

set_option maxHeartbeats 1000000 in
theorem seen_same108108 {s t d : ByteArray} (i k j : Nat) (hi : i < s.size) (hk : k < t.size) (hj : j < d.size) (_hs : s.size ≤ 9000000) (_ht : t.size ≤ 9000000) (_hd : d.size ≤ 9000000) (w : World)
    (hA : s[i].toNat = 108) (hB : t[k].toNat = 108) (T : ByteArray) (m : Nat) (hcall : ∀ w, Calls Tryd.prog 23 #[.string s, .int .i64 i, .string d, .int .i64 j] w fun e w' => e = .returned (.tuple #[.string T, .int .i64 m]) ∧ Below w.heap.size w w') :
    Calls Tryd.prog 29 #[.string s, .int .i64 i, .string t, .int .i64 k, .string d, .int .i64 j] w fun e w' => SR true (fun z => z = T) e ∧ Below w.heap.size w w' := by
  go_enter Tryd.func29, Tryd.ntmps29
  have hm : (m : Int) ≥ 0 := by omega
  go_wp2_with (first | (go_at_call 23; refine (hcall _).mono ?_; rintro e w1 ⟨rfl, hb1⟩))
  go_ret2
  exact ⟨⟨T, rfl, rfl⟩, hb1⟩

set_option maxHeartbeats 1000000 in
theorem seen_same115115 {s t d : ByteArray} (i k j : Nat) (hi : i < s.size) (hk : k < t.size) (hj : j < d.size) (_hs : s.size ≤ 9000000) (_ht : t.size ≤ 9000000) (_hd : d.size ≤ 9000000) (w : World)
    (hA : s[i].toNat = 115) (hB : t[k].toNat = 115) (T : ByteArray) (m : Nat) (hcall : ∀ w, Calls Tryd.prog 23 #[.string s, .int .i64 i, .string d, .int .i64 j] w fun e w' => e = .returned (.tuple #[.string T, .int .i64 m]) ∧ Below w.heap.size w w') :
    Calls Tryd.prog 29 #[.string s, .int .i64 i, .string t, .int .i64 k, .string d, .int .i64 j] w fun e w' => SR true (fun z => z = T) e ∧ Below w.heap.size w w' := by
  go_enter Tryd.func29, Tryd.ntmps29
  have hm : (m : Int) ≥ 0 := by omega
  go_wp2_with (first | (go_at_call 23; refine (hcall _).mono ?_; rintro e w1 ⟨rfl, hb1⟩))
  go_ret2
  exact ⟨⟨T, rfl, rfl⟩, hb1⟩

set_option maxHeartbeats 1000000 in
theorem seen_no1 {s t d : ByteArray} (i k j : Nat) (hi : i < s.size) (hk : k < t.size) (hj : j < d.size) (_hs : s.size ≤ 9000000) (_ht : t.size ≤ 9000000) (_hd : d.size ≤ 9000000) (w : World)
    (hA : s[i].toNat = 105) (h1 : ((t[k].toNat : Int) == 63) = false) (h2 : ((t[k].toNat : Int) == 108) = false) (h3 : ((105 : Int) == (t[k].toNat : Int)) = false) (h4 : ((105 : Int) != (t[k].toNat : Int)) = true) :
    Calls Tryd.prog 29 #[.string s, .int .i64 i, .string t, .int .i64 k, .string d, .int .i64 j] w fun e w' => SR false (fun _ => True) e ∧ Below w.heap.size w w' := by
  go_enter Tryd.func29, Tryd.ntmps29
  go_wp2_with fail
  go_ret2
  exact ⟨⟨_, rfl, trivial⟩, Below.refl _ _⟩

set_option maxHeartbeats 1000000 in
theorem seen_no2 {s t d : ByteArray} (i k j : Nat) (hi : i < s.size) (hk : k < t.size) (hj : j < d.size) (_hs : s.size ≤ 9000000) (_ht : t.size ≤ 9000000) (_hd : d.size ≤ 9000000) (w : World)
    (h0 : ((s[i].toNat : Int) == 63) = false) (h1 : ((t[k].toNat : Int) == 63) = false) (h2 : ((s[i].toNat : Int) == 105) = false) (h3 : ((s[i].toNat : Int) == (t[k].toNat : Int)) = false) (h4 : ((s[i].toNat : Int) != (t[k].toNat : Int)) = true) :
    Calls Tryd.prog 29 #[.string s, .int .i64 i, .string t, .int .i64 k, .string d, .int .i64 j] w fun e w' => SR false (fun _ => True) e ∧ Below w.heap.size w w' := by
  go_enter Tryd.func29, Tryd.ntmps29
  go_wp2_with fail
  go_ret2
  exact ⟨⟨_, rfl, trivial⟩, Below.refl _ _⟩

set_option maxHeartbeats 1000000 in
theorem seen_cho {s t d : ByteArray} (i k j : Nat) (hi : i < s.size) (hk : k < t.size) (hj : j < d.size) (_hs : s.size ≤ 9000000) (_ht : t.size ≤ 9000000) (_hd : d.size ≤ 9000000) (w : World)
    (hA : s[i].toNat = 60) (hB : t[k].toNat = 60) (l : ByteArray) (hl8 : l.size ≤ 8) (hlx : d[j].toNat < l.size) (b : Bool) (q : ByteArray → Prop) (hl : ∀ w, Calls Tryd.prog 36 #[.string s, .int .i64 i] w fun e w' => e = .returned (.string l) ∧ w = w') (hcall : ∀ w, Calls Tryd.prog 46 #[.int .u8 (l[d[j].toNat]'hlx).toNat, .string t, .int .i64 k] w fun e w' => SR b q e ∧ Below w.heap.size w w') :
    Calls Tryd.prog 29 #[.string s, .int .i64 i, .string t, .int .i64 k, .string d, .int .i64 j] w fun e w' => SR b q e ∧ Below w.heap.size w w' := by
  go_enter Tryd.func29, Tryd.ntmps29
  have hlx' : (d[j].toNat : Int) < (l.size : Int) := by omega
  go_wp2_with (first | (go_at_call 36; refine (hl _).mono ?_; rintro e _ ⟨rfl, rfl⟩) | (go_at_call 46; refine (hcall _).mono ?_; rintro e w1 ⟨⟨z, rfl, hz⟩, hb1⟩))
  go_ret2
  exact ⟨⟨z, rfl, hz⟩, hb1⟩

set_option maxHeartbeats 1000000 in
theorem seen_lst {s t d : ByteArray} (i k j : Nat) (hi : i < s.size) (hk : k < t.size) (hj : j < d.size) (_hs : s.size ≤ 9000000) (_ht : t.size ≤ 9000000) (_hd : d.size ≤ 9000000) (w : World)
    (hA : s[i].toNat = 91) (hB : t[k].toNat = 91) (b : Bool) (q : ByteArray → Prop) (hcall : ∀ w, Calls Tryd.prog 47 #[.string s, .int .i64 ((i : Int) + 1), .string t, .int .i64 ((k : Int) + 1), .string d, .int .i64 j] w fun e w' => SR b q e ∧ Below w.heap.size w w') :
    Calls Tryd.prog 29 #[.string s, .int .i64 i, .string t, .int .i64 k, .string d, .int .i64 j] w fun e w' => SR b q e ∧ Below w.heap.size w w' := by
  go_enter Tryd.func29, Tryd.ntmps29
  go_wp2_with (first | (go_at_call 47; refine (hcall _).mono ?_; rintro e w1 ⟨⟨z, rfl, hz⟩, hb1⟩))
  go_ret2
  exact ⟨⟨z, rfl, hz⟩, hb1⟩

set_option maxHeartbeats 1000000 in
theorem seen_rcd {s t d : ByteArray} (i k j : Nat) (hi : i < s.size) (hk : k < t.size) (hj : j < d.size) (_hs : s.size ≤ 9000000) (_ht : t.size ≤ 9000000) (_hd : d.size ≤ 9000000) (w : World)
    (hA : s[i].toNat = 123) (hB : t[k].toNat = 123) (b : Bool) (q : ByteArray → Prop) (hcall : ∀ w, Calls Tryd.prog 48 #[.string s, .int .i64 i, .string t, .int .i64 k, .string d, .int .i64 j] w fun e w' => SR b q e ∧ Below w.heap.size w w') :
    Calls Tryd.prog 29 #[.string s, .int .i64 i, .string t, .int .i64 k, .string d, .int .i64 j] w fun e w' => SR b q e ∧ Below w.heap.size w w' := by
  go_enter Tryd.func29, Tryd.ntmps29
  go_wp2_with (first | (go_at_call 48; refine (hcall _).mono ?_; rintro e w1 ⟨⟨z, rfl, hz⟩, hb1⟩))
  go_ret2
  exact ⟨⟨z, rfl, hz⟩, hb1⟩

end Go.Proofs.YtkkekopomiehlaaDoor
