import Derived.Test.YtkkekopomiehlaaDoorEncRec
set_option linter.unusedVariables false
set_option linter.unusedSimpArgs false
namespace Go.Proofs.YtkkekopomiehlaaDoor
open Go.RowKit

set_option maxHeartbeats 2000000 in
theorem encodeAt_succ {n : Nat} {t : ByteArray} (IH : EncAtOK n t) (ht : t.size ≤ 4096) (hn : n ≤ 100) : EncAtOK (n + 1) t := by
  intro ty j w ai af li ci lf cf hj hr
  have _hs : t.size ≤ 9000000 := by omega
  have hB : ∀ o, Below w.heap.size w (w.alloc o) := fun o => (Below.refl _ _).alloc (Nat.le_refl _) _
  have hl8 : ty.letters.size ≤ 8 := hr.1
  have hlf := hr.flds
  by_cases h105 : ty.kind = 105
  · have h105' : ((ty.kind : Int) == 105) = true := by simp [h105]
    have hr' : Hid (enc false t (n + 1) ty j = encNum false (-2147483648) 2147483647 t j) := by show _ = _; rw [enc, if_pos h105]
    clear h105 hr hlf
    go_enter Tryd.func39, Tryd.ntmps39
    cases hx : encNum false (-2147483648) 2147483647 t j with
    | none =>
      have hcall : ∀ o, Calls Tryd.prog 67 #[.int .i64 (-2147483648), .int .i64 2147483647, .string t, .int .i64 j] (w.alloc o) fun e w' => e = .returned (.tuple #[.string ByteArray.empty, .int .i64 j, .bool false]) ∧ Below (w.alloc o).heap.size (w.alloc o) w' := fun o => by have := encodeNumber_any (-2147483648) 2147483647 t j (w.alloc o) _hs hj; rw [hx] at this; exact this
      go_wp2_with (go_at_call 67; refine (hcall _).mono ?_; rintro e w' ⟨rfl, hbw⟩)
      go_ret3
      rw [hr'.out, hx]
      exact ⟨rfl, (hB _).trans (hbw.mono (by simp))⟩
    | some p =>
      obtain ⟨d, k⟩ := p
      have hcall : ∀ o, Calls Tryd.prog 67 #[.int .i64 (-2147483648), .int .i64 2147483647, .string t, .int .i64 j] (w.alloc o) fun e w' => e = .returned (.tuple #[.string d, .int .i64 k, .bool true]) ∧ Below (w.alloc o).heap.size (w.alloc o) w' := fun o => by have := encodeNumber_any (-2147483648) 2147483647 t j (w.alloc o) _hs hj; rw [hx] at this; exact this
      go_wp2_with (go_at_call 67; refine (hcall _).mono ?_; rintro e w' ⟨rfl, hbw⟩)
      go_ret3
      rw [hr'.out, hx]
      exact ⟨rfl, (hB _).trans (hbw.mono (by simp))⟩
  have h105' : ((ty.kind : Int) == 105) = false := by simp; omega
  by_cases h108 : ty.kind = 108
  · have h108' : ((ty.kind : Int) == 108) = true := by simp [h108]
    have hr' : Hid (enc false t (n + 1) ty j = encNum false (-1000000000000000) 1000000000000000 t j) := by show _ = _; rw [enc, if_neg h105, if_pos h108]
    clear h105 h108 hr hlf
    go_enter Tryd.func39, Tryd.ntmps39
    cases hx : encNum false (-1000000000000000) 1000000000000000 t j with
    | none =>
      have hcall : ∀ o, Calls Tryd.prog 67 #[.int .i64 (-1000000000000000), .int .i64 1000000000000000, .string t, .int .i64 j] (w.alloc o) fun e w' => e = .returned (.tuple #[.string ByteArray.empty, .int .i64 j, .bool false]) ∧ Below (w.alloc o).heap.size (w.alloc o) w' := fun o => by have := encodeNumber_any (-1000000000000000) 1000000000000000 t j (w.alloc o) _hs hj; rw [hx] at this; exact this
      go_wp2_with (go_at_call 67; refine (hcall _).mono ?_; rintro e w' ⟨rfl, hbw⟩)
      go_ret3
      rw [hr'.out, hx]
      exact ⟨rfl, (hB _).trans (hbw.mono (by simp))⟩
    | some p =>
      obtain ⟨d, k⟩ := p
      have hcall : ∀ o, Calls Tryd.prog 67 #[.int .i64 (-1000000000000000), .int .i64 1000000000000000, .string t, .int .i64 j] (w.alloc o) fun e w' => e = .returned (.tuple #[.string d, .int .i64 k, .bool true]) ∧ Below (w.alloc o).heap.size (w.alloc o) w' := fun o => by have := encodeNumber_any (-1000000000000000) 1000000000000000 t j (w.alloc o) _hs hj; rw [hx] at this; exact this
      go_wp2_with (go_at_call 67; refine (hcall _).mono ?_; rintro e w' ⟨rfl, hbw⟩)
      go_ret3
      rw [hr'.out, hx]
      exact ⟨rfl, (hB _).trans (hbw.mono (by simp))⟩
  have h108' : ((ty.kind : Int) == 108) = false := by simp; omega
  by_cases h115 : ty.kind = 115
  · have h115' : ((ty.kind : Int) == 115) = true := by simp [h115]
    have hr' : Hid (enc false t (n + 1) ty j = encStr t j) := by show _ = _; rw [enc, if_neg h105, if_neg h108, if_pos h115]
    clear h105 h108 h115 hr hlf
    go_enter Tryd.func39, Tryd.ntmps39
    cases hx : encStr t j with
    | none =>
      have hcall : ∀ o, Calls Tryd.prog 68 #[.string t, .int .i64 j] (w.alloc o) fun e w' => e = .returned (.tuple #[.string ByteArray.empty, .int .i64 j, .bool false]) ∧ Below (w.alloc o).heap.size (w.alloc o) w' := fun o => by have := encodeString_any t j (w.alloc o) _hs hj; rw [hx] at this; exact this
      go_wp2_with (go_at_call 68; refine (hcall _).mono ?_; rintro e w' ⟨rfl, hbw⟩)
      go_ret3
      rw [hr'.out, hx]
      exact ⟨rfl, (hB _).trans (hbw.mono (by simp))⟩
    | some p =>
      obtain ⟨d, k⟩ := p
      have hcall : ∀ o, Calls Tryd.prog 68 #[.string t, .int .i64 j] (w.alloc o) fun e w' => e = .returned (.tuple #[.string d, .int .i64 k, .bool true]) ∧ Below (w.alloc o).heap.size (w.alloc o) w' := fun o => by have := encodeString_any t j (w.alloc o) _hs hj; rw [hx] at this; exact this
      go_wp2_with (go_at_call 68; refine (hcall _).mono ?_; rintro e w' ⟨rfl, hbw⟩)
      go_ret3
      rw [hr'.out, hx]
      exact ⟨rfl, (hB _).trans (hbw.mono (by simp))⟩
  have h115' : ((ty.kind : Int) == 115) = false := by simp; omega
  by_cases h60 : ty.kind = 60
  · have h60' : ((ty.kind : Int) == 60) = true := by simp [h60]
    have hr' : Hid (enc false t (n + 1) ty j = encCho ty.letters t j) := by show _ = _; rw [enc, if_neg h105, if_neg h108, if_neg h115, if_pos h60]; rfl
    clear h105 h108 h115 h60 hr hlf
    go_enter Tryd.func39, Tryd.ntmps39
    cases hx : encCho ty.letters t j with
    | none =>
      have hcall : ∀ o, Calls Tryd.prog 69 #[.string ty.letters, .string t, .int .i64 j] (w.alloc o) fun e w' => e = .returned (.tuple #[.string ByteArray.empty, .int .i64 j, .bool false]) ∧ Below (w.alloc o).heap.size (w.alloc o) w' := fun o => by have := encodeChoice_any ty.letters t j (w.alloc o) _hs hl8 hj; rw [hx] at this; exact this
      go_wp2_with (go_at_call 69; refine (hcall _).mono ?_; rintro e w' ⟨rfl, hbw⟩)
      go_ret3
      rw [hr'.out, hx]
      exact ⟨rfl, (hB _).trans (hbw.mono (by simp))⟩
    | some p =>
      obtain ⟨d, k⟩ := p
      have hcall : ∀ o, Calls Tryd.prog 69 #[.string ty.letters, .string t, .int .i64 j] (w.alloc o) fun e w' => e = .returned (.tuple #[.string d, .int .i64 k, .bool true]) ∧ Below (w.alloc o).heap.size (w.alloc o) w' := fun o => by have := encodeChoice_any ty.letters t j (w.alloc o) _hs hl8 hj; rw [hx] at this; exact this
      go_wp2_with (go_at_call 69; refine (hcall _).mono ?_; rintro e w' ⟨rfl, hbw⟩)
      go_ret3
      rw [hr'.out, hx]
      exact ⟨rfl, (hB _).trans (hbw.mono (by simp))⟩
  have h60' : ((ty.kind : Int) == 60) = false := by simp; omega
  by_cases h91 : ty.kind = 91
  · have h91' : ((ty.kind : Int) == 91) = true := by simp [h91]
    have hr' : Hid (enc false t (n + 1) ty j = encList (enc false t n ty.in) t j) := by show _ = _; rw [enc, if_neg h105, if_neg h108, if_neg h115, if_neg h60, if_pos h91]
    have hne : ty.inner ≠ [] := hr.2.2.2.1.1 (by omega)
    have hin := fun o => inner_any n (w.alloc o) ai af li ci lf cf ty (hr.keep (hB o)) hne
    clear h105 h108 h115 h60 h91 hr hlf
    cases hx : encList (enc false t n ty.in) t j with
    | none =>
      have hcall : ∀ (w1 : World) p1 p2 p3 q1 q2 q3, Rep n w1 p1 p2 p3 q1 q2 q3 ty.in → Calls Tryd.prog 70 #[.agg #[.int .i64 ty.in.kind, .string ty.in.letters, .bool ty.in.op, .slice p1 p2 p3, .slice q1 q2 q3], .string t, .int .i64 j] w1 fun e w' => e = .returned (.tuple #[.string ByteArray.empty, .int .i64 j, .bool false]) ∧ Below w1.heap.size w1 w' := fun w1 p1 p2 p3 q1 q2 q3 h1 => by have := encodeList_any IH ht hn ty.in j w1 p1 q1 p2 p3 q2 q3 hj h1; rw [hx] at this; exact this
      go_enter Tryd.func39, Tryd.ntmps39
      go_wp2_with (first | (go_at_call 41; refine (hin _).mono ?_; rintro e w1 ⟨p1, p2, p3, q1, q2, q3, rfl, hr1, hb1⟩) | (go_at_call 70; refine (hcall _ _ _ _ _ _ _ hr1).mono ?_; rintro e w2 ⟨rfl, hb2⟩))
      go_ret3
      rw [hr'.out, hx]
      exact ⟨rfl, (hB _).trans ((hb1.mono (by simp)).trans (hb2.mono (by have := hb1.size; simp at this; omega)))⟩
    | some p =>
      obtain ⟨d, k⟩ := p
      have hcall : ∀ (w1 : World) p1 p2 p3 q1 q2 q3, Rep n w1 p1 p2 p3 q1 q2 q3 ty.in → Calls Tryd.prog 70 #[.agg #[.int .i64 ty.in.kind, .string ty.in.letters, .bool ty.in.op, .slice p1 p2 p3, .slice q1 q2 q3], .string t, .int .i64 j] w1 fun e w' => e = .returned (.tuple #[.string d, .int .i64 k, .bool true]) ∧ Below w1.heap.size w1 w' := fun w1 p1 p2 p3 q1 q2 q3 h1 => by have := encodeList_any IH ht hn ty.in j w1 p1 q1 p2 p3 q2 q3 hj h1; rw [hx] at this; exact this
      go_enter Tryd.func39, Tryd.ntmps39
      go_wp2_with (first | (go_at_call 41; refine (hin _).mono ?_; rintro e w1 ⟨p1, p2, p3, q1, q2, q3, rfl, hr1, hb1⟩) | (go_at_call 70; refine (hcall _ _ _ _ _ _ _ hr1).mono ?_; rintro e w2 ⟨rfl, hb2⟩))
      go_ret3
      rw [hr'.out, hx]
      exact ⟨rfl, (hB _).trans ((hb1.mono (by simp)).trans (hb2.mono (by have := hb1.size; simp at this; omega)))⟩
  have h91' : ((ty.kind : Int) == 91) = false := by simp; omega
  by_cases h63 : ty.kind = 63
  · have h63' : ((ty.kind : Int) == 63) = true := by simp [h63]
    have hr' : Hid (enc false t (n + 1) ty j = encMaybe (enc false t n ty.in) t j) := by show _ = _; rw [enc, if_neg h105, if_neg h108, if_neg h115, if_neg h60, if_neg h91, if_pos h63]
    have hne : ty.inner ≠ [] := hr.2.2.2.1.1 (by omega)
    have hin := fun o => inner_any n (w.alloc o) ai af li ci lf cf ty (hr.keep (hB o)) hne
    clear h105 h108 h115 h60 h91 h63 hr hlf
    cases hx : encMaybe (enc false t n ty.in) t j with
    | none =>
      have hcall : ∀ (w1 : World) p1 p2 p3 q1 q2 q3, Rep n w1 p1 p2 p3 q1 q2 q3 ty.in → Calls Tryd.prog 71 #[.agg #[.int .i64 ty.in.kind, .string ty.in.letters, .bool ty.in.op, .slice p1 p2 p3, .slice q1 q2 q3], .string t, .int .i64 j] w1 fun e w' => e = .returned (.tuple #[.string ByteArray.empty, .int .i64 j, .bool false]) ∧ Below w1.heap.size w1 w' := fun w1 p1 p2 p3 q1 q2 q3 h1 => by have := encodeMaybe_any IH ht hn ty.in j w1 p1 q1 p2 p3 q2 q3 hj h1; rw [hx] at this; exact this
      go_enter Tryd.func39, Tryd.ntmps39
      go_wp2_with (first | (go_at_call 41; refine (hin _).mono ?_; rintro e w1 ⟨p1, p2, p3, q1, q2, q3, rfl, hr1, hb1⟩) | (go_at_call 71; refine (hcall _ _ _ _ _ _ _ hr1).mono ?_; rintro e w2 ⟨rfl, hb2⟩))
      go_ret3
      rw [hr'.out, hx]
      exact ⟨rfl, (hB _).trans ((hb1.mono (by simp)).trans (hb2.mono (by have := hb1.size; simp at this; omega)))⟩
    | some p =>
      obtain ⟨d, k⟩ := p
      have hcall : ∀ (w1 : World) p1 p2 p3 q1 q2 q3, Rep n w1 p1 p2 p3 q1 q2 q3 ty.in → Calls Tryd.prog 71 #[.agg #[.int .i64 ty.in.kind, .string ty.in.letters, .bool ty.in.op, .slice p1 p2 p3, .slice q1 q2 q3], .string t, .int .i64 j] w1 fun e w' => e = .returned (.tuple #[.string d, .int .i64 k, .bool true]) ∧ Below w1.heap.size w1 w' := fun w1 p1 p2 p3 q1 q2 q3 h1 => by have := encodeMaybe_any IH ht hn ty.in j w1 p1 q1 p2 p3 q2 q3 hj h1; rw [hx] at this; exact this
      go_enter Tryd.func39, Tryd.ntmps39
      go_wp2_with (first | (go_at_call 41; refine (hin _).mono ?_; rintro e w1 ⟨p1, p2, p3, q1, q2, q3, rfl, hr1, hb1⟩) | (go_at_call 71; refine (hcall _ _ _ _ _ _ _ hr1).mono ?_; rintro e w2 ⟨rfl, hb2⟩))
      go_ret3
      rw [hr'.out, hx]
      exact ⟨rfl, (hB _).trans ((hb1.mono (by simp)).trans (hb2.mono (by have := hb1.size; simp at this; omega)))⟩
  have h63' : ((ty.kind : Int) == 63) = false := by simp; omega
  by_cases h123 : ty.kind = 123
  · have h123' : ((ty.kind : Int) == 123) = true := by simp [h123]
    have hr' : Hid (enc false t (n + 1) ty j = encFlds (enc false t n) t ty.fields 123 j ByteArray.empty) := by show _ = _; rw [enc, if_neg h105, if_neg h108, if_neg h115, if_neg h60, if_neg h91, if_neg h63, if_pos h123]
    obtain ⟨hl1, hl2, hl3⟩ := hlf
    have hrf := fun o => (hr.keep (hB o)).flds.2.2
    clear h105 h108 h115 h60 h91 h63 h123 hr hl3
    cases hx : encFlds (enc false t n) t ty.fields 123 j ByteArray.empty with
    | none =>
      have hcall : ∀ o, Calls Tryd.prog 72 #[.slice af lf cf, .string t, .int .i64 j] (w.alloc o) fun e w' => e = .returned (.tuple #[.string ByteArray.empty, .int .i64 j, .bool false]) ∧ Below (w.alloc o).heap.size (w.alloc o) w' := fun o => by have := encodeRecord_any IH ht hn ty.fields j (w.alloc o) af lf cf hj hl1 hl2 (hrf o); rw [hx] at this; exact this
      clear hl1 hl2 hrf
      go_enter Tryd.func39, Tryd.ntmps39
      go_wp2_with (go_at_call 72; refine (hcall _).mono ?_; rintro e w' ⟨rfl, hbw⟩)
      go_ret3
      rw [hr'.out, hx]
      exact ⟨rfl, (hB _).trans (hbw.mono (by simp))⟩
    | some p =>
      obtain ⟨d, k⟩ := p
      have hcall : ∀ o, Calls Tryd.prog 72 #[.slice af lf cf, .string t, .int .i64 j] (w.alloc o) fun e w' => e = .returned (.tuple #[.string d, .int .i64 k, .bool true]) ∧ Below (w.alloc o).heap.size (w.alloc o) w' := fun o => by have := encodeRecord_any IH ht hn ty.fields j (w.alloc o) af lf cf hj hl1 hl2 (hrf o); rw [hx] at this; exact this
      clear hl1 hl2 hrf
      go_enter Tryd.func39, Tryd.ntmps39
      go_wp2_with (go_at_call 72; refine (hcall _).mono ?_; rintro e w' ⟨rfl, hbw⟩)
      go_ret3
      rw [hr'.out, hx]
      exact ⟨rfl, (hB _).trans (hbw.mono (by simp))⟩
  have h123' : ((ty.kind : Int) == 123) = false := by simp; omega
  have hr' : Hid (enc false t (n + 1) ty j = none) := by show _ = _; rw [enc, if_neg h105, if_neg h108, if_neg h115, if_neg h60, if_neg h91, if_neg h63, if_neg h123]
  clear h105 h108 h115 h60 h91 h63 h123 hr hlf
  go_enter Tryd.func39, Tryd.ntmps39
  go_wp2_with fail
  go_ret3
  rw [hr'.out]
  exact ⟨rfl, hB _⟩

theorem encodeAt_all {t : ByteArray} (ht : t.size ≤ 4096) : ∀ n, n ≤ 101 → EncAtOK n t
  | 0, _ => fun _ _ _ _ _ _ _ _ _ _ h => h.elim
  | n + 1, hn => encodeAt_succ (encodeAt_all ht n (by omega)) ht (by omega)
end Go.Proofs.YtkkekopomiehlaaDoor
