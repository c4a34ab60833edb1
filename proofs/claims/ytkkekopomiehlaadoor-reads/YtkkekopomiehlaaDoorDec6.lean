import Derived.Test.YtkkekopomiehlaaDoorDec5
set_option linter.unusedVariables false
set_option linter.unusedSimpArgs false
set_option maxRecDepth 4000
namespace Go.Proofs.YtkkekopomiehlaaDoor
open Go.RowKit

theorem okT.in {n : Nat} {ty : Ty} (h : okT (n + 1) ty) (hne : ty.inner ≠ []) : okT n ty.in := by
  refine h.1 _ ?_
  unfold Ty.in
  cases hc : ty.inner with
  | nil => exact absurd hc hne
  | cons x xs => exact List.mem_cons_self ..

set_option maxHeartbeats 2000000 in
theorem decodeAt_succ {Tab : World → Prop} (F : FmtOK Tab) {n : Nat} {s : ByteArray} (IH : DecAtOK Tab n s) (hs : s.size ≤ 4096) (hn : n ≤ 100) : DecAtOK Tab (n + 1) s := by
  intro ty a w ai af li ci lf cf ha hT hok hr
  have _hs : s.size ≤ 9000000 := by omega
  have hB : ∀ o, Below w.heap.size w (w.alloc o) := fun o => (Below.refl _ _).alloc (Nat.le_refl _) _
  have hTa : ∀ o, Tab (w.alloc o) := fun o => F.1 _ _ (hB o) hT
  have hl8 : ty.letters.size ≤ 8 := hr.1
  have hlf := hr.flds
  by_cases h105 : ty.kind = 105
  · have h105' : ((ty.kind : Int) == 105) = true := by simp [h105]
    have hr' : Hid (dec s (n + 1) ty a = decNum (-2147483648) 2147483647 s a) := by show _ = _; rw [dec, if_pos h105]
    clear h105 hr hlf hok
    cases hx : decNum (-2147483648) 2147483647 s a with
    | none =>
      have hcall : ∀ o, Calls Tryd.prog 54 #[.int .i64 (-2147483648), .int .i64 2147483647, .string s, .int .i64 a] (w.alloc o) fun e w' => e = .returned (.tuple #[.string ByteArray.empty, .int .i64 a, .bool false]) ∧ Below (w.alloc o).heap.size (w.alloc o) w' := fun o => by have : Calls _ _ _ _ (fun e w' => e = .returned (encRet a (decNum (-2147483648) 2147483647 s a)) ∧ Below (w.alloc o).heap.size (w.alloc o) w') := decodeNumber_any F (-2147483648) 2147483647 s a (w.alloc o) _hs ha (by omega) (by omega) (hTa o); rw [hx] at this; exact this
      go_enter Tryd.func32, Tryd.ntmps32
      go_wp2_with (go_at_call 54; refine (hcall _).mono ?_; rintro e w' ⟨rfl, hbw⟩)
      go_ret3
      rw [hr'.out, hx]
      exact ⟨rfl, (hB _).trans (hbw.mono (by simp))⟩
    | some p =>
      obtain ⟨d, k⟩ := p
      have hcall : ∀ o, Calls Tryd.prog 54 #[.int .i64 (-2147483648), .int .i64 2147483647, .string s, .int .i64 a] (w.alloc o) fun e w' => e = .returned (.tuple #[.string d, .int .i64 k, .bool true]) ∧ Below (w.alloc o).heap.size (w.alloc o) w' := fun o => by have : Calls _ _ _ _ (fun e w' => e = .returned (encRet a (decNum (-2147483648) 2147483647 s a)) ∧ Below (w.alloc o).heap.size (w.alloc o) w') := decodeNumber_any F (-2147483648) 2147483647 s a (w.alloc o) _hs ha (by omega) (by omega) (hTa o); rw [hx] at this; exact this
      go_enter Tryd.func32, Tryd.ntmps32
      go_wp2_with (go_at_call 54; refine (hcall _).mono ?_; rintro e w' ⟨rfl, hbw⟩)
      go_ret3
      rw [hr'.out, hx]
      exact ⟨rfl, (hB _).trans (hbw.mono (by simp))⟩
  have h105' : ((ty.kind : Int) == 105) = false := by simp; omega
  by_cases h108 : ty.kind = 108
  · have h108' : ((ty.kind : Int) == 108) = true := by simp [h108]
    have hr' : Hid (dec s (n + 1) ty a = decNum (-1000000000000000) 1000000000000000 s a) := by show _ = _; rw [dec, if_neg h105, if_pos h108]
    clear h105 h108 hr hlf hok
    cases hx : decNum (-1000000000000000) 1000000000000000 s a with
    | none =>
      have hcall : ∀ o, Calls Tryd.prog 54 #[.int .i64 (-1000000000000000), .int .i64 1000000000000000, .string s, .int .i64 a] (w.alloc o) fun e w' => e = .returned (.tuple #[.string ByteArray.empty, .int .i64 a, .bool false]) ∧ Below (w.alloc o).heap.size (w.alloc o) w' := fun o => by have : Calls _ _ _ _ (fun e w' => e = .returned (encRet a (decNum (-1000000000000000) 1000000000000000 s a)) ∧ Below (w.alloc o).heap.size (w.alloc o) w') := decodeNumber_any F (-1000000000000000) 1000000000000000 s a (w.alloc o) _hs ha (by omega) (by omega) (hTa o); rw [hx] at this; exact this
      go_enter Tryd.func32, Tryd.ntmps32
      go_wp2_with (go_at_call 54; refine (hcall _).mono ?_; rintro e w' ⟨rfl, hbw⟩)
      go_ret3
      rw [hr'.out, hx]
      exact ⟨rfl, (hB _).trans (hbw.mono (by simp))⟩
    | some p =>
      obtain ⟨d, k⟩ := p
      have hcall : ∀ o, Calls Tryd.prog 54 #[.int .i64 (-1000000000000000), .int .i64 1000000000000000, .string s, .int .i64 a] (w.alloc o) fun e w' => e = .returned (.tuple #[.string d, .int .i64 k, .bool true]) ∧ Below (w.alloc o).heap.size (w.alloc o) w' := fun o => by have : Calls _ _ _ _ (fun e w' => e = .returned (encRet a (decNum (-1000000000000000) 1000000000000000 s a)) ∧ Below (w.alloc o).heap.size (w.alloc o) w') := decodeNumber_any F (-1000000000000000) 1000000000000000 s a (w.alloc o) _hs ha (by omega) (by omega) (hTa o); rw [hx] at this; exact this
      go_enter Tryd.func32, Tryd.ntmps32
      go_wp2_with (go_at_call 54; refine (hcall _).mono ?_; rintro e w' ⟨rfl, hbw⟩)
      go_ret3
      rw [hr'.out, hx]
      exact ⟨rfl, (hB _).trans (hbw.mono (by simp))⟩
  have h108' : ((ty.kind : Int) == 108) = false := by simp; omega
  by_cases h115 : ty.kind = 115
  · have h115' : ((ty.kind : Int) == 115) = true := by simp [h115]
    have hr' : Hid (dec s (n + 1) ty a = decStr s a) := by show _ = _; rw [dec, if_neg h105, if_neg h108, if_pos h115]
    clear h105 h108 h115 hr hlf hok
    cases hx : decStr s a with
    | none =>
      have hcall : ∀ o, Calls Tryd.prog 55 #[.string s, .int .i64 a] (w.alloc o) fun e w' => e = .returned (.tuple #[.string ByteArray.empty, .int .i64 a, .bool false]) ∧ Below (w.alloc o).heap.size (w.alloc o) w' := fun o => by have : Calls _ _ _ _ (fun e w' => e = .returned (encRet a (decStr s a)) ∧ Below (w.alloc o).heap.size (w.alloc o) w') := (decodeString_any s a (w.alloc o) _hs ha).mono (fun _ _ (h : _ ∧ _) => ⟨h.1, h.2 ▸ Below.refl _ _⟩); rw [hx] at this; exact this
      go_enter Tryd.func32, Tryd.ntmps32
      go_wp2_with (go_at_call 55; refine (hcall _).mono ?_; rintro e w' ⟨rfl, hbw⟩)
      go_ret3
      rw [hr'.out, hx]
      exact ⟨rfl, (hB _).trans (hbw.mono (by simp))⟩
    | some p =>
      obtain ⟨d, k⟩ := p
      have hcall : ∀ o, Calls Tryd.prog 55 #[.string s, .int .i64 a] (w.alloc o) fun e w' => e = .returned (.tuple #[.string d, .int .i64 k, .bool true]) ∧ Below (w.alloc o).heap.size (w.alloc o) w' := fun o => by have : Calls _ _ _ _ (fun e w' => e = .returned (encRet a (decStr s a)) ∧ Below (w.alloc o).heap.size (w.alloc o) w') := (decodeString_any s a (w.alloc o) _hs ha).mono (fun _ _ (h : _ ∧ _) => ⟨h.1, h.2 ▸ Below.refl _ _⟩); rw [hx] at this; exact this
      go_enter Tryd.func32, Tryd.ntmps32
      go_wp2_with (go_at_call 55; refine (hcall _).mono ?_; rintro e w' ⟨rfl, hbw⟩)
      go_ret3
      rw [hr'.out, hx]
      exact ⟨rfl, (hB _).trans (hbw.mono (by simp))⟩
  have h115' : ((ty.kind : Int) == 115) = false := by simp; omega
  by_cases h60 : ty.kind = 60
  · have h60' : ((ty.kind : Int) == 60) = true := by simp [h60]
    have hr' : Hid (dec s (n + 1) ty a = decCho ty.letters s a) := by show _ = _; rw [dec, if_neg h105, if_neg h108, if_neg h115, if_pos h60]
    clear h105 h108 h115 h60 hr hlf hok
    cases hx : decCho ty.letters s a with
    | none =>
      have hcall : ∀ o, Calls Tryd.prog 56 #[.string ty.letters, .string s, .int .i64 a] (w.alloc o) fun e w' => e = .returned (.tuple #[.string ByteArray.empty, .int .i64 a, .bool false]) ∧ Below (w.alloc o).heap.size (w.alloc o) w' := fun o => by have : Calls _ _ _ _ (fun e w' => e = .returned (encRet a (decCho ty.letters s a)) ∧ Below (w.alloc o).heap.size (w.alloc o) w') := decodeChoice_any ty.letters s a (w.alloc o) _hs hl8 ha; rw [hx] at this; exact this
      go_enter Tryd.func32, Tryd.ntmps32
      go_wp2_with (go_at_call 56; refine (hcall _).mono ?_; rintro e w' ⟨rfl, hbw⟩)
      go_ret3
      rw [hr'.out, hx]
      exact ⟨rfl, (hB _).trans (hbw.mono (by simp))⟩
    | some p =>
      obtain ⟨d, k⟩ := p
      have hcall : ∀ o, Calls Tryd.prog 56 #[.string ty.letters, .string s, .int .i64 a] (w.alloc o) fun e w' => e = .returned (.tuple #[.string d, .int .i64 k, .bool true]) ∧ Below (w.alloc o).heap.size (w.alloc o) w' := fun o => by have : Calls _ _ _ _ (fun e w' => e = .returned (encRet a (decCho ty.letters s a)) ∧ Below (w.alloc o).heap.size (w.alloc o) w') := decodeChoice_any ty.letters s a (w.alloc o) _hs hl8 ha; rw [hx] at this; exact this
      go_enter Tryd.func32, Tryd.ntmps32
      go_wp2_with (go_at_call 56; refine (hcall _).mono ?_; rintro e w' ⟨rfl, hbw⟩)
      go_ret3
      rw [hr'.out, hx]
      exact ⟨rfl, (hB _).trans (hbw.mono (by simp))⟩
  have h60' : ((ty.kind : Int) == 60) = false := by simp; omega
  by_cases h91 : ty.kind = 91
  · have h91' : ((ty.kind : Int) == 91) = true := by simp [h91]
    have hr' : Hid (dec s (n + 1) ty a = decList (dec s n ty.in) s a) := by show _ = _; rw [dec, if_neg h105, if_neg h108, if_neg h115, if_neg h60, if_pos h91]
    have hne : ty.inner ≠ [] := hr.2.2.2.1.1 (by omega)
    have hin := fun o => inner_any n (w.alloc o) ai af li ci lf cf ty (hr.keep (hB o)) hne
    have hoki := hok.in hne
    clear h105 h108 h115 h60 h91 hr hlf hok
    cases hx : decList (dec s n ty.in) s a with
    | none =>
      have hcall : ∀ (w1 : World) p1 p2 p3 q1 q2 q3, Tab w1 → Rep n w1 p1 p2 p3 q1 q2 q3 ty.in → Calls Tryd.prog 57 #[.agg #[.int .i64 ty.in.kind, .string ty.in.letters, .bool ty.in.op, .slice p1 p2 p3, .slice q1 q2 q3], .string s, .int .i64 a] w1 fun e w' => e = .returned (.tuple #[.string ByteArray.empty, .int .i64 a, .bool false]) ∧ Below w1.heap.size w1 w' := fun w1 p1 p2 p3 q1 q2 q3 h0 h1 => by have := decodeList_any F IH hs hn ty.in a w1 p1 q1 p2 p3 q2 q3 ha h0 hoki h1; rw [hx] at this; exact this
      go_enter Tryd.func32, Tryd.ntmps32
      go_wp2_with (first | (go_at_call 41; refine (hin _).mono ?_; rintro e w1 ⟨p1, p2, p3, q1, q2, q3, rfl, hr1, hb1⟩) | (go_at_call 57; refine (hcall _ _ _ _ _ _ _ (F.1 _ _ hb1 (hTa _)) hr1).mono ?_; rintro e w2 ⟨rfl, hb2⟩))
      go_ret3
      rw [hr'.out, hx]
      exact ⟨rfl, (hB _).trans ((hb1.mono (by simp)).trans (hb2.mono (by have := hb1.size; simp at this; omega)))⟩
    | some p =>
      obtain ⟨d, k⟩ := p
      have hcall : ∀ (w1 : World) p1 p2 p3 q1 q2 q3, Tab w1 → Rep n w1 p1 p2 p3 q1 q2 q3 ty.in → Calls Tryd.prog 57 #[.agg #[.int .i64 ty.in.kind, .string ty.in.letters, .bool ty.in.op, .slice p1 p2 p3, .slice q1 q2 q3], .string s, .int .i64 a] w1 fun e w' => e = .returned (.tuple #[.string d, .int .i64 k, .bool true]) ∧ Below w1.heap.size w1 w' := fun w1 p1 p2 p3 q1 q2 q3 h0 h1 => by have := decodeList_any F IH hs hn ty.in a w1 p1 q1 p2 p3 q2 q3 ha h0 hoki h1; rw [hx] at this; exact this
      go_enter Tryd.func32, Tryd.ntmps32
      go_wp2_with (first | (go_at_call 41; refine (hin _).mono ?_; rintro e w1 ⟨p1, p2, p3, q1, q2, q3, rfl, hr1, hb1⟩) | (go_at_call 57; refine (hcall _ _ _ _ _ _ _ (F.1 _ _ hb1 (hTa _)) hr1).mono ?_; rintro e w2 ⟨rfl, hb2⟩))
      go_ret3
      rw [hr'.out, hx]
      exact ⟨rfl, (hB _).trans ((hb1.mono (by simp)).trans (hb2.mono (by have := hb1.size; simp at this; omega)))⟩
  have h91' : ((ty.kind : Int) == 91) = false := by simp; omega
  by_cases h63 : ty.kind = 63
  · have h63' : ((ty.kind : Int) == 63) = true := by simp [h63]
    have hr' : Hid (dec s (n + 1) ty a = decMaybe (dec s n ty.in) s a) := by show _ = _; rw [dec, if_neg h105, if_neg h108, if_neg h115, if_neg h60, if_neg h91, if_pos h63]
    have hne : ty.inner ≠ [] := hr.2.2.2.1.1 (by omega)
    have hin := fun o => inner_any n (w.alloc o) ai af li ci lf cf ty (hr.keep (hB o)) hne
    have hoki := hok.in hne
    clear h105 h108 h115 h60 h91 h63 hr hlf hok
    cases hx : decMaybe (dec s n ty.in) s a with
    | none =>
      have hcall : ∀ (w1 : World) p1 p2 p3 q1 q2 q3, Tab w1 → Rep n w1 p1 p2 p3 q1 q2 q3 ty.in → Calls Tryd.prog 58 #[.agg #[.int .i64 ty.in.kind, .string ty.in.letters, .bool ty.in.op, .slice p1 p2 p3, .slice q1 q2 q3], .string s, .int .i64 a] w1 fun e w' => e = .returned (.tuple #[.string ByteArray.empty, .int .i64 a, .bool false]) ∧ Below w1.heap.size w1 w' := fun w1 p1 p2 p3 q1 q2 q3 h0 h1 => by have := decodeMaybe_any F IH hs hn ty.in a w1 p1 q1 p2 p3 q2 q3 ha h0 hoki h1; rw [hx] at this; exact this
      go_enter Tryd.func32, Tryd.ntmps32
      go_wp2_with (first | (go_at_call 41; refine (hin _).mono ?_; rintro e w1 ⟨p1, p2, p3, q1, q2, q3, rfl, hr1, hb1⟩) | (go_at_call 58; refine (hcall _ _ _ _ _ _ _ (F.1 _ _ hb1 (hTa _)) hr1).mono ?_; rintro e w2 ⟨rfl, hb2⟩))
      go_ret3
      rw [hr'.out, hx]
      exact ⟨rfl, (hB _).trans ((hb1.mono (by simp)).trans (hb2.mono (by have := hb1.size; simp at this; omega)))⟩
    | some p =>
      obtain ⟨d, k⟩ := p
      have hcall : ∀ (w1 : World) p1 p2 p3 q1 q2 q3, Tab w1 → Rep n w1 p1 p2 p3 q1 q2 q3 ty.in → Calls Tryd.prog 58 #[.agg #[.int .i64 ty.in.kind, .string ty.in.letters, .bool ty.in.op, .slice p1 p2 p3, .slice q1 q2 q3], .string s, .int .i64 a] w1 fun e w' => e = .returned (.tuple #[.string d, .int .i64 k, .bool true]) ∧ Below w1.heap.size w1 w' := fun w1 p1 p2 p3 q1 q2 q3 h0 h1 => by have := decodeMaybe_any F IH hs hn ty.in a w1 p1 q1 p2 p3 q2 q3 ha h0 hoki h1; rw [hx] at this; exact this
      go_enter Tryd.func32, Tryd.ntmps32
      go_wp2_with (first | (go_at_call 41; refine (hin _).mono ?_; rintro e w1 ⟨p1, p2, p3, q1, q2, q3, rfl, hr1, hb1⟩) | (go_at_call 58; refine (hcall _ _ _ _ _ _ _ (F.1 _ _ hb1 (hTa _)) hr1).mono ?_; rintro e w2 ⟨rfl, hb2⟩))
      go_ret3
      rw [hr'.out, hx]
      exact ⟨rfl, (hB _).trans ((hb1.mono (by simp)).trans (hb2.mono (by have := hb1.size; simp at this; omega)))⟩
  have h63' : ((ty.kind : Int) == 63) = false := by simp; omega
  by_cases h123 : ty.kind = 123
  · have h123' : ((ty.kind : Int) == 123) = true := by simp [h123]
    have hne : ty.fields ≠ [] := hr.2.2.2.1.2 h123
    have hr' : Hid (dec s (n + 1) ty a = decFlds (dec s n) ty.fields ⟨#[123]⟩ a ByteArray.empty) := by show _ = _; rw [dec, if_neg h105, if_neg h108, if_neg h115, if_neg h60, if_neg h91, if_neg h63, if_pos ⟨h123, hne⟩]
    obtain ⟨hl1, hl2, hl3⟩ := hlf
    have hrf := fun o => (hr.keep (hB o)).flds.2.2
    have hokf := hok.2
    clear h105 h108 h115 h60 h91 h63 h123 hr hl3 hok hne
    cases hx : decFlds (dec s n) ty.fields ⟨#[123]⟩ a ByteArray.empty with
    | none =>
      have hcall : ∀ o, Calls Tryd.prog 59 #[.slice af lf cf, .string s, .int .i64 a] (w.alloc o) fun e w' => e = .returned (.tuple #[.string ByteArray.empty, .int .i64 a, .bool false]) ∧ Below (w.alloc o).heap.size (w.alloc o) w' := fun o => by have := decodeRecord_any F IH hs hn ty.fields a (w.alloc o) af lf cf ha hl1 hl2 (hTa o) hokf (hrf o); rw [hx] at this; exact this
      clear hl1 hl2 hrf hokf
      go_enter Tryd.func32, Tryd.ntmps32
      go_wp2_with (go_at_call 59; refine (hcall _).mono ?_; rintro e w' ⟨rfl, hbw⟩)
      go_ret3
      rw [hr'.out, hx]
      exact ⟨rfl, (hB _).trans (hbw.mono (by simp))⟩
    | some p =>
      obtain ⟨d, k⟩ := p
      have hcall : ∀ o, Calls Tryd.prog 59 #[.slice af lf cf, .string s, .int .i64 a] (w.alloc o) fun e w' => e = .returned (.tuple #[.string d, .int .i64 k, .bool true]) ∧ Below (w.alloc o).heap.size (w.alloc o) w' := fun o => by have := decodeRecord_any F IH hs hn ty.fields a (w.alloc o) af lf cf ha hl1 hl2 (hTa o) hokf (hrf o); rw [hx] at this; exact this
      clear hl1 hl2 hrf hokf
      go_enter Tryd.func32, Tryd.ntmps32
      go_wp2_with (go_at_call 59; refine (hcall _).mono ?_; rintro e w' ⟨rfl, hbw⟩)
      go_ret3
      rw [hr'.out, hx]
      exact ⟨rfl, (hB _).trans (hbw.mono (by simp))⟩
  have h123' : ((ty.kind : Int) == 123) = false := by simp; omega
  have hr' : Hid (dec s (n + 1) ty a = none) := by show _ = _; rw [dec, if_neg h105, if_neg h108, if_neg h115, if_neg h60, if_neg h91, if_neg h63, if_neg (fun h => h123 h.1)]
  clear h105 h108 h115 h60 h91 h63 h123 hr hlf hok
  go_enter Tryd.func32, Tryd.ntmps32
  go_wp2_with fail
  go_ret3
  rw [hr'.out]
  exact ⟨rfl, hB _⟩

theorem decodeAt_all {Tab : World → Prop} (F : FmtOK Tab) {s : ByteArray} (hs : s.size ≤ 4096) : ∀ n, n ≤ 101 → DecAtOK Tab n s
  | 0, _ => fun _ _ _ _ _ _ _ _ _ _ _ _ h => h.elim
  | n + 1, hn => decodeAt_succ F (decodeAt_all F hs n (by omega)) hs (by omega)
end Go.Proofs.YtkkekopomiehlaaDoor
