import Derived.Test.YtkkekopomiehlaaDoorRef6
import Derived.Test.YtkkekopomiehlaaDoorEq3
set_option linter.unusedVariables false
set_option linter.unusedSimpArgs false
set_option maxRecDepth 4000
namespace Go.Proofs.YtkkekopomiehlaaDoor
open Go.RowKit

def FieldsOK (n : Nat) (s : ByteArray) : Prop := ∀ (i : Nat) (w : World), i < s.size → s.size ≤ i + 1 + n →
  Calls Tryd.prog 62 #[.string s, .int .i64 i] w fun e w' => GRet w.heap.size n s (pFlds (pField (pType true s n) (enc true s n) s) s (s.size - (i + 1)) (i + 1) []) e w' ∧ Below w.heap.size w w'
theorem fieldsOK {n : Nat} {s : ByteArray} (IE : EndsOK n s) (IL : LayOK n s s) (hs : s.size ≤ 4096) (hn : n ≤ 100) : FieldsOK n s := fun i w h1 h2 => by
  rw [fields_eq]; exact fields_any IE IL hs hn i w h1 h2
theorem pFlds_len {pf : Nat → Option ((Nat × Ty × ByteArray) × Nat)} {s : ByteArray} (hp : ∀ a f k, pf a = some (f, k) → a < k ∧ k ≤ s.size) : ∀ {m a k : Nat} {acc fs : List (Nat × Ty × ByteArray)}, acc.length ≤ a → pFlds pf s m a acc = some (fs, k) → 0 < fs.length ∧ fs.length ≤ k
  | 0, a, k, acc, fs, _, h => by simp [pFlds] at h
  | m + 1, a, k, acc, fs, ha, h => by
    rw [pFlds] at h
    split at h
    · cases h
    · rename_i f k' hx
      have := hp _ _ _ hx
      split at h
      · cases h
      · split at h
        · simp only [Option.some.injEq, Prod.mk.injEq] at h
          obtain ⟨rfl, rfl⟩ := h
          simp; omega
        · split at h
          · exact pFlds_len hp (by simp; omega) h
          · cases h
theorem enc_out {st : Bool} {t : ByteArray} {n : Nat} {ty : Ty} {j : Nat} (h : t.size ≤ j) : enc st t n ty j = none := by
  rcases hx : enc st t n ty j with _ | ⟨d, k⟩
  · rfl
  · have := enc_bd hx; omega
theorem rChoice_form {s : ByteArray} {a k : Nat} {ty : Ty} (h : rChoice s a = some (ty, k)) : ty.kind = 60 ∧ ty.letters = s.extract a (runEnd isL s (s.size - a) a) ∧ ty.letters.size ≤ 8 := by
  unfold rChoice at h
  simp only at h
  have hle := run_le isL s (s.size - a) a
  generalize hE : runEnd isL s (s.size - a) a = E at h hle
  split at h
  · cases h
  · rename_i hc
    have hb : (s.extract a E).size ≤ 8 := by rw [ByteArray.size_extract]; omega
    split at h
    · split at h
      · simp only [Option.some.injEq, Prod.mk.injEq] at h; rw [← h.1]; exact ⟨rfl, rfl, hb⟩
      · cases h
    · split at h
      · simp only [Option.some.injEq, Prod.mk.injEq] at h; rw [← h.1]; exact ⟨rfl, rfl, hb⟩
      · cases h

set_option maxRecDepth 10000 in
set_option maxHeartbeats 4000000 in
theorem lay_succ {n : Nat} {s t : ByteArray} (IL : LayOK n s t) (IF : FieldsOK n s) (hs : s.size ≤ 4096) (ht : t.size ≤ 4096) (hn : n ≤ 100) : LayOK (n + 1) s t := by
  intro i j w ty k hp hi hj
  have _hs : t.size ≤ 9000000 := by omega
  have hik := pType_bd true s _ _ _ _ hp
  have his : i < s.size := by omega
  have hbi : Hid (bAt s i = s[i].toNat) := bAt_in s i his
  by_cases hjt : t.size ≤ j
  · rw [enc_out hjt]
    clear hp
    go_enter Tryd.func94, Tryd.ntmps94
    go_wp2_with fail
    go_ret2
    exact ⟨⟨ByteArray.empty, Nat.zero_le _, rfl⟩, Below.refl _ _⟩
  · have hjt' : j < t.size := by omega
    have hbj : Hid (bAt t j = t[j].toNat) := bAt_in t j hjt'
    rw [pType] at hp
    by_cases h105 : bAt s i = 105
    · have h105' : ((s[i].toNat : Int) == 105) = true := by rw [← hbi.out]; simp [h105]
      rw [if_pos h105] at hp
      have hk : ty.kind = 105 := by simp only [Option.some.injEq, Prod.mk.injEq] at hp; rw [← hp.1]; rfl
      have hr' : Hid (enc true t (n + 1) ty j = encNum true (-2147483648) 2147483647 t j) := by show _ = _; rw [enc, if_pos hk]
      have hjt2 := hjt'
      cases hx : encNum true (-2147483648) 2147483647 t j with
      | none =>
        have hcall : ∀ w, Calls Tryd.prog 102 #[.string t, .int .i64 j, .int .i64 (-2147483648), .int .i64 2147483647] w fun e w' => e = .returned (.tuple #[.string ByteArray.empty, .int .i64 (-1)]) ∧ Below w.heap.size w w' := fun w => by have := layNumber_any t j (-2147483648) 2147483647 w _hs hjt' (by omega) (by omega); rw [layN_eq (by omega) (by omega) hjt2, hx] at this; exact this
        rw [hr'.out, hx]
        clear hx h105 hp hk
        go_enter Tryd.func94, Tryd.ntmps94
        go_wp2_with (go_at_call 102; refine (hcall _).mono ?_; rintro e w1 ⟨rfl, hb1⟩)
        go_ret2
        exact ⟨⟨ByteArray.empty, Nat.zero_le _, rfl⟩, hb1⟩
      | some p =>
        obtain ⟨d, m⟩ := p
        have hcall : ∀ w, Calls Tryd.prog 102 #[.string t, .int .i64 j, .int .i64 (-2147483648), .int .i64 2147483647] w fun e w' => e = .returned (.tuple #[.string d, .int .i64 m]) ∧ Below w.heap.size w w' := fun w => by have := layNumber_any t j (-2147483648) 2147483647 w _hs hjt' (by omega) (by omega); rw [layN_eq (by omega) (by omega) hjt2, hx] at this; exact this
        rw [hr'.out, hx]
        clear hx h105 hp hk
        go_enter Tryd.func94, Tryd.ntmps94
        go_wp2_with (go_at_call 102; refine (hcall _).mono ?_; rintro e w1 ⟨rfl, hb1⟩)
        go_ret2
        exact ⟨rfl, hb1⟩
    have h105' : ((s[i].toNat : Int) == 105) = false := by rw [← hbi.out]; simpa using h105
    by_cases h108 : bAt s i = 108
    · have h108' : ((s[i].toNat : Int) == 108) = true := by rw [← hbi.out]; simp [h108]
      rw [if_neg h105, if_pos h108] at hp
      have hk : ty.kind = 108 := by simp only [Option.some.injEq, Prod.mk.injEq] at hp; rw [← hp.1]; rfl
      have hr' : Hid (enc true t (n + 1) ty j = encNum true (-1000000000000000) 1000000000000000 t j) := by show _ = _; rw [enc, if_neg (by omega), if_pos hk]
      have hjt2 := hjt'
      cases hx : encNum true (-1000000000000000) 1000000000000000 t j with
      | none =>
        have hcall : ∀ w, Calls Tryd.prog 102 #[.string t, .int .i64 j, .int .i64 (-1000000000000000), .int .i64 1000000000000000] w fun e w' => e = .returned (.tuple #[.string ByteArray.empty, .int .i64 (-1)]) ∧ Below w.heap.size w w' := fun w => by have := layNumber_any t j (-1000000000000000) 1000000000000000 w _hs hjt' (by omega) (by omega); rw [layN_eq (by omega) (by omega) hjt2, hx] at this; exact this
        rw [hr'.out, hx]
        clear hx h105 h108 hp hk
        go_enter Tryd.func94, Tryd.ntmps94
        go_wp2_with (go_at_call 102; refine (hcall _).mono ?_; rintro e w1 ⟨rfl, hb1⟩)
        go_ret2
        exact ⟨⟨ByteArray.empty, Nat.zero_le _, rfl⟩, hb1⟩
      | some p =>
        obtain ⟨d, m⟩ := p
        have hcall : ∀ w, Calls Tryd.prog 102 #[.string t, .int .i64 j, .int .i64 (-1000000000000000), .int .i64 1000000000000000] w fun e w' => e = .returned (.tuple #[.string d, .int .i64 m]) ∧ Below w.heap.size w w' := fun w => by have := layNumber_any t j (-1000000000000000) 1000000000000000 w _hs hjt' (by omega) (by omega); rw [layN_eq (by omega) (by omega) hjt2, hx] at this; exact this
        rw [hr'.out, hx]
        clear hx h105 h108 hp hk
        go_enter Tryd.func94, Tryd.ntmps94
        go_wp2_with (go_at_call 102; refine (hcall _).mono ?_; rintro e w1 ⟨rfl, hb1⟩)
        go_ret2
        exact ⟨rfl, hb1⟩
    have h108' : ((s[i].toNat : Int) == 108) = false := by rw [← hbi.out]; simpa using h108
    by_cases h115 : bAt s i = 115
    · have h115' : ((s[i].toNat : Int) == 115) = true := by rw [← hbi.out]; simp [h115]
      rw [if_neg h105, if_neg h108, if_pos h115] at hp
      have hk : ty.kind = 115 := by simp only [Option.some.injEq, Prod.mk.injEq] at hp; rw [← hp.1]; rfl
      have hr' : Hid (enc true t (n + 1) ty j = encStr t j) := by show _ = _; rw [enc, if_neg (by omega), if_neg (by omega), if_pos hk]
      cases hx : encStr t j with
      | none =>
        have hcall : ∀ w, Calls Tryd.prog 103 #[.string t, .int .i64 j] w fun e w' => e = .returned (.tuple #[.string ByteArray.empty, .int .i64 (-1)]) ∧ Below w.heap.size w w' := fun w => by have := layString_any t j w _hs hjt'; rw [hx] at this; exact this
        rw [hr'.out, hx]
        clear hx h105 h108 h115 hp hk
        go_enter Tryd.func94, Tryd.ntmps94
        go_wp2_with (go_at_call 103; refine (hcall _).mono ?_; rintro e w1 ⟨rfl, hb1⟩)
        go_ret2
        exact ⟨⟨ByteArray.empty, Nat.zero_le _, rfl⟩, hb1⟩
      | some p =>
        obtain ⟨d, m⟩ := p
        have hcall : ∀ w, Calls Tryd.prog 103 #[.string t, .int .i64 j] w fun e w' => e = .returned (.tuple #[.string d, .int .i64 m]) ∧ Below w.heap.size w w' := fun w => by have := layString_any t j w _hs hjt'; rw [hx] at this; exact this
        rw [hr'.out, hx]
        clear hx h105 h108 h115 hp hk
        go_enter Tryd.func94, Tryd.ntmps94
        go_wp2_with (go_at_call 103; refine (hcall _).mono ?_; rintro e w1 ⟨rfl, hb1⟩)
        go_ret2
        exact ⟨rfl, hb1⟩
    have h115' : ((s[i].toNat : Int) == 115) = false := by rw [← hbi.out]; simpa using h115
    by_cases h60 : bAt s i = 60
    · have h60' : ((s[i].toNat : Int) == 60) = true := by rw [← hbi.out]; simp [h60]
      rw [if_neg h105, if_neg h108, if_neg h115, if_pos h60, pChoice_eq s (i + 1) (by omega)] at hp
      obtain ⟨hk, hlet, hl8⟩ := rChoice_form hp
      have hr' : enc true t (n + 1) ty j = encCho ty.letters t j := by rw [enc, if_neg (by omega), if_neg (by omega), if_neg (by omega), if_pos hk]; rfl
      rw [hr']
      obtain ⟨l, hl⟩ : ∃ l, l = ty.letters := ⟨_, rfl⟩
      rw [← hl] at hlet hl8 ⊢
      have hcall : ∀ w, Calls Tryd.prog 36 #[.string s, .int .i64 i] w fun e w' => e = .returned (.string l) ∧ w = w' := fun w => by rw [hlet]; exact flipW (letters_any s i w (by omega) his)
      clear h105 h108 h115 h60 hp hk hr' hl hlet hik
      go_enter Tryd.func94, Tryd.ntmps94
      go_wp2_with (go_at_call 36; refine (hcall _).mono ?_; rintro e _ ⟨rfl, rfl⟩)
      go_loopw [11] (fun v wr => ∃ x : Nat, x ≤ l.size ∧ v = .int .i64 x ∧ Hid (pOf l (bAt t j) = pFrom l (bAt t j) (l.size - x) x) ∧ Below w.heap.size w wr) (fun v _ => l.size - (intOf v).toNat)
      case atStart => exact ⟨0, Nat.zero_le _, rfl, rfl, Below.refl _ _⟩
      case round =>
        obtain ⟨x, hx, rfl, hpf, hb⟩ := hrel
        by_cases hlt : x < l.size
        · have hbx : Hid (bAt l x = l[x].toNat) := bAt_in l x hlt
          by_cases he : (l[x].toNat : Int) = t[j].toNat
          · have he' : ((l[x].toNat : Int) == (t[j].toNat : Int)) = true := by simpa using he
            have hr : Hid (encCho l t j = some (oneB x, j + 1)) := by
              show _ = _; unfold encCho; rw [pFrom_hit l (bAt t j) x hpf.out hlt (by rw [hbx.out, hbj.out]; exact he), if_neg (by omega)]; rfl
            clear he
            go_wp2_with fail
            go_quiet (fail)
            go_wp2_with ((go_at_call 95; refine (one_any x _ (by omega)).mono ?_; rintro e wo ⟨rfl, hbo⟩))
            go_ret2
            rw [hr.out]
            exact ⟨rfl, (below_drewN hb _).trans (hbo.mono (by have := hb.size; simp; omega))⟩
          · have he' : ((l[x].toNat : Int) == (t[j].toNat : Int)) = false := by simpa using he
            have hpf2 : Hid (pOf l (bAt t j) = pFrom l (bAt t j) (l.size - (x + 1)) (x + 1)) := pFrom_miss l (bAt t j) x hpf.out hlt (by rw [hbx.out, hbj.out]; exact he)
            clear he
            go_wp2_with fail
            go_quiet (fail)
            go_wp2_with fail
            go_roundw
            case rel => exact ⟨x + 1, by omega, by go_num, hpf2, below_drewN hb _⟩
            case measure => simp [intOf]; omega
        · have hr : Hid (encCho l t j = none) := by show _ = _; unfold encCho; rw [pFrom_end l (bAt t j) x hpf.out hlt, if_pos (by omega)]
          go_wp2_with fail
          go_ret2
          rw [hr.out]
          exact ⟨⟨ByteArray.empty, Nat.zero_le _, rfl⟩, hb⟩
    have h60' : ((s[i].toNat : Int) == 60) = false := by rw [← hbi.out]; simpa using h60
    by_cases h91 : bAt s i = 91
    · have h91' : ((s[i].toNat : Int) == 91) = true := by rw [← hbi.out]; simp [h91]
      rw [if_neg h105, if_neg h108, if_neg h115, if_neg h60, if_pos h91] at hp
      unfold pList at hp
      rcases hq : pType true s n (i + 1) with _ | ⟨t', k'⟩
      · rw [hq] at hp; cases hp
      rw [hq] at hp
      simp only at hp
      by_cases h93 : bAt s k' = 93
      · rw [if_pos h93] at hp
        simp only [Option.some.injEq, Prod.mk.injEq] at hp
        obtain ⟨rfl, rfl⟩ := hp
        have hr' : Hid (enc true t (n + 1) ⟨91, ByteArray.empty, false, [t'], []⟩ j = encList (enc true t n t') t j) := rfl
        cases hx : encList (enc true t n t') t j with
        | none =>
          have hcall : ∀ w, Calls Tryd.prog 104 #[.string s, .int .i64 (i + 1 : Nat), .string t, .int .i64 j] w fun e w' => e = .returned (.tuple #[.string ByteArray.empty, .int .i64 (-1)]) ∧ Below w.heap.size w w' := fun w => by have := layList_any IL ht hn (i + 1) j w hq (by omega) hjt'; rw [hx] at this; exact this
          rw [hr'.out, hx]
          clear hx h105 h108 h115 h60 h91 hq h93
          go_enter Tryd.func94, Tryd.ntmps94
          go_wp2_with (go_at_call 104; refine (hcall _).mono ?_; rintro e w1 ⟨rfl, hb1⟩)
          go_ret2
          exact ⟨⟨ByteArray.empty, Nat.zero_le _, rfl⟩, hb1⟩
        | some p =>
          obtain ⟨d, m⟩ := p
          have hcall : ∀ w, Calls Tryd.prog 104 #[.string s, .int .i64 (i + 1 : Nat), .string t, .int .i64 j] w fun e w' => e = .returned (.tuple #[.string d, .int .i64 m]) ∧ Below w.heap.size w w' := fun w => by have := layList_any IL ht hn (i + 1) j w hq (by omega) hjt'; rw [hx] at this; exact this
          rw [hr'.out, hx]
          clear hx h105 h108 h115 h60 h91 hq h93
          go_enter Tryd.func94, Tryd.ntmps94
          go_wp2_with (go_at_call 104; refine (hcall _).mono ?_; rintro e w1 ⟨rfl, hb1⟩)
          go_ret2
          exact ⟨rfl, hb1⟩
      · rw [if_neg h93] at hp; cases hp
    have h91' : ((s[i].toNat : Int) == 91) = false := by rw [← hbi.out]; simpa using h91
    by_cases h63 : bAt s i = 63
    · have h63' : ((s[i].toNat : Int) == 63) = true := by rw [← hbi.out]; simp [h63]
      rw [if_neg h105, if_neg h108, if_neg h115, if_neg h60, if_neg h91, if_pos h63] at hp
      unfold pMaybe at hp
      rcases hq : pType true s n (i + 1) with _ | ⟨t', k'⟩
      · rw [hq] at hp; cases hp
      rw [hq] at hp
      simp only at hp
      by_cases hm : t'.kind = 63
      · rw [if_pos hm] at hp; cases hp
      rw [if_neg hm] at hp
      simp only [Option.some.injEq, Prod.mk.injEq] at hp
      obtain ⟨rfl, rfl⟩ := hp
      have hr' : enc true t (n + 1) ⟨63, ByteArray.empty, false, [t'], []⟩ j = encMaybe (enc true t n t') t j := rfl
      rw [hr']
      by_cases h95 : bAt t j = 95
      · have h95' : ((t[j].toNat : Int) == 95) = true := by rw [← hbj.out]; simp [h95]
        have hr : Hid (encMaybe (enc true t n t') t j = some (oneB 0, j + 1)) := by show _ = _; unfold encMaybe; rw [if_pos h95]
        clear h105 h108 h115 h60 h91 h63 hq hm hr' h95
        go_enter Tryd.func94, Tryd.ntmps94
        go_wp2_with ((go_at_call 95; refine (one_any 0 _ (by omega)).mono ?_; rintro e wo ⟨rfl, hbo⟩))
        go_ret2
        rw [hr.out]
        exact ⟨rfl, hbo⟩
      · have h95' : ((t[j].toNat : Int) == 95) = false := by rw [← hbj.out]; simpa using h95
        cases hx : enc true t n t' j with
        | none =>
          have hr : Hid (encMaybe (enc true t n t') t j = none) := by show _ = _; unfold encMaybe; rw [if_neg h95, hx]
          have hcall := fun w => IL.no w hq (show s.size ≤ i + 1 + n by omega) (show j ≤ t.size by omega) hx
          have hone : (oneB 1).size = 1 := rfl
          clear h105 h108 h115 h60 h91 h63 hq hm hr' h95 hx
          go_enter Tryd.func94, Tryd.ntmps94
          go_wp2_with (first | (go_at_call 95; refine (one_any 1 _ (by omega)).mono ?_; rintro e wo ⟨rfl, hbo⟩) | (go_at_call 94; refine (hcall _).mono ?_; rintro e w1 ⟨d', hd', rfl, hb1⟩))
          go_ret2
          rw [hr.out]
          exact ⟨⟨oneB 1 ++ d', by rw [ByteArray.size_append, hone]; omega, rfl⟩, hb1.trans (hbo.mono hb1.size)⟩
        | some p =>
          obtain ⟨d, m⟩ := p
          have hr : Hid (encMaybe (enc true t n t') t j = some (oneB 1 ++ d, m)) := by show _ = _; unfold encMaybe; rw [if_neg h95, hx]
          have hcall := fun w => IL.yes w hq (show s.size ≤ i + 1 + n by omega) (show j ≤ t.size by omega) hx
          obtain ⟨e1, e2, e3⟩ := enc_bd hx
          have hds := data_small e3 hn (by omega)
          have hone : (oneB 1).size = 1 := rfl
          clear h105 h108 h115 h60 h91 h63 hq hm hr' h95 hx e3
          go_enter Tryd.func94, Tryd.ntmps94
          go_wp2_with (first | (go_at_call 95; refine (one_any 1 _ (by omega)).mono ?_; rintro e wo ⟨rfl, hbo⟩) | (go_at_call 94; refine (hcall _).mono ?_; rintro e w1 ⟨rfl, hb1⟩))
          go_ret2
          rw [hr.out]
          exact ⟨rfl, hb1.trans (hbo.mono hb1.size)⟩
    have h63' : ((s[i].toNat : Int) == 63) = false := by rw [← hbi.out]; simpa using h63
    by_cases h123 : bAt s i = 123
    · have h123' : ((s[i].toNat : Int) == 123) = true := by rw [← hbi.out]; simp [h123]
      rw [if_neg h105, if_neg h108, if_neg h115, if_neg h60, if_neg h91, if_neg h63, if_pos h123] at hp
      unfold pRec at hp
      rcases hq : pFlds (pField (pType true s n) (enc true s n) s) s (s.size - (i + 1)) (i + 1) [] with _ | ⟨fs, k'⟩
      · rw [hq] at hp; cases hp
      rw [hq] at hp
      simp only [Option.some.injEq, Prod.mk.injEq] at hp
      obtain ⟨rfl, rfl⟩ := hp
      have hfb := fun a f k (h : pField (pType true s n) (enc true s n) s a = some (f, k)) => pField_bd (pType_bd true s n) (fun ty j d k h => ⟨(enc_bd h).1, (enc_bd h).2.1⟩) h
      have hlen := pFlds_len hfb (by simp) hq
      have hkk := (pFlds_bd hfb hq).2
      have hF := fun w => IF i w his (by omega)
      rw [hq] at hF
      have hr' : Hid (enc true t (n + 1) ⟨123, ByteArray.empty, false, [], fs⟩ j = encFlds (enc true t n) t fs 123 j ByteArray.empty) := rfl
      cases hx : encFlds (enc true t n) t fs 123 j ByteArray.empty with
      | none =>
        have hcall : ∀ w, Calls Tryd.prog 105 #[.string s, .int .i64 i, .string t, .int .i64 j] w fun e w' => e = .returned (.tuple #[.string ByteArray.empty, .int .i64 (-1)]) ∧ Below w.heap.size w w' := fun w => by have := layRecord_any IL ht hn i j hlen.1 (by omega) hF w hjt'; rw [hx] at this; exact this
        rw [hr'.out, hx]
        clear hx h105 h108 h115 h60 h91 h63 h123 hq hF hfb
        go_enter Tryd.func94, Tryd.ntmps94
        go_wp2_with (go_at_call 105; refine (hcall _).mono ?_; rintro e w1 ⟨rfl, hb1⟩)
        go_ret2
        exact ⟨⟨ByteArray.empty, Nat.zero_le _, rfl⟩, hb1⟩
      | some p =>
        obtain ⟨d, m⟩ := p
        have hcall : ∀ w, Calls Tryd.prog 105 #[.string s, .int .i64 i, .string t, .int .i64 j] w fun e w' => e = .returned (.tuple #[.string d, .int .i64 m]) ∧ Below w.heap.size w w' := fun w => by have := layRecord_any IL ht hn i j hlen.1 (by omega) hF w hjt'; rw [hx] at this; exact this
        rw [hr'.out, hx]
        clear hx h105 h108 h115 h60 h91 h63 h123 hq hF hfb
        go_enter Tryd.func94, Tryd.ntmps94
        go_wp2_with (go_at_call 105; refine (hcall _).mono ?_; rintro e w1 ⟨rfl, hb1⟩)
        go_ret2
        exact ⟨rfl, hb1⟩
    have h123' : ((s[i].toNat : Int) == 123) = false := by rw [← hbi.out]; simpa using h123
    rw [if_neg h105, if_neg h108, if_neg h115, if_neg h60, if_neg h91, if_neg h63, if_neg h123] at hp
    cases hp
end Go.Proofs.YtkkekopomiehlaaDoor
