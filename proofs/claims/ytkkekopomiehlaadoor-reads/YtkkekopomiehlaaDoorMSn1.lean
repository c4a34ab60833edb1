import Derived.Test.YtkkekopomiehlaaDoorV2
import Derived.Test.YtkkekopomiehlaaDoorDec13
set_option linter.unusedVariables false
set_option linter.unusedSimpArgs false
namespace Go.Proofs.YtkkekopomiehlaaDoor
section
set_option maxRecDepth 4000
open Go.RowKit

/-- The parts of a type that a schema tells at a place. -/
theorem type_parts {s : ByteArray} {n i k : Nat} {ty : Ty} (h : pType true s n i = some (ty, k)) : bAt s i = ty.kind ∧ ∃ n', n = n' + 1 ∧
    (ty.kind = 60 → rChoice s (i + 1) = some (ty, k)) ∧ (ty.kind = 91 ∨ ty.kind = 63 → ∃ k', pType true s n' (i + 1) = some (ty.in, k')) ∧ (ty.kind = 63 → ty.in.kind ≠ 63) ∧
    (ty.kind = 123 → ∃ k', pFlds (pField (pType true s n') (enc true s n') s) s (s.size - (i + 1)) (i + 1) [] = some (ty.fields, k')) ∧ (ty.kind = 105 ∨ ty.kind = 108 ∨ ty.kind = 115 ∨ ty.kind = 60 ∨ ty.kind = 91 ∨ ty.kind = 63 ∨ ty.kind = 123) := by
  cases n with
  | zero => simp [pType] at h
  | succ n =>
    have his : i < s.size := by have := pType_bd true s _ _ _ _ h; omega
    rw [pType] at h
    split at h
    · rename_i hb; cases h; exact ⟨hb, n, rfl, (fun h => by cases h), (fun h => by rcases h with h | h <;> cases h), (fun h => by cases h), (fun h => by cases h), .inl rfl⟩
    · split at h
      · rename_i hb; cases h; exact ⟨hb, n, rfl, (fun h => by cases h), (fun h => by rcases h with h | h <;> cases h), (fun h => by cases h), (fun h => by cases h), .inr (.inl rfl)⟩
      · split at h
        · rename_i hb; cases h; exact ⟨hb, n, rfl, (fun h => by cases h), (fun h => by rcases h with h | h <;> cases h), (fun h => by cases h), (fun h => by cases h), .inr (.inr (.inl rfl))⟩
        · split at h
          · rename_i hb
            rw [pChoice_eq s (i + 1) (by omega)] at h
            have hk := (rChoice_form h).1
            rw [hb, hk]
            exact ⟨rfl, n, rfl, fun _ => h, (fun h => by omega), (fun h => by omega), (fun h => by omega), by omega⟩
          · split at h
            · rename_i hb
              unfold pList at h
              split at h
              · cases h
              · rename_i t k' ht
                split at h
                · cases h
                  exact ⟨hb, n, rfl, (fun h => by cases h), fun _ => ⟨k', ht⟩, (fun h => by cases h), (fun h => by cases h), .inr (.inr (.inr (.inr (.inl rfl))))⟩
                · cases h
            · split at h
              · rename_i hb
                unfold pMaybe at h
                split at h
                · cases h
                · rename_i t k' ht
                  split at h
                  · cases h
                  · rename_i hne
                    cases h
                    exact ⟨hb, n, rfl, (fun h => by cases h), fun _ => ⟨_, ht⟩, fun _ => hne, (fun h => by cases h), .inr (.inr (.inr (.inr (.inr (.inl rfl)))))⟩
              · split at h
                · rename_i hb
                  unfold pRec at h
                  split at h
                  · cases h
                  · rename_i fs k' hfs
                    cases h
                    exact ⟨hb, n, rfl, (fun h => by cases h), (fun h => by rcases h with h | h <;> cases h), (fun h => by cases h), fun _ => ⟨_, hfs⟩, .inr (.inr (.inr (.inr (.inr (.inr rfl)))))⟩
                · cases h
theorem rChoice_op {s : ByteArray} {a k : Nat} {ty : Ty} (ha : a ≤ s.size) (h : rChoice s a = some (ty, k)) : ty.letters = s.extract a (runEnd isL s (s.size - a) a) ∧ runEnd isL s (s.size - a) a = a + ty.letters.size ∧ 1 ≤ ty.letters.size ∧ ty.letters.size ≤ 8 ∧ ty.op = (bAt s (a + ty.letters.size) == 43) := by
  obtain ⟨_, h2, h3⟩ := rChoice_form h
  have hle := run_le isL s (s.size - a) a
  have hsz : ty.letters.size = runEnd isL s (s.size - a) a - a := by rw [h2, ByteArray.size_extract]; omega
  unfold rChoice at h
  simp only at h
  generalize hE : runEnd isL s (s.size - a) a = E at h hle hsz h2
  split at h
  · cases h
  · rename_i hc
    have he : E = a + ty.letters.size := by omega
    refine ⟨h2, he, by omega, h3, ?_⟩
    rw [← he]
    split at h
    · rename_i h43
      split at h
      · simp only [Option.some.injEq, Prod.mk.injEq] at h; rw [← h.1, h43]; rfl
      · cases h
    · rename_i h43
      split at h
      · simp only [Option.some.injEq, Prod.mk.injEq] at h; rw [← h.1]; simp [h43]
      · cases h

set_option maxHeartbeats 1000000 in
theorem open_any {s : ByteArray} {i k : Nat} {ty : Ty} (hs : s.size ≤ 4096) (hi : i < s.size) (h : rChoice s (i + 1) = some (ty, k)) (w : World) :
    Calls Tryd.prog 82 #[.string s, .int .i64 i] w fun e w' => e = .returned (.bool ty.op) ∧ w = w' := by
  have _hs : s.size ≤ 9000000 := by omega
  obtain ⟨h1, h2, h3, h4, h5⟩ := rChoice_op (by omega) h
  have hl : ∀ w, Calls Tryd.prog 36 #[.string s, .int .i64 i] w fun e w' => e = .returned (.string ty.letters) ∧ w = w' := fun w => by rw [h1]; exact flipW (letters_any s i w _hs hi)
  have hat : ∀ w, Calls Tryd.prog 61 #[.string s, .int .i64 ((i : Int) + 1 + (ty.letters.size : Int)), .int .u8 43] w fun e w' => e = .returned (.bool ty.op) ∧ w = w' := fun w => by
    have := flipW (at_any s ((i : Int) + 1 + (ty.letters.size : Int)) 43 w (by omega) _hs)
    rw [atB_of (i := i + 1 + ty.letters.size) (by omega), ← h5] at this; exact this
  clear h h1 h2 h5
  go_enter Tryd.func82, Tryd.ntmps82
  go_wp2_with (first | (go_at_call 36; refine (hl _).mono ?_; rintro e _ ⟨rfl, rfl⟩) | (go_at_call 61; refine (hat _).mono ?_; rintro e _ ⟨rfl, rfl⟩))
  go_ret
  exact ⟨rfl, rfl⟩

def sRet : Option ByteArray → Value
  | some t => .tuple #[.string t, .bool true]
  | none => .tuple #[.string ByteArray.empty, .bool false]
set_option maxHeartbeats 1000000 in
theorem seenChoice_any {s : ByteArray} {i k : Nat} {ty : Ty} (hs : s.size ≤ 4096) (hi : i < s.size) (h : rChoice s (i + 1) = some (ty, k)) (c : Nat) (hc : c < 256) (w : World) :
    Calls Tryd.prog 46 #[.int .u8 c, .string s, .int .i64 i] w fun e w' => e = .returned (sRet (if pOf ty.letters c < 0 then (if ty.op = true then some (ty.letters.extract 0 1) else none) else some (oneB c))) ∧ Below w.heap.size w w' := by
  have _hs : s.size ≤ 9000000 := by omega
  have ho := fun w => open_any hs hi h w
  obtain ⟨h1, h2, h3, h4, h5⟩ := rChoice_op (by omega) h
  have hl : ∀ w, Calls Tryd.prog 36 #[.string s, .int .i64 i] w fun e w' => e = .returned (.string ty.letters) ∧ w = w' := fun w => by rw [h1]; exact flipW (letters_any s i w _hs hi)
  obtain ⟨L, hL⟩ : ∃ L, L = ty.letters := ⟨_, rfl⟩
  rw [← hL] at h3 h4 hl ⊢
  obtain ⟨o, hO⟩ : ∃ o, o = ty.op := ⟨_, rfl⟩
  rw [← hO] at ho ⊢
  have HP : Hid (pOf L c = pFrom L c (L.size - 0) 0) := rfl
  obtain ⟨O, hOO⟩ : ∃ O, O = (if pOf L c < 0 then (if o = true then some (L.extract 0 1) else none) else some (oneB c) : Option ByteArray) := ⟨_, rfl⟩
  rw [← hOO]
  have HO : Hid (O = (if pOf L c < 0 then (if o = true then some (L.extract 0 1) else none) else some (oneB c) : Option ByteArray)) := hOO
  clear hOO
  clear h h1 h2 h5 hL hO
  go_enter Tryd.func46, Tryd.ntmps46
  go_wp2_with (first | (go_at_call 36; refine (hl _).mono ?_; rintro e _ ⟨rfl, rfl⟩) | (go_at_call 82; refine (ho _).mono ?_; rintro e _ ⟨rfl, rfl⟩))
  go_loop [10] (fun v => ∃ x : Nat, x ≤ L.size ∧ v = .int .i64 x ∧ Hid (pOf L c = pFrom L c (L.size - x) x)) (fun v => L.size - (intOf v).toNat)
  case atStart => exact ⟨0, Nat.zero_le _, rfl, HP⟩
  case round =>
    obtain ⟨x, hx, rfl, hp⟩ := hrel
    by_cases hlt : x < L.size
    · have hbx : Hid (bAt L x = L[x].toNat) := bAt_in L x hlt
      by_cases heq : L[x].toNat = c
      · have heq' : ((L[x].toNat : Int) == (c : Int)) = true := by simp [heq]
        have hr' : Hid (O = some (L.extract x (x + 1))) := by
          show _ = _
          rw [HO.out, pFrom_hit L c x hp.out hlt (by rw [hbx.out, heq]), if_neg (by omega), extract_oneB L x hlt, hbx.out, heq]; rfl
        clear heq
        go_wp2_with fail
        go_ret2
        rw [hr'.out]
        exact ⟨rfl, Below.refl _ _⟩
      · have heq' : ((L[x].toNat : Int) == (c : Int)) = false := by simp; omega
        have hp2 : Hid (pOf L c = pFrom L c (L.size - (x + 1)) (x + 1)) := pFrom_miss L c x hp.out hlt (by rw [hbx.out]; omega)
        go_wp2_with fail
        go_round
        case rel => exact ⟨x + 1, by omega, by go_num, hp2⟩
        case measure => simp [intOf]; omega
    · have hno : pOf L c = -1 := pFrom_end L c x hp.out hlt
      have h0 : (0 : Int) < (L.size : Int) := by omega
      cases o with
      | true =>
        have hr' : Hid (O = some (L.extract 0 1)) := by show _ = _; rw [HO.out, if_pos (by omega)]; rfl
        clear hno
        go_wp2_with fail
        go_ret2
        rw [hr'.out]
        exact ⟨rfl, Below.refl _ _⟩
      | false =>
        have hr' : Hid (O = none) := by show _ = _; rw [HO.out, if_pos (by omega)]; rfl
        clear hno
        go_wp2_with fail
        go_ret2
        rw [hr'.out]
        exact ⟨rfl, Below.refl _ _⟩
end
section
set_option maxRecDepth 4000
open Go.RowKit

/-- What the reference's 'seen' hands back. -/
def SRet (o : Option ByteArray) (e : Ending) : Prop :=
  match o with
  | some t => e = .returned (.tuple #[.string t, .bool true])
  | none => ∃ t : ByteArray, e = .returned (.tuple #[.string t, .bool false])
def SeenOK (m : Nat) (s t d : ByteArray) : Prop := ∀ (nw nr i k j : Nat) (x y : Ty) (kx ky : Nat) (v : Val) (w : World), nw + nr ≤ m → nw ≤ 100 → nr ≤ 100 → pType true s nw i = some (x, kx) → s.size ≤ i + nw → pType true t nr k = some (y, ky) → t.size ≤ k + nr →
  okV nw x v → At d j (datV nw v) → wt m y ≤ 20000 →
  Calls Tryd.prog 29 #[.string s, .int .i64 i, .string t, .int .i64 k, .string d, .int .i64 j] w fun e w' => SRet (rdT m x y v) e ∧ Below w.heap.size w w'

def snItems (f : Val → Option ByteArray) : List Val → ByteArray → Option ByteArray
  | [], t => some t
  | v :: vs, t =>
    match f v with
    | none => none
    | some x => snItems f vs ((t ++ ⟨#[44]⟩) ++ x)
def brack (t : ByteArray) : ByteArray := (⟨#[91]⟩ ++ (if t.size = 0 then t else t.extract 1 t.size)) ++ ⟨#[93]⟩
theorem brack_cut (a : ByteArray) : brack (⟨#[44]⟩ ++ a) = (⟨#[91]⟩ ++ a) ++ ⟨#[93]⟩ := by
  unfold brack
  rw [if_neg (by rw [ByteArray.size_append]; have : (⟨#[44]⟩ : ByteArray).size = 1 := rfl; omega), cut_one]
theorem snItems_rest (f : Val → Option ByteArray) : ∀ (vs : List Val) (k : Nat) (a : ByteArray), 0 < k → rdItems f vs k (⟨#[91]⟩ ++ a) = (snItems f vs (⟨#[44]⟩ ++ a)).map brack
  | [], k, a, hk => by simp only [rdItems, snItems, Option.map_some, brack_cut]
  | v :: vs, k, a, hk => by
    simp only [rdItems, snItems]
    cases hx : f v with
    | none => rfl
    | some x =>
      simp only [if_pos hk]
      have := snItems_rest f vs (k + 1) (a ++ (⟨#[44]⟩ ++ x)) (by omega)
      simp only [ByteArray.append_assoc] at this ⊢
      exact this
theorem snItems_all (f : Val → Option ByteArray) (vs : List Val) : rdItems f vs 0 ⟨#[91]⟩ = (snItems f vs ByteArray.empty).map brack := by
  cases vs with
  | nil => rfl
  | cons v vs =>
    simp only [rdItems, snItems]
    cases hx : f v with
    | none => rfl
    | some x =>
      have := snItems_rest f vs 1 x (by omega)
      simp only [ByteArray.empty_append, Nat.lt_irrefl, if_false] at this ⊢
      exact this
theorem rd_sm {C b : Nat} {t : ByteArray} (h : t.size ≤ C * b) (hC : C ≤ 20001) (hb : b ≤ 65) : t.size ≤ 1300100 := by
  have h1 := Nat.mul_le_mul hC hb
  omega

set_option maxHeartbeats 1000000 in
theorem seenList_any {m : Nat} {s t d : ByteArray} (IH : SeenOK m s t d) (hs : s.size ≤ 4096) (ht : t.size ≤ 4096) (hd : d.size ≤ 64) (nw nr i k j : Nat) (x y : Ty) (kx ky : Nat) (vs : List Val) (w : World) (hm : nw + nr ≤ m) (hnw : nw ≤ 100) (hnr : nr ≤ 100) (hpx : pType true s nw i = some (x, kx)) (hix : s.size ≤ i + nw)
    (hpy : pType true t nr k = some (y, ky)) (hky : t.size ≤ k + nr) (hvl : vs.length ≤ 16) (hv : ∀ v ∈ vs, okV nw x v) (hat : At d j (oneB vs.length ++ catB (vs.map (datV nw)))) (hwt : wt m y ≤ 20000) :
    Calls Tryd.prog 47 #[.string s, .int .i64 i, .string t, .int .i64 k, .string d, .int .i64 j] w fun e w' => e = .returned (sRet (rdItems (rdT m x y) vs 0 ⟨#[91]⟩)) ∧ Below w.heap.size w w' := by
  have _hd : d.size ≤ 9000000 := by omega
  rw [At.app, At.one (by omega), oneB_size] at hat
  obtain ⟨hj, hat⟩ := hat
  have hjd : j < d.size := bAt_lt (by omega)
  have hdj : d[j].toNat = vs.length := by rw [bAt_in d j hjd] at hj; omega
  rw [snItems_all]
  obtain ⟨R, hR⟩ : ∃ R, R = snItems (rdT m x y) vs ByteArray.empty := ⟨_, rfl⟩
  rw [← hR]
  have HR : Hid (R = snItems (rdT m x y) vs ByteArray.empty) := hR
  have HV : Hid (∀ v ∈ vs, okV nw x v) := hv
  have HA : Hid (At d (j + 1) (catB (vs.map (datV nw)))) := hat
  have hle := hat.le
  have HL : Hid (vs.length = d[j].toNat) := hdj.symm
  have hL16 : d[j].toNat ≤ 16 := by omega
  have TA := tell_all (s := s) (t := d) hs (by omega) nw hnw
  clear hR hv hj hat hdj hvl
  go_enter Tryd.func47, Tryd.ntmps47
  go_wp2_with fail
  go_loopw [15, 16, 17] (fun vd vb vc wr => ∃ (c b : Nat) (us : List Val) (u : ByteArray), c + us.length = d[j].toNat ∧ j + 1 ≤ b ∧ b ≤ d.size ∧ vc = .int .i64 c ∧ vb = .int .i64 b ∧ vd = .string u ∧ (c = 0 → u.size = 0) ∧ (0 < c → 1 ≤ u.size) ∧ Hid (R = snItems (rdT m x y) us u) ∧ Hid (At d b (catB (us.map (datV nw)))) ∧ Hid (∀ v ∈ us, okV nw x v) ∧ Hid (u.size ≤ (wt m y + 1) * b) ∧ Below w.heap.size w wr) (fun _ _ c _ => 17 - (intOf c).toNat)
  case atStart => exact ⟨0, j + 1, vs, ByteArray.empty, by have := HL.out; omega, Nat.le_refl _, by omega, rfl, by go_num, rfl, fun _ => rfl, fun h => by omega, HR, HA, HV, Nat.zero_le _, Below.refl _ _⟩
  case round =>
    obtain ⟨c, b, us, u, hcm, hjb, hbt, rfl, rfl, rfl, hu0, hu1, hR, hA, hU, hsz, hb⟩ := hrel
    have hs2 := rd_sm hsz.out (by omega) (by omega)
    have one1 : (⟨#[93]⟩ : ByteArray).size = 1 := rfl
    have one2 : (⟨#[44]⟩ : ByteArray).size = 1 := rfl
    have one3 : (⟨#[91]⟩ : ByteArray).size = 1 := rfl
    cases us with
    | nil =>
      have hcL : ¬ (c : Int) < (d[j].toNat : Int) := by simp at hcm; omega
      have hr' : Hid (R = some u) := hR
      by_cases hc0 : c = 0
      · have hue : u = ByteArray.empty := bytes_eq (hu0 hc0) (fun i hi => by have := hu0 hc0; omega)
        subst hue
        clear hu0 hu1
        go_wp2_with fail
        go_ret2
        rw [hr'.out]
        exact ⟨rfl, hb⟩
      · have hu2 : 1 ≤ u.size := hu1 (by omega)
        have hue := not_isEmpty hu2
        have hsx := size_extract u 1 u.size hu2 (Nat.le_refl _)
        have HB : Hid (brack u = (⟨#[91]⟩ ++ u.extract 1 u.size) ++ ⟨#[93]⟩) := by show _ = _; unfold brack; rw [if_neg (by omega)]
        clear hu0 hu1
        go_wp2_with fail
        go_ret2
        rw [hr'.out]
        simp only [Option.map_some, HB.out]
        exact ⟨rfl, hb⟩
    | cons v us =>
      have hcL : (c : Int) < (d[j].toNat : Int) := by simp at hcm; omega
      have hA2 : At d b (datV nw v) ∧ At d (b + (datV nw v).size) (catB (us.map (datV nw))) := by
        have := hA.out; simp only [List.map_cons, catB] at this; exact At.app.1 this
      have hvk := hU.out v (by simp)
      have hdx := dec_mk nw x v b hvk hA2.1
      have hseen := fun w => IH nw nr i k b x y kx ky v w hm hnw hnr hpx hix hpy hky hvk hA2.1 hwt
      obtain ⟨q, hq⟩ : ∃ q, q = b + (datV nw v).size := ⟨_, rfl⟩
      rw [← hq] at hdx hA2
      have hq1 := hA2.1.le
      have hqp := datV_pos _ _ _ hvk
      have htell := fun w => TA.yes w hpx hix hbt hdx
      have HA2 : Hid (At d q (catB (us.map (datV nw)))) := hA2.2
      have HU : Hid (∀ v ∈ us, okV nw x v) := fun v hv => hU.out v (by simp [hv])
      have hqd : q ≤ d.size := by omega
      have hbq : b < q := by omega
      have hxs := fun z (hz : rdT m x y v = some z) => rdT_size m nw x y v z hvk hz
      rw [show (datV nw v).size = q - b by omega] at hxs
      have hlen : c + 1 + us.length = d[j].toNat := by simp at hcm; omega
      clear hdx hA2 hq hU hA hq1 hqp hcm hu0 hu1
      cases hy : rdT m x y v with
      | none =>
        have hr' : Hid (R = none) := by show _ = _; rw [hR.out, snItems, hy]
        rw [hy] at hseen
        clear hy hxs
        go_wp2_with (first | (go_at_call 29; refine (hseen _).mono ?_; rintro e w1 ⟨⟨z, rfl⟩, hb1⟩))
        go_ret2
        rw [hr'.out]
        exact ⟨rfl, hb.trans (hb1.mono hb.size)⟩
      | some z =>
        have hzs := hxs z hy
        rw [hy] at hseen
        have z1 : (u ++ ⟨#[44]⟩).size = u.size + 1 := by rw [ByteArray.size_append, one2]
        have hsum : u.size + 1 + z.size ≤ (wt m y + 1) * q := by
          have h1 := mul_sub_add (C := wt m y + 1) (show 0 ≤ b by omega) (show b ≤ q by omega)
          have h2 : (wt m y + 1) * (q - b) = wt m y * (q - b) + (q - b) := by rw [Nat.add_mul, Nat.one_mul]
          have := hsz.out
          simp only [Nat.sub_zero] at h1
          omega
        have hs3 : z.size ≤ 1300100 := by
          have h3 : z.size ≤ (wt m y + 1) * q := by omega
          exact rd_sm h3 (by omega) (by omega)
        have hr' : Hid (R = snItems (rdT m x y) us ((u ++ ⟨#[44]⟩) ++ z)) := by show _ = _; rw [hR.out, snItems, hy]
        have HS : Hid (((u ++ ⟨#[44]⟩) ++ z).size ≤ (wt m y + 1) * q) := by show _ ≤ _; rw [ByteArray.size_append, z1]; omega
        clear hy hxs hsum hzs
        go_wp2_with (first | (go_at_call 29; refine (hseen _).mono ?_; rintro e w1 ⟨rfl, hb1⟩) | (go_at_call 23; refine (htell _).mono ?_; rintro e w2 ⟨rfl, hb2⟩))
        go_roundw
        case rel => exact ⟨c + 1, q, us, _, hlen, by omega, hqd, by go_num, rfl, rfl, fun h => by omega, fun _ => by rw [ByteArray.size_append, z1]; omega, hr', HA2, HU, HS, (hb.trans (hb1.mono hb.size)).trans (hb2.mono (Nat.le_trans hb.size hb1.size))⟩
        case measure => simp [intOf]; omega
end
section
set_option maxRecDepth 4000
open Go.RowKit

theorem zip_at {α β : Type} {fs : List α} {vs : List β} {i : Nat} {f : α} {v : β} (hf : fs[i]? = some f) (hv : vs[i]? = some v) : (f, v) ∈ fs.zip vs := by
  refine List.mem_of_getElem? (i := i) ?_
  rw [List.getElem?_zip_eq_some]; exact ⟨hf, hv⟩
/-- What the reference's 'starts' hands back. -/
def StRet (n : Nat) (s d : ByteArray) (o : Option ((Nat × Ty × ByteArray) × Val)) (e : Ending) : Prop :=
  match o with
  | none => e = .returned (.tuple #[.int .i64 (-1), .int .i64 (-1)])
  | some p => ∃ a q kq : Nat, e = .returned (.tuple #[.int .i64 a, .int .i64 q]) ∧ At d a (datV n p.2) ∧ pType true s n q = some (p.1.2.1, kq) ∧ s.size ≤ q + n

set_option maxHeartbeats 2000000 in
theorem starts_any {n : Nat} {s d : ByteArray} (IL : TellOK n s d) (hd : d.size ≤ 64) (hn : n ≤ 100) (i j c : Nat) {fs : List (Nat × Ty × ByteArray)} {k0 : Nat} (hfl : fs.length ≤ 4096)
    (hF0 : ∀ w, Calls Tryd.prog 62 #[.string s, .int .i64 i] w fun e w' => GRet w.heap.size n s (some (fs, k0)) e w' ∧ Below w.heap.size w w') (vs : List Val) (hlen : vs.length = fs.length) (hok : ∀ p ∈ fs.zip vs, okV n p.1.2.1 p.2) (hat : At d j (catB (vs.map (datV n)))) (w : World) :
    Calls Tryd.prog 83 #[.string s, .int .i64 i, .int .u8 c, .string d, .int .i64 j] w fun e w' => StRet n s d ((fs.zip vs).find? (fun p => p.1.1 == c)) e ∧ Below w.heap.size w w' := by
  have _hd : d.size ≤ 9000000 := by omega
  have hF : ∀ w, Calls Tryd.prog 62 #[.string s, .int .i64 i] w fun e w' => ∃ g cap xs, e = .returned (.tuple #[.slice (some ⟨g, 0, none⟩) fs.length cap, .int .i64 k0]) ∧ w'.ownsRow w.heap.size 79 4 (.slice (some ⟨g, 0, none⟩) fs.length cap) fs.length xs ∧ RowR n s xs fs ∧ Below w.heap.size w w' := fun w => by
    refine (hF0 w).mono ?_
    rintro e w' ⟨⟨g, cap, xs, h1, h2, h3⟩, h4⟩
    exact ⟨g, cap, xs, h1, h2, h3, h4⟩
  clear hF0
  obtain ⟨R, hR⟩ : ∃ R, R = (fs.zip vs).find? (fun p => p.1.1 == c) := ⟨_, rfl⟩
  rw [← hR]
  have HR : Hid (R = ((fs.drop 0).zip (vs.drop 0)).find? (fun p => p.1.1 == c)) := by show _ = _; rw [List.drop_zero, List.drop_zero]; exact hR
  have HA : Hid (At d j (catB ((vs.drop 0).map (datV n)))) := by rw [List.drop_zero]; exact hat
  have HO : Hid (∀ p ∈ fs.zip vs, okV n p.1.2.1 p.2) := hok
  have hjd := hat.le
  clear hR hat hok
  go_enter Tryd.func83, Tryd.ntmps83
  go_wp2_with (go_at_call 62; refine (hF _).mono ?_; rintro e wf ⟨g, cap, xs, rfl, hown, hrow, hbf0⟩)
  go_loopw [14, 15] (fun vb vi wr => ∃ (x b : Nat), x ≤ fs.length ∧ j ≤ b ∧ b ≤ d.size ∧ vi = .int .i64 x ∧ vb = .int .i64 b ∧ Hid (R = ((fs.drop x).zip (vs.drop x)).find? (fun p => p.1.1 == c)) ∧ Hid (At d b (catB ((vs.drop x).map (datV n)))) ∧ Below wf.heap.size wf wr) (fun _ x _ => fs.length - (intOf x).toNat)
  case atStart => exact ⟨0, j, Nat.zero_le _, Nat.le_refl _, by omega, rfl, rfl, HR, HA, Below.refl _ _⟩
  case round =>
    obtain ⟨x, b, hx0, hjb, hbt, rfl, rfl, hR, hA, hb⟩ := hrel
    by_cases hlt : x < fs.length
    · obtain ⟨f, hf⟩ : ∃ f, fs[x]? = some f := ⟨fs[x], List.getElem?_eq_getElem hlt⟩
      obtain ⟨v, hv⟩ : ∃ v, vs[x]? = some v := ⟨vs[x], List.getElem?_eq_getElem (by omega)⟩
      have hdf : fs.drop x = f :: fs.drop (x + 1) := by
        rw [List.drop_eq_getElem_cons hlt]; rw [List.getElem?_eq_getElem hlt] at hf; simp at hf; rw [hf]
      have hdv : vs.drop x = v :: vs.drop (x + 1) := by
        rw [List.drop_eq_getElem_cons (by omega)]; rw [List.getElem?_eq_getElem (by omega)] at hv; simp at hv; rw [hv]
      obtain ⟨p, kp, hp, hpn, h256, c0, c1, c2, c3⟩ := hrow.2 x f hf
      have k0 := cell_keep hb (own_cell hown c0)
      have k1 := cell_keep hb (own_cell hown c1)
      have hg' : g < wr.heap.size := lt_of_cell k0
      have hvk : okV n f.2.1 v := HO.out (f, v) (zip_at hf hv)
      have hA2 : At d b (datV n v) ∧ At d (b + (datV n v).size) (catB ((vs.drop (x + 1)).map (datV n))) := by
        have := hA.out; rw [hdv] at this; simp only [List.map_cons, catB] at this; exact At.app.1 this
      have hR2 : R = if (f.1 == c) = true then some (f, v) else ((fs.drop (x + 1)).zip (vs.drop (x + 1))).find? (fun p => p.1.1 == c) := by
        rw [hR.out, hdf, hdv, List.zip_cons_cons, List.find?_cons]
        cases (f.1 == c) <;> rfl
      clear hf hv c0 c1 c2 c3 hdf hdv
      by_cases hc : f.1 = c
      · have hc' : ((f.1 : Int) == (c : Int)) = true := by simp; omega
        have hr' : Hid (R = some (f, v)) := by show _ = _; rw [hR2, if_pos (by simp [hc])]
        have HA2 : Hid (At d b (datV n v)) := hA2.1
        have HP : Hid (pType true s n p = some (f.2.1, kp)) := hp
        clear hR2 hc hA2 hp hR hA hrow hown
        go_wp2_with fail
        go_quiet (fail)
        go_wp2_with fail
        go_ret2
        rw [hr'.out]
        exact ⟨⟨b, p, kp, rfl, HA2.out, HP.out, hpn⟩, below_drewN (hbf0.trans (hb.mono hbf0.size)) _⟩
      · have hc' : ((f.1 : Int) == (c : Int)) = false := by simp; omega
        have hr' : Hid (R = ((fs.drop (x + 1)).zip (vs.drop (x + 1))).find? (fun p => p.1.1 == c)) := by show _ = _; rw [hR2, if_neg (by simp [hc])]
        have hdx := dec_mk n f.2.1 v b hvk hA2.1
        obtain ⟨q, hq⟩ : ∃ q, q = b + (datV n v).size := ⟨_, rfl⟩
        rw [← hq] at hdx hA2
        have hq1 := hA2.1.le
        have hcall := fun w => IL.yes w hp hpn hbt hdx
        have HA2 : Hid (At d q (catB ((vs.drop (x + 1)).map (datV n)))) := hA2.2
        have hqd : q ≤ d.size := by omega
        have hbq : b ≤ q := by omega
        clear hR2 hc hA2 hp hR hA hdx hq hq1
        go_wp2_with (go_at_call 23; refine (hcall _).mono ?_; rintro e w1 ⟨rfl, hb1⟩)
        go_roundw
        case rel => exact ⟨x + 1, q, by omega, by omega, hqd, by go_num, rfl, hr', HA2, hb.trans (hb1.mono hb.size)⟩
        case measure => simp [intOf]; omega
    · have hnil : fs.drop x = [] := List.drop_of_length_le (by omega)
      have hr' : Hid (R = none) := by show _ = _; rw [hR.out, hnil]; rfl
      clear hR hnil hA
      go_wp2_with fail
      go_ret2
      rw [hr'.out]
      exact ⟨rfl, hbf0.trans (hb.mono hbf0.size)⟩

def snFlds (f : Nat × Ty × ByteArray → Option ByteArray) : List (Nat × Ty × ByteArray) → ByteArray → Option ByteArray
  | [], t => some t
  | g :: gs, t =>
    match f g with
    | none => none
    | some x => snFlds f gs ((((t ++ ⟨#[44]⟩) ++ oneB g.1) ++ ⟨#[58]⟩) ++ x)
def brace1 (t : ByteArray) : ByteArray := (⟨#[123]⟩ ++ t.extract 1 t.size) ++ ⟨#[125]⟩
theorem snFlds_rest (f : Nat × Ty × ByteArray → Option ByteArray) : ∀ (gs : List (Nat × Ty × ByteArray)) (a : ByteArray), rdFlds f gs ⟨#[44]⟩ (⟨#[123]⟩ ++ a) = (snFlds f gs (⟨#[44]⟩ ++ a)).map brace1
  | [], a => by simp only [rdFlds, snFlds, Option.map_some, brace1, cut_one]
  | g :: gs, a => by
    simp only [rdFlds, snFlds]
    cases hx : f g with
    | none => rfl
    | some x =>
      simp only
      have := snFlds_rest f gs (a ++ (⟨#[44]⟩ ++ oneB g.1 ++ ⟨#[58]⟩ ++ x))
      simp only [ByteArray.append_assoc] at this ⊢
      exact this
theorem snFlds_all (f : Nat × Ty × ByteArray → Option ByteArray) (gs : List (Nat × Ty × ByteArray)) (h : gs ≠ []) : rdFlds f gs ⟨#[123]⟩ ByteArray.empty = (snFlds f gs ByteArray.empty).map brace1 := by
  cases gs with
  | nil => exact absurd rfl h
  | cons g gs =>
    simp only [rdFlds, snFlds]
    cases hx : f g with
    | none => rfl
    | some x =>
      simp only
      have := snFlds_rest f gs (oneB g.1 ++ ⟨#[58]⟩ ++ x)
      simp only [ByteArray.append_assoc, ByteArray.empty_append] at this ⊢
      exact this
end
section
set_option maxRecDepth 4000
open Go.RowKit

theorem sum_sm {α : Type} (c : α → Nat) (K : Nat) : ∀ (l : List α) (x : α), x ∈ l → (l.map c).sum ≤ K → c x ≤ K
  | y :: l, x, h, hk => by
    simp at hk
    rcases List.mem_cons.1 h with rfl | h
    · omega
    · exact sum_sm c K l x h (by omega)
theorem rdFld_size {m nw : Nat} {fs : List (Nat × Ty × ByteArray)} {vs : List Val} {gf : Nat × Ty × ByteArray} {y : ByteArray} (hok : ∀ p ∈ fs.zip vs, okV nw p.1.2.1 p.2) (hpos : 1 ≤ (catB (vs.map (datV nw))).size) (hy : rdFld (rdT m) (fs.zip vs) gf = some y) : y.size ≤ (wt m gf.2.1 + gf.2.2.size) * (catB (vs.map (datV nw))).size := by
  rw [Nat.add_mul]
  unfold rdFld at hy
  split at hy
  · split at hy
    · cases hy
    · cases hy
      have := Nat.le_mul_of_pos_right gf.2.2.size hpos
      omega
  · rename_i p hp'
    have hmm := find_mem hp'
    have h1 := rdT_size m nw _ _ _ _ (hok p hmm) hy
    have h2 := cat_mem (l := vs.map (datV nw)) (x := datV nw p.2) (List.mem_map.2 ⟨p.2, (List.of_mem_zip (a := p.1) (b := p.2) hmm).2, rfl⟩)
    have h3 := Nat.mul_le_mul_left (wt m gf.2.1) h2
    omega

set_option maxHeartbeats 2000000 in
theorem seenRecord_any {m : Nat} {s t d : ByteArray} (IH : SeenOK m s t d) (hs : s.size ≤ 4096) (ht : t.size ≤ 4096) (hd : d.size ≤ 64) (nw nr i k j : Nat) (hm : nw + nr ≤ m) (hnw : nw ≤ 100) (hnr : nr ≤ 100) {fs gs : List (Nat × Ty × ByteArray)} {k0 k1 : Nat} (hfl : fs.length ≤ 4096) (hgl : gs.length ≤ 4096) (hfn : fs ≠ []) (hgn : gs ≠ [])
    (hFs : ∀ w, Calls Tryd.prog 62 #[.string s, .int .i64 i] w fun e w' => GRet w.heap.size nw s (some (fs, k0)) e w' ∧ Below w.heap.size w w')
    (hFt : ∀ w, Calls Tryd.prog 62 #[.string t, .int .i64 k] w fun e w' => GRet w.heap.size nr t (some (gs, k1)) e w' ∧ Below w.heap.size w w')
    (vs : List Val) (hlen : vs.length = fs.length) (hok : ∀ p ∈ fs.zip vs, okV nw p.1.2.1 p.2) (hat : At d j (catB (vs.map (datV nw)))) (hwt : (gs.map fun f => wt m f.2.1 + f.2.2.size + 4).sum ≤ 20000) (w : World) :
    Calls Tryd.prog 48 #[.string s, .int .i64 i, .string t, .int .i64 k, .string d, .int .i64 j] w fun e w' => e = .returned (sRet (rdFlds (rdFld (rdT m) (fs.zip vs)) gs ⟨#[123]⟩ ByteArray.empty)) ∧ Below w.heap.size w w' := by
  have _hd : d.size ≤ 9000000 := by omega
  have hF : ∀ w, Calls Tryd.prog 62 #[.string t, .int .i64 k] w fun e w' => ∃ g cap xs, e = .returned (.tuple #[.slice (some ⟨g, 0, none⟩) gs.length cap, .int .i64 k1]) ∧ w'.ownsRow w.heap.size 79 4 (.slice (some ⟨g, 0, none⟩) gs.length cap) gs.length xs ∧ RowR nr t xs gs ∧ Below w.heap.size w w' := fun w => by
    refine (hFt w).mono ?_
    rintro e w' ⟨⟨g, cap, xs, h1, h2, h3⟩, h4⟩
    exact ⟨g, cap, xs, h1, h2, h3, h4⟩
  have hst := fun c w => starts_any (tell_all (s := s) (t := d) hs (by omega) nw hnw) hd hnw i j c hfl hFs vs hlen hok hat w
  have hpos : 1 ≤ (catB (vs.map (datV nw))).size := by
    have := datV_pos (nw + 1) ⟨123, ByteArray.empty, false, [], fs⟩ (.rcd vs) (okV_rcd ⟨rfl, hfn, hlen, hok⟩)
    rw [datV_rcd] at this; exact this
  have hsf := fun gf y => rdFld_size (m := m) (gf := gf) (y := y) hok hpos
  have hLe := hat.le
  obtain ⟨L, hL⟩ : ∃ L, L = (catB (vs.map (datV nw))).size := ⟨_, rfl⟩
  rw [← hL] at hpos hsf hLe
  rw [snFlds_all _ gs hgn]
  obtain ⟨R, hR⟩ : ∃ R, R = snFlds (rdFld (rdT m) (fs.zip vs)) gs ByteArray.empty := ⟨_, rfl⟩
  rw [← hR]
  have HR : Hid (R = snFlds (rdFld (rdT m) (fs.zip vs)) gs ByteArray.empty) := hR
  have HO : Hid (∀ p ∈ fs.zip vs, okV nw p.1.2.1 p.2) := hok
  have hgl0 : 0 < gs.length := by
    rcases gs with _ | ⟨g, gs⟩
    · exact absurd rfl hgn
    · simp
  clear hR hFs hFt hok hat hL hfn hgn
  go_enter Tryd.func48, Tryd.ntmps48
  go_wp2_with (go_at_call 62; refine (hF _).mono ?_; rintro e wf ⟨g, cap, xs, rfl, hown, hrow, hbf0⟩)
  go_loopw [16, 17] (fun vd vi wr => ∃ (x : Nat) (u : ByteArray), x ≤ gs.length ∧ vi = .int .i64 x ∧ vd = .string u ∧ x ≤ u.size ∧ Hid (R = snFlds (rdFld (rdT m) (fs.zip vs)) (gs.drop x) u) ∧ Hid (u.size + ((gs.drop x).map fun f => (wt m f.2.1 + f.2.2.size + 4) * L).sum ≤ 20000 * L) ∧ Below wf.heap.size wf wr) (fun _ x _ => gs.length - (intOf x).toNat)
  case atStart =>
    refine ⟨0, ByteArray.empty, Nat.zero_le _, rfl, rfl, Nat.zero_le _, HR, ?_, Below.refl _ _⟩
    show _ ≤ _
    rw [List.drop_zero, mul_sum (fun f : Nat × Ty × ByteArray => wt m f.2.1 + f.2.2.size + 4), show ByteArray.empty.size = 0 from rfl, Nat.zero_add]
    exact Nat.mul_le_mul_right _ hwt
  case round =>
    obtain ⟨x, u, hx0, rfl, rfl, hxu, hR, hsz, hb⟩ := hrel
    have hK : 20000 * L ≤ 1280000 := by omega
    have hus : u.size ≤ 1280000 := by have := hsz.out; omega
    have one1 : (⟨#[44]⟩ : ByteArray).size = 1 := rfl
    have one2 : (⟨#[58]⟩ : ByteArray).size = 1 := rfl
    have one3 : (⟨#[123]⟩ : ByteArray).size = 1 := rfl
    have one4 : (⟨#[125]⟩ : ByteArray).size = 1 := rfl
    by_cases hlt : x < gs.length
    · obtain ⟨gf, hf⟩ : ∃ f, gs[x]? = some f := ⟨gs[x], List.getElem?_eq_getElem hlt⟩
      have hdrop : gs.drop x = gf :: gs.drop (x + 1) := by
        rw [List.drop_eq_getElem_cons hlt]; rw [List.getElem?_eq_getElem hlt] at hf; simp at hf; rw [hf]
      have hmem := List.mem_of_getElem? hf
      obtain ⟨p, kp, hp, hpn, h256, c0, c1, c2, c3⟩ := hrow.2 x gf hf
      have k0 := cell_keep hb (own_cell hown c0)
      have k1 := cell_keep hb (own_cell hown c1)
      have k2 := cell_keep hb (own_cell hown c2)
      have k3 := cell_keep hb (own_cell hown c3)
      have hg' : g < wr.heap.size := lt_of_cell k0
      have hwf : wt m gf.2.1 ≤ 20000 := by
        have := sum_sm (fun f : Nat × Ty × ByteArray => wt m f.2.1 + f.2.2.size + 4) 20000 gs gf hmem hwt
        omega
      have hstc := hst gf.1
      have hsfg := hsf gf
      have hstep : ∀ o, rdFld (rdT m) (fs.zip vs) gf = o → R = (match o with | none => none | some y => snFlds (rdFld (rdT m) (fs.zip vs)) (gs.drop (x + 1)) ((((u ++ ⟨#[44]⟩) ++ oneB gf.1) ++ ⟨#[58]⟩) ++ y)) := fun o ho => by
        rw [hR.out, hdrop, snFlds, ho]
        all_goals (cases o <;> rfl)
      have hsum : u.size + (wt m gf.2.1 + gf.2.2.size) * L + 4 * L + ((gs.drop (x + 1)).map fun f => (wt m f.2.1 + f.2.2.size + 4) * L).sum ≤ 20000 * L := by
        have h1 := hsz.out
        rw [hdrop, List.map_cons, List.sum_cons, Nat.add_mul] at h1
        omega
      have hconv := fun (W : World) (b : Nat) (h : W.cell? ⟨b, 0, none⟩ = some (.int .u8 gf.1)) => conv_byte W b gf.1 h256 h
      have hso : (oneB gf.1).size = 1 := rfl
      have z1 : (u ++ ⟨#[44]⟩).size = u.size + 1 := by rw [ByteArray.size_append, one1]
      have z2 : (u ++ ⟨#[44]⟩ ++ oneB gf.1).size = u.size + 2 := by rw [ByteArray.size_append, z1, hso]
      have z3 : (u ++ ⟨#[44]⟩ ++ oneB gf.1 ++ ⟨#[58]⟩).size = u.size + 3 := by rw [ByteArray.size_append, z2, one2]
      have HS : ∀ y : ByteArray, y.size ≤ (wt m gf.2.1 + gf.2.2.size) * L → Hid ((u ++ ⟨#[44]⟩ ++ oneB gf.1 ++ ⟨#[58]⟩ ++ y).size + ((gs.drop (x + 1)).map fun f => (wt m f.2.1 + f.2.2.size + 4) * L).sum ≤ 20000 * L) := fun y hy => by
        show _ ≤ _
        rw [ByteArray.size_append, z3]
        omega
      have hzx : ∀ y : ByteArray, x + 1 ≤ (u ++ ⟨#[44]⟩ ++ oneB gf.1 ++ ⟨#[58]⟩ ++ y).size := fun y => by rw [ByteArray.size_append, z3]; omega
      have hKK : (wt m gf.2.1 + gf.2.2.size) * L ≤ 1280000 := by omega
      have HSTEP : Hid (∀ o, rdFld (rdT m) (fs.zip vs) gf = o → R = (match o with | none => none | some y => snFlds (rdFld (rdT m) (fs.zip vs)) (gs.drop (x + 1)) ((((u ++ ⟨#[44]⟩) ++ oneB gf.1) ++ ⟨#[58]⟩) ++ y))) := hstep
      have hbw : Below w.heap.size w wr := hbf0.trans (hb.mono hbf0.size)
      cases hfd : (fs.zip vs).find? (fun p => p.1.1 == gf.1) with
      | none =>
        rw [hfd] at hstc
        have hfv : rdFld (rdT m) (fs.zip vs) gf = if gf.2.2.size = 0 then none else some gf.2.2 := by unfold rdFld; rw [hfd]
        by_cases hz : gf.2.2.size = 0
        · have hr' : Hid (R = none) := hstep none (by rw [hfv, if_pos hz])
          have hz' : ¬ 0 < gf.2.2.size := by omega
          rw [show decide (0 < gf.2.2.size) = false by simpa using hz] at k2
          clear hfd hfv hst hsf hsfg hstep HSTEP hdrop hf hR hrow hown hp c0 c1 c2 c3 hz hsum HS hz'
          go_wp2_with (first | (go_at_call 83; refine (hstc _).mono ?_; rintro e w1 ⟨rfl, hb1⟩; obtain ⟨hc1, hf1⟩ := bcell hb1))
          go_ret2
          rw [hr'.out]
          exact ⟨rfl, hbw.trans (hb1.mono hbw.size)⟩
        · have hr' : Hid (R = snFlds (rdFld (rdT m) (fs.zip vs)) (gs.drop (x + 1)) ((((u ++ ⟨#[44]⟩) ++ oneB gf.1) ++ ⟨#[58]⟩) ++ gf.2.2)) := hstep (some gf.2.2) (by rw [hfv, if_neg hz])
          rw [show decide (0 < gf.2.2.size) = true by simp; omega] at k2
          have hys : gf.2.2.size ≤ (wt m gf.2.1 + gf.2.2.size) * L := hsfg gf.2.2 (by rw [hfv, if_neg hz])
          have HS2 := HS gf.2.2 hys
          have hzx2 := hzx gf.2.2
          have hy3 : gf.2.2.size ≤ 1280000 := by omega
          clear hfd hfv hst hsf hsfg hstep HSTEP hdrop hf hR hrow hown hp c0 c1 c2 c3 hz hsum HS hys hKK
          go_wp2_with (first | (go_at_call 83; refine (hstc _).mono ?_; rintro e w1 ⟨rfl, hb1⟩; obtain ⟨hc1, hf1⟩ := bcell hb1))
          go_roundw
          case rel => exact ⟨x + 1, _, by omega, by go_num, rfl, hzx2, hr', HS2, (hb.trans (hb1.mono hb.size)).alloc (Nat.le_trans hb.size hb1.size) _⟩
          case measure => simp [intOf]; omega
      | some pf =>
        rw [hfd] at hstc
        have hfv : rdFld (rdT m) (fs.zip vs) gf = rdT m pf.1.2.1 gf.2.1 pf.2 := by unfold rdFld; rw [hfd]
        have hvk : okV nw pf.1.2.1 pf.2 := HO.out pf (find_mem hfd)
        have hseen := fun (w : World) (a q kq : Nat) (h1 : At d a (datV nw pf.2)) (h2 : pType true s nw q = some (pf.1.2.1, kq)) (h3 : s.size ≤ q + nw) => IH nw nr q p a pf.1.2.1 gf.2.1 kq kp pf.2 w hm hnw hnr h2 h3 hp hpn hvk h1 hwf
        cases hy : rdT m pf.1.2.1 gf.2.1 pf.2 with
        | none =>
          have hr' : Hid (R = none) := hstep none (by rw [hfv, hy])
          rw [hy] at hseen
          clear hfd hfv hst hsf hsfg hstep HSTEP hdrop hf hR hrow hown c0 c1 c2 c3 hsum HS hKK hy hvk
          go_wp2_with (first | (go_at_call 83; refine (hstc _).mono ?_; rintro e w1 ⟨⟨a, q, kq, rfl, ha, hq, hqn⟩, hb1⟩; obtain ⟨hc1, hf1⟩ := bcell hb1) | (go_at_call 29; refine (hseen _ _ _ _ ha hq hqn).mono ?_; rintro e w2 ⟨⟨z, rfl⟩, hb2⟩; obtain ⟨hc2, hf2⟩ := bcell hb2))
          go_ret2
          rw [hr'.out]
          exact ⟨rfl, (hbw.trans (hb1.mono hbw.size)).trans (hb2.mono (Nat.le_trans hbw.size hb1.size))⟩
        | some z =>
          have hr' : Hid (R = snFlds (rdFld (rdT m) (fs.zip vs)) (gs.drop (x + 1)) ((((u ++ ⟨#[44]⟩) ++ oneB gf.1) ++ ⟨#[58]⟩) ++ z)) := hstep (some z) (by rw [hfv, hy])
          have hys : z.size ≤ (wt m gf.2.1 + gf.2.2.size) * L := hsfg z (by rw [hfv, hy])
          have HS2 := HS z hys
          have hzx2 := hzx z
          have hy3 : z.size ≤ 1280000 := by omega
          rw [hy] at hseen
          clear hfd hfv hst hsf hsfg hstep HSTEP hdrop hf hR hrow hown c0 c1 c2 c3 hsum HS hKK hy hvk hys
          go_wp2_with (first | (go_at_call 83; refine (hstc _).mono ?_; rintro e w1 ⟨⟨a, q, kq, rfl, ha, hq, hqn⟩, hb1⟩; obtain ⟨hc1, hf1⟩ := bcell hb1) | (go_at_call 29; refine (hseen _ _ _ _ ha hq hqn).mono ?_; rintro e w2 ⟨rfl, hb2⟩; obtain ⟨hc2, hf2⟩ := bcell hb2; have hg1 : g < w1.heap.size := (Nat.lt_of_lt_of_le hg' hb1.size)))
          go_roundw
          case rel => exact ⟨x + 1, _, by omega, by go_num, rfl, hzx2, hr', HS2, ((hb.trans (hb1.mono hb.size)).trans (hb2.mono (Nat.le_trans hb.size hb1.size))).alloc (Nat.le_trans hb.size (Nat.le_trans hb1.size hb2.size)) _⟩
          case measure => simp [intOf]; omega
    · have hnil : gs.drop x = [] := List.drop_of_length_le (by omega)
      have hr' : Hid (R = some u) := by show _ = _; rw [hR.out, hnil, snFlds]
      have hu1 : 1 ≤ u.size := by omega
      have hue := not_isEmpty hu1
      have hsx := size_extract u 1 u.size hu1 (Nat.le_refl _)
      clear hR hnil hst hsf hsz
      go_wp2_with fail
      go_ret2
      rw [hr'.out]
      exact ⟨rfl, hbf0.trans (hb.mono hbf0.size)⟩
end
end Go.Proofs.YtkkekopomiehlaaDoor
