import Derived.Test.YtccmcgckechhgaaDoorSn1
set_option linter.unusedVariables false
set_option linter.unusedSimpArgs false
set_option maxRecDepth 4000
namespace Go.Proofs.YtccmcgckechhgaaDoor
open Go.RowKit

/-- What the reference's 'seen' hands back. -/
def SRet (o : Option ByteArray) (e : Ending) : Prop :=
  match o with
  | some t => e = .returned (.tuple #[.string t, .bool true])
  | none => ∃ t : ByteArray, e = .returned (.tuple #[.string t, .bool false])
def SeenOK (m : Nat) (s t d : ByteArray) : Prop := ∀ (nw nr i k j : Nat) (x y : Ty) (kx ky : Nat) (v : Val) (w : World), nw + nr ≤ m → nw ≤ 100 → nr ≤ 100 → pType true s nw i = some (x, kx) → s.size ≤ i + nw → pType true t nr k = some (y, ky) → t.size ≤ k + nr →
  okV nw x v → At d j (datV nw v) → wt m y ≤ 20000 →
  Calls Tryd.prog 29 #[.string s, .int .i64 i, .string t, .int .i64 k, .string d, .int .i64 j] w fun e w' => SRet (rdT m x y v) e ∧ Below w.heap.size w w'

def snItems (f : Val → Option ByteArray) : List Val → ByteArray → Option ByteArray
  | [], t => some t
  | v :: vs, t =>
    match f v with
    | none => none
    | some x => snItems f vs ((t ++ ⟨#[44]⟩) ++ x)
def brack (t : ByteArray) : ByteArray := (⟨#[91]⟩ ++ (if t.size = 0 then t else t.extract 1 t.size)) ++ ⟨#[93]⟩
theorem brack_cut (a : ByteArray) : brack (⟨#[44]⟩ ++ a) = (⟨#[91]⟩ ++ a) ++ ⟨#[93]⟩ := by
  unfold brack
  rw [if_neg (by rw [ByteArray.size_append]; have : (⟨#[44]⟩ : ByteArray).size = 1 := rfl; omega), cut_one]
theorem snItems_rest (f : Val → Option ByteArray) : ∀ (vs : List Val) (k : Nat) (a : ByteArray), 0 < k → rdItems f vs k (⟨#[91]⟩ ++ a) = (snItems f vs (⟨#[44]⟩ ++ a)).map brack
  | [], k, a, hk => by simp only [rdItems, snItems, Option.map_some, brack_cut]
  | v :: vs, k, a, hk => by
    simp only [rdItems, snItems]
    cases hx : f v with
    | none => rfl
    | some x =>
      simp only [if_pos hk]
      have := snItems_rest f vs (k + 1) (a ++ (⟨#[44]⟩ ++ x)) (by omega)
      simp only [ByteArray.append_assoc] at this ⊢
      exact this
theorem snItems_all (f : Val → Option ByteArray) (vs : List Val) : rdItems f vs 0 ⟨#[91]⟩ = (snItems f vs ByteArray.empty).map brack := by
  cases vs with
  | nil => rfl
  | cons v vs =>
    simp only [rdItems, snItems]
    cases hx : f v with
    | none => rfl
    | some x =>
      have := snItems_rest f vs 1 x (by omega)
      simp only [ByteArray.empty_append, Nat.lt_irrefl, if_false] at this ⊢
      exact this
theorem rd_sm {C b : Nat} {t : ByteArray} (h : t.size ≤ C * b) (hC : C ≤ 20001) (hb : b ≤ 65) : t.size ≤ 1300100 := by
  have h1 := Nat.mul_le_mul hC hb
  omega

set_option maxHeartbeats 1000000 in
theorem seenList_any {m : Nat} {s t d : ByteArray} (IH : SeenOK m s t d) (hs : s.size ≤ 4096) (ht : t.size ≤ 4096) (hd : d.size ≤ 64) (nw nr i k j : Nat) (x y : Ty) (kx ky : Nat) (vs : List Val) (w : World) (hm : nw + nr ≤ m) (hnw : nw ≤ 100) (hnr : nr ≤ 100) (hpx : pType true s nw i = some (x, kx)) (hix : s.size ≤ i + nw)
    (hpy : pType true t nr k = some (y, ky)) (hky : t.size ≤ k + nr) (hvl : vs.length ≤ 16) (hv : ∀ v ∈ vs, okV nw x v) (hat : At d j (oneB vs.length ++ catB (vs.map (datV nw)))) (hwt : wt m y ≤ 20000) :
    Calls Tryd.prog 47 #[.string s, .int .i64 i, .string t, .int .i64 k, .string d, .int .i64 j] w fun e w' => e = .returned (sRet (rdItems (rdT m x y) vs 0 ⟨#[91]⟩)) ∧ Below w.heap.size w w' := by
  have _hd : d.size ≤ 9000000 := by omega
  rw [At.app, At.one (by omega), oneB_size] at hat
  obtain ⟨hj, hat⟩ := hat
  have hjd : j < d.size := bAt_lt (by omega)
  have hdj : d[j].toNat = vs.length := by rw [bAt_in d j hjd] at hj; omega
  rw [snItems_all]
  obtain ⟨R, hR⟩ : ∃ R, R = snItems (rdT m x y) vs ByteArray.empty := ⟨_, rfl⟩
  rw [← hR]
  have HR : Hid (R = snItems (rdT m x y) vs ByteArray.empty) := hR
  have HV : Hid (∀ v ∈ vs, okV nw x v) := hv
  have HA : Hid (At d (j + 1) (catB (vs.map (datV nw)))) := hat
  have hle := hat.le
  have HL : Hid (vs.length = d[j].toNat) := hdj.symm
  have hL16 : d[j].toNat ≤ 16 := by omega
  have TA := tell_all (s := s) (t := d) hs (by omega) nw hnw
  clear hR hv hj hat hdj hvl
  go_enter Tryd.func47, Tryd.ntmps47
  go_wp2_with fail
  go_loopw [15, 16, 17] (fun vd vb vc wr => ∃ (c b : Nat) (us : List Val) (u : ByteArray), c + us.length = d[j].toNat ∧ j + 1 ≤ b ∧ b ≤ d.size ∧ vc = .int .i64 c ∧ vb = .int .i64 b ∧ vd = .string u ∧ (c = 0 → u.size = 0) ∧ (0 < c → 1 ≤ u.size) ∧ Hid (R = snItems (rdT m x y) us u) ∧ Hid (At d b (catB (us.map (datV nw)))) ∧ Hid (∀ v ∈ us, okV nw x v) ∧ Hid (u.size ≤ (wt m y + 1) * b) ∧ Below w.heap.size w wr) (fun _ _ c _ => 17 - (intOf c).toNat)
  case atStart => exact ⟨0, j + 1, vs, ByteArray.empty, by have := HL.out; omega, Nat.le_refl _, by omega, rfl, by go_num, rfl, fun _ => rfl, fun h => by omega, HR, HA, HV, Nat.zero_le _, Below.refl _ _⟩
  case round =>
    obtain ⟨c, b, us, u, hcm, hjb, hbt, rfl, rfl, rfl, hu0, hu1, hR, hA, hU, hsz, hb⟩ := hrel
    have hs2 := rd_sm hsz.out (by omega) (by omega)
    have one1 : (⟨#[93]⟩ : ByteArray).size = 1 := rfl
    have one2 : (⟨#[44]⟩ : ByteArray).size = 1 := rfl
    have one3 : (⟨#[91]⟩ : ByteArray).size = 1 := rfl
    cases us with
    | nil =>
      have hcL : ¬ (c : Int) < (d[j].toNat : Int) := by simp at hcm; omega
      have hr' : Hid (R = some u) := hR
      by_cases hc0 : c = 0
      · have hue : u = ByteArray.empty := bytes_eq (hu0 hc0) (fun i hi => by have := hu0 hc0; omega)
        subst hue
        clear hu0 hu1
        go_wp2_with fail
        go_ret2
        rw [hr'.out]
        exact ⟨rfl, hb⟩
      · have hu2 : 1 ≤ u.size := hu1 (by omega)
        have hue := not_isEmpty hu2
        have hsx := size_extract u 1 u.size hu2 (Nat.le_refl _)
        have HB : Hid (brack u = (⟨#[91]⟩ ++ u.extract 1 u.size) ++ ⟨#[93]⟩) := by show _ = _; unfold brack; rw [if_neg (by omega)]
        clear hu0 hu1
        go_wp2_with fail
        go_ret2
        rw [hr'.out]
        simp only [Option.map_some, HB.out]
        exact ⟨rfl, hb⟩
    | cons v us =>
      have hcL : (c : Int) < (d[j].toNat : Int) := by simp at hcm; omega
      have hA2 : At d b (datV nw v) ∧ At d (b + (datV nw v).size) (catB (us.map (datV nw))) := by
        have := hA.out; simp only [List.map_cons, catB] at this; exact At.app.1 this
      have hvk := hU.out v (by simp)
      have hdx := dec_mk nw x v b hvk hA2.1
      have hseen := fun w => IH nw nr i k b x y kx ky v w hm hnw hnr hpx hix hpy hky hvk hA2.1 hwt
      obtain ⟨q, hq⟩ : ∃ q, q = b + (datV nw v).size := ⟨_, rfl⟩
      rw [← hq] at hdx hA2
      have hq1 := hA2.1.le
      have hqp := datV_pos _ _ _ hvk
      have htell := fun w => TA.yes w hpx hix hbt hdx
      have HA2 : Hid (At d q (catB (us.map (datV nw)))) := hA2.2
      have HU : Hid (∀ v ∈ us, okV nw x v) := fun v hv => hU.out v (by simp [hv])
      have hqd : q ≤ d.size := by omega
      have hbq : b < q := by omega
      have hxs := fun z (hz : rdT m x y v = some z) => rdT_size m nw x y v z hvk hz
      rw [show (datV nw v).size = q - b by omega] at hxs
      have hlen : c + 1 + us.length = d[j].toNat := by simp at hcm; omega
      clear hdx hA2 hq hU hA hq1 hqp hcm hu0 hu1
      cases hy : rdT m x y v with
      | none =>
        have hr' : Hid (R = none) := by show _ = _; rw [hR.out, snItems, hy]
        rw [hy] at hseen
        clear hy hxs
        go_wp2_with (first | (go_at_call 29; refine (hseen _).mono ?_; rintro e w1 ⟨⟨z, rfl⟩, hb1⟩))
        go_ret2
        rw [hr'.out]
        exact ⟨rfl, hb.trans (hb1.mono hb.size)⟩
      | some z =>
        have hzs := hxs z hy
        rw [hy] at hseen
        have z1 : (u ++ ⟨#[44]⟩).size = u.size + 1 := by rw [ByteArray.size_append, one2]
        have hsum : u.size + 1 + z.size ≤ (wt m y + 1) * q := by
          have h1 := mul_sub_add (C := wt m y + 1) (show 0 ≤ b by omega) (show b ≤ q by omega)
          have h2 : (wt m y + 1) * (q - b) = wt m y * (q - b) + (q - b) := by rw [Nat.add_mul, Nat.one_mul]
          have := hsz.out
          simp only [Nat.sub_zero] at h1
          omega
        have hs3 : z.size ≤ 1300100 := by
          have h3 : z.size ≤ (wt m y + 1) * q := by omega
          exact rd_sm h3 (by omega) (by omega)
        have hr' : Hid (R = snItems (rdT m x y) us ((u ++ ⟨#[44]⟩) ++ z)) := by show _ = _; rw [hR.out, snItems, hy]
        have HS : Hid (((u ++ ⟨#[44]⟩) ++ z).size ≤ (wt m y + 1) * q) := by show _ ≤ _; rw [ByteArray.size_append, z1]; omega
        clear hy hxs hsum hzs
        go_wp2_with (first | (go_at_call 29; refine (hseen _).mono ?_; rintro e w1 ⟨rfl, hb1⟩) | (go_at_call 23; refine (htell _).mono ?_; rintro e w2 ⟨rfl, hb2⟩))
        go_roundw
        case rel => exact ⟨c + 1, q, us, _, hlen, by omega, hqd, by go_num, rfl, rfl, fun h => by omega, fun _ => by rw [ByteArray.size_append, z1]; omega, hr', HA2, HU, HS, (hb.trans (hb1.mono hb.size)).trans (hb2.mono (Nat.le_trans hb.size hb1.size))⟩
        case measure => simp [intOf]; omega
end Go.Proofs.YtccmcgckechhgaaDoor
