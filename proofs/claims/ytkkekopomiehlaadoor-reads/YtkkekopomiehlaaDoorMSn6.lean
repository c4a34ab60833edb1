import Derived.Test.YtkkekopomiehlaaDoorSn5
import Derived.Test.YtkkekopomiehlaaDoorEq3
import Derived.Test.YtkkekopomiehlaaDoorProg0
import Derived.Test.YtkkekopomiehlaaDoorRef8
set_option linter.unusedVariables false
set_option linter.unusedSimpArgs false
namespace Go.Proofs.YtkkekopomiehlaaDoor
section
set_option maxRecDepth 4000
open Go.RowKit

theorem wt_inn {m : Nat} {r : Ty} {k : Nat} (h : r.kind = k) (hk : r.inner ≠ []) : wt m r.in + 70 ≤ wt (m + 1) r := by
  unfold Ty.in
  rcases hi : r.inner with _ | ⟨t, ts⟩
  · exact absurd hi hk
  · rw [wt, hi]; simp; omega
theorem wt_le {m : Nat} {r : Ty} (h : r.inner ≠ [] ∨ wt m r.in ≤ wt (m + 1) r) : wt m r.in ≤ wt (m + 1) r := by
  rcases h with h | h
  · have := wt_inn (m := m) (r := r) rfl h; omega
  · exact h
/-- A type that bears another has it. -/
theorem inner_ne {s : ByteArray} {n i k : Nat} {ty : Ty} (h : pType true s n i = some (ty, k)) (hk : ty.kind = 91 ∨ ty.kind = 63) : ty.inner ≠ [] := by
  intro hi
  obtain ⟨_, n', _, _, h2, _⟩ := type_parts h
  obtain ⟨k', hk'⟩ := h2 hk
  have : ty.in = plainTy 0 := by unfold Ty.in; rw [hi]; rfl
  rw [this] at hk'
  have := (type_parts hk').2
  obtain ⟨_, _, _, _, _, _, h7⟩ := this
  have h0 : (plainTy 0).kind = 0 := rfl
  omega
theorem fields_ne {s : ByteArray} {n i k : Nat} {ty : Ty} (h : pType true s n i = some (ty, k)) (hk : ty.kind = 123) : ty.fields ≠ [] ∧ ty.fields.length ≤ s.size := by
  obtain ⟨_, n', _, _, _, _, h2, _⟩ := type_parts h
  obtain ⟨k', hk'⟩ := h2 hk
  have hpf : ∀ a f k, pField (pType true s n') (enc true s n') s a = some (f, k) → a < k ∧ k ≤ s.size := fun a f k hf => by
    unfold pField at hf
    split at hf
    · split at hf
      · cases hf
      · rename_i t k' ht
        have h2 := pType_bd true s _ _ _ _ ht
        split at hf
        · split at hf
          · cases hf
          · rename_i d m' he
            cases hf
            have h3 := enc_bd he
            exact ⟨by omega, by omega⟩
        · cases hf
          exact ⟨by omega, by omega⟩
    · cases hf
  have hl := pFlds_len hpf (Nat.zero_le _) hk'
  have hb := pFlds_bd hpf hk'
  refine ⟨fun hf => ?_, by omega⟩
  rw [hf] at hl; simp at hl
theorem int_beq {a b : Nat} (h : a ≠ b) : ((a : Int) == (b : Int)) = false := by simp; omega

theorem seen_step {m : Nat} {s t d : ByteArray} (IH : ∀ m' ≤ m, SeenOK m' s t d) (hs : s.size ≤ 99) (ht : t.size ≤ 99) (hd : d.size ≤ 64) : SeenOK (m + 1) s t d := by
  intro nw nr i k j x y kx ky v w hm hnw hnr hpx hix hpy hky hv hat hwt
  have IM := IH m (Nat.le_refl _)
  obtain ⟨hbx, nw, rfl, x60, xin, xne, x123, xk⟩ := type_parts hpx
  obtain ⟨hby, nr, rfl, y60, yin, yne, y123, yk⟩ := type_parts hpy
  have hi : i < s.size := by have := pType_bd true s _ _ _ _ hpx; omega
  have hk : k < t.size := by have := pType_bd true t _ _ _ _ hpy; omega
  have hpos := datV_pos _ _ _ hv
  have hj : j < d.size := by have := hat.le; omega
  have hA : s[i].toNat = x.kind := by have := bAt_in s i hi; omega
  have hB : t[k].toNat = y.kind := by have := bAt_in t k hk; omega
  have hCb := bAt_in d j hj
  have _hs : s.size ≤ 9000000 := by omega
  have _ht : t.size ≤ 9000000 := by omega
  have _hd : d.size ≤ 9000000 := by omega
  have hwm : wt m y ≤ 20000 := Nat.le_trans (wt_mono m y) hwt
  show Calls _ _ _ _ (fun e w' => SRet (rdStep (rdT m) x y v) e ∧ Below w.heap.size w w')
  have conv : ∀ {o : Option ByteArray} {f : FuncId} {args : Array Value} {w : World}, (Calls Tryd.prog f args w fun e w' => SRet o e ∧ Below w.heap.size w w') → Calls Tryd.prog f args w fun e w' => SR o.isSome (fun z => ∀ t, o = some t → z = t) e ∧ Below w.heap.size w w' := fun h => h.mono (fun e w' h => ⟨SR_of h.1, h.2⟩)
  have conv2 : ∀ {o : Option ByteArray} {f : FuncId} {args : Array Value} {w : World}, (Calls Tryd.prog f args w fun e w' => e = .returned (sRet o) ∧ Below w.heap.size w w') → Calls Tryd.prog f args w fun e w' => SR o.isSome (fun z => ∀ t, o = some t → z = t) e ∧ Below w.heap.size w w' := fun {o} {f} {args} {w} h => conv (h.mono (fun e w' h => ⟨by rw [h.1]; cases o with | none => exact ⟨_, rfl⟩ | some t => exact rfl, h.2⟩))
  have back : ∀ {o : Option ByteArray}, (Calls Tryd.prog 29 #[.string s, .int .i64 i, .string t, .int .i64 k, .string d, .int .i64 j] w fun e w' => SR o.isSome (fun z => ∀ t, o = some t → z = t) e ∧ Below w.heap.size w w') → Calls Tryd.prog 29 #[.string s, .int .i64 i, .string t, .int .i64 k, .string d, .int .i64 j] w fun e w' => SRet o e ∧ Below w.heap.size w w' := fun h => h.mono (fun e w' h => ⟨SR_to h.1, h.2⟩)
  by_cases h63 : x.kind = 63
  · obtain ⟨kx', hpx'⟩ := xin (.inr h63)
    rcases hv with ⟨z, rfl, hv⟩ | ⟨z, rfl, hv⟩ | ⟨z, rfl, hv⟩ | ⟨vs, rfl, hv⟩ | ⟨rfl, hv⟩ | ⟨u, rfl, hv⟩ | ⟨vs, rfl, hv⟩
    · omega
    · omega
    · omega
    · omega
    · rw [datV_non, At.one (by omega)] at hat
      have := seen_non (s := s) (t := t) (d := d) i k j hi hk hj _hs _ht _hd w (by omega) (by omega)
      rw [show rdStep (rdT m) x y .non = if y.kind = 63 then some ⟨#[95]⟩ else none by unfold rdStep; rw [if_pos h63]; rfl]
      refine this.mono (fun e w' h => ⟨?_, h.2⟩)
      obtain ⟨z, h1, rfl⟩ := h.1
      rw [hB] at h1
      by_cases hy : y.kind = 63
      · rw [if_pos hy]; rw [hy] at h1; exact h1
      · rw [if_neg hy]; rw [show ((y.kind : Int) == 63) = false from int_beq hy] at h1; exact ⟨_, h1⟩
    · rw [datV_som, At.app, At.one (by omega), oneB_size] at hat
      have hC : ((d[j].toNat : Int) == 0) = false := by simp; omega
      rw [show rdStep (rdT m) x y (.som u) = rdT m x.in y u by unfold rdStep; rw [if_pos h63]; rfl]
      by_cases hy : y.kind = 63
      · obtain ⟨ky', hpy'⟩ := yin (.inr hy)
        cases m with
        | zero => omega
        | succ m =>
          rw [show rdT (m + 1) x.in y u = rdT m x.in y.in u by show rdStep _ _ _ _ = _; unfold rdStep; rw [if_neg (xne h63), if_pos hy]]
          have hwi := wt_inn (m := m) (r := y) rfl (inner_ne hpy (.inr hy))
          refine back (seen_both i k j hi hk hj _hs _ht _hd w (by omega) (by omega) hC _ _ (fun w => ?_))
          exact conv (IH m (by omega) nw nr (i + 1) (k + 1) (j + 1) x.in y.in kx' ky' u w (by omega) (by omega) (by omega) hpx' (by omega) hpy' (by omega) hv.2 hat.2 (by have := wt_mono (m + 1) y; omega))
      · refine back (seen_some i k j hi hk hj _hs _ht _hd w (by omega) (by rw [hB]; exact int_beq hy) hC _ _ (fun w => ?_))
        exact conv (IM nw (nr + 1) (i + 1) k (j + 1) x.in y kx' ky u w (by omega) (by omega) hnr hpx' (by omega) hpy hky hv.2 hat.2 hwm)
    · omega
  · have hA63 : ((s[i].toNat : Int) == 63) = false := by rw [hA]; exact int_beq h63
    by_cases hy : y.kind = 63
    · obtain ⟨ky', hpy'⟩ := yin (.inr hy)
      have hwi := wt_inn (m := m) (r := y) rfl (inner_ne hpy (.inr hy))
      rw [show rdStep (rdT m) x y v = rdT m x y.in v by unfold rdStep; rw [if_neg h63, if_pos hy]]
      refine back (seen_rdr i k j hi hk hj _hs _ht _hd w hA63 (by omega) _ _ (fun w => ?_))
      exact conv (IM (nw + 1) nr i (k + 1) j x y.in kx ky' v w (by omega) hnw (by omega) hpx hix hpy' (by omega) hv hat (by omega))
    · have hB63 : ((t[k].toNat : Int) == 63) = false := by rw [hB]; exact int_beq hy
      cases hsame : sameK x.kind y.kind with
      | true =>
        rw [show rdStep (rdT m) x y v = some (leafT v) by unfold rdStep; rw [if_neg h63, if_neg hy, if_pos hsame]]
        have hk3 : x.kind = 105 ∨ x.kind = 108 ∨ x.kind = 115 := by simp [sameK] at hsame; omega
        have htx : txtV (nw + 1) x v = leafT v := by
          rcases hv with ⟨z, rfl, hv⟩ | ⟨z, rfl, hv⟩ | ⟨z, rfl, hv⟩ | ⟨vs, rfl, hv⟩ | ⟨rfl, hv⟩ | ⟨u, rfl, hv⟩ | ⟨vs, rfl, hv⟩
          · rfl
          · rfl
          · omega
          · omega
          · omega
          · omega
          · omega
        have hdx := dec_mk (nw + 1) x v j hv hat
        rw [htx] at hdx
        have htell := fun w => (tell_all (s := s) (t := d) (by omega) (by omega) (nw + 1) hnw).yes w hpx hix (by omega) hdx
        have fin : ∀ {e : Ending}, SR true (fun z => z = leafT v) e → SRet (some (leafT v)) e := fun h => by obtain ⟨z, h1, rfl⟩ := h; exact h1
        have hcs : (x.kind = 105 ∧ y.kind = 108) ∨ (x.kind = 105 ∧ y.kind = 105) ∨ (x.kind = 108 ∧ y.kind = 108) ∨ (x.kind = 115 ∧ y.kind = 115) := by simp [sameK] at hsame; omega
        rcases hcs with ⟨h1, h2⟩ | ⟨h1, h2⟩ | ⟨h1, h2⟩ | ⟨h1, h2⟩
        · exact (seen_same105108 i k j hi hk hj _hs _ht _hd w (by omega) (by omega) _ _ htell).mono (fun e w' h => ⟨fin h.1, h.2⟩)
        · exact (seen_same105105 i k j hi hk hj _hs _ht _hd w (by omega) (by omega) _ _ htell).mono (fun e w' h => ⟨fin h.1, h.2⟩)
        · exact (seen_same108108 i k j hi hk hj _hs _ht _hd w (by omega) (by omega) _ _ htell).mono (fun e w' h => ⟨fin h.1, h.2⟩)
        · exact (seen_same115115 i k j hi hk hj _hs _ht _hd w (by omega) (by omega) _ _ htell).mono (fun e w' h => ⟨fin h.1, h.2⟩)
      | false =>
        by_cases hkk : x.kind = y.kind
        · have hstep : rdStep (rdT m) x y v = if v.tag = 2 then rdCho x.letters y.letters y.op v.n.toNat else if v.tag = 3 then rdItems (rdT m x.in y.in) v.vs 0 ⟨#[91]⟩ else if v.tag = 6 then rdFlds (rdFld (rdT m) (x.fields.zip v.vs)) y.fields ⟨#[123]⟩ ByteArray.empty else none := by
            unfold rdStep; rw [if_neg h63, if_neg hy, if_neg (by rw [hsame]; simp), if_neg (by simp [hkk])]
          rcases hv with ⟨z, rfl, hv⟩ | ⟨z, rfl, hv⟩ | ⟨q, rfl, hv⟩ | ⟨vs, rfl, hv⟩ | ⟨rfl, hv⟩ | ⟨u, rfl, hv⟩ | ⟨vs, rfl, hv⟩
          · exfalso; simp [sameK] at hsame; omega
          · exfalso; simp [sameK] at hsame; omega
          · rw [show rdStep (rdT m) x y (.cho q) = rdCho x.letters y.letters y.op q from hstep]
            rw [datV_cho, At.one hv.2.2] at hat
            obtain ⟨l1, l2, l3, l4, l5⟩ := rChoice_op (by omega) (x60 hv.1)
            have hC : d[j].toNat = q := by omega
            have hlq : bAt x.letters q = (x.letters[d[j].toNat]'(by omega)).toNat := by rw [bAt_in x.letters q hv.2.1]; simp only [hC]
            refine back (seen_cho i k j hi hk hj _hs _ht _hd w (by omega) (by omega) x.letters l4 (by omega) _ _ (fun w => by rw [l1]; exact flipW (letters_any s i w _hs hi)) (fun w => ?_))
            have hcc := seenChoice_any (s := t) (i := k) (by omega) hk (y60 (by omega)) (x.letters[d[j].toNat]'(by omega)).toNat ((x.letters[d[j].toNat]'(by omega)).toNat_lt) w
            have := conv2 hcc
            unfold rdCho
            rw [hlq]
            exact this
          · obtain ⟨kx', hpx'⟩ := xin (.inl hv.1)
            obtain ⟨ky', hpy'⟩ := yin (.inl (by omega))
            have hwi := wt_inn (m := m) (r := y) rfl (inner_ne hpy (.inl (by omega)))
            rw [show rdStep (rdT m) x y (.lst vs) = rdItems (rdT m x.in y.in) vs 0 ⟨#[91]⟩ from hstep]
            rw [datV_lst] at hat
            refine back (seen_lst i k j hi hk hj _hs _ht _hd w (by omega) (by omega) _ _ (fun w => ?_))
            exact conv2 (seenList_any IM (by omega) (by omega) hd nw nr (i + 1) (k + 1) j x.in y.in kx' ky' vs w (by omega) (by omega) (by omega) hpx' (by omega) hpy' (by omega) hv.2.1 hv.2.2 hat (by omega))
          · omega
          · omega
          · obtain ⟨kx', hpx'⟩ := x123 hv.1
            obtain ⟨ky', hpy'⟩ := y123 (by omega)
            have hfx := fields_ne hpx hv.1
            have hfy := fields_ne hpy (by omega)
            have IFx := fieldsOK (ref_all (s := s) (by omega) nw (by omega)).1 ((ref_all (s := s) (by omega) nw (by omega)).2 s (by omega)) (by omega) (show nw ≤ 100 by omega)
            have IFy := fieldsOK (ref_all (s := t) (by omega) nr (by omega)).1 ((ref_all (s := t) (by omega) nr (by omega)).2 t (by omega)) (by omega) (show nr ≤ 100 by omega)
            rw [show rdStep (rdT m) x y (.rcd vs) = rdFlds (rdFld (rdT m) (x.fields.zip vs)) y.fields ⟨#[123]⟩ ByteArray.empty from hstep]
            rw [datV_rcd] at hat
            refine back (seen_rcd i k j hi hk hj _hs _ht _hd w (by omega) (by omega) _ _ (fun w => ?_))
            refine conv2 (seenRecord_any (k0 := kx') (k1 := ky') IM (by omega) (by omega) hd nw nr i k j (by omega) (by omega) (by omega) (by omega) (by omega) hfx.1 hfy.1 (fun w => ?_) (fun w => ?_) vs hv.2.2.1 hv.2.2.2 hat (by rw [wt] at hwt; omega) w)
            · have := IFx i w hi (by omega); rw [hpx'] at this; exact this
            · have := IFy k w hk (by omega); rw [hpy'] at this; exact this
        · rw [show rdStep (rdT m) x y v = none by unfold rdStep; rw [if_neg h63, if_neg hy, if_neg (by rw [hsame]; simp), if_pos hkk]]
          have fin : ∀ {e : Ending}, SR false (fun _ => True) e → SRet none e := fun h => by obtain ⟨z, h1, _⟩ := h; exact ⟨z, h1⟩
          by_cases h105 : x.kind = 105
          · have hy108 : y.kind ≠ 108 := fun h => by rw [h105, h] at hsame; cases hsame
            exact (seen_no1 i k j hi hk hj _hs _ht _hd w (by omega) hB63 (by rw [hB]; exact int_beq hy108) (by rw [hB]; simp; omega) (by rw [hB]; simp; omega)).mono (fun e w' h => ⟨fin h.1, h.2⟩)
          · exact (seen_no2 i k j hi hk hj _hs _ht _hd w hA63 hB63 (by rw [hA]; exact int_beq h105) (by rw [hA, hB]; exact int_beq hkk) (by rw [hA, hB]; simp; omega)).mono (fun e w' h => ⟨fin h.1, h.2⟩)
theorem seen_le {s t d : ByteArray} (hs : s.size ≤ 99) (ht : t.size ≤ 99) (hd : d.size ≤ 64) : ∀ m, ∀ m' ≤ m, SeenOK m' s t d
  | 0, m', h => by
    intro nw nr i k j x y kx ky v w hm hnw hnr hpx
    obtain rfl : nw = 0 := by omega
    simp [pType] at hpx
  | m + 1, m', h => by
    by_cases he : m' = m + 1
    · subst he; exact seen_step (seen_le hs ht hd m) hs ht hd
    · exact seen_le hs ht hd m m' (by omega)
theorem seen_all {s t d : ByteArray} (hs : s.size ≤ 99) (ht : t.size ≤ 99) (hd : d.size ≤ 64) (m : Nat) : SeenOK m s t d := seen_le hs ht hd m m (Nat.le_refl _)
end
section
/-- 'g' gives what 'f' gives, but where a '-' stands behind. -/
def Rel (t : ByteArray) (f g : Nat → Option (ByteArray × Nat)) : Prop := (∀ j d k, g j = some (d, k) → f j = some (d, k)) ∧ (∀ j d k, f j = some (d, k) → bAt t k ≠ 45 → g j = some (d, k))
theorem Rel.refl (t : ByteArray) (f : Nat → Option (ByteArray × Nat)) : Rel t f f := ⟨fun _ _ _ h => h, fun _ _ _ h _ => h⟩
theorem Rel.none {t : ByteArray} {f g : Nat → Option (ByteArray × Nat)} (h : Rel t f g) {j : Nat} (hf : f j = none) : g j = none := by
  rcases hg : g j with _ | ⟨d, k⟩
  · rfl
  · rw [h.1 _ _ _ hg] at hf; cases hf
theorem encNum_rel (lo hi : Int) (t : ByteArray) : Rel t (encNum false lo hi t) (encNum true lo hi t) := by
  constructor
  · intro j d k h
    unfold encNum at h ⊢
    split at h
    · cases h
    · split at h
      · cases h
      · rename_i hr
        split at h
        · cases h
        · simp only [if_neg hr]; simpa using h
  · intro j d k h hk
    unfold encNum at h ⊢
    split at h
    · cases h
    · split at h
      · cases h
      · rename_i hr
        simp only [if_neg hr]
        simp at h
        rw [if_neg (by rw [h.2]; exact fun x => hk x.2)]
        simp [h]
theorem encItems_rel {t : ByteArray} {f g : Nat → Option (ByteArray × Nat)} (h : Rel t f g) : ∀ (m c b : Nat) (d : ByteArray), encItems g t m c b d = encItems f t m c b d
  | 0, c, b, d => rfl
  | m + 1, c, b, d => by
    rw [encItems, encItems]
    rcases hf : f (b + 1) with _ | ⟨x, k⟩
    · rw [h.none hf]
    · by_cases h45 : bAt t k = 45
      · simp only [if_neg (show ¬ bAt t k = 93 by omega), if_neg (show ¬ bAt t k = 44 by omega)]
        rcases hg : g (b + 1) with _ | ⟨x', k'⟩
        · rfl
        · have := h.1 _ _ _ hg
          rw [hf] at this
          simp only [Option.some.injEq, Prod.mk.injEq] at this
          obtain ⟨rfl, rfl⟩ := this
          simp only [if_neg (show ¬ bAt t k = 93 by omega), if_neg (show ¬ bAt t k = 44 by omega)]
      · rw [h.2 _ _ _ hf h45]
        simp only
        rw [encItems_rel h m (c + 1) k (d ++ x)]
theorem encFlds_minus {t : ByteArray} {f : Ty → Nat → Option (ByteArray × Nat)} {fs : List (Nat × Ty × ByteArray)} {b : Nat} {d : ByteArray} (h : bAt t b = 45) : encFlds f t fs 44 b d = none := by
  cases fs with
  | nil => rw [encFlds, if_neg (by omega)]
  | cons g fs => rw [encFlds, if_neg (by omega)]
theorem encFlds_rel {t : ByteArray} {f g : Ty → Nat → Option (ByteArray × Nat)} (h : ∀ ty, Rel t (f ty) (g ty)) : ∀ (fs : List (Nat × Ty × ByteArray)) (mk : Int) (b : Nat) (d : ByteArray), encFlds g t fs mk b d = encFlds f t fs mk b d
  | [], mk, b, d => by rw [encFlds, encFlds]
  | x :: fs, mk, b, d => by
    rw [encFlds, encFlds]
    split
    · rcases hf : f x.2.1 (b + 3) with _ | ⟨y, k⟩
      · rw [(h _).none hf]
      · by_cases h45 : bAt t k = 45
        · simp only
          rw [encFlds_minus h45]
          rcases hg : g x.2.1 (b + 3) with _ | ⟨y', k'⟩
          · rfl
          · have := (h _).1 _ _ _ hg
            rw [hf] at this
            simp only [Option.some.injEq, Prod.mk.injEq] at this
            obtain ⟨rfl, rfl⟩ := this
            simp only
            exact encFlds_minus h45
        · rw [(h _).2 _ _ _ hf h45]
          simp only
          exact encFlds_rel h fs 44 k (d ++ y)
    · rfl
theorem encMaybe_rel {t : ByteArray} {f g : Nat → Option (ByteArray × Nat)} (h : Rel t f g) : Rel t (encMaybe f t) (encMaybe g t) := by
  constructor
  · intro j d k hj
    unfold encMaybe at hj ⊢
    split at hj
    · rename_i hc; rw [if_pos hc]; exact hj
    · rename_i hc; rw [if_neg hc]
      rcases hg : g j with _ | ⟨x, k'⟩
      · rw [hg] at hj; cases hj
      · rw [hg] at hj; rw [h.1 _ _ _ hg]; exact hj
  · intro j d k hj hk
    unfold encMaybe at hj ⊢
    split at hj
    · rename_i hc; rw [if_pos hc]; exact hj
    · rename_i hc; rw [if_neg hc]
      rcases hf : f j with _ | ⟨x, k'⟩
      · rw [hf] at hj; cases hj
      · rw [hf] at hj
        simp only [Option.some.injEq, Prod.mk.injEq] at hj
        rw [h.2 _ _ _ hf (by rw [hj.2]; exact hk)]
        simp [hj]
theorem enc_rel (t : ByteArray) : ∀ (n : Nat) (ty : Ty), Rel t (enc false t n ty) (enc true t n ty)
  | 0, ty => ⟨fun j d k h => by simp [enc] at h, fun j d k h => by simp [enc] at h⟩
  | n + 1, ty => by
    have ih := enc_rel t n
    have eF : ∀ j, enc false t (n + 1) ty j = _ := fun j => by rw [enc]
    have eT : ∀ j, enc true t (n + 1) ty j = _ := fun j => by rw [enc]
    have key : ∀ (a b : Nat → Option (ByteArray × Nat)), (∀ j, enc false t (n + 1) ty j = a j) → (∀ j, enc true t (n + 1) ty j = b j) → Rel t a b → Rel t (enc false t (n + 1) ty) (enc true t (n + 1) ty) := fun a b ha hb h =>
      ⟨fun j d k hj => by rw [ha]; rw [hb] at hj; exact h.1 j d k hj, fun j d k hj hk => by rw [hb]; rw [ha] at hj; exact h.2 j d k hj hk⟩
    by_cases h1 : ty.kind = 105
    · exact key _ _ (fun j => by rw [enc, if_pos h1]) (fun j => by rw [enc, if_pos h1]) (encNum_rel _ _ t)
    by_cases h2 : ty.kind = 108
    · exact key _ _ (fun j => by rw [enc, if_neg h1, if_pos h2]) (fun j => by rw [enc, if_neg h1, if_pos h2]) (encNum_rel _ _ t)
    by_cases h3 : ty.kind = 115
    · exact key _ _ (fun j => by rw [enc, if_neg h1, if_neg h2, if_pos h3]) (fun j => by rw [enc, if_neg h1, if_neg h2, if_pos h3]) (Rel.refl t _)
    by_cases h4 : ty.kind = 60
    · exact key (encCho ty.letters t) (encCho ty.letters t) (fun j => by rw [enc, if_neg h1, if_neg h2, if_neg h3, if_pos h4]; rfl) (fun j => by rw [enc, if_neg h1, if_neg h2, if_neg h3, if_pos h4]; rfl) (Rel.refl t _)
    by_cases h5 : ty.kind = 91
    · refine key (encList (enc false t n ty.in) t) (encList (enc false t n ty.in) t) (fun j => by rw [enc, if_neg h1, if_neg h2, if_neg h3, if_neg h4, if_pos h5]) (fun j => ?_) (Rel.refl t _)
      rw [enc, if_neg h1, if_neg h2, if_neg h3, if_neg h4, if_pos h5]
      unfold encList
      rw [encItems_rel (ih ty.in)]
    by_cases h6 : ty.kind = 63
    · exact key _ _ (fun j => by rw [enc, if_neg h1, if_neg h2, if_neg h3, if_neg h4, if_neg h5, if_pos h6]) (fun j => by rw [enc, if_neg h1, if_neg h2, if_neg h3, if_neg h4, if_neg h5, if_pos h6]) (encMaybe_rel (ih ty.in))
    by_cases h7 : ty.kind = 123
    · exact key (fun j => encFlds (enc false t n) t ty.fields 123 j ByteArray.empty) (fun j => encFlds (enc false t n) t ty.fields 123 j ByteArray.empty) (fun j => by rw [enc, if_neg h1, if_neg h2, if_neg h3, if_neg h4, if_neg h5, if_neg h6, if_pos h7]) (fun j => by
        rw [enc, if_neg h1, if_neg h2, if_neg h3, if_neg h4, if_neg h5, if_neg h6, if_pos h7, encFlds_rel ih]) (Rel.refl t _)
    · exact key (fun _ => none) (fun _ => none) (fun j => by rw [enc, if_neg h1, if_neg h2, if_neg h3, if_neg h4, if_neg h5, if_neg h6, if_neg h7]) (fun j => by rw [enc, if_neg h1, if_neg h2, if_neg h3, if_neg h4, if_neg h5, if_neg h6, if_neg h7]) (Rel.refl t _)
theorem pField_rel {pt : Nat → Option (Ty × Nat)} {ef eg : Ty → Nat → Option (ByteArray × Nat)} {s : ByteArray} (h : ∀ ty, Rel s (ef ty) (eg ty)) :
    (∀ a f k, pField pt eg s a = some (f, k) → pField pt ef s a = some (f, k)) ∧ (∀ a f k, pField pt ef s a = some (f, k) → bAt s k ≠ 45 → pField pt eg s a = some (f, k)) := by
  constructor
  · intro a f k hx
    unfold pField at hx ⊢
    split at hx
    · rename_i hc; rw [if_pos hc]
      rcases hp : pt (a + 2) with _ | ⟨ty, k'⟩
      · rw [hp] at hx; cases hx
      · rw [hp] at hx
        simp only at hx ⊢
        split at hx
        · rename_i h6; rw [if_pos h6]
          rcases hy : eg ty (k' + 1) with _ | ⟨d, m⟩
          · rw [hy] at hx; cases hx
          · rw [hy] at hx; rw [(h ty).1 _ _ _ hy]; exact hx
        · rename_i h6; rw [if_neg h6]; exact hx
    · cases hx
  · intro a f k hx hk
    unfold pField at hx ⊢
    split at hx
    · rename_i hc; rw [if_pos hc]
      rcases hp : pt (a + 2) with _ | ⟨ty, k'⟩
      · rw [hp] at hx; cases hx
      · rw [hp] at hx
        simp only at hx ⊢
        split at hx
        · rename_i h6; rw [if_pos h6]
          rcases hy : ef ty (k' + 1) with _ | ⟨d, m⟩
          · rw [hy] at hx; cases hx
          · rw [hy] at hx
            have hx2 := hx
            simp only [Option.some.injEq, Prod.mk.injEq] at hx2
            rw [(h ty).2 _ _ _ hy (by rw [hx2.2]; exact hk)]; exact hx
        · rename_i h6; rw [if_neg h6]; exact hx
    · cases hx
theorem pFlds_rel {pf pg : Nat → Option ((Nat × Ty × ByteArray) × Nat)} {s : ByteArray} (h1 : ∀ a f k, pg a = some (f, k) → pf a = some (f, k)) (h2 : ∀ a f k, pf a = some (f, k) → bAt s k ≠ 45 → pg a = some (f, k)) :
    ∀ (m a : Nat) (acc : List (Nat × Ty × ByteArray)), pFlds pg s m a acc = pFlds pf s m a acc
  | 0, a, acc => rfl
  | m + 1, a, acc => by
    rw [pFlds, pFlds]
    rcases hf : pf a with _ | ⟨f, k⟩
    · rcases hg : pg a with _ | ⟨f', k'⟩
      · rfl
      · rw [h1 _ _ _ hg] at hf; cases hf
    · by_cases h45 : bAt s k = 45
      · simp only [if_neg (show ¬ bAt s k = 125 by omega), if_neg (show ¬ bAt s k = 44 by omega), ite_self]
        rcases hg : pg a with _ | ⟨f', k'⟩
        · rfl
        · have := h1 _ _ _ hg
          rw [hf] at this
          simp only [Option.some.injEq, Prod.mk.injEq] at this
          obtain ⟨rfl, rfl⟩ := this
          simp only [if_neg (show ¬ bAt s k = 125 by omega), if_neg (show ¬ bAt s k = 44 by omega), ite_self]
      · rw [h2 _ _ _ hf h45]
        simp only
        rw [pFlds_rel h1 h2 m (k + 1) (acc ++ [f])]
theorem pType_st (s : ByteArray) : ∀ (n i : Nat), pType true s n i = pType false s n i
  | 0, i => rfl
  | n + 1, i => by
    have ih : pType true s n = pType false s n := funext (pType_st s n)
    rw [pType, pType, ih]
    have hr := pField_rel (pt := pType false s n) (s := s) (fun ty => enc_rel s n ty)
    have e : ∀ a, pRec (pField (pType false s n) (enc true s n) s) s a = pRec (pField (pType false s n) (enc false s n) s) s a := fun a => by
      unfold pRec; rw [pFlds_rel hr.1 hr.2]
    rw [e]
theorem pAll_st (s : ByteArray) : pAll true s = pAll false s := by unfold pAll; rw [pType_st]
end
section
set_option maxRecDepth 4000
open Go.RowKit

set_option maxHeartbeats 1000000 in
theorem rCheck_any (s : ByteArray) (hm : s.size ≤ maxLen) (w : World) :
    Calls Tryd.prog 22 #[.string s] w fun e w' => e = .returned (.int .i64 (chk true s)) ∧ Below w.heap.size w w' := by
  by_cases hs : 60 < s.size
  · have hr : Hid (chk true s = 1) := by show _ = _; unfold chk; rw [if_pos hs]
    unfold maxLen at hm
    go_enter Tryd.func22, Tryd.ntmps22
    go_wp2_with fail
    go_ret
    exact ⟨ret_int hr.out.symm, Below.refl _ _⟩
  · have IE := (ref_all (s := s) (by omega) s.size (by omega)).1
    rcases hx : pType true s s.size 0 with _ | ⟨ty, k⟩
    · have hr : Hid (chk true s = 2) := by show _ = _; unfold chk pAll; rw [if_neg hs, hx]; rfl
      have hcall := fun w => IE.no w (by omega) (by omega) hx
      have hne : ((-1 : Int) != (s.size : Int)) = true := by rw [bne_iff_ne]; omega
      clear hx IE hm
      go_enter Tryd.func22, Tryd.ntmps22
      go_wp2_with (go_at_call 33; refine (hcall _).mono ?_; rintro e w1 ⟨rfl, hb1⟩)
      go_ret
      exact ⟨ret_int hr.out.symm, hb1⟩
    · have hk := pType_bd true s _ _ _ _ hx
      have hcall := fun w => IE.yes w (by omega) (by omega) hx
      by_cases he : k = s.size
      · have hr : Hid (chk true s = 0) := by show _ = _; unfold chk pAll; rw [if_neg hs, hx]; simp only [if_pos he]; rfl
        have hne : ((k : Int) != (s.size : Int)) = false := by simp; omega
        have h1 : ¬ (k : Int) < 1 := by omega
        clear hx IE hm he
        go_enter Tryd.func22, Tryd.ntmps22
        go_wp2_with (go_at_call 33; refine (hcall _).mono ?_; rintro e w1 ⟨rfl, hb1⟩)
        go_ret
        exact ⟨ret_int hr.out.symm, hb1⟩
      · have hr : Hid (chk true s = 2) := by show _ = _; unfold chk pAll; rw [if_neg hs, hx]; simp only [if_neg he]; rfl
        have hne : ((k : Int) != (s.size : Int)) = true := by simp; omega
        clear hx IE hm he
        go_enter Tryd.func22, Tryd.ntmps22
        go_wp2_with (go_at_call 33; refine (hcall _).mono ?_; rintro e w1 ⟨rfl, hb1⟩)
        go_ret
        exact ⟨ret_int hr.out.symm, hb1⟩
theorem chk_st (s : ByteArray) : chk true s = chk false s := by unfold chk; rw [pAll_st]
end
section
set_option maxRecDepth 4000
open Go.RowKit

/-- The error of two schemas. -/
def bothI (s t : ByteArray) : Int := if chk true s = 1 ∨ chk true t = 1 then 1 else if chk true s ≠ 0 ∨ chk true t ≠ 0 then 2 else 0
theorem chk_cs (s : ByteArray) : chk true s = 1 ∨ chk true s = 0 ∨ chk true s = 2 := by unfold chk; split; exact .inl rfl; split; exact .inr (.inl rfl); exact .inr (.inr rfl)

set_option maxHeartbeats 1000000 in
theorem both_any (s t : ByteArray) (hs : s.size ≤ maxLen) (ht : t.size ≤ maxLen) (w : World) :
    Calls Tryd.prog 28 #[.string s, .string t] w fun e w' => e = .returned (.int .i64 (bothI s t)) ∧ Below w.heap.size w w' := by
  have h1 := fun w => rCheck_any s hs w
  have h2 := fun w => rCheck_any t ht w
  have key : ∀ (a b r : Int), (∀ w, Calls Tryd.prog 22 #[.string s] w fun e w' => e = .returned (.int .i64 a) ∧ Below w.heap.size w w') → (∀ w, Calls Tryd.prog 22 #[.string t] w fun e w' => e = .returned (.int .i64 b) ∧ Below w.heap.size w w') → (a = 1 ∨ a = 0 ∨ a = 2) → (b = 1 ∨ b = 0 ∨ b = 2) → r = (if a = 1 ∨ b = 1 then 1 else if a ≠ 0 ∨ b ≠ 0 then 2 else 0) →
      Calls Tryd.prog 28 #[.string s, .string t] w fun e w' => e = .returned (.int .i64 r) ∧ Below w.heap.size w w' := by
    clear h1 h2 hs ht
    intro a b r h1 h2 ha hb hr
    rcases ha with rfl | rfl | rfl <;> rcases hb with rfl | rfl | rfl <;> (
      simp at hr
      subst hr
      go_enter Tryd.func28, Tryd.ntmps28
      go_wp2_with (first | (go_at_call 22; have hq := hb1; refine (h2 _).mono ?_; rintro e w2 ⟨rfl, hb2⟩) | (go_at_call 22; refine (h1 _).mono ?_; rintro e w1 ⟨rfl, hb1⟩))
      go_ret
      exact ⟨rfl, hb1.trans (hb2.mono hb1.size)⟩)
  exact key _ _ _ h1 h2 (chk_cs s) (chk_cs t) rfl
end
end Go.Proofs.YtkkekopomiehlaaDoor
