import Derived.Test.YtkkekopomiehlaaGreatMEq1
import Derived.Test.YtkkekopomiehlaaGreatProg0
import Derived.Test.YtkkekopomiehlaaGreatMRef6
import Derived.Test.YtkkekopomiehlaaGreatSn6
import Derived.Test.YtkkekopomiehlaaGreatMSn1
import Derived.Test.YtkkekopomiehlaaGreatMSm3
import Derived.Test.YtkkekopomiehlaaGreatMSf1
import Derived.Test.YtkkekopomiehlaaGreatMSf4
import Derived.Test.YtkkekopomiehlaaGreatMFl1
set_option linter.unusedVariables false
set_option linter.unusedSimpArgs false
namespace Go.Proofs.YtkkekopomiehlaaGreat
section
/-- 'g' gives what 'f' gives, but where a '-' stands behind. -/
def Rel (t : ByteArray) (f g : Nat → Option (ByteArray × Nat)) : Prop := (∀ j d k, g j = some (d, k) → f j = some (d, k)) ∧ (∀ j d k, f j = some (d, k) → bAt t k ≠ 45 → g j = some (d, k))
theorem Rel.refl (t : ByteArray) (f : Nat → Option (ByteArray × Nat)) : Rel t f f := ⟨fun _ _ _ h => h, fun _ _ _ h _ => h⟩
theorem Rel.none {t : ByteArray} {f g : Nat → Option (ByteArray × Nat)} (h : Rel t f g) {j : Nat} (hf : f j = none) : g j = none := by
  rcases hg : g j with _ | ⟨d, k⟩
  · rfl
  · rw [h.1 _ _ _ hg] at hf; cases hf
theorem encNum_rel (lo hi : Int) (t : ByteArray) : Rel t (encNum false lo hi t) (encNum true lo hi t) := by
  constructor
  · intro j d k h
    unfold encNum at h ⊢
    split at h
    · cases h
    · split at h
      · cases h
      · rename_i hr
        split at h
        · cases h
        · simp only [if_neg hr]; simpa using h
  · intro j d k h hk
    unfold encNum at h ⊢
    split at h
    · cases h
    · split at h
      · cases h
      · rename_i hr
        simp only [if_neg hr]
        simp at h
        rw [if_neg (by rw [h.2]; exact fun x => hk x.2)]
        simp [h]
theorem encItems_rel {t : ByteArray} {f g : Nat → Option (ByteArray × Nat)} (h : Rel t f g) : ∀ (m c b : Nat) (d : ByteArray), encItems g t m c b d = encItems f t m c b d
  | 0, c, b, d => rfl
  | m + 1, c, b, d => by
    rw [encItems, encItems]
    rcases hf : f (b + 1) with _ | ⟨x, k⟩
    · rw [h.none hf]
    · by_cases h45 : bAt t k = 45
      · simp only [if_neg (show ¬ bAt t k = 93 by omega), if_neg (show ¬ bAt t k = 44 by omega)]
        rcases hg : g (b + 1) with _ | ⟨x', k'⟩
        · rfl
        · have := h.1 _ _ _ hg
          rw [hf] at this
          simp only [Option.some.injEq, Prod.mk.injEq] at this
          obtain ⟨rfl, rfl⟩ := this
          simp only [if_neg (show ¬ bAt t k = 93 by omega), if_neg (show ¬ bAt t k = 44 by omega)]
      · rw [h.2 _ _ _ hf h45]
        simp only
        rw [encItems_rel h m (c + 1) k (d ++ x)]
theorem encFlds_minus {t : ByteArray} {f : Ty → Nat → Option (ByteArray × Nat)} {fs : List (Nat × Ty × ByteArray)} {b : Nat} {d : ByteArray} (h : bAt t b = 45) : encFlds f t fs 44 b d = none := by
  cases fs with
  | nil => rw [encFlds, if_neg (by omega)]
  | cons g fs => rw [encFlds, if_neg (by omega)]
theorem encFlds_rel {t : ByteArray} {f g : Ty → Nat → Option (ByteArray × Nat)} (h : ∀ ty, Rel t (f ty) (g ty)) : ∀ (fs : List (Nat × Ty × ByteArray)) (mk : Int) (b : Nat) (d : ByteArray), encFlds g t fs mk b d = encFlds f t fs mk b d
  | [], mk, b, d => by rw [encFlds, encFlds]
  | x :: fs, mk, b, d => by
    rw [encFlds, encFlds]
    split
    · rcases hf : f x.2.1 (b + 3) with _ | ⟨y, k⟩
      · rw [(h _).none hf]
      · by_cases h45 : bAt t k = 45
        · simp only
          rw [encFlds_minus h45]
          rcases hg : g x.2.1 (b + 3) with _ | ⟨y', k'⟩
          · rfl
          · have := (h _).1 _ _ _ hg
            rw [hf] at this
            simp only [Option.some.injEq, Prod.mk.injEq] at this
            obtain ⟨rfl, rfl⟩ := this
            simp only
            exact encFlds_minus h45
        · rw [(h _).2 _ _ _ hf h45]
          simp only
          exact encFlds_rel h fs 44 k (d ++ y)
    · rfl
theorem encMaybe_rel {t : ByteArray} {f g : Nat → Option (ByteArray × Nat)} (h : Rel t f g) : Rel t (encMaybe f t) (encMaybe g t) := by
  constructor
  · intro j d k hj
    unfold encMaybe at hj ⊢
    split at hj
    · rename_i hc; rw [if_pos hc]; exact hj
    · rename_i hc; rw [if_neg hc]
      rcases hg : g j with _ | ⟨x, k'⟩
      · rw [hg] at hj; cases hj
      · rw [hg] at hj; rw [h.1 _ _ _ hg]; exact hj
  · intro j d k hj hk
    unfold encMaybe at hj ⊢
    split at hj
    · rename_i hc; rw [if_pos hc]; exact hj
    · rename_i hc; rw [if_neg hc]
      rcases hf : f j with _ | ⟨x, k'⟩
      · rw [hf] at hj; cases hj
      · rw [hf] at hj
        simp only [Option.some.injEq, Prod.mk.injEq] at hj
        rw [h.2 _ _ _ hf (by rw [hj.2]; exact hk)]
        simp [hj]
theorem enc_rel (t : ByteArray) : ∀ (n : Nat) (ty : Ty), Rel t (enc false t n ty) (enc true t n ty)
  | 0, ty => ⟨fun j d k h => by simp [enc] at h, fun j d k h => by simp [enc] at h⟩
  | n + 1, ty => by
    have ih := enc_rel t n
    have eF : ∀ j, enc false t (n + 1) ty j = _ := fun j => by rw [enc]
    have eT : ∀ j, enc true t (n + 1) ty j = _ := fun j => by rw [enc]
    have key : ∀ (a b : Nat → Option (ByteArray × Nat)), (∀ j, enc false t (n + 1) ty j = a j) → (∀ j, enc true t (n + 1) ty j = b j) → Rel t a b → Rel t (enc false t (n + 1) ty) (enc true t (n + 1) ty) := fun a b ha hb h =>
      ⟨fun j d k hj => by rw [ha]; rw [hb] at hj; exact h.1 j d k hj, fun j d k hj hk => by rw [hb]; rw [ha] at hj; exact h.2 j d k hj hk⟩
    by_cases h1 : ty.kind = 105
    · exact key _ _ (fun j => by rw [enc, if_pos h1]) (fun j => by rw [enc, if_pos h1]) (encNum_rel _ _ t)
    by_cases h2 : ty.kind = 108
    · exact key _ _ (fun j => by rw [enc, if_neg h1, if_pos h2]) (fun j => by rw [enc, if_neg h1, if_pos h2]) (encNum_rel _ _ t)
    by_cases h3 : ty.kind = 115
    · exact key _ _ (fun j => by rw [enc, if_neg h1, if_neg h2, if_pos h3]) (fun j => by rw [enc, if_neg h1, if_neg h2, if_pos h3]) (Rel.refl t _)
    by_cases h4 : ty.kind = 60
    · exact key (encCho ty.letters t) (encCho ty.letters t) (fun j => by rw [enc, if_neg h1, if_neg h2, if_neg h3, if_pos h4]; rfl) (fun j => by rw [enc, if_neg h1, if_neg h2, if_neg h3, if_pos h4]; rfl) (Rel.refl t _)
    by_cases h5 : ty.kind = 91
    · refine key (encList (enc false t n ty.in) t) (encList (enc false t n ty.in) t) (fun j => by rw [enc, if_neg h1, if_neg h2, if_neg h3, if_neg h4, if_pos h5]) (fun j => ?_) (Rel.refl t _)
      rw [enc, if_neg h1, if_neg h2, if_neg h3, if_neg h4, if_pos h5]
      unfold encList
      rw [encItems_rel (ih ty.in)]
    by_cases h6 : ty.kind = 63
    · exact key _ _ (fun j => by rw [enc, if_neg h1, if_neg h2, if_neg h3, if_neg h4, if_neg h5, if_pos h6]) (fun j => by rw [enc, if_neg h1, if_neg h2, if_neg h3, if_neg h4, if_neg h5, if_pos h6]) (encMaybe_rel (ih ty.in))
    by_cases h7 : ty.kind = 123
    · exact key (fun j => encFlds (enc false t n) t ty.fields 123 j ByteArray.empty) (fun j => encFlds (enc false t n) t ty.fields 123 j ByteArray.empty) (fun j => by rw [enc, if_neg h1, if_neg h2, if_neg h3, if_neg h4, if_neg h5, if_neg h6, if_pos h7]) (fun j => by
        rw [enc, if_neg h1, if_neg h2, if_neg h3, if_neg h4, if_neg h5, if_neg h6, if_pos h7, encFlds_rel ih]) (Rel.refl t _)
    · exact key (fun _ => none) (fun _ => none) (fun j => by rw [enc, if_neg h1, if_neg h2, if_neg h3, if_neg h4, if_neg h5, if_neg h6, if_neg h7]) (fun j => by rw [enc, if_neg h1, if_neg h2, if_neg h3, if_neg h4, if_neg h5, if_neg h6, if_neg h7]) (Rel.refl t _)
theorem pField_rel {pt : Nat → Option (Ty × Nat)} {ef eg : Ty → Nat → Option (ByteArray × Nat)} {s : ByteArray} (h : ∀ ty, Rel s (ef ty) (eg ty)) :
    (∀ a f k, pField pt eg s a = some (f, k) → pField pt ef s a = some (f, k)) ∧ (∀ a f k, pField pt ef s a = some (f, k) → bAt s k ≠ 45 → pField pt eg s a = some (f, k)) := by
  constructor
  · intro a f k hx
    unfold pField at hx ⊢
    split at hx
    · rename_i hc; rw [if_pos hc]
      rcases hp : pt (a + 2) with _ | ⟨ty, k'⟩
      · rw [hp] at hx; cases hx
      · rw [hp] at hx
        simp only at hx ⊢
        split at hx
        · rename_i h6; rw [if_pos h6]
          rcases hy : eg ty (k' + 1) with _ | ⟨d, m⟩
          · rw [hy] at hx; cases hx
          · rw [hy] at hx; rw [(h ty).1 _ _ _ hy]; exact hx
        · rename_i h6; rw [if_neg h6]; exact hx
    · cases hx
  · intro a f k hx hk
    unfold pField at hx ⊢
    split at hx
    · rename_i hc; rw [if_pos hc]
      rcases hp : pt (a + 2) with _ | ⟨ty, k'⟩
      · rw [hp] at hx; cases hx
      · rw [hp] at hx
        simp only at hx ⊢
        split at hx
        · rename_i h6; rw [if_pos h6]
          rcases hy : ef ty (k' + 1) with _ | ⟨d, m⟩
          · rw [hy] at hx; cases hx
          · rw [hy] at hx
            have hx2 := hx
            simp only [Option.some.injEq, Prod.mk.injEq] at hx2
            rw [(h ty).2 _ _ _ hy (by rw [hx2.2]; exact hk)]; exact hx
        · rename_i h6; rw [if_neg h6]; exact hx
    · cases hx
theorem pFlds_rel {pf pg : Nat → Option ((Nat × Ty × ByteArray) × Nat)} {s : ByteArray} (h1 : ∀ a f k, pg a = some (f, k) → pf a = some (f, k)) (h2 : ∀ a f k, pf a = some (f, k) → bAt s k ≠ 45 → pg a = some (f, k)) :
    ∀ (m a : Nat) (acc : List (Nat × Ty × ByteArray)), pFlds pg s m a acc = pFlds pf s m a acc
  | 0, a, acc => rfl
  | m + 1, a, acc => by
    rw [pFlds, pFlds]
    rcases hf : pf a with _ | ⟨f, k⟩
    · rcases hg : pg a with _ | ⟨f', k'⟩
      · rfl
      · rw [h1 _ _ _ hg] at hf; cases hf
    · by_cases h45 : bAt s k = 45
      · simp only [if_neg (show ¬ bAt s k = 125 by omega), if_neg (show ¬ bAt s k = 44 by omega), ite_self]
        rcases hg : pg a with _ | ⟨f', k'⟩
        · rfl
        · have := h1 _ _ _ hg
          rw [hf] at this
          simp only [Option.some.injEq, Prod.mk.injEq] at this
          obtain ⟨rfl, rfl⟩ := this
          simp only [if_neg (show ¬ bAt s k = 125 by omega), if_neg (show ¬ bAt s k = 44 by omega), ite_self]
      · rw [h2 _ _ _ hf h45]
        simp only
        rw [pFlds_rel h1 h2 m (k + 1) (acc ++ [f])]
theorem pType_st (s : ByteArray) : ∀ (n i : Nat), pType true s n i = pType false s n i
  | 0, i => rfl
  | n + 1, i => by
    have ih : pType true s n = pType false s n := funext (pType_st s n)
    rw [pType, pType, ih]
    have hr := pField_rel (pt := pType false s n) (s := s) (fun ty => enc_rel s n ty)
    have e : ∀ a, pRec (pField (pType false s n) (enc true s n) s) s a = pRec (pField (pType false s n) (enc false s n) s) s a := fun a => by
      unfold pRec; rw [pFlds_rel hr.1 hr.2]
    rw [e]
theorem pAll_st (s : ByteArray) : pAll true s = pAll false s := by unfold pAll; rw [pType_st]
end
section
set_option maxRecDepth 4000
open Go.RowKit

set_option maxHeartbeats 1000000 in
theorem rCheck_any (s : ByteArray) (hm : s.size ≤ maxLen) (w : World) :
    Calls Tryz.prog 54 #[.string s] w fun e w' => e = .returned (.int .i64 (chk true s)) ∧ Below w.heap.size w w' := by
  by_cases hs : 60 < s.size
  · have hr : Hid (chk true s = 1) := by show _ = _; unfold chk; rw [if_pos hs]
    unfold maxLen at hm
    go_enter Tryz.func54, Tryz.ntmps54
    go_wp2_with fail
    go_ret
    exact ⟨ret_int hr.out.symm, Below.refl _ _⟩
  · have IE := (ref_all (s := s) (by omega) s.size (by omega)).1
    rcases hx : pType true s s.size 0 with _ | ⟨ty, k⟩
    · have hr : Hid (chk true s = 2) := by show _ = _; unfold chk pAll; rw [if_neg hs, hx]; rfl
      have hcall := fun w => IE.no w (by omega) (by omega) hx
      have hne : ((-1 : Int) != (s.size : Int)) = true := by rw [bne_iff_ne]; omega
      clear hx IE hm
      go_enter Tryz.func54, Tryz.ntmps54
      go_wp2_with (go_at_call 75; refine (hcall _).mono ?_; rintro e w1 ⟨rfl, hb1⟩)
      go_ret
      exact ⟨ret_int hr.out.symm, hb1⟩
    · have hk := pType_bd true s _ _ _ _ hx
      have hcall := fun w => IE.yes w (by omega) (by omega) hx
      by_cases he : k = s.size
      · have hr : Hid (chk true s = 0) := by show _ = _; unfold chk pAll; rw [if_neg hs, hx]; simp only [if_pos he]; rfl
        have hne : ((k : Int) != (s.size : Int)) = false := by simp; omega
        have h1 : ¬ (k : Int) < 1 := by omega
        clear hx IE hm he
        go_enter Tryz.func54, Tryz.ntmps54
        go_wp2_with (go_at_call 75; refine (hcall _).mono ?_; rintro e w1 ⟨rfl, hb1⟩)
        go_ret
        exact ⟨ret_int hr.out.symm, hb1⟩
      · have hr : Hid (chk true s = 2) := by show _ = _; unfold chk pAll; rw [if_neg hs, hx]; simp only [if_neg he]; rfl
        have hne : ((k : Int) != (s.size : Int)) = true := by simp; omega
        clear hx IE hm he
        go_enter Tryz.func54, Tryz.ntmps54
        go_wp2_with (go_at_call 75; refine (hcall _).mono ?_; rintro e w1 ⟨rfl, hb1⟩)
        go_ret
        exact ⟨ret_int hr.out.symm, hb1⟩
theorem chk_st (s : ByteArray) : chk true s = chk false s := by unfold chk; rw [pAll_st]
end
section
set_option maxRecDepth 4000
open Go.RowKit

/-- The error of two schemas. -/
def bothI (s t : ByteArray) : Int := if chk true s = 1 ∨ chk true t = 1 then 1 else if chk true s ≠ 0 ∨ chk true t ≠ 0 then 2 else 0
theorem chk_cs (s : ByteArray) : chk true s = 1 ∨ chk true s = 0 ∨ chk true s = 2 := by unfold chk; split; exact .inl rfl; split; exact .inr (.inl rfl); exact .inr (.inr rfl)

set_option maxHeartbeats 1000000 in
theorem both_any (s t : ByteArray) (hs : s.size ≤ maxLen) (ht : t.size ≤ maxLen) (w : World) :
    Calls Tryz.prog 77 #[.string s, .string t] w fun e w' => e = .returned (.int .i64 (bothI s t)) ∧ Below w.heap.size w w' := by
  have h1 := fun w => rCheck_any s hs w
  have h2 := fun w => rCheck_any t ht w
  have key : ∀ (a b r : Int), (∀ w, Calls Tryz.prog 54 #[.string s] w fun e w' => e = .returned (.int .i64 a) ∧ Below w.heap.size w w') → (∀ w, Calls Tryz.prog 54 #[.string t] w fun e w' => e = .returned (.int .i64 b) ∧ Below w.heap.size w w') → (a = 1 ∨ a = 0 ∨ a = 2) → (b = 1 ∨ b = 0 ∨ b = 2) → r = (if a = 1 ∨ b = 1 then 1 else if a ≠ 0 ∨ b ≠ 0 then 2 else 0) →
      Calls Tryz.prog 77 #[.string s, .string t] w fun e w' => e = .returned (.int .i64 r) ∧ Below w.heap.size w w' := by
    clear h1 h2 hs ht
    intro a b r h1 h2 ha hb hr
    rcases ha with rfl | rfl | rfl <;> rcases hb with rfl | rfl | rfl <;> (
      simp at hr
      subst hr
      go_enter Tryz.func77, Tryz.ntmps77
      go_wp2_with (first | (go_at_call 54; have hq := hb1; refine (h2 _).mono ?_; rintro e w2 ⟨rfl, hb2⟩) | (go_at_call 54; refine (h1 _).mono ?_; rintro e w1 ⟨rfl, hb1⟩))
      go_ret
      exact ⟨rfl, hb1.trans (hb2.mono hb1.size)⟩)
  exact key _ _ _ h1 h2 (chk_cs s) (chk_cs t) rfl
end
section
set_option maxRecDepth 4000
open Go.RowKit

/-- What a schema's type weighs. -/
theorem pFlds_wt {pf : Nat → Option ((Nat × Ty × ByteArray) × Nat)} {s : ByteArray} {N : Nat} (hp : ∀ i f k, pf i = some (f, k) → i < k ∧ k ≤ s.size ∧ wt N f.2.1 + f.2.2.size + 84 ≤ 80 * (k - i)) :
    ∀ (m a : Nat) (acc fs : List (Nat × Ty × ByteArray)) (k : Nat), pFlds pf s m a acc = some (fs, k) → a < k ∧ k ≤ s.size ∧ (fs.map fun f => wt N f.2.1 + f.2.2.size + 4).sum ≤ (acc.map fun f => wt N f.2.1 + f.2.2.size + 4).sum + 80 * (k - a)
  | 0, a, acc, fs, k, h => by simp [pFlds] at h
  | m + 1, a, acc, fs, k, h => by
    rw [pFlds] at h
    split at h
    · cases h
    · rename_i f k' hf
      have h1 := hp _ _ _ hf
      split at h
      · cases h
      · split at h
        · rename_i h125
          have := bAt_lt (s := s) (i := k') (by omega)
          simp only [Option.some.injEq, Prod.mk.injEq] at h
          obtain ⟨rfl, rfl⟩ := h
          rw [List.map_append, List.sum_append]
          simp
          omega
        · split at h
          · have := pFlds_wt hp m (k' + 1) (acc ++ [f]) fs k h
            rw [List.map_append, List.sum_append] at this
            simp at this ⊢
            omega
          · cases h
theorem pType_wt (st : Bool) (s : ByteArray) (N : Nat) : ∀ (n i : Nat) (ty : Ty) (k : Nat), pType st s n i = some (ty, k) → wt N ty ≤ 80 * (k - i) := by
  intro n
  induction n generalizing N with
  | zero => intro i ty k h; simp [pType] at h
  | succ n IH =>
    intro i ty k h
    have hbd := pType_bd st s _ _ _ _ h
    cases N with
    | zero => rw [wt]; omega
    | succ N =>
    have hpl : ∀ q : Nat, wt (N + 1) (plainTy q) ≤ 80 * (i + 1 - i) := fun q => by rw [wt]; simp [plainTy]
    rw [pType] at h
    split at h
    · cases h; exact hpl _
    · split at h
      · cases h; exact hpl _
      · split at h
        · cases h; exact hpl _
        · split at h
          · simp only [pChoice] at h
            split at h
            · cases h
            · split at h
              · split at h
                · cases h; rw [wt]; simp; omega
                · cases h
              · split at h
                · cases h; rw [wt]; simp; omega
                · cases h
          · split at h
            · unfold pList at h
              split at h
              · cases h
              · rename_i t k' ht
                split at h
                · cases h
                  have := IH N _ _ _ ht
                  have := pType_bd st s _ _ _ _ ht
                  rw [wt]; simp; omega
                · cases h
            · split at h
              · unfold pMaybe at h
                split at h
                · cases h
                · rename_i t k' ht
                  have := IH N _ _ _ ht
                  have := pType_bd st s _ _ _ _ ht
                  split at h
                  · cases h
                  · cases h; rw [wt]; simp; omega
              · split at h
                · unfold pRec at h
                  split at h
                  · cases h
                  · rename_i fs k' hfs
                    cases h
                    have := pFlds_wt (N := N) (fun i f k hf => by
                      unfold pField at hf
                      split at hf
                      · split at hf
                        · cases hf
                        · rename_i t k' ht
                          have h1 := IH N _ _ _ ht
                          have h2 := pType_bd st s _ _ _ _ ht
                          split at hf
                          · split at hf
                            · cases hf
                            · rename_i d m' he
                              cases hf
                              have h3 := enc_bd he
                              have h4 := size_extract s (k' + 1) k (by omega) (by omega)
                              refine ⟨by omega, by omega, ?_⟩
                              show wt N t + (s.extract (k' + 1) k).size + 84 ≤ _
                              omega
                          · cases hf
                            refine ⟨by omega, by omega, ?_⟩
                            show wt N t + 0 + 84 ≤ _
                            omega
                      · cases hf) _ _ _ _ _ hfs
                    rw [wt]; simp at this ⊢; omega
                · cases h
theorem pAll_wt {st : Bool} {s : ByteArray} {x : Ty} (h : pAll st s = some x) (hs : s.size ≤ 60) (N : Nat) : wt N x ≤ 20000 := by
  have := pType_wt st s N _ _ _ _ (pAll_sm h)
  omega
end
section
set_option maxRecDepth 4000
open Go.RowKit

set_option maxHeartbeats 1000000 in
theorem rFits_err (s t : ByteArray) (n : Int) (hn : (n != 0) = true) (hb : ∀ w, Calls Tryz.prog 77 #[.string s, .string t] w fun e w' => e = .returned (.int .i64 n) ∧ Below w.heap.size w w') (w : World) :
    Calls Tryz.prog 56 #[.string s, .string t] w fun e w' => e = .returned (.int .i64 n) ∧ Below w.heap.size w w' := by
  go_enter Tryz.func56, Tryz.ntmps56
  go_wp2_with (go_at_call 77; refine (hb _).mono ?_; rintro e w1 ⟨rfl, hb1⟩)
  go_ret
  exact ⟨rfl, hb1⟩
theorem all_snoc {bs : List Bool} {x : Nat} {c : Bool} (h : bs[x]? = some c) : (bs.take (x + 1)).all id = ((bs.take x).all id && c) := by
  rw [List.take_add_one, h, List.all_append]; simp
set_option maxHeartbeats 1000000 in
theorem rFits_loop (s t : ByteArray) (ds : List ByteArray) (hl : ds.length ≤ 20000) (hb : ∀ w, Calls Tryz.prog 77 #[.string s, .string t] w fun e w' => e = .returned (.int .i64 0) ∧ Below w.heap.size w w')
    (hsm : ∀ w, Calls Tryz.prog 78 #[.string s, .int .i64 0] w fun e w' => ∃ g cap, e = .returned (.slice (some ⟨g, 0, none⟩) ds.length cap) ∧ w'.ownsRow w.heap.size 9 1 (.slice (some ⟨g, 0, none⟩) ds.length cap) ds.length (ds.map .string) ∧ Below w.heap.size w w')
    (bs : List Bool) (hbl : bs.length = ds.length) (hsn : ∀ (x : Nat) (d : ByteArray) (c : Bool), ds[x]? = some d → bs[x]? = some c → ∀ w, Calls Tryz.prog 79 #[.string s, .int .i64 0, .string t, .int .i64 0, .string d, .int .i64 0] w fun e w' => ∃ z : ByteArray, e = .returned (.tuple #[.string z, .bool c]) ∧ Below w.heap.size w w') (w : World) :
    Calls Tryz.prog 56 #[.string s, .string t] w fun e w' => e = .returned (.int .i64 (if bs.all id = true then 0 else 7)) ∧ Below w.heap.size w w' := by
  obtain ⟨R, hR⟩ : ∃ R : Int, R = if bs.all id = true then 0 else 7 := ⟨_, rfl⟩
  rw [← hR]
  have HR : Hid (R = if bs.all id = true then 0 else 7) := hR
  clear hR
  go_enter Tryz.func56, Tryz.ntmps56
  go_wp2_with (first | (go_at_call 77; refine (hb _).mono ?_; rintro e w1 ⟨rfl, hb1⟩) | (go_at_call 78; refine (hsm _).mono ?_; rintro e w2 ⟨g, cap, rfl, hm, hb2⟩))
  go_loopw [7] (fun vn wr => ∃ x : Nat, x ≤ ds.length ∧ vn = .int .i64 x ∧ Hid ((bs.take x).all id = true) ∧ Below w2.heap.size w2 wr) (fun x _ => ds.length - (intOf x).toNat)
  case atStart => exact ⟨0, Nat.zero_le _, rfl, (by show _ = _; rfl), Below.refl _ _⟩
  case round =>
    obtain ⟨x, hx, rfl, hall, hbr⟩ := hrel
    by_cases hlt : x < ds.length
    · obtain ⟨d, hd⟩ : ∃ d, ds[x]? = some d := ⟨ds[x], List.getElem?_eq_getElem hlt⟩
      have hmem := List.mem_of_getElem? hd
      have k0 := cell_keep hbr (own_cell hm (i := x) (v := .string d) (by rw [List.getElem?_map, hd]; rfl))
      have hg' : g < wr.heap.size := lt_of_cell k0
      obtain ⟨c, hc⟩ : ∃ c, bs[x]? = some c := ⟨bs[x]'(by omega), List.getElem?_eq_getElem (by omega)⟩
      have hcall := hsn x d c hd hc
      have hsnc : Hid ((bs.take (x + 1)).all id = c) := by show _ = _; rw [all_snoc hc, hall.out]; rfl
      have hfalse : c = false → bs.all id ≠ true := fun h h2 => by rw [List.all_eq_true] at h2; have := h2 c (List.mem_of_getElem? hc); rw [h] at this; cases this
      clear hd hmem hc hsn
      cases c with
      | true =>
        clear hfalse
        go_wp2_with (go_at_call 79; refine (hcall _).mono ?_; rintro e w3 ⟨z, rfl, hb3⟩)
        go_roundw
        case rel => exact ⟨x + 1, by omega, by go_num, hsnc, hbr.trans (hb3.mono hbr.size)⟩
        case measure => simp [intOf]; omega
      | false =>
        have hR7 : R = 7 := by rw [HR.out, if_neg (hfalse rfl)]
        clear hfalse HR
        subst hR7
        go_wp2_with (go_at_call 79; refine (hcall _).mono ?_; rintro e w3 ⟨z, rfl, hb3⟩)
        go_ret
        exact ⟨rfl, thn2 (thn2 (thn2 hb1 hb2) hbr) hb3⟩
    · have hxe : x = ds.length := by omega
      have hR0 : R = 0 := by rw [HR.out, if_pos]; have := hall.out; rw [List.take_of_length_le (by omega)] at this; exact this
      clear HR hall
      subst hR0
      go_wp2_with fail
      go_ret
      exact ⟨rfl, thn2 (thn2 hb1 hb2) hbr⟩

theorem chk_long {s : ByteArray} (h : 60 < s.size) : chk true s = 1 := by unfold chk; rw [if_pos h]
theorem chk_bad {s : ByteArray} (h : ¬ 60 < s.size) (hx : pAll true s = none) : chk true s = 2 := by unfold chk; rw [if_neg h, hx]; rfl
theorem chk_good {s : ByteArray} (h : ¬ 60 < s.size) {x : Ty} (hx : pAll true s = some x) : chk true s = 0 := by unfold chk; rw [if_neg h, hx]; rfl
theorem both_long {s t : ByteArray} (h : 60 < s.size ∨ 60 < t.size) : bothI s t = 1 := by
  unfold bothI; rw [if_pos]; rcases h with h | h; exact .inl (chk_long h); exact .inr (chk_long h)
theorem both_bad {s t : ByteArray} (h : ¬ (60 < s.size ∨ 60 < t.size)) (hx : pAll true s = none ∨ pAll true t = none) : bothI s t = 2 := by
  have hs : ¬ 60 < s.size := by omega
  have ht : ¬ 60 < t.size := by omega
  have e1 : ¬ (chk true s = 1 ∨ chk true t = 1) := by
    rintro (h | h) <;> (unfold chk at h; rw [if_neg (by assumption)] at h; split at h <;> omega)
  unfold bothI; rw [if_neg e1, if_pos]
  rcases hx with hx | hx
  · left; rw [chk_bad hs hx]; omega
  · right; rw [chk_bad ht hx]; omega
theorem both_good {s t : ByteArray} (h : ¬ (60 < s.size ∨ 60 < t.size)) {x r : Ty} (hx : pAll true s = some x) (hr : pAll true t = some r) : bothI s t = 0 := by
  have e1 := chk_good (s := s) (by omega) hx
  have e2 := chk_good (s := t) (by omega) hr
  unfold bothI; rw [e1, e2]; rfl
theorem sret_bool {o : Option ByteArray} {e : Ending} (h : SRet o e) : ∃ z : ByteArray, e = .returned (.tuple #[.string z, .bool o.isSome]) := by
  cases o with
  | none => obtain ⟨t, rfl⟩ := h; exact ⟨t, rfl⟩
  | some t => exact ⟨t, h⟩
/-- Can every value of the first be read as the second? -/
def fitB (s t : ByteArray) : Bool := match pAll false s, pAll false t with
  | some x, some r => (unV (s.size + t.size) s.size x r).isNone
  | _, _ => false
theorem rFits_any (s t : ByteArray) (hs60 : s.size ≤ 60) (ht60 : t.size ≤ 60) (h1 : (pAll false s).isSome = true) (h2 : (pAll false t).isSome = true) (w : World) :
    Calls Tryz.prog 56 #[.string s, .string t] w fun e w' => e = .returned (.int .i64 (if fitB s t = true then 0 else 7)) ∧ Below w.heap.size w w' := by
  have hs : s.size ≤ maxLen := by unfold maxLen; omega
  have ht : t.size ≤ maxLen := by unfold maxLen; omega
  have hbo := fun w => both_any s t hs ht w
  have h3 : ¬ (60 < s.size ∨ 60 < t.size) := by omega
  obtain ⟨x, hx'⟩ := Option.isSome_iff_exists.1 h1
  obtain ⟨r, hr'⟩ := Option.isSome_iff_exists.1 h2
  have hfit : fitB s t = (unV (s.size + t.size) s.size x r).isNone := by unfold fitB; rw [hx', hr']
  have hx : pAll true s = some x := by rw [pAll_st]; exact hx'
  have hr : pAll true t = some r := by rw [pAll_st]; exact hr'
  rw [hfit]
  rw [both_good h3 hx hr] at hbo
  have hp := pAll_sm hx
  have hq := pAll_sm hr
  have hLx := (type_all _ _ _ _ hp).1
  have hLr := (type_all _ _ _ _ hq).1
  have hwx := pAll_wt hx hs60 s.size
  have hln := type_ln s.size _ _ _ _ hp
  have hsm := fun w => SmIs.of (samples_all (s := s) (by omega) s.size (by omega)) 0 x s.size w hp (by omega) hwx
  have hok := sm_ok s.size x hLx
  have hdat := sm_dat s.size x hLx
  have hlen := sm_len s.size x hLx
  have hseen : ∀ v, okV s.size x v → (datV s.size v).size ≤ 64 → ∀ w, Calls Tryz.prog 79 #[.string s, .int .i64 0, .string t, .int .i64 0, .string (datV s.size v), .int .i64 0] w fun e w' => SRet (rdT (s.size + t.size) x r v) e ∧ Below w.heap.size w w' := fun v hv hd w =>
    seen_all (s := s) (t := t) (d := datV s.size v) (by omega) (by omega) hd (s.size + t.size) s.size t.size 0 0 0 x r s.size t.size v w (Nat.le_refl _) (by omega) (by omega) hp (by omega) hq (by omega) hv (At.self _) (pAll_wt hr ht60 _)
  have hL := fun w => rFits_loop s t ((smV s.size x).map (datV s.size)) (by rw [List.length_map]; omega) hbo hsm ((smV s.size x).map fun v => (rdT (s.size + t.size) x r v).isSome) (by simp) (fun y d c hd hc w => by
    rw [List.getElem?_map] at hd hc
    obtain ⟨v, hv, rfl⟩ := Option.map_eq_some_iff.1 hd
    rw [hv] at hc
    cases hc
    have hm := List.mem_of_getElem? hv
    refine (hseen v (hok v hm) (by have := hdat v hm; omega) w).mono ?_
    rintro e w' ⟨he, hb⟩
    obtain ⟨z, hz⟩ := sret_bool he
    exact ⟨z, hz, hb⟩) w
  cases hu : unV (s.size + t.size) s.size x r with
  | none =>
    have hgood := fun v hv => un_good (s.size + t.size) (s.size + t.size) s.size t.size x r v (Nat.le_refl _) (Nat.le_refl _) hLx hLr hu hv
    rw [if_pos (by rw [List.all_map, List.all_eq_true]; intro v hv; have := hgood v (hok v hv); cases hz : rdT (s.size + t.size) x r v with
      | none => exact absurd hz this
      | some y => simp [hz])] at hL
    rw [if_pos (show (none : Option Val).isNone = true from rfl)]
    exact hL w
  | some u =>
    have hbad := un_bad _ _ _ _ _ hLx hu
    have hmem := un_sm _ _ _ _ _ hLx hu
    rw [if_neg (by
      intro hall
      rw [List.all_map, List.all_eq_true] at hall
      have := hall u hmem
      simp [hbad.2] at this)] at hL
    rw [if_neg (show ¬ (some u).isNone = true by simp)]
    exact hL w
end
section
set_option maxRecDepth 4000
open Go.RowKit

/-- The cells of types in a row: 'xs'; each with the text that it was parsed out of. -/
def RowT (S : Nat → Prop) (w : World) (xs : List Value) (es : List (ByteArray × Ty)) : Prop :=
  xs.length = es.length * 5 ∧ ∀ i e, es[i]? = some e → ∃ p1 p2 p3 q1 q2 q3, RepB S e.1.size w p1 p2 p3 q1 q2 q3 e.2 ∧ xs[i * 5]? = some (.int .i64 e.2.kind) ∧
            xs[i * 5 + 1]? = some (.string e.2.letters) ∧ xs[i * 5 + 2]? = some (.bool e.2.op) ∧ xs[i * 5 + 3]? = some (.slice p1 p2 p3) ∧ xs[i * 5 + 4]? = some (.slice q1 q2 q3)
theorem RowT.keep {S : Nat → Prop} {w w' : World} {xs : List Value} {es : List (ByteArray × Ty)} (h : RowT S w xs es) (hb : ∀ b o v, S b → w.cell? ⟨b, o, none⟩ = some v → w'.cell? ⟨b, o, none⟩ = some v) : RowT S w' xs es :=
  ⟨h.1, fun i f hi => by obtain ⟨p1, p2, p3, q1, q2, q3, h1, h2⟩ := h.2 i f hi; exact ⟨p1, p2, p3, q1, q2, q3, h1.keep hb, h2⟩⟩
theorem RowT.imp {S S' : Nat → Prop} {w : World} {xs : List Value} {es : List (ByteArray × Ty)} (h : RowT S w xs es) (hS : ∀ b, b < w.heap.size → S b → S' b) : RowT S' w xs es :=
  ⟨h.1, fun i f hi => by obtain ⟨p1, p2, p3, q1, q2, q3, h1, h2⟩ := h.2 i f hi; exact ⟨p1, p2, p3, q1, q2, q3, h1.imp hS, h2⟩⟩
theorem RowT.nil {S : Nat → Prop} {w : World} : RowT S w [] [] := ⟨rfl, fun i f hi => by simp at hi⟩
theorem RowT.snoc {S : Nat → Prop} {w : World} {xs : List Value} {es : List (ByteArray × Ty)} (h : RowT S w xs es) {e : ByteArray × Ty} {p1 q1 : Option Addr} {p2 p3 q2 q3 : Nat} (hr : RepB S e.1.size w p1 p2 p3 q1 q2 q3 e.2) :
    RowT S w (xs ++ [.int .i64 e.2.kind, .string e.2.letters, .bool e.2.op, .slice p1 p2 p3, .slice q1 q2 q3]) (es ++ [e]) := by
  refine ⟨by simp [h.1]; omega, fun i g hi => ?_⟩
  by_cases hl : i < es.length
  · rw [List.getElem?_append_left hl] at hi
    obtain ⟨a1, a2, a3, b1, b2, b3, h1, h2⟩ := h.2 i g hi
    have hx := h.1
    refine ⟨a1, a2, a3, b1, b2, b3, h1, ?_⟩
    rw [List.getElem?_append_left (by omega), List.getElem?_append_left (by omega), List.getElem?_append_left (by omega), List.getElem?_append_left (by omega), List.getElem?_append_left (by omega)]
    exact h2
  · rw [List.getElem?_append_right (by omega)] at hi
    obtain rfl : i = es.length := by
      rcases Nat.eq_or_lt_of_le (Nat.le_of_not_lt hl) with h | h
      · exact h.symm
      · rw [List.getElem?_eq_none (by simp; omega)] at hi; cases hi
    simp at hi
    subst hi
    have hx := h.1
    refine ⟨p1, p2, p3, q1, q2, q3, hr, ?_⟩
    rw [← hx]
    refine ⟨?_, ?_, ?_, ?_, ?_⟩ <;> (rw [List.getElem?_append_right (by omega)]; simp)
theorem rowT_next {H g g' : Nat} {wr w1 w2 w3 : World} {xs : List Value} {acc : List (ByteArray × Ty)} {f : ByteArray × Ty} {ai af : Option Addr} {li ci lf cf : Nat}
    (hrow : RowT (fun b => H ≤ b ∧ b ≠ g) wr xs acc) (hr1 : RepB (fun b => wr.heap.size ≤ b) f.1.size w1 ai li ci af lf cf f.2) (hb1 : Below wr.heap.size wr w1) (hb2 : Below w1.heap.size w1 w2)
    (hgrow : w2.grownBy w3 (some g)) (hat : some g = some g' ∨ g' = w2.heap.size) (hH : H ≤ wr.heap.size) (hg : g < wr.heap.size) :
    RowT (fun b => H ≤ b ∧ b ≠ g') w3 (xs ++ [.int .i64 f.2.kind, .string f.2.letters, .bool f.2.op, .slice ai li ci, .slice af lf cf]) (acc ++ [f]) := by
  have z1 := hb1.size
  have z2 := hb2.size
  have hg' : g' = g ∨ g' = w2.heap.size := by
    rcases hat with h | h
    · left; cases h; rfl
    · exact .inr h
  have tr : ∀ b o v, b ≠ g → w1.cell? ⟨b, o, none⟩ = some v → w3.cell? ⟨b, o, none⟩ = some v := fun b o v hne h =>
    hgrow.cell (cell_keep hb2 h) (fun e => hne (by cases e; rfl))
  have h1 : RowT (fun b => H ≤ b ∧ b ≠ g ∧ b ≠ g') wr xs acc := hrow.imp (fun b hb h => ⟨h.1, h.2, by omega⟩)
  have h2 : RowT (fun b => H ≤ b ∧ b ≠ g') w3 xs acc := (h1.keep (fun b o v hS h => tr b o v hS.2.1 (cell_keep hb1 h))).imp (fun b _ h => ⟨h.1, h.2.2⟩)
  have h3 : RepB (fun b => H ≤ b ∧ b ≠ g ∧ b ≠ g') f.1.size w1 ai li ci af lf cf f.2 := hr1.imp (fun b hb h => by refine ⟨?_, ?_, ?_⟩ <;> omega)
  exact h2.snoc ((h3.keep (fun b o v hS h => tr b o v hS.2.1 h)).imp (fun b _ h => ⟨h.1, h.2.2⟩))
/-- The types of a row, where they lie. -/
def TysAt (w : World) (g : Nat) (es : List (ByteArray × Ty)) : Prop := ∀ i e, es[i]? = some e → ∃ p1 p2 p3 q1 q2 q3, Rep e.1.size w p1 p2 p3 q1 q2 q3 e.2 ∧ w.cell? ⟨g, i * 5, none⟩ = some (.int .i64 e.2.kind) ∧
            w.cell? ⟨g, i * 5 + 1, none⟩ = some (.string e.2.letters) ∧ w.cell? ⟨g, i * 5 + 2, none⟩ = some (.bool e.2.op) ∧ w.cell? ⟨g, i * 5 + 3, none⟩ = some (.slice p1 p2 p3) ∧ w.cell? ⟨g, i * 5 + 4, none⟩ = some (.slice q1 q2 q3)
theorem tysAt_of {S : Nat → Prop} {base g cap : Nat} {w : World} {xs : List Value} {es : List (ByteArray × Ty)} (hown : w.ownsRow base 135 5 (.slice (some ⟨g, 0, none⟩) es.length cap) es.length xs) (h : RowT S w xs es) : TysAt w g es := fun i e hi => by
  obtain ⟨p1, p2, p3, q1, q2, q3, h1, k0, k1, k2, k3, k4⟩ := h.2 i e hi
  exact ⟨p1, p2, p3, q1, q2, q3, h1.rep, own_cell hown k0, own_cell hown k1, own_cell hown k2, own_cell hown k3, own_cell hown k4⟩
theorem TysAt.keep {w w' : World} (hb : Below w.heap.size w w') {g : Nat} {es : List (ByteArray × Ty)} (h : TysAt w g es) : TysAt w' g es := fun i e hi => by
  obtain ⟨p1, p2, p3, q1, q2, q3, h1, k0, k1, k2, k3, k4⟩ := h i e hi
  exact ⟨p1, p2, p3, q1, q2, q3, h1.keep hb, cell_keep hb k0, cell_keep hb k1, cell_keep hb k2, cell_keep hb k3, cell_keep hb k4⟩
/-- The table of a fleet's schemas. -/
def tabI (ss : List ByteArray) (i j : Nat) : Bool := match ss[i]?, ss[j]? with
  | some s, some t => fitB s t
  | _, _ => false
def tabOf (ss : List ByteArray) : List (List Bool) := (List.range 8).map fun i => (List.range 8).map (tabI ss i)
theorem tabOf_ok (ss : List ByteArray) : tabOk (tabOf ss) := by
  refine ⟨by simp [tabOf], fun r hr => ?_⟩
  obtain ⟨i, _, rfl⟩ := List.mem_map.1 hr
  simp
theorem tabG_of (ss : List ByteArray) {i j : Nat} (hi : i < 8) (hj : j < 8) : tabG (tabOf ss) i j = tabI ss i j := by
  simp [tabG, tabOf, List.getD, List.getElem?_range hi, List.getElem?_range hj]
/-- The table while it is filled in: all pairs ahead of (i, j). -/
def tabTo (ss : List ByteArray) (i j : Nat) : List Bool := (List.range 64).map fun k => decide (k < i * 8 + j) && tabI ss (k / 8) (k % 8)
theorem tabTo_len (ss : List ByteArray) (i j : Nat) : (tabTo ss i j).length = 64 := by simp [tabTo]
theorem tabTo_get (ss : List ByteArray) (i j k : Nat) (hk : k < 64) : (tabTo ss i j)[k]? = some (decide (k < i * 8 + j) && tabI ss (k / 8) (k % 8)) := by
  rw [tabTo, List.getElem?_map, List.getElem?_range hk]; rfl
theorem tabI_out {ss : List ByteArray} {i j : Nat} (h : ss.length ≤ i ∨ ss.length ≤ j) : tabI ss i j = false := by
  unfold tabI
  rcases h with h | h
  · rw [List.getElem?_eq_none h]
  · rw [List.getElem?_eq_none h]; split <;> first | rfl | (rename_i h1; cases h1)
theorem tabTo_zero (ss : List ByteArray) : tabTo ss 0 0 = List.replicate 64 false := by
  apply List.ext_getElem?
  intro k
  by_cases hk : k < 64
  · rw [tabTo_get _ _ _ _ hk, List.getElem?_replicate, if_pos hk]; simp
  · rw [List.getElem?_eq_none (by rw [tabTo_len]; omega), List.getElem?_eq_none (by simp; omega)]
theorem tabTo_step (ss : List ByteArray) {i j : Nat} (hi : i < 8) (hj : j < 8) : tabTo ss i (j + 1) = (tabTo ss i j).set (i * 8 + j) (tabI ss i j) := by
  apply List.ext_getElem?
  intro k
  by_cases hk : k < 64
  · rw [tabTo_get _ _ _ _ hk, List.getElem?_set]
    by_cases hki : i * 8 + j = k
    · subst hki
      rw [if_pos rfl, if_pos (by rw [tabTo_len]; omega), show (i * 8 + j) / 8 = i by omega, show (i * 8 + j) % 8 = j by omega]
      simp [show i * 8 + j < i * 8 + (j + 1) by omega]
    · rw [if_neg hki, tabTo_get _ _ _ _ hk]
      by_cases h : k < i * 8 + j
      · simp [h, show k < i * 8 + (j + 1) by omega]
      · simp [h, show ¬ k < i * 8 + (j + 1) by omega]
  · rw [List.getElem?_eq_none (by rw [tabTo_len]; omega), List.getElem?_eq_none (by rw [List.length_set, tabTo_len]; omega)]
theorem tabTo_row (ss : List ByteArray) {i : Nat} (hl : ss.length ≤ 8) : tabTo ss i ss.length = tabTo ss (i + 1) 0 := by
  apply List.ext_getElem?
  intro k
  by_cases hk : k < 64
  · rw [tabTo_get _ _ _ _ hk, tabTo_get _ _ _ _ hk]
    by_cases h : k < i * 8 + ss.length
    · rw [show decide (k < i * 8 + ss.length) = true by simp [h], show decide (k < (i + 1) * 8 + 0) = true by simp; omega]
    · by_cases h2 : k < (i + 1) * 8
      · rw [tabI_out (ss := ss) (j := k % 8) (.inr (by omega))]; simp
      · simp [h, h2]
  · rw [List.getElem?_eq_none (by rw [tabTo_len]; omega), List.getElem?_eq_none (by rw [tabTo_len]; omega)]
theorem tabTo_all (ss : List ByteArray) (hl : ss.length ≤ 8) : tabTo ss ss.length 0 = (tabOf ss).flatten := by
  apply List.ext_getElem?
  intro k
  by_cases hk : k < 64
  · have hr : (tabOf ss)[k / 8]? = some ((List.range 8).map (tabI ss (k / 8))) := by rw [tabOf, List.getElem?_map, List.getElem?_range (by omega)]; rfl
    have hf := flat8_get (tabOf ss) (k / 8) (k % 8) _ (tabOf_ok ss).2 hr (by omega)
    rw [show k / 8 * 8 + k % 8 = k by omega] at hf
    rw [hf, tabTo_get _ _ _ _ hk, List.getElem?_map, List.getElem?_range (by omega)]
    by_cases h : k < ss.length * 8
    · simp [h]
    · rw [tabI_out (ss := ss) (i := k / 8) (.inl (by omega))]; simp [tabI_out (ss := ss) (i := k / 8) (j := k % 8) (.inl (by omega))]
  · rw [List.getElem?_eq_none (by rw [tabTo_len]; omega), List.getElem?_eq_none (by rw [flat8_len _ (tabOf_ok ss).2, (tabOf_ok ss).1]; omega)]
end
section
set_option maxRecDepth 4000
open Go.RowKit

/-- The pins of the release at a place; whether there is one; whether the service has it first, whether it wants it. -/
def plOf (f : FleetD) (p : Nat) : List PinD := match f.vs[p / 3]? with | some v => v.rels.getD (p % 3) [] | none => []
def thB (f : FleetD) (p : Nat) : Bool := match f.vs[p / 3]? with | some v => decide (p % 3 < v.rels.length) | none => false
def fsB (f : FleetD) (p : Nat) : Bool := match f.vs[p / 3]? with | some v => decide (p % 3 < v.rels.length) && (((p % 3 : Nat) : Int) == v.now) | none => false
def wnB (f : FleetD) (p : Nat) : Bool := match f.vs[p / 3]? with | some v => decide (p % 3 < v.rels.length) && (((p % 3 : Nat) : Int) == v.want) | none => false
def chartOf (f : FleetD) : ChD := ⟨(List.range 9).map (thB f), (List.range 9).map (fsB f), (List.range 9).map (wnB f), (List.range 9).map fun a => (List.range 9).map fun b => cmpA (tabOf f.ss) (plOf f a) (plOf f b), (List.range 9).map fun a => (List.range 9).map fun b => cmpF (tabOf f.ss) f.ts (plOf f a) (plOf f b)⟩
theorem chartOf_ok (f : FleetD) : (chartOf f).ok := by
  refine ⟨by simp [chartOf], by simp [chartOf], by simp [chartOf], by simp [chartOf], fun r hr => ?_, by simp [chartOf], fun r hr => ?_⟩
  · obtain ⟨i, _, rfl⟩ := List.mem_map.1 hr; simp
  · obtain ⟨i, _, rfl⟩ := List.mem_map.1 hr; simp
theorem rng_getD {α : Type} (F : Nat → α) (d : α) {i n : Nat} (h : i < n) : ((List.range n).map F).getD i d = F i := by simp [List.getD, List.getElem?_range h]
theorem cht_thr (f : FleetD) {p : Nat} (h : p < 9) : (chartOf f).thr.getD p false = thB f p := rng_getD _ _ h
theorem cht_fst (f : FleetD) {p : Nat} (h : p < 9) : (chartOf f).fst.getD p false = fsB f p := rng_getD _ _ h
theorem cht_alg (f : FleetD) {p q : Nat} (h : p < 9) (hq : q < 9) : ((chartOf f).alg.getD p []).getD q false = cmpA (tabOf f.ss) (plOf f p) (plOf f q) := by
  rw [show (chartOf f).alg.getD p [] = (List.range 9).map fun b => cmpA (tabOf f.ss) (plOf f p) (plOf f b) from rng_getD _ _ h, rng_getD _ _ hq]
theorem cht_fev (f : FleetD) {p q : Nat} (h : p < 9) (hq : q < 9) : ((chartOf f).fev.getD p []).getD q false = cmpF (tabOf f.ss) f.ts (plOf f p) (plOf f q) := by
  rw [show (chartOf f).fev.getD p [] = (List.range 9).map fun b => cmpF (tabOf f.ss) f.ts (plOf f p) (plOf f b) from rng_getD _ _ h, rng_getD _ _ hq]
/-- What a fleet in order is. -/
structure Ord (f : FleetD) : Prop where
  ss8 : f.ss.length ≤ 8
  sch : schsB f.ss = true
  ts4 : f.ts.length ≤ 4
  vs1 : 1 ≤ f.vs.length
  vs3 : f.vs.length ≤ 3
  svc : ∀ v ∈ f.vs, svcB f.ss.length f.ts.length v = true
theorem ord_of {f : FleetD} (h : ordB f = true) : Ord f := by
  unfold ordB at h
  rw [Bool.and_eq_true, Bool.and_eq_true] at h
  obtain ⟨⟨h1, h2⟩, h3⟩ := h
  have h1' := h1
  unfold schsB at h1
  unfold topsB at h2
  unfold svcsB at h3
  rw [Bool.and_eq_true] at h1 h2
  rw [Bool.and_eq_true, Bool.and_eq_true] at h3
  exact ⟨of_decide_eq_true h1.1, h1', of_decide_eq_true h2.1, of_decide_eq_true h3.1.1, of_decide_eq_true h3.1.2, List.all_eq_true.1 h3.2⟩
theorem Ord.parts {f : FleetD} (h : Ord f) {v : SvcD} (hv : v ∈ f.vs) : 1 ≤ v.rels.length ∧ v.rels.length ≤ 3 ∧ (0 ≤ v.now ∧ v.now < v.rels.length) ∧ (0 ≤ v.want ∧ v.want < v.rels.length) ∧ ∀ ps ∈ v.rels, pinsB f.ss.length f.ts.length ps = true := by
  have := h.svc v hv
  unfold svcB numB at this
  simp only [Bool.and_eq_true, decide_eq_true_eq, List.all_eq_true] at this
  obtain ⟨⟨⟨⟨⟨⟨a1, a2⟩, a3⟩, a4⟩, a5⟩, a6⟩, a7⟩ := this
  exact ⟨a3, a4, a5, a6, a7⟩
theorem thB_lt {f : FleetD} {p : Nat} (h : thB f p = true) : ∃ v, f.vs[p / 3]? = some v ∧ p % 3 < v.rels.length := by
  unfold thB at h
  split at h
  · rename_i v hv; exact ⟨v, hv, of_decide_eq_true h⟩
  · cases h
end
end Go.Proofs.YtkkekopomiehlaaGreat
