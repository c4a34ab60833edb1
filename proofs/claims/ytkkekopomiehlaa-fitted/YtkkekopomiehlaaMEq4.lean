import Derived.Test.YtkkekopomiehlaaEq3
import Derived.Test.YtkkekopomiehlaaProg0
import Derived.Test.YtkkekopomiehlaaRef8
import Derived.Test.YtkkekopomiehlaaSn6
import Derived.Test.YtkkekopomiehlaaMV5
import Derived.Test.YtkkekopomiehlaaMSm3
set_option linter.unusedVariables false
set_option linter.unusedSimpArgs false
namespace Go.Proofs.Ytkkekopomiehlaa
section
/-- 'g' gives what 'f' gives, but where a '-' stands behind. -/
def Rel (t : ByteArray) (f g : Nat → Option (ByteArray × Nat)) : Prop := (∀ j d k, g j = some (d, k) → f j = some (d, k)) ∧ (∀ j d k, f j = some (d, k) → bAt t k ≠ 45 → g j = some (d, k))
theorem Rel.refl (t : ByteArray) (f : Nat → Option (ByteArray × Nat)) : Rel t f f := ⟨fun _ _ _ h => h, fun _ _ _ h _ => h⟩
theorem Rel.none {t : ByteArray} {f g : Nat → Option (ByteArray × Nat)} (h : Rel t f g) {j : Nat} (hf : f j = none) : g j = none := by
  rcases hg : g j with _ | ⟨d, k⟩
  · rfl
  · rw [h.1 _ _ _ hg] at hf; cases hf
theorem encNum_rel (lo hi : Int) (t : ByteArray) : Rel t (encNum false lo hi t) (encNum true lo hi t) := by
  constructor
  · intro j d k h
    unfold encNum at h ⊢
    split at h
    · cases h
    · split at h
      · cases h
      · rename_i hr
        split at h
        · cases h
        · simp only [if_neg hr]; simpa using h
  · intro j d k h hk
    unfold encNum at h ⊢
    split at h
    · cases h
    · split at h
      · cases h
      · rename_i hr
        simp only [if_neg hr]
        simp at h
        rw [if_neg (by rw [h.2]; exact fun x => hk x.2)]
        simp [h]
theorem encItems_rel {t : ByteArray} {f g : Nat → Option (ByteArray × Nat)} (h : Rel t f g) : ∀ (m c b : Nat) (d : ByteArray), encItems g t m c b d = encItems f t m c b d
  | 0, c, b, d => rfl
  | m + 1, c, b, d => by
    rw [encItems, encItems]
    rcases hf : f (b + 1) with _ | ⟨x, k⟩
    · rw [h.none hf]
    · by_cases h45 : bAt t k = 45
      · simp only [if_neg (show ¬ bAt t k = 93 by omega), if_neg (show ¬ bAt t k = 44 by omega)]
        rcases hg : g (b + 1) with _ | ⟨x', k'⟩
        · rfl
        · have := h.1 _ _ _ hg
          rw [hf] at this
          simp only [Option.some.injEq, Prod.mk.injEq] at this
          obtain ⟨rfl, rfl⟩ := this
          simp only [if_neg (show ¬ bAt t k = 93 by omega), if_neg (show ¬ bAt t k = 44 by omega)]
      · rw [h.2 _ _ _ hf h45]
        simp only
        rw [encItems_rel h m (c + 1) k (d ++ x)]
theorem encFlds_minus {t : ByteArray} {f : Ty → Nat → Option (ByteArray × Nat)} {fs : List (Nat × Ty × ByteArray)} {b : Nat} {d : ByteArray} (h : bAt t b = 45) : encFlds f t fs 44 b d = none := by
  cases fs with
  | nil => rw [encFlds, if_neg (by omega)]
  | cons g fs => rw [encFlds, if_neg (by omega)]
theorem encFlds_rel {t : ByteArray} {f g : Ty → Nat → Option (ByteArray × Nat)} (h : ∀ ty, Rel t (f ty) (g ty)) : ∀ (fs : List (Nat × Ty × ByteArray)) (mk : Int) (b : Nat) (d : ByteArray), encFlds g t fs mk b d = encFlds f t fs mk b d
  | [], mk, b, d => by rw [encFlds, encFlds]
  | x :: fs, mk, b, d => by
    rw [encFlds, encFlds]
    split
    · rcases hf : f x.2.1 (b + 3) with _ | ⟨y, k⟩
      · rw [(h _).none hf]
      · by_cases h45 : bAt t k = 45
        · simp only
          rw [encFlds_minus h45]
          rcases hg : g x.2.1 (b + 3) with _ | ⟨y', k'⟩
          · rfl
          · have := (h _).1 _ _ _ hg
            rw [hf] at this
            simp only [Option.some.injEq, Prod.mk.injEq] at this
            obtain ⟨rfl, rfl⟩ := this
            simp only
            exact encFlds_minus h45
        · rw [(h _).2 _ _ _ hf h45]
          simp only
          exact encFlds_rel h fs 44 k (d ++ y)
    · rfl
theorem encMaybe_rel {t : ByteArray} {f g : Nat → Option (ByteArray × Nat)} (h : Rel t f g) : Rel t (encMaybe f t) (encMaybe g t) := by
  constructor
  · intro j d k hj
    unfold encMaybe at hj ⊢
    split at hj
    · rename_i hc; rw [if_pos hc]; exact hj
    · rename_i hc; rw [if_neg hc]
      rcases hg : g j with _ | ⟨x, k'⟩
      · rw [hg] at hj; cases hj
      · rw [hg] at hj; rw [h.1 _ _ _ hg]; exact hj
  · intro j d k hj hk
    unfold encMaybe at hj ⊢
    split at hj
    · rename_i hc; rw [if_pos hc]; exact hj
    · rename_i hc; rw [if_neg hc]
      rcases hf : f j with _ | ⟨x, k'⟩
      · rw [hf] at hj; cases hj
      · rw [hf] at hj
        simp only [Option.some.injEq, Prod.mk.injEq] at hj
        rw [h.2 _ _ _ hf (by rw [hj.2]; exact hk)]
        simp [hj]
theorem enc_rel (t : ByteArray) : ∀ (n : Nat) (ty : Ty), Rel t (enc false t n ty) (enc true t n ty)
  | 0, ty => ⟨fun j d k h => by simp [enc] at h, fun j d k h => by simp [enc] at h⟩
  | n + 1, ty => by
    have ih := enc_rel t n
    have eF : ∀ j, enc false t (n + 1) ty j = _ := fun j => by rw [enc]
    have eT : ∀ j, enc true t (n + 1) ty j = _ := fun j => by rw [enc]
    have key : ∀ (a b : Nat → Option (ByteArray × Nat)), (∀ j, enc false t (n + 1) ty j = a j) → (∀ j, enc true t (n + 1) ty j = b j) → Rel t a b → Rel t (enc false t (n + 1) ty) (enc true t (n + 1) ty) := fun a b ha hb h =>
      ⟨fun j d k hj => by rw [ha]; rw [hb] at hj; exact h.1 j d k hj, fun j d k hj hk => by rw [hb]; rw [ha] at hj; exact h.2 j d k hj hk⟩
    by_cases h1 : ty.kind = 105
    · exact key _ _ (fun j => by rw [enc, if_pos h1]) (fun j => by rw [enc, if_pos h1]) (encNum_rel _ _ t)
    by_cases h2 : ty.kind = 108
    · exact key _ _ (fun j => by rw [enc, if_neg h1, if_pos h2]) (fun j => by rw [enc, if_neg h1, if_pos h2]) (encNum_rel _ _ t)
    by_cases h3 : ty.kind = 115
    · exact key _ _ (fun j => by rw [enc, if_neg h1, if_neg h2, if_pos h3]) (fun j => by rw [enc, if_neg h1, if_neg h2, if_pos h3]) (Rel.refl t _)
    by_cases h4 : ty.kind = 60
    · exact key (encCho ty.letters t) (encCho ty.letters t) (fun j => by rw [enc, if_neg h1, if_neg h2, if_neg h3, if_pos h4]; rfl) (fun j => by rw [enc, if_neg h1, if_neg h2, if_neg h3, if_pos h4]; rfl) (Rel.refl t _)
    by_cases h5 : ty.kind = 91
    · refine key (encList (enc false t n ty.in) t) (encList (enc false t n ty.in) t) (fun j => by rw [enc, if_neg h1, if_neg h2, if_neg h3, if_neg h4, if_pos h5]) (fun j => ?_) (Rel.refl t _)
      rw [enc, if_neg h1, if_neg h2, if_neg h3, if_neg h4, if_pos h5]
      unfold encList
      rw [encItems_rel (ih ty.in)]
    by_cases h6 : ty.kind = 63
    · exact key _ _ (fun j => by rw [enc, if_neg h1, if_neg h2, if_neg h3, if_neg h4, if_neg h5, if_pos h6]) (fun j => by rw [enc, if_neg h1, if_neg h2, if_neg h3, if_neg h4, if_neg h5, if_pos h6]) (encMaybe_rel (ih ty.in))
    by_cases h7 : ty.kind = 123
    · exact key (fun j => encFlds (enc false t n) t ty.fields 123 j ByteArray.empty) (fun j => encFlds (enc false t n) t ty.fields 123 j ByteArray.empty) (fun j => by rw [enc, if_neg h1, if_neg h2, if_neg h3, if_neg h4, if_neg h5, if_neg h6, if_pos h7]) (fun j => by
        rw [enc, if_neg h1, if_neg h2, if_neg h3, if_neg h4, if_neg h5, if_neg h6, if_pos h7, encFlds_rel ih]) (Rel.refl t _)
    · exact key (fun _ => none) (fun _ => none) (fun j => by rw [enc, if_neg h1, if_neg h2, if_neg h3, if_neg h4, if_neg h5, if_neg h6, if_neg h7]) (fun j => by rw [enc, if_neg h1, if_neg h2, if_neg h3, if_neg h4, if_neg h5, if_neg h6, if_neg h7]) (Rel.refl t _)
theorem pField_rel {pt : Nat → Option (Ty × Nat)} {ef eg : Ty → Nat → Option (ByteArray × Nat)} {s : ByteArray} (h : ∀ ty, Rel s (ef ty) (eg ty)) :
    (∀ a f k, pField pt eg s a = some (f, k) → pField pt ef s a = some (f, k)) ∧ (∀ a f k, pField pt ef s a = some (f, k) → bAt s k ≠ 45 → pField pt eg s a = some (f, k)) := by
  constructor
  · intro a f k hx
    unfold pField at hx ⊢
    split at hx
    · rename_i hc; rw [if_pos hc]
      rcases hp : pt (a + 2) with _ | ⟨ty, k'⟩
      · rw [hp] at hx; cases hx
      · rw [hp] at hx
        simp only at hx ⊢
        split at hx
        · rename_i h6; rw [if_pos h6]
          rcases hy : eg ty (k' + 1) with _ | ⟨d, m⟩
          · rw [hy] at hx; cases hx
          · rw [hy] at hx; rw [(h ty).1 _ _ _ hy]; exact hx
        · rename_i h6; rw [if_neg h6]; exact hx
    · cases hx
  · intro a f k hx hk
    unfold pField at hx ⊢
    split at hx
    · rename_i hc; rw [if_pos hc]
      rcases hp : pt (a + 2) with _ | ⟨ty, k'⟩
      · rw [hp] at hx; cases hx
      · rw [hp] at hx
        simp only at hx ⊢
        split at hx
        · rename_i h6; rw [if_pos h6]
          rcases hy : ef ty (k' + 1) with _ | ⟨d, m⟩
          · rw [hy] at hx; cases hx
          · rw [hy] at hx
            have hx2 := hx
            simp only [Option.some.injEq, Prod.mk.injEq] at hx2
            rw [(h ty).2 _ _ _ hy (by rw [hx2.2]; exact hk)]; exact hx
        · rename_i h6; rw [if_neg h6]; exact hx
    · cases hx
theorem pFlds_rel {pf pg : Nat → Option ((Nat × Ty × ByteArray) × Nat)} {s : ByteArray} (h1 : ∀ a f k, pg a = some (f, k) → pf a = some (f, k)) (h2 : ∀ a f k, pf a = some (f, k) → bAt s k ≠ 45 → pg a = some (f, k)) :
    ∀ (m a : Nat) (acc : List (Nat × Ty × ByteArray)), pFlds pg s m a acc = pFlds pf s m a acc
  | 0, a, acc => rfl
  | m + 1, a, acc => by
    rw [pFlds, pFlds]
    rcases hf : pf a with _ | ⟨f, k⟩
    · rcases hg : pg a with _ | ⟨f', k'⟩
      · rfl
      · rw [h1 _ _ _ hg] at hf; cases hf
    · by_cases h45 : bAt s k = 45
      · simp only [if_neg (show ¬ bAt s k = 125 by omega), if_neg (show ¬ bAt s k = 44 by omega), ite_self]
        rcases hg : pg a with _ | ⟨f', k'⟩
        · rfl
        · have := h1 _ _ _ hg
          rw [hf] at this
          simp only [Option.some.injEq, Prod.mk.injEq] at this
          obtain ⟨rfl, rfl⟩ := this
          simp only [if_neg (show ¬ bAt s k = 125 by omega), if_neg (show ¬ bAt s k = 44 by omega), ite_self]
      · rw [h2 _ _ _ hf h45]
        simp only
        rw [pFlds_rel h1 h2 m (k + 1) (acc ++ [f])]
theorem pType_st (s : ByteArray) : ∀ (n i : Nat), pType true s n i = pType false s n i
  | 0, i => rfl
  | n + 1, i => by
    have ih : pType true s n = pType false s n := funext (pType_st s n)
    rw [pType, pType, ih]
    have hr := pField_rel (pt := pType false s n) (s := s) (fun ty => enc_rel s n ty)
    have e : ∀ a, pRec (pField (pType false s n) (enc true s n) s) s a = pRec (pField (pType false s n) (enc false s n) s) s a := fun a => by
      unfold pRec; rw [pFlds_rel hr.1 hr.2]
    rw [e]
theorem pAll_st (s : ByteArray) : pAll true s = pAll false s := by unfold pAll; rw [pType_st]
end
section
set_option maxRecDepth 4000
open Go.RowKit

set_option maxHeartbeats 1000000 in
theorem rCheck_any (s : ByteArray) (hm : s.size ≤ maxLen) (w : World) :
    Calls Try.prog 8 #[.string s] w fun e w' => e = .returned (.int .i64 (chk true s)) ∧ Below w.heap.size w w' := by
  by_cases hs : 60 < s.size
  · have hr : Hid (chk true s = 1) := by show _ = _; unfold chk; rw [if_pos hs]
    unfold maxLen at hm
    go_enter Try.func8, Try.ntmps8
    go_wp2_with fail
    go_ret
    exact ⟨ret_int hr.out.symm, Below.refl _ _⟩
  · have IE := (ref_all (s := s) (by omega) s.size (by omega)).1
    rcases hx : pType true s s.size 0 with _ | ⟨ty, k⟩
    · have hr : Hid (chk true s = 2) := by show _ = _; unfold chk pAll; rw [if_neg hs, hx]; rfl
      have hcall := fun w => IE.no w (by omega) (by omega) hx
      have hne : ((-1 : Int) != (s.size : Int)) = true := by rw [bne_iff_ne]; omega
      clear hx IE hm
      go_enter Try.func8, Try.ntmps8
      go_wp2_with (go_at_call 18; refine (hcall _).mono ?_; rintro e w1 ⟨rfl, hb1⟩)
      go_ret
      exact ⟨ret_int hr.out.symm, hb1⟩
    · have hk := pType_bd true s _ _ _ _ hx
      have hcall := fun w => IE.yes w (by omega) (by omega) hx
      by_cases he : k = s.size
      · have hr : Hid (chk true s = 0) := by show _ = _; unfold chk pAll; rw [if_neg hs, hx]; simp only [if_pos he]; rfl
        have hne : ((k : Int) != (s.size : Int)) = false := by simp; omega
        have h1 : ¬ (k : Int) < 1 := by omega
        clear hx IE hm he
        go_enter Try.func8, Try.ntmps8
        go_wp2_with (go_at_call 18; refine (hcall _).mono ?_; rintro e w1 ⟨rfl, hb1⟩)
        go_ret
        exact ⟨ret_int hr.out.symm, hb1⟩
      · have hr : Hid (chk true s = 2) := by show _ = _; unfold chk pAll; rw [if_neg hs, hx]; simp only [if_neg he]; rfl
        have hne : ((k : Int) != (s.size : Int)) = true := by simp; omega
        clear hx IE hm he
        go_enter Try.func8, Try.ntmps8
        go_wp2_with (go_at_call 18; refine (hcall _).mono ?_; rintro e w1 ⟨rfl, hb1⟩)
        go_ret
        exact ⟨ret_int hr.out.symm, hb1⟩
theorem chk_st (s : ByteArray) : chk true s = chk false s := by unfold chk; rw [pAll_st]
end
section
set_option maxRecDepth 4000
open Go.RowKit

/-- The error of two schemas. -/
def bothI (s t : ByteArray) : Int := if chk true s = 1 ∨ chk true t = 1 then 1 else if chk true s ≠ 0 ∨ chk true t ≠ 0 then 2 else 0
theorem chk_cs (s : ByteArray) : chk true s = 1 ∨ chk true s = 0 ∨ chk true s = 2 := by unfold chk; split; exact .inl rfl; split; exact .inr (.inl rfl); exact .inr (.inr rfl)

set_option maxHeartbeats 1000000 in
theorem both_any (s t : ByteArray) (hs : s.size ≤ maxLen) (ht : t.size ≤ maxLen) (w : World) :
    Calls Try.prog 50 #[.string s, .string t] w fun e w' => e = .returned (.int .i64 (bothI s t)) ∧ Below w.heap.size w w' := by
  have h1 := fun w => rCheck_any s hs w
  have h2 := fun w => rCheck_any t ht w
  have key : ∀ (a b r : Int), (∀ w, Calls Try.prog 8 #[.string s] w fun e w' => e = .returned (.int .i64 a) ∧ Below w.heap.size w w') → (∀ w, Calls Try.prog 8 #[.string t] w fun e w' => e = .returned (.int .i64 b) ∧ Below w.heap.size w w') → (a = 1 ∨ a = 0 ∨ a = 2) → (b = 1 ∨ b = 0 ∨ b = 2) → r = (if a = 1 ∨ b = 1 then 1 else if a ≠ 0 ∨ b ≠ 0 then 2 else 0) →
      Calls Try.prog 50 #[.string s, .string t] w fun e w' => e = .returned (.int .i64 r) ∧ Below w.heap.size w w' := by
    clear h1 h2 hs ht
    intro a b r h1 h2 ha hb hr
    rcases ha with rfl | rfl | rfl <;> rcases hb with rfl | rfl | rfl <;> (
      simp at hr
      subst hr
      go_enter Try.func50, Try.ntmps50
      go_wp2_with (first | (go_at_call 8; have hq := hb1; refine (h2 _).mono ?_; rintro e w2 ⟨rfl, hb2⟩) | (go_at_call 8; refine (h1 _).mono ?_; rintro e w1 ⟨rfl, hb1⟩))
      go_ret
      exact ⟨rfl, hb1.trans (hb2.mono hb1.size)⟩)
  exact key _ _ _ h1 h2 (chk_cs s) (chk_cs t) rfl
end
section
set_option maxRecDepth 4000
open Go.RowKit

/-- What a schema's type weighs. -/
theorem pFlds_wt {pf : Nat → Option ((Nat × Ty × ByteArray) × Nat)} {s : ByteArray} {N : Nat} (hp : ∀ i f k, pf i = some (f, k) → i < k ∧ k ≤ s.size ∧ wt N f.2.1 + f.2.2.size + 84 ≤ 80 * (k - i)) :
    ∀ (m a : Nat) (acc fs : List (Nat × Ty × ByteArray)) (k : Nat), pFlds pf s m a acc = some (fs, k) → a < k ∧ k ≤ s.size ∧ (fs.map fun f => wt N f.2.1 + f.2.2.size + 4).sum ≤ (acc.map fun f => wt N f.2.1 + f.2.2.size + 4).sum + 80 * (k - a)
  | 0, a, acc, fs, k, h => by simp [pFlds] at h
  | m + 1, a, acc, fs, k, h => by
    rw [pFlds] at h
    split at h
    · cases h
    · rename_i f k' hf
      have h1 := hp _ _ _ hf
      split at h
      · cases h
      · split at h
        · rename_i h125
          have := bAt_lt (s := s) (i := k') (by omega)
          simp only [Option.some.injEq, Prod.mk.injEq] at h
          obtain ⟨rfl, rfl⟩ := h
          rw [List.map_append, List.sum_append]
          simp
          omega
        · split at h
          · have := pFlds_wt hp m (k' + 1) (acc ++ [f]) fs k h
            rw [List.map_append, List.sum_append] at this
            simp at this ⊢
            omega
          · cases h
theorem pType_wt (st : Bool) (s : ByteArray) (N : Nat) : ∀ (n i : Nat) (ty : Ty) (k : Nat), pType st s n i = some (ty, k) → wt N ty ≤ 80 * (k - i) := by
  intro n
  induction n generalizing N with
  | zero => intro i ty k h; simp [pType] at h
  | succ n IH =>
    intro i ty k h
    have hbd := pType_bd st s _ _ _ _ h
    cases N with
    | zero => rw [wt]; omega
    | succ N =>
    have hpl : ∀ q : Nat, wt (N + 1) (plainTy q) ≤ 80 * (i + 1 - i) := fun q => by rw [wt]; simp [plainTy]
    rw [pType] at h
    split at h
    · cases h; exact hpl _
    · split at h
      · cases h; exact hpl _
      · split at h
        · cases h; exact hpl _
        · split at h
          · simp only [pChoice] at h
            split at h
            · cases h
            · split at h
              · split at h
                · cases h; rw [wt]; simp; omega
                · cases h
              · split at h
                · cases h; rw [wt]; simp; omega
                · cases h
          · split at h
            · unfold pList at h
              split at h
              · cases h
              · rename_i t k' ht
                split at h
                · cases h
                  have := IH N _ _ _ ht
                  have := pType_bd st s _ _ _ _ ht
                  rw [wt]; simp; omega
                · cases h
            · split at h
              · unfold pMaybe at h
                split at h
                · cases h
                · rename_i t k' ht
                  have := IH N _ _ _ ht
                  have := pType_bd st s _ _ _ _ ht
                  split at h
                  · cases h
                  · cases h; rw [wt]; simp; omega
              · split at h
                · unfold pRec at h
                  split at h
                  · cases h
                  · rename_i fs k' hfs
                    cases h
                    have := pFlds_wt (N := N) (fun i f k hf => by
                      unfold pField at hf
                      split at hf
                      · split at hf
                        · cases hf
                        · rename_i t k' ht
                          have h1 := IH N _ _ _ ht
                          have h2 := pType_bd st s _ _ _ _ ht
                          split at hf
                          · split at hf
                            · cases hf
                            · rename_i d m' he
                              cases hf
                              have h3 := enc_bd he
                              have h4 := size_extract s (k' + 1) k (by omega) (by omega)
                              refine ⟨by omega, by omega, ?_⟩
                              show wt N t + (s.extract (k' + 1) k).size + 84 ≤ _
                              omega
                          · cases hf
                            refine ⟨by omega, by omega, ?_⟩
                            show wt N t + 0 + 84 ≤ _
                            omega
                      · cases hf) _ _ _ _ _ hfs
                    rw [wt]; simp at this ⊢; omega
                · cases h
theorem pAll_wt {st : Bool} {s : ByteArray} {x : Ty} (h : pAll st s = some x) (hs : s.size ≤ 60) (N : Nat) : wt N x ≤ 20000 := by
  have := pType_wt st s N _ _ _ _ (pAll_sm h)
  omega
end
section
set_option maxRecDepth 4000
open Go.RowKit

set_option maxHeartbeats 1000000 in
theorem rFits_err (s t : ByteArray) (n : Int) (hn : (n != 0) = true) (hb : ∀ w, Calls Try.prog 50 #[.string s, .string t] w fun e w' => e = .returned (.int .i64 n) ∧ Below w.heap.size w w') (w : World) :
    Calls Try.prog 23 #[.string s, .string t] w fun e w' => e = .returned (.int .i64 n) ∧ Below w.heap.size w w' := by
  go_enter Try.func23, Try.ntmps23
  go_wp2_with (go_at_call 50; refine (hb _).mono ?_; rintro e w1 ⟨rfl, hb1⟩)
  go_ret
  exact ⟨rfl, hb1⟩
theorem all_snoc {bs : List Bool} {x : Nat} {c : Bool} (h : bs[x]? = some c) : (bs.take (x + 1)).all id = ((bs.take x).all id && c) := by
  rw [List.take_add_one, h, List.all_append]; simp
set_option maxHeartbeats 1000000 in
theorem rFits_loop (s t : ByteArray) (ds : List ByteArray) (hl : ds.length ≤ 20000) (hb : ∀ w, Calls Try.prog 50 #[.string s, .string t] w fun e w' => e = .returned (.int .i64 0) ∧ Below w.heap.size w w')
    (hsm : ∀ w, Calls Try.prog 51 #[.string s, .int .i64 0] w fun e w' => ∃ g cap, e = .returned (.slice (some ⟨g, 0, none⟩) ds.length cap) ∧ w'.ownsRow w.heap.size 9 1 (.slice (some ⟨g, 0, none⟩) ds.length cap) ds.length (ds.map .string) ∧ Below w.heap.size w w')
    (bs : List Bool) (hbl : bs.length = ds.length) (hsn : ∀ (x : Nat) (d : ByteArray) (c : Bool), ds[x]? = some d → bs[x]? = some c → ∀ w, Calls Try.prog 52 #[.string s, .int .i64 0, .string t, .int .i64 0, .string d, .int .i64 0] w fun e w' => ∃ z : ByteArray, e = .returned (.tuple #[.string z, .bool c]) ∧ Below w.heap.size w w') (w : World) :
    Calls Try.prog 23 #[.string s, .string t] w fun e w' => e = .returned (.int .i64 (if bs.all id = true then 0 else 7)) ∧ Below w.heap.size w w' := by
  obtain ⟨R, hR⟩ : ∃ R : Int, R = if bs.all id = true then 0 else 7 := ⟨_, rfl⟩
  rw [← hR]
  have HR : Hid (R = if bs.all id = true then 0 else 7) := hR
  clear hR
  go_enter Try.func23, Try.ntmps23
  go_wp2_with (first | (go_at_call 50; refine (hb _).mono ?_; rintro e w1 ⟨rfl, hb1⟩) | (go_at_call 51; refine (hsm _).mono ?_; rintro e w2 ⟨g, cap, rfl, hm, hb2⟩))
  go_loopw [7] (fun vn wr => ∃ x : Nat, x ≤ ds.length ∧ vn = .int .i64 x ∧ Hid ((bs.take x).all id = true) ∧ Below w2.heap.size w2 wr) (fun x _ => ds.length - (intOf x).toNat)
  case atStart => exact ⟨0, Nat.zero_le _, rfl, (by show _ = _; rfl), Below.refl _ _⟩
  case round =>
    obtain ⟨x, hx, rfl, hall, hbr⟩ := hrel
    by_cases hlt : x < ds.length
    · obtain ⟨d, hd⟩ : ∃ d, ds[x]? = some d := ⟨ds[x], List.getElem?_eq_getElem hlt⟩
      have hmem := List.mem_of_getElem? hd
      have k0 := cell_keep hbr (own_cell hm (i := x) (v := .string d) (by rw [List.getElem?_map, hd]; rfl))
      have hg' : g < wr.heap.size := lt_of_cell k0
      obtain ⟨c, hc⟩ : ∃ c, bs[x]? = some c := ⟨bs[x]'(by omega), List.getElem?_eq_getElem (by omega)⟩
      have hcall := hsn x d c hd hc
      have hsnc : Hid ((bs.take (x + 1)).all id = c) := by show _ = _; rw [all_snoc hc, hall.out]; rfl
      have hfalse : c = false → bs.all id ≠ true := fun h h2 => by rw [List.all_eq_true] at h2; have := h2 c (List.mem_of_getElem? hc); rw [h] at this; cases this
      clear hd hmem hc hsn
      cases c with
      | true =>
        clear hfalse
        go_wp2_with (go_at_call 52; refine (hcall _).mono ?_; rintro e w3 ⟨z, rfl, hb3⟩)
        go_roundw
        case rel => exact ⟨x + 1, by omega, by go_num, hsnc, hbr.trans (hb3.mono hbr.size)⟩
        case measure => simp [intOf]; omega
      | false =>
        have hR7 : R = 7 := by rw [HR.out, if_neg (hfalse rfl)]
        clear hfalse HR
        subst hR7
        go_wp2_with (go_at_call 52; refine (hcall _).mono ?_; rintro e w3 ⟨z, rfl, hb3⟩)
        go_ret
        exact ⟨rfl, thn2 (thn2 (thn2 hb1 hb2) hbr) hb3⟩
    · have hxe : x = ds.length := by omega
      have hR0 : R = 0 := by rw [HR.out, if_pos]; have := hall.out; rw [List.take_of_length_le (by omega)] at this; exact this
      clear HR hall
      subst hR0
      go_wp2_with fail
      go_ret
      exact ⟨rfl, thn2 (thn2 hb1 hb2) hbr⟩

theorem chk_long {s : ByteArray} (h : 60 < s.size) : chk true s = 1 := by unfold chk; rw [if_pos h]
theorem chk_bad {s : ByteArray} (h : ¬ 60 < s.size) (hx : pAll true s = none) : chk true s = 2 := by unfold chk; rw [if_neg h, hx]; rfl
theorem chk_good {s : ByteArray} (h : ¬ 60 < s.size) {x : Ty} (hx : pAll true s = some x) : chk true s = 0 := by unfold chk; rw [if_neg h, hx]; rfl
theorem both_long {s t : ByteArray} (h : 60 < s.size ∨ 60 < t.size) : bothI s t = 1 := by
  unfold bothI; rw [if_pos]; rcases h with h | h; exact .inl (chk_long h); exact .inr (chk_long h)
theorem both_bad {s t : ByteArray} (h : ¬ (60 < s.size ∨ 60 < t.size)) (hx : pAll true s = none ∨ pAll true t = none) : bothI s t = 2 := by
  have hs : ¬ 60 < s.size := by omega
  have ht : ¬ 60 < t.size := by omega
  have e1 : ¬ (chk true s = 1 ∨ chk true t = 1) := by
    rintro (h | h) <;> (unfold chk at h; rw [if_neg (by assumption)] at h; split at h <;> omega)
  unfold bothI; rw [if_neg e1, if_pos]
  rcases hx with hx | hx
  · left; rw [chk_bad hs hx]; omega
  · right; rw [chk_bad ht hx]; omega
theorem both_good {s t : ByteArray} (h : ¬ (60 < s.size ∨ 60 < t.size)) {x r : Ty} (hx : pAll true s = some x) (hr : pAll true t = some r) : bothI s t = 0 := by
  have e1 := chk_good (s := s) (by omega) hx
  have e2 := chk_good (s := t) (by omega) hr
  unfold bothI; rw [e1, e2]; rfl
theorem sret_bool {o : Option ByteArray} {e : Ending} (h : SRet o e) : ∃ z : ByteArray, e = .returned (.tuple #[.string z, .bool o.isSome]) := by
  cases o with
  | none => obtain ⟨t, rfl⟩ := h; exact ⟨t, rfl⟩
  | some t => exact ⟨t, h⟩
/-- Can every value of the first be read as the second? -/
def fitB (s t : ByteArray) : Bool := match pAll false s, pAll false t with
  | some x, some r => (unV (s.size + t.size) s.size x r).isNone
  | _, _ => false
theorem rFits_any (s t : ByteArray) (hs60 : s.size ≤ 60) (ht60 : t.size ≤ 60) (h1 : (pAll false s).isSome = true) (h2 : (pAll false t).isSome = true) (w : World) :
    Calls Try.prog 23 #[.string s, .string t] w fun e w' => e = .returned (.int .i64 (if fitB s t = true then 0 else 7)) ∧ Below w.heap.size w w' := by
  have hs : s.size ≤ maxLen := by unfold maxLen; omega
  have ht : t.size ≤ maxLen := by unfold maxLen; omega
  have hbo := fun w => both_any s t hs ht w
  have h3 : ¬ (60 < s.size ∨ 60 < t.size) := by omega
  obtain ⟨x, hx'⟩ := Option.isSome_iff_exists.1 h1
  obtain ⟨r, hr'⟩ := Option.isSome_iff_exists.1 h2
  have hfit : fitB s t = (unV (s.size + t.size) s.size x r).isNone := by unfold fitB; rw [hx', hr']
  have hx : pAll true s = some x := by rw [pAll_st]; exact hx'
  have hr : pAll true t = some r := by rw [pAll_st]; exact hr'
  rw [hfit]
  rw [both_good h3 hx hr] at hbo
  have hp := pAll_sm hx
  have hq := pAll_sm hr
  have hLx := (type_all _ _ _ _ hp).1
  have hLr := (type_all _ _ _ _ hq).1
  have hwx := pAll_wt hx hs60 s.size
  have hln := type_ln s.size _ _ _ _ hp
  have hsm := fun w => SmIs.of (samples_all (s := s) (by omega) s.size (by omega)) 0 x s.size w hp (by omega) hwx
  have hok := sm_ok s.size x hLx
  have hdat := sm_dat s.size x hLx
  have hlen := sm_len s.size x hLx
  have hseen : ∀ v, okV s.size x v → (datV s.size v).size ≤ 64 → ∀ w, Calls Try.prog 52 #[.string s, .int .i64 0, .string t, .int .i64 0, .string (datV s.size v), .int .i64 0] w fun e w' => SRet (rdT (s.size + t.size) x r v) e ∧ Below w.heap.size w w' := fun v hv hd w =>
    seen_all (s := s) (t := t) (d := datV s.size v) (by omega) (by omega) hd (s.size + t.size) s.size t.size 0 0 0 x r s.size t.size v w (Nat.le_refl _) (by omega) (by omega) hp (by omega) hq (by omega) hv (At.self _) (pAll_wt hr ht60 _)
  have hL := fun w => rFits_loop s t ((smV s.size x).map (datV s.size)) (by rw [List.length_map]; omega) hbo hsm ((smV s.size x).map fun v => (rdT (s.size + t.size) x r v).isSome) (by simp) (fun y d c hd hc w => by
    rw [List.getElem?_map] at hd hc
    obtain ⟨v, hv, rfl⟩ := Option.map_eq_some_iff.1 hd
    rw [hv] at hc
    cases hc
    have hm := List.mem_of_getElem? hv
    refine (hseen v (hok v hm) (by have := hdat v hm; omega) w).mono ?_
    rintro e w' ⟨he, hb⟩
    obtain ⟨z, hz⟩ := sret_bool he
    exact ⟨z, hz, hb⟩) w
  cases hu : unV (s.size + t.size) s.size x r with
  | none =>
    have hgood := fun v hv => un_good (s.size + t.size) (s.size + t.size) s.size t.size x r v (Nat.le_refl _) (Nat.le_refl _) hLx hLr hu hv
    rw [if_pos (by rw [List.all_map, List.all_eq_true]; intro v hv; have := hgood v (hok v hv); cases hz : rdT (s.size + t.size) x r v with
      | none => exact absurd hz this
      | some y => simp [hz])] at hL
    rw [if_pos (show (none : Option Val).isNone = true from rfl)]
    exact hL w
  | some u =>
    have hbad := un_bad _ _ _ _ _ hLx hu
    have hmem := un_sm _ _ _ _ _ hLx hu
    rw [if_neg (by
      intro hall
      rw [List.all_map, List.all_eq_true] at hall
      have := hall u hmem
      simp [hbad.2] at this)] at hL
    rw [if_neg (show ¬ (some u).isNone = true by simp)]
    exact hL w
end
section
open Go.RowKit

set_option maxHeartbeats 1000000 in
theorem typeOf_long {s : ByteArray} (hs : 60 < s.size) (hm : s.size ≤ maxLen) (w : World) :
    Calls Try.prog 17 #[.string s] w fun e w' => e = .returned (.tuple #[.agg #[.int .i64 0, .string ByteArray.empty, .bool false, .slice none 0 0, .slice none 0 0], .int .i64 1]) ∧ Below w.heap.size w w' := by
  unfold maxLen at hm
  go_enter Try.func17, Try.ntmps17
  go_wp2_with fail
  exact bodyPost_ret (v := .tuple #[.agg #[.int .i64 0, .string ByteArray.empty, .bool false, .slice none 0 0, .slice none 0 0], .int .i64 1]) (by simp [results, Try.results17, go_sem]; rfl) rfl ⟨rfl, (Below.refl _ _).alloc (Nat.le_refl _) _⟩

set_option maxHeartbeats 1000000 in
theorem typeOf_any {s : ByteArray} (hs : s.size ≤ 60) (w : World) :
    Calls Try.prog 17 #[.string s] w fun e w' => TRet w.heap.size s.size (.int .i64 2) (.int .i64 0) (pAll false s) e w' ∧ Below w.heap.size w w' := by
  have _hs : s.size ≤ 9000000 := by omega
  have hB : ∀ o, Below w.heap.size w (w.alloc o) := fun o => (Below.refl _ _).alloc (Nat.le_refl _) _
  cases hx : pAll false s with
  | none =>
    have hcall := fun w => TRet_no (Parse_any hs w) hx
    clear hx
    go_enter Try.func17, Try.ntmps17
    go_wp2_with (go_at_call 33; refine (hcall _).mono ?_; rintro e w1 ⟨rfl, hb1⟩; obtain ⟨hc1, hf1⟩ := bcell hb1; have hz1 : w.heap.size < w1.heap.size := (by have := hb1.size; simp at this; omega))
    exact bodyPost_ret (v := .tuple #[.agg #[.int .i64 0, .string ByteArray.empty, .bool false, .slice none 0 0, .slice none 0 0], .int .i64 2]) (by simp [results, Try.results17, go_sem, hc1, hz1]; rfl) rfl ⟨rfl, Below.alloc' (Below.set5 ((hB _).trans (hb1.mono (by simp))) (Nat.le_refl _)) _⟩
  | some ty =>
    have hcall := fun w => TRet_yes (Parse_any hs w) hx
    clear hx
    go_enter Try.func17, Try.ntmps17
    go_wp2_with (go_at_call 33; refine (hcall _).mono ?_; rintro e w1 ⟨ai, li, ci, af, lf, cf, rfl, hr1, hb1⟩; obtain ⟨hc1, hf1⟩ := bcell hb1; have hz1 : w.heap.size < w1.heap.size := (by have := hb1.size; simp at this; omega))
    refine bodyPost_ret (v := .tuple #[.agg #[.int .i64 ty.kind, .string ty.letters, .bool ty.op, .slice ai li ci, .slice af lf cf], .int .i64 0]) (by simp [results, Try.results17, go_sem, hc1, hz1]) rfl ?_
    exact ⟨⟨ai, li, ci, af, lf, cf, rfl, (hr1.keep (fun b o v hS h => cell_new _ (cell_set5 h (by simp at hS; omega)))).imp (fun b _ h => by simp at h; omega)⟩, Below.alloc' (Below.set5 ((hB _).trans (hb1.mono (by simp))) (Nat.le_refl _)) _⟩
end
section
set_option maxRecDepth 4000
open Go.RowKit

theorem zeros2 {w w1 : World} (hb : Below ((w.alloc (.cells #[.int .i64 0, .string ⟨#[]⟩, .bool false, .slice none 0 0, .slice none 0 0] 41)).alloc (.cells #[.int .i64 0, .string ⟨#[]⟩, .bool false, .slice none 0 0, .slice none 0 0] 41)).heap.size ((w.alloc (.cells #[.int .i64 0, .string ⟨#[]⟩, .bool false, .slice none 0 0, .slice none 0 0] 41)).alloc (.cells #[.int .i64 0, .string ⟨#[]⟩, .bool false, .slice none 0 0, .slice none 0 0] 41)) w1) :
    w1.cell? ⟨w.heap.size, 0, none⟩ = some (.int .i64 0) ∧ w1.cell? ⟨w.heap.size, 1, none⟩ = some (.string ⟨#[]⟩) ∧ w1.cell? ⟨w.heap.size, 2, none⟩ = some (.bool false) ∧ w1.cell? ⟨w.heap.size, 3, none⟩ = some (.slice none 0 0) ∧ w1.cell? ⟨w.heap.size, 4, none⟩ = some (.slice none 0 0) ∧ w1.cell? ⟨w.heap.size + 1, 0, none⟩ = some (.int .i64 0) ∧ w1.cell? ⟨w.heap.size + 1, 1, none⟩ = some (.string ⟨#[]⟩) ∧ w1.cell? ⟨w.heap.size + 1, 2, none⟩ = some (.bool false) ∧ w1.cell? ⟨w.heap.size + 1, 3, none⟩ = some (.slice none 0 0) ∧ w1.cell? ⟨w.heap.size + 1, 4, none⟩ = some (.slice none 0 0) := by
  have h : (w.alloc (.cells #[.int .i64 0, .string ⟨#[]⟩, .bool false, .slice none 0 0, .slice none 0 0] 41)).heap.size = w.heap.size + 1 := by simp
  refine ⟨cell_keep hb (cell_new _ (cell_last rfl rfl)), cell_keep hb (cell_new _ (cell_last rfl rfl)), cell_keep hb (cell_new _ (cell_last rfl rfl)), cell_keep hb (cell_new _ (cell_last rfl rfl)), cell_keep hb (cell_new _ (cell_last rfl rfl)), ?_⟩
  rw [← h]
  exact ⟨cell_keep hb (cell_last rfl rfl), cell_keep hb (cell_last rfl rfl), cell_keep hb (cell_last rfl rfl), cell_keep hb (cell_last rfl rfl), cell_keep hb (cell_last rfl rfl)⟩
theorem zeros3 {w w1 w2 : World} {o o2 : Obj} (hb : Below ((w.alloc (.cells #[.int .i64 0, .string ⟨#[]⟩, .bool false, .slice none 0 0, .slice none 0 0] 41)).alloc (.cells #[.int .i64 0, .string ⟨#[]⟩, .bool false, .slice none 0 0, .slice none 0 0] 41)).heap.size ((w.alloc (.cells #[.int .i64 0, .string ⟨#[]⟩, .bool false, .slice none 0 0, .slice none 0 0] 41)).alloc (.cells #[.int .i64 0, .string ⟨#[]⟩, .bool false, .slice none 0 0, .slice none 0 0] 41)) w1) (hb2 : Below (w1.alloc o).heap.size (w1.alloc o) w2) :
    (w2.alloc o2).cell? ⟨w.heap.size, 0, none⟩ = some (.int .i64 0) ∧ (w2.alloc o2).cell? ⟨w.heap.size, 1, none⟩ = some (.string ⟨#[]⟩) ∧ (w2.alloc o2).cell? ⟨w.heap.size, 2, none⟩ = some (.bool false) ∧ (w2.alloc o2).cell? ⟨w.heap.size, 3, none⟩ = some (.slice none 0 0) ∧ (w2.alloc o2).cell? ⟨w.heap.size, 4, none⟩ = some (.slice none 0 0) ∧ (w2.alloc o2).cell? ⟨w.heap.size + 1, 0, none⟩ = some (.int .i64 0) ∧ (w2.alloc o2).cell? ⟨w.heap.size + 1, 1, none⟩ = some (.string ⟨#[]⟩) ∧ (w2.alloc o2).cell? ⟨w.heap.size + 1, 2, none⟩ = some (.bool false) ∧ (w2.alloc o2).cell? ⟨w.heap.size + 1, 3, none⟩ = some (.slice none 0 0) ∧ (w2.alloc o2).cell? ⟨w.heap.size + 1, 4, none⟩ = some (.slice none 0 0) := by
  obtain ⟨h0, h1, h2, h3, h4, k0, k1, k2, k3, k4⟩ := zeros2 hb
  have q : ∀ {b i : Nat} {v : Value}, w1.cell? ⟨b, i, none⟩ = some v → (w2.alloc o2).cell? ⟨b, i, none⟩ = some v := fun h => cell_new _ (cell_keep hb2 (cell_new _ h))
  exact ⟨q h0, q h1, q h2, q h3, q h4, q k0, q k1, q k2, q k3, q k4⟩
theorem zeros4 {w w1 w2 : World} {o : Obj} (hb : Below ((w.alloc (.cells #[.int .i64 0, .string ⟨#[]⟩, .bool false, .slice none 0 0, .slice none 0 0] 41)).alloc (.cells #[.int .i64 0, .string ⟨#[]⟩, .bool false, .slice none 0 0, .slice none 0 0] 41)).heap.size ((w.alloc (.cells #[.int .i64 0, .string ⟨#[]⟩, .bool false, .slice none 0 0, .slice none 0 0] 41)).alloc (.cells #[.int .i64 0, .string ⟨#[]⟩, .bool false, .slice none 0 0, .slice none 0 0] 41)) w1) (hb2 : Below (w1.alloc o).heap.size (w1.alloc o) w2) :
    w2.cell? ⟨w.heap.size, 0, none⟩ = some (.int .i64 0) ∧ w2.cell? ⟨w.heap.size, 1, none⟩ = some (.string ⟨#[]⟩) ∧ w2.cell? ⟨w.heap.size, 2, none⟩ = some (.bool false) ∧ w2.cell? ⟨w.heap.size, 3, none⟩ = some (.slice none 0 0) ∧ w2.cell? ⟨w.heap.size, 4, none⟩ = some (.slice none 0 0) ∧ w2.cell? ⟨w.heap.size + 1, 0, none⟩ = some (.int .i64 0) ∧ w2.cell? ⟨w.heap.size + 1, 1, none⟩ = some (.string ⟨#[]⟩) ∧ w2.cell? ⟨w.heap.size + 1, 2, none⟩ = some (.bool false) ∧ w2.cell? ⟨w.heap.size + 1, 3, none⟩ = some (.slice none 0 0) ∧ w2.cell? ⟨w.heap.size + 1, 4, none⟩ = some (.slice none 0 0) := by
  obtain ⟨h0, h1, h2, h3, h4, k0, k1, k2, k3, k4⟩ := zeros2 hb
  have q : ∀ {b i : Nat} {v : Value}, w1.cell? ⟨b, i, none⟩ = some v → w2.cell? ⟨b, i, none⟩ = some v := fun h => cell_keep hb2 (cell_new _ h)
  exact ⟨q h0, q h1, q h2, q h3, q h4, q k0, q k1, q k2, q k3, q k4⟩
theorem thnT {w W w1 : World} (h : Below w.heap.size w W) (k : Below W.heap.size W w1) : Below w.heap.size w w1 := h.trans (k.mono h.size)
theorem BBt (w : World) (o o2 : Obj) : Below w.heap.size w ((w.alloc o).alloc o2) := ((Below.refl _ _).alloc (Nat.le_refl _) _).alloc (by simp) _
set_option maxHeartbeats 1000000 in
theorem typesOf_long {s t : ByteArray} (hs : s.size ≤ maxLen) (ht : t.size ≤ maxLen) (h : 60 < s.size ∨ 60 < t.size) (w : World) :
    Calls Try.prog 21 #[.string s, .string t] w fun e w' => e = .returned (.tuple #[.agg #[.int .i64 0, .string ByteArray.empty, .bool false, .slice none 0 0, .slice none 0 0], .agg #[.int .i64 0, .string ByteArray.empty, .bool false, .slice none 0 0, .slice none 0 0], .int .i64 1]) ∧ Below w.heap.size w w' := by
  unfold maxLen at hs ht
  by_cases h1 : 60 < s.size
  · go_enter Try.func21, Try.ntmps21
    go_wp2_with fail
    exact bodyPost_ret (v := .tuple #[.agg #[.int .i64 0, .string ByteArray.empty, .bool false, .slice none 0 0, .slice none 0 0], .agg #[.int .i64 0, .string ByteArray.empty, .bool false, .slice none 0 0, .slice none 0 0], .int .i64 1]) (by simp [results, Try.results21, go_sem]; rfl) rfl ⟨rfl, ((Below.refl _ _).alloc (Nat.le_refl _) _).alloc (by simp) _⟩
  · have h2 : 60 < t.size := by omega
    go_enter Try.func21, Try.ntmps21
    go_wp2_with fail
    exact bodyPost_ret (v := .tuple #[.agg #[.int .i64 0, .string ByteArray.empty, .bool false, .slice none 0 0, .slice none 0 0], .agg #[.int .i64 0, .string ByteArray.empty, .bool false, .slice none 0 0, .slice none 0 0], .int .i64 1]) (by simp [results, Try.results21, go_sem]; rfl) rfl ⟨rfl, ((Below.refl _ _).alloc (Nat.le_refl _) _).alloc (by simp) _⟩

set_option maxHeartbeats 1000000 in
theorem typesOf_bad1 {s t : ByteArray} (hs : s.size ≤ 60) (ht : t.size ≤ 60) (hx : pAll false s = none) (w : World) :
    Calls Try.prog 21 #[.string s, .string t] w fun e w' => e = .returned (.tuple #[.agg #[.int .i64 0, .string ByteArray.empty, .bool false, .slice none 0 0, .slice none 0 0], .agg #[.int .i64 0, .string ByteArray.empty, .bool false, .slice none 0 0, .slice none 0 0], .int .i64 2]) ∧ Below w.heap.size w w' := by
  have hcall := fun w => TRet_no (typeOf_any hs w) hx
  clear hx
  go_enter Try.func21, Try.ntmps21
  go_wp2_with (go_at_call 17; refine (hcall _).mono ?_; rintro e w1 ⟨rfl, hb1⟩; obtain ⟨hc1, hf1⟩ := bcell hb1; have hz1 : w.heap.size + 1 < w1.heap.size := (by have := hb1.size; simp at this; omega); have hz2 : w.heap.size < w1.heap.size := (by omega))
  have kz := zeros2 hb1
  exact bodyPost_ret (v := .tuple #[.agg #[.int .i64 0, .string ByteArray.empty, .bool false, .slice none 0 0, .slice none 0 0], .agg #[.int .i64 0, .string ByteArray.empty, .bool false, .slice none 0 0, .slice none 0 0], .int .i64 2]) (by simp [results, Try.results21, go_sem, kz, hz1, hz2]; rfl) rfl ⟨rfl, Below.alloc' (Below.set5 (Below.set5 ((BBt w _ _).trans (hb1.mono (by simp; omega))) (Nat.le_refl _)) (by omega)) _⟩
set_option maxHeartbeats 1000000 in
theorem typesOf_ok {s t : ByteArray} (hs : s.size ≤ 60) (ht : t.size ≤ 60) {x r : Ty} (hx : pAll false s = some x) (hr : pAll false t = some r) (w : World) :
    Calls Try.prog 21 #[.string s, .string t] w fun e w' => ∃ ai li ci af lf cf bi mi di bf mf df, e = .returned (.tuple #[.agg #[.int .i64 x.kind, .string x.letters, .bool x.op, .slice ai li ci, .slice af lf cf], .agg #[.int .i64 r.kind, .string r.letters, .bool r.op, .slice bi mi di, .slice bf mf df], .int .i64 0]) ∧
      RepB (fun b => w.heap.size ≤ b) s.size w' ai li ci af lf cf x ∧ RepB (fun b => w.heap.size ≤ b) t.size w' bi mi di bf mf df r ∧ Below w.heap.size w w' := by
  have hcall := fun w => TRet_yes (typeOf_any hs w) hx
  have hcall2 := fun w => TRet_yes (typeOf_any ht w) hr
  clear hx hr
  go_enter Try.func21, Try.ntmps21
  go_wp2_with (first | (go_at_call 17; have hq := hb1; refine (hcall2 _).mono ?_; rintro e w2 ⟨bi, mi, di, bf, mf, df, rfl, hr2, hb2⟩; obtain ⟨hc2, hf2⟩ := bcell hb2; have hy1 : w1.heap.size < w2.heap.size := (by have := hb2.size; simp at this; omega); have hy2 : w.heap.size < w2.heap.size := (by omega); have hy3 : w.heap.size + 1 < w2.heap.size := (by omega)) | (go_at_call 17; refine (hcall _).mono ?_; rintro e w1 ⟨ai, li, ci, af, lf, cf, rfl, hr1, hb1⟩; obtain ⟨hc1, hf1⟩ := bcell hb1; have hz1 : w.heap.size + 1 < w1.heap.size := (by have := hb1.size; simp at this; omega); have hz2 : w.heap.size < w1.heap.size := (by omega)))
  have k1 : (w2.alloc (.cells #[.int .i64 r.kind, .string r.letters, .bool r.op, .slice bi mi di, .slice bf mf df] 41)).cell? ⟨w1.heap.size, 0, none⟩ = some (.int .i64 x.kind) ∧ (w2.alloc (.cells #[.int .i64 r.kind, .string r.letters, .bool r.op, .slice bi mi di, .slice bf mf df] 41)).cell? ⟨w1.heap.size, 1, none⟩ = some (.string x.letters) ∧ (w2.alloc (.cells #[.int .i64 r.kind, .string r.letters, .bool r.op, .slice bi mi di, .slice bf mf df] 41)).cell? ⟨w1.heap.size, 2, none⟩ = some (.bool x.op) ∧ (w2.alloc (.cells #[.int .i64 r.kind, .string r.letters, .bool r.op, .slice bi mi di, .slice bf mf df] 41)).cell? ⟨w1.heap.size, 3, none⟩ = some (.slice ai li ci) ∧ (w2.alloc (.cells #[.int .i64 r.kind, .string r.letters, .bool r.op, .slice bi mi di, .slice bf mf df] 41)).cell? ⟨w1.heap.size, 4, none⟩ = some (.slice af lf cf) := by
    refine ⟨cell_new _ (cell_keep hb2 (cell_last rfl rfl)), cell_new _ (cell_keep hb2 (cell_last rfl rfl)), cell_new _ (cell_keep hb2 (cell_last rfl rfl)), cell_new _ (cell_keep hb2 (cell_last rfl rfl)), cell_new _ (cell_keep hb2 (cell_last rfl rfl))⟩
  have k2 : (w2.alloc (.cells #[.int .i64 r.kind, .string r.letters, .bool r.op, .slice bi mi di, .slice bf mf df] 41)).cell? ⟨w2.heap.size, 0, none⟩ = some (.int .i64 r.kind) ∧ (w2.alloc (.cells #[.int .i64 r.kind, .string r.letters, .bool r.op, .slice bi mi di, .slice bf mf df] 41)).cell? ⟨w2.heap.size, 1, none⟩ = some (.string r.letters) ∧ (w2.alloc (.cells #[.int .i64 r.kind, .string r.letters, .bool r.op, .slice bi mi di, .slice bf mf df] 41)).cell? ⟨w2.heap.size, 2, none⟩ = some (.bool r.op) ∧ (w2.alloc (.cells #[.int .i64 r.kind, .string r.letters, .bool r.op, .slice bi mi di, .slice bf mf df] 41)).cell? ⟨w2.heap.size, 3, none⟩ = some (.slice bi mi di) ∧ (w2.alloc (.cells #[.int .i64 r.kind, .string r.letters, .bool r.op, .slice bi mi di, .slice bf mf df] 41)).cell? ⟨w2.heap.size, 4, none⟩ = some (.slice bf mf df) := ⟨cell_last rfl rfl, cell_last rfl rfl, cell_last rfl rfl, cell_last rfl rfl, cell_last rfl rfl⟩
  have kz := zeros3 hb1 hb2 (o := .cells #[.int .i64 x.kind, .string x.letters, .bool x.op, .slice ai li ci, .slice af lf cf] 41) (o2 := .cells #[.int .i64 r.kind, .string r.letters, .bool r.op, .slice bi mi di, .slice bf mf df] 41)
  have hbW : Below w.heap.size w (w2.alloc (.cells #[.int .i64 r.kind, .string r.letters, .bool r.op, .slice bi mi di, .slice bf mf df] 41)) := Below.alloc' (thnT (Below.alloc' (thnT (BBt w _ _) hb1) _) hb2) _
  have hR1 : RepB (fun b => w.heap.size + 2 ≤ b) s.size (w2.alloc (.cells #[.int .i64 r.kind, .string r.letters, .bool r.op, .slice bi mi di, .slice bf mf df] 41)) ai li ci af lf cf x := (hr1.keep (fun b o v hS h => cell_new _ (cell_keep hb2 (cell_new _ h)))).imp (fun b _ h => by simp at h; omega)
  have hR2 : RepB (fun b => w.heap.size + 2 ≤ b) t.size (w2.alloc (.cells #[.int .i64 r.kind, .string r.letters, .bool r.op, .slice bi mi di, .slice bf mf df] 41)) bi mi di bf mf df r := (hr2.keep (fun b o v hS h => cell_new _ h)).imp (fun b _ h => by simp at h; omega)
  have fz : ∀ o, (w2.alloc (.cells #[.int .i64 r.kind, .string r.letters, .bool r.op, .slice bi mi di, .slice bf mf df] 41)).frozen? ⟨w.heap.size, o, none⟩ = false := fun o => by
    rw [frozen?_alloc_cells, hf2 _ _ (by simp; omega), frozen?_alloc_cells, hf1 _ _ (by simp; omega), frozen?_alloc_cells, frozen?_alloc_cells]; simp [World.frozen?]
  have fz2 : ∀ o, (w2.alloc (.cells #[.int .i64 r.kind, .string r.letters, .bool r.op, .slice bi mi di, .slice bf mf df] 41)).frozen? ⟨w.heap.size + 1, o, none⟩ = false := fun o => by
    rw [frozen?_alloc_cells, hf2 _ _ (by simp; omega), frozen?_alloc_cells, hf1 _ _ (by simp), frozen?_alloc_cells, frozen?_alloc_cells]; simp [World.frozen?]
  have n1 : ¬ w1.heap.size = w.heap.size := by omega
  have n2 : ¬ w1.heap.size = w.heap.size + 1 := by omega
  have n3 : ¬ w2.heap.size = w.heap.size := by omega
  have n4 : ¬ w2.heap.size = w.heap.size + 1 := by omega
  have n5 : ¬ w.heap.size = w1.heap.size := by omega
  have n6 : ¬ w.heap.size + 1 = w1.heap.size := by omega
  have n7 : ¬ w.heap.size = w2.heap.size := by omega
  have n8 : ¬ w.heap.size + 1 = w2.heap.size := by omega
  generalize (w2.alloc (.cells #[.int .i64 r.kind, .string r.letters, .bool r.op, .slice bi mi di, .slice bf mf df] 41)) = W3 at k1 k2 kz fz fz2 hbW hR1 hR2 ⊢
  go_region_held3 (fun w' => (w'.cell? ⟨w1.heap.size, 0, none⟩ = some (.int .i64 x.kind) ∧ w'.cell? ⟨w1.heap.size, 1, none⟩ = some (.string x.letters) ∧ w'.cell? ⟨w1.heap.size, 2, none⟩ = some (.bool x.op) ∧ w'.cell? ⟨w1.heap.size, 3, none⟩ = some (.slice ai li ci) ∧ w'.cell? ⟨w1.heap.size, 4, none⟩ = some (.slice af lf cf)) ∧ w'.cell? ⟨w2.heap.size, 0, none⟩ = some (.int .i64 r.kind) ∧ w'.cell? ⟨w2.heap.size, 1, none⟩ = some (.string r.letters) ∧ w'.cell? ⟨w2.heap.size, 2, none⟩ = some (.bool r.op) ∧ w'.cell? ⟨w2.heap.size, 3, none⟩ = some (.slice bi mi di) ∧ w'.cell? ⟨w2.heap.size, 4, none⟩ = some (.slice bf mf df)) (go_keep) (fail)
  go_wp2_with fail
  refine bodyPost_ret (v := .tuple #[.agg #[.int .i64 x.kind, .string x.letters, .bool x.op, .slice ai li ci, .slice af lf cf], .agg #[.int .i64 r.kind, .string r.letters, .bool r.op, .slice bi mi di, .slice bf mf df], .int .i64 0]) (by simp [results, Try.results21, go_sem, kz]) rfl ?_
  exact ⟨ai, li, ci, af, lf, cf, bi, mi, di, bf, mf, df, rfl, (hR1.keep (fun b o v hS h => cell_drew (cell_set5 (cell_set5 h (by omega)) (by omega)))).imp (fun b _ h => by show w.heap.size ≤ b; omega),
    (hR2.keep (fun b o v hS h => cell_drew (cell_set5 (cell_set5 h (by omega)) (by omega)))).imp (fun b _ h => by show w.heap.size ≤ b; omega), (Below.set5 (Below.set5 hbW (Nat.le_refl _)) (by omega)).drew⟩
set_option maxHeartbeats 1000000 in
theorem typesOf_bad2 {s t : ByteArray} (hs : s.size ≤ 60) (ht : t.size ≤ 60) {x : Ty} (hx : pAll false s = some x) (hr : pAll false t = none) (w : World) :
    Calls Try.prog 21 #[.string s, .string t] w fun e w' => e = .returned (.tuple #[.agg #[.int .i64 0, .string ByteArray.empty, .bool false, .slice none 0 0, .slice none 0 0], .agg #[.int .i64 0, .string ByteArray.empty, .bool false, .slice none 0 0, .slice none 0 0], .int .i64 2]) ∧ Below w.heap.size w w' := by
  have hcall := fun w => TRet_yes (typeOf_any hs w) hx
  have hcall2 := fun w => TRet_no (typeOf_any ht w) hr
  clear hx hr
  go_enter Try.func21, Try.ntmps21
  go_wp2_with (first | (go_at_call 17; have hq := hb1; refine (hcall2 _).mono ?_; rintro e w2 ⟨rfl, hb2⟩; obtain ⟨hc2, hf2⟩ := bcell hb2; have hy1 : w1.heap.size < w2.heap.size := (by have := hb2.size; simp at this; omega); have hy2 : w.heap.size < w2.heap.size := (by omega); have hy3 : w.heap.size + 1 < w2.heap.size := (by omega)) | (go_at_call 17; refine (hcall _).mono ?_; rintro e w1 ⟨ai, li, ci, af, lf, cf, rfl, hr1, hb1⟩; obtain ⟨hc1, hf1⟩ := bcell hb1; have hz1 : w.heap.size + 1 < w1.heap.size := (by have := hb1.size; simp at this; omega); have hz2 : w.heap.size < w1.heap.size := (by omega)))
  have kz := zeros4 hb1 hb2
  exact bodyPost_ret (v := .tuple #[.agg #[.int .i64 0, .string ByteArray.empty, .bool false, .slice none 0 0, .slice none 0 0], .agg #[.int .i64 0, .string ByteArray.empty, .bool false, .slice none 0 0, .slice none 0 0], .int .i64 2]) (by simp [results, Try.results21, go_sem, kz, hy1, hy2, hy3]; rfl) rfl ⟨rfl, Below.alloc' (Below.set5 (Below.set5 (thnT (Below.alloc' (thnT (BBt w _ _) hb1) _) hb2) (Nat.le_refl _)) (by omega)) _⟩
end
section
set_option maxRecDepth 4000
open Go.RowKit

set_option maxHeartbeats 1000000 in
theorem Fits_err (s t : ByteArray) (w : World) (n : Int) (hn : (n != 0) = true)
    (hcall : ∀ w, Calls Try.prog 21 #[.string s, .string t] w fun e w' => e = .returned (.tuple #[.agg #[.int .i64 0, .string ByteArray.empty, .bool false, .slice none 0 0, .slice none 0 0], .agg #[.int .i64 0, .string ByteArray.empty, .bool false, .slice none 0 0, .slice none 0 0], .int .i64 n]) ∧ Below w.heap.size w w') :
    Calls Try.prog 11 #[.string s, .string t] w fun e w' => e = .returned (.tuple #[.string ByteArray.empty, .int .i64 n]) ∧ Below w.heap.size w w' := by
  go_enter Try.func11, Try.ntmps11
  go_wp2_with (go_at_call 21; refine (hcall _).mono ?_; rintro e w1 ⟨rfl, hb1⟩)
  go_ret2
  exact ⟨rfl, Below.alloc' (Below.alloc' hb1 _) _⟩
set_option maxHeartbeats 1000000 in
theorem Fits_walk (s t y : ByteArray) (b : Bool) (w : World) (x r : Ty) (n m : Nat)
    (hcall : ∀ w, Calls Try.prog 21 #[.string s, .string t] w fun e w' => ∃ ai li ci af lf cf bi mi di bf mf df, e = .returned (.tuple #[.agg #[.int .i64 x.kind, .string x.letters, .bool x.op, .slice ai li ci, .slice af lf cf], .agg #[.int .i64 r.kind, .string r.letters, .bool r.op, .slice bi mi di, .slice bf mf df], .int .i64 0]) ∧
      RepB (fun b => w.heap.size ≤ b) n w' ai li ci af lf cf x ∧ RepB (fun b => w.heap.size ≤ b) m w' bi mi di bf mf df r ∧ Below w.heap.size w w')
    (hun : ∀ (W : World) (ai af : Option Addr) (li ci lf cf : Nat) (bi bf : Option Addr) (mi di mf df : Nat), Rep n W ai li ci af lf cf x → Rep m W bi mi di bf mf df r → Calls Try.prog 22 #[.agg #[.int .i64 x.kind, .string x.letters, .bool x.op, .slice ai li ci, .slice af lf cf], .agg #[.int .i64 r.kind, .string r.letters, .bool r.op, .slice bi mi di, .slice bf mf df]] W fun e w' => e = .returned (.tuple #[.string y, .bool b]) ∧ Below W.heap.size W w') :
    Calls Try.prog 11 #[.string s, .string t] w fun e w' => e = .returned (if b = true then .tuple #[.string y, .int .i64 7] else .tuple #[.string ByteArray.empty, .int .i64 0]) ∧ Below w.heap.size w w' := by
  cases b with
  | true =>
    rw [if_pos rfl]
    go_enter Try.func11, Try.ntmps11
    go_wp2_with (first | (go_at_call 21; refine (hcall _).mono ?_; rintro e w1 ⟨ai, li, ci, af, lf, cf, bi, mi, di, bf, mf, df, rfl, hr1, hr2, hb1⟩) | (go_at_call 22; refine (hun _ _ _ _ _ _ _ _ _ _ _ _ _ (hr1.rep.keep (bx w1 _ _)) (hr2.rep.keep (bx w1 _ _))).mono ?_; rintro e w2 ⟨rfl, hb2⟩))
    go_ret2
    exact ⟨rfl, thn2 (Below.alloc' (Below.alloc' hb1 _) _) hb2⟩
  | false =>
    rw [if_neg (by simp)]
    go_enter Try.func11, Try.ntmps11
    go_wp2_with (first | (go_at_call 21; refine (hcall _).mono ?_; rintro e w1 ⟨ai, li, ci, af, lf, cf, bi, mi, di, bf, mf, df, rfl, hr1, hr2, hb1⟩) | (go_at_call 22; refine (hun _ _ _ _ _ _ _ _ _ _ _ _ _ (hr1.rep.keep (bx w1 _ _)) (hr2.rep.keep (bx w1 _ _))).mono ?_; rintro e w2 ⟨rfl, hb2⟩))
    go_ret2
    exact ⟨rfl, thn2 (Below.alloc' (Below.alloc' hb1 _) _) hb2⟩

/-- What 'Fits' answers: the text, the error. -/
def fitOut (s t : ByteArray) : ByteArray × Int :=
  if 60 < s.size ∨ 60 < t.size then (ByteArray.empty, 1)
  else match pAll false s, pAll false t with
    | some x, some r =>
      (match unV (s.size + t.size) s.size x r with
        | some u => (txtV s.size x u, 7)
        | none => (ByteArray.empty, 0))
    | _, _ => (ByteArray.empty, 2)
theorem Fits_any (s t : ByteArray) (hs : s.size ≤ maxLen) (ht : t.size ≤ maxLen) (hW : ∀ x, pAll false s = some x → s.size ≤ 60 → wt s.size x ≤ 20000) (w : World) :
    Calls Try.prog 11 #[.string s, .string t] w fun e w' => e = .returned (.tuple #[.string (fitOut s t).1, .int .i64 (fitOut s t).2]) ∧ Below w.heap.size w w' := by
  unfold fitOut
  by_cases h2 : 60 < s.size ∨ 60 < t.size
  · rw [if_pos h2]
    exact Fits_err s t w 1 rfl (fun w => typesOf_long hs ht h2 w)
  have hs60 : s.size ≤ 60 := by omega
  have ht60 : t.size ≤ 60 := by omega
  rw [if_neg h2]
  cases hx : pAll false s with
  | none => exact Fits_err s t w 2 rfl (fun w => typesOf_bad1 hs60 ht60 hx w)
  | some x =>
    cases hr : pAll false t with
    | none => exact Fits_err s t w 2 rfl (fun w => typesOf_bad2 hs60 ht60 hx hr w)
    | some r =>
      have hc := fun w => typesOf_ok hs60 ht60 hx hr w
      have hK := type_K _ _ _ _ (pAll_sm (show pAll true s = some x by rw [pAll_st]; exact hx))
      have hun := fun (W : World) (ai af : Option Addr) (li ci lf cf : Nat) (bi bf : Option Addr) (mi di mf df : Nat) (h1 : Rep s.size W ai li ci af lf cf x) (h2 : Rep t.size W bi mi di bf mf df r) => unr_all (s.size + t.size) s.size t.size x r W ai af li ci lf cf bi bf mi di mf df (Nat.le_refl _) hK (hW x hx hs60) h1 h2
      simp only
      cases hu : unV (s.size + t.size) s.size x r with
      | none =>
        rw [hu] at hun
        exact Fits_walk s t _ false w x r _ _ hc hun
      | some u =>
        rw [hu] at hun
        exact Fits_walk s t _ true w x r _ _ hc hun
end
section
open Go.RowKit

/-- The data of a whole text. -/
def encAll (st : Bool) (t : ByteArray) (n : Nat) (ty : Ty) : Option ByteArray :=
  match enc st t n ty 0 with
  | none => none
  | some (d, k) => if k = t.size then some d else none
def eRet : Option ByteArray → Value
  | some d => .tuple #[.string d, .bool true]
  | none => .tuple #[.string ByteArray.empty, .bool false]

set_option maxHeartbeats 1000000 in
theorem sEncode_any {t : ByteArray} (ht : t.size ≤ 4096) {n : Nat} (hn : n ≤ 100) (ty : Ty) (w : World) (ai af : Option Addr) (li ci lf cf : Nat) (hr : Rep n w ai li ci af lf cf ty) :
    Calls Try.prog 19 #[.agg #[.int .i64 ty.kind, .string ty.letters, .bool ty.op, .slice ai li ci, .slice af lf cf], .string t] w fun e w' => e = .returned (eRet (encAll false t n ty)) ∧ Below w.heap.size w w' := by
  have hB : ∀ o, Below w.heap.size w (w.alloc o) := fun o => (Below.refl _ _).alloc (Nat.le_refl _) _
  have IH := encodeAt_all ht n (by omega)
  cases hx : enc false t n ty 0 with
  | none =>
    have hr' : Hid (encAll false t n ty = none) := by show _ = _; unfold encAll; rw [hx]
    have hcall := fun o => IH.no (Nat.zero_le _) (hr.keep (hB o)) hx
    clear hx IH
    go_enter Try.func19, Try.ntmps19
    go_wp2_with (go_at_call 38; refine (hcall _).mono ?_; rintro e w1 ⟨rfl, hb1⟩)
    go_ret2
    rw [hr'.out]
    exact ⟨rfl, (hB _).trans (hb1.mono (by simp))⟩
  | some p =>
    obtain ⟨d, k⟩ := p
    have hcall := fun o => IH.yes (Nat.zero_le _) (hr.keep (hB o)) hx
    by_cases hk : k = t.size
    · have hk' : ((k : Int) != (t.size : Int)) = false := by simp; omega
      have hr' : Hid (encAll false t n ty = some d) := by show _ = _; unfold encAll; rw [hx]; simp only [if_pos hk]
      clear hx IH hk
      go_enter Try.func19, Try.ntmps19
      go_wp2_with (go_at_call 38; refine (hcall _).mono ?_; rintro e w1 ⟨rfl, hb1⟩)
      go_ret2
      rw [hr'.out]
      exact ⟨rfl, (hB _).trans (hb1.mono (by simp))⟩
    · have hk' : ((k : Int) != (t.size : Int)) = true := by simp; omega
      have hr' : Hid (encAll false t n ty = none) := by show _ = _; unfold encAll; rw [hx]; simp only [if_neg hk]
      clear hx IH hk
      go_enter Try.func19, Try.ntmps19
      go_wp2_with (go_at_call 38; refine (hcall _).mono ?_; rintro e w1 ⟨rfl, hb1⟩)
      go_ret2
      rw [hr'.out]
      exact ⟨rfl, (hB _).trans (hb1.mono (by simp))⟩

/-- What 'Encode' answers: the data, the error. -/
def encOut (st : Bool) (s t : ByteArray) : ByteArray × Int :=
  if 60 < s.size ∨ 4096 < t.size then (ByteArray.empty, 1) else
    match pAll st s with
    | none => (ByteArray.empty, 2)
    | some ty =>
      match encAll st t s.size ty with
      | none => (ByteArray.empty, 3)
      | some d => if 64 < d.size then (ByteArray.empty, 4) else (d, 0)

theorem encAll_bd {st : Bool} {t d : ByteArray} {n : Nat} {ty : Ty} (h : encAll st t n ty = some d) (ht : t.size ≤ 4096) (hn : n ≤ 100) : d.size ≤ 4000000 := by
  unfold encAll at h
  rcases hx : enc st t n ty 0 with _ | ⟨d', k⟩
  · rw [hx] at h; cases h
  · rw [hx] at h
    simp only at h
    split at h
    · cases h
      have := enc_bd hx
      exact data_small this.2.2 hn (by omega)
    · cases h

set_option maxHeartbeats 1000000 in
theorem Encode_any (s t : ByteArray) (hs : s.size ≤ maxLen) (ht : t.size ≤ maxLen) (w : World) :
    Calls Try.prog 9 #[.string s, .string t] w fun e w' => e = .returned (.tuple #[.string (encOut false s t).1, .int .i64 (encOut false s t).2]) ∧ Below w.heap.size w w' := by
  by_cases h1 : 4096 < t.size
  · have hr : Hid (encOut false s t = (ByteArray.empty, 1)) := by show _ = _; unfold encOut; rw [if_pos (.inr h1)]
    unfold maxLen at hs ht
    go_enter Try.func9, Try.ntmps9
    go_wp2_with fail
    go_ret2
    rw [hr.out]
    exact ⟨rfl, Below.refl _ _⟩
  · by_cases h2 : 60 < s.size
    · have hr : Hid (encOut false s t = (ByteArray.empty, 1)) := by show _ = _; unfold encOut; rw [if_pos (.inl h2)]
      have hcall := fun w => typeOf_long h2 hs w
      clear hs ht
      go_enter Try.func9, Try.ntmps9
      go_wp2_with (go_at_call 17; refine (hcall _).mono ?_; rintro e w1 ⟨rfl, hb1⟩)
      go_ret2
      rw [hr.out]
      exact ⟨rfl, Below.alloc' hb1 _⟩
    · have h0 : ¬ (60 < s.size ∨ 4096 < t.size) := by omega
      cases hx : pAll false s with
      | none =>
        have hr : Hid (encOut false s t = (ByteArray.empty, 2)) := by show _ = _; unfold encOut; rw [if_neg h0, hx]
        have hcall := fun w => TRet_no (typeOf_any (s := s) (by omega) w) hx
        clear hs ht hx
        go_enter Try.func9, Try.ntmps9
        go_wp2_with (go_at_call 17; refine (hcall _).mono ?_; rintro e w1 ⟨rfl, hb1⟩)
        go_ret2
        rw [hr.out]
        exact ⟨rfl, Below.alloc' hb1 _⟩
      | some ty =>
        have hcall := fun w => TRet_yes (typeOf_any (s := s) (by omega) w) hx
        have he := fun (W : World) (o : Obj) (ai : Option Addr) (li ci : Nat) (af : Option Addr) (lf cf : Nat) (S : Nat → Prop) (h : RepB S s.size W ai li ci af lf cf ty) => sEncode_any (t := t) (by omega) (show s.size ≤ 100 by omega) ty (W.alloc o) ai af li ci lf cf (h.rep.keep ((Below.refl _ _).alloc (Nat.le_refl _) _))
        cases hy : encAll false t s.size ty with
        | none =>
          have hr : Hid (encOut false s t = (ByteArray.empty, 3)) := by show _ = _; unfold encOut; rw [if_neg h0, hx]; simp only [hy]
          rw [hy] at he
          simp only [eRet] at he
          clear hs ht hx hy
          go_enter Try.func9, Try.ntmps9
          go_wp2_with (first | (go_at_call 17; refine (hcall _).mono ?_; rintro e w1 ⟨ai, li, ci, af, lf, cf, rfl, hr1, hb1⟩) | (go_at_call 19; refine (he _ _ _ _ _ _ _ _ _ hr1).mono ?_; rintro e w2 ⟨rfl, hb2⟩))
          go_ret2
          rw [hr.out]
          exact ⟨rfl, (Below.alloc' hb1 _).trans (hb2.mono (by have := hb1.size; simp; omega))⟩
        | some d =>
          have hds := encAll_bd hy (by omega) (by omega)
          rw [hy] at he
          simp only [eRet] at he
          by_cases h64 : 64 < d.size
          · have hr : Hid (encOut false s t = (ByteArray.empty, 4)) := by show _ = _; unfold encOut; rw [if_neg h0, hx]; simp only [hy, if_pos h64]
            clear hs ht hx hy
            go_enter Try.func9, Try.ntmps9
            go_wp2_with (first | (go_at_call 17; refine (hcall _).mono ?_; rintro e w1 ⟨ai, li, ci, af, lf, cf, rfl, hr1, hb1⟩) | (go_at_call 19; refine (he _ _ _ _ _ _ _ _ _ hr1).mono ?_; rintro e w2 ⟨rfl, hb2⟩))
            go_ret2
            rw [hr.out]
            exact ⟨rfl, (Below.alloc' hb1 _).trans (hb2.mono (by have := hb1.size; simp; omega))⟩
          · have hr : Hid (encOut false s t = (d, 0)) := by show _ = _; unfold encOut; rw [if_neg h0, hx]; simp only [hy, if_neg h64]
            clear hs ht hx hy
            go_enter Try.func9, Try.ntmps9
            go_wp2_with (first | (go_at_call 17; refine (hcall _).mono ?_; rintro e w1 ⟨ai, li, ci, af, lf, cf, rfl, hr1, hb1⟩) | (go_at_call 19; refine (he _ _ _ _ _ _ _ _ _ hr1).mono ?_; rintro e w2 ⟨rfl, hb2⟩))
            go_ret2
            rw [hr.out]
            exact ⟨rfl, (Below.alloc' hb1 _).trans (hb2.mono (by have := hb1.size; simp; omega))⟩
end
section
open Go.RowKit

theorem encAll_st (t : ByteArray) (n : Nat) (ty : Ty) : encAll true t n ty = encAll false t n ty := by
  have h := enc_rel t n ty
  unfold encAll
  rcases hf : enc false t n ty 0 with _ | ⟨d, k⟩
  · rw [h.none hf]
  · by_cases hk : k = t.size
    · rw [h.2 _ _ _ hf (by rw [bAt_out t k (by omega)]; omega)]
    · simp only [if_neg hk]
      rcases hg : enc true t n ty 0 with _ | ⟨d', k'⟩
      · rfl
      · have := h.1 _ _ _ hg
        rw [hf] at this
        simp only [Option.some.injEq, Prod.mk.injEq] at this
        obtain ⟨rfl, rfl⟩ := this
        simp only [if_neg hk]
def encD : Option ByteArray → ByteArray × Int
  | none => (ByteArray.empty, 3)
  | some d => if 64 < d.size then (ByteArray.empty, 4) else (d, 0)
theorem encOut_st (s t : ByteArray) : encOut true s t = encOut false s t := by
  unfold encOut; rw [pAll_st]
  split
  · rfl
  · split
    · rfl
    · rw [encAll_st]

set_option maxHeartbeats 1000000 in
theorem rEncode_any (s t : ByteArray) (hs : s.size ≤ maxLen) (ht : t.size ≤ maxLen) (w : World) :
    Calls Try.prog 10 #[.string s, .string t] w fun e w' => e = .returned (.tuple #[.string (encOut true s t).1, .int .i64 (encOut true s t).2]) ∧ Below w.heap.size w w' := by
  have hck := fun w => rCheck_any s hs w
  by_cases h1 : 60 < s.size
  · have hr : Hid (encOut true s t = (ByteArray.empty, 1)) := by show _ = _; unfold encOut; rw [if_pos (.inl h1)]
    rw [show chk true s = 1 by unfold chk; rw [if_pos h1]] at hck
    clear hs ht
    go_enter Try.func10, Try.ntmps10
    go_wp2_with (go_at_call 8; refine (hck _).mono ?_; rintro e w1 ⟨rfl, hb1⟩)
    go_ret2
    rw [hr.out]
    exact ⟨rfl, hb1⟩
  · cases hx : pAll true s with
    | none =>
      rw [show chk true s = 2 by unfold chk; rw [if_neg h1, hx]; rfl] at hck
      by_cases h2 : 4096 < t.size
      · have hr : Hid (encOut true s t = (ByteArray.empty, 1)) := by show _ = _; unfold encOut; rw [if_pos (.inr h2)]
        unfold maxLen at hs ht
        clear hx
        go_enter Try.func10, Try.ntmps10
        go_wp2_with (go_at_call 8; refine (hck _).mono ?_; rintro e w1 ⟨rfl, hb1⟩)
        go_ret2
        rw [hr.out]
        exact ⟨rfl, hb1⟩
      · have hr : Hid (encOut true s t = (ByteArray.empty, 2)) := by show _ = _; unfold encOut; rw [if_neg (by omega), hx]
        clear hx hs ht
        go_enter Try.func10, Try.ntmps10
        go_wp2_with (go_at_call 8; refine (hck _).mono ?_; rintro e w1 ⟨rfl, hb1⟩)
        go_ret2
        rw [hr.out]
        exact ⟨rfl, hb1⟩
    | some ty =>
      rw [show chk true s = 0 by unfold chk; rw [if_neg h1, hx]; rfl] at hck
      by_cases h2 : 4096 < t.size
      · have hr : Hid (encOut true s t = (ByteArray.empty, 1)) := by show _ = _; unfold encOut; rw [if_pos (.inr h2)]
        unfold maxLen at hs ht
        clear hx
        go_enter Try.func10, Try.ntmps10
        go_wp2_with (go_at_call 8; refine (hck _).mono ?_; rintro e w1 ⟨rfl, hb1⟩)
        go_ret2
        rw [hr.out]
        exact ⟨rfl, hb1⟩
      · have IL := (ref_all (s := s) (by omega) s.size (by omega)).2 t (by omega)
        have hp : ∃ k, pType true s s.size 0 = some (ty, k) := by
          unfold pAll at hx
          rcases hq : pType true s s.size 0 with _ | ⟨ty', k⟩
          · rw [hq] at hx; cases hx
          · rw [hq] at hx; simp only at hx
            split at hx
            · cases hx; exact ⟨k, rfl⟩
            · cases hx
        obtain ⟨kp, hp⟩ := hp
        have hOut : encOut true s t = encD (encAll true t s.size ty) := by unfold encOut; rw [if_neg (by omega), hx]; simp only; rcases encAll true t s.size ty with _ | d <;> rfl
        clear hx hs ht
        cases hy : enc true t s.size ty 0 with
        | none =>
          have hr : Hid (encOut true s t = (ByteArray.empty, 3)) := by show _ = _; rw [hOut]; unfold encAll; rw [hy]; rfl
          have hcall := fun w => IL.no w hp (by omega) (Nat.zero_le _) hy
          have hne : ((-1 : Int) != (t.size : Int)) = true := by rw [bne_iff_ne]; omega
          clear hOut hp hy IL
          go_enter Try.func10, Try.ntmps10
          go_wp2_with (first | (go_at_call 8; refine (hck _).mono ?_; rintro e w1 ⟨rfl, hb1⟩) | (go_at_call 20; refine (hcall _).mono ?_; rintro e w2 ⟨d', hd', rfl, hb2⟩))
          go_ret2
          rw [hr.out]
          exact ⟨rfl, hb1.trans (hb2.mono hb1.size)⟩
        | some q =>
          obtain ⟨d, k⟩ := q
          have hcall := fun w => IL.yes w hp (by omega) (Nat.zero_le _) hy
          obtain ⟨b1, b2, b3⟩ := enc_bd hy
          have hds := data_small b3 (show s.size ≤ 100 by omega) (by omega)
          by_cases hk : k = t.size
          · have hne : ((k : Int) != (t.size : Int)) = false := by simp; omega
            by_cases h64 : 64 < d.size
            · have hr : Hid (encOut true s t = (ByteArray.empty, 4)) := by show _ = _; rw [hOut]; unfold encAll; rw [hy]; simp only [if_pos hk, encD, if_pos h64]
              clear hOut hp hy IL b3 hk
              go_enter Try.func10, Try.ntmps10
              go_wp2_with (first | (go_at_call 8; refine (hck _).mono ?_; rintro e w1 ⟨rfl, hb1⟩) | (go_at_call 20; refine (hcall _).mono ?_; rintro e w2 ⟨rfl, hb2⟩))
              go_ret2
              rw [hr.out]
              exact ⟨rfl, hb1.trans (hb2.mono hb1.size)⟩
            · have hr : Hid (encOut true s t = (d, 0)) := by show _ = _; rw [hOut]; unfold encAll; rw [hy]; simp only [if_pos hk, encD, if_neg h64]
              clear hOut hp hy IL b3 hk
              go_enter Try.func10, Try.ntmps10
              go_wp2_with (first | (go_at_call 8; refine (hck _).mono ?_; rintro e w1 ⟨rfl, hb1⟩) | (go_at_call 20; refine (hcall _).mono ?_; rintro e w2 ⟨rfl, hb2⟩))
              go_ret2
              rw [hr.out]
              exact ⟨rfl, hb1.trans (hb2.mono hb1.size)⟩
          · have hne : ((k : Int) != (t.size : Int)) = true := by simp; omega
            have hr : Hid (encOut true s t = (ByteArray.empty, 3)) := by show _ = _; rw [hOut]; unfold encAll; rw [hy]; simp only [if_neg hk, encD]
            clear hOut hp hy IL b3 hk
            go_enter Try.func10, Try.ntmps10
            go_wp2_with (first | (go_at_call 8; refine (hck _).mono ?_; rintro e w1 ⟨rfl, hb1⟩) | (go_at_call 20; refine (hcall _).mono ?_; rintro e w2 ⟨rfl, hb2⟩))
            go_ret2
            rw [hr.out]
            exact ⟨rfl, hb1.trans (hb2.mono hb1.size)⟩
end
section
set_option maxRecDepth 4000
open Go.RowKit

set_option maxHeartbeats 1000000 in
theorem rFitted_ok (s t : ByteArray) (n : Int) (hn : (n != 7) = true) (h1 : ∀ w, Calls Try.prog 23 #[.string s, .string t] w fun e w' => e = .returned (.int .i64 n) ∧ Below w.heap.size w w') (w : World) :
    Calls Try.prog 12 #[.string s, .string t, .string ByteArray.empty, .int .i64 n] w fun e w' => e = .returned (.bool true) ∧ Below w.heap.size w w' := by
  have hnn : (n != n) = false := by simp
  go_enter Try.func12, Try.ntmps12
  go_wp2_with (go_at_call 23; refine (h1 _).mono ?_; rintro e w1 ⟨rfl, hb1⟩)
  go_ret
  exact ⟨ret_bool (by rfl), hb1⟩
set_option maxHeartbeats 1000000 in
theorem rFitted_no (s t T D z : ByteArray) (h1 : ∀ w, Calls Try.prog 23 #[.string s, .string t] w fun e w' => e = .returned (.int .i64 7) ∧ Below w.heap.size w w')
    (h2 : ∀ w, Calls Try.prog 10 #[.string s, .string T] w fun e w' => e = .returned (.tuple #[.string D, .int .i64 0]) ∧ Below w.heap.size w w')
    (h3 : ∀ w, Calls Try.prog 24 #[.string s, .string t, .string D] w fun e w' => e = .returned (.tuple #[.string z, .int .i64 6]) ∧ Below w.heap.size w w') (w : World) :
    Calls Try.prog 12 #[.string s, .string t, .string T, .int .i64 7] w fun e w' => e = .returned (.bool true) ∧ Below w.heap.size w w' := by
  go_enter Try.func12, Try.ntmps12
  go_wp2_with (first | (go_at_call 23; refine (h1 _).mono ?_; rintro e w1 ⟨rfl, hb1⟩) | (go_at_call 10; refine (h2 _).mono ?_; rintro e w2 ⟨rfl, hb2⟩) | (go_at_call 24; refine (h3 _).mono ?_; rintro e w3 ⟨rfl, hb3⟩))
  go_ret
  exact ⟨ret_bool (by rfl), thn2 (thn2 hb1 hb2) hb3⟩
set_option maxHeartbeats 1000000 in
theorem rRead_fail (s t d T : ByteArray) (hd : d.size ≤ 64) (hb : ∀ w, Calls Try.prog 50 #[.string s, .string t] w fun e w' => e = .returned (.int .i64 0) ∧ Below w.heap.size w w')
    (ht : ∀ w, Calls Try.prog 53 #[.string s, .int .i64 0, .string d, .int .i64 0] w fun e w' => e = .returned (.tuple #[.string T, .int .i64 d.size]) ∧ Below w.heap.size w w')
    (hsn : ∀ w, Calls Try.prog 52 #[.string s, .int .i64 0, .string t, .int .i64 0, .string d, .int .i64 0] w fun e w' => SRet none e ∧ Below w.heap.size w w') (w : World) :
    Calls Try.prog 24 #[.string s, .string t, .string d] w fun e w' => e = .returned (.tuple #[.string ByteArray.empty, .int .i64 6]) ∧ Below w.heap.size w w' := by
  have hk : ((d.size : Int) != (d.size : Int)) = false := by simp
  go_enter Try.func24, Try.ntmps24
  go_wp2_with (first | (go_at_call 50; refine (hb _).mono ?_; rintro e w1 ⟨rfl, hb1⟩) | (go_at_call 53; refine (ht _).mono ?_; rintro e w2 ⟨rfl, hb2⟩) | (go_at_call 52; refine (hsn _).mono ?_; rintro e w3 ⟨⟨z, rfl⟩, hb3⟩))
  go_ret2
  exact ⟨rfl, thn2 (thn2 hb1 hb2) hb3⟩
set_option maxHeartbeats 1000000 in
theorem fitted_walk0 (s t T : ByteArray) (n : Int) (h1 : ∀ w, Calls Try.prog 11 #[.string s, .string t] w fun e w' => e = .returned (.tuple #[.string T, .int .i64 n]) ∧ Below w.heap.size w w')
    (h2 : ∀ w, Calls Try.prog 12 #[.string s, .string t, .string T, .int .i64 n] w fun e w' => e = .returned (.bool true) ∧ Below w.heap.size w w') (w : World) :
    Calls Try.prog 5 #[.string s, .string t] w fun e w' => e = .returned (.bool true) ∧ Below w.heap.size w w' := by
  go_enter Try.func5, Try.ntmps5
  go_wp2_with (first | (go_at_call 11; refine (h1 _).mono ?_; rintro e w1 ⟨rfl, hb1⟩) | (go_at_call 12; refine (h2 _).mono ?_; rintro e w2 ⟨rfl, hb2⟩))
  go_ret
  exact ⟨rfl, thn2 hb1 hb2⟩
end
section
set_option maxRecDepth 4000
open Go.RowKit

theorem enc_of {s : ByteArray} {x : Ty} {v : Val} (hs : s.size ≤ 60) (hx : pAll false s = some x) (hv : okV s.size x v) (hT : (txtV s.size x v).size ≤ 4096) : encOut false s (txtV s.size x v) = if 64 < (datV s.size v).size then (ByteArray.empty, 4) else (datV s.size v, 0) := by
  have hp := pAll_sm (show pAll true s = some x by rw [pAll_st]; exact hx)
  have hg := type_good _ _ _ _ hp
  have he := enc_at (st := false) (t := txtV s.size x v) s.size x v 0 hv hg.1 (At.self _) (by rw [bAt_out _ _ (by omega)]; exact DL_of (by omega))
  rw [Nat.zero_add] at he
  unfold encOut
  rw [if_neg (by omega), hx]
  simp only
  rw [show encAll false (txtV s.size x v) s.size x = some (datV s.size v) by unfold encAll; rw [he]; simp]
/-- The reference's 'Fits' and what it says of the program's answer. -/
theorem rFitted_any (s t : ByteArray) (hs : s.size ≤ maxLen) (ht : t.size ≤ maxLen) (w : World) :
    Calls Try.prog 12 #[.string s, .string t, .string (fitOut s t).1, .int .i64 (fitOut s t).2] w fun e w' => e = .returned (.bool true) ∧ Below w.heap.size w w' := by
  have hbo := fun w => both_any s t hs ht w
  unfold fitOut
  by_cases h2 : 60 < s.size ∨ 60 < t.size
  · rw [if_pos h2]
    rw [both_long h2] at hbo
    exact rFitted_ok s t 1 rfl (fun w => rFits_err s t 1 rfl hbo w) w
  rw [if_neg h2, ← pAll_st s, ← pAll_st t]
  cases hx : pAll true s with
  | none =>
    rw [both_bad h2 (.inl hx)] at hbo
    exact rFitted_ok s t 2 rfl (fun w => rFits_err s t 2 rfl hbo w) w
  | some x =>
    cases hr : pAll true t with
    | none =>
      rw [both_bad h2 (.inr hr)] at hbo
      exact rFitted_ok s t 2 rfl (fun w => rFits_err s t 2 rfl hbo w) w
    | some r =>
      rw [both_good h2 hx hr] at hbo
      have hs60 : s.size ≤ 60 := by omega
      have ht60 : t.size ≤ 60 := by omega
      have hp := pAll_sm hx
      have hq := pAll_sm hr
      have hLx := (type_all _ _ _ _ hp).1
      have hLr := (type_all _ _ _ _ hq).1
      have hwx := pAll_wt hx hs60 s.size
      have hln := type_ln s.size _ _ _ _ hp
      have hsm := fun w => SmIs.of (samples_all (s := s) (by omega) s.size (by omega)) 0 x s.size w hp (by omega) hwx
      have hok := sm_ok s.size x hLx
      have hdat := sm_dat s.size x hLx
      have hlen := sm_len s.size x hLx
      have hseen : ∀ v, okV s.size x v → (datV s.size v).size ≤ 64 → ∀ w, Calls Try.prog 52 #[.string s, .int .i64 0, .string t, .int .i64 0, .string (datV s.size v), .int .i64 0] w fun e w' => SRet (rdT (s.size + t.size) x r v) e ∧ Below w.heap.size w w' := fun v hv hd w =>
        seen_all (s := s) (t := t) (d := datV s.size v) (by omega) (by omega) hd (s.size + t.size) s.size t.size 0 0 0 x r s.size t.size v w (Nat.le_refl _) (by omega) (by omega) hp (by omega) hq (by omega) hv (At.self _) (pAll_wt hr ht60 _)
      have hL := fun w => rFits_loop s t ((smV s.size x).map (datV s.size)) (by rw [List.length_map]; omega) hbo hsm ((smV s.size x).map fun v => (rdT (s.size + t.size) x r v).isSome) (by simp) (fun y d c hd hc w => by
        rw [List.getElem?_map] at hd hc
        obtain ⟨v, hv, rfl⟩ := Option.map_eq_some_iff.1 hd
        rw [hv] at hc
        cases hc
        have hm := List.mem_of_getElem? hv
        refine (hseen v (hok v hm) (by have := hdat v hm; omega) w).mono ?_
        rintro e w' ⟨he, hb⟩
        obtain ⟨z, hz⟩ := sret_bool he
        exact ⟨z, hz, hb⟩) w
      simp only
      cases hu : unV (s.size + t.size) s.size x r with
      | none =>
        have hgood := fun v hv => un_good (s.size + t.size) (s.size + t.size) s.size t.size x r v (Nat.le_refl _) (Nat.le_refl _) hLx hLr hu hv
        rw [if_pos (by rw [List.all_map, List.all_eq_true]; intro v hv; have := hgood v (hok v hv); cases hz : rdT (s.size + t.size) x r v with
          | none => exact absurd hz this
          | some y => simp [hz])] at hL
        exact rFitted_ok s t 0 rfl hL w
      | some u =>
        have hbad := un_bad _ _ _ _ _ hLx hu
        have hmem := un_sm _ _ _ _ _ hLx hu
        have hdu : (datV s.size u).size ≤ 64 := by have := hdat u hmem; omega
        have htx : (txtV s.size x u).size ≤ 4096 := by
          have h1 := txt_len s.size x u hbad.1
          have h2 := hdat u hmem
          have h3 : (ln s.size x + 4) * (datV s.size u).size ≤ 64 * 60 := Nat.mul_le_mul (by omega) (by omega)
          omega
        rw [if_neg (by
          intro hall
          rw [List.all_map, List.all_eq_true] at hall
          have := hall u hmem
          simp [hbad.2] at this)] at hL
        have hE := fun w => rEncode_any s (txtV s.size x u) hs (by unfold maxLen; omega) w
        rw [encOut_st, enc_of hs60 (by rw [← pAll_st]; exact hx) hbad.1 htx, if_neg (by omega)] at hE
        have IL := tell_all (s := s) (t := datV s.size u) (by omega) (by omega) s.size (by omega)
        have hdm := dec_mk (d := datV s.size u) s.size x u 0 hbad.1 (At.self _)
        rw [Nat.zero_add] at hdm
        have htl := fun w => IL.yes w hp (by omega) (Nat.zero_le _) hdm
        have hsn := hseen u hbad.1 hdu
        rw [hbad.2] at hsn
        exact rFitted_no s t (txtV s.size x u) (datV s.size u) ByteArray.empty hL hE (fun w => rRead_fail s t (datV s.size u) (txtV s.size x u) hdu hbo htl hsn w) w
theorem fitted_walk (s t : ByteArray) (hs : s.size ≤ maxLen) (ht : t.size ≤ maxLen) (w : World) :
    Calls Try.prog 5 #[.string s, .string t] w fun e w' => e = .returned (.bool true) ∧ Below w.heap.size w w' :=
  fitted_walk0 s t _ _ (fun w => Fits_any s t hs ht (fun x hx h => pAll_wt hx h _) w) (fun w => rFitted_any s t hs ht w) w
end
end Go.Proofs.Ytkkekopomiehlaa
