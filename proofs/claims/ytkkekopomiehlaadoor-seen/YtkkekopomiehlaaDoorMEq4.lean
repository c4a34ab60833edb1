import Derived.Test.YtkkekopomiehlaaDoorEq3
import Derived.Test.YtkkekopomiehlaaDoorProg0
import Derived.Test.YtkkekopomiehlaaDoorRef8
set_option linter.unusedVariables false
set_option linter.unusedSimpArgs false
namespace Go.Proofs.YtkkekopomiehlaaDoor
section
/-- 'g' gives what 'f' gives, but where a '-' stands behind. -/
def Rel (t : ByteArray) (f g : Nat → Option (ByteArray × Nat)) : Prop := (∀ j d k, g j = some (d, k) → f j = some (d, k)) ∧ (∀ j d k, f j = some (d, k) → bAt t k ≠ 45 → g j = some (d, k))
theorem Rel.refl (t : ByteArray) (f : Nat → Option (ByteArray × Nat)) : Rel t f f := ⟨fun _ _ _ h => h, fun _ _ _ h _ => h⟩
theorem Rel.none {t : ByteArray} {f g : Nat → Option (ByteArray × Nat)} (h : Rel t f g) {j : Nat} (hf : f j = none) : g j = none := by
  rcases hg : g j with _ | ⟨d, k⟩
  · rfl
  · rw [h.1 _ _ _ hg] at hf; cases hf
theorem encNum_rel (lo hi : Int) (t : ByteArray) : Rel t (encNum false lo hi t) (encNum true lo hi t) := by
  constructor
  · intro j d k h
    unfold encNum at h ⊢
    split at h
    · cases h
    · split at h
      · cases h
      · rename_i hr
        split at h
        · cases h
        · simp only [if_neg hr]; simpa using h
  · intro j d k h hk
    unfold encNum at h ⊢
    split at h
    · cases h
    · split at h
      · cases h
      · rename_i hr
        simp only [if_neg hr]
        simp at h
        rw [if_neg (by rw [h.2]; exact fun x => hk x.2)]
        simp [h]
theorem encItems_rel {t : ByteArray} {f g : Nat → Option (ByteArray × Nat)} (h : Rel t f g) : ∀ (m c b : Nat) (d : ByteArray), encItems g t m c b d = encItems f t m c b d
  | 0, c, b, d => rfl
  | m + 1, c, b, d => by
    rw [encItems, encItems]
    rcases hf : f (b + 1) with _ | ⟨x, k⟩
    · rw [h.none hf]
    · by_cases h45 : bAt t k = 45
      · simp only [if_neg (show ¬ bAt t k = 93 by omega), if_neg (show ¬ bAt t k = 44 by omega)]
        rcases hg : g (b + 1) with _ | ⟨x', k'⟩
        · rfl
        · have := h.1 _ _ _ hg
          rw [hf] at this
          simp only [Option.some.injEq, Prod.mk.injEq] at this
          obtain ⟨rfl, rfl⟩ := this
          simp only [if_neg (show ¬ bAt t k = 93 by omega), if_neg (show ¬ bAt t k = 44 by omega)]
      · rw [h.2 _ _ _ hf h45]
        simp only
        rw [encItems_rel h m (c + 1) k (d ++ x)]
theorem encFlds_minus {t : ByteArray} {f : Ty → Nat → Option (ByteArray × Nat)} {fs : List (Nat × Ty × ByteArray)} {b : Nat} {d : ByteArray} (h : bAt t b = 45) : encFlds f t fs 44 b d = none := by
  cases fs with
  | nil => rw [encFlds, if_neg (by omega)]
  | cons g fs => rw [encFlds, if_neg (by omega)]
theorem encFlds_rel {t : ByteArray} {f g : Ty → Nat → Option (ByteArray × Nat)} (h : ∀ ty, Rel t (f ty) (g ty)) : ∀ (fs : List (Nat × Ty × ByteArray)) (mk : Int) (b : Nat) (d : ByteArray), encFlds g t fs mk b d = encFlds f t fs mk b d
  | [], mk, b, d => by rw [encFlds, encFlds]
  | x :: fs, mk, b, d => by
    rw [encFlds, encFlds]
    split
    · rcases hf : f x.2.1 (b + 3) with _ | ⟨y, k⟩
      · rw [(h _).none hf]
      · by_cases h45 : bAt t k = 45
        · simp only
          rw [encFlds_minus h45]
          rcases hg : g x.2.1 (b + 3) with _ | ⟨y', k'⟩
          · rfl
          · have := (h _).1 _ _ _ hg
            rw [hf] at this
            simp only [Option.some.injEq, Prod.mk.injEq] at this
            obtain ⟨rfl, rfl⟩ := this
            simp only
            exact encFlds_minus h45
        · rw [(h _).2 _ _ _ hf h45]
          simp only
          exact encFlds_rel h fs 44 k (d ++ y)
    · rfl
theorem encMaybe_rel {t : ByteArray} {f g : Nat → Option (ByteArray × Nat)} (h : Rel t f g) : Rel t (encMaybe f t) (encMaybe g t) := by
  constructor
  · intro j d k hj
    unfold encMaybe at hj ⊢
    split at hj
    · rename_i hc; rw [if_pos hc]; exact hj
    · rename_i hc; rw [if_neg hc]
      rcases hg : g j with _ | ⟨x, k'⟩
      · rw [hg] at hj; cases hj
      · rw [hg] at hj; rw [h.1 _ _ _ hg]; exact hj
  · intro j d k hj hk
    unfold encMaybe at hj ⊢
    split at hj
    · rename_i hc; rw [if_pos hc]; exact hj
    · rename_i hc; rw [if_neg hc]
      rcases hf : f j with _ | ⟨x, k'⟩
      · rw [hf] at hj; cases hj
      · rw [hf] at hj
        simp only [Option.some.injEq, Prod.mk.injEq] at hj
        rw [h.2 _ _ _ hf (by rw [hj.2]; exact hk)]
        simp [hj]
theorem enc_rel (t : ByteArray) : ∀ (n : Nat) (ty : Ty), Rel t (enc false t n ty) (enc true t n ty)
  | 0, ty => ⟨fun j d k h => by simp [enc] at h, fun j d k h => by simp [enc] at h⟩
  | n + 1, ty => by
    have ih := enc_rel t n
    have eF : ∀ j, enc false t (n + 1) ty j = _ := fun j => by rw [enc]
    have eT : ∀ j, enc true t (n + 1) ty j = _ := fun j => by rw [enc]
    have key : ∀ (a b : Nat → Option (ByteArray × Nat)), (∀ j, enc false t (n + 1) ty j = a j) → (∀ j, enc true t (n + 1) ty j = b j) → Rel t a b → Rel t (enc false t (n + 1) ty) (enc true t (n + 1) ty) := fun a b ha hb h =>
      ⟨fun j d k hj => by rw [ha]; rw [hb] at hj; exact h.1 j d k hj, fun j d k hj hk => by rw [hb]; rw [ha] at hj; exact h.2 j d k hj hk⟩
    by_cases h1 : ty.kind = 105
    · exact key _ _ (fun j => by rw [enc, if_pos h1]) (fun j => by rw [enc, if_pos h1]) (encNum_rel _ _ t)
    by_cases h2 : ty.kind = 108
    · exact key _ _ (fun j => by rw [enc, if_neg h1, if_pos h2]) (fun j => by rw [enc, if_neg h1, if_pos h2]) (encNum_rel _ _ t)
    by_cases h3 : ty.kind = 115
    · exact key _ _ (fun j => by rw [enc, if_neg h1, if_neg h2, if_pos h3]) (fun j => by rw [enc, if_neg h1, if_neg h2, if_pos h3]) (Rel.refl t _)
    by_cases h4 : ty.kind = 60
    · exact key (encCho ty.letters t) (encCho ty.letters t) (fun j => by rw [enc, if_neg h1, if_neg h2, if_neg h3, if_pos h4]; rfl) (fun j => by rw [enc, if_neg h1, if_neg h2, if_neg h3, if_pos h4]; rfl) (Rel.refl t _)
    by_cases h5 : ty.kind = 91
    · refine key (encList (enc false t n ty.in) t) (encList (enc false t n ty.in) t) (fun j => by rw [enc, if_neg h1, if_neg h2, if_neg h3, if_neg h4, if_pos h5]) (fun j => ?_) (Rel.refl t _)
      rw [enc, if_neg h1, if_neg h2, if_neg h3, if_neg h4, if_pos h5]
      unfold encList
      rw [encItems_rel (ih ty.in)]
    by_cases h6 : ty.kind = 63
    · exact key _ _ (fun j => by rw [enc, if_neg h1, if_neg h2, if_neg h3, if_neg h4, if_neg h5, if_pos h6]) (fun j => by rw [enc, if_neg h1, if_neg h2, if_neg h3, if_neg h4, if_neg h5, if_pos h6]) (encMaybe_rel (ih ty.in))
    by_cases h7 : ty.kind = 123
    · exact key (fun j => encFlds (enc false t n) t ty.fields 123 j ByteArray.empty) (fun j => encFlds (enc false t n) t ty.fields 123 j ByteArray.empty) (fun j => by rw [enc, if_neg h1, if_neg h2, if_neg h3, if_neg h4, if_neg h5, if_neg h6, if_pos h7]) (fun j => by
        rw [enc, if_neg h1, if_neg h2, if_neg h3, if_neg h4, if_neg h5, if_neg h6, if_pos h7, encFlds_rel ih]) (Rel.refl t _)
    · exact key (fun _ => none) (fun _ => none) (fun j => by rw [enc, if_neg h1, if_neg h2, if_neg h3, if_neg h4, if_neg h5, if_neg h6, if_neg h7]) (fun j => by rw [enc, if_neg h1, if_neg h2, if_neg h3, if_neg h4, if_neg h5, if_neg h6, if_neg h7]) (Rel.refl t _)
theorem pField_rel {pt : Nat → Option (Ty × Nat)} {ef eg : Ty → Nat → Option (ByteArray × Nat)} {s : ByteArray} (h : ∀ ty, Rel s (ef ty) (eg ty)) :
    (∀ a f k, pField pt eg s a = some (f, k) → pField pt ef s a = some (f, k)) ∧ (∀ a f k, pField pt ef s a = some (f, k) → bAt s k ≠ 45 → pField pt eg s a = some (f, k)) := by
  constructor
  · intro a f k hx
    unfold pField at hx ⊢
    split at hx
    · rename_i hc; rw [if_pos hc]
      rcases hp : pt (a + 2) with _ | ⟨ty, k'⟩
      · rw [hp] at hx; cases hx
      · rw [hp] at hx
        simp only at hx ⊢
        split at hx
        · rename_i h6; rw [if_pos h6]
          rcases hy : eg ty (k' + 1) with _ | ⟨d, m⟩
          · rw [hy] at hx; cases hx
          · rw [hy] at hx; rw [(h ty).1 _ _ _ hy]; exact hx
        · rename_i h6; rw [if_neg h6]; exact hx
    · cases hx
  · intro a f k hx hk
    unfold pField at hx ⊢
    split at hx
    · rename_i hc; rw [if_pos hc]
      rcases hp : pt (a + 2) with _ | ⟨ty, k'⟩
      · rw [hp] at hx; cases hx
      · rw [hp] at hx
        simp only at hx ⊢
        split at hx
        · rename_i h6; rw [if_pos h6]
          rcases hy : ef ty (k' + 1) with _ | ⟨d, m⟩
          · rw [hy] at hx; cases hx
          · rw [hy] at hx
            have hx2 := hx
            simp only [Option.some.injEq, Prod.mk.injEq] at hx2
            rw [(h ty).2 _ _ _ hy (by rw [hx2.2]; exact hk)]; exact hx
        · rename_i h6; rw [if_neg h6]; exact hx
    · cases hx
theorem pFlds_rel {pf pg : Nat → Option ((Nat × Ty × ByteArray) × Nat)} {s : ByteArray} (h1 : ∀ a f k, pg a = some (f, k) → pf a = some (f, k)) (h2 : ∀ a f k, pf a = some (f, k) → bAt s k ≠ 45 → pg a = some (f, k)) :
    ∀ (m a : Nat) (acc : List (Nat × Ty × ByteArray)), pFlds pg s m a acc = pFlds pf s m a acc
  | 0, a, acc => rfl
  | m + 1, a, acc => by
    rw [pFlds, pFlds]
    rcases hf : pf a with _ | ⟨f, k⟩
    · rcases hg : pg a with _ | ⟨f', k'⟩
      · rfl
      · rw [h1 _ _ _ hg] at hf; cases hf
    · by_cases h45 : bAt s k = 45
      · simp only [if_neg (show ¬ bAt s k = 125 by omega), if_neg (show ¬ bAt s k = 44 by omega), ite_self]
        rcases hg : pg a with _ | ⟨f', k'⟩
        · rfl
        · have := h1 _ _ _ hg
          rw [hf] at this
          simp only [Option.some.injEq, Prod.mk.injEq] at this
          obtain ⟨rfl, rfl⟩ := this
          simp only [if_neg (show ¬ bAt s k = 125 by omega), if_neg (show ¬ bAt s k = 44 by omega), ite_self]
      · rw [h2 _ _ _ hf h45]
        simp only
        rw [pFlds_rel h1 h2 m (k + 1) (acc ++ [f])]
theorem pType_st (s : ByteArray) : ∀ (n i : Nat), pType true s n i = pType false s n i
  | 0, i => rfl
  | n + 1, i => by
    have ih : pType true s n = pType false s n := funext (pType_st s n)
    rw [pType, pType, ih]
    have hr := pField_rel (pt := pType false s n) (s := s) (fun ty => enc_rel s n ty)
    have e : ∀ a, pRec (pField (pType false s n) (enc true s n) s) s a = pRec (pField (pType false s n) (enc false s n) s) s a := fun a => by
      unfold pRec; rw [pFlds_rel hr.1 hr.2]
    rw [e]
theorem pAll_st (s : ByteArray) : pAll true s = pAll false s := by unfold pAll; rw [pType_st]
end
section
set_option maxRecDepth 4000
open Go.RowKit

set_option maxHeartbeats 1000000 in
theorem rCheck_any (s : ByteArray) (hm : s.size ≤ maxLen) (w : World) :
    Calls Tryd.prog 22 #[.string s] w fun e w' => e = .returned (.int .i64 (chk true s)) ∧ Below w.heap.size w w' := by
  by_cases hs : 60 < s.size
  · have hr : Hid (chk true s = 1) := by show _ = _; unfold chk; rw [if_pos hs]
    unfold maxLen at hm
    go_enter Tryd.func22, Tryd.ntmps22
    go_wp2_with fail
    go_ret
    exact ⟨ret_int hr.out.symm, Below.refl _ _⟩
  · have IE := (ref_all (s := s) (by omega) s.size (by omega)).1
    rcases hx : pType true s s.size 0 with _ | ⟨ty, k⟩
    · have hr : Hid (chk true s = 2) := by show _ = _; unfold chk pAll; rw [if_neg hs, hx]; rfl
      have hcall := fun w => IE.no w (by omega) (by omega) hx
      have hne : ((-1 : Int) != (s.size : Int)) = true := by rw [bne_iff_ne]; omega
      clear hx IE hm
      go_enter Tryd.func22, Tryd.ntmps22
      go_wp2_with (go_at_call 33; refine (hcall _).mono ?_; rintro e w1 ⟨rfl, hb1⟩)
      go_ret
      exact ⟨ret_int hr.out.symm, hb1⟩
    · have hk := pType_bd true s _ _ _ _ hx
      have hcall := fun w => IE.yes w (by omega) (by omega) hx
      by_cases he : k = s.size
      · have hr : Hid (chk true s = 0) := by show _ = _; unfold chk pAll; rw [if_neg hs, hx]; simp only [if_pos he]; rfl
        have hne : ((k : Int) != (s.size : Int)) = false := by simp; omega
        have h1 : ¬ (k : Int) < 1 := by omega
        clear hx IE hm he
        go_enter Tryd.func22, Tryd.ntmps22
        go_wp2_with (go_at_call 33; refine (hcall _).mono ?_; rintro e w1 ⟨rfl, hb1⟩)
        go_ret
        exact ⟨ret_int hr.out.symm, hb1⟩
      · have hr : Hid (chk true s = 2) := by show _ = _; unfold chk pAll; rw [if_neg hs, hx]; simp only [if_neg he]; rfl
        have hne : ((k : Int) != (s.size : Int)) = true := by simp; omega
        clear hx IE hm he
        go_enter Tryd.func22, Tryd.ntmps22
        go_wp2_with (go_at_call 33; refine (hcall _).mono ?_; rintro e w1 ⟨rfl, hb1⟩)
        go_ret
        exact ⟨ret_int hr.out.symm, hb1⟩
theorem chk_st (s : ByteArray) : chk true s = chk false s := by unfold chk; rw [pAll_st]
end
end Go.Proofs.YtkkekopomiehlaaDoor
