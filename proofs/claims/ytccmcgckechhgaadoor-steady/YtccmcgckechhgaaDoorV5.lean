import Derived.Test.YtccmcgckechhgaaDoorV4
import Derived.Test.YtccmcgckechhgaaDoorSn1
set_option linter.unusedVariables false
set_option linter.unusedSimpArgs false
namespace Go.Proofs.YtccmcgckechhgaaDoor
open Go.RowKit

/-- The letters of the fields of records are different, all the way down. -/
def tyN : Nat → Ty → Prop
  | 0, _ => True
  | n + 1, ty => (ty.fields.map (·.1)).Nodup ∧ (ty.kind = 91 ∨ ty.kind = 63 → tyN n ty.in) ∧ ∀ f ∈ ty.fields, tyN n f.2.1
theorem pFlds_G {pf : Nat → Option ((Nat × Ty × ByteArray) × Nat)} {s : ByteArray} {Q : (Nat × Ty × ByteArray) → Prop} (hp : ∀ i f k, pf i = some (f, k) → Q f) :
    ∀ (m a : Nat) (acc fs : List (Nat × Ty × ByteArray)) (k : Nat), pFlds pf s m a acc = some (fs, k) → (∀ f ∈ acc, Q f) → (acc.map (·.1)).Nodup → (∀ f ∈ fs, Q f) ∧ (fs.map (·.1)).Nodup
  | 0, a, acc, fs, k, h, _, _ => by simp [pFlds] at h
  | m + 1, a, acc, fs, k, h, hq, hn => by
    rw [pFlds] at h
    split at h
    · cases h
    · rename_i f k' hf
      split at h
      · cases h
      · rename_i hany
        have hq' : ∀ g ∈ acc ++ [f], Q g := fun g hg => by
          rcases List.mem_append.1 hg with hg | hg
          · exact hq g hg
          · rw [List.mem_singleton.1 hg]; exact hp _ _ _ hf
        have hn' : ((acc ++ [f]).map (·.1)).Nodup := by
          rw [List.map_append, List.nodup_append]
          refine ⟨hn, by simp, fun a ha b hb => ?_⟩
          obtain ⟨g, hg, rfl⟩ := List.mem_map.1 ha
          simp at hb
          subst hb
          intro he
          apply hany
          rw [List.any_eq_true]
          exact ⟨g, hg, by simp [he]⟩
        split at h
        · cases h; exact ⟨hq', hn'⟩
        · split at h
          · exact pFlds_G hp m _ _ _ _ h hq' hn'
          · cases h
theorem type_good {s : ByteArray} : ∀ (n i : Nat) (ty : Ty) (k : Nat), pType true s n i = some (ty, k) → tyG n ty ∧ tyN n ty
  | 0, i, ty, k, h => by simp [pType] at h
  | n + 1, i, ty, k, h => by
    have ih := type_good (s := s) n
    have his : i < s.size := by have := pType_bd true s _ _ _ _ h; omega
    obtain ⟨_, n', hn, h60, hin, hne, h123, hk⟩ := type_parts h
    obtain rfl : n' = n := by omega
    have hfs : (∀ f ∈ ty.fields, f.1 < 256 ∧ tyG n' f.2.1 ∧ tyN n' f.2.1) ∧ (ty.fields.map (·.1)).Nodup := by
      by_cases h3 : ty.kind = 123
      · obtain ⟨k', hk'⟩ := h123 h3
        exact pFlds_G (Q := fun f => f.1 < 256 ∧ tyG n' f.2.1 ∧ tyN n' f.2.1) (fun i f k hf => by
          have h256 := pField_256 hf
          unfold pField at hf
          split at hf
          · split at hf
            · cases hf
            · rename_i t k' ht
              have h1 := ih _ _ _ ht
              split at hf
              · split at hf
                · cases hf
                · cases hf; exact ⟨h256, h1.1, h1.2⟩
              · cases hf; exact ⟨h256, h1.1, h1.2⟩
          · cases hf) _ _ _ _ _ hk' (fun f hf => absurd hf List.not_mem_nil) (by simp)
      · have : ty.fields = [] := by
          rw [pType] at h
          split at h
          · cases h; rfl
          · split at h
            · cases h; rfl
            · split at h
              · cases h; rfl
              · split at h
                · rw [pChoice_eq s (i + 1) (by omega)] at h
                  unfold rChoice at h
                  simp only at h
                  split at h
                  · cases h
                  · split at h
                    · split at h
                      · cases h; rfl
                      · cases h
                    · split at h
                      · cases h; rfl
                      · cases h
                · split at h
                  · unfold pList at h
                    split at h
                    · cases h
                    · split at h
                      · cases h; rfl
                      · cases h
                  · split at h
                    · unfold pMaybe at h
                      split at h
                      · cases h
                      · split at h
                        · cases h
                        · cases h; rfl
                    · split at h
                      · unfold pRec at h
                        split at h
                        · cases h
                        · cases h; exact absurd rfl h3
                      · cases h
        rw [this]
        exact ⟨fun f hf => absurd hf List.not_mem_nil, by simp⟩
    have hinn : ty.kind = 91 ∨ ty.kind = 63 → tyG n' ty.in ∧ tyN n' ty.in := fun h => by
      obtain ⟨k', hk'⟩ := hin h
      exact ih _ _ _ hk'
    refine ⟨⟨fun h6 j hj => ?_, hne, fun h => (hinn h).1, fun f hf => ⟨(hfs.1 f hf).1, (hfs.1 f hf).2.1⟩⟩, hfs.2, fun h => (hinn h).2, fun f hf => (hfs.1 f hf).2.2⟩
    have hr := h60 h6
    obtain ⟨l1, l2, l3, l4, l5⟩ := rChoice_op (by omega) hr
    have hle := run_le isL s (s.size - (i + 1)) (i + 1)
    have hb : ∀ q, q < ty.letters.size → bAt ty.letters q = bAt s (i + 1 + q) := fun q hq => by
      rw [l1, bAt_ext s (i + 1) _ q (by omega) (by omega)]
    constructor
    · rw [hb j hj]
      exact run_all isL s (s.size - (i + 1)) (i + 1) (i + 1 + j) (by omega) (by omega)
    · intro q hq he
      unfold rChoice at hr
      simp only at hr
      split at hr
      · cases hr
      · rename_i hc
        apply hc
        refine .inr (.inr ?_)
        rw [← l1]
        exact tw_true hq hj he.symm
theorem rdItems_txt {f : Val → Option ByteArray} {tv : Val → ByteArray} : ∀ (vs : List Val) (k : Nat) (t : ByteArray), (∀ v ∈ vs, f v = some (tv v)) → rdItems f vs k t = some (itemsT k (vs.map tv) t)
  | [], k, t, h => rfl
  | v :: vs, k, t, h => by
    rw [rdItems, h v (by simp)]
    simp only
    rw [rdItems_txt vs (k + 1) _ (fun v hv => h v (by simp [hv])), List.map_cons, itemsT]
theorem rdFlds_txt {f : Nat × Ty × ByteArray → Option ByteArray} {tv : Ty → Val → ByteArray} : ∀ (fs : List (Nat × Ty × ByteArray)) (vs : List Val) (mk t : ByteArray), vs.length = fs.length → (∀ p ∈ fs.zip vs, f p.1 = some (tv p.1.2.1 p.2)) → rdFlds f fs mk t = some (fldsT ((fs.zip vs).map fun p => (p.1.1, tv p.1.2.1 p.2)) mk t)
  | [], vs, mk, t, hl, h => by cases vs <;> rfl
  | g :: fs, [], mk, t, hl, h => by simp at hl
  | g :: fs, v :: vs, mk, t, hl, h => by
    rw [rdFlds, h (g, v) (by simp)]
    simp only
    rw [rdFlds_txt fs vs _ _ (by simpa using hl) (fun p hp => h p (by simp [hp])), List.zip_cons_cons, List.map_cons, fldsT]
theorem find_self : ∀ (fs : List (Nat × Ty × ByteArray)) (vs : List Val), vs.length = fs.length → (fs.map (·.1)).Nodup → ∀ p ∈ fs.zip vs, (fs.zip vs).find? (fun q => q.1.1 == p.1.1) = some p
  | [], vs, hl, hn, p, hp => by simp at hp
  | g :: fs, [], hl, hn, p, hp => by simp at hl
  | g :: fs, v :: vs, hl, hn, p, hp => by
    rw [List.zip_cons_cons] at hp ⊢
    rw [List.map_cons, List.nodup_cons] at hn
    rw [List.find?_cons]
    rcases List.mem_cons.1 hp with rfl | hp
    · simp
    · have hne : ((g, v).1.1 == p.1.1) = false := by
        have : p.1 ∈ fs := (List.of_mem_zip (a := p.1) (b := p.2) hp).1
        have h2 : g.1 ≠ p.1.1 := fun he => hn.1 (List.mem_map.2 ⟨p.1, this, he.symm⟩)
        simpa using h2
      rw [hne]
      exact find_self fs vs (by simpa using hl) hn.2 p hp
/-- A value is read by its own type as it is. -/
theorem rd_self : ∀ (n m : Nat) (ty : Ty) (v : Val), okV n ty v → tyG n ty → tyN n ty → n + n ≤ m → rdT m ty ty v = some (txtV n ty v)
  | 0, m, ty, v, h, _, _, _ => h.elim
  | n + 1, 0, ty, v, h, _, _, hm => by omega
  | n + 1, 1, ty, v, h, _, _, hm => by omega
  | n + 1, m + 2, ty, v, h, hg, hn, hm => by
    show rdStep (rdT (m + 1)) ty ty v = _
    unfold rdStep
    rcases h with ⟨x, rfl, h⟩ | ⟨s, rfl, h⟩ | ⟨i, rfl, h⟩ | ⟨vs, rfl, h⟩ | ⟨rfl, h⟩ | ⟨u, rfl, h⟩ | ⟨vs, rfl, h⟩
    · rw [if_neg (by omega), if_neg (by omega), if_pos (by rcases h with h | h <;> simp [sameK, h.1])]; rfl
    · rw [if_neg (by omega), if_neg (by omega), if_pos (by simp [sameK, h.1])]; rfl
    · rw [if_neg (by omega), if_neg (by omega), if_neg (by simp [sameK, h.1]), if_neg (by simp)]
      show rdCho ty.letters ty.letters ty.op i = _
      unfold rdCho
      rw [pOf_at h.2.1 (hg.1 h.1 i h.2.1).2, if_neg (by omega), txtV_cho]
    · rw [if_neg (by omega), if_neg (by omega), if_neg (by simp [sameK, h.1]), if_neg (by simp)]
      show rdItems (rdT (m + 1) ty.in ty.in) vs 0 ⟨#[91]⟩ = _
      rw [rdItems_txt (tv := txtV n ty.in) vs 0 _ (fun v hv => rd_self n (m + 1) ty.in v (h.2.2 v hv) (hg.2.2.1 (.inl h.1)) (hn.2.1 (.inl h.1)) (by omega)), txtV_lst]
    · rw [if_pos h]
      show (if ty.kind = 63 then some (⟨#[95]⟩ : ByteArray) else none) = _
      rw [if_pos h]; rfl
    · rw [if_pos h.1]
      show rdStep (rdT m) ty.in ty u = _
      unfold rdStep
      rw [if_neg (hg.2.1 h.1), if_pos h.1, rd_self n m ty.in u h.2 (hg.2.2.1 (.inr h.1)) (hn.2.1 (.inr h.1)) (by omega), txtV_som]
    · rw [if_neg (by omega), if_neg (by omega), if_neg (by simp [sameK, h.1]), if_neg (by simp)]
      show rdFlds (rdFld (rdT (m + 1)) (ty.fields.zip vs)) ty.fields ⟨#[123]⟩ ByteArray.empty = _
      rw [rdFlds_txt (tv := txtV n) ty.fields vs _ _ h.2.2.1 (fun p hp => by
        unfold rdFld
        rw [find_self ty.fields vs h.2.2.1 hn.1 p hp]
        have hpf := (List.of_mem_zip (a := p.1) (b := p.2) hp).1
        exact rd_self n (m + 1) p.1.2.1 p.2 (h.2.2.2 p hp) (hg.2.2.2 p.1 hpf).2 (hn.2.2 p.1 hpf) (by omega)), txtV_rcd]
end Go.Proofs.YtccmcgckechhgaaDoor
