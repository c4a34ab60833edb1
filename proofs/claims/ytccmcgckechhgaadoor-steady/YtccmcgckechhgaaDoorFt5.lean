import Derived.Test.YtccmcgckechhgaaDoorFt4
import Derived.Test.YtccmcgckechhgaaDoorV5
set_option linter.unusedVariables false
set_option linter.unusedSimpArgs false
set_option maxRecDepth 4000
namespace Go.Proofs.YtccmcgckechhgaaDoor
open Go.RowKit

def outU : Option ByteArray → ByteArray
  | none => ByteArray.empty
  | some t => t
theorem uR_eq (o : Option ByteArray) : uR o = .tuple #[.string (outU o), .bool o.isSome] := by cases o <;> rfl
theorem iB {a b : Nat} (h : a = b) : ((a : Int) == (b : Int)) = true := by simp; omega
theorem iN {a b : Nat} (h : a ≠ b) : ((a : Int) == (b : Int)) = false := by simp; omega

theorem unr_succ {m : Nat} (IH : UnrOK m) : UnrOK (m + 1) := by
  intro nw nr x r w ai af li ci lf cf bi bf mi di mf df hm hk hwt hx hr
  cases nw with
  | zero => exact hx.elim
  | succ n =>
  cases nr with
  | zero => exact hr.elim
  | succ q =>
  show Calls _ _ _ _ (fun e w' => e = .returned (uR ((unStep (unV m n) (unV m (n + 1)) n x r).map (txtV (n + 1) x))) ∧ Below w.heap.size w w')
  rw [uR_eq]
  have hx8 : x.letters.size ≤ 8 := hx.1
  have hr8 : r.letters.size ≤ 8 := hr.1
  have hinx := fun (hne : x.inner ≠ []) (W : World) (hb : Below w.heap.size w W) => inner_any n W ai af li ci lf cf x (hx.keep hb) hne
  have hinr := fun (hne : r.inner ≠ []) (W : World) (hb : Below w.heap.size w W) => inner_any q W bi bf mi di mf df r (hr.keep hb) hne
  by_cases hr63 : r.kind = 63
  · have hnr : r.inner ≠ [] := hr.2.2.2.1.1 (.inr hr63)
    by_cases hx63 : x.kind = 63
    · have hi := hk.2.2.1 (.inr hx63)
      have hwi := wtI (m := n) hi.1
      rw [show (unStep (unV m n) (unV m (n + 1)) n x r).map (txtV (n + 1) x) = (unV m n x.in r.in).map (txtV n x.in) by unfold unStep; rw [if_pos ⟨hx63, hr63⟩, Option.map_map]; rfl]
      refine un_both x r w ai li ci af lf cf bi mi di bf mf df _ _ (iB hx63) (iB hr63) n q (hinx hi.1) (hinr hnr) (fun W p1 p2 p3 p4 p5 p6 q1 q2 q3 q4 q5 q6 hb hp hq => ?_)
      have := IH n q x.in r.in W p1 p4 p2 p3 p5 p6 q1 q4 q2 q3 q5 q6 (by omega) hi.2 (by omega) hp hq
      rw [uR_eq] at this; exact this
    · rw [show unStep (unV m n) (unV m (n + 1)) n x r = unV m (n + 1) x r.in by unfold unStep; rw [if_neg (fun h => hx63 h.1), if_pos hr63]]
      refine un_rdr x r w ai li ci af lf cf bi mi di bf mf df _ _ (iN hx63) (iB hr63) q (hinr hnr) (fun W p1 p2 p3 p4 p5 p6 hb hp => ?_)
      have := IH (n + 1) q x r.in W ai af li ci lf cf p1 p4 p2 p3 p5 p6 (by omega) hk hwt (hx.keep hb) hp
      rw [uR_eq] at this; exact this
  · have hst : unStep (unV m n) (unV m (n + 1)) n x r = if sameK x.kind r.kind = true then none else if x.kind ≠ r.kind then some (lv (n + 1) x) else if x.kind = 60 then (unL x.letters r.letters r.op x.letters.size 0).map Val.cho else if x.kind = 91 then (unV m n x.in r.in).map fun u => .lst [u] else if x.kind = 123 then unF (unV m n) n x.fields r.fields else none := by
      unfold unStep; rw [if_neg (fun h => hr63 h.2), if_neg hr63]
    have h2 := iN (b := 63) hr63
    cases hs : sameK x.kind r.kind with
    | true =>
      rw [hst, if_pos hs]
      have hx63 : x.kind ≠ 63 := by simp [sameK] at hs; omega
      exact un_sameb x r w ai li ci af lf cf bi mi di bf mf df _ _ (iN hx63) h2 hs rfl rfl
    | false =>
      have hs' : ¬ sameK x.kind r.kind = true := by rw [hs]; simp
      by_cases hkk : x.kind = r.kind
      · have hx63 : x.kind ≠ 63 := by omega
        have h1 := iN (b := 63) hx63
        have h3 : ((x.kind : Int) != (r.kind : Int)) = false := by simp; omega
        rw [hst, if_neg hs', if_neg (by simp [hkk])]
        rcases hk.1 with h | h | h | h | h | h | h
        · exfalso; rw [← hkk, h] at hs; cases hs
        · exfalso; rw [← hkk, h] at hs; cases hs
        · exfalso; rw [← hkk, h] at hs; cases hs
        · rw [if_pos h, Option.map_map]
          refine un_cho x r w ai li ci af lf cf bi mi di bf mf df _ _ h1 h2 hs h3 (iB h) (fun W hb => ?_)
          have := unreadableLetter_any x r ai li ci af lf cf bi mi di bf mf df W hx8 hr8
          refine this.mono (fun e w' he => ⟨?_, he.2⟩)
          rw [he.1]
          cases unL x.letters r.letters r.op x.letters.size 0 <;> rfl
        · have hi := hk.2.2.1 (.inl h)
          have hnr : r.inner ≠ [] := hr.2.2.2.1.1 (.inl (by omega))
          have hwi := wtI (m := n) hi.1
          rw [if_neg (by omega), if_pos h, Option.map_map]
          refine un_lst x r w ai li ci af lf cf bi mi di bf mf df _ _ h1 h2 hs h3 (iN (b := 60) (by omega)) (iB h) n q (hinx hi.1) (hinr hnr) (fun W p1 p2 p3 p4 p5 p6 q1 q2 q3 q4 q5 q6 hb hp hq => ?_)
          cases hu : unV m n x.in r.in with
          | none =>
            have := unreadableList_walk x.in r.in W p1 p2 p3 p4 p5 p6 q1 q2 q3 q4 q5 q6 ByteArray.empty false (Nat.zero_le _) (fun W' hb' => by
              have := IH n q x.in r.in W' p1 p4 p2 p3 p5 p6 q1 q4 q2 q3 q5 q6 (by omega) hi.2 (by omega) (hp.keep hb') (hq.keep hb')
              rw [hu] at this; exact this)
            exact this
          | some u =>
            have hus := un_size m n x.in r.in u hi.2 hu
            have := unreadableList_walk x.in r.in W p1 p2 p3 p4 p5 p6 q1 q2 q3 q4 q5 q6 (txtV n x.in u) true (by omega) (fun W' hb' => by
              have := IH n q x.in r.in W' p1 p4 p2 p3 p5 p6 q1 q4 q2 q3 q5 q6 (by omega) hi.2 (by omega) (hp.keep hb') (hq.keep hb')
              rw [hu] at this; exact this)
            exact this
        · omega
        · rw [if_neg (by omega), if_neg (by omega), if_pos h]
          have hfx := hx.flds
          have hfr := hr.flds
          refine un_rcd x r w ai li ci af lf cf bi mi di bf mf df _ _ h1 h2 hs h3 (iN (b := 60) (by omega)) (iN (b := 91) (by omega)) (iB h) (fun W hb => ?_)
          have := unreadableRecord_any IH n q (by omega) x r.fields W af bf lf cf mf df hfx.1 hfr.1 hfx.2.1 hfr.2.1 (hx.2.2.2.1.2 h) hk.2.2.2 (by rw [wt] at hwt; omega) (hx.keep hb).flds.2.2 (hr.keep hb).flds.2.2
          rw [uR_eq] at this; exact this
      · have h3 : ((x.kind : Int) != (r.kind : Int)) = true := by simp; omega
        rw [hst, if_neg hs', if_pos hkk]
        by_cases hx63 : x.kind = 63
        · exact un_diffa x r w ai li ci af lf cf bi mi di bf mf df _ _ (iB hx63) h2 hs h3 rfl (fun W hb => least_all (n + 1) x W ai af li ci lf cf hk hwt (hx.keep hb))
        · exact un_diffb x r w ai li ci af lf cf bi mi di bf mf df _ _ (iN hx63) h2 hs h3 rfl (fun W hb => least_all (n + 1) x W ai af li ci lf cf hk hwt (hx.keep hb))
theorem unr_all : ∀ m, UnrOK m
  | 0 => fun nw nr x r w ai af li ci lf cf bi bf mi di mf df hm hk hwt hx hr => by
    obtain rfl : nw = 0 := by omega
    exact hx.elim
  | m + 1 => unr_succ (unr_all m)

theorem fields_nil {s : ByteArray} {n i k : Nat} {ty : Ty} (h : pType true s (n + 1) i = some (ty, k)) (h3 : ¬ ty.kind = 123) : ty.fields = [] := by
  have his : i < s.size := by have := pType_bd true s _ _ _ _ h; omega
  rw [pType] at h
  split at h
  · cases h; rfl
  · split at h
    · cases h; rfl
    · split at h
      · cases h; rfl
      · split at h
        · rw [pChoice_eq s (i + 1) (by omega)] at h
          unfold rChoice at h
          simp only at h
          split at h
          · cases h
          · split at h
            · split at h
              · cases h; rfl
              · cases h
            · split at h
              · cases h; rfl
              · cases h
        · split at h
          · unfold pList at h
            split at h
            · cases h
            · split at h
              · cases h; rfl
              · cases h
          · split at h
            · unfold pMaybe at h
              split at h
              · cases h
              · split at h
                · cases h
                · cases h; rfl
            · split at h
              · unfold pRec at h
                split at h
                · cases h
                · cases h; exact absurd rfl h3
              · cases h
theorem type_K {s : ByteArray} : ∀ (n i : Nat) (ty : Ty) (k : Nat), pType true s n i = some (ty, k) → tyK n ty
  | 0, i, ty, k, h => by simp [pType] at h
  | n + 1, i, ty, k, h => by
    have ih := type_K (s := s) n
    have his : i < s.size := by have := pType_bd true s _ _ _ _ h; omega
    obtain ⟨_, n', hn, h60, hin, hne, h123, hk⟩ := type_parts h
    obtain rfl : n' = n := by omega
    have hg := type_good _ _ _ _ h
    refine ⟨hk, fun h6 => (rChoice_op (by omega) (h60 h6)).2.2.1, fun hh => ?_, fun f hf => ?_⟩
    · obtain ⟨k', hk'⟩ := hin hh
      refine ⟨fun hi => ?_, ih _ _ _ hk'⟩
      have : ty.in = plainTy 0 := by unfold Ty.in; rw [hi]; rfl
      rw [this] at hk'
      obtain ⟨_, _, _, _, _, _, _, h7⟩ := type_parts hk'
      have h0 : (plainTy 0).kind = 0 := rfl
      omega
    · have h3 : ty.kind = 123 := by
        rcases Nat.lt_or_ge 0 0 with h | _
        · omega
        · apply Classical.byContradiction
          intro h3
          have : ty.fields = [] := fields_nil h h3
          rw [this] at hf; exact absurd hf List.not_mem_nil
      obtain ⟨k', hk'⟩ := h123 h3
      exact (pFlds_G (Q := fun f => f.1 < 256 ∧ tyK n' f.2.1) (fun i f k hf => by
          have h256 := pField_256 hf
          unfold pField at hf
          split at hf
          · split at hf
            · cases hf
            · rename_i t k' ht
              have h1 := ih _ _ _ ht
              split at hf
              · split at hf
                · cases hf
                · cases hf; exact ⟨h256, h1⟩
              · cases hf; exact ⟨h256, h1⟩
          · cases hf) _ _ _ _ _ hk' (fun f hf => absurd hf List.not_mem_nil) (by simp)).1 f hf
end Go.Proofs.YtccmcgckechhgaaDoor
