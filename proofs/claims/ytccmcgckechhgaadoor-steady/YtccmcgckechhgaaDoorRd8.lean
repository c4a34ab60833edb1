import Derived.Test.YtccmcgckechhgaaDoorRd7
set_option linter.unusedVariables false
set_option linter.unusedSimpArgs false
set_option maxRecDepth 4000
namespace Go.Proofs.YtccmcgckechhgaaDoor
open Go.RowKit

theorem wt_in {m : Nat} {r : Ty} (h : r.inner ≠ []) : wt m r.in + 70 ≤ wt (m + 1) r := by
  unfold Ty.in
  rcases hi : r.inner with _ | ⟨t, ts⟩
  · exact absurd hi h
  · rw [wt, hi]; simp; omega
theorem decAll_val {n : Nat} {x : Ty} {v : Val} (h : okV n x v) : decAll (datV n v) n x = some (txtV n x v) := by
  unfold decAll
  rw [dec_mk n x v 0 h (At.self _)]
  simp
def outT : Option ByteArray → ByteArray
  | none => ByteArray.empty
  | some t => t
theorem dRet_eq (o : Option ByteArray) : dRet o = .tuple #[.string (outT o), .bool o.isSome] := by cases o <;> rfl
theorem kB {a b : Nat} (h : a = b) : ((a : Int) == (b : Int)) = true := by simp; omega
theorem kN {a b : Nat} (h : a ≠ b) : ((a : Int) == (b : Int)) = false := by simp; omega

theorem read_succ {Tab : World → Prop} (F : FmtOK Tab) {m : Nat} (IH : ReadOK Tab m) : ReadOK Tab (m + 1) := by
  intro nw nr x r v w ai af li ci lf cf bi bf mi di mf df hm hnw hnr hT hox hor hx hr hv hsz hwt
  cases nw with
  | zero => exact hx.elim
  | succ nw =>
  cases nr with
  | zero => exact hr.elim
  | succ nr =>
  have hwt' : wt m r ≤ 20000 := Nat.le_trans (wt_mono m r) hwt
  show Calls _ _ _ _ (fun e w' => e = .returned (dRet (rdStep (rdT m) x r v)) ∧ Below w.heap.size w w')
  rw [dRet_eq]
  have hx8 : x.letters.size ≤ 8 := hx.1
  have hr8 : r.letters.size ≤ 8 := hr.1
  have hinx := fun (hne : x.inner ≠ []) (W : World) (hb : Below w.heap.size w W) => inner_any nw W ai af li ci lf cf x (hx.keep hb) hne
  have hinr := fun (hne : r.inner ≠ []) (W : World) (hb : Below w.heap.size w W) => inner_any nr W bi bf mi di mf df r (hr.keep hb) hne
  by_cases h63 : x.kind = 63
  · have hne : x.inner ≠ [] := hx.2.2.2.1.1 (.inr h63)
    rcases hv with ⟨y, rfl, hv⟩ | ⟨s, rfl, hv⟩ | ⟨i, rfl, hv⟩ | ⟨vs, rfl, hv⟩ | ⟨rfl, hv⟩ | ⟨u, rfl, hv⟩ | ⟨vs, rfl, hv⟩
    · omega
    · omega
    · omega
    · omega
    · rw [show rdStep (rdT m) x r .non = if r.kind = 63 then some ⟨#[95]⟩ else none by unfold rdStep; rw [if_pos h63]; rfl, datV_non]
      refine read_w63 x r w ai li ci af lf cf bi mi di bf mf df _ _ _ (kB h63) nw (hinx hne) (fun W p1 p2 p3 p4 p5 p6 hb hp => ?_)
      have := readMaybe_non x.in r p1 p2 p3 p4 p5 p6 bi mi di bf mf df W
      rw [dRet_eq] at this; exact this
    · rw [show rdStep (rdT m) x r (.som u) = rdT m x.in r u by unfold rdStep; rw [if_pos h63]; rfl]
      rw [datV_som] at hsz ⊢
      rw [ByteArray.size_append, oneB_size] at hsz
      refine read_w63 x r w ai li ci af lf cf bi mi di bf mf df _ _ _ (kB h63) nw (hinx hne) (fun W p1 p2 p3 p4 p5 p6 hb hp => ?_)
      have := readMaybe_som F IH nw (nr + 1) x.in r u W p1 p4 p2 p3 p5 p6 bi bf mi di mf df (by omega) (by omega) hnr (F.1 _ _ hb hT) (hox.in hne) hor hp (hr.keep hb) hv.2 (by omega) hwt'
      rw [dRet_eq] at this; exact this
    · omega
  · by_cases hr63 : r.kind = 63
    · have hne : r.inner ≠ [] := hr.2.2.2.1.1 (.inr hr63)
      rw [show rdStep (rdT m) x r v = rdT m x r.in v by unfold rdStep; rw [if_neg h63, if_pos hr63]]
      have hwi := wt_in (m := m) hne
      refine read_r63 x r w ai li ci af lf cf bi mi di bf mf df _ _ _ (kN h63) (kB hr63) nr (hinr hne) (fun W p1 p2 p3 p4 p5 p6 hb hp => ?_)
      have := IH (nw + 1) nr x r.in v W ai af li ci lf cf p1 p4 p2 p3 p5 p6 (by omega) hnw (by omega) (F.1 _ _ hb hT) hox (hor.in hne) (hx.keep hb) hp hv hsz (by omega)
      rw [dRet_eq] at this; exact this
    · cases hsame : sameK x.kind r.kind with
      | true =>
        rw [show rdStep (rdT m) x r v = some (leafT v) by unfold rdStep; rw [if_neg h63, if_neg hr63, if_pos hsame]]
        have htx : txtV (nw + 1) x v = leafT v := by
          have hk : x.kind = 105 ∨ x.kind = 108 ∨ x.kind = 115 := by simp [sameK] at hsame; omega
          rcases hv with ⟨y, rfl, hv⟩ | ⟨s, rfl, hv⟩ | ⟨i, rfl, hv⟩ | ⟨vs, rfl, hv⟩ | ⟨rfl, hv⟩ | ⟨u, rfl, hv⟩ | ⟨vs, rfl, hv⟩
          · rfl
          · rfl
          · omega
          · omega
          · omega
          · omega
          · omega
        refine read_same x r w ai li ci af lf cf bi mi di bf mf df _ _ _ (kN h63) (kN hr63) hsame (fun W hb => ?_)
        have := sDecode_any F (t := datV (nw + 1) v) (by omega) (show nw + 1 ≤ 100 by omega) x W ai af li ci lf cf (F.1 _ _ hb hT) hox (hx.keep hb)
        rw [decAll_val hv, htx, dRet_eq] at this; exact this
      | false =>
        by_cases hkk : x.kind = r.kind
        · have h3 : ((x.kind : Int) != (r.kind : Int)) = false := by simp; omega
          have hstep : rdStep (rdT m) x r v = if v.tag = 2 then rdCho x.letters r.letters r.op v.n.toNat else if v.tag = 3 then rdItems (rdT m x.in r.in) v.vs 0 ⟨#[91]⟩ else if v.tag = 6 then rdFlds (rdFld (rdT m) (x.fields.zip v.vs)) r.fields ⟨#[123]⟩ ByteArray.empty else none := by
            unfold rdStep; rw [if_neg h63, if_neg hr63, if_neg (by rw [hsame]; simp), if_neg (by simp [hkk])]
          rcases hv with ⟨y, rfl, hv⟩ | ⟨s, rfl, hv⟩ | ⟨i, rfl, hv⟩ | ⟨vs, rfl, hv⟩ | ⟨rfl, hv⟩ | ⟨u, rfl, hv⟩ | ⟨vs, rfl, hv⟩
          · exfalso; simp [sameK] at hsame; omega
          · exfalso; simp [sameK] at hsame; omega
          · rw [show rdStep (rdT m) x r (.cho i) = rdCho x.letters r.letters r.op i from hstep, datV_cho]
            refine read_cho x r w ai li ci af lf cf bi mi di bf mf df _ _ _ (kN h63) (kN hr63) hsame h3 (kB hv.1) (fun W hb => ?_)
            have := readChoice_any x r ai li ci af lf cf bi mi di bf mf df i W hx8 hr8 hv.2.1
            rw [dRet_eq] at this; exact this
          · have hn1 : x.inner ≠ [] := hx.2.2.2.1.1 (.inl hv.1)
            have hn2 : r.inner ≠ [] := hr.2.2.2.1.1 (.inl (by omega))
            have hwi := wt_in (m := m) hn2
            rw [show rdStep (rdT m) x r (.lst vs) = rdItems (rdT m x.in r.in) vs 0 ⟨#[91]⟩ from hstep]
            rw [datV_lst] at hsz ⊢
            refine read_lst x r w ai li ci af lf cf bi mi di bf mf df _ _ _ (kN h63) (kN hr63) hsame h3 (kN (b := 60) (by omega)) (kB hv.1) nw nr (hinx hn1) (hinr hn2) (fun W p1 p2 p3 p4 p5 p6 q1 q2 q3 q4 q5 q6 hb hp hq => ?_)
            have := readList_any F IH nw nr x.in r.in vs W p1 p4 p2 p3 p5 p6 q1 q4 q2 q3 q5 q6 (by omega) (by omega) (by omega) (F.1 _ _ hb hT) (hox.in hn1) (hor.in hn2) hp hq hv.2.1 hv.2.2 hsz (by omega)
            rw [dRet_eq] at this; exact this
          · omega
          · omega
          · rw [show rdStep (rdT m) x r (.rcd vs) = rdFlds (rdFld (rdT m) (x.fields.zip vs)) r.fields ⟨#[123]⟩ ByteArray.empty from hstep]
            rw [datV_rcd] at hsz ⊢
            have hlx := hx.flds
            have hlr := hr.flds
            have hrn : r.fields ≠ [] := hr.2.2.2.1.2 (by omega)
            refine read_rcd x r w ai li ci af lf cf bi mi di bf mf df _ _ _ (kN h63) (kN hr63) hsame h3 (kN (b := 60) (by omega)) (kN (b := 91) (by omega)) (kB hv.1) (fun W hb => ?_)
            have := readRecord_any F IH nw nr (by omega) (by omega) (by omega) x.fields r.fields vs _ W af bf lf cf mf df hlx.1 hlr.1 hlx.2.1 hlr.2.1 hv.2.1 hrn (F.1 _ _ hb hT) hox.2 hor.2 hv.2.2.1 hv.2.2.2 rfl hsz (hx.keep hb).flds.2.2 (hr.keep hb).flds.2.2 (by rw [wt] at hwt; omega)
            rw [dRet_eq] at this; exact this
        · rw [show rdStep (rdT m) x r v = none by unfold rdStep; rw [if_neg h63, if_neg hr63, if_neg (by rw [hsame]; simp), if_pos hkk]]
          exact read_no x r w ai li ci af lf cf bi mi di bf mf df _ _ _ (kN h63) (kN hr63) hsame (by simp; omega) rfl rfl
theorem read_all {Tab : World → Prop} (F : FmtOK Tab) : ∀ m, ReadOK Tab m
  | 0 => fun nw nr x r v w ai af li ci lf cf bi bf mi di mf df hm hnw hnr hT hox hor hx hr hv hsz hwt => by
    obtain rfl : nw = 0 := by omega
    exact hx.elim
  | m + 1 => read_succ F (read_all F m)

/-- What a schema's type weighs. -/
theorem pFlds_wt {pf : Nat → Option ((Nat × Ty × ByteArray) × Nat)} {s : ByteArray} {N : Nat} (hp : ∀ i f k, pf i = some (f, k) → i < k ∧ k ≤ s.size ∧ wt N f.2.1 + f.2.2.size + 84 ≤ 80 * (k - i)) :
    ∀ (m a : Nat) (acc fs : List (Nat × Ty × ByteArray)) (k : Nat), pFlds pf s m a acc = some (fs, k) → a < k ∧ k ≤ s.size ∧ (fs.map fun f => wt N f.2.1 + f.2.2.size + 4).sum ≤ (acc.map fun f => wt N f.2.1 + f.2.2.size + 4).sum + 80 * (k - a)
  | 0, a, acc, fs, k, h => by simp [pFlds] at h
  | m + 1, a, acc, fs, k, h => by
    rw [pFlds] at h
    split at h
    · cases h
    · rename_i f k' hf
      have h1 := hp _ _ _ hf
      split at h
      · cases h
      · split at h
        · rename_i h125
          have := bAt_lt (s := s) (i := k') (by omega)
          simp only [Option.some.injEq, Prod.mk.injEq] at h
          obtain ⟨rfl, rfl⟩ := h
          rw [List.map_append, List.sum_append]
          simp
          omega
        · split at h
          · have := pFlds_wt hp m (k' + 1) (acc ++ [f]) fs k h
            rw [List.map_append, List.sum_append] at this
            simp at this ⊢
            omega
          · cases h
theorem pType_wt (st : Bool) (s : ByteArray) (N : Nat) : ∀ (n i : Nat) (ty : Ty) (k : Nat), pType st s n i = some (ty, k) → wt N ty ≤ 80 * (k - i) := by
  intro n
  induction n generalizing N with
  | zero => intro i ty k h; simp [pType] at h
  | succ n IH =>
    intro i ty k h
    have hbd := pType_bd st s _ _ _ _ h
    cases N with
    | zero => rw [wt]; omega
    | succ N =>
    have hpl : ∀ q : Nat, wt (N + 1) (plainTy q) ≤ 80 * (i + 1 - i) := fun q => by rw [wt]; simp [plainTy]
    rw [pType] at h
    split at h
    · cases h; exact hpl _
    · split at h
      · cases h; exact hpl _
      · split at h
        · cases h; exact hpl _
        · split at h
          · simp only [pChoice] at h
            split at h
            · cases h
            · split at h
              · split at h
                · cases h; rw [wt]; simp; omega
                · cases h
              · split at h
                · cases h; rw [wt]; simp; omega
                · cases h
          · split at h
            · unfold pList at h
              split at h
              · cases h
              · rename_i t k' ht
                split at h
                · cases h
                  have := IH N _ _ _ ht
                  have := pType_bd st s _ _ _ _ ht
                  rw [wt]; simp; omega
                · cases h
            · split at h
              · unfold pMaybe at h
                split at h
                · cases h
                · rename_i t k' ht
                  have := IH N _ _ _ ht
                  have := pType_bd st s _ _ _ _ ht
                  split at h
                  · cases h
                  · cases h; rw [wt]; simp; omega
              · split at h
                · unfold pRec at h
                  split at h
                  · cases h
                  · rename_i fs k' hfs
                    cases h
                    have := pFlds_wt (N := N) (fun i f k hf => by
                      unfold pField at hf
                      split at hf
                      · split at hf
                        · cases hf
                        · rename_i t k' ht
                          have h1 := IH N _ _ _ ht
                          have h2 := pType_bd st s _ _ _ _ ht
                          split at hf
                          · split at hf
                            · cases hf
                            · rename_i d m' he
                              cases hf
                              have h3 := enc_bd he
                              have h4 := size_extract s (k' + 1) k (by omega) (by omega)
                              refine ⟨by omega, by omega, ?_⟩
                              show wt N t + (s.extract (k' + 1) k).size + 84 ≤ _
                              omega
                          · cases hf
                            refine ⟨by omega, by omega, ?_⟩
                            show wt N t + 0 + 84 ≤ _
                            omega
                      · cases hf) _ _ _ _ _ hfs
                    rw [wt]; simp at this ⊢; omega
                · cases h
end Go.Proofs.YtccmcgckechhgaaDoor
