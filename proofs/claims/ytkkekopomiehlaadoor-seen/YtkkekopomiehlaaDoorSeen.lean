import Derived.Test.YtkkekopomiehlaaDoorLaid
import Derived.Test.YtkkekopomiehlaaDoorSeen1
set_option linter.unusedVariables false
set_option linter.unusedSimpArgs false
namespace Go.Proofs.YtkkekopomiehlaaDoor
open Go.ChangeShapes Go.WideShapes Go.ChangeAt Go.RowKit
open Go.ChangeMaps (open_string shut_string)

theorem seen_walk (s t d : ByteArray) (hs : s.size ≤ maxLen) (ht : t.size ≤ maxLen) (hd : d.size ≤ maxLen) (w : World) (hT : Tab w) :
    Calls Tryd.prog 7 #[.string s, .string t, .string d] w fun e w' => e = .returned (.bool true) ∧ Below w.heap.size w w' := by
  have h1 := fun W => Fits_any ⟨#[60, 97, 98, 99, 62]⟩ ⟨#[60, 97, 98, 62]⟩ (by decide) (by decide) (fun x hx h60 => pAll_wt hx h60 _) W
  rw [seen_head] at h1
  have h2 := fun W => Check_any s hs W
  have h3 := fun W => Fits_any s s hs hs (fun x hx h60 => pAll_wt hx h60 _) W
  rw [fit_self] at h3
  have h4 := fun W => Fits_any s t hs ht (fun x hx h60 => pAll_wt hx h60 _) W
  obtain ⟨a, ha, h5'⟩ := Read_any fmtOK s t d hs ht hd
  have h5 := fun (W : World) (hb : Below w.heap.size w W) => h5' W (hT.keep hb)
  have h6 := fun (W : World) (hb : Below w.heap.size w W) => Decode_any fmtOK s d hs hd W (hT.keep hb)
  unfold ReadIs at ha
  by_cases h60 : 60 < s.size ∨ 60 < t.size
  · rw [if_pos (by omega)] at ha
    rw [ha] at h5
    rw [show fitOut s t = (ByteArray.empty, 1) by unfold fitOut; rw [if_pos h60]] at h4
    exact seen_w1a s t d w _ _ _ h1 h2 h3 h4 h5 h6
  have hs60 : s.size ≤ 60 := by omega
  have ht60 : t.size ≤ 60 := by omega
  cases hx : pAll false s with
  | none =>
    rw [show fitOut s t = (ByteArray.empty, 2) by unfold fitOut; rw [if_neg h60, hx]] at h4
    by_cases hd64 : 64 < d.size
    · rw [if_pos (by omega)] at ha
      rw [ha] at h5
      exact seen_w1c s t d w _ _ _ h1 h2 h3 h4 h5 h6
    · rw [if_neg (by omega), hx] at ha
      simp only at ha
      rw [ha] at h5
      exact seen_w1b s t d w _ _ _ h1 h2 h3 h4 h5 h6
  | some x =>
    cases hr : pAll false t with
    | none =>
      rw [show fitOut s t = (ByteArray.empty, 2) by unfold fitOut; rw [if_neg h60, hx, hr]] at h4
      by_cases hd64 : 64 < d.size
      · rw [if_pos (by omega)] at ha
        rw [ha] at h5
        exact seen_w1c s t d w _ _ _ h1 h2 h3 h4 h5 h6
      · rw [if_neg (by omega), hx, hr] at ha
        simp only at ha
        rw [ha] at h5
        exact seen_w1b s t d w _ _ _ h1 h2 h3 h4 h5 h6
    | some r =>
      have hp := pAll_some (show pAll true s = some x by rw [pAll_st]; exact hx)
      have hq := pAll_some (show pAll true t = some r by rw [pAll_st]; exact hr)
      have hg := type_good _ _ _ _ hp
      have hgr := type_good _ _ _ _ hq
      have hax := type_all _ _ _ _ hp
      have har := type_all _ _ _ _ hq
      have hln := type_ln s.size _ _ _ _ hp
      have hfit : fitOut s t = (match unV (s.size + t.size) s.size x r with | some u => (txtV s.size x u, 7) | none => (ByteArray.empty, 0)) := by unfold fitOut; rw [if_neg h60, hx, hr]; simp only; cases unV (s.size + t.size) s.size x r <;> rfl
      have hun : ∀ u, unV (s.size + t.size) s.size x r = some u → (txtV s.size x u).toList.isEmpty = false ∧ ∀ W, Below w.heap.size w W → Calls Tryd.prog 19 #[.string s, .string t, .string (txtV s.size x u)] W fun e w' => e = .returned (.bool true) ∧ Below W.heap.size W w' := fun u hu => by
        have hb := un_bad _ _ _ _ _ hax.1 hu
        have hdt := un_dat _ _ _ _ _ hax.1 hu
        have htl := txt_len s.size x u hb.1
        have hT4 : (txtV s.size x u).size ≤ 4096 := by
          have := Nat.mul_le_mul (show ln s.size x + 4 ≤ 64 by omega) (show (datV s.size u).size ≤ 64 by omega)
          omega
        have hfi := txt_first _ _ _ hb.1 hg.1
        refine ⟨not_isEmpty hfi.1, fun W hbW => unfit_walk s t _ (datV s.size u) W (fun W' => ?_) (fun W' hb' => ?_) (fun W' hb' => ?_)⟩
        · have := Encode_any s (txtV s.size x u) hs (by unfold maxLen; omega) W'
          rw [enc_of hs60 hx hb.1 hT4, if_neg (by omega)] at this
          exact this
        · have := Read_of s t (datV s.size u) x r u hs60 ht60 (by omega) hx hr hb.1 rfl W' ((hT.keep hbW).keep hb')
          rw [hb.2] at this
          exact this
        · have := Decode_any fmtOK s (datV s.size u) hs (by unfold maxLen; omega) W' ((hT.keep hbW).keep hb')
          rw [show decOut false s (datV s.size u) = (txtV s.size x u, 0) by unfold decOut; rw [if_neg (by omega), hx]; simp only; rw [decAll_val hb.1]] at this
          exact this
      by_cases hd64 : 64 < d.size
      · rw [if_pos (by omega)] at ha
        rw [ha] at h5
        rw [show decOut false s d = (ByteArray.empty, 1) by unfold decOut; rw [if_pos (.inr hd64)]] at h6
        cases hu : unV (s.size + t.size) s.size x r with
        | none => rw [hfit, hu] at h4; exact seen_w2a s t d w _ _ 1 rfl h1 h2 h3 h4 h5 h6
        | some u => rw [hfit, hu] at h4; exact seen_w2b s t d w _ _ _ (hun u hu).1 1 rfl h1 h2 h3 h4 h5 h6 (hun u hu).2
      · rw [if_neg (by omega), hx, hr] at ha
        simp only at ha
        cases hy : decAll d s.size x with
        | none =>
          rw [hy] at ha
          simp only at ha
          rw [ha] at h5
          rw [show decOut false s d = (ByteArray.empty, 5) by unfold decOut; rw [if_neg (by omega), hx]; simp only; rw [hy]] at h6
          cases hu : unV (s.size + t.size) s.size x r with
          | none => rw [hfit, hu] at h4; exact seen_w2a s t d w _ _ 5 rfl h1 h2 h3 h4 h5 h6
          | some u => rw [hfit, hu] at h4; exact seen_w2b s t d w _ _ _ (hun u hu).1 5 rfl h1 h2 h3 h4 h5 h6 (hun u hu).2
        | some T =>
          rw [hy] at ha
          simp only at ha
          obtain ⟨v, hv1, hv2, hv3⟩ := ha
          rw [hv3] at h5
          rw [show decOut false s d = (T, 0) by unfold decOut; rw [if_neg (by omega), hx]; simp only; rw [hy]] at h6
          cases hz : rdT (s.size + t.size) x r v with
          | none =>
            rw [hz] at h5
            cases hu : unV (s.size + t.size) s.size x r with
            | none => exact absurd hz (un_good _ _ _ _ x r v (Nat.le_refl _) (Nat.le_refl _) hax.1 har.1 hu hv1)
            | some u => rw [hfit, hu] at h4; exact seen_w3 s t d w _ _ _ (hun u hu).1 h1 h2 h3 h4 h5 h6 (hun u hu).2
          | some y =>
            rw [hz] at h5
            obtain ⟨v', e1, e2⟩ := rd_val _ _ _ x r v y hv1 har.1 har.2.2 hz
            have hfi := txt_first _ _ _ e1 hgr.1
            rw [← e2] at hfi
            have hne := not_isEmpty hfi.1
            have hsz := rdT_size _ _ x r v y hv1 hz
            have hwt := pAll_wt hr ht60 (s.size + t.size)
            have hym : y.size ≤ maxLen := by
              rw [← hv2] at hsz
              have := Nat.mul_le_mul hwt (show d.size ≤ 64 by omega)
              unfold maxLen; omega
            have h8 := fun W => Encode_any t y ht hym W
            by_cases hy4 : 4096 < y.size
            · rw [show encOut false t y = (ByteArray.empty, 1) by unfold encOut; rw [if_pos (.inr hy4)]] at h8
              cases hu : unV (s.size + t.size) s.size x r with
              | none => rw [hfit, hu] at h4; exact seen_w4a1 s t d w _ _ _ _ hne h1 h2 h3 h4 h5 h6 h8
              | some u => rw [hfit, hu] at h4; exact seen_w4b1 s t d w _ _ _ _ _ (hun u hu).1 hne h1 h2 h3 h4 h5 h6 (hun u hu).2 h8
            · rw [e2, enc_of ht60 hr e1 (by rw [← e2]; omega), ← e2] at h8
              by_cases hb : 64 < (datV t.size v').size
              · rw [if_pos hb] at h8
                cases hu : unV (s.size + t.size) s.size x r with
                | none => rw [hfit, hu] at h4; exact seen_w4a4 s t d w _ _ _ _ hne h1 h2 h3 h4 h5 h6 h8
                | some u => rw [hfit, hu] at h4; exact seen_w4b4 s t d w _ _ _ _ _ (hun u hu).1 hne h1 h2 h3 h4 h5 h6 (hun u hu).2 h8
              · rw [if_neg hb] at h8
                cases hu : unV (s.size + t.size) s.size x r with
                | none => rw [hfit, hu] at h4; exact seen_w4a0 s t d w _ _ _ _ hne h1 h2 h3 h4 h5 h6 h8
                | some u => rw [hfit, hu] at h4; exact seen_w4b0 s t d w _ _ _ _ _ (hun u hu).1 hne h1 h2 h3 h4 h5 h6 (hun u hu).2 h8

set_option maxRecDepth 100000 in
theorem seen_contract (H : Type) (enc : TypeId × Value → H) (W : World) (base : Nat) (args : Array Value) (ds gs : List (DataW H)) (before : List MemPlace)
    (hval : ∀ (j : Nat) t v, Tryd.f7.params[j]? = some t → args[j]? = some v → Value.okWide Tryd.prog W .any base t v)
    (hW : DataW.Whole enc Tryd.prog Tryd.f7.params.toList Rows.seenSpec.vars false W args.toList ds gs before) (hL : laidMetH Tryd.prog Rows.seenRow.laid W) :
    Calls Tryd.prog 7 args W fun e W' => ∃ v, e = .returned v ∧ Rows.seenSpec.post enc Tryd.prog Tryd.f7 false true false false W args v W' := by
  have hW' := hW
  obtain ⟨p, q, hA0, hV, rfl, hfz, hnd⟩ := hW
  have hA : DataW.TrodAll enc Tryd.prog W 0 (fun _ => true) true Tryd.f7.params.toList args.toList ds p := hA0
  rw [Tryd.params7] at hA hval
  obtain ⟨v0, vs0, d0, ds0, p0, q0, hargs, rfl, rfl, h0, r0⟩ := trodAll_cons hA
  obtain ⟨v1, vs1, d1, ds1, p1, q1, rfl, rfl, rfl, h1, r1⟩ := trodAll_cons r0
  obtain ⟨v2, vs2, d2, ds2, p2, q2, rfl, rfl, rfl, h2, r2⟩ := trodAll_cons r1
  obtain ⟨rfl, rfl, rfl⟩ := trodAll_nil r2
  obtain rfl : args = #[v0, v1, v2] := by cases args; simp_all
  obtain ⟨rfl, rfl⟩ := trodVars_none hV
  obtain ⟨a0, rfl, rfl, rfl, w0⟩ := open_string Tryd.underlying9 (hval 0 9 v0 rfl rfl) h0
  obtain ⟨a1, rfl, rfl, rfl, w1⟩ := open_string Tryd.underlying9 (hval 1 9 v1 rfl rfl) h1
  obtain ⟨a2, rfl, rfl, rfl, w2⟩ := open_string Tryd.underlying9 (hval 2 9 v2 rfl rfl) h2
  clear hA0
  refine (seen_walk a0 a1 a2 w0 w1 w2 W (tab_of_laid hL)).mono fun e W' ⟨he, bel⟩ => ?_
  subst he
  exact ⟨_, rfl, _, _, _, [], _, [], hW', trodAll_mk1 (shut_bool Tryd.underlying4 _), (trodAll_cons_mk (shut_string Tryd.underlying9 w0) (trodAll_cons_mk (shut_string Tryd.underlying9 w1) (trodAll_cons_mk (shut_string Tryd.underlying9 w2) trodAll_mk0))), rfl, bel.frame _, fun h => by cases h⟩

theorem seen_met (os : Os) : laidMet Tryd.prog Rows.seenRow.laid (({ World.holding Tryd.prog os ⟨#[], #[], []⟩ with heap := (((World.holding Tryd.prog os ⟨#[], #[], []⟩).heap.modify 0 (setTab Rows.laid_internal_strconv_uint64pow10)).modify 1 (setTab Rows.laid_math_bits_deBruijn32tab)).modify 2 (setTab Rows.laid_math_bits_deBruijn64tab) } : World).forCall (fun _ _ => 0) ⟨#[], #[.string ByteArray.empty, .string ByteArray.empty, .string ByteArray.empty], []⟩).memory :=
  laidMet_of_run' 8 (by kernel_rfl) (by kernel_rfl)
theorem seen_reads (os : Os) {H : Type} (enc : TypeId × Value → H) : ∃ places, DataW.whole enc Tryd.prog (({ World.holding Tryd.prog os ⟨#[], #[], []⟩ with heap := (((World.holding Tryd.prog os ⟨#[], #[], []⟩).heap.modify 0 (setTab Rows.laid_internal_strconv_uint64pow10)).modify 1 (setTab Rows.laid_math_bits_deBruijn32tab)).modify 2 (setTab Rows.laid_math_bits_deBruijn64tab) } : World).forCall (fun _ _ => 0) ⟨#[], #[.string ByteArray.empty, .string ByteArray.empty, .string ByteArray.empty], []⟩).memory Tryd.f7.params.toList Rows.seenSpec.vars false (#[.string ByteArray.empty, .string ByteArray.empty, .string ByteArray.empty] : Array Value).toList 8 = some ([.lit (.string []), .lit (.string []), .lit (.string [])], [], places) :=
  ⟨[], by kernel_rfl⟩

set_option maxRecDepth 100000 in
theorem seen_lifted (os : Os) (started : os.Started) (H : Type) (enc : TypeId × Value → H) (F : Stop.Interp) :
    ReturnsInHanded {} Tryd.checked os 7 .any ((OpenSpec.ofChange Rows.seenSpec).preRow enc Tryd.prog Tryd.f7 Rows.seenRow.domain false Rows.seenRow.laid) (((OpenSpec.ofChange Rows.seenSpec).at F).post enc Tryd.prog Tryd.f7 false true false false) := by
  obtain ⟨places, hx⟩ := seen_reads os enc
  refine returnsInHanded_of_row (C := Tryd.checked) (s := OpenSpec.ofChange Rows.seenSpec) laid_own started (by kernel_rfl) Tryd.func7
    (witness_row_at (enc := enc) (C := Tryd.checked) false ({ World.holding Tryd.prog os ⟨#[], #[], []⟩ with heap := (((World.holding Tryd.prog os ⟨#[], #[], []⟩).heap.modify 0 (setTab Rows.laid_internal_strconv_uint64pow10)).modify 1 (setTab Rows.laid_math_bits_deBruijn32tab)).modify 2 (setTab Rows.laid_math_bits_deBruijn64tab) } : World) #[.string ByteArray.empty, .string ByteArray.empty, .string ByteArray.empty] rfl (by kernel_rfl) (by kernel_rfl) (by kernel_rfl)
      (OpenSpec.preRow_of_cond 8 hx (by kernel_rfl) (fun k hk => by cases hk) (by kernel_rfl) (seen_met os))) ?_
  intro W base args ds gs before hval hW _ _ _ hL _ _
  exact seen_contract H enc W base args ds gs before hval hW hL

theorem seen_said : Rows.SeenSaid :=
  OpenClaim.holds_of_cond 7 Tryd.f7 rfl rfl rfl rfl rfl rfl rfl ⟨rfl, rfl, rfl, rfl, rfl⟩ rfl rfl rfl rfl rfl (by kernel_rfl) Tryd.func7 (by kernel_rfl)
    (of_decide_eq_true (by kernel_rfl)) (by unfold Func.isWrapper; first | (rw [if_pos (by decide +kernel)]; kernel_rfl) | (rw [if_neg (by decide +kernel)]; exact ⟨rfl, rfl⟩))
    (fun os started H enc _ F => by rw [OpenClaim.pre_eq_preRow]; exact seen_lifted os started H enc F)

theorem seen_plain (f : FuncId) (fn : Func) (hf : Tryd.pinned.checked.prog.funcNamed "rollout/rolloutkeep.Seen" = some f) (hfn : Tryd.pinned.checked.prog.funcs[f]? = some fn) :
    false = Tryd.pinned.checked.prog.looks [] ∧ ∀ (j : Nat) t, fn.params[j]? = some t → Tryd.pinned.checked.prog.wantsStandIn t = false := by
  obtain rfl : f = 7 := Option.some.inj ((show Tryd.prog.funcNamed "rollout/rolloutkeep.Seen" = some 7 by kernel_rfl).symm.trans hf) |>.symm
  obtain rfl : fn = Tryd.f7 := (Option.some.inj (Tryd.func7.symm.trans hfn)).symm
  refine ⟨by kernel_rfl, fun j t ht => ?_⟩
  rw [Tryd.params7] at ht
  obtain rfl : t = 9 := by simpa using Array.mem_of_getElem? ht
  exact (show Tryd.prog.wantsStandIn 9 = false by kernel_rfl)

theorem seen_card : Rows.SeenCardSaid :=
  Claim7.holds_tied_plain_at .later [] _ _ _ _ seen_said (fun _ h => by cases h) (by kernel_rfl) (fun _ h => by cases h) seen_row_tie rfl ⟨rfl, rfl⟩ (by kernel_rfl) rfl seen_plain (by kernel_rfl)
#print axioms seen_card
end Go.Proofs.YtkkekopomiehlaaDoor
