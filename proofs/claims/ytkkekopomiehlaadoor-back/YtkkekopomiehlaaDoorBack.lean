import Derived.Test.YtkkekopomiehlaaDoorLaid
import Derived.Test.YtkkekopomiehlaaDoorMDec14
set_option linter.unusedVariables false
set_option linter.unusedSimpArgs false
namespace Go.Proofs.YtkkekopomiehlaaDoor
open Go.ChangeShapes Go.WideShapes Go.ChangeAt Go.RowKit
open Go.ChangeMaps (open_string shut_string)

theorem back_head : decOut false ⟨#[91, 63, 105, 93]⟩ ⟨#[2, 0, 1, 10]⟩ = (⟨#[91, 95, 44, 53, 93]⟩, 0) := by decide +kernel
/-- What is told of data is told of one value; it is encoded as the same data and read by its own schema as it is. -/
theorem back_good {s d : ByteArray} {x : Ty} {T : ByteArray} (hs : s.size ≤ 60) (hd : d.size ≤ 64) (hx : pAll false s = some x) (hy : decAll d s.size x = some T) :
    encOut false s T = (d, 0) ∧ 1 ≤ T.size ∧ T.size ≤ 4096 ∧ ∀ a, ReadIs s s d a → a = (T, 0) := by
  have hp := pAll_some (show pAll true s = some x by rw [pAll_st]; exact hx)
  have hg := type_good _ _ _ _ hp
  obtain ⟨v, h1, h2, h3⟩ := decAll_un hy
  have hln := type_ln s.size _ _ _ _ hp
  have htl := txt_len s.size x v h1
  rw [← h2, ← h3] at htl
  have hT : T.size ≤ 4096 := by
    have := Nat.mul_le_mul (show ln s.size x + 4 ≤ 64 by omega) hd
    omega
  have hfi := txt_first _ _ _ h1 hg.1
  rw [← h3] at hfi
  refine ⟨?_, hfi.1, hT, fun a ha => ?_⟩
  · have he := enc_at (st := false) (t := T) s.size x v 0 h1 hg.1 (by rw [h3]; exact At.self _) (by rw [← h3, bAt_out T _ (by omega)]; exact DL_of (by omega))
    rw [← h3, ← h2, Nat.zero_add] at he
    unfold encOut
    rw [if_neg (by omega), hx]
    simp only
    rw [show encAll false T s.size x = some d by unfold encAll; rw [he]; simp]
    simp only
    rw [if_neg (by omega)]
  · unfold ReadIs at ha
    rw [if_neg (by omega), hx] at ha
    simp only at ha
    rw [hy] at ha
    simp only at ha
    obtain ⟨v', g1, g2, g3⟩ := ha
    have : decAll d s.size x = some (txtV s.size x v') := by rw [g2]; exact decAll_val g1
    rw [hy] at this
    cases this
    rw [g3, rd_self s.size _ x v' g1 hg.1 hg.2 (Nat.le_refl _)]
    rfl
theorem back_bad {s d T : ByteArray} {e : Int} (h : decOut false s d = (T, e)) (he : e ≠ 0) : T = ByteArray.empty ∧ ∀ a, ReadIs s s d a → a = (ByteArray.empty, e) := by
  unfold decOut at h
  unfold ReadIs
  by_cases h1 : 60 < s.size ∨ 64 < d.size
  · rw [if_pos h1] at h
    cases h
    exact ⟨rfl, fun a ha => by rw [if_pos (by omega)] at ha; exact ha⟩
  · rw [if_neg h1] at h
    simp only [if_neg (show ¬ (60 < s.size ∨ 60 < s.size ∨ 64 < d.size) by omega)]
    cases hx : pAll false s with
    | none => rw [hx] at h; cases h; exact ⟨rfl, fun a ha => ha⟩
    | some x =>
      rw [hx] at h
      simp only at h ⊢
      cases hy : decAll d s.size x with
      | none => rw [hy] at h; cases h; exact ⟨rfl, fun a ha => ha⟩
      | some t => rw [hy] at h; cases h; exact absurd rfl he
theorem back_cases {s d T : ByteArray} (h : decOut false s d = (T, 0)) : s.size ≤ 60 ∧ d.size ≤ 64 ∧ ∃ x, pAll false s = some x ∧ decAll d s.size x = some T := by
  unfold decOut at h
  split at h
  · cases h
  · rename_i h1
    refine ⟨by omega, by omega, ?_⟩
    cases hx : pAll false s with
    | none => rw [hx] at h; cases h
    | some x =>
      rw [hx] at h
      simp only at h
      cases hy : decAll d s.size x with
      | none => rw [hy] at h; cases h
      | some t => rw [hy] at h; cases h; exact ⟨x, rfl, hy⟩
set_option maxHeartbeats 1000000 in
theorem back_walk (s d : ByteArray) (hs : s.size ≤ maxLen) (hd : d.size ≤ maxLen) (w : World) (hT : Tab w) :
    Calls Tryd.prog 6 #[.string s, .string d] w fun e w' => e = .returned (.bool true) ∧ Below w.heap.size w w' := by
  have h0 := Decode_any fmtOK ⟨#[91, 63, 105, 93]⟩ ⟨#[2, 0, 1, 10]⟩ (by decide) (by decide) w hT
  rw [back_head] at h0
  simp only at h0
  have h1 := fun (W : World) (hb : Below w.heap.size w W) => Decode_any fmtOK s d hs hd W (hT.keep hb)
  obtain ⟨a, ha, h2⟩ := Read_any fmtOK s s d hs hs hd
  have h2 := fun (W : World) (hb : Below w.heap.size w W) => h2 W (hT.keep hb)
  have ARM0 : True := trivial
  obtain ⟨O, hO⟩ : ∃ O, O = decOut false s d := ⟨_, rfl⟩
  obtain ⟨T, e⟩ := O
  rw [← hO] at h1
  simp only at h1
  by_cases he : e = 0
  · subst he
    obtain ⟨hs60, hd64, x, hx, hy⟩ := back_cases hO.symm
    obtain ⟨q1, q2, q3, q4⟩ := back_good hs60 hd64 hx hy
    rw [q4 a ha] at h2
    have h3 := fun W => Encode_any s T hs (by unfold maxLen; omega) W
    rw [q1] at h3
    have h4 := fun W => Check_any s hs W
    rw [show chk false s = 0 by unfold chk; rw [if_neg (by omega), hx]; rfl] at h4
    simp only at h2 h3
    have e1 := not_isEmpty q2
    have e2 : (T.toList == T.toList) = true := by simp
    have e3 : (d.toList == d.toList) = true := by simp
    clear hO hx hy q1 q4 ha hs hd
    go_enter Tryd.func6, Tryd.ntmps6
    go_wp2_with (first | (go_at_call 9; have hq := hb0; refine (h1 _ hb0).mono ?_; rintro e w1 ⟨rfl, hb1⟩) | (go_at_call 9; refine h0.mono ?_; rintro e w0 ⟨rfl, hb0⟩) | (go_at_call 15; refine (h2 _ (hb0.thn hb1)).mono ?_; rintro e w2 ⟨rfl, hb2⟩) | (go_at_call 14; refine (h3 _).mono ?_; rintro e w3 ⟨rfl, hb3⟩) | (go_at_call 17; refine (h4 _).mono ?_; rintro e w4 ⟨rfl, hb4⟩))
    go_ret
    exact ⟨ret_bool (by simp [e1]), (((hb0.thn hb1).thn hb2).thn hb3).thn hb4⟩
  · have hb := back_bad hO.symm he
    obtain ⟨rfl, q⟩ := hb
    rw [q a ha] at h2
    simp only at h2
    have he' : (e != 0) = true := by simpa using he
    have he2 : (e == e) = true := by simp
    clear hO ha q hs hd he
    go_enter Tryd.func6, Tryd.ntmps6
    go_wp2_with (first | (go_at_call 9; have hq := hb0; refine (h1 _ hb0).mono ?_; rintro e w1 ⟨rfl, hb1⟩) | (go_at_call 9; refine h0.mono ?_; rintro e w0 ⟨rfl, hb0⟩) | (go_at_call 15; refine (h2 _ (hb0.thn hb1)).mono ?_; rintro e w2 ⟨rfl, hb2⟩))
    go_ret
    exact ⟨ret_bool (by simp), (hb0.thn hb1).thn hb2⟩

set_option maxRecDepth 100000 in
theorem back_contract (H : Type) (enc : TypeId × Value → H) (W : World) (base : Nat) (args : Array Value) (ds gs : List (DataW H)) (before : List MemPlace)
    (hval : ∀ (j : Nat) t v, Tryd.f6.params[j]? = some t → args[j]? = some v → Value.okWide Tryd.prog W .any base t v)
    (hW : DataW.Whole enc Tryd.prog Tryd.f6.params.toList Rows.backSpec.vars false W args.toList ds gs before) (hL : laidMetH Tryd.prog Rows.backRow.laid W) :
    Calls Tryd.prog 6 args W fun e W' => ∃ v, e = .returned v ∧ Rows.backSpec.post enc Tryd.prog Tryd.f6 false true false false W args v W' := by
  have hW' := hW
  obtain ⟨p, q, hA0, hV, rfl, hfz, hnd⟩ := hW
  have hA : DataW.TrodAll enc Tryd.prog W 0 (fun _ => true) true Tryd.f6.params.toList args.toList ds p := hA0
  rw [Tryd.params6] at hA hval
  obtain ⟨v0, vs0, d0, ds0, p0, q0, hargs, rfl, rfl, h0, r0⟩ := trodAll_cons hA
  obtain ⟨v1, vs1, d1, ds1, p1, q1, rfl, rfl, rfl, h1, r1⟩ := trodAll_cons r0
  obtain ⟨rfl, rfl, rfl⟩ := trodAll_nil r1
  obtain rfl : args = #[v0, v1] := by cases args; simp_all
  obtain ⟨rfl, rfl⟩ := trodVars_none hV
  obtain ⟨a0, rfl, rfl, rfl, w0⟩ := open_string Tryd.underlying9 (hval 0 9 v0 rfl rfl) h0
  obtain ⟨a1, rfl, rfl, rfl, w1⟩ := open_string Tryd.underlying9 (hval 1 9 v1 rfl rfl) h1
  clear hA0
  refine (back_walk a0 a1 w0 w1 W (tab_of_laid hL)).mono fun e W' ⟨he, bel⟩ => ?_
  subst he
  exact ⟨_, rfl, _, _, _, [], _, [], hW', trodAll_mk1 (shut_bool Tryd.underlying4 _), (trodAll_cons_mk (shut_string Tryd.underlying9 w0) (trodAll_cons_mk (shut_string Tryd.underlying9 w1) trodAll_mk0)), rfl, bel.frame _, fun h => by cases h⟩

theorem back_met (os : Os) : laidMet Tryd.prog Rows.backRow.laid (({ World.holding Tryd.prog os ⟨#[], #[], []⟩ with heap := (((World.holding Tryd.prog os ⟨#[], #[], []⟩).heap.modify 0 (setTab Rows.laid_internal_strconv_uint64pow10)).modify 1 (setTab Rows.laid_math_bits_deBruijn32tab)).modify 2 (setTab Rows.laid_math_bits_deBruijn64tab) } : World).forCall (fun _ _ => 0) ⟨#[], #[.string ByteArray.empty, .string ByteArray.empty], []⟩).memory :=
  laidMet_of_run' 8 (by kernel_rfl) (by kernel_rfl)
theorem back_reads (os : Os) {H : Type} (enc : TypeId × Value → H) : ∃ places, DataW.whole enc Tryd.prog (({ World.holding Tryd.prog os ⟨#[], #[], []⟩ with heap := (((World.holding Tryd.prog os ⟨#[], #[], []⟩).heap.modify 0 (setTab Rows.laid_internal_strconv_uint64pow10)).modify 1 (setTab Rows.laid_math_bits_deBruijn32tab)).modify 2 (setTab Rows.laid_math_bits_deBruijn64tab) } : World).forCall (fun _ _ => 0) ⟨#[], #[.string ByteArray.empty, .string ByteArray.empty], []⟩).memory Tryd.f6.params.toList Rows.backSpec.vars false (#[.string ByteArray.empty, .string ByteArray.empty] : Array Value).toList 8 = some ([.lit (.string []), .lit (.string [])], [], places) :=
  ⟨[], by kernel_rfl⟩

set_option maxRecDepth 100000 in
theorem back_lifted (os : Os) (started : os.Started) (H : Type) (enc : TypeId × Value → H) (F : Stop.Interp) :
    ReturnsInHanded {} Tryd.checked os 6 .any ((OpenSpec.ofChange Rows.backSpec).preRow enc Tryd.prog Tryd.f6 Rows.backRow.domain false Rows.backRow.laid) (((OpenSpec.ofChange Rows.backSpec).at F).post enc Tryd.prog Tryd.f6 false true false false) := by
  obtain ⟨places, hx⟩ := back_reads os enc
  refine returnsInHanded_of_row (C := Tryd.checked) (s := OpenSpec.ofChange Rows.backSpec) laid_own started (by kernel_rfl) Tryd.func6
    (witness_row_at (enc := enc) (C := Tryd.checked) false ({ World.holding Tryd.prog os ⟨#[], #[], []⟩ with heap := (((World.holding Tryd.prog os ⟨#[], #[], []⟩).heap.modify 0 (setTab Rows.laid_internal_strconv_uint64pow10)).modify 1 (setTab Rows.laid_math_bits_deBruijn32tab)).modify 2 (setTab Rows.laid_math_bits_deBruijn64tab) } : World) #[.string ByteArray.empty, .string ByteArray.empty] rfl (by kernel_rfl) (by kernel_rfl) (by kernel_rfl)
      (OpenSpec.preRow_of_cond 8 hx (by kernel_rfl) (fun k hk => by cases hk) (by kernel_rfl) (back_met os))) ?_
  intro W base args ds gs before hval hW _ _ _ hL _ _
  exact back_contract H enc W base args ds gs before hval hW hL

theorem back_said : Rows.BackSaid :=
  OpenClaim.holds_of_cond 6 Tryd.f6 rfl rfl rfl rfl rfl rfl rfl ⟨rfl, rfl, rfl, rfl, rfl⟩ rfl rfl rfl rfl rfl (by kernel_rfl) Tryd.func6 (by kernel_rfl)
    (of_decide_eq_true (by kernel_rfl)) (by unfold Func.isWrapper; first | (rw [if_pos (by decide +kernel)]; kernel_rfl) | (rw [if_neg (by decide +kernel)]; exact ⟨rfl, rfl⟩))
    (fun os started H enc _ F => by rw [OpenClaim.pre_eq_preRow]; exact back_lifted os started H enc F)

theorem back_plain (f : FuncId) (fn : Func) (hf : Tryd.pinned.checked.prog.funcNamed "rollout/rolloutkeep.Back" = some f) (hfn : Tryd.pinned.checked.prog.funcs[f]? = some fn) :
    false = Tryd.pinned.checked.prog.looks [] ∧ ∀ (j : Nat) t, fn.params[j]? = some t → Tryd.pinned.checked.prog.wantsStandIn t = false := by
  obtain rfl : f = 6 := Option.some.inj ((show Tryd.prog.funcNamed "rollout/rolloutkeep.Back" = some 6 by kernel_rfl).symm.trans hf) |>.symm
  obtain rfl : fn = Tryd.f6 := (Option.some.inj (Tryd.func6.symm.trans hfn)).symm
  refine ⟨by kernel_rfl, fun j t ht => ?_⟩
  rw [Tryd.params6] at ht
  obtain rfl : t = 9 := by simpa using Array.mem_of_getElem? ht
  exact (show Tryd.prog.wantsStandIn 9 = false by kernel_rfl)

theorem back_card : Rows.BackCardSaid :=
  Claim7.holds_tied_plain_at .later [] _ _ _ _ back_said (fun _ h => by cases h) (by kernel_rfl) (fun _ h => by cases h) back_row_tie rfl ⟨rfl, rfl⟩ (by kernel_rfl) rfl back_plain (by kernel_rfl)
#print axioms back_card
end Go.Proofs.YtkkekopomiehlaaDoor
