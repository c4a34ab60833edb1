import Derived.Test.YtkkekopomiehlaaDoorLaid
import Derived.Test.YtkkekopomiehlaaDoorMDec14
set_option linter.unusedVariables false
set_option linter.unusedSimpArgs false
namespace Go.Proofs.YtkkekopomiehlaaDoor
open Go.ChangeShapes Go.WideShapes Go.ChangeAt Go.RowKit
open Go.ChangeMaps (open_string shut_string)

theorem steady_f1 : fitOut ⟨#[91, 60, 97, 98, 99, 62, 93]⟩ ⟨#[91, 60, 97, 98, 62, 93]⟩ = (⟨#[91, 99, 93]⟩, 7) := by decide +kernel
theorem steady_f2 : fitOut ⟨#[123, 120, 58, 60, 97, 98, 99, 62, 125]⟩ ⟨#[123, 120, 58, 60, 97, 98, 62, 125]⟩ = (⟨#[123, 120, 58, 99, 125]⟩, 7) := by decide +kernel
theorem steady_e : encOut false ⟨#[91, 60, 97, 98, 99, 62, 93]⟩ ⟨#[91, 99, 93]⟩ = (⟨#[1, 2]⟩, 0) := by decide +kernel
theorem steady_p1 : pAll false ⟨#[91, 60, 97, 98, 99, 62, 93]⟩ = some ⟨91, ByteArray.empty, false, [⟨60, ⟨#[97, 98, 99]⟩, false, [], []⟩], []⟩ := by kernel_rfl
theorem steady_p2 : pAll false ⟨#[91, 60, 97, 98, 62, 93]⟩ = some ⟨91, ByteArray.empty, false, [⟨60, ⟨#[97, 98]⟩, false, [], []⟩], []⟩ := by kernel_rfl
theorem steady_r : rdT 13 ⟨91, ByteArray.empty, false, [⟨60, ⟨#[97, 98, 99]⟩, false, [], []⟩], []⟩ ⟨91, ByteArray.empty, false, [⟨60, ⟨#[97, 98]⟩, false, [], []⟩], []⟩ (.lst [.cho 2]) = none := by kernel_rfl
theorem steady_v : okV 7 ⟨91, ByteArray.empty, false, [⟨60, ⟨#[97, 98, 99]⟩, false, [], []⟩], []⟩ (.lst [.cho 2]) :=
  okV_lst ⟨rfl, by decide, fun v hv => by rw [List.mem_singleton.1 hv]; exact okV_cho ⟨rfl, by decide, by decide⟩⟩
theorem steady_d : datV 7 (.lst [.cho 2]) = ⟨#[1, 2]⟩ := by decide +kernel
/-- That value can't be read. -/
theorem steady_read (w : World) (hT : Tab w) : Calls Tryd.prog 15 #[.string ⟨#[91, 60, 97, 98, 99, 62, 93]⟩, .string ⟨#[91, 60, 97, 98, 62, 93]⟩, .string ⟨#[1, 2]⟩] w fun e w' => e = .returned (.tuple #[.string ByteArray.empty, .int .i64 6]) ∧ Below w.heap.size w w' := by
  have hdec := fun (W : World) (ai af : Option Addr) (li ci lf cf : Nat) (hb : Below w.heap.size w W) (h : Rep 7 W ai li ci af lf cf _) => sDecode_any fmtOK (t := ⟨#[1, 2]⟩) (by decide) (show 7 ≤ 100 by omega) ⟨91, ByteArray.empty, false, [⟨60, ⟨#[97, 98, 99]⟩, false, [], []⟩], []⟩ W ai af li ci lf cf (hT.keep hb) (pAll_ok steady_p1) h
  have hd0 := decAll_val steady_v
  rw [steady_d] at hd0
  rw [hd0] at hdec
  have hrd := fun (W : World) (ai af : Option Addr) (li ci lf cf : Nat) (bi bf : Option Addr) (mi di mf df : Nat) (hb : Below w.heap.size w W) (h : Rep 7 W ai li ci af lf cf ⟨91, ByteArray.empty, false, [⟨60, ⟨#[97, 98, 99]⟩, false, [], []⟩], []⟩) (h' : Rep 6 W bi mi di bf mf df ⟨91, ByteArray.empty, false, [⟨60, ⟨#[97, 98]⟩, false, [], []⟩], []⟩) =>
    read_all fmtOK 13 7 6 _ _ (.lst [.cho 2]) W ai af li ci lf cf bi bf mi di mf df (Nat.le_refl _) (by omega) (by omega) (hT.keep hb) (pAll_ok steady_p1) (pAll_ok steady_p2) h h' steady_v (by rw [steady_d]; decide) (pAll_wt steady_p2 (by decide) _)
  rw [steady_d, steady_r] at hrd
  exact Read_fail _ _ _ _ _ (by decide) w _ _ 7 6 (fun w => typesOf_ok (by decide) (by decide) steady_p1 steady_p2 w) hdec hrd

set_option maxHeartbeats 4000000 in
theorem steady_walk (s t x d : ByteArray) (hs : s.size ≤ maxLen) (ht : t.size ≤ maxLen) (hx : x.size ≤ maxLen) (hd : d.size ≤ maxLen) (w : World) (hT : Tab w) :
    Calls Tryd.prog 8 #[.string s, .string t, .string x, .string d] w fun e w' => e = .returned (.bool true) ∧ Below w.heap.size w w' := by
  have h1 := fun W => Fits_any s t hs ht (fun x hx h60 => pAll_wt hx h60 _) W
  have h2 := fun W => Fits_any ⟨#[91, 60, 97, 98, 99, 62, 93]⟩ ⟨#[91, 60, 97, 98, 62, 93]⟩ (by decide) (by decide) (fun x hx h60 => pAll_wt hx h60 _) W
  have h3 := fun W => Check_any x hx W
  have h4 := fun W => Encode_any s x hs hx W
  have h5 := fun (W : World) (hb : Below w.heap.size w W) => Decode_any fmtOK t d ht hd W (hT.keep hb)
  obtain ⟨a6, _, h6'⟩ := Read_any fmtOK t s d ht hs hd
  have h6 := fun (W : World) (hb : Below w.heap.size w W) => h6' W (hT.keep hb)
  have h7 := fun W => Fits_any t s ht hs (fun x hx h60 => pAll_wt hx h60 _) W
  have h9 := fun W => Fits_any ⟨#[123, 120, 58, 60, 97, 98, 99, 62, 125]⟩ ⟨#[123, 120, 58, 60, 97, 98, 62, 125]⟩ (by decide) (by decide) (fun x hx h60 => pAll_wt hx h60 _) W
  have h10 := fun W => Encode_any ⟨#[91, 60, 97, 98, 99, 62, 93]⟩ ⟨#[91, 99, 93]⟩ (by decide) (by decide) W
  have h11 := fun (W : World) (hb : Below w.heap.size w W) => steady_read W (hT.keep hb)
  rw [steady_f1] at h2
  rw [steady_f2] at h9
  rw [steady_e] at h10
  simp only at h2 h9 h10
  generalize (fitOut s t).1 = T at h1
  generalize (fitOut s t).2 = E at h1
  generalize (fitOut t s).1 = T7 at h7
  generalize (fitOut t s).2 = E7 at h7
  generalize chk false x = E3 at h3
  generalize (encOut false s x).1 = T4 at h4
  generalize (encOut false s x).2 = E4 at h4
  generalize (decOut false t d).1 = T5 at h5
  generalize (decOut false t d).2 = E5 at h5
  generalize a6.1 = T6 at h6
  generalize a6.2 = E6 at h6
  have e1 : (E == E) = true := by simp
  have e2 : (T.toList == T.toList) = true := by simp
  clear h6' hs ht hx hd
  go_enter Tryd.func8, Tryd.ntmps8
  go_wp2_with (first
    | (go_at_call 18; have hq := hb8; refine (h9 _).mono ?_; rintro e w9 ⟨rfl, hb9⟩)
    | (go_at_call 18; have hq := hb7; refine (h1 _).mono ?_; rintro e w8 ⟨rfl, hb8⟩)
    | (go_at_call 18; have hq := hb6; refine (h7 _).mono ?_; rintro e w7 ⟨rfl, hb7⟩)
    | (go_at_call 18; have hq := hb1; refine (h2 _).mono ?_; rintro e w2 ⟨rfl, hb2⟩)
    | (go_at_call 18; refine (h1 _).mono ?_; rintro e w1 ⟨rfl, hb1⟩)
    | (go_at_call 17; refine (h3 _).mono ?_; rintro e w3 ⟨rfl, hb3⟩)
    | (go_at_call 14; have hq := hb9; refine (h10 _).mono ?_; rintro e w10 ⟨rfl, hb10⟩)
    | (go_at_call 14; refine (h4 _).mono ?_; rintro e w4 ⟨rfl, hb4⟩)
    | (go_at_call 9; refine (h5 _ (((hb1.thn hb2).thn hb3).thn hb4)).mono ?_; rintro e w5 ⟨rfl, hb5⟩)
    | (go_at_call 15; have hq := hb10; refine (h11 _ (((((((((hb1.thn hb2).thn hb3).thn hb4).thn hb5).thn hb6).thn hb7).thn hb8).thn hb9).thn hb10)).mono ?_; rintro e w11 ⟨rfl, hb11⟩)
    | (go_at_call 15; refine (h6 _ ((((hb1.thn hb2).thn hb3).thn hb4).thn hb5)).mono ?_; rintro e w6 ⟨rfl, hb6⟩))
  go_ret
  exact ⟨ret_bool (by simp), ((((((((((hb1.thn hb2).thn hb3).thn hb4).thn hb5).thn hb6).thn hb7).thn hb8).thn hb9).thn hb10).thn hb11)⟩

set_option maxRecDepth 100000 in
theorem steady_contract (H : Type) (enc : TypeId × Value → H) (W : World) (base : Nat) (args : Array Value) (ds gs : List (DataW H)) (before : List MemPlace)
    (hval : ∀ (j : Nat) t v, Tryd.f8.params[j]? = some t → args[j]? = some v → Value.okWide Tryd.prog W .any base t v)
    (hW : DataW.Whole enc Tryd.prog Tryd.f8.params.toList Rows.steadySpec.vars false W args.toList ds gs before) (hL : laidMetH Tryd.prog Rows.steadyRow.laid W) :
    Calls Tryd.prog 8 args W fun e W' => ∃ v, e = .returned v ∧ Rows.steadySpec.post enc Tryd.prog Tryd.f8 false true false false W args v W' := by
  have hW' := hW
  obtain ⟨p, q, hA0, hV, rfl, hfz, hnd⟩ := hW
  have hA : DataW.TrodAll enc Tryd.prog W 0 (fun _ => true) true Tryd.f8.params.toList args.toList ds p := hA0
  rw [Tryd.params8] at hA hval
  obtain ⟨v0, vs0, d0, ds0, p0, q0, hargs, rfl, rfl, h0, r0⟩ := trodAll_cons hA
  obtain ⟨v1, vs1, d1, ds1, p1, q1, rfl, rfl, rfl, h1, r1⟩ := trodAll_cons r0
  obtain ⟨v2, vs2, d2, ds2, p2, q2, rfl, rfl, rfl, h2, r2⟩ := trodAll_cons r1
  obtain ⟨v3, vs3, d3, ds3, p3, q3, rfl, rfl, rfl, h3, r3⟩ := trodAll_cons r2
  obtain ⟨rfl, rfl, rfl⟩ := trodAll_nil r3
  obtain rfl : args = #[v0, v1, v2, v3] := by cases args; simp_all
  obtain ⟨rfl, rfl⟩ := trodVars_none hV
  obtain ⟨a0, rfl, rfl, rfl, w0⟩ := open_string Tryd.underlying9 (hval 0 9 v0 rfl rfl) h0
  obtain ⟨a1, rfl, rfl, rfl, w1⟩ := open_string Tryd.underlying9 (hval 1 9 v1 rfl rfl) h1
  obtain ⟨a2, rfl, rfl, rfl, w2⟩ := open_string Tryd.underlying9 (hval 2 9 v2 rfl rfl) h2
  obtain ⟨a3, rfl, rfl, rfl, w3⟩ := open_string Tryd.underlying9 (hval 3 9 v3 rfl rfl) h3
  clear hA0
  refine (steady_walk a0 a1 a2 a3 w0 w1 w2 w3 W (tab_of_laid hL)).mono fun e W' ⟨he, bel⟩ => ?_
  subst he
  exact ⟨_, rfl, _, _, _, [], _, [], hW', trodAll_mk1 (shut_bool Tryd.underlying4 _), (trodAll_cons_mk (shut_string Tryd.underlying9 w0) (trodAll_cons_mk (shut_string Tryd.underlying9 w1) (trodAll_cons_mk (shut_string Tryd.underlying9 w2) (trodAll_cons_mk (shut_string Tryd.underlying9 w3) trodAll_mk0)))), rfl, bel.frame _, fun h => by cases h⟩

theorem steady_met (os : Os) : laidMet Tryd.prog Rows.steadyRow.laid (({ World.holding Tryd.prog os ⟨#[], #[], []⟩ with heap := (((World.holding Tryd.prog os ⟨#[], #[], []⟩).heap.modify 0 (setTab Rows.laid_internal_strconv_uint64pow10)).modify 1 (setTab Rows.laid_math_bits_deBruijn32tab)).modify 2 (setTab Rows.laid_math_bits_deBruijn64tab) } : World).forCall (fun _ _ => 0) ⟨#[], #[.string ByteArray.empty, .string ByteArray.empty, .string ByteArray.empty, .string ByteArray.empty], []⟩).memory :=
  laidMet_of_run' 8 (by kernel_rfl) (by kernel_rfl)
theorem steady_reads (os : Os) {H : Type} (enc : TypeId × Value → H) : ∃ places, DataW.whole enc Tryd.prog (({ World.holding Tryd.prog os ⟨#[], #[], []⟩ with heap := (((World.holding Tryd.prog os ⟨#[], #[], []⟩).heap.modify 0 (setTab Rows.laid_internal_strconv_uint64pow10)).modify 1 (setTab Rows.laid_math_bits_deBruijn32tab)).modify 2 (setTab Rows.laid_math_bits_deBruijn64tab) } : World).forCall (fun _ _ => 0) ⟨#[], #[.string ByteArray.empty, .string ByteArray.empty, .string ByteArray.empty, .string ByteArray.empty], []⟩).memory Tryd.f8.params.toList Rows.steadySpec.vars false (#[.string ByteArray.empty, .string ByteArray.empty, .string ByteArray.empty, .string ByteArray.empty] : Array Value).toList 8 = some ([.lit (.string []), .lit (.string []), .lit (.string []), .lit (.string [])], [], places) :=
  ⟨[], by kernel_rfl⟩

set_option maxRecDepth 100000 in
theorem steady_lifted (os : Os) (started : os.Started) (H : Type) (enc : TypeId × Value → H) (F : Stop.Interp) :
    ReturnsInHanded {} Tryd.checked os 8 .any ((OpenSpec.ofChange Rows.steadySpec).preRow enc Tryd.prog Tryd.f8 Rows.steadyRow.domain false Rows.steadyRow.laid) (((OpenSpec.ofChange Rows.steadySpec).at F).post enc Tryd.prog Tryd.f8 false true false false) := by
  obtain ⟨places, hx⟩ := steady_reads os enc
  refine returnsInHanded_of_row (C := Tryd.checked) (s := OpenSpec.ofChange Rows.steadySpec) laid_own started (by kernel_rfl) Tryd.func8
    (witness_row_at (enc := enc) (C := Tryd.checked) false ({ World.holding Tryd.prog os ⟨#[], #[], []⟩ with heap := (((World.holding Tryd.prog os ⟨#[], #[], []⟩).heap.modify 0 (setTab Rows.laid_internal_strconv_uint64pow10)).modify 1 (setTab Rows.laid_math_bits_deBruijn32tab)).modify 2 (setTab Rows.laid_math_bits_deBruijn64tab) } : World) #[.string ByteArray.empty, .string ByteArray.empty, .string ByteArray.empty, .string ByteArray.empty] rfl (by kernel_rfl) (by kernel_rfl) (by kernel_rfl)
      (OpenSpec.preRow_of_cond 8 hx (by kernel_rfl) (fun k hk => by cases hk) (by kernel_rfl) (steady_met os))) ?_
  intro W base args ds gs before hval hW _ _ _ hL _ _
  exact steady_contract H enc W base args ds gs before hval hW hL

theorem steady_said : Rows.SteadySaid :=
  OpenClaim.holds_of_cond 8 Tryd.f8 rfl rfl rfl rfl rfl rfl rfl ⟨rfl, rfl, rfl, rfl, rfl⟩ rfl rfl rfl rfl rfl (by kernel_rfl) Tryd.func8 (by kernel_rfl)
    (of_decide_eq_true (by kernel_rfl)) (by unfold Func.isWrapper; first | (rw [if_pos (by decide +kernel)]; kernel_rfl) | (rw [if_neg (by decide +kernel)]; exact ⟨rfl, rfl⟩))
    (fun os started H enc _ F => by rw [OpenClaim.pre_eq_preRow]; exact steady_lifted os started H enc F)

theorem steady_plain (f : FuncId) (fn : Func) (hf : Tryd.pinned.checked.prog.funcNamed "rollout/rolloutkeep.Steady" = some f) (hfn : Tryd.pinned.checked.prog.funcs[f]? = some fn) :
    false = Tryd.pinned.checked.prog.looks [] ∧ ∀ (j : Nat) t, fn.params[j]? = some t → Tryd.pinned.checked.prog.wantsStandIn t = false := by
  obtain rfl : f = 8 := Option.some.inj ((show Tryd.prog.funcNamed "rollout/rolloutkeep.Steady" = some 8 by kernel_rfl).symm.trans hf) |>.symm
  obtain rfl : fn = Tryd.f8 := (Option.some.inj (Tryd.func8.symm.trans hfn)).symm
  refine ⟨by kernel_rfl, fun j t ht => ?_⟩
  rw [Tryd.params8] at ht
  obtain rfl : t = 9 := by simpa using Array.mem_of_getElem? ht
  exact (show Tryd.prog.wantsStandIn 9 = false by kernel_rfl)

theorem steady_card : Rows.SteadyCardSaid :=
  Claim7.holds_tied_plain_at .later [] _ _ _ _ steady_said (fun _ h => by cases h) (by kernel_rfl) (fun _ h => by cases h) steady_row_tie rfl ⟨rfl, rfl⟩ (by kernel_rfl) rfl steady_plain (by kernel_rfl)
#print axioms steady_card
end Go.Proofs.YtkkekopomiehlaaDoor
