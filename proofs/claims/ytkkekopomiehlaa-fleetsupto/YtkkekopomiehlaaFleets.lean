import Derived.Test.YtkkekopomiehlaaRows
import Derived.Test.YtkkekopomiehlaaFw1
import Derived.Test.YtkkekopomiehlaaOp1
import Derived.ProofKit
import Derived.OpenShut
import Derived.ShutString
import Derived.Carry
import Derived.Deep.DeepHandedRow
import Derived.JoinedCond
set_option linter.unusedVariables false
set_option linter.unusedSimpArgs false
namespace Go.Proofs.Ytkkekopomiehlaa
open Go.ChangeShapes Go.WideShapes Go.ChangeAt Go.RowKit

theorem fleets_laidOut : laidOutB Try.prog = true := by kernel_rfl
theorem fleets_own : ownKnob Try.prog.godebug = none := by kernel_rfl
theorem Try.cellsStrs : Try.prog.cellsOf 29 = 1 := by kernel_rfl
theorem Try.cellsTops : Try.prog.cellsOf 30 = 1 := by kernel_rfl
theorem Try.cellsSvcs : Try.prog.cellsOf 31 = 1 := by kernel_rfl
set_option maxRecDepth 100000 in
/-- A fleet that is handed in lies as a fleet does. -/
theorem open_fleet {H : Type} {enc : TypeId × Value → H} {W : World} {base : Nat} {v : Value} {d : DataW H} {p : List MemPlace} (hv : Value.okWide Try.prog W .any base 33 v) (h : DataW.Trod enc Try.prog W 0 (fun _ => true) true 33 v d p) (hN : Rows.uptoBulk d ≤ 1048576) :
    ∃ (f : FleetD) (sa ta va : Option Addr) (sl sc tl tc vl vc : Nat), v = .agg #[.slice sa sl sc, .slice ta tl tc, .slice va vl vc] ∧ FleetAt W sa sl sc ta tl tc va vl vc f := by
  obtain ⟨cs, rfl, hcs⟩ := okWide_struct Try.underlying33 hv
  obtain ⟨fuel, hf⟩ := h
  obtain ⟨xs, m, _, hx, hl, hlen, hfs⟩ := DataW.trod_struct Try.underlying33 hf
  simp only [Value.cells] at hf hl hfs
  rw [Try.cellsFlt] at hcs
  obtain ⟨l⟩ := cs
  simp at hcs
  match l, hcs with
  | [c0, c1, c2], _ =>
    match xs, hlen with
    | [y0, y1, y2], _ =>
      have h0 := hfs 0 _ rfl
      have h1 := hfs 1 _ rfl
      have h2 := hfs 2 _ rfl
      simp only [List.getElem_toArray, List.getElem_cons_zero, List.getElem_cons_succ, Try.cellsStrs, Try.cellsTops, Try.cellsSvcs] at h0 h1 h2
      have hx1 : d = .agg [y0.1, y1.1, y2.1] := by simpa using congrArg Prod.fst hx
      rw [hx1] at hN
      obtain ⟨sa, sl, sc, ss, e0, a1, a2, a3, a4⟩ := open_strs' (cs0 := [c0]) Try.underlying29 Try.underlying9 Try.cellsStr h0 (bulk_agg hN (by simp))
      obtain ⟨ta, tl, tc, ts, e1, b1, b2, b3⟩ := open_tops (cs0 := [c1]) h1 (bulk_agg hN (by simp))
      obtain ⟨va, vl, vc, vs, e2, g1, g2, g3⟩ := open_svcs (cs0 := [c2]) h2 (bulk_agg hN (by simp))
      simp at e0 e1 e2
      subst e0 e1 e2
      exact ⟨⟨ss, ts, vs⟩, sa, ta, va, sl, sc, tl, tc, vl, vc, rfl, ⟨a1, a2, a3, a4, b1, b2, b3, g1, g2, g3⟩⟩
set_option maxRecDepth 100000 in
theorem fleets_contract (H : Type) (enc : TypeId × Value → H) (W : World) (base : Nat) (args : Array Value) (ds gs : List (DataW H)) (before : List MemPlace)
    (hval : ∀ (j : Nat) t v, Try.f6.params[j]? = some t → args[j]? = some v → Value.okWide Try.prog W .any base t v)
    (hW : DataW.Whole enc Try.prog Try.f6.params.toList Rows.fleetsSpec.vars false W args.toList ds gs before) (hk : Rows.uptoSmall H (ds ++ gs) = true) :
    Calls Try.prog 6 args W fun e W' => ∃ v, e = .returned v ∧ Rows.fleetsSpec.post enc Try.prog Try.f6 false true false false W args v W' := by
  have hW' := hW
  obtain ⟨p, q, hA0, hV, rfl, hfz, hnd⟩ := hW
  have hA : DataW.TrodAll enc Try.prog W 0 (fun _ => true) true Try.f6.params.toList args.toList ds p := hA0
  rw [Try.params6] at hA hval
  obtain ⟨v0, vs0, d0, ds0, p0, q0, hargs, rfl, rfl, h0, r0⟩ := trodAll_cons hA
  obtain ⟨rfl, rfl, rfl⟩ := trodAll_nil r0
  obtain rfl : args = #[v0] := by cases args; simp_all
  obtain ⟨rfl, rfl⟩ := trodVars_none hV
  clear hA0
  have hN : Rows.uptoBulk d0 ≤ 1048576 := by
    unfold Rows.uptoSmall at hk
    have := of_decide_eq_true hk
    simp only [List.append_nil, Rows.uptoBulkAll] at this
    omega
  have hlt : ∀ x ∈ p0, x.block < W.heap.size := fun x hx => by simpa using hW'.lt x (by simp [hx])
  obtain ⟨f, sa, ta, va, sl, sc, tl, tc, vl, vc, rfl, hF⟩ := open_fleet (hval 0 33 v0 rfl rfl) h0 hN
  refine (fleets_walk f sa ta va sl sc tl tc vl vc W hF).mono fun e W' ⟨he, bel⟩ => ?_
  subst he
  have hargs : DataW.Trod enc Try.prog W' 0 (fun b => decide (b < W.heap.size)) true 33 (.agg #[.slice sa sl sc, .slice ta tl tc, .slice va vl vc]) d0 p0 :=
    Below.trod fleets_laidOut (by kernel_rfl) (of_decide_eq_true (by kernel_rfl)) h0 bel hlt
  exact ⟨_, rfl, _, _, _, [], _, [], hW', trodAll_mk1 (shut_bool Try.underlying4 _), trodAll_cons_mk hargs trodAll_mk0, rfl, bel.frame _, fun h => by cases h⟩

theorem fleets_reads (os : Os) {H : Type} (enc : TypeId × Value → H) : ∃ places, DataW.whole enc Try.prog ((World.holding Try.prog os ⟨#[], #[], []⟩).forCall (fun _ _ => 0) ⟨#[], #[.agg #[.slice none 0 0, .slice none 0 0, .slice none 0 0]], []⟩).memory Try.f6.params.toList Rows.fleetsSpec.vars false (#[.agg #[.slice none 0 0, .slice none 0 0, .slice none 0 0]] : Array Value).toList 8 = some ([.agg [.nil, .nil, .nil]], [], places) :=
  ⟨[], by kernel_rfl⟩

set_option maxRecDepth 100000 in
theorem fleets_lifted (os : Os) (started : os.Started) (H : Type) (enc : TypeId × Value → H) (F : Stop.Interp) :
    ReturnsInHanded {} Try.checked os 6 .any ((Rows.OpenSpec.upto Rows.fleetsSpec).preRow enc Try.prog Try.f6 Rows.fleetsUptoRow.domain false Rows.fleetsUptoRow.laid) (((Rows.OpenSpec.upto Rows.fleetsSpec).at F).post enc Try.prog Try.f6 false true false false) := by
  obtain ⟨places, hx⟩ := fleets_reads os enc
  refine returnsInHanded_of_row (C := Try.checked) (s := Rows.OpenSpec.upto Rows.fleetsSpec) fleets_own started (by kernel_rfl) Try.func6
    (witness_row_at (enc := enc) (C := Try.checked) false (World.holding Try.prog os ⟨#[], #[], []⟩) #[.agg #[.slice none 0 0, .slice none 0 0, .slice none 0 0]] rfl (by kernel_rfl) (by kernel_rfl) (by kernel_rfl)
      (OpenSpec.preRow_of_cond 8 hx (by kernel_rfl) (fun k hk => by cases hk; rfl) (by kernel_rfl) (laidMetH_nil _ _))) ?_
  intro W base args ds gs before hval hW _ hk _ hL _ _
  exact fleets_contract H enc W base args ds gs before hval hW (hk _ rfl)

theorem fleets_upto : Rows.FleetsUptoSaid :=
  OpenClaim.holds_of_cond 6 Try.f6 rfl rfl rfl rfl rfl rfl rfl ⟨rfl, rfl, rfl, rfl, rfl⟩ rfl rfl rfl rfl rfl (by kernel_rfl) Try.func6 (by kernel_rfl)
    (of_decide_eq_true (by kernel_rfl)) (by unfold Func.isWrapper; first | (rw [if_pos (by decide +kernel)]; kernel_rfl) | (rw [if_neg (by decide +kernel)]; exact ⟨rfl, rfl⟩))
    (fun os started H enc _ F => by rw [OpenClaim.pre_eq_preRow]; exact fleets_lifted os started H enc F)
#print axioms fleets_upto
end Go.Proofs.Ytkkekopomiehlaa
