/-
  No cell of these rows narrows 'for every input' (looked for: loops, veiled, ifaces, maps, wideKeys, modest, calm, conditions, laid).
  DERIVED. THE GIVEN ROWS OF THIS SEAT. 4 by the template 'for every input the law returns true; each argument reads behind the call as it read before'; 0 by the template 'total and deterministic' (their statements: YtkkekopomiehlaaTotals.lean).
  GIVEN WITH THE SEED: the statements are not yours to turn. If you find one false, say at which input.
  Laid BY PROGRAM, IN A SANDBOX (cutbox-rows.mjs): the forced cells as the released guide's own fill.sh prints them over the translation 3f6cb77e6885db14… (all of the seat's roots in one cut). By AI agents, Wed Nov 11 2026. No macro, syntax, notation, axiom, sorry.
-/
import Derived.Test.YtkkekopomiehlaaChecked
import GoSem.Claim
import GoSem.ClaimJoined
import GoSem.ClaimMapViews
import Derived.JoinedTies
import Derived.KernelRfl
namespace Go.Proofs.Ytkkekopomiehlaa
/- THE CELL 'sum', in the pinned program and in every row, IS THE sha256 OF THE DUMP (.gsa) THAT YtkkekopomiehlaaProg.lean LOADS. Nothing in Lean hashes anything: it is a label: what it is worth is what the hold of that sum in a sandbox is worth. -/
noncomputable def Try.pinned : Pinned := { name := "ytkkekopomiehlaa", sum := "3f6cb77e6885db14ea85a082a8cd23aa3fb7c42aca8538c0e0cc76543585ed25", checked := Try.checked }
namespace Rows
def none {H : Type} : Left H := { results := [], args := [] }

/-- 'rolloutlaw.Checks': WHATEVER THE INPUT: true; the input reads as it did. -/
def checksSpec : ChangeSpec := { name := "checks", fn := fun _ => fun
  | [d] => { results := [.lit (.bool true)], args := [d] }
  | _ => none }
def checksRow : OpenClaim := { program := "ytkkekopomiehlaa", sum := "3f6cb77e6885db14ea85a082a8cd23aa3fb7c42aca8538c0e0cc76543585ed25", func := "rollout/rolloutlaw.Checks", spec := "checks", recurses := true, apart := false }
def ChecksSaid : Prop := checksRow.holds Try.pinned (OpenSpec.ofChange checksSpec)

/-- ITS FALSE NEIGHBOUR: 'it returns false'. Refute it at one input. -/
def checksWrong : ChangeSpec := { name := "checks", fn := fun _ => fun
  | [d] => { results := [.lit (.bool false)], args := [d] }
  | _ => none }
def ChecksWrongFalsely : Prop := checksRow.holds Try.pinned (OpenSpec.ofChange checksWrong)

/-- 'rolloutlaw.Encodes': WHATEVER THE INPUT: true; the input reads as it did. -/
def encodesSpec : ChangeSpec := { name := "encodes", fn := fun _ => fun
  | [d1, d2] => { results := [.lit (.bool true)], args := [d1, d2] }
  | _ => none }
def encodesRow : OpenClaim := { program := "ytkkekopomiehlaa", sum := "3f6cb77e6885db14ea85a082a8cd23aa3fb7c42aca8538c0e0cc76543585ed25", func := "rollout/rolloutlaw.Encodes", spec := "encodes", recurses := true, apart := false }
def EncodesSaid : Prop := encodesRow.holds Try.pinned (OpenSpec.ofChange encodesSpec)

/-- ITS FALSE NEIGHBOUR: 'it returns false'. Refute it at one input. -/
def encodesWrong : ChangeSpec := { name := "encodes", fn := fun _ => fun
  | [d1, d2] => { results := [.lit (.bool false)], args := [d1, d2] }
  | _ => none }
def EncodesWrongFalsely : Prop := encodesRow.holds Try.pinned (OpenSpec.ofChange encodesWrong)

/-- 'rolloutlaw.Fitted': WHATEVER THE INPUT: true; the input reads as it did. -/
def fittedSpec : ChangeSpec := { name := "fitted", fn := fun _ => fun
  | [d1, d2] => { results := [.lit (.bool true)], args := [d1, d2] }
  | _ => none }
def fittedRow : OpenClaim := { program := "ytkkekopomiehlaa", sum := "3f6cb77e6885db14ea85a082a8cd23aa3fb7c42aca8538c0e0cc76543585ed25", func := "rollout/rolloutlaw.Fitted", spec := "fitted", recurses := true, apart := false }
def FittedSaid : Prop := fittedRow.holds Try.pinned (OpenSpec.ofChange fittedSpec)

/-- ITS FALSE NEIGHBOUR: 'it returns false'. Refute it at one input. -/
def fittedWrong : ChangeSpec := { name := "fitted", fn := fun _ => fun
  | [d1, d2] => { results := [.lit (.bool false)], args := [d1, d2] }
  | _ => none }
def FittedWrongFalsely : Prop := fittedRow.holds Try.pinned (OpenSpec.ofChange fittedWrong)

/-- 'rolloutlaw.Fleets': WHATEVER THE INPUT: true; the input reads as it did. -/
def fleetsSpec : ChangeSpec := { name := "fleets", fn := fun _ => fun
  | [d] => { results := [.lit (.bool true)], args := [d] }
  | _ => none }
def fleetsRow : OpenClaim := { program := "ytkkekopomiehlaa", sum := "3f6cb77e6885db14ea85a082a8cd23aa3fb7c42aca8538c0e0cc76543585ed25", func := "rollout/rolloutlaw.Fleets", spec := "fleets", recurses := true, apart := false }
def FleetsSaid : Prop := fleetsRow.holds Try.pinned (OpenSpec.ofChange fleetsSpec)

/-- ITS FALSE NEIGHBOUR: 'it returns false'. Refute it at one input. -/
def fleetsWrong : ChangeSpec := { name := "fleets", fn := fun _ => fun
  | [d] => { results := [.lit (.bool false)], args := [d] }
  | _ => none }
def FleetsWrongFalsely : Prop := fleetsRow.holds Try.pinned (OpenSpec.ofChange fleetsWrong)

/- THE SECOND FORM. 'bulk': how many values and letters a reading holds, each counted each time it is reached (what is shared counts as often as it is met; a slice's spare places count too). A statement '..UptoSaid' is the law's where the arguments, and the package variables that the reading takes, are together of bulk at most 1048576: NARROWER than '..Said'. Prove '..Said' where nothing that the law and all that it calls make is longer than what came in: it says more and counts as full. Else prove '..UptoSaid'. A law counts once. -/
mutual
def uptoBulk {H : Type} : DataW H → Nat
  | .lit (.string bytes) => bytes.length + 1
  | .lit _ => 1
  | .nil => 1
  | .ptr d => uptoBulk d + 1
  | .slice elems spare => uptoBulkAll elems + uptoBulkAll spare + 1
  | .agg parts => uptoBulkAll parts + 1
  | .iface _ d => uptoBulk d + 1
  | .map entries => uptoBulkEntries entries + 1
  | .held _ => 1
def uptoBulkAll {H : Type} : List (DataW H) → Nat
  | [] => 0
  | d :: r => uptoBulk d + uptoBulkAll r
def uptoBulkEntries {H : Type} : List (Lit × DataW H) → Nat
  | [] => 0
  | x :: r => uptoBulkEntry x + uptoBulkEntries r
def uptoBulkEntry {H : Type} : Lit × DataW H → Nat
  | (.string bytes, d) => bytes.length + uptoBulk d + 1
  | (_, d) => uptoBulk d + 1
 end
def uptoSmall : (H : Type) → List (DataW H) → Bool := fun _ ds => decide (uptoBulkAll ds ≤ 1048576)
def OpenSpec.upto (s : _root_.Go.ChangeSpec) : _root_.Go.OpenSpec := { _root_.Go.OpenSpec.ofChange s with cond := some uptoSmall }

/-- 'rolloutlaw.Checks', WHERE WHAT IT READS IS OF BULK AT MOST 1048576: true; the input reads as it did. -/
def checksUptoRow : OpenClaim := { program := "ytkkekopomiehlaa", sum := "3f6cb77e6885db14ea85a082a8cd23aa3fb7c42aca8538c0e0cc76543585ed25", func := "rollout/rolloutlaw.Checks", spec := "checks", recurses := true, apart := false, narrowed := true }
def ChecksUptoSaid : Prop := checksUptoRow.holds Try.pinned (OpenSpec.upto checksSpec)

/-- 'rolloutlaw.Encodes', WHERE WHAT IT READS IS OF BULK AT MOST 1048576: true; the input reads as it did. -/
def encodesUptoRow : OpenClaim := { program := "ytkkekopomiehlaa", sum := "3f6cb77e6885db14ea85a082a8cd23aa3fb7c42aca8538c0e0cc76543585ed25", func := "rollout/rolloutlaw.Encodes", spec := "encodes", recurses := true, apart := false, narrowed := true }
def EncodesUptoSaid : Prop := encodesUptoRow.holds Try.pinned (OpenSpec.upto encodesSpec)

/-- 'rolloutlaw.Fitted', WHERE WHAT IT READS IS OF BULK AT MOST 1048576: true; the input reads as it did. -/
def fittedUptoRow : OpenClaim := { program := "ytkkekopomiehlaa", sum := "3f6cb77e6885db14ea85a082a8cd23aa3fb7c42aca8538c0e0cc76543585ed25", func := "rollout/rolloutlaw.Fitted", spec := "fitted", recurses := true, apart := false, narrowed := true }
def FittedUptoSaid : Prop := fittedUptoRow.holds Try.pinned (OpenSpec.upto fittedSpec)

/-- 'rolloutlaw.Fleets', WHERE WHAT IT READS IS OF BULK AT MOST 1048576: true; the input reads as it did. -/
def fleetsUptoRow : OpenClaim := { program := "ytkkekopomiehlaa", sum := "3f6cb77e6885db14ea85a082a8cd23aa3fb7c42aca8538c0e0cc76543585ed25", func := "rollout/rolloutlaw.Fleets", spec := "fleets", recurses := true, apart := false, narrowed := true }
def FleetsUptoSaid : Prop := fleetsUptoRow.holds Try.pinned (OpenSpec.upto fleetsSpec)

end Rows
end Go.Proofs.Ytkkekopomiehlaa
