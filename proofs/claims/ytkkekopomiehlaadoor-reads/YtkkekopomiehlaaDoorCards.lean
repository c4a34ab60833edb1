/-
  DERIVED. GIVEN WITH THE SEED: THE CARDS: each row of YtkkekopomiehlaaDoorRows.lean that lists a variable, with what it lists TIED to the program's text (the seventh form; the later family's looks); each row that meets fmt, with fmt's text TOLD by the authors' own Lean function (tested against real Go, not proved from fmt's source: count such statements apart). THE CARD IS WHAT COUNTS. Prove the row's statement (the work); the ties are given (YtkkekopomiehlaaDoorTie.lean); close each card by the builder's one call (the guide's Derived/Test/ToyasCard.lean, 'card_holds'). Laid BY PROGRAM, IN A SANDBOX (cutbox-door.mjs). By AI agents, Wed Nov 11 2026. No macro, syntax, notation, axiom, sorry.
-/
import Derived.Test.YtkkekopomiehlaaDoorRows
import GoSem.ClaimSeven
namespace Go.Proofs.YtkkekopomiehlaaDoor
namespace Rows

/-- THE TIED CARD OF 'rolloutlaw.Decodes'. -/
def decodesCard : Claim7 := { stood := { row := decodesRow, standIns := [], harness := (true, "61f717640472d0cf376b9c0dab505fb955e4f665b223d203afe3d06c5d275159"), looks := false }, kinds := [], alts := [], laidByText := true, laidKinds := [.data, .data, .data], laidTests := true, laidLooks := .later }
def DecodesCardSaid : Prop := Claim7.holds Tryd.pinned (.plain (OpenSpec.ofChange decodesSpec)) decodesCard

/-- THE TIED CARD OF 'rolloutkeep.There'. -/
def thereCard : Claim7 := { stood := { row := thereRow, standIns := [], harness := (true, "61f717640472d0cf376b9c0dab505fb955e4f665b223d203afe3d06c5d275159"), looks := false }, kinds := [], alts := [], laidByText := true, laidKinds := [.data, .data, .data], laidTests := true, laidLooks := .later }
def ThereCardSaid : Prop := Claim7.holds Tryd.pinned (.plain (OpenSpec.ofChange thereSpec)) thereCard

/-- THE TIED CARD OF 'rolloutlaw.Reads'. -/
def readsCard : Claim7 := { stood := { row := readsRow, standIns := [], harness := (true, "61f717640472d0cf376b9c0dab505fb955e4f665b223d203afe3d06c5d275159"), looks := false }, kinds := [], alts := [], laidByText := true, laidKinds := [.data, .data, .data], laidTests := true, laidLooks := .later }
def ReadsCardSaid : Prop := Claim7.holds Tryd.pinned (.plain (OpenSpec.ofChange readsSpec)) readsCard

/-- THE TIED CARD OF 'rolloutkeep.Back'. -/
def backCard : Claim7 := { stood := { row := backRow, standIns := [], harness := (true, "61f717640472d0cf376b9c0dab505fb955e4f665b223d203afe3d06c5d275159"), looks := false }, kinds := [], alts := [], laidByText := true, laidKinds := [.data, .data, .data], laidTests := true, laidLooks := .later }
def BackCardSaid : Prop := Claim7.holds Tryd.pinned (.plain (OpenSpec.ofChange backSpec)) backCard

/-- THE TIED CARD OF 'rolloutkeep.Seen'. -/
def seenCard : Claim7 := { stood := { row := seenRow, standIns := [], harness := (true, "61f717640472d0cf376b9c0dab505fb955e4f665b223d203afe3d06c5d275159"), looks := false }, kinds := [], alts := [], laidByText := true, laidKinds := [.data, .data, .data], laidTests := true, laidLooks := .later }
def SeenCardSaid : Prop := Claim7.holds Tryd.pinned (.plain (OpenSpec.ofChange seenSpec)) seenCard

/-- THE TIED CARD OF 'rolloutkeep.Steady'. -/
def steadyCard : Claim7 := { stood := { row := steadyRow, standIns := [], harness := (true, "61f717640472d0cf376b9c0dab505fb955e4f665b223d203afe3d06c5d275159"), looks := false }, kinds := [], alts := [], laidByText := true, laidKinds := [.data, .data, .data], laidTests := true, laidLooks := .later }
def SteadyCardSaid : Prop := Claim7.holds Tryd.pinned (.plain (OpenSpec.ofChange steadySpec)) steadyCard

/-- THE SECOND FORM's CARD OF 'rolloutlaw.Decodes'. -/
def decodesUptoCard : Claim7 := { stood := { row := decodesUptoRow, standIns := [], harness := (true, "61f717640472d0cf376b9c0dab505fb955e4f665b223d203afe3d06c5d275159"), looks := false }, kinds := [], alts := [], laidByText := true, laidKinds := [.data, .data, .data], laidTests := true, laidLooks := .later }
def DecodesUptoCardSaid : Prop := Claim7.holds Tryd.pinned (.plain (OpenSpec.upto decodesSpec)) decodesUptoCard

/-- THE SECOND FORM's CARD OF 'rolloutkeep.There'. -/
def thereUptoCard : Claim7 := { stood := { row := thereUptoRow, standIns := [], harness := (true, "61f717640472d0cf376b9c0dab505fb955e4f665b223d203afe3d06c5d275159"), looks := false }, kinds := [], alts := [], laidByText := true, laidKinds := [.data, .data, .data], laidTests := true, laidLooks := .later }
def ThereUptoCardSaid : Prop := Claim7.holds Tryd.pinned (.plain (OpenSpec.upto thereSpec)) thereUptoCard

/-- THE SECOND FORM's CARD OF 'rolloutlaw.Reads'. -/
def readsUptoCard : Claim7 := { stood := { row := readsUptoRow, standIns := [], harness := (true, "61f717640472d0cf376b9c0dab505fb955e4f665b223d203afe3d06c5d275159"), looks := false }, kinds := [], alts := [], laidByText := true, laidKinds := [.data, .data, .data], laidTests := true, laidLooks := .later }
def ReadsUptoCardSaid : Prop := Claim7.holds Tryd.pinned (.plain (OpenSpec.upto readsSpec)) readsUptoCard

/-- THE SECOND FORM's CARD OF 'rolloutkeep.Back'. -/
def backUptoCard : Claim7 := { stood := { row := backUptoRow, standIns := [], harness := (true, "61f717640472d0cf376b9c0dab505fb955e4f665b223d203afe3d06c5d275159"), looks := false }, kinds := [], alts := [], laidByText := true, laidKinds := [.data, .data, .data], laidTests := true, laidLooks := .later }
def BackUptoCardSaid : Prop := Claim7.holds Tryd.pinned (.plain (OpenSpec.upto backSpec)) backUptoCard

/-- THE SECOND FORM's CARD OF 'rolloutkeep.Seen'. -/
def seenUptoCard : Claim7 := { stood := { row := seenUptoRow, standIns := [], harness := (true, "61f717640472d0cf376b9c0dab505fb955e4f665b223d203afe3d06c5d275159"), looks := false }, kinds := [], alts := [], laidByText := true, laidKinds := [.data, .data, .data], laidTests := true, laidLooks := .later }
def SeenUptoCardSaid : Prop := Claim7.holds Tryd.pinned (.plain (OpenSpec.upto seenSpec)) seenUptoCard

/-- THE SECOND FORM's CARD OF 'rolloutkeep.Steady'. -/
def steadyUptoCard : Claim7 := { stood := { row := steadyUptoRow, standIns := [], harness := (true, "61f717640472d0cf376b9c0dab505fb955e4f665b223d203afe3d06c5d275159"), looks := false }, kinds := [], alts := [], laidByText := true, laidKinds := [.data, .data, .data], laidTests := true, laidLooks := .later }
def SteadyUptoCardSaid : Prop := Claim7.holds Tryd.pinned (.plain (OpenSpec.upto steadySpec)) steadyUptoCard
end Rows
end Go.Proofs.YtkkekopomiehlaaDoor
