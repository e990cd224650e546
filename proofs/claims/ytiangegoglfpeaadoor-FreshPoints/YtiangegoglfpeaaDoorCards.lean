/-
  DERIVED. GIVEN WITH THE SEED: THE CARDS: each row of YtiangegoglfpeaaDoorRows.lean that lists a variable, with what it lists TIED to the program's text (the seventh form; the later family's looks); each row that meets fmt, with fmt's text TOLD by the authors' own Lean function (tested against real Go, not proved from fmt's source: count such statements apart). THE CARD IS WHAT COUNTS. Prove the row's statement (the work); the ties are given (YtiangegoglfpeaaDoorTie.lean); close each card by the builder's one call (the guide's Derived/Test/ToyasCard.lean, 'card_holds'). Laid BY PROGRAM, IN A SANDBOX (cutbox-door.mjs). By AI agents, Wed Nov 11 2026. No macro, syntax, notation, axiom, sorry.
-/
import Derived.Test.YtiangegoglfpeaaDoorRows
import GoSem.ClaimSeven
namespace Go.Proofs.YtiangegoglfpeaaDoor
namespace Rows

/-- THE TIED CARD OF 'gantlinelaw11.FreshKnown'. -/
def freshKnownCard : Claim7 := { stood := { row := freshKnownRow, standIns := [], harness := (true, "ae6be65f98e88becfe85b4818990ec1f8146fa15725bac7e4b6f792bf031baa6"), looks := true }, kinds := [], alts := [], laidByText := true, laidKinds := [.data, .data], laidTests := true, laidLooks := .later }
def FreshKnownCardSaid : Prop := Claim7.holds Tryd.pinned (.plain (OpenSpec.ofChange freshKnownSpec)) freshKnownCard

/-- THE TIED CARD OF 'gantlinelaw11.FreshSets'. -/
def freshSetsCard : Claim7 := { stood := { row := freshSetsRow, standIns := [], harness := (true, "ae6be65f98e88becfe85b4818990ec1f8146fa15725bac7e4b6f792bf031baa6"), looks := true }, kinds := [], alts := [], laidByText := true, laidKinds := [.data, .data], laidTests := true, laidLooks := .later }
def FreshSetsCardSaid : Prop := Claim7.holds Tryd.pinned (.plain (OpenSpec.ofChange freshSetsSpec)) freshSetsCard

/-- THE TIED CARD OF 'gantlinelaw11.FreshPoints'. -/
def freshPointsCard : Claim7 := { stood := { row := freshPointsRow, standIns := [], harness := (true, "ae6be65f98e88becfe85b4818990ec1f8146fa15725bac7e4b6f792bf031baa6"), looks := true }, kinds := [], alts := [], laidByText := true, laidKinds := [.data, .data], laidTests := true, laidLooks := .later }
def FreshPointsCardSaid : Prop := Claim7.holds Tryd.pinned (.plain (OpenSpec.ofChange freshPointsSpec)) freshPointsCard

/-- THE TIED CARD OF 'gantlinelaw11.FreshSends'. -/
def freshSendsCard : Claim7 := { stood := { row := freshSendsRow, standIns := [], harness := (true, "ae6be65f98e88becfe85b4818990ec1f8146fa15725bac7e4b6f792bf031baa6"), looks := true }, kinds := [], alts := [], laidByText := true, laidKinds := [.data, .data], laidTests := true, laidLooks := .later }
def FreshSendsCardSaid : Prop := Claim7.holds Tryd.pinned (.plain (OpenSpec.ofChange freshSendsSpec)) freshSendsCard

/-- THE SECOND FORM's CARD OF 'gantlinelaw11.FreshKnown'. -/
def freshKnownUptoCard : Claim7 := { stood := { row := freshKnownUptoRow, standIns := [], harness := (true, "ae6be65f98e88becfe85b4818990ec1f8146fa15725bac7e4b6f792bf031baa6"), looks := true }, kinds := [], alts := [], laidByText := true, laidKinds := [.data, .data], laidTests := true, laidLooks := .later }
def FreshKnownUptoCardSaid : Prop := Claim7.holds Tryd.pinned (.plain (OpenSpec.upto freshKnownSpec)) freshKnownUptoCard

/-- THE SECOND FORM's CARD OF 'gantlinelaw11.FreshSets'. -/
def freshSetsUptoCard : Claim7 := { stood := { row := freshSetsUptoRow, standIns := [], harness := (true, "ae6be65f98e88becfe85b4818990ec1f8146fa15725bac7e4b6f792bf031baa6"), looks := true }, kinds := [], alts := [], laidByText := true, laidKinds := [.data, .data], laidTests := true, laidLooks := .later }
def FreshSetsUptoCardSaid : Prop := Claim7.holds Tryd.pinned (.plain (OpenSpec.upto freshSetsSpec)) freshSetsUptoCard

/-- THE SECOND FORM's CARD OF 'gantlinelaw11.FreshPoints'. -/
def freshPointsUptoCard : Claim7 := { stood := { row := freshPointsUptoRow, standIns := [], harness := (true, "ae6be65f98e88becfe85b4818990ec1f8146fa15725bac7e4b6f792bf031baa6"), looks := true }, kinds := [], alts := [], laidByText := true, laidKinds := [.data, .data], laidTests := true, laidLooks := .later }
def FreshPointsUptoCardSaid : Prop := Claim7.holds Tryd.pinned (.plain (OpenSpec.upto freshPointsSpec)) freshPointsUptoCard

/-- THE SECOND FORM's CARD OF 'gantlinelaw11.FreshSends'. -/
def freshSendsUptoCard : Claim7 := { stood := { row := freshSendsUptoRow, standIns := [], harness := (true, "ae6be65f98e88becfe85b4818990ec1f8146fa15725bac7e4b6f792bf031baa6"), looks := true }, kinds := [], alts := [], laidByText := true, laidKinds := [.data, .data], laidTests := true, laidLooks := .later }
def FreshSendsUptoCardSaid : Prop := Claim7.holds Tryd.pinned (.plain (OpenSpec.upto freshSendsSpec)) freshSendsUptoCard
end Rows
end Go.Proofs.YtiangegoglfpeaaDoor
