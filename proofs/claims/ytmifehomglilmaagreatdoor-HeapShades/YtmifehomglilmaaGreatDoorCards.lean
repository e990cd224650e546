/-
  DERIVED. GIVEN WITH THE SEED: THE CARDS: each row of YtmifehomglilmaaGreatDoorRows.lean that lists a variable, with what it lists TIED to the program's text (the seventh form; the later family's looks); each row that meets fmt, with fmt's text TOLD by the authors' own Lean function (tested against real Go, not proved from fmt's source: count such statements apart). THE CARD IS WHAT COUNTS. Prove the row's statement (the work); the ties are given (YtmifehomglilmaaGreatDoorTie.lean); close each card by the builder's one call (the guide's Derived/Test/ToyasCard.lean, 'card_holds'). Laid BY PROGRAM, IN A SANDBOX (cutbox-door.mjs). By AI agents, Wed Nov 11 2026. No macro, syntax, notation, axiom, sorry.
-/
import Derived.Test.YtmifehomglilmaaGreatDoorRows
import GoSem.ClaimSeven
namespace Go.Proofs.YtmifehomglilmaaGreatDoor
namespace Rows

/-- THE TIED CARD OF 'gantlinelaw14.HeapPlays'. -/
def heapPlaysCard : Claim7 := { stood := { row := heapPlaysRow, standIns := [], harness := (true, "d25199b5fa48b9e1be606fef9144216b61b8ab4697afd505ba9cba2a994a46d6"), looks := false }, kinds := [], alts := [], laidByText := true, laidKinds := [.data], laidTests := true, laidLooks := .later }
def HeapPlaysCardSaid : Prop := Claim7.holds Tryz.pinned (.plain (OpenSpec.ofChange heapPlaysSpec)) heapPlaysCard

/-- THE TIED CARD OF 'gantlinelaw14.HeapForced'. -/
def heapForcedCard : Claim7 := { stood := { row := heapForcedRow, standIns := [], harness := (true, "d25199b5fa48b9e1be606fef9144216b61b8ab4697afd505ba9cba2a994a46d6"), looks := false }, kinds := [], alts := [], laidByText := true, laidKinds := [.data], laidTests := true, laidLooks := .later }
def HeapForcedCardSaid : Prop := Claim7.holds Tryz.pinned (.plain (OpenSpec.ofChange heapForcedSpec)) heapForcedCard

/-- THE TIED CARD OF 'gantlinelaw14.HeapShades'. -/
def heapShadesCard : Claim7 := { stood := { row := heapShadesRow, standIns := [], harness := (true, "d25199b5fa48b9e1be606fef9144216b61b8ab4697afd505ba9cba2a994a46d6"), looks := false }, kinds := [], alts := [], laidByText := true, laidKinds := [.data], laidTests := true, laidLooks := .later }
def HeapShadesCardSaid : Prop := Claim7.holds Tryz.pinned (.plain (OpenSpec.ofChange heapShadesSpec)) heapShadesCard

/-- THE SECOND FORM's CARD OF 'gantlinelaw14.HeapPlays'. -/
def heapPlaysUptoCard : Claim7 := { stood := { row := heapPlaysUptoRow, standIns := [], harness := (true, "d25199b5fa48b9e1be606fef9144216b61b8ab4697afd505ba9cba2a994a46d6"), looks := false }, kinds := [], alts := [], laidByText := true, laidKinds := [.data], laidTests := true, laidLooks := .later }
def HeapPlaysUptoCardSaid : Prop := Claim7.holds Tryz.pinned (.plain (OpenSpec.upto heapPlaysSpec)) heapPlaysUptoCard

/-- THE SECOND FORM's CARD OF 'gantlinelaw14.HeapForced'. -/
def heapForcedUptoCard : Claim7 := { stood := { row := heapForcedUptoRow, standIns := [], harness := (true, "d25199b5fa48b9e1be606fef9144216b61b8ab4697afd505ba9cba2a994a46d6"), looks := false }, kinds := [], alts := [], laidByText := true, laidKinds := [.data], laidTests := true, laidLooks := .later }
def HeapForcedUptoCardSaid : Prop := Claim7.holds Tryz.pinned (.plain (OpenSpec.upto heapForcedSpec)) heapForcedUptoCard

/-- THE SECOND FORM's CARD OF 'gantlinelaw14.HeapShades'. -/
def heapShadesUptoCard : Claim7 := { stood := { row := heapShadesUptoRow, standIns := [], harness := (true, "d25199b5fa48b9e1be606fef9144216b61b8ab4697afd505ba9cba2a994a46d6"), looks := false }, kinds := [], alts := [], laidByText := true, laidKinds := [.data], laidTests := true, laidLooks := .later }
def HeapShadesUptoCardSaid : Prop := Claim7.holds Tryz.pinned (.plain (OpenSpec.upto heapShadesSpec)) heapShadesUptoCard
end Rows
end Go.Proofs.YtmifehomglilmaaGreatDoor
