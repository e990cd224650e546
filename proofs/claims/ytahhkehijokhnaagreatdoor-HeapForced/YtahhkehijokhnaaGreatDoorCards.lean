/-
  DERIVED. GIVEN WITH THE SEED: THE CARDS: each row of YtahhkehijokhnaaGreatDoorRows.lean that lists a variable, with what it lists TIED to the program's text (the seventh form; the later family's looks); each row that meets fmt, with fmt's text TOLD by the authors' own Lean function (tested against real Go, not proved from fmt's source: count such statements apart). THE CARD IS WHAT COUNTS. Prove the row's statement (the work); the ties are given (YtahhkehijokhnaaGreatDoorTie.lean); close each card by the builder's one call (the guide's Derived/Test/ToyasCard.lean, 'card_holds'). Laid BY PROGRAM, IN A SANDBOX (cutbox-door.mjs). By AI agents, Wed Nov 11 2026. No macro, syntax, notation, axiom, sorry.
-/
import Derived.Test.YtahhkehijokhnaaGreatDoorRows
import GoSem.ClaimSeven
namespace Go.Proofs.YtahhkehijokhnaaGreatDoor
namespace Rows

/-- THE TIED CARD OF 'gantlinelaw14.HeapPlays'. -/
def heapPlaysCard : Claim7 := { stood := { row := heapPlaysRow, standIns := [], harness := (true, "f4b2c8185e13addf611de16ddf12eace1bcb861c5f38f323c5c0db1796eb6a1d"), looks := false }, kinds := [], alts := [], laidByText := true, laidKinds := [.data], laidTests := true, laidLooks := .later }
def HeapPlaysCardSaid : Prop := Claim7.holds Tryz.pinned (.plain (OpenSpec.ofChange heapPlaysSpec)) heapPlaysCard

/-- THE TIED CARD OF 'gantlinelaw14.HeapForced'. -/
def heapForcedCard : Claim7 := { stood := { row := heapForcedRow, standIns := [], harness := (true, "f4b2c8185e13addf611de16ddf12eace1bcb861c5f38f323c5c0db1796eb6a1d"), looks := false }, kinds := [], alts := [], laidByText := true, laidKinds := [.data], laidTests := true, laidLooks := .later }
def HeapForcedCardSaid : Prop := Claim7.holds Tryz.pinned (.plain (OpenSpec.ofChange heapForcedSpec)) heapForcedCard

/-- THE SECOND FORM's CARD OF 'gantlinelaw14.HeapPlays'. -/
def heapPlaysUptoCard : Claim7 := { stood := { row := heapPlaysUptoRow, standIns := [], harness := (true, "f4b2c8185e13addf611de16ddf12eace1bcb861c5f38f323c5c0db1796eb6a1d"), looks := false }, kinds := [], alts := [], laidByText := true, laidKinds := [.data], laidTests := true, laidLooks := .later }
def HeapPlaysUptoCardSaid : Prop := Claim7.holds Tryz.pinned (.plain (OpenSpec.upto heapPlaysSpec)) heapPlaysUptoCard

/-- THE SECOND FORM's CARD OF 'gantlinelaw14.HeapForced'. -/
def heapForcedUptoCard : Claim7 := { stood := { row := heapForcedUptoRow, standIns := [], harness := (true, "f4b2c8185e13addf611de16ddf12eace1bcb861c5f38f323c5c0db1796eb6a1d"), looks := false }, kinds := [], alts := [], laidByText := true, laidKinds := [.data], laidTests := true, laidLooks := .later }
def HeapForcedUptoCardSaid : Prop := Claim7.holds Tryz.pinned (.plain (OpenSpec.upto heapForcedSpec)) heapForcedUptoCard
end Rows
end Go.Proofs.YtahhkehijokhnaaGreatDoor
