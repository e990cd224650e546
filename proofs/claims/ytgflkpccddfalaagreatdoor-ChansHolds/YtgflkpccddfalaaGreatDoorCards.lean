/-
  DERIVED. GIVEN WITH THE SEED: THE CARDS: each row of YtgflkpccddfalaaGreatDoorRows.lean that lists a variable, with what it lists TIED to the program's text (the seventh form; the later family's looks); each row that meets fmt, with fmt's text TOLD by the authors' own Lean function (tested against real Go, not proved from fmt's source: count such statements apart). THE CARD IS WHAT COUNTS. Prove the row's statement (the work); the ties are given (YtgflkpccddfalaaGreatDoorTie.lean); close each card by the builder's one call (the guide's Derived/Test/ToyasCard.lean, 'card_holds'). Laid BY PROGRAM, IN A SANDBOX (cutbox-door.mjs). By AI agents, Wed Nov 11 2026. No macro, syntax, notation, axiom, sorry.
-/
import Derived.Test.YtgflkpccddfalaaGreatDoorRows
import GoSem.ClaimSeven
namespace Go.Proofs.YtgflkpccddfalaaGreatDoor
namespace Rows

/-- THE TIED CARD OF 'gantlinelaw15.ChansHolds'. -/
def chansHoldsCard : Claim7 := { stood := { row := chansHoldsRow, standIns := [], harness := (true, "a6ef4cffb555e563b1cbf649f5c871dcebee0c4092be26163f4695bfb9647358"), looks := false }, kinds := [], alts := [], laidByText := true, laidKinds := [.data], laidTests := true, laidLooks := .later }
def ChansHoldsCardSaid : Prop := Claim7.holds Tryz.pinned (.plain (OpenSpec.ofChange chansHoldsSpec)) chansHoldsCard

/-- THE SECOND FORM's CARD OF 'gantlinelaw15.ChansHolds'. -/
def chansHoldsUptoCard : Claim7 := { stood := { row := chansHoldsUptoRow, standIns := [], harness := (true, "a6ef4cffb555e563b1cbf649f5c871dcebee0c4092be26163f4695bfb9647358"), looks := false }, kinds := [], alts := [], laidByText := true, laidKinds := [.data], laidTests := true, laidLooks := .later }
def ChansHoldsUptoCardSaid : Prop := Claim7.holds Tryz.pinned (.plain (OpenSpec.upto chansHoldsSpec)) chansHoldsUptoCard
end Rows
end Go.Proofs.YtgflkpccddfalaaGreatDoor
