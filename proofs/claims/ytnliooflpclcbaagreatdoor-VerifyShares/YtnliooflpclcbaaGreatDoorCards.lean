/-
  DERIVED. GIVEN WITH THE SEED: THE CARDS: each row of YtnliooflpclcbaaGreatDoorRows.lean that lists a variable, with what it lists TIED to the program's text (the seventh form; the later family's looks); each row that meets fmt, with fmt's text TOLD by the authors' own Lean function (tested against real Go, not proved from fmt's source: count such statements apart). THE CARD IS WHAT COUNTS. Prove the row's statement (the work); the ties are given (YtnliooflpclcbaaGreatDoorTie.lean); close each card by the builder's one call (the guide's Derived/Test/ToyasCard.lean, 'card_holds'). Laid BY PROGRAM, IN A SANDBOX (cutbox-door.mjs). By AI agents, Wed Nov 11 2026. No macro, syntax, notation, axiom, sorry.
-/
import Derived.Test.YtnliooflpclcbaaGreatDoorRows
import GoSem.ClaimSeven
namespace Go.Proofs.YtnliooflpclcbaaGreatDoor
namespace Rows

/-- THE TIED CARD OF 'gantlinelaw12.VerifyKnown'. -/
def verifyKnownCard : Claim7 := { stood := { row := verifyKnownRow, standIns := [], harness := (true, "0190e64bdded53d835839004d02b486891d79b9a81e4265b56e007c59f5fd05d"), looks := true }, kinds := [], alts := [], laidByText := true, laidKinds := [.data, .data], laidTests := true, laidLooks := .later }
def VerifyKnownCardSaid : Prop := Claim7.holds Tryz.pinned (.plain (OpenSpec.ofChange verifyKnownSpec)) verifyKnownCard

/-- THE TIED CARD OF 'gantlinelaw12.VerifyShares'. -/
def verifySharesCard : Claim7 := { stood := { row := verifySharesRow, standIns := [], harness := (true, "0190e64bdded53d835839004d02b486891d79b9a81e4265b56e007c59f5fd05d"), looks := true }, kinds := [], alts := [], laidByText := true, laidKinds := [.data, .data], laidTests := true, laidLooks := .later }
def VerifySharesCardSaid : Prop := Claim7.holds Tryz.pinned (.plain (OpenSpec.ofChange verifySharesSpec)) verifySharesCard

/-- THE SECOND FORM's CARD OF 'gantlinelaw12.VerifyKnown'. -/
def verifyKnownUptoCard : Claim7 := { stood := { row := verifyKnownUptoRow, standIns := [], harness := (true, "0190e64bdded53d835839004d02b486891d79b9a81e4265b56e007c59f5fd05d"), looks := true }, kinds := [], alts := [], laidByText := true, laidKinds := [.data, .data], laidTests := true, laidLooks := .later }
def VerifyKnownUptoCardSaid : Prop := Claim7.holds Tryz.pinned (.plain (OpenSpec.upto verifyKnownSpec)) verifyKnownUptoCard

/-- THE SECOND FORM's CARD OF 'gantlinelaw12.VerifyShares'. -/
def verifySharesUptoCard : Claim7 := { stood := { row := verifySharesUptoRow, standIns := [], harness := (true, "0190e64bdded53d835839004d02b486891d79b9a81e4265b56e007c59f5fd05d"), looks := true }, kinds := [], alts := [], laidByText := true, laidKinds := [.data, .data], laidTests := true, laidLooks := .later }
def VerifySharesUptoCardSaid : Prop := Claim7.holds Tryz.pinned (.plain (OpenSpec.upto verifySharesSpec)) verifySharesUptoCard
end Rows
end Go.Proofs.YtnliooflpclcbaaGreatDoor
