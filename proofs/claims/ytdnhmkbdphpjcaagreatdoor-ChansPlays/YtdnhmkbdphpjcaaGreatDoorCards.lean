/-
  DERIVED. GIVEN WITH THE SEED: THE CARDS: each row of YtdnhmkbdphpjcaaGreatDoorRows.lean that lists a variable, with what it lists TIED to the program's text (the seventh form; the later family's looks); each row that meets fmt, with fmt's text TOLD by the authors' own Lean function (tested against real Go, not proved from fmt's source: count such statements apart). THE CARD IS WHAT COUNTS. Prove the row's statement (the work); the ties are given (YtdnhmkbdphpjcaaGreatDoorTie.lean); close each card by the builder's one call (the guide's Derived/Test/ToyasCard.lean, 'card_holds'). Laid BY PROGRAM, IN A SANDBOX (cutbox-door.mjs). By AI agents, Wed Nov 11 2026. No macro, syntax, notation, axiom, sorry.
-/
import Derived.Test.YtdnhmkbdphpjcaaGreatDoorRows
import GoSem.ClaimSeven
namespace Go.Proofs.YtdnhmkbdphpjcaaGreatDoor
namespace Rows

/-- THE TIED CARD OF 'gantlinelaw15.ChansKnown'. -/
def chansKnownCard : Claim7 := { stood := { row := chansKnownRow, standIns := [], harness := (true, "368da1e00eac6e8e0aa7ff665da126c835f5eab69b056edefd9d7854840e21d8"), looks := false }, kinds := [], alts := [], laidByText := true, laidKinds := [.data], laidTests := true, laidLooks := .later }
def ChansKnownCardSaid : Prop := Claim7.holds Tryz.pinned (.plain (OpenSpec.ofChange chansKnownSpec)) chansKnownCard

/-- THE TIED CARD OF 'gantlinelaw15.ChansPlays'. -/
def chansPlaysCard : Claim7 := { stood := { row := chansPlaysRow, standIns := [], harness := (true, "368da1e00eac6e8e0aa7ff665da126c835f5eab69b056edefd9d7854840e21d8"), looks := false }, kinds := [], alts := [], laidByText := true, laidKinds := [.data], laidTests := true, laidLooks := .later }
def ChansPlaysCardSaid : Prop := Claim7.holds Tryz.pinned (.plain (OpenSpec.ofChange chansPlaysSpec)) chansPlaysCard

/-- THE TIED CARD OF 'gantlinelaw15.ChansHolds'. -/
def chansHoldsCard : Claim7 := { stood := { row := chansHoldsRow, standIns := [], harness := (true, "368da1e00eac6e8e0aa7ff665da126c835f5eab69b056edefd9d7854840e21d8"), looks := false }, kinds := [], alts := [], laidByText := true, laidKinds := [.data], laidTests := true, laidLooks := .later }
def ChansHoldsCardSaid : Prop := Claim7.holds Tryz.pinned (.plain (OpenSpec.ofChange chansHoldsSpec)) chansHoldsCard

/-- THE TIED CARD OF 'gantlinelaw15.ChansRing'. -/
def chansRingCard : Claim7 := { stood := { row := chansRingRow, standIns := [], harness := (true, "368da1e00eac6e8e0aa7ff665da126c835f5eab69b056edefd9d7854840e21d8"), looks := false }, kinds := [], alts := [], laidByText := true, laidKinds := [.data], laidTests := true, laidLooks := .later }
def ChansRingCardSaid : Prop := Claim7.holds Tryz.pinned (.plain (OpenSpec.ofChange chansRingSpec)) chansRingCard

/-- THE TIED CARD OF 'gantlinelaw15.ChansShades'. -/
def chansShadesCard : Claim7 := { stood := { row := chansShadesRow, standIns := [], harness := (true, "368da1e00eac6e8e0aa7ff665da126c835f5eab69b056edefd9d7854840e21d8"), looks := false }, kinds := [], alts := [], laidByText := true, laidKinds := [.data], laidTests := true, laidLooks := .later }
def ChansShadesCardSaid : Prop := Claim7.holds Tryz.pinned (.plain (OpenSpec.ofChange chansShadesSpec)) chansShadesCard

/-- THE SECOND FORM's CARD OF 'gantlinelaw15.ChansKnown'. -/
def chansKnownUptoCard : Claim7 := { stood := { row := chansKnownUptoRow, standIns := [], harness := (true, "368da1e00eac6e8e0aa7ff665da126c835f5eab69b056edefd9d7854840e21d8"), looks := false }, kinds := [], alts := [], laidByText := true, laidKinds := [.data], laidTests := true, laidLooks := .later }
def ChansKnownUptoCardSaid : Prop := Claim7.holds Tryz.pinned (.plain (OpenSpec.upto chansKnownSpec)) chansKnownUptoCard

/-- THE SECOND FORM's CARD OF 'gantlinelaw15.ChansPlays'. -/
def chansPlaysUptoCard : Claim7 := { stood := { row := chansPlaysUptoRow, standIns := [], harness := (true, "368da1e00eac6e8e0aa7ff665da126c835f5eab69b056edefd9d7854840e21d8"), looks := false }, kinds := [], alts := [], laidByText := true, laidKinds := [.data], laidTests := true, laidLooks := .later }
def ChansPlaysUptoCardSaid : Prop := Claim7.holds Tryz.pinned (.plain (OpenSpec.upto chansPlaysSpec)) chansPlaysUptoCard

/-- THE SECOND FORM's CARD OF 'gantlinelaw15.ChansHolds'. -/
def chansHoldsUptoCard : Claim7 := { stood := { row := chansHoldsUptoRow, standIns := [], harness := (true, "368da1e00eac6e8e0aa7ff665da126c835f5eab69b056edefd9d7854840e21d8"), looks := false }, kinds := [], alts := [], laidByText := true, laidKinds := [.data], laidTests := true, laidLooks := .later }
def ChansHoldsUptoCardSaid : Prop := Claim7.holds Tryz.pinned (.plain (OpenSpec.upto chansHoldsSpec)) chansHoldsUptoCard

/-- THE SECOND FORM's CARD OF 'gantlinelaw15.ChansRing'. -/
def chansRingUptoCard : Claim7 := { stood := { row := chansRingUptoRow, standIns := [], harness := (true, "368da1e00eac6e8e0aa7ff665da126c835f5eab69b056edefd9d7854840e21d8"), looks := false }, kinds := [], alts := [], laidByText := true, laidKinds := [.data], laidTests := true, laidLooks := .later }
def ChansRingUptoCardSaid : Prop := Claim7.holds Tryz.pinned (.plain (OpenSpec.upto chansRingSpec)) chansRingUptoCard

/-- THE SECOND FORM's CARD OF 'gantlinelaw15.ChansShades'. -/
def chansShadesUptoCard : Claim7 := { stood := { row := chansShadesUptoRow, standIns := [], harness := (true, "368da1e00eac6e8e0aa7ff665da126c835f5eab69b056edefd9d7854840e21d8"), looks := false }, kinds := [], alts := [], laidByText := true, laidKinds := [.data], laidTests := true, laidLooks := .later }
def ChansShadesUptoCardSaid : Prop := Claim7.holds Tryz.pinned (.plain (OpenSpec.upto chansShadesSpec)) chansShadesUptoCard
end Rows
end Go.Proofs.YtdnhmkbdphpjcaaGreatDoor
