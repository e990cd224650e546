/-
  DERIVED. GIVEN WITH THE SEED: THE CARDS: each row of YtnfeommkbocgpaaDoorRows.lean that lists a variable, with what it lists TIED to the program's text (the seventh form; the later family's looks); each row that meets fmt, with fmt's text TOLD by the authors' own Lean function (tested against real Go, not proved from fmt's source: count such statements apart). THE CARD IS WHAT COUNTS. Prove the row's statement (the work); the ties are given (YtnfeommkbocgpaaDoorTie.lean); close each card by the builder's one call (the guide's Derived/Test/ToyasCard.lean, 'card_holds'). Laid BY PROGRAM, IN A SANDBOX (cutbox-door.mjs). By AI agents, Wed Nov 11 2026. No macro, syntax, notation, axiom, sorry.
-/
import Derived.Test.YtnfeommkbocgpaaDoorRows
import GoSem.ClaimSeven
namespace Go.Proofs.YtnfeommkbocgpaaDoor
namespace Rows

/-- THE TIED CARD OF 'gantlinelaw13.FrameKnown'. -/
def frameKnownCard : Claim7 := { stood := { row := frameKnownRow, standIns := [], harness := (true, "8ddf49a22e35645a40b29dea95ad2e9610f848324a67b63f58e7a1b6c512da97"), looks := false }, kinds := [], alts := [], laidByText := true, laidKinds := [.data], laidTests := true, laidLooks := .later }
def FrameKnownCardSaid : Prop := Claim7.holds Tryd.pinned (.plain (OpenSpec.ofChange frameKnownSpec)) frameKnownCard

/-- THE TIED CARD OF 'gantlinelaw13.FramePlays'. -/
def framePlaysCard : Claim7 := { stood := { row := framePlaysRow, standIns := [], harness := (true, "8ddf49a22e35645a40b29dea95ad2e9610f848324a67b63f58e7a1b6c512da97"), looks := false }, kinds := [], alts := [], laidByText := true, laidKinds := [.data], laidTests := true, laidLooks := .later }
def FramePlaysCardSaid : Prop := Claim7.holds Tryd.pinned (.plain (OpenSpec.ofChange framePlaysSpec)) framePlaysCard

/-- THE TIED CARD OF 'gantlinelaw13.FrameDeep'. -/
def frameDeepCard : Claim7 := { stood := { row := frameDeepRow, standIns := [], harness := (true, "8ddf49a22e35645a40b29dea95ad2e9610f848324a67b63f58e7a1b6c512da97"), looks := false }, kinds := [], alts := [], laidByText := true, laidKinds := [.data], laidTests := true, laidLooks := .later }
def FrameDeepCardSaid : Prop := Claim7.holds Tryd.pinned (.plain (OpenSpec.ofChange frameDeepSpec)) frameDeepCard

/-- THE TIED CARD OF 'gantlinelaw13.FrameCopies'. -/
def frameCopiesCard : Claim7 := { stood := { row := frameCopiesRow, standIns := [], harness := (true, "8ddf49a22e35645a40b29dea95ad2e9610f848324a67b63f58e7a1b6c512da97"), looks := false }, kinds := [], alts := [], laidByText := true, laidKinds := [.data], laidTests := true, laidLooks := .later }
def FrameCopiesCardSaid : Prop := Claim7.holds Tryd.pinned (.plain (OpenSpec.ofChange frameCopiesSpec)) frameCopiesCard

/-- THE SECOND FORM's CARD OF 'gantlinelaw13.FrameKnown'. -/
def frameKnownUptoCard : Claim7 := { stood := { row := frameKnownUptoRow, standIns := [], harness := (true, "8ddf49a22e35645a40b29dea95ad2e9610f848324a67b63f58e7a1b6c512da97"), looks := false }, kinds := [], alts := [], laidByText := true, laidKinds := [.data], laidTests := true, laidLooks := .later }
def FrameKnownUptoCardSaid : Prop := Claim7.holds Tryd.pinned (.plain (OpenSpec.upto frameKnownSpec)) frameKnownUptoCard

/-- THE SECOND FORM's CARD OF 'gantlinelaw13.FramePlays'. -/
def framePlaysUptoCard : Claim7 := { stood := { row := framePlaysUptoRow, standIns := [], harness := (true, "8ddf49a22e35645a40b29dea95ad2e9610f848324a67b63f58e7a1b6c512da97"), looks := false }, kinds := [], alts := [], laidByText := true, laidKinds := [.data], laidTests := true, laidLooks := .later }
def FramePlaysUptoCardSaid : Prop := Claim7.holds Tryd.pinned (.plain (OpenSpec.upto framePlaysSpec)) framePlaysUptoCard

/-- THE SECOND FORM's CARD OF 'gantlinelaw13.FrameDeep'. -/
def frameDeepUptoCard : Claim7 := { stood := { row := frameDeepUptoRow, standIns := [], harness := (true, "8ddf49a22e35645a40b29dea95ad2e9610f848324a67b63f58e7a1b6c512da97"), looks := false }, kinds := [], alts := [], laidByText := true, laidKinds := [.data], laidTests := true, laidLooks := .later }
def FrameDeepUptoCardSaid : Prop := Claim7.holds Tryd.pinned (.plain (OpenSpec.upto frameDeepSpec)) frameDeepUptoCard

/-- THE SECOND FORM's CARD OF 'gantlinelaw13.FrameCopies'. -/
def frameCopiesUptoCard : Claim7 := { stood := { row := frameCopiesUptoRow, standIns := [], harness := (true, "8ddf49a22e35645a40b29dea95ad2e9610f848324a67b63f58e7a1b6c512da97"), looks := false }, kinds := [], alts := [], laidByText := true, laidKinds := [.data], laidTests := true, laidLooks := .later }
def FrameCopiesUptoCardSaid : Prop := Claim7.holds Tryd.pinned (.plain (OpenSpec.upto frameCopiesSpec)) frameCopiesUptoCard
end Rows
end Go.Proofs.YtnfeommkbocgpaaDoor
