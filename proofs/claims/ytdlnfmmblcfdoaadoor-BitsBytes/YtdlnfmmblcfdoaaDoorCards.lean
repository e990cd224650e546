/-
  DERIVED. GIVEN WITH THE SEED: THE CARDS: each row of YtdlnfmmblcfdoaaDoorRows.lean that lists a variable, with what it lists TIED to the program's text (the seventh form; the later family's looks); each row that meets fmt, with fmt's text TOLD by the authors' own Lean function (tested against real Go, not proved from fmt's source: count such statements apart). THE CARD IS WHAT COUNTS. Prove the row's statement (the work); the ties are given (YtdlnfmmblcfdoaaDoorTie.lean); close each card by the builder's one call (the guide's Derived/Test/ToyasCard.lean, 'card_holds'). Laid BY PROGRAM, IN A SANDBOX (cutbox-door.mjs). By AI agents, Wed Nov 11 2026. No macro, syntax, notation, axiom, sorry.
-/
import Derived.Test.YtdlnfmmblcfdoaaDoorRows
import GoSem.ClaimSeven
namespace Go.Proofs.YtdlnfmmblcfdoaaDoor
namespace Rows

/-- THE TIED CARD OF 'gantlinelaw1.BitsKnown'. -/
def bitsKnownCard : Claim7 := { stood := { row := bitsKnownRow, standIns := [], harness := (true, "90ed200b407e4f485d80c22479b6c205794185d05fc6b5f6f246b5c2b83577b9"), looks := false }, kinds := [], alts := [], laidByText := true, laidKinds := [.data], laidTests := true, laidLooks := .later }
def BitsKnownCardSaid : Prop := Claim7.holds Tryd.pinned (.plain (OpenSpec.ofChange bitsKnownSpec)) bitsKnownCard

/-- THE TIED CARD OF 'gantlinelaw1.BitsNumbers'. -/
def bitsNumbersCard : Claim7 := { stood := { row := bitsNumbersRow, standIns := [], harness := (true, "90ed200b407e4f485d80c22479b6c205794185d05fc6b5f6f246b5c2b83577b9"), looks := false }, kinds := [], alts := [], laidByText := true, laidKinds := [.data], laidTests := true, laidLooks := .later }
def BitsNumbersCardSaid : Prop := Claim7.holds Tryd.pinned (.plain (OpenSpec.ofChange bitsNumbersSpec)) bitsNumbersCard

/-- THE TIED CARD OF 'gantlinelaw1.BitsMaps'. -/
def bitsMapsCard : Claim7 := { stood := { row := bitsMapsRow, standIns := [], harness := (true, "90ed200b407e4f485d80c22479b6c205794185d05fc6b5f6f246b5c2b83577b9"), looks := false }, kinds := [], alts := [], laidByText := true, laidKinds := [.data], laidTests := true, laidLooks := .later }
def BitsMapsCardSaid : Prop := Claim7.holds Tryd.pinned (.plain (OpenSpec.ofChange bitsMapsSpec)) bitsMapsCard

/-- THE TIED CARD OF 'gantlinelaw1.BitsBytes'. -/
def bitsBytesCard : Claim7 := { stood := { row := bitsBytesRow, standIns := [], harness := (true, "90ed200b407e4f485d80c22479b6c205794185d05fc6b5f6f246b5c2b83577b9"), looks := false }, kinds := [], alts := [], laidByText := true, laidKinds := [.data], laidTests := true, laidLooks := .later }
def BitsBytesCardSaid : Prop := Claim7.holds Tryd.pinned (.plain (OpenSpec.ofChange bitsBytesSpec)) bitsBytesCard

/-- THE TIED CARD OF 'gantlinelaw1.BitsRing'. -/
def bitsRingCard : Claim7 := { stood := { row := bitsRingRow, standIns := [], harness := (true, "90ed200b407e4f485d80c22479b6c205794185d05fc6b5f6f246b5c2b83577b9"), looks := false }, kinds := [], alts := [], laidByText := true, laidKinds := [.data], laidTests := true, laidLooks := .later }
def BitsRingCardSaid : Prop := Claim7.holds Tryd.pinned (.plain (OpenSpec.ofChange bitsRingSpec)) bitsRingCard

/-- THE TIED CARD OF 'gantlinelaw1.BitsShifts'. -/
def bitsShiftsCard : Claim7 := { stood := { row := bitsShiftsRow, standIns := [], harness := (true, "90ed200b407e4f485d80c22479b6c205794185d05fc6b5f6f246b5c2b83577b9"), looks := false }, kinds := [], alts := [], laidByText := true, laidKinds := [.data], laidTests := true, laidLooks := .later }
def BitsShiftsCardSaid : Prop := Claim7.holds Tryd.pinned (.plain (OpenSpec.ofChange bitsShiftsSpec)) bitsShiftsCard

/-- THE SECOND FORM's CARD OF 'gantlinelaw1.BitsKnown'. -/
def bitsKnownUptoCard : Claim7 := { stood := { row := bitsKnownUptoRow, standIns := [], harness := (true, "90ed200b407e4f485d80c22479b6c205794185d05fc6b5f6f246b5c2b83577b9"), looks := false }, kinds := [], alts := [], laidByText := true, laidKinds := [.data], laidTests := true, laidLooks := .later }
def BitsKnownUptoCardSaid : Prop := Claim7.holds Tryd.pinned (.plain (OpenSpec.upto bitsKnownSpec)) bitsKnownUptoCard

/-- THE SECOND FORM's CARD OF 'gantlinelaw1.BitsNumbers'. -/
def bitsNumbersUptoCard : Claim7 := { stood := { row := bitsNumbersUptoRow, standIns := [], harness := (true, "90ed200b407e4f485d80c22479b6c205794185d05fc6b5f6f246b5c2b83577b9"), looks := false }, kinds := [], alts := [], laidByText := true, laidKinds := [.data], laidTests := true, laidLooks := .later }
def BitsNumbersUptoCardSaid : Prop := Claim7.holds Tryd.pinned (.plain (OpenSpec.upto bitsNumbersSpec)) bitsNumbersUptoCard

/-- THE SECOND FORM's CARD OF 'gantlinelaw1.BitsMaps'. -/
def bitsMapsUptoCard : Claim7 := { stood := { row := bitsMapsUptoRow, standIns := [], harness := (true, "90ed200b407e4f485d80c22479b6c205794185d05fc6b5f6f246b5c2b83577b9"), looks := false }, kinds := [], alts := [], laidByText := true, laidKinds := [.data], laidTests := true, laidLooks := .later }
def BitsMapsUptoCardSaid : Prop := Claim7.holds Tryd.pinned (.plain (OpenSpec.upto bitsMapsSpec)) bitsMapsUptoCard

/-- THE SECOND FORM's CARD OF 'gantlinelaw1.BitsBytes'. -/
def bitsBytesUptoCard : Claim7 := { stood := { row := bitsBytesUptoRow, standIns := [], harness := (true, "90ed200b407e4f485d80c22479b6c205794185d05fc6b5f6f246b5c2b83577b9"), looks := false }, kinds := [], alts := [], laidByText := true, laidKinds := [.data], laidTests := true, laidLooks := .later }
def BitsBytesUptoCardSaid : Prop := Claim7.holds Tryd.pinned (.plain (OpenSpec.upto bitsBytesSpec)) bitsBytesUptoCard

/-- THE SECOND FORM's CARD OF 'gantlinelaw1.BitsRing'. -/
def bitsRingUptoCard : Claim7 := { stood := { row := bitsRingUptoRow, standIns := [], harness := (true, "90ed200b407e4f485d80c22479b6c205794185d05fc6b5f6f246b5c2b83577b9"), looks := false }, kinds := [], alts := [], laidByText := true, laidKinds := [.data], laidTests := true, laidLooks := .later }
def BitsRingUptoCardSaid : Prop := Claim7.holds Tryd.pinned (.plain (OpenSpec.upto bitsRingSpec)) bitsRingUptoCard

/-- THE SECOND FORM's CARD OF 'gantlinelaw1.BitsShifts'. -/
def bitsShiftsUptoCard : Claim7 := { stood := { row := bitsShiftsUptoRow, standIns := [], harness := (true, "90ed200b407e4f485d80c22479b6c205794185d05fc6b5f6f246b5c2b83577b9"), looks := false }, kinds := [], alts := [], laidByText := true, laidKinds := [.data], laidTests := true, laidLooks := .later }
def BitsShiftsUptoCardSaid : Prop := Claim7.holds Tryd.pinned (.plain (OpenSpec.upto bitsShiftsSpec)) bitsShiftsUptoCard
end Rows
end Go.Proofs.YtdlnfmmblcfdoaaDoor
