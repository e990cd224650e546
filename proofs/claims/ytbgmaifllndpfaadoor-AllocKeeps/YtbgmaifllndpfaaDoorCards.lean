/-
  DERIVED. GIVEN WITH THE SEED: THE CARDS: each row of YtbgmaifllndpfaaDoorRows.lean that lists a variable, with what it lists TIED to the program's text (the seventh form; the later family's looks); each row that meets fmt, with fmt's text TOLD by the authors' own Lean function (tested against real Go, not proved from fmt's source: count such statements apart). THE CARD IS WHAT COUNTS. Prove the row's statement (the work); the ties are given (YtbgmaifllndpfaaDoorTie.lean); close each card by the builder's one call (the guide's Derived/Test/ToyasCard.lean, 'card_holds'). Laid BY PROGRAM, IN A SANDBOX (cutbox-door.mjs). By AI agents, Wed Nov 11 2026. No macro, syntax, notation, axiom, sorry.
-/
import Derived.Test.YtbgmaifllndpfaaDoorRows
import GoSem.ClaimSeven
namespace Go.Proofs.YtbgmaifllndpfaaDoor
namespace Rows

/-- THE TIED CARD OF 'gantlinelaw5.AllocKnown'. -/
def allocKnownCard : Claim7 := { stood := { row := allocKnownRow, standIns := [], harness := (true, "df9a269f688f74646f8c72add8e7c773f49d00f2df2c27a20a52acf29d990246"), looks := false }, kinds := [], alts := [], laidByText := true, laidKinds := [.data], laidTests := true, laidLooks := .later }
def AllocKnownCardSaid : Prop := Claim7.holds Tryd.pinned (.plain (OpenSpec.ofChange allocKnownSpec)) allocKnownCard

/-- THE TIED CARD OF 'gantlinelaw5.AllocKeeps'. -/
def allocKeepsCard : Claim7 := { stood := { row := allocKeepsRow, standIns := [], harness := (true, "df9a269f688f74646f8c72add8e7c773f49d00f2df2c27a20a52acf29d990246"), looks := false }, kinds := [], alts := [], laidByText := true, laidKinds := [.data], laidTests := true, laidLooks := .later }
def AllocKeepsCardSaid : Prop := Claim7.holds Tryd.pinned (.plain (OpenSpec.ofChange allocKeepsSpec)) allocKeepsCard

/-- THE TIED CARD OF 'gantlinelaw5.AllocFull'. -/
def allocFullCard : Claim7 := { stood := { row := allocFullRow, standIns := [], harness := (true, "df9a269f688f74646f8c72add8e7c773f49d00f2df2c27a20a52acf29d990246"), looks := false }, kinds := [], alts := [], laidByText := true, laidKinds := [.data], laidTests := true, laidLooks := .later }
def AllocFullCardSaid : Prop := Claim7.holds Tryd.pinned (.plain (OpenSpec.ofChange allocFullSpec)) allocFullCard

/-- THE TIED CARD OF 'gantlinelaw5.AllocAgain'. -/
def allocAgainCard : Claim7 := { stood := { row := allocAgainRow, standIns := [], harness := (true, "df9a269f688f74646f8c72add8e7c773f49d00f2df2c27a20a52acf29d990246"), looks := false }, kinds := [], alts := [], laidByText := true, laidKinds := [.data], laidTests := true, laidLooks := .later }
def AllocAgainCardSaid : Prop := Claim7.holds Tryd.pinned (.plain (OpenSpec.ofChange allocAgainSpec)) allocAgainCard

/-- THE SECOND FORM's CARD OF 'gantlinelaw5.AllocKnown'. -/
def allocKnownUptoCard : Claim7 := { stood := { row := allocKnownUptoRow, standIns := [], harness := (true, "df9a269f688f74646f8c72add8e7c773f49d00f2df2c27a20a52acf29d990246"), looks := false }, kinds := [], alts := [], laidByText := true, laidKinds := [.data], laidTests := true, laidLooks := .later }
def AllocKnownUptoCardSaid : Prop := Claim7.holds Tryd.pinned (.plain (OpenSpec.upto allocKnownSpec)) allocKnownUptoCard

/-- THE SECOND FORM's CARD OF 'gantlinelaw5.AllocKeeps'. -/
def allocKeepsUptoCard : Claim7 := { stood := { row := allocKeepsUptoRow, standIns := [], harness := (true, "df9a269f688f74646f8c72add8e7c773f49d00f2df2c27a20a52acf29d990246"), looks := false }, kinds := [], alts := [], laidByText := true, laidKinds := [.data], laidTests := true, laidLooks := .later }
def AllocKeepsUptoCardSaid : Prop := Claim7.holds Tryd.pinned (.plain (OpenSpec.upto allocKeepsSpec)) allocKeepsUptoCard

/-- THE SECOND FORM's CARD OF 'gantlinelaw5.AllocFull'. -/
def allocFullUptoCard : Claim7 := { stood := { row := allocFullUptoRow, standIns := [], harness := (true, "df9a269f688f74646f8c72add8e7c773f49d00f2df2c27a20a52acf29d990246"), looks := false }, kinds := [], alts := [], laidByText := true, laidKinds := [.data], laidTests := true, laidLooks := .later }
def AllocFullUptoCardSaid : Prop := Claim7.holds Tryd.pinned (.plain (OpenSpec.upto allocFullSpec)) allocFullUptoCard

/-- THE SECOND FORM's CARD OF 'gantlinelaw5.AllocAgain'. -/
def allocAgainUptoCard : Claim7 := { stood := { row := allocAgainUptoRow, standIns := [], harness := (true, "df9a269f688f74646f8c72add8e7c773f49d00f2df2c27a20a52acf29d990246"), looks := false }, kinds := [], alts := [], laidByText := true, laidKinds := [.data], laidTests := true, laidLooks := .later }
def AllocAgainUptoCardSaid : Prop := Claim7.holds Tryd.pinned (.plain (OpenSpec.upto allocAgainSpec)) allocAgainUptoCard
end Rows
end Go.Proofs.YtbgmaifllndpfaaDoor
