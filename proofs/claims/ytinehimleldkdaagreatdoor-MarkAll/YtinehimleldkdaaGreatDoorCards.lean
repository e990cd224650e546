/-
  DERIVED. GIVEN WITH THE SEED: THE CARDS: each row of YtinehimleldkdaaGreatDoorRows.lean that lists a variable, with what it lists TIED to the program's text (the seventh form; the later family's looks); each row that meets fmt, with fmt's text TOLD by the authors' own Lean function (tested against real Go, not proved from fmt's source: count such statements apart). THE CARD IS WHAT COUNTS. Prove the row's statement (the work); the ties are given (YtinehimleldkdaaGreatDoorTie.lean); close each card by the builder's one call (the guide's Derived/Test/ToyasCard.lean, 'card_holds'). Laid BY PROGRAM, IN A SANDBOX (cutbox-door.mjs). By AI agents, Wed Nov 11 2026. No macro, syntax, notation, axiom, sorry.
-/
import Derived.Test.YtinehimleldkdaaGreatDoorRows
import GoSem.ClaimSeven
namespace Go.Proofs.YtinehimleldkdaaGreatDoor
namespace Rows

/-- THE TIED CARD OF 'gantlinelaw7.MarkKnown'. -/
def markKnownCard : Claim7 := { stood := { row := markKnownRow, standIns := [], harness := (true, "d51ca13ccdaa91511ffd06d161d7f2381c9f2b23aa92d48ca88b82aaac14edab"), looks := false }, kinds := [], alts := [], laidByText := true, laidKinds := [.data], laidTests := true, laidLooks := .later }
def MarkKnownCardSaid : Prop := Claim7.holds Tryz.pinned (.plain (OpenSpec.ofChange markKnownSpec)) markKnownCard

/-- THE TIED CARD OF 'gantlinelaw7.MarkSteps'. -/
def markStepsCard : Claim7 := { stood := { row := markStepsRow, standIns := [], harness := (true, "d51ca13ccdaa91511ffd06d161d7f2381c9f2b23aa92d48ca88b82aaac14edab"), looks := false }, kinds := [], alts := [], laidByText := true, laidKinds := [.data], laidTests := true, laidLooks := .later }
def MarkStepsCardSaid : Prop := Claim7.holds Tryz.pinned (.plain (OpenSpec.ofChange markStepsSpec)) markStepsCard

/-- THE TIED CARD OF 'gantlinelaw7.MarkAll'. -/
def markAllCard : Claim7 := { stood := { row := markAllRow, standIns := [], harness := (true, "d51ca13ccdaa91511ffd06d161d7f2381c9f2b23aa92d48ca88b82aaac14edab"), looks := false }, kinds := [], alts := [], laidByText := true, laidKinds := [.data], laidTests := true, laidLooks := .later }
def MarkAllCardSaid : Prop := Claim7.holds Tryz.pinned (.plain (OpenSpec.ofChange markAllSpec)) markAllCard

/-- THE TIED CARD OF 'gantlinelaw7.MarkMore'. -/
def markMoreCard : Claim7 := { stood := { row := markMoreRow, standIns := [], harness := (true, "d51ca13ccdaa91511ffd06d161d7f2381c9f2b23aa92d48ca88b82aaac14edab"), looks := false }, kinds := [], alts := [], laidByText := true, laidKinds := [.data], laidTests := true, laidLooks := .later }
def MarkMoreCardSaid : Prop := Claim7.holds Tryz.pinned (.plain (OpenSpec.ofChange markMoreSpec)) markMoreCard

/-- THE TIED CARD OF 'gantlinelaw7.MarkHeads'. -/
def markHeadsCard : Claim7 := { stood := { row := markHeadsRow, standIns := [], harness := (true, "d51ca13ccdaa91511ffd06d161d7f2381c9f2b23aa92d48ca88b82aaac14edab"), looks := false }, kinds := [], alts := [], laidByText := true, laidKinds := [.data], laidTests := true, laidLooks := .later }
def MarkHeadsCardSaid : Prop := Claim7.holds Tryz.pinned (.plain (OpenSpec.ofChange markHeadsSpec)) markHeadsCard

/-- THE SECOND FORM's CARD OF 'gantlinelaw7.MarkKnown'. -/
def markKnownUptoCard : Claim7 := { stood := { row := markKnownUptoRow, standIns := [], harness := (true, "d51ca13ccdaa91511ffd06d161d7f2381c9f2b23aa92d48ca88b82aaac14edab"), looks := false }, kinds := [], alts := [], laidByText := true, laidKinds := [.data], laidTests := true, laidLooks := .later }
def MarkKnownUptoCardSaid : Prop := Claim7.holds Tryz.pinned (.plain (OpenSpec.upto markKnownSpec)) markKnownUptoCard

/-- THE SECOND FORM's CARD OF 'gantlinelaw7.MarkSteps'. -/
def markStepsUptoCard : Claim7 := { stood := { row := markStepsUptoRow, standIns := [], harness := (true, "d51ca13ccdaa91511ffd06d161d7f2381c9f2b23aa92d48ca88b82aaac14edab"), looks := false }, kinds := [], alts := [], laidByText := true, laidKinds := [.data], laidTests := true, laidLooks := .later }
def MarkStepsUptoCardSaid : Prop := Claim7.holds Tryz.pinned (.plain (OpenSpec.upto markStepsSpec)) markStepsUptoCard

/-- THE SECOND FORM's CARD OF 'gantlinelaw7.MarkAll'. -/
def markAllUptoCard : Claim7 := { stood := { row := markAllUptoRow, standIns := [], harness := (true, "d51ca13ccdaa91511ffd06d161d7f2381c9f2b23aa92d48ca88b82aaac14edab"), looks := false }, kinds := [], alts := [], laidByText := true, laidKinds := [.data], laidTests := true, laidLooks := .later }
def MarkAllUptoCardSaid : Prop := Claim7.holds Tryz.pinned (.plain (OpenSpec.upto markAllSpec)) markAllUptoCard

/-- THE SECOND FORM's CARD OF 'gantlinelaw7.MarkMore'. -/
def markMoreUptoCard : Claim7 := { stood := { row := markMoreUptoRow, standIns := [], harness := (true, "d51ca13ccdaa91511ffd06d161d7f2381c9f2b23aa92d48ca88b82aaac14edab"), looks := false }, kinds := [], alts := [], laidByText := true, laidKinds := [.data], laidTests := true, laidLooks := .later }
def MarkMoreUptoCardSaid : Prop := Claim7.holds Tryz.pinned (.plain (OpenSpec.upto markMoreSpec)) markMoreUptoCard

/-- THE SECOND FORM's CARD OF 'gantlinelaw7.MarkHeads'. -/
def markHeadsUptoCard : Claim7 := { stood := { row := markHeadsUptoRow, standIns := [], harness := (true, "d51ca13ccdaa91511ffd06d161d7f2381c9f2b23aa92d48ca88b82aaac14edab"), looks := false }, kinds := [], alts := [], laidByText := true, laidKinds := [.data], laidTests := true, laidLooks := .later }
def MarkHeadsUptoCardSaid : Prop := Claim7.holds Tryz.pinned (.plain (OpenSpec.upto markHeadsSpec)) markHeadsUptoCard
end Rows
end Go.Proofs.YtinehimleldkdaaGreatDoor
