/-
  DERIVED. GIVEN WITH THE SEED: THE CARDS: each row of YtkhjbefogofhlaaDoorRows.lean that lists a variable, with what it lists TIED to the program's text (the seventh form; the later family's looks); each row that meets fmt, with fmt's text TOLD by the authors' own Lean function (tested against real Go, not proved from fmt's source: count such statements apart). THE CARD IS WHAT COUNTS. Prove the row's statement (the work); the ties are given (YtkhjbefogofhlaaDoorTie.lean); close each card by the builder's one call (the guide's Derived/Test/ToyasCard.lean, 'card_holds'). Laid BY PROGRAM, IN A SANDBOX (cutbox-door.mjs). By AI agents, Wed Nov 11 2026. No macro, syntax, notation, axiom, sorry.
-/
import Derived.Test.YtkhjbefogofhlaaDoorRows
import GoSem.ClaimSeven
namespace Go.Proofs.YtkhjbefogofhlaaDoor
namespace Rows

/-- THE TIED CARD OF 'gantlinelaw8.CycleKnown'. -/
def cycleKnownCard : Claim7 := { stood := { row := cycleKnownRow, standIns := [], harness := (true, "64da8835e41c3da46dc3f8a071225b6591600db85dc81136c12daeca177ab207"), looks := false }, kinds := [], alts := [], laidByText := true, laidKinds := [.data], laidTests := true, laidLooks := .later }
def CycleKnownCardSaid : Prop := Claim7.holds Tryd.pinned (.plain (OpenSpec.ofChange cycleKnownSpec)) cycleKnownCard

/-- THE SECOND FORM's CARD OF 'gantlinelaw8.CycleKnown'. -/
def cycleKnownUptoCard : Claim7 := { stood := { row := cycleKnownUptoRow, standIns := [], harness := (true, "64da8835e41c3da46dc3f8a071225b6591600db85dc81136c12daeca177ab207"), looks := false }, kinds := [], alts := [], laidByText := true, laidKinds := [.data], laidTests := true, laidLooks := .later }
def CycleKnownUptoCardSaid : Prop := Claim7.holds Tryd.pinned (.plain (OpenSpec.upto cycleKnownSpec)) cycleKnownUptoCard
end Rows
end Go.Proofs.YtkhjbefogofhlaaDoor
