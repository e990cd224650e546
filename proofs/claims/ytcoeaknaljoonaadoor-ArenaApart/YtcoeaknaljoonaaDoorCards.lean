/-
  DERIVED. GIVEN WITH THE SEED: THE CARDS: each row of YtcoeaknaljoonaaDoorRows.lean that lists a variable, with what it lists TIED to the program's text (the seventh form; the later family's looks); each row that meets fmt, with fmt's text TOLD by the authors' own Lean function (tested against real Go, not proved from fmt's source: count such statements apart). THE CARD IS WHAT COUNTS. Prove the row's statement (the work); the ties are given (YtcoeaknaljoonaaDoorTie.lean); close each card by the builder's one call (the guide's Derived/Test/ToyasCard.lean, 'card_holds'). Laid BY PROGRAM, IN A SANDBOX (cutbox-door.mjs). By AI agents, Wed Nov 11 2026. No macro, syntax, notation, axiom, sorry.
-/
import Derived.Test.YtcoeaknaljoonaaDoorRows
import GoSem.ClaimSeven
namespace Go.Proofs.YtcoeaknaljoonaaDoor
namespace Rows

/-- THE TIED CARD OF 'gantlinelaw4.ArenaKnown'. -/
def arenaKnownCard : Claim7 := { stood := { row := arenaKnownRow, standIns := [], harness := (true, "64ae28b82ac9bc8bf812a8ed8e489dbeb6ade7eb6e30482be111075a2889555d"), looks := false }, kinds := [], alts := [], laidByText := true, laidKinds := [.data], laidTests := true, laidLooks := .later }
def ArenaKnownCardSaid : Prop := Claim7.holds Tryd.pinned (.plain (OpenSpec.ofChange arenaKnownSpec)) arenaKnownCard

/-- THE TIED CARD OF 'gantlinelaw4.ArenaPlays'. -/
def arenaPlaysCard : Claim7 := { stood := { row := arenaPlaysRow, standIns := [], harness := (true, "64ae28b82ac9bc8bf812a8ed8e489dbeb6ade7eb6e30482be111075a2889555d"), looks := false }, kinds := [], alts := [], laidByText := true, laidKinds := [.data], laidTests := true, laidLooks := .later }
def ArenaPlaysCardSaid : Prop := Claim7.holds Tryd.pinned (.plain (OpenSpec.ofChange arenaPlaysSpec)) arenaPlaysCard

/-- THE TIED CARD OF 'gantlinelaw4.ArenaApart'. -/
def arenaApartCard : Claim7 := { stood := { row := arenaApartRow, standIns := [], harness := (true, "64ae28b82ac9bc8bf812a8ed8e489dbeb6ade7eb6e30482be111075a2889555d"), looks := false }, kinds := [], alts := [], laidByText := true, laidKinds := [.data], laidTests := true, laidLooks := .later }
def ArenaApartCardSaid : Prop := Claim7.holds Tryd.pinned (.plain (OpenSpec.ofChange arenaApartSpec)) arenaApartCard

/-- THE TIED CARD OF 'gantlinelaw4.ArenaSweeps'. -/
def arenaSweepsCard : Claim7 := { stood := { row := arenaSweepsRow, standIns := [], harness := (true, "64ae28b82ac9bc8bf812a8ed8e489dbeb6ade7eb6e30482be111075a2889555d"), looks := false }, kinds := [], alts := [], laidByText := true, laidKinds := [.data], laidTests := true, laidLooks := .later }
def ArenaSweepsCardSaid : Prop := Claim7.holds Tryd.pinned (.plain (OpenSpec.ofChange arenaSweepsSpec)) arenaSweepsCard

/-- THE TIED CARD OF 'gantlinelaw4.ArenaCopies'. -/
def arenaCopiesCard : Claim7 := { stood := { row := arenaCopiesRow, standIns := [], harness := (true, "64ae28b82ac9bc8bf812a8ed8e489dbeb6ade7eb6e30482be111075a2889555d"), looks := false }, kinds := [], alts := [], laidByText := true, laidKinds := [.data], laidTests := true, laidLooks := .later }
def ArenaCopiesCardSaid : Prop := Claim7.holds Tryd.pinned (.plain (OpenSpec.ofChange arenaCopiesSpec)) arenaCopiesCard

/-- THE SECOND FORM's CARD OF 'gantlinelaw4.ArenaKnown'. -/
def arenaKnownUptoCard : Claim7 := { stood := { row := arenaKnownUptoRow, standIns := [], harness := (true, "64ae28b82ac9bc8bf812a8ed8e489dbeb6ade7eb6e30482be111075a2889555d"), looks := false }, kinds := [], alts := [], laidByText := true, laidKinds := [.data], laidTests := true, laidLooks := .later }
def ArenaKnownUptoCardSaid : Prop := Claim7.holds Tryd.pinned (.plain (OpenSpec.upto arenaKnownSpec)) arenaKnownUptoCard

/-- THE SECOND FORM's CARD OF 'gantlinelaw4.ArenaPlays'. -/
def arenaPlaysUptoCard : Claim7 := { stood := { row := arenaPlaysUptoRow, standIns := [], harness := (true, "64ae28b82ac9bc8bf812a8ed8e489dbeb6ade7eb6e30482be111075a2889555d"), looks := false }, kinds := [], alts := [], laidByText := true, laidKinds := [.data], laidTests := true, laidLooks := .later }
def ArenaPlaysUptoCardSaid : Prop := Claim7.holds Tryd.pinned (.plain (OpenSpec.upto arenaPlaysSpec)) arenaPlaysUptoCard

/-- THE SECOND FORM's CARD OF 'gantlinelaw4.ArenaApart'. -/
def arenaApartUptoCard : Claim7 := { stood := { row := arenaApartUptoRow, standIns := [], harness := (true, "64ae28b82ac9bc8bf812a8ed8e489dbeb6ade7eb6e30482be111075a2889555d"), looks := false }, kinds := [], alts := [], laidByText := true, laidKinds := [.data], laidTests := true, laidLooks := .later }
def ArenaApartUptoCardSaid : Prop := Claim7.holds Tryd.pinned (.plain (OpenSpec.upto arenaApartSpec)) arenaApartUptoCard

/-- THE SECOND FORM's CARD OF 'gantlinelaw4.ArenaSweeps'. -/
def arenaSweepsUptoCard : Claim7 := { stood := { row := arenaSweepsUptoRow, standIns := [], harness := (true, "64ae28b82ac9bc8bf812a8ed8e489dbeb6ade7eb6e30482be111075a2889555d"), looks := false }, kinds := [], alts := [], laidByText := true, laidKinds := [.data], laidTests := true, laidLooks := .later }
def ArenaSweepsUptoCardSaid : Prop := Claim7.holds Tryd.pinned (.plain (OpenSpec.upto arenaSweepsSpec)) arenaSweepsUptoCard

/-- THE SECOND FORM's CARD OF 'gantlinelaw4.ArenaCopies'. -/
def arenaCopiesUptoCard : Claim7 := { stood := { row := arenaCopiesUptoRow, standIns := [], harness := (true, "64ae28b82ac9bc8bf812a8ed8e489dbeb6ade7eb6e30482be111075a2889555d"), looks := false }, kinds := [], alts := [], laidByText := true, laidKinds := [.data], laidTests := true, laidLooks := .later }
def ArenaCopiesUptoCardSaid : Prop := Claim7.holds Tryd.pinned (.plain (OpenSpec.upto arenaCopiesSpec)) arenaCopiesUptoCard
end Rows
end Go.Proofs.YtcoeaknaljoonaaDoor
