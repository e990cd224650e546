/-
  DERIVED. GIVEN WITH THE SEED: THE CARDS: each row of YtbfgengmojdamaaGreatDoorRows.lean that lists a variable, with what it lists TIED to the program's text (the seventh form; the later family's looks); each row that meets fmt, with fmt's text TOLD by the authors' own Lean function (tested against real Go, not proved from fmt's source: count such statements apart). THE CARD IS WHAT COUNTS. Prove the row's statement (the work); the ties are given (YtbfgengmojdamaaGreatDoorTie.lean); close each card by the builder's one call (the guide's Derived/Test/ToyasCard.lean, 'card_holds'). Laid BY PROGRAM, IN A SANDBOX (cutbox-door.mjs). By AI agents, Wed Nov 11 2026. No macro, syntax, notation, axiom, sorry.
-/
import Derived.Test.YtbfgengmojdamaaGreatDoorRows
import GoSem.ClaimSeven
namespace Go.Proofs.YtbfgengmojdamaaGreatDoor
namespace Rows

/-- THE TIED CARD OF 'gantlinelaw14.HeapKnown'. -/
def heapKnownCard : Claim7 := { stood := { row := heapKnownRow, standIns := [], harness := (true, "43f1ef4531070ce745c24119a837c98c40e55773cc6677205aa08550657475e5"), looks := false }, kinds := [], alts := [], laidByText := true, laidKinds := [.data], laidTests := true, laidLooks := .later }
def HeapKnownCardSaid : Prop := Claim7.holds Tryz.pinned (.plain (OpenSpec.ofChange heapKnownSpec)) heapKnownCard

/-- THE TIED CARD OF 'gantlinelaw14.HeapPlays'. -/
def heapPlaysCard : Claim7 := { stood := { row := heapPlaysRow, standIns := [], harness := (true, "43f1ef4531070ce745c24119a837c98c40e55773cc6677205aa08550657475e5"), looks := false }, kinds := [], alts := [], laidByText := true, laidKinds := [.data], laidTests := true, laidLooks := .later }
def HeapPlaysCardSaid : Prop := Claim7.holds Tryz.pinned (.plain (OpenSpec.ofChange heapPlaysSpec)) heapPlaysCard

/-- THE TIED CARD OF 'gantlinelaw14.HeapForced'. -/
def heapForcedCard : Claim7 := { stood := { row := heapForcedRow, standIns := [], harness := (true, "43f1ef4531070ce745c24119a837c98c40e55773cc6677205aa08550657475e5"), looks := false }, kinds := [], alts := [], laidByText := true, laidKinds := [.data], laidTests := true, laidLooks := .later }
def HeapForcedCardSaid : Prop := Claim7.holds Tryz.pinned (.plain (OpenSpec.ofChange heapForcedSpec)) heapForcedCard

/-- THE TIED CARD OF 'gantlinelaw14.HeapBounds'. -/
def heapBoundsCard : Claim7 := { stood := { row := heapBoundsRow, standIns := [], harness := (true, "43f1ef4531070ce745c24119a837c98c40e55773cc6677205aa08550657475e5"), looks := false }, kinds := [], alts := [], laidByText := true, laidKinds := [.data], laidTests := true, laidLooks := .later }
def HeapBoundsCardSaid : Prop := Claim7.holds Tryz.pinned (.plain (OpenSpec.ofChange heapBoundsSpec)) heapBoundsCard

/-- THE TIED CARD OF 'gantlinelaw14.HeapShades'. -/
def heapShadesCard : Claim7 := { stood := { row := heapShadesRow, standIns := [], harness := (true, "43f1ef4531070ce745c24119a837c98c40e55773cc6677205aa08550657475e5"), looks := false }, kinds := [], alts := [], laidByText := true, laidKinds := [.data], laidTests := true, laidLooks := .later }
def HeapShadesCardSaid : Prop := Claim7.holds Tryz.pinned (.plain (OpenSpec.ofChange heapShadesSpec)) heapShadesCard

/-- THE SECOND FORM's CARD OF 'gantlinelaw14.HeapKnown'. -/
def heapKnownUptoCard : Claim7 := { stood := { row := heapKnownUptoRow, standIns := [], harness := (true, "43f1ef4531070ce745c24119a837c98c40e55773cc6677205aa08550657475e5"), looks := false }, kinds := [], alts := [], laidByText := true, laidKinds := [.data], laidTests := true, laidLooks := .later }
def HeapKnownUptoCardSaid : Prop := Claim7.holds Tryz.pinned (.plain (OpenSpec.upto heapKnownSpec)) heapKnownUptoCard

/-- THE SECOND FORM's CARD OF 'gantlinelaw14.HeapPlays'. -/
def heapPlaysUptoCard : Claim7 := { stood := { row := heapPlaysUptoRow, standIns := [], harness := (true, "43f1ef4531070ce745c24119a837c98c40e55773cc6677205aa08550657475e5"), looks := false }, kinds := [], alts := [], laidByText := true, laidKinds := [.data], laidTests := true, laidLooks := .later }
def HeapPlaysUptoCardSaid : Prop := Claim7.holds Tryz.pinned (.plain (OpenSpec.upto heapPlaysSpec)) heapPlaysUptoCard

/-- THE SECOND FORM's CARD OF 'gantlinelaw14.HeapForced'. -/
def heapForcedUptoCard : Claim7 := { stood := { row := heapForcedUptoRow, standIns := [], harness := (true, "43f1ef4531070ce745c24119a837c98c40e55773cc6677205aa08550657475e5"), looks := false }, kinds := [], alts := [], laidByText := true, laidKinds := [.data], laidTests := true, laidLooks := .later }
def HeapForcedUptoCardSaid : Prop := Claim7.holds Tryz.pinned (.plain (OpenSpec.upto heapForcedSpec)) heapForcedUptoCard

/-- THE SECOND FORM's CARD OF 'gantlinelaw14.HeapBounds'. -/
def heapBoundsUptoCard : Claim7 := { stood := { row := heapBoundsUptoRow, standIns := [], harness := (true, "43f1ef4531070ce745c24119a837c98c40e55773cc6677205aa08550657475e5"), looks := false }, kinds := [], alts := [], laidByText := true, laidKinds := [.data], laidTests := true, laidLooks := .later }
def HeapBoundsUptoCardSaid : Prop := Claim7.holds Tryz.pinned (.plain (OpenSpec.upto heapBoundsSpec)) heapBoundsUptoCard

/-- THE SECOND FORM's CARD OF 'gantlinelaw14.HeapShades'. -/
def heapShadesUptoCard : Claim7 := { stood := { row := heapShadesUptoRow, standIns := [], harness := (true, "43f1ef4531070ce745c24119a837c98c40e55773cc6677205aa08550657475e5"), looks := false }, kinds := [], alts := [], laidByText := true, laidKinds := [.data], laidTests := true, laidLooks := .later }
def HeapShadesUptoCardSaid : Prop := Claim7.holds Tryz.pinned (.plain (OpenSpec.upto heapShadesSpec)) heapShadesUptoCard
end Rows
end Go.Proofs.YtbfgengmojdamaaGreatDoor
