/- What every law's frame of this seat shares: the table out of the row's condition; the witness's world. -/
import Derived.Test.YtgflkpccddfalaaGreatDoorArenaAwake
import Derived.Test.YtgflkpccddfalaaGreatDoorRows
import Derived.Test.YtgflkpccddfalaaGreatDoorTie
import Derived.Test.YtgflkpccddfalaaGreatDoorCards
import Derived.ProofKit
import Derived.LaidMore
import Derived.OpenShut
import Derived.Stop.Joined
import Derived.SevenTiedAt
import Derived.Lib.LaidTab
namespace Go.Proofs.YtgflkpccddfalaaGreatDoor
set_option maxRecDepth 100000
open Go.ChangeShapes Go.WideShapes Go.ChangeAt Go.RowKit

theorem laidOut : laidOutB Tryz.prog = true := by kernel_rfl

theorem own : ownKnob Tryz.prog.godebug = none := by kernel_rfl
def laidTab {H : Type} : List (String × DataW H) := [("math/bits.deBruijn64tab", Rows.laid_math_bits_deBruijn64tab)]
def tabInts : List Int := Lib.deBruijn64tab.map fun n : Nat => (n : Int)

theorem door_met (os : Os) (args : Array Value) : laidMetH Tryz.prog laidTab ((World.doorLaid Tryz.prog 400 os).forCall (fun _ _ => 0) ⟨#[], args, []⟩).memory :=
  laidMetH_of_parts3 (fuel := 8) (laidMet_of_run' 8 (by kernel_rfl) (by kernel_rfl)) (by kernel_rfl) (by kernel_rfl)

theorem tab_at : ∀ k : Fin 64, tabInts.getD (2 ^ k.val * 285870213051353865 % 18446744073709551616 / 288230376151711744) 0 = (k.val : Int) ∧ 2 ^ k.val * 285870213051353865 % 18446744073709551616 / 288230376151711744 < tabInts.length := by decide +kernel

theorem tab_of_laid {W : World} (h : laidMetH Tryz.prog laidTab W) : Tab W := by
  rw [MakeChecks.laidMetH_plain _ _ _ (by kernel_rfl)] at h
  have hg : Tryz.prog.globalNamed "math/bits.deBruijn64tab" = some 0 := by kernel_rfl
  have hi : Lib.TabIs Tryz.prog W "math/bits.deBruijn64tab" .u8 tabInts :=
    Lib.tabIs_of_head (g := 0) (t := 163) (e := 5) (n := 64) hg (by kernel_rfl) Tryz.underlying163 Tryz.underlying5 (by kernel_rfl) (by kernel_rfl) (rest := []) h
  intro k hk
  have hk2 := tab_at ⟨k, hk⟩
  have := hi.cell hg _ hk2.2
  rw [hk2.1] at this
  exact this
end Go.Proofs.YtgflkpccddfalaaGreatDoor
