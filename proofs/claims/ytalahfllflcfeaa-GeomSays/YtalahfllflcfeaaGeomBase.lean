/- What every law's frame of this seat shares. -/
import Derived.Test.YtalahfllflcfeaaGeomLeaf2
import Derived.ProofKit
import Derived.OpenShut
namespace Go.Proofs.Ytalahfllflcfeaa
open Go.ChangeShapes Go.WideShapes Go.ChangeAt Go.RowKit

theorem own : ownKnob Try.prog.godebug = none := by kernel_rfl
theorem b_true {b : Bool} (h : b = true) : Ending.returned (.bool b) = .returned (.bool true) := by rw [h]
end Go.Proofs.Ytalahfllflcfeaa
