/- gantlineref17.Instr. -/
import Derived.Test.YtnliooflpclcbaaGreatDoorCodeLay
namespace Go.Proofs.YtnliooflpclcbaaGreatDoor
set_option maxRecDepth 100000
open Go.RowKit Go.Maps Go.ChangeShapes Go.WideShapes Go.ChangeAt Go.Deep
end Go.Proofs.YtnliooflpclcbaaGreatDoor
