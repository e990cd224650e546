/- What is held in a region that draws may grow on the way. -/
import Derived.Test.YtdekhnfncecacaaDoorCodeLay
import Derived.Deep.RegionHeld3
namespace Go.Proofs.YtdekhnfncecacaaDoor
set_option maxRecDepth 100000
open Go.RowKit

end Go.Proofs.YtdekhnfncecacaaDoor
