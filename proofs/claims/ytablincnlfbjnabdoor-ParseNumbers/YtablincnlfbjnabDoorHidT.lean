/- Facts that the walk is not to see. -/
import Derived.WalkKit
namespace Go.Proofs.YtablincnlfbjnabDoor
set_option maxRecDepth 100000
open Go.RowKit

theorem hide {p : Prop} (h : p) : Hid p := h
theorem unhide {p : Prop} (h : Hid p) : p := h.out
end Go.Proofs.YtablincnlfbjnabDoor
