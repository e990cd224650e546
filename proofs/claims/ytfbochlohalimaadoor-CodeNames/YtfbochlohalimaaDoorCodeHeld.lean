/- What is held in a region that draws may grow on the way. -/
import Derived.Test.YtfbochlohalimaaDoorCodeMem
import Derived.Deep.RegionHeld3
namespace Go.Proofs.YtfbochlohalimaaDoor
set_option maxRecDepth 100000
open Go.RowKit

/-- What is held may be more from here on. -/
theorem held_more {P : Program} {md : Region.Mode} {ops : Array Oper} {Q : Exit → Act → World → Prop} {S S' : World → Prop} (hS : ∀ x, S' x → S x) : ∀ (fuel : Nat) (listed : Array Bool) (a : Act) (w : World), wpAnyH P md ops Q S' fuel listed a w → wpAnyH P md ops Q S fuel listed a w
  | 0, _, _, _, h => h
  | fuel + 1, _, _, _, h => ⟨h.1, fun i hi => wpOp_mono (fun a' w' h' => ⟨hS w' h'.1, held_more hS fuel _ a' w' h'.2⟩) (h.2 i hi)⟩
end Go.Proofs.YtfbochlohalimaaDoor
