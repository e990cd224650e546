/- Ints that are answered in new memory. -/
import Derived.Test.YtnliooflpclcbaaGreatDoorLiveRow
namespace Go.Proofs.YtnliooflpclcbaaGreatDoor
set_option maxRecDepth 100000
open Go.RowKit Go.Maps Go.ChangeShapes Go.WideShapes Go.ChangeAt Go.Deep

/-- Ints that lie in blocks from B on. -/
def NwL (B : Nat) (w : World) (v : Value) (l : List Int) : Prop := IsL w v l ∧ ∀ a n c, v = .slice (some a) n c → B ≤ a.block
theorem nwl_nil (B : Nat) (w : World) : NwL B w (.slice none 0 0) [] := ⟨isl_nil w, fun a n c e => by cases e⟩
theorem NwL.mono {B B' : Nat} {w : World} {v : Value} {l : List Int} (h : NwL B w v l) (hb : B' ≤ B) : NwL B' w v l := ⟨h.1, fun a n c e => Nat.le_trans hb (h.2 a n c e)⟩
/-- A call answers the ints l, in new memory. -/
def FTo (x : World) (l : List Int) (e : Ending) (w' : World) : Prop := ∃ v, e = .returned v ∧ NwL x.heap.size w' v l ∧ G x w'
theorem FTo.lto {x : World} {l : List Int} {e : Ending} {w' : World} (h : FTo x l e w') : LTo x l e w' := by
  obtain ⟨v, h1, h2, h3⟩ := h
  exact ⟨v, h1, h2.1, h3⟩
theorem nwl_new (x : World) (vs : List Int) (h : vs.length ≤ maxLen) : NwL x.heap.size (x.alloc (.cells (vs.map (Value.int .i64)).toArray 3)) (.slice (some ⟨x.heap.size, 0, none⟩) vs.length vs.length) vs :=
  ⟨isl_new x vs h, fun a n c e => by cases e; exact Nat.le_refl _⟩
end Go.Proofs.YtnliooflpclcbaaGreatDoor
