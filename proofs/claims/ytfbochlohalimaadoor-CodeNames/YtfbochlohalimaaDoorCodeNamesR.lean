/- The document's own table of instructions (gantlineref9.rows). -/
import Derived.Test.YtfbochlohalimaaDoorCodeFrame
namespace Go.Proofs.YtfbochlohalimaaDoor
set_option maxRecDepth 100000
open Go.RowKit Go.Maps Go.ChangeShapes Go.WideShapes Go.ChangeAt Go.Deep

/-- The document's table as a row: its name, how many operands. -/
def RRows (w : World) (b : Nat) : Prop := ∀ (i : Nat) (r : Rw), rowsP[i]? = some r → w.cell? ⟨b, i * 2, none⟩ = some (.string ⟨r.nm.toArray⟩) ∧ w.cell? ⟨b, i * 2 + 1, none⟩ = some (.int .i64 (r.ops : Int))
set_option maxHeartbeats 1000000 in
theorem rrows_any (w : World) : Calls Tryd.prog 38 #[] w fun e w' => e = .returned (.slice (some ⟨w.heap.size, 0, none⟩) 45 45) ∧ RRows w' w.heap.size ∧ G w w' := by
  have F : Hid (RRows (w.alloc (.cells (rowsP.flatMap fun r => [Value.string ⟨r.nm.toArray⟩, Value.int .i64 (r.ops : Int)]).toArray 85)) w.heap.size) := hide fun i r hr => by
    have hb := heap_alloc_new w (.cells (rowsP.flatMap fun r => [Value.string ⟨r.nm.toArray⟩, Value.int .i64 (r.ops : Int)]).toArray 85)
    have k := fun j v hj => flat_get (fun r : Rw => [Value.string ⟨r.nm.toArray⟩, Value.int .i64 (r.ops : Int)]) 2 rowsP i r j v (fun _ _ => rfl) hr hj
    constructor
    · rw [cell_of_row _ _ _ _ _ _ hb]; simpa using k 0 _ rfl
    · rw [cell_of_row _ _ _ _ _ _ hb]; simpa using k 1 _ rfl
  go_enter Tryd.func38, Tryd.ntmps38
  go_wp2_with fail
  go_ret
  exact ⟨rfl, unhide F, (G.refl w).more _⟩

end Go.Proofs.YtfbochlohalimaaDoor
