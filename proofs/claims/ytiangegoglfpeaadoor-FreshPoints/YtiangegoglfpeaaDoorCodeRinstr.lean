/- gantlineref17.Instr. -/
import Derived.Test.YtiangegoglfpeaaDoorCodeLay
namespace Go.Proofs.YtiangegoglfpeaaDoor
set_option maxRecDepth 100000
open Go.RowKit Go.Maps Go.ChangeShapes Go.WideShapes Go.ChangeAt Go.Deep

set_option maxHeartbeats 1000000 in
theorem rinstr_any (w : World) (i : In) : Calls Tryd.prog 25 #[.agg #[.int .i64 i.op, .int .i64 i.a, .int .i64 i.b, .int .i64 i.c, .int .i64 i.d]] w fun e w' => e = .returned (.agg #[.int .i64 i.op, .int .i64 i.a, .int .i64 i.b, .int .i64 i.c, .int .i64 i.d]) ∧ G w w' := by
  go_enter Tryd.func25, Tryd.ntmps25
  go_wp2_with fail
  refine bodyPost_ret (by simp [results, Tryd.results25, go_sem]; try rfl) rfl ?_
  exact ⟨rfl, ((G.refl w).more _).more _⟩
end Go.Proofs.YtiangegoglfpeaaDoor
