/- The program's Cycle while nothing is held: Start and Step. -/
import Derived.Test.YtgflkpccddfalaaGreatDoorCycK2
import Derived.Handy
namespace Go.Proofs.YtgflkpccddfalaaGreatDoor
set_option maxRecDepth 100000
open Go.ChangeShapes Go.WideShapes Go.ChangeAt Go.RowKit Go.Maps
section
variable {W w w' : World} {xl : Ld} {b : Kn} {al al' : Al} {ph kept done : Int} {hb : Nat}
theorem k_shadeAll (h : Hid (KS W w xl b al ph kept done)) (ao : Option Addr) (cap : Nat) : Calls Tryz.prog 55 #[.pointer (some ⟨b.cb, 0, none⟩), .slice ao 0 cap] w fun e w' => e = .returned (.tuple #[]) ∧ w' = w := by
  go_enter Tryz.func55, Tryz.ntmps55
  go_wp2_with fail
  go_loopw [8] (fun c wr => c = .int .i64 0 ∧ Hid (wr = w)) (fun _ _ => 0)
  case atStart => exact ⟨rfl, hide rfl⟩
  case round =>
    obtain ⟨rfl, hw⟩ := hrel
    have hw' := unhide hw
    subst hw'
    go_wp2_with fail
    go_end0
    exact ⟨rfl, rfl⟩
theorem k_mstep (h : Hid (KS W w xl b al ph kept done)) : Calls Tryz.prog 87 #[.pointer (some ⟨b.kb, 0, none⟩)] w fun e w' => e = .returned (.bool false) ∧ w' = w := by
  have k2 := (unhide h).k2
  have CQ := hide (Gy.q_next_none (unhide h).que)
  go_enter Tryz.func87, Tryz.ntmps87
  go_wp2_with fail
  refine (unhide CQ).mono ?_
  rintro r w1 ⟨rfl, hw1⟩
  subst hw1
  clear CQ
  go_wp2_with fail
  go_ret
  exact ⟨rfl, rfl⟩
end
end Go.Proofs.YtgflkpccddfalaaGreatDoor
