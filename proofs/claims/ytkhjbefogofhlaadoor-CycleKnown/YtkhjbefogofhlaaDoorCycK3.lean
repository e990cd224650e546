/- The program's Cycle while nothing is held: Start and Step. -/
import Derived.Test.YtkhjbefogofhlaaDoorCycK2
import Derived.Handy
namespace Go.Proofs.YtkhjbefogofhlaaDoor
set_option maxRecDepth 100000
open Go.ChangeShapes Go.WideShapes Go.ChangeAt Go.RowKit Go.Maps
section
variable {W w w' : World} {xl : Ld} {b : Kn} {al al' : Al} {ph kept done : Int} {hb : Nat}
theorem k_shadeAll (h : Hid (KS W w xl b al ph kept done)) (ao : Option Addr) (cap : Nat) : Calls Tryd.prog 30 #[.pointer (some ⟨b.cb, 0, none⟩), .slice ao 0 cap] w fun e w' => e = .returned (.tuple #[]) ∧ w' = w := by
  go_enter Tryd.func30, Tryd.ntmps30
  go_wp2_with fail
  go_loopw [8] (fun c wr => c = .int .i64 0 ∧ Hid (wr = w)) (fun _ _ => 0)
  case atStart => exact ⟨rfl, hide rfl⟩
  case round =>
    obtain ⟨rfl, hw⟩ := hrel
    have hw' := unhide hw
    subst hw'
    go_wp2_with fail
    go_end0
    exact ⟨rfl, rfl⟩
/-- No stack is told. -/
theorem k_least (h : Hid (KS W w xl b al ph kept done)) (H : HdA w hb) : Calls Tryd.prog 42 #[.pointer (some ⟨b.cb, 0, none⟩), .iface 27 (.pointer (some ⟨hb, 0, none⟩))] w fun e w' => e = .returned (.tuple #[.int .i64 0, .bool false]) ∧ w' = w := by
  have CS := hide (h_stacks H)
  go_enter Tryd.func42, Tryd.ntmps42
  go_wp2_with fail
  refine (unhide CS).mono ?_
  rintro r w1 ⟨rfl, hw1⟩
  subst hw1
  clear CS
  go_wp2_with fail
  go_loopw [6, 7, 13] (fun u v c wr => u = .int .i64 0 ∧ v = .bool false ∧ c = .int .i64 0 ∧ Hid (wr = w1)) (fun _ _ _ _ => 0)
  case atStart => exact ⟨rfl, rfl, rfl, hide rfl⟩
  case round =>
    obtain ⟨rfl, rfl, rfl, hw⟩ := hrel
    have hw' := unhide hw
    subst hw'
    go_wp2_with fail
    go_ret2
    exact ⟨rfl, rfl⟩
theorem k_stepRoots (h : Hid (KS W w xl b al ph kept done)) (H : HdA w hb) : Calls Tryd.prog 26 #[.pointer (some ⟨b.cb, 0, none⟩), .iface 27 (.pointer (some ⟨hb, 0, none⟩))] w fun e w' => e = .returned (.tuple #[]) ∧ KS W w' xl b al 2 kept done ∧ w' = w.setCell ⟨b.cb, 4, none⟩ (.int .i64 2) := by
  have CS := hide (k_least h H)
  have c4 := (unhide h).c4
  have f4 := (unhide h).fz 4
  go_enter Tryd.func26, Tryd.ntmps26
  go_wp2_with fail
  refine (unhide CS).mono ?_
  rintro r w1 ⟨rfl, hw1⟩
  subst hw1
  clear CS
  go_wp2_with fail
  go_end0
  exact ⟨rfl, (unhide h).phase 2, rfl⟩
theorem k_mstep (h : Hid (KS W w xl b al ph kept done)) : Calls Tryd.prog 43 #[.pointer (some ⟨b.kb, 0, none⟩)] w fun e w' => e = .returned (.bool false) ∧ w' = w := by
  have k2 := (unhide h).k2
  have CQ := hide (Gy.q_next_none (unhide h).que)
  go_enter Tryd.func43, Tryd.ntmps43
  go_wp2_with fail
  refine (unhide CQ).mono ?_
  rintro r w1 ⟨rfl, hw1⟩
  subst hw1
  clear CQ
  go_wp2_with fail
  go_ret
  exact ⟨rfl, rfl⟩
theorem k_stepMark (h : Hid (KS W w xl b al ph kept done)) (H : HdA w hb) : Calls Tryd.prog 27 #[.pointer (some ⟨b.cb, 0, none⟩), .iface 27 (.pointer (some ⟨hb, 0, none⟩))] w fun e w' => e = .returned (.tuple #[]) ∧ KS W w' xl b al.stale 3 kept done ∧ TnL (w.setCell ⟨b.cb, 4, none⟩ (.int .i64 3)) w' xl := by
  have c3 := (unhide h).c3
  have CM := hide (k_mstep h)
  have CS := hide (k_least h H)
  have c4 := (unhide h).c4
  have f4 := (unhide h).fz 4
  have h2 := hide ((unhide h).phase 3)
  have c1 := (unhide h2).c1
  have CT := hide (l_stale (hide (unhide h2).st))
  go_enter Tryd.func27, Tryd.ntmps27
  go_wp2_with fail
  refine (unhide CM).mono ?_
  rintro r w1 ⟨rfl, hw1⟩
  subst hw1
  clear CM
  go_wp2_with fail
  refine (unhide CS).mono ?_
  rintro r w2 ⟨rfl, hw2⟩
  subst hw2
  clear CS
  go_wp2_with fail
  refine (unhide CT).mono ?_
  rintro r w3 ⟨rfl, s3, t3⟩
  go_wp2_with fail
  go_end0
  exact ⟨rfl, (unhide h2).turn s3 t3, t3⟩
end
end Go.Proofs.YtkhjbefogofhlaaDoor
