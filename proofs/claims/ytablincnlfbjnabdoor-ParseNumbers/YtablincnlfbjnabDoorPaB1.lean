/- The program's parser: none (laid by py/pax.py). -/
import Derived.Test.YtablincnlfbjnabDoorPaA
namespace Go.Proofs.YtablincnlfbjnabDoor
set_option maxRecDepth 100000
open Go.RowKit Go.Maps Go.ChangeShapes Go.WideShapes Go.ChangeAt Go.Deep

theorem rc_0 : RowC (⟨#[]⟩ : ByteArray) [] := ⟨by decide +kernel, by decide +kernel, by decide +kernel, by decide +kernel, by decide +kernel⟩
set_option maxHeartbeats 8000000 in
theorem none_ok {rb wb wc : Nat} {ws : List Wd} (R : Nt → PS → Tt × PS) (s : PS) : Ok rb wb wc ws 61 (noneP ws R) s := by
  refine ok_of fun hk y h => ?_
  have CR : Hid (∀ w1, RSt rb wb wc ws s w1 → Calls Tryd.prog 13 #[.pointer (some ⟨rb, 0, none⟩), .string ⟨#[110, 111, 110, 101]⟩, .string ⟨#[]⟩, .slice none 0 0] w1 (NTo rb wb wc ws (pRow ws R [110, 111, 110, 101] [] [] s) w1)) := hide fun w1 hh => row_nil hh [110, 111, 110, 101] rc_0 (trivial)
  unfold noneP
  generalize pRow ws R [110, 111, 110, 101] [] [] s = pr at *
  have p := hide ((Pn.new h).al (.cells zBox 27))
  have b := hide (BoxT.zero y)
  clear h hk
  go_enter Tryd.func61, Tryd.ntmps61
  go_wp2_with fail
  refine (unhide CR _ (unhide p).st).mono ?_
  rintro e w2 hn
  obtain ⟨ao, n, c, rfl, ⟨u0, u1, u2, u3, q0, q1, q2, q3⟩, ⟨z0, z1, z2, z3⟩, K⟩ := arm_fin (unhide p) (unhide b) hn
  clear hn p b
  go_wp2_with fail
  obtain ⟨K1, d0, d1, d2, d3⟩ := unhide K
  refine bodyPost_ret (by simp [results, Tryd.results61, go_sem, d0, d1, d2, d3]; try rfl) rfl ?_
  exact K1
end Go.Proofs.YtablincnlfbjnabDoor
