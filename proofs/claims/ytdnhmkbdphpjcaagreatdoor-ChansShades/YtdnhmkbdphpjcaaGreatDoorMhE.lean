/- Here, one behind the other: CzAwake, CzSh, CzShLaw. -/
import Derived.Test.YtdnhmkbdphpjcaaGreatDoorMhB
import Derived.Test.YtdnhmkbdphpjcaaGreatDoorArenaBase
/- awake() of package gantlinelaw15 answers true. -/
namespace Go.Proofs.YtdnhmkbdphpjcaaGreatDoor
set_option maxRecDepth 100000
open Go.ChangeShapes Go.WideShapes Go.ChangeAt Go.RowKit Go.Maps Go.Deep

set_option maxHeartbeats 4000000 in
set_option maxRecDepth 100000 in
theorem awake15 (w : World) (ht : Tab w) : Calls Tryz.prog 8 #[] w fun e w' => e = .returned (.bool true) ∧ G w w' := by
  replace ht := hide ht
  go_enter Tryz.func8, Tryz.ntmps8
  go_wp2_with fail
  refine (shapes15 _).mono ?_
  rintro e w1 ⟨rfl, hw1⟩
  have CN := hide (new15 8 (by decide) (by decide) w w1 hw1 (unhide ht))
  have g1 : Hid (G w w1) := hide (by rw [hw1]; exact G.alloc _ _)
  clear hw1
  go_wp2_with fail
  refine (unhide CN).mono ?_
  rintro e w2 ⟨x, rfl, ao, cap, nv, c, S0⟩
  have S1 := hide (S0.gr (G.alloc w2 (.cells #[.slice none 0 0] 35)))
  have C1 := hide (s_make S1 1 (by decide))
  clear S0 CN
  go_wp2_with fail
  refine (unhide C1 _).mono ?_
  rintro e w3 ⟨rfl, S3, _⟩
  replace S3 := hide S3
  have C2 := hide (s_push S3 (by decide) 7 1)
  clear C1 S1
  go_wp2_with fail
  refine (unhide C2).mono ?_
  rintro e w4 ⟨rfl, S4, _⟩
  replace S4 := hide S4
  have C3 := hide (s_push_full S4 (Or.inr (by decide)) 8 1)
  clear C2 S3
  go_wp2_with fail
  refine (unhide C3).mono ?_
  rintro e w5 ⟨rfl, g5⟩
  have S5 := hide ((unhide S4).gr g5)
  have C4 := hide (s_count S5)
  clear C3 S4 g5
  go_wp2_with fail
  refine (unhide C4).mono ?_
  rintro e w6 ⟨rfl, g6⟩
  have S6 := hide ((unhide S5).gr g6)
  have C5 := hide (s_pop S6)
  clear C4 S5 g6
  go_wp2_with fail
  refine (unhide C5).mono ?_
  rintro e w7 ⟨rfl, S7, _⟩
  replace S7 := hide S7
  have C6 := hide (s_close S7)
  clear C5 S6
  go_wp2_with fail
  refine (unhide C6).mono ?_
  rintro e w8 ⟨rfl, S8, _⟩
  replace S8 := hide S8
  have C7 := hide (s_closed S8)
  clear C6 S7
  go_wp2_with fail
  refine (unhide C7).mono ?_
  rintro e w9 ⟨rfl, g9⟩
  have S9 := hide ((unhide S8).gr g9)
  have C8 := hide (s_close_shut S9)
  clear C7 S8 g9
  go_wp2_with fail
  refine (unhide C8).mono ?_
  rintro e w10 ⟨rfl, g10⟩
  have S10 := hide ((unhide S9).gr g10)
  have C9 := hide (s_room S10)
  clear C8 S9 g10
  go_wp2_with fail
  refine (unhide C9).mono ?_
  rintro e w11 ⟨rfl, g11⟩
  have S11 := hide ((unhide S10).gr g11)
  have C10 := hide (s_is S11 false)
  clear C9 S10 g11
  go_wp2_with fail
  refine (unhide C10).mono ?_
  rintro e w12 ⟨rfl, g12⟩
  have S12 := hide ((unhide S11).gr g12)
  have C11 := hide (s_is S12 true)
  clear C10 S11 g12
  go_wp2_with fail
  refine (unhide C11).mono ?_
  rintro e w13 ⟨rfl, g13⟩
  have FIN := hide (Below.trans (unhide g1) (((unhide S12).gr g13).below.mono (unhide g1).size))
  clear C11 S12 g13
  go_wp2_with fail
  go_ret
  exact ⟨rfl, unhide FIN⟩
end Go.Proofs.YtdnhmkbdphpjcaaGreatDoor

/- ChansShades of package gantlinelaw15 answers true. -/
namespace Go.Proofs.YtdnhmkbdphpjcaaGreatDoor
set_option maxRecDepth 100000
open Go.ChangeShapes Go.WideShapes Go.ChangeAt Go.RowKit Go.Maps Go.Deep

set_option maxHeartbeats 2000000 in
set_option maxRecDepth 100000 in
theorem sh_off_00 (w : World) (ht : Tab w) (b : Bool) (CA : Hid (Calls Tryz.prog 8 #[] w fun e w' => e = .returned (.bool true) ∧ G w w')) : Calls Tryz.prog 7 #[.bool b, .bool false, .bool false, .bool false] w fun e w' => e = .returned (.bool true) ∧ G w w' := by
  replace ht := hide ht
  go_enter Tryz.func7, Tryz.ntmps7
  go_wp2_with fail
  refine (unhide CA).mono ?_
  rintro e w0 ⟨rfl, g0⟩
  replace g0 := hide g0
  clear CA
  go_wp2_with fail
  refine (shapes15 _).mono ?_
  rintro e w1 ⟨rfl, hw1⟩
  have CN := hide (new15 8 (by decide) (by decide) w0 w1 hw1 (Tab.later (unhide ht) (unhide g0)))
  have g1 : Hid (G w w1) := hide ((unhide g0).trans (by rw [hw1]; exact G.alloc _ _))
  clear hw1 g0 ht
  go_wp2_with fail
  refine (unhide CN).mono ?_
  rintro e w2 ⟨x, rfl, ao, cap, nv, c, S0⟩
  have FIN : Hid (∀ y : World, Below w1.heap.size w1 y → G w y) := hide fun y b => Below.trans (unhide g1) (b.mono (unhide g1).size)
  have S1 := hide (S0.gr (G.alloc w2 (.cells #[] 62)))
  have C := hide (z_make1 true S1)
  clear S0 CN g1
  go_wp2_with fail
  refine (unhide C _).mono ?_
  rintro e w3 ⟨rfl, S3⟩
  clear C S1
  have C := hide (z_make2 true (hide S3))
  clear S3
  go_wp2_with fail
  refine (unhide C _).mono ?_
  rintro e w4 ⟨rfl, S4⟩
  clear C
  have C := hide (z_make3 true (hide S4))
  clear S4
  go_wp2_with fail
  refine (unhide C _).mono ?_
  rintro e w5 ⟨rfl, S5⟩
  clear C
  have C := hide (z_push1 true (hide S5))
  clear S5
  go_wp2_with fail
  refine (unhide C).mono ?_
  rintro e w6 ⟨rfl, S6⟩
  replace S6 := hide S6
  clear C
  have C := hide (z_cycle S6)
  go_wp2_with fail
  refine (unhide C).mono ?_
  rintro e w9 ⟨rfl, hw9⟩
  rw [hw9]
  clear C hw9 w9
  have C := hide (z_push2 (Or.inl rfl) S6 0 ((z_g2 true).1))
  clear S6
  go_wp2_with fail
  refine (unhide C).mono ?_
  rintro e w10 ⟨rfl, S10⟩
  replace S10 := hide S10
  clear C
  have C := hide (z_marker S10)
  go_wp2_with fail
  refine (unhide C).mono ?_
  rintro e w11 ⟨rfl, hw⟩
  rw [hw]
  clear C hw w11
  have C := hide (z_left S10)
  go_wp2_with fail
  refine (unhide C).mono ?_
  rintro e w11 ⟨rfl, hw⟩
  rw [hw]
  clear C hw w11
  have F := hide (unhide FIN _ (unhide S10).below)
  clear S10 FIN
  go_wp2_with fail
  go_ret
  exact ⟨rfl, unhide F⟩
set_option maxHeartbeats 2000000 in
set_option maxRecDepth 100000 in
theorem sh_off_01 (w : World) (ht : Tab w) (b : Bool) (CA : Hid (Calls Tryz.prog 8 #[] w fun e w' => e = .returned (.bool true) ∧ G w w')) : Calls Tryz.prog 7 #[.bool b, .bool false, .bool true, .bool false] w fun e w' => e = .returned (.bool true) ∧ G w w' := by
  replace ht := hide ht
  go_enter Tryz.func7, Tryz.ntmps7
  go_wp2_with fail
  refine (unhide CA).mono ?_
  rintro e w0 ⟨rfl, g0⟩
  replace g0 := hide g0
  clear CA
  go_wp2_with fail
  refine (shapes15 _).mono ?_
  rintro e w1 ⟨rfl, hw1⟩
  have CN := hide (new15 8 (by decide) (by decide) w0 w1 hw1 (Tab.later (unhide ht) (unhide g0)))
  have g1 : Hid (G w w1) := hide ((unhide g0).trans (by rw [hw1]; exact G.alloc _ _))
  clear hw1 g0 ht
  go_wp2_with fail
  refine (unhide CN).mono ?_
  rintro e w2 ⟨x, rfl, ao, cap, nv, c, S0⟩
  have FIN : Hid (∀ y : World, Below w1.heap.size w1 y → G w y) := hide fun y b => Below.trans (unhide g1) (b.mono (unhide g1).size)
  have S1 := hide (S0.gr (G.alloc w2 (.cells #[] 62)))
  have C := hide (z_make1 false S1)
  clear S0 CN g1
  go_wp2_with fail
  refine (unhide C _).mono ?_
  rintro e w3 ⟨rfl, S3⟩
  clear C S1
  have C := hide (z_make2 false (hide S3))
  clear S3
  go_wp2_with fail
  refine (unhide C _).mono ?_
  rintro e w4 ⟨rfl, S4⟩
  clear C
  have C := hide (z_make3 false (hide S4))
  clear S4
  go_wp2_with fail
  refine (unhide C _).mono ?_
  rintro e w5 ⟨rfl, S5⟩
  clear C
  have C := hide (z_push1 false (hide S5))
  clear S5
  go_wp2_with fail
  refine (unhide C).mono ?_
  rintro e w6 ⟨rfl, S6⟩
  replace S6 := hide S6
  clear C
  have C := hide (z_cycle S6)
  go_wp2_with fail
  refine (unhide C).mono ?_
  rintro e w9 ⟨rfl, hw9⟩
  rw [hw9]
  clear C hw9 w9
  have C := hide (z_push2 (Or.inl rfl) S6 0 ((z_g2 false).1))
  clear S6
  go_wp2_with fail
  refine (unhide C).mono ?_
  rintro e w10 ⟨rfl, S10⟩
  replace S10 := hide S10
  clear C
  have C := hide (z_marker S10)
  go_wp2_with fail
  refine (unhide C).mono ?_
  rintro e w11 ⟨rfl, hw⟩
  rw [hw]
  clear C hw w11
  have C := hide (z_left S10)
  go_wp2_with fail
  refine (unhide C).mono ?_
  rintro e w11 ⟨rfl, hw⟩
  rw [hw]
  clear C hw w11
  have F := hide (unhide FIN _ (unhide S10).below)
  clear S10 FIN
  go_wp2_with fail
  go_ret
  exact ⟨rfl, unhide F⟩
set_option maxHeartbeats 2000000 in
set_option maxRecDepth 100000 in
theorem sh_off_10 (w : World) (ht : Tab w) (b : Bool) (CA : Hid (Calls Tryz.prog 8 #[] w fun e w' => e = .returned (.bool true) ∧ G w w')) : Calls Tryz.prog 7 #[.bool b, .bool true, .bool false, .bool false] w fun e w' => e = .returned (.bool true) ∧ G w w' := by
  replace ht := hide ht
  go_enter Tryz.func7, Tryz.ntmps7
  go_wp2_with fail
  refine (unhide CA).mono ?_
  rintro e w0 ⟨rfl, g0⟩
  replace g0 := hide g0
  clear CA
  go_wp2_with fail
  refine (shapes15 _).mono ?_
  rintro e w1 ⟨rfl, hw1⟩
  have CN := hide (new15 8 (by decide) (by decide) w0 w1 hw1 (Tab.later (unhide ht) (unhide g0)))
  have g1 : Hid (G w w1) := hide ((unhide g0).trans (by rw [hw1]; exact G.alloc _ _))
  clear hw1 g0 ht
  go_wp2_with fail
  refine (unhide CN).mono ?_
  rintro e w2 ⟨x, rfl, ao, cap, nv, c, S0⟩
  have FIN : Hid (∀ y : World, Below w1.heap.size w1 y → G w y) := hide fun y b => Below.trans (unhide g1) (b.mono (unhide g1).size)
  have S1 := hide (S0.gr (G.alloc w2 (.cells #[] 62)))
  have C := hide (z_make1 true S1)
  clear S0 CN g1
  go_wp2_with fail
  refine (unhide C _).mono ?_
  rintro e w3 ⟨rfl, S3⟩
  clear C S1
  have C := hide (z_make2 true (hide S3))
  clear S3
  go_wp2_with fail
  refine (unhide C _).mono ?_
  rintro e w4 ⟨rfl, S4⟩
  clear C
  have C := hide (z_make3 true (hide S4))
  clear S4
  go_wp2_with fail
  refine (unhide C _).mono ?_
  rintro e w5 ⟨rfl, S5⟩
  clear C
  have C := hide (z_push1 true (hide S5))
  clear S5
  go_wp2_with fail
  refine (unhide C).mono ?_
  rintro e w6 ⟨rfl, S6⟩
  replace S6 := hide S6
  clear C
  have C := hide (z_cycle S6)
  go_wp2_with fail
  refine (unhide C).mono ?_
  rintro e w9 ⟨rfl, hw9⟩
  rw [hw9]
  clear C hw9 w9
  have C := hide (z_pop (Or.inl rfl) S6 0 ((z_g1 true).1))
  clear S6
  go_wp2_with fail
  refine (unhide C).mono ?_
  rintro e w10 ⟨rfl, S10⟩
  replace S10 := hide S10
  clear C
  have C := hide (z_marker S10)
  go_wp2_with fail
  refine (unhide C).mono ?_
  rintro e w11 ⟨rfl, hw⟩
  rw [hw]
  clear C hw w11
  have C := hide (z_left S10)
  go_wp2_with fail
  refine (unhide C).mono ?_
  rintro e w11 ⟨rfl, hw⟩
  rw [hw]
  clear C hw w11
  have F := hide (unhide FIN _ (unhide S10).below)
  clear S10 FIN
  go_wp2_with fail
  go_ret
  exact ⟨rfl, unhide F⟩
set_option maxHeartbeats 2000000 in
set_option maxRecDepth 100000 in
theorem sh_off_11 (w : World) (ht : Tab w) (b : Bool) (CA : Hid (Calls Tryz.prog 8 #[] w fun e w' => e = .returned (.bool true) ∧ G w w')) : Calls Tryz.prog 7 #[.bool b, .bool true, .bool true, .bool false] w fun e w' => e = .returned (.bool true) ∧ G w w' := by
  replace ht := hide ht
  go_enter Tryz.func7, Tryz.ntmps7
  go_wp2_with fail
  refine (unhide CA).mono ?_
  rintro e w0 ⟨rfl, g0⟩
  replace g0 := hide g0
  clear CA
  go_wp2_with fail
  refine (shapes15 _).mono ?_
  rintro e w1 ⟨rfl, hw1⟩
  have CN := hide (new15 8 (by decide) (by decide) w0 w1 hw1 (Tab.later (unhide ht) (unhide g0)))
  have g1 : Hid (G w w1) := hide ((unhide g0).trans (by rw [hw1]; exact G.alloc _ _))
  clear hw1 g0 ht
  go_wp2_with fail
  refine (unhide CN).mono ?_
  rintro e w2 ⟨x, rfl, ao, cap, nv, c, S0⟩
  have FIN : Hid (∀ y : World, Below w1.heap.size w1 y → G w y) := hide fun y b => Below.trans (unhide g1) (b.mono (unhide g1).size)
  have S1 := hide (S0.gr (G.alloc w2 (.cells #[] 62)))
  have C := hide (z_make1 false S1)
  clear S0 CN g1
  go_wp2_with fail
  refine (unhide C _).mono ?_
  rintro e w3 ⟨rfl, S3⟩
  clear C S1
  have C := hide (z_make2 false (hide S3))
  clear S3
  go_wp2_with fail
  refine (unhide C _).mono ?_
  rintro e w4 ⟨rfl, S4⟩
  clear C
  have C := hide (z_make3 false (hide S4))
  clear S4
  go_wp2_with fail
  refine (unhide C _).mono ?_
  rintro e w5 ⟨rfl, S5⟩
  clear C
  have C := hide (z_push1 false (hide S5))
  clear S5
  go_wp2_with fail
  refine (unhide C).mono ?_
  rintro e w6 ⟨rfl, S6⟩
  replace S6 := hide S6
  clear C
  have C := hide (z_cycle S6)
  go_wp2_with fail
  refine (unhide C).mono ?_
  rintro e w9 ⟨rfl, hw9⟩
  rw [hw9]
  clear C hw9 w9
  have C := hide (z_pop (Or.inl rfl) S6 0 ((z_g1 false).1))
  clear S6
  go_wp2_with fail
  refine (unhide C).mono ?_
  rintro e w10 ⟨rfl, S10⟩
  replace S10 := hide S10
  clear C
  have C := hide (z_marker S10)
  go_wp2_with fail
  refine (unhide C).mono ?_
  rintro e w11 ⟨rfl, hw⟩
  rw [hw]
  clear C hw w11
  have C := hide (z_left S10)
  go_wp2_with fail
  refine (unhide C).mono ?_
  rintro e w11 ⟨rfl, hw⟩
  rw [hw]
  clear C hw w11
  have F := hide (unhide FIN _ (unhide S10).below)
  clear S10 FIN
  go_wp2_with fail
  go_ret
  exact ⟨rfl, unhide F⟩
set_option maxHeartbeats 2000000 in
set_option maxRecDepth 100000 in
theorem sh_on_00 (w : World) (ht : Tab w) (CA : Hid (Calls Tryz.prog 8 #[] w fun e w' => e = .returned (.bool true) ∧ G w w')) : Calls Tryz.prog 7 #[.bool false, .bool false, .bool false, .bool true] w fun e w' => e = .returned (.bool true) ∧ G w w' := by
  replace ht := hide ht
  go_enter Tryz.func7, Tryz.ntmps7
  go_wp2_with fail
  refine (unhide CA).mono ?_
  rintro e w0 ⟨rfl, g0⟩
  replace g0 := hide g0
  clear CA
  go_wp2_with fail
  refine (shapes15 _).mono ?_
  rintro e w1 ⟨rfl, hw1⟩
  have CN := hide (new15 8 (by decide) (by decide) w0 w1 hw1 (Tab.later (unhide ht) (unhide g0)))
  have g1 : Hid (G w w1) := hide ((unhide g0).trans (by rw [hw1]; exact G.alloc _ _))
  clear hw1 g0 ht
  go_wp2_with fail
  refine (unhide CN).mono ?_
  rintro e w2 ⟨x, rfl, ao, cap, nv, c, S0⟩
  have FIN : Hid (∀ y : World, Below w1.heap.size w1 y → G w y) := hide fun y b => Below.trans (unhide g1) (b.mono (unhide g1).size)
  have S1 := hide (S0.gr (G.alloc w2 (.cells #[] 62)))
  have C := hide (z_make1 true S1)
  clear S0 CN g1
  go_wp2_with fail
  refine (unhide C _).mono ?_
  rintro e w3 ⟨rfl, S3⟩
  clear C S1
  have C := hide (z_make2 true (hide S3))
  clear S3
  go_wp2_with fail
  refine (unhide C _).mono ?_
  rintro e w4 ⟨rfl, S4⟩
  clear C
  have C := hide (z_make3 true (hide S4))
  clear S4
  go_wp2_with fail
  refine (unhide C _).mono ?_
  rintro e w5 ⟨rfl, S5⟩
  clear C
  have C := hide (z_push1 true (hide S5))
  clear S5
  go_wp2_with fail
  refine (unhide C).mono ?_
  rintro e w6 ⟨rfl, S6⟩
  replace S6 := hide S6
  clear C
  have C := hide (z_cycle S6)
  go_wp2_with fail
  refine (unhide C).mono ?_
  rintro e w9 ⟨rfl, hw9⟩
  rw [hw9]
  clear C hw9 w9
  have C := hide (z_start true S6)
  go_wp2_with fail
  refine (unhide C _).mono ?_
  rintro e w7 ⟨rfl, S7⟩
  replace S7 := hide S7
  clear C S6
  have C := hide (z_push2 (Or.inr rfl) S7 1 ((z_g2 true).2.1))
  clear S7
  go_wp2_with fail
  refine (unhide C).mono ?_
  rintro e w10 ⟨rfl, S10⟩
  replace S10 := hide S10
  clear C
  have C := hide (z_marker S10)
  go_wp2_with fail
  refine (unhide C).mono ?_
  rintro e w11 ⟨rfl, hw⟩
  rw [hw]
  clear C hw w11
  have C := hide (z_left S10)
  go_wp2_with fail
  refine (unhide C).mono ?_
  rintro e w11 ⟨rfl, hw⟩
  rw [hw]
  clear C hw w11
  have F := hide (unhide FIN _ (unhide S10).below)
  clear S10 FIN
  go_wp2_with fail
  go_ret
  exact ⟨rfl, unhide F⟩
set_option maxHeartbeats 2000000 in
set_option maxRecDepth 100000 in
theorem sh_on_01 (w : World) (ht : Tab w) (CA : Hid (Calls Tryz.prog 8 #[] w fun e w' => e = .returned (.bool true) ∧ G w w')) : Calls Tryz.prog 7 #[.bool false, .bool false, .bool true, .bool true] w fun e w' => e = .returned (.bool true) ∧ G w w' := by
  replace ht := hide ht
  go_enter Tryz.func7, Tryz.ntmps7
  go_wp2_with fail
  refine (unhide CA).mono ?_
  rintro e w0 ⟨rfl, g0⟩
  replace g0 := hide g0
  clear CA
  go_wp2_with fail
  refine (shapes15 _).mono ?_
  rintro e w1 ⟨rfl, hw1⟩
  have CN := hide (new15 8 (by decide) (by decide) w0 w1 hw1 (Tab.later (unhide ht) (unhide g0)))
  have g1 : Hid (G w w1) := hide ((unhide g0).trans (by rw [hw1]; exact G.alloc _ _))
  clear hw1 g0 ht
  go_wp2_with fail
  refine (unhide CN).mono ?_
  rintro e w2 ⟨x, rfl, ao, cap, nv, c, S0⟩
  have FIN : Hid (∀ y : World, Below w1.heap.size w1 y → G w y) := hide fun y b => Below.trans (unhide g1) (b.mono (unhide g1).size)
  have S1 := hide (S0.gr (G.alloc w2 (.cells #[] 62)))
  have C := hide (z_make1 false S1)
  clear S0 CN g1
  go_wp2_with fail
  refine (unhide C _).mono ?_
  rintro e w3 ⟨rfl, S3⟩
  clear C S1
  have C := hide (z_make2 false (hide S3))
  clear S3
  go_wp2_with fail
  refine (unhide C _).mono ?_
  rintro e w4 ⟨rfl, S4⟩
  clear C
  have C := hide (z_make3 false (hide S4))
  clear S4
  go_wp2_with fail
  refine (unhide C _).mono ?_
  rintro e w5 ⟨rfl, S5⟩
  clear C
  have C := hide (z_push1 false (hide S5))
  clear S5
  go_wp2_with fail
  refine (unhide C).mono ?_
  rintro e w6 ⟨rfl, S6⟩
  replace S6 := hide S6
  clear C
  have C := hide (z_cycle S6)
  go_wp2_with fail
  refine (unhide C).mono ?_
  rintro e w9 ⟨rfl, hw9⟩
  rw [hw9]
  clear C hw9 w9
  have C := hide (z_start false S6)
  go_wp2_with fail
  refine (unhide C _).mono ?_
  rintro e w7 ⟨rfl, S7⟩
  replace S7 := hide S7
  clear C S6
  have C := hide (z_push2 (Or.inr rfl) S7 0 ((z_g2 false).2.1))
  clear S7
  go_wp2_with fail
  refine (unhide C).mono ?_
  rintro e w10 ⟨rfl, S10⟩
  replace S10 := hide S10
  clear C
  have C := hide (z_marker S10)
  go_wp2_with fail
  refine (unhide C).mono ?_
  rintro e w11 ⟨rfl, hw⟩
  rw [hw]
  clear C hw w11
  have C := hide (z_left S10)
  go_wp2_with fail
  refine (unhide C).mono ?_
  rintro e w11 ⟨rfl, hw⟩
  rw [hw]
  clear C hw w11
  have F := hide (unhide FIN _ (unhide S10).below)
  clear S10 FIN
  go_wp2_with fail
  go_ret
  exact ⟨rfl, unhide F⟩
set_option maxHeartbeats 2000000 in
set_option maxRecDepth 100000 in
theorem sh_on_10 (w : World) (ht : Tab w) (CA : Hid (Calls Tryz.prog 8 #[] w fun e w' => e = .returned (.bool true) ∧ G w w')) : Calls Tryz.prog 7 #[.bool false, .bool true, .bool false, .bool true] w fun e w' => e = .returned (.bool true) ∧ G w w' := by
  replace ht := hide ht
  go_enter Tryz.func7, Tryz.ntmps7
  go_wp2_with fail
  refine (unhide CA).mono ?_
  rintro e w0 ⟨rfl, g0⟩
  replace g0 := hide g0
  clear CA
  go_wp2_with fail
  refine (shapes15 _).mono ?_
  rintro e w1 ⟨rfl, hw1⟩
  have CN := hide (new15 8 (by decide) (by decide) w0 w1 hw1 (Tab.later (unhide ht) (unhide g0)))
  have g1 : Hid (G w w1) := hide ((unhide g0).trans (by rw [hw1]; exact G.alloc _ _))
  clear hw1 g0 ht
  go_wp2_with fail
  refine (unhide CN).mono ?_
  rintro e w2 ⟨x, rfl, ao, cap, nv, c, S0⟩
  have FIN : Hid (∀ y : World, Below w1.heap.size w1 y → G w y) := hide fun y b => Below.trans (unhide g1) (b.mono (unhide g1).size)
  have S1 := hide (S0.gr (G.alloc w2 (.cells #[] 62)))
  have C := hide (z_make1 true S1)
  clear S0 CN g1
  go_wp2_with fail
  refine (unhide C _).mono ?_
  rintro e w3 ⟨rfl, S3⟩
  clear C S1
  have C := hide (z_make2 true (hide S3))
  clear S3
  go_wp2_with fail
  refine (unhide C _).mono ?_
  rintro e w4 ⟨rfl, S4⟩
  clear C
  have C := hide (z_make3 true (hide S4))
  clear S4
  go_wp2_with fail
  refine (unhide C _).mono ?_
  rintro e w5 ⟨rfl, S5⟩
  clear C
  have C := hide (z_push1 true (hide S5))
  clear S5
  go_wp2_with fail
  refine (unhide C).mono ?_
  rintro e w6 ⟨rfl, S6⟩
  replace S6 := hide S6
  clear C
  have C := hide (z_cycle S6)
  go_wp2_with fail
  refine (unhide C).mono ?_
  rintro e w9 ⟨rfl, hw9⟩
  rw [hw9]
  clear C hw9 w9
  have C := hide (z_start true S6)
  go_wp2_with fail
  refine (unhide C _).mono ?_
  rintro e w7 ⟨rfl, S7⟩
  replace S7 := hide S7
  clear C S6
  have C := hide (z_pop (Or.inr rfl) S7 1 ((z_g1 true).2.1))
  clear S7
  go_wp2_with fail
  refine (unhide C).mono ?_
  rintro e w10 ⟨rfl, S10⟩
  replace S10 := hide S10
  clear C
  have C := hide (z_marker S10)
  go_wp2_with fail
  refine (unhide C).mono ?_
  rintro e w11 ⟨rfl, hw⟩
  rw [hw]
  clear C hw w11
  have C := hide (z_left S10)
  go_wp2_with fail
  refine (unhide C).mono ?_
  rintro e w11 ⟨rfl, hw⟩
  rw [hw]
  clear C hw w11
  have F := hide (unhide FIN _ (unhide S10).below)
  clear S10 FIN
  go_wp2_with fail
  go_ret
  exact ⟨rfl, unhide F⟩
set_option maxHeartbeats 2000000 in
set_option maxRecDepth 100000 in
theorem sh_on_11 (w : World) (ht : Tab w) (CA : Hid (Calls Tryz.prog 8 #[] w fun e w' => e = .returned (.bool true) ∧ G w w')) : Calls Tryz.prog 7 #[.bool false, .bool true, .bool true, .bool true] w fun e w' => e = .returned (.bool true) ∧ G w w' := by
  replace ht := hide ht
  go_enter Tryz.func7, Tryz.ntmps7
  go_wp2_with fail
  refine (unhide CA).mono ?_
  rintro e w0 ⟨rfl, g0⟩
  replace g0 := hide g0
  clear CA
  go_wp2_with fail
  refine (shapes15 _).mono ?_
  rintro e w1 ⟨rfl, hw1⟩
  have CN := hide (new15 8 (by decide) (by decide) w0 w1 hw1 (Tab.later (unhide ht) (unhide g0)))
  have g1 : Hid (G w w1) := hide ((unhide g0).trans (by rw [hw1]; exact G.alloc _ _))
  clear hw1 g0 ht
  go_wp2_with fail
  refine (unhide CN).mono ?_
  rintro e w2 ⟨x, rfl, ao, cap, nv, c, S0⟩
  have FIN : Hid (∀ y : World, Below w1.heap.size w1 y → G w y) := hide fun y b => Below.trans (unhide g1) (b.mono (unhide g1).size)
  have S1 := hide (S0.gr (G.alloc w2 (.cells #[] 62)))
  have C := hide (z_make1 false S1)
  clear S0 CN g1
  go_wp2_with fail
  refine (unhide C _).mono ?_
  rintro e w3 ⟨rfl, S3⟩
  clear C S1
  have C := hide (z_make2 false (hide S3))
  clear S3
  go_wp2_with fail
  refine (unhide C _).mono ?_
  rintro e w4 ⟨rfl, S4⟩
  clear C
  have C := hide (z_make3 false (hide S4))
  clear S4
  go_wp2_with fail
  refine (unhide C _).mono ?_
  rintro e w5 ⟨rfl, S5⟩
  clear C
  have C := hide (z_push1 false (hide S5))
  clear S5
  go_wp2_with fail
  refine (unhide C).mono ?_
  rintro e w6 ⟨rfl, S6⟩
  replace S6 := hide S6
  clear C
  have C := hide (z_cycle S6)
  go_wp2_with fail
  refine (unhide C).mono ?_
  rintro e w9 ⟨rfl, hw9⟩
  rw [hw9]
  clear C hw9 w9
  have C := hide (z_start false S6)
  go_wp2_with fail
  refine (unhide C _).mono ?_
  rintro e w7 ⟨rfl, S7⟩
  replace S7 := hide S7
  clear C S6
  have C := hide (z_pop (Or.inr rfl) S7 0 ((z_g1 false).2.1))
  clear S7
  go_wp2_with fail
  refine (unhide C).mono ?_
  rintro e w10 ⟨rfl, S10⟩
  replace S10 := hide S10
  clear C
  have C := hide (z_marker S10)
  go_wp2_with fail
  refine (unhide C).mono ?_
  rintro e w11 ⟨rfl, hw⟩
  rw [hw]
  clear C hw w11
  have C := hide (z_left S10)
  go_wp2_with fail
  refine (unhide C).mono ?_
  rintro e w11 ⟨rfl, hw⟩
  rw [hw]
  clear C hw w11
  have F := hide (unhide FIN _ (unhide S10).below)
  clear S10 FIN
  go_wp2_with fail
  go_ret
  exact ⟨rfl, unhide F⟩
set_option maxHeartbeats 2000000 in
set_option maxRecDepth 100000 in
theorem sh_blk_00 (w : World) (ht : Tab w) (CA : Hid (Calls Tryz.prog 8 #[] w fun e w' => e = .returned (.bool true) ∧ G w w')) : Calls Tryz.prog 7 #[.bool true, .bool false, .bool false, .bool true] w fun e w' => e = .returned (.bool true) ∧ G w w' := by
  replace ht := hide ht
  go_enter Tryz.func7, Tryz.ntmps7
  go_wp2_with fail
  refine (unhide CA).mono ?_
  rintro e w0 ⟨rfl, g0⟩
  replace g0 := hide g0
  clear CA
  go_wp2_with fail
  refine (shapes15 _).mono ?_
  rintro e w1 ⟨rfl, hw1⟩
  have CN := hide (new15 8 (by decide) (by decide) w0 w1 hw1 (Tab.later (unhide ht) (unhide g0)))
  have g1 : Hid (G w w1) := hide ((unhide g0).trans (by rw [hw1]; exact G.alloc _ _))
  clear hw1 g0 ht
  go_wp2_with fail
  refine (unhide CN).mono ?_
  rintro e w2 ⟨x, rfl, ao, cap, nv, c, S0⟩
  have FIN : Hid (∀ y : World, Below w1.heap.size w1 y → G w y) := hide fun y b => Below.trans (unhide g1) (b.mono (unhide g1).size)
  have S1 := hide (S0.gr (G.alloc w2 (.cells #[] 62)))
  have C := hide (z_make1 true S1)
  clear S0 CN g1
  go_wp2_with fail
  refine (unhide C _).mono ?_
  rintro e w3 ⟨rfl, S3⟩
  clear C S1
  have C := hide (z_make2 true (hide S3))
  clear S3
  go_wp2_with fail
  refine (unhide C _).mono ?_
  rintro e w4 ⟨rfl, S4⟩
  clear C
  have C := hide (z_make3 true (hide S4))
  clear S4
  go_wp2_with fail
  refine (unhide C _).mono ?_
  rintro e w5 ⟨rfl, S5⟩
  clear C
  have C := hide (z_push1 true (hide S5))
  clear S5
  go_wp2_with fail
  refine (unhide C).mono ?_
  rintro e w6 ⟨rfl, S6⟩
  replace S6 := hide S6
  clear C
  have C := hide (z_cycle S6)
  go_wp2_with fail
  refine (unhide C).mono ?_
  rintro e w9 ⟨rfl, hw9⟩
  rw [hw9]
  clear C hw9 w9
  have C := hide (z_start true S6)
  go_wp2_with fail
  refine (unhide C _).mono ?_
  rintro e w7 ⟨rfl, S7⟩
  replace S7 := hide S7
  clear C S6
  have C := hide (z_scan true S7)
  go_wp2_with fail
  refine (unhide C _).mono ?_
  rintro e w8 ⟨rfl, S8⟩
  replace S8 := hide S8
  clear C S7
  have C := hide (z_push2 (Or.inr rfl) S8 0 ((z_g2 true).2.2))
  clear S8
  go_wp2_with fail
  refine (unhide C).mono ?_
  rintro e w10 ⟨rfl, S10⟩
  replace S10 := hide S10
  clear C
  have C := hide (z_marker S10)
  go_wp2_with fail
  refine (unhide C).mono ?_
  rintro e w11 ⟨rfl, hw⟩
  rw [hw]
  clear C hw w11
  have C := hide (z_left S10)
  go_wp2_with fail
  refine (unhide C).mono ?_
  rintro e w11 ⟨rfl, hw⟩
  rw [hw]
  clear C hw w11
  have F := hide (unhide FIN _ (unhide S10).below)
  clear S10 FIN
  go_wp2_with fail
  go_ret
  exact ⟨rfl, unhide F⟩
set_option maxHeartbeats 2000000 in
set_option maxRecDepth 100000 in
theorem sh_blk_01 (w : World) (ht : Tab w) (CA : Hid (Calls Tryz.prog 8 #[] w fun e w' => e = .returned (.bool true) ∧ G w w')) : Calls Tryz.prog 7 #[.bool true, .bool false, .bool true, .bool true] w fun e w' => e = .returned (.bool true) ∧ G w w' := by
  replace ht := hide ht
  go_enter Tryz.func7, Tryz.ntmps7
  go_wp2_with fail
  refine (unhide CA).mono ?_
  rintro e w0 ⟨rfl, g0⟩
  replace g0 := hide g0
  clear CA
  go_wp2_with fail
  refine (shapes15 _).mono ?_
  rintro e w1 ⟨rfl, hw1⟩
  have CN := hide (new15 8 (by decide) (by decide) w0 w1 hw1 (Tab.later (unhide ht) (unhide g0)))
  have g1 : Hid (G w w1) := hide ((unhide g0).trans (by rw [hw1]; exact G.alloc _ _))
  clear hw1 g0 ht
  go_wp2_with fail
  refine (unhide CN).mono ?_
  rintro e w2 ⟨x, rfl, ao, cap, nv, c, S0⟩
  have FIN : Hid (∀ y : World, Below w1.heap.size w1 y → G w y) := hide fun y b => Below.trans (unhide g1) (b.mono (unhide g1).size)
  have S1 := hide (S0.gr (G.alloc w2 (.cells #[] 62)))
  have C := hide (z_make1 false S1)
  clear S0 CN g1
  go_wp2_with fail
  refine (unhide C _).mono ?_
  rintro e w3 ⟨rfl, S3⟩
  clear C S1
  have C := hide (z_make2 false (hide S3))
  clear S3
  go_wp2_with fail
  refine (unhide C _).mono ?_
  rintro e w4 ⟨rfl, S4⟩
  clear C
  have C := hide (z_make3 false (hide S4))
  clear S4
  go_wp2_with fail
  refine (unhide C _).mono ?_
  rintro e w5 ⟨rfl, S5⟩
  clear C
  have C := hide (z_push1 false (hide S5))
  clear S5
  go_wp2_with fail
  refine (unhide C).mono ?_
  rintro e w6 ⟨rfl, S6⟩
  replace S6 := hide S6
  clear C
  have C := hide (z_cycle S6)
  go_wp2_with fail
  refine (unhide C).mono ?_
  rintro e w9 ⟨rfl, hw9⟩
  rw [hw9]
  clear C hw9 w9
  have C := hide (z_start false S6)
  go_wp2_with fail
  refine (unhide C _).mono ?_
  rintro e w7 ⟨rfl, S7⟩
  replace S7 := hide S7
  clear C S6
  have C := hide (z_scan false S7)
  go_wp2_with fail
  refine (unhide C _).mono ?_
  rintro e w8 ⟨rfl, S8⟩
  replace S8 := hide S8
  clear C S7
  have C := hide (z_push2 (Or.inr rfl) S8 0 ((z_g2 false).2.2))
  clear S8
  go_wp2_with fail
  refine (unhide C).mono ?_
  rintro e w10 ⟨rfl, S10⟩
  replace S10 := hide S10
  clear C
  have C := hide (z_marker S10)
  go_wp2_with fail
  refine (unhide C).mono ?_
  rintro e w11 ⟨rfl, hw⟩
  rw [hw]
  clear C hw w11
  have C := hide (z_left S10)
  go_wp2_with fail
  refine (unhide C).mono ?_
  rintro e w11 ⟨rfl, hw⟩
  rw [hw]
  clear C hw w11
  have F := hide (unhide FIN _ (unhide S10).below)
  clear S10 FIN
  go_wp2_with fail
  go_ret
  exact ⟨rfl, unhide F⟩
set_option maxHeartbeats 2000000 in
set_option maxRecDepth 100000 in
theorem sh_blk_10 (w : World) (ht : Tab w) (CA : Hid (Calls Tryz.prog 8 #[] w fun e w' => e = .returned (.bool true) ∧ G w w')) : Calls Tryz.prog 7 #[.bool true, .bool true, .bool false, .bool true] w fun e w' => e = .returned (.bool true) ∧ G w w' := by
  replace ht := hide ht
  go_enter Tryz.func7, Tryz.ntmps7
  go_wp2_with fail
  refine (unhide CA).mono ?_
  rintro e w0 ⟨rfl, g0⟩
  replace g0 := hide g0
  clear CA
  go_wp2_with fail
  refine (shapes15 _).mono ?_
  rintro e w1 ⟨rfl, hw1⟩
  have CN := hide (new15 8 (by decide) (by decide) w0 w1 hw1 (Tab.later (unhide ht) (unhide g0)))
  have g1 : Hid (G w w1) := hide ((unhide g0).trans (by rw [hw1]; exact G.alloc _ _))
  clear hw1 g0 ht
  go_wp2_with fail
  refine (unhide CN).mono ?_
  rintro e w2 ⟨x, rfl, ao, cap, nv, c, S0⟩
  have FIN : Hid (∀ y : World, Below w1.heap.size w1 y → G w y) := hide fun y b => Below.trans (unhide g1) (b.mono (unhide g1).size)
  have S1 := hide (S0.gr (G.alloc w2 (.cells #[] 62)))
  have C := hide (z_make1 true S1)
  clear S0 CN g1
  go_wp2_with fail
  refine (unhide C _).mono ?_
  rintro e w3 ⟨rfl, S3⟩
  clear C S1
  have C := hide (z_make2 true (hide S3))
  clear S3
  go_wp2_with fail
  refine (unhide C _).mono ?_
  rintro e w4 ⟨rfl, S4⟩
  clear C
  have C := hide (z_make3 true (hide S4))
  clear S4
  go_wp2_with fail
  refine (unhide C _).mono ?_
  rintro e w5 ⟨rfl, S5⟩
  clear C
  have C := hide (z_push1 true (hide S5))
  clear S5
  go_wp2_with fail
  refine (unhide C).mono ?_
  rintro e w6 ⟨rfl, S6⟩
  replace S6 := hide S6
  clear C
  have C := hide (z_cycle S6)
  go_wp2_with fail
  refine (unhide C).mono ?_
  rintro e w9 ⟨rfl, hw9⟩
  rw [hw9]
  clear C hw9 w9
  have C := hide (z_start true S6)
  go_wp2_with fail
  refine (unhide C _).mono ?_
  rintro e w7 ⟨rfl, S7⟩
  replace S7 := hide S7
  clear C S6
  have C := hide (z_scan true S7)
  go_wp2_with fail
  refine (unhide C _).mono ?_
  rintro e w8 ⟨rfl, S8⟩
  replace S8 := hide S8
  clear C S7
  have C := hide (z_pop (Or.inr rfl) S8 1 ((z_g1 true).2.2))
  clear S8
  go_wp2_with fail
  refine (unhide C).mono ?_
  rintro e w10 ⟨rfl, S10⟩
  replace S10 := hide S10
  clear C
  have C := hide (z_marker S10)
  go_wp2_with fail
  refine (unhide C).mono ?_
  rintro e w11 ⟨rfl, hw⟩
  rw [hw]
  clear C hw w11
  have C := hide (z_left S10)
  go_wp2_with fail
  refine (unhide C).mono ?_
  rintro e w11 ⟨rfl, hw⟩
  rw [hw]
  clear C hw w11
  have F := hide (unhide FIN _ (unhide S10).below)
  clear S10 FIN
  go_wp2_with fail
  go_ret
  exact ⟨rfl, unhide F⟩
set_option maxHeartbeats 2000000 in
set_option maxRecDepth 100000 in
theorem sh_blk_11 (w : World) (ht : Tab w) (CA : Hid (Calls Tryz.prog 8 #[] w fun e w' => e = .returned (.bool true) ∧ G w w')) : Calls Tryz.prog 7 #[.bool true, .bool true, .bool true, .bool true] w fun e w' => e = .returned (.bool true) ∧ G w w' := by
  replace ht := hide ht
  go_enter Tryz.func7, Tryz.ntmps7
  go_wp2_with fail
  refine (unhide CA).mono ?_
  rintro e w0 ⟨rfl, g0⟩
  replace g0 := hide g0
  clear CA
  go_wp2_with fail
  refine (shapes15 _).mono ?_
  rintro e w1 ⟨rfl, hw1⟩
  have CN := hide (new15 8 (by decide) (by decide) w0 w1 hw1 (Tab.later (unhide ht) (unhide g0)))
  have g1 : Hid (G w w1) := hide ((unhide g0).trans (by rw [hw1]; exact G.alloc _ _))
  clear hw1 g0 ht
  go_wp2_with fail
  refine (unhide CN).mono ?_
  rintro e w2 ⟨x, rfl, ao, cap, nv, c, S0⟩
  have FIN : Hid (∀ y : World, Below w1.heap.size w1 y → G w y) := hide fun y b => Below.trans (unhide g1) (b.mono (unhide g1).size)
  have S1 := hide (S0.gr (G.alloc w2 (.cells #[] 62)))
  have C := hide (z_make1 false S1)
  clear S0 CN g1
  go_wp2_with fail
  refine (unhide C _).mono ?_
  rintro e w3 ⟨rfl, S3⟩
  clear C S1
  have C := hide (z_make2 false (hide S3))
  clear S3
  go_wp2_with fail
  refine (unhide C _).mono ?_
  rintro e w4 ⟨rfl, S4⟩
  clear C
  have C := hide (z_make3 false (hide S4))
  clear S4
  go_wp2_with fail
  refine (unhide C _).mono ?_
  rintro e w5 ⟨rfl, S5⟩
  clear C
  have C := hide (z_push1 false (hide S5))
  clear S5
  go_wp2_with fail
  refine (unhide C).mono ?_
  rintro e w6 ⟨rfl, S6⟩
  replace S6 := hide S6
  clear C
  have C := hide (z_cycle S6)
  go_wp2_with fail
  refine (unhide C).mono ?_
  rintro e w9 ⟨rfl, hw9⟩
  rw [hw9]
  clear C hw9 w9
  have C := hide (z_start false S6)
  go_wp2_with fail
  refine (unhide C _).mono ?_
  rintro e w7 ⟨rfl, S7⟩
  replace S7 := hide S7
  clear C S6
  have C := hide (z_scan false S7)
  go_wp2_with fail
  refine (unhide C _).mono ?_
  rintro e w8 ⟨rfl, S8⟩
  replace S8 := hide S8
  clear C S7
  have C := hide (z_pop (Or.inr rfl) S8 0 ((z_g1 false).2.2))
  clear S8
  go_wp2_with fail
  refine (unhide C).mono ?_
  rintro e w10 ⟨rfl, S10⟩
  replace S10 := hide S10
  clear C
  have C := hide (z_marker S10)
  go_wp2_with fail
  refine (unhide C).mono ?_
  rintro e w11 ⟨rfl, hw⟩
  rw [hw]
  clear C hw w11
  have C := hide (z_left S10)
  go_wp2_with fail
  refine (unhide C).mono ?_
  rintro e w11 ⟨rfl, hw⟩
  rw [hw]
  clear C hw w11
  have F := hide (unhide FIN _ (unhide S10).below)
  clear S10 FIN
  go_wp2_with fail
  go_ret
  exact ⟨rfl, unhide F⟩
theorem shades15 (w : World) (ht : Tab w) (b p q h : Bool) (CA : Hid (Calls Tryz.prog 8 #[] w fun e w' => e = .returned (.bool true) ∧ G w w')) : Calls Tryz.prog 7 #[.bool b, .bool p, .bool q, .bool h] w fun e w' => e = .returned (.bool true) ∧ G w w' := by
  cases h
  · cases p <;> cases q
    · exact sh_off_00 w ht b CA
    · exact sh_off_01 w ht b CA
    · exact sh_off_10 w ht b CA
    · exact sh_off_11 w ht b CA
  · cases b <;> cases p <;> cases q
    · exact sh_on_00 w ht CA
    · exact sh_on_01 w ht CA
    · exact sh_on_10 w ht CA
    · exact sh_on_11 w ht CA
    · exact sh_blk_00 w ht CA
    · exact sh_blk_01 w ht CA
    · exact sh_blk_10 w ht CA
    · exact sh_blk_11 w ht CA
end Go.Proofs.YtdnhmkbdphpjcaaGreatDoor

/- ChansShades of package gantlinelaw15: for every way (black or not, Pop or Push, numbers or addresses, while a collection goes on or not) the law answers true; nothing that was there is turned. -/
namespace Go.Proofs.YtdnhmkbdphpjcaaGreatDoor
set_option maxRecDepth 100000
open Go.ChangeShapes Go.WideShapes Go.ChangeAt Go.RowKit Go.Maps

theorem walk_ChansShades (b p q h : Bool) (w : World) (ht : Tab w) : Calls Tryz.prog 7 #[.bool b, .bool p, .bool q, .bool h] w fun e w' => e = .returned (.bool true) ∧ Below w.heap.size w w' :=
  shades15 w ht b p q h (hide (awake15 w ht))


set_option maxRecDepth 100000 in
theorem lifted_ChansShades (os : Os) (started : os.Started) (H : Type) (enc : TypeId × Value → H) :
    ReturnsInHanded {} Tryz.checked os 7 .any (fun w args => (Rows.chansShadesSpec.pre enc Tryz.prog Tryz.f7 [] false w args ∧ laidMetH Tryz.prog laidTab w) ∧ sizedMet enc Tryz.prog Tryz.f7 (OpenSpec.ofChange Rows.chansShadesSpec) false w args)
      (Rows.chansShadesSpec.post enc Tryz.prog Tryz.f7 false true false false) := by
  refine returnsInHanded_of_change_and (C := Tryz.checked) (X := fun w _ => laidMetH Tryz.prog laidTab w) (fun _ _ _ hh h => h.of_heap hh) own started (by kernel_rfl) Tryz.func7
    (ChangeSpec.witness_shaped (enc := enc) (C := Tryz.checked) (os := os) (X := fun w _ => laidMetH Tryz.prog laidTab w) false (World.doorLaid Tryz.prog 400 os) #[.bool false, .bool false, .bool false, .bool false] 8 rfl (World.shaped_of_RefB (by kernel_rfl) (by kernel_rfl)) (by kernel_rfl) (by kernel_rfl) (by kernel_rfl) (door_met os _)) ?_
  intro W base args ds gs before hval0 hW _ _ hL _
  have hval : ∀ (j : Nat) t v, Tryz.f7.params[j]? = some t → args[j]? = some v → Value.okWide Tryz.prog W .any base t v := hval0
  have hW' := hW
  obtain ⟨p, q, hA0, hV, rfl, hfz, hnd⟩ := hW
  have hA : DataW.TrodAll enc Tryz.prog W 0 (fun _ => true) true Tryz.f7.params.toList args.toList ds p := hA0
  rw [Tryz.params7] at hA hval
  obtain ⟨v0, vs0, d0, ds0, p0, q0, hargs, rfl, rfl, h0, r0⟩ := trodAll_cons hA
  obtain ⟨v1, vs1, d1, ds1, p1, q1, rfl, rfl, rfl, h1, r1⟩ := trodAll_cons r0
  obtain ⟨v2, vs2, d2, ds2, p2, q2, rfl, rfl, rfl, h2, r2⟩ := trodAll_cons r1
  obtain ⟨v3, vs3, d3, ds3, p3, q3, rfl, rfl, rfl, h3, r3⟩ := trodAll_cons r2
  obtain ⟨rfl, rfl, rfl⟩ := trodAll_nil r3
  obtain rfl : args = #[v0, v1, v2, v3] := by cases args; simp_all
  obtain ⟨rfl, rfl⟩ := trodVars_none hV
  have k0 := h0
  have lt0 : ∀ x ∈ p0, x.block < W.heap.size := by obtain ⟨m, hm⟩ := k0; exact DataW.trod_lt m _ _ _ hm
  obtain ⟨a0, rfl, rfl, rfl⟩ := open_bool Tryz.underlying4 (hval 0 4 v0 rfl rfl) h0
  have k1 := h1
  have lt1 : ∀ x ∈ p1, x.block < W.heap.size := by obtain ⟨m, hm⟩ := k1; exact DataW.trod_lt m _ _ _ hm
  obtain ⟨a1, rfl, rfl, rfl⟩ := open_bool Tryz.underlying4 (hval 1 4 v1 rfl rfl) h1
  have k2 := h2
  have lt2 : ∀ x ∈ p2, x.block < W.heap.size := by obtain ⟨m, hm⟩ := k2; exact DataW.trod_lt m _ _ _ hm
  obtain ⟨a2, rfl, rfl, rfl⟩ := open_bool Tryz.underlying4 (hval 2 4 v2 rfl rfl) h2
  have k3 := h3
  have lt3 : ∀ x ∈ p3, x.block < W.heap.size := by obtain ⟨m, hm⟩ := k3; exact DataW.trod_lt m _ _ _ hm
  obtain ⟨a3, rfl, rfl, rfl⟩ := open_bool Tryz.underlying4 (hval 3 4 v3 rfl rfl) h3
  clear hA0 hval0
  refine (walk_ChansShades a0 a1 a2 a3 W (tab_of_laid hL)).mono fun e W' ⟨he, hg⟩ => ?_
  subst he
  exact ⟨_, rfl, _, _, _, [], _, [], hW', trodAll_mk1 (shut_bool Tryz.underlying4 _), (trodAll_cons_mk (Below.trod laidOut (by kernel_rfl) (of_decide_eq_true (by kernel_rfl)) k0 hg lt0) (trodAll_cons_mk (Below.trod laidOut (by kernel_rfl) (of_decide_eq_true (by kernel_rfl)) k1 hg lt1) (trodAll_cons_mk (Below.trod laidOut (by kernel_rfl) (of_decide_eq_true (by kernel_rfl)) k2 hg lt2) (trodAll_cons_mk (Below.trod laidOut (by kernel_rfl) (of_decide_eq_true (by kernel_rfl)) k3 hg lt3) trodAll_mk0)))), rfl, hg.frame _, fun h => by cases h⟩

theorem row_ChansShades : Rows.ChansShadesSaid :=
  OpenClaim.holds_of_wide 7 Tryz.f7 rfl rfl rfl rfl rfl rfl rfl ⟨rfl, rfl, rfl, rfl, rfl⟩ rfl rfl rfl rfl rfl (by kernel_rfl) Tryz.func7 (by kernel_rfl)
    (of_decide_eq_true (by kernel_rfl)) (by unfold Func.isWrapper; first | (rw [if_pos (by decide +kernel)]; kernel_rfl) | (rw [if_neg (by decide +kernel)]; exact ⟨rfl, rfl⟩))
    (fun os started H enc _ => lifted_ChansShades os started H enc)

/-- THE STATEMENT. -/
theorem card_ChansShades : Rows.ChansShadesCardSaid :=
  Claim7.holds_tied_plain_at .later [] [.data] true (true, "368da1e00eac6e8e0aa7ff665da126c835f5eab69b056edefd9d7854840e21d8") false
    row_ChansShades (fun _ h => by cases h) (by kernel_rfl) (fun _ h => by cases h) chansShades_row_tie rfl ⟨rfl, rfl⟩ (by kernel_rfl) rfl
    (fun f fn hf hfn => by
      obtain rfl : f = 7 := Option.some.inj ((show Tryz.prog.funcNamed "gantline/gantlinelaw15.ChansShades" = some 7 by kernel_rfl).symm.trans hf) |>.symm
      obtain rfl : fn = Tryz.f7 := (Option.some.inj (Tryz.func7.symm.trans hfn)).symm
      exact ⟨by kernel_rfl, fun j t ht => by
        rw [Tryz.params7] at ht
        have hm : t ∈ [4, 4, 4, 4] := by simpa using Array.mem_of_getElem? ht
        have hall : ([4, 4, 4, 4].all fun u => !Tryz.prog.wantsStandIn u) = true := by kernel_rfl
        exact (show Tryz.prog.wantsStandIn t = false by simpa using List.all_eq_true.1 hall t hm)⟩)
    (by kernel_rfl)
#print axioms card_ChansShades
end Go.Proofs.YtdnhmkbdphpjcaaGreatDoor
