/- Here, one behind the other: HpAwake, HfWalk2, HfLaw. -/
import Derived.Test.YtahhkehijokhnaaGreatDoorMhA
import Derived.Test.YtahhkehijokhnaaGreatDoorMhB
import Derived.Deep.DeepCutAuto
import Derived.BigQuiet
import Derived.Test.YtahhkehijokhnaaGreatDoorArenaBase
/- awake() of package gantlinelaw14 answers true. -/
namespace Go.Proofs.YtahhkehijokhnaaGreatDoor
set_option maxRecDepth 100000
open Go.ChangeShapes Go.WideShapes Go.ChangeAt Go.RowKit Go.Maps Go.Deep

set_option maxHeartbeats 20000000 in
set_option maxRecDepth 100000 in
theorem awake14 (w : World) (ht : Tab w) : Calls Tryz.prog 5 #[] w fun e w' => e = .returned (.bool true) ∧ G w w' := by
  replace ht := hide ht
  go_enter Tryz.func5, Tryz.ntmps5
  go_wp2_with fail
  refine (shapes14 _).mono ?_
  rintro e w1 ⟨rfl, hw1⟩
  have CN := hide (new14 w w1 hw1 (unhide ht))
  have g1 : Hid (G w w1) := hide (by rw [hw1]; exact G.alloc _ _)
  clear hw1
  go_wp2_with fail
  refine (unhide CN).mono ?_
  rintro e w2 ⟨x, rfl, ao, cap, nv, c, S0⟩
  replace S0 := hide S0
  have C0 := hide (h_cycle S0)
  clear CN
  go_wp2_with fail
  refine (unhide C0).mono ?_
  rintro e w3 ⟨rfl, hw⟩
  subst hw
  clear C0
  have S1 := hide ((unhide S0).gr (G.alloc w3 (.cells #[.slice none 0 0] 33)))
  have C1 := hide (mk1 S1)
  clear S0
  go_wp2_with fail
  refine (unhide C1 _).mono ?_
  rintro e w4 ⟨rfl, S4⟩
  replace S4 := hide S4
  have C2 := hide (mk2 S4)
  clear C1 S1
  go_wp2_with fail
  refine (unhide C2 _).mono ?_
  rintro e w5 ⟨rfl, S5⟩
  replace S5 := hide S5
  have C3 := hide (get14 64 1 true 0 0 q_g1 S5)
  clear C2 S4
  go_wp2_with fail
  refine (unhide C3).mono ?_
  rintro e w6 ⟨rfl, S6⟩
  replace S6 := hide S6
  have C4 := hide (st1 S6)
  clear C3 S5
  go_wp2_with fail
  refine (unhide C4).mono ?_
  rintro e w7 ⟨rfl, S7⟩
  replace S7 := hide S7
  have C5 := hide (get14 64 0 false 9 0 q_g2 S7)
  clear C4 S6
  go_wp2_with fail
  refine (unhide C5).mono ?_
  rintro e w8 ⟨rfl, S8⟩
  replace S8 := hide S8
  have C6 := hide (pt1 S8)
  clear C5 S7
  go_wp2_with fail
  refine (unhide C6).mono ?_
  rintro e w9 ⟨rfl, S9⟩
  replace S9 := hide S9
  have C7 := hide (at14 68 2 false 5 0 q_a1 S9)
  clear C6 S8
  go_wp2_with fail
  refine (unhide C7).mono ?_
  rintro e w10 ⟨rfl, S10⟩
  replace S10 := hide S10
  have C8 := hide (len14 68 3 0 q_l1 S10)
  clear C7 S9
  go_wp2_with fail
  refine (unhide C8).mono ?_
  rintro e w11 ⟨rfl, S11⟩
  replace S11 := hide S11
  have C9 := hide (of1 S11)
  clear C8 S10
  go_wp2_with fail
  refine (unhide C9).mono ?_
  rintro e w12 ⟨rfl, S12⟩
  replace S12 := hide S12
  clear C9 S11
  obtain ⟨W2, hW2⟩ : ∃ W2, W2 = (w12.alloc (.cells #[.int .i64 3, .int .i64 0, .int .i64 0] 50)).alloc (.cells #[.int .i64 0, .int .i64 2, .int .u64 2] 37) := ⟨_, rfl⟩
  obtain ⟨g2, bx⟩ := two_box w12 3 0 0 0 2 2 W2 hW2
  have z2 : W2.heap.size = w12.heap.size + 2 := by rw [hW2, World.size_alloc, World.size_alloc]
  have C10 := hide (ad1 (hide (((unhide S12).gr g2).recol w12 (unhide S12))))
  have bx' := hide (bx W2 (G.refl _))
  replace g2 := hide g2
  replace z2 := hide z2
  clear bx
  go_wp2_with fail
  rw [← hW2]
  clear hW2
  refine (unhide C10).mono ?_
  rintro e w13 ⟨rfl, ⟨ao', cap', nv', c', S13⟩, kp⟩
  replace S13 := hide S13
  have k0 : w13.heap[w12.heap.size]? = W2.heap[w12.heap.size]? := kp _ (by have := unhide z2; omega) (by simp) (by simp) (by simp)
  have k1 : w13.heap[w12.heap.size + 1]? = W2.heap[w12.heap.size + 1]? := kp _ (by have := unhide z2; omega) (by simp) (by simp) (by simp)
  obtain ⟨⟨a0, a1, a2⟩, b0, b1, b2⟩ := unhide bx'
  have y0 := (World.cell?_of_block (a := ⟨w12.heap.size, 0, none⟩) k0).trans a0
  have y1 := (World.cell?_of_block (a := ⟨w12.heap.size, 1, none⟩) k0).trans a1
  have y2 := (World.cell?_of_block (a := ⟨w12.heap.size, 2, none⟩) k0).trans a2
  have y3 := (World.cell?_of_block (a := ⟨w12.heap.size + 1, 0, none⟩) k1).trans b0
  have y4 := (World.cell?_of_block (a := ⟨w12.heap.size + 1, 1, none⟩) k1).trans b1
  have y5 := (World.cell?_of_block (a := ⟨w12.heap.size + 1, 2, none⟩) k1).trans b2
  clear C10 kp k0 k1 a0 a1 a2 b0 b1 b2 bx' g2 z2
  go_wp2_with fail
  obtain ⟨d0, hd0⟩ : ∃ d0, d0 = w12.heap.size := ⟨_, rfl⟩
  rw [← hd0] at y0 y1 y2 y3 y4 y5 ⊢
  clear hd0
  have BX : Hid (∀ y : World, y.heap[d0]? = w13.heap[d0]? ∧ y.heap[d0 + 1]? = w13.heap[d0 + 1]? → (y.cell? ⟨d0, 0, none⟩ = some (.int .i64 3) ∧ y.cell? ⟨d0, 1, none⟩ = some (.int .i64 0) ∧ y.cell? ⟨d0, 2, none⟩ = some (.int .i64 0)) ∧ (y.cell? ⟨d0 + 1, 0, none⟩ = some (.int .i64 0) ∧ y.cell? ⟨d0 + 1, 1, none⟩ = some (.int .i64 2) ∧ y.cell? ⟨d0 + 1, 2, none⟩ = some (.int .u64 2))) := hide fun y hy =>
    ⟨⟨(World.cell?_of_block (a := ⟨d0, 0, none⟩) hy.1).trans y0, (World.cell?_of_block (a := ⟨d0, 1, none⟩) hy.1).trans y1, (World.cell?_of_block (a := ⟨d0, 2, none⟩) hy.1).trans y2⟩, (World.cell?_of_block (a := ⟨d0 + 1, 0, none⟩) hy.2).trans y3, (World.cell?_of_block (a := ⟨d0 + 1, 1, none⟩) hy.2).trans y4, (World.cell?_of_block (a := ⟨d0 + 1, 2, none⟩) hy.2).trans y5⟩
  have lt0 : Hid (d0 + 1 < w13.heap.size) := hide (World.block_lt_of_cell? w13 _ y3)
  clear y0 y1 y2 y3 y4 y5
  dsimp only [List.append]
  refine wp_region_noPanic ?_
  refine wp_region_held_drew (S := fun (y : World) => y.heap[d0]? = w13.heap[d0]? ∧ y.heap[d0 + 1]? = w13.heap[d0 + 1]?) (by kernel_rfl) ⟨rfl, rfl⟩ (fun hHeld => ?_)
  obtain ⟨y1, hy1⟩ : ∃ y, y = w13.drew := ⟨_, rfl⟩
  have gy : Hid (G w13 y1) := hide (by rw [hy1]; exact G.drewN w13 1)
  rw [← hy1] at hHeld ⊢
  clear hy1
  refine wpAnyH_take (i := 0) (v := .int .i64 0) rfl (by kernel_rfl) (by kernel_rfl) (by kernel_rfl) (fun _ _ _ h => h) (Or.inl ⟨by rfl, fun w hSw => by go_simp⟩) (by assumption) ?_
  try simp only [Act.put, List.getElem_toArray, List.getElem_cons_zero, List.setIfInBounds_toArray, List.set_cons_zero, List.set_cons_succ]
  refine wpAnyH_take (i := 1) (v := .bool true) rfl (by kernel_rfl) (by kernel_rfl) (by kernel_rfl) (fun _ _ _ h => h) (Or.inl ⟨by rfl, fun w hSw => by go_simp⟩) (by assumption) ?_
  try simp only [Act.put, List.getElem_toArray, List.getElem_cons_succ, List.getElem_cons_zero, List.setIfInBounds_toArray, List.set_cons_zero, List.set_cons_succ]
  refine wpAnyH_take (i := 2) (v := .bool true) rfl (by kernel_rfl) (by kernel_rfl) (by kernel_rfl) (fun _ _ _ h => h) (Or.inl ⟨by rfl, fun w hSw => by go_simp⟩) (by assumption) ?_
  try simp only [Act.put, List.getElem_toArray, List.getElem_cons_succ, List.getElem_cons_zero, List.setIfInBounds_toArray, List.set_cons_zero, List.set_cons_succ]
  refine wpAnyH_take (i := 3) (v := .int .i64 0) rfl (by kernel_rfl) (by kernel_rfl) (by kernel_rfl) (fun _ _ _ h => h) (Or.inl ⟨by rfl, fun w hSw => by go_simp⟩) (by assumption) ?_
  try simp only [Act.put, List.getElem_toArray, List.getElem_cons_succ, List.getElem_cons_zero, List.setIfInBounds_toArray, List.set_cons_zero, List.set_cons_succ]
  refine wpAnyH_take (i := 4) (v := .bool true) rfl (by kernel_rfl) (by kernel_rfl) (by kernel_rfl) (fun _ _ _ h => h) (Or.inl ⟨by rfl, fun w hSw => by go_simp⟩) (by assumption) ?_
  try simp only [Act.put, List.getElem_toArray, List.getElem_cons_succ, List.getElem_cons_zero, List.setIfInBounds_toArray, List.set_cons_zero, List.set_cons_succ]
  refine wpAnyH_take (i := 5) (v := .bool true) rfl (by kernel_rfl) (by kernel_rfl) (by kernel_rfl) (fun _ _ _ h => h) (Or.inl ⟨by rfl, fun w hSw => by go_simp⟩) (by assumption) ?_
  try simp only [Act.put, List.getElem_toArray, List.getElem_cons_succ, List.getElem_cons_zero, List.setIfInBounds_toArray, List.set_cons_zero, List.set_cons_succ]
  refine wpAnyH_take (i := 6) (v := .bool true) rfl (by kernel_rfl) (by kernel_rfl) (by kernel_rfl) (fun _ _ _ h => h) (Or.inl ⟨by rfl, fun w hSw => by go_simp⟩) (by assumption) ?_
  try simp only [Act.put, List.getElem_toArray, List.getElem_cons_succ, List.getElem_cons_zero, List.setIfInBounds_toArray, List.set_cons_zero, List.set_cons_succ]
  refine wpAnyH_take (i := 7) (v := .int .i64 64) rfl (by kernel_rfl) (by kernel_rfl) (by kernel_rfl) (fun _ _ _ h => h) (Or.inl ⟨by rfl, fun w hSw => by go_simp⟩) (by assumption) ?_
  try simp only [Act.put, List.getElem_toArray, List.getElem_cons_succ, List.getElem_cons_zero, List.setIfInBounds_toArray, List.set_cons_zero, List.set_cons_succ]
  refine wpAnyH_take (i := 8) (v := .bool true) rfl (by kernel_rfl) (by kernel_rfl) (by kernel_rfl) (fun _ _ _ h => h) (Or.inl ⟨by rfl, fun w hSw => by go_simp⟩) (by assumption) ?_
  try simp only [Act.put, List.getElem_toArray, List.getElem_cons_succ, List.getElem_cons_zero, List.setIfInBounds_toArray, List.set_cons_zero, List.set_cons_succ]
  refine wpAnyH_take (i := 9) (v := .bool true) rfl (by kernel_rfl) (by kernel_rfl) (by kernel_rfl) (fun _ _ _ h => h) (Or.inl ⟨by rfl, fun w hSw => by go_simp⟩) (by assumption) ?_
  try simp only [Act.put, List.getElem_toArray, List.getElem_cons_succ, List.getElem_cons_zero, List.setIfInBounds_toArray, List.set_cons_zero, List.set_cons_succ]
  refine wpAnyH_take (i := 10) (v := .bool true) rfl (by kernel_rfl) (by kernel_rfl) (by kernel_rfl) (fun _ _ _ h => h) (Or.inl ⟨by rfl, fun w hSw => by go_simp⟩) (by assumption) ?_
  try simp only [Act.put, List.getElem_toArray, List.getElem_cons_succ, List.getElem_cons_zero, List.setIfInBounds_toArray, List.set_cons_zero, List.set_cons_succ]
  refine wpAnyH_take (i := 11) (v := .int .i64 68) rfl (by kernel_rfl) (by kernel_rfl) (by kernel_rfl) (fun _ _ _ h => h) (Or.inl ⟨by rfl, fun w hSw => by go_simp⟩) (by assumption) ?_
  try simp only [Act.put, List.getElem_toArray, List.getElem_cons_succ, List.getElem_cons_zero, List.setIfInBounds_toArray, List.set_cons_zero, List.set_cons_succ]
  refine wpAnyH_take (i := 12) (v := .bool true) rfl (by kernel_rfl) (by kernel_rfl) (by kernel_rfl) (fun _ _ _ h => h) (Or.inl ⟨by rfl, fun w hSw => by go_simp⟩) (by assumption) ?_
  try simp only [Act.put, List.getElem_toArray, List.getElem_cons_succ, List.getElem_cons_zero, List.setIfInBounds_toArray, List.set_cons_zero, List.set_cons_succ]
  refine wpAnyH_take (i := 13) (v := .bool true) rfl (by kernel_rfl) (by kernel_rfl) (by kernel_rfl) (fun _ _ _ h => h) (Or.inl ⟨by rfl, fun w hSw => by go_simp⟩) (by assumption) ?_
  try simp only [Act.put, List.getElem_toArray, List.getElem_cons_succ, List.getElem_cons_zero, List.setIfInBounds_toArray, List.set_cons_zero, List.set_cons_succ]
  refine wpAnyH_take (i := 14) (v := .bool true) rfl (by kernel_rfl) (by kernel_rfl) (by kernel_rfl) (fun _ _ _ h => h) (Or.inl ⟨by rfl, fun w hSw => by go_simp⟩) (by assumption) ?_
  try simp only [Act.put, List.getElem_toArray, List.getElem_cons_succ, List.getElem_cons_zero, List.setIfInBounds_toArray, List.set_cons_zero, List.set_cons_succ]
  refine wpAnyH_take (i := 15) (v := .int .i64 0) rfl (by kernel_rfl) (by kernel_rfl) (by kernel_rfl) (fun _ _ _ h => h) (Or.inl ⟨by rfl, fun w hSw => by go_simp⟩) (by assumption) ?_
  try simp only [Act.put, List.getElem_toArray, List.getElem_cons_succ, List.getElem_cons_zero, List.setIfInBounds_toArray, List.set_cons_zero, List.set_cons_succ]
  refine wpAnyH_take (i := 16) (v := .bool true) rfl (by kernel_rfl) (by kernel_rfl) (by kernel_rfl) (fun _ _ _ h => h) (Or.inl ⟨by rfl, fun w hSw => by go_simp⟩) (by assumption) ?_
  try simp only [Act.put, List.getElem_toArray, List.getElem_cons_succ, List.getElem_cons_zero, List.setIfInBounds_toArray, List.set_cons_zero, List.set_cons_succ]
  refine wpAnyH_take (i := 17) (v := .bool true) rfl (by kernel_rfl) (by kernel_rfl) (by kernel_rfl) (fun _ _ _ h => h) (Or.inl ⟨by rfl, fun w hSw => by go_simp⟩) (by assumption) ?_
  try simp only [Act.put, List.getElem_toArray, List.getElem_cons_succ, List.getElem_cons_zero, List.setIfInBounds_toArray, List.set_cons_zero, List.set_cons_succ]
  refine wpAnyH_take (i := 18) (v := .bool true) rfl (by kernel_rfl) (by kernel_rfl) (by kernel_rfl) (fun _ _ _ h => h) (Or.inl ⟨by rfl, fun w hSw => by go_simp⟩) (by assumption) ?_
  try simp only [Act.put, List.getElem_toArray, List.getElem_cons_succ, List.getElem_cons_zero, List.setIfInBounds_toArray, List.set_cons_zero, List.set_cons_succ]
  refine wpAnyH_take (i := 19) (v := .int .i64 0) rfl (by kernel_rfl) (by kernel_rfl) (by kernel_rfl) (fun _ _ _ h => h) (Or.inl ⟨by rfl, fun w hSw => by go_simp⟩) (by assumption) ?_
  try simp only [Act.put, List.getElem_toArray, List.getElem_cons_succ, List.getElem_cons_zero, List.setIfInBounds_toArray, List.set_cons_zero, List.set_cons_succ]
  refine wpAnyH_take (i := 20) (v := .bool true) rfl (by kernel_rfl) (by kernel_rfl) (by kernel_rfl) (fun _ _ _ h => h) (Or.inl ⟨by rfl, fun w hSw => by go_simp⟩) (by assumption) ?_
  try simp only [Act.put, List.getElem_toArray, List.getElem_cons_succ, List.getElem_cons_zero, List.setIfInBounds_toArray, List.set_cons_zero, List.set_cons_succ]
  refine wpAnyH_take (i := 21) (v := .bool true) rfl (by kernel_rfl) (by kernel_rfl) (by kernel_rfl) (fun _ _ _ h => h) (Or.inl ⟨by rfl, fun w hSw => by go_simp⟩) (by assumption) ?_
  try simp only [Act.put, List.getElem_toArray, List.getElem_cons_succ, List.getElem_cons_zero, List.setIfInBounds_toArray, List.set_cons_zero, List.set_cons_succ]
  refine wpAnyH_take (i := 22) (v := .bool true) rfl (by kernel_rfl) (by kernel_rfl) (by kernel_rfl) (fun _ _ _ h => h) (Or.inl ⟨by rfl, fun w hSw => by go_simp⟩) (by assumption) ?_
  try simp only [Act.put, List.getElem_toArray, List.getElem_cons_succ, List.getElem_cons_zero, List.setIfInBounds_toArray, List.set_cons_zero, List.set_cons_succ]
  refine wpAnyH_take (i := 23) (v := .int .i64 0) rfl (by kernel_rfl) (by kernel_rfl) (by kernel_rfl) (fun _ _ _ h => h) (Or.inl ⟨by rfl, fun w hSw => by go_simp⟩) (by assumption) ?_
  try simp only [Act.put, List.getElem_toArray, List.getElem_cons_succ, List.getElem_cons_zero, List.setIfInBounds_toArray, List.set_cons_zero, List.set_cons_succ]
  refine wpAnyH_take (i := 24) (v := .bool true) rfl (by kernel_rfl) (by kernel_rfl) (by kernel_rfl) (fun _ _ _ h => h) (Or.inl ⟨by rfl, fun w hSw => by go_simp⟩) (by assumption) ?_
  try simp only [Act.put, List.getElem_toArray, List.getElem_cons_succ, List.getElem_cons_zero, List.setIfInBounds_toArray, List.set_cons_zero, List.set_cons_succ]
  refine wpAnyH_take (i := 25) (v := .bool true) rfl (by kernel_rfl) (by kernel_rfl) (by kernel_rfl) (fun _ _ _ h => h) (Or.inl ⟨by rfl, fun w hSw => by go_simp⟩) (by assumption) ?_
  try simp only [Act.put, List.getElem_toArray, List.getElem_cons_succ, List.getElem_cons_zero, List.setIfInBounds_toArray, List.set_cons_zero, List.set_cons_succ]
  refine wpAnyH_take (i := 26) (v := .bool true) rfl (by kernel_rfl) (by kernel_rfl) (by kernel_rfl) (fun _ _ _ h => h) (Or.inl ⟨by rfl, fun w hSw => by go_simp⟩) (by assumption) ?_
  try simp only [Act.put, List.getElem_toArray, List.getElem_cons_succ, List.getElem_cons_zero, List.setIfInBounds_toArray, List.set_cons_zero, List.set_cons_succ]
  refine wpAnyH_take (i := 27) (v := .int .i64 9) rfl (by kernel_rfl) (by kernel_rfl) (by kernel_rfl) (fun _ _ _ h => h) (Or.inl ⟨by rfl, fun w hSw => by go_simp⟩) (by assumption) ?_
  try simp only [Act.put, List.getElem_toArray, List.getElem_cons_succ, List.getElem_cons_zero, List.setIfInBounds_toArray, List.set_cons_zero, List.set_cons_succ]
  refine wpAnyH_take (i := 28) (v := .bool true) rfl (by kernel_rfl) (by kernel_rfl) (by kernel_rfl) (fun _ _ _ h => h) (Or.inl ⟨by rfl, fun w hSw => by go_simp⟩) (by assumption) ?_
  try simp only [Act.put, List.getElem_toArray, List.getElem_cons_succ, List.getElem_cons_zero, List.setIfInBounds_toArray, List.set_cons_zero, List.set_cons_succ]
  refine wpAnyH_take (i := 29) (v := .bool true) rfl (by kernel_rfl) (by kernel_rfl) (by kernel_rfl) (fun _ _ _ h => h) (Or.inl ⟨by rfl, fun w hSw => by go_simp⟩) (by assumption) ?_
  try simp only [Act.put, List.getElem_toArray, List.getElem_cons_succ, List.getElem_cons_zero, List.setIfInBounds_toArray, List.set_cons_zero, List.set_cons_succ]
  refine wpAnyH_take (i := 30) (v := .bool true) rfl (by kernel_rfl) (by kernel_rfl) (by kernel_rfl) (fun _ _ _ h => h) (Or.inl ⟨by rfl, fun w hSw => by go_simp⟩) (by assumption) ?_
  try simp only [Act.put, List.getElem_toArray, List.getElem_cons_succ, List.getElem_cons_zero, List.setIfInBounds_toArray, List.set_cons_zero, List.set_cons_succ]
  refine wpAnyH_take (i := 31) (v := .int .i64 0) rfl (by kernel_rfl) (by kernel_rfl) (by kernel_rfl) (fun _ _ _ h => h) (Or.inl ⟨by rfl, fun w hSw => by go_simp⟩) (by assumption) ?_
  try simp only [Act.put, List.getElem_toArray, List.getElem_cons_succ, List.getElem_cons_zero, List.setIfInBounds_toArray, List.set_cons_zero, List.set_cons_succ]
  refine wpAnyH_take (i := 32) (v := .bool true) rfl (by kernel_rfl) (by kernel_rfl) (by kernel_rfl) (fun _ _ _ h => h) (Or.inl ⟨by rfl, fun w hSw => by go_simp⟩) (by assumption) ?_
  try simp only [Act.put, List.getElem_toArray, List.getElem_cons_succ, List.getElem_cons_zero, List.setIfInBounds_toArray, List.set_cons_zero, List.set_cons_succ]
  refine wpAnyH_take (i := 33) (v := .bool true) rfl (by kernel_rfl) (by kernel_rfl) (by kernel_rfl) (fun _ _ _ h => h) (Or.inl ⟨by rfl, fun w hSw => by go_simp⟩) (by assumption) ?_
  try simp only [Act.put, List.getElem_toArray, List.getElem_cons_succ, List.getElem_cons_zero, List.setIfInBounds_toArray, List.set_cons_zero, List.set_cons_succ]
  refine wpAnyH_take (i := 34) (v := .bool true) rfl (by kernel_rfl) (by kernel_rfl) (by kernel_rfl) (fun _ _ _ h => h) (Or.inl ⟨by rfl, fun w hSw => by go_simp⟩) (by assumption) ?_
  try simp only [Act.put, List.getElem_toArray, List.getElem_cons_succ, List.getElem_cons_zero, List.setIfInBounds_toArray, List.set_cons_zero, List.set_cons_succ]
  refine wpAnyH_take (i := 35) (v := .int .i64 0) rfl (by kernel_rfl) (by kernel_rfl) (by kernel_rfl) (fun _ _ _ h => h) (Or.inl ⟨by rfl, fun w hSw => by go_simp⟩) (by assumption) ?_
  try simp only [Act.put, List.getElem_toArray, List.getElem_cons_succ, List.getElem_cons_zero, List.setIfInBounds_toArray, List.set_cons_zero, List.set_cons_succ]
  refine wpAnyH_take (i := 36) (v := .bool true) rfl (by kernel_rfl) (by kernel_rfl) (by kernel_rfl) (fun _ _ _ h => h) (Or.inl ⟨by rfl, fun w hSw => by go_simp⟩) (by assumption) ?_
  try simp only [Act.put, List.getElem_toArray, List.getElem_cons_succ, List.getElem_cons_zero, List.setIfInBounds_toArray, List.set_cons_zero, List.set_cons_succ]
  refine wpAnyH_take (i := 37) (v := .bool true) rfl (by kernel_rfl) (by kernel_rfl) (by kernel_rfl) (fun _ _ _ h => h) (Or.inl ⟨by rfl, fun w hSw => by go_simp⟩) (by assumption) ?_
  try simp only [Act.put, List.getElem_toArray, List.getElem_cons_succ, List.getElem_cons_zero, List.setIfInBounds_toArray, List.set_cons_zero, List.set_cons_succ]
  refine wpAnyH_take (i := 38) (v := .bool true) rfl (by kernel_rfl) (by kernel_rfl) (by kernel_rfl) (fun _ _ _ h => h) (Or.inl ⟨by rfl, fun w hSw => by go_simp⟩) (by assumption) ?_
  try simp only [Act.put, List.getElem_toArray, List.getElem_cons_succ, List.getElem_cons_zero, List.setIfInBounds_toArray, List.set_cons_zero, List.set_cons_succ]
  refine wpAnyH_take (i := 39) (v := .int .i64 5) rfl (by kernel_rfl) (by kernel_rfl) (by kernel_rfl) (fun _ _ _ h => h) (Or.inl ⟨by rfl, fun w hSw => by go_simp⟩) (by assumption) ?_
  try simp only [Act.put, List.getElem_toArray, List.getElem_cons_succ, List.getElem_cons_zero, List.setIfInBounds_toArray, List.set_cons_zero, List.set_cons_succ]
  refine wpAnyH_take (i := 40) (v := .bool true) rfl (by kernel_rfl) (by kernel_rfl) (by kernel_rfl) (fun _ _ _ h => h) (Or.inl ⟨by rfl, fun w hSw => by go_simp⟩) (by assumption) ?_
  try simp only [Act.put, List.getElem_toArray, List.getElem_cons_succ, List.getElem_cons_zero, List.setIfInBounds_toArray, List.set_cons_zero, List.set_cons_succ]
  refine wpAnyH_take (i := 41) (v := .bool true) rfl (by kernel_rfl) (by kernel_rfl) (by kernel_rfl) (fun _ _ _ h => h) (Or.inl ⟨by rfl, fun w hSw => by go_simp⟩) (by assumption) ?_
  try simp only [Act.put, List.getElem_toArray, List.getElem_cons_succ, List.getElem_cons_zero, List.setIfInBounds_toArray, List.set_cons_zero, List.set_cons_succ]
  refine wpAnyH_take (i := 42) (v := .bool true) rfl (by kernel_rfl) (by kernel_rfl) (by kernel_rfl) (fun _ _ _ h => h) (Or.inl ⟨by rfl, fun w hSw => by go_simp⟩) (by assumption) ?_
  try simp only [Act.put, List.getElem_toArray, List.getElem_cons_succ, List.getElem_cons_zero, List.setIfInBounds_toArray, List.set_cons_zero, List.set_cons_succ]
  refine wpAnyH_take (i := 43) (v := .int .i64 0) rfl (by kernel_rfl) (by kernel_rfl) (by kernel_rfl) (fun _ _ _ h => h) (Or.inl ⟨by rfl, fun w hSw => by go_simp⟩) (by assumption) ?_
  try simp only [Act.put, List.getElem_toArray, List.getElem_cons_succ, List.getElem_cons_zero, List.setIfInBounds_toArray, List.set_cons_zero, List.set_cons_succ]
  refine wpAnyH_take (i := 44) (v := .bool true) rfl (by kernel_rfl) (by kernel_rfl) (by kernel_rfl) (fun _ _ _ h => h) (Or.inl ⟨by rfl, fun w hSw => by go_simp⟩) (by assumption) ?_
  try simp only [Act.put, List.getElem_toArray, List.getElem_cons_succ, List.getElem_cons_zero, List.setIfInBounds_toArray, List.set_cons_zero, List.set_cons_succ]
  refine wpAnyH_take (i := 45) (v := .bool true) rfl (by kernel_rfl) (by kernel_rfl) (by kernel_rfl) (fun _ _ _ h => h) (Or.inl ⟨by rfl, fun w hSw => by go_simp⟩) (by assumption) ?_
  try simp only [Act.put, List.getElem_toArray, List.getElem_cons_succ, List.getElem_cons_zero, List.setIfInBounds_toArray, List.set_cons_zero, List.set_cons_succ]
  refine wpAnyH_take (i := 46) (v := .bool true) rfl (by kernel_rfl) (by kernel_rfl) (by kernel_rfl) (fun _ _ _ h => h) (Or.inl ⟨by rfl, fun w hSw => by go_simp⟩) (by assumption) ?_
  try simp only [Act.put, List.getElem_toArray, List.getElem_cons_succ, List.getElem_cons_zero, List.setIfInBounds_toArray, List.set_cons_zero, List.set_cons_succ]
  refine wpAnyH_take (i := 47) (v := .int .i64 3) rfl (by kernel_rfl) (by kernel_rfl) (by kernel_rfl) (fun _ _ _ h => h) (Or.inl ⟨by rfl, fun w hSw => by go_simp⟩) (by assumption) ?_
  try simp only [Act.put, List.getElem_toArray, List.getElem_cons_succ, List.getElem_cons_zero, List.setIfInBounds_toArray, List.set_cons_zero, List.set_cons_succ]
  refine wpAnyH_take (i := 48) (v := .bool true) rfl (by kernel_rfl) (by kernel_rfl) (by kernel_rfl) (fun _ _ _ h => h) (Or.inl ⟨by rfl, fun w hSw => by go_simp⟩) (by assumption) ?_
  try simp only [Act.put, List.getElem_toArray, List.getElem_cons_succ, List.getElem_cons_zero, List.setIfInBounds_toArray, List.set_cons_zero, List.set_cons_succ]
  refine wpAnyH_take (i := 49) (v := .bool true) rfl (by kernel_rfl) (by kernel_rfl) (by kernel_rfl) (fun _ _ _ h => h) (Or.inl ⟨by rfl, fun w hSw => by go_simp⟩) (by assumption) ?_
  try simp only [Act.put, List.getElem_toArray, List.getElem_cons_succ, List.getElem_cons_zero, List.setIfInBounds_toArray, List.set_cons_zero, List.set_cons_succ]
  refine wpAnyH_take (i := 50) (v := .bool true) rfl (by kernel_rfl) (by kernel_rfl) (by kernel_rfl) (fun _ _ _ h => h) (Or.inl ⟨by rfl, fun w hSw => by go_simp⟩) (by assumption) ?_
  try simp only [Act.put, List.getElem_toArray, List.getElem_cons_succ, List.getElem_cons_zero, List.setIfInBounds_toArray, List.set_cons_zero, List.set_cons_succ]
  refine wpAnyH_take (i := 51) (v := .int .i64 0) rfl (by kernel_rfl) (by kernel_rfl) (by kernel_rfl) (fun _ _ _ h => h) (Or.inl ⟨by rfl, fun w hSw => by go_simp⟩) (by assumption) ?_
  try simp only [Act.put, List.getElem_toArray, List.getElem_cons_succ, List.getElem_cons_zero, List.setIfInBounds_toArray, List.set_cons_zero, List.set_cons_succ]
  refine wpAnyH_take (i := 52) (v := .bool true) rfl (by kernel_rfl) (by kernel_rfl) (by kernel_rfl) (fun _ _ _ h => h) (Or.inl ⟨by rfl, fun w hSw => by go_simp⟩) (by assumption) ?_
  try simp only [Act.put, List.getElem_toArray, List.getElem_cons_succ, List.getElem_cons_zero, List.setIfInBounds_toArray, List.set_cons_zero, List.set_cons_succ]
  refine wpAnyH_take (i := 53) (v := .bool true) rfl (by kernel_rfl) (by kernel_rfl) (by kernel_rfl) (fun _ _ _ h => h) (Or.inl ⟨by rfl, fun w hSw => by go_simp⟩) (by assumption) ?_
  try simp only [Act.put, List.getElem_toArray, List.getElem_cons_succ, List.getElem_cons_zero, List.setIfInBounds_toArray, List.set_cons_zero, List.set_cons_succ]
  refine wpAnyH_take (i := 54) (v := .bool true) rfl (by kernel_rfl) (by kernel_rfl) (by kernel_rfl) (fun _ _ _ h => h) (Or.inl ⟨by rfl, fun w hSw => by go_simp⟩) (by assumption) ?_
  try simp only [Act.put, List.getElem_toArray, List.getElem_cons_succ, List.getElem_cons_zero, List.setIfInBounds_toArray, List.set_cons_zero, List.set_cons_succ]
  refine wpAnyH_take (i := 55) (v := .bool true) rfl (by kernel_rfl) (by kernel_rfl) (by kernel_rfl) (fun _ _ _ h => h) (Or.inl ⟨by rfl, fun w hSw => by go_simp⟩) (by assumption) ?_
  try simp only [Act.put, List.getElem_toArray, List.getElem_cons_succ, List.getElem_cons_zero, List.setIfInBounds_toArray, List.set_cons_zero, List.set_cons_succ]
  refine wpAnyH_take (i := 56) (v := .bool true) rfl (by kernel_rfl) (by kernel_rfl) (by kernel_rfl) (fun _ _ _ h => h) (Or.inl ⟨by rfl, fun w hSw => by go_simp⟩) (by assumption) ?_
  try simp only [Act.put, List.getElem_toArray, List.getElem_cons_succ, List.getElem_cons_zero, List.setIfInBounds_toArray, List.set_cons_zero, List.set_cons_succ]
  refine wpAnyH_take (i := 57) (v := .bool true) rfl (by kernel_rfl) (by kernel_rfl) (by kernel_rfl) (fun _ _ _ h => h) (Or.inl ⟨by rfl, fun w hSw => by go_simp⟩) (by assumption) ?_
  try simp only [Act.put, List.getElem_toArray, List.getElem_cons_succ, List.getElem_cons_zero, List.setIfInBounds_toArray, List.set_cons_zero, List.set_cons_succ]
  refine wpAnyH_take (i := 58) (v := .agg #[.int .i64 3, .int .i64 0, .int .i64 0]) rfl (by kernel_rfl) (by kernel_rfl) (by kernel_rfl) (fun _ _ _ h => h) (Or.inl ⟨by rfl, fun w hSw => by obtain ⟨⟨t0, t1, t2⟩, t3, t4, t5⟩ := unhide BX w hSw; go_simp⟩) (by assumption) ?_
  try simp only [Act.put, List.getElem_toArray, List.getElem_cons_succ, List.getElem_cons_zero, List.setIfInBounds_toArray, List.set_cons_zero, List.set_cons_succ]
  refine wpAnyH_take (i := 59) (v := .agg #[.int .i64 3, .int .i64 0, .int .i64 0]) rfl (by kernel_rfl) (by kernel_rfl) (by kernel_rfl) (fun _ _ _ h => h) (Or.inl ⟨by rfl, fun w hSw => by go_simp⟩) (by assumption) ?_
  try simp only [Act.put, List.getElem_toArray, List.getElem_cons_succ, List.getElem_cons_zero, List.setIfInBounds_toArray, List.set_cons_zero, List.set_cons_succ]
  refine wpAnyH_take (i := 60) (v := .bool true) rfl (by kernel_rfl) (by kernel_rfl) (by kernel_rfl) (fun _ _ _ h => h) (Or.inl ⟨by rfl, fun w hSw => by go_simp⟩) (by assumption) ?_
  try simp only [Act.put, List.getElem_toArray, List.getElem_cons_succ, List.getElem_cons_zero, List.setIfInBounds_toArray, List.set_cons_zero, List.set_cons_succ]
  refine wpAnyH_take (i := 61) (v := .bool true) rfl (by kernel_rfl) (by kernel_rfl) (by kernel_rfl) (fun _ _ _ h => h) (Or.inl ⟨by rfl, fun w hSw => by go_simp⟩) (by assumption) ?_
  try simp only [Act.put, List.getElem_toArray, List.getElem_cons_succ, List.getElem_cons_zero, List.setIfInBounds_toArray, List.set_cons_zero, List.set_cons_succ]
  refine wpAnyH_take (i := 62) (v := .bool true) rfl (by kernel_rfl) (by kernel_rfl) (by kernel_rfl) (fun _ _ _ h => h) (Or.inl ⟨by rfl, fun w hSw => by go_simp⟩) (by assumption) ?_
  try simp only [Act.put, List.getElem_toArray, List.getElem_cons_succ, List.getElem_cons_zero, List.setIfInBounds_toArray, List.set_cons_zero, List.set_cons_succ]
  refine wpAnyH_take (i := 63) (v := .agg #[.int .i64 0, .int .i64 2, .int .u64 2]) rfl (by kernel_rfl) (by kernel_rfl) (by kernel_rfl) (fun _ _ _ h => h) (Or.inl ⟨by rfl, fun w hSw => by obtain ⟨⟨t0, t1, t2⟩, t3, t4, t5⟩ := unhide BX w hSw; go_simp⟩) (by assumption) ?_
  try simp only [Act.put, List.getElem_toArray, List.getElem_cons_succ, List.getElem_cons_zero, List.setIfInBounds_toArray, List.set_cons_zero, List.set_cons_succ]
  have CS := hide (shapes14 y1)
  refine wpAnyH_ready (rs := [64]) (by kernel_rfl) (by simp) ?_
  refine AllReadyH.cons rfl (fun K hK => ?_) AllReadyH.nil
  go_simp
  refine (unhide CS).mono ?_
  rintro e w14 ⟨rfl, hw14⟩
  have g14 : G y1 w14 := by rw [hw14]; exact G.alloc _ _
  have S14 := hide ((unhide S13).gr ((unhide gy).trans g14))
  have z0 := shp3_at y1 0 ⟨0, 2, 2⟩ rfl
  rw [← hw14] at z0
  have z1 : y1.heap.size < w14.heap.size := by rw [hw14, World.size_alloc]; omega
  have z3 : w14.cell? ⟨y1.heap.size, 0, none⟩ = some (.int .i64 0) := z0.1
  have z4 : w14.cell? ⟨y1.heap.size, 1, none⟩ = some (.int .i64 2) := z0.2.1
  have z5 : w14.cell? ⟨y1.heap.size, 2, none⟩ = some (.int .u64 2) := z0.2.2
  clear z0
  have hS14 : w14.heap[d0]? = w13.heap[d0]? ∧ w14.heap[d0 + 1]? = w13.heap[d0 + 1]? := ⟨(((unhide gy).trans g14).block d0 (by have := unhide lt0; omega)), (((unhide gy).trans g14).block (d0 + 1) (unhide lt0))⟩
  replace z3 := hide z3
  replace z4 := hide z4
  replace z5 := hide z5
  replace z1 := hide z1
  clear hw14 g14 CS S13
  go_wp2_with fail
  refine hK.out _ _ hS14 (fun hH9 => ?_)
  clear hK K hHeld hH9
  try simp only [Act.put, List.getElem_toArray, List.getElem_cons_succ, List.getElem_cons_zero, List.setIfInBounds_toArray, List.set_cons_zero, List.set_cons_succ]
  refine wpAnyH_take (i := 65) (v := .pointer (some ⟨y1.heap.size, 0, none⟩)) rfl (by kernel_rfl) (by kernel_rfl) (by kernel_rfl) (fun _ _ _ h => h) (Or.inl ⟨by rfl, fun w hSw => by go_simp⟩) (by assumption) ?_
  try simp only [Act.put, List.getElem_toArray, List.getElem_cons_succ, List.getElem_cons_zero, List.setIfInBounds_toArray, List.set_cons_zero, List.set_cons_succ]
  refine wpAnyH_ready (rs := [66]) (by kernel_rfl) (by simp) ?_
  refine AllReadyH.cons rfl (fun K hK => ?_) AllReadyH.nil
  have t0 := unhide z3
  have t1 := unhide z4
  have t2 := unhide z5
  have t3 := unhide z1
  go_wp2_with fail
  refine hK.out _ _ hS14 (fun hH9 => ?_)
  clear hK K t0 t1 t2 t3 hH9
  try simp only [Act.put, List.getElem_toArray, List.getElem_cons_succ, List.getElem_cons_zero, List.setIfInBounds_toArray, List.set_cons_zero, List.set_cons_succ]
  refine wpAnyH_take (i := 67) (v := .bool true) rfl (by kernel_rfl) (by kernel_rfl) (by kernel_rfl) (fun _ _ _ h => h) (Or.inl ⟨by rfl, fun w hSw => by go_simp⟩) (by assumption) ?_
  try simp only [Act.put, List.getElem_toArray, List.getElem_cons_succ, List.getElem_cons_zero, List.setIfInBounds_toArray, List.set_cons_zero, List.set_cons_succ]
  refine wpAnyH_take (i := 68) (v := .bool true) rfl (by kernel_rfl) (by kernel_rfl) (by kernel_rfl) (fun _ _ _ h => h) (Or.inl ⟨by rfl, fun w hSw => by go_simp⟩) (by assumption) ?_
  try simp only [Act.put, List.getElem_toArray, List.getElem_cons_succ, List.getElem_cons_zero, List.setIfInBounds_toArray, List.set_cons_zero, List.set_cons_succ]
  refine wpAnyH_take (i := 69) (v := .bool true) rfl (by kernel_rfl) (by kernel_rfl) (by kernel_rfl) (fun _ _ _ h => h) (Or.inl ⟨by rfl, fun w hSw => by go_simp⟩) (by assumption) ?_
  try simp only [Act.put, List.getElem_toArray, List.getElem_cons_succ, List.getElem_cons_zero, List.setIfInBounds_toArray, List.set_cons_zero, List.set_cons_succ]
  refine wpAnyH_take (i := 70) (v := .int .i64 1) rfl (by kernel_rfl) (by kernel_rfl) (by kernel_rfl) (fun _ _ _ h => h) (Or.inl ⟨by rfl, fun w hSw => by go_simp⟩) (by assumption) ?_
  try simp only [Act.put, List.getElem_toArray, List.getElem_cons_succ, List.getElem_cons_zero, List.setIfInBounds_toArray, List.set_cons_zero, List.set_cons_succ]
  refine wpAnyH_take (i := 71) (v := .bool true) rfl (by kernel_rfl) (by kernel_rfl) (by kernel_rfl) (fun _ _ _ h => h) (Or.inl ⟨by rfl, fun w hSw => by go_simp⟩) (by assumption) ?_
  try simp only [Act.put, List.getElem_toArray, List.getElem_cons_succ, List.getElem_cons_zero, List.setIfInBounds_toArray, List.set_cons_zero, List.set_cons_succ]
  refine wpAnyH_take (i := 72) (v := .bool true) rfl (by kernel_rfl) (by kernel_rfl) (by kernel_rfl) (fun _ _ _ h => h) (Or.inl ⟨by rfl, fun w hSw => by go_simp⟩) (by assumption) ?_
  try simp only [Act.put, List.getElem_toArray, List.getElem_cons_succ, List.getElem_cons_zero, List.setIfInBounds_toArray, List.set_cons_zero, List.set_cons_succ]
  refine wpAnyH_take (i := 73) (v := .bool true) rfl (by kernel_rfl) (by kernel_rfl) (by kernel_rfl) (fun _ _ _ h => h) (Or.inl ⟨by rfl, fun w hSw => by go_simp⟩) (by assumption) ?_
  try simp only [Act.put, List.getElem_toArray, List.getElem_cons_succ, List.getElem_cons_zero, List.setIfInBounds_toArray, List.set_cons_zero, List.set_cons_succ]
  refine wpAnyH_take (i := 74) (v := .int .i64 0) rfl (by kernel_rfl) (by kernel_rfl) (by kernel_rfl) (fun _ _ _ h => h) (Or.inl ⟨by rfl, fun w hSw => by go_simp⟩) (by assumption) ?_
  try simp only [Act.put, List.getElem_toArray, List.getElem_cons_succ, List.getElem_cons_zero, List.setIfInBounds_toArray, List.set_cons_zero, List.set_cons_succ]
  refine wpAnyH_take (i := 75) (v := .bool true) rfl (by kernel_rfl) (by kernel_rfl) (by kernel_rfl) (fun _ _ _ h => h) (Or.inl ⟨by rfl, fun w hSw => by go_simp⟩) (by assumption) ?_
  try simp only [Act.put, List.getElem_toArray, List.getElem_cons_succ, List.getElem_cons_zero, List.setIfInBounds_toArray, List.set_cons_zero, List.set_cons_succ]
  refine wpAnyH_take (i := 76) (v := .bool true) rfl (by kernel_rfl) (by kernel_rfl) (by kernel_rfl) (fun _ _ _ h => h) (Or.inl ⟨by rfl, fun w hSw => by go_simp⟩) (by assumption) ?_
  try simp only [Act.put, List.getElem_toArray, List.getElem_cons_succ, List.getElem_cons_zero, List.setIfInBounds_toArray, List.set_cons_zero, List.set_cons_succ]
  refine wpAnyH_take (i := 77) (v := .bool true) rfl (by kernel_rfl) (by kernel_rfl) (by kernel_rfl) (fun _ _ _ h => h) (Or.inl ⟨by rfl, fun w hSw => by go_simp⟩) (by assumption) ?_
  try simp only [Act.put, List.getElem_toArray, List.getElem_cons_succ, List.getElem_cons_zero, List.setIfInBounds_toArray, List.set_cons_zero, List.set_cons_succ]
  refine wpAnyH_take (i := 78) (v := .pointer (some ⟨x.hb, 0, none⟩)) rfl (by kernel_rfl) (by kernel_rfl) (by kernel_rfl) (fun _ _ _ h => h) (Or.inl ⟨by rfl, fun w hSw => by go_simp⟩) (by assumption) ?_
  try simp only [Act.put, List.getElem_toArray, List.getElem_cons_succ, List.getElem_cons_zero, List.setIfInBounds_toArray, List.set_cons_zero, List.set_cons_succ]
  have CF := hide (h_forced S14)
  refine wpAnyH_ready (rs := [79]) (by kernel_rfl) (by simp) ?_
  refine AllReadyH.cons rfl (fun K hK => ?_) AllReadyH.nil
  go_simp
  refine (unhide CF).mono ?_
  rintro e w9' ⟨rfl, hw9⟩
  rw [hw9]
  clear hw9 w9' CF
  go_wp2_with fail
  refine hK.out _ _ hS14 (fun hH9 => ?_)
  clear hK K hH9
  try simp only [Act.put, List.getElem_toArray, List.getElem_cons_succ, List.getElem_cons_zero, List.setIfInBounds_toArray, List.set_cons_zero, List.set_cons_succ]
  refine wpAnyH_take (i := 80) (v := .bool true) rfl (by kernel_rfl) (by kernel_rfl) (by kernel_rfl) (fun _ _ _ h => h) (Or.inl ⟨by rfl, fun w hSw => by go_simp⟩) (by assumption) ?_
  try simp only [Act.put, List.getElem_toArray, List.getElem_cons_succ, List.getElem_cons_zero, List.setIfInBounds_toArray, List.set_cons_zero, List.set_cons_succ]
  refine wpAnyH_take (i := 81) (v := .bool true) rfl (by kernel_rfl) (by kernel_rfl) (by kernel_rfl) (fun _ _ _ h => h) (Or.inl ⟨by rfl, fun w hSw => by go_simp⟩) (by assumption) ?_
  try simp only [Act.put, List.getElem_toArray, List.getElem_cons_succ, List.getElem_cons_zero, List.setIfInBounds_toArray, List.set_cons_zero, List.set_cons_succ]
  refine wpAnyH_take (i := 82) (v := .bool true) rfl (by kernel_rfl) (by kernel_rfl) (by kernel_rfl) (fun _ _ _ h => h) (Or.inl ⟨by rfl, fun w hSw => by go_simp⟩) (by assumption) ?_
  try simp only [Act.put, List.getElem_toArray, List.getElem_cons_succ, List.getElem_cons_zero, List.setIfInBounds_toArray, List.set_cons_zero]
  refine wpAnyH_done (by kernel_rfl) (NoPanic.normal ?_) _
  go_wp2_with fail
  go_ret
  exact ⟨rfl, Below.trans (unhide g1) ((unhide S14).ks.st.below.mono (unhide g1).size)⟩
end Go.Proofs.YtahhkehijokhnaaGreatDoor

/- HeapForced of package gantlinelaw14 answers true. -/
namespace Go.Proofs.YtahhkehijokhnaaGreatDoor
set_option maxRecDepth 100000
open Go.ChangeShapes Go.WideShapes Go.ChangeAt Go.RowKit Go.Maps Go.Deep

theorem hf_forced {w : World} {b : Nat} {fc : Int} (h : w.cell? ⟨b, 3, none⟩ = some (.int .i64 fc)) : Calls Tryz.prog 13 #[.pointer (some ⟨b, 0, none⟩)] w fun e w' => e = .returned (.int .i64 fc) ∧ w' = w := by
  go_enter Tryz.func13, Tryz.ntmps13
  go_wp2_with fail
  go_ret
  exact ⟨rfl, rfl⟩
theorem hf_cyc {w : World} {b cb : Nat} (h : w.cell? ⟨b, 0, none⟩ = some (.pointer (some ⟨cb, 0, none⟩))) : Calls Tryz.prog 18 #[.pointer (some ⟨b, 0, none⟩)] w fun e w' => e = .returned (.pointer (some ⟨cb, 0, none⟩)) ∧ w' = w := by
  go_enter Tryz.func18, Tryz.ntmps18
  go_wp2_with fail
  go_ret
  exact ⟨rfl, rfl⟩
theorem hf_done {w : World} {cb : Nat} {d : Int} (h : w.cell? ⟨cb, 7, none⟩ = some (.int .i64 d)) : Calls Tryz.prog 19 #[.pointer (some ⟨cb, 0, none⟩)] w fun e w' => e = .returned (.int .i64 d) ∧ w' = w := by
  go_enter Tryz.func19, Tryz.ntmps19
  go_wp2_with fail
  go_ret
  exact ⟨rfl, rfl⟩
/-- len of the numbers below i are multiples of hold. -/
def HN (i hold len : Nat) : Prop := i ≤ len * hold ∧ (len = 0 ∨ (len - 1) * hold < i)
theorem HN.zero (hold : Nat) : HN 0 hold 0 := ⟨Nat.zero_le _, Or.inl rfl⟩
theorem HN.at {i hold len : Nat} (h1 : 1 ≤ hold) (h : HN i hold len) (hm : i % hold = 0) : len * hold = i ∧ HN (i + 1) hold (len + 1) := by
  obtain ⟨q, hq⟩ := Nat.dvd_of_mod_eq_zero hm
  obtain ⟨a, b⟩ := h
  have e : len = q := by
    rw [hq, Nat.mul_comm hold q] at a b
    have h2 : q ≤ len := Nat.le_of_mul_le_mul_right a (by omega)
    rcases b with b | b
    · omega
    · have h3 : len - 1 < q := Nat.lt_of_mul_lt_mul_right b
      omega
  have e2 : len * hold = i := by rw [e, hq, Nat.mul_comm]
  refine ⟨e2, ?_, Or.inr ?_⟩
  · rw [Nat.add_mul]; omega
  · rw [Nat.add_sub_cancel]; omega
theorem HN.skip {i hold len : Nat} (h : HN i hold len) (hm : ¬ i % hold = 0) : HN (i + 1) hold len := by
  obtain ⟨a, b⟩ := h
  have : i ≠ len * hold := fun e => hm (by rw [e]; exact Nat.mul_mod_left _ _)
  refine ⟨by omega, ?_⟩
  rcases b with b | b
  · exact Or.inl b
  · exact Or.inr (by omega)
theorem HN.le {i hold len : Nat} (h1 : 1 ≤ hold) (h : HN i hold len) : len ≤ i + 1 := by
  rcases h.2 with b | b
  · omega
  · have : len - 1 ≤ (len - 1) * hold := Nat.le_mul_of_pos_right _ h1
    omega
theorem hf_i1 {N i : Nat} (h : i < N) (h8 : N ≤ 1000) : ∃ i1 : Int, wrap64 ((i : Int) + 1) = i1 ∧ i1 = ((i + 1 : Nat) : Int) ∧ N - i1.toNat < N - ((i : Int)).toNat := by
  refine ⟨(i : Int) + 1, ?_, by omega, by omega⟩
  unfold wrap64; omega
theorem hf_start {w1 w2 w3 : World} {x : Hx} {ao : Option Addr} {cap : Nat} {nv : Value} {c : Nat → Nat} (H : HS w1 w2 x (al0 8) ls3 3 ao cap nv c) (hw3 : w3 = w2.alloc (.cells #[.slice none 0 0] 33)) (wd hold : Nat) : HFs w1 x ao cap nv w2.heap.size w2.heap.size wd hold [] 0 (.slice none 0 0) w3 := by
  obtain ⟨c', HG0⟩ := H.hG
  have H0 : HC w1 x 3 ao cap nv 0 w2 ⟨⟨al0 8, ls3, []⟩, 0, [], 64, 0⟩ [] := ⟨c', HG0⟩
  have g3 : G w2 w3 := by rw [hw3]; exact G.alloc _ _
  have b3 : w3.heap[w2.heap.size]? = some (.cells #[.slice none 0 0] 33 (0, 0)) := by rw [hw3]; exact heap_alloc_new _ _
  refine ⟨⟨⟨⟨al0 8, ls3, []⟩, 0, [], 64, 0⟩, [], H0.gr g3, ⟨by rw [cell_of_row _ _ _ _ _ _ b3]; rfl, by simp [World.frozen?, b3], ⟨rfl, Or.inl ⟨rfl, rfl⟩⟩, fun ho => Nat.lt_irrefl _ (hc_low H0 ho), fun d hd => by simp [Value.ownBlock] at hd⟩, rfl, rfl, rfl, rfl, rfl, fi0 wd hold⟩⟩
set_option maxHeartbeats 40000000 in
set_option maxRecDepth 100000 in
theorem forced14 (w : World) (ht : Tab w) (N hold wd : Nat) (hN1 : 1 ≤ N) (hN : N ≤ 400) (hh1 : 1 ≤ hold) (hh : hold ≤ 50) (w1' : 2 ≤ wd) (w2' : wd ≤ 64) (CA : Hid (Calls Tryz.prog 5 #[] w fun e w' => e = .returned (.bool true) ∧ G w w')) :
    Calls Tryz.prog 4 #[.int .i64 (N : Int), .int .i64 (hold : Int), .int .i64 (wd : Int)] w fun e w' => e = .returned (.bool true) ∧ G w w' := by
  replace ht := hide ht
  have d1 : decide ((N : Int) < 1) = false := by simp; omega
  have d2 : decide ((400 : Int) < (N : Int)) = false := by simp; omega
  have d2' : decide (400 < N) = false := by simp; omega
  have d3 : decide ((hold : Int) < 1) = false := by simp; omega
  have d4 : decide ((50 : Int) < (hold : Int)) = false := by simp; omega
  have d4' : decide (50 < hold) = false := by simp; omega
  have d5 : decide ((wd : Int) < 2) = false := by simp; omega
  have d5' : decide (wd < 2) = false := by simp; omega
  have d6 : decide ((64 : Int) < (wd : Int)) = false := by simp; omega
  have d6' : decide (64 < wd) = false := by simp; omega
  have d7 : decide (N < 1) = false := by simp; omega
  have d8 : decide (hold < 1) = false := by simp; omega
  replace hN1 := hide hN1
  replace hN := hide hN
  replace hh1 := hide hh1
  replace hh := hide hh
  replace w1' := hide w1'
  replace w2' := hide w2'
  go_enter Tryz.func4, Tryz.ntmps4
  go_wp2_with fail
  refine (unhide CA).mono ?_
  rintro e w0 ⟨rfl, g0⟩
  replace g0 := hide g0
  clear CA
  go_wp2_with fail
  refine (shapes14 _).mono ?_
  rintro e w1 ⟨rfl, hw1⟩
  have CN := hide (new14 w0 w1 hw1 (Tab.later (unhide ht) (unhide g0)))
  have g1 : Hid (G w w1) := hide ((unhide g0).trans (by rw [hw1]; exact G.alloc _ _))
  clear hw1 g0 ht
  go_wp2_with fail
  refine (unhide CN).mono ?_
  rintro e w2 ⟨x, rfl, ao, cap, nv, c, S0⟩
  obtain ⟨w3, hw3⟩ : ∃ w3, w3 = w2.alloc (.cells #[.slice none 0 0] 33) := ⟨_, rfl⟩
  have P0 := hide (hf_start S0 hw3 wd hold)
  have hS : Hid (w1.heap.size ≤ w2.heap.size) := hide S0.ks.st.below.size
  have FIN : Hid (∀ y : World, Below w1.heap.size w1 y → G w y) := hide fun y b => Below.trans (unhide g1) (b.mono (unhide g1).size)
  clear CN S0 g1 c
  go_upto_region 10 with fail
  rw [← hw3]
  clear hw3 d1 d2 d2' d3 d4 d4' d5 d5' d6 d6' d7 d8
  go_wp2_with fail
  go_loopw [10, 11] (fun c10 c11 wr => ∃ (i : Nat) (hs : List Int) (fc : Int) (rv : Value), c10 = .int .i64 (i : Int) ∧ c11 = .int .i64 (i : Int) ∧ Hid (i ≤ N ∧ HN i hold hs.length ∧ 0 ≤ fc ∧ fc ≤ (i : Int)) ∧ Hid (HFs w1 x ao cap nv w2.heap.size w2.heap.size wd hold hs fc rv wr)) (fun _ c11 _ => N - (intOf c11).toNat)
  case atStart => exact ⟨0, [], 0, .slice none 0 0, rfl, rfl, hide ⟨Nat.zero_le _, HN.zero _, Int.le_refl _, Int.le_refl _⟩, P0⟩
  case round =>
    obtain ⟨i, hs, fc, rv, rfl, rfl, hz, P⟩ := hrel
    clear P0
    by_cases hi : i = N
    · as_aux_lemma =>
        have hi' : N = i := hi.symm
        subst hi'
        clear hi
        obtain ⟨M, hM⟩ : ∃ M, hs.length = M := ⟨_, rfl⟩
        have hM4 : Hid (M ≤ 1000) := hide (by have h1 := HN.le (unhide hh1) (unhide hz).2.1; have := unhide hN; omega)
        obtain ⟨bo, bc, hrv, hbc⟩ : ∃ bo bc, rv = .slice bo M bc ∧ True := by
          obtain ⟨_, ⟨bo, bc, c2, _⟩, _⟩ := hf_cells (unhide P)
          rw [hM] at c2
          exact ⟨bo, bc, c2, trivial⟩
        subst hrv
        have PG : Hid (∀ y, G wr y → y.cell? ⟨w2.heap.size, 0, none⟩ = some (.slice bo M bc) ∧ Gy.IsI y bo hs ∧ y.cell? ⟨x.hb, 3, none⟩ = some (.int .i64 fc) ∧ y.cell? ⟨x.hb, 0, none⟩ = some (.pointer (some ⟨x.b.cb, 0, none⟩)) ∧ y.cell? ⟨x.b.cb, 7, none⟩ = some (.int .i64 fc) ∧ G w y) := hide fun y g => by
          obtain ⟨c1, ⟨bo', bc', c2, c2'⟩, c3, c4, c5, b⟩ := hf_cells (unhide P)
          have e1 : bo = bo' := by simp at c2; exact c2.1
          subst e1
          exact ⟨g.cell c1, c2'.g g, g.cell c3, g.cell c4, g.cell c5, (unhide FIN wr b).trans g⟩
        have CA : Hid (∀ y, G wr y → ∀ (j : Nat) a, hs[j]? = some a → Calls Tryz.prog 17 #[.pointer (some ⟨x.hb, 0, none⟩), .int .i64 a, .int .i64 0, .bool false] y fun e w' => e = .returned (.tuple #[.int .i64 ((j * hold : Nat) : Int), .int .i64 0]) ∧ G y w') := hide fun y g j a hj => by
          obtain ⟨C, qs, H, L, h0, hg, hT, hd, hk, I⟩ := (unhide P).is
          have P' : HFs w1 x ao cap nv w2.heap.size w2.heap.size wd hold hs fc (.slice bo M bc) y := ⟨⟨C, qs, H.gr g, L.fr (Fr.of_G g), h0, hg, hT, hd, hk, I⟩⟩
          exact hf_at P' (unhide w1') (unhide w2') hj
        have hff : ((fc : Int) == fc) = true := by simp
        replace hM := hide hM
        clear P
        go_wp2_with fail
        go_loopw [15] (fun c15 wq => Hid (G wr wq) ∧ ∃ j : Nat, c15 = .int .i64 (j : Int) ∧ Hid (j ≤ M)) (fun c15 _ => M - (intOf c15).toNat)
        case atStart => exact ⟨hide (G.refl _), 0, rfl, hide (Nat.zero_le _)⟩
        case round =>
          obtain ⟨g7, j, rfl, hj⟩ := hrel
          obtain ⟨k1, k2, k3, k4, k5, k6⟩ := unhide PG _ (unhide g7)
          replace k6 := hide k6
          by_cases hjM : j = M
          · subst hjM
            clear k2
            go_wp2_with fail
            refine (hf_cyc k4).mono ?_
            rintro e w6 ⟨rfl, hw6⟩
            rw [hw6]
            clear hw6 w6
            go_wp2_with fail
            refine (hf_done k5).mono ?_
            rintro e w6 ⟨rfl, hw6⟩
            rw [hw6]
            clear hw6 w6
            go_wp2_with fail
            refine (hf_forced k3).mono ?_
            rintro e w6 ⟨rfl, hw6⟩
            rw [hw6]
            clear hw6 w6
            go_wp2_with fail
            go_ret
            exact ⟨rfl, unhide k6⟩
          · have hlt2 : j < M := Nat.lt_of_le_of_ne (unhide hj) hjM
            have hjI : (j : Int) < (M : Int) := Int.ofNat_lt.2 hlt2
            obtain ⟨j1, hwj1, hj1, DJ⟩ := hf_i1 hlt2 (unhide hM4)
            replace hj1 := hide hj1
            replace DJ := hide DJ
            obtain ⟨a, g, off, ha, rfl, ca⟩ := k2.at_ (i := j) (by have := unhide hM; omega)
            have CA' := unhide CA _ (unhide g7) j a ha
            obtain ⟨zz, hzz⟩ : ∃ zz : Int, ((j * hold : Nat) : Int) = zz := ⟨_, rfl⟩
            have hmul : wrap64 ((j : Int) * (hold : Int)) = zz := by
              rw [← hzz]
              have h1 : j * hold ≤ 1000 * 50 := Nat.mul_le_mul (by have := unhide hM4; omega) (unhide hh)
              have h2 : ((j * hold : Nat) : Int) = (j : Int) * (hold : Int) := Int.natCast_mul j hold
              rw [← h2]
              unfold wrap64
              omega
            have hne : (zz != zz) = false := by simp
            rw [hzz] at CA'
            replace CA' := hide CA'
            have hjJ1 : Hid (j + 1 ≤ M) := hide hlt2
            clear k2 ha hlt2 hjM hzz
            go_wp2_with fail
            refine (unhide CA').mono ?_
            rintro e w5 ⟨rfl, g5⟩
            have g8 := hide ((unhide g7).trans g5)
            clear CA' ca k1 k3 k4 k5 k6 g5
            go_wp2_with fail
            go_roundw
            case rel => exact ⟨g8, j + 1, by first | rw [hwj1, unhide hj1] | rw [unhide hj1], hjJ1⟩
            case measure => first | (rw [hwj1]; exact unhide DJ) | exact unhide DJ
    · have hlt' : i < N := Nat.lt_of_le_of_ne (unhide hz).1 hi
      have hlt : (i : Int) < (N : Int) := Int.ofNat_lt.2 hlt'
      obtain ⟨i1, hwi1, hi1, DC⟩ := hf_i1 hlt' (by have := unhide hN; omega)
      replace hi1 := hide hi1
      replace DC := hide DC
      have hlen := hide (HN.le (unhide hh1) (unhide hz).2.1)
      have hl4 : Hid (hs.length ≤ 10000) := hide (by have := unhide hlen; have := unhide hN; omega)
      rcases hf_make P (unhide w1') (unhide w2') (unhide hl4) (by have := unhide hz; have := unhide hN; omega) with ⟨v, fc', f0, f1, v0, vn, CM⟩ | ⟨hfull, CM⟩
      · have CM := hide CM
        have hvn := hide vn
        have hff : Hid (0 ≤ fc' ∧ fc' ≤ ((i + 1 : Nat) : Int)) := hide (by have := unhide hz; omega)
        replace hlt' := hide hlt'
        clear P f0 f1 v0 vn hi
        by_cases hm : i % hold = 0
        · as_aux_lemma =>
            obtain ⟨hme, HN1⟩ := HN.at (unhide hh1) (unhide hz).2.1 hm
            have hmi : Int.tmod (i : Int) (hold : Int) = 0 := by rw [show Int.tmod (i : Int) (hold : Int) = ((i % hold : Nat) : Int) from (Int.ofNat_tmod i hold).symm, hm]; rfl
            have hh0 : ¬ (hold : Int) = 0 := by have := unhide hh1; omega
            replace HN1 := hide HN1
            replace hme := hide hme
            clear hm
            go_wp2_with fail
            refine (unhide CM).mono ?_
            rintro e w5 ⟨rfl, _, C5, q5, H5, L5, z1, z2, z3, z4, z5, I5, iv⟩
            obtain ⟨rv', w7, hrR, q1, q2, H8, L8⟩ := hf_held (unhide hS) (Nat.le_refl _) H5 L5 (unhide hl4) v
            obtain ⟨ra', rn', rc', hrv⟩ : ∃ a n c, rv' = .slice a n c := by
              obtain ⟨bo, bc, e9, _⟩ := is_row L8.row
              exact ⟨_, _, _, e9⟩
            subst hrv
            obtain ⟨w8, hw8⟩ : ∃ w8, w8 = w7.setCell ⟨w2.heap.size, 0, none⟩ (.slice ra' rn' rc') := ⟨_, rfl⟩
            have ch : w5.cell? ⟨w2.heap.size, 0, none⟩ = some rv := L5.c
            have zh : w2.heap.size < w5.heap.size := World.block_lt_of_cell? w5 _ L5.c
            rw [← hw8] at H8 L8
            have CP := hf_put (unhide w1') (unhide w2') H8 L8 z1 z2 z3 z4 z5 I5 iv (unhide hvn)
            rw [unhide hme] at CP
            replace CP := hide CP
            clear CM H5 L5 H8 L8 I5 iv z1 z2 z3 z4 z5
            go_upto_region 20 with (at_builtin; refine wpl_aph rfl (.tmp 100) (.tmp 102) 31 rfl _ _ rfl rfl _ _ hrR ?_)
            rw [← hw8]
            clear hw8 hrR q1 q2 ch zh
            go_wp2_with fail
            refine (unhide CP).mono ?_
            rintro e w9 ⟨rfl, P9⟩
            replace P9 := hide P9
            clear CP
            go_wp2_with fail
            go_roundw
            case rel => exact ⟨i + 1, hs ++ [v], fc', .slice ra' rn' rc', by first | rw [hwi1, unhide hi1] | rw [unhide hi1], by first | rw [hwi1, unhide hi1] | rw [unhide hi1], hide ⟨by have := unhide hlt'; omega, by rw [List.length_append, List.length_singleton]; exact unhide HN1, (unhide hff).1, (unhide hff).2⟩, P9⟩
            case measure => first | (rw [hwi1]; exact unhide DC) | exact unhide DC
        · as_aux_lemma =>
            have HN1 := hide (HN.skip (unhide hz).2.1 hm)
            obtain ⟨m, hmm⟩ : ∃ m : Nat, i % hold = m := ⟨_, rfl⟩
            have hmi : Int.tmod (i : Int) (hold : Int) = (m : Int) := by rw [show Int.tmod (i : Int) (hold : Int) = ((i % hold : Nat) : Int) from (Int.ofNat_tmod i hold).symm, hmm]
            have hm0 : ((m : Int) == 0) = false := by simp; omega
            have hm0' : (m == 0) = false := by simp; omega
            have hh0 : ¬ (hold : Int) = 0 := by have := unhide hh1; omega
            clear hm hmm
            go_wp2_with fail
            refine (unhide CM).mono ?_
            rintro e w5 ⟨rfl, P5, _⟩
            replace P5 := hide P5
            clear CM
            go_wp2_with fail
            go_roundw
            case rel => exact ⟨i + 1, hs, fc', rv, by first | rw [hwi1, unhide hi1] | rw [unhide hi1], by first | rw [hwi1, unhide hi1] | rw [unhide hi1], hide ⟨by have := unhide hlt'; omega, unhide HN1, (unhide hff).1, (unhide hff).2⟩, P5⟩
            case measure => first | (rw [hwi1]; exact unhide DC) | exact unhide DC
      · as_aux_lemma =>
          have CM := hide CM
          obtain ⟨Pp, hPp⟩ : ∃ Pp : Int, gp (gc (wd : Int)) = Pp := ⟨_, rfl⟩
          rw [hPp] at hfull
          have CC := hide (fun y => rclass_any (wd : Int) y)
          have CPl := hide (fun y => rplaces_any (gc (wd : Int)) y)
          obtain ⟨cc, hcc⟩ : ∃ cc, gc (wd : Int) = cc := ⟨_, rfl⟩
          rw [hPp] at CPl
          rw [hcc] at CC CPl
          have hwf : wrap64 (7 * Pp) = (hs.length : Int) := by rw [← hfull]; have := unhide hl4; unfold wrap64; omega
          obtain ⟨M, hM⟩ : ∃ M, hs.length = M := ⟨_, rfl⟩
          rw [hM] at hwf
          have hfo : decide ((1 : Int) ≤ fc + 1) = true := by have := unhide hz; simp; omega
          have hMM : ((M : Int) == (M : Int)) = true := by simp
          have HC5 : Hid (∀ y, HFs w1 x ao cap nv w2.heap.size w2.heap.size wd hold hs (fc + 1) rv y → ∃ bo bc, y.cell? ⟨w2.heap.size, 0, none⟩ = some (.slice bo M bc) ∧ y.cell? ⟨x.hb, 3, none⟩ = some (.int .i64 (fc + 1)) ∧ G w y) := hide fun y hy => by
            obtain ⟨c1, ⟨bo, bc, c2, _⟩, c3, _, _, b⟩ := hf_cells hy
            rw [c2, hM] at c1
            exact ⟨bo, bc, c1, c3, unhide FIN y b⟩
          clear hPp hcc hfull hM hi P
          go_wp2_with fail
          refine (unhide CM).mono ?_
          rintro e w5 ⟨rfl, P5⟩
          obtain ⟨bo, bc, k1, k2, k3⟩ := unhide HC5 w5 P5
          replace k3 := hide k3
          clear CM P5 HC5
          go_wp2_with fail
          refine (unhide CC _).mono ?_
          rintro e w6 ⟨rfl, g6⟩
          replace k1 := g6.cell k1
          replace k2 := g6.cell k2
          replace k3 := hide ((unhide k3).trans g6)
          clear g6 CC
          go_wp2_with fail
          refine (unhide CPl _).mono ?_
          rintro e w7 ⟨rfl, g7⟩
          replace k1 := g7.cell k1
          replace k2 := g7.cell k2
          replace k3 := hide ((unhide k3).trans g7)
          clear g7 CPl
          go_wp2_with fail
          refine (hf_forced k2).mono ?_
          rintro e w6 ⟨rfl, hw6⟩
          rw [hw6]
          clear hw6 w6
          go_wp2_with fail
          go_ret
          exact ⟨rfl, unhide k3⟩
end Go.Proofs.YtahhkehijokhnaaGreatDoor

/- HeapForced of package gantlinelaw14: for every number of objects, every step and every length the law answers true; nothing that was there is turned. -/
namespace Go.Proofs.YtahhkehijokhnaaGreatDoor
set_option maxRecDepth 100000
open Go.ChangeShapes Go.WideShapes Go.ChangeAt Go.RowKit Go.Maps Go.Deep

set_option maxHeartbeats 4000000 in
set_option maxRecDepth 100000 in
theorem forced14_out (w : World) (a b c : Int) (h : ¬ (1 ≤ a ∧ a ≤ 400 ∧ 1 ≤ b ∧ b ≤ 50 ∧ 2 ≤ c ∧ c ≤ 64)) (CA : Hid (Calls Tryz.prog 5 #[] w fun e w' => e = .returned (.bool true) ∧ G w w')) :
    Calls Tryz.prog 4 #[.int .i64 a, .int .i64 b, .int .i64 c] w fun e w' => e = .returned (.bool true) ∧ G w w' := by
  replace h := hide h
  go_enter Tryz.func4, Tryz.ntmps4
  go_wp2_with fail
  refine (unhide CA).mono ?_
  rintro e w0 ⟨rfl, g0⟩
  replace g0 := hide g0
  clear CA
  by_cases h1 : a < 1
  · have d1 : decide (a < 1) = true := by simpa using h1
    clear h1
    go_wp2_with fail
    go_ret
    exact ⟨rfl, unhide g0⟩
  have d1 : decide (a < 1) = false := by simpa using h1
  replace h1 := hide h1
  by_cases h2 : 400 < a
  · have d2 : decide (400 < a) = true := by simpa using h2
    clear h2
    go_wp2_with fail
    go_ret
    exact ⟨rfl, unhide g0⟩
  have d2 : decide (400 < a) = false := by simpa using h2
  replace h2 := hide h2
  by_cases h3 : b < 1
  · have d3 : decide (b < 1) = true := by simpa using h3
    clear h3
    go_wp2_with fail
    go_ret
    exact ⟨rfl, unhide g0⟩
  have d3 : decide (b < 1) = false := by simpa using h3
  replace h3 := hide h3
  by_cases h4 : 50 < b
  · have d4 : decide (50 < b) = true := by simpa using h4
    clear h4
    go_wp2_with fail
    go_ret
    exact ⟨rfl, unhide g0⟩
  have d4 : decide (50 < b) = false := by simpa using h4
  replace h4 := hide h4
  by_cases h5 : c < 2
  · have d5 : decide (c < 2) = true := by simpa using h5
    clear h5
    go_wp2_with fail
    go_ret
    exact ⟨rfl, unhide g0⟩
  have d5 : decide (c < 2) = false := by simpa using h5
  replace h5 := hide h5
  have h6 : 64 < c := by have := unhide h; have := unhide h1; have := unhide h2; have := unhide h3; have := unhide h4; have := unhide h5; omega
  have d6 : decide (64 < c) = true := by simpa using h6
  clear h6
  go_wp2_with fail
  go_ret
  exact ⟨rfl, unhide g0⟩

theorem walk_HeapForced (a b c : Int) {A B C : Prop} (_ : A) (_ : B) (_ : C) (w : World) (ht : Tab w) : Calls Tryz.prog 4 #[.int .i64 a, .int .i64 b, .int .i64 c] w fun e w' => e = .returned (.bool true) ∧ Below w.heap.size w w' := by
  by_cases h : 1 ≤ a ∧ a ≤ 400 ∧ 1 ≤ b ∧ b ≤ 50 ∧ 2 ≤ c ∧ c ≤ 64
  · obtain ⟨h1, h2, h3, h4, h5, h6⟩ := h
    obtain ⟨N, rfl⟩ : ∃ N : Nat, a = (N : Int) := ⟨a.toNat, by omega⟩
    obtain ⟨hold, rfl⟩ : ∃ N : Nat, b = (N : Int) := ⟨b.toNat, by omega⟩
    obtain ⟨wd, rfl⟩ : ∃ N : Nat, c = (N : Int) := ⟨c.toNat, by omega⟩
    exact forced14 w ht N hold wd (by omega) (by omega) (by omega) (by omega) (by omega) (by omega) (hide (awake14 w ht))
  · exact forced14_out w a b c h (hide (awake14 w ht))


set_option maxRecDepth 100000 in
theorem lifted_HeapForced (os : Os) (started : os.Started) (H : Type) (enc : TypeId × Value → H) :
    ReturnsInHanded {} Tryz.checked os 4 .any (fun w args => (Rows.heapForcedSpec.pre enc Tryz.prog Tryz.f4 [] false w args ∧ laidMetH Tryz.prog laidTab w) ∧ sizedMet enc Tryz.prog Tryz.f4 (OpenSpec.ofChange Rows.heapForcedSpec) false w args)
      (Rows.heapForcedSpec.post enc Tryz.prog Tryz.f4 false true false false) := by
  refine returnsInHanded_of_change_and (C := Tryz.checked) (X := fun w _ => laidMetH Tryz.prog laidTab w) (fun _ _ _ hh h => h.of_heap hh) own started (by kernel_rfl) Tryz.func4
    (ChangeSpec.witness_shaped (enc := enc) (C := Tryz.checked) (os := os) (X := fun w _ => laidMetH Tryz.prog laidTab w) false (World.doorLaid Tryz.prog 400 os) #[.int .i64 0, .int .i64 0, .int .i64 0] 8 rfl (World.shaped_of_RefB (by kernel_rfl) (by kernel_rfl)) (by kernel_rfl) (by kernel_rfl) (by kernel_rfl) (door_met os _)) ?_
  intro W base args ds gs before hval0 hW _ _ hL _
  have hval : ∀ (j : Nat) t v, Tryz.f4.params[j]? = some t → args[j]? = some v → Value.okWide Tryz.prog W .any base t v := hval0
  have hW' := hW
  obtain ⟨p, q, hA0, hV, rfl, hfz, hnd⟩ := hW
  have hA : DataW.TrodAll enc Tryz.prog W 0 (fun _ => true) true Tryz.f4.params.toList args.toList ds p := hA0
  rw [Tryz.params4] at hA hval
  obtain ⟨v0, vs0, d0, ds0, p0, q0, hargs, rfl, rfl, h0, r0⟩ := trodAll_cons hA
  obtain ⟨v1, vs1, d1, ds1, p1, q1, rfl, rfl, rfl, h1, r1⟩ := trodAll_cons r0
  obtain ⟨v2, vs2, d2, ds2, p2, q2, rfl, rfl, rfl, h2, r2⟩ := trodAll_cons r1
  obtain ⟨rfl, rfl, rfl⟩ := trodAll_nil r2
  obtain rfl : args = #[v0, v1, v2] := by cases args; simp_all
  obtain ⟨rfl, rfl⟩ := trodVars_none hV
  have k0 := h0
  have lt0 : ∀ x ∈ p0, x.block < W.heap.size := by obtain ⟨m, hm⟩ := k0; exact DataW.trod_lt m _ _ _ hm
  obtain ⟨a0, rfl, rfl, rfl, w0⟩ := open_int Tryz.underlying3 (hval 0 3 v0 rfl rfl) h0
  have k1 := h1
  have lt1 : ∀ x ∈ p1, x.block < W.heap.size := by obtain ⟨m, hm⟩ := k1; exact DataW.trod_lt m _ _ _ hm
  obtain ⟨a1, rfl, rfl, rfl, w1⟩ := open_int Tryz.underlying3 (hval 1 3 v1 rfl rfl) h1
  have k2 := h2
  have lt2 : ∀ x ∈ p2, x.block < W.heap.size := by obtain ⟨m, hm⟩ := k2; exact DataW.trod_lt m _ _ _ hm
  obtain ⟨a2, rfl, rfl, rfl, w2⟩ := open_int Tryz.underlying3 (hval 2 3 v2 rfl rfl) h2
  clear hA0 hval0
  refine (walk_HeapForced a0 a1 a2 w0 w1 w2 W (tab_of_laid hL)).mono fun e W' ⟨he, hg⟩ => ?_
  subst he
  exact ⟨_, rfl, _, _, _, [], _, [], hW', trodAll_mk1 (shut_bool Tryz.underlying4 _), (trodAll_cons_mk (Below.trod laidOut (by kernel_rfl) (of_decide_eq_true (by kernel_rfl)) k0 hg lt0) (trodAll_cons_mk (Below.trod laidOut (by kernel_rfl) (of_decide_eq_true (by kernel_rfl)) k1 hg lt1) (trodAll_cons_mk (Below.trod laidOut (by kernel_rfl) (of_decide_eq_true (by kernel_rfl)) k2 hg lt2) trodAll_mk0))), rfl, hg.frame _, fun h => by cases h⟩

theorem row_HeapForced : Rows.HeapForcedSaid :=
  OpenClaim.holds_of_wide 4 Tryz.f4 rfl rfl rfl rfl rfl rfl rfl ⟨rfl, rfl, rfl, rfl, rfl⟩ rfl rfl rfl rfl rfl (by kernel_rfl) Tryz.func4 (by kernel_rfl)
    (of_decide_eq_true (by kernel_rfl)) (by unfold Func.isWrapper; first | (rw [if_pos (by decide +kernel)]; kernel_rfl) | (rw [if_neg (by decide +kernel)]; exact ⟨rfl, rfl⟩))
    (fun os started H enc _ => lifted_HeapForced os started H enc)

/-- THE STATEMENT. -/
theorem card_HeapForced : Rows.HeapForcedCardSaid :=
  Claim7.holds_tied_plain_at .later [] [.data] true (true, "f4b2c8185e13addf611de16ddf12eace1bcb861c5f38f323c5c0db1796eb6a1d") false
    row_HeapForced (fun _ h => by cases h) (by kernel_rfl) (fun _ h => by cases h) heapForced_row_tie rfl ⟨rfl, rfl⟩ (by kernel_rfl) rfl
    (fun f fn hf hfn => by
      obtain rfl : f = 4 := Option.some.inj ((show Tryz.prog.funcNamed "gantline/gantlinelaw14.HeapForced" = some 4 by kernel_rfl).symm.trans hf) |>.symm
      obtain rfl : fn = Tryz.f4 := (Option.some.inj (Tryz.func4.symm.trans hfn)).symm
      exact ⟨by kernel_rfl, fun j t ht => by
        rw [Tryz.params4] at ht
        have hm : t ∈ [3, 3, 3] := by simpa using Array.mem_of_getElem? ht
        have hall : ([3, 3, 3].all fun u => !Tryz.prog.wantsStandIn u) = true := by kernel_rfl
        exact (show Tryz.prog.wantsStandIn t = false by simpa using List.all_eq_true.1 hall t hm)⟩)
    (by kernel_rfl)
#print axioms card_HeapForced
end Go.Proofs.YtahhkehijokhnaaGreatDoor
