/- Here, one behind the other: HpAwake, HpBdP, HpBd, HpBdLaw. -/
import Derived.Test.YtbfgengmojdamaaGreatDoorMhB
import Derived.Test.YtbfgengmojdamaaGreatDoorArenaBase
/- awake() of package gantlinelaw14 answers true. -/
namespace Go.Proofs.YtbfgengmojdamaaGreatDoor
set_option maxRecDepth 100000
open Go.ChangeShapes Go.WideShapes Go.ChangeAt Go.RowKit Go.Maps Go.Deep

set_option maxHeartbeats 20000000 in
set_option maxRecDepth 100000 in
theorem awake14 (w : World) (ht : Tab w) : Calls Tryz.prog 8 #[] w fun e w' => e = .returned (.bool true) ∧ G w w' := by
  replace ht := hide ht
  go_enter Tryz.func8, Tryz.ntmps8
  go_wp2_with fail
  refine (shapes14 _).mono ?_
  rintro e w1 ⟨rfl, hw1⟩
  have CN := hide (new14 w w1 hw1 (unhide ht))
  have g1 : Hid (G w w1) := hide (by rw [hw1]; exact G.alloc _ _)
  clear hw1
  go_wp2_with fail
  refine (unhide CN).mono ?_
  rintro e w2 ⟨x, rfl, ao, cap, nv, c, S0⟩
  replace S0 := hide S0
  have C0 := hide (h_cycle S0)
  clear CN
  go_wp2_with fail
  refine (unhide C0).mono ?_
  rintro e w3 ⟨rfl, hw⟩
  subst hw
  clear C0
  have S1 := hide ((unhide S0).gr (G.alloc w3 (.cells #[.slice none 0 0] 35)))
  have C1 := hide (mk1 S1)
  clear S0
  go_wp2_with fail
  refine (unhide C1 _).mono ?_
  rintro e w4 ⟨rfl, S4⟩
  replace S4 := hide S4
  have C2 := hide (mk2 S4)
  clear C1 S1
  go_wp2_with fail
  refine (unhide C2 _).mono ?_
  rintro e w5 ⟨rfl, S5⟩
  replace S5 := hide S5
  have C3 := hide (get14 64 1 true 0 0 q_g1 S5)
  clear C2 S4
  go_wp2_with fail
  refine (unhide C3).mono ?_
  rintro e w6 ⟨rfl, S6⟩
  replace S6 := hide S6
  have C4 := hide (st1 S6)
  clear C3 S5
  go_wp2_with fail
  refine (unhide C4).mono ?_
  rintro e w7 ⟨rfl, S7⟩
  replace S7 := hide S7
  have C5 := hide (get14 64 0 false 9 0 q_g2 S7)
  clear C4 S6
  go_wp2_with fail
  refine (unhide C5).mono ?_
  rintro e w8 ⟨rfl, S8⟩
  replace S8 := hide S8
  have C6 := hide (pt1 S8)
  clear C5 S7
  go_wp2_with fail
  refine (unhide C6).mono ?_
  rintro e w9 ⟨rfl, S9⟩
  replace S9 := hide S9
  have C7 := hide (at14 68 2 false 5 0 q_a1 S9)
  clear C6 S8
  go_wp2_with fail
  refine (unhide C7).mono ?_
  rintro e w10 ⟨rfl, S10⟩
  replace S10 := hide S10
  have C8 := hide (len14 68 3 0 q_l1 S10)
  clear C7 S9
  go_wp2_with fail
  refine (unhide C8).mono ?_
  rintro e w11 ⟨rfl, S11⟩
  replace S11 := hide S11
  have C9 := hide (of1 S11)
  clear C8 S10
  go_wp2_with fail
  refine (unhide C9).mono ?_
  rintro e w12 ⟨rfl, S12⟩
  replace S12 := hide S12
  clear C9 S11
  obtain ⟨W2, hW2⟩ : ∃ W2, W2 = (w12.alloc (.cells #[.int .i64 3, .int .i64 0, .int .i64 0] 55)).alloc (.cells #[.int .i64 0, .int .i64 2, .int .u64 2] 29) := ⟨_, rfl⟩
  obtain ⟨g2, bx⟩ := two_box w12 3 0 0 0 2 2 W2 hW2
  have z2 : W2.heap.size = w12.heap.size + 2 := by rw [hW2, World.size_alloc, World.size_alloc]
  have C10 := hide (ad1 (hide (((unhide S12).gr g2).recol w12 (unhide S12))))
  have bx' := hide (bx W2 (G.refl _))
  replace g2 := hide g2
  replace z2 := hide z2
  clear bx
  go_wp2_with fail
  rw [← hW2]
  clear hW2
  refine (unhide C10).mono ?_
  rintro e w13 ⟨rfl, ⟨ao', cap', nv', c', S13⟩, kp⟩
  replace S13 := hide S13
  have k0 : w13.heap[w12.heap.size]? = W2.heap[w12.heap.size]? := kp _ (by have := unhide z2; omega) (by simp) (by simp) (by simp)
  have k1 : w13.heap[w12.heap.size + 1]? = W2.heap[w12.heap.size + 1]? := kp _ (by have := unhide z2; omega) (by simp) (by simp) (by simp)
  obtain ⟨⟨a0, a1, a2⟩, b0, b1, b2⟩ := unhide bx'
  have y0 := (World.cell?_of_block (a := ⟨w12.heap.size, 0, none⟩) k0).trans a0
  have y1 := (World.cell?_of_block (a := ⟨w12.heap.size, 1, none⟩) k0).trans a1
  have y2 := (World.cell?_of_block (a := ⟨w12.heap.size, 2, none⟩) k0).trans a2
  have y3 := (World.cell?_of_block (a := ⟨w12.heap.size + 1, 0, none⟩) k1).trans b0
  have y4 := (World.cell?_of_block (a := ⟨w12.heap.size + 1, 1, none⟩) k1).trans b1
  have y5 := (World.cell?_of_block (a := ⟨w12.heap.size + 1, 2, none⟩) k1).trans b2
  clear C10 kp k0 k1 a0 a1 a2 b0 b1 b2 bx' g2 z2
  go_wp2_with fail
  obtain ⟨d0, hd0⟩ : ∃ d0, d0 = w12.heap.size := ⟨_, rfl⟩
  rw [← hd0] at y0 y1 y2 y3 y4 y5 ⊢
  clear hd0
  have BX : Hid (∀ y : World, y.heap[d0]? = w13.heap[d0]? ∧ y.heap[d0 + 1]? = w13.heap[d0 + 1]? → (y.cell? ⟨d0, 0, none⟩ = some (.int .i64 3) ∧ y.cell? ⟨d0, 1, none⟩ = some (.int .i64 0) ∧ y.cell? ⟨d0, 2, none⟩ = some (.int .i64 0)) ∧ (y.cell? ⟨d0 + 1, 0, none⟩ = some (.int .i64 0) ∧ y.cell? ⟨d0 + 1, 1, none⟩ = some (.int .i64 2) ∧ y.cell? ⟨d0 + 1, 2, none⟩ = some (.int .u64 2))) := hide fun y hy =>
    ⟨⟨(World.cell?_of_block (a := ⟨d0, 0, none⟩) hy.1).trans y0, (World.cell?_of_block (a := ⟨d0, 1, none⟩) hy.1).trans y1, (World.cell?_of_block (a := ⟨d0, 2, none⟩) hy.1).trans y2⟩, (World.cell?_of_block (a := ⟨d0 + 1, 0, none⟩) hy.2).trans y3, (World.cell?_of_block (a := ⟨d0 + 1, 1, none⟩) hy.2).trans y4, (World.cell?_of_block (a := ⟨d0 + 1, 2, none⟩) hy.2).trans y5⟩
  have lt0 : Hid (d0 + 1 < w13.heap.size) := hide (World.block_lt_of_cell? w13 _ y3)
  clear y0 y1 y2 y3 y4 y5
  dsimp only [List.append]
  refine wp_region_noPanic ?_
  refine wp_region_held_drew (S := fun (y : World) => y.heap[d0]? = w13.heap[d0]? ∧ y.heap[d0 + 1]? = w13.heap[d0 + 1]?) (by kernel_rfl) ⟨rfl, rfl⟩ (fun hHeld => ?_)
  obtain ⟨y1, hy1⟩ : ∃ y, y = w13.drew := ⟨_, rfl⟩
  have gy : Hid (G w13 y1) := hide (by rw [hy1]; exact G.drewN w13 1)
  rw [← hy1] at hHeld ⊢
  clear hy1
  refine wpAnyH_take (i := 0) (v := .int .i64 0) rfl (by kernel_rfl) (by kernel_rfl) (by kernel_rfl) (fun _ _ _ h => h) (Or.inl ⟨by rfl, fun w hSw => by go_simp⟩) (by assumption) ?_
  try simp only [Act.put, List.getElem_toArray, List.getElem_cons_zero, List.setIfInBounds_toArray, List.set_cons_zero, List.set_cons_succ]
  refine wpAnyH_take (i := 1) (v := .bool true) rfl (by kernel_rfl) (by kernel_rfl) (by kernel_rfl) (fun _ _ _ h => h) (Or.inl ⟨by rfl, fun w hSw => by go_simp⟩) (by assumption) ?_
  try simp only [Act.put, List.getElem_toArray, List.getElem_cons_succ, List.getElem_cons_zero, List.setIfInBounds_toArray, List.set_cons_zero, List.set_cons_succ]
  refine wpAnyH_take (i := 2) (v := .bool true) rfl (by kernel_rfl) (by kernel_rfl) (by kernel_rfl) (fun _ _ _ h => h) (Or.inl ⟨by rfl, fun w hSw => by go_simp⟩) (by assumption) ?_
  try simp only [Act.put, List.getElem_toArray, List.getElem_cons_succ, List.getElem_cons_zero, List.setIfInBounds_toArray, List.set_cons_zero, List.set_cons_succ]
  refine wpAnyH_take (i := 3) (v := .int .i64 0) rfl (by kernel_rfl) (by kernel_rfl) (by kernel_rfl) (fun _ _ _ h => h) (Or.inl ⟨by rfl, fun w hSw => by go_simp⟩) (by assumption) ?_
  try simp only [Act.put, List.getElem_toArray, List.getElem_cons_succ, List.getElem_cons_zero, List.setIfInBounds_toArray, List.set_cons_zero, List.set_cons_succ]
  refine wpAnyH_take (i := 4) (v := .bool true) rfl (by kernel_rfl) (by kernel_rfl) (by kernel_rfl) (fun _ _ _ h => h) (Or.inl ⟨by rfl, fun w hSw => by go_simp⟩) (by assumption) ?_
  try simp only [Act.put, List.getElem_toArray, List.getElem_cons_succ, List.getElem_cons_zero, List.setIfInBounds_toArray, List.set_cons_zero, List.set_cons_succ]
  refine wpAnyH_take (i := 5) (v := .bool true) rfl (by kernel_rfl) (by kernel_rfl) (by kernel_rfl) (fun _ _ _ h => h) (Or.inl ⟨by rfl, fun w hSw => by go_simp⟩) (by assumption) ?_
  try simp only [Act.put, List.getElem_toArray, List.getElem_cons_succ, List.getElem_cons_zero, List.setIfInBounds_toArray, List.set_cons_zero, List.set_cons_succ]
  refine wpAnyH_take (i := 6) (v := .bool true) rfl (by kernel_rfl) (by kernel_rfl) (by kernel_rfl) (fun _ _ _ h => h) (Or.inl ⟨by rfl, fun w hSw => by go_simp⟩) (by assumption) ?_
  try simp only [Act.put, List.getElem_toArray, List.getElem_cons_succ, List.getElem_cons_zero, List.setIfInBounds_toArray, List.set_cons_zero, List.set_cons_succ]
  refine wpAnyH_take (i := 7) (v := .int .i64 64) rfl (by kernel_rfl) (by kernel_rfl) (by kernel_rfl) (fun _ _ _ h => h) (Or.inl ⟨by rfl, fun w hSw => by go_simp⟩) (by assumption) ?_
  try simp only [Act.put, List.getElem_toArray, List.getElem_cons_succ, List.getElem_cons_zero, List.setIfInBounds_toArray, List.set_cons_zero, List.set_cons_succ]
  refine wpAnyH_take (i := 8) (v := .bool true) rfl (by kernel_rfl) (by kernel_rfl) (by kernel_rfl) (fun _ _ _ h => h) (Or.inl ⟨by rfl, fun w hSw => by go_simp⟩) (by assumption) ?_
  try simp only [Act.put, List.getElem_toArray, List.getElem_cons_succ, List.getElem_cons_zero, List.setIfInBounds_toArray, List.set_cons_zero, List.set_cons_succ]
  refine wpAnyH_take (i := 9) (v := .bool true) rfl (by kernel_rfl) (by kernel_rfl) (by kernel_rfl) (fun _ _ _ h => h) (Or.inl ⟨by rfl, fun w hSw => by go_simp⟩) (by assumption) ?_
  try simp only [Act.put, List.getElem_toArray, List.getElem_cons_succ, List.getElem_cons_zero, List.setIfInBounds_toArray, List.set_cons_zero, List.set_cons_succ]
  refine wpAnyH_take (i := 10) (v := .bool true) rfl (by kernel_rfl) (by kernel_rfl) (by kernel_rfl) (fun _ _ _ h => h) (Or.inl ⟨by rfl, fun w hSw => by go_simp⟩) (by assumption) ?_
  try simp only [Act.put, List.getElem_toArray, List.getElem_cons_succ, List.getElem_cons_zero, List.setIfInBounds_toArray, List.set_cons_zero, List.set_cons_succ]
  refine wpAnyH_take (i := 11) (v := .int .i64 68) rfl (by kernel_rfl) (by kernel_rfl) (by kernel_rfl) (fun _ _ _ h => h) (Or.inl ⟨by rfl, fun w hSw => by go_simp⟩) (by assumption) ?_
  try simp only [Act.put, List.getElem_toArray, List.getElem_cons_succ, List.getElem_cons_zero, List.setIfInBounds_toArray, List.set_cons_zero, List.set_cons_succ]
  refine wpAnyH_take (i := 12) (v := .bool true) rfl (by kernel_rfl) (by kernel_rfl) (by kernel_rfl) (fun _ _ _ h => h) (Or.inl ⟨by rfl, fun w hSw => by go_simp⟩) (by assumption) ?_
  try simp only [Act.put, List.getElem_toArray, List.getElem_cons_succ, List.getElem_cons_zero, List.setIfInBounds_toArray, List.set_cons_zero, List.set_cons_succ]
  refine wpAnyH_take (i := 13) (v := .bool true) rfl (by kernel_rfl) (by kernel_rfl) (by kernel_rfl) (fun _ _ _ h => h) (Or.inl ⟨by rfl, fun w hSw => by go_simp⟩) (by assumption) ?_
  try simp only [Act.put, List.getElem_toArray, List.getElem_cons_succ, List.getElem_cons_zero, List.setIfInBounds_toArray, List.set_cons_zero, List.set_cons_succ]
  refine wpAnyH_take (i := 14) (v := .bool true) rfl (by kernel_rfl) (by kernel_rfl) (by kernel_rfl) (fun _ _ _ h => h) (Or.inl ⟨by rfl, fun w hSw => by go_simp⟩) (by assumption) ?_
  try simp only [Act.put, List.getElem_toArray, List.getElem_cons_succ, List.getElem_cons_zero, List.setIfInBounds_toArray, List.set_cons_zero, List.set_cons_succ]
  refine wpAnyH_take (i := 15) (v := .int .i64 0) rfl (by kernel_rfl) (by kernel_rfl) (by kernel_rfl) (fun _ _ _ h => h) (Or.inl ⟨by rfl, fun w hSw => by go_simp⟩) (by assumption) ?_
  try simp only [Act.put, List.getElem_toArray, List.getElem_cons_succ, List.getElem_cons_zero, List.setIfInBounds_toArray, List.set_cons_zero, List.set_cons_succ]
  refine wpAnyH_take (i := 16) (v := .bool true) rfl (by kernel_rfl) (by kernel_rfl) (by kernel_rfl) (fun _ _ _ h => h) (Or.inl ⟨by rfl, fun w hSw => by go_simp⟩) (by assumption) ?_
  try simp only [Act.put, List.getElem_toArray, List.getElem_cons_succ, List.getElem_cons_zero, List.setIfInBounds_toArray, List.set_cons_zero, List.set_cons_succ]
  refine wpAnyH_take (i := 17) (v := .bool true) rfl (by kernel_rfl) (by kernel_rfl) (by kernel_rfl) (fun _ _ _ h => h) (Or.inl ⟨by rfl, fun w hSw => by go_simp⟩) (by assumption) ?_
  try simp only [Act.put, List.getElem_toArray, List.getElem_cons_succ, List.getElem_cons_zero, List.setIfInBounds_toArray, List.set_cons_zero, List.set_cons_succ]
  refine wpAnyH_take (i := 18) (v := .bool true) rfl (by kernel_rfl) (by kernel_rfl) (by kernel_rfl) (fun _ _ _ h => h) (Or.inl ⟨by rfl, fun w hSw => by go_simp⟩) (by assumption) ?_
  try simp only [Act.put, List.getElem_toArray, List.getElem_cons_succ, List.getElem_cons_zero, List.setIfInBounds_toArray, List.set_cons_zero, List.set_cons_succ]
  refine wpAnyH_take (i := 19) (v := .int .i64 0) rfl (by kernel_rfl) (by kernel_rfl) (by kernel_rfl) (fun _ _ _ h => h) (Or.inl ⟨by rfl, fun w hSw => by go_simp⟩) (by assumption) ?_
  try simp only [Act.put, List.getElem_toArray, List.getElem_cons_succ, List.getElem_cons_zero, List.setIfInBounds_toArray, List.set_cons_zero, List.set_cons_succ]
  refine wpAnyH_take (i := 20) (v := .bool true) rfl (by kernel_rfl) (by kernel_rfl) (by kernel_rfl) (fun _ _ _ h => h) (Or.inl ⟨by rfl, fun w hSw => by go_simp⟩) (by assumption) ?_
  try simp only [Act.put, List.getElem_toArray, List.getElem_cons_succ, List.getElem_cons_zero, List.setIfInBounds_toArray, List.set_cons_zero, List.set_cons_succ]
  refine wpAnyH_take (i := 21) (v := .bool true) rfl (by kernel_rfl) (by kernel_rfl) (by kernel_rfl) (fun _ _ _ h => h) (Or.inl ⟨by rfl, fun w hSw => by go_simp⟩) (by assumption) ?_
  try simp only [Act.put, List.getElem_toArray, List.getElem_cons_succ, List.getElem_cons_zero, List.setIfInBounds_toArray, List.set_cons_zero, List.set_cons_succ]
  refine wpAnyH_take (i := 22) (v := .bool true) rfl (by kernel_rfl) (by kernel_rfl) (by kernel_rfl) (fun _ _ _ h => h) (Or.inl ⟨by rfl, fun w hSw => by go_simp⟩) (by assumption) ?_
  try simp only [Act.put, List.getElem_toArray, List.getElem_cons_succ, List.getElem_cons_zero, List.setIfInBounds_toArray, List.set_cons_zero, List.set_cons_succ]
  refine wpAnyH_take (i := 23) (v := .int .i64 0) rfl (by kernel_rfl) (by kernel_rfl) (by kernel_rfl) (fun _ _ _ h => h) (Or.inl ⟨by rfl, fun w hSw => by go_simp⟩) (by assumption) ?_
  try simp only [Act.put, List.getElem_toArray, List.getElem_cons_succ, List.getElem_cons_zero, List.setIfInBounds_toArray, List.set_cons_zero, List.set_cons_succ]
  refine wpAnyH_take (i := 24) (v := .bool true) rfl (by kernel_rfl) (by kernel_rfl) (by kernel_rfl) (fun _ _ _ h => h) (Or.inl ⟨by rfl, fun w hSw => by go_simp⟩) (by assumption) ?_
  try simp only [Act.put, List.getElem_toArray, List.getElem_cons_succ, List.getElem_cons_zero, List.setIfInBounds_toArray, List.set_cons_zero, List.set_cons_succ]
  refine wpAnyH_take (i := 25) (v := .bool true) rfl (by kernel_rfl) (by kernel_rfl) (by kernel_rfl) (fun _ _ _ h => h) (Or.inl ⟨by rfl, fun w hSw => by go_simp⟩) (by assumption) ?_
  try simp only [Act.put, List.getElem_toArray, List.getElem_cons_succ, List.getElem_cons_zero, List.setIfInBounds_toArray, List.set_cons_zero, List.set_cons_succ]
  refine wpAnyH_take (i := 26) (v := .bool true) rfl (by kernel_rfl) (by kernel_rfl) (by kernel_rfl) (fun _ _ _ h => h) (Or.inl ⟨by rfl, fun w hSw => by go_simp⟩) (by assumption) ?_
  try simp only [Act.put, List.getElem_toArray, List.getElem_cons_succ, List.getElem_cons_zero, List.setIfInBounds_toArray, List.set_cons_zero, List.set_cons_succ]
  refine wpAnyH_take (i := 27) (v := .int .i64 9) rfl (by kernel_rfl) (by kernel_rfl) (by kernel_rfl) (fun _ _ _ h => h) (Or.inl ⟨by rfl, fun w hSw => by go_simp⟩) (by assumption) ?_
  try simp only [Act.put, List.getElem_toArray, List.getElem_cons_succ, List.getElem_cons_zero, List.setIfInBounds_toArray, List.set_cons_zero, List.set_cons_succ]
  refine wpAnyH_take (i := 28) (v := .bool true) rfl (by kernel_rfl) (by kernel_rfl) (by kernel_rfl) (fun _ _ _ h => h) (Or.inl ⟨by rfl, fun w hSw => by go_simp⟩) (by assumption) ?_
  try simp only [Act.put, List.getElem_toArray, List.getElem_cons_succ, List.getElem_cons_zero, List.setIfInBounds_toArray, List.set_cons_zero, List.set_cons_succ]
  refine wpAnyH_take (i := 29) (v := .bool true) rfl (by kernel_rfl) (by kernel_rfl) (by kernel_rfl) (fun _ _ _ h => h) (Or.inl ⟨by rfl, fun w hSw => by go_simp⟩) (by assumption) ?_
  try simp only [Act.put, List.getElem_toArray, List.getElem_cons_succ, List.getElem_cons_zero, List.setIfInBounds_toArray, List.set_cons_zero, List.set_cons_succ]
  refine wpAnyH_take (i := 30) (v := .bool true) rfl (by kernel_rfl) (by kernel_rfl) (by kernel_rfl) (fun _ _ _ h => h) (Or.inl ⟨by rfl, fun w hSw => by go_simp⟩) (by assumption) ?_
  try simp only [Act.put, List.getElem_toArray, List.getElem_cons_succ, List.getElem_cons_zero, List.setIfInBounds_toArray, List.set_cons_zero, List.set_cons_succ]
  refine wpAnyH_take (i := 31) (v := .int .i64 0) rfl (by kernel_rfl) (by kernel_rfl) (by kernel_rfl) (fun _ _ _ h => h) (Or.inl ⟨by rfl, fun w hSw => by go_simp⟩) (by assumption) ?_
  try simp only [Act.put, List.getElem_toArray, List.getElem_cons_succ, List.getElem_cons_zero, List.setIfInBounds_toArray, List.set_cons_zero, List.set_cons_succ]
  refine wpAnyH_take (i := 32) (v := .bool true) rfl (by kernel_rfl) (by kernel_rfl) (by kernel_rfl) (fun _ _ _ h => h) (Or.inl ⟨by rfl, fun w hSw => by go_simp⟩) (by assumption) ?_
  try simp only [Act.put, List.getElem_toArray, List.getElem_cons_succ, List.getElem_cons_zero, List.setIfInBounds_toArray, List.set_cons_zero, List.set_cons_succ]
  refine wpAnyH_take (i := 33) (v := .bool true) rfl (by kernel_rfl) (by kernel_rfl) (by kernel_rfl) (fun _ _ _ h => h) (Or.inl ⟨by rfl, fun w hSw => by go_simp⟩) (by assumption) ?_
  try simp only [Act.put, List.getElem_toArray, List.getElem_cons_succ, List.getElem_cons_zero, List.setIfInBounds_toArray, List.set_cons_zero, List.set_cons_succ]
  refine wpAnyH_take (i := 34) (v := .bool true) rfl (by kernel_rfl) (by kernel_rfl) (by kernel_rfl) (fun _ _ _ h => h) (Or.inl ⟨by rfl, fun w hSw => by go_simp⟩) (by assumption) ?_
  try simp only [Act.put, List.getElem_toArray, List.getElem_cons_succ, List.getElem_cons_zero, List.setIfInBounds_toArray, List.set_cons_zero, List.set_cons_succ]
  refine wpAnyH_take (i := 35) (v := .int .i64 0) rfl (by kernel_rfl) (by kernel_rfl) (by kernel_rfl) (fun _ _ _ h => h) (Or.inl ⟨by rfl, fun w hSw => by go_simp⟩) (by assumption) ?_
  try simp only [Act.put, List.getElem_toArray, List.getElem_cons_succ, List.getElem_cons_zero, List.setIfInBounds_toArray, List.set_cons_zero, List.set_cons_succ]
  refine wpAnyH_take (i := 36) (v := .bool true) rfl (by kernel_rfl) (by kernel_rfl) (by kernel_rfl) (fun _ _ _ h => h) (Or.inl ⟨by rfl, fun w hSw => by go_simp⟩) (by assumption) ?_
  try simp only [Act.put, List.getElem_toArray, List.getElem_cons_succ, List.getElem_cons_zero, List.setIfInBounds_toArray, List.set_cons_zero, List.set_cons_succ]
  refine wpAnyH_take (i := 37) (v := .bool true) rfl (by kernel_rfl) (by kernel_rfl) (by kernel_rfl) (fun _ _ _ h => h) (Or.inl ⟨by rfl, fun w hSw => by go_simp⟩) (by assumption) ?_
  try simp only [Act.put, List.getElem_toArray, List.getElem_cons_succ, List.getElem_cons_zero, List.setIfInBounds_toArray, List.set_cons_zero, List.set_cons_succ]
  refine wpAnyH_take (i := 38) (v := .bool true) rfl (by kernel_rfl) (by kernel_rfl) (by kernel_rfl) (fun _ _ _ h => h) (Or.inl ⟨by rfl, fun w hSw => by go_simp⟩) (by assumption) ?_
  try simp only [Act.put, List.getElem_toArray, List.getElem_cons_succ, List.getElem_cons_zero, List.setIfInBounds_toArray, List.set_cons_zero, List.set_cons_succ]
  refine wpAnyH_take (i := 39) (v := .int .i64 5) rfl (by kernel_rfl) (by kernel_rfl) (by kernel_rfl) (fun _ _ _ h => h) (Or.inl ⟨by rfl, fun w hSw => by go_simp⟩) (by assumption) ?_
  try simp only [Act.put, List.getElem_toArray, List.getElem_cons_succ, List.getElem_cons_zero, List.setIfInBounds_toArray, List.set_cons_zero, List.set_cons_succ]
  refine wpAnyH_take (i := 40) (v := .bool true) rfl (by kernel_rfl) (by kernel_rfl) (by kernel_rfl) (fun _ _ _ h => h) (Or.inl ⟨by rfl, fun w hSw => by go_simp⟩) (by assumption) ?_
  try simp only [Act.put, List.getElem_toArray, List.getElem_cons_succ, List.getElem_cons_zero, List.setIfInBounds_toArray, List.set_cons_zero, List.set_cons_succ]
  refine wpAnyH_take (i := 41) (v := .bool true) rfl (by kernel_rfl) (by kernel_rfl) (by kernel_rfl) (fun _ _ _ h => h) (Or.inl ⟨by rfl, fun w hSw => by go_simp⟩) (by assumption) ?_
  try simp only [Act.put, List.getElem_toArray, List.getElem_cons_succ, List.getElem_cons_zero, List.setIfInBounds_toArray, List.set_cons_zero, List.set_cons_succ]
  refine wpAnyH_take (i := 42) (v := .bool true) rfl (by kernel_rfl) (by kernel_rfl) (by kernel_rfl) (fun _ _ _ h => h) (Or.inl ⟨by rfl, fun w hSw => by go_simp⟩) (by assumption) ?_
  try simp only [Act.put, List.getElem_toArray, List.getElem_cons_succ, List.getElem_cons_zero, List.setIfInBounds_toArray, List.set_cons_zero, List.set_cons_succ]
  refine wpAnyH_take (i := 43) (v := .int .i64 0) rfl (by kernel_rfl) (by kernel_rfl) (by kernel_rfl) (fun _ _ _ h => h) (Or.inl ⟨by rfl, fun w hSw => by go_simp⟩) (by assumption) ?_
  try simp only [Act.put, List.getElem_toArray, List.getElem_cons_succ, List.getElem_cons_zero, List.setIfInBounds_toArray, List.set_cons_zero, List.set_cons_succ]
  refine wpAnyH_take (i := 44) (v := .bool true) rfl (by kernel_rfl) (by kernel_rfl) (by kernel_rfl) (fun _ _ _ h => h) (Or.inl ⟨by rfl, fun w hSw => by go_simp⟩) (by assumption) ?_
  try simp only [Act.put, List.getElem_toArray, List.getElem_cons_succ, List.getElem_cons_zero, List.setIfInBounds_toArray, List.set_cons_zero, List.set_cons_succ]
  refine wpAnyH_take (i := 45) (v := .bool true) rfl (by kernel_rfl) (by kernel_rfl) (by kernel_rfl) (fun _ _ _ h => h) (Or.inl ⟨by rfl, fun w hSw => by go_simp⟩) (by assumption) ?_
  try simp only [Act.put, List.getElem_toArray, List.getElem_cons_succ, List.getElem_cons_zero, List.setIfInBounds_toArray, List.set_cons_zero, List.set_cons_succ]
  refine wpAnyH_take (i := 46) (v := .bool true) rfl (by kernel_rfl) (by kernel_rfl) (by kernel_rfl) (fun _ _ _ h => h) (Or.inl ⟨by rfl, fun w hSw => by go_simp⟩) (by assumption) ?_
  try simp only [Act.put, List.getElem_toArray, List.getElem_cons_succ, List.getElem_cons_zero, List.setIfInBounds_toArray, List.set_cons_zero, List.set_cons_succ]
  refine wpAnyH_take (i := 47) (v := .int .i64 3) rfl (by kernel_rfl) (by kernel_rfl) (by kernel_rfl) (fun _ _ _ h => h) (Or.inl ⟨by rfl, fun w hSw => by go_simp⟩) (by assumption) ?_
  try simp only [Act.put, List.getElem_toArray, List.getElem_cons_succ, List.getElem_cons_zero, List.setIfInBounds_toArray, List.set_cons_zero, List.set_cons_succ]
  refine wpAnyH_take (i := 48) (v := .bool true) rfl (by kernel_rfl) (by kernel_rfl) (by kernel_rfl) (fun _ _ _ h => h) (Or.inl ⟨by rfl, fun w hSw => by go_simp⟩) (by assumption) ?_
  try simp only [Act.put, List.getElem_toArray, List.getElem_cons_succ, List.getElem_cons_zero, List.setIfInBounds_toArray, List.set_cons_zero, List.set_cons_succ]
  refine wpAnyH_take (i := 49) (v := .bool true) rfl (by kernel_rfl) (by kernel_rfl) (by kernel_rfl) (fun _ _ _ h => h) (Or.inl ⟨by rfl, fun w hSw => by go_simp⟩) (by assumption) ?_
  try simp only [Act.put, List.getElem_toArray, List.getElem_cons_succ, List.getElem_cons_zero, List.setIfInBounds_toArray, List.set_cons_zero, List.set_cons_succ]
  refine wpAnyH_take (i := 50) (v := .bool true) rfl (by kernel_rfl) (by kernel_rfl) (by kernel_rfl) (fun _ _ _ h => h) (Or.inl ⟨by rfl, fun w hSw => by go_simp⟩) (by assumption) ?_
  try simp only [Act.put, List.getElem_toArray, List.getElem_cons_succ, List.getElem_cons_zero, List.setIfInBounds_toArray, List.set_cons_zero, List.set_cons_succ]
  refine wpAnyH_take (i := 51) (v := .int .i64 0) rfl (by kernel_rfl) (by kernel_rfl) (by kernel_rfl) (fun _ _ _ h => h) (Or.inl ⟨by rfl, fun w hSw => by go_simp⟩) (by assumption) ?_
  try simp only [Act.put, List.getElem_toArray, List.getElem_cons_succ, List.getElem_cons_zero, List.setIfInBounds_toArray, List.set_cons_zero, List.set_cons_succ]
  refine wpAnyH_take (i := 52) (v := .bool true) rfl (by kernel_rfl) (by kernel_rfl) (by kernel_rfl) (fun _ _ _ h => h) (Or.inl ⟨by rfl, fun w hSw => by go_simp⟩) (by assumption) ?_
  try simp only [Act.put, List.getElem_toArray, List.getElem_cons_succ, List.getElem_cons_zero, List.setIfInBounds_toArray, List.set_cons_zero, List.set_cons_succ]
  refine wpAnyH_take (i := 53) (v := .bool true) rfl (by kernel_rfl) (by kernel_rfl) (by kernel_rfl) (fun _ _ _ h => h) (Or.inl ⟨by rfl, fun w hSw => by go_simp⟩) (by assumption) ?_
  try simp only [Act.put, List.getElem_toArray, List.getElem_cons_succ, List.getElem_cons_zero, List.setIfInBounds_toArray, List.set_cons_zero, List.set_cons_succ]
  refine wpAnyH_take (i := 54) (v := .bool true) rfl (by kernel_rfl) (by kernel_rfl) (by kernel_rfl) (fun _ _ _ h => h) (Or.inl ⟨by rfl, fun w hSw => by go_simp⟩) (by assumption) ?_
  try simp only [Act.put, List.getElem_toArray, List.getElem_cons_succ, List.getElem_cons_zero, List.setIfInBounds_toArray, List.set_cons_zero, List.set_cons_succ]
  refine wpAnyH_take (i := 55) (v := .bool true) rfl (by kernel_rfl) (by kernel_rfl) (by kernel_rfl) (fun _ _ _ h => h) (Or.inl ⟨by rfl, fun w hSw => by go_simp⟩) (by assumption) ?_
  try simp only [Act.put, List.getElem_toArray, List.getElem_cons_succ, List.getElem_cons_zero, List.setIfInBounds_toArray, List.set_cons_zero, List.set_cons_succ]
  refine wpAnyH_take (i := 56) (v := .bool true) rfl (by kernel_rfl) (by kernel_rfl) (by kernel_rfl) (fun _ _ _ h => h) (Or.inl ⟨by rfl, fun w hSw => by go_simp⟩) (by assumption) ?_
  try simp only [Act.put, List.getElem_toArray, List.getElem_cons_succ, List.getElem_cons_zero, List.setIfInBounds_toArray, List.set_cons_zero, List.set_cons_succ]
  refine wpAnyH_take (i := 57) (v := .bool true) rfl (by kernel_rfl) (by kernel_rfl) (by kernel_rfl) (fun _ _ _ h => h) (Or.inl ⟨by rfl, fun w hSw => by go_simp⟩) (by assumption) ?_
  try simp only [Act.put, List.getElem_toArray, List.getElem_cons_succ, List.getElem_cons_zero, List.setIfInBounds_toArray, List.set_cons_zero, List.set_cons_succ]
  refine wpAnyH_take (i := 58) (v := .agg #[.int .i64 3, .int .i64 0, .int .i64 0]) rfl (by kernel_rfl) (by kernel_rfl) (by kernel_rfl) (fun _ _ _ h => h) (Or.inl ⟨by rfl, fun w hSw => by obtain ⟨⟨t0, t1, t2⟩, t3, t4, t5⟩ := unhide BX w hSw; go_simp⟩) (by assumption) ?_
  try simp only [Act.put, List.getElem_toArray, List.getElem_cons_succ, List.getElem_cons_zero, List.setIfInBounds_toArray, List.set_cons_zero, List.set_cons_succ]
  refine wpAnyH_take (i := 59) (v := .agg #[.int .i64 3, .int .i64 0, .int .i64 0]) rfl (by kernel_rfl) (by kernel_rfl) (by kernel_rfl) (fun _ _ _ h => h) (Or.inl ⟨by rfl, fun w hSw => by go_simp⟩) (by assumption) ?_
  try simp only [Act.put, List.getElem_toArray, List.getElem_cons_succ, List.getElem_cons_zero, List.setIfInBounds_toArray, List.set_cons_zero, List.set_cons_succ]
  refine wpAnyH_take (i := 60) (v := .bool true) rfl (by kernel_rfl) (by kernel_rfl) (by kernel_rfl) (fun _ _ _ h => h) (Or.inl ⟨by rfl, fun w hSw => by go_simp⟩) (by assumption) ?_
  try simp only [Act.put, List.getElem_toArray, List.getElem_cons_succ, List.getElem_cons_zero, List.setIfInBounds_toArray, List.set_cons_zero, List.set_cons_succ]
  refine wpAnyH_take (i := 61) (v := .bool true) rfl (by kernel_rfl) (by kernel_rfl) (by kernel_rfl) (fun _ _ _ h => h) (Or.inl ⟨by rfl, fun w hSw => by go_simp⟩) (by assumption) ?_
  try simp only [Act.put, List.getElem_toArray, List.getElem_cons_succ, List.getElem_cons_zero, List.setIfInBounds_toArray, List.set_cons_zero, List.set_cons_succ]
  refine wpAnyH_take (i := 62) (v := .bool true) rfl (by kernel_rfl) (by kernel_rfl) (by kernel_rfl) (fun _ _ _ h => h) (Or.inl ⟨by rfl, fun w hSw => by go_simp⟩) (by assumption) ?_
  try simp only [Act.put, List.getElem_toArray, List.getElem_cons_succ, List.getElem_cons_zero, List.setIfInBounds_toArray, List.set_cons_zero, List.set_cons_succ]
  refine wpAnyH_take (i := 63) (v := .agg #[.int .i64 0, .int .i64 2, .int .u64 2]) rfl (by kernel_rfl) (by kernel_rfl) (by kernel_rfl) (fun _ _ _ h => h) (Or.inl ⟨by rfl, fun w hSw => by obtain ⟨⟨t0, t1, t2⟩, t3, t4, t5⟩ := unhide BX w hSw; go_simp⟩) (by assumption) ?_
  try simp only [Act.put, List.getElem_toArray, List.getElem_cons_succ, List.getElem_cons_zero, List.setIfInBounds_toArray, List.set_cons_zero, List.set_cons_succ]
  have CS := hide (shapes14 y1)
  refine wpAnyH_ready (rs := [64]) (by kernel_rfl) (by simp) ?_
  refine AllReadyH.cons rfl (fun K hK => ?_) AllReadyH.nil
  go_simp
  refine (unhide CS).mono ?_
  rintro e w14 ⟨rfl, hw14⟩
  have g14 : G y1 w14 := by rw [hw14]; exact G.alloc _ _
  have S14 := hide ((unhide S13).gr ((unhide gy).trans g14))
  have z0 := shp3_at y1 0 ⟨0, 2, 2⟩ rfl
  rw [← hw14] at z0
  have z1 : y1.heap.size < w14.heap.size := by rw [hw14, World.size_alloc]; omega
  have z3 : w14.cell? ⟨y1.heap.size, 0, none⟩ = some (.int .i64 0) := z0.1
  have z4 : w14.cell? ⟨y1.heap.size, 1, none⟩ = some (.int .i64 2) := z0.2.1
  have z5 : w14.cell? ⟨y1.heap.size, 2, none⟩ = some (.int .u64 2) := z0.2.2
  clear z0
  have hS14 : w14.heap[d0]? = w13.heap[d0]? ∧ w14.heap[d0 + 1]? = w13.heap[d0 + 1]? := ⟨(((unhide gy).trans g14).block d0 (by have := unhide lt0; omega)), (((unhide gy).trans g14).block (d0 + 1) (unhide lt0))⟩
  replace z3 := hide z3
  replace z4 := hide z4
  replace z5 := hide z5
  replace z1 := hide z1
  clear hw14 g14 CS S13
  go_wp2_with fail
  refine hK.out _ _ hS14 (fun hH9 => ?_)
  clear hK K hHeld hH9
  try simp only [Act.put, List.getElem_toArray, List.getElem_cons_succ, List.getElem_cons_zero, List.setIfInBounds_toArray, List.set_cons_zero, List.set_cons_succ]
  refine wpAnyH_take (i := 65) (v := .pointer (some ⟨y1.heap.size, 0, none⟩)) rfl (by kernel_rfl) (by kernel_rfl) (by kernel_rfl) (fun _ _ _ h => h) (Or.inl ⟨by rfl, fun w hSw => by go_simp⟩) (by assumption) ?_
  try simp only [Act.put, List.getElem_toArray, List.getElem_cons_succ, List.getElem_cons_zero, List.setIfInBounds_toArray, List.set_cons_zero, List.set_cons_succ]
  refine wpAnyH_ready (rs := [66]) (by kernel_rfl) (by simp) ?_
  refine AllReadyH.cons rfl (fun K hK => ?_) AllReadyH.nil
  have t0 := unhide z3
  have t1 := unhide z4
  have t2 := unhide z5
  have t3 := unhide z1
  go_wp2_with fail
  refine hK.out _ _ hS14 (fun hH9 => ?_)
  clear hK K t0 t1 t2 t3 hH9
  try simp only [Act.put, List.getElem_toArray, List.getElem_cons_succ, List.getElem_cons_zero, List.setIfInBounds_toArray, List.set_cons_zero, List.set_cons_succ]
  refine wpAnyH_take (i := 67) (v := .bool true) rfl (by kernel_rfl) (by kernel_rfl) (by kernel_rfl) (fun _ _ _ h => h) (Or.inl ⟨by rfl, fun w hSw => by go_simp⟩) (by assumption) ?_
  try simp only [Act.put, List.getElem_toArray, List.getElem_cons_succ, List.getElem_cons_zero, List.setIfInBounds_toArray, List.set_cons_zero, List.set_cons_succ]
  refine wpAnyH_take (i := 68) (v := .bool true) rfl (by kernel_rfl) (by kernel_rfl) (by kernel_rfl) (fun _ _ _ h => h) (Or.inl ⟨by rfl, fun w hSw => by go_simp⟩) (by assumption) ?_
  try simp only [Act.put, List.getElem_toArray, List.getElem_cons_succ, List.getElem_cons_zero, List.setIfInBounds_toArray, List.set_cons_zero, List.set_cons_succ]
  refine wpAnyH_take (i := 69) (v := .bool true) rfl (by kernel_rfl) (by kernel_rfl) (by kernel_rfl) (fun _ _ _ h => h) (Or.inl ⟨by rfl, fun w hSw => by go_simp⟩) (by assumption) ?_
  try simp only [Act.put, List.getElem_toArray, List.getElem_cons_succ, List.getElem_cons_zero, List.setIfInBounds_toArray, List.set_cons_zero, List.set_cons_succ]
  refine wpAnyH_take (i := 70) (v := .int .i64 1) rfl (by kernel_rfl) (by kernel_rfl) (by kernel_rfl) (fun _ _ _ h => h) (Or.inl ⟨by rfl, fun w hSw => by go_simp⟩) (by assumption) ?_
  try simp only [Act.put, List.getElem_toArray, List.getElem_cons_succ, List.getElem_cons_zero, List.setIfInBounds_toArray, List.set_cons_zero, List.set_cons_succ]
  refine wpAnyH_take (i := 71) (v := .bool true) rfl (by kernel_rfl) (by kernel_rfl) (by kernel_rfl) (fun _ _ _ h => h) (Or.inl ⟨by rfl, fun w hSw => by go_simp⟩) (by assumption) ?_
  try simp only [Act.put, List.getElem_toArray, List.getElem_cons_succ, List.getElem_cons_zero, List.setIfInBounds_toArray, List.set_cons_zero, List.set_cons_succ]
  refine wpAnyH_take (i := 72) (v := .bool true) rfl (by kernel_rfl) (by kernel_rfl) (by kernel_rfl) (fun _ _ _ h => h) (Or.inl ⟨by rfl, fun w hSw => by go_simp⟩) (by assumption) ?_
  try simp only [Act.put, List.getElem_toArray, List.getElem_cons_succ, List.getElem_cons_zero, List.setIfInBounds_toArray, List.set_cons_zero, List.set_cons_succ]
  refine wpAnyH_take (i := 73) (v := .bool true) rfl (by kernel_rfl) (by kernel_rfl) (by kernel_rfl) (fun _ _ _ h => h) (Or.inl ⟨by rfl, fun w hSw => by go_simp⟩) (by assumption) ?_
  try simp only [Act.put, List.getElem_toArray, List.getElem_cons_succ, List.getElem_cons_zero, List.setIfInBounds_toArray, List.set_cons_zero, List.set_cons_succ]
  refine wpAnyH_take (i := 74) (v := .int .i64 0) rfl (by kernel_rfl) (by kernel_rfl) (by kernel_rfl) (fun _ _ _ h => h) (Or.inl ⟨by rfl, fun w hSw => by go_simp⟩) (by assumption) ?_
  try simp only [Act.put, List.getElem_toArray, List.getElem_cons_succ, List.getElem_cons_zero, List.setIfInBounds_toArray, List.set_cons_zero, List.set_cons_succ]
  refine wpAnyH_take (i := 75) (v := .bool true) rfl (by kernel_rfl) (by kernel_rfl) (by kernel_rfl) (fun _ _ _ h => h) (Or.inl ⟨by rfl, fun w hSw => by go_simp⟩) (by assumption) ?_
  try simp only [Act.put, List.getElem_toArray, List.getElem_cons_succ, List.getElem_cons_zero, List.setIfInBounds_toArray, List.set_cons_zero, List.set_cons_succ]
  refine wpAnyH_take (i := 76) (v := .bool true) rfl (by kernel_rfl) (by kernel_rfl) (by kernel_rfl) (fun _ _ _ h => h) (Or.inl ⟨by rfl, fun w hSw => by go_simp⟩) (by assumption) ?_
  try simp only [Act.put, List.getElem_toArray, List.getElem_cons_succ, List.getElem_cons_zero, List.setIfInBounds_toArray, List.set_cons_zero, List.set_cons_succ]
  refine wpAnyH_take (i := 77) (v := .bool true) rfl (by kernel_rfl) (by kernel_rfl) (by kernel_rfl) (fun _ _ _ h => h) (Or.inl ⟨by rfl, fun w hSw => by go_simp⟩) (by assumption) ?_
  try simp only [Act.put, List.getElem_toArray, List.getElem_cons_succ, List.getElem_cons_zero, List.setIfInBounds_toArray, List.set_cons_zero, List.set_cons_succ]
  refine wpAnyH_take (i := 78) (v := .pointer (some ⟨x.hb, 0, none⟩)) rfl (by kernel_rfl) (by kernel_rfl) (by kernel_rfl) (fun _ _ _ h => h) (Or.inl ⟨by rfl, fun w hSw => by go_simp⟩) (by assumption) ?_
  try simp only [Act.put, List.getElem_toArray, List.getElem_cons_succ, List.getElem_cons_zero, List.setIfInBounds_toArray, List.set_cons_zero, List.set_cons_succ]
  have CF := hide (h_forced S14)
  refine wpAnyH_ready (rs := [79]) (by kernel_rfl) (by simp) ?_
  refine AllReadyH.cons rfl (fun K hK => ?_) AllReadyH.nil
  go_simp
  refine (unhide CF).mono ?_
  rintro e w9' ⟨rfl, hw9⟩
  rw [hw9]
  clear hw9 w9' CF
  go_wp2_with fail
  refine hK.out _ _ hS14 (fun hH9 => ?_)
  clear hK K hH9
  try simp only [Act.put, List.getElem_toArray, List.getElem_cons_succ, List.getElem_cons_zero, List.setIfInBounds_toArray, List.set_cons_zero, List.set_cons_succ]
  refine wpAnyH_take (i := 80) (v := .bool true) rfl (by kernel_rfl) (by kernel_rfl) (by kernel_rfl) (fun _ _ _ h => h) (Or.inl ⟨by rfl, fun w hSw => by go_simp⟩) (by assumption) ?_
  try simp only [Act.put, List.getElem_toArray, List.getElem_cons_succ, List.getElem_cons_zero, List.setIfInBounds_toArray, List.set_cons_zero, List.set_cons_succ]
  refine wpAnyH_take (i := 81) (v := .bool true) rfl (by kernel_rfl) (by kernel_rfl) (by kernel_rfl) (fun _ _ _ h => h) (Or.inl ⟨by rfl, fun w hSw => by go_simp⟩) (by assumption) ?_
  try simp only [Act.put, List.getElem_toArray, List.getElem_cons_succ, List.getElem_cons_zero, List.setIfInBounds_toArray, List.set_cons_zero, List.set_cons_succ]
  refine wpAnyH_take (i := 82) (v := .bool true) rfl (by kernel_rfl) (by kernel_rfl) (by kernel_rfl) (fun _ _ _ h => h) (Or.inl ⟨by rfl, fun w hSw => by go_simp⟩) (by assumption) ?_
  try simp only [Act.put, List.getElem_toArray, List.getElem_cons_succ, List.getElem_cons_zero, List.setIfInBounds_toArray, List.set_cons_zero]
  refine wpAnyH_done (by kernel_rfl) (NoPanic.normal ?_) _
  go_wp2_with fail
  go_ret
  exact ⟨rfl, Below.trans (unhide g1) ((unhide S14).ks.st.below.mono (unhide g1).size)⟩
end Go.Proofs.YtbfgengmojdamaaGreatDoor

/- HeapBounds, plainly: an array of any length, made first; one element of it written. -/
namespace Go.Proofs.YtbfgengmojdamaaGreatDoor
set_option maxRecDepth 100000
open Go.ChangeShapes Go.WideShapes Go.ChangeAt Go.RowKit Go.Maps Go.Deep

/-- Behind Make(1, m + 1). -/
def bt (m : Nat) : Al := ((al0 8).take ((m : Int) + 1)).1
def bq (m : Nat) : Al := ⟨(bt m).a.writeA 64 0 (Hd.pkV ((m : Int) + 1) 1 1), (bt m).u⟩
theorem bt_take : ∀ m : Fin 64, ((al0 8).take ((m.1 : Int) + 1)).2 = (64, 0) := by decide +kernel
def ofB (n : Int) : Option (Int × Int × Int × Hd.Shp) → Bool
  | some (a, b, c, s) => decide (a = n) && decide (b = 1) && decide (c = 1) && decide (s.k = 1) && decide (s.f = 0) && decide (s.m = 0)
  | none => false
theorem ofB_eq {n : Int} : ∀ {o : Option (Int × Int × Int × Hd.Shp)}, ofB n o = true → o = some (n, 1, 1, ⟨1, 0, 0⟩)
  | none, h => by cases h
  | some (a, b, c, s), h => by
    simp only [ofB, Bool.and_eq_true, decide_eq_true_eq] at h
    obtain ⟨⟨⟨⟨⟨rfl, rfl⟩, rfl⟩, h1⟩, h2⟩, h3⟩ := h
    obtain ⟨k, f, m⟩ := s
    obtain rfl : k = 1 := h1
    obtain rfl : f = 0 := h2
    obtain rfl : m = 0 := h3
    rfl
theorem bq_of1 : ∀ m : Fin 64, ofB ((m.1 : Int) + 1) (ofP (bq m.1) ls3 64) = true := by decide +kernel
theorem bq_of (m : Nat) (h : m < 64) : ofP (bq m) ls3 64 = some ((m : Int) + 1, 1, 1, ⟨1, 0, 0⟩) := ofB_eq (bq_of1 ⟨m, h⟩)
theorem bq_in : ∀ m : Fin 64, ∀ k : Fin 64, k.1 ≤ m.1 → (bq m.1).a.inW 64 (k.1 : Int) = true := by decide +kernel
theorem bq_wd : ∀ m : Fin 64, ∀ k : Fin 63, (bq m.1).a.wd (64 + ((k.1 : Int) + 1)) = 0 := by decide +kernel
theorem inW_write (a : Ab) (p v x i : Int) : (a.write p v).inW x i = a.inW x i := rfl
/-- Behind Put(64, k, v). -/
def bp (m k : Nat) (v : Int) : Al := ⟨(bq m).a.writeA 64 (wrap64 ((k : Int) + 1)) v, (bq m).u⟩
theorem wr_small (k : Nat) (h : k < 64) : wrap64 ((k : Int) + 1) = (k : Int) + 1 := by
  have : ∀ k : Fin 64, wrap64 ((k.1 : Int) + 1) = (k.1 : Int) + 1 := by decide +kernel
  exact this ⟨k, h⟩
theorem bp_a (m k : Nat) (v : Int) (hm : m < 64) (hk : k < m) : (bp m k v).a = (bq m).a.write (64 + ((k : Int) + 1)) v := by
  have hin := bq_in ⟨m, hm⟩ ⟨k + 1, by omega⟩ (by simp only; omega)
  have e : (((k + 1 : Nat) : Int)) = (k : Int) + 1 := by omega
  simp only [e] at hin
  unfold bp Ab.writeA
  simp only
  rw [wr_small k (by omega), if_pos hin]
theorem bp_of (m k : Nat) (v : Int) (hm : m < 64) (hk : k < m) : ofP (bp m k v) ls3 64 = some ((m : Int) + 1, 1, 1, ⟨1, 0, 0⟩) := by
  rw [← bq_of m hm]
  have h1 : (bp m k v).a.readE 64 0 = (bq m).a.readE 64 0 := by rw [bp_a m k v hm hk]; rfl
  have h2 : (bp m k v).a.readV 64 0 = (bq m).a.readV 64 0 := by
    rw [bp_a m k v hm hk]
    unfold Ab.readV
    rw [inW_write]
    have : ((bq m).a.write (64 + ((k : Int) + 1)) v).wd (64 + 0) = (bq m).a.wd (64 + 0) := if_neg (by omega)
    rw [this]
  unfold ofP
  rw [h1, h2]
theorem rd_of {al : Al} {m i : Nat} {u : Int} (hi : i < m) (hm : m < 64) (h1 : al.a.inW 64 ((i : Int) + 1) = true) (h2 : al.a.wd (64 + ((i : Int) + 1)) = u) (ho : ofP al ls3 64 = some ((m : Int) + 1, 1, 1, ⟨1, 0, 0⟩)) : atT al ls3 64 i false = (u, 0) := by
  unfold atT
  rw [ho]
  simp only
  rw [if_pos ⟨trivial, by decide⟩, if_neg (by omega)]
  unfold rdT Ab.readE Ab.readV
  rw [wr_small i (by omega), h1, h2]
  rfl
theorem bp_at (m k i : Nat) (v : Int) (hm : m < 64) (hk : k < m) (hi : i < m) : atT (bp m k v) ls3 64 i false = (if i = k then v else 0, 0) := by
  have hin := bq_in ⟨m, hm⟩ ⟨i + 1, by omega⟩ (by simp only; omega)
  have e : (((i + 1 : Nat) : Int)) = (i : Int) + 1 := by omega
  simp only [e] at hin
  refine rd_of hi hm ?_ ?_ (bp_of m k v hm hk)
  · rw [bp_a m k v hm hk]; exact hin
  · rw [bp_a m k v hm hk]
    show (if (64 + ((i : Int) + 1)) = 64 + ((k : Int) + 1) then v else (bq m).a.wd (64 + ((i : Int) + 1))) = _
    by_cases h : i = k
    · subst h; rw [if_pos rfl, if_pos rfl]
    · rw [if_neg (by omega), if_neg h]; exact bq_wd ⟨m, hm⟩ ⟨i, by omega⟩
end Go.Proofs.YtbfgengmojdamaaGreatDoor

/- HeapBounds of package gantlinelaw14 answers true. -/
namespace Go.Proofs.YtbfgengmojdamaaGreatDoor
set_option maxRecDepth 100000
open Go.ChangeShapes Go.WideShapes Go.ChangeAt Go.RowKit Go.Maps Go.Deep

theorem bq_len (m : Nat) (hm : m < 64) : lenT (bq m) ls3 64 = ((m : Int), 0) := by
  unfold lenT
  rw [bq_of m hm]
  simp only [if_true]
  rw [show (m : Int) + 1 - 1 = m by omega]
theorem bq_out (m : Nat) (hm : m < 64) (a : Int) (h : a < 0 ∨ (m : Int) ≤ a) : atT (bq m) ls3 64 a false = (0, 2) := by
  unfold atT
  rw [bq_of m hm]
  simp only
  rw [if_pos ⟨trivial, by decide⟩, if_pos (by omega)]
theorem bq_at (m k : Nat) (hm : m < 64) (hk : k < m) : atT (bq m) ls3 64 k false = (0, 0) := by
  have hin := bq_in ⟨m, hm⟩ ⟨k + 1, by omega⟩ (by simp only; omega)
  have e : (((k + 1 : Nat) : Int)) = (k : Int) + 1 := by omega
  simp only [e] at hin
  exact rd_of hk hm hin (bq_wd ⟨m, hm⟩ ⟨k, by omega⟩) (bq_of m hm)
section
variable {W w : World} {x : Hx} {ao : Option Addr} {cap : Nat} {nv : Value} {c : Nat → Nat}
theorem bmk (m : Nat) (hm : m < 64) (h : Hid (HS W w x (al0 8) ls3 3 ao cap nv c)) (rv : Value) : Calls Tryz.prog 11 #[.pointer (some ⟨x.hb, 0, none⟩), .int .i64 1, .int .i64 ((m : Int) + 1), rv] w fun r w' => r = .returned (.tuple #[.int .i64 64, .int .i64 0]) ∧ HS W w' x (bq m) ls3 3 ao cap nv c :=
  h_make h 1 (by decide) ⟨1, 0, 0⟩ rfl ((m : Int) + 1) 64 (by omega) (by omega) (bt m) (hide (tr_of (bt_take ⟨m, hm⟩))) rv
theorem bput_out (m : Nat) (hm : m < 64) (a v : Int) (ha : a < 0 ∨ (m : Int) ≤ a) (h : Hid (HS W w x (bq m) ls3 3 ao cap nv c)) : Calls Tryz.prog 22 #[.pointer (some ⟨x.hb, 0, none⟩), .int .i64 64, .int .i64 a, .int .i64 v, .bool false, .bool true, .int .i64 1] w fun r w' => r = .returned (.int .i64 2) ∧ Below W.heap.size W w' :=
  (h_put h 64 a v false true 1).mono fun _ _ hh => by rw [bq_out m hm a ha] at hh; exact ⟨hh.1, hh.2.ks.st.below⟩
theorem bput (m k : Nat) (hm : m < 64) (hk : k < m) (v : Int) (h : Hid (HS W w x (bq m) ls3 3 ao cap nv c)) : Calls Tryz.prog 22 #[.pointer (some ⟨x.hb, 0, none⟩), .int .i64 64, .int .i64 (k : Int), .int .i64 v, .bool false, .bool true, .int .i64 1] w fun r w' => r = .returned (.int .i64 0) ∧ HS W w' x (bp m k v) ls3 3 ao cap nv c :=
  (h_put h 64 k v false true 1).mono fun _ _ hh => by rw [bq_at m k hm hk, if_pos rfl] at hh; exact hh
end
set_option maxHeartbeats 4000000 in
theorem bounds14 (w : World) (ht : Tab w) (n a v : Int) (CA : Hid (Calls Tryz.prog 8 #[] w fun e w' => e = .returned (.bool true) ∧ G w w')) :
    Calls Tryz.prog 6 #[.int .i64 n, .int .i64 a, .int .i64 v] w fun e w' => e = .returned (.bool true) ∧ G w w' := by
  replace ht := hide ht
  by_cases h0 : n < 0
  · go_enter Tryz.func6, Tryz.ntmps6
    go_wp2_with fail
    refine (unhide CA).mono ?_
    rintro e w1 ⟨rfl, g1⟩
    replace g1 := hide g1
    clear CA
    go_wp2_with fail
    go_ret
    exact ⟨rfl, unhide g1⟩
  by_cases h1 : 63 < n
  · have d0 : decide (n < 0) = false := by simpa using h0
    clear h0
    go_enter Tryz.func6, Tryz.ntmps6
    go_wp2_with fail
    refine (unhide CA).mono ?_
    rintro e w1 ⟨rfl, g1⟩
    replace g1 := hide g1
    clear CA
    go_wp2_with fail
    go_ret
    exact ⟨rfl, unhide g1⟩
  obtain ⟨m, rfl⟩ : ∃ m : Nat, n = m := ⟨n.toNat, by omega⟩
  have hm : m < 64 := by omega
  have hmi : (m : Int) ≤ 63 := by omega
  have d0 : decide ((m : Int) < 0) = false := by simp
  have d1 : decide ((63 : Int) < (m : Int)) = false := by simp; omega
  have dm : ((m : Int) != (m : Int)) = false := by simp
  clear h0 h1
  replace hm := hide hm
  go_enter Tryz.func6, Tryz.ntmps6
  go_wp2_with fail
  refine (unhide CA).mono ?_
  rintro e w1 ⟨rfl, g1⟩
  replace g1 := hide g1
  clear CA
  go_wp2_with fail
  refine (shapes14 _).mono ?_
  rintro e w2 ⟨rfl, hw2⟩
  have CN := hide (new14 w1 w2 hw2 (Tab.later (unhide ht) (unhide g1)))
  have g2 : Hid (G w w2) := hide ((unhide g1).trans (by rw [hw2]; exact G.alloc _ _))
  clear hw2 g1 ht
  go_wp2_with fail
  refine (unhide CN).mono ?_
  rintro e w3 ⟨x, rfl, ao, cap, nv, c, S3⟩
  have S4 := hide (S3.gr (G.alloc w3 (.cells #[.slice none 0 0] 35)))
  have C := hide (bmk m (unhide hm) S4)
  clear S3 CN
  go_wp2_with fail
  refine (unhide C _).mono ?_
  rintro e w5 ⟨rfl, S5⟩
  replace S5 := hide S5
  generalize (m : Int) + 1 = M1
  have C6 := hide (len14 64 (m : Int) 0 (bq_len m (unhide hm)) S5)
  clear C S4
  go_wp2_with fail
  refine (unhide C6).mono ?_
  rintro e w6 ⟨rfl, S6⟩
  replace S6 := hide S6
  clear C6 S5
  have FIN : Hid (∀ y : World, Below w2.heap.size w2 y → G w y) := hide fun y b => Below.trans (unhide g2) (b.mono (unhide g2).size)
  clear g2
  by_cases ha : a < 0 ∨ (m : Int) ≤ a
  · have C7 := hide (bput_out m (unhide hm) a v ha S6)
    clear S6
    go_wp2_with fail
    refine (unhide C7).mono ?_
    rintro e w7 ⟨rfl, B7⟩
    replace B7 := hide B7
    clear C7
    by_cases ha0 : a < 0
    · clear ha
      go_wp2_with fail
      go_ret
      exact ⟨rfl, unhide FIN _ (unhide B7)⟩
    · have d2 : decide (a < 0) = false := by simpa using ha0
      have d3 : (m : Int) ≤ a := by omega
      clear ha ha0
      go_wp2_with fail
      go_ret
      exact ⟨rfl, unhide FIN _ (unhide B7)⟩
  · obtain ⟨k, rfl⟩ : ∃ k : Nat, a = k := ⟨a.toNat, by omega⟩
    have hk : k < m := by omega
    have d2 : decide ((k : Int) < 0) = false := by simp
    have d3 : decide ((m : Int) ≤ (k : Int)) = false := by simp; omega
    have d4 : decide (m ≤ k) = false := by simp; omega
    have C7 := hide (bput m k (unhide hm) hk v S6)
    clear S6 ha
    go_wp2_with fail
    refine (unhide C7).mono ?_
    rintro e w7 ⟨rfl, S7⟩
    replace S7 := hide S7
    clear C7
    go_wp2_with fail
    go_loopw [14] (fun c' wr => ∃ i : Nat, i ≤ m ∧ c' = .int .i64 i ∧ Hid (HS w2 wr x (bp m k v) ls3 3 ao cap nv c)) (fun c' _ => m - (intOf c').toNat)
    case atStart => exact ⟨0, Nat.zero_le _, rfl, S7⟩
    case round =>
      obtain ⟨i, him, rfl, R⟩ := hrel
      clear S7
      by_cases hi : i = m
      · have hi' : m = i := hi.symm
        subst hi'
        clear hi
        go_wp2_with fail
        go_ret
        exact ⟨rfl, unhide FIN _ (unhide R).ks.st.below⟩
      · have hil : (i : Int) < (m : Int) := by omega
        by_cases hik : i = k
        · subst hik
          have hvv : (v != v) = false := by simp
          have hii : ((i : Int) == (i : Int)) = true := by simp
          have C8 := hide (at14 64 (i : Int) false v 0 (by rw [bp_at m i i v (unhide hm) hk hk, if_pos rfl]) R)
          clear hi R
          go_wp2_with fail
          refine (unhide C8).mono ?_
          rintro e w8 ⟨rfl, S8⟩
          replace S8 := hide S8
          clear C8
          go_wp2_with fail
          go_roundw
          case rel => exact ⟨i + 1, by omega, by go_num, S8⟩
          case measure => simp [intOf]; omega
        · have hne : ((i : Int) == (k : Int)) = false := by simpa using (by omega : (i : Int) ≠ (k : Int))
          have C8 := hide (at14 64 (i : Int) false 0 0 (by rw [bp_at m k i v (unhide hm) hk (by omega), if_neg hik]) R)
          clear hi R hik
          go_wp2_with fail
          refine (unhide C8).mono ?_
          rintro e w8 ⟨rfl, S8⟩
          replace S8 := hide S8
          clear C8
          go_wp2_with fail
          go_roundw
          case rel => exact ⟨i + 1, by omega, by go_num, S8⟩
          case measure => simp [intOf]; omega
end Go.Proofs.YtbfgengmojdamaaGreatDoor

/- HeapBounds of package gantlinelaw14: the law answers true; nothing that was there is turned. -/
namespace Go.Proofs.YtbfgengmojdamaaGreatDoor
set_option maxRecDepth 100000
open Go.ChangeShapes Go.WideShapes Go.ChangeAt Go.RowKit Go.Maps

theorem walk_HeapBounds (n a v : Int) {A B C : Prop} (_ : A) (_ : B) (_ : C) (w : World) (ht : Tab w) : Calls Tryz.prog 6 #[.int .i64 n, .int .i64 a, .int .i64 v] w fun e w' => e = .returned (.bool true) ∧ Below w.heap.size w w' :=
  bounds14 w ht n a v (hide (awake14 w ht))

set_option maxRecDepth 100000 in
theorem lifted_HeapBounds (os : Os) (started : os.Started) (H : Type) (enc : TypeId × Value → H) :
    ReturnsInHanded {} Tryz.checked os 6 .any (fun w args => (Rows.heapBoundsSpec.pre enc Tryz.prog Tryz.f6 [] false w args ∧ laidMetH Tryz.prog laidTab w) ∧ sizedMet enc Tryz.prog Tryz.f6 (OpenSpec.ofChange Rows.heapBoundsSpec) false w args)
      (Rows.heapBoundsSpec.post enc Tryz.prog Tryz.f6 false true false false) := by
  refine returnsInHanded_of_change_and (C := Tryz.checked) (X := fun w _ => laidMetH Tryz.prog laidTab w) (fun _ _ _ hh h => h.of_heap hh) own started (by kernel_rfl) Tryz.func6
    (ChangeSpec.witness_shaped (enc := enc) (C := Tryz.checked) (os := os) (X := fun w _ => laidMetH Tryz.prog laidTab w) false (World.doorLaid Tryz.prog 400 os) #[.int .i64 0, .int .i64 0, .int .i64 0] 8 rfl (World.shaped_of_RefB (by kernel_rfl) (by kernel_rfl)) (by kernel_rfl) (by kernel_rfl) (by kernel_rfl) (door_met os _)) ?_
  intro W base args ds gs before hval0 hW _ _ hL _
  have hval : ∀ (j : Nat) t v, Tryz.f6.params[j]? = some t → args[j]? = some v → Value.okWide Tryz.prog W .any base t v := hval0
  have hW' := hW
  obtain ⟨p, q, hA0, hV, rfl, hfz, hnd⟩ := hW
  have hA : DataW.TrodAll enc Tryz.prog W 0 (fun _ => true) true Tryz.f6.params.toList args.toList ds p := hA0
  rw [Tryz.params6] at hA hval
  obtain ⟨v0, vs0, d0, ds0, p0, q0, hargs, rfl, rfl, h0, r0⟩ := trodAll_cons hA
  obtain ⟨v1, vs1, d1, ds1, p1, q1, rfl, rfl, rfl, h1, r1⟩ := trodAll_cons r0
  obtain ⟨v2, vs2, d2, ds2, p2, q2, rfl, rfl, rfl, h2, r2⟩ := trodAll_cons r1
  obtain ⟨rfl, rfl, rfl⟩ := trodAll_nil r2
  obtain rfl : args = #[v0, v1, v2] := by cases args; simp_all
  obtain ⟨rfl, rfl⟩ := trodVars_none hV
  have k0 := h0
  have lt0 : ∀ x ∈ p0, x.block < W.heap.size := by obtain ⟨m, hm⟩ := k0; exact DataW.trod_lt m _ _ _ hm
  obtain ⟨a0, rfl, rfl, rfl, w0⟩ := open_int Tryz.underlying3 (hval 0 3 v0 rfl rfl) h0
  have k1 := h1
  have lt1 : ∀ x ∈ p1, x.block < W.heap.size := by obtain ⟨m, hm⟩ := k1; exact DataW.trod_lt m _ _ _ hm
  obtain ⟨a1, rfl, rfl, rfl, w1⟩ := open_int Tryz.underlying2 (hval 1 2 v1 rfl rfl) h1
  have k2 := h2
  have lt2 : ∀ x ∈ p2, x.block < W.heap.size := by obtain ⟨m, hm⟩ := k2; exact DataW.trod_lt m _ _ _ hm
  obtain ⟨a2, rfl, rfl, rfl, w2⟩ := open_int Tryz.underlying2 (hval 2 2 v2 rfl rfl) h2
  clear hA0 hval0
  refine (walk_HeapBounds a0 a1 a2 w0 w1 w2 W (tab_of_laid hL)).mono fun e W' ⟨he, hg⟩ => ?_
  subst he
  exact ⟨_, rfl, _, _, _, [], _, [], hW', trodAll_mk1 (shut_bool Tryz.underlying4 _), (trodAll_cons_mk (Below.trod laidOut (by kernel_rfl) (of_decide_eq_true (by kernel_rfl)) k0 hg lt0) (trodAll_cons_mk (Below.trod laidOut (by kernel_rfl) (of_decide_eq_true (by kernel_rfl)) k1 hg lt1) (trodAll_cons_mk (Below.trod laidOut (by kernel_rfl) (of_decide_eq_true (by kernel_rfl)) k2 hg lt2) trodAll_mk0))), rfl, hg.frame _, fun h => by cases h⟩

theorem row_HeapBounds : Rows.HeapBoundsSaid :=
  OpenClaim.holds_of_wide 6 Tryz.f6 rfl rfl rfl rfl rfl rfl rfl ⟨rfl, rfl, rfl, rfl, rfl⟩ rfl rfl rfl rfl rfl (by kernel_rfl) Tryz.func6 (by kernel_rfl)
    (of_decide_eq_true (by kernel_rfl)) (by unfold Func.isWrapper; first | (rw [if_pos (by decide +kernel)]; kernel_rfl) | (rw [if_neg (by decide +kernel)]; exact ⟨rfl, rfl⟩))
    (fun os started H enc _ => lifted_HeapBounds os started H enc)

/-- THE STATEMENT. -/
theorem card_HeapBounds : Rows.HeapBoundsCardSaid :=
  Claim7.holds_tied_plain_at .later [] [.data] true (true, "43f1ef4531070ce745c24119a837c98c40e55773cc6677205aa08550657475e5") false
    row_HeapBounds (fun _ h => by cases h) (by kernel_rfl) (fun _ h => by cases h) heapBounds_row_tie rfl ⟨rfl, rfl⟩ (by kernel_rfl) rfl
    (fun f fn hf hfn => by
      obtain rfl : f = 6 := Option.some.inj ((show Tryz.prog.funcNamed "gantline/gantlinelaw14.HeapBounds" = some 6 by kernel_rfl).symm.trans hf) |>.symm
      obtain rfl : fn = Tryz.f6 := (Option.some.inj (Tryz.func6.symm.trans hfn)).symm
      exact ⟨by kernel_rfl, fun j t ht => by
        rw [Tryz.params6] at ht
        have hm : t ∈ [3, 2, 2] := by simpa using Array.mem_of_getElem? ht
        have hall : ([3, 2, 2].all fun u => !Tryz.prog.wantsStandIn u) = true := by kernel_rfl
        exact (show Tryz.prog.wantsStandIn t = false by simpa using List.all_eq_true.1 hall t hm)⟩)
    (by kernel_rfl)
#print axioms card_HeapBounds
end Go.Proofs.YtbfgengmojdamaaGreatDoor
