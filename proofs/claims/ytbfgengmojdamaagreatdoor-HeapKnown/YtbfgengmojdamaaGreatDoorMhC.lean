/- Here, one behind the other: HpAwake, HpBad, HpKnown, HpKnownLaw. -/
import Derived.Test.YtbfgengmojdamaaGreatDoorMhB
import Derived.Test.YtbfgengmojdamaaGreatDoorArenaBase
/- awake() of package gantlinelaw14 answers true. -/
namespace Go.Proofs.YtbfgengmojdamaaGreatDoor
set_option maxRecDepth 100000
open Go.ChangeShapes Go.WideShapes Go.ChangeAt Go.RowKit Go.Maps Go.Deep

set_option maxHeartbeats 20000000 in
set_option maxRecDepth 100000 in
theorem awake14 (w : World) (ht : Tab w) : Calls Tryz.prog 8 #[] w fun e w' => e = .returned (.bool true) ∧ G w w' := by
  replace ht := hide ht
  go_enter Tryz.func8, Tryz.ntmps8
  go_wp2_with fail
  refine (shapes14 _).mono ?_
  rintro e w1 ⟨rfl, hw1⟩
  have CN := hide (new14 w w1 hw1 (unhide ht))
  have g1 : Hid (G w w1) := hide (by rw [hw1]; exact G.alloc _ _)
  clear hw1
  go_wp2_with fail
  refine (unhide CN).mono ?_
  rintro e w2 ⟨x, rfl, ao, cap, nv, c, S0⟩
  replace S0 := hide S0
  have C0 := hide (h_cycle S0)
  clear CN
  go_wp2_with fail
  refine (unhide C0).mono ?_
  rintro e w3 ⟨rfl, hw⟩
  subst hw
  clear C0
  have S1 := hide ((unhide S0).gr (G.alloc w3 (.cells #[.slice none 0 0] 35)))
  have C1 := hide (mk1 S1)
  clear S0
  go_wp2_with fail
  refine (unhide C1 _).mono ?_
  rintro e w4 ⟨rfl, S4⟩
  replace S4 := hide S4
  have C2 := hide (mk2 S4)
  clear C1 S1
  go_wp2_with fail
  refine (unhide C2 _).mono ?_
  rintro e w5 ⟨rfl, S5⟩
  replace S5 := hide S5
  have C3 := hide (get14 64 1 true 0 0 q_g1 S5)
  clear C2 S4
  go_wp2_with fail
  refine (unhide C3).mono ?_
  rintro e w6 ⟨rfl, S6⟩
  replace S6 := hide S6
  have C4 := hide (st1 S6)
  clear C3 S5
  go_wp2_with fail
  refine (unhide C4).mono ?_
  rintro e w7 ⟨rfl, S7⟩
  replace S7 := hide S7
  have C5 := hide (get14 64 0 false 9 0 q_g2 S7)
  clear C4 S6
  go_wp2_with fail
  refine (unhide C5).mono ?_
  rintro e w8 ⟨rfl, S8⟩
  replace S8 := hide S8
  have C6 := hide (pt1 S8)
  clear C5 S7
  go_wp2_with fail
  refine (unhide C6).mono ?_
  rintro e w9 ⟨rfl, S9⟩
  replace S9 := hide S9
  have C7 := hide (at14 68 2 false 5 0 q_a1 S9)
  clear C6 S8
  go_wp2_with fail
  refine (unhide C7).mono ?_
  rintro e w10 ⟨rfl, S10⟩
  replace S10 := hide S10
  have C8 := hide (len14 68 3 0 q_l1 S10)
  clear C7 S9
  go_wp2_with fail
  refine (unhide C8).mono ?_
  rintro e w11 ⟨rfl, S11⟩
  replace S11 := hide S11
  have C9 := hide (of1 S11)
  clear C8 S10
  go_wp2_with fail
  refine (unhide C9).mono ?_
  rintro e w12 ⟨rfl, S12⟩
  replace S12 := hide S12
  clear C9 S11
  obtain ⟨W2, hW2⟩ : ∃ W2, W2 = (w12.alloc (.cells #[.int .i64 3, .int .i64 0, .int .i64 0] 55)).alloc (.cells #[.int .i64 0, .int .i64 2, .int .u64 2] 29) := ⟨_, rfl⟩
  obtain ⟨g2, bx⟩ := two_box w12 3 0 0 0 2 2 W2 hW2
  have z2 : W2.heap.size = w12.heap.size + 2 := by rw [hW2, World.size_alloc, World.size_alloc]
  have C10 := hide (ad1 (hide (((unhide S12).gr g2).recol w12 (unhide S12))))
  have bx' := hide (bx W2 (G.refl _))
  replace g2 := hide g2
  replace z2 := hide z2
  clear bx
  go_wp2_with fail
  rw [← hW2]
  clear hW2
  refine (unhide C10).mono ?_
  rintro e w13 ⟨rfl, ⟨ao', cap', nv', c', S13⟩, kp⟩
  replace S13 := hide S13
  have k0 : w13.heap[w12.heap.size]? = W2.heap[w12.heap.size]? := kp _ (by have := unhide z2; omega) (by simp) (by simp) (by simp)
  have k1 : w13.heap[w12.heap.size + 1]? = W2.heap[w12.heap.size + 1]? := kp _ (by have := unhide z2; omega) (by simp) (by simp) (by simp)
  obtain ⟨⟨a0, a1, a2⟩, b0, b1, b2⟩ := unhide bx'
  have y0 := (World.cell?_of_block (a := ⟨w12.heap.size, 0, none⟩) k0).trans a0
  have y1 := (World.cell?_of_block (a := ⟨w12.heap.size, 1, none⟩) k0).trans a1
  have y2 := (World.cell?_of_block (a := ⟨w12.heap.size, 2, none⟩) k0).trans a2
  have y3 := (World.cell?_of_block (a := ⟨w12.heap.size + 1, 0, none⟩) k1).trans b0
  have y4 := (World.cell?_of_block (a := ⟨w12.heap.size + 1, 1, none⟩) k1).trans b1
  have y5 := (World.cell?_of_block (a := ⟨w12.heap.size + 1, 2, none⟩) k1).trans b2
  clear C10 kp k0 k1 a0 a1 a2 b0 b1 b2 bx' g2 z2
  go_wp2_with fail
  obtain ⟨d0, hd0⟩ : ∃ d0, d0 = w12.heap.size := ⟨_, rfl⟩
  rw [← hd0] at y0 y1 y2 y3 y4 y5 ⊢
  clear hd0
  have BX : Hid (∀ y : World, y.heap[d0]? = w13.heap[d0]? ∧ y.heap[d0 + 1]? = w13.heap[d0 + 1]? → (y.cell? ⟨d0, 0, none⟩ = some (.int .i64 3) ∧ y.cell? ⟨d0, 1, none⟩ = some (.int .i64 0) ∧ y.cell? ⟨d0, 2, none⟩ = some (.int .i64 0)) ∧ (y.cell? ⟨d0 + 1, 0, none⟩ = some (.int .i64 0) ∧ y.cell? ⟨d0 + 1, 1, none⟩ = some (.int .i64 2) ∧ y.cell? ⟨d0 + 1, 2, none⟩ = some (.int .u64 2))) := hide fun y hy =>
    ⟨⟨(World.cell?_of_block (a := ⟨d0, 0, none⟩) hy.1).trans y0, (World.cell?_of_block (a := ⟨d0, 1, none⟩) hy.1).trans y1, (World.cell?_of_block (a := ⟨d0, 2, none⟩) hy.1).trans y2⟩, (World.cell?_of_block (a := ⟨d0 + 1, 0, none⟩) hy.2).trans y3, (World.cell?_of_block (a := ⟨d0 + 1, 1, none⟩) hy.2).trans y4, (World.cell?_of_block (a := ⟨d0 + 1, 2, none⟩) hy.2).trans y5⟩
  have lt0 : Hid (d0 + 1 < w13.heap.size) := hide (World.block_lt_of_cell? w13 _ y3)
  clear y0 y1 y2 y3 y4 y5
  dsimp only [List.append]
  refine wp_region_noPanic ?_
  refine wp_region_held_drew (S := fun (y : World) => y.heap[d0]? = w13.heap[d0]? ∧ y.heap[d0 + 1]? = w13.heap[d0 + 1]?) (by kernel_rfl) ⟨rfl, rfl⟩ (fun hHeld => ?_)
  obtain ⟨y1, hy1⟩ : ∃ y, y = w13.drew := ⟨_, rfl⟩
  have gy : Hid (G w13 y1) := hide (by rw [hy1]; exact G.drewN w13 1)
  rw [← hy1] at hHeld ⊢
  clear hy1
  refine wpAnyH_take (i := 0) (v := .int .i64 0) rfl (by kernel_rfl) (by kernel_rfl) (by kernel_rfl) (fun _ _ _ h => h) (Or.inl ⟨by rfl, fun w hSw => by go_simp⟩) (by assumption) ?_
  try simp only [Act.put, List.getElem_toArray, List.getElem_cons_zero, List.setIfInBounds_toArray, List.set_cons_zero, List.set_cons_succ]
  refine wpAnyH_take (i := 1) (v := .bool true) rfl (by kernel_rfl) (by kernel_rfl) (by kernel_rfl) (fun _ _ _ h => h) (Or.inl ⟨by rfl, fun w hSw => by go_simp⟩) (by assumption) ?_
  try simp only [Act.put, List.getElem_toArray, List.getElem_cons_succ, List.getElem_cons_zero, List.setIfInBounds_toArray, List.set_cons_zero, List.set_cons_succ]
  refine wpAnyH_take (i := 2) (v := .bool true) rfl (by kernel_rfl) (by kernel_rfl) (by kernel_rfl) (fun _ _ _ h => h) (Or.inl ⟨by rfl, fun w hSw => by go_simp⟩) (by assumption) ?_
  try simp only [Act.put, List.getElem_toArray, List.getElem_cons_succ, List.getElem_cons_zero, List.setIfInBounds_toArray, List.set_cons_zero, List.set_cons_succ]
  refine wpAnyH_take (i := 3) (v := .int .i64 0) rfl (by kernel_rfl) (by kernel_rfl) (by kernel_rfl) (fun _ _ _ h => h) (Or.inl ⟨by rfl, fun w hSw => by go_simp⟩) (by assumption) ?_
  try simp only [Act.put, List.getElem_toArray, List.getElem_cons_succ, List.getElem_cons_zero, List.setIfInBounds_toArray, List.set_cons_zero, List.set_cons_succ]
  refine wpAnyH_take (i := 4) (v := .bool true) rfl (by kernel_rfl) (by kernel_rfl) (by kernel_rfl) (fun _ _ _ h => h) (Or.inl ⟨by rfl, fun w hSw => by go_simp⟩) (by assumption) ?_
  try simp only [Act.put, List.getElem_toArray, List.getElem_cons_succ, List.getElem_cons_zero, List.setIfInBounds_toArray, List.set_cons_zero, List.set_cons_succ]
  refine wpAnyH_take (i := 5) (v := .bool true) rfl (by kernel_rfl) (by kernel_rfl) (by kernel_rfl) (fun _ _ _ h => h) (Or.inl ⟨by rfl, fun w hSw => by go_simp⟩) (by assumption) ?_
  try simp only [Act.put, List.getElem_toArray, List.getElem_cons_succ, List.getElem_cons_zero, List.setIfInBounds_toArray, List.set_cons_zero, List.set_cons_succ]
  refine wpAnyH_take (i := 6) (v := .bool true) rfl (by kernel_rfl) (by kernel_rfl) (by kernel_rfl) (fun _ _ _ h => h) (Or.inl ⟨by rfl, fun w hSw => by go_simp⟩) (by assumption) ?_
  try simp only [Act.put, List.getElem_toArray, List.getElem_cons_succ, List.getElem_cons_zero, List.setIfInBounds_toArray, List.set_cons_zero, List.set_cons_succ]
  refine wpAnyH_take (i := 7) (v := .int .i64 64) rfl (by kernel_rfl) (by kernel_rfl) (by kernel_rfl) (fun _ _ _ h => h) (Or.inl ⟨by rfl, fun w hSw => by go_simp⟩) (by assumption) ?_
  try simp only [Act.put, List.getElem_toArray, List.getElem_cons_succ, List.getElem_cons_zero, List.setIfInBounds_toArray, List.set_cons_zero, List.set_cons_succ]
  refine wpAnyH_take (i := 8) (v := .bool true) rfl (by kernel_rfl) (by kernel_rfl) (by kernel_rfl) (fun _ _ _ h => h) (Or.inl ⟨by rfl, fun w hSw => by go_simp⟩) (by assumption) ?_
  try simp only [Act.put, List.getElem_toArray, List.getElem_cons_succ, List.getElem_cons_zero, List.setIfInBounds_toArray, List.set_cons_zero, List.set_cons_succ]
  refine wpAnyH_take (i := 9) (v := .bool true) rfl (by kernel_rfl) (by kernel_rfl) (by kernel_rfl) (fun _ _ _ h => h) (Or.inl ⟨by rfl, fun w hSw => by go_simp⟩) (by assumption) ?_
  try simp only [Act.put, List.getElem_toArray, List.getElem_cons_succ, List.getElem_cons_zero, List.setIfInBounds_toArray, List.set_cons_zero, List.set_cons_succ]
  refine wpAnyH_take (i := 10) (v := .bool true) rfl (by kernel_rfl) (by kernel_rfl) (by kernel_rfl) (fun _ _ _ h => h) (Or.inl ⟨by rfl, fun w hSw => by go_simp⟩) (by assumption) ?_
  try simp only [Act.put, List.getElem_toArray, List.getElem_cons_succ, List.getElem_cons_zero, List.setIfInBounds_toArray, List.set_cons_zero, List.set_cons_succ]
  refine wpAnyH_take (i := 11) (v := .int .i64 68) rfl (by kernel_rfl) (by kernel_rfl) (by kernel_rfl) (fun _ _ _ h => h) (Or.inl ⟨by rfl, fun w hSw => by go_simp⟩) (by assumption) ?_
  try simp only [Act.put, List.getElem_toArray, List.getElem_cons_succ, List.getElem_cons_zero, List.setIfInBounds_toArray, List.set_cons_zero, List.set_cons_succ]
  refine wpAnyH_take (i := 12) (v := .bool true) rfl (by kernel_rfl) (by kernel_rfl) (by kernel_rfl) (fun _ _ _ h => h) (Or.inl ⟨by rfl, fun w hSw => by go_simp⟩) (by assumption) ?_
  try simp only [Act.put, List.getElem_toArray, List.getElem_cons_succ, List.getElem_cons_zero, List.setIfInBounds_toArray, List.set_cons_zero, List.set_cons_succ]
  refine wpAnyH_take (i := 13) (v := .bool true) rfl (by kernel_rfl) (by kernel_rfl) (by kernel_rfl) (fun _ _ _ h => h) (Or.inl ⟨by rfl, fun w hSw => by go_simp⟩) (by assumption) ?_
  try simp only [Act.put, List.getElem_toArray, List.getElem_cons_succ, List.getElem_cons_zero, List.setIfInBounds_toArray, List.set_cons_zero, List.set_cons_succ]
  refine wpAnyH_take (i := 14) (v := .bool true) rfl (by kernel_rfl) (by kernel_rfl) (by kernel_rfl) (fun _ _ _ h => h) (Or.inl ⟨by rfl, fun w hSw => by go_simp⟩) (by assumption) ?_
  try simp only [Act.put, List.getElem_toArray, List.getElem_cons_succ, List.getElem_cons_zero, List.setIfInBounds_toArray, List.set_cons_zero, List.set_cons_succ]
  refine wpAnyH_take (i := 15) (v := .int .i64 0) rfl (by kernel_rfl) (by kernel_rfl) (by kernel_rfl) (fun _ _ _ h => h) (Or.inl ⟨by rfl, fun w hSw => by go_simp⟩) (by assumption) ?_
  try simp only [Act.put, List.getElem_toArray, List.getElem_cons_succ, List.getElem_cons_zero, List.setIfInBounds_toArray, List.set_cons_zero, List.set_cons_succ]
  refine wpAnyH_take (i := 16) (v := .bool true) rfl (by kernel_rfl) (by kernel_rfl) (by kernel_rfl) (fun _ _ _ h => h) (Or.inl ⟨by rfl, fun w hSw => by go_simp⟩) (by assumption) ?_
  try simp only [Act.put, List.getElem_toArray, List.getElem_cons_succ, List.getElem_cons_zero, List.setIfInBounds_toArray, List.set_cons_zero, List.set_cons_succ]
  refine wpAnyH_take (i := 17) (v := .bool true) rfl (by kernel_rfl) (by kernel_rfl) (by kernel_rfl) (fun _ _ _ h => h) (Or.inl ⟨by rfl, fun w hSw => by go_simp⟩) (by assumption) ?_
  try simp only [Act.put, List.getElem_toArray, List.getElem_cons_succ, List.getElem_cons_zero, List.setIfInBounds_toArray, List.set_cons_zero, List.set_cons_succ]
  refine wpAnyH_take (i := 18) (v := .bool true) rfl (by kernel_rfl) (by kernel_rfl) (by kernel_rfl) (fun _ _ _ h => h) (Or.inl ⟨by rfl, fun w hSw => by go_simp⟩) (by assumption) ?_
  try simp only [Act.put, List.getElem_toArray, List.getElem_cons_succ, List.getElem_cons_zero, List.setIfInBounds_toArray, List.set_cons_zero, List.set_cons_succ]
  refine wpAnyH_take (i := 19) (v := .int .i64 0) rfl (by kernel_rfl) (by kernel_rfl) (by kernel_rfl) (fun _ _ _ h => h) (Or.inl ⟨by rfl, fun w hSw => by go_simp⟩) (by assumption) ?_
  try simp only [Act.put, List.getElem_toArray, List.getElem_cons_succ, List.getElem_cons_zero, List.setIfInBounds_toArray, List.set_cons_zero, List.set_cons_succ]
  refine wpAnyH_take (i := 20) (v := .bool true) rfl (by kernel_rfl) (by kernel_rfl) (by kernel_rfl) (fun _ _ _ h => h) (Or.inl ⟨by rfl, fun w hSw => by go_simp⟩) (by assumption) ?_
  try simp only [Act.put, List.getElem_toArray, List.getElem_cons_succ, List.getElem_cons_zero, List.setIfInBounds_toArray, List.set_cons_zero, List.set_cons_succ]
  refine wpAnyH_take (i := 21) (v := .bool true) rfl (by kernel_rfl) (by kernel_rfl) (by kernel_rfl) (fun _ _ _ h => h) (Or.inl ⟨by rfl, fun w hSw => by go_simp⟩) (by assumption) ?_
  try simp only [Act.put, List.getElem_toArray, List.getElem_cons_succ, List.getElem_cons_zero, List.setIfInBounds_toArray, List.set_cons_zero, List.set_cons_succ]
  refine wpAnyH_take (i := 22) (v := .bool true) rfl (by kernel_rfl) (by kernel_rfl) (by kernel_rfl) (fun _ _ _ h => h) (Or.inl ⟨by rfl, fun w hSw => by go_simp⟩) (by assumption) ?_
  try simp only [Act.put, List.getElem_toArray, List.getElem_cons_succ, List.getElem_cons_zero, List.setIfInBounds_toArray, List.set_cons_zero, List.set_cons_succ]
  refine wpAnyH_take (i := 23) (v := .int .i64 0) rfl (by kernel_rfl) (by kernel_rfl) (by kernel_rfl) (fun _ _ _ h => h) (Or.inl ⟨by rfl, fun w hSw => by go_simp⟩) (by assumption) ?_
  try simp only [Act.put, List.getElem_toArray, List.getElem_cons_succ, List.getElem_cons_zero, List.setIfInBounds_toArray, List.set_cons_zero, List.set_cons_succ]
  refine wpAnyH_take (i := 24) (v := .bool true) rfl (by kernel_rfl) (by kernel_rfl) (by kernel_rfl) (fun _ _ _ h => h) (Or.inl ⟨by rfl, fun w hSw => by go_simp⟩) (by assumption) ?_
  try simp only [Act.put, List.getElem_toArray, List.getElem_cons_succ, List.getElem_cons_zero, List.setIfInBounds_toArray, List.set_cons_zero, List.set_cons_succ]
  refine wpAnyH_take (i := 25) (v := .bool true) rfl (by kernel_rfl) (by kernel_rfl) (by kernel_rfl) (fun _ _ _ h => h) (Or.inl ⟨by rfl, fun w hSw => by go_simp⟩) (by assumption) ?_
  try simp only [Act.put, List.getElem_toArray, List.getElem_cons_succ, List.getElem_cons_zero, List.setIfInBounds_toArray, List.set_cons_zero, List.set_cons_succ]
  refine wpAnyH_take (i := 26) (v := .bool true) rfl (by kernel_rfl) (by kernel_rfl) (by kernel_rfl) (fun _ _ _ h => h) (Or.inl ⟨by rfl, fun w hSw => by go_simp⟩) (by assumption) ?_
  try simp only [Act.put, List.getElem_toArray, List.getElem_cons_succ, List.getElem_cons_zero, List.setIfInBounds_toArray, List.set_cons_zero, List.set_cons_succ]
  refine wpAnyH_take (i := 27) (v := .int .i64 9) rfl (by kernel_rfl) (by kernel_rfl) (by kernel_rfl) (fun _ _ _ h => h) (Or.inl ⟨by rfl, fun w hSw => by go_simp⟩) (by assumption) ?_
  try simp only [Act.put, List.getElem_toArray, List.getElem_cons_succ, List.getElem_cons_zero, List.setIfInBounds_toArray, List.set_cons_zero, List.set_cons_succ]
  refine wpAnyH_take (i := 28) (v := .bool true) rfl (by kernel_rfl) (by kernel_rfl) (by kernel_rfl) (fun _ _ _ h => h) (Or.inl ⟨by rfl, fun w hSw => by go_simp⟩) (by assumption) ?_
  try simp only [Act.put, List.getElem_toArray, List.getElem_cons_succ, List.getElem_cons_zero, List.setIfInBounds_toArray, List.set_cons_zero, List.set_cons_succ]
  refine wpAnyH_take (i := 29) (v := .bool true) rfl (by kernel_rfl) (by kernel_rfl) (by kernel_rfl) (fun _ _ _ h => h) (Or.inl ⟨by rfl, fun w hSw => by go_simp⟩) (by assumption) ?_
  try simp only [Act.put, List.getElem_toArray, List.getElem_cons_succ, List.getElem_cons_zero, List.setIfInBounds_toArray, List.set_cons_zero, List.set_cons_succ]
  refine wpAnyH_take (i := 30) (v := .bool true) rfl (by kernel_rfl) (by kernel_rfl) (by kernel_rfl) (fun _ _ _ h => h) (Or.inl ⟨by rfl, fun w hSw => by go_simp⟩) (by assumption) ?_
  try simp only [Act.put, List.getElem_toArray, List.getElem_cons_succ, List.getElem_cons_zero, List.setIfInBounds_toArray, List.set_cons_zero, List.set_cons_succ]
  refine wpAnyH_take (i := 31) (v := .int .i64 0) rfl (by kernel_rfl) (by kernel_rfl) (by kernel_rfl) (fun _ _ _ h => h) (Or.inl ⟨by rfl, fun w hSw => by go_simp⟩) (by assumption) ?_
  try simp only [Act.put, List.getElem_toArray, List.getElem_cons_succ, List.getElem_cons_zero, List.setIfInBounds_toArray, List.set_cons_zero, List.set_cons_succ]
  refine wpAnyH_take (i := 32) (v := .bool true) rfl (by kernel_rfl) (by kernel_rfl) (by kernel_rfl) (fun _ _ _ h => h) (Or.inl ⟨by rfl, fun w hSw => by go_simp⟩) (by assumption) ?_
  try simp only [Act.put, List.getElem_toArray, List.getElem_cons_succ, List.getElem_cons_zero, List.setIfInBounds_toArray, List.set_cons_zero, List.set_cons_succ]
  refine wpAnyH_take (i := 33) (v := .bool true) rfl (by kernel_rfl) (by kernel_rfl) (by kernel_rfl) (fun _ _ _ h => h) (Or.inl ⟨by rfl, fun w hSw => by go_simp⟩) (by assumption) ?_
  try simp only [Act.put, List.getElem_toArray, List.getElem_cons_succ, List.getElem_cons_zero, List.setIfInBounds_toArray, List.set_cons_zero, List.set_cons_succ]
  refine wpAnyH_take (i := 34) (v := .bool true) rfl (by kernel_rfl) (by kernel_rfl) (by kernel_rfl) (fun _ _ _ h => h) (Or.inl ⟨by rfl, fun w hSw => by go_simp⟩) (by assumption) ?_
  try simp only [Act.put, List.getElem_toArray, List.getElem_cons_succ, List.getElem_cons_zero, List.setIfInBounds_toArray, List.set_cons_zero, List.set_cons_succ]
  refine wpAnyH_take (i := 35) (v := .int .i64 0) rfl (by kernel_rfl) (by kernel_rfl) (by kernel_rfl) (fun _ _ _ h => h) (Or.inl ⟨by rfl, fun w hSw => by go_simp⟩) (by assumption) ?_
  try simp only [Act.put, List.getElem_toArray, List.getElem_cons_succ, List.getElem_cons_zero, List.setIfInBounds_toArray, List.set_cons_zero, List.set_cons_succ]
  refine wpAnyH_take (i := 36) (v := .bool true) rfl (by kernel_rfl) (by kernel_rfl) (by kernel_rfl) (fun _ _ _ h => h) (Or.inl ⟨by rfl, fun w hSw => by go_simp⟩) (by assumption) ?_
  try simp only [Act.put, List.getElem_toArray, List.getElem_cons_succ, List.getElem_cons_zero, List.setIfInBounds_toArray, List.set_cons_zero, List.set_cons_succ]
  refine wpAnyH_take (i := 37) (v := .bool true) rfl (by kernel_rfl) (by kernel_rfl) (by kernel_rfl) (fun _ _ _ h => h) (Or.inl ⟨by rfl, fun w hSw => by go_simp⟩) (by assumption) ?_
  try simp only [Act.put, List.getElem_toArray, List.getElem_cons_succ, List.getElem_cons_zero, List.setIfInBounds_toArray, List.set_cons_zero, List.set_cons_succ]
  refine wpAnyH_take (i := 38) (v := .bool true) rfl (by kernel_rfl) (by kernel_rfl) (by kernel_rfl) (fun _ _ _ h => h) (Or.inl ⟨by rfl, fun w hSw => by go_simp⟩) (by assumption) ?_
  try simp only [Act.put, List.getElem_toArray, List.getElem_cons_succ, List.getElem_cons_zero, List.setIfInBounds_toArray, List.set_cons_zero, List.set_cons_succ]
  refine wpAnyH_take (i := 39) (v := .int .i64 5) rfl (by kernel_rfl) (by kernel_rfl) (by kernel_rfl) (fun _ _ _ h => h) (Or.inl ⟨by rfl, fun w hSw => by go_simp⟩) (by assumption) ?_
  try simp only [Act.put, List.getElem_toArray, List.getElem_cons_succ, List.getElem_cons_zero, List.setIfInBounds_toArray, List.set_cons_zero, List.set_cons_succ]
  refine wpAnyH_take (i := 40) (v := .bool true) rfl (by kernel_rfl) (by kernel_rfl) (by kernel_rfl) (fun _ _ _ h => h) (Or.inl ⟨by rfl, fun w hSw => by go_simp⟩) (by assumption) ?_
  try simp only [Act.put, List.getElem_toArray, List.getElem_cons_succ, List.getElem_cons_zero, List.setIfInBounds_toArray, List.set_cons_zero, List.set_cons_succ]
  refine wpAnyH_take (i := 41) (v := .bool true) rfl (by kernel_rfl) (by kernel_rfl) (by kernel_rfl) (fun _ _ _ h => h) (Or.inl ⟨by rfl, fun w hSw => by go_simp⟩) (by assumption) ?_
  try simp only [Act.put, List.getElem_toArray, List.getElem_cons_succ, List.getElem_cons_zero, List.setIfInBounds_toArray, List.set_cons_zero, List.set_cons_succ]
  refine wpAnyH_take (i := 42) (v := .bool true) rfl (by kernel_rfl) (by kernel_rfl) (by kernel_rfl) (fun _ _ _ h => h) (Or.inl ⟨by rfl, fun w hSw => by go_simp⟩) (by assumption) ?_
  try simp only [Act.put, List.getElem_toArray, List.getElem_cons_succ, List.getElem_cons_zero, List.setIfInBounds_toArray, List.set_cons_zero, List.set_cons_succ]
  refine wpAnyH_take (i := 43) (v := .int .i64 0) rfl (by kernel_rfl) (by kernel_rfl) (by kernel_rfl) (fun _ _ _ h => h) (Or.inl ⟨by rfl, fun w hSw => by go_simp⟩) (by assumption) ?_
  try simp only [Act.put, List.getElem_toArray, List.getElem_cons_succ, List.getElem_cons_zero, List.setIfInBounds_toArray, List.set_cons_zero, List.set_cons_succ]
  refine wpAnyH_take (i := 44) (v := .bool true) rfl (by kernel_rfl) (by kernel_rfl) (by kernel_rfl) (fun _ _ _ h => h) (Or.inl ⟨by rfl, fun w hSw => by go_simp⟩) (by assumption) ?_
  try simp only [Act.put, List.getElem_toArray, List.getElem_cons_succ, List.getElem_cons_zero, List.setIfInBounds_toArray, List.set_cons_zero, List.set_cons_succ]
  refine wpAnyH_take (i := 45) (v := .bool true) rfl (by kernel_rfl) (by kernel_rfl) (by kernel_rfl) (fun _ _ _ h => h) (Or.inl ⟨by rfl, fun w hSw => by go_simp⟩) (by assumption) ?_
  try simp only [Act.put, List.getElem_toArray, List.getElem_cons_succ, List.getElem_cons_zero, List.setIfInBounds_toArray, List.set_cons_zero, List.set_cons_succ]
  refine wpAnyH_take (i := 46) (v := .bool true) rfl (by kernel_rfl) (by kernel_rfl) (by kernel_rfl) (fun _ _ _ h => h) (Or.inl ⟨by rfl, fun w hSw => by go_simp⟩) (by assumption) ?_
  try simp only [Act.put, List.getElem_toArray, List.getElem_cons_succ, List.getElem_cons_zero, List.setIfInBounds_toArray, List.set_cons_zero, List.set_cons_succ]
  refine wpAnyH_take (i := 47) (v := .int .i64 3) rfl (by kernel_rfl) (by kernel_rfl) (by kernel_rfl) (fun _ _ _ h => h) (Or.inl ⟨by rfl, fun w hSw => by go_simp⟩) (by assumption) ?_
  try simp only [Act.put, List.getElem_toArray, List.getElem_cons_succ, List.getElem_cons_zero, List.setIfInBounds_toArray, List.set_cons_zero, List.set_cons_succ]
  refine wpAnyH_take (i := 48) (v := .bool true) rfl (by kernel_rfl) (by kernel_rfl) (by kernel_rfl) (fun _ _ _ h => h) (Or.inl ⟨by rfl, fun w hSw => by go_simp⟩) (by assumption) ?_
  try simp only [Act.put, List.getElem_toArray, List.getElem_cons_succ, List.getElem_cons_zero, List.setIfInBounds_toArray, List.set_cons_zero, List.set_cons_succ]
  refine wpAnyH_take (i := 49) (v := .bool true) rfl (by kernel_rfl) (by kernel_rfl) (by kernel_rfl) (fun _ _ _ h => h) (Or.inl ⟨by rfl, fun w hSw => by go_simp⟩) (by assumption) ?_
  try simp only [Act.put, List.getElem_toArray, List.getElem_cons_succ, List.getElem_cons_zero, List.setIfInBounds_toArray, List.set_cons_zero, List.set_cons_succ]
  refine wpAnyH_take (i := 50) (v := .bool true) rfl (by kernel_rfl) (by kernel_rfl) (by kernel_rfl) (fun _ _ _ h => h) (Or.inl ⟨by rfl, fun w hSw => by go_simp⟩) (by assumption) ?_
  try simp only [Act.put, List.getElem_toArray, List.getElem_cons_succ, List.getElem_cons_zero, List.setIfInBounds_toArray, List.set_cons_zero, List.set_cons_succ]
  refine wpAnyH_take (i := 51) (v := .int .i64 0) rfl (by kernel_rfl) (by kernel_rfl) (by kernel_rfl) (fun _ _ _ h => h) (Or.inl ⟨by rfl, fun w hSw => by go_simp⟩) (by assumption) ?_
  try simp only [Act.put, List.getElem_toArray, List.getElem_cons_succ, List.getElem_cons_zero, List.setIfInBounds_toArray, List.set_cons_zero, List.set_cons_succ]
  refine wpAnyH_take (i := 52) (v := .bool true) rfl (by kernel_rfl) (by kernel_rfl) (by kernel_rfl) (fun _ _ _ h => h) (Or.inl ⟨by rfl, fun w hSw => by go_simp⟩) (by assumption) ?_
  try simp only [Act.put, List.getElem_toArray, List.getElem_cons_succ, List.getElem_cons_zero, List.setIfInBounds_toArray, List.set_cons_zero, List.set_cons_succ]
  refine wpAnyH_take (i := 53) (v := .bool true) rfl (by kernel_rfl) (by kernel_rfl) (by kernel_rfl) (fun _ _ _ h => h) (Or.inl ⟨by rfl, fun w hSw => by go_simp⟩) (by assumption) ?_
  try simp only [Act.put, List.getElem_toArray, List.getElem_cons_succ, List.getElem_cons_zero, List.setIfInBounds_toArray, List.set_cons_zero, List.set_cons_succ]
  refine wpAnyH_take (i := 54) (v := .bool true) rfl (by kernel_rfl) (by kernel_rfl) (by kernel_rfl) (fun _ _ _ h => h) (Or.inl ⟨by rfl, fun w hSw => by go_simp⟩) (by assumption) ?_
  try simp only [Act.put, List.getElem_toArray, List.getElem_cons_succ, List.getElem_cons_zero, List.setIfInBounds_toArray, List.set_cons_zero, List.set_cons_succ]
  refine wpAnyH_take (i := 55) (v := .bool true) rfl (by kernel_rfl) (by kernel_rfl) (by kernel_rfl) (fun _ _ _ h => h) (Or.inl ⟨by rfl, fun w hSw => by go_simp⟩) (by assumption) ?_
  try simp only [Act.put, List.getElem_toArray, List.getElem_cons_succ, List.getElem_cons_zero, List.setIfInBounds_toArray, List.set_cons_zero, List.set_cons_succ]
  refine wpAnyH_take (i := 56) (v := .bool true) rfl (by kernel_rfl) (by kernel_rfl) (by kernel_rfl) (fun _ _ _ h => h) (Or.inl ⟨by rfl, fun w hSw => by go_simp⟩) (by assumption) ?_
  try simp only [Act.put, List.getElem_toArray, List.getElem_cons_succ, List.getElem_cons_zero, List.setIfInBounds_toArray, List.set_cons_zero, List.set_cons_succ]
  refine wpAnyH_take (i := 57) (v := .bool true) rfl (by kernel_rfl) (by kernel_rfl) (by kernel_rfl) (fun _ _ _ h => h) (Or.inl ⟨by rfl, fun w hSw => by go_simp⟩) (by assumption) ?_
  try simp only [Act.put, List.getElem_toArray, List.getElem_cons_succ, List.getElem_cons_zero, List.setIfInBounds_toArray, List.set_cons_zero, List.set_cons_succ]
  refine wpAnyH_take (i := 58) (v := .agg #[.int .i64 3, .int .i64 0, .int .i64 0]) rfl (by kernel_rfl) (by kernel_rfl) (by kernel_rfl) (fun _ _ _ h => h) (Or.inl ⟨by rfl, fun w hSw => by obtain ⟨⟨t0, t1, t2⟩, t3, t4, t5⟩ := unhide BX w hSw; go_simp⟩) (by assumption) ?_
  try simp only [Act.put, List.getElem_toArray, List.getElem_cons_succ, List.getElem_cons_zero, List.setIfInBounds_toArray, List.set_cons_zero, List.set_cons_succ]
  refine wpAnyH_take (i := 59) (v := .agg #[.int .i64 3, .int .i64 0, .int .i64 0]) rfl (by kernel_rfl) (by kernel_rfl) (by kernel_rfl) (fun _ _ _ h => h) (Or.inl ⟨by rfl, fun w hSw => by go_simp⟩) (by assumption) ?_
  try simp only [Act.put, List.getElem_toArray, List.getElem_cons_succ, List.getElem_cons_zero, List.setIfInBounds_toArray, List.set_cons_zero, List.set_cons_succ]
  refine wpAnyH_take (i := 60) (v := .bool true) rfl (by kernel_rfl) (by kernel_rfl) (by kernel_rfl) (fun _ _ _ h => h) (Or.inl ⟨by rfl, fun w hSw => by go_simp⟩) (by assumption) ?_
  try simp only [Act.put, List.getElem_toArray, List.getElem_cons_succ, List.getElem_cons_zero, List.setIfInBounds_toArray, List.set_cons_zero, List.set_cons_succ]
  refine wpAnyH_take (i := 61) (v := .bool true) rfl (by kernel_rfl) (by kernel_rfl) (by kernel_rfl) (fun _ _ _ h => h) (Or.inl ⟨by rfl, fun w hSw => by go_simp⟩) (by assumption) ?_
  try simp only [Act.put, List.getElem_toArray, List.getElem_cons_succ, List.getElem_cons_zero, List.setIfInBounds_toArray, List.set_cons_zero, List.set_cons_succ]
  refine wpAnyH_take (i := 62) (v := .bool true) rfl (by kernel_rfl) (by kernel_rfl) (by kernel_rfl) (fun _ _ _ h => h) (Or.inl ⟨by rfl, fun w hSw => by go_simp⟩) (by assumption) ?_
  try simp only [Act.put, List.getElem_toArray, List.getElem_cons_succ, List.getElem_cons_zero, List.setIfInBounds_toArray, List.set_cons_zero, List.set_cons_succ]
  refine wpAnyH_take (i := 63) (v := .agg #[.int .i64 0, .int .i64 2, .int .u64 2]) rfl (by kernel_rfl) (by kernel_rfl) (by kernel_rfl) (fun _ _ _ h => h) (Or.inl ⟨by rfl, fun w hSw => by obtain ⟨⟨t0, t1, t2⟩, t3, t4, t5⟩ := unhide BX w hSw; go_simp⟩) (by assumption) ?_
  try simp only [Act.put, List.getElem_toArray, List.getElem_cons_succ, List.getElem_cons_zero, List.setIfInBounds_toArray, List.set_cons_zero, List.set_cons_succ]
  have CS := hide (shapes14 y1)
  refine wpAnyH_ready (rs := [64]) (by kernel_rfl) (by simp) ?_
  refine AllReadyH.cons rfl (fun K hK => ?_) AllReadyH.nil
  go_simp
  refine (unhide CS).mono ?_
  rintro e w14 ⟨rfl, hw14⟩
  have g14 : G y1 w14 := by rw [hw14]; exact G.alloc _ _
  have S14 := hide ((unhide S13).gr ((unhide gy).trans g14))
  have z0 := shp3_at y1 0 ⟨0, 2, 2⟩ rfl
  rw [← hw14] at z0
  have z1 : y1.heap.size < w14.heap.size := by rw [hw14, World.size_alloc]; omega
  have z3 : w14.cell? ⟨y1.heap.size, 0, none⟩ = some (.int .i64 0) := z0.1
  have z4 : w14.cell? ⟨y1.heap.size, 1, none⟩ = some (.int .i64 2) := z0.2.1
  have z5 : w14.cell? ⟨y1.heap.size, 2, none⟩ = some (.int .u64 2) := z0.2.2
  clear z0
  have hS14 : w14.heap[d0]? = w13.heap[d0]? ∧ w14.heap[d0 + 1]? = w13.heap[d0 + 1]? := ⟨(((unhide gy).trans g14).block d0 (by have := unhide lt0; omega)), (((unhide gy).trans g14).block (d0 + 1) (unhide lt0))⟩
  replace z3 := hide z3
  replace z4 := hide z4
  replace z5 := hide z5
  replace z1 := hide z1
  clear hw14 g14 CS S13
  go_wp2_with fail
  refine hK.out _ _ hS14 (fun hH9 => ?_)
  clear hK K hHeld hH9
  try simp only [Act.put, List.getElem_toArray, List.getElem_cons_succ, List.getElem_cons_zero, List.setIfInBounds_toArray, List.set_cons_zero, List.set_cons_succ]
  refine wpAnyH_take (i := 65) (v := .pointer (some ⟨y1.heap.size, 0, none⟩)) rfl (by kernel_rfl) (by kernel_rfl) (by kernel_rfl) (fun _ _ _ h => h) (Or.inl ⟨by rfl, fun w hSw => by go_simp⟩) (by assumption) ?_
  try simp only [Act.put, List.getElem_toArray, List.getElem_cons_succ, List.getElem_cons_zero, List.setIfInBounds_toArray, List.set_cons_zero, List.set_cons_succ]
  refine wpAnyH_ready (rs := [66]) (by kernel_rfl) (by simp) ?_
  refine AllReadyH.cons rfl (fun K hK => ?_) AllReadyH.nil
  have t0 := unhide z3
  have t1 := unhide z4
  have t2 := unhide z5
  have t3 := unhide z1
  go_wp2_with fail
  refine hK.out _ _ hS14 (fun hH9 => ?_)
  clear hK K t0 t1 t2 t3 hH9
  try simp only [Act.put, List.getElem_toArray, List.getElem_cons_succ, List.getElem_cons_zero, List.setIfInBounds_toArray, List.set_cons_zero, List.set_cons_succ]
  refine wpAnyH_take (i := 67) (v := .bool true) rfl (by kernel_rfl) (by kernel_rfl) (by kernel_rfl) (fun _ _ _ h => h) (Or.inl ⟨by rfl, fun w hSw => by go_simp⟩) (by assumption) ?_
  try simp only [Act.put, List.getElem_toArray, List.getElem_cons_succ, List.getElem_cons_zero, List.setIfInBounds_toArray, List.set_cons_zero, List.set_cons_succ]
  refine wpAnyH_take (i := 68) (v := .bool true) rfl (by kernel_rfl) (by kernel_rfl) (by kernel_rfl) (fun _ _ _ h => h) (Or.inl ⟨by rfl, fun w hSw => by go_simp⟩) (by assumption) ?_
  try simp only [Act.put, List.getElem_toArray, List.getElem_cons_succ, List.getElem_cons_zero, List.setIfInBounds_toArray, List.set_cons_zero, List.set_cons_succ]
  refine wpAnyH_take (i := 69) (v := .bool true) rfl (by kernel_rfl) (by kernel_rfl) (by kernel_rfl) (fun _ _ _ h => h) (Or.inl ⟨by rfl, fun w hSw => by go_simp⟩) (by assumption) ?_
  try simp only [Act.put, List.getElem_toArray, List.getElem_cons_succ, List.getElem_cons_zero, List.setIfInBounds_toArray, List.set_cons_zero, List.set_cons_succ]
  refine wpAnyH_take (i := 70) (v := .int .i64 1) rfl (by kernel_rfl) (by kernel_rfl) (by kernel_rfl) (fun _ _ _ h => h) (Or.inl ⟨by rfl, fun w hSw => by go_simp⟩) (by assumption) ?_
  try simp only [Act.put, List.getElem_toArray, List.getElem_cons_succ, List.getElem_cons_zero, List.setIfInBounds_toArray, List.set_cons_zero, List.set_cons_succ]
  refine wpAnyH_take (i := 71) (v := .bool true) rfl (by kernel_rfl) (by kernel_rfl) (by kernel_rfl) (fun _ _ _ h => h) (Or.inl ⟨by rfl, fun w hSw => by go_simp⟩) (by assumption) ?_
  try simp only [Act.put, List.getElem_toArray, List.getElem_cons_succ, List.getElem_cons_zero, List.setIfInBounds_toArray, List.set_cons_zero, List.set_cons_succ]
  refine wpAnyH_take (i := 72) (v := .bool true) rfl (by kernel_rfl) (by kernel_rfl) (by kernel_rfl) (fun _ _ _ h => h) (Or.inl ⟨by rfl, fun w hSw => by go_simp⟩) (by assumption) ?_
  try simp only [Act.put, List.getElem_toArray, List.getElem_cons_succ, List.getElem_cons_zero, List.setIfInBounds_toArray, List.set_cons_zero, List.set_cons_succ]
  refine wpAnyH_take (i := 73) (v := .bool true) rfl (by kernel_rfl) (by kernel_rfl) (by kernel_rfl) (fun _ _ _ h => h) (Or.inl ⟨by rfl, fun w hSw => by go_simp⟩) (by assumption) ?_
  try simp only [Act.put, List.getElem_toArray, List.getElem_cons_succ, List.getElem_cons_zero, List.setIfInBounds_toArray, List.set_cons_zero, List.set_cons_succ]
  refine wpAnyH_take (i := 74) (v := .int .i64 0) rfl (by kernel_rfl) (by kernel_rfl) (by kernel_rfl) (fun _ _ _ h => h) (Or.inl ⟨by rfl, fun w hSw => by go_simp⟩) (by assumption) ?_
  try simp only [Act.put, List.getElem_toArray, List.getElem_cons_succ, List.getElem_cons_zero, List.setIfInBounds_toArray, List.set_cons_zero, List.set_cons_succ]
  refine wpAnyH_take (i := 75) (v := .bool true) rfl (by kernel_rfl) (by kernel_rfl) (by kernel_rfl) (fun _ _ _ h => h) (Or.inl ⟨by rfl, fun w hSw => by go_simp⟩) (by assumption) ?_
  try simp only [Act.put, List.getElem_toArray, List.getElem_cons_succ, List.getElem_cons_zero, List.setIfInBounds_toArray, List.set_cons_zero, List.set_cons_succ]
  refine wpAnyH_take (i := 76) (v := .bool true) rfl (by kernel_rfl) (by kernel_rfl) (by kernel_rfl) (fun _ _ _ h => h) (Or.inl ⟨by rfl, fun w hSw => by go_simp⟩) (by assumption) ?_
  try simp only [Act.put, List.getElem_toArray, List.getElem_cons_succ, List.getElem_cons_zero, List.setIfInBounds_toArray, List.set_cons_zero, List.set_cons_succ]
  refine wpAnyH_take (i := 77) (v := .bool true) rfl (by kernel_rfl) (by kernel_rfl) (by kernel_rfl) (fun _ _ _ h => h) (Or.inl ⟨by rfl, fun w hSw => by go_simp⟩) (by assumption) ?_
  try simp only [Act.put, List.getElem_toArray, List.getElem_cons_succ, List.getElem_cons_zero, List.setIfInBounds_toArray, List.set_cons_zero, List.set_cons_succ]
  refine wpAnyH_take (i := 78) (v := .pointer (some ⟨x.hb, 0, none⟩)) rfl (by kernel_rfl) (by kernel_rfl) (by kernel_rfl) (fun _ _ _ h => h) (Or.inl ⟨by rfl, fun w hSw => by go_simp⟩) (by assumption) ?_
  try simp only [Act.put, List.getElem_toArray, List.getElem_cons_succ, List.getElem_cons_zero, List.setIfInBounds_toArray, List.set_cons_zero, List.set_cons_succ]
  have CF := hide (h_forced S14)
  refine wpAnyH_ready (rs := [79]) (by kernel_rfl) (by simp) ?_
  refine AllReadyH.cons rfl (fun K hK => ?_) AllReadyH.nil
  go_simp
  refine (unhide CF).mono ?_
  rintro e w9' ⟨rfl, hw9⟩
  rw [hw9]
  clear hw9 w9' CF
  go_wp2_with fail
  refine hK.out _ _ hS14 (fun hH9 => ?_)
  clear hK K hH9
  try simp only [Act.put, List.getElem_toArray, List.getElem_cons_succ, List.getElem_cons_zero, List.setIfInBounds_toArray, List.set_cons_zero, List.set_cons_succ]
  refine wpAnyH_take (i := 80) (v := .bool true) rfl (by kernel_rfl) (by kernel_rfl) (by kernel_rfl) (fun _ _ _ h => h) (Or.inl ⟨by rfl, fun w hSw => by go_simp⟩) (by assumption) ?_
  try simp only [Act.put, List.getElem_toArray, List.getElem_cons_succ, List.getElem_cons_zero, List.setIfInBounds_toArray, List.set_cons_zero, List.set_cons_succ]
  refine wpAnyH_take (i := 81) (v := .bool true) rfl (by kernel_rfl) (by kernel_rfl) (by kernel_rfl) (fun _ _ _ h => h) (Or.inl ⟨by rfl, fun w hSw => by go_simp⟩) (by assumption) ?_
  try simp only [Act.put, List.getElem_toArray, List.getElem_cons_succ, List.getElem_cons_zero, List.setIfInBounds_toArray, List.set_cons_zero, List.set_cons_succ]
  refine wpAnyH_take (i := 82) (v := .bool true) rfl (by kernel_rfl) (by kernel_rfl) (by kernel_rfl) (fun _ _ _ h => h) (Or.inl ⟨by rfl, fun w hSw => by go_simp⟩) (by assumption) ?_
  try simp only [Act.put, List.getElem_toArray, List.getElem_cons_succ, List.getElem_cons_zero, List.setIfInBounds_toArray, List.set_cons_zero]
  refine wpAnyH_done (by kernel_rfl) (NoPanic.normal ?_) _
  go_wp2_with fail
  go_ret
  exact ⟨rfl, Below.trans (unhide g1) ((unhide S14).ks.st.below.mono (unhide g1).size)⟩
end Go.Proofs.YtbfgengmojdamaaGreatDoor

/- Package heap: New where it makes none. -/
namespace Go.Proofs.YtbfgengmojdamaaGreatDoor
set_option maxRecDepth 100000
open Go.ChangeShapes Go.WideShapes Go.ChangeAt Go.RowKit Go.Maps Go.Deep

set_option maxHeartbeats 1000000 in
theorem h_new7 (w : World) : Calls Tryz.prog 9 #[.int .i64 7, .slice none 0 0] w fun e w' => e = .returned (.tuple #[.pointer none, .int .i64 1]) ∧ w' = w := by
  have C := hide (k_new7 w)
  go_enter Tryz.func9, Tryz.ntmps9
  go_wp2_with fail
  refine (unhide C).mono ?_
  rintro e w1 ⟨rfl, hw⟩
  subst hw
  clear C
  go_wp2_with fail
  go_ret2
  exact ⟨rfl, rfl⟩
set_option maxHeartbeats 2000000 in
theorem h_new_bad (w : World) (ht : Hid (Tab w)) (rb : Nat) (k f : Int) (m : Nat) (hbad : Hd.goodB k f m = false) (hb : rb < w.heap.size)
    (e0 : w.cell? ⟨rb, 0, none⟩ = some (.int .i64 k)) (e1 : w.cell? ⟨rb, 1, none⟩ = some (.int .i64 f)) (e2 : w.cell? ⟨rb, 2, none⟩ = some (.int .u64 (m : Int))) :
    Calls Tryz.prog 9 #[.int .i64 8, .slice (some ⟨rb, 0, none⟩) 1 1] w fun e w' => e = .returned (.tuple #[.pointer none, .int .i64 1]) ∧ G w w' := by
  have KN : Hid (Calls Tryz.prog 31 #[.int .i64 8] w fun e w' => ∃ cb : Nat, e = .returned (.tuple #[.pointer (some ⟨cb, 0, none⟩), .int .i64 0]) ∧ G w w') := hide ((k_newT (W := w) (w := w) 8 (by decide) (by decide) (hide (Below.refl _ _)) ht).mono (by
    rintro e w' ⟨xl, b, tm, rfl, K, _⟩
    exact ⟨b.cb, rfl, K.st.below⟩))
  go_enter Tryz.func9, Tryz.ntmps9
  go_wp2_with fail
  refine (unhide KN).mono ?_
  rintro e w1 ⟨cb, rfl, g1⟩
  clear KN
  have y0 := g1.cell e0
  have y1 := g1.cell e1
  have y2 := g1.cell e2
  have hbk : rb < w1.heap.size := Nat.lt_of_lt_of_le hb g1.size
  replace g1 := hide g1
  clear e0 e1 e2 hb
  go_wp2_with fail
  refine wp_loop_rounds 1 ?_
  rw [rounds_succ]
  go_wp2_with fail
  refine (Hd.good_any _ _ _ _).mono ?_
  rintro e w2 ⟨rfl, hw2⟩
  have g2 : Hid (G w w2) := hide (by rw [hw2]; exact ((unhide g1).more _).more _)
  rw [hbad]
  clear hw2 y0 y1 y2 hbk g1
  go_wp2_with fail
  go_ret2
  exact ⟨rfl, unhide g2⟩
end Go.Proofs.YtbfgengmojdamaaGreatDoor

/- HeapKnown of package gantlinelaw14 answers true. -/
namespace Go.Proofs.YtbfgengmojdamaaGreatDoor
set_option maxRecDepth 100000
open Go.ChangeShapes Go.WideShapes Go.ChangeAt Go.RowKit Go.Maps Go.Deep

section
variable {W w : World} {x : Hx} {al : Al} {ao : Option Addr} {cap : Nat} {nv : Value} {c : Nat → Nat}
theorem ad2 (h : Hid (HS W w x al ls3 3 ao cap nv c)) : Calls Tryz.prog 15 #[.pointer (some ⟨x.hb, 0, none⟩), .agg #[.int .i64 3, .int .i64 0, .int .u64 0]] w fun r w' => r = .returned (.tuple #[.int .i64 3, .int .i64 0]) ∧ ∃ ao cap nv c, HS W w' x al (Hd.addS ls3 ⟨3, 0, 0⟩) 4 ao cap nv c :=
  (h_add h rfl (by decide) ⟨3, 0, 0⟩ ⟨by decide, by decide, by decide⟩).mono fun _ _ hh => by
    obtain ⟨hr, ⟨n', ao', cap', nv', c', hn', S⟩, _⟩ := hh
    rw [q_n2.1, q_n2.2] at hr
    obtain rfl : n' = 4 := hn'
    exact ⟨hr, ao', cap', nv', c', S⟩
theorem ad3 (h : Hid (HS W w x al (Hd.addS ls3 ⟨3, 0, 0⟩) 4 ao cap nv c)) : Calls Tryz.prog 15 #[.pointer (some ⟨x.hb, 0, none⟩), .agg #[.int .i64 7, .int .i64 0, .int .u64 0]] w fun r w' => r = .returned (.tuple #[.int .i64 0, .int .i64 1]) ∧ Below W.heap.size W w' :=
  (h_add h rfl (by decide) ⟨7, 0, 0⟩ ⟨by decide, by decide, by decide⟩).mono fun _ _ hh => by
    obtain ⟨hr, ⟨n', ao', cap', nv', c', hn', S⟩, _⟩ := hh
    rw [(q_n3 _).1, (q_n3 []).2] at hr
    exact ⟨hr, S.ks.st.below⟩
theorem mkb1 (h : Hid (HS W w x al ls3 3 ao cap nv c)) (rv : Value) : Calls Tryz.prog 11 #[.pointer (some ⟨x.hb, 0, none⟩), .int .i64 3, .int .i64 3, rv] w fun r w' => r = .returned (.tuple #[.int .i64 0, .int .i64 1]) ∧ w' = w :=
  h_make_bad h 3 3 (by decide) rv
theorem mkb2 (h : Hid (HS W w x al ls3 3 ao cap nv c)) (rv : Value) : Calls Tryz.prog 11 #[.pointer (some ⟨x.hb, 0, none⟩), .int .i64 0, .int .i64 65, rv] w fun r w' => r = .returned (.tuple #[.int .i64 0, .int .i64 1]) ∧ w' = w :=
  h_make_bad h 0 65 (by decide) rv
end
set_option maxHeartbeats 4000000 in
set_option maxRecDepth 100000 in
theorem known14 (w : World) (ht : Tab w) (CA : Hid (Calls Tryz.prog 8 #[] w fun e w' => e = .returned (.bool true) ∧ G w w')) : Calls Tryz.prog 3 #[] w fun e w' => e = .returned (.bool true) ∧ G w w' := by
  replace ht := hide ht
  go_enter Tryz.func3, Tryz.ntmps3
  go_wp2_with fail
  refine (unhide CA).mono ?_
  rintro e w1 ⟨rfl, g1⟩
  replace g1 := hide g1
  have C1 := hide (h_new7 w1)
  clear CA
  go_wp2_with fail
  refine (unhide C1).mono ?_
  rintro e w2 ⟨rfl, hw⟩
  subst hw
  clear C1
  obtain ⟨W2, hW2⟩ : ∃ W2, W2 = w2.alloc (.cells #[.int .i64 9, .int .i64 0, .int .u64 0] 29) := ⟨_, rfl⟩
  have g2 : Hid (G w W2) := hide ((unhide g1).trans (by rw [hW2]; exact G.alloc _ _))
  have C2 := hide (h_new_bad W2 (hide (Tab.later (unhide ht) (unhide g2))) w2.heap.size 9 0 0 (by decide) (by rw [hW2, World.size_alloc]; omega) (by rw [hW2]; exact World.cell?_alloc_new _ _ _ 0) (by rw [hW2]; exact World.cell?_alloc_new _ _ _ 1) (by rw [hW2]; exact World.cell?_alloc_new _ _ _ 2))
  clear g1
  go_wp2_with fail
  rw [← hW2]
  clear hW2
  refine (unhide C2).mono ?_
  rintro e w3 ⟨rfl, g3'⟩
  have g3 : Hid (G w w3) := hide ((unhide g2).trans g3')
  clear C2 g2 g3'
  go_wp2_with fail
  refine (shapes14 _).mono ?_
  rintro e w4 ⟨rfl, hw4⟩
  have CN := hide (new14 w3 w4 hw4 (Tab.later (unhide ht) (unhide g3)))
  have g4 : Hid (G w w4) := hide ((unhide g3).trans (by rw [hw4]; exact G.alloc _ _))
  clear hw4 g3 ht
  go_wp2_with fail
  refine (unhide CN).mono ?_
  rintro e w5 ⟨x, rfl, ao, cap, nv, c, S5⟩
  have S6 := hide (S5.gr (G.alloc w5 (.cells #[.slice none 0 0] 35)))
  have C3 := hide (mk1 S6)
  clear S5 CN
  go_wp2_with fail
  refine (unhide C3 _).mono ?_
  rintro e w7 ⟨rfl, S7⟩
  replace S7 := hide S7
  have C4 := hide (mk2 S7)
  clear C3 S6
  go_wp2_with fail
  refine (unhide C4 _).mono ?_
  rintro e w8 ⟨rfl, S8⟩
  replace S8 := hide S8
  clear C4 S7
  have C := hide (get14 0 0 false 0 1 q_k1 S8)
  go_wp2_with fail
  refine (unhide C).mono ?_
  rintro e w9 ⟨rfl, S9⟩
  replace S9 := hide S9
  clear C S8
  have C := hide (get14 64 0 true 0 1 q_k2 S9)
  go_wp2_with fail
  refine (unhide C).mono ?_
  rintro e w10 ⟨rfl, S10⟩
  replace S10 := hide S10
  clear C S9
  have C := hide (get14 64 2 false 0 1 q_k3 S10)
  go_wp2_with fail
  refine (unhide C).mono ?_
  rintro e w11 ⟨rfl, S11⟩
  replace S11 := hide S11
  clear C S10
  have C := hide (at14 68 3 false 0 2 q_k4 S11)
  go_wp2_with fail
  refine (unhide C).mono ?_
  rintro e w12 ⟨rfl, S12⟩
  replace S12 := hide S12
  clear C S11
  have C := hide (at14 68 (-1) false 0 2 q_k5 S12)
  go_wp2_with fail
  refine (unhide C).mono ?_
  rintro e w13 ⟨rfl, S13⟩
  replace S13 := hide S13
  clear C S12
  have C := hide (at14 64 0 false 0 1 q_k6 S13)
  go_wp2_with fail
  refine (unhide C).mono ?_
  rintro e w14 ⟨rfl, S14⟩
  replace S14 := hide S14
  clear C S13
  have C := hide (len14 64 0 1 q_k7 S14)
  go_wp2_with fail
  refine (unhide C).mono ?_
  rintro e w15 ⟨rfl, S15⟩
  replace S15 := hide S15
  clear C S14
  have C5 := hide (mkb1 S15)
  go_wp2_with fail
  refine (unhide C5 _).mono ?_
  rintro e w16 ⟨rfl, hw⟩
  subst hw
  clear C5
  have C6 := hide (mkb2 S15)
  go_wp2_with fail
  refine (unhide C6 _).mono ?_
  rintro e w17 ⟨rfl, hw⟩
  subst hw
  have C7 := hide (ad2 S15)
  clear C6
  go_wp2_with fail
  refine (unhide C7).mono ?_
  rintro e w18 ⟨rfl, ao', cap', nv', c', S18⟩
  have C8 := hide (ad3 (hide S18))
  clear C7 S18 S15
  go_wp2_with fail
  refine (unhide C8).mono ?_
  rintro e w19 ⟨rfl, B19⟩
  have FIN : Hid (G w w19) := hide (Below.trans (unhide g4) (B19.mono (unhide g4).size))
  clear C8 B19 g4
  go_wp2_with fail
  go_ret
  exact ⟨rfl, unhide FIN⟩
end Go.Proofs.YtbfgengmojdamaaGreatDoor

/- HeapKnown of package gantlinelaw14: the law answers true; nothing that was there is turned. -/
namespace Go.Proofs.YtbfgengmojdamaaGreatDoor
set_option maxRecDepth 100000
open Go.ChangeShapes Go.WideShapes Go.ChangeAt Go.RowKit Go.Maps

theorem walk_HeapKnown (w : World) (ht : Tab w) : Calls Tryz.prog 3 #[] w fun e w' => e = .returned (.bool true) ∧ Below w.heap.size w w' :=
  known14 w ht (hide (awake14 w ht))


set_option maxRecDepth 100000 in
theorem lifted_HeapKnown (os : Os) (started : os.Started) (H : Type) (enc : TypeId × Value → H) :
    ReturnsInHanded {} Tryz.checked os 3 .any (fun w args => (Rows.heapKnownSpec.pre enc Tryz.prog Tryz.f3 [] false w args ∧ laidMetH Tryz.prog laidTab w) ∧ sizedMet enc Tryz.prog Tryz.f3 (OpenSpec.ofChange Rows.heapKnownSpec) false w args)
      (Rows.heapKnownSpec.post enc Tryz.prog Tryz.f3 false true false false) := by
  refine returnsInHanded_of_change_and (C := Tryz.checked) (X := fun w _ => laidMetH Tryz.prog laidTab w) (fun _ _ _ hh h => h.of_heap hh) own started (by kernel_rfl) Tryz.func3
    (ChangeSpec.witness_shaped (enc := enc) (C := Tryz.checked) (os := os) (X := fun w _ => laidMetH Tryz.prog laidTab w) false (World.doorLaid Tryz.prog 400 os) #[] 8 rfl (World.shaped_of_RefB (by kernel_rfl) (by kernel_rfl)) (by kernel_rfl) (by kernel_rfl) (by kernel_rfl) (door_met os _)) ?_
  intro W base args ds gs before hval0 hW _ _ hL _
  have hval : ∀ (j : Nat) t v, Tryz.f3.params[j]? = some t → args[j]? = some v → Value.okWide Tryz.prog W .any base t v := hval0
  have hW' := hW
  obtain ⟨p, q, hA0, hV, rfl, hfz, hnd⟩ := hW
  have hA : DataW.TrodAll enc Tryz.prog W 0 (fun _ => true) true Tryz.f3.params.toList args.toList ds p := hA0
  rw [Tryz.params3] at hA hval
  obtain ⟨rfl, rfl, rfl⟩ := trodAll_none hA
  obtain ⟨rfl, rfl⟩ := trodVars_none hV
  clear hA0 hval0
  refine (walk_HeapKnown W (tab_of_laid hL)).mono fun e W' ⟨he, hg⟩ => ?_
  subst he
  exact ⟨_, rfl, _, _, _, [], [], [], hW', trodAll_mk1 (shut_bool Tryz.underlying4 _), trodAll_mk0, rfl, hg.frame _, fun h => by cases h⟩

theorem row_HeapKnown : Rows.HeapKnownSaid :=
  OpenClaim.holds_of_wide 3 Tryz.f3 rfl rfl rfl rfl rfl rfl rfl ⟨rfl, rfl, rfl, rfl, rfl⟩ rfl rfl rfl rfl rfl (by kernel_rfl) Tryz.func3 (by kernel_rfl)
    (of_decide_eq_true (by kernel_rfl)) (by unfold Func.isWrapper; first | (rw [if_pos (by decide +kernel)]; kernel_rfl) | (rw [if_neg (by decide +kernel)]; exact ⟨rfl, rfl⟩))
    (fun os started H enc _ => lifted_HeapKnown os started H enc)

/-- THE STATEMENT. -/
theorem card_HeapKnown : Rows.HeapKnownCardSaid :=
  Claim7.holds_tied_plain_at .later [] [.data] true (true, "43f1ef4531070ce745c24119a837c98c40e55773cc6677205aa08550657475e5") false
    row_HeapKnown (fun _ h => by cases h) (by kernel_rfl) (fun _ h => by cases h) heapKnown_row_tie rfl ⟨rfl, rfl⟩ (by kernel_rfl) rfl
    (fun f fn hf hfn => by
      obtain rfl : f = 3 := Option.some.inj ((show Tryz.prog.funcNamed "gantline/gantlinelaw14.HeapKnown" = some 3 by kernel_rfl).symm.trans hf) |>.symm
      obtain rfl : fn = Tryz.f3 := (Option.some.inj (Tryz.func3.symm.trans hfn)).symm
      exact ⟨by kernel_rfl, fun j t ht => by
        rw [Tryz.params3] at ht
        simp at ht⟩)
    (by kernel_rfl)
#print axioms card_HeapKnown
end Go.Proofs.YtbfgengmojdamaaGreatDoor
