/- Package verify: the roles of an Op's operands. -/
import Derived.Test.YtnliooflpclcbaaGreatDoorCodeMem
import Derived.Deep.DeepCutAuto
import Derived.BigQuiet
namespace Go.Proofs.YtnliooflpclcbaaGreatDoor
set_option maxRecDepth 100000
open Go.RowKit Go.Maps Go.ChangeShapes Go.WideShapes Go.ChangeAt Go.Deep

abbrev R4 := Nat × Nat × Nat × Nat
def rv4 (r : R4) : Value := .agg #[.int .u8 (r.1 : Int), .int .u8 (r.2.1 : Int), .int .u8 (r.2.2.1 : Int), .int .u8 (r.2.2.2 : Int)]
def rOut (o : Option R4) : Value := .tuple #[rv4 (o.getD (0, 0, 0, 0)), .bool o.isSome]
def rolesS (op : Int) : Option R4 :=
  if op = 0 then some (2, 8, 0, 0)
  else if op = 1 then some (1, 1, 0, 0)
  else if op = 2 then some (3, 0, 0, 0)
  else if op = 3 then some (2, 2, 2, 0)
  else if op = 4 then some (2, 2, 2, 0)
  else if op = 5 then some (2, 2, 2, 0)
  else if op = 6 then some (2, 2, 2, 0)
  else if op = 7 then some (2, 2, 2, 0)
  else if op = 8 then some (2, 2, 2, 0)
  else if op = 9 then some (2, 2, 2, 0)
  else if op = 10 then some (2, 2, 2, 0)
  else if op = 11 then some (2, 2, 2, 0)
  else if op = 12 then some (2, 2, 2, 0)
  else if op = 13 then some (2, 2, 2, 0)
  else if op = 14 then some (2, 2, 2, 0)
  else if op = 15 then some (2, 2, 2, 0)
  else if op = 16 then some (2, 3, 3, 0)
  else if op = 17 then some (2, 2, 0, 0)
  else if op = 42 then some (2, 0, 0, 0)
  else none
theorem s_0 (w : World) : Calls Tryz.prog 40 #[.int .i64 0] w fun e w' => e = .returned (.tuple #[rv4 (2, 8, 0, 0), .bool true]) ∧ G w w' := by
  unfold rv4
  go_enter Tryz.func40, Tryz.ntmps40
  go_wp2_with fail
  refine bodyPost_ret (by simp [results, Tryz.results40, go_sem]; try rfl) rfl ?_
  exact ⟨rfl, G.alloc _ _⟩
theorem s_1 (w : World) : Calls Tryz.prog 40 #[.int .i64 1] w fun e w' => e = .returned (.tuple #[rv4 (1, 1, 0, 0), .bool true]) ∧ G w w' := by
  unfold rv4
  go_enter Tryz.func40, Tryz.ntmps40
  go_wp2_with fail
  refine bodyPost_ret (by simp [results, Tryz.results40, go_sem]; try rfl) rfl ?_
  exact ⟨rfl, G.alloc _ _⟩
theorem s_2 (w : World) : Calls Tryz.prog 40 #[.int .i64 2] w fun e w' => e = .returned (.tuple #[rv4 (3, 0, 0, 0), .bool true]) ∧ G w w' := by
  unfold rv4
  go_enter Tryz.func40, Tryz.ntmps40
  go_wp2_with fail
  refine bodyPost_ret (by simp [results, Tryz.results40, go_sem]; try rfl) rfl ?_
  exact ⟨rfl, G.alloc _ _⟩
theorem s_3 (w : World) : Calls Tryz.prog 40 #[.int .i64 3] w fun e w' => e = .returned (.tuple #[rv4 (2, 2, 2, 0), .bool true]) ∧ G w w' := by
  unfold rv4
  go_enter Tryz.func40, Tryz.ntmps40
  go_wp2_with fail
  refine bodyPost_ret (by simp [results, Tryz.results40, go_sem]; try rfl) rfl ?_
  exact ⟨rfl, G.alloc _ _⟩
theorem s_4 (w : World) : Calls Tryz.prog 40 #[.int .i64 4] w fun e w' => e = .returned (.tuple #[rv4 (2, 2, 2, 0), .bool true]) ∧ G w w' := by
  unfold rv4
  go_enter Tryz.func40, Tryz.ntmps40
  go_wp2_with fail
  refine bodyPost_ret (by simp [results, Tryz.results40, go_sem]; try rfl) rfl ?_
  exact ⟨rfl, G.alloc _ _⟩
theorem s_5 (w : World) : Calls Tryz.prog 40 #[.int .i64 5] w fun e w' => e = .returned (.tuple #[rv4 (2, 2, 2, 0), .bool true]) ∧ G w w' := by
  unfold rv4
  go_enter Tryz.func40, Tryz.ntmps40
  go_wp2_with fail
  refine bodyPost_ret (by simp [results, Tryz.results40, go_sem]; try rfl) rfl ?_
  exact ⟨rfl, G.alloc _ _⟩
theorem s_6 (w : World) : Calls Tryz.prog 40 #[.int .i64 6] w fun e w' => e = .returned (.tuple #[rv4 (2, 2, 2, 0), .bool true]) ∧ G w w' := by
  unfold rv4
  go_enter Tryz.func40, Tryz.ntmps40
  go_wp2_with fail
  refine bodyPost_ret (by simp [results, Tryz.results40, go_sem]; try rfl) rfl ?_
  exact ⟨rfl, G.alloc _ _⟩
theorem s_7 (w : World) : Calls Tryz.prog 40 #[.int .i64 7] w fun e w' => e = .returned (.tuple #[rv4 (2, 2, 2, 0), .bool true]) ∧ G w w' := by
  unfold rv4
  go_enter Tryz.func40, Tryz.ntmps40
  go_wp2_with fail
  refine bodyPost_ret (by simp [results, Tryz.results40, go_sem]; try rfl) rfl ?_
  exact ⟨rfl, G.alloc _ _⟩
theorem s_8 (w : World) : Calls Tryz.prog 40 #[.int .i64 8] w fun e w' => e = .returned (.tuple #[rv4 (2, 2, 2, 0), .bool true]) ∧ G w w' := by
  unfold rv4
  go_enter Tryz.func40, Tryz.ntmps40
  go_wp2_with fail
  refine bodyPost_ret (by simp [results, Tryz.results40, go_sem]; try rfl) rfl ?_
  exact ⟨rfl, G.alloc _ _⟩
theorem s_9 (w : World) : Calls Tryz.prog 40 #[.int .i64 9] w fun e w' => e = .returned (.tuple #[rv4 (2, 2, 2, 0), .bool true]) ∧ G w w' := by
  unfold rv4
  go_enter Tryz.func40, Tryz.ntmps40
  go_wp2_with fail
  refine bodyPost_ret (by simp [results, Tryz.results40, go_sem]; try rfl) rfl ?_
  exact ⟨rfl, G.alloc _ _⟩
theorem s_10 (w : World) : Calls Tryz.prog 40 #[.int .i64 10] w fun e w' => e = .returned (.tuple #[rv4 (2, 2, 2, 0), .bool true]) ∧ G w w' := by
  unfold rv4
  go_enter Tryz.func40, Tryz.ntmps40
  go_wp2_with fail
  refine bodyPost_ret (by simp [results, Tryz.results40, go_sem]; try rfl) rfl ?_
  exact ⟨rfl, G.alloc _ _⟩
theorem s_11 (w : World) : Calls Tryz.prog 40 #[.int .i64 11] w fun e w' => e = .returned (.tuple #[rv4 (2, 2, 2, 0), .bool true]) ∧ G w w' := by
  unfold rv4
  go_enter Tryz.func40, Tryz.ntmps40
  go_wp2_with fail
  refine bodyPost_ret (by simp [results, Tryz.results40, go_sem]; try rfl) rfl ?_
  exact ⟨rfl, G.alloc _ _⟩
theorem s_12 (w : World) : Calls Tryz.prog 40 #[.int .i64 12] w fun e w' => e = .returned (.tuple #[rv4 (2, 2, 2, 0), .bool true]) ∧ G w w' := by
  unfold rv4
  go_enter Tryz.func40, Tryz.ntmps40
  go_wp2_with fail
  refine bodyPost_ret (by simp [results, Tryz.results40, go_sem]; try rfl) rfl ?_
  exact ⟨rfl, G.alloc _ _⟩
theorem s_13 (w : World) : Calls Tryz.prog 40 #[.int .i64 13] w fun e w' => e = .returned (.tuple #[rv4 (2, 2, 2, 0), .bool true]) ∧ G w w' := by
  unfold rv4
  go_enter Tryz.func40, Tryz.ntmps40
  go_wp2_with fail
  refine bodyPost_ret (by simp [results, Tryz.results40, go_sem]; try rfl) rfl ?_
  exact ⟨rfl, G.alloc _ _⟩
theorem s_14 (w : World) : Calls Tryz.prog 40 #[.int .i64 14] w fun e w' => e = .returned (.tuple #[rv4 (2, 2, 2, 0), .bool true]) ∧ G w w' := by
  unfold rv4
  go_enter Tryz.func40, Tryz.ntmps40
  go_wp2_with fail
  refine bodyPost_ret (by simp [results, Tryz.results40, go_sem]; try rfl) rfl ?_
  exact ⟨rfl, G.alloc _ _⟩
theorem s_15 (w : World) : Calls Tryz.prog 40 #[.int .i64 15] w fun e w' => e = .returned (.tuple #[rv4 (2, 2, 2, 0), .bool true]) ∧ G w w' := by
  unfold rv4
  go_enter Tryz.func40, Tryz.ntmps40
  go_wp2_with fail
  refine bodyPost_ret (by simp [results, Tryz.results40, go_sem]; try rfl) rfl ?_
  exact ⟨rfl, G.alloc _ _⟩
theorem s_16 (w : World) : Calls Tryz.prog 40 #[.int .i64 16] w fun e w' => e = .returned (.tuple #[rv4 (2, 3, 3, 0), .bool true]) ∧ G w w' := by
  unfold rv4
  go_enter Tryz.func40, Tryz.ntmps40
  go_wp2_with fail
  refine bodyPost_ret (by simp [results, Tryz.results40, go_sem]; try rfl) rfl ?_
  exact ⟨rfl, G.alloc _ _⟩
theorem s_17 (w : World) : Calls Tryz.prog 40 #[.int .i64 17] w fun e w' => e = .returned (.tuple #[rv4 (2, 2, 0, 0), .bool true]) ∧ G w w' := by
  unfold rv4
  go_enter Tryz.func40, Tryz.ntmps40
  go_wp2_with fail
  refine bodyPost_ret (by simp [results, Tryz.results40, go_sem]; try rfl) rfl ?_
  exact ⟨rfl, G.alloc _ _⟩
theorem s_42 (w : World) : Calls Tryz.prog 40 #[.int .i64 42] w fun e w' => e = .returned (.tuple #[rv4 (2, 0, 0, 0), .bool true]) ∧ G w w' := by
  unfold rv4
  go_enter Tryz.func40, Tryz.ntmps40
  go_wp2_with fail
  refine bodyPost_ret (by simp [results, Tryz.results40, go_sem]; try rfl) rfl ?_
  exact ⟨rfl, G.alloc _ _⟩
theorem s_no (w : World) (op : Int) (h0 : ¬ op = 0) (h1 : ¬ op = 1) (h2 : ¬ op = 2) (h3 : ¬ op = 3) (h4 : ¬ op = 4) (h5 : ¬ op = 5) (h6 : ¬ op = 6) (h7 : ¬ op = 7) (h8 : ¬ op = 8) (h9 : ¬ op = 9) (h10 : ¬ op = 10) (h11 : ¬ op = 11) (h12 : ¬ op = 12) (h13 : ¬ op = 13) (h14 : ¬ op = 14) (h15 : ¬ op = 15) (h16 : ¬ op = 16) (h17 : ¬ op = 17) (h42 : ¬ op = 42) : Calls Tryz.prog 40 #[.int .i64 op] w fun e w' => e = .returned (.tuple #[rv4 (0, 0, 0, 0), .bool false]) ∧ G w w' := by
  have e0 : (op == 0) = false := by simpa using h0
  have e1 : (op == 1) = false := by simpa using h1
  have e2 : (op == 2) = false := by simpa using h2
  have e3 : (op == 3) = false := by simpa using h3
  have e4 : (op == 4) = false := by simpa using h4
  have e5 : (op == 5) = false := by simpa using h5
  have e6 : (op == 6) = false := by simpa using h6
  have e7 : (op == 7) = false := by simpa using h7
  have e8 : (op == 8) = false := by simpa using h8
  have e9 : (op == 9) = false := by simpa using h9
  have e10 : (op == 10) = false := by simpa using h10
  have e11 : (op == 11) = false := by simpa using h11
  have e12 : (op == 12) = false := by simpa using h12
  have e13 : (op == 13) = false := by simpa using h13
  have e14 : (op == 14) = false := by simpa using h14
  have e15 : (op == 15) = false := by simpa using h15
  have e16 : (op == 16) = false := by simpa using h16
  have e17 : (op == 17) = false := by simpa using h17
  have e42 : (op == 42) = false := by simpa using h42
  clear h0 h1 h2 h3 h4 h5 h6 h7 h8 h9 h10 h11 h12 h13 h14 h15 h16 h17 h42
  unfold rv4
  go_enter Tryz.func40, Tryz.ntmps40
  go_wp2_with fail
  refine bodyPost_ret (by simp [results, Tryz.results40, go_sem]; try rfl) rfl ?_
  exact ⟨rfl, G.alloc _ _⟩
theorem s_any (w : World) (op : Int) : Calls Tryz.prog 40 #[.int .i64 op] w fun e w' => e = .returned (rOut (rolesS op)) ∧ G w w' := by
  by_cases h0 : op = 0
  · subst h0; exact s_0 w
  by_cases h1 : op = 1
  · subst h1; exact s_1 w
  by_cases h2 : op = 2
  · subst h2; exact s_2 w
  by_cases h3 : op = 3
  · subst h3; exact s_3 w
  by_cases h4 : op = 4
  · subst h4; exact s_4 w
  by_cases h5 : op = 5
  · subst h5; exact s_5 w
  by_cases h6 : op = 6
  · subst h6; exact s_6 w
  by_cases h7 : op = 7
  · subst h7; exact s_7 w
  by_cases h8 : op = 8
  · subst h8; exact s_8 w
  by_cases h9 : op = 9
  · subst h9; exact s_9 w
  by_cases h10 : op = 10
  · subst h10; exact s_10 w
  by_cases h11 : op = 11
  · subst h11; exact s_11 w
  by_cases h12 : op = 12
  · subst h12; exact s_12 w
  by_cases h13 : op = 13
  · subst h13; exact s_13 w
  by_cases h14 : op = 14
  · subst h14; exact s_14 w
  by_cases h15 : op = 15
  · subst h15; exact s_15 w
  by_cases h16 : op = 16
  · subst h16; exact s_16 w
  by_cases h17 : op = 17
  · subst h17; exact s_17 w
  by_cases h42 : op = 42
  · subst h42; exact s_42 w
  have e : rolesS op = none := by unfold rolesS; simp only [h0, h1, h2, h3, h4, h5, h6, h7, h8, h9, h10, h11, h12, h13, h14, h15, h16, h17, h42, if_false]
  rw [e]
  exact s_no w op h0 h1 h2 h3 h4 h5 h6 h7 h8 h9 h10 h11 h12 h13 h14 h15 h16 h17 h42
def rolesW (op : Int) : Option R4 :=
  if op = 18 then some (15, 0, 0, 0)
  else if op = 19 then some (2, 15, 0, 0)
  else if op = 20 then some (4, 13, 6, 0)
  else if op = 21 then some (4, 3, 6, 7)
  else if op = 22 then some (4, 0, 0, 0)
  else if op = 23 then some (13, 6, 0, 0)
  else if op = 24 then some (3, 6, 7, 0)
  else if op = 41 then some (0, 0, 0, 0)
  else if op = 43 then some (0, 0, 0, 0)
  else if op = 44 then some (14, 0, 0, 0)
  else none
theorem w_18 (w : World) : Calls Tryz.prog 41 #[.int .i64 18] w fun e w' => e = .returned (.tuple #[rv4 (15, 0, 0, 0), .bool true]) ∧ G w w' := by
  unfold rv4
  go_enter Tryz.func41, Tryz.ntmps41
  go_wp2_with fail
  refine bodyPost_ret (by simp [results, Tryz.results41, go_sem]; try rfl) rfl ?_
  exact ⟨rfl, G.alloc _ _⟩
theorem w_19 (w : World) : Calls Tryz.prog 41 #[.int .i64 19] w fun e w' => e = .returned (.tuple #[rv4 (2, 15, 0, 0), .bool true]) ∧ G w w' := by
  unfold rv4
  go_enter Tryz.func41, Tryz.ntmps41
  go_wp2_with fail
  refine bodyPost_ret (by simp [results, Tryz.results41, go_sem]; try rfl) rfl ?_
  exact ⟨rfl, G.alloc _ _⟩
theorem w_20 (w : World) : Calls Tryz.prog 41 #[.int .i64 20] w fun e w' => e = .returned (.tuple #[rv4 (4, 13, 6, 0), .bool true]) ∧ G w w' := by
  unfold rv4
  go_enter Tryz.func41, Tryz.ntmps41
  go_wp2_with fail
  refine bodyPost_ret (by simp [results, Tryz.results41, go_sem]; try rfl) rfl ?_
  exact ⟨rfl, G.alloc _ _⟩
theorem w_21 (w : World) : Calls Tryz.prog 41 #[.int .i64 21] w fun e w' => e = .returned (.tuple #[rv4 (4, 3, 6, 7), .bool true]) ∧ G w w' := by
  unfold rv4
  go_enter Tryz.func41, Tryz.ntmps41
  go_wp2_with fail
  refine bodyPost_ret (by simp [results, Tryz.results41, go_sem]; try rfl) rfl ?_
  exact ⟨rfl, G.alloc _ _⟩
theorem w_22 (w : World) : Calls Tryz.prog 41 #[.int .i64 22] w fun e w' => e = .returned (.tuple #[rv4 (4, 0, 0, 0), .bool true]) ∧ G w w' := by
  unfold rv4
  go_enter Tryz.func41, Tryz.ntmps41
  go_wp2_with fail
  refine bodyPost_ret (by simp [results, Tryz.results41, go_sem]; try rfl) rfl ?_
  exact ⟨rfl, G.alloc _ _⟩
theorem w_23 (w : World) : Calls Tryz.prog 41 #[.int .i64 23] w fun e w' => e = .returned (.tuple #[rv4 (13, 6, 0, 0), .bool true]) ∧ G w w' := by
  unfold rv4
  go_enter Tryz.func41, Tryz.ntmps41
  go_wp2_with fail
  refine bodyPost_ret (by simp [results, Tryz.results41, go_sem]; try rfl) rfl ?_
  exact ⟨rfl, G.alloc _ _⟩
theorem w_24 (w : World) : Calls Tryz.prog 41 #[.int .i64 24] w fun e w' => e = .returned (.tuple #[rv4 (3, 6, 7, 0), .bool true]) ∧ G w w' := by
  unfold rv4
  go_enter Tryz.func41, Tryz.ntmps41
  go_wp2_with fail
  refine bodyPost_ret (by simp [results, Tryz.results41, go_sem]; try rfl) rfl ?_
  exact ⟨rfl, G.alloc _ _⟩
theorem w_41 (w : World) : Calls Tryz.prog 41 #[.int .i64 41] w fun e w' => e = .returned (.tuple #[rv4 (0, 0, 0, 0), .bool true]) ∧ G w w' := by
  unfold rv4
  go_enter Tryz.func41, Tryz.ntmps41
  go_wp2_with fail
  refine bodyPost_ret (by simp [results, Tryz.results41, go_sem]; try rfl) rfl ?_
  exact ⟨rfl, G.alloc _ _⟩
theorem w_43 (w : World) : Calls Tryz.prog 41 #[.int .i64 43] w fun e w' => e = .returned (.tuple #[rv4 (0, 0, 0, 0), .bool true]) ∧ G w w' := by
  unfold rv4
  go_enter Tryz.func41, Tryz.ntmps41
  go_wp2_with fail
  refine bodyPost_ret (by simp [results, Tryz.results41, go_sem]; try rfl) rfl ?_
  exact ⟨rfl, G.alloc _ _⟩
theorem w_44 (w : World) : Calls Tryz.prog 41 #[.int .i64 44] w fun e w' => e = .returned (.tuple #[rv4 (14, 0, 0, 0), .bool true]) ∧ G w w' := by
  unfold rv4
  go_enter Tryz.func41, Tryz.ntmps41
  go_wp2_with fail
  refine bodyPost_ret (by simp [results, Tryz.results41, go_sem]; try rfl) rfl ?_
  exact ⟨rfl, G.alloc _ _⟩
theorem w_no (w : World) (op : Int) (h18 : ¬ op = 18) (h19 : ¬ op = 19) (h20 : ¬ op = 20) (h21 : ¬ op = 21) (h22 : ¬ op = 22) (h23 : ¬ op = 23) (h24 : ¬ op = 24) (h41 : ¬ op = 41) (h43 : ¬ op = 43) (h44 : ¬ op = 44) : Calls Tryz.prog 41 #[.int .i64 op] w fun e w' => e = .returned (.tuple #[rv4 (0, 0, 0, 0), .bool false]) ∧ G w w' := by
  have e18 : (op == 18) = false := by simpa using h18
  have e19 : (op == 19) = false := by simpa using h19
  have e20 : (op == 20) = false := by simpa using h20
  have e21 : (op == 21) = false := by simpa using h21
  have e22 : (op == 22) = false := by simpa using h22
  have e23 : (op == 23) = false := by simpa using h23
  have e24 : (op == 24) = false := by simpa using h24
  have e41 : (op == 41) = false := by simpa using h41
  have e43 : (op == 43) = false := by simpa using h43
  have e44 : (op == 44) = false := by simpa using h44
  clear h18 h19 h20 h21 h22 h23 h24 h41 h43 h44
  unfold rv4
  go_enter Tryz.func41, Tryz.ntmps41
  go_wp2_with fail
  refine bodyPost_ret (by simp [results, Tryz.results41, go_sem]; try rfl) rfl ?_
  exact ⟨rfl, G.alloc _ _⟩
theorem w_any (w : World) (op : Int) : Calls Tryz.prog 41 #[.int .i64 op] w fun e w' => e = .returned (rOut (rolesW op)) ∧ G w w' := by
  by_cases h18 : op = 18
  · subst h18; exact w_18 w
  by_cases h19 : op = 19
  · subst h19; exact w_19 w
  by_cases h20 : op = 20
  · subst h20; exact w_20 w
  by_cases h21 : op = 21
  · subst h21; exact w_21 w
  by_cases h22 : op = 22
  · subst h22; exact w_22 w
  by_cases h23 : op = 23
  · subst h23; exact w_23 w
  by_cases h24 : op = 24
  · subst h24; exact w_24 w
  by_cases h41 : op = 41
  · subst h41; exact w_41 w
  by_cases h43 : op = 43
  · subst h43; exact w_43 w
  by_cases h44 : op = 44
  · subst h44; exact w_44 w
  have e : rolesW op = none := by unfold rolesW; simp only [h18, h19, h20, h21, h22, h23, h24, h41, h43, h44, if_false]
  rw [e]
  exact w_no w op h18 h19 h20 h21 h22 h23 h24 h41 h43 h44
def rolesT (op : Int) : Option R4 :=
  if op = 25 then some (3, 9, 0, 0)
  else if op = 26 then some (3, 10, 2, 0)
  else if op = 27 then some (1, 3, 0, 0)
  else if op = 28 then some (3, 0, 1, 0)
  else if op = 29 then some (3, 0, 1, 0)
  else if op = 30 then some (1, 3, 2, 0)
  else if op = 31 then some (3, 2, 1, 0)
  else if op = 32 then some (3, 2, 1, 0)
  else if op = 33 then some (2, 3, 0, 0)
  else if op = 34 then some (1, 12, 0, 0)
  else if op = 35 then some (12, 1, 0, 0)
  else if op = 36 then some (3, 13, 6, 0)
  else if op = 37 then some (3, 11, 2, 0)
  else if op = 38 then some (3, 1, 0, 0)
  else if op = 39 then some (4, 3, 5, 0)
  else if op = 40 then some (3, 0, 0, 0)
  else none
theorem t_25 (w : World) : Calls Tryz.prog 42 #[.int .i64 25] w fun e w' => e = .returned (.tuple #[rv4 (3, 9, 0, 0), .bool true]) ∧ G w w' := by
  unfold rv4
  go_enter Tryz.func42, Tryz.ntmps42
  go_wp2_with fail
  refine bodyPost_ret (by simp [results, Tryz.results42, go_sem]; try rfl) rfl ?_
  exact ⟨rfl, G.alloc _ _⟩
theorem t_26 (w : World) : Calls Tryz.prog 42 #[.int .i64 26] w fun e w' => e = .returned (.tuple #[rv4 (3, 10, 2, 0), .bool true]) ∧ G w w' := by
  unfold rv4
  go_enter Tryz.func42, Tryz.ntmps42
  go_wp2_with fail
  refine bodyPost_ret (by simp [results, Tryz.results42, go_sem]; try rfl) rfl ?_
  exact ⟨rfl, G.alloc _ _⟩
theorem t_27 (w : World) : Calls Tryz.prog 42 #[.int .i64 27] w fun e w' => e = .returned (.tuple #[rv4 (1, 3, 0, 0), .bool true]) ∧ G w w' := by
  unfold rv4
  go_enter Tryz.func42, Tryz.ntmps42
  go_wp2_with fail
  refine bodyPost_ret (by simp [results, Tryz.results42, go_sem]; try rfl) rfl ?_
  exact ⟨rfl, G.alloc _ _⟩
theorem t_28 (w : World) : Calls Tryz.prog 42 #[.int .i64 28] w fun e w' => e = .returned (.tuple #[rv4 (3, 0, 1, 0), .bool true]) ∧ G w w' := by
  unfold rv4
  go_enter Tryz.func42, Tryz.ntmps42
  go_wp2_with fail
  refine bodyPost_ret (by simp [results, Tryz.results42, go_sem]; try rfl) rfl ?_
  exact ⟨rfl, G.alloc _ _⟩
theorem t_29 (w : World) : Calls Tryz.prog 42 #[.int .i64 29] w fun e w' => e = .returned (.tuple #[rv4 (3, 0, 1, 0), .bool true]) ∧ G w w' := by
  unfold rv4
  go_enter Tryz.func42, Tryz.ntmps42
  go_wp2_with fail
  refine bodyPost_ret (by simp [results, Tryz.results42, go_sem]; try rfl) rfl ?_
  exact ⟨rfl, G.alloc _ _⟩
theorem t_30 (w : World) : Calls Tryz.prog 42 #[.int .i64 30] w fun e w' => e = .returned (.tuple #[rv4 (1, 3, 2, 0), .bool true]) ∧ G w w' := by
  unfold rv4
  go_enter Tryz.func42, Tryz.ntmps42
  go_wp2_with fail
  refine bodyPost_ret (by simp [results, Tryz.results42, go_sem]; try rfl) rfl ?_
  exact ⟨rfl, G.alloc _ _⟩
theorem t_31 (w : World) : Calls Tryz.prog 42 #[.int .i64 31] w fun e w' => e = .returned (.tuple #[rv4 (3, 2, 1, 0), .bool true]) ∧ G w w' := by
  unfold rv4
  go_enter Tryz.func42, Tryz.ntmps42
  go_wp2_with fail
  refine bodyPost_ret (by simp [results, Tryz.results42, go_sem]; try rfl) rfl ?_
  exact ⟨rfl, G.alloc _ _⟩
theorem t_32 (w : World) : Calls Tryz.prog 42 #[.int .i64 32] w fun e w' => e = .returned (.tuple #[rv4 (3, 2, 1, 0), .bool true]) ∧ G w w' := by
  unfold rv4
  go_enter Tryz.func42, Tryz.ntmps42
  go_wp2_with fail
  refine bodyPost_ret (by simp [results, Tryz.results42, go_sem]; try rfl) rfl ?_
  exact ⟨rfl, G.alloc _ _⟩
theorem t_33 (w : World) : Calls Tryz.prog 42 #[.int .i64 33] w fun e w' => e = .returned (.tuple #[rv4 (2, 3, 0, 0), .bool true]) ∧ G w w' := by
  unfold rv4
  go_enter Tryz.func42, Tryz.ntmps42
  go_wp2_with fail
  refine bodyPost_ret (by simp [results, Tryz.results42, go_sem]; try rfl) rfl ?_
  exact ⟨rfl, G.alloc _ _⟩
theorem t_34 (w : World) : Calls Tryz.prog 42 #[.int .i64 34] w fun e w' => e = .returned (.tuple #[rv4 (1, 12, 0, 0), .bool true]) ∧ G w w' := by
  unfold rv4
  go_enter Tryz.func42, Tryz.ntmps42
  go_wp2_with fail
  refine bodyPost_ret (by simp [results, Tryz.results42, go_sem]; try rfl) rfl ?_
  exact ⟨rfl, G.alloc _ _⟩
theorem t_35 (w : World) : Calls Tryz.prog 42 #[.int .i64 35] w fun e w' => e = .returned (.tuple #[rv4 (12, 1, 0, 0), .bool true]) ∧ G w w' := by
  unfold rv4
  go_enter Tryz.func42, Tryz.ntmps42
  go_wp2_with fail
  refine bodyPost_ret (by simp [results, Tryz.results42, go_sem]; try rfl) rfl ?_
  exact ⟨rfl, G.alloc _ _⟩
theorem t_36 (w : World) : Calls Tryz.prog 42 #[.int .i64 36] w fun e w' => e = .returned (.tuple #[rv4 (3, 13, 6, 0), .bool true]) ∧ G w w' := by
  unfold rv4
  go_enter Tryz.func42, Tryz.ntmps42
  go_wp2_with fail
  refine bodyPost_ret (by simp [results, Tryz.results42, go_sem]; try rfl) rfl ?_
  exact ⟨rfl, G.alloc _ _⟩
theorem t_37 (w : World) : Calls Tryz.prog 42 #[.int .i64 37] w fun e w' => e = .returned (.tuple #[rv4 (3, 11, 2, 0), .bool true]) ∧ G w w' := by
  unfold rv4
  go_enter Tryz.func42, Tryz.ntmps42
  go_wp2_with fail
  refine bodyPost_ret (by simp [results, Tryz.results42, go_sem]; try rfl) rfl ?_
  exact ⟨rfl, G.alloc _ _⟩
theorem t_38 (w : World) : Calls Tryz.prog 42 #[.int .i64 38] w fun e w' => e = .returned (.tuple #[rv4 (3, 1, 0, 0), .bool true]) ∧ G w w' := by
  unfold rv4
  go_enter Tryz.func42, Tryz.ntmps42
  go_wp2_with fail
  refine bodyPost_ret (by simp [results, Tryz.results42, go_sem]; try rfl) rfl ?_
  exact ⟨rfl, G.alloc _ _⟩
theorem t_39 (w : World) : Calls Tryz.prog 42 #[.int .i64 39] w fun e w' => e = .returned (.tuple #[rv4 (4, 3, 5, 0), .bool true]) ∧ G w w' := by
  unfold rv4
  go_enter Tryz.func42, Tryz.ntmps42
  go_wp2_with fail
  refine bodyPost_ret (by simp [results, Tryz.results42, go_sem]; try rfl) rfl ?_
  exact ⟨rfl, G.alloc _ _⟩
theorem t_40 (w : World) : Calls Tryz.prog 42 #[.int .i64 40] w fun e w' => e = .returned (.tuple #[rv4 (3, 0, 0, 0), .bool true]) ∧ G w w' := by
  unfold rv4
  go_enter Tryz.func42, Tryz.ntmps42
  go_wp2_with fail
  refine bodyPost_ret (by simp [results, Tryz.results42, go_sem]; try rfl) rfl ?_
  exact ⟨rfl, G.alloc _ _⟩
theorem t_no (w : World) (op : Int) (h25 : ¬ op = 25) (h26 : ¬ op = 26) (h27 : ¬ op = 27) (h28 : ¬ op = 28) (h29 : ¬ op = 29) (h30 : ¬ op = 30) (h31 : ¬ op = 31) (h32 : ¬ op = 32) (h33 : ¬ op = 33) (h34 : ¬ op = 34) (h35 : ¬ op = 35) (h36 : ¬ op = 36) (h37 : ¬ op = 37) (h38 : ¬ op = 38) (h39 : ¬ op = 39) (h40 : ¬ op = 40) : Calls Tryz.prog 42 #[.int .i64 op] w fun e w' => e = .returned (.tuple #[rv4 (0, 0, 0, 0), .bool false]) ∧ G w w' := by
  have e25 : (op == 25) = false := by simpa using h25
  have e26 : (op == 26) = false := by simpa using h26
  have e27 : (op == 27) = false := by simpa using h27
  have e28 : (op == 28) = false := by simpa using h28
  have e29 : (op == 29) = false := by simpa using h29
  have e30 : (op == 30) = false := by simpa using h30
  have e31 : (op == 31) = false := by simpa using h31
  have e32 : (op == 32) = false := by simpa using h32
  have e33 : (op == 33) = false := by simpa using h33
  have e34 : (op == 34) = false := by simpa using h34
  have e35 : (op == 35) = false := by simpa using h35
  have e36 : (op == 36) = false := by simpa using h36
  have e37 : (op == 37) = false := by simpa using h37
  have e38 : (op == 38) = false := by simpa using h38
  have e39 : (op == 39) = false := by simpa using h39
  have e40 : (op == 40) = false := by simpa using h40
  clear h25 h26 h27 h28 h29 h30 h31 h32 h33 h34 h35 h36 h37 h38 h39 h40
  unfold rv4
  go_enter Tryz.func42, Tryz.ntmps42
  go_wp2_with fail
  refine bodyPost_ret (by simp [results, Tryz.results42, go_sem]; try rfl) rfl ?_
  exact ⟨rfl, G.alloc _ _⟩
theorem t_any (w : World) (op : Int) : Calls Tryz.prog 42 #[.int .i64 op] w fun e w' => e = .returned (rOut (rolesT op)) ∧ G w w' := by
  by_cases h25 : op = 25
  · subst h25; exact t_25 w
  by_cases h26 : op = 26
  · subst h26; exact t_26 w
  by_cases h27 : op = 27
  · subst h27; exact t_27 w
  by_cases h28 : op = 28
  · subst h28; exact t_28 w
  by_cases h29 : op = 29
  · subst h29; exact t_29 w
  by_cases h30 : op = 30
  · subst h30; exact t_30 w
  by_cases h31 : op = 31
  · subst h31; exact t_31 w
  by_cases h32 : op = 32
  · subst h32; exact t_32 w
  by_cases h33 : op = 33
  · subst h33; exact t_33 w
  by_cases h34 : op = 34
  · subst h34; exact t_34 w
  by_cases h35 : op = 35
  · subst h35; exact t_35 w
  by_cases h36 : op = 36
  · subst h36; exact t_36 w
  by_cases h37 : op = 37
  · subst h37; exact t_37 w
  by_cases h38 : op = 38
  · subst h38; exact t_38 w
  by_cases h39 : op = 39
  · subst h39; exact t_39 w
  by_cases h40 : op = 40
  · subst h40; exact t_40 w
  have e : rolesT op = none := by unfold rolesT; simp only [h25, h26, h27, h28, h29, h30, h31, h32, h33, h34, h35, h36, h37, h38, h39, h40, if_false]
  rw [e]
  exact t_no w op h25 h26 h27 h28 h29 h30 h31 h32 h33 h34 h35 h36 h37 h38 h39 h40
def rolesP (op : Int) : Option R4 := (rolesS op).or ((rolesW op).or (rolesT op))
end Go.Proofs.YtnliooflpclcbaaGreatDoor
