/- ArenaPlays where it asks of New alone. -/
import Derived.Test.YtagfgpfdlcchoaaDoorPlaysCalls
namespace Go.Proofs.YtagfgpfdlcchoaaDoor
open Go.ChangeShapes Go.WideShapes Go.ChangeAt Go.RowKit Go.Maps

set_option maxHeartbeats 1000000 in
set_option maxRecDepth 100000 in
theorem plays_few (w : World) (ht : Hid (Tab w)) (n : Int) (ao : Option Addr) (k ca : Nat) (b1 b2 : Bool) (h1 : decide (n < 8) = b1) (h2 : decide (512 < n) = b2) (h : b1 = true ∨ (b1 = false ∧ b2 = true)) :
    Calls Tryd.prog 8 #[.int .i64 n, .slice ao k ca] w fun e w' => e = .returned (.bool true) ∧ Below w.heap.size w w' := by
  have C := hide (awake_true w (unhide ht))
  have CN : Hid (∀ w1, Calls Tryd.prog 38 #[.int .i64 n] w1 fun e w' => e = .returned (.tuple #[.pointer none, .int .i64 1]) ∧ w' = w1) := hide fun w1 => new_no w1 n (by
    rcases h with rfl | ⟨rfl, rfl⟩
    · left; simpa using h1
    · right; simpa using h2)
  rcases h with rfl | ⟨rfl, rfl⟩
  all_goals
    go_enter Tryd.func8, Tryd.ntmps8
    go_wp2_with fail
    refine (unhide C).mono ?_
    rintro e w1 ⟨rfl, g⟩
    have hb : Hid (Below w.heap.size w w1) := g
    clear g C
    go_wp2_with fail
    refine (unhide CN _).mono ?_
    rintro e w2 ⟨rfl, hw⟩
    subst hw
    clear CN
    go_wp2_with fail
    go_ret
    exact ⟨rfl, unhide hb⟩

set_option maxHeartbeats 1000000 in
set_option maxRecDepth 100000 in
theorem plays_many (w : World) (ht : Hid (Tab w)) (N : Nat) (ao : Option Addr) (k ca : Nat) (hN8 : 8 ≤ N) (hN5 : N ≤ 512) (b1 b2 : Bool) (h1 : decide (80 < (k : Int)) = b1) (h2 : decide (20 < (N : Int)) = b2) (h : b1 = true ∨ (b1 = false ∧ b2 = true)) :
    Calls Tryd.prog 8 #[.int .i64 (N : Int), .slice ao k ca] w fun e w' => e = .returned (.bool true) ∧ Below w.heap.size w w' := by
  have C := hide (awake_true w (unhide ht))
  have d1 : decide ((N : Int) < 8) = false := by simp; omega
  have d2 : decide (512 < (N : Int)) = false := by simp; omega
  rcases h with rfl | ⟨rfl, rfl⟩
  all_goals
    go_enter Tryd.func8, Tryd.ntmps8
    go_wp2_with fail
    refine (unhide C).mono ?_
    rintro e w1 ⟨rfl, g⟩
    have hb : Hid (Below w.heap.size w w1) := g
    clear g C
    go_wp2_with fail
    refine (st_make N hN8 hN5 hb ht).mono ?_
    rintro e w2 ⟨d, rfl, S, _⟩
    have S := hide S
    go_wp2_with fail
    go_ret
    exact ⟨rfl, (unhide S).below⟩

end Go.Proofs.YtagfgpfdlcchoaaDoor
