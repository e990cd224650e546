/- The contracts of package geom's calls. -/
import Derived.Test.YtalahfllflcfeaaGeomPlain
import Derived.Test.YtalahfllflcfeaaRows
import Derived.WalkKit
import Derived.WalkSpells
import Derived.WalkLawsBesides
import Derived.Deep.QuietTactic
import Derived.BigQuiet
import Derived.Handy
namespace Go.Proofs.Ytalahfllflcfeaa
open Go.RowKit

theorem ret_int {k : IntKind} {a b : Int} (h : a = b) : Ending.returned (.int k a) = .returned (.int k b) := by rw [h]

set_option maxHeartbeats 400000 in
theorem words_any (c : Int) (w : World) :
    Calls Try.prog 11 #[.int .i64 c] w fun e w' => e = .returned (.int .i64 (gw c)) ∧ w' = w := by
  rcases cls c with h | h | h | h | h | h | h | h
  · go_enter Try.func11, Try.ntmps11
    go_wp2
    go_ret
    exact ⟨ret_int (gw_lo h).symm, rfl⟩
  · have hd : decide (c < 6) = false := by simp; omega
    go_enter Try.func11, Try.ntmps11
    go_wp2
    go_ret
    exact ⟨ret_int (gw_hi h).symm, rfl⟩
  all_goals
    subst h
    go_enter Try.func11, Try.ntmps11
    go_wp2
    go_ret
    exact ⟨rfl, rfl⟩

set_option maxHeartbeats 400000 in
theorem places_any (c : Int) (w : World) :
    Calls Try.prog 12 #[.int .i64 c] w fun e w' => e = .returned (.int .i64 (gp c)) ∧ w' = w := by
  rcases cls c with h | h | h | h | h | h | h | h
  · go_enter Try.func12, Try.ntmps12
    go_wp2
    go_ret
    exact ⟨ret_int (gp_lo h).symm, rfl⟩
  · have hd : decide (c < 6) = false := by simp; omega
    go_enter Try.func12, Try.ntmps12
    go_wp2
    go_ret
    exact ⟨ret_int (gp_hi h).symm, rfl⟩
  all_goals
    subst h
    go_enter Try.func12, Try.ntmps12
    go_wp2
    go_ret
    exact ⟨rfl, rfl⟩

set_option maxHeartbeats 400000 in
theorem span_any (a : Int) (w : World) :
    Calls Try.prog 13 #[.int .i64 a] w fun e w' => e = .returned (.int .i64 (gs a)) ∧ w' = w := by
  by_cases h : a < 0
  · go_enter Try.func13, Try.ntmps13
    go_wp2
    go_ret
    exact ⟨ret_int (gs_lo h).symm, rfl⟩
  by_cases h2 : 32768 ≤ a
  · go_enter Try.func13, Try.ntmps13
    go_wp2
    go_ret
    exact ⟨ret_int (gs_hi h2).symm, rfl⟩
  · go_enter Try.func13, Try.ntmps13
    go_wp2
    go_ret
    exact ⟨ret_int (gs_in h h2).symm, rfl⟩

/-! ### Class -/
set_option maxHeartbeats 400000 in
theorem class_lo (n : Int) (w : World) (h : n < 1) :
    Calls Try.prog 10 #[.int .i64 n] w fun e w' => e = .returned (.int .i64 (-1)) ∧ w' = w := by
  go_enter Try.func10, Try.ntmps10
  go_wp2
  go_ret
  exact ⟨rfl, rfl⟩

set_option maxHeartbeats 400000 in
theorem class_hi (n : Int) (w : World) (h : 64 < n) :
    Calls Try.prog 10 #[.int .i64 n] w fun e w' => e = .returned (.int .i64 (-1)) ∧ w' = w := by
  go_enter Try.func10, Try.ntmps10
  go_wp2
  go_ret
  exact ⟨rfl, rfl⟩

/-- The class k has room for n, and no class below has. -/
theorem gc_at (n k : Int) (h0 : 1 ≤ n) (h1 : n ≤ 64) (hk : 0 ≤ k) (h5 : k ≤ 5) (hr : n ≤ gw k) (hb : k = 0 ∨ gw (k - 1) < n) : k = gc n := by
  rcases cls k with h | h | h | h | h | h | h | h
  · omega
  · omega
  all_goals
    subst h
    simp [gw] at hr hb
    unfold gc
    repeat (first | rw [if_pos (by omega)] | rw [if_neg (by omega)])

set_option maxHeartbeats 400000 in
theorem class_in (n : Int) (w : World) (h0 : 1 ≤ n) (h1 : n ≤ 64) :
    Calls Try.prog 10 #[.int .i64 n] w fun e w' => e = .returned (.int .i64 (gc n)) ∧ w' = w := by
  go_enter Try.func10, Try.ntmps10
  go_wp2_with fail
  go_loop [3] (fun c => ∃ k : Nat, k ≤ 5 ∧ c = .int .i64 k ∧ Hid (k = 0 ∨ gw ((k : Int) - 1) < n)) (fun c => 6 - (intOf c).toNat)
  case atStart => exact ⟨0, Nat.zero_le _, rfl, hide (Or.inl rfl)⟩
  case round =>
    obtain ⟨k, hk, rfl, HB⟩ := hrel
    by_cases hlt : gw (k : Int) < n
    · have h5 : k < 5 := by
        refine Nat.lt_of_le_of_ne hk ?_
        rintro rfl
        simp [gw] at hlt
        omega
      go_wp2_with (go_at_call 11; refine (words_any _ _).mono ?_; rintro e w' ⟨rfl, rfl⟩)
      go_round
      case rel => exact ⟨k + 1, by omega, by go_num, hide (Or.inr (by simpa using hlt))⟩
      case measure => simp [intOf]; omega
    · go_wp2_with (go_at_call 11; refine (words_any _ _).mono ?_; rintro e w' ⟨rfl, rfl⟩)
      go_ret
      exact ⟨ret_int (gc_at n k h0 h1 (by omega) (by omega) (by omega) (by have := unhide HB; omega)), rfl⟩

theorem class_any (n : Int) (w : World) :
    Calls Try.prog 10 #[.int .i64 n] w fun e w' => e = .returned (.int .i64 (gc n)) ∧ w' = w := by
  by_cases h0 : n < 1
  · rw [show gc n = -1 by unfold gc; rw [if_pos h0]]
    exact class_lo n w h0
  by_cases h1 : 64 < n
  · rw [show gc n = -1 by unfold gc; repeat rw [if_neg (by omega)]]
    exact class_hi n w h1
  exact class_in n w (by omega) (by omega)
end Go.Proofs.Ytalahfllflcfeaa
