/- The contracts of package geom's calls (from stage 4 on: one text; parts that a seat's program has not are left out). -/
import Derived.Test.YtgflkpccddfalaaGreatDoorGeomPlain
import Derived.Test.YtgflkpccddfalaaGreatDoorRows
import Derived.WalkKit
import Derived.WalkSpells
import Derived.WalkLawsBesides
import Derived.Deep.QuietTactic
import Derived.BigQuiet
import Derived.Handy
namespace Go.Proofs.YtgflkpccddfalaaGreatDoor
set_option maxRecDepth 100000
open Go.RowKit

theorem ret_int {k : IntKind} {a b : Int} (h : a = b) : Ending.returned (.int k a) = .returned (.int k b) := by rw [h]

set_option maxHeartbeats 400000 in
theorem words_any (c : Int) (w : World) :
    Calls Tryz.prog 62 #[.int .i64 c] w fun e w' => e = .returned (.int .i64 (gw c)) ∧ w' = w := by
  rcases cls c with h | h | h | h | h | h | h | h
  · go_enter Tryz.func62, Tryz.ntmps62
    go_wp2
    go_ret
    exact ⟨ret_int (gw_lo h).symm, rfl⟩
  · have hd : decide (c < 6) = false := by simp; omega
    go_enter Tryz.func62, Tryz.ntmps62
    go_wp2
    go_ret
    exact ⟨ret_int (gw_hi h).symm, rfl⟩
  all_goals
    subst h
    go_enter Tryz.func62, Tryz.ntmps62
    go_wp2
    go_ret
    exact ⟨rfl, rfl⟩

set_option maxHeartbeats 400000 in
theorem places_any (c : Int) (w : World) :
    Calls Tryz.prog 104 #[.int .i64 c] w fun e w' => e = .returned (.int .i64 (gp c)) ∧ w' = w := by
  rcases cls c with h | h | h | h | h | h | h | h
  · go_enter Tryz.func104, Tryz.ntmps104
    go_wp2
    go_ret
    exact ⟨ret_int (gp_lo h).symm, rfl⟩
  · have hd : decide (c < 6) = false := by simp; omega
    go_enter Tryz.func104, Tryz.ntmps104
    go_wp2
    go_ret
    exact ⟨ret_int (gp_hi h).symm, rfl⟩
  all_goals
    subst h
    go_enter Tryz.func104, Tryz.ntmps104
    go_wp2
    go_ret
    exact ⟨rfl, rfl⟩

set_option maxHeartbeats 400000 in
theorem span_any (a : Int) (w : World) :
    Calls Tryz.prog 57 #[.int .i64 a] w fun e w' => e = .returned (.int .i64 (gs a)) ∧ w' = w := by
  by_cases h : a < 0
  · go_enter Tryz.func57, Tryz.ntmps57
    go_wp2
    go_ret
    exact ⟨ret_int (gs_lo h).symm, rfl⟩
  by_cases h2 : 32768 ≤ a
  · go_enter Tryz.func57, Tryz.ntmps57
    go_wp2
    go_ret
    exact ⟨ret_int (gs_hi h2).symm, rfl⟩
  · go_enter Tryz.func57, Tryz.ntmps57
    go_wp2
    go_ret
    exact ⟨ret_int (gs_in h h2).symm, rfl⟩

/-! ### Class -/
set_option maxHeartbeats 400000 in
theorem class_lo (n : Int) (w : World) (h : n < 1) :
    Calls Tryz.prog 77 #[.int .i64 n] w fun e w' => e = .returned (.int .i64 (-1)) ∧ w' = w := by
  go_enter Tryz.func77, Tryz.ntmps77
  go_wp2
  go_ret
  exact ⟨rfl, rfl⟩

set_option maxHeartbeats 400000 in
theorem class_hi (n : Int) (w : World) (h : 64 < n) :
    Calls Tryz.prog 77 #[.int .i64 n] w fun e w' => e = .returned (.int .i64 (-1)) ∧ w' = w := by
  go_enter Tryz.func77, Tryz.ntmps77
  go_wp2
  go_ret
  exact ⟨rfl, rfl⟩

/-- The class k has room for n, and no class below has. -/
theorem gc_at (n k : Int) (h0 : 1 ≤ n) (h1 : n ≤ 64) (hk : 0 ≤ k) (h5 : k ≤ 5) (hr : n ≤ gw k) (hb : k = 0 ∨ gw (k - 1) < n) : k = gc n := by
  rcases cls k with h | h | h | h | h | h | h | h
  · omega
  · omega
  all_goals
    subst h
    simp [gw] at hr hb
    unfold gc
    repeat (first | rw [if_pos (by omega)] | rw [if_neg (by omega)])

set_option maxHeartbeats 400000 in
theorem class_in (n : Int) (w : World) (h0 : 1 ≤ n) (h1 : n ≤ 64) :
    Calls Tryz.prog 77 #[.int .i64 n] w fun e w' => e = .returned (.int .i64 (gc n)) ∧ w' = w := by
  go_enter Tryz.func77, Tryz.ntmps77
  go_wp2_with fail
  go_loop [3] (fun c => ∃ k : Nat, k ≤ 5 ∧ c = .int .i64 k ∧ Hid (k = 0 ∨ gw ((k : Int) - 1) < n)) (fun c => 6 - (intOf c).toNat)
  case atStart => exact ⟨0, Nat.zero_le _, rfl, hide (Or.inl rfl)⟩
  case round =>
    obtain ⟨k, hk, rfl, HB⟩ := hrel
    by_cases hlt : gw (k : Int) < n
    · have h5 : k < 5 := by
        refine Nat.lt_of_le_of_ne hk ?_
        rintro rfl
        simp [gw] at hlt
        omega
      go_wp2_with (go_at_call 62; refine (words_any _ _).mono ?_; rintro e w' ⟨rfl, rfl⟩)
      go_round
      case rel => exact ⟨k + 1, by omega, by go_num, hide (Or.inr (by simpa using hlt))⟩
      case measure => simp [intOf]; omega
    · go_wp2_with (go_at_call 62; refine (words_any _ _).mono ?_; rintro e w' ⟨rfl, rfl⟩)
      go_ret
      exact ⟨ret_int (gc_at n k h0 h1 (by omega) (by omega) (by omega) (by have := unhide HB; omega)), rfl⟩

theorem class_any (n : Int) (w : World) :
    Calls Tryz.prog 77 #[.int .i64 n] w fun e w' => e = .returned (.int .i64 (gc n)) ∧ w' = w := by
  by_cases h0 : n < 1
  · rw [show gc n = -1 by unfold gc; rw [if_pos h0]]
    exact class_lo n w h0
  by_cases h1 : 64 < n
  · rw [show gc n = -1 by unfold gc; repeat rw [if_neg (by omega)]]
    exact class_hi n w h1
  exact class_in n w (by omega) (by omega)
set_option maxHeartbeats 400000 in
theorem known_yes (c : Int) (w : World) (h0 : 0 ≤ c) (h1 : c < 6) :
    Calls Tryz.prog 74 #[.int .i64 c] w fun e w' => e = .returned (.bool true) ∧ w' = w := by
  go_enter Tryz.func74, Tryz.ntmps74
  go_wp2
  go_ret
  exact ⟨by simp, rfl⟩

set_option maxHeartbeats 400000 in
theorem place_any (a c : Int) (w : World) :
    Calls Tryz.prog 58 #[.int .i64 a, .int .i64 c] w fun e w' => e = .returned (.int .i64 (gpl a c)) ∧ w' = w := by
  rcases cls c with h | h | h
  · go_enter Tryz.func58, Tryz.ntmps58
    go_wp2
    go_ret
    exact ⟨ret_int (gpl_no (gw_lo h)).symm, rfl⟩
  · have hd : decide (c < 6) = false := by simp; omega
    go_enter Tryz.func58, Tryz.ntmps58
    go_wp2
    go_ret
    exact ⟨ret_int (gpl_no (gw_hi h)).symm, rfl⟩
  have hc0 : 0 ≤ c := by omega
  have hc5 : c < 6 := by omega
  have hd0 : decide (0 ≤ c) = true := by simp; omega
  have hd : decide (c < 6) = true := by simp; omega
  have hw := gw_gp c
  have hw2 : ¬ gw c = 0 := by rcases h with h | h | h | h | h | h <;> (subst h; decide)
  have hw3 : 2 ≤ gw c := by omega
  have hw4 : gw c ≤ 64 := by omega
  clear h hw
  by_cases h1 : a < 0
  · have hs := gs_lo h1
    go_enter Tryz.func58, Tryz.ntmps58
    go_wp2_with (first
      | (go_at_call 74; refine (known_yes _ _ hc0 hc5).mono ?_; rintro e w' ⟨rfl, rfl⟩)
      | (go_at_call 57; refine (span_any _ _).mono ?_; rintro e w' ⟨rfl, rfl⟩))
    go_ret
    exact ⟨ret_int (gpl_lo h1).symm, rfl⟩
  by_cases h2 : 32768 ≤ a
  · have hs := gs_hi h2
    go_enter Tryz.func58, Tryz.ntmps58
    go_wp2_with (first
      | (go_at_call 74; refine (known_yes _ _ hc0 hc5).mono ?_; rintro e w' ⟨rfl, rfl⟩)
      | (go_at_call 57; refine (span_any _ _).mono ?_; rintro e w' ⟨rfl, rfl⟩))
    go_ret
    exact ⟨ret_int (gpl_hi h2).symm, rfl⟩
  have h1' : 0 ≤ a := by omega
  have hs := gs_in h1' (by omega)
  have hs2 : 0 ≤ gs a := by omega
  clear hs
  by_cases h3 : a % 64 % gw c = 0
  · have hr := gpl_in hw2 h1' (by omega) h3
    go_enter Tryz.func58, Tryz.ntmps58
    go_wp2_with (first
      | (go_at_call 74; refine (known_yes _ _ hc0 hc5).mono ?_; rintro e w' ⟨rfl, rfl⟩)
      | (go_at_call 57; refine (span_any _ _).mono ?_; rintro e w' ⟨rfl, rfl⟩)
      | (go_at_call 62; refine (words_any _ _).mono ?_; rintro e w' ⟨rfl, rfl⟩))
    go_ret
    exact ⟨ret_int hr.symm, rfl⟩
  · have hr := gpl_off (a := a) h3
    go_enter Tryz.func58, Tryz.ntmps58
    go_wp2_with (first
      | (go_at_call 74; refine (known_yes _ _ hc0 hc5).mono ?_; rintro e w' ⟨rfl, rfl⟩)
      | (go_at_call 57; refine (span_any _ _).mono ?_; rintro e w' ⟨rfl, rfl⟩)
      | (go_at_call 62; refine (words_any _ _).mono ?_; rintro e w' ⟨rfl, rfl⟩))
    go_ret
    exact ⟨ret_int hr.symm, rfl⟩

/-- A place that there is lies within its span. -/
theorem place_room {p c : Int} (h2 : 0 ≤ p) (h3 : p < gp c) : 0 ≤ p * gw c ∧ p * gw c + gw c ≤ 64 := by
  rcases gw_gp c with ⟨_, h⟩ | ⟨h, h4, _⟩
  · omega
  · have e : p * gw c + gw c = gw c * (p + 1) := by rw [Int.mul_add, Int.mul_comm]; simp
    have := Int.mul_le_mul_of_nonneg_left (show p + 1 ≤ gp c by omega) (show 0 ≤ gw c by omega)
    have := Int.mul_nonneg h2 (show 0 ≤ gw c by omega)
    omega

set_option maxHeartbeats 400000 in
theorem addr_any (s p c : Int) (w : World) :
    Calls Tryz.prog 103 #[.int .i64 s, .int .i64 p, .int .i64 c] w fun e w' => e = .returned (.int .i64 (ga s p c)) ∧ w' = w := by
  by_cases h0 : s < 1
  · go_enter Tryz.func103, Tryz.ntmps103
    go_wp2_with fail
    go_ret
    exact ⟨ret_int (ga_s0 h0).symm, rfl⟩
  by_cases h1 : 511 < s
  · have h1' : 512 ≤ s := by omega
    go_enter Tryz.func103, Tryz.ntmps103
    go_wp2_with fail
    go_ret
    exact ⟨ret_int (ga_s1 h1).symm, rfl⟩
  have h1' : ¬ 512 ≤ s := by omega
  by_cases h2 : p < 0
  · go_enter Tryz.func103, Tryz.ntmps103
    go_wp2_with fail
    go_ret
    exact ⟨ret_int (ga_p0 h2).symm, rfl⟩
  by_cases h3 : gp c ≤ p
  · go_enter Tryz.func103, Tryz.ntmps103
    go_wp2_with (go_at_call 104; refine (places_any _ _).mono ?_; rintro e w' ⟨rfl, rfl⟩)
    go_ret
    exact ⟨ret_int (ga_p1 h3).symm, rfl⟩
  · have hr := ga_in (s := s) (p := p) (c := c) (by omega) (by omega) (by omega) (by omega)
    have hq := place_room (p := p) (c := c) (by omega) (by omega)
    have hg : 0 ≤ gw c := by have := gw_gp c; omega
    obtain ⟨q0, q1⟩ := hq
    go_enter Tryz.func103, Tryz.ntmps103
    go_wp2_with (first
      | (go_at_call 104; refine (places_any _ _).mono ?_; rintro e w' ⟨rfl, rfl⟩)
      | (go_at_call 62; refine (words_any _ _).mono ?_; rintro e w' ⟨rfl, rfl⟩))
    go_ret
    exact ⟨ret_int (by rw [hr]; omega), rfl⟩

set_option maxHeartbeats 400000 in
theorem full_any (c : Int) (w : World) :
    Calls Tryz.prog 101 #[.int .i64 c] w fun e w' => e = .returned (.int .u64 (gf c)) ∧ w' = w := by
  rcases cls c with h | h | h | h | h | h | h | h
  · have e := gp_lo h
    go_enter Tryz.func101, Tryz.ntmps101
    go_wp2
    go_ret
    exact ⟨ret_int (gf_lo h).symm, rfl⟩
  · have hd : decide (c < 6) = false := by simp; omega
    go_enter Tryz.func101, Tryz.ntmps101
    go_wp2
    go_ret
    exact ⟨ret_int (gf_hi h).symm, rfl⟩
  all_goals
    subst h
    go_enter Tryz.func101, Tryz.ntmps101
    go_wp2
    go_ret
    exact ⟨ret_int (by decide), rfl⟩

theorem calls_as {f : FuncId} {args : Array Value} {w : World} {v v' : Value} (h : v = v') (C : Calls Tryz.prog f args w fun e w' => e = .returned v ∧ w' = w) :
    Calls Tryz.prog f args w fun e w' => e = .returned v' ∧ w' = w := by rw [← h]; exact C

end Go.Proofs.YtgflkpccddfalaaGreatDoor
