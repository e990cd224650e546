/- The contracts of geom.Place, geom.Addr, geom.Full and of the laws' common test 'awake'. -/
import Derived.Test.YtalahfllflcfeaaGeomLeaf
namespace Go.Proofs.Ytalahfllflcfeaa
open Go.RowKit

set_option maxHeartbeats 400000 in
theorem known_yes (c : Int) (w : World) (h0 : 0 ≤ c) (h1 : c < 6) :
    Calls Try.prog 22 #[.int .i64 c] w fun e w' => e = .returned (.bool true) ∧ w' = w := by
  go_enter Try.func22, Try.ntmps22
  go_wp2
  go_ret
  exact ⟨by simp, rfl⟩

set_option maxHeartbeats 400000 in
theorem place_any (a c : Int) (w : World) :
    Calls Try.prog 9 #[.int .i64 a, .int .i64 c] w fun e w' => e = .returned (.int .i64 (gpl a c)) ∧ w' = w := by
  rcases cls c with h | h | h
  · go_enter Try.func9, Try.ntmps9
    go_wp2
    go_ret
    exact ⟨ret_int (gpl_no (gw_lo h)).symm, rfl⟩
  · have hd : decide (c < 6) = false := by simp; omega
    go_enter Try.func9, Try.ntmps9
    go_wp2
    go_ret
    exact ⟨ret_int (gpl_no (gw_hi h)).symm, rfl⟩
  have hc0 : 0 ≤ c := by omega
  have hc5 : c < 6 := by omega
  have hd0 : decide (0 ≤ c) = true := by simp; omega
  have hd : decide (c < 6) = true := by simp; omega
  have hw := gw_gp c
  have hw2 : ¬ gw c = 0 := by rcases h with h | h | h | h | h | h <;> (subst h; decide)
  have hw3 : 2 ≤ gw c := by omega
  have hw4 : gw c ≤ 64 := by omega
  clear h hw
  by_cases h1 : a < 0
  · have hs := gs_lo h1
    go_enter Try.func9, Try.ntmps9
    go_wp2_with (first
      | (go_at_call 22; refine (known_yes _ _ hc0 hc5).mono ?_; rintro e w' ⟨rfl, rfl⟩)
      | (go_at_call 13; refine (span_any _ _).mono ?_; rintro e w' ⟨rfl, rfl⟩))
    go_ret
    exact ⟨ret_int (gpl_lo h1).symm, rfl⟩
  by_cases h2 : 32768 ≤ a
  · have hs := gs_hi h2
    go_enter Try.func9, Try.ntmps9
    go_wp2_with (first
      | (go_at_call 22; refine (known_yes _ _ hc0 hc5).mono ?_; rintro e w' ⟨rfl, rfl⟩)
      | (go_at_call 13; refine (span_any _ _).mono ?_; rintro e w' ⟨rfl, rfl⟩))
    go_ret
    exact ⟨ret_int (gpl_hi h2).symm, rfl⟩
  have h1' : 0 ≤ a := by omega
  have hs := gs_in h1' (by omega)
  have hs2 : 0 ≤ gs a := by omega
  clear hs
  by_cases h3 : a % 64 % gw c = 0
  · have hr := gpl_in hw2 h1' (by omega) h3
    go_enter Try.func9, Try.ntmps9
    go_wp2_with (first
      | (go_at_call 22; refine (known_yes _ _ hc0 hc5).mono ?_; rintro e w' ⟨rfl, rfl⟩)
      | (go_at_call 13; refine (span_any _ _).mono ?_; rintro e w' ⟨rfl, rfl⟩)
      | (go_at_call 11; refine (words_any _ _).mono ?_; rintro e w' ⟨rfl, rfl⟩))
    go_ret
    exact ⟨ret_int hr.symm, rfl⟩
  · have hr := gpl_off (a := a) h3
    go_enter Try.func9, Try.ntmps9
    go_wp2_with (first
      | (go_at_call 22; refine (known_yes _ _ hc0 hc5).mono ?_; rintro e w' ⟨rfl, rfl⟩)
      | (go_at_call 13; refine (span_any _ _).mono ?_; rintro e w' ⟨rfl, rfl⟩)
      | (go_at_call 11; refine (words_any _ _).mono ?_; rintro e w' ⟨rfl, rfl⟩))
    go_ret
    exact ⟨ret_int hr.symm, rfl⟩

/-- A place that there is lies within its span. -/
theorem place_room {p c : Int} (h2 : 0 ≤ p) (h3 : p < gp c) : 0 ≤ p * gw c ∧ p * gw c + gw c ≤ 64 := by
  rcases gw_gp c with ⟨_, h⟩ | ⟨h, h4, _⟩
  · omega
  · have e : p * gw c + gw c = gw c * (p + 1) := by rw [Int.mul_add, Int.mul_comm]; simp
    have := Int.mul_le_mul_of_nonneg_left (show p + 1 ≤ gp c by omega) (show 0 ≤ gw c by omega)
    have := Int.mul_nonneg h2 (show 0 ≤ gw c by omega)
    omega

set_option maxHeartbeats 400000 in
theorem addr_any (s p c : Int) (w : World) :
    Calls Try.prog 14 #[.int .i64 s, .int .i64 p, .int .i64 c] w fun e w' => e = .returned (.int .i64 (ga s p c)) ∧ w' = w := by
  by_cases h0 : s < 1
  · go_enter Try.func14, Try.ntmps14
    go_wp2_with fail
    go_ret
    exact ⟨ret_int (ga_s0 h0).symm, rfl⟩
  by_cases h1 : 511 < s
  · have h1' : 512 ≤ s := by omega
    go_enter Try.func14, Try.ntmps14
    go_wp2_with fail
    go_ret
    exact ⟨ret_int (ga_s1 h1).symm, rfl⟩
  have h1' : ¬ 512 ≤ s := by omega
  by_cases h2 : p < 0
  · go_enter Try.func14, Try.ntmps14
    go_wp2_with fail
    go_ret
    exact ⟨ret_int (ga_p0 h2).symm, rfl⟩
  by_cases h3 : gp c ≤ p
  · go_enter Try.func14, Try.ntmps14
    go_wp2_with (go_at_call 12; refine (places_any _ _).mono ?_; rintro e w' ⟨rfl, rfl⟩)
    go_ret
    exact ⟨ret_int (ga_p1 h3).symm, rfl⟩
  · have hr := ga_in (s := s) (p := p) (c := c) (by omega) (by omega) (by omega) (by omega)
    have hq := place_room (p := p) (c := c) (by omega) (by omega)
    have hg : 0 ≤ gw c := by have := gw_gp c; omega
    obtain ⟨q0, q1⟩ := hq
    go_enter Try.func14, Try.ntmps14
    go_wp2_with (first
      | (go_at_call 12; refine (places_any _ _).mono ?_; rintro e w' ⟨rfl, rfl⟩)
      | (go_at_call 11; refine (words_any _ _).mono ?_; rintro e w' ⟨rfl, rfl⟩))
    go_ret
    exact ⟨ret_int (by rw [hr]; omega), rfl⟩

set_option maxHeartbeats 400000 in
theorem full_any (c : Int) (w : World) :
    Calls Try.prog 15 #[.int .i64 c] w fun e w' => e = .returned (.int .u64 (gf c)) ∧ w' = w := by
  rcases cls c with h | h | h | h | h | h | h | h
  · have e := gp_lo h
    go_enter Try.func15, Try.ntmps15
    go_wp2
    go_ret
    exact ⟨ret_int (gf_lo h).symm, rfl⟩
  · have hd : decide (c < 6) = false := by simp; omega
    go_enter Try.func15, Try.ntmps15
    go_wp2
    go_ret
    exact ⟨ret_int (gf_hi h).symm, rfl⟩
  all_goals
    subst h
    go_enter Try.func15, Try.ntmps15
    go_wp2
    go_ret
    exact ⟨ret_int (by decide), rfl⟩

theorem calls_as {f : FuncId} {args : Array Value} {w : World} {v v' : Value} (h : v = v') (C : Calls Try.prog f args w fun e w' => e = .returned v ∧ w' = w) :
    Calls Try.prog f args w fun e w' => e = .returned v' ∧ w' = w := by rw [← h]; exact C

theorem aw_class (w : World) : Calls Try.prog 10 #[.int .i64 3] w fun e w' => e = .returned (.int .i64 1) ∧ w' = w := calls_as (by kernel_rfl) (class_any 3 w)
theorem aw_words (w : World) : Calls Try.prog 11 #[.int .i64 1] w fun e w' => e = .returned (.int .i64 4) ∧ w' = w := calls_as (by kernel_rfl) (words_any 1 w)
theorem aw_places (w : World) : Calls Try.prog 12 #[.int .i64 1] w fun e w' => e = .returned (.int .i64 16) ∧ w' = w := calls_as (by kernel_rfl) (places_any 1 w)
theorem aw_addr (w : World) : Calls Try.prog 14 #[.int .i64 2, .int .i64 3, .int .i64 1] w fun e w' => e = .returned (.int .i64 140) ∧ w' = w := calls_as (by kernel_rfl) (addr_any 2 3 1 w)
theorem aw_place (w : World) : Calls Try.prog 9 #[.int .i64 140, .int .i64 1] w fun e w' => e = .returned (.int .i64 3) ∧ w' = w := calls_as (by kernel_rfl) (place_any 140 1 w)
theorem aw_span (w : World) : Calls Try.prog 13 #[.int .i64 140] w fun e w' => e = .returned (.int .i64 2) ∧ w' = w := calls_as (by kernel_rfl) (span_any 140 w)
theorem aw_full (w : World) : Calls Try.prog 15 #[.int .i64 5] w fun e w' => e = .returned (.int .u64 1) ∧ w' = w := calls_as (by kernel_rfl) (full_any 5 w)

set_option maxHeartbeats 400000 in
theorem awake_any (w : World) :
    Calls Try.prog 8 #[] w fun e w' => e = .returned (.bool true) ∧ w' = w := by
  go_enter Try.func8, Try.ntmps8
  go_wp2_with (first
    | (go_at_call 10; refine (aw_class _).mono ?_; rintro e w' ⟨rfl, rfl⟩)
    | (go_at_call 11; refine (aw_words _).mono ?_; rintro e w' ⟨rfl, rfl⟩)
    | (go_at_call 12; refine (aw_places _).mono ?_; rintro e w' ⟨rfl, rfl⟩)
    | (go_at_call 14; refine (aw_addr _).mono ?_; rintro e w' ⟨rfl, rfl⟩)
    | (go_at_call 9; refine (aw_place _).mono ?_; rintro e w' ⟨rfl, rfl⟩)
    | (go_at_call 13; refine (aw_span _).mono ?_; rintro e w' ⟨rfl, rfl⟩)
    | (go_at_call 15; refine (aw_full _).mono ?_; rintro e w' ⟨rfl, rfl⟩))
  go_ret
  exact ⟨rfl, rfl⟩
end Go.Proofs.Ytalahfllflcfeaa
