/- The contracts of the document's own answers on maps of bits (gantlineref1: Bit, Field, With, Ones, Next). -/
import Derived.Test.YtdlnfmmblcfdoaaDoorOnes
namespace Go.Proofs.YtdlnfmmblcfdoaaDoor
open Go.RowKit

/-- Bit i of x. -/
def bitB (x i : Nat) : Bool := x.testBit i

theorem bit_eq (x i : Nat) (hx : x < 18446744073709551616) : (bits .and .u64 ((x : Int) / 2 ^ i) 1 == 1) = bitB x i := by
  have e : (x : Int) / 2 ^ i = ((x / 2 ^ i : Nat) : Int) := by simp
  have h3 := Nat.div_le_self x (2 ^ i)
  have a1 : bits .and .u64 ((x / 2 ^ i : Nat) : Int) 1 = ((x / 2 ^ i % 2 : Nat) : Int) := by
    have := u64_and_nat (x / 2 ^ i) 1 (by omega) (by decide)
    rw [Nat.and_one_is_mod] at this
    exact this
  rw [e, a1]
  unfold bitB
  rw [Nat.testBit_eq_decide_div_mod_eq]
  rw [Bool.eq_iff_iff]
  simp
  omega

set_option maxHeartbeats 400000 in
theorem bit_any (x i : Nat) (w : World) (hx : x < 18446744073709551616) (hi : i < 64) :
    Calls Tryd.prog 47 #[.int .u64 (x : Int), .int .i64 (i : Int)] w fun e w' => e = .returned (.bool (bitB x i)) ∧ w' = w := by
  have e := bit_eq x i hx
  go_enter Tryd.func47, Tryd.ntmps47
  go_wp2
  go_ret
  exact ⟨by simp, rfl⟩

/-! ### Ones -/
theorem pop_bit (k x : Nat) : popF (k + 1) x = popF k x + if bitB x k then 1 else 0 := by
  rw [popF_succ]
  unfold bitB
  rw [Nat.testBit_eq_decide_div_mod_eq]
  have : x / 2 ^ k % 2 < 2 := Nat.mod_lt _ (by decide)
  by_cases h : x / 2 ^ k % 2 = 1
  · simp [h]
  · simp [h]; omega

set_option maxHeartbeats 400000 in
theorem rones_any (x : Nat) (w : World) (hx : x < 18446744073709551616) :
    Calls Tryd.prog 34 #[.int .u64 (x : Int)] w fun e w' => e = .returned (.int .i64 (popF 64 x : Int)) ∧ w' = w := by
  go_enter Tryd.func34, Tryd.ntmps34
  go_wp2
  go_loop [3, 4] (fun n i => ∃ k : Nat, k ≤ 64 ∧ i = .int .i64 k ∧ n = .int .i64 (popF k x : Int)) (fun _ i => 64 - (intOf i).toNat)
  case atStart => exact ⟨0, Nat.zero_le _, rfl, rfl⟩
  case round =>
    obtain ⟨k, hk, rfl, rfl⟩ := hrel
    have hp := popF_le k x
    by_cases hlt : k < 64
    · have HS := hide (pop_bit k x)
      cases hb : bitB x k
      · go_wp2_with (go_at_call 47; refine (bit_any _ _ _ hx (by omega)).mono ?_; rintro e w' ⟨rfl, rfl⟩)
        go_round
        case rel => exact ⟨k + 1, by omega, by go_num, by rw [unhide HS, hb]; rfl⟩
        case measure => simp [intOf]; omega
      · go_wp2_with (go_at_call 47; refine (bit_any _ _ _ hx (by omega)).mono ?_; rintro e w' ⟨rfl, rfl⟩)
        go_round
        case rel => exact ⟨k + 1, by omega, by go_num, by rw [unhide HS, hb]; rfl⟩
        case measure => simp [intOf]; omega
    · obtain rfl : k = 64 := by omega
      go_wp2
      go_ret
      exact ⟨rfl, rfl⟩

/-! ### Bits of fields -/
theorem mask_bit (a n i : Nat) : ((2 ^ n - 1) * 2 ^ a).testBit i = (decide (a ≤ i) && decide (i < a + n)) := by
  rw [Nat.testBit_mul_two_pow, Nat.testBit_two_pow_sub_one]
  by_cases h : a ≤ i
  · simp only [h, decide_true, Bool.true_and]
    congr 1
    apply propext; omega
  · simp [h]

theorem with_bit (x a n v i : Nat) (hx : x < 18446744073709551616) (h : a + n ≤ 64) :
    (withN x a n v).testBit i = if a ≤ i ∧ i < a + n then v.testBit (i - a) else x.testBit i := by
  unfold withN
  have hm := mask_lt a n h
  have e : 18446744073709551615 - (2 ^ n - 1) * 2 ^ a = 2 ^ 64 - ((2 ^ n - 1) * 2 ^ a + 1) := by omega
  have e2 : (18446744073709551616 : Nat) = 2 ^ 64 := rfl
  rw [Nat.testBit_or, Nat.testBit_and, Nat.testBit_and, e, Nat.testBit_two_pow_sub_succ hm, mask_bit, e2, Nat.testBit_mod_two_pow, Nat.testBit_mul_two_pow]
  by_cases h1 : a ≤ i
  · by_cases h2 : i < a + n
    · have h3 : i < 64 := by omega
      simp [h1, h2, h3]
    · simp only [h1, h2, decide_true, decide_false, Bool.and_false, Bool.or_false, Bool.not_false, Bool.and_true, true_and, if_false]
      by_cases h3 : i < 64
      · simp [h3]
      · have : x.testBit i = false := Nat.testBit_lt_two_pow (Nat.lt_of_lt_of_le hx (show 2 ^ 64 ≤ 2 ^ i from Nat.pow_le_pow_right (by decide) (by omega)))
        simp [h3, this]
  · simp only [h1, decide_false, Bool.false_and, Bool.and_false, Bool.or_false, Bool.not_false, Bool.and_true, false_and, if_false]
    have h3 : i < 64 := by omega
    simp [h3]

theorem field_bit (x a n i : Nat) : (fieldN x a n).testBit i = (decide (i < n) && x.testBit (a + i)) := by
  unfold fieldN
  rw [Nat.testBit_mod_two_pow, Nat.testBit_div_two_pow, Nat.add_comm]

theorem with_lt (x a n v : Nat) (hx : x < 18446744073709551616) (h : a + n ≤ 64) : withN x a n v < 18446744073709551616 := by
  unfold withN
  have h0 := mask_lt a n h
  exact Nat.or_lt_two_pow (n := 64) (Nat.lt_of_le_of_lt Nat.and_le_left hx) (Nat.lt_of_le_of_lt Nat.and_le_right h0)


theorem pow_wrap (k : Nat) (h : k < 64) : IntKind.u64.wrap (2 ^ k) = ((2 ^ k : Nat) : Int) := by
  have h2 : 2 ^ k < 2 ^ 64 := Nat.pow_lt_pow_right (by decide) h
  have e : (2 : Int) ^ k = ((2 ^ k : Nat) : Int) := by simp
  rw [e, IntKind.wrap_u64]
  generalize 2 ^ k = m at *
  omega

theorem pow_lt (k : Nat) (h : k < 64) : 2 ^ k < 18446744073709551616 := by
  have h2 : 2 ^ k < 2 ^ 64 := Nat.pow_lt_pow_right (by decide) h
  exact h2

theorem field_lt (x a n : Nat) (hx : x < 18446744073709551616) : fieldN x a n < 18446744073709551616 := by
  unfold fieldN
  have h1 := Nat.mod_le (x / 2 ^ a) (2 ^ n)
  have h2 := Nat.div_le_self x (2 ^ a)
  omega

theorem field_step_t (x a k : Nat) (hx : x < 18446744073709551616) (h : a + k < 64) (hb : bitB x (a + k) = true) : bits .or .u64 (fieldN x a k : Int) (IntKind.u64.wrap (2 ^ k)) = (fieldN x a (k + 1) : Int) := by
  rw [pow_wrap k (by omega), u64_or_nat _ _ (field_lt x a k hx) (pow_lt k (by omega))]
  congr 1
  apply Nat.eq_of_testBit_eq
  intro i
  rw [Nat.testBit_or, field_bit, field_bit, Nat.testBit_two_pow]
  by_cases h1 : i < k
  · simp [h1, show i < k + 1 by omega, show ¬ k = i by omega]
  · by_cases h2 : k = i
    · subst h2
      have : x.testBit (a + k) = true := hb
      simp [this]
    · simp [h1, h2, show ¬ i < k + 1 by omega]

theorem field_step_f (x a k : Nat) (hb : bitB x (a + k) = false) : fieldN x a (k + 1) = fieldN x a k := by
  apply Nat.eq_of_testBit_eq
  intro i
  rw [field_bit, field_bit]
  by_cases h1 : i < k
  · simp [h1, show i < k + 1 by omega]
  · by_cases h2 : i = k
    · subst h2
      have : x.testBit (a + i) = false := hb
      simp [this]
    · simp [h1, show ¬ i < k + 1 by omega]

theorem bit_sum (x a k : Nat) (w : World) (hx : x < 18446744073709551616) (hi : a + k < 64) :
    Calls Tryd.prog 47 #[.int .u64 (x : Int), .int .i64 ((a : Int) + (k : Int))] w fun e w' => e = .returned (.bool (bitB x (a + k))) ∧ w' = w := by
  have := bit_any x (a + k) w hx hi
  rw [Int.natCast_add] at this
  exact this

set_option maxHeartbeats 400000 in
theorem rfield_any (x a n : Nat) (w : World) (hx : x < 18446744073709551616) (h : a + n ≤ 64) :
    Calls Tryd.prog 31 #[.int .u64 (x : Int), .int .i64 (a : Int), .int .i64 (n : Int)] w fun e w' => e = .returned (.int .u64 (fieldN x a n : Int)) ∧ w' = w := by
  go_enter Tryd.func31, Tryd.ntmps31
  go_wp2
  go_loop [7, 8] (fun v i => ∃ k : Nat, k ≤ n ∧ i = .int .i64 k ∧ v = .int .u64 (fieldN x a k : Int)) (fun _ i => n - (intOf i).toNat)
  case atStart => exact ⟨0, Nat.zero_le _, rfl, by simp [fieldN, Nat.mod_one]⟩
  case round =>
    obtain ⟨k, hk, rfl, rfl⟩ := hrel
    by_cases hlt : k < n
    · cases hb : bitB x (a + k)
      · have HS := hide (field_step_f x a k hb)
        go_wp2_with (go_at_call 47; refine (bit_sum _ _ _ _ hx (by omega)).mono ?_; rintro e w' ⟨rfl, rfl⟩)
        go_round
        case rel => exact ⟨k + 1, by omega, by go_num, by rw [unhide HS]⟩
        case measure => simp [intOf]; omega
      · have HS := hide (field_step_t x a k hx (by omega) hb)
        go_wp2_with (go_at_call 47; refine (bit_sum _ _ _ _ hx (by omega)).mono ?_; rintro e w' ⟨rfl, rfl⟩)
        go_round
        case rel => exact ⟨k + 1, by omega, by go_num, by exact congrArg (Value.int .u64) (unhide HS)⟩
        case measure => simp [intOf]; omega
    · obtain rfl : k = n := by omega
      go_wp2
      go_ret
      exact ⟨rfl, rfl⟩

/-! ### With -/
theorem with_zero (x a v : Nat) (hx : x < 18446744073709551616) (h : a ≤ 64) : withN x a 0 v = x := by
  apply Nat.eq_of_testBit_eq
  intro i
  rw [with_bit x a 0 v i hx (by omega), if_neg (by omega)]

theorem clear_bit (y j i : Nat) (hy : y < 18446744073709551616) (hj : j < 64) : (y &&& (18446744073709551615 - 2 ^ j)).testBit i = (y.testBit i && !decide (j = i)) := by
  have hp := pow_lt j hj
  have e : 18446744073709551615 - 2 ^ j = 2 ^ 64 - (2 ^ j + 1) := by omega
  rw [Nat.testBit_and, e, Nat.testBit_two_pow_sub_succ hp, Nat.testBit_two_pow]
  by_cases h3 : i < 64
  · simp [h3]
  · have : y.testBit i = false := Nat.testBit_lt_two_pow (Nat.lt_of_lt_of_le hy (show 2 ^ 64 ≤ 2 ^ i from Nat.pow_le_pow_right (by decide) (by omega)))
    simp [this]

theorem with_step_f (x a k v : Nat) (hx : x < 18446744073709551616) (h : a + k < 64) (hb : bitB v k = false) :
    bits .andNot .u64 (withN x a k v : Int) (IntKind.u64.wrap (2 ^ (a + k))) = (withN x a (k + 1) v : Int) := by
  have hy := with_lt x a k v hx (by omega)
  rw [pow_wrap (a + k) h, u64_andNot_nat _ _ hy (pow_lt _ h)]
  congr 1
  apply Nat.eq_of_testBit_eq
  intro i
  rw [clear_bit _ _ _ hy h, with_bit x a k v i hx (by omega), with_bit x a (k + 1) v i hx (by omega)]
  by_cases h2 : i = a + k
  · subst h2
    have : v.testBit k = false := hb
    simp [this]
  · by_cases h1 : a ≤ i ∧ i < a + k
    · rw [if_pos h1, if_pos (by omega)]; simp; intro _; omega
    · rw [if_neg h1, if_neg (by omega)]; simp; intro _; omega

theorem with_step_t (x a k v : Nat) (hx : x < 18446744073709551616) (h : a + k < 64) (hb : bitB v k = true) :
    bits .or .u64 (bits .andNot .u64 (withN x a k v : Int) (IntKind.u64.wrap (2 ^ (a + k)))) (IntKind.u64.wrap (2 ^ (a + k))) = (withN x a (k + 1) v : Int) := by
  have hy := with_lt x a k v hx (by omega)
  rw [pow_wrap (a + k) h, u64_andNot_nat _ _ hy (pow_lt _ h), u64_or_nat _ _ (Nat.lt_of_le_of_lt Nat.and_le_left hy) (pow_lt _ h)]
  congr 1
  apply Nat.eq_of_testBit_eq
  intro i
  rw [Nat.testBit_or, clear_bit _ _ _ hy h, with_bit x a k v i hx (by omega), with_bit x a (k + 1) v i hx (by omega), Nat.testBit_two_pow]
  by_cases h2 : i = a + k
  · subst h2
    have : v.testBit k = true := hb
    simp [this]
  · have h3 : ¬ a + k = i := fun e => h2 e.symm
    by_cases h1 : a ≤ i ∧ i < a + k
    · rw [if_pos h1, if_pos (by omega)]; simp [h3]
    · rw [if_neg h1, if_neg (by omega)]; simp [h3]

set_option maxHeartbeats 400000 in
theorem rwith_any (x a n v : Nat) (w : World) (hx : x < 18446744073709551616) (hv : v < 18446744073709551616) (h : a + n ≤ 64) :
    Calls Tryd.prog 32 #[.int .u64 (x : Int), .int .i64 (a : Int), .int .i64 (n : Int), .int .u64 (v : Int)] w fun e w' => e = .returned (.int .u64 (withN x a n v : Int)) ∧ w' = w := by
  have HZ := hide (with_zero x a v hx (by omega))
  go_enter Tryd.func32, Tryd.ntmps32
  go_wp2
  go_loop [0, 9] (fun u i => ∃ k : Nat, k ≤ n ∧ i = .int .i64 k ∧ u = .int .u64 (withN x a k v : Int)) (fun _ i => n - (intOf i).toNat)
  case atStart => exact ⟨0, Nat.zero_le _, rfl, by rw [unhide HZ]⟩
  case round =>
    obtain ⟨k, hk, rfl, rfl⟩ := hrel
    by_cases hlt : k < n
    · cases hb : bitB v k
      · have HS := hide (with_step_f x a k v hx (by omega) hb)
        go_wp2_with (go_at_call 47; refine (bit_any _ _ _ hv (by omega)).mono ?_; rintro e w' ⟨rfl, rfl⟩)
        go_round
        case rel => exact ⟨k + 1, by omega, by go_num, by exact congrArg (Value.int .u64) (unhide HS)⟩
        case measure => simp [intOf]; omega
      · have HS := hide (with_step_t x a k v hx (by omega) hb)
        go_wp2_with (go_at_call 47; refine (bit_any _ _ _ hv (by omega)).mono ?_; rintro e w' ⟨rfl, rfl⟩)
        go_round
        case rel => exact ⟨k + 1, by omega, by go_num, by exact congrArg (Value.int .u64) (unhide HS)⟩
        case measure => simp [intOf]; omega
    · obtain rfl : k = n := by omega
      go_wp2
      go_ret
      exact ⟨rfl, rfl⟩

set_option maxHeartbeats 400000 in
theorem rfield_out (x a n : Int) (w : World) (ha : a ≤ 9223372036854775807) (h : a < 0 ∨ n < 0 ∨ 64 < a + n) :
    Calls Tryd.prog 31 #[.int .u64 x, .int .i64 a, .int .i64 n] w fun e w' => e = .returned (.int .u64 0) ∧ w' = w := by
  by_cases h0 : a < 0
  · clear h
    go_enter Tryd.func31, Tryd.ntmps31
    go_wp2
    go_ret
    exact ⟨rfl, rfl⟩
  by_cases h1 : n < 0
  · clear h
    go_enter Tryd.func31, Tryd.ntmps31
    go_wp2
    go_ret
    exact ⟨rfl, rfl⟩
  by_cases h2 : 64 < a
  · clear h
    go_enter Tryd.func31, Tryd.ntmps31
    go_wp2
    go_ret
    exact ⟨rfl, rfl⟩
  · have h3 : 64 - a < n := by omega
    clear h
    go_enter Tryd.func31, Tryd.ntmps31
    go_wp2
    go_ret
    exact ⟨rfl, rfl⟩

set_option maxHeartbeats 400000 in
theorem rwith_out (x a n v : Int) (w : World) (ha : a ≤ 9223372036854775807) (h : a < 0 ∨ n < 0 ∨ 64 < a + n) :
    Calls Tryd.prog 32 #[.int .u64 x, .int .i64 a, .int .i64 n, .int .u64 v] w fun e w' => e = .returned (.int .u64 x) ∧ w' = w := by
  by_cases h0 : a < 0
  · clear h
    go_enter Tryd.func32, Tryd.ntmps32
    go_wp2
    go_ret
    exact ⟨rfl, rfl⟩
  by_cases h1 : n < 0
  · clear h
    go_enter Tryd.func32, Tryd.ntmps32
    go_wp2
    go_ret
    exact ⟨rfl, rfl⟩
  by_cases h2 : 64 < a
  · clear h
    go_enter Tryd.func32, Tryd.ntmps32
    go_wp2
    go_ret
    exact ⟨rfl, rfl⟩
  · have h3 : 64 - a < n := by omega
    clear h
    go_enter Tryd.func32, Tryd.ntmps32
    go_wp2
    go_ret
    exact ⟨rfl, rfl⟩
end Go.Proofs.YtdlnfmmblcfdoaaDoor
