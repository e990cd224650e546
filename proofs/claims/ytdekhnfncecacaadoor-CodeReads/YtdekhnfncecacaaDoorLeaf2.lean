/- Contracts: TrailingZeros64 by its table, First, Next, Zig, Zag; OnesCount64 at a number whose steps are given. -/
import Derived.Test.YtdekhnfncecacaaDoorLeaf
namespace Go.Proofs.YtdekhnfncecacaaDoor
set_option maxRecDepth 100000
open Go.RowKit

theorem xor_ones (y : Nat) (h : y < 18446744073709551616) : y ^^^ 18446744073709551615 = 18446744073709551615 - y := by
  apply Nat.eq_of_testBit_eq
  intro i
  have h64 : 18446744073709551615 - y = 2 ^ 64 - (y + 1) := by omega
  have h65 : (18446744073709551615 : Nat) = 2 ^ 64 - 1 := rfl
  have hm : y < 2 ^ 64 := h
  rw [h64, Nat.testBit_two_pow_sub_succ hm, Nat.testBit_xor, h65, Nat.testBit_two_pow_sub_one]
  by_cases hi : i < 64
  · simp [hi]
  · have : y.testBit i = false := Nat.testBit_lt_two_pow (Nat.lt_of_lt_of_le hm (Nat.pow_le_pow_right (by decide) (by omega)))
    simp [hi, this]

theorem not_eq (x : Nat) (h : x < 18446744073709551616) : bits .xor .u64 IntKind.u64.max (x : Int) = ((18446744073709551615 - x : Nat) : Int) := by
  have e : IntKind.u64.max = ((18446744073709551615 : Nat) : Int) := by decide
  rw [e, u64_xor_nat _ _ (by decide) h, Nat.xor_comm, xor_ones x h]

/-- The next bit of x that is 1, from f on. -/
def nextN (x f : Nat) : Nat := Lib.ctz 64 (x / 2 ^ min f 64 * 2 ^ min f 64)

theorem down_up (x m : Nat) (h : x < 18446744073709551616) : x / 2 ^ m * 2 ^ m < 18446744073709551616 := Nat.lt_of_le_of_lt (Nat.div_mul_le_self x (2 ^ m)) h

/-- A number with a sign, as one without; and back. -/
def zigI (n : Int) : Int := if 0 ≤ n then 2 * n else -2 * n - 1
def zagI (n : Nat) : Int := if n % 2 = 0 then ((n / 2 : Nat) : Int) else -((n / 2 : Nat) : Int) - 1

theorem zig_eq (n : Int) (h0 : -9223372036854775808 ≤ n) (h1 : n ≤ 9223372036854775807) : bits .xor .u64 (IntKind.u64.wrap (wrap64 (n * 2))) (IntKind.u64.wrap (n / 9223372036854775808)) = zigI n := by
  unfold zigI
  rw [IntKind.wrap_u64, IntKind.wrap_u64]
  by_cases h : 0 ≤ n
  · rw [if_pos h]
    obtain ⟨m, rfl⟩ := Int.eq_ofNat_of_zero_le h
    have e1 : wrap64 ((m : Int) * 2) % 18446744073709551616 = ((2 * m : Nat) : Int) := by unfold wrap64; omega
    have e2 : (m : Int) / 9223372036854775808 % 18446744073709551616 = ((0 : Nat) : Int) := by omega
    rw [e1, e2, u64_xor_nat _ _ (by omega) (by omega), Nat.xor_zero]; omega
  · rw [if_neg h]
    obtain ⟨m, rfl⟩ : ∃ m : Nat, n = -(m : Int) - 1 := ⟨(-n - 1).toNat, by omega⟩
    have e1 : wrap64 ((-(m : Int) - 1) * 2) % 18446744073709551616 = ((18446744073709551615 - (2 * m + 1) : Nat) : Int) := by unfold wrap64; omega
    have e2 : (-(m : Int) - 1) / 9223372036854775808 % 18446744073709551616 = ((18446744073709551615 : Nat) : Int) := by omega
    rw [e1, e2, u64_xor_nat _ _ (by omega) (by omega)]
    rw [xor_ones _ (by omega)]; omega

set_option maxHeartbeats 400000 in
theorem zig_any (n : Int) (w : World) (h0 : -9223372036854775808 ≤ n) (h1 : n ≤ 9223372036854775807) :
    Calls Tryd.prog 53 #[.int .i64 n] w fun e w' => e = .returned (.int .u64 (zigI n)) ∧ w' = w := by
  have HZ := hide (zig_eq n h0 h1)
  go_enter Tryd.func53, Tryd.ntmps53
  go_wp2
  go_ret
  exact ⟨ret_int (by exact unhide HZ), rfl⟩

theorem i64_xor0 (a : Nat) (ha : a < 9223372036854775808) : bits .xor .i64 (a : Int) 0 = (a : Int) := by
  show IntKind.i64.wrap ((BitVec.ofInt 64 (a : Int) ^^^ BitVec.ofInt 64 0).toNat : Int) = _
  have h1 : BitVec.ofInt 64 0 = 0#64 := by decide
  rw [h1, BitVec.xor_zero, ofInt_u64 a (by omega), IntKind.wrap_i64]
  omega
theorem i64_xorm1 (a : Nat) (ha : a < 9223372036854775808) : bits .xor .i64 (a : Int) (-1) = -(a : Int) - 1 := by
  show IntKind.i64.wrap ((BitVec.ofInt 64 (a : Int) ^^^ BitVec.ofInt 64 (-1)).toNat : Int) = _
  have h1 : BitVec.ofInt 64 (-1) = BitVec.allOnes 64 := by decide
  rw [h1, BitVec.xor_allOnes, BitVec.toNat_not, ofInt_u64 a (by omega), IntKind.wrap_i64]
  omega

theorem zag_eq (n : Nat) (h : n < 18446744073709551616) : bits .xor .i64 ((n : Int) / 2) (wrap64 (-wrap64 (bits .and .u64 (n : Int) 1))) = zagI n := by
  have e1 : bits .and .u64 (n : Int) 1 = ((n % 2 : Nat) : Int) := by
    have := u64_and_nat n 1 h (by decide)
    rw [Nat.and_one_is_mod] at this
    exact this
  have e0 : (n : Int) / 2 = ((n / 2 : Nat) : Int) := by omega
  rw [e1, e0]
  unfold zagI
  by_cases hn : n % 2 = 0
  · rw [if_pos hn, hn, show wrap64 (-wrap64 ((0 : Nat) : Int)) = 0 by unfold wrap64; omega, i64_xor0 _ (by omega)]
  · have h1 : n % 2 = 1 := by omega
    rw [if_neg hn, h1, show wrap64 (-wrap64 ((1 : Nat) : Int)) = -1 by unfold wrap64; omega, i64_xorm1 _ (by omega)]

set_option maxHeartbeats 400000 in
theorem zag_any (n : Nat) (w : World) (h : n < 18446744073709551616) :
    Calls Tryd.prog 78 #[.int .u64 (n : Int)] w fun e w' => e = .returned (.int .i64 (zagI n)) ∧ w' = w := by
  have HZ := hide (zag_eq n h)
  go_enter Tryd.func78, Tryd.ntmps78
  go_wp2
  go_ret
  exact ⟨ret_int (by exact unhide HZ), rfl⟩

theorem and127_eq (x : Nat) : bits .and .i64 (wrap64 (x : Int)) 127 = ((x % 128 : Nat) : Int) := by
  rw [i64_and127]; unfold wrap64; omega

end Go.Proofs.YtdekhnfncecacaaDoor
