/- Contracts: TrailingZeros64 by its table, First, Next, Zig, Zag; OnesCount64 at a number whose steps are given. -/
import Derived.Test.YtdlnfmmblcfdoaaDoorLeaf
namespace Go.Proofs.YtdlnfmmblcfdoaaDoor
open Go.RowKit

/-- math/bits' table lies in variable 0, as its text lays it. -/
def Tab (w : World) : Prop := ∀ k : Nat, k < 64 → w.cell? ⟨0, 2 ^ k * 285870213051353865 % 18446744073709551616 / 288230376151711744, none⟩ = some (.int .u8 (k : Int))

theorem neg_and (x : Nat) (h0 : x ≠ 0) (hx : x < 18446744073709551616) : bits .and .u64 (x : Int) (IntKind.u64.wrap (-(x : Int))) = ((2 ^ Lib.ctz 64 x : Nat) : Int) := by
  have e : IntKind.u64.wrap (-(x : Int)) = ((2 ^ 64 - x : Nat) : Int) := by rw [IntKind.wrap_u64]; omega
  rw [e, u64_and_nat _ _ hx (by omega), (Lib.lowest_bit 64 x h0 hx).1]

theorem mul_idx (p : Nat) : IntKind.u64.wrap ((p : Int) * 285870213051353865) / 288230376151711744 = ((p * 285870213051353865 % 18446744073709551616 / 288230376151711744 : Nat) : Int) := by
  rw [IntKind.wrap_u64]; omega

set_option maxHeartbeats 400000 in
theorem tz_core (x p j k : Nat) (w : World) (h : ¬ (x : Int) = 0) (hand : bits .and .u64 (x : Int) (IntKind.u64.wrap (-(x : Int))) = (p : Int))
    (hidx : IntKind.u64.wrap ((p : Int) * 285870213051353865) / 288230376151711744 = (j : Int)) (hj : j < 64) (hc : w.cell? ⟨0, j, none⟩ = some (.int .u8 (k : Int))) (hk : k < 64) :
    Calls Tryd.prog 43 #[.int .u64 (x : Int)] w fun e w' => e = .returned (.int .i64 (k : Int)) ∧ w' = w := by
  have h0 : ((x : Int) == 0) = false := beq_eq_false_iff_ne.2 h
  go_enter Tryd.func43, Tryd.ntmps43
  go_wp2
  go_ret
  exact ⟨rfl, rfl⟩

set_option maxHeartbeats 400000 in
theorem tz_zero (w : World) : Calls Tryd.prog 43 #[.int .u64 0] w fun e w' => e = .returned (.int .i64 64) ∧ w' = w := by
  go_enter Tryd.func43, Tryd.ntmps43
  go_wp2
  go_ret
  exact ⟨rfl, rfl⟩

theorem tz_any (x : Nat) (w : World) (hx : x < 18446744073709551616) (ht : Tab w) :
    Calls Tryd.prog 43 #[.int .u64 (x : Int)] w fun e w' => e = .returned (.int .i64 (Lib.ctz 64 x : Int)) ∧ w' = w := by
  by_cases h0 : x = 0
  · subst h0; exact tz_zero w
  · have hl := Lib.lowest_bit 64 x h0 hx
    exact tz_core x (2 ^ Lib.ctz 64 x) _ _ w (by omega) (neg_and x h0 hx) (mul_idx _) (Lib.deBruijn64_at _ hl.2).1 (ht _ hl.2) hl.2

theorem xor_ones (y : Nat) (h : y < 18446744073709551616) : y ^^^ 18446744073709551615 = 18446744073709551615 - y := by
  apply Nat.eq_of_testBit_eq
  intro i
  have h64 : 18446744073709551615 - y = 2 ^ 64 - (y + 1) := by omega
  have h65 : (18446744073709551615 : Nat) = 2 ^ 64 - 1 := rfl
  have hm : y < 2 ^ 64 := h
  rw [h64, Nat.testBit_two_pow_sub_succ hm, Nat.testBit_xor, h65, Nat.testBit_two_pow_sub_one]
  by_cases hi : i < 64
  · simp [hi]
  · have : y.testBit i = false := Nat.testBit_lt_two_pow (Nat.lt_of_lt_of_le hm (Nat.pow_le_pow_right (by decide) (by omega)))
    simp [hi, this]

theorem not_eq (x : Nat) (h : x < 18446744073709551616) : bits .xor .u64 IntKind.u64.max (x : Int) = ((18446744073709551615 - x : Nat) : Int) := by
  have e : IntKind.u64.max = ((18446744073709551615 : Nat) : Int) := by decide
  rw [e, u64_xor_nat _ _ (by decide) h, Nat.xor_comm, xor_ones x h]

set_option maxHeartbeats 400000 in
theorem first_any (x : Nat) (w : World) (hx : x < 18446744073709551616) (ht : Tab w) :
    Calls Tryd.prog 15 #[.int .u64 (x : Int)] w fun e w' => e = .returned (.int .i64 (Lib.ctz 64 (18446744073709551615 - x) : Int)) ∧ w' = w := by
  have hb : 18446744073709551615 - x < 18446744073709551616 := by omega
  have en := not_eq x hx
  generalize 18446744073709551615 - x = y at *
  have C := hide (tz_any y w hb ht)
  clear ht hx hb
  have hs : IntKind.u64.signed = false := rfl
  go_enter Tryd.func15, Tryd.ntmps15
  go_wp2_with (go_at_call 43; refine (unhide C).mono ?_; rintro e w' ⟨rfl, rfl⟩)
  go_ret
  exact ⟨rfl, rfl⟩

/-- The next bit of x that is 1, from f on. -/
def nextN (x f : Nat) : Nat := Lib.ctz 64 (x / 2 ^ min f 64 * 2 ^ min f 64)

theorem down_up (x m : Nat) (h : x < 18446744073709551616) : x / 2 ^ m * 2 ^ m < 18446744073709551616 := Nat.lt_of_le_of_lt (Nat.div_mul_le_self x (2 ^ m)) h

set_option maxHeartbeats 400000 in
theorem next_any (x : Nat) (f : Int) (w : World) (hx : x < 18446744073709551616) (ht : Tab w) :
    Calls Tryd.prog 16 #[.int .u64 (x : Int), .int .i64 f] w fun e w' => e = .returned (.int .i64 (nextN x f.toNat : Int)) ∧ w' = w := by
  unfold nextN
  by_cases hf : f < 0
  · have e : f.toNat = 0 := by omega
    rw [e]
    have C := hide (tz_any x w hx ht)
    clear ht e
    have e2 : x / 2 ^ min 0 64 * 2 ^ min 0 64 = x := by simp
    rw [e2]
    clear e2
    go_enter Tryd.func16, Tryd.ntmps16
    go_wp2_with (go_at_call 43; refine (unhide C).mono ?_; rintro e w' ⟨rfl, rfl⟩)
    go_ret
    exact ⟨rfl, rfl⟩
  · obtain ⟨n, rfl⟩ := Int.eq_ofNat_of_zero_le (by omega : 0 ≤ f)
    rw [Int.toNat_natCast]
    obtain ⟨y, hy⟩ : ∃ y, y = x / 2 ^ min n 64 * 2 ^ min n 64 := ⟨_, rfl⟩
    have hb := down_up x (min n 64) hx
    have e : IntKind.u64.wrap ((x : Int) / 2 ^ min n 64 * 2 ^ min n 64) = (y : Int) := by
      have e1 : (x : Int) / 2 ^ min n 64 * 2 ^ min n 64 = ((x / 2 ^ min n 64 * 2 ^ min n 64 : Nat) : Int) := by rw [Int.natCast_mul]; simp
      rw [e1, ← hy, IntKind.wrap_u64]; omega
    rw [← hy]
    have C := hide (tz_any y w (by omega) ht)
    clear ht hy hb
    go_enter Tryd.func16, Tryd.ntmps16
    go_wp2_with (go_at_call 43; refine (unhide C).mono ?_; rintro e w' ⟨rfl, rfl⟩)
    go_ret
    exact ⟨rfl, rfl⟩

/-- A number with a sign, as one without; and back. -/
def zigI (n : Int) : Int := if 0 ≤ n then 2 * n else -2 * n - 1
def zagI (n : Nat) : Int := if n % 2 = 0 then ((n / 2 : Nat) : Int) else -((n / 2 : Nat) : Int) - 1

theorem zig_eq (n : Int) (h0 : -9223372036854775808 ≤ n) (h1 : n ≤ 9223372036854775807) : bits .xor .u64 (IntKind.u64.wrap (wrap64 (n * 2))) (IntKind.u64.wrap (n / 9223372036854775808)) = zigI n := by
  unfold zigI
  rw [IntKind.wrap_u64, IntKind.wrap_u64]
  by_cases h : 0 ≤ n
  · rw [if_pos h]
    obtain ⟨m, rfl⟩ := Int.eq_ofNat_of_zero_le h
    have e1 : wrap64 ((m : Int) * 2) % 18446744073709551616 = ((2 * m : Nat) : Int) := by unfold wrap64; omega
    have e2 : (m : Int) / 9223372036854775808 % 18446744073709551616 = ((0 : Nat) : Int) := by omega
    rw [e1, e2, u64_xor_nat _ _ (by omega) (by omega), Nat.xor_zero]; omega
  · rw [if_neg h]
    obtain ⟨m, rfl⟩ : ∃ m : Nat, n = -(m : Int) - 1 := ⟨(-n - 1).toNat, by omega⟩
    have e1 : wrap64 ((-(m : Int) - 1) * 2) % 18446744073709551616 = ((18446744073709551615 - (2 * m + 1) : Nat) : Int) := by unfold wrap64; omega
    have e2 : (-(m : Int) - 1) / 9223372036854775808 % 18446744073709551616 = ((18446744073709551615 : Nat) : Int) := by omega
    rw [e1, e2, u64_xor_nat _ _ (by omega) (by omega)]
    rw [xor_ones _ (by omega)]; omega

set_option maxHeartbeats 400000 in
theorem zig_any (n : Int) (w : World) (h0 : -9223372036854775808 ≤ n) (h1 : n ≤ 9223372036854775807) :
    Calls Tryd.prog 38 #[.int .i64 n] w fun e w' => e = .returned (.int .u64 (zigI n)) ∧ w' = w := by
  have HZ := hide (zig_eq n h0 h1)
  go_enter Tryd.func38, Tryd.ntmps38
  go_wp2
  go_ret
  exact ⟨ret_int (by exact unhide HZ), rfl⟩

theorem i64_xor0 (a : Nat) (ha : a < 9223372036854775808) : bits .xor .i64 (a : Int) 0 = (a : Int) := by
  show IntKind.i64.wrap ((BitVec.ofInt 64 (a : Int) ^^^ BitVec.ofInt 64 0).toNat : Int) = _
  have h1 : BitVec.ofInt 64 0 = 0#64 := by decide
  rw [h1, BitVec.xor_zero, ofInt_u64 a (by omega), IntKind.wrap_i64]
  omega
theorem i64_xorm1 (a : Nat) (ha : a < 9223372036854775808) : bits .xor .i64 (a : Int) (-1) = -(a : Int) - 1 := by
  show IntKind.i64.wrap ((BitVec.ofInt 64 (a : Int) ^^^ BitVec.ofInt 64 (-1)).toNat : Int) = _
  have h1 : BitVec.ofInt 64 (-1) = BitVec.allOnes 64 := by decide
  rw [h1, BitVec.xor_allOnes, BitVec.toNat_not, ofInt_u64 a (by omega), IntKind.wrap_i64]
  omega

theorem zag_eq (n : Nat) (h : n < 18446744073709551616) : bits .xor .i64 ((n : Int) / 2) (wrap64 (-wrap64 (bits .and .u64 (n : Int) 1))) = zagI n := by
  have e1 : bits .and .u64 (n : Int) 1 = ((n % 2 : Nat) : Int) := by
    have := u64_and_nat n 1 h (by decide)
    rw [Nat.and_one_is_mod] at this
    exact this
  have e0 : (n : Int) / 2 = ((n / 2 : Nat) : Int) := by omega
  rw [e1, e0]
  unfold zagI
  by_cases hn : n % 2 = 0
  · rw [if_pos hn, hn, show wrap64 (-wrap64 ((0 : Nat) : Int)) = 0 by unfold wrap64; omega, i64_xor0 _ (by omega)]
  · have h1 : n % 2 = 1 := by omega
    rw [if_neg hn, h1, show wrap64 (-wrap64 ((1 : Nat) : Int)) = -1 by unfold wrap64; omega, i64_xorm1 _ (by omega)]

set_option maxHeartbeats 400000 in
theorem zag_any (n : Nat) (w : World) (h : n < 18446744073709551616) :
    Calls Tryd.prog 40 #[.int .u64 (n : Int)] w fun e w' => e = .returned (.int .i64 (zagI n)) ∧ w' = w := by
  have HZ := hide (zag_eq n h)
  go_enter Tryd.func40, Tryd.ntmps40
  go_wp2
  go_ret
  exact ⟨ret_int (by exact unhide HZ), rfl⟩

theorem and127_eq (x : Nat) : bits .and .i64 (wrap64 (x : Int)) 127 = ((x % 128 : Nat) : Int) := by
  rw [i64_and127]; unfold wrap64; omega

set_option maxHeartbeats 400000 in
theorem ones_core (x x1 x2 x3 x4 x5 x6 : Nat) (w : World)
    (h1 : IntKind.u64.wrap (bits .and .u64 ((x : Int) / 2) 6148914691236517205 + bits .and .u64 (x : Int) 6148914691236517205) = (x1 : Int))
    (h2 : IntKind.u64.wrap (bits .and .u64 ((x1 : Int) / 4) 3689348814741910323 + bits .and .u64 (x1 : Int) 3689348814741910323) = (x2 : Int))
    (h3 : bits .and .u64 (IntKind.u64.wrap ((x2 : Int) / 16 + (x2 : Int))) 1085102592571150095 = (x3 : Int))
    (h4 : IntKind.u64.wrap ((x3 : Int) + (x3 : Int) / 256) = (x4 : Int))
    (h5 : IntKind.u64.wrap ((x4 : Int) + (x4 : Int) / 65536) = (x5 : Int))
    (h6 : IntKind.u64.wrap ((x5 : Int) + (x5 : Int) / 4294967296) = (x6 : Int)) :
    Calls Tryd.prog 48 #[.int .u64 (x : Int)] w fun e w' => e = .returned (.int .i64 ((x6 % 128 : Nat) : Int)) ∧ w' = w := by
  go_enter Tryd.func48, Tryd.ntmps48
  go_wp2
  go_ret
  exact ⟨ret_int (and127_eq x6), rfl⟩

set_option maxHeartbeats 400000 in
theorem bones_core (x : Int) (y : Int) (w : World) (C : Hid (Calls Tryd.prog 48 #[.int .u64 x] w fun e w' => e = .returned (.int .i64 y) ∧ w' = w)) :
    Calls Tryd.prog 33 #[.int .u64 x] w fun e w' => e = .returned (.int .i64 y) ∧ w' = w := by
  go_enter Tryd.func33, Tryd.ntmps33
  go_wp2_with (go_at_call 48; refine (unhide C).mono ?_; rintro e w' ⟨rfl, rfl⟩)
  go_ret
  exact ⟨rfl, rfl⟩

theorem ones7 (w : World) : Calls Tryd.prog 33 #[.int .u64 7] w fun e w' => e = .returned (.int .i64 3) ∧ w' = w :=
  bones_core _ _ w (ones_core 7 6 3 3 3 3 3 w (by decide) (by decide) (by decide) (by decide) (by decide) (by decide))
end Go.Proofs.YtdlnfmmblcfdoaaDoor
