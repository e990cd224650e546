/- The contracts of the document's own answers on numbers (gantlineref1: Wrap, Add, Sub, Mul, size, Div, Mod, Shl, Shr). -/
import Derived.Test.YtdlnfmmblcfdoaaDoorRefMaps
namespace Go.Proofs.YtdlnfmmblcfdoaaDoor
open Go.RowKit

theorem low63 (v : Int) : bits .and .u64 (IntKind.u64.wrap v) 9223372036854775807 = ((v % 9223372036854775808).toNat : Int) := by
  rw [IntKind.wrap_u64]
  obtain ⟨m, hm⟩ := Int.eq_ofNat_of_zero_le (show 0 ≤ v % 18446744073709551616 by omega)
  have a1 : bits .and .u64 (m : Int) 9223372036854775807 = ((m &&& 9223372036854775807 : Nat) : Int) := u64_and_nat m 9223372036854775807 (by omega) (by decide)
  have a2 := Nat.and_two_pow_sub_one_eq_mod m 63
  simp only [Nat.reducePow, Nat.reduceSub] at a2
  rw [hm, a1, a2]
  omega

theorem rwrap_of (v : Int) : (4611686018427387904 ≤ ((v % 9223372036854775808).toNat : Int) → ((v % 9223372036854775808).toNat : Int) - 4611686018427387904 - 4611686018427387904 = w63 v) ∧ (¬ 4611686018427387904 ≤ ((v % 9223372036854775808).toNat : Int) → ((v % 9223372036854775808).toNat : Int) = w63 v) := by
  unfold w63
  constructor <;> intro h <;> omega

set_option maxHeartbeats 400000 in
theorem rwrap_any (v : Int) (w : World) :
    Calls Tryd.prog 22 #[.int .i64 v] w fun e w' => e = .returned (.int .i64 (w63 v)) ∧ w' = w := by
  have e := low63 v
  have HM := hide (rwrap_of v)
  have hm2 : (v % 9223372036854775808).toNat < 9223372036854775808 := by omega
  generalize (v % 9223372036854775808).toNat = m at *
  obtain ⟨z, hz⟩ : ∃ z : Int, z = (m : Int) := ⟨_, rfl⟩
  rw [← hz] at e HM
  have hz0 : 0 ≤ z := by omega
  have hz1 : z ≤ 9223372036854775807 := by omega
  clear hm2 hz
  by_cases h : 4611686018427387904 ≤ z
  · have HW := hide ((unhide HM).1 h)
    clear HM
    go_enter Tryd.func22, Tryd.ntmps22
    go_wp2
    go_ret
    exact ⟨ret_int (by exact unhide HW), rfl⟩
  · have HW := hide ((unhide HM).2 h)
    clear HM
    go_enter Tryd.func22, Tryd.ntmps22
    go_wp2
    go_ret
    exact ⟨ret_int (by exact unhide HW), rfl⟩

theorem w63_addb (a b : Int) : w63 (wrap64 (w63 a + w63 b)) = w63 (a + b) := by unfold w63 wrap64; omega
theorem w63_addb' (a b : Int) : w63 (w63 a + w63 b) = w63 (a + b) := by unfold w63; omega
theorem w63_subb (a b : Int) : w63 (wrap64 (w63 a - w63 b)) = w63 (a - b) := by unfold w63 wrap64; omega
theorem w63_subb' (a b : Int) : w63 (w63 a - w63 b) = w63 (a - b) := by unfold w63; omega

set_option maxHeartbeats 400000 in
theorem radd_any (a b : Int) (w : World) :
    Calls Tryd.prog 24 #[.int .i64 a, .int .i64 b] w fun e w' => e = .returned (.int .i64 (w63 (a + b))) ∧ w' = w := by
  go_enter Tryd.func24, Tryd.ntmps24
  go_wp2_with (go_at_call 22; refine (rwrap_any _ _).mono ?_; rintro e w' ⟨rfl, rfl⟩)
  go_ret
  exact ⟨ret_int (w63_addb a b), rfl⟩

set_option maxHeartbeats 400000 in
theorem rsub_any (a b : Int) (w : World) :
    Calls Tryd.prog 26 #[.int .i64 a, .int .i64 b] w fun e w' => e = .returned (.int .i64 (w63 (a - b))) ∧ w' = w := by
  go_enter Tryd.func26, Tryd.ntmps26
  go_wp2_with (go_at_call 22; refine (rwrap_any _ _).mono ?_; rintro e w' ⟨rfl, rfl⟩)
  go_ret
  exact ⟨ret_int (w63_subb a b), rfl⟩

/-! ### Mul: by doubling -/
def mulTo (x y k : Nat) : Nat := x * (y % 2 ^ k) % 18446744073709551616

theorem mul_step_f (x y k : Nat) (hb : bitB y k = false) : mulTo x y (k + 1) = mulTo x y k := by
  unfold mulTo
  have hb2 : y.testBit k = false := hb
  rw [Nat.testBit_eq_decide_div_mod_eq] at hb2
  have h0 : y / 2 ^ k % 2 = 0 := by
    have h1 : ¬ y / 2 ^ k % 2 = 1 := by simpa using hb2
    omega
  rw [Nat.mod_pow_succ, h0]; simp

theorem mul_step_t (x y k : Nat) (hb : bitB y k = true) : IntKind.u64.wrap ((mulTo x y k : Int) + IntKind.u64.wrap ((x : Int) * 2 ^ k)) = (mulTo x y (k + 1) : Int) := by
  unfold mulTo
  have hb2 : y.testBit k = true := hb
  rw [Nat.testBit_eq_decide_div_mod_eq] at hb2
  have h1 : y / 2 ^ k % 2 = 1 := by simpa using hb2
  rw [Nat.mod_pow_succ, h1, Nat.mul_one, Nat.mul_add, up_eq, IntKind.wrap_u64]
  generalize x * (y % 2 ^ k) = p
  generalize x * 2 ^ k = q
  omega

theorem mul_end (x y : Nat) (hy : y < 18446744073709551616) : mulTo x y 64 = x * y % 18446744073709551616 := by
  unfold mulTo
  rw [Nat.mod_eq_of_lt (show y < 2 ^ 64 from hy)]

theorem mul_w63 (a b : Int) (x y : Nat) (hx : (x : Int) = w63 a % 18446744073709551616) (hy : (y : Int) = w63 b % 18446744073709551616) : w63 (wrap64 ((x * y % 18446744073709551616 : Nat) : Int)) = w63 (a * b) := by
  rw [w63_wrap64]
  obtain ⟨k1, h1⟩ := w63_form a
  obtain ⟨k2, h2⟩ := w63_form b
  have e1 : (x : Int) = a + 9223372036854775808 * (k1 - 2 * (w63 a / 18446744073709551616)) := by omega
  have e2 : (y : Int) = b + 9223372036854775808 * (k2 - 2 * (w63 b / 18446744073709551616)) := by omega
  generalize k1 - 2 * (w63 a / 18446744073709551616) = m1 at e1
  generalize k2 - 2 * (w63 b / 18446744073709551616) = m2 at e2
  have e3 : ((x * y % 18446744073709551616 : Nat) : Int) = (x : Int) * (y : Int) + 9223372036854775808 * (-(2 * ((x : Int) * (y : Int) / 18446744073709551616))) := by
    rw [Int.natCast_emod, Int.natCast_mul]
    generalize (x : Int) * (y : Int) = p
    omega
  refine w63_dvd ⟨m1 * b + a * m2 + 9223372036854775808 * (m1 * m2) + -(2 * ((x : Int) * (y : Int) / 18446744073709551616)), ?_⟩
  rw [e3]
  generalize (x : Int) * (y : Int) / 18446744073709551616 = d
  rw [e1, e2, Int.add_mul, Int.mul_add, Int.mul_add]
  have f1 : a * (9223372036854775808 * m2) = 9223372036854775808 * (a * m2) := by rw [← Int.mul_assoc, Int.mul_comm a, Int.mul_assoc]
  have f2 : 9223372036854775808 * m1 * b = 9223372036854775808 * (m1 * b) := Int.mul_assoc _ _ _
  have f3 : 9223372036854775808 * m1 * (9223372036854775808 * m2) = 9223372036854775808 * (9223372036854775808 * (m1 * m2)) := by rw [Int.mul_assoc, ← Int.mul_assoc m1, Int.mul_comm m1, Int.mul_assoc]
  rw [f1, f2, f3]
  generalize a * m2 = g1
  generalize m1 * b = g2
  generalize m1 * m2 = g3
  generalize a * b = g4
  omega

set_option maxHeartbeats 400000 in
theorem rmul_any (a b : Int) (w : World) :
    Calls Tryd.prog 28 #[.int .i64 a, .int .i64 b] w fun e w' => e = .returned (.int .i64 (w63 (a * b))) ∧ w' = w := by
  obtain ⟨x, hx⟩ := Int.eq_ofNat_of_zero_le (show 0 ≤ w63 a % 18446744073709551616 by omega)
  obtain ⟨y, hy⟩ := Int.eq_ofNat_of_zero_le (show 0 ≤ w63 b % 18446744073709551616 by omega)
  have hyb : y < 18446744073709551616 := by omega
  have e1 : IntKind.u64.wrap (w63 a) = (x : Int) := by rw [IntKind.wrap_u64, hx]
  have e2 : IntKind.u64.wrap (w63 b) = (y : Int) := by rw [IntKind.wrap_u64, hy]
  have HE := hide (mul_w63 a b x y hx.symm hy.symm)
  clear hx hy
  go_enter Tryd.func28, Tryd.ntmps28
  go_wp2_with (go_at_call 22; refine (rwrap_any _ _).mono ?_; rintro e w' ⟨rfl, rfl⟩)
  clear e1 e2
  go_loop [7, 8] (fun s i => ∃ k : Nat, k ≤ 64 ∧ i = .int .i64 k ∧ s = .int .u64 (mulTo x y k : Int)) (fun _ i => 64 - (intOf i).toNat)
  case atStart => exact ⟨0, Nat.zero_le _, rfl, by simp [mulTo, Nat.mod_one]⟩
  case round =>
    obtain ⟨k, hk, rfl, rfl⟩ := hrel
    by_cases hlt : k < 64
    · have eb := bit_eq y k hyb
      cases hb : bitB y k
      · have HS := hide (mul_step_f x y k hb)
        rw [hb] at eb
        clear hb HE
        go_wp2
        go_round
        case rel => exact ⟨k + 1, by omega, by go_num, by rw [unhide HS]⟩
        case measure => simp [intOf]; omega
      · have HS := hide (mul_step_t x y k hb)
        rw [hb] at eb
        clear hb HE
        go_wp2
        go_round
        case rel => exact ⟨k + 1, by omega, by go_num, by exact congrArg (Value.int .u64) (unhide HS)⟩
        case measure => simp [intOf]; omega
    · obtain rfl : k = 64 := by omega
      rw [mul_end x y hyb]
      go_wp2_with (go_at_call 22; refine (rwrap_any _ _).mono ?_; rintro e w' ⟨rfl, rfl⟩)
      go_ret
      exact ⟨ret_int (by exact unhide HE), rfl⟩
end Go.Proofs.YtdlnfmmblcfdoaaDoor
