/- The contracts of package bits' plain functions, over the seat's translation. -/
import Derived.Test.YtdekhnfncecacaaDoorPlain
import Derived.Test.YtdekhnfncecacaaDoorRows
import Derived.WalkKit
import Derived.WalkSpells
import Derived.WalkLawsBesides
import Derived.Deep.QuietTactic
import Derived.BigQuiet
import Derived.Handy
import Derived.Lib.TrailingZeros
namespace Go.Proofs.YtdekhnfncecacaaDoor
set_option maxRecDepth 100000
open Go.RowKit

theorem ret_int {k : IntKind} {a b : Int} (h : a = b) : Ending.returned (.int k a) = .returned (.int k b) := by rw [h]

theorem low_eq (n : Nat) (h : n ≤ 64) : IntKind.u64.wrap (IntKind.u64.wrap (2 ^ n) - 1) = ((2 ^ n - 1 : Nat) : Int) := by
  rw [IntKind.wrap_u64, IntKind.wrap_u64]
  have h0 : 0 < 2 ^ n := Nat.two_pow_pos n
  have h2 : 2 ^ n ≤ 2 ^ 64 := Nat.pow_le_pow_right (by decide) h
  have e : (2 : Int) ^ n = ((2 ^ n : Nat) : Int) := by simp
  rw [e]
  generalize 2 ^ n = m at *
  omega

/-- Bits a .. a + n - 1 of x. -/
def fieldN (x a n : Nat) : Nat := x / 2 ^ a % 2 ^ n

theorem field_eq (x a n : Nat) (hx : x < 18446744073709551616) (hn : n ≤ 64) : bits .and .u64 ((x : Int) / 2 ^ a) ((2 ^ n - 1 : Nat) : Int) = (fieldN x a n : Int) := by
  have e : (x : Int) / 2 ^ a = ((x / 2 ^ a : Nat) : Int) := by simp
  have h2 : 2 ^ n ≤ 2 ^ 64 := Nat.pow_le_pow_right (by decide) hn
  have h3 := Nat.div_le_self x (2 ^ a)
  have h4 : 0 < 2 ^ n := Nat.two_pow_pos n
  rw [e, u64_and_nat _ _ (by omega) (by omega), Nat.and_two_pow_sub_one_eq_mod]
  rfl

/-- x with bits a .. a + n - 1 those of v. -/
def withN (x a n v : Nat) : Nat := (x &&& (18446744073709551615 - (2 ^ n - 1) * 2 ^ a)) ||| (v * 2 ^ a % 18446744073709551616 &&& (2 ^ n - 1) * 2 ^ a)

theorem mask_lt (a n : Nat) (h : a + n ≤ 64) : (2 ^ n - 1) * 2 ^ a < 18446744073709551616 := by
  have h1 : 2 ^ n * 2 ^ a ≤ 2 ^ 64 := by rw [← Nat.pow_add]; exact Nat.pow_le_pow_right (by decide) (by omega)
  have h2 : 0 < 2 ^ a := Nat.two_pow_pos a
  have h3 : 0 < 2 ^ n := Nat.two_pow_pos n
  rw [Nat.sub_mul]
  have h4 : 2 ^ a ≤ 2 ^ n * 2 ^ a := Nat.le_mul_of_pos_left _ h3
  omega

theorem mask_eq (a n : Nat) (h : a + n ≤ 64) : IntKind.u64.wrap (((2 ^ n - 1 : Nat) : Int) * 2 ^ a) = (((2 ^ n - 1) * 2 ^ a : Nat) : Int) := by
  have h0 := mask_lt a n h
  have e : ((2 ^ n - 1 : Nat) : Int) * 2 ^ a = (((2 ^ n - 1) * 2 ^ a : Nat) : Int) := by rw [Int.natCast_mul]; simp
  rw [e, IntKind.wrap_u64]
  generalize (2 ^ n - 1) * 2 ^ a = m at *
  omega

theorem up_eq (v a : Nat) : IntKind.u64.wrap ((v : Int) * 2 ^ a) = ((v * 2 ^ a % 18446744073709551616 : Nat) : Int) := by
  have e : (v : Int) * 2 ^ a = ((v * 2 ^ a : Nat) : Int) := by rw [Int.natCast_mul]; simp
  rw [e, IntKind.wrap_u64]
  generalize v * 2 ^ a = m at *
  omega

theorem with_eq (x a n v m u : Nat) (hx : x < 18446744073709551616) (hm : m = (2 ^ n - 1) * 2 ^ a) (hu : u = v * 2 ^ a % 18446744073709551616) (h : a + n ≤ 64) :
    bits .or .u64 (bits .andNot .u64 (x : Int) (m : Int)) (bits .and .u64 (u : Int) (m : Int)) = (withN x a n v : Int) := by
  have h0 := mask_lt a n h
  have h1 : v * 2 ^ a % 18446744073709551616 < 18446744073709551616 := Nat.mod_lt _ (by decide)
  rw [u64_andNot_nat _ _ hx (by omega), u64_and_nat _ _ (by omega) (by omega), u64_or_nat]
  · subst hm; subst hu; rfl
  · exact Nat.lt_of_le_of_lt Nat.and_le_left hx
  · exact Nat.lt_of_le_of_lt Nat.and_le_left (by omega)

end Go.Proofs.YtdekhnfncecacaaDoor
