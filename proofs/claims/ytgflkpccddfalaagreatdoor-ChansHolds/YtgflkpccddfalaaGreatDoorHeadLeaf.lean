/- The contracts of what package head calls, and of package head's calls on words. -/
import Derived.Test.YtgflkpccddfalaaGreatDoorHeadPlain
import Derived.Test.YtgflkpccddfalaaGreatDoorRows
import Derived.WalkKit
import Derived.WalkSpells
import Derived.WalkLawsBesides
import Derived.Deep.QuietTactic
import Derived.BigQuiet
import Derived.Handy
namespace Go.Proofs.YtgflkpccddfalaaGreatDoor.Hd
set_option maxRecDepth 100000
open Go.RowKit

theorem ret_int {k : IntKind} {a b : Int} (h : a = b) : Ending.returned (.int k a) = .returned (.int k b) := by rw [h]
theorem ret_bool {a b : Bool} (h : a = b) : Ending.returned (.bool a) = .returned (.bool b) := by rw [h]

theorem low_eq (n : Nat) (h : n ≤ 64) : IntKind.u64.wrap (IntKind.u64.wrap (2 ^ n) - 1) = ((2 ^ n - 1 : Nat) : Int) := by
  rw [IntKind.wrap_u64, IntKind.wrap_u64]
  have h0 : 0 < 2 ^ n := Nat.two_pow_pos n
  have h2 : 2 ^ n ≤ 2 ^ 64 := Nat.pow_le_pow_right (by decide) h
  have e : (2 : Int) ^ n = ((2 ^ n : Nat) : Int) := by simp
  rw [e]
  generalize 2 ^ n = m at *
  omega

set_option maxHeartbeats 400000 in
theorem low_any (n : Nat) (w : World) (h1 : n ≤ 64) :
    Calls Tryz.prog 76 #[.int .i64 (n : Int)] w fun e w' => e = .returned (.int .u64 ((2 ^ n - 1 : Nat) : Int)) ∧ w' = w := by
  have hl : IntKind.u64.wrap (IntKind.u64.wrap (2 ^ n) - 1) = ((2 ^ n - 1 : Nat) : Int) := low_eq n h1
  have HL := hide hl
  clear hl
  go_enter Tryz.func76, Tryz.ntmps76
  go_wp2
  go_ret
  exact ⟨ret_int (unhide HL), rfl⟩

set_option maxHeartbeats 400000 in
theorem inside_yes (a n : Int) (w : World) (h0 : 0 ≤ a) (h1 : 0 ≤ n) (h2 : a + n ≤ 64) :
    Calls Tryz.prog 75 #[.int .i64 a, .int .i64 n] w fun e w' => e = .returned (.bool true) ∧ w' = w := by
  have h3 : a ≤ 64 - n := by omega
  go_enter Tryz.func75, Tryz.ntmps75
  go_wp2
  go_ret
  exact ⟨by simp, rfl⟩

set_option maxHeartbeats 400000 in
theorem inside_no (a n : Int) (w : World) (hn : n ≤ 9223372036854775807) (h : a < 0 ∨ n < 0 ∨ 64 < a + n) :
    Calls Tryz.prog 75 #[.int .i64 a, .int .i64 n] w fun e w' => e = .returned (.bool false) ∧ w' = w := by
  by_cases h0 : a < 0
  · clear h
    go_enter Tryz.func75, Tryz.ntmps75
    go_wp2
    go_ret
    exact ⟨by simp, rfl⟩
  · by_cases h1 : n < 0
    · clear h
      go_enter Tryz.func75, Tryz.ntmps75
      go_wp2
      go_ret
      exact ⟨by simp, rfl⟩
    · have h3 : ¬ a ≤ 64 - n := by omega
      clear h
      go_enter Tryz.func75, Tryz.ntmps75
      go_wp2
      go_ret
      exact ⟨by simp, rfl⟩

/-- Bits a .. a + n - 1 of x. -/
def fieldN (x a n : Nat) : Nat := x / 2 ^ a % 2 ^ n

theorem field_eq (x a n : Nat) (hx : x < 18446744073709551616) (hn : n ≤ 64) : bits .and .u64 ((x : Int) / 2 ^ a) ((2 ^ n - 1 : Nat) : Int) = (fieldN x a n : Int) := by
  have e : (x : Int) / 2 ^ a = ((x / 2 ^ a : Nat) : Int) := by simp
  have h2 : 2 ^ n ≤ 2 ^ 64 := Nat.pow_le_pow_right (by decide) hn
  have h3 := Nat.div_le_self x (2 ^ a)
  have h4 : 0 < 2 ^ n := Nat.two_pow_pos n
  rw [e, u64_and_nat _ _ (by omega) (by omega), Nat.and_two_pow_sub_one_eq_mod]
  rfl

set_option maxHeartbeats 400000 in
theorem field_any (x a n : Nat) (w : World) (hx : x < 18446744073709551616) (h : a + n ≤ 64) :
    Calls Tryz.prog 59 #[.int .u64 (x : Int), .int .i64 (a : Int), .int .i64 (n : Int)] w fun e w' => e = .returned (.int .u64 (fieldN x a n : Int)) ∧ ∃ k, w' = w.drewN k := by
  have HF := hide (field_eq x a n hx (by omega))
  go_enter Tryz.func59, Tryz.ntmps59
  go_wp2_with (go_at_call 75; refine (inside_yes _ _ _ (by omega) (by omega) (by omega)).mono ?_; rintro e w' ⟨rfl, rfl⟩)
  go_quiet ((go_at_call 76; exact Calls.quiet_of_same (low_any _ _ (by omega))))
  go_wp2
  go_ret
  exact ⟨ret_int (by simpa using unhide HF), _, rfl⟩

set_option maxHeartbeats 400000 in
theorem field_out (x a n : Int) (w : World) (hn : n ≤ 9223372036854775807) (h : a < 0 ∨ n < 0 ∨ 64 < a + n) :
    Calls Tryz.prog 59 #[.int .u64 x, .int .i64 a, .int .i64 n] w fun e w' => e = .returned (.int .u64 0) ∧ w' = w := by
  have H := hide h
  clear h
  go_enter Tryz.func59, Tryz.ntmps59
  go_wp2_with (go_at_call 75; refine (inside_no _ _ _ hn (unhide H)).mono ?_; rintro e w' ⟨rfl, rfl⟩)
  go_ret
  exact ⟨rfl, rfl⟩
/-- Bit i of x. -/
def bitB (x i : Nat) : Bool := x.testBit i

theorem bit_eq (x i : Nat) (hx : x < 18446744073709551616) : (bits .and .u64 ((x : Int) / 2 ^ i) 1 == 1) = bitB x i := by
  have e : (x : Int) / 2 ^ i = ((x / 2 ^ i : Nat) : Int) := by simp
  have h3 := Nat.div_le_self x (2 ^ i)
  have a1 : bits .and .u64 ((x / 2 ^ i : Nat) : Int) 1 = ((x / 2 ^ i % 2 : Nat) : Int) := by
    have := u64_and_nat (x / 2 ^ i) 1 (by omega) (by decide)
    rw [Nat.and_one_is_mod] at this
    exact this
  rw [e, a1]
  unfold bitB
  rw [Nat.testBit_eq_decide_div_mod_eq]
  rw [Bool.eq_iff_iff]
  simp
  omega

set_option maxHeartbeats 400000 in
theorem within_any (v lo hi : Int) (w : World) :
    Calls Tryz.prog 43 #[.int .i64 v, .int .i64 lo, .int .i64 hi] w fun e w' => e = .returned (.bool (inB v lo hi)) ∧ w' = w := by
  by_cases h0 : lo ≤ v
  · by_cases h1 : v ≤ hi
    · go_enter Tryz.func43, Tryz.ntmps43
      go_wp2
      go_ret
      exact ⟨ret_bool (by simp [inB, h0, h1]), rfl⟩
    · go_enter Tryz.func43, Tryz.ntmps43
      go_wp2
      go_ret
      exact ⟨ret_bool (by simp [inB, h1]), rfl⟩
  · go_enter Tryz.func43, Tryz.ntmps43
    go_wp2
    go_ret
    exact ⟨ret_bool (by simp [inB]; omega), rfl⟩

/-- The word of an int64, as a uint64. -/
def u64N (v : Int) : Nat := (v % 18446744073709551616).toNat
theorem u64N_eq (v : Int) : IntKind.u64.wrap v = (u64N v : Int) := by rw [IntKind.wrap_u64]; unfold u64N; omega
theorem u64N_lt (v : Int) : u64N v < 18446744073709551616 := by unfold u64N; omega

set_option maxHeartbeats 400000 in
theorem part_any (v : Int) (a n : Nat) (w : World) (h : a + n ≤ 64) (hs : fieldN (u64N v) a n < 9223372036854775808) :
    Calls Tryz.prog 83 #[.int .i64 v, .int .i64 (a : Int), .int .i64 (n : Int)] w fun e w' => e = .returned (.int .i64 (fieldN (u64N v) a n : Int)) ∧ ∃ k, w' = w.drewN k := by
  have C := hide (field_any (u64N v) a n w (u64N_lt v) h)
  have E := hide (u64N_eq v)
  generalize fieldN (u64N v) a n = q at *
  go_enter Tryz.func83, Tryz.ntmps83
  go_wp2_with fail
  rw [unhide E]
  refine (unhide C).mono ?_
  rintro e w' ⟨rfl, k, rfl⟩
  go_wp2_with fail
  go_ret
  exact ⟨rfl, _, rfl⟩
end Go.Proofs.YtgflkpccddfalaaGreatDoor.Hd
