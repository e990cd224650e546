/- The contracts of package bits' Field, With, First, Ones and of math/bits' two (from stage 4 on). -/
import Derived.Test.YtgflkpccddfalaaGreatDoorGeomLeafs
import Derived.Lib.TrailingZeros
namespace Go.Proofs.YtgflkpccddfalaaGreatDoor
set_option maxRecDepth 100000
open Go.RowKit

theorem low_eq (n : Nat) (h : n ≤ 64) : IntKind.u64.wrap (IntKind.u64.wrap (2 ^ n) - 1) = ((2 ^ n - 1 : Nat) : Int) := by
  rw [IntKind.wrap_u64, IntKind.wrap_u64]
  have h0 : 0 < 2 ^ n := Nat.two_pow_pos n
  have h2 : 2 ^ n ≤ 2 ^ 64 := Nat.pow_le_pow_right (by decide) h
  have e : (2 : Int) ^ n = ((2 ^ n : Nat) : Int) := by simp
  rw [e]
  generalize 2 ^ n = m at *
  omega

set_option maxHeartbeats 400000 in
theorem low_any (n : Nat) (w : World) (h1 : n ≤ 64) :
    Calls Tryz.prog 76 #[.int .i64 (n : Int)] w fun e w' => e = .returned (.int .u64 ((2 ^ n - 1 : Nat) : Int)) ∧ w' = w := by
  have hl : IntKind.u64.wrap (IntKind.u64.wrap (2 ^ n) - 1) = ((2 ^ n - 1 : Nat) : Int) := low_eq n h1
  have HL := hide hl
  clear hl
  go_enter Tryz.func76, Tryz.ntmps76
  go_wp2
  go_ret
  exact ⟨ret_int (unhide HL), rfl⟩

set_option maxHeartbeats 400000 in
theorem inside_yes (a n : Int) (w : World) (h0 : 0 ≤ a) (h1 : 0 ≤ n) (h2 : a + n ≤ 64) :
    Calls Tryz.prog 75 #[.int .i64 a, .int .i64 n] w fun e w' => e = .returned (.bool true) ∧ w' = w := by
  have h3 : a ≤ 64 - n := by omega
  go_enter Tryz.func75, Tryz.ntmps75
  go_wp2
  go_ret
  exact ⟨by simp, rfl⟩

set_option maxHeartbeats 400000 in
theorem inside_no (a n : Int) (w : World) (hn : n ≤ 9223372036854775807) (h : a < 0 ∨ n < 0 ∨ 64 < a + n) :
    Calls Tryz.prog 75 #[.int .i64 a, .int .i64 n] w fun e w' => e = .returned (.bool false) ∧ w' = w := by
  by_cases h0 : a < 0
  · clear h
    go_enter Tryz.func75, Tryz.ntmps75
    go_wp2
    go_ret
    exact ⟨by simp, rfl⟩
  · by_cases h1 : n < 0
    · clear h
      go_enter Tryz.func75, Tryz.ntmps75
      go_wp2
      go_ret
      exact ⟨by simp, rfl⟩
    · have h3 : ¬ a ≤ 64 - n := by omega
      clear h
      go_enter Tryz.func75, Tryz.ntmps75
      go_wp2
      go_ret
      exact ⟨by simp, rfl⟩

/-- Bits a .. a + n - 1 of x. -/
def fieldN (x a n : Nat) : Nat := x / 2 ^ a % 2 ^ n

theorem field_eq (x a n : Nat) (hx : x < 18446744073709551616) (hn : n ≤ 64) : bits .and .u64 ((x : Int) / 2 ^ a) ((2 ^ n - 1 : Nat) : Int) = (fieldN x a n : Int) := by
  have e : (x : Int) / 2 ^ a = ((x / 2 ^ a : Nat) : Int) := by simp
  have h2 : 2 ^ n ≤ 2 ^ 64 := Nat.pow_le_pow_right (by decide) hn
  have h3 := Nat.div_le_self x (2 ^ a)
  have h4 : 0 < 2 ^ n := Nat.two_pow_pos n
  rw [e, u64_and_nat _ _ (by omega) (by omega), Nat.and_two_pow_sub_one_eq_mod]
  rfl

set_option maxHeartbeats 400000 in
theorem field_any (x a n : Nat) (w : World) (hx : x < 18446744073709551616) (h : a + n ≤ 64) :
    Calls Tryz.prog 59 #[.int .u64 (x : Int), .int .i64 (a : Int), .int .i64 (n : Int)] w fun e w' => e = .returned (.int .u64 (fieldN x a n : Int)) ∧ ∃ k, w' = w.drewN k := by
  have HF := hide (field_eq x a n hx (by omega))
  go_enter Tryz.func59, Tryz.ntmps59
  go_wp2_with (go_at_call 75; refine (inside_yes _ _ _ (by omega) (by omega) (by omega)).mono ?_; rintro e w' ⟨rfl, rfl⟩)
  go_quiet ((go_at_call 76; exact Calls.quiet_of_same (low_any _ _ (by omega))))
  go_wp2
  go_ret
  exact ⟨ret_int (by simpa using unhide HF), _, rfl⟩

set_option maxHeartbeats 400000 in
theorem field_out (x a n : Int) (w : World) (hn : n ≤ 9223372036854775807) (h : a < 0 ∨ n < 0 ∨ 64 < a + n) :
    Calls Tryz.prog 59 #[.int .u64 x, .int .i64 a, .int .i64 n] w fun e w' => e = .returned (.int .u64 0) ∧ w' = w := by
  have H := hide h
  clear h
  go_enter Tryz.func59, Tryz.ntmps59
  go_wp2_with (go_at_call 75; refine (inside_no _ _ _ hn (unhide H)).mono ?_; rintro e w' ⟨rfl, rfl⟩)
  go_ret
  exact ⟨rfl, rfl⟩

set_option maxHeartbeats 400000 in
theorem with_out (x a n v : Int) (w : World) (hn : n ≤ 9223372036854775807) (h : a < 0 ∨ n < 0 ∨ 64 < a + n) :
    Calls Tryz.prog 82 #[.int .u64 x, .int .i64 a, .int .i64 n, .int .u64 v] w fun e w' => e = .returned (.int .u64 x) ∧ w' = w := by
  have H := hide h
  clear h
  go_enter Tryz.func82, Tryz.ntmps82
  go_wp2_with (go_at_call 75; refine (inside_no _ _ _ hn (unhide H)).mono ?_; rintro e w' ⟨rfl, rfl⟩)
  go_ret
  exact ⟨rfl, rfl⟩

/-- x with bits a .. a + n - 1 those of v. -/
def withN (x a n v : Nat) : Nat := (x &&& (18446744073709551615 - (2 ^ n - 1) * 2 ^ a)) ||| (v * 2 ^ a % 18446744073709551616 &&& (2 ^ n - 1) * 2 ^ a)

theorem mask_lt (a n : Nat) (h : a + n ≤ 64) : (2 ^ n - 1) * 2 ^ a < 18446744073709551616 := by
  have h1 : 2 ^ n * 2 ^ a ≤ 2 ^ 64 := by rw [← Nat.pow_add]; exact Nat.pow_le_pow_right (by decide) (by omega)
  have h2 : 0 < 2 ^ a := Nat.two_pow_pos a
  have h3 : 0 < 2 ^ n := Nat.two_pow_pos n
  rw [Nat.sub_mul]
  have h4 : 2 ^ a ≤ 2 ^ n * 2 ^ a := Nat.le_mul_of_pos_left _ h3
  omega

theorem mask_eq (a n : Nat) (h : a + n ≤ 64) : IntKind.u64.wrap (((2 ^ n - 1 : Nat) : Int) * 2 ^ a) = (((2 ^ n - 1) * 2 ^ a : Nat) : Int) := by
  have h0 := mask_lt a n h
  have e : ((2 ^ n - 1 : Nat) : Int) * 2 ^ a = (((2 ^ n - 1) * 2 ^ a : Nat) : Int) := by rw [Int.natCast_mul]; simp
  rw [e, IntKind.wrap_u64]
  generalize (2 ^ n - 1) * 2 ^ a = m at *
  omega

theorem up_eq (v a : Nat) : IntKind.u64.wrap ((v : Int) * 2 ^ a) = ((v * 2 ^ a % 18446744073709551616 : Nat) : Int) := by
  have e : (v : Int) * 2 ^ a = ((v * 2 ^ a : Nat) : Int) := by rw [Int.natCast_mul]; simp
  rw [e, IntKind.wrap_u64]
  generalize v * 2 ^ a = m at *
  omega

theorem with_eq (x a n v m u : Nat) (hx : x < 18446744073709551616) (hm : m = (2 ^ n - 1) * 2 ^ a) (hu : u = v * 2 ^ a % 18446744073709551616) (h : a + n ≤ 64) :
    bits .or .u64 (bits .andNot .u64 (x : Int) (m : Int)) (bits .and .u64 (u : Int) (m : Int)) = (withN x a n v : Int) := by
  have h0 := mask_lt a n h
  have h1 : v * 2 ^ a % 18446744073709551616 < 18446744073709551616 := Nat.mod_lt _ (by decide)
  rw [u64_andNot_nat _ _ hx (by omega), u64_and_nat _ _ (by omega) (by omega), u64_or_nat]
  · subst hm; subst hu; rfl
  · exact Nat.lt_of_le_of_lt Nat.and_le_left hx
  · exact Nat.lt_of_le_of_lt Nat.and_le_left (by omega)

set_option maxHeartbeats 400000 in
theorem with_any (x a n v : Nat) (w : World) (hx : x < 18446744073709551616) (h : a + n ≤ 64) :
    Calls Tryz.prog 82 #[.int .u64 (x : Int), .int .i64 (a : Int), .int .i64 (n : Int), .int .u64 (v : Int)] w fun e w' => e = .returned (.int .u64 (withN x a n v : Int)) ∧ w' = w := by
  obtain ⟨m, hm⟩ : ∃ m, m = (2 ^ n - 1) * 2 ^ a := ⟨_, rfl⟩
  obtain ⟨u, hu⟩ : ∃ u, u = v * 2 ^ a % 18446744073709551616 := ⟨_, rfl⟩
  obtain ⟨l, hl⟩ : ∃ l : Nat, l = 2 ^ n - 1 := ⟨_, rfl⟩
  have HW := hide (with_eq x a n v m u hx hm hu h)
  have e1 : IntKind.u64.wrap ((l : Int) * 2 ^ a) = (m : Int) := by rw [hl, hm]; exact mask_eq a n h
  have e2 : IntKind.u64.wrap ((v : Int) * 2 ^ a) = (u : Int) := by rw [hu]; exact up_eq v a
  have HL : Hid (l = 2 ^ n - 1) := hl
  clear hm hu hl
  go_enter Tryz.func82, Tryz.ntmps82
  go_wp2_with (first | (go_at_call 75; refine (inside_yes _ _ _ (by omega) (by omega) (by omega)).mono ?_; rintro e w' ⟨rfl, rfl⟩) | (go_at_call 76; refine (low_any _ _ (by omega)).mono ?_; rw [← HL.out]; rintro e w' ⟨rfl, rfl⟩))
  go_ret
  exact ⟨ret_int (by exact unhide HW), rfl⟩

/-- math/bits' table lies in variable 0, as its text lays it. -/
def Tab (w : World) : Prop := ∀ k : Nat, k < 64 → w.cell? ⟨0, 2 ^ k * 285870213051353865 % 18446744073709551616 / 288230376151711744, none⟩ = some (.int .u8 (k : Int))

theorem neg_and (x : Nat) (h0 : x ≠ 0) (hx : x < 18446744073709551616) : bits .and .u64 (x : Int) (IntKind.u64.wrap (-(x : Int))) = ((2 ^ Lib.ctz 64 x : Nat) : Int) := by
  have e : IntKind.u64.wrap (-(x : Int)) = ((2 ^ 64 - x : Nat) : Int) := by rw [IntKind.wrap_u64]; omega
  rw [e, u64_and_nat _ _ hx (by omega), (Lib.lowest_bit 64 x h0 hx).1]

theorem mul_idx (p : Nat) : IntKind.u64.wrap ((p : Int) * 285870213051353865) / 288230376151711744 = ((p * 285870213051353865 % 18446744073709551616 / 288230376151711744 : Nat) : Int) := by
  rw [IntKind.wrap_u64]; omega

set_option maxHeartbeats 400000 in
theorem tz_core (x p j k : Nat) (w : World) (h : ¬ (x : Int) = 0) (hand : bits .and .u64 (x : Int) (IntKind.u64.wrap (-(x : Int))) = (p : Int))
    (hidx : IntKind.u64.wrap ((p : Int) * 285870213051353865) / 288230376151711744 = (j : Int)) (hj : j < 64) (hc : w.cell? ⟨0, j, none⟩ = some (.int .u8 (k : Int))) (hk : k < 64) :
    Calls Tryz.prog 109 #[.int .u64 (x : Int)] w fun e w' => e = .returned (.int .i64 (k : Int)) ∧ w' = w := by
  have h0 : ((x : Int) == 0) = false := beq_eq_false_iff_ne.2 h
  go_enter Tryz.func109, Tryz.ntmps109
  go_wp2
  go_ret
  exact ⟨rfl, rfl⟩

set_option maxHeartbeats 400000 in
theorem tz_zero (w : World) : Calls Tryz.prog 109 #[.int .u64 0] w fun e w' => e = .returned (.int .i64 64) ∧ w' = w := by
  go_enter Tryz.func109, Tryz.ntmps109
  go_wp2
  go_ret
  exact ⟨rfl, rfl⟩

theorem tz_any (x : Nat) (w : World) (hx : x < 18446744073709551616) (ht : Tab w) :
    Calls Tryz.prog 109 #[.int .u64 (x : Int)] w fun e w' => e = .returned (.int .i64 (Lib.ctz 64 x : Int)) ∧ w' = w := by
  by_cases h0 : x = 0
  · subst h0; exact tz_zero w
  · have hl := Lib.lowest_bit 64 x h0 hx
    exact tz_core x (2 ^ Lib.ctz 64 x) _ _ w (by omega) (neg_and x h0 hx) (mul_idx _) (Lib.deBruijn64_at _ hl.2).1 (ht _ hl.2) hl.2

theorem xor_ones (y : Nat) (h : y < 18446744073709551616) : y ^^^ 18446744073709551615 = 18446744073709551615 - y := by
  apply Nat.eq_of_testBit_eq
  intro i
  have h64 : 18446744073709551615 - y = 2 ^ 64 - (y + 1) := by omega
  have h65 : (18446744073709551615 : Nat) = 2 ^ 64 - 1 := rfl
  have hm : y < 2 ^ 64 := h
  rw [h64, Nat.testBit_two_pow_sub_succ hm, Nat.testBit_xor, h65, Nat.testBit_two_pow_sub_one]
  by_cases hi : i < 64
  · simp [hi]
  · have : y.testBit i = false := Nat.testBit_lt_two_pow (Nat.lt_of_lt_of_le hm (Nat.pow_le_pow_right (by decide) (by omega)))
    simp [hi, this]

theorem not_eq (x : Nat) (h : x < 18446744073709551616) : bits .xor .u64 IntKind.u64.max (x : Int) = ((18446744073709551615 - x : Nat) : Int) := by
  have e : IntKind.u64.max = ((18446744073709551615 : Nat) : Int) := by decide
  rw [e, u64_xor_nat _ _ (by decide) h, Nat.xor_comm, xor_ones x h]

set_option maxHeartbeats 400000 in
theorem first_any (x : Nat) (w : World) (hx : x < 18446744073709551616) (ht : Tab w) :
    Calls Tryz.prog 102 #[.int .u64 (x : Int)] w fun e w' => e = .returned (.int .i64 (Lib.ctz 64 (18446744073709551615 - x) : Int)) ∧ w' = w := by
  have hb : 18446744073709551615 - x < 18446744073709551616 := by omega
  have en := not_eq x hx
  generalize 18446744073709551615 - x = y at *
  have C := hide (tz_any y w hb ht)
  clear ht hx hb
  have hs : IntKind.u64.signed = false := rfl
  go_enter Tryz.func102, Tryz.ntmps102
  go_wp2_with (go_at_call 109; refine (unhide C).mono ?_; rintro e w' ⟨rfl, rfl⟩)
  go_ret
  exact ⟨rfl, rfl⟩

theorem and127_eq (x : Nat) : bits .and .i64 (wrap64 (x : Int)) 127 = ((x % 128 : Nat) : Int) := by
  rw [i64_and127]; unfold wrap64; omega

set_option maxHeartbeats 400000 in
theorem ones_core (x x1 x2 x3 x4 x5 x6 : Nat) (w : World)
    (h1 : IntKind.u64.wrap (bits .and .u64 ((x : Int) / 2) 6148914691236517205 + bits .and .u64 (x : Int) 6148914691236517205) = (x1 : Int))
    (h2 : IntKind.u64.wrap (bits .and .u64 ((x1 : Int) / 4) 3689348814741910323 + bits .and .u64 (x1 : Int) 3689348814741910323) = (x2 : Int))
    (h3 : bits .and .u64 (IntKind.u64.wrap ((x2 : Int) / 16 + (x2 : Int))) 1085102592571150095 = (x3 : Int))
    (h4 : IntKind.u64.wrap ((x3 : Int) + (x3 : Int) / 256) = (x4 : Int))
    (h5 : IntKind.u64.wrap ((x4 : Int) + (x4 : Int) / 65536) = (x5 : Int))
    (h6 : IntKind.u64.wrap ((x5 : Int) + (x5 : Int) / 4294967296) = (x6 : Int)) :
    Calls Tryz.prog 99 #[.int .u64 (x : Int)] w fun e w' => e = .returned (.int .i64 ((x6 % 128 : Nat) : Int)) ∧ w' = w := by
  go_enter Tryz.func99, Tryz.ntmps99
  go_wp2
  go_ret
  exact ⟨ret_int (and127_eq x6), rfl⟩

set_option maxHeartbeats 400000 in
theorem bones_core (x : Int) (y : Int) (w : World) (C : Hid (Calls Tryz.prog 99 #[.int .u64 x] w fun e w' => e = .returned (.int .i64 y) ∧ w' = w)) :
    Calls Tryz.prog 108 #[.int .u64 x] w fun e w' => e = .returned (.int .i64 y) ∧ w' = w := by
  go_enter Tryz.func108, Tryz.ntmps108
  go_wp2_with (go_at_call 99; refine (unhide C).mono ?_; rintro e w' ⟨rfl, rfl⟩)
  go_ret
  exact ⟨rfl, rfl⟩

end Go.Proofs.YtgflkpccddfalaaGreatDoor
