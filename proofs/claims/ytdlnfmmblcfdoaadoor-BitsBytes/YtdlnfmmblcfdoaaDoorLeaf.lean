/- The contracts of package bits' plain functions, over the seat's translation. -/
import Derived.Test.YtdlnfmmblcfdoaaDoorPlain
import Derived.Test.YtdlnfmmblcfdoaaDoorRows
import Derived.WalkKit
import Derived.WalkSpells
import Derived.WalkLawsBesides
import Derived.Deep.QuietTactic
import Derived.BigQuiet
import Derived.Handy
import Derived.Lib.TrailingZeros
namespace Go.Proofs.YtdlnfmmblcfdoaaDoor
open Go.RowKit

theorem ret_int {k : IntKind} {a b : Int} (h : a = b) : Ending.returned (.int k a) = .returned (.int k b) := by rw [h]

set_option maxHeartbeats 400000 in
theorem wrap_any (v : Int) (w : World) :
    Calls Tryd.prog 21 #[.int .i64 v] w fun e w' => e = .returned (.int .i64 (w63 v)) ∧ w' = w := by
  go_enter Tryd.func21, Tryd.ntmps21
  go_wp2
  go_ret
  exact ⟨ret_int (by unfold wrap64 w63; omega), rfl⟩

set_option maxHeartbeats 400000 in
theorem add_any (a b : Int) (w : World) :
    Calls Tryd.prog 23 #[.int .i64 a, .int .i64 b] w fun e w' => e = .returned (.int .i64 (w63 (a + b))) ∧ w' = w := by
  go_enter Tryd.func23, Tryd.ntmps23
  go_wp2_with (go_at_call 21; refine (wrap_any _ _).mono ?_; rintro e w' ⟨rfl, rfl⟩)
  go_ret
  exact ⟨ret_int (by first | exact w63_wrap64 _ | rfl), rfl⟩

set_option maxHeartbeats 400000 in
theorem sub_any (a b : Int) (w : World) :
    Calls Tryd.prog 25 #[.int .i64 a, .int .i64 b] w fun e w' => e = .returned (.int .i64 (w63 (a - b))) ∧ w' = w := by
  go_enter Tryd.func25, Tryd.ntmps25
  go_wp2_with (go_at_call 21; refine (wrap_any _ _).mono ?_; rintro e w' ⟨rfl, rfl⟩)
  go_ret
  exact ⟨ret_int (by first | exact w63_wrap64 _ | rfl), rfl⟩

set_option maxHeartbeats 400000 in
theorem mul_any (a b : Int) (w : World) :
    Calls Tryd.prog 27 #[.int .i64 a, .int .i64 b] w fun e w' => e = .returned (.int .i64 (w63 (a * b))) ∧ w' = w := by
  go_enter Tryd.func27, Tryd.ntmps27
  go_wp2_with (go_at_call 21; refine (wrap_any _ _).mono ?_; rintro e w' ⟨rfl, rfl⟩)
  go_ret
  exact ⟨ret_int (by first | exact w63_wrap64 _ | rfl), rfl⟩

set_option maxHeartbeats 400000 in
theorem div_zero (a b : Int) (w : World) (h : w63 b = 0) :
    Calls Tryd.prog 10 #[.int .i64 a, .int .i64 b] w fun e w' => e = .returned (.tuple #[.int .i64 0, .bool false]) ∧ w' = w := by
  go_enter Tryd.func10, Tryd.ntmps10
  go_wp2_with (go_at_call 21; refine (wrap_any _ _).mono ?_; rintro e w' ⟨rfl, rfl⟩)
  go_ret2
  exact ⟨rfl, rfl⟩

set_option maxHeartbeats 400000 in
theorem mod_zero (a b : Int) (w : World) (h : w63 b = 0) :
    Calls Tryd.prog 11 #[.int .i64 a, .int .i64 b] w fun e w' => e = .returned (.tuple #[.int .i64 0, .bool false]) ∧ w' = w := by
  go_enter Tryd.func11, Tryd.ntmps11
  go_wp2_with (go_at_call 21; refine (wrap_any _ _).mono ?_; rintro e w' ⟨rfl, rfl⟩)
  go_ret2
  exact ⟨rfl, rfl⟩

set_option maxHeartbeats 400000 in
theorem div_any (a b : Int) (w : World) (h : ¬ w63 b = 0) :
    Calls Tryd.prog 10 #[.int .i64 a, .int .i64 b] w fun e w' => e = .returned (.tuple #[.int .i64 (w63 ((w63 a).tdiv (w63 b))), .bool true]) ∧ w' = w := by
  have hd := tdiv_bd (w63 a) (w63 b) (w63_bd a).1 (w63_bd a).2
  have hb : (w63 b == 0) = false := beq_eq_false_iff_ne.2 h
  go_enter Tryd.func10, Tryd.ntmps10
  go_wp2_with (go_at_call 21; refine (wrap_any _ _).mono ?_; rintro e w' ⟨rfl, rfl⟩)
  go_ret2
  exact ⟨rfl, rfl⟩

set_option maxHeartbeats 400000 in
theorem mod_any (a b : Int) (w : World) (h : ¬ w63 b = 0) :
    Calls Tryd.prog 11 #[.int .i64 a, .int .i64 b] w fun e w' => e = .returned (.tuple #[.int .i64 ((w63 a).tmod (w63 b)), .bool true]) ∧ w' = w := by
  have hb : (w63 b == 0) = false := beq_eq_false_iff_ne.2 h
  go_enter Tryd.func11, Tryd.ntmps11
  go_wp2_with (go_at_call 21; refine (wrap_any _ _).mono ?_; rintro e w' ⟨rfl, rfl⟩)
  go_ret2
  exact ⟨rfl, rfl⟩

set_option maxHeartbeats 400000 in
theorem shl_out (a n : Int) (w : World) (h : n < 0 ∨ 62 < n) :
    Calls Tryd.prog 14 #[.int .i64 a, .int .i64 n] w fun e w' => e = .returned (.int .i64 0) ∧ w' = w := by
  by_cases h0 : n < 0
  · clear h
    go_enter Tryd.func14, Tryd.ntmps14
    go_wp2
    go_ret
    exact ⟨rfl, rfl⟩
  · have h1 : 62 < n := by omega
    clear h
    go_enter Tryd.func14, Tryd.ntmps14
    go_wp2
    go_ret
    exact ⟨rfl, rfl⟩

set_option maxHeartbeats 400000 in
theorem shl_any (a n : Int) (w : World) (h0 : 0 ≤ n) (h1 : n ≤ 62) :
    Calls Tryd.prog 14 #[.int .i64 a, .int .i64 n] w fun e w' => e = .returned (.int .i64 (w63 (a * 2 ^ n.toNat))) ∧ w' = w := by
  go_enter Tryd.func14, Tryd.ntmps14
  go_wp2_with (go_at_call 21; refine (wrap_any _ _).mono ?_; rintro e w' ⟨rfl, rfl⟩)
  go_ret
  exact ⟨ret_int (w63_wrap64 _), rfl⟩

set_option maxHeartbeats 400000 in
theorem shr_any (a n : Int) (w : World) (h0 : 0 ≤ n) (h1 : n ≤ 62) :
    Calls Tryd.prog 13 #[.int .i64 a, .int .i64 n] w fun e w' => e = .returned (.int .i64 (w63 a / 2 ^ n.toNat)) ∧ w' = w := by
  go_enter Tryd.func13, Tryd.ntmps13
  go_wp2_with (go_at_call 21; refine (wrap_any _ _).mono ?_; rintro e w' ⟨rfl, rfl⟩)
  go_ret
  exact ⟨rfl, rfl⟩

set_option maxHeartbeats 400000 in
theorem shr_out (a n : Int) (w : World) (h : n < 0 ∨ 62 < n) :
    Calls Tryd.prog 13 #[.int .i64 a, .int .i64 n] w fun e w' => e = .returned (.int .i64 (w63 a / 4611686018427387904)) ∧ w' = w := by
  by_cases h0 : n < 0
  · clear h
    go_enter Tryd.func13, Tryd.ntmps13
    go_wp2_with (go_at_call 21; refine (wrap_any _ _).mono ?_; rintro e w' ⟨rfl, rfl⟩)
    go_ret
    exact ⟨rfl, rfl⟩
  · have h1 : 62 < n := by omega
    clear h
    go_enter Tryd.func13, Tryd.ntmps13
    go_wp2_with (go_at_call 21; refine (wrap_any _ _).mono ?_; rintro e w' ⟨rfl, rfl⟩)
    go_ret
    exact ⟨rfl, rfl⟩

theorem low_eq (n : Nat) (h : n ≤ 64) : IntKind.u64.wrap (IntKind.u64.wrap (2 ^ n) - 1) = ((2 ^ n - 1 : Nat) : Int) := by
  rw [IntKind.wrap_u64, IntKind.wrap_u64]
  have h0 : 0 < 2 ^ n := Nat.two_pow_pos n
  have h2 : 2 ^ n ≤ 2 ^ 64 := Nat.pow_le_pow_right (by decide) h
  have e : (2 : Int) ^ n = ((2 ^ n : Nat) : Int) := by simp
  rw [e]
  generalize 2 ^ n = m at *
  omega

set_option maxHeartbeats 400000 in
theorem low_any (n : Nat) (w : World) (h1 : n ≤ 64) :
    Calls Tryd.prog 45 #[.int .i64 (n : Int)] w fun e w' => e = .returned (.int .u64 ((2 ^ n - 1 : Nat) : Int)) ∧ w' = w := by
  have hl : IntKind.u64.wrap (IntKind.u64.wrap (2 ^ n) - 1) = ((2 ^ n - 1 : Nat) : Int) := low_eq n h1
  have HL := hide hl
  clear hl
  go_enter Tryd.func45, Tryd.ntmps45
  go_wp2
  go_ret
  exact ⟨ret_int (unhide HL), rfl⟩

set_option maxHeartbeats 400000 in
theorem inside_yes (a n : Int) (w : World) (h0 : 0 ≤ a) (h1 : 0 ≤ n) (h2 : a + n ≤ 64) :
    Calls Tryd.prog 44 #[.int .i64 a, .int .i64 n] w fun e w' => e = .returned (.bool true) ∧ w' = w := by
  have h3 : a ≤ 64 - n := by omega
  go_enter Tryd.func44, Tryd.ntmps44
  go_wp2
  go_ret
  exact ⟨by simp, rfl⟩

set_option maxHeartbeats 400000 in
theorem inside_no (a n : Int) (w : World) (hn : n ≤ 9223372036854775807) (h : a < 0 ∨ n < 0 ∨ 64 < a + n) :
    Calls Tryd.prog 44 #[.int .i64 a, .int .i64 n] w fun e w' => e = .returned (.bool false) ∧ w' = w := by
  by_cases h0 : a < 0
  · clear h
    go_enter Tryd.func44, Tryd.ntmps44
    go_wp2
    go_ret
    exact ⟨by simp, rfl⟩
  · by_cases h1 : n < 0
    · clear h
      go_enter Tryd.func44, Tryd.ntmps44
      go_wp2
      go_ret
      exact ⟨by simp, rfl⟩
    · have h3 : ¬ a ≤ 64 - n := by omega
      clear h
      go_enter Tryd.func44, Tryd.ntmps44
      go_wp2
      go_ret
      exact ⟨by simp, rfl⟩

/-- Bits a .. a + n - 1 of x. -/
def fieldN (x a n : Nat) : Nat := x / 2 ^ a % 2 ^ n

theorem field_eq (x a n : Nat) (hx : x < 18446744073709551616) (hn : n ≤ 64) : bits .and .u64 ((x : Int) / 2 ^ a) ((2 ^ n - 1 : Nat) : Int) = (fieldN x a n : Int) := by
  have e : (x : Int) / 2 ^ a = ((x / 2 ^ a : Nat) : Int) := by simp
  have h2 : 2 ^ n ≤ 2 ^ 64 := Nat.pow_le_pow_right (by decide) hn
  have h3 := Nat.div_le_self x (2 ^ a)
  have h4 : 0 < 2 ^ n := Nat.two_pow_pos n
  rw [e, u64_and_nat _ _ (by omega) (by omega), Nat.and_two_pow_sub_one_eq_mod]
  rfl

set_option maxHeartbeats 400000 in
theorem field_any (x a n : Nat) (w : World) (hx : x < 18446744073709551616) (h : a + n ≤ 64) :
    Calls Tryd.prog 17 #[.int .u64 (x : Int), .int .i64 (a : Int), .int .i64 (n : Int)] w fun e w' => e = .returned (.int .u64 (fieldN x a n : Int)) ∧ ∃ k, w' = w.drewN k := by
  have HF := hide (field_eq x a n hx (by omega))
  go_enter Tryd.func17, Tryd.ntmps17
  go_wp2_with (go_at_call 44; refine (inside_yes _ _ _ (by omega) (by omega) (by omega)).mono ?_; rintro e w' ⟨rfl, rfl⟩)
  go_quiet ((go_at_call 45; exact Calls.quiet_of_same (low_any _ _ (by omega))))
  go_wp2
  go_ret
  exact ⟨ret_int (by simpa using unhide HF), _, rfl⟩

set_option maxHeartbeats 400000 in
theorem field_out (x a n : Int) (w : World) (hn : n ≤ 9223372036854775807) (h : a < 0 ∨ n < 0 ∨ 64 < a + n) :
    Calls Tryd.prog 17 #[.int .u64 x, .int .i64 a, .int .i64 n] w fun e w' => e = .returned (.int .u64 0) ∧ w' = w := by
  have H := hide h
  clear h
  go_enter Tryd.func17, Tryd.ntmps17
  go_wp2_with (go_at_call 44; refine (inside_no _ _ _ hn (unhide H)).mono ?_; rintro e w' ⟨rfl, rfl⟩)
  go_ret
  exact ⟨rfl, rfl⟩

set_option maxHeartbeats 400000 in
theorem with_out (x a n v : Int) (w : World) (hn : n ≤ 9223372036854775807) (h : a < 0 ∨ n < 0 ∨ 64 < a + n) :
    Calls Tryd.prog 18 #[.int .u64 x, .int .i64 a, .int .i64 n, .int .u64 v] w fun e w' => e = .returned (.int .u64 x) ∧ w' = w := by
  have H := hide h
  clear h
  go_enter Tryd.func18, Tryd.ntmps18
  go_wp2_with (go_at_call 44; refine (inside_no _ _ _ hn (unhide H)).mono ?_; rintro e w' ⟨rfl, rfl⟩)
  go_ret
  exact ⟨rfl, rfl⟩

/-- x with bits a .. a + n - 1 those of v. -/
def withN (x a n v : Nat) : Nat := (x &&& (18446744073709551615 - (2 ^ n - 1) * 2 ^ a)) ||| (v * 2 ^ a % 18446744073709551616 &&& (2 ^ n - 1) * 2 ^ a)

theorem mask_lt (a n : Nat) (h : a + n ≤ 64) : (2 ^ n - 1) * 2 ^ a < 18446744073709551616 := by
  have h1 : 2 ^ n * 2 ^ a ≤ 2 ^ 64 := by rw [← Nat.pow_add]; exact Nat.pow_le_pow_right (by decide) (by omega)
  have h2 : 0 < 2 ^ a := Nat.two_pow_pos a
  have h3 : 0 < 2 ^ n := Nat.two_pow_pos n
  rw [Nat.sub_mul]
  have h4 : 2 ^ a ≤ 2 ^ n * 2 ^ a := Nat.le_mul_of_pos_left _ h3
  omega

theorem mask_eq (a n : Nat) (h : a + n ≤ 64) : IntKind.u64.wrap (((2 ^ n - 1 : Nat) : Int) * 2 ^ a) = (((2 ^ n - 1) * 2 ^ a : Nat) : Int) := by
  have h0 := mask_lt a n h
  have e : ((2 ^ n - 1 : Nat) : Int) * 2 ^ a = (((2 ^ n - 1) * 2 ^ a : Nat) : Int) := by rw [Int.natCast_mul]; simp
  rw [e, IntKind.wrap_u64]
  generalize (2 ^ n - 1) * 2 ^ a = m at *
  omega

theorem up_eq (v a : Nat) : IntKind.u64.wrap ((v : Int) * 2 ^ a) = ((v * 2 ^ a % 18446744073709551616 : Nat) : Int) := by
  have e : (v : Int) * 2 ^ a = ((v * 2 ^ a : Nat) : Int) := by rw [Int.natCast_mul]; simp
  rw [e, IntKind.wrap_u64]
  generalize v * 2 ^ a = m at *
  omega

theorem with_eq (x a n v m u : Nat) (hx : x < 18446744073709551616) (hm : m = (2 ^ n - 1) * 2 ^ a) (hu : u = v * 2 ^ a % 18446744073709551616) (h : a + n ≤ 64) :
    bits .or .u64 (bits .andNot .u64 (x : Int) (m : Int)) (bits .and .u64 (u : Int) (m : Int)) = (withN x a n v : Int) := by
  have h0 := mask_lt a n h
  have h1 : v * 2 ^ a % 18446744073709551616 < 18446744073709551616 := Nat.mod_lt _ (by decide)
  rw [u64_andNot_nat _ _ hx (by omega), u64_and_nat _ _ (by omega) (by omega), u64_or_nat]
  · subst hm; subst hu; rfl
  · exact Nat.lt_of_le_of_lt Nat.and_le_left hx
  · exact Nat.lt_of_le_of_lt Nat.and_le_left (by omega)

set_option maxHeartbeats 400000 in
theorem with_any (x a n v : Nat) (w : World) (hx : x < 18446744073709551616) (h : a + n ≤ 64) :
    Calls Tryd.prog 18 #[.int .u64 (x : Int), .int .i64 (a : Int), .int .i64 (n : Int), .int .u64 (v : Int)] w fun e w' => e = .returned (.int .u64 (withN x a n v : Int)) ∧ w' = w := by
  obtain ⟨m, hm⟩ : ∃ m, m = (2 ^ n - 1) * 2 ^ a := ⟨_, rfl⟩
  obtain ⟨u, hu⟩ : ∃ u, u = v * 2 ^ a % 18446744073709551616 := ⟨_, rfl⟩
  obtain ⟨l, hl⟩ : ∃ l : Nat, l = 2 ^ n - 1 := ⟨_, rfl⟩
  have HW := hide (with_eq x a n v m u hx hm hu h)
  have e1 : IntKind.u64.wrap ((l : Int) * 2 ^ a) = (m : Int) := by rw [hl, hm]; exact mask_eq a n h
  have e2 : IntKind.u64.wrap ((v : Int) * 2 ^ a) = (u : Int) := by rw [hu]; exact up_eq v a
  have HL : Hid (l = 2 ^ n - 1) := hl
  clear hm hu hl
  go_enter Tryd.func18, Tryd.ntmps18
  go_wp2_with (first | (go_at_call 44; refine (inside_yes _ _ _ (by omega) (by omega) (by omega)).mono ?_; rintro e w' ⟨rfl, rfl⟩) | (go_at_call 45; refine (low_any _ _ (by omega)).mono ?_; rw [← HL.out]; rintro e w' ⟨rfl, rfl⟩))
  go_ret
  exact ⟨ret_int (by exact unhide HW), rfl⟩

end Go.Proofs.YtdlnfmmblcfdoaaDoor
