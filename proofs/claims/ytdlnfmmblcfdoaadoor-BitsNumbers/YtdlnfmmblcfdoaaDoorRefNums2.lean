/- The contracts of the document's own answers on numbers, more (gantlineref1: size, Div, Mod, Shl, Shr). -/
import Derived.Test.YtdlnfmmblcfdoaaDoorRefNums
namespace Go.Proofs.YtdlnfmmblcfdoaaDoor
open Go.RowKit

set_option maxHeartbeats 400000 in
theorem size_pos (n : Nat) (w : World) (h : (n : Int) ≤ 4611686018427387904) :
    Calls Tryd.prog 46 #[.int .i64 (n : Int)] w fun e w' => e = .returned (.int .u64 (n : Int)) ∧ w' = w := by
  go_enter Tryd.func46, Tryd.ntmps46
  go_wp2
  go_ret
  exact ⟨rfl, rfl⟩
set_option maxHeartbeats 400000 in
theorem size_neg (n : Nat) (w : World) (h : (n : Int) ≤ 4611686018427387904) (h0 : (1 : Int) ≤ (n : Int)) :
    Calls Tryd.prog 46 #[.int .i64 (-(n : Int))] w fun e w' => e = .returned (.int .u64 (n : Int)) ∧ w' = w := by
  go_enter Tryd.func46, Tryd.ntmps46
  go_wp2
  go_ret
  exact ⟨rfl, rfl⟩

set_option maxHeartbeats 400000 in
theorem rdiv_zero (a b : Int) (w : World) (h : w63 b = 0) :
    Calls Tryd.prog 19 #[.int .i64 a, .int .i64 b] w fun e w' => e = .returned (.tuple #[.int .i64 0, .bool false]) ∧ w' = w := by
  go_enter Tryd.func19, Tryd.ntmps19
  go_wp2_with (go_at_call 22; refine (rwrap_any _ _).mono ?_; rintro e w' ⟨rfl, rfl⟩)
  go_ret2
  exact ⟨rfl, rfl⟩
set_option maxHeartbeats 400000 in
theorem rmod_zero (a b : Int) (w : World) (h : w63 b = 0) :
    Calls Tryd.prog 20 #[.int .i64 a, .int .i64 b] w fun e w' => e = .returned (.tuple #[.int .i64 0, .bool false]) ∧ w' = w := by
  go_enter Tryd.func20, Tryd.ntmps20
  go_wp2_with (go_at_call 22; refine (rwrap_any _ _).mono ?_; rintro e w' ⟨rfl, rfl⟩)
  go_ret2
  exact ⟨rfl, rfl⟩

theorem u64_small (q : Nat) (h : (q : Int) ≤ 4611686018427387904) : IntKind.u64.wrap (q : Int) = (q : Int) := by rw [IntKind.wrap_u64]; omega
theorem div_small (m n : Nat) (hm : (m : Int) ≤ 4611686018427387904) : ((m / n : Nat) : Int) ≤ 4611686018427387904 := by
  have := Nat.div_le_self m n; omega
theorem mod_small (m n : Nat) (hm : (m : Int) ≤ 4611686018427387904) : ((m % n : Nat) : Int) ≤ 4611686018427387904 := by
  have := Nat.mod_le m n; omega

set_option maxHeartbeats 400000 in
theorem rdiv_pp (a b : Int) (m n q : Nat) (w : World) (ha : w63 a = (m : Int)) (hb : w63 b = (n : Int)) (hm : (m : Int) ≤ 4611686018427387904) (hn : (n : Int) ≤ 4611686018427387904) (hn0 : (1 : Int) ≤ (n : Int)) (e1 : IntKind.u64.wrap ((m : Int) / (n : Int)) = (q : Int)) (hq : (q : Int) ≤ 4611686018427387904) :
    Calls Tryd.prog 19 #[.int .i64 a, .int .i64 b] w fun e w' => e = .returned (.tuple #[.int .i64 (w63 ((q : Int))), .bool true]) ∧ w' = w := by
  have hb0 : ((n : Int) == 0) = false := beq_eq_false_iff_ne.2 (by omega)
  have dm : decide ((m : Int) < 0) = false := decide_eq_false (by omega)
  have dn : decide ((n : Int) < 0) = false := decide_eq_false (by omega)
  go_enter Tryd.func19, Tryd.ntmps19
  go_wp2_with (go_at_call 22; refine (rwrap_any _ _).mono ?_; rintro e w' ⟨rfl, rfl⟩)
  refine (size_pos _ _ (by omega)).mono ?_
  rintro e w' ⟨rfl, rfl⟩
  go_wp2_with fail
  refine (size_pos _ _ (by omega)).mono ?_
  rintro e w' ⟨rfl, rfl⟩
  go_wp2_with (go_at_call 22; refine (rwrap_any _ _).mono ?_; rintro e w' ⟨rfl, rfl⟩)
  go_ret2
  exact ⟨rfl, rfl⟩

set_option maxHeartbeats 400000 in
theorem rdiv_pn (a b : Int) (m n q : Nat) (w : World) (ha : w63 a = (m : Int)) (hb : w63 b = -(n : Int)) (hm : (m : Int) ≤ 4611686018427387904) (hn : (n : Int) ≤ 4611686018427387904) (hn0 : (1 : Int) ≤ (n : Int)) (e1 : IntKind.u64.wrap ((m : Int) / (n : Int)) = (q : Int)) (hq : (q : Int) ≤ 4611686018427387904) :
    Calls Tryd.prog 19 #[.int .i64 a, .int .i64 b] w fun e w' => e = .returned (.tuple #[.int .i64 (w63 (-(q : Int))), .bool true]) ∧ w' = w := by
  have hb0 : (-(n : Int) == 0) = false := beq_eq_false_iff_ne.2 (by omega)
  have dm : decide ((m : Int) < 0) = false := decide_eq_false (by omega)
  have dn : decide (0 < n) = true := decide_eq_true (by omega)
  go_enter Tryd.func19, Tryd.ntmps19
  go_wp2_with (go_at_call 22; refine (rwrap_any _ _).mono ?_; rintro e w' ⟨rfl, rfl⟩)
  refine (size_pos _ _ (by omega)).mono ?_
  rintro e w' ⟨rfl, rfl⟩
  go_wp2_with fail
  refine (size_neg _ _ (by omega) (by omega)).mono ?_
  rintro e w' ⟨rfl, rfl⟩
  go_wp2_with (go_at_call 22; refine (rwrap_any _ _).mono ?_; rintro e w' ⟨rfl, rfl⟩)
  go_ret2
  exact ⟨rfl, rfl⟩

set_option maxHeartbeats 400000 in
theorem rdiv_np (a b : Int) (m n q : Nat) (w : World) (ha : w63 a = -(m : Int)) (hb : w63 b = (n : Int)) (hm : (m : Int) ≤ 4611686018427387904) (hn : (n : Int) ≤ 4611686018427387904) (hm0 : (1 : Int) ≤ (m : Int)) (hn0 : (1 : Int) ≤ (n : Int)) (e1 : IntKind.u64.wrap ((m : Int) / (n : Int)) = (q : Int)) (hq : (q : Int) ≤ 4611686018427387904) :
    Calls Tryd.prog 19 #[.int .i64 a, .int .i64 b] w fun e w' => e = .returned (.tuple #[.int .i64 (w63 (-(q : Int))), .bool true]) ∧ w' = w := by
  have hb0 : ((n : Int) == 0) = false := beq_eq_false_iff_ne.2 (by omega)
  have dm : decide (0 < m) = true := decide_eq_true (by omega)
  have dn : decide ((n : Int) < 0) = false := decide_eq_false (by omega)
  go_enter Tryd.func19, Tryd.ntmps19
  go_wp2_with (go_at_call 22; refine (rwrap_any _ _).mono ?_; rintro e w' ⟨rfl, rfl⟩)
  refine (size_neg _ _ (by omega) (by omega)).mono ?_
  rintro e w' ⟨rfl, rfl⟩
  go_wp2_with fail
  refine (size_pos _ _ (by omega)).mono ?_
  rintro e w' ⟨rfl, rfl⟩
  go_wp2_with (go_at_call 22; refine (rwrap_any _ _).mono ?_; rintro e w' ⟨rfl, rfl⟩)
  go_ret2
  exact ⟨rfl, rfl⟩

set_option maxHeartbeats 400000 in
theorem rdiv_nn (a b : Int) (m n q : Nat) (w : World) (ha : w63 a = -(m : Int)) (hb : w63 b = -(n : Int)) (hm : (m : Int) ≤ 4611686018427387904) (hn : (n : Int) ≤ 4611686018427387904) (hm0 : (1 : Int) ≤ (m : Int)) (hn0 : (1 : Int) ≤ (n : Int)) (e1 : IntKind.u64.wrap ((m : Int) / (n : Int)) = (q : Int)) (hq : (q : Int) ≤ 4611686018427387904) :
    Calls Tryd.prog 19 #[.int .i64 a, .int .i64 b] w fun e w' => e = .returned (.tuple #[.int .i64 (w63 ((q : Int))), .bool true]) ∧ w' = w := by
  have hb0 : (-(n : Int) == 0) = false := beq_eq_false_iff_ne.2 (by omega)
  have dm : decide (0 < m) = true := decide_eq_true (by omega)
  have dn : decide (0 < n) = true := decide_eq_true (by omega)
  go_enter Tryd.func19, Tryd.ntmps19
  go_wp2_with (go_at_call 22; refine (rwrap_any _ _).mono ?_; rintro e w' ⟨rfl, rfl⟩)
  refine (size_neg _ _ (by omega) (by omega)).mono ?_
  rintro e w' ⟨rfl, rfl⟩
  go_wp2_with fail
  refine (size_neg _ _ (by omega) (by omega)).mono ?_
  rintro e w' ⟨rfl, rfl⟩
  go_wp2_with (go_at_call 22; refine (rwrap_any _ _).mono ?_; rintro e w' ⟨rfl, rfl⟩)
  go_ret2
  exact ⟨rfl, rfl⟩

set_option maxHeartbeats 400000 in
theorem rmod_pp (a b : Int) (m n q : Nat) (w : World) (ha : w63 a = (m : Int)) (hb : w63 b = (n : Int)) (hm : (m : Int) ≤ 4611686018427387904) (hn : (n : Int) ≤ 4611686018427387904) (hn0 : (1 : Int) ≤ (n : Int)) (e1 : (m : Int) % (n : Int) = (q : Int)) (hq : (q : Int) ≤ 4611686018427387904) :
    Calls Tryd.prog 20 #[.int .i64 a, .int .i64 b] w fun e w' => e = .returned (.tuple #[.int .i64 ((q : Int)), .bool true]) ∧ w' = w := by
  have hb0 : ((n : Int) == 0) = false := beq_eq_false_iff_ne.2 (by omega)
  have dm : decide ((m : Int) < 0) = false := decide_eq_false (by omega)
  go_enter Tryd.func20, Tryd.ntmps20
  go_wp2_with (go_at_call 22; refine (rwrap_any _ _).mono ?_; rintro e w' ⟨rfl, rfl⟩)
  refine (size_pos _ _ (by omega)).mono ?_
  rintro e w' ⟨rfl, rfl⟩
  go_wp2_with fail
  refine (size_pos _ _ (by omega)).mono ?_
  rintro e w' ⟨rfl, rfl⟩
  go_wp2_with (go_at_call 22; refine (rwrap_any _ _).mono ?_; rintro e w' ⟨rfl, rfl⟩)
  go_ret2
  exact ⟨rfl, rfl⟩

set_option maxHeartbeats 400000 in
theorem rmod_pn (a b : Int) (m n q : Nat) (w : World) (ha : w63 a = (m : Int)) (hb : w63 b = -(n : Int)) (hm : (m : Int) ≤ 4611686018427387904) (hn : (n : Int) ≤ 4611686018427387904) (hn0 : (1 : Int) ≤ (n : Int)) (e1 : (m : Int) % (n : Int) = (q : Int)) (hq : (q : Int) ≤ 4611686018427387904) :
    Calls Tryd.prog 20 #[.int .i64 a, .int .i64 b] w fun e w' => e = .returned (.tuple #[.int .i64 ((q : Int)), .bool true]) ∧ w' = w := by
  have hb0 : (-(n : Int) == 0) = false := beq_eq_false_iff_ne.2 (by omega)
  have dm : decide ((m : Int) < 0) = false := decide_eq_false (by omega)
  go_enter Tryd.func20, Tryd.ntmps20
  go_wp2_with (go_at_call 22; refine (rwrap_any _ _).mono ?_; rintro e w' ⟨rfl, rfl⟩)
  refine (size_pos _ _ (by omega)).mono ?_
  rintro e w' ⟨rfl, rfl⟩
  go_wp2_with fail
  refine (size_neg _ _ (by omega) (by omega)).mono ?_
  rintro e w' ⟨rfl, rfl⟩
  go_wp2_with (go_at_call 22; refine (rwrap_any _ _).mono ?_; rintro e w' ⟨rfl, rfl⟩)
  go_ret2
  exact ⟨rfl, rfl⟩

set_option maxHeartbeats 400000 in
theorem rmod_np (a b : Int) (m n q : Nat) (w : World) (ha : w63 a = -(m : Int)) (hb : w63 b = (n : Int)) (hm : (m : Int) ≤ 4611686018427387904) (hn : (n : Int) ≤ 4611686018427387904) (hm0 : (1 : Int) ≤ (m : Int)) (hn0 : (1 : Int) ≤ (n : Int)) (e1 : (m : Int) % (n : Int) = (q : Int)) (hq : (q : Int) ≤ 4611686018427387904) :
    Calls Tryd.prog 20 #[.int .i64 a, .int .i64 b] w fun e w' => e = .returned (.tuple #[.int .i64 (-(q : Int)), .bool true]) ∧ w' = w := by
  have hb0 : ((n : Int) == 0) = false := beq_eq_false_iff_ne.2 (by omega)
  have dm : decide (0 < m) = true := decide_eq_true (by omega)
  go_enter Tryd.func20, Tryd.ntmps20
  go_wp2_with (go_at_call 22; refine (rwrap_any _ _).mono ?_; rintro e w' ⟨rfl, rfl⟩)
  refine (size_neg _ _ (by omega) (by omega)).mono ?_
  rintro e w' ⟨rfl, rfl⟩
  go_wp2_with fail
  refine (size_pos _ _ (by omega)).mono ?_
  rintro e w' ⟨rfl, rfl⟩
  go_wp2_with (go_at_call 22; refine (rwrap_any _ _).mono ?_; rintro e w' ⟨rfl, rfl⟩)
  go_ret2
  exact ⟨rfl, rfl⟩

set_option maxHeartbeats 400000 in
theorem rmod_nn (a b : Int) (m n q : Nat) (w : World) (ha : w63 a = -(m : Int)) (hb : w63 b = -(n : Int)) (hm : (m : Int) ≤ 4611686018427387904) (hn : (n : Int) ≤ 4611686018427387904) (hm0 : (1 : Int) ≤ (m : Int)) (hn0 : (1 : Int) ≤ (n : Int)) (e1 : (m : Int) % (n : Int) = (q : Int)) (hq : (q : Int) ≤ 4611686018427387904) :
    Calls Tryd.prog 20 #[.int .i64 a, .int .i64 b] w fun e w' => e = .returned (.tuple #[.int .i64 (-(q : Int)), .bool true]) ∧ w' = w := by
  have hb0 : (-(n : Int) == 0) = false := beq_eq_false_iff_ne.2 (by omega)
  have dm : decide (0 < m) = true := decide_eq_true (by omega)
  go_enter Tryd.func20, Tryd.ntmps20
  go_wp2_with (go_at_call 22; refine (rwrap_any _ _).mono ?_; rintro e w' ⟨rfl, rfl⟩)
  refine (size_neg _ _ (by omega) (by omega)).mono ?_
  rintro e w' ⟨rfl, rfl⟩
  go_wp2_with fail
  refine (size_neg _ _ (by omega) (by omega)).mono ?_
  rintro e w' ⟨rfl, rfl⟩
  go_wp2_with (go_at_call 22; refine (rwrap_any _ _).mono ?_; rintro e w' ⟨rfl, rfl⟩)
  go_ret2
  exact ⟨rfl, rfl⟩

theorem int_sign (x : Int) (h0 : -4611686018427387904 ≤ x) (h1 : x ≤ 4611686018427387903) : (∃ m : Nat, x = (m : Int) ∧ (m : Int) ≤ 4611686018427387904) ∨ ∃ m : Nat, x = -(m : Int) ∧ (m : Int) ≤ 4611686018427387904 ∧ (1 : Int) ≤ (m : Int) := by
  by_cases h : 0 ≤ x
  · obtain ⟨m, rfl⟩ := Int.eq_ofNat_of_zero_le h; exact Or.inl ⟨m, rfl, by omega⟩
  · exact Or.inr ⟨(-x).toNat, by omega, by omega, by omega⟩

theorem rdiv_any (a b : Int) (w : World) (h : ¬ w63 b = 0) :
    Calls Tryd.prog 19 #[.int .i64 a, .int .i64 b] w fun e w' => e = .returned (.tuple #[.int .i64 (w63 ((w63 a).tdiv (w63 b))), .bool true]) ∧ w' = w := by
  rcases int_sign (w63 a) (w63_bd a).1 (w63_bd a).2 with ⟨m, ha, hm⟩ | ⟨m, ha, hm, hm0⟩ <;> rcases int_sign (w63 b) (w63_bd b).1 (w63_bd b).2 with ⟨n, hb, hn⟩ | ⟨n, hb, hn, hn0⟩
  all_goals
    have e1 : IntKind.u64.wrap ((m : Int) / (n : Int)) = ((m / n : Nat) : Int) := by rw [← Int.natCast_ediv]; exact u64_small _ (div_small m n hm)
  · have e : (w63 a).tdiv (w63 b) = ((m / n : Nat) : Int) := by rw [ha, hb]; rfl
    rw [e]
    exact rdiv_pp a b m n _ w ha hb hm hn (by omega) e1 (div_small m n hm)
  · have e : (w63 a).tdiv (w63 b) = -((m / n : Nat) : Int) := by rw [ha, hb, Int.tdiv_neg]; rfl
    rw [e]
    exact rdiv_pn a b m n _ w ha hb hm hn (by omega) e1 (div_small m n hm)
  · have e : (w63 a).tdiv (w63 b) = -((m / n : Nat) : Int) := by rw [ha, hb, Int.neg_tdiv]; rfl
    rw [e]
    exact rdiv_np a b m n _ w ha hb hm hn hm0 (by omega) e1 (div_small m n hm)
  · have e : (w63 a).tdiv (w63 b) = ((m / n : Nat) : Int) := by rw [ha, hb, Int.neg_tdiv, Int.tdiv_neg, Int.neg_neg]; rfl
    rw [e]
    exact rdiv_nn a b m n _ w ha hb hm hn hm0 (by omega) e1 (div_small m n hm)

theorem rmod_any (a b : Int) (w : World) (h : ¬ w63 b = 0) :
    Calls Tryd.prog 20 #[.int .i64 a, .int .i64 b] w fun e w' => e = .returned (.tuple #[.int .i64 ((w63 a).tmod (w63 b)), .bool true]) ∧ w' = w := by
  rcases int_sign (w63 a) (w63_bd a).1 (w63_bd a).2 with ⟨m, ha, hm⟩ | ⟨m, ha, hm, hm0⟩ <;> rcases int_sign (w63 b) (w63_bd b).1 (w63_bd b).2 with ⟨n, hb, hn⟩ | ⟨n, hb, hn, hn0⟩
  all_goals
    have e1 : (m : Int) % (n : Int) = ((m % n : Nat) : Int) := (Int.natCast_emod m n).symm
  · have e : (w63 a).tmod (w63 b) = ((m % n : Nat) : Int) := by rw [ha, hb]; rfl
    rw [e]
    exact rmod_pp a b m n _ w ha hb hm hn (by omega) e1 (mod_small m n hm)
  · have e : (w63 a).tmod (w63 b) = ((m % n : Nat) : Int) := by rw [ha, hb, Int.tmod_neg]; rfl
    rw [e]
    exact rmod_pn a b m n _ w ha hb hm hn (by omega) e1 (mod_small m n hm)
  · have e : (w63 a).tmod (w63 b) = -((m % n : Nat) : Int) := by rw [ha, hb, Int.neg_tmod]; rfl
    rw [e]
    exact rmod_np a b m n _ w ha hb hm hn hm0 (by omega) e1 (mod_small m n hm)
  · have e : (w63 a).tmod (w63 b) = -((m % n : Nat) : Int) := by rw [ha, hb, Int.neg_tmod, Int.tmod_neg]; rfl
    rw [e]
    exact rmod_nn a b m n _ w ha hb hm hn hm0 (by omega) e1 (mod_small m n hm)

/-! ### Shl, Shr: one by one -/
def upK (a : Int) (k : Nat) : Int := w63 (a * 2 ^ k)
theorem upK_zero (a : Int) : upK a 0 = w63 a := by unfold upK; simp
theorem upK_succ (a : Int) (k : Nat) : w63 (wrap64 (upK a k + upK a k)) = upK a (k + 1) := by
  unfold upK
  rw [Int.pow_succ]
  have e3 : a * (2 ^ k * 2) = 2 * (a * 2 ^ k) := by rw [← Int.mul_assoc]; omega
  rw [e3]
  generalize a * 2 ^ k = x
  unfold w63 wrap64; omega

set_option maxHeartbeats 400000 in
theorem rshl_any (a : Int) (n : Nat) (w : World) (h1 : n ≤ 62) :
    Calls Tryd.prog 29 #[.int .i64 a, .int .i64 (n : Int)] w fun e w' => e = .returned (.int .i64 (upK a n)) ∧ w' = w := by
  go_enter Tryd.func29, Tryd.ntmps29
  go_wp2_with (go_at_call 22; refine (rwrap_any _ _).mono ?_; rintro e w' ⟨rfl, rfl⟩)
  go_loop [0, 5] (fun u i => ∃ k : Nat, k ≤ n ∧ i = .int .i64 k ∧ u = .int .i64 (upK a k)) (fun _ i => n - (intOf i).toNat)
  case atStart => exact ⟨0, Nat.zero_le _, rfl, by rw [upK_zero]⟩
  case round =>
    obtain ⟨k, hk, rfl, rfl⟩ := hrel
    by_cases hlt : k < n
    · have HS := hide (upK_succ a k)
      go_wp2_with (go_at_call 22; refine (rwrap_any _ _).mono ?_; rintro e w' ⟨rfl, rfl⟩)
      go_round
      case rel => exact ⟨k + 1, by omega, by go_num, by exact congrArg (Value.int .i64) (unhide HS)⟩
      case measure => simp [intOf]; omega
    · obtain rfl : k = n := by omega
      go_wp2
      go_ret
      exact ⟨rfl, rfl⟩

set_option maxHeartbeats 400000 in
theorem rshl_out (a n : Int) (w : World) (h : n < 0 ∨ 62 < n) :
    Calls Tryd.prog 29 #[.int .i64 a, .int .i64 n] w fun e w' => e = .returned (.int .i64 0) ∧ w' = w := by
  by_cases h0 : n < 0
  · clear h
    go_enter Tryd.func29, Tryd.ntmps29
    go_wp2
    go_ret
    exact ⟨rfl, rfl⟩
  · have h1 : 62 < n := by omega
    clear h
    go_enter Tryd.func29, Tryd.ntmps29
    go_wp2
    go_ret
    exact ⟨rfl, rfl⟩

def dnK (a : Int) (k : Nat) : Int := w63 a / 2 ^ k
theorem dnK_zero (a : Int) : dnK a 0 = w63 a := by unfold dnK; simp
theorem dnK_succ (a : Int) (k : Nat) : dnK a (k + 1) = dnK a k / 2 := by
  unfold dnK
  rw [Int.pow_succ, ← Int.ediv_ediv_of_nonneg (Int.pow_nonneg (by decide))]
theorem dnK_bd (a : Int) : ∀ k, -4611686018427387904 ≤ dnK a k ∧ dnK a k ≤ 4611686018427387903
  | 0 => by rw [dnK_zero]; exact w63_bd a
  | k + 1 => by have := dnK_bd a k; rw [dnK_succ]; omega

theorem half_neg (x : Int) (h : x < 0) : x.tdiv 2 = -((-x) / 2) ∧ x.tmod 2 = -((-x) % 2) := by
  obtain ⟨m, rfl⟩ : ∃ m : Nat, x = -(m : Int) := ⟨(-x).toNat, by omega⟩
  rw [Int.neg_tdiv, Int.neg_tmod, Int.neg_neg, Int.tdiv_eq_ediv_of_nonneg (by omega), Int.tmod_eq_emod_of_nonneg (by omega)]
  exact ⟨rfl, rfl⟩
theorem half1 (x : Int) (h0 : -4611686018427387904 ≤ x) (h : x < 0) (h2 : (x.tmod 2 != 0) = true) : wrap64 (x.tdiv 2 - 1) = x / 2 := by
  have e := half_neg x h
  have h3 : ¬ x.tmod 2 = 0 := by simpa using h2
  rw [e.1]; rw [e.2] at h3
  unfold wrap64; omega
theorem half2 (x : Int) (h : x < 0) (h2 : (x.tmod 2 != 0) = false) : x.tdiv 2 = x / 2 := by
  have e := half_neg x h
  have h3 : x.tmod 2 = 0 := by simpa using h2
  rw [e.1]; rw [e.2] at h3
  omega
theorem half3 (x : Int) (h : ¬ x < 0) : x.tdiv 2 = x / 2 := Int.tdiv_eq_ediv_of_nonneg (by omega)

theorem dn62 (a : Int) : -1 ≤ dnK a 62 := by
  unfold dnK
  have := (w63_bd a).1
  rw [show (2 : Int) ^ 62 = 4611686018427387904 from rfl]; omega

set_option maxHeartbeats 600000 in
theorem rshr_any (a : Int) (n : Nat) (w : World) (h1 : n ≤ 62) :
    Calls Tryd.prog 30 #[.int .i64 a, .int .i64 (n : Int)] w fun e w' => e = .returned (.int .i64 (dnK a n)) ∧ w' = w := by
  go_enter Tryd.func30, Tryd.ntmps30
  go_wp2_with (go_at_call 22; refine (rwrap_any _ _).mono ?_; rintro e w' ⟨rfl, rfl⟩)
  go_loop [0, 5] (fun u i => ∃ k : Nat, k ≤ n ∧ i = .int .i64 k ∧ u = .int .i64 (dnK a k)) (fun _ i => n - (intOf i).toNat)
  case atStart => exact ⟨0, Nat.zero_le _, rfl, by rw [dnK_zero]⟩
  case round =>
    obtain ⟨k, hk, rfl, rfl⟩ := hrel
    have hb := dnK_bd a k
    by_cases hlt : k < n
    · have HS := hide (dnK_succ a k)
      go_wp2
      · go_round
        case rel => exact ⟨k + 1, by omega, by go_num, by rw [unhide HS]; exact congrArg (Value.int .i64) (half1 _ hb.1 ‹_› ‹_›)⟩
        case measure => simp [intOf]; omega
      · go_round
        case rel => exact ⟨k + 1, by omega, by go_num, by rw [unhide HS]; exact congrArg (Value.int .i64) (half2 _ ‹_› ‹_›)⟩
        case measure => simp [intOf]; omega
      · go_round
        case rel => exact ⟨k + 1, by omega, by go_num, by rw [unhide HS]; exact congrArg (Value.int .i64) (half3 _ ‹_›)⟩
        case measure => simp [intOf]; omega
    · obtain rfl : k = n := by omega
      by_cases h62 : k = 62
      · subst h62
        have hl := dn62 a
        go_wp2
        go_ret
        exact ⟨rfl, rfl⟩
      · have h63 : ((k : Int) == 62) = false := beq_eq_false_iff_ne.2 (by omega)
        go_wp2
        go_ret
        exact ⟨rfl, rfl⟩

set_option maxHeartbeats 600000 in
theorem rshr_outneg (a n : Int) (w : World) (h : n < 0 ∨ 62 < n) (hneg : w63 a < 0) :
    Calls Tryd.prog 30 #[.int .i64 a, .int .i64 n] w fun e w' => e = .returned (.int .i64 (dnK a 62)) ∧ w' = w := by
  rcases h with h | h
  all_goals
    try have h' : ¬ n < 0 := by omega
    go_enter Tryd.func30, Tryd.ntmps30
    go_wp2_with (go_at_call 22; refine (rwrap_any _ _).mono ?_; rintro e w' ⟨rfl, rfl⟩)
    go_loop [0, 5] (fun u i => ∃ k : Nat, k ≤ 62 ∧ i = .int .i64 k ∧ u = .int .i64 (dnK a k)) (fun _ i => 62 - (intOf i).toNat)
    case atStart => exact ⟨0, Nat.zero_le _, rfl, by rw [dnK_zero]⟩
    case round =>
      obtain ⟨k, hk, rfl, rfl⟩ := hrel
      have hb := dnK_bd a k
      by_cases hlt : k < 62
      · have HS := hide (dnK_succ a k)
        go_wp2
        · go_round
          case rel => exact ⟨k + 1, by omega, by go_num, by rw [unhide HS]; exact congrArg (Value.int .i64) (half1 _ hb.1 ‹_› ‹_›)⟩
          case measure => simp [intOf]; omega
        · go_round
          case rel => exact ⟨k + 1, by omega, by go_num, by rw [unhide HS]; exact congrArg (Value.int .i64) (half2 _ ‹_› ‹_›)⟩
          case measure => simp [intOf]; omega
        · go_round
          case rel => exact ⟨k + 1, by omega, by go_num, by rw [unhide HS]; exact congrArg (Value.int .i64) (half3 _ ‹_›)⟩
          case measure => simp [intOf]; omega
      · obtain rfl : k = 62 := by omega
        have hl := dn62 a
        go_wp2
        go_ret
        exact ⟨rfl, rfl⟩

set_option maxHeartbeats 400000 in
theorem rshr_outpos (a n : Int) (w : World) (h : n < 0 ∨ 62 < n) (hpos : 0 ≤ w63 a) :
    Calls Tryd.prog 30 #[.int .i64 a, .int .i64 n] w fun e w' => e = .returned (.int .i64 0) ∧ w' = w := by
  rcases h with h | h
  all_goals
    try have h' : ¬ n < 0 := by omega
    go_enter Tryd.func30, Tryd.ntmps30
    go_wp2_with (go_at_call 22; refine (rwrap_any _ _).mono ?_; rintro e w' ⟨rfl, rfl⟩)
    go_ret
    exact ⟨rfl, rfl⟩

theorem rshr_out (a n : Int) (w : World) (h : n < 0 ∨ 62 < n) :
    Calls Tryd.prog 30 #[.int .i64 a, .int .i64 n] w fun e w' => e = .returned (.int .i64 (dnK a 62)) ∧ w' = w := by
  by_cases hs : w63 a < 0
  · exact rshr_outneg a n w h hs
  · have e : dnK a 62 = 0 := by
      unfold dnK
      have := (w63_bd a).2
      rw [show (2 : Int) ^ 62 = 4611686018427387904 from rfl]; omega
    rw [e]; exact rshr_outpos a n w h (by omega)
end Go.Proofs.YtdlnfmmblcfdoaaDoor
