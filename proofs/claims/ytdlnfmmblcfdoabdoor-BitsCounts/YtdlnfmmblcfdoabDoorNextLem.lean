/- PLAIN: what 'the next bit that is 1' is; no Go in it but the names of Leaf2. -/
import Derived.Test.YtdlnfmmblcfdoabDoorLeaf2
namespace Go.Proofs.YtdlnfmmblcfdoabDoor
open Go.RowKit

theorem ctz_of (y k : Nat) (hy : y < 18446744073709551616) (hk : y.testBit k = true) (hl : ∀ j, j < k → y.testBit j = false) : Lib.ctz 64 y = k := by
  have h0 : y ≠ 0 := by intro h; subst h; simp at hk
  obtain ⟨m, hm, hc⟩ := Lib.ctzFrom_spec 64 y (by omega) hy
  have e : Lib.ctz 64 y = Lib.ctzFrom 64 y := by simp [Lib.ctz, h0]
  rw [e]
  generalize Lib.ctzFrom 64 y = c at *
  have hb : ∀ i, y.testBit i = (decide (c ≤ i) && (2 * m + 1).testBit (i - c)) := fun i => by rw [hm, Nat.mul_comm, Nat.testBit_mul_two_pow]
  rcases Nat.lt_trichotomy c k with h | h | h
  · have := hl c h
    rw [hb c] at this
    simp [Nat.testBit_zero] at this
  · exact h
  · rw [hb k] at hk
    simp [show ¬ c ≤ k by omega] at hk

theorem ctz_none : Lib.ctz 64 0 = 64 := rfl

theorem ctz_le (y : Nat) (hy : y < 18446744073709551616) : Lib.ctz 64 y ≤ 64 := by
  by_cases h0 : y = 0
  · subst h0; exact Nat.le_refl _
  · have := (Lib.lowest_bit 64 y h0 hy).2; omega

theorem down_up_bit (x f i : Nat) (hx : x < 18446744073709551616) : (x / 2 ^ min f 64 * 2 ^ min f 64).testBit i = (decide (f ≤ i) && x.testBit i) := by
  rw [Nat.testBit_mul_two_pow, Nat.testBit_div_two_pow]
  by_cases h : f ≤ i
  · by_cases h6 : f ≤ 64
    · rw [Nat.min_eq_left h6]
      simp [h, Nat.sub_add_cancel h]
    · have : x.testBit i = false := Nat.testBit_lt_two_pow (Nat.lt_of_lt_of_le hx (show 2 ^ 64 ≤ 2 ^ i from Nat.pow_le_pow_right (by decide) (by omega)))
      rw [Nat.min_eq_right (by omega)]
      simp [h, this, Nat.sub_add_cancel (show 64 ≤ i by omega)]
  · by_cases h6 : f ≤ 64
    · rw [Nat.min_eq_left h6]
      simp [h]
    · rw [Nat.min_eq_right (by omega)]
      by_cases h7 : 64 ≤ i
      · have : x.testBit i = false := Nat.testBit_lt_two_pow (Nat.lt_of_lt_of_le hx (show 2 ^ 64 ≤ 2 ^ i from Nat.pow_le_pow_right (by decide) (by omega)))
        simp [h7, this, Nat.sub_add_cancel h7]
      · simp [h7, h]

theorem next_hit (x f k : Nat) (hx : x < 18446744073709551616) (hf : f ≤ k) (hb : x.testBit k = true) (hl : ∀ j, f ≤ j → j < k → x.testBit j = false) : nextN x f = k := by
  unfold nextN
  refine ctz_of _ k (down_up x _ hx) (by rw [down_up_bit x f k hx]; simp [hf, hb]) (fun j hj => ?_)
  rw [down_up_bit x f j hx]
  by_cases h : f ≤ j
  · simp [h, hl j h hj]
  · simp [h]

theorem next_miss (x f : Nat) (hx : x < 18446744073709551616) (hl : ∀ j, f ≤ j → j < 64 → x.testBit j = false) : nextN x f = 64 := by
  unfold nextN
  have : x / 2 ^ min f 64 * 2 ^ min f 64 = 0 := by
    apply Nat.eq_of_testBit_eq
    intro i
    rw [down_up_bit x f i hx, Nat.zero_testBit]
    by_cases h : f ≤ i
    · by_cases h6 : i < 64
      · simp [hl i h h6]
      · have : x.testBit i = false := Nat.testBit_lt_two_pow (Nat.lt_of_lt_of_le hx (show 2 ^ 64 ≤ 2 ^ i from Nat.pow_le_pow_right (by decide) (by omega)))
        simp [this]
    · simp [h]
  rw [this, ctz_none]

/-- What nextN is: 64 and no bit, or the first bit from f on. -/
theorem next_spec (x f : Nat) (hx : x < 18446744073709551616) : (nextN x f = 64 ∧ ∀ j, f ≤ j → x.testBit j = false) ∨ (nextN x f < 64 ∧ f ≤ nextN x f ∧ x.testBit (nextN x f) = true ∧ ∀ j, f ≤ j → j < nextN x f → x.testBit j = false) := by
  by_cases hz : x / 2 ^ min f 64 * 2 ^ min f 64 = 0
  · left
    refine ⟨by unfold nextN; rw [hz]; rfl, fun j hj => ?_⟩
    have := down_up_bit x f j hx
    rw [hz, Nat.zero_testBit] at this
    simpa [hj] using this.symm
  · right
    have hy := down_up x (min f 64) hx
    obtain ⟨m, hm, hc⟩ := Lib.ctzFrom_spec 64 _ (by omega) hy
    have e : nextN x f = Lib.ctzFrom 64 (x / 2 ^ min f 64 * 2 ^ min f 64) := by simp [nextN, Lib.ctz, hz]
    have hb : ∀ i, (x / 2 ^ min f 64 * 2 ^ min f 64).testBit i = (decide (nextN x f ≤ i) && (2 * m + 1).testBit (i - nextN x f)) := fun i => by rw [e]; rw (occs := .pos [1]) [hm]; rw [Nat.mul_comm, Nat.testBit_mul_two_pow]
    have h1 := hb (nextN x f)
    rw [down_up_bit x f _ hx] at h1
    simp [Nat.testBit_zero] at h1
    refine ⟨by omega, h1.1, h1.2, fun j hj hlt => ?_⟩
    have h2 := hb j
    rw [down_up_bit x f _ hx] at h2
    simpa [hj, show ¬ nextN x f ≤ j by omega] using h2
end Go.Proofs.YtdlnfmmblcfdoabDoor
