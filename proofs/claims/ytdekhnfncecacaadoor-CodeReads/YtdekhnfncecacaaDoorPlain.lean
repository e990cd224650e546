/- PLAIN ARITHMETIC: numbers of 63 bits; no Go in it. -/
import Derived.Test.YtdekhnfncecacaaDoorHidT
import Derived.WalkKit
namespace Go.Proofs.YtdekhnfncecacaaDoor
set_option maxRecDepth 100000
open Go.RowKit


/-- The number of 63 bits that is v modulo 2^63. -/
def w63 (v : Int) : Int := (v + 4611686018427387904) % 9223372036854775808 - 4611686018427387904

theorem w63_bd (v : Int) : -4611686018427387904 ≤ w63 v ∧ w63 v ≤ 4611686018427387903 := by unfold w63; omega
theorem w63_wrap64 (v : Int) : w63 (wrap64 v) = w63 v := by unfold w63 wrap64; omega
theorem w63_in (v : Int) (h0 : -4611686018427387904 ≤ v) (h1 : v ≤ 4611686018427387903) : w63 v = v := by unfold w63; omega

/-- Equal modulo 2^63: equal numbers of 63 bits. -/
theorem w63_eq {a b : Int} (h : (a - b) % 9223372036854775808 = 0) : w63 a = w63 b := by unfold w63; omega
theorem w63_dvd {a b : Int} (h : ∃ k, a = b + 9223372036854775808 * k) : w63 a = w63 b := by
  obtain ⟨k, rfl⟩ := h; unfold w63; omega
theorem w63_form (a : Int) : ∃ k, w63 a = a + 9223372036854775808 * k :=
  ⟨-((a + 4611686018427387904) / 9223372036854775808), by unfold w63; omega⟩

/-- A quotient towards 0 is no greater in size than the number. -/
theorem tdiv_bd (a b : Int) (h0 : -4611686018427387904 ≤ a) (h1 : a ≤ 4611686018427387903) : -4611686018427387904 ≤ a.tdiv b ∧ a.tdiv b ≤ 4611686018427387904 := by
  have h := Int.natAbs_tdiv_le_natAbs a b
  omega
theorem tmod_bd (a b : Int) (h0 : -4611686018427387904 ≤ a) (h1 : a ≤ 4611686018427387903) : -4611686018427387904 ≤ a.tmod b ∧ a.tmod b ≤ 4611686018427387903 := by
  have e := Int.tmod_add_mul_tdiv a b
  by_cases ha : 0 ≤ a
  · have := Int.tmod_nonneg b ha
    have h2 := Int.natAbs_tmod a b
    have h3 := Nat.mod_le a.natAbs b.natAbs
    omega
  · have h2 := Int.natAbs_tmod a b
    have h3 := Nat.mod_le a.natAbs b.natAbs
    have h4 : a.tmod b ≤ 0 := by
      have := Int.tmod_nonneg b (a := -a) (by omega)
      rw [Int.neg_tmod] at this; omega
    omega
end Go.Proofs.YtdekhnfncecacaaDoor
