/- The contracts of the document's own answers on heads and shapes (gantlineref1: Unpack, GoodShape, Holds). -/
import Derived.Test.YtgflkpccddfalaaGreatDoorHeadLeaf3
namespace Go.Proofs.YtgflkpccddfalaaGreatDoor.Hd
set_option maxRecDepth 100000
open Go.RowKit

/-! Unpack -/
/-! GoodShape -/
theorem bits_out {m n : Nat} (h : m < 2 ^ n) (t : Nat) (ht : n ≤ t) : m.testBit t = false :=
  Nat.testBit_lt_two_pow (Nat.lt_of_lt_of_le h (Nat.pow_le_pow_right (by omega) ht))
theorem lt_of_bits {m n : Nat} (hm : m < 18446744073709551616) (h : ∀ t, n ≤ t → t < 64 → m.testBit t = false) : m < 2 ^ n := by
  refine Nat.lt_pow_two_of_testBit m fun t ht => ?_
  by_cases h64 : t < 64
  · exact h t ht h64
  · exact bits_out (n := 64) (by simpa using hm) t (by omega)

end Go.Proofs.YtgflkpccddfalaaGreatDoor.Hd
