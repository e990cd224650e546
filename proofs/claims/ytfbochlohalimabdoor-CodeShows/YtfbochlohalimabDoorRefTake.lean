/- The contract of the document's own Take (gantlineref1.Take): the same function of the bytes. -/
import Derived.Test.YtfbochlohalimabDoorTakeLaw
namespace Go.Proofs.YtfbochlohalimabDoor
set_option maxRecDepth 100000
open Go.RowKit

theorem and127_all : ∀ a : Fin 256, a.val &&& 127 = a.val % 128 := by decide +kernel
theorem and127u_eq (c : Int) (h0 : 0 ≤ c) (h1 : c ≤ 255) : bits .and .u8 c 127 = ((c.toNat % 128 : Nat) : Int) := by
  obtain ⟨m, rfl⟩ := Int.eq_ofNat_of_zero_le h0
  have := u8_and_nat m 127 (by omega) (by decide)
  rw [and127_all ⟨m, by omega⟩] at this
  simpa using this
theorem orAt_eq2 (u k : Nat) (c : Int) (hu : u < 18446744073709551616) : bits .or .u64 (u : Int) (IntKind.u64.wrap (((c.toNat % 128 : Nat) : Int) * 2 ^ (7 * k))) = (orAt u k c : Int) := by
  rw [Nat.mul_comm]; exact orAt_eq u k c hu

end Go.Proofs.YtfbochlohalimabDoor
