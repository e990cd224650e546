/- The contract of bits.Ones at every number: how many of its bits are 1. -/
import Derived.Test.YtgflkpccddfalaaGreatDoorBitsPop
import Derived.Test.YtgflkpccddfalaaGreatDoorBitsLeafs
namespace Go.Proofs.YtgflkpccddfalaaGreatDoor
set_option maxRecDepth 100000
open Go.RowKit

theorem pop8_le : ∀ a : Fin 256, popF 8 a.val ≤ 8 := fun a => popF_le 8 a.val
theorem t1_le : ∀ a : Fin 256, t1 a.val ≤ 255 := by decide +kernel
theorem t21_le : ∀ a : Fin 256, (fun a => t2 (t1 a)) a.val ≤ 68 := by decide +kernel

theorem o1 (x : Nat) (hx : x < 18446744073709551616) : IntKind.u64.wrap (bits .and .u64 ((x : Int) / 2) 6148914691236517205 + bits .and .u64 (x : Int) 6148914691236517205) = (lanes t1 8 x : Int) := by
  have e0 : (x : Int) / 2 = ((x / 2 : Nat) : Int) := by omega
  have a1 : bits .and .u64 ((x / 2 : Nat) : Int) 6148914691236517205 = ((x / 2 &&& 6148914691236517205 : Nat) : Int) := u64_and_nat (x / 2) 6148914691236517205 (by omega) (by decide)
  have a2 : bits .and .u64 (x : Int) 6148914691236517205 = ((x &&& 6148914691236517205 : Nat) : Int) := u64_and_nat x 6148914691236517205 hx (by decide)
  have st := step1 8 x (by simpa using hx)
  rw [show mk 85 8 = 6148914691236517205 from rfl] at st
  have le := lanes_le t1 255 t1_le 8 x
  rw [show mk 255 8 = 18446744073709551615 from rfl] at le
  rw [e0, a1, a2, IntKind.wrap_u64]
  omega

theorem o2 (x : Nat) : IntKind.u64.wrap (bits .and .u64 ((lanes t1 8 x : Int) / 4) 3689348814741910323 + bits .and .u64 (lanes t1 8 x : Int) 3689348814741910323) = (lanes (fun a => t2 (t1 a)) 8 x : Int) := by
  have st := step2 8 x
  rw [show mk 51 8 = 3689348814741910323 from rfl] at st
  have le := lanes_le t1 255 t1_le 8 x
  rw [show mk 255 8 = 18446744073709551615 from rfl] at le
  have le2 := lanes_le (fun a => t2 (t1 a)) 68 t21_le 8 x
  rw [show mk 68 8 = 4919131752989213764 from rfl] at le2
  generalize lanes t1 8 x = y at *
  generalize lanes (fun a => t2 (t1 a)) 8 x = z at *
  have e0 : (y : Int) / 4 = ((y / 4 : Nat) : Int) := by omega
  have a1 : bits .and .u64 ((y / 4 : Nat) : Int) 3689348814741910323 = ((y / 4 &&& 3689348814741910323 : Nat) : Int) := u64_and_nat (y / 4) 3689348814741910323 (by omega) (by decide)
  have a2 : bits .and .u64 (y : Int) 3689348814741910323 = ((y &&& 3689348814741910323 : Nat) : Int) := u64_and_nat y 3689348814741910323 (by omega) (by decide)
  rw [e0, a1, a2, IntKind.wrap_u64]
  omega

theorem o3 (x : Nat) : bits .and .u64 (IntKind.u64.wrap ((lanes (fun a => t2 (t1 a)) 8 x : Int) / 16 + (lanes (fun a => t2 (t1 a)) 8 x : Int))) 1085102592571150095 = (lanes (popF 8) 8 x : Int) := by
  have st := step3 8 x
  rw [show mk 15 8 = 1085102592571150095 from rfl] at st
  have le2 := lanes_le (fun a => t2 (t1 a)) 68 t21_le 8 x
  rw [show mk 68 8 = 4919131752989213764 from rfl] at le2
  generalize lanes (fun a => t2 (t1 a)) 8 x = z at *
  generalize lanes (popF 8) 8 x = p at *
  have e0 : IntKind.u64.wrap ((z : Int) / 16 + (z : Int)) = ((z / 16 + z : Nat) : Int) := by rw [IntKind.wrap_u64]; omega
  have a1 : bits .and .u64 ((z / 16 + z : Nat) : Int) 1085102592571150095 = (((z / 16 + z) &&& 1085102592571150095 : Nat) : Int) := u64_and_nat (z / 16 + z) 1085102592571150095 (by omega) (by decide)
  rw [e0, a1, st]

theorem ones64_any (x : Nat) (w : World) (hx : x < 18446744073709551616) :
    Calls Tryz.prog 99 #[.int .u64 (x : Int)] w fun e w' => e = .returned (.int .i64 (popF 64 x : Int)) ∧ w' = w := by
  have le := lanes_le (popF 8) 8 pop8_le 8 x
  rw [show mk 8 8 = 578721382704613384 from rfl] at le
  obtain ⟨x3, e3⟩ : ∃ x3, x3 = lanes (popF 8) 8 x := ⟨_, rfl⟩
  rw [← e3] at le
  have C := ones_core x (lanes t1 8 x) (lanes (fun a => t2 (t1 a)) 8 x) x3 (x3 + x3 / 256) ((x3 + x3 / 256) + (x3 + x3 / 256) / 65536) (((x3 + x3 / 256) + (x3 + x3 / 256) / 65536) + ((x3 + x3 / 256) + (x3 + x3 / 256) / 65536) / 4294967296) w (o1 x hx) (o2 x) (by rw [e3]; exact o3 x) (by rw [IntKind.wrap_u64]; omega) (by rw [IntKind.wrap_u64]; omega) (by rw [IntKind.wrap_u64]; omega)
  have e : (((x3 + x3 / 256) + (x3 + x3 / 256) / 65536) + ((x3 + x3 / 256) + (x3 + x3 / 256) / 65536) / 4294967296) % 128 = popF 64 x := by
    rw [popF_lanes x]
    exact fold8 _ _ _ _ _ _ _ _ x3 _ _ _ (popF_le 8 _) (popF_le 8 _) (popF_le 8 _) (popF_le 8 _) (popF_le 8 _) (popF_le 8 _) (popF_le 8 _) (popF_le 8 _) (by rw [e3]; rfl) rfl rfl rfl
  rw [e] at C
  exact C

theorem ones_any (x : Nat) (w : World) (hx : x < 18446744073709551616) :
    Calls Tryz.prog 108 #[.int .u64 (x : Int)] w fun e w' => e = .returned (.int .i64 (popF 64 x : Int)) ∧ w' = w := bones_core _ _ w (ones64_any x w hx)
end Go.Proofs.YtgflkpccddfalaaGreatDoor
