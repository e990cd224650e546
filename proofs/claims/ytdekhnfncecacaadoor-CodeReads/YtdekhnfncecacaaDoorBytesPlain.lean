/- What BitsBytes wants besides: Zig and Zag of the document, there and back; what Put writes, Take reads. -/
import Derived.Test.YtdekhnfncecacaaDoorRefPut
import Derived.Test.YtdekhnfncecacaaDoorRefTake
namespace Go.Proofs.YtdekhnfncecacaaDoor
set_option maxRecDepth 100000
open Go.RowKit

/-- A call answers v, whatever the world, and leaves it as it was. -/
def Gives (f : FuncId) (args : Array Value) (v : Value) : Prop := ∀ w, Calls Tryd.prog f args w fun e w' => e = .returned v ∧ w' = w

set_option maxHeartbeats 400000 in
theorem rzig_pos (n : Nat) (h1 : (n : Int) ≤ 9223372036854775807) : Gives 36 #[.int .i64 (n : Int)] (.int .u64 (2 * (n : Int))) := by
  intro w
  go_enter Tryd.func36, Tryd.ntmps36
  go_wp2
  go_ret
  exact ⟨rfl, rfl⟩
set_option maxHeartbeats 400000 in
theorem rzig_neg (v : Int) (h0 : -9223372036854775808 ≤ v) (h1 : v < 0) : Gives 36 #[.int .i64 v] (.int .u64 (-2 * v - 1)) := by
  intro w
  go_enter Tryd.func36, Tryd.ntmps36
  go_wp2
  go_ret
  exact ⟨ret_int (by omega), rfl⟩
set_option maxHeartbeats 400000 in
theorem rzag_any (n : Nat) (h : n < 18446744073709551616) : Gives 47 #[.int .u64 (n : Int)] (.int .i64 (zagI n)) := by
  intro w
  by_cases hm : n % 2 = 0
  · have e : ((n : Int) % 2 == 0) = true := by simp; omega
    have HZ : Hid ((n : Int) / 2 = zagI n) := by unfold zagI; rw [if_pos hm]; exact (Int.natCast_ediv n 2).symm
    go_enter Tryd.func47, Tryd.ntmps47
    go_wp2
    go_ret
    exact ⟨ret_int (by rw [← unhide HZ]), rfl⟩
  · have e : ((n : Int) % 2 == 0) = false := beq_eq_false_iff_ne.2 (by omega)
    have HZ : Hid (-((n : Int) / 2) - 1 = zagI n) := by unfold zagI; rw [if_neg hm]; rw [Int.natCast_ediv]; rfl
    go_enter Tryd.func47, Tryd.ntmps47
    go_wp2
    go_ret
    exact ⟨ret_int (by rw [← unhide HZ]), rfl⟩

/-- All that the law asks of Zig and Zag, the numbers as letters. -/
theorem zigzag (v : Int) (u : Nat) (h0 : -9223372036854775808 ≤ v) (h1 : v ≤ 9223372036854775807) (hu : u < 18446744073709551616) : ∃ (zv : Nat) (y : Int),
    Gives 53 #[.int .i64 v] (.int .u64 (zv : Int)) ∧ Gives 36 #[.int .i64 v] (.int .u64 (zv : Int)) ∧ Gives 78 #[.int .u64 (u : Int)] (.int .i64 y) ∧ Gives 47 #[.int .u64 (u : Int)] (.int .i64 y)
      ∧ Gives 78 #[.int .u64 (zv : Int)] (.int .i64 v) ∧ Gives 53 #[.int .i64 y] (.int .u64 (u : Int)) := by
  have hz : ((zigI v).toNat : Int) = zigI v ∧ (zigI v).toNat < 18446744073709551616 := by unfold zigI; split <;> omega
  have hb : zagI (zigI v).toNat = v := by unfold zagI zigI; split <;> split <;> omega
  have hy : -9223372036854775808 ≤ zagI u ∧ zagI u ≤ 9223372036854775807 := by unfold zagI; split <;> omega
  have hf : zigI (zagI u) = (u : Int) := by unfold zagI zigI; split <;> split <;> omega
  refine ⟨(zigI v).toNat, zagI u, fun w => ?_, ?_, fun w => zag_any u w hu, rzag_any u hu, fun w => ?_, fun w => ?_⟩
  · rw [hz.1]; exact zig_any v w h0 h1
  · rw [hz.1]
    by_cases h : 0 ≤ v
    · obtain ⟨n, rfl⟩ := Int.eq_ofNat_of_zero_le h
      have e : zigI (n : Int) = 2 * (n : Int) := by unfold zigI; rw [if_pos h]
      rw [e]; exact rzig_pos n h1
    · have e : zigI v = -2 * v - 1 := by unfold zigI; rw [if_neg h]
      rw [e]; exact rzig_neg v h0 (by omega)
  · have := zag_any (zigI v).toNat w hz.2
    rw [hb] at this; exact this
  · have := zig_any (zagI u) w hy.1 hy.2
    rw [hf] at this; exact this

theorem or_add (a x i : Nat) (h : a < 2 ^ i) : a ||| x * 2 ^ i = a + x * 2 ^ i := by
  rw [Nat.or_comm, Nat.mul_comm, ← Nat.two_pow_add_eq_or_of_lt h, Nat.add_comm]

theorem take_enc : ∀ (f k uu a : Nat) (r : List Int), k + f = 9 → uu < 2 * 128 ^ f → a < 2 ^ (k * 7) → (0 < k → 0 < uu) → takeF (encF f uu ++ r) k a = (a + uu * 2 ^ (k * 7), k + (encF f uu).length)
  | 0, k, uu, a, r, hk, hu, ha, hp => by
    obtain rfl : k = 9 := by omega
    have hu2 : uu < 2 := by simpa using hu
    have h1 := hp (by omega)
    obtain rfl : uu = 1 := by omega
    have e : orAt a 9 1 = a + 1 * 2 ^ (9 * 7) := by
      unfold orAt
      rw [← or_add a 1 (9 * 7) ha]; rfl
    simp [encF, takeF]
    simpa using e
  | f + 1, k, uu, a, r, hk, hu, ha, hp => by
    have hk8 : k ≤ 8 := by omega
    have hpw : 2 ^ (k * 7) * 128 ≤ 2 ^ 63 := by
      have : 2 ^ (k * 7) * 2 ^ 7 ≤ 2 ^ 63 := by rw [← Nat.pow_add]; exact Nat.pow_le_pow_right (by decide) (by omega)
      simpa using this
    have hor : ∀ c : Int, 0 ≤ c → orAt a k c = a + c.toNat % 128 * 2 ^ (k * 7) := by
      intro c _
      unfold orAt
      have hm : c.toNat % 128 < 128 := Nat.mod_lt _ (by decide)
      have hx : c.toNat % 128 * 2 ^ (k * 7) < 18446744073709551616 := by
        have : c.toNat % 128 * 2 ^ (k * 7) ≤ 127 * 2 ^ (k * 7) := Nat.mul_le_mul_right _ (by omega)
        generalize c.toNat % 128 * 2 ^ (k * 7) = q at *
        omega
      rw [Nat.mod_eq_of_lt hx, or_add a _ (k * 7) ha]
    by_cases hs : uu < 128
    · rw [encF_stop _ uu hs]
      have h9 : ¬ (k = 9 ∧ 1 < (uu : Int)) := by omega
      have hc : ¬ (128 : Int) ≤ (uu : Int) := by omega
      have h0 : ¬ ((uu : Int) = 0 ∧ 0 < k) := by intro h; have := hp h.2; omega
      show takeF ((uu : Int) :: r) k a = _
      rw [takeF, if_neg h9, if_neg hc, if_neg h0, hor _ (by omega), Int.toNat_natCast, Nat.mod_eq_of_lt hs]
      rfl
    · rw [encF_more f uu hs]
      have h9 : ¬ (k = 9 ∧ 1 < ((uu % 128 + 128 : Nat) : Int)) := by omega
      have hc : (128 : Int) ≤ ((uu % 128 + 128 : Nat) : Int) := by omega
      show takeF (((uu % 128 + 128 : Nat) : Int) :: (encF f (uu / 128) ++ r)) k a = _
      rw [takeF, if_neg h9, if_pos hc, hor _ (by omega), Int.toNat_natCast, show (uu % 128 + 128) % 128 = uu % 128 by omega]
      have hm : uu % 128 < 128 := Nat.mod_lt _ (by decide)
      have e7 : 2 ^ ((k + 1) * 7) = 2 ^ (k * 7) * 128 := by rw [Nat.add_mul, Nat.pow_add]
      rw [take_enc f (k + 1) (uu / 128) _ r (by omega) (by rw [Nat.pow_succ] at hu; omega) ?_ (fun _ => by omega), e7]
      · have e : a + uu % 128 * 2 ^ (k * 7) + uu / 128 * (2 ^ (k * 7) * 128) = a + uu * 2 ^ (k * 7) := by
          have h1 : uu * 2 ^ (k * 7) = (uu % 128 + 128 * (uu / 128)) * 2 ^ (k * 7) := by rw [Nat.mod_add_div]
          rw [h1, Nat.add_mul]
          have h2 : uu / 128 * (2 ^ (k * 7) * 128) = 128 * (uu / 128) * 2 ^ (k * 7) := by rw [Nat.mul_comm (2 ^ (k * 7)), ← Nat.mul_assoc, Nat.mul_comm (uu / 128)]
          rw [h2]; omega
        rw [e]; simp; omega
      · rw [e7]
        have : uu % 128 * 2 ^ (k * 7) ≤ 127 * 2 ^ (k * 7) := Nat.mul_le_mul_right _ (by omega)
        generalize uu % 128 * 2 ^ (k * 7) = q at *
        omega

theorem take_put (u : Nat) (hu : u < 18446744073709551616) (r : List Int) : takeF (encF 9 u ++ r) 0 0 = (u, (encF 9 u).length) := by
  have := take_enc 9 0 u 0 r rfl (by simpa using hu) (by decide) (fun h => absurd h (by decide))
  simpa using this
end Go.Proofs.YtdekhnfncecacaaDoor
