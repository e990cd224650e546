/- The contracts of the document's own Class, Bit and Ones (gantlineref1), from stage 5 on. -/
import Derived.Test.YtbgmaifllndpfaaDoorRefGeom
import Derived.Laws.BitsAllLaws
namespace Go.Proofs.YtbgmaifllndpfaaDoor
open Go.RowKit

theorem gc_none (n : Int) (h : n < 1 ∨ 64 < n) : gc n = -1 := by
  unfold gc
  rcases h with h | h
  · rw [if_pos h]
  · repeat rw [if_neg (by omega)]

set_option maxHeartbeats 400000 in
theorem rclass_any (n : Int) (w : World) :
    Calls Tryd.prog 17 #[.int .i64 n] w fun e w' => e = .returned (.int .i64 (gc n)) ∧ G w w' := by
  go_enter Tryd.func17, Tryd.ntmps17
  go_wp2_with fail
  go_loopw [3] (fun c wr => ∃ k : Nat, k ≤ 6 ∧ c = .int .i64 k ∧ Hid (k = 0 ∨ gw ((k : Int) - 1) < n) ∧ Hid (G w wr)) (fun c _ => 7 - (intOf c).toNat)
  case atStart => exact ⟨0, Nat.zero_le _, rfl, hide (Or.inl rfl), hide (G.refl _)⟩
  case round =>
    obtain ⟨k, hk, rfl, HB, HG⟩ := hrel
    by_cases h1 : n < 1
    · have e := gc_none n (Or.inl h1)
      by_cases h6 : k < 6
      · go_wp2_with fail
        go_ret
        exact ⟨ret_int e.symm, unhide HG⟩
      · obtain rfl : k = 6 := by omega
        go_wp2_with fail
        go_ret
        exact ⟨ret_int e.symm, unhide HG⟩
    by_cases h6 : k < 6
    · by_cases hlt : gw (k : Int) < n
      · go_wp2_with fail
        refine (rwords_any _ _).mono ?_
        rintro e w1 ⟨rfl, hgr⟩
        have HG2 := hide ((unhide HG).trans hgr)
        clear hgr HG
        go_wp2_with fail
        go_roundw
        case rel => exact ⟨k + 1, by omega, by go_num, hide (Or.inr (by simpa using hlt)), HG2⟩
        case measure => simp [intOf]; omega
      · have hk5 : gw (k : Int) ≤ 64 := by have := gw_gp k; omega
        go_wp2_with fail
        refine (rwords_any _ _).mono ?_
        rintro e w1 ⟨rfl, hgr⟩
        have HG2 := hide ((unhide HG).trans hgr)
        clear hgr HG
        go_wp2_with fail
        go_ret
        exact ⟨ret_int (gc_at n k (by omega) (by omega) (by omega) (by omega) (by omega) (by have := unhide HB; omega)), unhide HG2⟩
    · obtain rfl : k = 6 := by omega
      have e := gc_none n (Or.inr (by have := unhide HB; simp [gw] at this; exact this))
      go_wp2_with fail
      go_ret
      exact ⟨rfl, unhide HG⟩

/-- Bit i of x. -/
def bitB (x i : Nat) : Bool := x.testBit i
theorem rbit_eq (x i : Nat) (hx : x < 18446744073709551616) : (bits .and .u64 ((x : Int) / 2 ^ i) 1 == 1) = bitB x i := by
  have e : (x : Int) / 2 ^ i = ((x / 2 ^ i : Nat) : Int) := by simp
  have h3 := Nat.div_le_self x (2 ^ i)
  have a1 : bits .and .u64 ((x / 2 ^ i : Nat) : Int) 1 = ((x / 2 ^ i % 2 : Nat) : Int) := by
    have := u64_and_nat (x / 2 ^ i) 1 (by omega) (by decide)
    rw [Nat.and_one_is_mod] at this
    exact this
  rw [e, a1]
  unfold bitB
  rw [Nat.testBit_eq_decide_div_mod_eq]
  rw [Bool.eq_iff_iff]
  simp
  omega

set_option maxHeartbeats 400000 in
theorem rbit_any (x i : Nat) (w : World) (hx : x < 18446744073709551616) (hi : i < 64) :
    Calls Tryd.prog 45 #[.int .u64 (x : Int), .int .i64 (i : Int)] w fun e w' => e = .returned (.bool (bitB x i)) ∧ w' = w := by
  have e := rbit_eq x i hx
  go_enter Tryd.func45, Tryd.ntmps45
  go_wp2
  go_ret
  exact ⟨by simp, rfl⟩
theorem pop_bit (k x : Nat) : popF (k + 1) x = popF k x + if bitB x k then 1 else 0 := by
  rw [popF_succ]
  unfold bitB
  rw [Nat.testBit_eq_decide_div_mod_eq]
  have : x / 2 ^ k % 2 < 2 := Nat.mod_lt _ (by decide)
  by_cases h : x / 2 ^ k % 2 = 1
  · simp [h]
  · simp [h]; omega
set_option maxHeartbeats 400000 in
theorem rones_any (x : Nat) (w : World) (hx : x < 18446744073709551616) :
    Calls Tryd.prog 19 #[.int .u64 (x : Int)] w fun e w' => e = .returned (.int .i64 (popF 64 x : Int)) ∧ w' = w := by
  go_enter Tryd.func19, Tryd.ntmps19
  go_wp2
  go_loop [3, 4] (fun n i => ∃ k : Nat, k ≤ 64 ∧ i = .int .i64 k ∧ n = .int .i64 (popF k x : Int)) (fun _ i => 64 - (intOf i).toNat)
  case atStart => exact ⟨0, Nat.zero_le _, rfl, rfl⟩
  case round =>
    obtain ⟨k, hk, rfl, rfl⟩ := hrel
    have hp := popF_le k x
    by_cases hlt : k < 64
    · have HS := hide (pop_bit k x)
      cases hb : bitB x k
      · go_wp2_with (go_at_call 45; refine (rbit_any _ _ _ hx (by omega)).mono ?_; rintro e w' ⟨rfl, rfl⟩)
        go_round
        case rel => exact ⟨k + 1, by omega, by go_num, by rw [unhide HS, hb]; rfl⟩
        case measure => simp [intOf]; omega
      · go_wp2_with (go_at_call 45; refine (rbit_any _ _ _ hx (by omega)).mono ?_; rintro e w' ⟨rfl, rfl⟩)
        go_round
        case rel => exact ⟨k + 1, by omega, by go_num, by rw [unhide HS, hb]; rfl⟩
        case measure => simp [intOf]; omega
    · obtain rfl : k = 64 := by omega
      go_wp2
      go_ret
      exact ⟨rfl, rfl⟩
end Go.Proofs.YtbgmaifllndpfaaDoor
