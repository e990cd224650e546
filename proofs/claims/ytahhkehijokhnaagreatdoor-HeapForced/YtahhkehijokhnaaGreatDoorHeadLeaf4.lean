/- The contracts of the document's own answers on heads and shapes (gantlineref1: Unpack, GoodShape, Holds). -/
import Derived.Test.YtahhkehijokhnaaGreatDoorHeadLeaf3
namespace Go.Proofs.YtahhkehijokhnaaGreatDoor.Hd
set_option maxRecDepth 100000
open Go.RowKit

/-! Unpack -/
/-! GoodShape -/
theorem bits_out {m n : Nat} (h : m < 2 ^ n) (t : Nat) (ht : n ≤ t) : m.testBit t = false :=
  Nat.testBit_lt_two_pow (Nat.lt_of_lt_of_le h (Nat.pow_le_pow_right (by omega) ht))
theorem lt_of_bits {m n : Nat} (hm : m < 18446744073709551616) (h : ∀ t, n ≤ t → t < 64 → m.testBit t = false) : m < 2 ^ n := by
  refine Nat.lt_pow_two_of_testBit m fun t ht => ?_
  by_cases h64 : t < 64
  · exact h t ht h64
  · exact bits_out (n := 64) (by simpa using hm) t (by omega)

set_option maxHeartbeats 400000 in
theorem rgood_02 (k : Int) (n m : Nat) (w : World) (hm : m < 18446744073709551616) (hk : k = 0 ∨ k = 2) (hn : n ≤ 63) :
    Calls Tryz.prog 10 #[.agg #[.int .i64 k, .int .i64 (n : Int), .int .u64 (m : Int)]] w fun e w' => e = .returned (.bool (decide (m < 2 ^ n))) ∧ G w w' := by
  have CB := hide (fun (i : Int) w => rbit_any m i w hm)
  have d0 : decide ((n : Int) < 0) = false := by simp
  have d1 : decide (63 < (n : Int)) = false := by simp; omega
  obtain ⟨r, hr⟩ : ∃ r, r = decide (m < 2 ^ n) := ⟨_, rfl⟩
  rw [← hr]
  have HR := hide hr
  clear hr
  rcases hk with rfl | rfl
  all_goals
    go_enter Tryz.func10, Tryz.ntmps10
    go_wp2_with fail
    go_loop [3] (fun c => ∃ j : Nat, n ≤ j ∧ j ≤ 64 ∧ c = .int .i64 j ∧ Hid (∀ t, n ≤ t → t < j → m.testBit t = false)) (fun c => 64 - (intOf c).toNat)
    case atStart => exact ⟨n, Nat.le_refl _, by omega, rfl, hide (fun t h0 h1 => by omega)⟩
    case round =>
      obtain ⟨j, hj0, hj1, rfl, HB⟩ := hrel
      by_cases h64 : j = 64
      · subst h64
        go_wp2_with fail
        go_ret
        exact ⟨ret_bool (by rw [unhide HR]; simpa using lt_of_bits hm (unhide HB)), G.alloc _ _⟩
      · have hlt : (j : Int) < 64 := by omega
        cases hb : bitI m j
        · have hb' := hb
          rw [bitI_eq m j hm (by omega)] at hb'
          go_wp2_with fail
          refine (unhide CB _ _).mono ?_
          rintro e w1 ⟨rfl, rfl⟩
          go_wp2_with fail
          go_round
          case rel => exact ⟨j + 1, by omega, by omega, by go_num, hide (fun t h0 h1 => by
            rcases Nat.lt_succ_iff_lt_or_eq.1 h1 with h2 | rfl
            · exact unhide HB t h0 h2
            · simpa using hb')⟩
          case measure => simp [intOf]; omega
        · have hb' := hb
          rw [bitI_eq m j hm (by omega)] at hb'
          go_wp2_with fail
          refine (unhide CB _ _).mono ?_
          rintro e w1 ⟨rfl, rfl⟩
          go_wp2_with fail
          go_ret
          exact ⟨ret_bool (by
            rw [unhide HR]
            symm
            rw [decide_eq_false_iff_not]
            intro hlt2
            have := bits_out hlt2 j hj0
            simp at hb'
            rw [this] at hb'
            cases hb'), G.alloc _ _⟩

set_option maxHeartbeats 400000 in
theorem rgood_any (k f : Int) (m : Nat) (w : World) (hm : m < 18446744073709551616) :
    Calls Tryz.prog 10 #[.agg #[.int .i64 k, .int .i64 f, .int .u64 (m : Int)]] w fun e w' => e = .returned (.bool (goodB k f m)) ∧ G w w' := by
  by_cases hk : k = 0 ∨ k = 2
  · by_cases h0 : f < 0
    · have E : goodB k f m = false := by unfold goodB; rw [if_pos hk]; simp [inB]; omega
      rw [E]
      clear E
      rcases hk with rfl | rfl
      all_goals
        go_enter Tryz.func10, Tryz.ntmps10
        go_wp2_with fail
        go_ret
        exact ⟨rfl, G.alloc _ _⟩
    by_cases h1 : 63 < f
    · have d0 : decide (f < 0) = false := by simpa using h0
      have E : goodB k f m = false := by unfold goodB; rw [if_pos hk]; simp [inB]; omega
      rw [E]
      clear E
      rcases hk with rfl | rfl
      all_goals
        go_enter Tryz.func10, Tryz.ntmps10
        go_wp2_with fail
        go_ret
        exact ⟨rfl, G.alloc _ _⟩
    · obtain ⟨n, rfl⟩ := Int.eq_ofNat_of_zero_le (show 0 ≤ f by omega)
      have E : goodB k n m = decide (m < 2 ^ n) := by
        have : inB (n : Int) 0 63 = true := by simp [inB]; omega
        unfold goodB
        rw [if_pos hk, this]
        simp
      rw [E]
      exact rgood_02 k n m w hm hk (by omega)
  by_cases hk1 : k = 1 ∨ k = 3
  · have E : goodB k f m = (decide (f = 0) && decide (m ≤ 1)) := by unfold goodB; rw [if_neg hk, if_pos hk1]
    rw [E]
    clear E
    by_cases hf : f = 0
    · subst hf
      by_cases hm : (m : Int) ≤ 1
      · have hm' : m ≤ 1 := by omega
        rcases hk1 with rfl | rfl
        all_goals
          go_enter Tryz.func10, Tryz.ntmps10
          go_wp2_with fail
          go_ret
          exact ⟨ret_bool (by simp [hm']), G.alloc _ _⟩
      · have hd : decide ((m : Int) ≤ 1) = false := by simpa using hm
        rcases hk1 with rfl | rfl
        all_goals
          go_enter Tryz.func10, Tryz.ntmps10
          go_wp2_with fail
          go_ret
          exact ⟨ret_bool (by simp; omega), G.alloc _ _⟩
    · have hb : (f == 0) = false := by simpa using hf
      rcases hk1 with rfl | rfl
      all_goals
        go_enter Tryz.func10, Tryz.ntmps10
        go_wp2_with fail
        go_ret
        exact ⟨ret_bool (by simp [hf]), G.alloc _ _⟩
  · have E : goodB k f m = false := by unfold goodB; rw [if_neg hk, if_neg hk1]
    rw [E]
    clear E
    have h0 : (k == 0) = false := by simp; omega
    have h1 : (k == 1) = false := by simp; omega
    have h2 : (k == 2) = false := by simp; omega
    have h3 : (k == 3) = false := by simp; omega
    clear hk hk1
    go_enter Tryz.func10, Tryz.ntmps10
    go_wp2_with fail
    go_ret
    exact ⟨rfl, G.alloc _ _⟩
end Go.Proofs.YtahhkehijokhnaaGreatDoor.Hd
