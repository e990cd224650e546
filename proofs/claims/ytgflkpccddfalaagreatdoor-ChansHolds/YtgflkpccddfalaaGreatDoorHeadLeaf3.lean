/- The contracts of Holds, and of the document's own answers on heads and shapes (gantlineref1: Bit, Pack, Unpack, GoodShape, Holds). -/
import Derived.Test.YtgflkpccddfalaaGreatDoorHeadLeaf2
namespace Go.Proofs.YtgflkpccddfalaaGreatDoor.Hd
set_option maxRecDepth 100000
open Go.RowKit

/-! ### Holds -/
set_option maxHeartbeats 400000 in
theorem holds_lo (k f : Int) (m : Nat) (i n : Int) (w : World) (h : n < 2) :
    Calls Tryz.prog 49 #[.agg #[.int .i64 k, .int .i64 f, .int .u64 (m : Int)], .int .i64 i, .int .i64 n] w fun e w' => e = .returned (.bool false) ∧ G w w' := by
  go_enter Tryz.func49, Tryz.ntmps49
  go_wp2_with fail
  go_ret
  exact ⟨rfl, G.alloc _ _⟩

set_option maxHeartbeats 400000 in
theorem holds_out (k f : Int) (m : Nat) (i n : Int) (w : World) (h : ¬ n < 2) (h9 : n ≤ 9223372036854775807) (hi : inB i 0 (n - 2) = false) :
    Calls Tryz.prog 49 #[.agg #[.int .i64 k, .int .i64 f, .int .u64 (m : Int)], .int .i64 i, .int .i64 n] w fun e w' => e = .returned (.bool false) ∧ G w w' := by
  have hd : decide (n < 2) = false := by simpa using h
  go_enter Tryz.func49, Tryz.ntmps49
  go_wp2_with (go_at_call 43; refine (within_any _ _ _ _).mono ?_; rintro e w' ⟨rfl, rfl⟩)
  go_ret
  exact ⟨rfl, G.alloc _ _⟩

set_option maxHeartbeats 400000 in
theorem holds_core (k f : Int) (m : Nat) (i n : Int) (q : Int) (b t c : Bool) (w : World) (h : ¬ n < 2) (h9 : n ≤ 9223372036854775807) (hi : inB i 0 (n - 2) = true)
    (CF : Hid (∀ w, Calls Tryz.prog 59 #[.int .u64 (m : Int), .int .i64 i, .int .i64 1] w fun e w' => e = .returned (.int .u64 q) ∧ ∃ k, w' = w.drewN k))
    (CE : Hid (∀ w, Calls Tryz.prog 68 #[.agg #[.int .i64 k, .int .i64 f, .int .u64 (m : Int)]] w fun e w' => e = .returned (.bool t) ∧ G w w'))
    (hq : (q == 1) = b) (hc : decide (4 ≤ i) = c) :
    Calls Tryz.prog 49 #[.agg #[.int .i64 k, .int .i64 f, .int .u64 (m : Int)], .int .i64 i, .int .i64 n] w fun e w' =>
      e = .returned (.bool (if k = 0 ∨ k = 2 then b else if k = 1 then t else if k = 3 then t && c else false)) ∧ G w w' := by
  have hd : decide (n < 2) = false := by simpa using h
  rcases kinds4 k with rfl | rfl | rfl | rfl | ⟨h0, h1, h2, h3⟩
  · simp only [true_or, if_true]
    go_enter Tryz.func49, Tryz.ntmps49
    go_wp2_with (go_at_call 43; refine (within_any _ _ _ _).mono ?_; rintro e w' ⟨rfl, rfl⟩)
    refine (unhide CF _).mono ?_
    rintro e w1 ⟨rfl, k1, rfl⟩
    go_wp2_with fail
    go_ret
    exact ⟨rfl, below_drewN (G.alloc _ _) _⟩
  · simp only [show ¬ ((1 : Int) = 0 ∨ (1 : Int) = 2) by omega, if_false, if_true]
    go_enter Tryz.func49, Tryz.ntmps49
    go_wp2_with (go_at_call 43; refine (within_any _ _ _ _).mono ?_; rintro e w' ⟨rfl, rfl⟩)
    refine (unhide CE _).mono ?_
    rintro e w1 ⟨rfl, g1⟩
    go_wp2_with fail
    go_ret
    exact ⟨rfl, G.trans (G.alloc _ _) g1⟩
  · simp only [or_true, if_true]
    go_enter Tryz.func49, Tryz.ntmps49
    go_wp2_with (go_at_call 43; refine (within_any _ _ _ _).mono ?_; rintro e w' ⟨rfl, rfl⟩)
    refine (unhide CF _).mono ?_
    rintro e w1 ⟨rfl, k1, rfl⟩
    go_wp2_with fail
    go_ret
    exact ⟨rfl, below_drewN (G.alloc _ _) _⟩
  · simp only [show ¬ ((3 : Int) = 0 ∨ (3 : Int) = 2) by omega, show ¬ ((3 : Int) = 1) by omega, if_false, if_true]
    cases t
    all_goals
      go_enter Tryz.func49, Tryz.ntmps49
      go_wp2_with (go_at_call 43; refine (within_any _ _ _ _).mono ?_; rintro e w' ⟨rfl, rfl⟩)
      refine (unhide CE _).mono ?_
      rintro e w1 ⟨rfl, g1⟩
      go_wp2_with fail
      go_ret
      exact ⟨ret_bool (by simp), G.trans (G.alloc _ _) g1⟩
  · have E : (if k = 0 ∨ k = 2 then b else if k = 1 then t else if k = 3 then t && c else false) = false := by
      simp at h0 h1 h2 h3
      rw [if_neg (by omega), if_neg h1, if_neg h3]
    rw [E]
    clear E CE CF
    go_enter Tryz.func49, Tryz.ntmps49
    go_wp2_with (go_at_call 43; refine (within_any _ _ _ _).mono ?_; rintro e w' ⟨rfl, rfl⟩)
    go_ret
    exact ⟨rfl, G.alloc _ _⟩

/-- Bit i of the word m, whatever i is. -/
def bitI (m : Nat) (i : Int) : Bool := decide (0 ≤ i) && decide (i < 64) && m.testBit i.toNat
theorem bitI_eq (m : Nat) (i : Int) (hm : m < 18446744073709551616) (h : 0 ≤ i) : bitI m i = m.testBit i.toNat := by
  unfold bitI
  by_cases h1 : i < 64
  · simp [h, h1]
  · simp only [h1, decide_false, Bool.and_false, Bool.false_and]
    refine (Nat.testBit_lt_two_pow (Nat.lt_of_lt_of_le hm ?_)).symm
    exact Nat.pow_le_pow_right (n := 2) (by omega) (show 64 ≤ i.toNat by omega)

/-- What Field answers at one bit. -/
theorem field1_any (m : Nat) (i : Int) (hm : m < 18446744073709551616) (h : 0 ≤ i) : ∃ q : Int, (q == 1) = m.testBit i.toNat ∧
    ∀ w, Calls Tryz.prog 59 #[.int .u64 (m : Int), .int .i64 i, .int .i64 1] w fun e w' => e = .returned (.int .u64 q) ∧ ∃ k, w' = w.drewN k := by
  obtain ⟨n, rfl⟩ := Int.eq_ofNat_of_zero_le h
  by_cases h1 : n < 64
  · exact ⟨_, field1_eq m n, fun w => field_any m n 1 w hm (by omega)⟩
  · refine ⟨0, ?_, fun w => (field_out m n 1 w (by omega) (by omega)).mono ?_⟩
    · rw [← bitI_eq m n hm (by omega)]
      simp [bitI]
      omega
    · rintro e w' ⟨rfl, rfl⟩
      exact ⟨rfl, 0, rfl⟩

theorem holds_any (k f : Int) (m : Nat) (i n : Int) (w : World) (hm : m < 18446744073709551616) (h9 : n ≤ 9223372036854775807) :
    Calls Tryz.prog 49 #[.agg #[.int .i64 k, .int .i64 f, .int .u64 (m : Int)], .int .i64 i, .int .i64 n] w fun e w' => e = .returned (.bool (holdsB k m i n)) ∧ G w w' := by
  by_cases h : n < 2
  · rw [show holdsB k m i n = false by unfold holdsB; rw [if_pos (by omega)]]
    exact holds_lo k f m i n w h
  by_cases hi : inB i 0 (n - 2) = true
  · have hi' := inB_iff.1 hi
    obtain ⟨q, hq, CF⟩ := field1_any m i hm hi'.1
    unfold holdsB
    rw [if_neg (by omega)]
    exact holds_core k f m i n q _ _ _ w h h9 hi (hide CF) (hide (fun w => elements_any k f m w hm)) hq rfl
  · rw [show holdsB k m i n = false by unfold holdsB; rw [if_pos]; rw [inB_iff] at hi; omega]
    exact holds_out k f m i n w h h9 (by simpa using hi)

/-! ### own, and the document's own answers -/
/-! Pack -/
end Go.Proofs.YtgflkpccddfalaaGreatDoor.Hd
