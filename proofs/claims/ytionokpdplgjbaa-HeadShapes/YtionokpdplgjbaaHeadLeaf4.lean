/- The contracts of the document's own answers on heads and shapes (gantlineref1: Unpack, GoodShape, Holds). -/
import Derived.Test.YtionokpdplgjbaaHeadLeaf3
namespace Go.Proofs.Ytionokpdplgjbaa
open Go.RowKit

/-! Unpack -/
set_option maxHeartbeats 400000 in
theorem runpack_core (v a b c p : Int) (ok : Bool) (w : World) (h0 : ¬ v < 0) (h1 : ¬ 67108864 ≤ v) (ea : v % 128 = a) (eb : v / 128 % 8 = b) (ec : v / 1024 = c)
    (CP : Hid (∀ w, Calls Try.prog 15 #[.int .i64 a, .int .i64 b, .int .i64 c] w fun e w' => e = .returned (.tuple #[.int .i64 p, .bool ok]) ∧ w' = w)) :
    Calls Try.prog 16 #[.int .i64 v] w fun e w' =>
      e = .returned (.tuple #[.int .i64 (if ok = true then a else 0), .int .i64 (if ok = true then b else 0), .int .i64 (if ok = true then c else 0), .bool ok]) ∧ w' = w := by
  obtain ⟨n, rfl⟩ := Int.eq_ofNat_of_zero_le (show 0 ≤ v by omega)
  have hd : decide (67108864 ≤ (n : Int)) = false := by simp; omega
  cases ok
  all_goals
    go_enter Try.func16, Try.ntmps16
    go_wp2_with fail
    refine (unhide CP _).mono ?_
    rintro e w1 ⟨rfl, rfl⟩
    clear hd h0 h1 ea eb ec
    go_wp2_with fail
    go_returns
    exact ⟨rfl, rfl⟩

/-- What the document's Unpack answers. -/
theorem runpack_any (v : Int) (w : World) :
    Calls Try.prog 16 #[.int .i64 v] w fun e w' =>
      e = .returned (.tuple #[.int .i64 (ukV v (up0 v)), .int .i64 (ukV v (up1 v)), .int .i64 (ukV v (up2 v)), .bool (uokB v)]) ∧ w' = w := by
  by_cases h0 : v < 0
  · have E : uokB v = false := by simp [uokB, inB]; omega
    simp only [ukV, E, Bool.false_eq_true, if_false]
    clear E
    go_enter Try.func16, Try.ntmps16
    go_wp2_with fail
    go_returns
    exact ⟨rfl, rfl⟩
  by_cases h1 : 67108864 ≤ v
  · have E : uokB v = false := by simp [uokB, inB]; omega
    simp only [ukV, E, Bool.false_eq_true, if_false]
    clear E
    obtain ⟨n, rfl⟩ := Int.eq_ofNat_of_zero_le (show 0 ≤ v by omega)
    go_enter Try.func16, Try.ntmps16
    go_wp2_with fail
    go_returns
    exact ⟨rfl, rfl⟩
  · have E : hokB (up0 v) (up1 v) (up2 v) = uokB v := by
      have : inB v 0 67108863 = true := by simp [inB]; omega
      simp [uokB, this]
    simp only [ukV, ← E]
    exact runpack_core v _ _ _ _ _ w h0 h1 rfl rfl (by unfold up2; omega) (hide (rpack_any _ _ _))

set_option maxHeartbeats 400000 in
theorem rholds_any (k f : Int) (m : Nat) (i n : Int) (w : World) (hm : m < 18446744073709551616) (h9 : n ≤ 9223372036854775807) (hk : k = 0 ∨ k = 1 ∨ k = 2 ∨ k = 3) :
    Calls Try.prog 21 #[.agg #[.int .i64 k, .int .i64 f, .int .u64 (m : Int)], .int .i64 i, .int .i64 n] w fun e w' => e = .returned (.bool (holdsB k m i n)) ∧ G w w' := by
  by_cases h0 : i < 0
  · rw [show holdsB k m i n = false by unfold holdsB; rw [if_pos (by omega)]]
    clear hk
    go_enter Try.func21, Try.ntmps21
    go_wp2_with fail
    go_ret
    exact ⟨rfl, G.alloc _ _⟩
  have d0 : decide (i < 0) = false := by simpa using h0
  by_cases h1 : n < 2
  · rw [show holdsB k m i n = false by unfold holdsB; rw [if_pos (by omega)]]
    clear hk
    go_enter Try.func21, Try.ntmps21
    go_wp2_with fail
    go_ret
    exact ⟨rfl, G.alloc _ _⟩
  have d1 : decide (n < 2) = false := by simpa using h1
  by_cases h2 : n - 2 < i
  · rw [show holdsB k m i n = false by unfold holdsB; rw [if_pos (by omega)]]
    clear hk
    go_enter Try.func21, Try.ntmps21
    go_wp2_with fail
    go_ret
    exact ⟨rfl, G.alloc _ _⟩
  have d2 : decide (n - 2 < i) = false := by simpa using h2
  have E := hide (show holdsB k m i n = if k = 0 ∨ k = 2 then bitI m i else if k = 1 then bitI m 0 else bitI m 0 && decide (4 ≤ i) by
    rw [bitI_eq m i hm (by omega), bitI_eq m 0 hm (by omega)]
    unfold holdsB
    rw [if_neg (by omega)]
    rcases hk with rfl | rfl | rfl | rfl <;> simp)
  have CI := hide (fun w => rbit_any m i w hm)
  have C0 := hide (fun w => rbit_any m 0 w hm)
  generalize holdsB k m i n = r at *
  generalize bitI m i = bi at *
  generalize bitI m 0 = b0 at *
  rcases hk with rfl | rfl | rfl | rfl
  · obtain rfl : r = bi := by simpa using unhide E
    go_enter Try.func21, Try.ntmps21
    go_wp2_with fail
    refine (unhide CI _).mono ?_
    rintro e w1 ⟨rfl, rfl⟩
    go_wp2_with fail
    go_ret
    exact ⟨rfl, G.alloc _ _⟩
  · obtain rfl : r = b0 := by simpa using unhide E
    go_enter Try.func21, Try.ntmps21
    go_wp2_with fail
    refine (unhide C0 _).mono ?_
    rintro e w1 ⟨rfl, rfl⟩
    go_wp2_with fail
    go_ret
    exact ⟨rfl, G.alloc _ _⟩
  · obtain rfl : r = bi := by simpa using unhide E
    go_enter Try.func21, Try.ntmps21
    go_wp2_with fail
    refine (unhide CI _).mono ?_
    rintro e w1 ⟨rfl, rfl⟩
    go_wp2_with fail
    go_ret
    exact ⟨rfl, G.alloc _ _⟩
  · have E2 : r = (b0 && decide (4 ≤ i)) := by simpa using unhide E
    clear E
    by_cases h4 : 4 ≤ i
    · obtain rfl : r = b0 := by simpa [h4] using E2
      clear E2
      go_enter Try.func21, Try.ntmps21
      go_wp2_with fail
      refine (unhide C0 _).mono ?_
      rintro e w1 ⟨rfl, rfl⟩
      go_wp2_with fail
      go_ret
      exact ⟨rfl, G.alloc _ _⟩
    · have d4 : decide (4 ≤ i) = false := by simpa using h4
      obtain rfl : r = false := by simpa [h4] using E2
      clear E2
      go_enter Try.func21, Try.ntmps21
      go_wp2_with fail
      go_ret
      exact ⟨rfl, G.alloc _ _⟩

/-! GoodShape -/
theorem bits_out {m n : Nat} (h : m < 2 ^ n) (t : Nat) (ht : n ≤ t) : m.testBit t = false :=
  Nat.testBit_lt_two_pow (Nat.lt_of_lt_of_le h (Nat.pow_le_pow_right (by omega) ht))
theorem lt_of_bits {m n : Nat} (hm : m < 18446744073709551616) (h : ∀ t, n ≤ t → t < 64 → m.testBit t = false) : m < 2 ^ n := by
  refine Nat.lt_pow_two_of_testBit m fun t ht => ?_
  by_cases h64 : t < 64
  · exact h t ht h64
  · exact bits_out (n := 64) (by simpa using hm) t (by omega)

set_option maxHeartbeats 400000 in
theorem rgood_02 (k : Int) (n m : Nat) (w : World) (hm : m < 18446744073709551616) (hk : k = 0 ∨ k = 2) (hn : n ≤ 63) :
    Calls Try.prog 17 #[.agg #[.int .i64 k, .int .i64 (n : Int), .int .u64 (m : Int)]] w fun e w' => e = .returned (.bool (decide (m < 2 ^ n))) ∧ G w w' := by
  have CB := hide (fun (i : Int) w => rbit_any m i w hm)
  have d0 : decide ((n : Int) < 0) = false := by simp
  have d1 : decide (63 < (n : Int)) = false := by simp; omega
  obtain ⟨r, hr⟩ : ∃ r, r = decide (m < 2 ^ n) := ⟨_, rfl⟩
  rw [← hr]
  have HR := hide hr
  clear hr
  rcases hk with rfl | rfl
  all_goals
    go_enter Try.func17, Try.ntmps17
    go_wp2_with fail
    go_loop [3] (fun c => ∃ j : Nat, n ≤ j ∧ j ≤ 64 ∧ c = .int .i64 j ∧ Hid (∀ t, n ≤ t → t < j → m.testBit t = false)) (fun c => 64 - (intOf c).toNat)
    case atStart => exact ⟨n, Nat.le_refl _, by omega, rfl, hide (fun t h0 h1 => by omega)⟩
    case round =>
      obtain ⟨j, hj0, hj1, rfl, HB⟩ := hrel
      by_cases h64 : j = 64
      · subst h64
        go_wp2_with fail
        go_ret
        exact ⟨ret_bool (by rw [unhide HR]; simpa using lt_of_bits hm (unhide HB)), G.alloc _ _⟩
      · have hlt : (j : Int) < 64 := by omega
        cases hb : bitI m j
        · have hb' := hb
          rw [bitI_eq m j hm (by omega)] at hb'
          go_wp2_with fail
          refine (unhide CB _ _).mono ?_
          rintro e w1 ⟨rfl, rfl⟩
          go_wp2_with fail
          go_round
          case rel => exact ⟨j + 1, by omega, by omega, by go_num, hide (fun t h0 h1 => by
            rcases Nat.lt_succ_iff_lt_or_eq.1 h1 with h2 | rfl
            · exact unhide HB t h0 h2
            · simpa using hb')⟩
          case measure => simp [intOf]; omega
        · have hb' := hb
          rw [bitI_eq m j hm (by omega)] at hb'
          go_wp2_with fail
          refine (unhide CB _ _).mono ?_
          rintro e w1 ⟨rfl, rfl⟩
          go_wp2_with fail
          go_ret
          exact ⟨ret_bool (by
            rw [unhide HR]
            symm
            rw [decide_eq_false_iff_not]
            intro hlt2
            have := bits_out hlt2 j hj0
            simp at hb'
            rw [this] at hb'
            cases hb'), G.alloc _ _⟩

set_option maxHeartbeats 400000 in
theorem rgood_any (k f : Int) (m : Nat) (w : World) (hm : m < 18446744073709551616) :
    Calls Try.prog 17 #[.agg #[.int .i64 k, .int .i64 f, .int .u64 (m : Int)]] w fun e w' => e = .returned (.bool (goodB k f m)) ∧ G w w' := by
  by_cases hk : k = 0 ∨ k = 2
  · by_cases h0 : f < 0
    · have E : goodB k f m = false := by unfold goodB; rw [if_pos hk]; simp [inB]; omega
      rw [E]
      clear E
      rcases hk with rfl | rfl
      all_goals
        go_enter Try.func17, Try.ntmps17
        go_wp2_with fail
        go_ret
        exact ⟨rfl, G.alloc _ _⟩
    by_cases h1 : 63 < f
    · have d0 : decide (f < 0) = false := by simpa using h0
      have E : goodB k f m = false := by unfold goodB; rw [if_pos hk]; simp [inB]; omega
      rw [E]
      clear E
      rcases hk with rfl | rfl
      all_goals
        go_enter Try.func17, Try.ntmps17
        go_wp2_with fail
        go_ret
        exact ⟨rfl, G.alloc _ _⟩
    · obtain ⟨n, rfl⟩ := Int.eq_ofNat_of_zero_le (show 0 ≤ f by omega)
      have E : goodB k n m = decide (m < 2 ^ n) := by
        have : inB (n : Int) 0 63 = true := by simp [inB]; omega
        unfold goodB
        rw [if_pos hk, this]
        simp
      rw [E]
      exact rgood_02 k n m w hm hk (by omega)
  by_cases hk1 : k = 1 ∨ k = 3
  · have E : goodB k f m = (decide (f = 0) && decide (m ≤ 1)) := by unfold goodB; rw [if_neg hk, if_pos hk1]
    rw [E]
    clear E
    by_cases hf : f = 0
    · subst hf
      by_cases hm : (m : Int) ≤ 1
      · have hm' : m ≤ 1 := by omega
        rcases hk1 with rfl | rfl
        all_goals
          go_enter Try.func17, Try.ntmps17
          go_wp2_with fail
          go_ret
          exact ⟨ret_bool (by simp [hm']), G.alloc _ _⟩
      · have hd : decide ((m : Int) ≤ 1) = false := by simpa using hm
        rcases hk1 with rfl | rfl
        all_goals
          go_enter Try.func17, Try.ntmps17
          go_wp2_with fail
          go_ret
          exact ⟨ret_bool (by simp; omega), G.alloc _ _⟩
    · have hb : (f == 0) = false := by simpa using hf
      rcases hk1 with rfl | rfl
      all_goals
        go_enter Try.func17, Try.ntmps17
        go_wp2_with fail
        go_ret
        exact ⟨ret_bool (by simp [hf]), G.alloc _ _⟩
  · have E : goodB k f m = false := by unfold goodB; rw [if_neg hk, if_neg hk1]
    rw [E]
    clear E
    have h0 : (k == 0) = false := by simp; omega
    have h1 : (k == 1) = false := by simp; omega
    have h2 : (k == 2) = false := by simp; omega
    have h3 : (k == 3) = false := by simp; omega
    clear hk hk1
    go_enter Try.func17, Try.ntmps17
    go_wp2_with fail
    go_ret
    exact ⟨rfl, G.alloc _ _⟩
end Go.Proofs.Ytionokpdplgjbaa
