/- BitsFields of package gantlinelaw1: for all uint64 w, v and int at, n, p the law answers true; nothing that was there is turned. -/
import Derived.Test.YtdlnfmmblcfdoabDoorBase
namespace Go.Proofs.YtdlnfmmblcfdoabDoor
open Go.ChangeShapes Go.WideShapes Go.ChangeAt Go.RowKit

theorem mask_bit (a n i : Nat) : ((2 ^ n - 1) * 2 ^ a).testBit i = (decide (a ≤ i) && decide (i < a + n)) := by
  rw [Nat.testBit_mul_two_pow, Nat.testBit_two_pow_sub_one]
  by_cases h : a ≤ i
  · simp only [h, decide_true, Bool.true_and]
    congr 1
    apply propext; omega
  · simp [h]

theorem with_bit (x a n v i : Nat) (hx : x < 18446744073709551616) (h : a + n ≤ 64) :
    (withN x a n v).testBit i = if a ≤ i ∧ i < a + n then v.testBit (i - a) else x.testBit i := by
  unfold withN
  have hm := mask_lt a n h
  have e : 18446744073709551615 - (2 ^ n - 1) * 2 ^ a = 2 ^ 64 - ((2 ^ n - 1) * 2 ^ a + 1) := by omega
  have e2 : (18446744073709551616 : Nat) = 2 ^ 64 := rfl
  rw [Nat.testBit_or, Nat.testBit_and, Nat.testBit_and, e, Nat.testBit_two_pow_sub_succ hm, mask_bit, e2, Nat.testBit_mod_two_pow, Nat.testBit_mul_two_pow]
  by_cases h1 : a ≤ i
  · by_cases h2 : i < a + n
    · have h3 : i < 64 := by omega
      simp [h1, h2, h3]
    · simp only [h1, h2, decide_true, decide_false, Bool.and_false, Bool.or_false, Bool.not_false, Bool.and_true, true_and, if_false]
      by_cases h3 : i < 64
      · simp [h3]
      · have : x.testBit i = false := Nat.testBit_lt_two_pow (Nat.lt_of_lt_of_le hx (show 2 ^ 64 ≤ 2 ^ i from Nat.pow_le_pow_right (by decide) (by omega)))
        simp [h3, this]
  · simp only [h1, decide_false, Bool.false_and, Bool.and_false, Bool.or_false, Bool.not_false, Bool.and_true, false_and, if_false]
    have h3 : i < 64 := by omega
    simp [h3]

theorem field_bit (x a n i : Nat) : (fieldN x a n).testBit i = (decide (i < n) && x.testBit (a + i)) := by
  unfold fieldN
  rw [Nat.testBit_mod_two_pow, Nat.testBit_div_two_pow, Nat.add_comm]

theorem field_with (x a n v : Nat) (hx : x < 18446744073709551616) (h : a + n ≤ 64) : fieldN (withN x a n v) a n = fieldN v 0 n := by
  apply Nat.eq_of_testBit_eq
  intro i
  rw [field_bit, field_bit, with_bit x a n v _ hx h]
  by_cases h1 : i < n
  · rw [if_pos (by omega)]; simp
  · simp [h1]

theorem field_else (x a n v p : Nat) (hx : x < 18446744073709551616) (h : a + n ≤ 64) (hp : p < a ∨ a + n ≤ p) : fieldN (withN x a n v) p 1 = fieldN x p 1 := by
  apply Nat.eq_of_testBit_eq
  intro i
  rw [field_bit, field_bit, with_bit x a n v _ hx h]
  by_cases h1 : i < 1
  · rw [if_neg (by omega)]
  · simp [h1]

theorem with_lt (x a n v : Nat) (hx : x < 18446744073709551616) (h : a + n ≤ 64) : withN x a n v < 18446744073709551616 := by
  unfold withN
  have h0 := mask_lt a n h
  exact Nat.or_lt_two_pow (n := 64) (Nat.lt_of_le_of_lt Nat.and_le_left hx) (Nat.lt_of_le_of_lt Nat.and_le_right h0)

theorem nat_bne_f {x y : Nat} (h : x = y) : ((x : Int) != (y : Int)) = false := by rw [h]; simp
theorem nat_beq_t {x y : Nat} (h : x = y) : ((x : Int) == (y : Int)) = true := by rw [h]; simp

theorem field_one (x p : Nat) (w : World) (hx : x < 18446744073709551616) (h : p ≤ 63) :
    Calls Tryd.prog 8 #[.int .u64 (x : Int), .int .i64 (p : Int), .int .i64 1] w fun e w' => e = .returned (.int .u64 (fieldN x p 1 : Int)) ∧ ∃ k, w' = w.drewN k := field_any x p 1 w hx (by omega)
theorem field_low (x n : Nat) (w : World) (hx : x < 18446744073709551616) (h : n ≤ 64) :
    Calls Tryd.prog 8 #[.int .u64 (x : Int), .int .i64 0, .int .i64 (n : Int)] w fun e w' => e = .returned (.int .u64 (fieldN x 0 n : Int)) ∧ ∃ k, w' = w.drewN k := field_any x 0 n w hx (by omega)

set_option maxHeartbeats 400000 in
set_option maxRecDepth 100000 in
theorem fields_in (x a n v p : Nat) (w : World) (ht : Tab w) (hx : x < 18446744073709551616) (hv : v < 18446744073709551616) (h0 : 1 ≤ n) (h1 : a + n ≤ 64) (h2 : p ≤ 63) (hp0 : a ≤ p) (hp1 : p < a + n) :
    Calls Tryd.prog 3 #[.int .u64 (x : Int), .int .i64 (a : Int), .int .i64 (n : Int), .int .u64 (v : Int), .int .i64 (p : Int)] w fun e w' => e = .returned (.bool true) ∧ Grown w w' := by
  have C := hide (awake_any w ht)
  clear ht
  have hy := with_lt x a n v hx h1
  have s1 := nat_bne_f (field_with x a n v hx h1)
  have CW := hide (fun w => with_any x a n v w hx h1)
  generalize withN x a n v = y at *
  go_enter Tryd.func3, Tryd.ntmps3
  go_wp2_with fail
  refine (unhide C).mono ?_
  rintro e w1 ⟨rfl, hg, _⟩
  have HG := hide hg
  clear hg C
  go_wp2_with fail
  refine (unhide CW _).mono ?_
  rintro e w' ⟨rfl, rfl⟩
  clear CW
  go_wp2_with fail
  refine (field_any _ _ _ _ hy h1).mono ?_
  rintro e w2 ⟨rfl, k2, rfl⟩
  go_wp2_with fail
  refine (field_low _ _ _ hv (by omega)).mono ?_
  rintro e w2 ⟨rfl, k3, rfl⟩
  go_wp2_with fail
  go_ret
  exact ⟨rfl, grown_draws (unhide HG) _⟩

set_option maxHeartbeats 400000 in
set_option maxRecDepth 100000 in
theorem fields_lo (x a n v p : Nat) (w : World) (ht : Tab w) (hx : x < 18446744073709551616) (hv : v < 18446744073709551616) (h0 : 1 ≤ n) (h1 : a + n ≤ 64) (h2 : p ≤ 63) (hp : p < a) :
    Calls Tryd.prog 3 #[.int .u64 (x : Int), .int .i64 (a : Int), .int .i64 (n : Int), .int .u64 (v : Int), .int .i64 (p : Int)] w fun e w' => e = .returned (.bool true) ∧ Grown w w' := by
  have C := hide (awake_any w ht)
  clear ht
  have hy := with_lt x a n v hx h1
  have s1 := nat_bne_f (field_with x a n v hx h1)
  have CW := hide (fun w => with_any x a n v w hx h1)
  have s2 := nat_beq_t (field_else x a n v p hx h1 (Or.inl hp))
  generalize withN x a n v = y at *
  go_enter Tryd.func3, Tryd.ntmps3
  go_wp2_with fail
  refine (unhide C).mono ?_
  rintro e w1 ⟨rfl, hg, _⟩
  have HG := hide hg
  clear hg C
  go_wp2_with fail
  refine (unhide CW _).mono ?_
  rintro e w' ⟨rfl, rfl⟩
  clear CW
  go_wp2_with fail
  refine (field_any _ _ _ _ hy h1).mono ?_
  rintro e w2 ⟨rfl, k2, rfl⟩
  go_wp2_with fail
  refine (field_low _ _ _ hv (by omega)).mono ?_
  rintro e w2 ⟨rfl, k3, rfl⟩
  go_wp2_with fail
  refine (field_one _ _ _ hy h2).mono ?_
  rintro e w2 ⟨rfl, k4, rfl⟩
  go_wp2_with fail
  refine (field_one _ _ _ hx h2).mono ?_
  rintro e w2 ⟨rfl, k5, rfl⟩
  go_wp2_with fail
  go_ret
  exact ⟨rfl, grown_draws (unhide HG) _⟩

set_option maxHeartbeats 400000 in
set_option maxRecDepth 100000 in
theorem fields_hi (x a n v p : Nat) (w : World) (ht : Tab w) (hx : x < 18446744073709551616) (hv : v < 18446744073709551616) (h0 : 1 ≤ n) (h1 : a + n ≤ 64) (h2 : p ≤ 63) (hp : a + n ≤ p) :
    Calls Tryd.prog 3 #[.int .u64 (x : Int), .int .i64 (a : Int), .int .i64 (n : Int), .int .u64 (v : Int), .int .i64 (p : Int)] w fun e w' => e = .returned (.bool true) ∧ Grown w w' := by
  have C := hide (awake_any w ht)
  clear ht
  have hy := with_lt x a n v hx h1
  have s1 := nat_bne_f (field_with x a n v hx h1)
  have CW := hide (fun w => with_any x a n v w hx h1)
  have s2 := nat_beq_t (field_else x a n v p hx h1 (Or.inr hp))
  generalize withN x a n v = y at *
  go_enter Tryd.func3, Tryd.ntmps3
  go_wp2_with fail
  refine (unhide C).mono ?_
  rintro e w1 ⟨rfl, hg, _⟩
  have HG := hide hg
  clear hg C
  go_wp2_with fail
  refine (unhide CW _).mono ?_
  rintro e w' ⟨rfl, rfl⟩
  clear CW
  go_wp2_with fail
  refine (field_any _ _ _ _ hy h1).mono ?_
  rintro e w2 ⟨rfl, k2, rfl⟩
  go_wp2_with fail
  refine (field_low _ _ _ hv (by omega)).mono ?_
  rintro e w2 ⟨rfl, k3, rfl⟩
  go_wp2_with fail
  refine (field_one _ _ _ hy h2).mono ?_
  rintro e w2 ⟨rfl, k4, rfl⟩
  go_wp2_with fail
  refine (field_one _ _ _ hx h2).mono ?_
  rintro e w2 ⟨rfl, k5, rfl⟩
  go_wp2_with fail
  go_ret
  exact ⟨rfl, grown_draws (unhide HG) _⟩

set_option maxHeartbeats 400000 in
set_option maxRecDepth 100000 in
theorem fields_out0 (x a n v p : Int) (w : World) (ht : Tab w) (c0 : a < 0) :
    Calls Tryd.prog 3 #[.int .u64 x, .int .i64 a, .int .i64 n, .int .u64 v, .int .i64 p] w fun e w' => e = .returned (.bool true) ∧ Grown w w' := by
  have C := hide (awake_any w ht)
  clear ht
  go_enter Tryd.func3, Tryd.ntmps3
  go_wp2_with fail
  refine (unhide C).mono ?_
  rintro e w1 ⟨rfl, hg, _⟩
  have HG := hide hg
  clear hg C
  go_wp2_with fail
  go_ret
  exact ⟨rfl, unhide HG⟩

set_option maxHeartbeats 400000 in
set_option maxRecDepth 100000 in
theorem fields_out1 (x a n v p : Int) (w : World) (ht : Tab w) (c0 : ¬ a < 0) (c1 : 63 < a) :
    Calls Tryd.prog 3 #[.int .u64 x, .int .i64 a, .int .i64 n, .int .u64 v, .int .i64 p] w fun e w' => e = .returned (.bool true) ∧ Grown w w' := by
  have C := hide (awake_any w ht)
  clear ht
  go_enter Tryd.func3, Tryd.ntmps3
  go_wp2_with fail
  refine (unhide C).mono ?_
  rintro e w1 ⟨rfl, hg, _⟩
  have HG := hide hg
  clear hg C
  go_wp2_with fail
  go_ret
  exact ⟨rfl, unhide HG⟩

set_option maxHeartbeats 400000 in
set_option maxRecDepth 100000 in
theorem fields_out2 (x a n v p : Int) (w : World) (ht : Tab w) (c0 : ¬ a < 0) (c1 : ¬ 63 < a) (c2 : n < 1) :
    Calls Tryd.prog 3 #[.int .u64 x, .int .i64 a, .int .i64 n, .int .u64 v, .int .i64 p] w fun e w' => e = .returned (.bool true) ∧ Grown w w' := by
  have C := hide (awake_any w ht)
  clear ht
  go_enter Tryd.func3, Tryd.ntmps3
  go_wp2_with fail
  refine (unhide C).mono ?_
  rintro e w1 ⟨rfl, hg, _⟩
  have HG := hide hg
  clear hg C
  go_wp2_with fail
  go_ret
  exact ⟨rfl, unhide HG⟩

set_option maxHeartbeats 400000 in
set_option maxRecDepth 100000 in
theorem fields_out3 (x a n v p : Int) (w : World) (ht : Tab w) (c0 : ¬ a < 0) (c1 : ¬ 63 < a) (c2 : ¬ n < 1) (c3 : 64 - a < n) :
    Calls Tryd.prog 3 #[.int .u64 x, .int .i64 a, .int .i64 n, .int .u64 v, .int .i64 p] w fun e w' => e = .returned (.bool true) ∧ Grown w w' := by
  have C := hide (awake_any w ht)
  clear ht
  go_enter Tryd.func3, Tryd.ntmps3
  go_wp2_with fail
  refine (unhide C).mono ?_
  rintro e w1 ⟨rfl, hg, _⟩
  have HG := hide hg
  clear hg C
  go_wp2_with fail
  go_ret
  exact ⟨rfl, unhide HG⟩

set_option maxHeartbeats 400000 in
set_option maxRecDepth 100000 in
theorem fields_out4 (x a n v p : Int) (w : World) (ht : Tab w) (c0 : ¬ a < 0) (c1 : ¬ 63 < a) (c2 : ¬ n < 1) (c3 : ¬ 64 - a < n) (c4 : p < 0) :
    Calls Tryd.prog 3 #[.int .u64 x, .int .i64 a, .int .i64 n, .int .u64 v, .int .i64 p] w fun e w' => e = .returned (.bool true) ∧ Grown w w' := by
  have C := hide (awake_any w ht)
  clear ht
  go_enter Tryd.func3, Tryd.ntmps3
  go_wp2_with fail
  refine (unhide C).mono ?_
  rintro e w1 ⟨rfl, hg, _⟩
  have HG := hide hg
  clear hg C
  go_wp2_with fail
  go_ret
  exact ⟨rfl, unhide HG⟩

set_option maxHeartbeats 400000 in
set_option maxRecDepth 100000 in
theorem fields_out5 (x a n v p : Int) (w : World) (ht : Tab w) (c0 : ¬ a < 0) (c1 : ¬ 63 < a) (c2 : ¬ n < 1) (c3 : ¬ 64 - a < n) (c4 : ¬ p < 0) (c5 : 63 < p) :
    Calls Tryd.prog 3 #[.int .u64 x, .int .i64 a, .int .i64 n, .int .u64 v, .int .i64 p] w fun e w' => e = .returned (.bool true) ∧ Grown w w' := by
  have C := hide (awake_any w ht)
  clear ht
  go_enter Tryd.func3, Tryd.ntmps3
  go_wp2_with fail
  refine (unhide C).mono ?_
  rintro e w1 ⟨rfl, hg, _⟩
  have HG := hide hg
  clear hg C
  go_wp2_with fail
  go_ret
  exact ⟨rfl, unhide HG⟩

theorem walk_BitsFields (a0 a1 a2 a3 a4 : Int) (w0 : (Lit.int .u64 a0).wf = true) (_w1 : (Lit.int .i64 a1).wf = true) (_w2 : (Lit.int .i64 a2).wf = true) (w3 : (Lit.int .u64 a3).wf = true) (_w4 : (Lit.int .i64 a4).wf = true) (w : World) (ht : Tab w) :
    Calls Tryd.prog 3 #[.int .u64 a0, .int .i64 a1, .int .i64 a2, .int .u64 a3, .int .i64 a4] w fun e w' => e = .returned (.bool true) ∧ Grown w w' := by
  have b0 := bounds_u64 w0
  have b3 := bounds_u64 w3
  by_cases c0 : a1 < 0
  · exact fields_out0 a0 a1 a2 a3 a4 w ht c0
  by_cases c1 : 63 < a1
  · exact fields_out1 a0 a1 a2 a3 a4 w ht c0 c1
  by_cases c2 : a2 < 1
  · exact fields_out2 a0 a1 a2 a3 a4 w ht c0 c1 c2
  by_cases c3 : 64 - a1 < a2
  · exact fields_out3 a0 a1 a2 a3 a4 w ht c0 c1 c2 c3
  by_cases c4 : a4 < 0
  · exact fields_out4 a0 a1 a2 a3 a4 w ht c0 c1 c2 c3 c4
  by_cases c5 : 63 < a4
  · exact fields_out5 a0 a1 a2 a3 a4 w ht c0 c1 c2 c3 c4 c5
  obtain ⟨x, rfl⟩ := Int.eq_ofNat_of_zero_le b0.1
  obtain ⟨v, rfl⟩ := Int.eq_ofNat_of_zero_le b3.1
  obtain ⟨a, rfl⟩ := Int.eq_ofNat_of_zero_le (by omega : 0 ≤ a1)
  obtain ⟨n, rfl⟩ := Int.eq_ofNat_of_zero_le (by omega : 0 ≤ a2)
  obtain ⟨p, rfl⟩ := Int.eq_ofNat_of_zero_le (by omega : 0 ≤ a4)
  by_cases hp : p < a
  · exact fields_lo x a n v p w ht (by omega) (by omega) (by omega) (by omega) (by omega) hp
  by_cases hq : a + n ≤ p
  · exact fields_hi x a n v p w ht (by omega) (by omega) (by omega) (by omega) (by omega) hq
  · exact fields_in x a n v p w ht (by omega) (by omega) (by omega) (by omega) (by omega) (by omega) (by omega)

set_option maxRecDepth 100000 in
theorem lifted_BitsFields (os : Os) (started : os.Started) (H : Type) (enc : TypeId × Value → H) :
    ReturnsInHanded {} Tryd.checked os 3 .any (fun w args => (Rows.bitsFieldsSpec.pre enc Tryd.prog Tryd.f3 [] false w args ∧ laidMetH Tryd.prog laidTab w) ∧ sizedMet enc Tryd.prog Tryd.f3 (OpenSpec.ofChange Rows.bitsFieldsSpec) false w args)
      (Rows.bitsFieldsSpec.post enc Tryd.prog Tryd.f3 false true false false) := by
  refine returnsInHanded_of_change_and (C := Tryd.checked) (X := fun w _ => laidMetH Tryd.prog laidTab w) (fun _ _ _ hh h => h.of_heap hh) own started (by kernel_rfl) Tryd.func3
    (ChangeSpec.witness_shaped (enc := enc) (C := Tryd.checked) (os := os) (X := fun w _ => laidMetH Tryd.prog laidTab w) false (World.doorLaid Tryd.prog 400 os) #[.int .u64 0, .int .i64 0, .int .i64 0, .int .u64 0, .int .i64 0] 8 rfl (World.shaped_of_RefB (by kernel_rfl) (by kernel_rfl)) (by kernel_rfl) (by kernel_rfl) (by kernel_rfl) (door_met os _)) ?_
  intro W base args ds gs before hval0 hW _ _ hL _
  have hval : ∀ (j : Nat) t v, Tryd.f3.params[j]? = some t → args[j]? = some v → Value.okWide Tryd.prog W .any base t v := hval0
  have hW' := hW
  obtain ⟨p, q, hA0, hV, rfl, hfz, hnd⟩ := hW
  have hA : DataW.TrodAll enc Tryd.prog W 0 (fun _ => true) true Tryd.f3.params.toList args.toList ds p := hA0
  rw [Tryd.params3] at hA hval
  obtain ⟨v0, vs0, d0, ds0, p0, q0, hargs, rfl, rfl, h0, r0⟩ := trodAll_cons hA
  obtain ⟨v1, vs1, d1, ds1, p1, q1, rfl, rfl, rfl, h1, r1⟩ := trodAll_cons r0
  obtain ⟨v2, vs2, d2, ds2, p2, q2, rfl, rfl, rfl, h2, r2⟩ := trodAll_cons r1
  obtain ⟨v3, vs3, d3, ds3, p3, q3, rfl, rfl, rfl, h3, r3⟩ := trodAll_cons r2
  obtain ⟨v4, vs4, d4, ds4, p4, q4, rfl, rfl, rfl, h4, r4⟩ := trodAll_cons r3
  obtain ⟨rfl, rfl, rfl⟩ := trodAll_nil r4
  obtain rfl : args = #[v0, v1, v2, v3, v4] := by cases args; simp_all
  obtain ⟨rfl, rfl⟩ := trodVars_none hV
  obtain ⟨a0, rfl, rfl, rfl, w0⟩ := open_int Tryd.underlying22 (hval 0 22 v0 rfl rfl) h0
  obtain ⟨a1, rfl, rfl, rfl, w1⟩ := open_int Tryd.underlying3 (hval 1 3 v1 rfl rfl) h1
  obtain ⟨a2, rfl, rfl, rfl, w2⟩ := open_int Tryd.underlying3 (hval 2 3 v2 rfl rfl) h2
  obtain ⟨a3, rfl, rfl, rfl, w3⟩ := open_int Tryd.underlying22 (hval 3 22 v3 rfl rfl) h3
  obtain ⟨a4, rfl, rfl, rfl, w4⟩ := open_int Tryd.underlying3 (hval 4 3 v4 rfl rfl) h4
  clear hA0 hval0
  simp only [List.append_nil] at hW'
  refine (walk_BitsFields a0 a1 a2 a3 a4 w0 w1 w2 w3 w4 W (tab_of_laid hL)).mono fun e W' ⟨he, hg⟩ => ?_
  subst he
  exact ⟨_, rfl, post_of_same (pa := []) (pv := []) hW' (fun _ _ _ => trodAll_mk1 (shut_bool Tryd.underlying4 _)) (fun sp _ => (trodAll_cons_mk (shut_int Tryd.underlying22 w0) (trodAll_cons_mk (shut_int Tryd.underlying3 w1) (trodAll_cons_mk (shut_int Tryd.underlying3 w2) (trodAll_cons_mk (shut_int Tryd.underlying22 w3) (trodAll_cons_mk (shut_int Tryd.underlying3 w4) trodAll_mk0)))))) (fun _ _ => rfl) rfl (hg.frame _) hg.2.1 (ok_one (by kernel_rfl) rfl (okWide_bool_mk Tryd.underlying4 _))⟩

theorem row_BitsFields : Rows.BitsFieldsSaid :=
  OpenClaim.holds_of_wide 3 Tryd.f3 rfl rfl rfl rfl rfl rfl rfl ⟨rfl, rfl, rfl, rfl, rfl⟩ rfl rfl rfl rfl rfl (by kernel_rfl) Tryd.func3 (by kernel_rfl)
    (of_decide_eq_true (by kernel_rfl)) (by unfold Func.isWrapper; first | (rw [if_pos (by decide +kernel)]; kernel_rfl) | (rw [if_neg (by decide +kernel)]; exact ⟨rfl, rfl⟩))
    (fun os started H enc _ => lifted_BitsFields os started H enc)

/-- THE STATEMENT. -/
theorem card_BitsFields : Rows.BitsFieldsCardSaid :=
  Claim7.holds_tied_plain_at .later [] [.data] true (true, "f039b18ea7795c9193c642325158515576d5d28e75834aa4ebfd5f8a0cc8d799") false
    row_BitsFields (fun _ h => by cases h) (by kernel_rfl) (fun _ h => by cases h) bitsFields_row_tie rfl ⟨rfl, rfl⟩ (by kernel_rfl) rfl
    (fun f fn hf hfn => by
      obtain rfl : f = 3 := Option.some.inj ((show Tryd.prog.funcNamed "gantline/gantlinelaw1.BitsFields" = some 3 by kernel_rfl).symm.trans hf) |>.symm
      obtain rfl : fn = Tryd.f3 := (Option.some.inj (Tryd.func3.symm.trans hfn)).symm
      exact ⟨by kernel_rfl, fun j t ht => by
        rw [Tryd.params3] at ht
        have hm : t ∈ [22, 3, 3, 22, 3] := by simpa using Array.mem_of_getElem? ht
        have hall : ([22, 3, 3, 22, 3].all fun u => !Tryd.prog.wantsStandIn u) = true := by kernel_rfl
        exact (show Tryd.prog.wantsStandIn t = false by simpa using List.all_eq_true.1 hall t hm)⟩)
    (by kernel_rfl)
#print axioms card_BitsFields
end Go.Proofs.YtdlnfmmblcfdoabDoor
