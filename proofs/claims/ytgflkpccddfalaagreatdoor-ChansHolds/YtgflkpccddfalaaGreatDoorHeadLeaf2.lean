/- The contracts of package head's calls on words and shapes. -/
import Derived.Test.YtgflkpccddfalaaGreatDoorHeadLeaf
namespace Go.Proofs.YtgflkpccddfalaaGreatDoor.Hd
set_option maxRecDepth 100000
open Go.RowKit

/-! ### Pack -/
theorem i64_or_nat (a b : Nat) (ha : a < 4294967296) (hb : b < 4294967296) : bits .or .i64 (a : Int) (b : Int) = ((a ||| b : Nat) : Int) := by
  show IntKind.i64.wrap ((BitVec.ofInt 64 (a : Int) ||| BitVec.ofInt 64 (b : Int)).toNat : Int) = _
  have h : a ||| b < 2 ^ 32 := Nat.or_lt_two_pow ha hb
  rw [BitVec.toNat_or, ofInt_u64 a (by omega), ofInt_u64 b (by omega), IntKind.wrap_i64]
  omega

theorem pack_eq (a b c : Nat) (ha : a ≤ 64) (hb : b ≤ 3) (hc : c ≤ 65535) :
    bits .or .i64 (bits .or .i64 (a : Int) ((b : Int) * 128)) ((c : Int) * 1024) = hw a b c := by
  have e1 : a ||| b * 128 = b * 128 + a := by rw [Nat.or_comm]; exact nat_join 7 _ _ (by omega) (by omega)
  have e2 : (b * 128 + a) ||| c * 1024 = c * 1024 + (b * 128 + a) := by rw [Nat.or_comm]; exact nat_join 10 _ _ (by omega) (by omega)
  have h1 := i64_or_nat a (b * 128) (by omega) (by omega)
  have h2 := i64_or_nat (b * 128 + a) (c * 1024) (by omega) (by omega)
  rw [show (b : Int) * 128 = ((b * 128 : Nat) : Int) by omega, show (c : Int) * 1024 = ((c * 1024 : Nat) : Int) by omega, h1, e1, h2, e2]
  unfold hw
  omega

set_option maxHeartbeats 400000 in
theorem pack_yes (a b c : Int) (w : World) (h : hokB a b c = true) :
    Calls Tryz.prog 47 #[.agg #[.int .i64 a, .int .i64 b, .int .i64 c]] w fun e w' => e = .returned (.tuple #[.int .i64 (hw a b c), .int .i64 0]) ∧ w' = w.alloc (.cells #[.int .i64 a, .int .i64 b, .int .i64 c] 112) := by
  have h' := hokB_iff.1 h
  have i0 : inB a 1 64 = true := inB_iff.2 h'.1
  have i1 : inB b 0 3 = true := inB_iff.2 h'.2.1
  have i2 : inB c 0 65535 = true := inB_iff.2 h'.2.2
  obtain ⟨x, rfl⟩ := Int.eq_ofNat_of_zero_le (show 0 ≤ a by omega)
  obtain ⟨y, rfl⟩ := Int.eq_ofNat_of_zero_le (show 0 ≤ b by omega)
  obtain ⟨z, rfl⟩ := Int.eq_ofNat_of_zero_le (show 0 ≤ c by omega)
  have E := hide (pack_eq x y z (by omega) (by omega) (by omega))
  generalize hw (x : Int) y z = q at *
  go_enter Tryz.func47, Tryz.ntmps47
  go_wp2_with (go_at_call 43; refine (within_any _ _ _ _).mono ?_; rintro e w' ⟨rfl, rfl⟩)
  go_ret2
  exact ⟨congrArg (fun t => Ending.returned (.tuple #[.int .i64 t, .int .i64 0])) (unhide E), rfl⟩

set_option maxHeartbeats 400000 in
theorem pack_no (a b c : Int) (w : World) (h : hokB a b c = false) :
    Calls Tryz.prog 47 #[.agg #[.int .i64 a, .int .i64 b, .int .i64 c]] w fun e w' => e = .returned (.tuple #[.int .i64 0, .int .i64 1]) ∧ w' = w.alloc (.cells #[.int .i64 a, .int .i64 b, .int .i64 c] 112) := by
  unfold hokB at h
  by_cases i0 : inB a 1 64 = true
  · by_cases i1 : inB b 0 3 = true
    · have i2 : inB c 0 65535 = false := by rw [i0, i1] at h; simpa using h
      clear h
      go_enter Tryz.func47, Tryz.ntmps47
      go_wp2_with (go_at_call 43; refine (within_any _ _ _ _).mono ?_; rintro e w' ⟨rfl, rfl⟩)
      go_ret2
      exact ⟨rfl, rfl⟩
    · have i1 : inB b 0 3 = false := by simpa using i1
      clear h
      go_enter Tryz.func47, Tryz.ntmps47
      go_wp2_with (go_at_call 43; refine (within_any _ _ _ _).mono ?_; rintro e w' ⟨rfl, rfl⟩)
      go_ret2
      exact ⟨rfl, rfl⟩
  · have i0 : inB a 1 64 = false := by simpa using i0
    clear h
    go_enter Tryz.func47, Tryz.ntmps47
    go_wp2_with (go_at_call 43; refine (within_any _ _ _ _).mono ?_; rintro e w' ⟨rfl, rfl⟩)
    go_ret2
    exact ⟨rfl, rfl⟩

/-- What Pack answers. -/
def pkV (a b c : Int) : Int := if hokB a b c = true then hw a b c else 0
def pkE (a b c : Int) : Int := if hokB a b c = true then 0 else 1
theorem pack_any (a b c : Int) (w : World) :
    Calls Tryz.prog 47 #[.agg #[.int .i64 a, .int .i64 b, .int .i64 c]] w fun e w' => e = .returned (.tuple #[.int .i64 (pkV a b c), .int .i64 (pkE a b c)]) ∧ w' = w.alloc (.cells #[.int .i64 a, .int .i64 b, .int .i64 c] 112) := by
  by_cases h : hokB a b c = true
  · rw [pkV, if_pos h, pkE, if_pos h]; exact pack_yes a b c w h
  · rw [pkV, if_neg h, pkE, if_neg h]; exact pack_no a b c w (by simpa using h)

/-! ### Unpack -/
theorem part0 (v : Int) : (fieldN (u64N v) 0 7 : Int) = up0 v := by unfold fieldN u64N up0; omega
theorem part1 (v : Int) : (fieldN (u64N v) 7 3 : Int) = up1 v := by unfold fieldN u64N up1; omega
theorem part2 (v : Int) : (fieldN (u64N v) 10 16 : Int) = up2 v := by unfold fieldN u64N up2; omega
theorem part0_any (v : Int) (w : World) : Calls Tryz.prog 83 #[.int .i64 v, .int .i64 0, .int .i64 7] w fun e w' => e = .returned (.int .i64 (up0 v)) ∧ ∃ k, w' = w.drewN k := by
  rw [← part0]; exact part_any v 0 7 w (by omega) (by unfold fieldN; omega)
theorem part1_any (v : Int) (w : World) : Calls Tryz.prog 83 #[.int .i64 v, .int .i64 7, .int .i64 3] w fun e w' => e = .returned (.int .i64 (up1 v)) ∧ ∃ k, w' = w.drewN k := by
  rw [← part1]; exact part_any v 7 3 w (by omega) (by unfold fieldN; omega)
theorem part2_any (v : Int) (w : World) : Calls Tryz.prog 83 #[.int .i64 v, .int .i64 10, .int .i64 16] w fun e w' => e = .returned (.int .i64 (up2 v)) ∧ ∃ k, w' = w.drewN k := by
  rw [← part2]; exact part_any v 10 16 w (by omega) (by unfold fieldN; omega)

set_option maxHeartbeats 400000 in
theorem unpack_core (v a b c p q : Int) (w : World)
    (C0 : Hid (∀ w, Calls Tryz.prog 83 #[.int .i64 v, .int .i64 0, .int .i64 7] w fun e w' => e = .returned (.int .i64 a) ∧ ∃ k, w' = w.drewN k))
    (C1 : Hid (∀ w, Calls Tryz.prog 83 #[.int .i64 v, .int .i64 7, .int .i64 3] w fun e w' => e = .returned (.int .i64 b) ∧ ∃ k, w' = w.drewN k))
    (C2 : Hid (∀ w, Calls Tryz.prog 83 #[.int .i64 v, .int .i64 10, .int .i64 16] w fun e w' => e = .returned (.int .i64 c) ∧ ∃ k, w' = w.drewN k))
    (CP : Hid (∀ w, Calls Tryz.prog 47 #[.agg #[.int .i64 a, .int .i64 b, .int .i64 c]] w fun e w' => e = .returned (.tuple #[.int .i64 p, .int .i64 q]) ∧ w' = w.alloc (.cells #[.int .i64 a, .int .i64 b, .int .i64 c] 112)))
    (t1 : (q != 0) = false) (t2 : (p != v) = false) :
    Calls Tryz.prog 67 #[.int .i64 v] w fun e w' =>
      e = .returned (.tuple #[.agg #[.int .i64 a, .int .i64 b, .int .i64 c], .int .i64 0]) ∧ G w w' := by
  go_enter Tryz.func67, Tryz.ntmps67
  go_wp2_with fail
  refine (unhide C0 _).mono ?_
  rintro e w1 ⟨rfl, k1, rfl⟩
  go_wp2_with fail
  refine (unhide C1 _).mono ?_
  rintro e w1 ⟨rfl, k2, rfl⟩
  go_wp2_with fail
  refine (unhide C2 _).mono ?_
  rintro e w1 ⟨rfl, k3, rfl⟩
  go_wp2_with fail
  refine (unhide CP _).mono ?_
  rintro e w1 ⟨rfl, rfl⟩
  go_wp2_with fail
  go_returns
  refine ⟨rfl, ?_⟩
  go_grown
  exact below_drewN (G.alloc _ _) _

set_option maxHeartbeats 400000 in
theorem unpack_core_no (v a b c p q : Int) (w : World)
    (C0 : Hid (∀ w, Calls Tryz.prog 83 #[.int .i64 v, .int .i64 0, .int .i64 7] w fun e w' => e = .returned (.int .i64 a) ∧ ∃ k, w' = w.drewN k))
    (C1 : Hid (∀ w, Calls Tryz.prog 83 #[.int .i64 v, .int .i64 7, .int .i64 3] w fun e w' => e = .returned (.int .i64 b) ∧ ∃ k, w' = w.drewN k))
    (C2 : Hid (∀ w, Calls Tryz.prog 83 #[.int .i64 v, .int .i64 10, .int .i64 16] w fun e w' => e = .returned (.int .i64 c) ∧ ∃ k, w' = w.drewN k))
    (CP : Hid (∀ w, Calls Tryz.prog 47 #[.agg #[.int .i64 a, .int .i64 b, .int .i64 c]] w fun e w' => e = .returned (.tuple #[.int .i64 p, .int .i64 q]) ∧ w' = w.alloc (.cells #[.int .i64 a, .int .i64 b, .int .i64 c] 112)))
    (t : (q != 0) = true ∨ (q != 0) = false ∧ (p != v) = true) :
    Calls Tryz.prog 67 #[.int .i64 v] w fun e w' =>
      e = .returned (.tuple #[.agg #[.int .i64 0, .int .i64 0, .int .i64 0], .int .i64 3]) ∧ G w w' := by
  rcases t with t1 | ⟨t1, t2⟩
  all_goals
    go_enter Tryz.func67, Tryz.ntmps67
    go_wp2_with fail
    refine (unhide C0 _).mono ?_
    rintro e w1 ⟨rfl, k1, rfl⟩
    go_wp2_with fail
    refine (unhide C1 _).mono ?_
    rintro e w1 ⟨rfl, k2, rfl⟩
    go_wp2_with fail
    refine (unhide C2 _).mono ?_
    rintro e w1 ⟨rfl, k3, rfl⟩
    go_wp2_with fail
    refine (unhide CP _).mono ?_
    rintro e w1 ⟨rfl, rfl⟩
    go_wp2_with fail
    go_returns
    refine ⟨rfl, ?_⟩
    go_grown
    exact below_drewN (G.alloc _ _) _

/-- What Unpack answers. -/
def ukV (v x : Int) : Int := if uokB v = true then x else 0
def ukE (v : Int) : Int := if uokB v = true then 0 else 3
theorem unpack_any (v : Int) (w : World) :
    Calls Tryz.prog 67 #[.int .i64 v] w fun e w' =>
      e = .returned (.tuple #[.agg #[.int .i64 (ukV v (up0 v)), .int .i64 (ukV v (up1 v)), .int .i64 (ukV v (up2 v))], .int .i64 (ukE v)]) ∧ G w w' := by
  by_cases h : uokB v = true
  · simp only [ukV, ukE, if_pos h]
    have h' := h
    unfold uokB at h'
    rw [Bool.and_eq_true] at h'
    refine unpack_core v _ _ _ _ _ w (hide (part0_any v)) (hide (part1_any v)) (hide (part2_any v)) (hide (pack_any _ _ _)) ?_ ?_
    · simp [pkE, h'.2]
    · simp [pkV, h'.2, (up_hw v h'.2).2 h'.1]
  · simp only [ukV, ukE, if_neg h]
    refine unpack_core_no v _ _ _ _ _ w (hide (part0_any v)) (hide (part1_any v)) (hide (part2_any v)) (hide (pack_any _ _ _)) ?_
    by_cases h2 : hokB (up0 v) (up1 v) (up2 v) = true
    · right
      refine ⟨by simp [pkE, h2], ?_⟩
      have h3 : ¬ inB v 0 67108863 = true := fun h4 => h (by simp [uokB, h2, h4])
      have h5 : ¬ hw (up0 v) (up1 v) (up2 v) = v := fun e => h3 ((up_hw v h2).1 e)
      simp [pkV, h2, h5]
    · left
      simp [pkE, h2]

/-! ### Good -/
theorem kinds4 (k : Int) : k = 0 ∨ k = 1 ∨ k = 2 ∨ k = 3 ∨ ((k == 0) = false ∧ (k == 1) = false ∧ (k == 2) = false ∧ (k == 3) = false) := by
  simp; omega

theorem shr_zero (m n : Nat) : ((m : Int) / 2 ^ n == 0) = decide (m < 2 ^ n) := by
  have e : (m : Int) / 2 ^ n = ((m / 2 ^ n : Nat) : Int) := by simp
  rw [e, Bool.eq_iff_iff]
  simp only [beq_iff_eq, decide_eq_true_eq]
  rw [show ((m / 2 ^ n : Nat) : Int) = 0 ↔ m / 2 ^ n = 0 by omega, Nat.div_eq_zero_iff]
  have := Nat.two_pow_pos n
  omega

set_option maxHeartbeats 400000 in
theorem good_02 (k f : Int) (m : Nat) (w : World) (hk : k = 0 ∨ k = 2) :
    Calls Tryz.prog 22 #[.agg #[.int .i64 k, .int .i64 f, .int .u64 (m : Int)]] w fun e w' => e = .returned (.bool (goodB k f m)) ∧ w' = w.alloc (.cells #[.int .i64 k, .int .i64 f, .int .u64 (m : Int)] 59) := by
  by_cases hf : inB f 0 63 = true
  · obtain ⟨n, rfl⟩ := Int.eq_ofNat_of_zero_le (inB_iff.1 hf).1
    have hn := (inB_iff.1 hf).2
    have E : goodB k n m = ((m : Int) / 2 ^ n == 0) := by rw [shr_zero]; unfold goodB; rw [if_pos hk, hf]; simp
    generalize goodB k n m = g at *
    have E' := hide E
    clear E
    rcases hk with rfl | rfl
    all_goals
      go_enter Tryz.func22, Tryz.ntmps22
      go_wp2_with (go_at_call 43; refine (within_any _ _ _ _).mono ?_; rintro e w' ⟨rfl, rfl⟩)
      go_ret
      exact ⟨ret_bool (by simpa using (unhide E').symm), rfl⟩
  · have hf : inB f 0 63 = false := by simpa using hf
    have E : goodB k f m = false := by unfold goodB; rw [if_pos hk, hf]; simp
    rw [E]
    clear E
    rcases hk with rfl | rfl
    all_goals
      go_enter Tryz.func22, Tryz.ntmps22
      go_wp2_with (go_at_call 43; refine (within_any _ _ _ _).mono ?_; rintro e w' ⟨rfl, rfl⟩)
      go_ret
      exact ⟨rfl, rfl⟩

set_option maxHeartbeats 400000 in
theorem good_13 (k f : Int) (m : Nat) (w : World) (hk : k = 1 ∨ k = 3) :
    Calls Tryz.prog 22 #[.agg #[.int .i64 k, .int .i64 f, .int .u64 (m : Int)]] w fun e w' => e = .returned (.bool (goodB k f m)) ∧ w' = w.alloc (.cells #[.int .i64 k, .int .i64 f, .int .u64 (m : Int)] 59) := by
  have E : goodB k f m = (decide (f = 0) && decide (m ≤ 1)) := by unfold goodB; rw [if_neg (by omega), if_pos hk]
  rw [E]
  clear E
  by_cases hf : f = 0
  · subst hf
    by_cases hm : (m : Int) ≤ 1
    · have hm' : m ≤ 1 := by omega
      rcases hk with rfl | rfl
      all_goals
        go_enter Tryz.func22, Tryz.ntmps22
        go_wp2_with fail
        go_ret
        exact ⟨ret_bool (by simp [hm']), rfl⟩
    · have hd : decide ((m : Int) ≤ 1) = false := by simpa using hm
      rcases hk with rfl | rfl
      all_goals
        go_enter Tryz.func22, Tryz.ntmps22
        go_wp2_with fail
        go_ret
        exact ⟨ret_bool (by simp; omega), rfl⟩
  · have hb : (f == 0) = false := by simpa using hf
    rcases hk with rfl | rfl
    all_goals
      go_enter Tryz.func22, Tryz.ntmps22
      go_wp2_with fail
      go_ret
      exact ⟨ret_bool (by simp [hf]), rfl⟩

set_option maxHeartbeats 400000 in
theorem good_any (k f : Int) (m : Nat) (w : World) :
    Calls Tryz.prog 22 #[.agg #[.int .i64 k, .int .i64 f, .int .u64 (m : Int)]] w fun e w' => e = .returned (.bool (goodB k f m)) ∧ w' = w.alloc (.cells #[.int .i64 k, .int .i64 f, .int .u64 (m : Int)] 59) := by
  rcases kinds4 k with h | h | h | h | ⟨h0, h1, h2, h3⟩
  · exact good_02 k f m w (Or.inl h)
  · exact good_13 k f m w (Or.inl h)
  · exact good_02 k f m w (Or.inr h)
  · exact good_13 k f m w (Or.inr h)
  · have E : goodB k f m = false := by
      unfold goodB
      simp at h0 h1 h2 h3
      rw [if_neg (by omega), if_neg (by omega)]
    rw [E]
    clear E
    go_enter Tryz.func22, Tryz.ntmps22
    go_wp2_with fail
    go_ret
    exact ⟨rfl, rfl⟩

/-! ### Holds -/
theorem field1_eq (m i : Nat) : ((fieldN m i 1 : Int) == 1) = m.testBit i := by
  rw [Nat.testBit_eq_decide_div_mod_eq, Bool.eq_iff_iff]
  unfold fieldN
  generalize m / 2 ^ i = y
  simp only [beq_iff_eq, decide_eq_true_eq]
  omega

set_option maxHeartbeats 400000 in
theorem elements_any (k f : Int) (m : Nat) (w : World) (hm : m < 18446744073709551616) :
    Calls Tryz.prog 68 #[.agg #[.int .i64 k, .int .i64 f, .int .u64 (m : Int)]] w fun e w' => e = .returned (.bool (m.testBit 0)) ∧ G w w' := by
  have C := hide (fun w => field_any m 0 1 w hm (by omega))
  have E := hide (field1_eq m 0)
  generalize m.testBit 0 = b at *
  generalize fieldN m 0 1 = q at *
  go_enter Tryz.func68, Tryz.ntmps68
  go_wp2_with fail
  refine (unhide C _).mono ?_
  rintro e w1 ⟨rfl, k1, rfl⟩
  go_wp2_with fail
  go_ret
  exact ⟨ret_bool (unhide E), below_drewN (G.alloc _ _) _⟩

end Go.Proofs.YtgflkpccddfalaaGreatDoor.Hd
