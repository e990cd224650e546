/- BitsShifts of package gantlinelaw1: for all int64 a, n the law answers true; nothing that was there is turned. -/
import Derived.Test.YtdlnfmmblcfdoaaDoorBase
namespace Go.Proofs.YtdlnfmmblcfdoaaDoor
open Go.ChangeShapes Go.WideShapes Go.ChangeAt Go.RowKit

/-- A number shifted up, and down. -/
def upN (a n : Int) : Int := w63 (a * 2 ^ n.toNat)
def downN (a n : Int) : Int := w63 a / 2 ^ n.toNat

theorem shl_up (a n : Int) (w : World) (h0 : 0 ≤ n) (h1 : n ≤ 62) :
    Calls Tryd.prog 14 #[.int .i64 a, .int .i64 n] w fun e w' => e = .returned (.int .i64 (upN a n)) ∧ w' = w := shl_any a n w h0 h1
theorem shr_down (a n : Int) (w : World) (h0 : 0 ≤ n) (h1 : n ≤ 62) :
    Calls Tryd.prog 13 #[.int .i64 a, .int .i64 n] w fun e w' => e = .returned (.int .i64 (downN a n)) ∧ w' = w := shr_any a n w h0 h1

theorem up_succ (a n : Int) (h : 1 ≤ n) : upN a n = w63 (upN a (n - 1) + upN a (n - 1)) := by
  unfold upN
  obtain ⟨k, rfl⟩ : ∃ k : Nat, n = (k : Int) + 1 := ⟨(n - 1).toNat, by omega⟩
  have e1 : ((k : Int) + 1).toNat = k + 1 := by omega
  have e2 : ((k : Int) + 1 - 1).toNat = k := by omega
  rw [e1, e2, Int.pow_succ]
  have e3 : a * (2 ^ k * 2) = 2 * (a * 2 ^ k) := by rw [← Int.mul_assoc]; omega
  rw [e3]
  generalize a * 2 ^ k = x
  unfold w63; omega

theorem pow_split (n : Int) (h0 : 0 ≤ n) (h1 : n ≤ 62) : (2 : Int) ^ (62 - n).toNat * 2 ^ n.toNat = 4611686018427387904 := by
  rw [← Int.pow_add, show (62 - n).toNat + n.toNat = 62 by omega]; rfl

theorem down_up63 (a n P : Int) (h0 : 0 ≤ n) (h1 : n ≤ 62) (hP : P = 2 ^ (62 - n).toNat) (l0 : -P ≤ w63 a) (l1 : w63 a < P) : downN (upN a n) n = w63 a := by
  unfold downN upN
  have e : w63 (a * 2 ^ n.toNat) = w63 (w63 a * 2 ^ n.toNat) := by
    obtain ⟨k, hk⟩ := w63_form a
    rw [hk]
    exact (w63_dvd ⟨k * 2 ^ n.toNat, by rw [Int.add_mul, Int.mul_assoc]⟩).symm
  have hs := pow_split n h0 h1
  rw [← hP] at hs
  have hq : (0 : Int) < 2 ^ n.toNat := Int.pow_pos (by decide)
  rw [e]
  generalize (2 : Int) ^ n.toNat = q at *
  generalize w63 a = x at *
  have b0 : -(P * q) ≤ x * q := by rw [← Int.neg_mul]; exact Int.mul_le_mul_of_nonneg_right l0 (by omega)
  have b1 : x * q < P * q := Int.mul_lt_mul_of_pos_right l1 hq
  rw [w63_in (x * q) (by omega) (by omega), w63_in (x * q) (by omega) (by omega)]
  exact Int.mul_ediv_cancel x (by omega)

theorem up0 (a : Int) : downN a 0 = w63 a := by unfold downN; simp

theorem pw1 (n P : Int) (h0 : 0 ≤ n) (h1 : n ≤ 62) (hP : P = 2 ^ (62 - n).toNat) : wrap64 (-P) = -P ∧ wrap64 P = P := by
  have hs := pow_split n h0 h1
  rw [← hP] at hs
  have hq : (0 : Int) < 2 ^ n.toNat := Int.pow_pos (by decide)
  have hp : (0 : Int) < 2 ^ (62 - n).toNat := Int.pow_pos (by decide)
  rw [← hP] at hp
  have : P * 1 ≤ P * 2 ^ n.toNat := Int.mul_le_mul_of_nonneg_left (by omega) (by omega)
  unfold wrap64; omega

set_option maxHeartbeats 400000 in
set_option maxRecDepth 100000 in
theorem shifts_in (a n P j : Int) (w : World) (C : Hid (Calls Tryd.prog 9 #[] w fun e w' => e = .returned (.bool true) ∧ Grown w w' ∧ Below w.heap.size w w')) (h0 : 1 ≤ n) (h1 : n ≤ 62) (s1 : (upN a n != w63 (upN a (n - 1) + upN a (n - 1))) = false) (hj : 62 - n = j) (e1 : wrap64 (-2 ^ j.toNat) = -P) (e2 : wrap64 (2 ^ j.toNat) = P) (l0 : -P ≤ w63 a) (l1 : w63 a < P) (s2 : (downN (upN a n) n != w63 a) = false)
    : Calls Tryd.prog 8 #[.int .i64 a, .int .i64 n] w fun e w' => e = .returned (.bool true) ∧ Grown w w' := by
  go_enter Tryd.func8, Tryd.ntmps8
  go_wp2_with fail
  refine (unhide C).mono ?_
  rintro e w1 ⟨rfl, hg, _⟩
  have HG := hide hg
  clear hg C
  go_wp2_with (first
    | (go_at_call 23; refine (add_any _ _ _).mono ?_; rintro e w' ⟨rfl, rfl⟩)
    | (go_at_call 14; refine (shl_up _ _ _ (by omega) (by omega)).mono ?_; rintro e w' ⟨rfl, rfl⟩)
    | (go_at_call 13; refine (shr_down _ _ _ (by omega) (by omega)).mono ?_; rintro e w' ⟨rfl, rfl⟩)
    | (go_at_call 21; refine (wrap_any _ _).mono ?_; rintro e w' ⟨rfl, rfl⟩))
  go_ret
  exact ⟨rfl, unhide HG⟩

set_option maxHeartbeats 400000 in
set_option maxRecDepth 100000 in
theorem shifts_hi (a n P j : Int) (w : World) (C : Hid (Calls Tryd.prog 9 #[] w fun e w' => e = .returned (.bool true) ∧ Grown w w' ∧ Below w.heap.size w w')) (h0 : 1 ≤ n) (h1 : n ≤ 62) (s1 : (upN a n != w63 (upN a (n - 1) + upN a (n - 1))) = false) (hj : 62 - n = j) (e1 : wrap64 (-2 ^ j.toNat) = -P) (e2 : wrap64 (2 ^ j.toNat) = P) (l0 : -P ≤ w63 a) (l1 : ¬ w63 a < P)
    : Calls Tryd.prog 8 #[.int .i64 a, .int .i64 n] w fun e w' => e = .returned (.bool true) ∧ Grown w w' := by
  go_enter Tryd.func8, Tryd.ntmps8
  go_wp2_with fail
  refine (unhide C).mono ?_
  rintro e w1 ⟨rfl, hg, _⟩
  have HG := hide hg
  clear hg C
  go_wp2_with (first
    | (go_at_call 23; refine (add_any _ _ _).mono ?_; rintro e w' ⟨rfl, rfl⟩)
    | (go_at_call 14; refine (shl_up _ _ _ (by omega) (by omega)).mono ?_; rintro e w' ⟨rfl, rfl⟩)
    | (go_at_call 13; refine (shr_down _ _ _ (by omega) (by omega)).mono ?_; rintro e w' ⟨rfl, rfl⟩)
    | (go_at_call 21; refine (wrap_any _ _).mono ?_; rintro e w' ⟨rfl, rfl⟩))
  go_ret
  exact ⟨rfl, unhide HG⟩

set_option maxHeartbeats 400000 in
set_option maxRecDepth 100000 in
theorem shifts_lo (a n P j : Int) (w : World) (C : Hid (Calls Tryd.prog 9 #[] w fun e w' => e = .returned (.bool true) ∧ Grown w w' ∧ Below w.heap.size w w')) (h0 : 1 ≤ n) (h1 : n ≤ 62) (s1 : (upN a n != w63 (upN a (n - 1) + upN a (n - 1))) = false) (hj : 62 - n = j) (e1 : wrap64 (-2 ^ j.toNat) = -P) (l0 : ¬ -P ≤ w63 a)
    : Calls Tryd.prog 8 #[.int .i64 a, .int .i64 n] w fun e w' => e = .returned (.bool true) ∧ Grown w w' := by
  go_enter Tryd.func8, Tryd.ntmps8
  go_wp2_with fail
  refine (unhide C).mono ?_
  rintro e w1 ⟨rfl, hg, _⟩
  have HG := hide hg
  clear hg C
  go_wp2_with (first
    | (go_at_call 23; refine (add_any _ _ _).mono ?_; rintro e w' ⟨rfl, rfl⟩)
    | (go_at_call 14; refine (shl_up _ _ _ (by omega) (by omega)).mono ?_; rintro e w' ⟨rfl, rfl⟩)
    | (go_at_call 13; refine (shr_down _ _ _ (by omega) (by omega)).mono ?_; rintro e w' ⟨rfl, rfl⟩)
    | (go_at_call 21; refine (wrap_any _ _).mono ?_; rintro e w' ⟨rfl, rfl⟩))
  go_ret
  exact ⟨rfl, unhide HG⟩

set_option maxHeartbeats 400000 in
set_option maxRecDepth 100000 in
theorem shifts_zero (a : Int) (w : World) (C : Hid (Calls Tryd.prog 9 #[] w fun e w' => e = .returned (.bool true) ∧ Grown w w' ∧ Below w.heap.size w w')) (l0 : -4611686018427387904 ≤ w63 a) (l1 : w63 a < 4611686018427387904) (s2 : (downN (upN a 0) 0 != w63 a) = false) (s3 : (downN a 0 == w63 a) = true)
    : Calls Tryd.prog 8 #[.int .i64 a, .int .i64 0] w fun e w' => e = .returned (.bool true) ∧ Grown w w' := by
  go_enter Tryd.func8, Tryd.ntmps8
  go_wp2_with fail
  refine (unhide C).mono ?_
  rintro e w1 ⟨rfl, hg, _⟩
  have HG := hide hg
  clear hg C
  go_wp2_with (first
    | (go_at_call 23; refine (add_any _ _ _).mono ?_; rintro e w' ⟨rfl, rfl⟩)
    | (go_at_call 14; refine (shl_up _ _ _ (by omega) (by omega)).mono ?_; rintro e w' ⟨rfl, rfl⟩)
    | (go_at_call 13; refine (shr_down _ _ _ (by omega) (by omega)).mono ?_; rintro e w' ⟨rfl, rfl⟩)
    | (go_at_call 21; refine (wrap_any _ _).mono ?_; rintro e w' ⟨rfl, rfl⟩))
  go_ret
  exact ⟨rfl, unhide HG⟩

set_option maxHeartbeats 400000 in
set_option maxRecDepth 100000 in
theorem shifts_out (a n : Int) (w : World) (C : Hid (Calls Tryd.prog 9 #[] w fun e w' => e = .returned (.bool true) ∧ Grown w w' ∧ Below w.heap.size w w')) (h0 : n < 0)
    : Calls Tryd.prog 8 #[.int .i64 a, .int .i64 n] w fun e w' => e = .returned (.bool true) ∧ Grown w w' := by
  go_enter Tryd.func8, Tryd.ntmps8
  go_wp2_with fail
  refine (unhide C).mono ?_
  rintro e w1 ⟨rfl, hg, _⟩
  have HG := hide hg
  clear hg C
  go_wp2_with (first
    | (go_at_call 23; refine (add_any _ _ _).mono ?_; rintro e w' ⟨rfl, rfl⟩)
    | (go_at_call 14; refine (shl_out _ _ _ (by omega)).mono ?_; rintro e w' ⟨rfl, rfl⟩)
    | (go_at_call 13; refine (shr_down _ _ _ (by omega) (by omega)).mono ?_; rintro e w' ⟨rfl, rfl⟩)
    | (go_at_call 21; refine (wrap_any _ _).mono ?_; rintro e w' ⟨rfl, rfl⟩))
  go_ret
  exact ⟨rfl, unhide HG⟩

set_option maxHeartbeats 400000 in
set_option maxRecDepth 100000 in
theorem shifts_over (a n : Int) (w : World) (C : Hid (Calls Tryd.prog 9 #[] w fun e w' => e = .returned (.bool true) ∧ Grown w w' ∧ Below w.heap.size w w')) (h0 : 62 < n)
    : Calls Tryd.prog 8 #[.int .i64 a, .int .i64 n] w fun e w' => e = .returned (.bool true) ∧ Grown w w' := by
  go_enter Tryd.func8, Tryd.ntmps8
  go_wp2_with fail
  refine (unhide C).mono ?_
  rintro e w1 ⟨rfl, hg, _⟩
  have HG := hide hg
  clear hg C
  go_wp2_with (first
    | (go_at_call 23; refine (add_any _ _ _).mono ?_; rintro e w' ⟨rfl, rfl⟩)
    | (go_at_call 14; refine (shl_out _ _ _ (by omega)).mono ?_; rintro e w' ⟨rfl, rfl⟩)
    | (go_at_call 13; refine (shr_down _ _ _ (by omega) (by omega)).mono ?_; rintro e w' ⟨rfl, rfl⟩)
    | (go_at_call 21; refine (wrap_any _ _).mono ?_; rintro e w' ⟨rfl, rfl⟩))
  go_ret
  exact ⟨rfl, unhide HG⟩


theorem bne_sf {x y : Int} (h : x = y) : (x != y) = false := by rw [h]; simp

theorem walk_BitsShifts (a0 a1 : Int) (_w0 : (Lit.int .i64 a0).wf = true) (_w1 : (Lit.int .i64 a1).wf = true) (w : World) (ht : Tab w) :
    Calls Tryd.prog 8 #[.int .i64 a0, .int .i64 a1] w fun e w' => e = .returned (.bool true) ∧ Grown w w' := by
  have C := hide (awake_any w ht)
  by_cases h0 : a1 < 0
  · exact shifts_out a0 a1 w C h0
  by_cases h1 : 62 < a1
  · exact shifts_over a0 a1 w C h1
  by_cases hz : a1 = 0
  · subst hz
    have hb := w63_bd a0
    refine shifts_zero a0 w C hb.1 (by omega) (bne_sf (down_up63 a0 0 4611686018427387904 (by omega) (by omega) (by decide) hb.1 (by omega))) (by rw [up0]; simp)
  · obtain ⟨P, hP⟩ : ∃ P : Int, P = 2 ^ (62 - a1).toNat := ⟨_, rfl⟩
    have hp := pw1 a1 P (by omega) (by omega) hP
    have s1 := bne_sf (up_succ a0 a1 (by omega))
    by_cases l0 : -P ≤ w63 a0
    · by_cases l1 : w63 a0 < P
      · exact shifts_in a0 a1 P _ w C (by omega) (by omega) s1 rfl (by rw [← hP]; exact hp.1) (by rw [← hP]; exact hp.2) l0 l1 (bne_sf (down_up63 a0 a1 P (by omega) (by omega) hP l0 l1))
      · exact shifts_hi a0 a1 P _ w C (by omega) (by omega) s1 rfl (by rw [← hP]; exact hp.1) (by rw [← hP]; exact hp.2) l0 l1
    · exact shifts_lo a0 a1 P _ w C (by omega) (by omega) s1 rfl (by rw [← hP]; exact hp.1) l0

set_option maxRecDepth 100000 in
theorem lifted_BitsShifts (os : Os) (started : os.Started) (H : Type) (enc : TypeId × Value → H) :
    ReturnsInHanded {} Tryd.checked os 8 .any (fun w args => (Rows.bitsShiftsSpec.pre enc Tryd.prog Tryd.f8 [] false w args ∧ laidMetH Tryd.prog laidTab w) ∧ sizedMet enc Tryd.prog Tryd.f8 (OpenSpec.ofChange Rows.bitsShiftsSpec) false w args)
      (Rows.bitsShiftsSpec.post enc Tryd.prog Tryd.f8 false true false false) := by
  refine returnsInHanded_of_change_and (C := Tryd.checked) (X := fun w _ => laidMetH Tryd.prog laidTab w) (fun _ _ _ hh h => h.of_heap hh) own started (by kernel_rfl) Tryd.func8
    (ChangeSpec.witness_shaped (enc := enc) (C := Tryd.checked) (os := os) (X := fun w _ => laidMetH Tryd.prog laidTab w) false (World.doorLaid Tryd.prog 400 os) #[.int .i64 0, .int .i64 0] 8 rfl (World.shaped_of_RefB (by kernel_rfl) (by kernel_rfl)) (by kernel_rfl) (by kernel_rfl) (by kernel_rfl) (door_met os _)) ?_
  intro W base args ds gs before hval0 hW _ _ hL _
  have hval : ∀ (j : Nat) t v, Tryd.f8.params[j]? = some t → args[j]? = some v → Value.okWide Tryd.prog W .any base t v := hval0
  have hW' := hW
  obtain ⟨p, q, hA0, hV, rfl, hfz, hnd⟩ := hW
  have hA : DataW.TrodAll enc Tryd.prog W 0 (fun _ => true) true Tryd.f8.params.toList args.toList ds p := hA0
  rw [Tryd.params8] at hA hval
  obtain ⟨v0, vs0, d0, ds0, p0, q0, hargs, rfl, rfl, h0, r0⟩ := trodAll_cons hA
  obtain ⟨v1, vs1, d1, ds1, p1, q1, rfl, rfl, rfl, h1, r1⟩ := trodAll_cons r0
  obtain ⟨rfl, rfl, rfl⟩ := trodAll_nil r1
  obtain rfl : args = #[v0, v1] := by cases args; simp_all
  obtain ⟨rfl, rfl⟩ := trodVars_none hV
  obtain ⟨a0, rfl, rfl, rfl, w0⟩ := open_int Tryd.underlying2 (hval 0 2 v0 rfl rfl) h0
  obtain ⟨a1, rfl, rfl, rfl, w1⟩ := open_int Tryd.underlying2 (hval 1 2 v1 rfl rfl) h1
  clear hA0 hval0
  simp only [List.append_nil] at hW'
  refine (walk_BitsShifts a0 a1 w0 w1 W (tab_of_laid hL)).mono fun e W' ⟨he, hg⟩ => ?_
  subst he
  exact ⟨_, rfl, post_of_same (pa := []) (pv := []) hW' (fun _ _ _ => trodAll_mk1 (shut_bool Tryd.underlying4 _)) (fun sp _ => (trodAll_cons_mk (shut_int Tryd.underlying2 w0) (trodAll_cons_mk (shut_int Tryd.underlying2 w1) trodAll_mk0))) (fun _ _ => rfl) rfl (hg.frame _) hg.2.1 (ok_one (by kernel_rfl) rfl (okWide_bool_mk Tryd.underlying4 _))⟩

theorem row_BitsShifts : Rows.BitsShiftsSaid :=
  OpenClaim.holds_of_wide 8 Tryd.f8 rfl rfl rfl rfl rfl rfl rfl ⟨rfl, rfl, rfl, rfl, rfl⟩ rfl rfl rfl rfl rfl (by kernel_rfl) Tryd.func8 (by kernel_rfl)
    (of_decide_eq_true (by kernel_rfl)) (by unfold Func.isWrapper; first | (rw [if_pos (by decide +kernel)]; kernel_rfl) | (rw [if_neg (by decide +kernel)]; exact ⟨rfl, rfl⟩))
    (fun os started H enc _ => lifted_BitsShifts os started H enc)

/-- THE STATEMENT. -/
theorem card_BitsShifts : Rows.BitsShiftsCardSaid :=
  Claim7.holds_tied_plain_at .later [] [.data] true (true, "90ed200b407e4f485d80c22479b6c205794185d05fc6b5f6f246b5c2b83577b9") false
    row_BitsShifts (fun _ h => by cases h) (by kernel_rfl) (fun _ h => by cases h) bitsShifts_row_tie rfl ⟨rfl, rfl⟩ (by kernel_rfl) rfl
    (fun f fn hf hfn => by
      obtain rfl : f = 8 := Option.some.inj ((show Tryd.prog.funcNamed "gantline/gantlinelaw1.BitsShifts" = some 8 by kernel_rfl).symm.trans hf) |>.symm
      obtain rfl : fn = Tryd.f8 := (Option.some.inj (Tryd.func8.symm.trans hfn)).symm
      exact ⟨by kernel_rfl, fun j t ht => by
        rw [Tryd.params8] at ht
        have hm : t ∈ [2] := by have := Array.mem_of_getElem? ht; simp at this; simp; omega
        have hall : ([2].all fun u => !Tryd.prog.wantsStandIn u) = true := by kernel_rfl
        exact (show Tryd.prog.wantsStandIn t = false by simpa using List.all_eq_true.1 hall t hm)⟩)
    (by kernel_rfl)
#print axioms card_BitsShifts
end Go.Proofs.YtdlnfmmblcfdoaaDoor
