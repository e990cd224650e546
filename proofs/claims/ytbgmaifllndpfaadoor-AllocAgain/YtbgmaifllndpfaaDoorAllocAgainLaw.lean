/- AllocAgain of package gantlinelaw5: for every number of spans and of words the law answers true; nothing that was there is turned. -/
import Derived.Test.YtbgmaifllndpfaaDoorAllocAwake
import Derived.Test.YtbgmaifllndpfaaDoorAllocAgainP
namespace Go.Proofs.YtbgmaifllndpfaaDoor
open Go.ChangeShapes Go.WideShapes Go.ChangeAt Go.RowKit

set_option maxHeartbeats 1000000 in
set_option maxRecDepth 100000 in
theorem again_out (w : World) (ht : Hid (Tab w)) (n m : Int) (b1 b2 b3 b4 : Bool) (h1 : decide (n < 8) = b1) (h2 : decide (16 < n) = b2) (h3 : decide (m < 1) = b3) (h4 : decide (64 < m) = b4)
    (h : b1 = true ∨ (b1 = false ∧ b2 = true) ∨ (b1 = false ∧ b2 = false ∧ b3 = true) ∨ (b1 = false ∧ b2 = false ∧ b3 = false ∧ b4 = true)) :
    Calls Tryd.prog 6 #[.int .i64 n, .int .i64 m] w fun e w' => e = .returned (.bool true) ∧ Below w.heap.size w w' := by
  have C := hide (awake5 w (unhide ht))
  rcases h with rfl | ⟨rfl, rfl⟩ | ⟨rfl, rfl, rfl⟩ | ⟨rfl, rfl, rfl, rfl⟩
  all_goals
    go_enter Tryd.func6, Tryd.ntmps6
    go_wp2_with fail
    refine (unhide C).mono ?_
    rintro e w1 ⟨rfl, g⟩
    have hb : Hid (Below w.heap.size w w1) := g
    clear g C
    go_wp2_with fail
    go_ret
    exact ⟨rfl, unhide hb⟩

/-- In the first loop; in the second. -/
def Ag1 (W wr : World) (x : Ld) (c : Int) (N P k : Nat) : Prop := ∃ (q r : Nat) (l : Al), Ag c N P q r l ∧ StL W wr x l ∧ k = q * P + r
def Ag2 (W wr : World) (x : Ld) (c m : Int) (N P k : Nat) : Prop := ∃ (q r : Nat) (l l2 : Al), Ag c N P q r l2 ∧ StL W wr x l ∧ l.take m = l2.take m ∧ k = q * P + r

set_option maxHeartbeats 2000000 in
set_option maxRecDepth 100000 in
theorem again_walk (w : World) (ht : Hid (Tab w)) (N P T : Nat) (m c : Int) (hN8 : 8 ≤ N) (hN16 : N ≤ 16) (hm1 : 1 ≤ m) (hm64 : m ≤ 64) (hm : Hid (gc m = c)) (h0 : Hid (0 ≤ c)) (h5 : Hid (c ≤ 5)) (hP : Hid (gp c = P)) (hT : Hid ((N - 1) * P = T)) (hT0 : 0 < T) (hT1 : T ≤ 480) :
    Calls Tryd.prog 6 #[.int .i64 (N : Int), .int .i64 m] w fun e w' => e = .returned (.bool true) ∧ Below w.heap.size w w' := by
  have C := hide (awake5 w (unhide ht))
  have d1 : decide ((N : Int) < 8) = false := by simp; omega
  have d2 : decide (16 < (N : Int)) = false := by simp; omega
  have d3 : decide (m < 1) = false := by simp; omega
  have d4 : decide (64 < m) = false := by simp; omega
  clear hm1 hm64
  go_enter Tryd.func6, Tryd.ntmps6
  go_wp2_with fail
  refine (unhide C).mono ?_
  rintro e w1 ⟨rfl, g⟩
  have hb : Hid (Below w.heap.size w w1) := g
  clear g C
  go_wp2_with fail
  refine (made_any N hN8 (by omega) hb ht).mono ?_
  rintro e w2 ⟨x, b, rfl, S⟩
  have R0 : Hid (Ag1 w w2 x c N P 0) := hide ⟨0, 0, _, Ag.start (unhide hP) (unhide h0) (unhide h5) (al0_fill hN8 (by omega)) rfl hN8, S, by omega⟩
  clear hb S d1 d2 d3 d4
  go_wp2_with fail
  go_loopw [8] (fun i wr => ∃ k : Nat, k ≤ T ∧ i = .int .i64 k ∧ Hid (Ag1 w wr x c N P k)) (fun i _ => T + 1 - (intOf i).toNat)
  case atStart => exact ⟨0, Nat.zero_le _, rfl, R0⟩
  case round =>
    obtain ⟨k, hk, rfl, R⟩ := hrel
    clear R0
    obtain ⟨q, r, l, A, S, ek⟩ := unhide R
    clear R
    replace S := hide S
    replace ek := hide ek
    by_cases hend : q + 1 = N
    · obtain ⟨et, eT⟩ := A.stop (unhide hm) (unhide h0) (unhide h5) hend
      have hkT : k = T := by rw [unhide ek, eT, unhide hT]
      obtain ⟨l2, A2, e2⟩ := A.again (unhide hP) (unhide hm) (unhide h0) (unhide h5) hN8 hend
      replace et := hide et
      replace A2 := hide A2
      replace e2 := hide e2
      clear A eT ek hend
      subst hkT
      go_wp2_with fail
      refine (l_take_as S (unhide et)).mono ?_
      rintro e w3 ⟨rfl, S2⟩
      clear S
      have S := hide S2
      clear S2
      go_wp2_with fail
      refine (l_stale S).mono ?_
      rintro e w4 ⟨rfl, S2, _⟩
      have R0 : Hid (Ag2 w w4 x c m N P 0) := hide ⟨0, 0, _, l2, unhide A2, S2, unhide e2, by omega⟩
      clear S S2 A2 e2 et
      go_wp2_with fail
      go_loopw [11] (fun i wr => ∃ j : Nat, j ≤ k ∧ i = .int .i64 j ∧ Hid (Ag2 w wr x c m N P j)) (fun i _ => k + 1 - (intOf i).toNat)
      case atStart => exact ⟨0, Nat.zero_le _, rfl, R0⟩
      case round =>
        obtain ⟨j, hj, rfl, R⟩ := hrel
        clear R0
        obtain ⟨q, r, l, l2, A, S, el, ek⟩ := unhide R
        clear R
        replace S := hide S
        replace ek := hide ek
        by_cases hend : q + 1 = N
        · obtain ⟨et, eT⟩ := A.stop (unhide hm) (unhide h0) (unhide h5) hend
          have hkT : j = k := by rw [unhide ek, eT, unhide hT]
          have et := hide (el.trans et)
          obtain ⟨z1, z2⟩ := A.last (unhide h0) (unhide h5) hN8 hend
          clear A eT ek hend el
          subst hkT
          go_wp2_with fail
          refine (l_take_as S (unhide et)).mono ?_
          rintro e w5 ⟨rfl, S2⟩
          clear S
          have S := hide S2
          clear S2
          have hk0 : (0 : Int) < (j : Int) := by omega
          have hkk : ((j : Int) == (j : Int)) = true := by simp
          go_wp2_with fail
          refine (l_left S).mono ?_
          rw [z1]
          rintro e w6 ⟨rfl, hw⟩
          subst hw
          go_wp2_with fail
          refine (ls_is S 64).mono ?_
          rw [z2]
          rintro e w7 ⟨rfl, S2, _⟩
          have S3 := hide S2
          clear S S2
          go_wp2_with fail
          go_ret
          exact ⟨rfl, (unhide S3).below⟩
        · obtain ⟨e1, q', r', A', ek'⟩ := A.step (unhide hP) (unhide hm) (unhide h0) (unhide h5) (by have := A.hq; omega)
          have hb := A'.bound
          rw [ek', ← unhide ek, unhide hT] at hb
          have hjk : j < k := by omega
          have K : Hid (∃ l3 v3, l.take m = (l3, v3, 0) ∧ Ag c N P q' r' l3) := hide ⟨(l2.take m).1, (l2.take m).2.1, by rw [el]; exact pair_of (by rw [← e1]), A'⟩
          obtain ⟨l3, v3, et, A3⟩ := unhide K
          replace et := hide et
          replace A3 := hide A3
          have ek3 := hide (ek'.trans (by rw [← unhide ek]))
          clear K A A' e1 ek' hb el hend ek
          go_wp2_with fail
          refine (l_take_as S (unhide et)).mono ?_
          rintro e w5 ⟨rfl, S2⟩
          have RR : Hid (Ag2 w w5 x c m N P (j + 1)) := hide ⟨q', r', l3, l3, unhide A3, S2, rfl, (unhide ek3).symm⟩
          clear S S2 A3 ek3 et
          have d1 : decide (1000 < (j : Int) + 1) = false := by simp; omega
          go_wp2_with fail
          go_roundw
          case rel => exact ⟨j + 1, by omega, by go_num, RR⟩
          case measure => simp [intOf]; omega
    · obtain ⟨e1, q', r', A', ek'⟩ := A.step (unhide hP) (unhide hm) (unhide h0) (unhide h5) (by have := A.hq; omega)
      have hb := A'.bound
      rw [ek', ← unhide ek, unhide hT] at hb
      have hjk : k < T := by omega
      have K : Hid (∃ l3 v3, l.take m = (l3, v3, 0) ∧ Ag c N P q' r' l3) := hide ⟨(l.take m).1, (l.take m).2.1, pair_of (by rw [← e1]), A'⟩
      obtain ⟨l3, v3, et, A3⟩ := unhide K
      replace et := hide et
      replace A3 := hide A3
      have ek3 := hide (ek'.trans (by rw [← unhide ek]))
      clear K A A' e1 ek' hb hend ek
      go_wp2_with fail
      refine (l_take_as S (unhide et)).mono ?_
      rintro e w5 ⟨rfl, S2⟩
      have RR : Hid (Ag1 w w5 x c N P (k + 1)) := hide ⟨q', r', l3, unhide A3, S2, (unhide ek3).symm⟩
      clear S S2 A3 ek3 et
      have d1 : decide (1000 < (k : Int) + 1) = false := by simp; omega
      go_wp2_with fail
      go_roundw
      case rel => exact ⟨k + 1, by omega, by go_num, RR⟩
      case measure => simp [intOf]; omega

theorem gc_in {m : Int} (h1 : 1 ≤ m) (h2 : m ≤ 64) : 0 ≤ gc m := by
  unfold gc
  repeat' split
  all_goals omega
theorem walk_AllocAgain (n m : Int) (W : World) (ht : Tab W) :
    Calls Tryd.prog 6 #[.int .i64 n, .int .i64 m] W fun e w' => e = .returned (.bool true) ∧ Below W.heap.size W w' := by
  by_cases h : 8 ≤ n ∧ n ≤ 16 ∧ 1 ≤ m ∧ m ≤ 64
  · obtain ⟨N, rfl⟩ := Int.eq_ofNat_of_zero_le (show 0 ≤ n by omega)
    have h0 := gc_in h.2.2.1 h.2.2.2
    have h5 := (gc_r m).2
    have hp := gp_pos h0 h5
    obtain ⟨P, hP⟩ := Int.eq_ofNat_of_zero_le (show 0 ≤ gp (gc m) by omega)
    have hlo : (N - 1) * P ≤ 15 * 32 := Nat.mul_le_mul (by omega) (by omega)
    exact again_walk W (hide ht) N P ((N - 1) * P) m (gc m) (by omega) (by omega) (by omega) (by omega) (hide rfl) (hide h0) (hide h5) (hide hP) (hide rfl) (Nat.mul_pos (by omega) (by omega)) (by omega)
  · refine again_out W (hide ht) n m _ _ _ _ rfl rfl rfl rfl ?_
    simp only [decide_eq_true_eq, decide_eq_false_iff_not]
    omega

set_option maxRecDepth 100000 in
theorem lifted_AllocAgain (os : Os) (started : os.Started) (H : Type) (enc : TypeId × Value → H) :
    ReturnsInHanded {} Tryd.checked os 6 .any (fun w args => (Rows.allocAgainSpec.pre enc Tryd.prog Tryd.f6 [] false w args ∧ laidMetH Tryd.prog laidTab w) ∧ sizedMet enc Tryd.prog Tryd.f6 (OpenSpec.ofChange Rows.allocAgainSpec) false w args)
      (Rows.allocAgainSpec.post enc Tryd.prog Tryd.f6 false true false false) := by
  refine returnsInHanded_of_change_and (C := Tryd.checked) (X := fun w _ => laidMetH Tryd.prog laidTab w) (fun _ _ _ hh h => h.of_heap hh) own started (by kernel_rfl) Tryd.func6
    (ChangeSpec.witness_shaped (enc := enc) (C := Tryd.checked) (os := os) (X := fun w _ => laidMetH Tryd.prog laidTab w) false (World.doorLaid Tryd.prog 400 os) #[.int .i64 0, .int .i64 0] 8 rfl (World.shaped_of_RefB (by kernel_rfl) (by kernel_rfl)) (by kernel_rfl) (by kernel_rfl) (by kernel_rfl) (door_met os _)) ?_
  intro W base args ds gs before hval0 hW _ _ hL _
  have hval : ∀ (j : Nat) t v, Tryd.f6.params[j]? = some t → args[j]? = some v → Value.okWide Tryd.prog W .any base t v := hval0
  have hW' := hW
  obtain ⟨p, q, hA0, hV, rfl, hfz, hnd⟩ := hW
  have hA : DataW.TrodAll enc Tryd.prog W 0 (fun _ => true) true Tryd.f6.params.toList args.toList ds p := hA0
  rw [Tryd.params6] at hA hval
  obtain ⟨v0, vs0, d0, ds0, p0, q0, hargs, rfl, rfl, h0, r0⟩ := trodAll_cons hA
  obtain ⟨v1, vs1, d1, ds1, p1, q1, rfl, rfl, rfl, h1, r1⟩ := trodAll_cons r0
  obtain ⟨rfl, rfl, rfl⟩ := trodAll_nil r1
  obtain rfl : args = #[v0, v1] := by cases args; simp_all
  obtain ⟨rfl, rfl⟩ := trodVars_none hV
  have k0 := h0
  have lt0 : ∀ x ∈ p0, x.block < W.heap.size := by obtain ⟨m, hm⟩ := k0; exact DataW.trod_lt m _ _ _ hm
  obtain ⟨a0, rfl, rfl, rfl, w0⟩ := open_int Tryd.underlying3 (hval 0 3 v0 rfl rfl) h0
  have k1 := h1
  have lt1 : ∀ x ∈ p1, x.block < W.heap.size := by obtain ⟨m, hm⟩ := k1; exact DataW.trod_lt m _ _ _ hm
  obtain ⟨a1, rfl, rfl, rfl, w1⟩ := open_int Tryd.underlying3 (hval 1 3 v1 rfl rfl) h1
  clear hA0 hval0
  refine (walk_AllocAgain a0 a1 W (tab_of_laid hL)).mono fun e W' ⟨he, hg⟩ => ?_
  subst he
  exact ⟨_, rfl, _, _, _, [], _, [], hW', trodAll_mk1 (shut_bool Tryd.underlying4 _), (trodAll_cons_mk (Below.trod laidOut (by kernel_rfl) (of_decide_eq_true (by kernel_rfl)) k0 hg lt0) (trodAll_cons_mk (Below.trod laidOut (by kernel_rfl) (of_decide_eq_true (by kernel_rfl)) k1 hg lt1) trodAll_mk0)), rfl, hg.frame _, fun h => by cases h⟩

theorem row_AllocAgain : Rows.AllocAgainSaid :=
  OpenClaim.holds_of_wide 6 Tryd.f6 rfl rfl rfl rfl rfl rfl rfl ⟨rfl, rfl, rfl, rfl, rfl⟩ rfl rfl rfl rfl rfl (by kernel_rfl) Tryd.func6 (by kernel_rfl)
    (of_decide_eq_true (by kernel_rfl)) (by unfold Func.isWrapper; first | (rw [if_pos (by decide +kernel)]; kernel_rfl) | (rw [if_neg (by decide +kernel)]; exact ⟨rfl, rfl⟩))
    (fun os started H enc _ => lifted_AllocAgain os started H enc)

/-- THE STATEMENT. -/
theorem card_AllocAgain : Rows.AllocAgainCardSaid :=
  Claim7.holds_tied_plain_at .later [] [.data] true (true, "df9a269f688f74646f8c72add8e7c773f49d00f2df2c27a20a52acf29d990246") false
    row_AllocAgain (fun _ h => by cases h) (by kernel_rfl) (fun _ h => by cases h) allocAgain_row_tie rfl ⟨rfl, rfl⟩ (by kernel_rfl) rfl
    (fun f fn hf hfn => by
      obtain rfl : f = 6 := Option.some.inj ((show Tryd.prog.funcNamed "gantline/gantlinelaw5.AllocAgain" = some 6 by kernel_rfl).symm.trans hf) |>.symm
      obtain rfl : fn = Tryd.f6 := (Option.some.inj (Tryd.func6.symm.trans hfn)).symm
      exact ⟨by kernel_rfl, fun j t ht => by
        rw [Tryd.params6] at ht
        have hm : t ∈ [3, 3] := by simpa using Array.mem_of_getElem? ht
        have hall : ([3, 3].all fun u => !Tryd.prog.wantsStandIn u) = true := by kernel_rfl
        exact (show Tryd.prog.wantsStandIn t = false by simpa using List.all_eq_true.1 hall t hm)⟩)
    (by kernel_rfl)
#print axioms card_AllocAgain
end Go.Proofs.YtbgmaifllndpfaaDoor
