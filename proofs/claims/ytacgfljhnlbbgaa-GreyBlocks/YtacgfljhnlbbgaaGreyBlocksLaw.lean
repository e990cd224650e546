/- GreyBlocks answers true, whatever the numbers. -/
import Derived.Test.YtacgfljhnlbbgaaGreyAwake
namespace Go.Proofs.Ytacgfljhnlbbgaa
open Go.RowKit Go.Maps Go.ChangeShapes Go.WideShapes Go.ChangeAt

/-- The number that is put in at k. -/
def xo (at_ : Int) (k : Nat) : Int := bits .xor .i64 at_ (k : Int)
/-- Those from a on, up to b. -/
def seg (at_ : Int) (a b : Nat) : List Int := (List.range' a (b - a)).map (xo at_)
theorem seg_len (at_ : Int) (a b : Nat) : (seg at_ a b).length = b - a := by simp [seg]
theorem seg_snoc (at_ : Int) {a b : Nat} (h : a ≤ b) : seg at_ a b ++ [xo at_ b] = seg at_ a (b + 1) := by
  unfold seg
  rw [show b + 1 - a = (b - a) + 1 by omega, List.range'_concat, List.map_append]
  simp
  congr 1
  omega
theorem seg_cons (at_ : Int) {a b : Nat} (h : a < b) : seg at_ a b = xo at_ a :: seg at_ (a + 1) b := by
  unfold seg
  rw [show b - a = (b - (a + 1)) + 1 by omega, List.range'_succ]
  rfl
theorem seg_nil (at_ : Int) (a : Nat) : seg at_ a a = [] := by simp [seg]

set_option maxHeartbeats 1000000 in
theorem blocks_core (n : Nat) (at_ : Int) (w : World) (hn : n ≤ 3000) :
    Calls Try.prog 5 #[.int .i64 (n : Int), .int .i64 at_] w fun e w' => e = .returned (.bool true) ∧ G w w' := by
  go_enter Try.func5, Try.ntmps5
  go_wp2_with fail
  refine (awake_true w).mono ?_
  rintro e w1 ⟨rfl, g1⟩
  replace g1 := hide g1
  go_wp2_with fail
  refine (s_new g1).mono ?_
  rintro e w2 ⟨q, rfl, R2⟩
  replace R2 := hide R2
  clear g1
  go_wp2_with fail
  go_loopw [6] (fun c wr => ∃ i : Nat, i ≤ n ∧ c = .int .i64 i ∧ Hid (S2 w wr q (seg at_ (i / 3) i) [])) (fun c _ => n - (intOf c).toNat)
  case atStart => exact ⟨0, Nat.zero_le _, rfl, by rw [seg_nil]; exact R2⟩
  case round =>
    obtain ⟨i, hi, rfl, R⟩ := hrel
    clear R2
    by_cases hin : i = n
    · subst hin
      go_wp2_with fail
      go_loopw [9] (fun c wq => ∃ k : Nat, i / 3 ≤ k ∧ k ≤ i ∧ c = .int .i64 k ∧ Hid (S2 w wq q (seg at_ k i) [])) (fun c _ => i - (intOf c).toNat)
      case atStart => exact ⟨i / 3, Nat.le_refl _, by omega, by simp, R⟩
      case round =>
        obtain ⟨k, hk1, hk2, rfl, R⟩ := hrel
        by_cases hki : k = i
        · subst hki
          rw [seg_nil] at R
          go_wp2_with fail
          refine (s_len R 0 (by simp)).mono ?_
          rintro e w5 ⟨rfl, rfl⟩
          go_wp2_with fail
          go_ret
          exact ⟨rfl, (unhide R).below⟩
        · have hkl : (k : Int) < (i : Int) := by omega
          rw [seg_cons at_ (show k < i by omega)] at R
          go_wp2_with fail
          refine (s_next R (by rw [seg_len]; omega)).mono ?_
          rintro e w5 ⟨rfl, R5, _⟩
          replace R5 := hide R5
          clear R
          unfold xo
          have hnn : (bits .xor .i64 at_ (k : Int) != bits .xor .i64 at_ (k : Int)) = false := by simp
          go_wp2_with fail
          go_roundw
          case rel => exact ⟨k + 1, by omega, by omega, by go_num, R5⟩
          case measure => simp [intOf]; omega
    · have hil : (i : Int) < (n : Int) := by omega
      go_wp2_with fail
      refine (s_add R (by rw [seg_len]; omega) (bits .xor .i64 at_ (i : Int))).mono ?_
      rintro e w4 ⟨rfl, R4, _⟩
      have e4 : seg at_ (i / 3) i ++ [bits .xor .i64 at_ (i : Int)] = seg at_ (i / 3) (i + 1) := seg_snoc at_ (by omega)
      rw [e4] at R4
      replace R4 := hide R4
      clear R e4
      by_cases h3 : i % 3 = 2
      · have h3' : ((i : Int) % 3 == 2) = true := by simp; omega
        rw [seg_cons at_ (show i / 3 < i + 1 by omega)] at R4
        obtain ⟨j, hj⟩ : ∃ j, i / 3 = j := ⟨_, rfl⟩
        rw [hj] at R4
        have hd : (i : Int) / 3 = (j : Int) := by omega
        replace hj := hide hj
        go_wp2_with fail
        refine (s_next R4 (by rw [seg_len]; omega)).mono ?_
        rintro e w5 ⟨rfl, R5, _⟩
        replace R5 := hide R5
        clear R4
        unfold xo
        have hnn : (bits .xor .i64 at_ (j : Int) != bits .xor .i64 at_ (j : Int)) = false := by simp
        go_wp2_with fail
        go_roundw
        case rel => exact ⟨i + 1, by omega, by go_num, by rw [show (i + 1) / 3 = j + 1 by have := unhide hj; omega]; exact R5⟩
        case measure => simp [intOf]; omega
      · have h3' : ((i : Int) % 3 == 2) = false := by simp; omega
        go_wp2_with fail
        go_roundw
        case rel => exact ⟨i + 1, by omega, by go_num, by rw [show (i + 1) / 3 = i / 3 by omega]; exact R4⟩
        case measure => simp [intOf]; omega

set_option maxHeartbeats 400000 in
theorem blocks_out (n at_ : Int) (w : World) (hn : n < 0 ∨ 3000 < n) :
    Calls Try.prog 5 #[.int .i64 n, .int .i64 at_] w fun e w' => e = .returned (.bool true) ∧ G w w' := by
  rcases hn with hn | hn
  · go_enter Try.func5, Try.ntmps5
    go_wp2_with fail
    refine (awake_true w).mono ?_
    rintro e w1 ⟨rfl, g1⟩
    replace g1 := hide g1
    go_wp2_with fail
    go_ret
    exact ⟨rfl, unhide g1⟩
  · have hn0 : ¬ n < 0 := by omega
    go_enter Try.func5, Try.ntmps5
    go_wp2_with fail
    refine (awake_true w).mono ?_
    rintro e w1 ⟨rfl, g1⟩
    replace g1 := hide g1
    go_wp2_with fail
    go_ret
    exact ⟨rfl, unhide g1⟩

theorem walk_GreyBlocks (n at_ : Int) (_h1 : (Lit.int .i64 n).wf = true) (_h2 : (Lit.int .i64 at_).wf = true) (w : World) : Calls Try.prog 5 #[.int .i64 n, .int .i64 at_] w fun e w' => e = .returned (.bool true) ∧ G w w' := by
  by_cases h : n < 0 ∨ 3000 < n
  · exact blocks_out n at_ w h
  · obtain ⟨k, rfl⟩ := Int.eq_ofNat_of_zero_le (show 0 ≤ n by omega)
    exact blocks_core k at_ w (by omega)

set_option maxRecDepth 100000 in
theorem lifted_GreyBlocks (os : Os) (started : os.Started) (H : Type) (enc : TypeId × Value → H) :
    ReturnsInHanded {} Try.checked os 5 .any (Rows.greyBlocksSpec.pre6 enc Try.prog Try.f5 Rows.greyBlocksRow.domain false) (Rows.greyBlocksSpec.post enc Try.prog Try.f5 false true false false) := by
  refine returnsInHanded_of_change (C := Try.checked) own started (by kernel_rfl) Try.func5
    (ChangeSpec.witness6 (enc := enc) (C := Try.checked) false ⟨#[], #[.int .i64 0, .int .i64 0], []⟩ 8 (by kernel_rfl) (by kernel_rfl) (by kernel_rfl) (by kernel_rfl)) ?_
  intro W base args ds gs before hval0 hW _ _
  have hval : ∀ (j : Nat) t v, Try.f5.params[j]? = some t → args[j]? = some v → Value.okWide Try.prog W .any base t v := hval0
  have hW' := hW
  obtain ⟨p, q, hA0, hV, rfl, hfz, hnd⟩ := hW
  have hA : DataW.TrodAll enc Try.prog W 0 (fun _ => true) true Try.f5.params.toList args.toList ds p := hA0
  rw [Try.params5] at hA hval
  obtain ⟨v0, vs0, d0, ds0, p0, q0, hargs, rfl, rfl, h0, r0⟩ := trodAll_cons hA
  obtain ⟨v1, vs1, d1, ds1, p1, q1, rfl, rfl, rfl, h1, r1⟩ := trodAll_cons r0
  obtain ⟨rfl, rfl, rfl⟩ := trodAll_nil r1
  obtain rfl : args = #[v0, v1] := by cases args; simp_all
  obtain ⟨rfl, rfl⟩ := trodVars_none hV
  have k0 := h0
  have lt0 : ∀ x ∈ p0, x.block < W.heap.size := by obtain ⟨m, hm⟩ := k0; exact DataW.trod_lt m _ _ _ hm
  obtain ⟨a0, rfl, rfl, rfl, w0⟩ := open_int Try.underlying3 (hval 0 3 v0 rfl rfl) h0
  have k1 := h1
  have lt1 : ∀ x ∈ p1, x.block < W.heap.size := by obtain ⟨m, hm⟩ := k1; exact DataW.trod_lt m _ _ _ hm
  obtain ⟨a1, rfl, rfl, rfl, w1⟩ := open_int Try.underlying2 (hval 1 2 v1 rfl rfl) h1
  clear hA0 hval0
  refine (walk_GreyBlocks a0 a1 w0 w1 W).mono fun e W' ⟨he, hg⟩ => ?_
  subst he
  exact ⟨_, rfl, _, _, _, [], _, [], hW', trodAll_mk1 (shut_bool Try.underlying4 _), (trodAll_cons_mk (Below.trod laidOut (by kernel_rfl) (of_decide_eq_true (by kernel_rfl)) k0 hg lt0) (trodAll_cons_mk (Below.trod laidOut (by kernel_rfl) (of_decide_eq_true (by kernel_rfl)) k1 hg lt1) trodAll_mk0)), rfl, hg.frame _, fun h => by cases h⟩

/-- THE STATEMENT. -/
theorem said_GreyBlocks : Rows.GreyBlocksSaid :=
  OpenClaim.holds_of_wide 5 Try.f5 rfl rfl rfl rfl rfl rfl rfl ⟨rfl, rfl, rfl, rfl, rfl⟩ rfl rfl rfl rfl rfl (by kernel_rfl) Try.func5 (by kernel_rfl)
    (of_decide_eq_true (by kernel_rfl)) (by unfold Func.isWrapper; first | (rw [if_pos (by decide +kernel)]; kernel_rfl) | (rw [if_neg (by decide +kernel)]; exact ⟨rfl, rfl⟩))
    (fun os started H enc _ => lifted_GreyBlocks os started H enc)
#print axioms said_GreyBlocks
end Go.Proofs.Ytacgfljhnlbbgaa
