/- HeadApart answers true, whatever the two heads. -/
import Derived.Test.YtionokpdplgjbaaHeadBase
namespace Go.Proofs.Ytionokpdplgjbaa
open Go.RowKit Go.Maps Go.ChangeShapes Go.WideShapes Go.ChangeAt Go.Deep

set_option maxHeartbeats 1000000 in
theorem apart_unlike (a b c a' b' c' x y : Int) (w : World)
    (CA : Hid (∀ w, Calls Try.prog 9 #[.agg #[.int .i64 a, .int .i64 b, .int .i64 c]] w fun e w' => e = .returned (.tuple #[.int .i64 x, .int .i64 0]) ∧ w' = w.alloc (.cells #[.int .i64 a, .int .i64 b, .int .i64 c] 27)))
    (CB : Hid (∀ w, Calls Try.prog 9 #[.agg #[.int .i64 a', .int .i64 b', .int .i64 c']] w fun e w' => e = .returned (.tuple #[.int .i64 y, .int .i64 0]) ∧ w' = w.alloc (.cells #[.int .i64 a', .int .i64 b', .int .i64 c'] 27)))
    (hx : 0 < x) (hxy : (x == y) = false) (hu : ¬ (a = a' ∧ b = b' ∧ c = c')) :
    Calls Try.prog 7 #[.agg #[.int .i64 a, .int .i64 b, .int .i64 c], .agg #[.int .i64 a', .int .i64 b', .int .i64 c']] w fun e w' => e = .returned (.bool true) ∧ G w w' := by
  go_enter Try.func7, Try.ntmps7
  go_wp2_with fail
  refine (awake_true _).mono ?_
  rintro e w1 ⟨rfl, g1⟩
  obtain ⟨x0, x1, x2, hs0⟩ := (Box3.G (b := w.heap.size) (x := .int .i64 a) (y := .int .i64 b) (z := .int .i64 c) (t := 27) (by unfold Box3; rw [_root_.Go.heap_alloc_old _ _ (by simp)]; exact heap_alloc_new w _) g1).cells
  obtain ⟨y0, y1, y2, hs1⟩ := (Box3.G (b := w.heap.size + 1) (x := .int .i64 a') (y := .int .i64 b') (z := .int .i64 c') (t := 27) (by unfold Box3; rw [← World.size_alloc w (.cells #[.int .i64 a, .int .i64 b, .int .i64 c] 27)]; exact heap_alloc_new _ _) g1).cells
  have G1 := hide (G.trans (a := w) (by go_grown) g1)
  clear g1
  go_wp2_with fail
  refine (unhide CA _).mono ?_
  rintro e w2 ⟨rfl, rfl⟩
  go_wp2_with fail
  refine (unhide CB _).mono ?_
  rintro e w2 ⟨rfl, rfl⟩
  go_wp2_with fail
  all_goals first
    | (exfalso; omega)
    | (go_ret; exact ⟨rfl, ((unhide G1).more _).more _⟩)

set_option maxHeartbeats 1000000 in
theorem apart_like (a b c a' b' c' x y : Int) (w : World)
    (CA : Hid (∀ w, Calls Try.prog 9 #[.agg #[.int .i64 a, .int .i64 b, .int .i64 c]] w fun e w' => e = .returned (.tuple #[.int .i64 x, .int .i64 0]) ∧ w' = w.alloc (.cells #[.int .i64 a, .int .i64 b, .int .i64 c] 27)))
    (CB : Hid (∀ w, Calls Try.prog 9 #[.agg #[.int .i64 a', .int .i64 b', .int .i64 c']] w fun e w' => e = .returned (.tuple #[.int .i64 y, .int .i64 0]) ∧ w' = w.alloc (.cells #[.int .i64 a', .int .i64 b', .int .i64 c'] 27)))
    (hx : 0 < x) (ha : a = a') (hb : b = b') (hc : c = c') (hy : x = y) :
    Calls Try.prog 7 #[.agg #[.int .i64 a, .int .i64 b, .int .i64 c], .agg #[.int .i64 a', .int .i64 b', .int .i64 c']] w fun e w' => e = .returned (.bool true) ∧ G w w' := by
  subst ha hb hc hy
  go_enter Try.func7, Try.ntmps7
  go_wp2_with fail
  refine (awake_true _).mono ?_
  rintro e w1 ⟨rfl, g1⟩
  obtain ⟨x0, x1, x2, hs0⟩ := (Box3.G (b := w.heap.size) (x := .int .i64 a) (y := .int .i64 b) (z := .int .i64 c) (t := 27) (by unfold Box3; rw [_root_.Go.heap_alloc_old _ _ (by simp)]; exact heap_alloc_new w _) g1).cells
  obtain ⟨y0, y1, y2, hs1⟩ := (Box3.G (b := w.heap.size + 1) (x := .int .i64 a) (y := .int .i64 b) (z := .int .i64 c) (t := 27) (by unfold Box3; rw [← World.size_alloc w (.cells #[.int .i64 a, .int .i64 b, .int .i64 c] 27)]; exact heap_alloc_new _ _) g1).cells
  have G1 := hide (G.trans (a := w) (by go_grown) g1)
  clear g1
  go_wp2_with fail
  refine (unhide CA _).mono ?_
  rintro e w2 ⟨rfl, rfl⟩
  go_wp2_with fail
  refine (unhide CB _).mono ?_
  rintro e w2 ⟨rfl, rfl⟩
  go_wp2_with fail
  go_ret
  exact ⟨rfl, ((unhide G1).more _).more _⟩

set_option maxHeartbeats 1000000 in
theorem apart_first (a b c a' b' c' x y f : Int) (w : World)
    (CA : Hid (∀ w, Calls Try.prog 9 #[.agg #[.int .i64 a, .int .i64 b, .int .i64 c]] w fun e w' => e = .returned (.tuple #[.int .i64 x, .int .i64 1]) ∧ w' = w.alloc (.cells #[.int .i64 a, .int .i64 b, .int .i64 c] 27)))
    (CB : Hid (∀ w, Calls Try.prog 9 #[.agg #[.int .i64 a', .int .i64 b', .int .i64 c']] w fun e w' => e = .returned (.tuple #[.int .i64 y, .int .i64 f]) ∧ w' = w.alloc (.cells #[.int .i64 a', .int .i64 b', .int .i64 c'] 27)))
    (hx : x = 0) :
    Calls Try.prog 7 #[.agg #[.int .i64 a, .int .i64 b, .int .i64 c], .agg #[.int .i64 a', .int .i64 b', .int .i64 c']] w fun e w' => e = .returned (.bool true) ∧ G w w' := by
  subst hx
  go_enter Try.func7, Try.ntmps7
  go_wp2_with fail
  refine (awake_true _).mono ?_
  rintro e w1 ⟨rfl, g1⟩
  obtain ⟨x0, x1, x2, hs0⟩ := (Box3.G (b := w.heap.size) (x := .int .i64 a) (y := .int .i64 b) (z := .int .i64 c) (t := 27) (by unfold Box3; rw [_root_.Go.heap_alloc_old _ _ (by simp)]; exact heap_alloc_new w _) g1).cells
  obtain ⟨y0, y1, y2, hs1⟩ := (Box3.G (b := w.heap.size + 1) (x := .int .i64 a') (y := .int .i64 b') (z := .int .i64 c') (t := 27) (by unfold Box3; rw [← World.size_alloc w (.cells #[.int .i64 a, .int .i64 b, .int .i64 c] 27)]; exact heap_alloc_new _ _) g1).cells
  have G1 := hide (G.trans (a := w) (by go_grown) g1)
  clear g1
  go_wp2_with fail
  refine (unhide CA _).mono ?_
  rintro e w2 ⟨rfl, rfl⟩
  go_wp2_with fail
  refine (unhide CB _).mono ?_
  rintro e w2 ⟨rfl, rfl⟩
  go_wp2_with fail
  go_ret
  exact ⟨rfl, ((unhide G1).more _).more _⟩

set_option maxHeartbeats 1000000 in
theorem apart_second (a b c a' b' c' x y : Int) (w : World)
    (CA : Hid (∀ w, Calls Try.prog 9 #[.agg #[.int .i64 a, .int .i64 b, .int .i64 c]] w fun e w' => e = .returned (.tuple #[.int .i64 x, .int .i64 0]) ∧ w' = w.alloc (.cells #[.int .i64 a, .int .i64 b, .int .i64 c] 27)))
    (CB : Hid (∀ w, Calls Try.prog 9 #[.agg #[.int .i64 a', .int .i64 b', .int .i64 c']] w fun e w' => e = .returned (.tuple #[.int .i64 y, .int .i64 1]) ∧ w' = w.alloc (.cells #[.int .i64 a', .int .i64 b', .int .i64 c'] 27))) :
    Calls Try.prog 7 #[.agg #[.int .i64 a, .int .i64 b, .int .i64 c], .agg #[.int .i64 a', .int .i64 b', .int .i64 c']] w fun e w' => e = .returned (.bool true) ∧ G w w' := by
  go_enter Try.func7, Try.ntmps7
  go_wp2_with fail
  refine (awake_true _).mono ?_
  rintro e w1 ⟨rfl, g1⟩
  obtain ⟨x0, x1, x2, hs0⟩ := (Box3.G (b := w.heap.size) (x := .int .i64 a) (y := .int .i64 b) (z := .int .i64 c) (t := 27) (by unfold Box3; rw [_root_.Go.heap_alloc_old _ _ (by simp)]; exact heap_alloc_new w _) g1).cells
  obtain ⟨y0, y1, y2, hs1⟩ := (Box3.G (b := w.heap.size + 1) (x := .int .i64 a') (y := .int .i64 b') (z := .int .i64 c') (t := 27) (by unfold Box3; rw [← World.size_alloc w (.cells #[.int .i64 a, .int .i64 b, .int .i64 c] 27)]; exact heap_alloc_new _ _) g1).cells
  have G1 := hide (G.trans (a := w) (by go_grown) g1)
  clear g1
  go_wp2_with fail
  refine (unhide CA _).mono ?_
  rintro e w2 ⟨rfl, rfl⟩
  go_wp2_with fail
  refine (unhide CB _).mono ?_
  rintro e w2 ⟨rfl, rfl⟩
  go_wp2_with fail
  go_ret
  exact ⟨rfl, ((unhide G1).more _).more _⟩

theorem walk_HeadApart (a b c a' b' c' : Int) (_wa : (Lit.int .i64 a).wf = true) (_wb : (Lit.int .i64 b).wf = true) (_wc : (Lit.int .i64 c).wf = true) (_wa' : (Lit.int .i64 a').wf = true) (_wb' : (Lit.int .i64 b').wf = true) (_wc' : (Lit.int .i64 c').wf = true) (w : World) :
    Calls Try.prog 7 #[.agg #[.int .i64 a, .int .i64 b, .int .i64 c], .agg #[.int .i64 a', .int .i64 b', .int .i64 c']] w fun e w' => e = .returned (.bool true) ∧ G w w' := by
  have CA := hide (pack_any a b c)
  have CB := hide (pack_any a' b' c')
  by_cases h1 : hokB a b c = true
  · by_cases h2 : hokB a' b' c' = true
    · rw [show pkV a b c = hw a b c by simp [pkV, h1], show pkE a b c = 0 by simp [pkE, h1]] at CA
      rw [show pkV a' b' c' = hw a' b' c' by simp [pkV, h2], show pkE a' b' c' = 0 by simp [pkE, h2]] at CB
      obtain ⟨e0, e1, e2, hx, _⟩ := hw_up h1
      obtain ⟨e0', e1', e2', _, _⟩ := hw_up h2
      by_cases hu : a = a' ∧ b = b' ∧ c = c'
      · obtain ⟨rfl, rfl, rfl⟩ := hu
        exact apart_like a b c a b c _ _ w CA CB hx rfl rfl rfl rfl
      · refine apart_unlike a b c a' b' c' _ _ w CA CB hx (beq_eq_false_iff_ne.2 ?_) hu
        intro e
        rw [e] at e0 e1 e2
        omega
    · rw [show pkE a b c = 0 by simp [pkE, h1]] at CA
      rw [show pkE a' b' c' = 1 by simp [pkE, h2]] at CB
      exact apart_second a b c a' b' c' _ _ w CA CB
  · rw [show pkE a b c = 1 by simp [pkE, h1]] at CA
    exact apart_first a b c a' b' c' _ _ _ w CA CB (by simp [pkV, h1])

set_option maxRecDepth 100000 in
theorem lifted_HeadApart (os : Os) (started : os.Started) (H : Type) (enc : TypeId × Value → H) :
    ReturnsInHanded {} Try.checked os 7 .any (Rows.headApartSpec.pre6 enc Try.prog Try.f7 Rows.headApartRow.domain false) (Rows.headApartSpec.post enc Try.prog Try.f7 false true false false) := by
  refine returnsInHanded_of_change (C := Try.checked) own started (by kernel_rfl) Try.func7
    (ChangeSpec.witness6 (enc := enc) (C := Try.checked) false ⟨#[], #[.agg #[.int .i64 0, .int .i64 0, .int .i64 0], .agg #[.int .i64 0, .int .i64 0, .int .i64 0]], []⟩ 8 (by kernel_rfl) (by kernel_rfl) (by kernel_rfl) (by kernel_rfl)) ?_
  intro W base args ds gs before hval0 hW _ _
  have hval : ∀ (j : Nat) t v, Try.f7.params[j]? = some t → args[j]? = some v → Value.okWide Try.prog W .any base t v := hval0
  have hW' := hW
  obtain ⟨p, q, hA0, hV, rfl, hfz, hnd⟩ := hW
  have hA : DataW.TrodAll enc Try.prog W 0 (fun _ => true) true Try.f7.params.toList args.toList ds p := hA0
  rw [Try.params7] at hA hval
  obtain ⟨v0, vs0, d0, ds0, p0, q0, hargs, rfl, rfl, h0, r0⟩ := trodAll_cons hA
  obtain ⟨v1, vs1, d1, ds1, p1, q1, rfl, rfl, rfl, h1, r1⟩ := trodAll_cons r0
  obtain ⟨rfl, rfl, rfl⟩ := trodAll_nil r1
  obtain rfl : args = #[v0, v1] := by cases args; simp_all
  obtain ⟨rfl, rfl⟩ := trodVars_none hV
  have k0 := h0
  have lt0 : ∀ x ∈ p0, x.block < W.heap.size := by obtain ⟨m, hm⟩ := k0; exact DataW.trod_lt m _ _ _ hm
  obtain ⟨a0, b0, c0, rfl, wa0, wb0, wc0⟩ := open_head (hval 0 27 v0 rfl rfl) h0
  have k1 := h1
  have lt1 : ∀ x ∈ p1, x.block < W.heap.size := by obtain ⟨m, hm⟩ := k1; exact DataW.trod_lt m _ _ _ hm
  obtain ⟨a1, b1, c1, rfl, wa1, wb1, wc1⟩ := open_head (hval 1 27 v1 rfl rfl) h1
  clear hA0 hval0
  refine (walk_HeadApart a0 b0 c0 a1 b1 c1 wa0 wb0 wc0 wa1 wb1 wc1 W).mono fun e W' ⟨he, hg⟩ => ?_
  subst he
  exact ⟨_, rfl, _, _, _, [], _, [], hW', trodAll_mk1 (shut_bool Try.underlying4 _), (trodAll_cons_mk (Below.trod laidOut (by kernel_rfl) (of_decide_eq_true (by kernel_rfl)) k0 hg lt0) (trodAll_cons_mk (Below.trod laidOut (by kernel_rfl) (of_decide_eq_true (by kernel_rfl)) k1 hg lt1) trodAll_mk0)), rfl, hg.frame _, fun h => by cases h⟩

/-- THE STATEMENT. -/
theorem said_HeadApart : Rows.HeadApartSaid :=
  OpenClaim.holds_of_wide 7 Try.f7 rfl rfl rfl rfl rfl rfl rfl ⟨rfl, rfl, rfl, rfl, rfl⟩ rfl rfl rfl rfl rfl (by kernel_rfl) Try.func7 (by kernel_rfl)
    (of_decide_eq_true (by kernel_rfl)) (by unfold Func.isWrapper; first | (rw [if_pos (by decide +kernel)]; kernel_rfl) | (rw [if_neg (by decide +kernel)]; exact ⟨rfl, rfl⟩))
    (fun os started H enc _ => lifted_HeadApart os started H enc)
#print axioms said_HeadApart
end Go.Proofs.Ytionokpdplgjbaa
