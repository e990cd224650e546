/- HeadPacks answers true, whatever the head and the word. -/
import Derived.Test.YtionokpdplgjbaaHeadBase
namespace Go.Proofs.Ytionokpdplgjbaa
open Go.RowKit Go.Maps Go.ChangeShapes Go.WideShapes Go.ChangeAt Go.Deep

set_option maxHeartbeats 1000000 in
theorem packs_yes_yes (a b c p v x y z : Int) (w : World)
    (CP : Hid (∀ w, Calls Try.prog 9 #[.agg #[.int .i64 a, .int .i64 b, .int .i64 c]] w fun e w' => e = .returned (.tuple #[.int .i64 p, .int .i64 0]) ∧ w' = w.alloc (.cells #[.int .i64 a, .int .i64 b, .int .i64 c] 27)))
    (CQ : Hid (∀ w, Calls Try.prog 15 #[.int .i64 a, .int .i64 b, .int .i64 c] w fun e w' => e = .returned (.tuple #[.int .i64 p, .bool true]) ∧ w' = w))
    (CU : Hid (∀ w, Calls Try.prog 10 #[.int .i64 p] w fun e w' => e = .returned (.tuple #[.agg #[.int .i64 a, .int .i64 b, .int .i64 c], .int .i64 0]) ∧ G w w'))
    (CV : Hid (∀ w, Calls Try.prog 10 #[.int .i64 v] w fun e w' => e = .returned (.tuple #[.agg #[.int .i64 x, .int .i64 y, .int .i64 z], .int .i64 0]) ∧ G w w'))
    (CR : Hid (∀ w, Calls Try.prog 16 #[.int .i64 v] w fun e w' => e = .returned (.tuple #[.int .i64 x, .int .i64 y, .int .i64 z, .bool true]) ∧ w' = w)) :
    Calls Try.prog 4 #[.agg #[.int .i64 a, .int .i64 b, .int .i64 c], .int .i64 v] w fun e w' => e = .returned (.bool true) ∧ G w w' := by
  go_enter Try.func4, Try.ntmps4
  go_wp2_with fail
  refine (awake_true _).mono ?_
  rintro e w1 ⟨rfl, g1⟩
  obtain ⟨x0, x1, x2, hs0⟩ := (Box3.G (b := w.heap.size) (x := .int .i64 a) (y := .int .i64 b) (z := .int .i64 c) (t := 27) (heap_alloc_new w _) g1).cells
  have G1 := hide (G.trans (a := w) (by go_grown) g1)
  clear g1
  go_wp2_with fail
  refine (unhide CP _).mono ?_
  rintro e w2 ⟨rfl, rfl⟩
  go_wp2_with fail
  refine (unhide CQ _).mono ?_
  rintro e w2 ⟨rfl, rfl⟩
  go_wp2_with fail
  refine (unhide CU _).mono ?_
  rintro e w3 ⟨rfl, g3⟩
  obtain ⟨y0, y1, y2, hs1⟩ : w3.cell? ⟨w.heap.size, 0, none⟩ = some (.int .i64 a) ∧ w3.cell? ⟨w.heap.size, 1, none⟩ = some (.int .i64 b) ∧ w3.cell? ⟨w.heap.size, 2, none⟩ = some (.int .i64 c) ∧ w.heap.size < w3.heap.size := by
    have k := (G.alloc w1 (.cells #[.int .i64 a, .int .i64 b, .int .i64 c] 27)).trans g3
    exact ⟨(k.cell (p := ⟨w.heap.size, 0, none⟩) hs0).trans x0, (k.cell (p := ⟨w.heap.size, 1, none⟩) hs0).trans x1, (k.cell (p := ⟨w.heap.size, 2, none⟩) hs0).trans x2, Nat.lt_of_lt_of_le hs0 k.size⟩
  have G3 := hide (((unhide G1).more _).trans g3)
  clear G1 g3 x0 x1 x2 hs0
  go_wp2_with fail
  refine (unhide CV _).mono ?_
  rintro e w4 ⟨rfl, g4⟩
  have G4 := hide (((unhide G3).more _).trans g4)
  clear G3 g4
  go_wp2_with fail
  refine (unhide CR _).mono ?_
  rintro e w5 ⟨rfl, rfl⟩
  go_wp2_with fail
  go_ret
  exact ⟨rfl, (unhide G4).more _⟩

set_option maxHeartbeats 1000000 in
theorem packs_yes_no (a b c p v x y z : Int) (w : World)
    (CP : Hid (∀ w, Calls Try.prog 9 #[.agg #[.int .i64 a, .int .i64 b, .int .i64 c]] w fun e w' => e = .returned (.tuple #[.int .i64 p, .int .i64 0]) ∧ w' = w.alloc (.cells #[.int .i64 a, .int .i64 b, .int .i64 c] 27)))
    (CQ : Hid (∀ w, Calls Try.prog 15 #[.int .i64 a, .int .i64 b, .int .i64 c] w fun e w' => e = .returned (.tuple #[.int .i64 p, .bool true]) ∧ w' = w))
    (CU : Hid (∀ w, Calls Try.prog 10 #[.int .i64 p] w fun e w' => e = .returned (.tuple #[.agg #[.int .i64 a, .int .i64 b, .int .i64 c], .int .i64 0]) ∧ G w w'))
    (CV : Hid (∀ w, Calls Try.prog 10 #[.int .i64 v] w fun e w' => e = .returned (.tuple #[.agg #[.int .i64 x, .int .i64 y, .int .i64 z], .int .i64 3]) ∧ G w w'))
    (CR : Hid (∀ w, Calls Try.prog 16 #[.int .i64 v] w fun e w' => e = .returned (.tuple #[.int .i64 x, .int .i64 y, .int .i64 z, .bool false]) ∧ w' = w)) :
    Calls Try.prog 4 #[.agg #[.int .i64 a, .int .i64 b, .int .i64 c], .int .i64 v] w fun e w' => e = .returned (.bool true) ∧ G w w' := by
  go_enter Try.func4, Try.ntmps4
  go_wp2_with fail
  refine (awake_true _).mono ?_
  rintro e w1 ⟨rfl, g1⟩
  obtain ⟨x0, x1, x2, hs0⟩ := (Box3.G (b := w.heap.size) (x := .int .i64 a) (y := .int .i64 b) (z := .int .i64 c) (t := 27) (heap_alloc_new w _) g1).cells
  have G1 := hide (G.trans (a := w) (by go_grown) g1)
  clear g1
  go_wp2_with fail
  refine (unhide CP _).mono ?_
  rintro e w2 ⟨rfl, rfl⟩
  go_wp2_with fail
  refine (unhide CQ _).mono ?_
  rintro e w2 ⟨rfl, rfl⟩
  go_wp2_with fail
  refine (unhide CU _).mono ?_
  rintro e w3 ⟨rfl, g3⟩
  obtain ⟨y0, y1, y2, hs1⟩ : w3.cell? ⟨w.heap.size, 0, none⟩ = some (.int .i64 a) ∧ w3.cell? ⟨w.heap.size, 1, none⟩ = some (.int .i64 b) ∧ w3.cell? ⟨w.heap.size, 2, none⟩ = some (.int .i64 c) ∧ w.heap.size < w3.heap.size := by
    have k := (G.alloc w1 (.cells #[.int .i64 a, .int .i64 b, .int .i64 c] 27)).trans g3
    exact ⟨(k.cell (p := ⟨w.heap.size, 0, none⟩) hs0).trans x0, (k.cell (p := ⟨w.heap.size, 1, none⟩) hs0).trans x1, (k.cell (p := ⟨w.heap.size, 2, none⟩) hs0).trans x2, Nat.lt_of_lt_of_le hs0 k.size⟩
  have G3 := hide (((unhide G1).more _).trans g3)
  clear G1 g3 x0 x1 x2 hs0
  go_wp2_with fail
  refine (unhide CV _).mono ?_
  rintro e w4 ⟨rfl, g4⟩
  have G4 := hide (((unhide G3).more _).trans g4)
  clear G3 g4
  go_wp2_with fail
  refine (unhide CR _).mono ?_
  rintro e w5 ⟨rfl, rfl⟩
  go_wp2_with fail
  go_ret
  exact ⟨rfl, (unhide G4).more _⟩

set_option maxHeartbeats 1000000 in
theorem packs_no_yes (a b c p v x y z : Int) (w : World)
    (CP : Hid (∀ w, Calls Try.prog 9 #[.agg #[.int .i64 a, .int .i64 b, .int .i64 c]] w fun e w' => e = .returned (.tuple #[.int .i64 p, .int .i64 1]) ∧ w' = w.alloc (.cells #[.int .i64 a, .int .i64 b, .int .i64 c] 27)))
    (CQ : Hid (∀ w, Calls Try.prog 15 #[.int .i64 a, .int .i64 b, .int .i64 c] w fun e w' => e = .returned (.tuple #[.int .i64 p, .bool false]) ∧ w' = w))
    (CV : Hid (∀ w, Calls Try.prog 10 #[.int .i64 v] w fun e w' => e = .returned (.tuple #[.agg #[.int .i64 x, .int .i64 y, .int .i64 z], .int .i64 0]) ∧ G w w'))
    (CR : Hid (∀ w, Calls Try.prog 16 #[.int .i64 v] w fun e w' => e = .returned (.tuple #[.int .i64 x, .int .i64 y, .int .i64 z, .bool true]) ∧ w' = w)) :
    Calls Try.prog 4 #[.agg #[.int .i64 a, .int .i64 b, .int .i64 c], .int .i64 v] w fun e w' => e = .returned (.bool true) ∧ G w w' := by
  go_enter Try.func4, Try.ntmps4
  go_wp2_with fail
  refine (awake_true _).mono ?_
  rintro e w1 ⟨rfl, g1⟩
  obtain ⟨x0, x1, x2, hs0⟩ := (Box3.G (b := w.heap.size) (x := .int .i64 a) (y := .int .i64 b) (z := .int .i64 c) (t := 27) (heap_alloc_new w _) g1).cells
  have G1 := hide (G.trans (a := w) (by go_grown) g1)
  clear g1
  go_wp2_with fail
  refine (unhide CP _).mono ?_
  rintro e w2 ⟨rfl, rfl⟩
  go_wp2_with fail
  refine (unhide CQ _).mono ?_
  rintro e w2 ⟨rfl, rfl⟩
  go_wp2_with fail
  refine (unhide CV _).mono ?_
  rintro e w4 ⟨rfl, g4⟩
  have G4 := hide (((unhide G1).more _).trans g4)
  clear G1 g4
  go_wp2_with fail
  refine (unhide CR _).mono ?_
  rintro e w5 ⟨rfl, rfl⟩
  go_wp2_with fail
  go_ret
  exact ⟨rfl, (unhide G4).more _⟩

set_option maxHeartbeats 1000000 in
theorem packs_no_no (a b c p v x y z : Int) (w : World)
    (CP : Hid (∀ w, Calls Try.prog 9 #[.agg #[.int .i64 a, .int .i64 b, .int .i64 c]] w fun e w' => e = .returned (.tuple #[.int .i64 p, .int .i64 1]) ∧ w' = w.alloc (.cells #[.int .i64 a, .int .i64 b, .int .i64 c] 27)))
    (CQ : Hid (∀ w, Calls Try.prog 15 #[.int .i64 a, .int .i64 b, .int .i64 c] w fun e w' => e = .returned (.tuple #[.int .i64 p, .bool false]) ∧ w' = w))
    (CV : Hid (∀ w, Calls Try.prog 10 #[.int .i64 v] w fun e w' => e = .returned (.tuple #[.agg #[.int .i64 x, .int .i64 y, .int .i64 z], .int .i64 3]) ∧ G w w'))
    (CR : Hid (∀ w, Calls Try.prog 16 #[.int .i64 v] w fun e w' => e = .returned (.tuple #[.int .i64 x, .int .i64 y, .int .i64 z, .bool false]) ∧ w' = w)) :
    Calls Try.prog 4 #[.agg #[.int .i64 a, .int .i64 b, .int .i64 c], .int .i64 v] w fun e w' => e = .returned (.bool true) ∧ G w w' := by
  go_enter Try.func4, Try.ntmps4
  go_wp2_with fail
  refine (awake_true _).mono ?_
  rintro e w1 ⟨rfl, g1⟩
  obtain ⟨x0, x1, x2, hs0⟩ := (Box3.G (b := w.heap.size) (x := .int .i64 a) (y := .int .i64 b) (z := .int .i64 c) (t := 27) (heap_alloc_new w _) g1).cells
  have G1 := hide (G.trans (a := w) (by go_grown) g1)
  clear g1
  go_wp2_with fail
  refine (unhide CP _).mono ?_
  rintro e w2 ⟨rfl, rfl⟩
  go_wp2_with fail
  refine (unhide CQ _).mono ?_
  rintro e w2 ⟨rfl, rfl⟩
  go_wp2_with fail
  refine (unhide CV _).mono ?_
  rintro e w4 ⟨rfl, g4⟩
  have G4 := hide (((unhide G1).more _).trans g4)
  clear G1 g4
  go_wp2_with fail
  refine (unhide CR _).mono ?_
  rintro e w5 ⟨rfl, rfl⟩
  go_wp2_with fail
  go_ret
  exact ⟨rfl, (unhide G4).more _⟩

theorem walk_HeadPacks (a b c v : Int) (_wa : (Lit.int .i64 a).wf = true) (_wb : (Lit.int .i64 b).wf = true) (_wc : (Lit.int .i64 c).wf = true) (_wv : (Lit.int .i64 v).wf = true) (w : World) :
    Calls Try.prog 4 #[.agg #[.int .i64 a, .int .i64 b, .int .i64 c], .int .i64 v] w fun e w' => e = .returned (.bool true) ∧ G w w' := by
  have CP := hide (pack_any a b c)
  have CQ := hide (rpack_any a b c)
  have CV := hide (unpack_any v)
  have CR := hide (runpack_any v)
  by_cases h1 : hokB a b c = true
  · rw [show pkE a b c = 0 by simp [pkE, h1], show pkV a b c = hw a b c by simp [pkV, h1]] at CP
    rw [h1, show pkV a b c = hw a b c by simp [pkV, h1]] at CQ
    have CU := hide (unpack_any (hw a b c))
    have hu := hw_uok h1
    obtain ⟨e0, e1, e2, _, _⟩ := hw_up h1
    simp only [ukV, ukE, hu, if_true, e0, e1, e2] at CU
    by_cases h2 : uokB v = true
    · rw [h2] at CR
      rw [show ukE v = 0 by simp [ukE, h2]] at CV
      exact packs_yes_yes a b c _ v _ _ _ w CP CQ CU CV CR
    · rw [show uokB v = false by simpa using h2] at CR
      rw [show ukE v = 3 by simp [ukE, h2]] at CV
      exact packs_yes_no a b c _ v _ _ _ w CP CQ CU CV CR
  · rw [show pkE a b c = 1 by simp [pkE, h1]] at CP
    rw [show hokB a b c = false by simpa using h1] at CQ
    by_cases h2 : uokB v = true
    · rw [h2] at CR
      rw [show ukE v = 0 by simp [ukE, h2]] at CV
      exact packs_no_yes a b c _ v _ _ _ w CP CQ CV CR
    · rw [show uokB v = false by simpa using h2] at CR
      rw [show ukE v = 3 by simp [ukE, h2]] at CV
      exact packs_no_no a b c _ v _ _ _ w CP CQ CV CR

set_option maxRecDepth 100000 in
theorem lifted_HeadPacks (os : Os) (started : os.Started) (H : Type) (enc : TypeId × Value → H) :
    ReturnsInHanded {} Try.checked os 4 .any (Rows.headPacksSpec.pre6 enc Try.prog Try.f4 Rows.headPacksRow.domain false) (Rows.headPacksSpec.post enc Try.prog Try.f4 false true false false) := by
  refine returnsInHanded_of_change (C := Try.checked) own started (by kernel_rfl) Try.func4
    (ChangeSpec.witness6 (enc := enc) (C := Try.checked) false ⟨#[], #[.agg #[.int .i64 0, .int .i64 0, .int .i64 0], .int .i64 0], []⟩ 8 (by kernel_rfl) (by kernel_rfl) (by kernel_rfl) (by kernel_rfl)) ?_
  intro W base args ds gs before hval0 hW _ _
  have hval : ∀ (j : Nat) t v, Try.f4.params[j]? = some t → args[j]? = some v → Value.okWide Try.prog W .any base t v := hval0
  have hW' := hW
  obtain ⟨p, q, hA0, hV, rfl, hfz, hnd⟩ := hW
  have hA : DataW.TrodAll enc Try.prog W 0 (fun _ => true) true Try.f4.params.toList args.toList ds p := hA0
  rw [Try.params4] at hA hval
  obtain ⟨v0, vs0, d0, ds0, p0, q0, hargs, rfl, rfl, h0, r0⟩ := trodAll_cons hA
  obtain ⟨v1, vs1, d1, ds1, p1, q1, rfl, rfl, rfl, h1, r1⟩ := trodAll_cons r0
  obtain ⟨rfl, rfl, rfl⟩ := trodAll_nil r1
  obtain rfl : args = #[v0, v1] := by cases args; simp_all
  obtain ⟨rfl, rfl⟩ := trodVars_none hV
  have k0 := h0
  have lt0 : ∀ x ∈ p0, x.block < W.heap.size := by obtain ⟨m, hm⟩ := k0; exact DataW.trod_lt m _ _ _ hm
  obtain ⟨a0, b0, c0, rfl, wa0, wb0, wc0⟩ := open_head (hval 0 27 v0 rfl rfl) h0
  have k1 := h1
  have lt1 : ∀ x ∈ p1, x.block < W.heap.size := by obtain ⟨m, hm⟩ := k1; exact DataW.trod_lt m _ _ _ hm
  obtain ⟨a1, rfl, rfl, rfl, w1⟩ := open_int Try.underlying2 (hval 1 2 v1 rfl rfl) h1
  clear hA0 hval0
  refine (walk_HeadPacks a0 b0 c0 a1 wa0 wb0 wc0 w1 W).mono fun e W' ⟨he, hg⟩ => ?_
  subst he
  exact ⟨_, rfl, _, _, _, [], _, [], hW', trodAll_mk1 (shut_bool Try.underlying4 _), (trodAll_cons_mk (Below.trod laidOut (by kernel_rfl) (of_decide_eq_true (by kernel_rfl)) k0 hg lt0) (trodAll_cons_mk (Below.trod laidOut (by kernel_rfl) (of_decide_eq_true (by kernel_rfl)) k1 hg lt1) trodAll_mk0)), rfl, hg.frame _, fun h => by cases h⟩

/-- THE STATEMENT. -/
theorem said_HeadPacks : Rows.HeadPacksSaid :=
  OpenClaim.holds_of_wide 4 Try.f4 rfl rfl rfl rfl rfl rfl rfl ⟨rfl, rfl, rfl, rfl, rfl⟩ rfl rfl rfl rfl rfl (by kernel_rfl) Try.func4 (by kernel_rfl)
    (of_decide_eq_true (by kernel_rfl)) (by unfold Func.isWrapper; first | (rw [if_pos (by decide +kernel)]; kernel_rfl) | (rw [if_neg (by decide +kernel)]; exact ⟨rfl, rfl⟩))
    (fun os started H enc _ => lifted_HeadPacks os started H enc)
#print axioms said_HeadPacks
end Go.Proofs.Ytionokpdplgjbaa
