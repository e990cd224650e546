/- HeadHolds answers true, whatever the shape, the field and the words. -/
import Derived.Test.YtionokpdplgjbaaHeadBase
import Derived.Deep.RegionHeld
namespace Go.Proofs.Ytionokpdplgjbaa
open Go.RowKit Go.Maps Go.ChangeShapes Go.WideShapes Go.ChangeAt Go.Deep

theorem keep_call {w0 y x : World} {b : Nat} {p q r : Value}
    (h : Below w0.heap.size w0 y ∧ y.cell? ⟨b, 0, none⟩ = some p ∧ y.cell? ⟨b, 1, none⟩ = some q ∧ y.cell? ⟨b, 2, none⟩ = some r) (g : G y x) :
    Below w0.heap.size w0 x ∧ x.cell? ⟨b, 0, none⟩ = some p ∧ x.cell? ⟨b, 1, none⟩ = some q ∧ x.cell? ⟨b, 2, none⟩ = some r := by
  obtain ⟨h0, h1, h2, h3⟩ := h
  have hb := World.block_lt_of_cell? y _ h1
  exact ⟨h0.trans (g.mono h0.size), (g.cell (p := ⟨b, 0, none⟩) hb).trans h1, (g.cell (p := ⟨b, 1, none⟩) hb).trans h2, (g.cell (p := ⟨b, 2, none⟩) hb).trans h3⟩

set_option maxHeartbeats 1000000 in
theorem holds_bad (s : Shp) (i n : Int) (w : World) (hg : goodB s.k s.f s.m = false) :
    Calls Try.prog 6 #[.agg #[.int .i64 s.k, .int .i64 s.f, .int .u64 (s.m : Int)], .int .i64 i, .int .i64 n] w fun e w' => e = .returned (.bool true) ∧ G w w' := by
  go_enter Try.func6, Try.ntmps6
  go_wp2_with fail
  refine (awake_true _).mono ?_
  rintro e w1 ⟨rfl, g1⟩
  obtain ⟨x0, x1, x2, hs0⟩ := (Box3.G (b := w.heap.size) (x := .int .i64 s.k) (y := .int .i64 s.f) (z := .int .u64 (s.m : Int)) (t := 32) (heap_alloc_new w _) g1).cells
  have G1 := hide (G.trans (a := w) (by go_grown) g1)
  clear g1
  go_wp2_with (go_at_call 14; refine (good_any _ _ _ _).mono ?_; rintro e w' ⟨rfl, rfl⟩)
  go_ret
  exact ⟨rfl, (unhide G1).more _⟩

set_option maxHeartbeats 1000000 in
theorem holds_good (s : Shp) (i n : Int) (t : Bool) (w : World) (hg : goodB s.k s.f s.m = true)
    (CH : Hid (∀ w, Calls Try.prog 20 #[.agg #[.int .i64 s.k, .int .i64 s.f, .int .u64 (s.m : Int)], .int .i64 i, .int .i64 n] w fun e w' => e = .returned (.bool t) ∧ G w w'))
    (CR : Hid (∀ w, Calls Try.prog 21 #[.agg #[.int .i64 s.k, .int .i64 s.f, .int .u64 (s.m : Int)], .int .i64 i, .int .i64 n] w fun e w' => e = .returned (.bool t) ∧ G w w')) :
    Calls Try.prog 6 #[.agg #[.int .i64 s.k, .int .i64 s.f, .int .u64 (s.m : Int)], .int .i64 i, .int .i64 n] w fun e w' => e = .returned (.bool true) ∧ G w w' := by
  go_enter Try.func6, Try.ntmps6
  go_wp2_with fail
  refine (awake_true _).mono ?_
  rintro e w1 ⟨rfl, g1⟩
  obtain ⟨x0, x1, x2, hs0⟩ := (Box3.G (b := w.heap.size) (x := .int .i64 s.k) (y := .int .i64 s.f) (z := .int .u64 (s.m : Int)) (t := 32) (heap_alloc_new w _) g1).cells
  have G1 := hide (G.trans (a := w) (by go_grown) g1)
  clear g1
  go_wp2_with (go_at_call 14; refine (good_any _ _ _ _).mono ?_; rintro e w' ⟨rfl, rfl⟩)
  obtain ⟨w2, hw2⟩ : ∃ w2, w2 = w1.alloc (.cells #[.int .i64 s.k, .int .i64 s.f, .int .u64 (s.m : Int)] 32) := ⟨_, rfl⟩
  rw [← hw2]
  have y0 : w2.cell? ⟨w.heap.size, 0, none⟩ = some (.int .i64 s.k) := by rw [hw2, World.cell?_alloc_past _ _ _ hs0]; exact x0
  have y1 : w2.cell? ⟨w.heap.size, 1, none⟩ = some (.int .i64 s.f) := by rw [hw2, World.cell?_alloc_past _ _ _ hs0]; exact x1
  have y2 : w2.cell? ⟨w.heap.size, 2, none⟩ = some (.int .u64 (s.m : Int)) := by rw [hw2, World.cell?_alloc_past _ _ _ hs0]; exact x2
  have G2 : Hid (G w w2) := hide (by rw [hw2]; exact (unhide G1).more _)
  clear hw2 x0 x1 x2 hs0 G1
  have hS : Below w2.heap.size w2 w2.drew ∧ w2.drew.cell? ⟨w.heap.size, 0, none⟩ = some (.int .i64 s.k) ∧ w2.drew.cell? ⟨w.heap.size, 1, none⟩ = some (.int .i64 s.f) ∧ w2.drew.cell? ⟨w.heap.size, 2, none⟩ = some (.int .u64 (s.m : Int)) := ⟨(Below.refl _ _).drew, y0, y1, y2⟩
  go_region_held (fun x => Below w2.heap.size w2 x ∧ x.cell? ⟨w.heap.size, 0, none⟩ = some (.int .i64 s.k) ∧ x.cell? ⟨w.heap.size, 1, none⟩ = some (.int .i64 s.f) ∧ x.cell? ⟨w.heap.size, 2, none⟩ = some (.int .u64 (s.m : Int)))
    (first | assumption | exact hS | exact keep_call (by assumption) (by assumption))
    (first
      | (go_at_call 20; refine (unhide CH _).mono ?_; rintro e x ⟨rfl, hx⟩)
      | (go_at_call 18; refine (own_any _ _ _ _).mono ?_; rintro e x ⟨rfl, hx⟩)
      | (go_at_call 21; refine (unhide CR _).mono ?_; rintro e x ⟨rfl, hx⟩))
  all_goals
    rename_i hH
    have HX := hide (G.trans (unhide G2) hH.1)
    clear hH
    go_wp2_with fail
    go_ret
    exact ⟨ret_bool (by simp), unhide HX⟩

theorem walk_HeadHolds (s : Shp) (i n : Int) (hs : s.Fit) (_wi : (Lit.int .i64 i).wf = true) (wn : (Lit.int .i64 n).wf = true) (w : World) :
    Calls Try.prog 6 #[.agg #[.int .i64 s.k, .int .i64 s.f, .int .u64 (s.m : Int)], .int .i64 i, .int .i64 n] w fun e w' => e = .returned (.bool true) ∧ G w w' := by
  have hn := (bounds_i64 wn).2
  by_cases hg : goodB s.k s.f s.m = true
  · have hk : s.k = 0 ∨ s.k = 1 ∨ s.k = 2 ∨ s.k = 3 := by
      unfold goodB at hg
      by_cases h0 : s.k = 0 ∨ s.k = 2
      · omega
      · rw [if_neg h0] at hg
        by_cases h1 : s.k = 1 ∨ s.k = 3
        · omega
        · rw [if_neg h1] at hg
          cases hg
    exact holds_good s i n _ w hg (hide fun w => holds_any _ _ _ _ _ w hs.m0 hn) (hide fun w => rholds_any _ _ _ _ _ w hs.m0 hn hk)
  · exact holds_bad s i n w (by simpa using hg)

set_option maxRecDepth 100000 in
theorem lifted_HeadHolds (os : Os) (started : os.Started) (H : Type) (enc : TypeId × Value → H) :
    ReturnsInHanded {} Try.checked os 6 .any (Rows.headHoldsSpec.pre6 enc Try.prog Try.f6 Rows.headHoldsRow.domain false) (Rows.headHoldsSpec.post enc Try.prog Try.f6 false true false false) := by
  refine returnsInHanded_of_change (C := Try.checked) own started (by kernel_rfl) Try.func6
    (ChangeSpec.witness6 (enc := enc) (C := Try.checked) false ⟨#[], #[.agg #[.int .i64 0, .int .i64 0, .int .u64 0], .int .i64 0, .int .i64 0], []⟩ 8 (by kernel_rfl) (by kernel_rfl) (by kernel_rfl) (by kernel_rfl)) ?_
  intro W base args ds gs before hval0 hW _ _
  have hval : ∀ (j : Nat) t v, Try.f6.params[j]? = some t → args[j]? = some v → Value.okWide Try.prog W .any base t v := hval0
  have hW' := hW
  obtain ⟨p, q, hA0, hV, rfl, hfz, hnd⟩ := hW
  have hA : DataW.TrodAll enc Try.prog W 0 (fun _ => true) true Try.f6.params.toList args.toList ds p := hA0
  rw [Try.params6] at hA hval
  obtain ⟨v0, vs0, d0, ds0, p0, q0, hargs, rfl, rfl, h0, r0⟩ := trodAll_cons hA
  obtain ⟨v1, vs1, d1, ds1, p1, q1, rfl, rfl, rfl, h1, r1⟩ := trodAll_cons r0
  obtain ⟨v2, vs2, d2, ds2, p2, q2, rfl, rfl, rfl, h2, r2⟩ := trodAll_cons r1
  obtain ⟨rfl, rfl, rfl⟩ := trodAll_nil r2
  obtain rfl : args = #[v0, v1, v2] := by cases args; simp_all
  obtain ⟨rfl, rfl⟩ := trodVars_none hV
  have k0 := h0
  have lt0 : ∀ x ∈ p0, x.block < W.heap.size := by obtain ⟨m, hm⟩ := k0; exact DataW.trod_lt m _ _ _ hm
  obtain ⟨s0, rfl, w0⟩ := open_shape (hval 0 32 v0 rfl rfl) h0
  have k1 := h1
  have lt1 : ∀ x ∈ p1, x.block < W.heap.size := by obtain ⟨m, hm⟩ := k1; exact DataW.trod_lt m _ _ _ hm
  obtain ⟨a1, rfl, rfl, rfl, w1⟩ := open_int Try.underlying3 (hval 1 3 v1 rfl rfl) h1
  have k2 := h2
  have lt2 : ∀ x ∈ p2, x.block < W.heap.size := by obtain ⟨m, hm⟩ := k2; exact DataW.trod_lt m _ _ _ hm
  obtain ⟨a2, rfl, rfl, rfl, w2⟩ := open_int Try.underlying3 (hval 2 3 v2 rfl rfl) h2
  clear hA0 hval0
  refine (walk_HeadHolds s0 a1 a2 w0 w1 w2 W).mono fun e W' ⟨he, hg⟩ => ?_
  subst he
  exact ⟨_, rfl, _, _, _, [], _, [], hW', trodAll_mk1 (shut_bool Try.underlying4 _), (trodAll_cons_mk (Below.trod laidOut (by kernel_rfl) (of_decide_eq_true (by kernel_rfl)) k0 hg lt0) (trodAll_cons_mk (Below.trod laidOut (by kernel_rfl) (of_decide_eq_true (by kernel_rfl)) k1 hg lt1) (trodAll_cons_mk (Below.trod laidOut (by kernel_rfl) (of_decide_eq_true (by kernel_rfl)) k2 hg lt2) trodAll_mk0))), rfl, hg.frame _, fun h => by cases h⟩

/-- THE STATEMENT. -/
theorem said_HeadHolds : Rows.HeadHoldsSaid :=
  OpenClaim.holds_of_wide 6 Try.f6 rfl rfl rfl rfl rfl rfl rfl ⟨rfl, rfl, rfl, rfl, rfl⟩ rfl rfl rfl rfl rfl (by kernel_rfl) Try.func6 (by kernel_rfl)
    (of_decide_eq_true (by kernel_rfl)) (by unfold Func.isWrapper; first | (rw [if_pos (by decide +kernel)]; kernel_rfl) | (rw [if_neg (by decide +kernel)]; exact ⟨rfl, rfl⟩))
    (fun os started H enc _ => lifted_HeadHolds os started H enc)
#print axioms said_HeadHolds
end Go.Proofs.Ytionokpdplgjbaa
