/- Package gantlinelaw20: awake and TreeKnown answer true. -/
import Derived.Test.YthbpmekfgkagiaaTrA
namespace Go.Proofs.Ythbpmekfgkagiaa
set_option maxRecDepth 100000
open Go.RowKit Go.Maps Go.ChangeShapes Go.WideShapes Go.ChangeAt Go.Deep

set_option maxHeartbeats 8000000 in
theorem awake20 (w : World) : Calls Try.prog 6 #[] w fun e w' => e = .returned (.bool true) ∧ G w w' := by
  have C0 := hide sum_any
  have b0 := bn_0
  go_enter Try.func6, Try.ntmps6
  go_wp2_with fail
  refine (unhide C0 _).mono ?_
  rintro e w1 ⟨q0, rfl, g1, S0⟩
  go_upto_region 2 with fail
  obtain ⟨W1, hW1⟩ : ∃ W1, W1 = w1.alloc (.cells #[.string kBin, .string sPlus, .int .i64 2, .slice (some ⟨q0, 0, none⟩) 2 2] 26) := ⟨_, rfl⟩
  have gw : G w1 W1 := by rw [hW1]; exact G.alloc _ _
  have hh : W1.heap[w1.heap.size]? = some (.cells #[.string kBin, .string sPlus, .int .i64 2, .slice (some ⟨q0, 0, none⟩) 2 2] 26) := by rw [hW1]; exact heap_alloc_new w1 _
  have o0 : W1.cell? ⟨w1.heap.size, 0, none⟩ = some (.string kBin) := by rw [Lib.cell_of_heap hh]; rfl
  have o1 : W1.cell? ⟨w1.heap.size, 1, none⟩ = some (.string sPlus) := by rw [Lib.cell_of_heap hh]; rfl
  have o2 : W1.cell? ⟨w1.heap.size, 2, none⟩ = some (.int .i64 2) := by rw [Lib.cell_of_heap hh]; rfl
  have o3 : W1.cell? ⟨w1.heap.size, 3, none⟩ = some (.slice (some ⟨q0, 0, none⟩) 2 2) := by rw [Lib.cell_of_heap hh]; rfl
  have f2 : W1.frozen? ⟨w1.heap.size, 2, none⟩ = false := Lib.frozen_of_heap hh 2
  have T1 : TAt w1 w1.heap.size (sumT 9) (.slice (some ⟨q0, 0, none⟩) 2 2) := (unhide S0).1
  rw [← hW1]
  obtain ⟨W2, hW2⟩ : ∃ W2, W2 = W1.setCell ⟨w1.heap.size, 2, none⟩ (.int .i64 9) := ⟨_, rfl⟩
  have gW2 : G w1 W2 := by rw [hW2]; exact gw.set _ _ _ (Nat.le_refl _)
  have hG : Hid (G w W2) := hide (g1.trans gW2)
  have p0 : W2.cell? ⟨w1.heap.size, 0, none⟩ = some (.string kBin) := by rw [hW2]; exact (World.cell?_setCell_other _ _ _ _ (fun e => by injection e with e1 e2; omega)).trans o0
  have p1 : W2.cell? ⟨w1.heap.size, 1, none⟩ = some (.string sPlus) := by rw [hW2]; exact (World.cell?_setCell_other _ _ _ _ (fun e => by injection e with e1 e2; omega)).trans o1
  have p2 : W2.cell? ⟨w1.heap.size, 2, none⟩ = some (.int .i64 9) := by rw [hW2]; exact World.cell?_setCell_same _ _ _ o2
  have p3 : W2.cell? ⟨w1.heap.size, 3, none⟩ = some (.slice (some ⟨q0, 0, none⟩) 2 2) := by rw [hW2]; exact (World.cell?_setCell_other _ _ _ _ (fun e => by injection e with e1 e2; omega)).trans o3
  have T2 := TAt.gg T1 gW2
  have KO : Hid (∀ y, (G W2 y ∧ y.cell? ⟨w1.heap.size, 0, none⟩ = some (.string kBin) ∧ y.cell? ⟨w1.heap.size, 1, none⟩ = some (.string sPlus) ∧ y.cell? ⟨w1.heap.size, 2, none⟩ = some (.int .i64 9) ∧ y.cell? ⟨w1.heap.size, 3, none⟩ = some (.slice (some ⟨q0, 0, none⟩) 2 2)) → TAt y y.heap.size (sumT 9) (.slice (some ⟨q0, 0, none⟩) 2 2)) := hide fun y h => TAt.gg T2 h.1
  have KC : Hid (∀ y y' : World, (G W2 y ∧ y.cell? ⟨w1.heap.size, 0, none⟩ = some (.string kBin) ∧ y.cell? ⟨w1.heap.size, 1, none⟩ = some (.string sPlus) ∧ y.cell? ⟨w1.heap.size, 2, none⟩ = some (.int .i64 9) ∧ y.cell? ⟨w1.heap.size, 3, none⟩ = some (.slice (some ⟨q0, 0, none⟩) 2 2)) → G y y' → (G W2 y' ∧ y'.cell? ⟨w1.heap.size, 0, none⟩ = some (.string kBin) ∧ y'.cell? ⟨w1.heap.size, 1, none⟩ = some (.string sPlus) ∧ y'.cell? ⟨w1.heap.size, 2, none⟩ = some (.int .i64 9) ∧ y'.cell? ⟨w1.heap.size, 3, none⟩ = some (.slice (some ⟨q0, 0, none⟩) 2 2))) := hide fun y y' h g => ⟨h.1.trans g, g.cell h.2.1, g.cell h.2.2.1, g.cell h.2.2.2.1, g.cell h.2.2.2.2⟩
  have KD := hide (unhide KC W2 W2.drew ⟨G.refl _, p0, p1, p2, p3⟩ ((G.refl _).drew))
  have CS : Hid (∀ y, (G W2 y ∧ y.cell? ⟨w1.heap.size, 0, none⟩ = some (.string kBin) ∧ y.cell? ⟨w1.heap.size, 1, none⟩ = some (.string sPlus) ∧ y.cell? ⟨w1.heap.size, 2, none⟩ = some (.int .i64 9) ∧ y.cell? ⟨w1.heap.size, 3, none⟩ = some (.slice (some ⟨q0, 0, none⟩) 2 2)) → Calls Try.prog 14 #[] y fun e w' => ∃ q, e = .returned (.agg (ndL kBin sPlus 2 (.slice (some ⟨q, 0, none⟩) 2 2))) ∧ G y w' ∧ Hid (SumC w' q 2)) := hide fun y _ => sum_any y
  have KS : Hid (∀ x q V, Hid (SumC x q 2) → (G W2 x ∧ x.cell? ⟨w1.heap.size, 0, none⟩ = some (.string kBin) ∧ x.cell? ⟨w1.heap.size, 1, none⟩ = some (.string sPlus) ∧ x.cell? ⟨w1.heap.size, 2, none⟩ = some (.int .i64 9) ∧ x.cell? ⟨w1.heap.size, 3, none⟩ = some (.slice (some ⟨q0, 0, none⟩) 2 2)) → (V = .agg (ndL kBin sPlus 9 (.slice (some ⟨q0, 0, none⟩) 2 2)) ∨ V = .agg (ndL kEmp kEmp 0 (.slice none 0 0))) → Calls Try.prog 10 #[.agg (ndL kBin sPlus 2 (.slice (some ⟨q, 0, none⟩) 2 2)), V] x fun e w' => ∃ r, e = .returned (.bool r) ∧ (V = .agg (ndL kBin sPlus 9 (.slice (some ⟨q0, 0, none⟩) 2 2)) → r = true) ∧ (V = .agg (ndL kEmp kEmp 0 (.slice none 0 0)) → r = false) ∧ G x w') := hide fun x q V hS hI hV => by
    have hne : ¬ (Value.agg (ndL kBin sPlus 9 (.slice (some ⟨q0, 0, none⟩) 2 2)) = .agg (ndL kEmp kEmp 0 (.slice none 0 0))) := fun e => by simp at e
    rcases hV with rfl | rfl
    · refine (((unhide hS).2 _ (G.refl _)).2.2.2.2 _ _ (unhide KO _ hI)).mono ?_
      rintro e w' ⟨rfl, g⟩
      exact ⟨true, rfl, fun _ => rfl, fun h => absurd h hne, g⟩
    · refine (((unhide hS).2 _ (G.refl _)).2.1).mono ?_
      rintro e w' ⟨rfl, g⟩
      exact ⟨false, rfl, fun h => absurd h.symm hne, fun _ => rfl, g⟩
  clear g1 S0 C0 gw hh hW1 T1 T2 gW2 p0 p1 p2 p3 KO
  go_upto_region 3 with fail
  rw [← hW2]
  clear hW2 o0 o1 o2 o3 f2
  go_region_held3 (fun y => G W2 y ∧ y.cell? ⟨w1.heap.size, 0, none⟩ = some (.string kBin) ∧ y.cell? ⟨w1.heap.size, 1, none⟩ = some (.string sPlus) ∧ y.cell? ⟨w1.heap.size, 2, none⟩ = some (.int .i64 9) ∧ y.cell? ⟨w1.heap.size, 3, none⟩ = some (.slice (some ⟨q0, 0, none⟩) 2 2))
    (first | assumption | exact unhide KD | exact unhide KC _ _ (by assumption) (by assumption))
    ((first
      | (go_at_call 14; refine (unhide CS _ ?_).mono ?_; assumption; rintro e x ⟨q, rfl, hg, hS⟩)
      | (go_at_call 7; refine (((unhide hS).2 _ (G.refl _)).1).mono ?_; rintro e x2 ⟨rfl, hg2⟩)
      | (go_at_call 10; refine (unhide KS _ _ _ hS (by assumption) ?_).mono ?_; (first | exact Or.inl rfl | exact Or.inr rfl); rintro e x2 ⟨r, rfl, hr1, hr2, hg2⟩; (first | (obtain rfl := hr1 rfl; clear hr1 hr2) | (obtain rfl := hr2 rfl; clear hr1 hr2)))
      | (go_at_call 8; refine (((unhide hS).2 _ (G.refl _)).2.2.1).mono ?_; rintro e x2 ⟨rfl, hg2⟩)
      | (go_at_call 9; refine (((unhide hS).2 _ (G.refl _)).2.2.2.1).mono ?_; rintro e x2 ⟨rfl, hg2⟩)))
  all_goals
    go_wp2_with fail
    go_ret
    exact ⟨rfl, (unhide hG).trans (by assumption : G W2 _ ∧ _).1⟩
end Go.Proofs.Ythbpmekfgkagiaa
