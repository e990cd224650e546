/- CodeSame of gantlinelaw9: for every two modules the law answers true; nothing that was there is turned. -/
import Derived.Test.YtfbochlohalimaaDoorCodeFrame
namespace Go.Proofs.YtfbochlohalimaaDoor
set_option maxRecDepth 100000
open Go.RowKit Go.Maps Go.ChangeShapes Go.WideShapes Go.ChangeAt Go.Deep

/-- What is held may be more from here on. -/
theorem anyH_more {P : Program} {md : Region.Mode} {ops : Array Oper} {Q : Exit → Act → World → Prop} {S S' : World → Prop} (hS : ∀ x, S' x → S x) : ∀ (fuel : Nat) (listed : Array Bool) (a : Act) (w : World), wpAnyH P md ops Q S' fuel listed a w → wpAnyH P md ops Q S fuel listed a w
  | 0, _, _, _, h => h
  | fuel + 1, _, _, _, h => ⟨h.1, fun i hi => wpOp_mono (fun a' w' h' => ⟨hS w' h'.1, anyH_more hS fuel _ a' w' h'.2⟩) (h.2 i hi)⟩

set_option maxHeartbeats 4000000 in
theorem walk_CodeSame (v0 : Value) (m : Md) (v1 : Value) (m' : Md) (W : World) (ht : Tab9 W) (hM : ModAt W v0 m) (oM : oMd m) (hM' : ModAt W v1 m') (oM' : oMd m') :
    Calls Tryd.prog 7 #[v0, v1] W fun e w' => e = .returned (.bool true) ∧ G W w' := by
  obtain ⟨so, sc, go, gc, co, cc, xo, xc, fo, fc, rfl, r1, r2, r3, r4, r5⟩ := hM
  obtain ⟨so', sc', go', gc', co', cc', xo', xc', fo', fc', rfl, r1', r2', r3', r4', r5'⟩ := hM'
  have hM : ModAt W (.agg #[.slice so m.sh.length sc, .slice go m.gl.length gc, .slice co m.co.length cc, .slice xo m.ca.length xc, .slice fo m.fn.length fc, .int .i64 m.main]) m := ⟨so, sc, go, gc, co, cc, xo, xc, fo, fc, rfl, r1, r2, r3, r4, r5⟩
  have hM' : ModAt W (.agg #[.slice so' m'.sh.length sc', .slice go' m'.gl.length gc', .slice co' m'.co.length cc', .slice xo' m'.ca.length xc', .slice fo' m'.fn.length fc', .int .i64 m'.main]) m' := ⟨so', sc', go', gc', co', cc', xo', xc', fo', fc', rfl, r1', r2', r3', r4', r5'⟩
  have AW := hide (fun x (g : G W x) => awake_any x (ht.g g))
  have BA := hide (fun x (g : G W x) => big_any x _ m (hM.g g))
  have BB := hide (fun x (g : G W x) => big_any x _ m' (hM'.g g))
  have EA := hide (fun x (g : G W x) (hs : smMd m) => encode_any x _ m (hM.g g) oM (Nat.le_trans (encM_le m hs) (by decide)))
  have EB := hide (fun x (g : G W x) (hs : smMd m') => encode_any x _ m' (hM'.g g) oM' (Nat.le_trans (encM_le m' hs) (by decide)))
  have SAB := hide (fun x (g : G W x) => same_any x _ _ m m' (hM.g g) (hM'.g g))
  have SAA := hide (fun x (g : G W x) => same_any x _ _ m m (hM.g g) (hM.g g))
  have HBA := hide (enc_byt m oM)
  have HBB := hide (enc_byt m' oM')
  have INJ : Hid (encM m = encM m' → m = m') := hide (fun h => enc_inj oM oM' h)
  have CNG : Hid (m = m' → encM m = encM m') := hide (fun h => by rw [h])
  clear hM hM' r1 r2 r3 r4 r5 r1' r2' r3' r4' r5' ht oM oM'
  go_enter Tryd.func7, Tryd.ntmps7
  go_wp2_with fail
  refine (unhide AW _ (((G.refl W).more _).more _)).mono ?_
  rintro e w1 ⟨rfl, g1⟩
  have a0 := g1.cell (x := ⟨W.heap.size, 0, none⟩) (v := .slice so m.sh.length sc) (by simp [go_sem])
  have b0 := g1.cell (x := ⟨W.heap.size + 1, 0, none⟩) (v := .slice so' m'.sh.length sc') (by simp [go_sem])
  have a1 := g1.cell (x := ⟨W.heap.size, 1, none⟩) (v := .slice go m.gl.length gc) (by simp [go_sem])
  have b1 := g1.cell (x := ⟨W.heap.size + 1, 1, none⟩) (v := .slice go' m'.gl.length gc') (by simp [go_sem])
  have a2 := g1.cell (x := ⟨W.heap.size, 2, none⟩) (v := .slice co m.co.length cc) (by simp [go_sem])
  have b2 := g1.cell (x := ⟨W.heap.size + 1, 2, none⟩) (v := .slice co' m'.co.length cc') (by simp [go_sem])
  have a3 := g1.cell (x := ⟨W.heap.size, 3, none⟩) (v := .slice xo m.ca.length xc) (by simp [go_sem])
  have b3 := g1.cell (x := ⟨W.heap.size + 1, 3, none⟩) (v := .slice xo' m'.ca.length xc') (by simp [go_sem])
  have a4 := g1.cell (x := ⟨W.heap.size, 4, none⟩) (v := .slice fo m.fn.length fc) (by simp [go_sem])
  have b4 := g1.cell (x := ⟨W.heap.size + 1, 4, none⟩) (v := .slice fo' m'.fn.length fc') (by simp [go_sem])
  have a5 := g1.cell (x := ⟨W.heap.size, 5, none⟩) (v := .int .i64 m.main) (by simp [go_sem])
  have b5 := g1.cell (x := ⟨W.heap.size + 1, 5, none⟩) (v := .int .i64 m'.main) (by simp [go_sem])
  have G1 := hide ((((G.refl W).more _).more _).trans g1)
  clear AW g1
  go_wp2_with fail
  refine (unhide BA w1 (unhide G1)).mono ?_
  rintro e w2 ⟨q, rfl, hq, g2⟩
  replace a0 := g2.cell a0
  replace b0 := g2.cell b0
  replace a1 := g2.cell a1
  replace b1 := g2.cell b1
  replace a2 := g2.cell a2
  replace b2 := g2.cell b2
  replace a3 := g2.cell a3
  replace b3 := g2.cell b3
  replace a4 := g2.cell a4
  replace b4 := g2.cell b4
  replace a5 := g2.cell a5
  replace b5 := g2.cell b5
  have G2 := hide ((unhide G1).trans g2)
  clear BA g2 G1
  cases q
  rotate_left
  · go_wp2_with fail
    go_ret
    exact ⟨rfl, unhide G2⟩
  have hs := hq rfl
  have EA2 := hide (fun x (g : G W x) => unhide EA x g hs)
  clear hq hs EA
  go_wp2_with fail
  refine (unhide BB w2 (unhide G2)).mono ?_
  rintro e w3 ⟨q, rfl, hq, g3⟩
  replace a0 := g3.cell a0
  replace b0 := g3.cell b0
  replace a1 := g3.cell a1
  replace b1 := g3.cell b1
  replace a2 := g3.cell a2
  replace b2 := g3.cell b2
  replace a3 := g3.cell a3
  replace b3 := g3.cell b3
  replace a4 := g3.cell a4
  replace b4 := g3.cell b4
  replace a5 := g3.cell a5
  replace b5 := g3.cell b5
  have G3 := hide ((unhide G2).trans g3)
  clear BB g3 G2
  cases q
  rotate_left
  · go_wp2_with fail
    go_ret
    exact ⟨rfl, unhide G3⟩
  have hs := hq rfl
  have EB2 := hide (fun x (g : G W x) => unhide EB x g hs)
  clear hq hs EB
  have KP : Hid (∀ x, G w3 x → G w3 x ∧ x.cell? ⟨W.heap.size, 0, none⟩ = some (.slice so m.sh.length sc) ∧ x.cell? ⟨W.heap.size, 1, none⟩ = some (.slice go m.gl.length gc) ∧ x.cell? ⟨W.heap.size, 2, none⟩ = some (.slice co m.co.length cc) ∧ x.cell? ⟨W.heap.size, 3, none⟩ = some (.slice xo m.ca.length xc) ∧ x.cell? ⟨W.heap.size, 4, none⟩ = some (.slice fo m.fn.length fc) ∧ x.cell? ⟨W.heap.size, 5, none⟩ = some (.int .i64 m.main) ∧ x.cell? ⟨W.heap.size + 1, 0, none⟩ = some (.slice so' m'.sh.length sc') ∧ x.cell? ⟨W.heap.size + 1, 1, none⟩ = some (.slice go' m'.gl.length gc') ∧ x.cell? ⟨W.heap.size + 1, 2, none⟩ = some (.slice co' m'.co.length cc') ∧ x.cell? ⟨W.heap.size + 1, 3, none⟩ = some (.slice xo' m'.ca.length xc') ∧ x.cell? ⟨W.heap.size + 1, 4, none⟩ = some (.slice fo' m'.fn.length fc') ∧ x.cell? ⟨W.heap.size + 1, 5, none⟩ = some (.int .i64 m'.main)) := hide fun x gx => ⟨gx, gx.cell a0, gx.cell a1, gx.cell a2, gx.cell a3, gx.cell a4, gx.cell a5, gx.cell b0, gx.cell b1, gx.cell b2, gx.cell b3, gx.cell b4, gx.cell b5⟩
  have KC : Hid (∀ x x2, G x x2 → (G w3 x ∧ x.cell? ⟨W.heap.size, 0, none⟩ = some (.slice so m.sh.length sc) ∧ x.cell? ⟨W.heap.size, 1, none⟩ = some (.slice go m.gl.length gc) ∧ x.cell? ⟨W.heap.size, 2, none⟩ = some (.slice co m.co.length cc) ∧ x.cell? ⟨W.heap.size, 3, none⟩ = some (.slice xo m.ca.length xc) ∧ x.cell? ⟨W.heap.size, 4, none⟩ = some (.slice fo m.fn.length fc) ∧ x.cell? ⟨W.heap.size, 5, none⟩ = some (.int .i64 m.main) ∧ x.cell? ⟨W.heap.size + 1, 0, none⟩ = some (.slice so' m'.sh.length sc') ∧ x.cell? ⟨W.heap.size + 1, 1, none⟩ = some (.slice go' m'.gl.length gc') ∧ x.cell? ⟨W.heap.size + 1, 2, none⟩ = some (.slice co' m'.co.length cc') ∧ x.cell? ⟨W.heap.size + 1, 3, none⟩ = some (.slice xo' m'.ca.length xc') ∧ x.cell? ⟨W.heap.size + 1, 4, none⟩ = some (.slice fo' m'.fn.length fc') ∧ x.cell? ⟨W.heap.size + 1, 5, none⟩ = some (.int .i64 m'.main)) → (G w3 x2 ∧ x2.cell? ⟨W.heap.size, 0, none⟩ = some (.slice so m.sh.length sc) ∧ x2.cell? ⟨W.heap.size, 1, none⟩ = some (.slice go m.gl.length gc) ∧ x2.cell? ⟨W.heap.size, 2, none⟩ = some (.slice co m.co.length cc) ∧ x2.cell? ⟨W.heap.size, 3, none⟩ = some (.slice xo m.ca.length xc) ∧ x2.cell? ⟨W.heap.size, 4, none⟩ = some (.slice fo m.fn.length fc) ∧ x2.cell? ⟨W.heap.size, 5, none⟩ = some (.int .i64 m.main) ∧ x2.cell? ⟨W.heap.size + 1, 0, none⟩ = some (.slice so' m'.sh.length sc') ∧ x2.cell? ⟨W.heap.size + 1, 1, none⟩ = some (.slice go' m'.gl.length gc') ∧ x2.cell? ⟨W.heap.size + 1, 2, none⟩ = some (.slice co' m'.co.length cc') ∧ x2.cell? ⟨W.heap.size + 1, 3, none⟩ = some (.slice xo' m'.ca.length xc') ∧ x2.cell? ⟨W.heap.size + 1, 4, none⟩ = some (.slice fo' m'.fn.length fc') ∧ x2.cell? ⟨W.heap.size + 1, 5, none⟩ = some (.int .i64 m'.main))) := hide fun x x2 hg hs => unhide KP x2 (hs.1.trans hg)
  obtain ⟨qe, hqe⟩ : ∃ qe : Bool, (qe = true ↔ m = m') := by
    by_cases e : m = m'
    · exact ⟨true, fun _ => e, fun _ => rfl⟩
    · exact ⟨false, (fun h => by cases h), fun h => absurd h e⟩
  have hstr : ((strOfNums (encM m)).toList == (strOfNums (encM m')).toList) = qe := by
    rw [str_eq (unhide HBA) (unhide HBB)]
    cases qe
    · exact decide_eq_false (fun h => absurd (hqe.2 (unhide INJ h)) (by decide))
    · exact decide_eq_true (unhide CNG (hqe.1 rfl))
  have CAB : Hid (∀ x, (G w3 x ∧ x.cell? ⟨W.heap.size, 0, none⟩ = some (.slice so m.sh.length sc) ∧ x.cell? ⟨W.heap.size, 1, none⟩ = some (.slice go m.gl.length gc) ∧ x.cell? ⟨W.heap.size, 2, none⟩ = some (.slice co m.co.length cc) ∧ x.cell? ⟨W.heap.size, 3, none⟩ = some (.slice xo m.ca.length xc) ∧ x.cell? ⟨W.heap.size, 4, none⟩ = some (.slice fo m.fn.length fc) ∧ x.cell? ⟨W.heap.size, 5, none⟩ = some (.int .i64 m.main) ∧ x.cell? ⟨W.heap.size + 1, 0, none⟩ = some (.slice so' m'.sh.length sc') ∧ x.cell? ⟨W.heap.size + 1, 1, none⟩ = some (.slice go' m'.gl.length gc') ∧ x.cell? ⟨W.heap.size + 1, 2, none⟩ = some (.slice co' m'.co.length cc') ∧ x.cell? ⟨W.heap.size + 1, 3, none⟩ = some (.slice xo' m'.ca.length xc') ∧ x.cell? ⟨W.heap.size + 1, 4, none⟩ = some (.slice fo' m'.fn.length fc') ∧ x.cell? ⟨W.heap.size + 1, 5, none⟩ = some (.int .i64 m'.main)) → Calls Tryd.prog 14 #[.agg #[.slice so m.sh.length sc, .slice go m.gl.length gc, .slice co m.co.length cc, .slice xo m.ca.length xc, .slice fo m.fn.length fc, .int .i64 m.main], .agg #[.slice so' m'.sh.length sc', .slice go' m'.gl.length gc', .slice co' m'.co.length cc', .slice xo' m'.ca.length xc', .slice fo' m'.fn.length fc', .int .i64 m'.main]] x fun e w' => e = .returned (.bool qe) ∧ G x w') := hide fun x hs => by
    refine (unhide SAB x ((unhide G3).trans hs.1)).mono ?_
    rintro e w' ⟨q, rfl, hq, hg⟩
    refine ⟨?_, hg⟩
    have : q = qe := by
      have h2 := hq.trans hqe.symm
      cases q <;> cases qe <;> simp_all
    rw [this]
  have CAA : Hid (∀ x, (G w3 x ∧ x.cell? ⟨W.heap.size, 0, none⟩ = some (.slice so m.sh.length sc) ∧ x.cell? ⟨W.heap.size, 1, none⟩ = some (.slice go m.gl.length gc) ∧ x.cell? ⟨W.heap.size, 2, none⟩ = some (.slice co m.co.length cc) ∧ x.cell? ⟨W.heap.size, 3, none⟩ = some (.slice xo m.ca.length xc) ∧ x.cell? ⟨W.heap.size, 4, none⟩ = some (.slice fo m.fn.length fc) ∧ x.cell? ⟨W.heap.size, 5, none⟩ = some (.int .i64 m.main) ∧ x.cell? ⟨W.heap.size + 1, 0, none⟩ = some (.slice so' m'.sh.length sc') ∧ x.cell? ⟨W.heap.size + 1, 1, none⟩ = some (.slice go' m'.gl.length gc') ∧ x.cell? ⟨W.heap.size + 1, 2, none⟩ = some (.slice co' m'.co.length cc') ∧ x.cell? ⟨W.heap.size + 1, 3, none⟩ = some (.slice xo' m'.ca.length xc') ∧ x.cell? ⟨W.heap.size + 1, 4, none⟩ = some (.slice fo' m'.fn.length fc') ∧ x.cell? ⟨W.heap.size + 1, 5, none⟩ = some (.int .i64 m'.main)) → Calls Tryd.prog 14 #[.agg #[.slice so m.sh.length sc, .slice go m.gl.length gc, .slice co m.co.length cc, .slice xo m.ca.length xc, .slice fo m.fn.length fc, .int .i64 m.main], .agg #[.slice so m.sh.length sc, .slice go m.gl.length gc, .slice co m.co.length cc, .slice xo m.ca.length xc, .slice fo m.fn.length fc, .int .i64 m.main]] x fun e w' => e = .returned (.bool true) ∧ G x w') := hide fun x hs => by
    refine (unhide SAA x ((unhide G3).trans hs.1)).mono ?_
    rintro e w' ⟨q, rfl, hq, hg⟩
    exact ⟨by rw [hq.2 (by simp)], hg⟩
  obtain ⟨LA, hLA⟩ : ∃ L, L = (encM m).length := ⟨_, rfl⟩
  obtain ⟨LB, hLB⟩ : ∃ L, L = (encM m').length := ⟨_, rfl⟩
  obtain ⟨TA, hTA⟩ : ∃ T, T = strOfNums (encM m) := ⟨_, rfl⟩
  obtain ⟨TB, hTB⟩ : ∃ T, T = strOfNums (encM m') := ⟨_, rfl⟩
  have CEA : Hid (∀ x, (G w3 x ∧ x.cell? ⟨W.heap.size, 0, none⟩ = some (.slice so m.sh.length sc) ∧ x.cell? ⟨W.heap.size, 1, none⟩ = some (.slice go m.gl.length gc) ∧ x.cell? ⟨W.heap.size, 2, none⟩ = some (.slice co m.co.length cc) ∧ x.cell? ⟨W.heap.size, 3, none⟩ = some (.slice xo m.ca.length xc) ∧ x.cell? ⟨W.heap.size, 4, none⟩ = some (.slice fo m.fn.length fc) ∧ x.cell? ⟨W.heap.size, 5, none⟩ = some (.int .i64 m.main) ∧ x.cell? ⟨W.heap.size + 1, 0, none⟩ = some (.slice so' m'.sh.length sc') ∧ x.cell? ⟨W.heap.size + 1, 1, none⟩ = some (.slice go' m'.gl.length gc') ∧ x.cell? ⟨W.heap.size + 1, 2, none⟩ = some (.slice co' m'.co.length cc') ∧ x.cell? ⟨W.heap.size + 1, 3, none⟩ = some (.slice xo' m'.ca.length xc') ∧ x.cell? ⟨W.heap.size + 1, 4, none⟩ = some (.slice fo' m'.fn.length fc') ∧ x.cell? ⟨W.heap.size + 1, 5, none⟩ = some (.int .i64 m'.main)) → Calls Tryd.prog 23 #[.agg #[.slice so m.sh.length sc, .slice go m.gl.length gc, .slice co m.co.length cc, .slice xo m.ca.length xc, .slice fo m.fn.length fc, .int .i64 m.main]] x fun e w' => ∃ g cap, e = .returned (.slice (some ⟨g, 0, none⟩) LA cap) ∧ (∀ y, G w' y → (convert 33 9 (.slice (some ⟨g, 0, none⟩) LA cap)).run Tryd.prog y = .ok (.string TA) y) ∧ G x w') := hide fun x hs => by
    refine (unhide EA2 x ((unhide G3).trans hs.1)).mono ?_
    rintro e w' ⟨g, cap, rfl, hO, hg⟩
    rw [hLA, hTA]
    exact ⟨g, cap, rfl, fun y gy => conv_row ((hO.row (unhide HBA)).later gy) cap, hg⟩
  have CEB : Hid (∀ x, (G w3 x ∧ x.cell? ⟨W.heap.size, 0, none⟩ = some (.slice so m.sh.length sc) ∧ x.cell? ⟨W.heap.size, 1, none⟩ = some (.slice go m.gl.length gc) ∧ x.cell? ⟨W.heap.size, 2, none⟩ = some (.slice co m.co.length cc) ∧ x.cell? ⟨W.heap.size, 3, none⟩ = some (.slice xo m.ca.length xc) ∧ x.cell? ⟨W.heap.size, 4, none⟩ = some (.slice fo m.fn.length fc) ∧ x.cell? ⟨W.heap.size, 5, none⟩ = some (.int .i64 m.main) ∧ x.cell? ⟨W.heap.size + 1, 0, none⟩ = some (.slice so' m'.sh.length sc') ∧ x.cell? ⟨W.heap.size + 1, 1, none⟩ = some (.slice go' m'.gl.length gc') ∧ x.cell? ⟨W.heap.size + 1, 2, none⟩ = some (.slice co' m'.co.length cc') ∧ x.cell? ⟨W.heap.size + 1, 3, none⟩ = some (.slice xo' m'.ca.length xc') ∧ x.cell? ⟨W.heap.size + 1, 4, none⟩ = some (.slice fo' m'.fn.length fc') ∧ x.cell? ⟨W.heap.size + 1, 5, none⟩ = some (.int .i64 m'.main)) → Calls Tryd.prog 23 #[.agg #[.slice so' m'.sh.length sc', .slice go' m'.gl.length gc', .slice co' m'.co.length cc', .slice xo' m'.ca.length xc', .slice fo' m'.fn.length fc', .int .i64 m'.main]] x fun e w' => ∃ g cap, e = .returned (.slice (some ⟨g, 0, none⟩) LB cap) ∧ (∀ y, G w' y → (convert 33 9 (.slice (some ⟨g, 0, none⟩) LB cap)).run Tryd.prog y = .ok (.string TB) y) ∧ G x w') := hide fun x hs => by
    refine (unhide EB2 x ((unhide G3).trans hs.1)).mono ?_
    rintro e w' ⟨g, cap, rfl, hO, hg⟩
    rw [hLB, hTB]
    exact ⟨g, cap, rfl, fun y gy => conv_row ((hO.row (unhide HBB)).later gy) cap, hg⟩
  rw [← hTA, ← hTB] at hstr
  have K0 := unhide KP w3 (G.refl _)
  have KD := hide (unhide KP _ ((G.refl w3).drew))
  clear hqe hLA hLB hTA hTB EA2 EB2 SAB SAA INJ CNG HBA HBB a0 b0 a1 b1 a2 b2 a3 b3 a4 b4 a5 b5
  have hqq : (qe == qe) = true := by simp
  go_wp2_with fail
  refine wp_region_noPanic ?_
  refine wp_region_held_drew (S := fun x => G w3 x ∧ x.cell? ⟨W.heap.size, 0, none⟩ = some (.slice so m.sh.length sc) ∧ x.cell? ⟨W.heap.size, 1, none⟩ = some (.slice go m.gl.length gc) ∧ x.cell? ⟨W.heap.size, 2, none⟩ = some (.slice co m.co.length cc) ∧ x.cell? ⟨W.heap.size, 3, none⟩ = some (.slice xo m.ca.length xc) ∧ x.cell? ⟨W.heap.size, 4, none⟩ = some (.slice fo m.fn.length fc) ∧ x.cell? ⟨W.heap.size, 5, none⟩ = some (.int .i64 m.main) ∧ x.cell? ⟨W.heap.size + 1, 0, none⟩ = some (.slice so' m'.sh.length sc') ∧ x.cell? ⟨W.heap.size + 1, 1, none⟩ = some (.slice go' m'.gl.length gc') ∧ x.cell? ⟨W.heap.size + 1, 2, none⟩ = some (.slice co' m'.co.length cc') ∧ x.cell? ⟨W.heap.size + 1, 3, none⟩ = some (.slice xo' m'.ca.length xc') ∧ x.cell? ⟨W.heap.size + 1, 4, none⟩ = some (.slice fo' m'.fn.length fc') ∧ x.cell? ⟨W.heap.size + 1, 5, none⟩ = some (.int .i64 m'.main)) (by kernel_rfl) (unhide KD) (fun hHeld => ?_)
  refine wpAnyH_take (i := 0) (v := .agg #[.slice so m.sh.length sc, .slice go m.gl.length gc, .slice co m.co.length cc, .slice xo m.ca.length xc, .slice fo m.fn.length fc, .int .i64 m.main]) rfl (by kernel_rfl) (by kernel_rfl) (by kernel_rfl) (fun _ _ _ h => h) (Or.inl ⟨by rfl, fun w hSw => by obtain ⟨t0, t1, t2, t3, t4, t5, t6, t7, t8, t9, t10, t11, t12⟩ := hSw; go_simp⟩) (by assumption) ?_
  try simp only [Act.put, List.getElem_toArray, List.getElem_cons_zero, List.setIfInBounds_toArray, List.set_cons_zero, List.set_cons_succ]
  refine wpAnyH_take (i := 1) (v := .agg #[.slice so' m'.sh.length sc', .slice go' m'.gl.length gc', .slice co' m'.co.length cc', .slice xo' m'.ca.length xc', .slice fo' m'.fn.length fc', .int .i64 m'.main]) rfl (by kernel_rfl) (by kernel_rfl) (by kernel_rfl) (fun _ _ _ h => h) (Or.inl ⟨by rfl, fun w hSw => by obtain ⟨t0, t1, t2, t3, t4, t5, t6, t7, t8, t9, t10, t11, t12⟩ := hSw; go_simp⟩) (by assumption) ?_
  try simp only [Act.put, List.getElem_toArray, List.getElem_cons_succ, List.getElem_cons_zero, List.setIfInBounds_toArray, List.set_cons_zero, List.set_cons_succ]
  refine wpAnyH_take (i := 3) (v := .agg #[.slice so m.sh.length sc, .slice go m.gl.length gc, .slice co m.co.length cc, .slice xo m.ca.length xc, .slice fo m.fn.length fc, .int .i64 m.main]) rfl (by kernel_rfl) (by kernel_rfl) (by kernel_rfl) (fun _ _ _ h => h) (Or.inl ⟨by rfl, fun w hSw => by obtain ⟨t0, t1, t2, t3, t4, t5, t6, t7, t8, t9, t10, t11, t12⟩ := hSw; go_simp⟩) (by assumption) ?_
  try simp only [Act.put, List.getElem_toArray, List.getElem_cons_succ, List.getElem_cons_zero, List.setIfInBounds_toArray, List.set_cons_zero, List.set_cons_succ]
  refine wpAnyH_take (i := 6) (v := .agg #[.slice so' m'.sh.length sc', .slice go' m'.gl.length gc', .slice co' m'.co.length cc', .slice xo' m'.ca.length xc', .slice fo' m'.fn.length fc', .int .i64 m'.main]) rfl (by kernel_rfl) (by kernel_rfl) (by kernel_rfl) (fun _ _ _ h => h) (Or.inl ⟨by rfl, fun w hSw => by obtain ⟨t0, t1, t2, t3, t4, t5, t6, t7, t8, t9, t10, t11, t12⟩ := hSw; go_simp⟩) (by assumption) ?_
  try simp only [Act.put, List.getElem_toArray, List.getElem_cons_succ, List.getElem_cons_zero, List.setIfInBounds_toArray, List.set_cons_zero, List.set_cons_succ]
  refine wpAnyH_ready (rs := [2]) (by kernel_rfl) (by simp) ?_
  refine AllReadyH.cons rfl (fun K hK => ?_) AllReadyH.nil
  go_simp
  refine (unhide CAB _ (by assumption)).mono ?_
  rintro e x2 ⟨rfl, hg2⟩
  go_wp2_with fail
  refine hK.out _ _ (unhide KC _ _ hg2 hHeld) (fun hHeld => ?_)
  clear hK K
  try simp only [Act.put, List.getElem_toArray, List.getElem_cons_succ, List.getElem_cons_zero, List.setIfInBounds_toArray, List.set_cons_zero, List.set_cons_succ]
  refine wpAnyH_ready (rs := [4]) (by kernel_rfl) (by simp) ?_
  refine AllReadyH.cons rfl (fun K hK => ?_) AllReadyH.nil
  go_simp
  refine (unhide CEA _ (by assumption)).mono ?_
  rintro e x3 ⟨g3, cap3, rfl, hca, hg3⟩
  replace hca := hide hca
  go_wp2_with fail
  refine hK.out _ _ (unhide KC _ _ hg3 (by assumption)) (fun hHeld => ?_)
  clear hK K
  try simp only [Act.put, List.getElem_toArray, List.getElem_cons_succ, List.getElem_cons_zero, List.setIfInBounds_toArray, List.set_cons_zero, List.set_cons_succ]
  have CEB3 := hide (fun x (hs : G x3 x ∧ (G w3 x ∧ x.cell? ⟨W.heap.size, 0, none⟩ = some (.slice so m.sh.length sc) ∧ x.cell? ⟨W.heap.size, 1, none⟩ = some (.slice go m.gl.length gc) ∧ x.cell? ⟨W.heap.size, 2, none⟩ = some (.slice co m.co.length cc) ∧ x.cell? ⟨W.heap.size, 3, none⟩ = some (.slice xo m.ca.length xc) ∧ x.cell? ⟨W.heap.size, 4, none⟩ = some (.slice fo m.fn.length fc) ∧ x.cell? ⟨W.heap.size, 5, none⟩ = some (.int .i64 m.main) ∧ x.cell? ⟨W.heap.size + 1, 0, none⟩ = some (.slice so' m'.sh.length sc') ∧ x.cell? ⟨W.heap.size + 1, 1, none⟩ = some (.slice go' m'.gl.length gc') ∧ x.cell? ⟨W.heap.size + 1, 2, none⟩ = some (.slice co' m'.co.length cc') ∧ x.cell? ⟨W.heap.size + 1, 3, none⟩ = some (.slice xo' m'.ca.length xc') ∧ x.cell? ⟨W.heap.size + 1, 4, none⟩ = some (.slice fo' m'.fn.length fc') ∧ x.cell? ⟨W.heap.size + 1, 5, none⟩ = some (.int .i64 m'.main)) ∧ ((convert 33 9 (.slice (some ⟨g3, 0, none⟩) LA cap3)).run Tryd.prog x = .ok (.string TA) x)) => unhide CEB x hs.2.1)
  have CAA3 := hide (fun x (hs : G x3 x ∧ (G w3 x ∧ x.cell? ⟨W.heap.size, 0, none⟩ = some (.slice so m.sh.length sc) ∧ x.cell? ⟨W.heap.size, 1, none⟩ = some (.slice go m.gl.length gc) ∧ x.cell? ⟨W.heap.size, 2, none⟩ = some (.slice co m.co.length cc) ∧ x.cell? ⟨W.heap.size, 3, none⟩ = some (.slice xo m.ca.length xc) ∧ x.cell? ⟨W.heap.size, 4, none⟩ = some (.slice fo m.fn.length fc) ∧ x.cell? ⟨W.heap.size, 5, none⟩ = some (.int .i64 m.main) ∧ x.cell? ⟨W.heap.size + 1, 0, none⟩ = some (.slice so' m'.sh.length sc') ∧ x.cell? ⟨W.heap.size + 1, 1, none⟩ = some (.slice go' m'.gl.length gc') ∧ x.cell? ⟨W.heap.size + 1, 2, none⟩ = some (.slice co' m'.co.length cc') ∧ x.cell? ⟨W.heap.size + 1, 3, none⟩ = some (.slice xo' m'.ca.length xc') ∧ x.cell? ⟨W.heap.size + 1, 4, none⟩ = some (.slice fo' m'.fn.length fc') ∧ x.cell? ⟨W.heap.size + 1, 5, none⟩ = some (.int .i64 m'.main)) ∧ ((convert 33 9 (.slice (some ⟨g3, 0, none⟩) LA cap3)).run Tryd.prog x = .ok (.string TA) x)) => unhide CAA x hs.2.1)
  have K3 : Hid (∀ x, G x3 x → G x3 x ∧ (G w3 x ∧ x.cell? ⟨W.heap.size, 0, none⟩ = some (.slice so m.sh.length sc) ∧ x.cell? ⟨W.heap.size, 1, none⟩ = some (.slice go m.gl.length gc) ∧ x.cell? ⟨W.heap.size, 2, none⟩ = some (.slice co m.co.length cc) ∧ x.cell? ⟨W.heap.size, 3, none⟩ = some (.slice xo m.ca.length xc) ∧ x.cell? ⟨W.heap.size, 4, none⟩ = some (.slice fo m.fn.length fc) ∧ x.cell? ⟨W.heap.size, 5, none⟩ = some (.int .i64 m.main) ∧ x.cell? ⟨W.heap.size + 1, 0, none⟩ = some (.slice so' m'.sh.length sc') ∧ x.cell? ⟨W.heap.size + 1, 1, none⟩ = some (.slice go' m'.gl.length gc') ∧ x.cell? ⟨W.heap.size + 1, 2, none⟩ = some (.slice co' m'.co.length cc') ∧ x.cell? ⟨W.heap.size + 1, 3, none⟩ = some (.slice xo' m'.ca.length xc') ∧ x.cell? ⟨W.heap.size + 1, 4, none⟩ = some (.slice fo' m'.fn.length fc') ∧ x.cell? ⟨W.heap.size + 1, 5, none⟩ = some (.int .i64 m'.main)) ∧ ((convert 33 9 (.slice (some ⟨g3, 0, none⟩) LA cap3)).run Tryd.prog x = .ok (.string TA) x)) := hide (fun x gx => ⟨gx, unhide KP x ((hHeld).1.trans gx), unhide hca x gx⟩)
  refine anyH_more (S' := fun x => G x3 x ∧ (G w3 x ∧ x.cell? ⟨W.heap.size, 0, none⟩ = some (.slice so m.sh.length sc) ∧ x.cell? ⟨W.heap.size, 1, none⟩ = some (.slice go m.gl.length gc) ∧ x.cell? ⟨W.heap.size, 2, none⟩ = some (.slice co m.co.length cc) ∧ x.cell? ⟨W.heap.size, 3, none⟩ = some (.slice xo m.ca.length xc) ∧ x.cell? ⟨W.heap.size, 4, none⟩ = some (.slice fo m.fn.length fc) ∧ x.cell? ⟨W.heap.size, 5, none⟩ = some (.int .i64 m.main) ∧ x.cell? ⟨W.heap.size + 1, 0, none⟩ = some (.slice so' m'.sh.length sc') ∧ x.cell? ⟨W.heap.size + 1, 1, none⟩ = some (.slice go' m'.gl.length gc') ∧ x.cell? ⟨W.heap.size + 1, 2, none⟩ = some (.slice co' m'.co.length cc') ∧ x.cell? ⟨W.heap.size + 1, 3, none⟩ = some (.slice xo' m'.ca.length xc') ∧ x.cell? ⟨W.heap.size + 1, 4, none⟩ = some (.slice fo' m'.fn.length fc') ∧ x.cell? ⟨W.heap.size + 1, 5, none⟩ = some (.int .i64 m'.main)) ∧ ((convert 33 9 (.slice (some ⟨g3, 0, none⟩) LA cap3)).run Tryd.prog x = .ok (.string TA) x)) (fun x h => h.2.1) _ _ _ _ ?_
  have hHeld3 := unhide K3 x3 (G.refl _)
  clear hHeld CEB CAA CEA CAB
  refine wpAnyH_take (i := 5) (v := .string TA) rfl (by kernel_rfl) (by kernel_rfl) (by kernel_rfl) (fun _ _ _ h => h) (Or.inl ⟨by rfl, fun w hSw => by obtain ⟨_, ⟨t0, t1, t2, t3, t4, t5, t6, t7, t8, t9, t10, t11, t12⟩, u1⟩ := hSw; go_simp⟩) (by assumption) ?_
  try simp only [Act.put, List.getElem_toArray, List.getElem_cons_succ, List.getElem_cons_zero, List.setIfInBounds_toArray, List.set_cons_zero, List.set_cons_succ]
  refine wpAnyH_ready (rs := [7]) (by kernel_rfl) (by simp) ?_
  refine AllReadyH.cons rfl (fun K hK => ?_) AllReadyH.nil
  go_simp
  refine (unhide CEB3 _ (by assumption)).mono ?_
  rintro e x4 ⟨g4, cap4, rfl, hcb, hg4⟩
  replace hcb := hide hcb
  go_wp2_with fail
  refine hK.out _ _ (unhide K3 _ ((And.left hHeld3).trans hg4)) (fun hHeld => ?_)
  clear hK K
  try simp only [Act.put, List.getElem_toArray, List.getElem_cons_succ, List.getElem_cons_zero, List.setIfInBounds_toArray, List.set_cons_zero, List.set_cons_succ]
  have K4 : Hid (∀ x, G x4 x → G x4 x ∧ (G w3 x ∧ x.cell? ⟨W.heap.size, 0, none⟩ = some (.slice so m.sh.length sc) ∧ x.cell? ⟨W.heap.size, 1, none⟩ = some (.slice go m.gl.length gc) ∧ x.cell? ⟨W.heap.size, 2, none⟩ = some (.slice co m.co.length cc) ∧ x.cell? ⟨W.heap.size, 3, none⟩ = some (.slice xo m.ca.length xc) ∧ x.cell? ⟨W.heap.size, 4, none⟩ = some (.slice fo m.fn.length fc) ∧ x.cell? ⟨W.heap.size, 5, none⟩ = some (.int .i64 m.main) ∧ x.cell? ⟨W.heap.size + 1, 0, none⟩ = some (.slice so' m'.sh.length sc') ∧ x.cell? ⟨W.heap.size + 1, 1, none⟩ = some (.slice go' m'.gl.length gc') ∧ x.cell? ⟨W.heap.size + 1, 2, none⟩ = some (.slice co' m'.co.length cc') ∧ x.cell? ⟨W.heap.size + 1, 3, none⟩ = some (.slice xo' m'.ca.length xc') ∧ x.cell? ⟨W.heap.size + 1, 4, none⟩ = some (.slice fo' m'.fn.length fc') ∧ x.cell? ⟨W.heap.size + 1, 5, none⟩ = some (.int .i64 m'.main)) ∧ ((convert 33 9 (.slice (some ⟨g4, 0, none⟩) LB cap4)).run Tryd.prog x = .ok (.string TB) x)) := hide (fun x gx => ⟨gx, unhide KP x ((hHeld).2.1.1.trans gx), unhide hcb x gx⟩)
  have CAA4 := hide (fun x (hs : G x4 x ∧ (G w3 x ∧ x.cell? ⟨W.heap.size, 0, none⟩ = some (.slice so m.sh.length sc) ∧ x.cell? ⟨W.heap.size, 1, none⟩ = some (.slice go m.gl.length gc) ∧ x.cell? ⟨W.heap.size, 2, none⟩ = some (.slice co m.co.length cc) ∧ x.cell? ⟨W.heap.size, 3, none⟩ = some (.slice xo m.ca.length xc) ∧ x.cell? ⟨W.heap.size, 4, none⟩ = some (.slice fo m.fn.length fc) ∧ x.cell? ⟨W.heap.size, 5, none⟩ = some (.int .i64 m.main) ∧ x.cell? ⟨W.heap.size + 1, 0, none⟩ = some (.slice so' m'.sh.length sc') ∧ x.cell? ⟨W.heap.size + 1, 1, none⟩ = some (.slice go' m'.gl.length gc') ∧ x.cell? ⟨W.heap.size + 1, 2, none⟩ = some (.slice co' m'.co.length cc') ∧ x.cell? ⟨W.heap.size + 1, 3, none⟩ = some (.slice xo' m'.ca.length xc') ∧ x.cell? ⟨W.heap.size + 1, 4, none⟩ = some (.slice fo' m'.fn.length fc') ∧ x.cell? ⟨W.heap.size + 1, 5, none⟩ = some (.int .i64 m'.main)) ∧ ((convert 33 9 (.slice (some ⟨g4, 0, none⟩) LB cap4)).run Tryd.prog x = .ok (.string TB) x)) => unhide CAA3 x (unhide K3 x (hHeld.1.trans hs.1)))
  refine anyH_more (S' := fun x => G x4 x ∧ (G w3 x ∧ x.cell? ⟨W.heap.size, 0, none⟩ = some (.slice so m.sh.length sc) ∧ x.cell? ⟨W.heap.size, 1, none⟩ = some (.slice go m.gl.length gc) ∧ x.cell? ⟨W.heap.size, 2, none⟩ = some (.slice co m.co.length cc) ∧ x.cell? ⟨W.heap.size, 3, none⟩ = some (.slice xo m.ca.length xc) ∧ x.cell? ⟨W.heap.size, 4, none⟩ = some (.slice fo m.fn.length fc) ∧ x.cell? ⟨W.heap.size, 5, none⟩ = some (.int .i64 m.main) ∧ x.cell? ⟨W.heap.size + 1, 0, none⟩ = some (.slice so' m'.sh.length sc') ∧ x.cell? ⟨W.heap.size + 1, 1, none⟩ = some (.slice go' m'.gl.length gc') ∧ x.cell? ⟨W.heap.size + 1, 2, none⟩ = some (.slice co' m'.co.length cc') ∧ x.cell? ⟨W.heap.size + 1, 3, none⟩ = some (.slice xo' m'.ca.length xc') ∧ x.cell? ⟨W.heap.size + 1, 4, none⟩ = some (.slice fo' m'.fn.length fc') ∧ x.cell? ⟨W.heap.size + 1, 5, none⟩ = some (.int .i64 m'.main)) ∧ ((convert 33 9 (.slice (some ⟨g4, 0, none⟩) LB cap4)).run Tryd.prog x = .ok (.string TB) x)) (fun x h => unhide K3 x (hHeld.1.trans h.1)) _ _ _ _ ?_
  have hHeld4 := unhide K4 x4 (G.refl _)
  have HH := hide hHeld
  clear hHeld hHeld3 CEB3 CAA3
  refine wpAnyH_take (i := 8) (v := .string TB) rfl (by kernel_rfl) (by kernel_rfl) (by kernel_rfl) (fun _ _ _ h => h) (Or.inl ⟨by rfl, fun w hSw => by obtain ⟨_, ⟨t0, t1, t2, t3, t4, t5, t6, t7, t8, t9, t10, t11, t12⟩, u1⟩ := hSw; go_simp⟩) (by assumption) ?_
  try simp only [Act.put, List.getElem_toArray, List.getElem_cons_succ, List.getElem_cons_zero, List.setIfInBounds_toArray, List.set_cons_zero, List.set_cons_succ]
  refine wpAnyH_take (i := 9) (v := .bool qe) rfl (by kernel_rfl) (by kernel_rfl) (by kernel_rfl) (fun _ _ _ h => h) (Or.inl ⟨by rfl, fun w hSw => by obtain ⟨_, ⟨t0, t1, t2, t3, t4, t5, t6, t7, t8, t9, t10, t11, t12⟩, u1⟩ := hSw; go_simp⟩) (by assumption) ?_
  try simp only [Act.put, List.getElem_toArray, List.getElem_cons_succ, List.getElem_cons_zero, List.setIfInBounds_toArray, List.set_cons_zero, List.set_cons_succ]
  refine wpAnyH_take (i := 10) (v := .bool true) rfl (by kernel_rfl) (by kernel_rfl) (by kernel_rfl) (fun _ _ _ h => h) (Or.inl ⟨by rfl, fun w hSw => by obtain ⟨_, ⟨t0, t1, t2, t3, t4, t5, t6, t7, t8, t9, t10, t11, t12⟩, u1⟩ := hSw; go_simp⟩) (by assumption) ?_
  try simp only [Act.put, List.getElem_toArray, List.getElem_cons_succ, List.getElem_cons_zero, List.setIfInBounds_toArray, List.set_cons_zero, List.set_cons_succ]
  refine wpAnyH_take (i := 11) (v := .bool true) rfl (by kernel_rfl) (by kernel_rfl) (by kernel_rfl) (fun _ _ _ h => h) (Or.inl ⟨by rfl, fun w hSw => by obtain ⟨_, ⟨t0, t1, t2, t3, t4, t5, t6, t7, t8, t9, t10, t11, t12⟩, u1⟩ := hSw; go_simp⟩) (by assumption) ?_
  try simp only [Act.put, List.getElem_toArray, List.getElem_cons_succ, List.getElem_cons_zero, List.setIfInBounds_toArray, List.set_cons_zero, List.set_cons_succ]
  refine wpAnyH_take (i := 12) (v := .agg #[.slice so m.sh.length sc, .slice go m.gl.length gc, .slice co m.co.length cc, .slice xo m.ca.length xc, .slice fo m.fn.length fc, .int .i64 m.main]) rfl (by kernel_rfl) (by kernel_rfl) (by kernel_rfl) (fun _ _ _ h => h) (Or.inl ⟨by rfl, fun w hSw => by obtain ⟨_, ⟨t0, t1, t2, t3, t4, t5, t6, t7, t8, t9, t10, t11, t12⟩, u1⟩ := hSw; go_simp⟩) (by assumption) ?_
  try simp only [Act.put, List.getElem_toArray, List.getElem_cons_succ, List.getElem_cons_zero, List.setIfInBounds_toArray, List.set_cons_zero, List.set_cons_succ]
  refine wpAnyH_take (i := 13) (v := .agg #[.slice so m.sh.length sc, .slice go m.gl.length gc, .slice co m.co.length cc, .slice xo m.ca.length xc, .slice fo m.fn.length fc, .int .i64 m.main]) rfl (by kernel_rfl) (by kernel_rfl) (by kernel_rfl) (fun _ _ _ h => h) (Or.inl ⟨by rfl, fun w hSw => by obtain ⟨_, ⟨t0, t1, t2, t3, t4, t5, t6, t7, t8, t9, t10, t11, t12⟩, u1⟩ := hSw; go_simp⟩) (by assumption) ?_
  try simp only [Act.put, List.getElem_toArray, List.getElem_cons_succ, List.getElem_cons_zero, List.setIfInBounds_toArray, List.set_cons_zero, List.set_cons_succ]
  refine wpAnyH_ready (rs := [14]) (by kernel_rfl) (by simp) ?_
  refine AllReadyH.cons rfl (fun K hK => ?_) AllReadyH.nil
  go_simp
  refine (unhide CAA4 _ (by assumption)).mono ?_
  rintro e x5 ⟨rfl, hg5⟩
  go_wp2_with fail
  refine hK.out _ _ (unhide K4 _ ((And.left hHeld4).trans hg5)) (fun hHeld => ?_)
  clear hK K
  try simp only [Act.put, List.getElem_toArray, List.getElem_cons_succ, List.getElem_cons_zero, List.setIfInBounds_toArray, List.set_cons_zero, List.set_cons_succ]
  refine wpAnyH_take (i := 15) (v := .bool true) rfl (by kernel_rfl) (by kernel_rfl) (by kernel_rfl) (fun _ _ _ h => h) (Or.inl ⟨by rfl, fun w hSw => by obtain ⟨_, ⟨t0, t1, t2, t3, t4, t5, t6, t7, t8, t9, t10, t11, t12⟩, u1⟩ := hSw; go_simp⟩) (by assumption) ?_
  try simp only [Act.put, List.getElem_toArray, List.getElem_cons_succ, List.getElem_cons_zero, List.setIfInBounds_toArray, List.set_cons_zero, List.set_cons_succ]
  refine wpAnyH_take (i := 16) (v := .bool true) rfl (by kernel_rfl) (by kernel_rfl) (by kernel_rfl) (fun _ _ _ h => h) (Or.inl ⟨by rfl, fun w hSw => by obtain ⟨_, ⟨t0, t1, t2, t3, t4, t5, t6, t7, t8, t9, t10, t11, t12⟩, u1⟩ := hSw; go_simp⟩) (by assumption) ?_
  try simp only [Act.put, List.getElem_toArray, List.getElem_cons_succ, List.getElem_cons_zero, List.setIfInBounds_toArray, List.set_cons_zero, List.set_cons_succ]
  refine wpAnyH_done (by kernel_rfl) (NoPanic.normal ?_) _
  have FIN := hide ((unhide G3).trans ((unhide HH).2.1.1.trans hHeld.1))
  clear hHeld hHeld4 HH
  go_wp2_with fail
  go_ret
  exact ⟨rfl, unhide FIN⟩


set_option maxRecDepth 100000 in
theorem lifted_CodeSame (os : Os) (started : os.Started) (H : Type) (enc : TypeId × Value → H) :
    ReturnsInHanded {} Tryd.checked os 7 .any (fun w args => (Rows.codeSameSpec.pre enc Tryd.prog Tryd.f7 [] false w args ∧ laidMetH Tryd.prog laid9 w) ∧ sizedMet enc Tryd.prog Tryd.f7 (OpenSpec.ofChange Rows.codeSameSpec) false w args)
      (Rows.codeSameSpec.post enc Tryd.prog Tryd.f7 false true false false) := by
  refine returnsInHanded_of_change_and (C := Tryd.checked) (X := fun w _ => laidMetH Tryd.prog laid9 w) (fun _ _ _ hh h => h.of_heap hh) own started (by kernel_rfl) Tryd.func7
    (ChangeSpec.witness_shaped (enc := enc) (C := Tryd.checked) (os := os) (X := fun w _ => laidMetH Tryd.prog laid9 w) false (World.doorLaid Tryd.prog 400 os) #[.agg #[.slice none 0 0, .slice none 0 0, .slice none 0 0, .slice none 0 0, .slice none 0 0, .int .i64 0], .agg #[.slice none 0 0, .slice none 0 0, .slice none 0 0, .slice none 0 0, .slice none 0 0, .int .i64 0]] 8 rfl (World.shaped_of_RefB (by kernel_rfl) (by kernel_rfl)) (by kernel_rfl) (by kernel_rfl) (by kernel_rfl) (door_met os _)) ?_
  intro W base args ds gs before hval0 hW _ _ hL _
  have hval : ∀ (j : Nat) t v, Tryd.f7.params[j]? = some t → args[j]? = some v → Value.okWide Tryd.prog W .any base t v := hval0
  have hW' := hW
  obtain ⟨p, q, hA0, hV, rfl, hfz, hnd⟩ := hW
  have hA : DataW.TrodAll enc Tryd.prog W 0 (fun _ => true) true Tryd.f7.params.toList args.toList ds p := hA0
  rw [Tryd.params7] at hA hval
  obtain ⟨v0, vs0, d0, ds0, p0, q0, hargs, rfl, rfl, h0, r0⟩ := trodAll_cons hA
  obtain ⟨v1, vs1, d1, ds1, p1, q1, rfl, rfl, rfl, h1, r1⟩ := trodAll_cons r0
  obtain ⟨rfl, rfl, rfl⟩ := trodAll_nil r1
  obtain rfl : args = #[v0, v1] := by cases args; simp_all
  obtain ⟨rfl, rfl⟩ := trodVars_none hV
  have k0 := h0
  have lt0 : ∀ x ∈ p0, x.block < W.heap.size := by obtain ⟨m, hm⟩ := k0; exact DataW.trod_lt m _ _ _ hm
  obtain ⟨m0, hM0, oM0⟩ := open_module (hval 0 29 v0 rfl rfl) h0
  have k1 := h1
  have lt1 : ∀ x ∈ p1, x.block < W.heap.size := by obtain ⟨m, hm⟩ := k1; exact DataW.trod_lt m _ _ _ hm
  obtain ⟨m1, hM1, oM1⟩ := open_module (hval 1 29 v1 rfl rfl) h1
  clear hA0 hval0
  refine (walk_CodeSame v0 m0 v1 m1 W (tab_of_laid hL) hM0 oM0 hM1 oM1).mono fun e W' ⟨he, hg⟩ => ?_
  subst he
  exact ⟨_, rfl, _, _, _, [], _, [], hW', trodAll_mk1 (shut_bool Tryd.underlying4 _), (trodAll_cons_mk (Below.trod laidOut (by kernel_rfl) (of_decide_eq_true (by kernel_rfl)) k0 hg lt0) (trodAll_cons_mk (Below.trod laidOut (by kernel_rfl) (of_decide_eq_true (by kernel_rfl)) k1 hg lt1) trodAll_mk0)), rfl, hg.frame _, fun h => by cases h⟩

theorem row_CodeSame : Rows.CodeSameSaid :=
  OpenClaim.holds_of_wide 7 Tryd.f7 rfl rfl rfl rfl rfl rfl rfl ⟨rfl, rfl, rfl, rfl, rfl⟩ rfl rfl rfl rfl rfl (by kernel_rfl) Tryd.func7 (by kernel_rfl)
    (of_decide_eq_true (by kernel_rfl)) (by unfold Func.isWrapper; first | (rw [if_pos (by decide +kernel)]; kernel_rfl) | (rw [if_neg (by decide +kernel)]; exact ⟨rfl, rfl⟩))
    (fun os started H enc _ => lifted_CodeSame os started H enc)

/-- THE STATEMENT. -/
theorem card_CodeSame : Rows.CodeSameCardSaid :=
  Claim7.holds_tied_plain_at .later [] [.data, .data, .data, .data] true (true, "29c90ad79e1b56b8cd93b8f687e923f7b81515e28f39da1e7c5e0c639d62ffd3") false
    row_CodeSame (fun _ h => by cases h) (by kernel_rfl) (fun _ h => by cases h) codeSame_row_tie rfl ⟨rfl, rfl⟩ (by kernel_rfl) rfl
    (fun f fn hf hfn => by
      obtain rfl : f = 7 := Option.some.inj ((show Tryd.prog.funcNamed "gantline/gantlinelaw9.CodeSame" = some 7 by kernel_rfl).symm.trans hf) |>.symm
      obtain rfl : fn = Tryd.f7 := (Option.some.inj (Tryd.func7.symm.trans hfn)).symm
      exact ⟨by kernel_rfl, fun j t ht => by
        rw [Tryd.params7] at ht
        have hm : t ∈ [29, 29] := by simpa using Array.mem_of_getElem? ht
        have hall : ([29, 29].all fun u => !Tryd.prog.wantsStandIn u) = true := by kernel_rfl
        exact (show Tryd.prog.wantsStandIn t = false by simpa using List.all_eq_true.1 hall t hm)⟩)
    (by kernel_rfl)
#print axioms card_CodeSame
end Go.Proofs.YtfbochlohalimaaDoor
