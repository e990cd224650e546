/- CodeBytes of gantlinelaw9: for every module the law answers true; nothing that was there is turned. -/
import Derived.Test.YtdekhnfncecacaaDoorCodeRmod
import Derived.Test.YtdekhnfncecacaaDoorCodeRsame
namespace Go.Proofs.YtdekhnfncecacaaDoor
set_option maxRecDepth 100000
open Go.RowKit Go.Maps Go.ChangeShapes Go.WideShapes Go.ChangeAt Go.Deep

/-- A module that is not big is not great. -/
theorem sm_few {m : Md} (h : smMd m) : m.sh.length ≤ 10000000 ∧ m.gl.length ≤ 10000000 ∧ m.co.length ≤ 10000000 ∧ m.ca.length ≤ 10000000 ∧ m.fn.length ≤ 10000000 ∧ ∀ f ∈ m.fn, f.ks.length ≤ 10000000 ∧ f.is.length ≤ 10000000 ∧ f.ms.length ≤ 10000000 := by
  obtain ⟨h1, h2, h3, h4, h5, h6⟩ := h
  refine ⟨by omega, by omega, by omega, by omega, by omega, fun f hf => ?_⟩
  obtain ⟨k1, k2, k3⟩ := h6 f hf
  exact ⟨by omega, by omega, by omega⟩
theorem rmod_sm (w : World) (v : Value) (m : Md) (hm : ModAt w v m) (hs : smMd m) : Calls Tryd.prog 8 #[v] w fun e w' => ∃ v', e = .returned v' ∧ ModAt w' v' m ∧ G w w' := by
  obtain ⟨h1, h2, h3, h4, h5, h6⟩ := sm_few hs
  exact rmodule w v m hm h1 h2 h3 h4 h5 h6

set_option maxHeartbeats 4000000 in
theorem walk_CodeBytes (v0 : Value) (m : Md) (W : World) (ht : Tab9 W) (hM : ModAt W v0 m) (oM : oMd m) :
    Calls Tryd.prog 3 #[v0] W fun e w' => e = .returned (.bool true) ∧ G W w' := by
  obtain ⟨so, sc, go, gc, co, cc, xo, xc, fo, fc, rfl, r1, r2, r3, r4, r5⟩ := hM
  have hM : ModAt W (.agg #[.slice so m.sh.length sc, .slice go m.gl.length gc, .slice co m.co.length cc, .slice xo m.ca.length xc, .slice fo m.fn.length fc, .int .i64 m.main]) m := ⟨so, sc, go, gc, co, cc, xo, xc, fo, fc, rfl, r1, r2, r3, r4, r5⟩
  have AW := hide (fun x (g : G W x) => awake_any x (ht.g g))
  have BA := hide (fun x (g : G W x) => big_any x _ m (hM.g g))
  have EA := hide (fun x (g : G W x) (hs : smMd m) => encode_any x _ m (hM.g g) oM (Nat.le_trans (encM_le m hs) (by decide)))
  have MA := hide (fun x (g : G W x) (hs : smMd m) => rmod_sm x _ m (hM.g g) hs)
  have HM := hide hM
  have HB := hide (enc_byt m oM)
  have HO := hide oM
  clear hM r1 r2 r3 r4 r5 ht oM
  go_enter Tryd.func3, Tryd.ntmps3
  go_wp2_with fail
  refine (unhide AW _ ((G.refl W).more _)).mono ?_
  rintro e w1 ⟨rfl, g1⟩
  have a0 := g1.cell (x := ⟨W.heap.size, 0, none⟩) (v := .slice so m.sh.length sc) (by simp [go_sem])
  have a1 := g1.cell (x := ⟨W.heap.size, 1, none⟩) (v := .slice go m.gl.length gc) (by simp [go_sem])
  have a2 := g1.cell (x := ⟨W.heap.size, 2, none⟩) (v := .slice co m.co.length cc) (by simp [go_sem])
  have a3 := g1.cell (x := ⟨W.heap.size, 3, none⟩) (v := .slice xo m.ca.length xc) (by simp [go_sem])
  have a4 := g1.cell (x := ⟨W.heap.size, 4, none⟩) (v := .slice fo m.fn.length fc) (by simp [go_sem])
  have a5 := g1.cell (x := ⟨W.heap.size, 5, none⟩) (v := .int .i64 m.main) (by simp [go_sem])
  have G1 := hide (((G.refl W).more _).trans g1)
  clear AW g1
  go_wp2_with fail
  refine (unhide BA w1 (unhide G1)).mono ?_
  rintro e w2 ⟨q, rfl, hq, g2⟩
  replace a0 := g2.cell a0
  replace a1 := g2.cell a1
  replace a2 := g2.cell a2
  replace a3 := g2.cell a3
  replace a4 := g2.cell a4
  replace a5 := g2.cell a5
  have G2 := hide ((unhide G1).trans g2)
  clear BA g2 G1
  cases q
  rotate_left
  · go_wp2_with fail
    go_ret
    exact ⟨rfl, unhide G2⟩
  have hs := hq rfl
  have HS := hide hs
  have EA2 := hide (unhide EA w2 (unhide G2) hs)
  clear hq hs EA
  go_wp2_with fail
  refine (unhide EA2).mono ?_
  rintro e w3 ⟨g, cap, rfl, hO, g3⟩
  have hcap := hO.le
  have hrow := hide (hO.row (unhide HB))
  have hlen := encM_le m (unhide HS)
  obtain ⟨LN, hLN⟩ : ∃ L, L = (encM m).length := ⟨_, rfl⟩
  obtain ⟨TA, hTA⟩ : ∃ T, T = strOfNums (encM m) := ⟨_, rfl⟩
  rw [← hLN] at hcap hrow hlen ⊢
  replace a0 := g3.cell a0
  replace a1 := g3.cell a1
  replace a2 := g3.cell a2
  replace a3 := g3.cell a3
  replace a4 := g3.cell a4
  replace a5 := g3.cell a5
  have G3 := hide ((unhide G2).trans g3)
  have MA2 := hide (unhide MA w3 (unhide G3) (unhide HS))
  have HLN := hide hLN
  clear EA2 g3 hO G2 MA hLN
  go_wp2_with fail
  refine (unhide MA2).mono ?_
  rintro e w4 ⟨vw, rfl, hMw, g4⟩
  obtain ⟨sow, scw, gow, gcw, cow, ccw, xow, xcw, fow, fcw, rfl, r1w, r2w, r3w, r4w, r5w⟩ := hMw
  obtain ⟨w5, hw5⟩ : ∃ w5, w5 = w4.alloc (.cells #[.slice sow m.sh.length scw, .slice gow m.gl.length gcw, .slice cow m.co.length ccw, .slice xow m.ca.length xcw, .slice fow m.fn.length fcw, .int .i64 m.main] 37) := ⟨_, rfl⟩
  have g45 : G w4 w5 := by rw [hw5]; exact G.alloc _ _
  have hMw : Hid (ModAt w5 (.agg #[.slice sow m.sh.length scw, .slice gow m.gl.length gcw, .slice cow m.co.length ccw, .slice xow m.ca.length xcw, .slice fow m.fn.length fcw, .int .i64 m.main]) m) := hide (ModAt.g ⟨sow, scw, gow, gcw, cow, ccw, xow, xcw, fow, fcw, rfl, r1w, r2w, r3w, r4w, r5w⟩ g45)
  replace a0 := g45.cell (g4.cell a0)
  replace a1 := g45.cell (g4.cell a1)
  replace a2 := g45.cell (g4.cell a2)
  replace a3 := g45.cell (g4.cell a3)
  replace a4 := g45.cell (g4.cell a4)
  replace a5 := g45.cell (g4.cell a5)
  have b0 : w5.cell? ⟨w4.heap.size, 0, none⟩ = some (.slice sow m.sh.length scw) := by rw [hw5]; simp [go_sem]
  have b1 : w5.cell? ⟨w4.heap.size, 1, none⟩ = some (.slice gow m.gl.length gcw) := by rw [hw5]; simp [go_sem]
  have b2 : w5.cell? ⟨w4.heap.size, 2, none⟩ = some (.slice cow m.co.length ccw) := by rw [hw5]; simp [go_sem]
  have b3 : w5.cell? ⟨w4.heap.size, 3, none⟩ = some (.slice xow m.ca.length xcw) := by rw [hw5]; simp [go_sem]
  have b4 : w5.cell? ⟨w4.heap.size, 4, none⟩ = some (.slice fow m.fn.length fcw) := by rw [hw5]; simp [go_sem]
  have b5 : w5.cell? ⟨w4.heap.size, 5, none⟩ = some (.int .i64 m.main) := by rw [hw5]; simp [go_sem]
  have D := hide (decode_any w5 (some ⟨g, 0, none⟩) LN cap (encM m) ((unhide hrow).later (g4.trans g45)) hcap (by omega))
  have G5 := hide ((unhide G3).trans (g4.trans g45))
  replace hrow := hide ((unhide hrow).later (g4.trans g45))
  clear MA2 g4 g45 G3 r1w r2w r3w r4w r5w
  go_wp2_with fail
  rw [← hw5]
  clear hw5
  refine (unhide D).mono ?_
  rintro e w6 ⟨va, er, m', rfl, hMn, _, g6, hcase⟩
  have hdec := dec_enc m (unhide HO)
  obtain ⟨rfl, rfl⟩ : m = m' ∧ er = 0 := by
    rcases hcase with ⟨h1, h2⟩ | ⟨h1, _⟩
    · rw [hdec] at h1; exact ⟨Option.some.inj h1, h2⟩
    · rw [hdec] at h1; cases h1
  clear hdec hcase D
  obtain ⟨son, scn, gon, gcn, con, ccn, xon, xcn, fon, fcn, rfl, r1n, r2n, r3n, r4n, r5n⟩ := hMn
  obtain ⟨w7, hw7⟩ : ∃ w7, w7 = w6.alloc (.cells #[.slice son m.sh.length scn, .slice gon m.gl.length gcn, .slice con m.co.length ccn, .slice xon m.ca.length xcn, .slice fon m.fn.length fcn, .int .i64 m.main] 28) := ⟨_, rfl⟩
  have g67 : G w6 w7 := by rw [hw7]; exact G.alloc _ _
  have hMn : Hid (ModAt w7 (.agg #[.slice son m.sh.length scn, .slice gon m.gl.length gcn, .slice con m.co.length ccn, .slice xon m.ca.length xcn, .slice fon m.fn.length fcn, .int .i64 m.main]) m) := hide (ModAt.g ⟨son, scn, gon, gcn, con, ccn, xon, xcn, fon, fcn, rfl, r1n, r2n, r3n, r4n, r5n⟩ g67)
  have g57 := g6.trans g67
  replace a0 := g57.cell a0
  replace b0 := g57.cell b0
  replace a1 := g57.cell a1
  replace b1 := g57.cell b1
  replace a2 := g57.cell a2
  replace b2 := g57.cell b2
  replace a3 := g57.cell a3
  replace b3 := g57.cell b3
  replace a4 := g57.cell a4
  replace b4 := g57.cell b4
  replace a5 := g57.cell a5
  replace b5 := g57.cell b5
  have c0 : w7.cell? ⟨w6.heap.size, 0, none⟩ = some (.slice son m.sh.length scn) := by rw [hw7]; simp [go_sem]
  have c1 : w7.cell? ⟨w6.heap.size, 1, none⟩ = some (.slice gon m.gl.length gcn) := by rw [hw7]; simp [go_sem]
  have c2 : w7.cell? ⟨w6.heap.size, 2, none⟩ = some (.slice con m.co.length ccn) := by rw [hw7]; simp [go_sem]
  have c3 : w7.cell? ⟨w6.heap.size, 3, none⟩ = some (.slice xon m.ca.length xcn) := by rw [hw7]; simp [go_sem]
  have c4 : w7.cell? ⟨w6.heap.size, 4, none⟩ = some (.slice fon m.fn.length fcn) := by rw [hw7]; simp [go_sem]
  have c5 : w7.cell? ⟨w6.heap.size, 5, none⟩ = some (.int .i64 m.main) := by rw [hw7]; simp [go_sem]
  replace hrow := hide ((unhide hrow).later g57)
  replace hMw := hide ((unhide hMw).g g57)
  have G7 := hide ((unhide G5).trans g57)
  have KC : Hid (∀ x, G w7 x → (convert 31 9 (.slice (some ⟨g, 0, none⟩) LN cap)).run Tryd.prog x = .ok (.string TA) x ∧ x.cell? ⟨W.heap.size, 0, none⟩ = some (.slice so m.sh.length sc) ∧ x.cell? ⟨W.heap.size, 1, none⟩ = some (.slice go m.gl.length gc) ∧ x.cell? ⟨W.heap.size, 2, none⟩ = some (.slice co m.co.length cc) ∧ x.cell? ⟨W.heap.size, 3, none⟩ = some (.slice xo m.ca.length xc) ∧ x.cell? ⟨W.heap.size, 4, none⟩ = some (.slice fo m.fn.length fc) ∧ x.cell? ⟨W.heap.size, 5, none⟩ = some (.int .i64 m.main) ∧ x.cell? ⟨w4.heap.size, 0, none⟩ = some (.slice sow m.sh.length scw) ∧ x.cell? ⟨w4.heap.size, 1, none⟩ = some (.slice gow m.gl.length gcw) ∧ x.cell? ⟨w4.heap.size, 2, none⟩ = some (.slice cow m.co.length ccw) ∧ x.cell? ⟨w4.heap.size, 3, none⟩ = some (.slice xow m.ca.length xcw) ∧ x.cell? ⟨w4.heap.size, 4, none⟩ = some (.slice fow m.fn.length fcw) ∧ x.cell? ⟨w4.heap.size, 5, none⟩ = some (.int .i64 m.main) ∧ x.cell? ⟨w6.heap.size, 0, none⟩ = some (.slice son m.sh.length scn) ∧ x.cell? ⟨w6.heap.size, 1, none⟩ = some (.slice gon m.gl.length gcn) ∧ x.cell? ⟨w6.heap.size, 2, none⟩ = some (.slice con m.co.length ccn) ∧ x.cell? ⟨w6.heap.size, 3, none⟩ = some (.slice xon m.ca.length xcn) ∧ x.cell? ⟨w6.heap.size, 4, none⟩ = some (.slice fon m.fn.length fcn) ∧ x.cell? ⟨w6.heap.size, 5, none⟩ = some (.int .i64 m.main)) := hide (fun x gx => ⟨by rw [hTA, unhide HLN]; have h := (unhide hrow).later gx; rw [unhide HLN] at h; exact conv_row h cap, gx.cell a0, gx.cell a1, gx.cell a2, gx.cell a3, gx.cell a4, gx.cell a5, gx.cell b0, gx.cell b1, gx.cell b2, gx.cell b3, gx.cell b4, gx.cell b5, gx.cell c0, gx.cell c1, gx.cell c2, gx.cell c3, gx.cell c4, gx.cell c5⟩)
  have CE := hide (fun x (gx : G w7 x) => renc x _ m ((unhide hMw).g gx) (unhide HO) (Nat.le_trans (encM_le m (unhide HS)) (by decide)))
  have CM := hide (fun x (gx : G w7 x) => rmod_sm x _ m ((unhide hMn).g gx) (unhide HS))
  have CS : Hid (∀ x v3, ModAt x v3 m → G w7 x → Calls Tryd.prog 11 #[v3, .agg #[.slice sow m.sh.length scw, .slice gow m.gl.length gcw, .slice cow m.co.length ccw, .slice xow m.ca.length xcw, .slice fow m.fn.length fcw, .int .i64 m.main]] x fun e w' => e = .returned (.bool true) ∧ G x w') := hide (fun x v3 h3 gx => by
    refine (rsame x v3 _ m m h3 ((unhide hMw).g gx) (unhide HO) (unhide HO) (Nat.le_trans (encM_le m (unhide HS)) (by decide)) (Nat.le_trans (encM_le m (unhide HS)) (by decide))).mono ?_
    rintro e w' ⟨⟨q, rfl, hq⟩, hg⟩
    exact ⟨by rw [hq.2 rfl], hg⟩)
  have CQ : Hid (∀ x, G w7 x → Calls Tryd.prog 12 #[.agg #[.slice so m.sh.length sc, .slice go m.gl.length gc, .slice co m.co.length cc, .slice xo m.ca.length xc, .slice fo m.fn.length fc, .int .i64 m.main], .agg #[.slice son m.sh.length scn, .slice gon m.gl.length gcn, .slice con m.co.length ccn, .slice xon m.ca.length xcn, .slice fon m.fn.length fcn, .int .i64 m.main]] x fun e w' => e = .returned (.bool true) ∧ G x w') := hide (fun x gx => by
    refine (same_any x _ _ m m ((unhide HM).g ((unhide G7).trans gx)) ((unhide hMn).g gx)).mono ?_
    rintro e w' ⟨q, rfl, hq, hg⟩
    exact ⟨by rw [hq.2 (by simp)], hg⟩)
  have VE : Hid (∀ x v, BB x v (encM m) → ∀ x', G x x' → (convert 31 9 (v)).run Tryd.prog x' = .ok (.string TA) x') := hide (fun x v h => by rw [hTA]; exact bb_conv h)
  clear G5 g6 g67 g57 hrow hMw hMn hTA HM HB r1n r2n r3n r4n r5n a0 a1 a2 a3 a4 a5 b0 b1 b2 b3 b4 b5 c0 c1 c2 c3 c4 c5 hcap hlen
  go_wp2_with fail
  rw [← hw7]
  clear hw7
  refine wp_region_noPanic ?_
  refine wp_region_held_drew (S := fun x => G w7 x ∧ (convert 31 9 (.slice (some ⟨g, 0, none⟩) LN cap)).run Tryd.prog x = .ok (.string TA) x ∧ x.cell? ⟨W.heap.size, 0, none⟩ = some (.slice so m.sh.length sc) ∧ x.cell? ⟨W.heap.size, 1, none⟩ = some (.slice go m.gl.length gc) ∧ x.cell? ⟨W.heap.size, 2, none⟩ = some (.slice co m.co.length cc) ∧ x.cell? ⟨W.heap.size, 3, none⟩ = some (.slice xo m.ca.length xc) ∧ x.cell? ⟨W.heap.size, 4, none⟩ = some (.slice fo m.fn.length fc) ∧ x.cell? ⟨W.heap.size, 5, none⟩ = some (.int .i64 m.main) ∧ x.cell? ⟨w4.heap.size, 0, none⟩ = some (.slice sow m.sh.length scw) ∧ x.cell? ⟨w4.heap.size, 1, none⟩ = some (.slice gow m.gl.length gcw) ∧ x.cell? ⟨w4.heap.size, 2, none⟩ = some (.slice cow m.co.length ccw) ∧ x.cell? ⟨w4.heap.size, 3, none⟩ = some (.slice xow m.ca.length xcw) ∧ x.cell? ⟨w4.heap.size, 4, none⟩ = some (.slice fow m.fn.length fcw) ∧ x.cell? ⟨w4.heap.size, 5, none⟩ = some (.int .i64 m.main) ∧ x.cell? ⟨w6.heap.size, 0, none⟩ = some (.slice son m.sh.length scn) ∧ x.cell? ⟨w6.heap.size, 1, none⟩ = some (.slice gon m.gl.length gcn) ∧ x.cell? ⟨w6.heap.size, 2, none⟩ = some (.slice con m.co.length ccn) ∧ x.cell? ⟨w6.heap.size, 3, none⟩ = some (.slice xon m.ca.length xcn) ∧ x.cell? ⟨w6.heap.size, 4, none⟩ = some (.slice fon m.fn.length fcn) ∧ x.cell? ⟨w6.heap.size, 5, none⟩ = some (.int .i64 m.main)) (by kernel_rfl) ⟨(G.refl _).drew, unhide KC _ (G.refl _).drew⟩ (fun hHeld => ?_)
  refine wpAnyH_take (i := 0) (v := .slice (some ⟨g, 0, none⟩) LN cap) rfl (by kernel_rfl) (by kernel_rfl) (by kernel_rfl) (fun _ _ _ h => h) (Or.inl ⟨by rfl, fun w hSw => by obtain ⟨t0, t1, t2, t3, t4, t5, t6, t7, t8, t9, t10, t11, t12, t13, t14, t15, t16, t17, t18, t19⟩ := hSw; go_simp⟩) (by assumption) ?_
  try simp only [Act.put, List.getElem_toArray, List.getElem_cons_zero, List.setIfInBounds_toArray, List.set_cons_zero, List.set_cons_succ]
  refine wpAnyH_take (i := 1) (v := .string TA) rfl (by kernel_rfl) (by kernel_rfl) (by kernel_rfl) (fun _ _ _ h => h) (Or.inl ⟨by rfl, fun w hSw => by obtain ⟨t0, t1, t2, t3, t4, t5, t6, t7, t8, t9, t10, t11, t12, t13, t14, t15, t16, t17, t18, t19⟩ := hSw; go_simp⟩) (by assumption) ?_
  try simp only [Act.put, List.getElem_toArray, List.getElem_cons_succ, List.getElem_cons_zero, List.setIfInBounds_toArray, List.set_cons_zero, List.set_cons_succ]
  refine wpAnyH_take (i := 2) (v := .agg #[.slice sow m.sh.length scw, .slice gow m.gl.length gcw, .slice cow m.co.length ccw, .slice xow m.ca.length xcw, .slice fow m.fn.length fcw, .int .i64 m.main]) rfl (by kernel_rfl) (by kernel_rfl) (by kernel_rfl) (fun _ _ _ h => h) (Or.inl ⟨by rfl, fun w hSw => by obtain ⟨t0, t1, t2, t3, t4, t5, t6, t7, t8, t9, t10, t11, t12, t13, t14, t15, t16, t17, t18, t19⟩ := hSw; go_simp⟩) (by assumption) ?_
  try simp only [Act.put, List.getElem_toArray, List.getElem_cons_succ, List.getElem_cons_zero, List.setIfInBounds_toArray, List.set_cons_zero, List.set_cons_succ]
  refine wpAnyH_ready (rs := [3]) (by kernel_rfl) (by simp) ?_
  refine AllReadyH.cons rfl (fun K hK => ?_) AllReadyH.nil
  go_simp
  refine (unhide CE _ hHeld.1).mono ?_
  rintro e x1 ⟨v1, rfl, F1, hg1⟩
  go_wp2_with fail
  have gx1 := hHeld.1.trans hg1
  refine hK.out _ _ ⟨gx1, unhide KC _ gx1⟩ (fun hHeld => ?_)
  clear hK K
  try simp only [Act.put, List.getElem_toArray, List.getElem_cons_succ, List.getElem_cons_zero, List.setIfInBounds_toArray, List.set_cons_zero, List.set_cons_succ]
  have K1 := hide (unhide VE _ _ F1)
  have GX := hide gx1
  clear gx1 hg1
  refine held_more (S' := fun x => G x1 x ∧ (convert 31 9 (v1)).run Tryd.prog x = .ok (.string TA) x ∧ (convert 31 9 (.slice (some ⟨g, 0, none⟩) LN cap)).run Tryd.prog x = .ok (.string TA) x ∧ x.cell? ⟨W.heap.size, 0, none⟩ = some (.slice so m.sh.length sc) ∧ x.cell? ⟨W.heap.size, 1, none⟩ = some (.slice go m.gl.length gc) ∧ x.cell? ⟨W.heap.size, 2, none⟩ = some (.slice co m.co.length cc) ∧ x.cell? ⟨W.heap.size, 3, none⟩ = some (.slice xo m.ca.length xc) ∧ x.cell? ⟨W.heap.size, 4, none⟩ = some (.slice fo m.fn.length fc) ∧ x.cell? ⟨W.heap.size, 5, none⟩ = some (.int .i64 m.main) ∧ x.cell? ⟨w4.heap.size, 0, none⟩ = some (.slice sow m.sh.length scw) ∧ x.cell? ⟨w4.heap.size, 1, none⟩ = some (.slice gow m.gl.length gcw) ∧ x.cell? ⟨w4.heap.size, 2, none⟩ = some (.slice cow m.co.length ccw) ∧ x.cell? ⟨w4.heap.size, 3, none⟩ = some (.slice xow m.ca.length xcw) ∧ x.cell? ⟨w4.heap.size, 4, none⟩ = some (.slice fow m.fn.length fcw) ∧ x.cell? ⟨w4.heap.size, 5, none⟩ = some (.int .i64 m.main) ∧ x.cell? ⟨w6.heap.size, 0, none⟩ = some (.slice son m.sh.length scn) ∧ x.cell? ⟨w6.heap.size, 1, none⟩ = some (.slice gon m.gl.length gcn) ∧ x.cell? ⟨w6.heap.size, 2, none⟩ = some (.slice con m.co.length ccn) ∧ x.cell? ⟨w6.heap.size, 3, none⟩ = some (.slice xon m.ca.length xcn) ∧ x.cell? ⟨w6.heap.size, 4, none⟩ = some (.slice fon m.fn.length fcn) ∧ x.cell? ⟨w6.heap.size, 5, none⟩ = some (.int .i64 m.main)) (fun x h => ⟨(unhide GX).trans h.1, h.2.2⟩) _ _ _ _ ?_
  have hH1 : G x1 x1 ∧ (convert 31 9 (v1)).run Tryd.prog x1 = .ok (.string TA) x1 ∧ (convert 31 9 (.slice (some ⟨g, 0, none⟩) LN cap)).run Tryd.prog x1 = .ok (.string TA) x1 ∧ x1.cell? ⟨W.heap.size, 0, none⟩ = some (.slice so m.sh.length sc) ∧ x1.cell? ⟨W.heap.size, 1, none⟩ = some (.slice go m.gl.length gc) ∧ x1.cell? ⟨W.heap.size, 2, none⟩ = some (.slice co m.co.length cc) ∧ x1.cell? ⟨W.heap.size, 3, none⟩ = some (.slice xo m.ca.length xc) ∧ x1.cell? ⟨W.heap.size, 4, none⟩ = some (.slice fo m.fn.length fc) ∧ x1.cell? ⟨W.heap.size, 5, none⟩ = some (.int .i64 m.main) ∧ x1.cell? ⟨w4.heap.size, 0, none⟩ = some (.slice sow m.sh.length scw) ∧ x1.cell? ⟨w4.heap.size, 1, none⟩ = some (.slice gow m.gl.length gcw) ∧ x1.cell? ⟨w4.heap.size, 2, none⟩ = some (.slice cow m.co.length ccw) ∧ x1.cell? ⟨w4.heap.size, 3, none⟩ = some (.slice xow m.ca.length xcw) ∧ x1.cell? ⟨w4.heap.size, 4, none⟩ = some (.slice fow m.fn.length fcw) ∧ x1.cell? ⟨w4.heap.size, 5, none⟩ = some (.int .i64 m.main) ∧ x1.cell? ⟨w6.heap.size, 0, none⟩ = some (.slice son m.sh.length scn) ∧ x1.cell? ⟨w6.heap.size, 1, none⟩ = some (.slice gon m.gl.length gcn) ∧ x1.cell? ⟨w6.heap.size, 2, none⟩ = some (.slice con m.co.length ccn) ∧ x1.cell? ⟨w6.heap.size, 3, none⟩ = some (.slice xon m.ca.length xcn) ∧ x1.cell? ⟨w6.heap.size, 4, none⟩ = some (.slice fon m.fn.length fcn) ∧ x1.cell? ⟨w6.heap.size, 5, none⟩ = some (.int .i64 m.main) := ⟨G.refl _, unhide K1 _ (G.refl _), hHeld.2⟩
  clear hHeld F1
  have hself : (TA.toList == TA.toList) = true := by simp
  refine wpAnyH_take (i := 4) (v := .string TA) rfl (by kernel_rfl) (by kernel_rfl) (by kernel_rfl) (fun _ _ _ h => h) (Or.inl ⟨by rfl, fun w hSw => by obtain ⟨t0, t1, t2, t3, t4, t5, t6, t7, t8, t9, t10, t11, t12, t13, t14, t15, t16, t17, t18, t19, t20⟩ := hSw; go_simp⟩) (by assumption) ?_
  try simp only [Act.put, List.getElem_toArray, List.getElem_cons_succ, List.getElem_cons_zero, List.setIfInBounds_toArray, List.set_cons_zero, List.set_cons_succ]
  refine wpAnyH_take (i := 5) (v := .bool true) rfl (by kernel_rfl) (by kernel_rfl) (by kernel_rfl) (fun _ _ _ h => h) (Or.inl ⟨by rfl, fun w hSw => by obtain ⟨t0, t1, t2, t3, t4, t5, t6, t7, t8, t9, t10, t11, t12, t13, t14, t15, t16, t17, t18, t19, t20⟩ := hSw; go_simp⟩) (by assumption) ?_
  try simp only [Act.put, List.getElem_toArray, List.getElem_cons_succ, List.getElem_cons_zero, List.setIfInBounds_toArray, List.set_cons_zero, List.set_cons_succ]
  refine wpAnyH_take (i := 6) (v := .bool true) rfl (by kernel_rfl) (by kernel_rfl) (by kernel_rfl) (fun _ _ _ h => h) (Or.inl ⟨by rfl, fun w hSw => by obtain ⟨t0, t1, t2, t3, t4, t5, t6, t7, t8, t9, t10, t11, t12, t13, t14, t15, t16, t17, t18, t19, t20⟩ := hSw; go_simp⟩) (by assumption) ?_
  try simp only [Act.put, List.getElem_toArray, List.getElem_cons_succ, List.getElem_cons_zero, List.setIfInBounds_toArray, List.set_cons_zero, List.set_cons_succ]
  refine wpAnyH_take (i := 7) (v := .int .i64 0) rfl (by kernel_rfl) (by kernel_rfl) (by kernel_rfl) (fun _ _ _ h => h) (Or.inl ⟨by rfl, fun w hSw => by obtain ⟨t0, t1, t2, t3, t4, t5, t6, t7, t8, t9, t10, t11, t12, t13, t14, t15, t16, t17, t18, t19, t20⟩ := hSw; go_simp⟩) (by assumption) ?_
  try simp only [Act.put, List.getElem_toArray, List.getElem_cons_succ, List.getElem_cons_zero, List.setIfInBounds_toArray, List.set_cons_zero, List.set_cons_succ]
  refine wpAnyH_take (i := 8) (v := .bool true) rfl (by kernel_rfl) (by kernel_rfl) (by kernel_rfl) (fun _ _ _ h => h) (Or.inl ⟨by rfl, fun w hSw => by obtain ⟨t0, t1, t2, t3, t4, t5, t6, t7, t8, t9, t10, t11, t12, t13, t14, t15, t16, t17, t18, t19, t20⟩ := hSw; go_simp⟩) (by assumption) ?_
  try simp only [Act.put, List.getElem_toArray, List.getElem_cons_succ, List.getElem_cons_zero, List.setIfInBounds_toArray, List.set_cons_zero, List.set_cons_succ]
  refine wpAnyH_take (i := 9) (v := .bool true) rfl (by kernel_rfl) (by kernel_rfl) (by kernel_rfl) (fun _ _ _ h => h) (Or.inl ⟨by rfl, fun w hSw => by obtain ⟨t0, t1, t2, t3, t4, t5, t6, t7, t8, t9, t10, t11, t12, t13, t14, t15, t16, t17, t18, t19, t20⟩ := hSw; go_simp⟩) (by assumption) ?_
  try simp only [Act.put, List.getElem_toArray, List.getElem_cons_succ, List.getElem_cons_zero, List.setIfInBounds_toArray, List.set_cons_zero, List.set_cons_succ]
  refine wpAnyH_take (i := 10) (v := .bool true) rfl (by kernel_rfl) (by kernel_rfl) (by kernel_rfl) (fun _ _ _ h => h) (Or.inl ⟨by rfl, fun w hSw => by obtain ⟨t0, t1, t2, t3, t4, t5, t6, t7, t8, t9, t10, t11, t12, t13, t14, t15, t16, t17, t18, t19, t20⟩ := hSw; go_simp⟩) (by assumption) ?_
  try simp only [Act.put, List.getElem_toArray, List.getElem_cons_succ, List.getElem_cons_zero, List.setIfInBounds_toArray, List.set_cons_zero, List.set_cons_succ]
  refine wpAnyH_take (i := 11) (v := .agg #[.slice son m.sh.length scn, .slice gon m.gl.length gcn, .slice con m.co.length ccn, .slice xon m.ca.length xcn, .slice fon m.fn.length fcn, .int .i64 m.main]) rfl (by kernel_rfl) (by kernel_rfl) (by kernel_rfl) (fun _ _ _ h => h) (Or.inl ⟨by rfl, fun w hSw => by obtain ⟨t0, t1, t2, t3, t4, t5, t6, t7, t8, t9, t10, t11, t12, t13, t14, t15, t16, t17, t18, t19, t20⟩ := hSw; go_simp⟩) (by assumption) ?_
  try simp only [Act.put, List.getElem_toArray, List.getElem_cons_succ, List.getElem_cons_zero, List.setIfInBounds_toArray, List.set_cons_zero, List.set_cons_succ]
  refine wpAnyH_take (i := 13) (v := .agg #[.slice sow m.sh.length scw, .slice gow m.gl.length gcw, .slice cow m.co.length ccw, .slice xow m.ca.length xcw, .slice fow m.fn.length fcw, .int .i64 m.main]) rfl (by kernel_rfl) (by kernel_rfl) (by kernel_rfl) (fun _ _ _ h => h) (Or.inl ⟨by rfl, fun w hSw => by obtain ⟨t0, t1, t2, t3, t4, t5, t6, t7, t8, t9, t10, t11, t12, t13, t14, t15, t16, t17, t18, t19, t20⟩ := hSw; go_simp⟩) (by assumption) ?_
  try simp only [Act.put, List.getElem_toArray, List.getElem_cons_succ, List.getElem_cons_zero, List.setIfInBounds_toArray, List.set_cons_zero, List.set_cons_succ]
  refine wpAnyH_ready (rs := [12]) (by kernel_rfl) (by simp) ?_
  refine AllReadyH.cons rfl (fun K hK => ?_) AllReadyH.nil
  go_simp
  refine (unhide CM _ (unhide GX)).mono ?_
  rintro e x2 ⟨v2, rfl, F2, hg2⟩
  go_wp2_with fail
  have gx2 := (unhide GX).trans hg2
  refine hK.out _ _ ⟨hg2, unhide K1 _ hg2, unhide KC _ gx2⟩ (fun hHeld => ?_)
  clear hK K
  try simp only [Act.put, List.getElem_toArray, List.getElem_cons_succ, List.getElem_cons_zero, List.setIfInBounds_toArray, List.set_cons_zero, List.set_cons_succ]
  replace F2 := hide F2
  clear hH1
  refine wpAnyH_ready (rs := [14]) (by kernel_rfl) (by simp) ?_
  refine AllReadyH.cons rfl (fun K hK => ?_) AllReadyH.nil
  go_simp
  refine (unhide CS _ _ (unhide F2) gx2).mono ?_
  rintro e x3 ⟨rfl, hg3⟩
  go_wp2_with fail
  have gx3 := gx2.trans hg3
  refine hK.out _ _ ⟨hg2.trans hg3, unhide K1 _ (hg2.trans hg3), unhide KC _ gx3⟩ (fun hHeld2 => ?_)
  clear hK K hHeld F2
  try simp only [Act.put, List.getElem_toArray, List.getElem_cons_succ, List.getElem_cons_zero, List.setIfInBounds_toArray, List.set_cons_zero, List.set_cons_succ]
  refine wpAnyH_take (i := 15) (v := .bool true) rfl (by kernel_rfl) (by kernel_rfl) (by kernel_rfl) (fun _ _ _ h => h) (Or.inl ⟨by rfl, fun w hSw => by obtain ⟨t0, t1, t2, t3, t4, t5, t6, t7, t8, t9, t10, t11, t12, t13, t14, t15, t16, t17, t18, t19, t20⟩ := hSw; go_simp⟩) (by assumption) ?_
  try simp only [Act.put, List.getElem_toArray, List.getElem_cons_succ, List.getElem_cons_zero, List.setIfInBounds_toArray, List.set_cons_zero, List.set_cons_succ]
  refine wpAnyH_take (i := 16) (v := .bool true) rfl (by kernel_rfl) (by kernel_rfl) (by kernel_rfl) (fun _ _ _ h => h) (Or.inl ⟨by rfl, fun w hSw => by obtain ⟨t0, t1, t2, t3, t4, t5, t6, t7, t8, t9, t10, t11, t12, t13, t14, t15, t16, t17, t18, t19, t20⟩ := hSw; go_simp⟩) (by assumption) ?_
  try simp only [Act.put, List.getElem_toArray, List.getElem_cons_succ, List.getElem_cons_zero, List.setIfInBounds_toArray, List.set_cons_zero, List.set_cons_succ]
  refine wpAnyH_take (i := 17) (v := .agg #[.slice so m.sh.length sc, .slice go m.gl.length gc, .slice co m.co.length cc, .slice xo m.ca.length xc, .slice fo m.fn.length fc, .int .i64 m.main]) rfl (by kernel_rfl) (by kernel_rfl) (by kernel_rfl) (fun _ _ _ h => h) (Or.inl ⟨by rfl, fun w hSw => by obtain ⟨t0, t1, t2, t3, t4, t5, t6, t7, t8, t9, t10, t11, t12, t13, t14, t15, t16, t17, t18, t19, t20⟩ := hSw; go_simp⟩) (by assumption) ?_
  try simp only [Act.put, List.getElem_toArray, List.getElem_cons_succ, List.getElem_cons_zero, List.setIfInBounds_toArray, List.set_cons_zero, List.set_cons_succ]
  refine wpAnyH_take (i := 18) (v := .agg #[.slice son m.sh.length scn, .slice gon m.gl.length gcn, .slice con m.co.length ccn, .slice xon m.ca.length xcn, .slice fon m.fn.length fcn, .int .i64 m.main]) rfl (by kernel_rfl) (by kernel_rfl) (by kernel_rfl) (fun _ _ _ h => h) (Or.inl ⟨by rfl, fun w hSw => by obtain ⟨t0, t1, t2, t3, t4, t5, t6, t7, t8, t9, t10, t11, t12, t13, t14, t15, t16, t17, t18, t19, t20⟩ := hSw; go_simp⟩) (by assumption) ?_
  try simp only [Act.put, List.getElem_toArray, List.getElem_cons_succ, List.getElem_cons_zero, List.setIfInBounds_toArray, List.set_cons_zero, List.set_cons_succ]
  refine wpAnyH_ready (rs := [19]) (by kernel_rfl) (by simp) ?_
  refine AllReadyH.cons rfl (fun K hK => ?_) AllReadyH.nil
  go_simp
  refine (unhide CQ _ gx3).mono ?_
  rintro e x4 ⟨rfl, hg4⟩
  go_wp2_with fail
  have gx4 := gx3.trans hg4
  refine hK.out _ _ ⟨(hg2.trans hg3).trans hg4, unhide K1 _ ((hg2.trans hg3).trans hg4), unhide KC _ gx4⟩ (fun hHeld3 => ?_)
  clear hK K hHeld2
  try simp only [Act.put, List.getElem_toArray, List.getElem_cons_succ, List.getElem_cons_zero, List.setIfInBounds_toArray, List.set_cons_zero, List.set_cons_succ]
  refine wpAnyH_take (i := 20) (v := .bool true) rfl (by kernel_rfl) (by kernel_rfl) (by kernel_rfl) (fun _ _ _ h => h) (Or.inl ⟨by rfl, fun w hSw => by obtain ⟨t0, t1, t2, t3, t4, t5, t6, t7, t8, t9, t10, t11, t12, t13, t14, t15, t16, t17, t18, t19, t20⟩ := hSw; go_simp⟩) (by assumption) ?_
  try simp only [Act.put, List.getElem_toArray, List.getElem_cons_succ, List.getElem_cons_zero, List.setIfInBounds_toArray, List.set_cons_zero, List.set_cons_succ]
  refine wpAnyH_take (i := 21) (v := .bool true) rfl (by kernel_rfl) (by kernel_rfl) (by kernel_rfl) (fun _ _ _ h => h) (Or.inl ⟨by rfl, fun w hSw => by obtain ⟨t0, t1, t2, t3, t4, t5, t6, t7, t8, t9, t10, t11, t12, t13, t14, t15, t16, t17, t18, t19, t20⟩ := hSw; go_simp⟩) (by assumption) ?_
  try simp only [Act.put, List.getElem_toArray, List.getElem_cons_succ, List.getElem_cons_zero, List.setIfInBounds_toArray, List.set_cons_zero, List.set_cons_succ]
  refine wpAnyH_done (by kernel_rfl) (NoPanic.normal ?_) _
  have FIN := hide ((unhide G7).trans gx4)
  clear hHeld3 gx2 gx3 gx4
  go_wp2_with fail
  go_ret
  exact ⟨rfl, unhide FIN⟩

set_option maxRecDepth 100000 in
theorem lifted_CodeBytes (os : Os) (started : os.Started) (H : Type) (enc : TypeId × Value → H) :
    ReturnsInHanded {} Tryd.checked os 3 .any (fun w args => (Rows.codeBytesSpec.pre enc Tryd.prog Tryd.f3 [] false w args ∧ laidMetH Tryd.prog laid9 w) ∧ sizedMet enc Tryd.prog Tryd.f3 (OpenSpec.ofChange Rows.codeBytesSpec) false w args)
      (Rows.codeBytesSpec.post enc Tryd.prog Tryd.f3 false true false false) := by
  refine returnsInHanded_of_change_and (C := Tryd.checked) (X := fun w _ => laidMetH Tryd.prog laid9 w) (fun _ _ _ hh h => h.of_heap hh) own started (by kernel_rfl) Tryd.func3
    (ChangeSpec.witness_shaped (enc := enc) (C := Tryd.checked) (os := os) (X := fun w _ => laidMetH Tryd.prog laid9 w) false (World.doorLaid Tryd.prog 400 os) #[.agg #[.slice none 0 0, .slice none 0 0, .slice none 0 0, .slice none 0 0, .slice none 0 0, .int .i64 0]] 8 rfl (World.shaped_of_RefB (by kernel_rfl) (by kernel_rfl)) (by kernel_rfl) (by kernel_rfl) (by kernel_rfl) (door_met os _)) ?_
  intro W base args ds gs before hval0 hW _ _ hL _
  have hval : ∀ (j : Nat) t v, Tryd.f3.params[j]? = some t → args[j]? = some v → Value.okWide Tryd.prog W .any base t v := hval0
  have hW' := hW
  obtain ⟨p, q, hA0, hV, rfl, hfz, hnd⟩ := hW
  have hA : DataW.TrodAll enc Tryd.prog W 0 (fun _ => true) true Tryd.f3.params.toList args.toList ds p := hA0
  rw [Tryd.params3] at hA hval
  obtain ⟨v0, vs0, d0, ds0, p0, q0, hargs, rfl, rfl, h0, r0⟩ := trodAll_cons hA
  obtain ⟨rfl, rfl, rfl⟩ := trodAll_nil r0
  obtain rfl : args = #[v0] := by cases args; simp_all
  obtain ⟨rfl, rfl⟩ := trodVars_none hV
  have k0 := h0
  have lt0 : ∀ x ∈ p0, x.block < W.heap.size := by obtain ⟨m, hm⟩ := k0; exact DataW.trod_lt m _ _ _ hm
  obtain ⟨m0, hM0, oM0⟩ := open_module (hval 0 28 v0 rfl rfl) h0
  clear hA0 hval0
  refine (walk_CodeBytes v0 m0 W (tab_of_laid hL) hM0 oM0).mono fun e W' ⟨he, hg⟩ => ?_
  subst he
  exact ⟨_, rfl, _, _, _, [], _, [], hW', trodAll_mk1 (shut_bool Tryd.underlying4 _), (trodAll_cons_mk (Below.trod laidOut (by kernel_rfl) (of_decide_eq_true (by kernel_rfl)) k0 hg lt0) trodAll_mk0), rfl, hg.frame _, fun h => by cases h⟩

theorem row_CodeBytes : Rows.CodeBytesSaid :=
  OpenClaim.holds_of_wide 3 Tryd.f3 rfl rfl rfl rfl rfl rfl rfl ⟨rfl, rfl, rfl, rfl, rfl⟩ rfl rfl rfl rfl rfl (by kernel_rfl) Tryd.func3 (by kernel_rfl)
    (of_decide_eq_true (by kernel_rfl)) (by unfold Func.isWrapper; first | (rw [if_pos (by decide +kernel)]; kernel_rfl) | (rw [if_neg (by decide +kernel)]; exact ⟨rfl, rfl⟩))
    (fun os started H enc _ => lifted_CodeBytes os started H enc)

/-- THE STATEMENT. -/
theorem card_CodeBytes : Rows.CodeBytesCardSaid :=
  Claim7.holds_tied_plain_at .later [] [.data, .data, .data, .data] true (true, "3cd61b0ab25979e17df40103d35346b284331b92b4d749e33b439e5df481986c") false
    row_CodeBytes (fun _ h => by cases h) (by kernel_rfl) (fun _ h => by cases h) codeBytes_row_tie rfl ⟨rfl, rfl⟩ (by kernel_rfl) rfl
    (fun f fn hf hfn => by
      obtain rfl : f = 3 := Option.some.inj ((show Tryd.prog.funcNamed "gantline/gantlinelaw9.CodeBytes" = some 3 by kernel_rfl).symm.trans hf) |>.symm
      obtain rfl : fn = Tryd.f3 := (Option.some.inj (Tryd.func3.symm.trans hfn)).symm
      exact ⟨by kernel_rfl, fun j t ht => by
        rw [Tryd.params3] at ht
        have hm : t ∈ [28] := by simpa using Array.mem_of_getElem? ht
        have hall : ([28].all fun u => !Tryd.prog.wantsStandIn u) = true := by kernel_rfl
        exact (show Tryd.prog.wantsStandIn t = false by simpa using List.all_eq_true.1 hall t hm)⟩)
    (by kernel_rfl)
#print axioms card_CodeBytes
end Go.Proofs.YtdekhnfncecacaaDoor
