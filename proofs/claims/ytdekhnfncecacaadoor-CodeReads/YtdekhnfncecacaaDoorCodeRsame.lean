/- The document's own Same (gantlineref17.Same): by their bytes. -/
import Derived.Test.YtdekhnfncecacaaDoorCodeRenc
namespace Go.Proofs.YtdekhnfncecacaaDoor
set_option maxRecDepth 100000
open Go.RowKit Go.Maps Go.ChangeShapes Go.WideShapes Go.ChangeAt Go.Deep

theorem bb_conv {w : World} {v : Value} {zs : List Int} (h : BB w v zs) : ∀ x, G w x → (convert 31 9 v).run Tryd.prog x = .ok (.string (strOfNums zs)) x := fun x g => by
  obtain ⟨ao, n, c, rfl, _, _, hr⟩ := h
  exact conv_row (hr.later g) c

set_option maxHeartbeats 1000000 in
theorem rsame (w : World) (va vb : Value) (m m' : Md) (hm : ModAt w va m) (hm' : ModAt w vb m') (ho : oMd m) (ho' : oMd m') (hn : (encM m).length ≤ 10000000) (hn' : (encM m').length ≤ 10000000) :
    Calls Tryd.prog 11 #[va, vb] w fun e w' => (∃ q, e = .returned (.bool q) ∧ (q = true ↔ m = m')) ∧ G w w' := by
  obtain ⟨so, sc, go, gc, co, cc, xo, xc, fo, fc, rfl, r1, r2, r3, r4, r5⟩ := hm
  obtain ⟨so', sc', go', gc', co', cc', xo', xc', fo', fc', rfl, r1', r2', r3', r4', r5'⟩ := hm'
  have hm : ModAt w (.agg #[.slice so m.sh.length sc, .slice go m.gl.length gc, .slice co m.co.length cc, .slice xo m.ca.length xc, .slice fo m.fn.length fc, .int .i64 m.main]) m := ⟨so, sc, go, gc, co, cc, xo, xc, fo, fc, rfl, r1, r2, r3, r4, r5⟩
  have hm' : ModAt w (.agg #[.slice so' m'.sh.length sc', .slice go' m'.gl.length gc', .slice co' m'.co.length cc', .slice xo' m'.ca.length xc', .slice fo' m'.fn.length fc', .int .i64 m'.main]) m' := ⟨so', sc', go', gc', co', cc', xo', xc', fo', fc', rfl, r1', r2', r3', r4', r5'⟩
  have KP : Hid (∀ x, G ((w.alloc (.cells #[.slice so m.sh.length sc, .slice go m.gl.length gc, .slice co m.co.length cc, .slice xo m.ca.length xc, .slice fo m.fn.length fc, .int .i64 m.main] 37)).alloc (.cells #[.slice so' m'.sh.length sc', .slice go' m'.gl.length gc', .slice co' m'.co.length cc', .slice xo' m'.ca.length xc', .slice fo' m'.fn.length fc', .int .i64 m'.main] 37)) x → G w x ∧ x.cell? ⟨w.heap.size, 0, none⟩ = some (.slice so m.sh.length sc) ∧ x.cell? ⟨w.heap.size, 1, none⟩ = some (.slice go m.gl.length gc) ∧ x.cell? ⟨w.heap.size, 2, none⟩ = some (.slice co m.co.length cc) ∧ x.cell? ⟨w.heap.size, 3, none⟩ = some (.slice xo m.ca.length xc) ∧ x.cell? ⟨w.heap.size, 4, none⟩ = some (.slice fo m.fn.length fc) ∧ x.cell? ⟨w.heap.size, 5, none⟩ = some (.int .i64 m.main) ∧ x.cell? ⟨w.heap.size + 1, 0, none⟩ = some (.slice so' m'.sh.length sc') ∧ x.cell? ⟨w.heap.size + 1, 1, none⟩ = some (.slice go' m'.gl.length gc') ∧ x.cell? ⟨w.heap.size + 1, 2, none⟩ = some (.slice co' m'.co.length cc') ∧ x.cell? ⟨w.heap.size + 1, 3, none⟩ = some (.slice xo' m'.ca.length xc') ∧ x.cell? ⟨w.heap.size + 1, 4, none⟩ = some (.slice fo' m'.fn.length fc') ∧ x.cell? ⟨w.heap.size + 1, 5, none⟩ = some (.int .i64 m'.main)) := hide fun x g => ⟨(((G.refl w).more _).more _).trans g, g.cell (by simp [go_sem]), g.cell (by simp [go_sem]), g.cell (by simp [go_sem]), g.cell (by simp [go_sem]), g.cell (by simp [go_sem]), g.cell (by simp [go_sem]), g.cell (by simp [go_sem]), g.cell (by simp [go_sem]), g.cell (by simp [go_sem]), g.cell (by simp [go_sem]), g.cell (by simp [go_sem]), g.cell (by simp [go_sem])⟩
  have CA := hide (fun x (g : G w x) => renc x _ m (hm.g g) ho hn)
  have CB := hide (fun x (g : G w x) => renc x _ m' (hm'.g g) ho' hn')
  obtain ⟨TA, hTA⟩ : ∃ T, T = strOfNums (encM m) := ⟨_, rfl⟩
  obtain ⟨TB, hTB⟩ : ∃ T, T = strOfNums (encM m') := ⟨_, rfl⟩
  obtain ⟨q, hq⟩ : ∃ q, q = (TA.toList == TB.toList) := ⟨_, rfl⟩
  have hq1 : (TA.toList == TB.toList) = q := hq.symm
  have QQ : Hid (q = true ↔ m = m') := hide (by
    rw [hq]
    rw [hTA, hTB, str_eq (enc_byt m ho) (enc_byt m' ho')]
    constructor
    · intro h
      exact enc_inj ho ho' (of_decide_eq_true h)
    · intro h
      rw [h]
      exact decide_eq_true rfl)
  have VA : Hid (∀ x v, BB x v (encM m) → ∀ x', G x x' → (convert 31 9 v).run Tryd.prog x' = .ok (.string (strOfNums (encM m))) x') := hide (fun x v h => bb_conv h)
  have VB : Hid (∀ x v, BB x v (encM m') → ∀ x', G x x' → (convert 31 9 v).run Tryd.prog x' = .ok (.string (strOfNums (encM m'))) x') := hide (fun x v h => bb_conv h)
  rw [← hTA] at VA
  rw [← hTB] at VB
  clear hm hm' ho ho' hn hn' hq hTA hTB r1 r2 r3 r4 r5 r1' r2' r3' r4' r5'
  go_enter Tryd.func11, Tryd.ntmps11
  go_wp2_with fail
  refine wp_region_noPanic ?_
  refine wp_region_held_drew (S := fun x => G w x ∧ x.cell? ⟨w.heap.size, 0, none⟩ = some (.slice so m.sh.length sc) ∧ x.cell? ⟨w.heap.size, 1, none⟩ = some (.slice go m.gl.length gc) ∧ x.cell? ⟨w.heap.size, 2, none⟩ = some (.slice co m.co.length cc) ∧ x.cell? ⟨w.heap.size, 3, none⟩ = some (.slice xo m.ca.length xc) ∧ x.cell? ⟨w.heap.size, 4, none⟩ = some (.slice fo m.fn.length fc) ∧ x.cell? ⟨w.heap.size, 5, none⟩ = some (.int .i64 m.main) ∧ x.cell? ⟨w.heap.size + 1, 0, none⟩ = some (.slice so' m'.sh.length sc') ∧ x.cell? ⟨w.heap.size + 1, 1, none⟩ = some (.slice go' m'.gl.length gc') ∧ x.cell? ⟨w.heap.size + 1, 2, none⟩ = some (.slice co' m'.co.length cc') ∧ x.cell? ⟨w.heap.size + 1, 3, none⟩ = some (.slice xo' m'.ca.length xc') ∧ x.cell? ⟨w.heap.size + 1, 4, none⟩ = some (.slice fo' m'.fn.length fc') ∧ x.cell? ⟨w.heap.size + 1, 5, none⟩ = some (.int .i64 m'.main)) (by kernel_rfl) (unhide KP _ ((G.refl _).drew)) (fun hHeld => ?_)
  refine wpAnyH_take (i := 0) (v := .agg #[.slice so m.sh.length sc, .slice go m.gl.length gc, .slice co m.co.length cc, .slice xo m.ca.length xc, .slice fo m.fn.length fc, .int .i64 m.main]) rfl (by kernel_rfl) (by kernel_rfl) (by kernel_rfl) (fun _ _ _ h => h) (Or.inl ⟨by rfl, fun w hSw => by obtain ⟨t0, t1, t2, t3, t4, t5, t6, t7, t8, t9, t10, t11, t12⟩ := hSw; go_simp⟩) (by assumption) ?_
  try simp only [Act.put, List.getElem_toArray, List.getElem_cons_zero, List.setIfInBounds_toArray, List.set_cons_zero, List.set_cons_succ]
  refine wpAnyH_take (i := 3) (v := .agg #[.slice so' m'.sh.length sc', .slice go' m'.gl.length gc', .slice co' m'.co.length cc', .slice xo' m'.ca.length xc', .slice fo' m'.fn.length fc', .int .i64 m'.main]) rfl (by kernel_rfl) (by kernel_rfl) (by kernel_rfl) (fun _ _ _ h => h) (Or.inl ⟨by rfl, fun w hSw => by obtain ⟨t0, t1, t2, t3, t4, t5, t6, t7, t8, t9, t10, t11, t12⟩ := hSw; go_simp⟩) (by assumption) ?_
  try simp only [Act.put, List.getElem_toArray, List.getElem_cons_succ, List.getElem_cons_zero, List.setIfInBounds_toArray, List.set_cons_zero, List.set_cons_succ]
  refine wpAnyH_ready (rs := [1]) (by kernel_rfl) (by simp) ?_
  refine AllReadyH.cons rfl (fun K hK => ?_) AllReadyH.nil
  go_simp
  refine (unhide CA _ hHeld.1).mono ?_
  rintro e x1 ⟨v1, rfl, F1, hg1⟩
  go_wp2_with fail
  have HX := hide hHeld
  refine hK.out _ _ ⟨hHeld.1.trans hg1, hg1.cell hHeld.2.1, hg1.cell hHeld.2.2.1, hg1.cell hHeld.2.2.2.1, hg1.cell hHeld.2.2.2.2.1, hg1.cell hHeld.2.2.2.2.2.1, hg1.cell hHeld.2.2.2.2.2.2.1, hg1.cell hHeld.2.2.2.2.2.2.2.1, hg1.cell hHeld.2.2.2.2.2.2.2.2.1, hg1.cell hHeld.2.2.2.2.2.2.2.2.2.1, hg1.cell hHeld.2.2.2.2.2.2.2.2.2.2.1, hg1.cell hHeld.2.2.2.2.2.2.2.2.2.2.2.1, hg1.cell hHeld.2.2.2.2.2.2.2.2.2.2.2.2⟩ (fun hHeld => ?_)
  clear hK K
  try simp only [Act.put, List.getElem_toArray, List.getElem_cons_succ, List.getElem_cons_zero, List.setIfInBounds_toArray, List.set_cons_zero, List.set_cons_succ]
  have K1 := hide (unhide VA _ _ F1)
  have GX := hide hHeld.1
  have GC := hide hHeld.2
  refine held_more (S' := fun x => G x1 x ∧ (convert 31 9 v1).run Tryd.prog x = .ok (.string TA) x) (fun x h => ⟨(unhide GX).trans h.1, h.1.cell (unhide GC).1, h.1.cell (unhide GC).2.1, h.1.cell (unhide GC).2.2.1, h.1.cell (unhide GC).2.2.2.1, h.1.cell (unhide GC).2.2.2.2.1, h.1.cell (unhide GC).2.2.2.2.2.1, h.1.cell (unhide GC).2.2.2.2.2.2.1, h.1.cell (unhide GC).2.2.2.2.2.2.2.1, h.1.cell (unhide GC).2.2.2.2.2.2.2.2.1, h.1.cell (unhide GC).2.2.2.2.2.2.2.2.2.1, h.1.cell (unhide GC).2.2.2.2.2.2.2.2.2.2.1, h.1.cell (unhide GC).2.2.2.2.2.2.2.2.2.2.2⟩) _ _ _ _ ?_
  have hHeld1 : G x1 x1 ∧ (convert 31 9 v1).run Tryd.prog x1 = .ok (.string TA) x1 := ⟨G.refl _, unhide K1 _ (G.refl _)⟩
  clear hHeld F1
  refine wpAnyH_take (i := 2) (v := .string TA) rfl (by kernel_rfl) (by kernel_rfl) (by kernel_rfl) (fun _ _ _ h => h) (Or.inl ⟨by rfl, fun w hSw => by obtain ⟨t0, t1⟩ := hSw; go_simp⟩) (by assumption) ?_
  try simp only [Act.put, List.getElem_toArray, List.getElem_cons_succ, List.getElem_cons_zero, List.setIfInBounds_toArray, List.set_cons_zero, List.set_cons_succ]
  refine wpAnyH_ready (rs := [4]) (by kernel_rfl) (by simp) ?_
  refine AllReadyH.cons rfl (fun K hK => ?_) AllReadyH.nil
  go_simp
  refine (unhide CB _ (unhide GX)).mono ?_
  rintro e x2 ⟨v2, rfl, F2, hg2⟩
  go_wp2_with fail
  refine hK.out _ _ ⟨hg2, unhide K1 _ hg2⟩ (fun hHeld => ?_)
  clear hK K
  try simp only [Act.put, List.getElem_toArray, List.getElem_cons_succ, List.getElem_cons_zero, List.setIfInBounds_toArray, List.set_cons_zero, List.set_cons_succ]
  have K2 := hide (unhide VB _ _ F2)
  refine held_more (S' := fun x => G x2 x ∧ (convert 31 9 v2).run Tryd.prog x = .ok (.string TB) x) (fun x h => ⟨hg2.trans h.1, unhide K1 _ (hg2.trans h.1)⟩) _ _ _ _ ?_
  have hHeld2 : G x2 x2 ∧ (convert 31 9 v2).run Tryd.prog x2 = .ok (.string TB) x2 := ⟨G.refl _, unhide K2 _ (G.refl _)⟩
  clear hHeld hHeld1 F2
  refine wpAnyH_take (i := 5) (v := .string TB) rfl (by kernel_rfl) (by kernel_rfl) (by kernel_rfl) (fun _ _ _ h => h) (Or.inl ⟨by rfl, fun w hSw => by obtain ⟨t0, t1⟩ := hSw; go_simp⟩) (by assumption) ?_
  try simp only [Act.put, List.getElem_toArray, List.getElem_cons_succ, List.getElem_cons_zero, List.setIfInBounds_toArray, List.set_cons_zero, List.set_cons_succ]
  refine wpAnyH_take (i := 6) (v := .bool q) rfl (by kernel_rfl) (by kernel_rfl) (by kernel_rfl) (fun _ _ _ h => h) (Or.inl ⟨by rfl, fun w hSw => by obtain ⟨t0, t1⟩ := hSw; go_simp⟩) (by assumption) ?_
  try simp only [Act.put, List.getElem_toArray, List.getElem_cons_succ, List.getElem_cons_zero, List.setIfInBounds_toArray, List.set_cons_zero, List.set_cons_succ]
  refine wpAnyH_take (i := 7) (v := .bool q) rfl (by kernel_rfl) (by kernel_rfl) (by kernel_rfl) (fun _ _ _ h => h) (Or.inl ⟨by rfl, fun w hSw => by obtain ⟨t0, t1⟩ := hSw; go_simp⟩) (by assumption) ?_
  try simp only [Act.put, List.getElem_toArray, List.getElem_cons_succ, List.getElem_cons_zero, List.setIfInBounds_toArray, List.set_cons_zero, List.set_cons_succ]
  refine wpAnyH_done (by kernel_rfl) (NoPanic.normal ?_) _
  have FIN := hide ((unhide GX).trans hg2)
  go_wp2_with fail
  refine bodyPost_ret (by simp [results, Tryd.results11, go_sem]; try rfl) rfl ?_
  exact ⟨⟨q, rfl, unhide QQ⟩, unhide FIN⟩
end Go.Proofs.YtdekhnfncecacaaDoor
