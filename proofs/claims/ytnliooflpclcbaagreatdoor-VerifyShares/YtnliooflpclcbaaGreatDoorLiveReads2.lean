/- Reads of package live: runs, closures, selects; whatever instruction. -/
import Derived.Test.YtnliooflpclcbaaGreatDoorLiveReads1
namespace Go.Proofs.YtnliooflpclcbaaGreatDoor
set_option maxRecDepth 100000
open Go.RowKit Go.Maps Go.ChangeShapes Go.WideShapes Go.ChangeAt Go.Deep

theorem fldF0 (x0 x1 x2 x3 x4 x5 x6 : Value) (w : World) : (Instr.field 39 (.agg #[x0, x1, x2, x3, x4, x5, x6]) 0).run Tryz.prog w = .ok x0 w := by kernel_rfl
theorem fldF1 (x0 x1 x2 x3 x4 x5 x6 : Value) (w : World) : (Instr.field 39 (.agg #[x0, x1, x2, x3, x4, x5, x6]) 1).run Tryz.prog w = .ok x1 w := by kernel_rfl

set_option maxHeartbeats 2000000 in
theorem reads_20 (w : World) (m : Md) (so : Option Addr) (sc : Nat) (go : Option Addr) (gc : Nat) (co : Option Addr) (cc : Nat) (ao : Option Addr) (ac : Nat) (fo : Option Addr) (fc : Nat) (h : ModR w m so sc go gc co cc ao ac fo fc) (A B C D : Int) : Calls Tryz.prog 34 #[agM m so sc go gc co cc ao ac fo fc, agI ⟨20, A, B, C, D⟩] w (LTo w (rdP m ⟨20, A, B, C, D⟩)) := by
  obtain ⟨W2, hW2⟩ : ∃ W2, W2 = ((w.alloc (.cells #[.slice so m.sh.length sc, .slice go m.gl.length gc, .slice co m.co.length cc, .slice ao m.ca.length ac, .slice fo m.fn.length fc, .int .i64 m.main] 33)).alloc (.cells #[.int .i64 20, .int .i64 A, .int .i64 B, .int .i64 C, .int .i64 D] 41)) := ⟨_, rfl⟩
  have gW : G w W2 := by rw [hW2]; exact (G.alloc _ _).more _
  have KP : Hid (∀ x, G W2 x → G W2 x ∧ x.cell? ⟨w.heap.size, 0, none⟩ = some (.slice so m.sh.length sc) ∧ x.cell? ⟨w.heap.size, 1, none⟩ = some (.slice go m.gl.length gc) ∧ x.cell? ⟨w.heap.size, 2, none⟩ = some (.slice co m.co.length cc) ∧ x.cell? ⟨w.heap.size, 3, none⟩ = some (.slice ao m.ca.length ac) ∧ x.cell? ⟨w.heap.size, 4, none⟩ = some (.slice fo m.fn.length fc) ∧ x.cell? ⟨w.heap.size, 5, none⟩ = some (.int .i64 m.main) ∧ x.cell? ⟨w.heap.size + 1, 0, none⟩ = some (.int .i64 20) ∧ x.cell? ⟨w.heap.size + 1, 1, none⟩ = some (.int .i64 A) ∧ x.cell? ⟨w.heap.size + 1, 2, none⟩ = some (.int .i64 B) ∧ x.cell? ⟨w.heap.size + 1, 3, none⟩ = some (.int .i64 C) ∧ x.cell? ⟨w.heap.size + 1, 4, none⟩ = some (.int .i64 D)) := hide fun x g => ⟨g, g.cell (by rw [hW2]; simp [go_sem]), g.cell (by rw [hW2]; simp [go_sem]), g.cell (by rw [hW2]; simp [go_sem]), g.cell (by rw [hW2]; simp [go_sem]), g.cell (by rw [hW2]; simp [go_sem]), g.cell (by rw [hW2]; simp [go_sem]), g.cell (by rw [hW2]; simp [go_sem]), g.cell (by rw [hW2]; simp [go_sem]), g.cell (by rw [hW2]; simp [go_sem]), g.cell (by rw [hW2]; simp [go_sem]), g.cell (by rw [hW2]; simp [go_sem])⟩
  have GW := hide gW
  have CF := hide (fun x (g : G W2 x) => funcOf_any x m so sc go gc co cc ao ac fo fc (h.g (gW.trans g)) B)
  have CS := hide (fun x n => slots_any x C n)
  have FI : Hid (rdP m ⟨20, A, B, C, D⟩ = runP C (fnP m B).p) := hide (by rfl)
  clear h gW
  unfold agM at CF
  unfold agM agI
  go_enter Tryz.func34, Tryz.ntmps34
  go_wp2_with fail
  rw [← hW2]
  clear hW2
  refine wp_region_noPanic ?_
  refine wp_region_held_drew (S := fun x => G W2 x ∧ x.cell? ⟨w.heap.size, 0, none⟩ = some (.slice so m.sh.length sc) ∧ x.cell? ⟨w.heap.size, 1, none⟩ = some (.slice go m.gl.length gc) ∧ x.cell? ⟨w.heap.size, 2, none⟩ = some (.slice co m.co.length cc) ∧ x.cell? ⟨w.heap.size, 3, none⟩ = some (.slice ao m.ca.length ac) ∧ x.cell? ⟨w.heap.size, 4, none⟩ = some (.slice fo m.fn.length fc) ∧ x.cell? ⟨w.heap.size, 5, none⟩ = some (.int .i64 m.main) ∧ x.cell? ⟨w.heap.size + 1, 0, none⟩ = some (.int .i64 20) ∧ x.cell? ⟨w.heap.size + 1, 1, none⟩ = some (.int .i64 A) ∧ x.cell? ⟨w.heap.size + 1, 2, none⟩ = some (.int .i64 B) ∧ x.cell? ⟨w.heap.size + 1, 3, none⟩ = some (.int .i64 C) ∧ x.cell? ⟨w.heap.size + 1, 4, none⟩ = some (.int .i64 D)) (by kernel_rfl) (unhide KP _ (G.refl W2).drew) (fun hHeld => ?_)
  refine wpAnyH_take (i := 0) (v := .pointer (some ⟨w.heap.size + 1, 3, none⟩)) rfl (by kernel_rfl) (by kernel_rfl) (by kernel_rfl) (fun _ _ _ h => h) (Or.inl ⟨by rfl, fun w hSw => by obtain ⟨t0, t1, t2, t3, t4, t5, t6, t7, t8, t9, t10, t11⟩ := hSw; go_simp⟩) (by assumption) ?_
  try simp only [Act.put, List.getElem_toArray, List.getElem_cons_zero, List.setIfInBounds_toArray, List.set_cons_zero, List.set_cons_succ]
  refine wpAnyH_take (i := 1) (v := .int .i64 C) rfl (by kernel_rfl) (by kernel_rfl) (by kernel_rfl) (fun _ _ _ h => h) (Or.inl ⟨by rfl, fun w hSw => by obtain ⟨t0, t1, t2, t3, t4, t5, t6, t7, t8, t9, t10, t11⟩ := hSw; go_simp⟩) (by assumption) ?_
  try simp only [Act.put, List.getElem_toArray, List.getElem_cons_succ, List.getElem_cons_zero, List.setIfInBounds_toArray, List.set_cons_zero, List.set_cons_succ]
  refine wpAnyH_take (i := 2) (v := .agg #[.slice so m.sh.length sc, .slice go m.gl.length gc, .slice co m.co.length cc, .slice ao m.ca.length ac, .slice fo m.fn.length fc, .int .i64 m.main]) rfl (by kernel_rfl) (by kernel_rfl) (by kernel_rfl) (fun _ _ _ h => h) (Or.inl ⟨by rfl, fun w hSw => by obtain ⟨t0, t1, t2, t3, t4, t5, t6, t7, t8, t9, t10, t11⟩ := hSw; go_simp⟩) (by assumption) ?_
  try simp only [Act.put, List.getElem_toArray, List.getElem_cons_succ, List.getElem_cons_zero, List.setIfInBounds_toArray, List.set_cons_zero, List.set_cons_succ]
  refine wpAnyH_take (i := 3) (v := .pointer (some ⟨w.heap.size + 1, 2, none⟩)) rfl (by kernel_rfl) (by kernel_rfl) (by kernel_rfl) (fun _ _ _ h => h) (Or.inl ⟨by rfl, fun w hSw => by obtain ⟨t0, t1, t2, t3, t4, t5, t6, t7, t8, t9, t10, t11⟩ := hSw; go_simp⟩) (by assumption) ?_
  try simp only [Act.put, List.getElem_toArray, List.getElem_cons_succ, List.getElem_cons_zero, List.setIfInBounds_toArray, List.set_cons_zero, List.set_cons_succ]
  refine wpAnyH_take (i := 4) (v := .int .i64 B) rfl (by kernel_rfl) (by kernel_rfl) (by kernel_rfl) (fun _ _ _ h => h) (Or.inl ⟨by rfl, fun w hSw => by obtain ⟨t0, t1, t2, t3, t4, t5, t6, t7, t8, t9, t10, t11⟩ := hSw; go_simp⟩) (by assumption) ?_
  try simp only [Act.put, List.getElem_toArray, List.getElem_cons_succ, List.getElem_cons_zero, List.setIfInBounds_toArray, List.set_cons_zero, List.set_cons_succ]
  refine wpAnyH_ready (rs := [5]) (by kernel_rfl) (by simp) ?_
  refine AllReadyH.cons rfl (fun K hK => ?_) AllReadyH.nil
  go_simp
  refine (unhide CF _ hHeld.1).mono ?_
  rintro e x1 ⟨ko, kc, io, ic, mo, mc, rfl, hg1⟩
  go_wp2_with fail
  have gx1 := hHeld.1.trans hg1
  refine hK.out _ _ (unhide KP _ gx1) (fun hH1 => ?_)
  clear hK K hHeld
  try simp only [Act.put, List.getElem_toArray, List.getElem_cons_succ, List.getElem_cons_zero, List.setIfInBounds_toArray, List.set_cons_zero, List.set_cons_succ]
  refine wpAnyH_take (i := 6) (v := .int .i64 (fnP m B).p) rfl (by kernel_rfl) (by kernel_rfl) (by kernel_rfl) (fun _ _ _ h => h) (Or.inl ⟨by rfl, fun w hSw => by obtain ⟨t0, t1, t2, t3, t4, t5, t6, t7, t8, t9, t10, t11⟩ := hSw; have hf := fldF0; go_simp⟩) (by assumption) ?_
  try simp only [Act.put, List.getElem_toArray, List.getElem_cons_succ, List.getElem_cons_zero, List.setIfInBounds_toArray, List.set_cons_zero, List.set_cons_succ]
  refine wpAnyH_ready (rs := [7]) (by kernel_rfl) (by simp) ?_
  refine AllReadyH.cons rfl (fun K hK => ?_) AllReadyH.nil
  go_simp
  refine (unhide CS _ _).mono ?_
  rintro e x2 ⟨v2, rfl, hL, hg2⟩
  go_wp2_with fail
  have gx2 := gx1.trans hg2
  refine hK.out _ _ (unhide KP _ gx2) (fun hH2 => ?_)
  clear hK K hH1
  try simp only [Act.put, List.getElem_toArray, List.getElem_cons_succ, List.getElem_cons_zero, List.setIfInBounds_toArray, List.set_cons_zero, List.set_cons_succ]
  refine wpAnyH_take (i := 8) (v := v2) rfl (by kernel_rfl) (by kernel_rfl) (by kernel_rfl) (fun _ _ _ h => h) (Or.inl ⟨by rfl, fun w hSw => by obtain ⟨t0, t1, t2, t3, t4, t5, t6, t7, t8, t9, t10, t11⟩ := hSw; go_simp⟩) (by assumption) ?_
  try simp only [Act.put, List.getElem_toArray, List.getElem_cons_succ, List.getElem_cons_zero, List.setIfInBounds_toArray, List.set_cons_zero, List.set_cons_succ]
  refine wpAnyH_done (by kernel_rfl) (NoPanic.normal ?_) _
  have K : Hid (LTo w (rdP m ⟨20, A, B, C, D⟩) (.returned v2) x2) := hide (by rw [unhide FI]; exact ⟨v2, rfl, hL, (unhide GW).trans gx2⟩)
  clear hL hH2 gx1 gx2
  go_wp2_with fail
  refine bodyPost_ret (by simp [results, Tryz.results34, go_sem]; try rfl) rfl ?_
  exact unhide K
set_option maxHeartbeats 2000000 in
theorem reads_23 (w : World) (m : Md) (so : Option Addr) (sc : Nat) (go : Option Addr) (gc : Nat) (co : Option Addr) (cc : Nat) (ao : Option Addr) (ac : Nat) (fo : Option Addr) (fc : Nat) (h : ModR w m so sc go gc co cc ao ac fo fc) (A B C D : Int) : Calls Tryz.prog 34 #[agM m so sc go gc co cc ao ac fo fc, agI ⟨23, A, B, C, D⟩] w (LTo w (rdP m ⟨23, A, B, C, D⟩)) := by
  obtain ⟨W2, hW2⟩ : ∃ W2, W2 = ((w.alloc (.cells #[.slice so m.sh.length sc, .slice go m.gl.length gc, .slice co m.co.length cc, .slice ao m.ca.length ac, .slice fo m.fn.length fc, .int .i64 m.main] 33)).alloc (.cells #[.int .i64 23, .int .i64 A, .int .i64 B, .int .i64 C, .int .i64 D] 41)) := ⟨_, rfl⟩
  have gW : G w W2 := by rw [hW2]; exact (G.alloc _ _).more _
  have KP : Hid (∀ x, G W2 x → G W2 x ∧ x.cell? ⟨w.heap.size, 0, none⟩ = some (.slice so m.sh.length sc) ∧ x.cell? ⟨w.heap.size, 1, none⟩ = some (.slice go m.gl.length gc) ∧ x.cell? ⟨w.heap.size, 2, none⟩ = some (.slice co m.co.length cc) ∧ x.cell? ⟨w.heap.size, 3, none⟩ = some (.slice ao m.ca.length ac) ∧ x.cell? ⟨w.heap.size, 4, none⟩ = some (.slice fo m.fn.length fc) ∧ x.cell? ⟨w.heap.size, 5, none⟩ = some (.int .i64 m.main) ∧ x.cell? ⟨w.heap.size + 1, 0, none⟩ = some (.int .i64 23) ∧ x.cell? ⟨w.heap.size + 1, 1, none⟩ = some (.int .i64 A) ∧ x.cell? ⟨w.heap.size + 1, 2, none⟩ = some (.int .i64 B) ∧ x.cell? ⟨w.heap.size + 1, 3, none⟩ = some (.int .i64 C) ∧ x.cell? ⟨w.heap.size + 1, 4, none⟩ = some (.int .i64 D)) := hide fun x g => ⟨g, g.cell (by rw [hW2]; simp [go_sem]), g.cell (by rw [hW2]; simp [go_sem]), g.cell (by rw [hW2]; simp [go_sem]), g.cell (by rw [hW2]; simp [go_sem]), g.cell (by rw [hW2]; simp [go_sem]), g.cell (by rw [hW2]; simp [go_sem]), g.cell (by rw [hW2]; simp [go_sem]), g.cell (by rw [hW2]; simp [go_sem]), g.cell (by rw [hW2]; simp [go_sem]), g.cell (by rw [hW2]; simp [go_sem]), g.cell (by rw [hW2]; simp [go_sem])⟩
  have GW := hide gW
  have CF := hide (fun x (g : G W2 x) => funcOf_any x m so sc go gc co cc ao ac fo fc (h.g (gW.trans g)) A)
  have CS := hide (fun x n => slots_any x B n)
  have FI : Hid (rdP m ⟨23, A, B, C, D⟩ = runP B (fnP m A).p) := hide (by rfl)
  clear h gW
  unfold agM at CF
  unfold agM agI
  go_enter Tryz.func34, Tryz.ntmps34
  go_wp2_with fail
  rw [← hW2]
  clear hW2
  refine wp_region_noPanic ?_
  refine wp_region_held_drew (S := fun x => G W2 x ∧ x.cell? ⟨w.heap.size, 0, none⟩ = some (.slice so m.sh.length sc) ∧ x.cell? ⟨w.heap.size, 1, none⟩ = some (.slice go m.gl.length gc) ∧ x.cell? ⟨w.heap.size, 2, none⟩ = some (.slice co m.co.length cc) ∧ x.cell? ⟨w.heap.size, 3, none⟩ = some (.slice ao m.ca.length ac) ∧ x.cell? ⟨w.heap.size, 4, none⟩ = some (.slice fo m.fn.length fc) ∧ x.cell? ⟨w.heap.size, 5, none⟩ = some (.int .i64 m.main) ∧ x.cell? ⟨w.heap.size + 1, 0, none⟩ = some (.int .i64 23) ∧ x.cell? ⟨w.heap.size + 1, 1, none⟩ = some (.int .i64 A) ∧ x.cell? ⟨w.heap.size + 1, 2, none⟩ = some (.int .i64 B) ∧ x.cell? ⟨w.heap.size + 1, 3, none⟩ = some (.int .i64 C) ∧ x.cell? ⟨w.heap.size + 1, 4, none⟩ = some (.int .i64 D)) (by kernel_rfl) (unhide KP _ (G.refl W2).drew) (fun hHeld => ?_)
  refine wpAnyH_take (i := 0) (v := .pointer (some ⟨w.heap.size + 1, 2, none⟩)) rfl (by kernel_rfl) (by kernel_rfl) (by kernel_rfl) (fun _ _ _ h => h) (Or.inl ⟨by rfl, fun w hSw => by obtain ⟨t0, t1, t2, t3, t4, t5, t6, t7, t8, t9, t10, t11⟩ := hSw; go_simp⟩) (by assumption) ?_
  try simp only [Act.put, List.getElem_toArray, List.getElem_cons_zero, List.setIfInBounds_toArray, List.set_cons_zero, List.set_cons_succ]
  refine wpAnyH_take (i := 1) (v := .int .i64 B) rfl (by kernel_rfl) (by kernel_rfl) (by kernel_rfl) (fun _ _ _ h => h) (Or.inl ⟨by rfl, fun w hSw => by obtain ⟨t0, t1, t2, t3, t4, t5, t6, t7, t8, t9, t10, t11⟩ := hSw; go_simp⟩) (by assumption) ?_
  try simp only [Act.put, List.getElem_toArray, List.getElem_cons_succ, List.getElem_cons_zero, List.setIfInBounds_toArray, List.set_cons_zero, List.set_cons_succ]
  refine wpAnyH_take (i := 2) (v := .agg #[.slice so m.sh.length sc, .slice go m.gl.length gc, .slice co m.co.length cc, .slice ao m.ca.length ac, .slice fo m.fn.length fc, .int .i64 m.main]) rfl (by kernel_rfl) (by kernel_rfl) (by kernel_rfl) (fun _ _ _ h => h) (Or.inl ⟨by rfl, fun w hSw => by obtain ⟨t0, t1, t2, t3, t4, t5, t6, t7, t8, t9, t10, t11⟩ := hSw; go_simp⟩) (by assumption) ?_
  try simp only [Act.put, List.getElem_toArray, List.getElem_cons_succ, List.getElem_cons_zero, List.setIfInBounds_toArray, List.set_cons_zero, List.set_cons_succ]
  refine wpAnyH_take (i := 3) (v := .pointer (some ⟨w.heap.size + 1, 1, none⟩)) rfl (by kernel_rfl) (by kernel_rfl) (by kernel_rfl) (fun _ _ _ h => h) (Or.inl ⟨by rfl, fun w hSw => by obtain ⟨t0, t1, t2, t3, t4, t5, t6, t7, t8, t9, t10, t11⟩ := hSw; go_simp⟩) (by assumption) ?_
  try simp only [Act.put, List.getElem_toArray, List.getElem_cons_succ, List.getElem_cons_zero, List.setIfInBounds_toArray, List.set_cons_zero, List.set_cons_succ]
  refine wpAnyH_take (i := 4) (v := .int .i64 A) rfl (by kernel_rfl) (by kernel_rfl) (by kernel_rfl) (fun _ _ _ h => h) (Or.inl ⟨by rfl, fun w hSw => by obtain ⟨t0, t1, t2, t3, t4, t5, t6, t7, t8, t9, t10, t11⟩ := hSw; go_simp⟩) (by assumption) ?_
  try simp only [Act.put, List.getElem_toArray, List.getElem_cons_succ, List.getElem_cons_zero, List.setIfInBounds_toArray, List.set_cons_zero, List.set_cons_succ]
  refine wpAnyH_ready (rs := [5]) (by kernel_rfl) (by simp) ?_
  refine AllReadyH.cons rfl (fun K hK => ?_) AllReadyH.nil
  go_simp
  refine (unhide CF _ hHeld.1).mono ?_
  rintro e x1 ⟨ko, kc, io, ic, mo, mc, rfl, hg1⟩
  go_wp2_with fail
  have gx1 := hHeld.1.trans hg1
  refine hK.out _ _ (unhide KP _ gx1) (fun hH1 => ?_)
  clear hK K hHeld
  try simp only [Act.put, List.getElem_toArray, List.getElem_cons_succ, List.getElem_cons_zero, List.setIfInBounds_toArray, List.set_cons_zero, List.set_cons_succ]
  refine wpAnyH_take (i := 6) (v := .int .i64 (fnP m A).p) rfl (by kernel_rfl) (by kernel_rfl) (by kernel_rfl) (fun _ _ _ h => h) (Or.inl ⟨by rfl, fun w hSw => by obtain ⟨t0, t1, t2, t3, t4, t5, t6, t7, t8, t9, t10, t11⟩ := hSw; have hf := fldF0; go_simp⟩) (by assumption) ?_
  try simp only [Act.put, List.getElem_toArray, List.getElem_cons_succ, List.getElem_cons_zero, List.setIfInBounds_toArray, List.set_cons_zero, List.set_cons_succ]
  refine wpAnyH_ready (rs := [7]) (by kernel_rfl) (by simp) ?_
  refine AllReadyH.cons rfl (fun K hK => ?_) AllReadyH.nil
  go_simp
  refine (unhide CS _ _).mono ?_
  rintro e x2 ⟨v2, rfl, hL, hg2⟩
  go_wp2_with fail
  have gx2 := gx1.trans hg2
  refine hK.out _ _ (unhide KP _ gx2) (fun hH2 => ?_)
  clear hK K hH1
  try simp only [Act.put, List.getElem_toArray, List.getElem_cons_succ, List.getElem_cons_zero, List.setIfInBounds_toArray, List.set_cons_zero, List.set_cons_succ]
  refine wpAnyH_take (i := 8) (v := v2) rfl (by kernel_rfl) (by kernel_rfl) (by kernel_rfl) (fun _ _ _ h => h) (Or.inl ⟨by rfl, fun w hSw => by obtain ⟨t0, t1, t2, t3, t4, t5, t6, t7, t8, t9, t10, t11⟩ := hSw; go_simp⟩) (by assumption) ?_
  try simp only [Act.put, List.getElem_toArray, List.getElem_cons_succ, List.getElem_cons_zero, List.setIfInBounds_toArray, List.set_cons_zero, List.set_cons_succ]
  refine wpAnyH_done (by kernel_rfl) (NoPanic.normal ?_) _
  have K : Hid (LTo w (rdP m ⟨23, A, B, C, D⟩) (.returned v2) x2) := hide (by rw [unhide FI]; exact ⟨v2, rfl, hL, (unhide GW).trans gx2⟩)
  clear hL hH2 gx1 gx2
  go_wp2_with fail
  refine bodyPost_ret (by simp [results, Tryz.results34, go_sem]; try rfl) rfl ?_
  exact unhide K
set_option maxHeartbeats 2000000 in
theorem reads_36 (w : World) (m : Md) (so : Option Addr) (sc : Nat) (go : Option Addr) (gc : Nat) (co : Option Addr) (cc : Nat) (ao : Option Addr) (ac : Nat) (fo : Option Addr) (fc : Nat) (h : ModR w m so sc go gc co cc ao ac fo fc) (A B C D : Int) : Calls Tryz.prog 34 #[agM m so sc go gc co cc ao ac fo fc, agI ⟨36, A, B, C, D⟩] w (LTo w (rdP m ⟨36, A, B, C, D⟩)) := by
  obtain ⟨W2, hW2⟩ : ∃ W2, W2 = ((w.alloc (.cells #[.slice so m.sh.length sc, .slice go m.gl.length gc, .slice co m.co.length cc, .slice ao m.ca.length ac, .slice fo m.fn.length fc, .int .i64 m.main] 33)).alloc (.cells #[.int .i64 36, .int .i64 A, .int .i64 B, .int .i64 C, .int .i64 D] 41)) := ⟨_, rfl⟩
  have gW : G w W2 := by rw [hW2]; exact (G.alloc _ _).more _
  have KP : Hid (∀ x, G W2 x → G W2 x ∧ x.cell? ⟨w.heap.size, 0, none⟩ = some (.slice so m.sh.length sc) ∧ x.cell? ⟨w.heap.size, 1, none⟩ = some (.slice go m.gl.length gc) ∧ x.cell? ⟨w.heap.size, 2, none⟩ = some (.slice co m.co.length cc) ∧ x.cell? ⟨w.heap.size, 3, none⟩ = some (.slice ao m.ca.length ac) ∧ x.cell? ⟨w.heap.size, 4, none⟩ = some (.slice fo m.fn.length fc) ∧ x.cell? ⟨w.heap.size, 5, none⟩ = some (.int .i64 m.main) ∧ x.cell? ⟨w.heap.size + 1, 0, none⟩ = some (.int .i64 36) ∧ x.cell? ⟨w.heap.size + 1, 1, none⟩ = some (.int .i64 A) ∧ x.cell? ⟨w.heap.size + 1, 2, none⟩ = some (.int .i64 B) ∧ x.cell? ⟨w.heap.size + 1, 3, none⟩ = some (.int .i64 C) ∧ x.cell? ⟨w.heap.size + 1, 4, none⟩ = some (.int .i64 D)) := hide fun x g => ⟨g, g.cell (by rw [hW2]; simp [go_sem]), g.cell (by rw [hW2]; simp [go_sem]), g.cell (by rw [hW2]; simp [go_sem]), g.cell (by rw [hW2]; simp [go_sem]), g.cell (by rw [hW2]; simp [go_sem]), g.cell (by rw [hW2]; simp [go_sem]), g.cell (by rw [hW2]; simp [go_sem]), g.cell (by rw [hW2]; simp [go_sem]), g.cell (by rw [hW2]; simp [go_sem]), g.cell (by rw [hW2]; simp [go_sem]), g.cell (by rw [hW2]; simp [go_sem])⟩
  have GW := hide gW
  have CF := hide (fun x (g : G W2 x) => funcOf_any x m so sc go gc co cc ao ac fo fc (h.g (gW.trans g)) B)
  have CS := hide (fun x n => slots_any x C n)
  have FI : Hid (rdP m ⟨36, A, B, C, D⟩ = runP C (fnP m B).c) := hide (by rfl)
  clear h gW
  unfold agM at CF
  unfold agM agI
  go_enter Tryz.func34, Tryz.ntmps34
  go_wp2_with fail
  rw [← hW2]
  clear hW2
  refine wp_region_noPanic ?_
  refine wp_region_held_drew (S := fun x => G W2 x ∧ x.cell? ⟨w.heap.size, 0, none⟩ = some (.slice so m.sh.length sc) ∧ x.cell? ⟨w.heap.size, 1, none⟩ = some (.slice go m.gl.length gc) ∧ x.cell? ⟨w.heap.size, 2, none⟩ = some (.slice co m.co.length cc) ∧ x.cell? ⟨w.heap.size, 3, none⟩ = some (.slice ao m.ca.length ac) ∧ x.cell? ⟨w.heap.size, 4, none⟩ = some (.slice fo m.fn.length fc) ∧ x.cell? ⟨w.heap.size, 5, none⟩ = some (.int .i64 m.main) ∧ x.cell? ⟨w.heap.size + 1, 0, none⟩ = some (.int .i64 36) ∧ x.cell? ⟨w.heap.size + 1, 1, none⟩ = some (.int .i64 A) ∧ x.cell? ⟨w.heap.size + 1, 2, none⟩ = some (.int .i64 B) ∧ x.cell? ⟨w.heap.size + 1, 3, none⟩ = some (.int .i64 C) ∧ x.cell? ⟨w.heap.size + 1, 4, none⟩ = some (.int .i64 D)) (by kernel_rfl) (unhide KP _ (G.refl W2).drew) (fun hHeld => ?_)
  refine wpAnyH_take (i := 0) (v := .pointer (some ⟨w.heap.size + 1, 3, none⟩)) rfl (by kernel_rfl) (by kernel_rfl) (by kernel_rfl) (fun _ _ _ h => h) (Or.inl ⟨by rfl, fun w hSw => by obtain ⟨t0, t1, t2, t3, t4, t5, t6, t7, t8, t9, t10, t11⟩ := hSw; go_simp⟩) (by assumption) ?_
  try simp only [Act.put, List.getElem_toArray, List.getElem_cons_zero, List.setIfInBounds_toArray, List.set_cons_zero, List.set_cons_succ]
  refine wpAnyH_take (i := 1) (v := .int .i64 C) rfl (by kernel_rfl) (by kernel_rfl) (by kernel_rfl) (fun _ _ _ h => h) (Or.inl ⟨by rfl, fun w hSw => by obtain ⟨t0, t1, t2, t3, t4, t5, t6, t7, t8, t9, t10, t11⟩ := hSw; go_simp⟩) (by assumption) ?_
  try simp only [Act.put, List.getElem_toArray, List.getElem_cons_succ, List.getElem_cons_zero, List.setIfInBounds_toArray, List.set_cons_zero, List.set_cons_succ]
  refine wpAnyH_take (i := 2) (v := .agg #[.slice so m.sh.length sc, .slice go m.gl.length gc, .slice co m.co.length cc, .slice ao m.ca.length ac, .slice fo m.fn.length fc, .int .i64 m.main]) rfl (by kernel_rfl) (by kernel_rfl) (by kernel_rfl) (fun _ _ _ h => h) (Or.inl ⟨by rfl, fun w hSw => by obtain ⟨t0, t1, t2, t3, t4, t5, t6, t7, t8, t9, t10, t11⟩ := hSw; go_simp⟩) (by assumption) ?_
  try simp only [Act.put, List.getElem_toArray, List.getElem_cons_succ, List.getElem_cons_zero, List.setIfInBounds_toArray, List.set_cons_zero, List.set_cons_succ]
  refine wpAnyH_take (i := 3) (v := .pointer (some ⟨w.heap.size + 1, 2, none⟩)) rfl (by kernel_rfl) (by kernel_rfl) (by kernel_rfl) (fun _ _ _ h => h) (Or.inl ⟨by rfl, fun w hSw => by obtain ⟨t0, t1, t2, t3, t4, t5, t6, t7, t8, t9, t10, t11⟩ := hSw; go_simp⟩) (by assumption) ?_
  try simp only [Act.put, List.getElem_toArray, List.getElem_cons_succ, List.getElem_cons_zero, List.setIfInBounds_toArray, List.set_cons_zero, List.set_cons_succ]
  refine wpAnyH_take (i := 4) (v := .int .i64 B) rfl (by kernel_rfl) (by kernel_rfl) (by kernel_rfl) (fun _ _ _ h => h) (Or.inl ⟨by rfl, fun w hSw => by obtain ⟨t0, t1, t2, t3, t4, t5, t6, t7, t8, t9, t10, t11⟩ := hSw; go_simp⟩) (by assumption) ?_
  try simp only [Act.put, List.getElem_toArray, List.getElem_cons_succ, List.getElem_cons_zero, List.setIfInBounds_toArray, List.set_cons_zero, List.set_cons_succ]
  refine wpAnyH_ready (rs := [5]) (by kernel_rfl) (by simp) ?_
  refine AllReadyH.cons rfl (fun K hK => ?_) AllReadyH.nil
  go_simp
  refine (unhide CF _ hHeld.1).mono ?_
  rintro e x1 ⟨ko, kc, io, ic, mo, mc, rfl, hg1⟩
  go_wp2_with fail
  have gx1 := hHeld.1.trans hg1
  refine hK.out _ _ (unhide KP _ gx1) (fun hH1 => ?_)
  clear hK K hHeld
  try simp only [Act.put, List.getElem_toArray, List.getElem_cons_succ, List.getElem_cons_zero, List.setIfInBounds_toArray, List.set_cons_zero, List.set_cons_succ]
  refine wpAnyH_take (i := 6) (v := .int .i64 (fnP m B).c) rfl (by kernel_rfl) (by kernel_rfl) (by kernel_rfl) (fun _ _ _ h => h) (Or.inl ⟨by rfl, fun w hSw => by obtain ⟨t0, t1, t2, t3, t4, t5, t6, t7, t8, t9, t10, t11⟩ := hSw; have hf := fldF1; go_simp⟩) (by assumption) ?_
  try simp only [Act.put, List.getElem_toArray, List.getElem_cons_succ, List.getElem_cons_zero, List.setIfInBounds_toArray, List.set_cons_zero, List.set_cons_succ]
  refine wpAnyH_ready (rs := [7]) (by kernel_rfl) (by simp) ?_
  refine AllReadyH.cons rfl (fun K hK => ?_) AllReadyH.nil
  go_simp
  refine (unhide CS _ _).mono ?_
  rintro e x2 ⟨v2, rfl, hL, hg2⟩
  go_wp2_with fail
  have gx2 := gx1.trans hg2
  refine hK.out _ _ (unhide KP _ gx2) (fun hH2 => ?_)
  clear hK K hH1
  try simp only [Act.put, List.getElem_toArray, List.getElem_cons_succ, List.getElem_cons_zero, List.setIfInBounds_toArray, List.set_cons_zero, List.set_cons_succ]
  refine wpAnyH_take (i := 8) (v := v2) rfl (by kernel_rfl) (by kernel_rfl) (by kernel_rfl) (fun _ _ _ h => h) (Or.inl ⟨by rfl, fun w hSw => by obtain ⟨t0, t1, t2, t3, t4, t5, t6, t7, t8, t9, t10, t11⟩ := hSw; go_simp⟩) (by assumption) ?_
  try simp only [Act.put, List.getElem_toArray, List.getElem_cons_succ, List.getElem_cons_zero, List.setIfInBounds_toArray, List.set_cons_zero, List.set_cons_succ]
  refine wpAnyH_done (by kernel_rfl) (NoPanic.normal ?_) _
  have K : Hid (LTo w (rdP m ⟨36, A, B, C, D⟩) (.returned v2) x2) := hide (by rw [unhide FI]; exact ⟨v2, rfl, hL, (unhide GW).trans gx2⟩)
  clear hL hH2 gx1 gx2
  go_wp2_with fail
  refine bodyPost_ret (by simp [results, Tryz.results34, go_sem]; try rfl) rfl ?_
  exact unhide K
set_option maxHeartbeats 2000000 in
theorem reads_21 (w : World) (m : Md) (so : Option Addr) (sc : Nat) (go : Option Addr) (gc : Nat) (co : Option Addr) (cc : Nat) (ao : Option Addr) (ac : Nat) (fo : Option Addr) (fc : Nat) (A B C D : Int) : Calls Tryz.prog 34 #[agM m so sc go gc co cc ao ac fo fc, agI ⟨21, A, B, C, D⟩] w (LTo w (rdP m ⟨21, A, B, C, D⟩)) := by
  obtain ⟨W2, hW2⟩ : ∃ W2, W2 = ((w.alloc (.cells #[.slice so m.sh.length sc, .slice go m.gl.length gc, .slice co m.co.length cc, .slice ao m.ca.length ac, .slice fo m.fn.length fc, .int .i64 m.main] 33)).alloc (.cells #[.int .i64 21, .int .i64 A, .int .i64 B, .int .i64 C, .int .i64 D] 41)) := ⟨_, rfl⟩
  have gW : G w W2 := by rw [hW2]; exact (G.alloc _ _).more _
  have KP : Hid (∀ x, G W2 x → G W2 x ∧ x.cell? ⟨w.heap.size, 0, none⟩ = some (.slice so m.sh.length sc) ∧ x.cell? ⟨w.heap.size, 1, none⟩ = some (.slice go m.gl.length gc) ∧ x.cell? ⟨w.heap.size, 2, none⟩ = some (.slice co m.co.length cc) ∧ x.cell? ⟨w.heap.size, 3, none⟩ = some (.slice ao m.ca.length ac) ∧ x.cell? ⟨w.heap.size, 4, none⟩ = some (.slice fo m.fn.length fc) ∧ x.cell? ⟨w.heap.size, 5, none⟩ = some (.int .i64 m.main) ∧ x.cell? ⟨w.heap.size + 1, 0, none⟩ = some (.int .i64 21) ∧ x.cell? ⟨w.heap.size + 1, 1, none⟩ = some (.int .i64 A) ∧ x.cell? ⟨w.heap.size + 1, 2, none⟩ = some (.int .i64 B) ∧ x.cell? ⟨w.heap.size + 1, 3, none⟩ = some (.int .i64 C) ∧ x.cell? ⟨w.heap.size + 1, 4, none⟩ = some (.int .i64 D)) := hide fun x g => ⟨g, g.cell (by rw [hW2]; simp [go_sem]), g.cell (by rw [hW2]; simp [go_sem]), g.cell (by rw [hW2]; simp [go_sem]), g.cell (by rw [hW2]; simp [go_sem]), g.cell (by rw [hW2]; simp [go_sem]), g.cell (by rw [hW2]; simp [go_sem]), g.cell (by rw [hW2]; simp [go_sem]), g.cell (by rw [hW2]; simp [go_sem]), g.cell (by rw [hW2]; simp [go_sem]), g.cell (by rw [hW2]; simp [go_sem]), g.cell (by rw [hW2]; simp [go_sem])⟩
  have GW := hide gW
  have CS := hide (fun x => slots_any x C D)
  have AP : Hid (∀ y x2 u, OwnL y W2.heap.size u [B] → G y x2 → G W2 x2 → ∀ v1, IsL x2 v1 (runP C D) → ∃ v' x3, (Builtin.append_ #[55, 55] 55 #[u, v1]).run Tryz.prog x2 = .ok v' x3 ∧ IsL x3 v' (rdP m ⟨21, A, B, C, D⟩) ∧ G W2 x3) := hide (fun y x2 u hO gy g2 v1 hv => by
    have hlen : (runP C D).length ≤ 64 := by unfold runP; split; simp; rw [runN_len]; omega
    obtain ⟨v', x3, r1, r2, r3⟩ := own_app (own_kept hO (fun q _ hq => gy.block q hq)) g2.size hv (by simp; omega)
    exact ⟨v', x3, r1, r2.isl, ⟨r3.os.trans g2.os, r3.tape.trans g2.tape, r3.output.trans g2.output, Nat.le_trans g2.size r3.size, fun q hq => (r3.block q hq).trans (g2.block q hq)⟩⟩)
  have OW : Hid (∀ y, G W2 y → OwnL (y.alloc (.cells #[.int .i64 B] 3)) W2.heap.size (.slice (some ⟨y.heap.size, 0, none⟩) 1 1) [B]) := hide (fun y gy => World.ownsRow_lit y #[.int .i64 B] 1 gy.size (by unfold maxLen; decide) rfl)
  clear gW
  unfold agM agI
  go_enter Tryz.func34, Tryz.ntmps34
  go_wp2_with fail
  rw [← hW2]
  clear hW2
  refine wp_region_noPanic ?_
  refine wp_region_held_drew (S := fun x => G W2 x ∧ x.cell? ⟨w.heap.size, 0, none⟩ = some (.slice so m.sh.length sc) ∧ x.cell? ⟨w.heap.size, 1, none⟩ = some (.slice go m.gl.length gc) ∧ x.cell? ⟨w.heap.size, 2, none⟩ = some (.slice co m.co.length cc) ∧ x.cell? ⟨w.heap.size, 3, none⟩ = some (.slice ao m.ca.length ac) ∧ x.cell? ⟨w.heap.size, 4, none⟩ = some (.slice fo m.fn.length fc) ∧ x.cell? ⟨w.heap.size, 5, none⟩ = some (.int .i64 m.main) ∧ x.cell? ⟨w.heap.size + 1, 0, none⟩ = some (.int .i64 21) ∧ x.cell? ⟨w.heap.size + 1, 1, none⟩ = some (.int .i64 A) ∧ x.cell? ⟨w.heap.size + 1, 2, none⟩ = some (.int .i64 B) ∧ x.cell? ⟨w.heap.size + 1, 3, none⟩ = some (.int .i64 C) ∧ x.cell? ⟨w.heap.size + 1, 4, none⟩ = some (.int .i64 D)) (by kernel_rfl) (unhide KP _ (G.refl W2).drew) (fun hHeld => ?_)
  obtain ⟨y0, hy0⟩ : ∃ y, y = W2.drew := ⟨_, rfl⟩
  rw [← hy0] at hHeld ⊢
  clear hy0
  refine wpAnyH_take (i := 0) (v := .pointer (some ⟨w.heap.size + 1, 2, none⟩)) rfl (by kernel_rfl) (by kernel_rfl) (by kernel_rfl) (fun _ _ _ h => h) (Or.inl ⟨by rfl, fun w hSw => by obtain ⟨t0, t1, t2, t3, t4, t5, t6, t7, t8, t9, t10, t11⟩ := hSw; go_simp⟩) (by assumption) ?_
  try simp only [Act.put, List.getElem_toArray, List.getElem_cons_zero, List.setIfInBounds_toArray, List.set_cons_zero, List.set_cons_succ]
  refine wpAnyH_take (i := 1) (v := .int .i64 B) rfl (by kernel_rfl) (by kernel_rfl) (by kernel_rfl) (fun _ _ _ h => h) (Or.inl ⟨by rfl, fun w hSw => by obtain ⟨t0, t1, t2, t3, t4, t5, t6, t7, t8, t9, t10, t11⟩ := hSw; go_simp⟩) (by assumption) ?_
  try simp only [Act.put, List.getElem_toArray, List.getElem_cons_succ, List.getElem_cons_zero, List.setIfInBounds_toArray, List.set_cons_zero, List.set_cons_succ]
  refine wpAnyH_take (i := 3) (v := .pointer (some ⟨w.heap.size + 1, 3, none⟩)) rfl (by kernel_rfl) (by kernel_rfl) (by kernel_rfl) (fun _ _ _ h => h) (Or.inl ⟨by rfl, fun w hSw => by obtain ⟨t0, t1, t2, t3, t4, t5, t6, t7, t8, t9, t10, t11⟩ := hSw; go_simp⟩) (by assumption) ?_
  try simp only [Act.put, List.getElem_toArray, List.getElem_cons_succ, List.getElem_cons_zero, List.setIfInBounds_toArray, List.set_cons_zero, List.set_cons_succ]
  refine wpAnyH_take (i := 4) (v := .int .i64 C) rfl (by kernel_rfl) (by kernel_rfl) (by kernel_rfl) (fun _ _ _ h => h) (Or.inl ⟨by rfl, fun w hSw => by obtain ⟨t0, t1, t2, t3, t4, t5, t6, t7, t8, t9, t10, t11⟩ := hSw; go_simp⟩) (by assumption) ?_
  try simp only [Act.put, List.getElem_toArray, List.getElem_cons_succ, List.getElem_cons_zero, List.setIfInBounds_toArray, List.set_cons_zero, List.set_cons_succ]
  refine wpAnyH_take (i := 5) (v := .pointer (some ⟨w.heap.size + 1, 4, none⟩)) rfl (by kernel_rfl) (by kernel_rfl) (by kernel_rfl) (fun _ _ _ h => h) (Or.inl ⟨by rfl, fun w hSw => by obtain ⟨t0, t1, t2, t3, t4, t5, t6, t7, t8, t9, t10, t11⟩ := hSw; go_simp⟩) (by assumption) ?_
  try simp only [Act.put, List.getElem_toArray, List.getElem_cons_succ, List.getElem_cons_zero, List.setIfInBounds_toArray, List.set_cons_zero, List.set_cons_succ]
  refine wpAnyH_take (i := 6) (v := .int .i64 D) rfl (by kernel_rfl) (by kernel_rfl) (by kernel_rfl) (fun _ _ _ h => h) (Or.inl ⟨by rfl, fun w hSw => by obtain ⟨t0, t1, t2, t3, t4, t5, t6, t7, t8, t9, t10, t11⟩ := hSw; go_simp⟩) (by assumption) ?_
  try simp only [Act.put, List.getElem_toArray, List.getElem_cons_succ, List.getElem_cons_zero, List.setIfInBounds_toArray, List.set_cons_zero, List.set_cons_succ]
  refine wpAnyH_ready (rs := [2, 7]) (by kernel_rfl) (by simp) ?_
  refine AllReadyH.cons rfl (fun K hK => ?_) (AllReadyH.cons rfl (fun K hK => ?_) AllReadyH.nil)
  · go_simp
    refine hK.out _ _ (unhide KP _ (hHeld.1.more _)) (fun hH1 => ?_)
    clear hK K
    try simp only [Act.put, List.getElem_toArray, List.getElem_cons_succ, List.getElem_cons_zero, List.setIfInBounds_toArray, List.set_cons_zero, List.set_cons_succ]
    have hO := unhide OW y0 hHeld.1
    obtain ⟨y1, hy1⟩ : ∃ y, y = y0.alloc (.cells #[.int .i64 B] 3) := ⟨_, rfl⟩
    rw [← hy1] at hH1 hO ⊢
    clear hy1
    replace hO := hide hO
    refine wpAnyH_ready (rs := [7]) (by kernel_rfl) (by simp) ?_
    refine AllReadyH.cons rfl (fun K hK => ?_) AllReadyH.nil
    go_simp
    refine (unhide CS _).mono ?_
    rintro e y2 ⟨v1, rfl, hL, hg2⟩
    go_wp2_with fail
    have gx2 := hH1.1.trans hg2
    refine hK.out _ _ (unhide KP _ gx2) (fun hH2 => ?_)
    clear hK K
    try simp only [Act.put, List.getElem_toArray, List.getElem_cons_succ, List.getElem_cons_zero, List.setIfInBounds_toArray, List.set_cons_zero, List.set_cons_succ]
    replace hL := hide hL
    refine wpAnyH_ready (rs := [8]) (by kernel_rfl) (by simp) ?_
    refine AllReadyH.cons rfl (fun K hK => ?_) AllReadyH.nil
    obtain ⟨v3, x3, hrun, hL3, hg3⟩ := unhide AP y1 y2 _ (unhide hO) hg2 gx2 v1 (unhide hL)
    refine step_app rfl (.tmp 96) (.tmp 101) 55 rfl _ _ rfl rfl _ _ hrun ?_
    refine hK.out _ _ (unhide KP _ hg3) (fun hH3 => ?_)
    clear hK K hrun
    try simp only [Act.put, List.getElem_toArray, List.getElem_cons_succ, List.getElem_cons_zero, List.setIfInBounds_toArray, List.set_cons_zero, List.set_cons_succ]
    refine wpAnyH_take (i := 9) (v := v3) rfl (by kernel_rfl) (by kernel_rfl) (by kernel_rfl) (fun _ _ _ h => h) (Or.inl ⟨by rfl, fun w hSw => by obtain ⟨t0, t1, t2, t3, t4, t5, t6, t7, t8, t9, t10, t11⟩ := hSw; go_simp⟩) (by assumption) ?_
    try simp only [Act.put, List.getElem_toArray, List.getElem_cons_succ, List.getElem_cons_zero, List.setIfInBounds_toArray, List.set_cons_zero, List.set_cons_succ]
    refine wpAnyH_done (by kernel_rfl) (NoPanic.normal ?_) _
    have K : Hid (LTo w (rdP m ⟨21, A, B, C, D⟩) (.returned v3) x3) := hide ⟨v3, rfl, hL3, (unhide GW).trans hg3⟩
    clear hL3 hH3 hg3
    go_wp2_with fail
    refine bodyPost_ret (by simp [results, Tryz.results34, go_sem]; try rfl) rfl ?_
    exact unhide K
  · go_simp
    refine (unhide CS _).mono ?_
    rintro e y1 ⟨v1, rfl, hL, hg1⟩
    go_wp2_with fail
    have gx1 := hHeld.1.trans hg1
    refine hK.out _ _ (unhide KP _ gx1) (fun hH1 => ?_)
    clear hK K
    try simp only [Act.put, List.getElem_toArray, List.getElem_cons_succ, List.getElem_cons_zero, List.setIfInBounds_toArray, List.set_cons_zero, List.set_cons_succ]
    replace hL := hide hL
    refine wpAnyH_ready (rs := [2]) (by kernel_rfl) (by simp) ?_
    refine AllReadyH.cons rfl (fun K hK => ?_) AllReadyH.nil
    go_simp
    refine hK.out _ _ (unhide KP _ (gx1.more _)) (fun hH2 => ?_)
    clear hK K
    try simp only [Act.put, List.getElem_toArray, List.getElem_cons_succ, List.getElem_cons_zero, List.setIfInBounds_toArray, List.set_cons_zero, List.set_cons_succ]
    have hO := unhide OW y1 gx1
    obtain ⟨y2, hy2⟩ : ∃ y, y = y1.alloc (.cells #[.int .i64 B] 3) := ⟨_, rfl⟩
    have g12 : G y1 y2 := by rw [hy2]; exact G.alloc _ _
    rw [← hy2] at hH2 hO ⊢
    clear hy2
    replace hO := hide hO
    refine wpAnyH_ready (rs := [8]) (by kernel_rfl) (by simp) ?_
    refine AllReadyH.cons rfl (fun K hK => ?_) AllReadyH.nil
    obtain ⟨v3, x3, hrun, hL3, hg3⟩ := unhide AP y2 y2 _ (unhide hO) (G.refl _) (gx1.trans g12) v1 ((unhide hL).g g12)
    refine step_app rfl (.tmp 96) (.tmp 101) 55 rfl _ _ rfl rfl _ _ hrun ?_
    refine hK.out _ _ (unhide KP _ hg3) (fun hH3 => ?_)
    clear hK K hrun
    try simp only [Act.put, List.getElem_toArray, List.getElem_cons_succ, List.getElem_cons_zero, List.setIfInBounds_toArray, List.set_cons_zero, List.set_cons_succ]
    refine wpAnyH_take (i := 9) (v := v3) rfl (by kernel_rfl) (by kernel_rfl) (by kernel_rfl) (fun _ _ _ h => h) (Or.inl ⟨by rfl, fun w hSw => by obtain ⟨t0, t1, t2, t3, t4, t5, t6, t7, t8, t9, t10, t11⟩ := hSw; go_simp⟩) (by assumption) ?_
    try simp only [Act.put, List.getElem_toArray, List.getElem_cons_succ, List.getElem_cons_zero, List.setIfInBounds_toArray, List.set_cons_zero, List.set_cons_succ]
    refine wpAnyH_done (by kernel_rfl) (NoPanic.normal ?_) _
    have K : Hid (LTo w (rdP m ⟨21, A, B, C, D⟩) (.returned v3) x3) := hide ⟨v3, rfl, hL3, (unhide GW).trans hg3⟩
    clear hL3 hH3 hg3
    go_wp2_with fail
    refine bodyPost_ret (by simp [results, Tryz.results34, go_sem]; try rfl) rfl ?_
    exact unhide K
set_option maxHeartbeats 2000000 in
theorem reads_24 (w : World) (m : Md) (so : Option Addr) (sc : Nat) (go : Option Addr) (gc : Nat) (co : Option Addr) (cc : Nat) (ao : Option Addr) (ac : Nat) (fo : Option Addr) (fc : Nat) (A B C D : Int) : Calls Tryz.prog 34 #[agM m so sc go gc co cc ao ac fo fc, agI ⟨24, A, B, C, D⟩] w (LTo w (rdP m ⟨24, A, B, C, D⟩)) := by
  obtain ⟨W2, hW2⟩ : ∃ W2, W2 = ((w.alloc (.cells #[.slice so m.sh.length sc, .slice go m.gl.length gc, .slice co m.co.length cc, .slice ao m.ca.length ac, .slice fo m.fn.length fc, .int .i64 m.main] 33)).alloc (.cells #[.int .i64 24, .int .i64 A, .int .i64 B, .int .i64 C, .int .i64 D] 41)) := ⟨_, rfl⟩
  have gW : G w W2 := by rw [hW2]; exact (G.alloc _ _).more _
  have KP : Hid (∀ x, G W2 x → G W2 x ∧ x.cell? ⟨w.heap.size, 0, none⟩ = some (.slice so m.sh.length sc) ∧ x.cell? ⟨w.heap.size, 1, none⟩ = some (.slice go m.gl.length gc) ∧ x.cell? ⟨w.heap.size, 2, none⟩ = some (.slice co m.co.length cc) ∧ x.cell? ⟨w.heap.size, 3, none⟩ = some (.slice ao m.ca.length ac) ∧ x.cell? ⟨w.heap.size, 4, none⟩ = some (.slice fo m.fn.length fc) ∧ x.cell? ⟨w.heap.size, 5, none⟩ = some (.int .i64 m.main) ∧ x.cell? ⟨w.heap.size + 1, 0, none⟩ = some (.int .i64 24) ∧ x.cell? ⟨w.heap.size + 1, 1, none⟩ = some (.int .i64 A) ∧ x.cell? ⟨w.heap.size + 1, 2, none⟩ = some (.int .i64 B) ∧ x.cell? ⟨w.heap.size + 1, 3, none⟩ = some (.int .i64 C) ∧ x.cell? ⟨w.heap.size + 1, 4, none⟩ = some (.int .i64 D)) := hide fun x g => ⟨g, g.cell (by rw [hW2]; simp [go_sem]), g.cell (by rw [hW2]; simp [go_sem]), g.cell (by rw [hW2]; simp [go_sem]), g.cell (by rw [hW2]; simp [go_sem]), g.cell (by rw [hW2]; simp [go_sem]), g.cell (by rw [hW2]; simp [go_sem]), g.cell (by rw [hW2]; simp [go_sem]), g.cell (by rw [hW2]; simp [go_sem]), g.cell (by rw [hW2]; simp [go_sem]), g.cell (by rw [hW2]; simp [go_sem]), g.cell (by rw [hW2]; simp [go_sem])⟩
  have GW := hide gW
  have CS := hide (fun x => slots_any x B C)
  have AP : Hid (∀ y x2 u, OwnL y W2.heap.size u [A] → G y x2 → G W2 x2 → ∀ v1, IsL x2 v1 (runP B C) → ∃ v' x3, (Builtin.append_ #[55, 55] 55 #[u, v1]).run Tryz.prog x2 = .ok v' x3 ∧ IsL x3 v' (rdP m ⟨24, A, B, C, D⟩) ∧ G W2 x3) := hide (fun y x2 u hO gy g2 v1 hv => by
    have hlen : (runP B C).length ≤ 64 := by unfold runP; split; simp; rw [runN_len]; omega
    obtain ⟨v', x3, r1, r2, r3⟩ := own_app (own_kept hO (fun q _ hq => gy.block q hq)) g2.size hv (by simp; omega)
    exact ⟨v', x3, r1, r2.isl, ⟨r3.os.trans g2.os, r3.tape.trans g2.tape, r3.output.trans g2.output, Nat.le_trans g2.size r3.size, fun q hq => (r3.block q hq).trans (g2.block q hq)⟩⟩)
  have OW : Hid (∀ y, G W2 y → OwnL (y.alloc (.cells #[.int .i64 A] 3)) W2.heap.size (.slice (some ⟨y.heap.size, 0, none⟩) 1 1) [A]) := hide (fun y gy => World.ownsRow_lit y #[.int .i64 A] 1 gy.size (by unfold maxLen; decide) rfl)
  clear gW
  unfold agM agI
  go_enter Tryz.func34, Tryz.ntmps34
  go_wp2_with fail
  rw [← hW2]
  clear hW2
  refine wp_region_noPanic ?_
  refine wp_region_held_drew (S := fun x => G W2 x ∧ x.cell? ⟨w.heap.size, 0, none⟩ = some (.slice so m.sh.length sc) ∧ x.cell? ⟨w.heap.size, 1, none⟩ = some (.slice go m.gl.length gc) ∧ x.cell? ⟨w.heap.size, 2, none⟩ = some (.slice co m.co.length cc) ∧ x.cell? ⟨w.heap.size, 3, none⟩ = some (.slice ao m.ca.length ac) ∧ x.cell? ⟨w.heap.size, 4, none⟩ = some (.slice fo m.fn.length fc) ∧ x.cell? ⟨w.heap.size, 5, none⟩ = some (.int .i64 m.main) ∧ x.cell? ⟨w.heap.size + 1, 0, none⟩ = some (.int .i64 24) ∧ x.cell? ⟨w.heap.size + 1, 1, none⟩ = some (.int .i64 A) ∧ x.cell? ⟨w.heap.size + 1, 2, none⟩ = some (.int .i64 B) ∧ x.cell? ⟨w.heap.size + 1, 3, none⟩ = some (.int .i64 C) ∧ x.cell? ⟨w.heap.size + 1, 4, none⟩ = some (.int .i64 D)) (by kernel_rfl) (unhide KP _ (G.refl W2).drew) (fun hHeld => ?_)
  obtain ⟨y0, hy0⟩ : ∃ y, y = W2.drew := ⟨_, rfl⟩
  rw [← hy0] at hHeld ⊢
  clear hy0
  refine wpAnyH_take (i := 0) (v := .pointer (some ⟨w.heap.size + 1, 1, none⟩)) rfl (by kernel_rfl) (by kernel_rfl) (by kernel_rfl) (fun _ _ _ h => h) (Or.inl ⟨by rfl, fun w hSw => by obtain ⟨t0, t1, t2, t3, t4, t5, t6, t7, t8, t9, t10, t11⟩ := hSw; go_simp⟩) (by assumption) ?_
  try simp only [Act.put, List.getElem_toArray, List.getElem_cons_zero, List.setIfInBounds_toArray, List.set_cons_zero, List.set_cons_succ]
  refine wpAnyH_take (i := 1) (v := .int .i64 A) rfl (by kernel_rfl) (by kernel_rfl) (by kernel_rfl) (fun _ _ _ h => h) (Or.inl ⟨by rfl, fun w hSw => by obtain ⟨t0, t1, t2, t3, t4, t5, t6, t7, t8, t9, t10, t11⟩ := hSw; go_simp⟩) (by assumption) ?_
  try simp only [Act.put, List.getElem_toArray, List.getElem_cons_succ, List.getElem_cons_zero, List.setIfInBounds_toArray, List.set_cons_zero, List.set_cons_succ]
  refine wpAnyH_take (i := 3) (v := .pointer (some ⟨w.heap.size + 1, 2, none⟩)) rfl (by kernel_rfl) (by kernel_rfl) (by kernel_rfl) (fun _ _ _ h => h) (Or.inl ⟨by rfl, fun w hSw => by obtain ⟨t0, t1, t2, t3, t4, t5, t6, t7, t8, t9, t10, t11⟩ := hSw; go_simp⟩) (by assumption) ?_
  try simp only [Act.put, List.getElem_toArray, List.getElem_cons_succ, List.getElem_cons_zero, List.setIfInBounds_toArray, List.set_cons_zero, List.set_cons_succ]
  refine wpAnyH_take (i := 4) (v := .int .i64 B) rfl (by kernel_rfl) (by kernel_rfl) (by kernel_rfl) (fun _ _ _ h => h) (Or.inl ⟨by rfl, fun w hSw => by obtain ⟨t0, t1, t2, t3, t4, t5, t6, t7, t8, t9, t10, t11⟩ := hSw; go_simp⟩) (by assumption) ?_
  try simp only [Act.put, List.getElem_toArray, List.getElem_cons_succ, List.getElem_cons_zero, List.setIfInBounds_toArray, List.set_cons_zero, List.set_cons_succ]
  refine wpAnyH_take (i := 5) (v := .pointer (some ⟨w.heap.size + 1, 3, none⟩)) rfl (by kernel_rfl) (by kernel_rfl) (by kernel_rfl) (fun _ _ _ h => h) (Or.inl ⟨by rfl, fun w hSw => by obtain ⟨t0, t1, t2, t3, t4, t5, t6, t7, t8, t9, t10, t11⟩ := hSw; go_simp⟩) (by assumption) ?_
  try simp only [Act.put, List.getElem_toArray, List.getElem_cons_succ, List.getElem_cons_zero, List.setIfInBounds_toArray, List.set_cons_zero, List.set_cons_succ]
  refine wpAnyH_take (i := 6) (v := .int .i64 C) rfl (by kernel_rfl) (by kernel_rfl) (by kernel_rfl) (fun _ _ _ h => h) (Or.inl ⟨by rfl, fun w hSw => by obtain ⟨t0, t1, t2, t3, t4, t5, t6, t7, t8, t9, t10, t11⟩ := hSw; go_simp⟩) (by assumption) ?_
  try simp only [Act.put, List.getElem_toArray, List.getElem_cons_succ, List.getElem_cons_zero, List.setIfInBounds_toArray, List.set_cons_zero, List.set_cons_succ]
  refine wpAnyH_ready (rs := [2, 7]) (by kernel_rfl) (by simp) ?_
  refine AllReadyH.cons rfl (fun K hK => ?_) (AllReadyH.cons rfl (fun K hK => ?_) AllReadyH.nil)
  · go_simp
    refine hK.out _ _ (unhide KP _ (hHeld.1.more _)) (fun hH1 => ?_)
    clear hK K
    try simp only [Act.put, List.getElem_toArray, List.getElem_cons_succ, List.getElem_cons_zero, List.setIfInBounds_toArray, List.set_cons_zero, List.set_cons_succ]
    have hO := unhide OW y0 hHeld.1
    obtain ⟨y1, hy1⟩ : ∃ y, y = y0.alloc (.cells #[.int .i64 A] 3) := ⟨_, rfl⟩
    rw [← hy1] at hH1 hO ⊢
    clear hy1
    replace hO := hide hO
    refine wpAnyH_ready (rs := [7]) (by kernel_rfl) (by simp) ?_
    refine AllReadyH.cons rfl (fun K hK => ?_) AllReadyH.nil
    go_simp
    refine (unhide CS _).mono ?_
    rintro e y2 ⟨v1, rfl, hL, hg2⟩
    go_wp2_with fail
    have gx2 := hH1.1.trans hg2
    refine hK.out _ _ (unhide KP _ gx2) (fun hH2 => ?_)
    clear hK K
    try simp only [Act.put, List.getElem_toArray, List.getElem_cons_succ, List.getElem_cons_zero, List.setIfInBounds_toArray, List.set_cons_zero, List.set_cons_succ]
    replace hL := hide hL
    refine wpAnyH_ready (rs := [8]) (by kernel_rfl) (by simp) ?_
    refine AllReadyH.cons rfl (fun K hK => ?_) AllReadyH.nil
    obtain ⟨v3, x3, hrun, hL3, hg3⟩ := unhide AP y1 y2 _ (unhide hO) hg2 gx2 v1 (unhide hL)
    refine step_app rfl (.tmp 117) (.tmp 122) 55 rfl _ _ rfl rfl _ _ hrun ?_
    refine hK.out _ _ (unhide KP _ hg3) (fun hH3 => ?_)
    clear hK K hrun
    try simp only [Act.put, List.getElem_toArray, List.getElem_cons_succ, List.getElem_cons_zero, List.setIfInBounds_toArray, List.set_cons_zero, List.set_cons_succ]
    refine wpAnyH_take (i := 9) (v := v3) rfl (by kernel_rfl) (by kernel_rfl) (by kernel_rfl) (fun _ _ _ h => h) (Or.inl ⟨by rfl, fun w hSw => by obtain ⟨t0, t1, t2, t3, t4, t5, t6, t7, t8, t9, t10, t11⟩ := hSw; go_simp⟩) (by assumption) ?_
    try simp only [Act.put, List.getElem_toArray, List.getElem_cons_succ, List.getElem_cons_zero, List.setIfInBounds_toArray, List.set_cons_zero, List.set_cons_succ]
    refine wpAnyH_done (by kernel_rfl) (NoPanic.normal ?_) _
    have K : Hid (LTo w (rdP m ⟨24, A, B, C, D⟩) (.returned v3) x3) := hide ⟨v3, rfl, hL3, (unhide GW).trans hg3⟩
    clear hL3 hH3 hg3
    go_wp2_with fail
    refine bodyPost_ret (by simp [results, Tryz.results34, go_sem]; try rfl) rfl ?_
    exact unhide K
  · go_simp
    refine (unhide CS _).mono ?_
    rintro e y1 ⟨v1, rfl, hL, hg1⟩
    go_wp2_with fail
    have gx1 := hHeld.1.trans hg1
    refine hK.out _ _ (unhide KP _ gx1) (fun hH1 => ?_)
    clear hK K
    try simp only [Act.put, List.getElem_toArray, List.getElem_cons_succ, List.getElem_cons_zero, List.setIfInBounds_toArray, List.set_cons_zero, List.set_cons_succ]
    replace hL := hide hL
    refine wpAnyH_ready (rs := [2]) (by kernel_rfl) (by simp) ?_
    refine AllReadyH.cons rfl (fun K hK => ?_) AllReadyH.nil
    go_simp
    refine hK.out _ _ (unhide KP _ (gx1.more _)) (fun hH2 => ?_)
    clear hK K
    try simp only [Act.put, List.getElem_toArray, List.getElem_cons_succ, List.getElem_cons_zero, List.setIfInBounds_toArray, List.set_cons_zero, List.set_cons_succ]
    have hO := unhide OW y1 gx1
    obtain ⟨y2, hy2⟩ : ∃ y, y = y1.alloc (.cells #[.int .i64 A] 3) := ⟨_, rfl⟩
    have g12 : G y1 y2 := by rw [hy2]; exact G.alloc _ _
    rw [← hy2] at hH2 hO ⊢
    clear hy2
    replace hO := hide hO
    refine wpAnyH_ready (rs := [8]) (by kernel_rfl) (by simp) ?_
    refine AllReadyH.cons rfl (fun K hK => ?_) AllReadyH.nil
    obtain ⟨v3, x3, hrun, hL3, hg3⟩ := unhide AP y2 y2 _ (unhide hO) (G.refl _) (gx1.trans g12) v1 ((unhide hL).g g12)
    refine step_app rfl (.tmp 117) (.tmp 122) 55 rfl _ _ rfl rfl _ _ hrun ?_
    refine hK.out _ _ (unhide KP _ hg3) (fun hH3 => ?_)
    clear hK K hrun
    try simp only [Act.put, List.getElem_toArray, List.getElem_cons_succ, List.getElem_cons_zero, List.setIfInBounds_toArray, List.set_cons_zero, List.set_cons_succ]
    refine wpAnyH_take (i := 9) (v := v3) rfl (by kernel_rfl) (by kernel_rfl) (by kernel_rfl) (fun _ _ _ h => h) (Or.inl ⟨by rfl, fun w hSw => by obtain ⟨t0, t1, t2, t3, t4, t5, t6, t7, t8, t9, t10, t11⟩ := hSw; go_simp⟩) (by assumption) ?_
    try simp only [Act.put, List.getElem_toArray, List.getElem_cons_succ, List.getElem_cons_zero, List.setIfInBounds_toArray, List.set_cons_zero, List.set_cons_succ]
    refine wpAnyH_done (by kernel_rfl) (NoPanic.normal ?_) _
    have K : Hid (LTo w (rdP m ⟨24, A, B, C, D⟩) (.returned v3) x3) := hide ⟨v3, rfl, hL3, (unhide GW).trans hg3⟩
    clear hL3 hH3 hg3
    go_wp2_with fail
    refine bodyPost_ret (by simp [results, Tryz.results34, go_sem]; try rfl) rfl ?_
    exact unhide K
set_option maxHeartbeats 1000000 in
theorem reads_22 (w : World) (m : Md) (so : Option Addr) (sc : Nat) (go : Option Addr) (gc : Nat) (co : Option Addr) (cc : Nat) (ao : Option Addr) (ac : Nat) (fo : Option Addr) (fc : Nat) (A B C D : Int) : Calls Tryz.prog 34 #[agM m so sc go gc co cc ao ac fo fc, agI ⟨22, A, B, C, D⟩] w (LTo w (rdP m ⟨22, A, B, C, D⟩)) := by
  have CN := hide (fun x v (hv : IsL x v [A]) => named_any x v [A] hv (by simp))
  have OW : Hid (∀ y : World, IsL (y.alloc (.cells #[.int .i64 A] 3)) (.slice (some ⟨y.heap.size, 0, none⟩) 1 1) [A]) := hide (fun y => isl_new y [A] (by show 1 ≤ maxLen; decide))
  have FI : Hid (rdP m ⟨22, A, B, C, D⟩ = [A].filter (fun s => s != -1)) := hide (by rfl)
  obtain ⟨W2, hW2⟩ : ∃ W2, W2 = ((w.alloc (.cells #[.slice so m.sh.length sc, .slice go m.gl.length gc, .slice co m.co.length cc, .slice ao m.ca.length ac, .slice fo m.fn.length fc, .int .i64 m.main] 33)).alloc (.cells #[.int .i64 22, .int .i64 A, .int .i64 B, .int .i64 C, .int .i64 D] 41)) := ⟨_, rfl⟩
  have gW : Hid (G w W2) := hide (by rw [hW2]; exact (G.alloc _ _).more _)
  have hc : W2.cell? ⟨w.heap.size + 1, 1, none⟩ = some (.int .i64 A) := by rw [hW2]; simp [go_sem]
  unfold agM agI
  go_enter Tryz.func34, Tryz.ntmps34
  go_upto_region 41 with fail
  rw [← hW2]
  clear hW2
  go_wp2_with fail
  refine (unhide CN _ _ (unhide OW W2)).mono ?_
  rintro e x2 ⟨v2, rfl, hL, hg2⟩
  have K : Hid (LTo w (rdP m ⟨22, A, B, C, D⟩) (.returned v2) x2) := hide (by rw [unhide FI]; exact ⟨v2, rfl, hL, ((unhide gW).more _).trans hg2⟩)
  clear hL hc
  go_wp2_with fail
  refine bodyPost_ret (by simp [results, Tryz.results34, go_sem]; try rfl) rfl ?_
  exact unhide K
set_option maxHeartbeats 1000000 in
theorem reads_41 (w : World) (m : Md) (so : Option Addr) (sc : Nat) (go : Option Addr) (gc : Nat) (co : Option Addr) (cc : Nat) (ao : Option Addr) (ac : Nat) (fo : Option Addr) (fc : Nat) (h : ModR w m so sc go gc co cc ao ac fo fc) (A B C D : Int) (oA : oI A) (hn : m.ca.length ≤ 1000000) : Calls Tryz.prog 34 #[agM m so sc go gc co cc ao ac fo fc, agI ⟨41, A, B, C, D⟩] w (LTo w (rdP m ⟨41, A, B, C, D⟩)) := by
  obtain ⟨W2, hW2⟩ : ∃ W2, W2 = ((w.alloc (.cells #[.slice so m.sh.length sc, .slice go m.gl.length gc, .slice co m.co.length cc, .slice ao m.ca.length ac, .slice fo m.fn.length fc, .int .i64 m.main] 33)).alloc (.cells #[.int .i64 41, .int .i64 A, .int .i64 B, .int .i64 C, .int .i64 D] 41)) := ⟨_, rfl⟩
  have gW : G w W2 := by rw [hW2]; exact (G.alloc _ _).more _
  have CO := hide (casesOf_any W2 m so sc go gc co cc ao ac fo fc (h.g gW) ⟨41, A, B, C, D⟩ oA)
  have FI : Hid (rdP m ⟨41, A, B, C, D⟩ = (casesP m A B).flatMap crP) := hide (by rfl)
  have HL : Hid ((casesP m A B).length ≤ 1000000) := hide (by unfold casesP; split; simp; rw [List.length_take, List.length_drop]; omega)
  have GW := hide gW
  have m0 : W2.cell? ⟨w.heap.size, 0, none⟩ = some (.slice so m.sh.length sc) := by rw [hW2]; simp [go_sem]
  have m1 : W2.cell? ⟨w.heap.size, 1, none⟩ = some (.slice go m.gl.length gc) := by rw [hW2]; simp [go_sem]
  have m2 : W2.cell? ⟨w.heap.size, 2, none⟩ = some (.slice co m.co.length cc) := by rw [hW2]; simp [go_sem]
  have m3 : W2.cell? ⟨w.heap.size, 3, none⟩ = some (.slice ao m.ca.length ac) := by rw [hW2]; simp [go_sem]
  have m4 : W2.cell? ⟨w.heap.size, 4, none⟩ = some (.slice fo m.fn.length fc) := by rw [hW2]; simp [go_sem]
  have m5 : W2.cell? ⟨w.heap.size, 5, none⟩ = some (.int .i64 m.main) := by rw [hW2]; simp [go_sem]
  have i0 : W2.cell? ⟨w.heap.size + 1, 0, none⟩ = some (.int .i64 41) := by rw [hW2]; simp [go_sem]
  have i1 : W2.cell? ⟨w.heap.size + 1, 1, none⟩ = some (.int .i64 A) := by rw [hW2]; simp [go_sem]
  have i2 : W2.cell? ⟨w.heap.size + 1, 2, none⟩ = some (.int .i64 B) := by rw [hW2]; simp [go_sem]
  have i3 : W2.cell? ⟨w.heap.size + 1, 3, none⟩ = some (.int .i64 C) := by rw [hW2]; simp [go_sem]
  have i4 : W2.cell? ⟨w.heap.size + 1, 4, none⟩ = some (.int .i64 D) := by rw [hW2]; simp [go_sem]
  clear h gW hn oA
  unfold agM agI at CO
  unfold agM agI
  go_enter Tryz.func34, Tryz.ntmps34
  go_upto_region 53 with fail
  rw [← hW2]
  clear hW2
  go_wp2_with fail
  refine (unhide CO).mono ?_
  rintro e x1 ⟨qo, qc, rfl, hr, hg1⟩
  have CR := hide (casesRead_any x1 qo _ qc _ hr (unhide HL))
  replace hg1 := hide hg1
  clear CO hr m0 m1 m2 m3 m4 m5 i0 i1 i2 i3 i4
  go_wp2_with fail
  refine (unhide CR).mono ?_
  rintro e x2 ⟨v2, rfl, hL, hg2⟩
  have K : Hid (LTo w (rdP m ⟨41, A, B, C, D⟩) (.returned v2) x2) := hide (by rw [unhide FI]; exact ⟨v2, rfl, hL, ((unhide GW).trans (unhide hg1)).trans hg2⟩)
  clear hL CR
  go_wp2_with fail
  refine bodyPost_ret (by simp [results, Tryz.results34, go_sem]; try rfl) rfl ?_
  exact unhide K
def rdOps : List Int := [1, 17, 27, 33, 35, 39, 3, 4, 5, 6, 7, 8, 9, 10, 11, 12, 13, 14, 15, 16, 30, 19, 40, 42, 26, 37, 28, 29, 31, 32, 38, 22, 20, 21, 23, 24, 36, 41]
set_option maxHeartbeats 4000000 in
theorem reads_none (w : World) (m : Md) (so : Option Addr) (sc : Nat) (go : Option Addr) (gc : Nat) (co : Option Addr) (cc : Nat) (ao : Option Addr) (ac : Nat) (fo : Option Addr) (fc : Nat) (op A B C D : Int) (hop : op ∉ rdOps) : Calls Tryz.prog 34 #[agM m so sc go gc co cc ao ac fo fc, agI ⟨op, A, B, C, D⟩] w (LTo w (rdP m ⟨op, A, B, C, D⟩)) := by
  have hq : ∀ k ∈ rdOps, (op == k) = false := fun k hk => beq_eq_false_iff_ne.2 (fun e => hop (e ▸ hk))
  have FI : rdP m ⟨op, A, B, C, D⟩ = [] := by
    have hn : ∀ k ∈ rdOps, op ≠ k := fun k hk e => hop (e ▸ hk)
    unfold rdP
    simp only [rdOps, List.forall_mem_cons] at hn
    simp [hn]
  have K : Hid (∀ x, G w x → LTo w (rdP m ⟨op, A, B, C, D⟩) (.returned (.slice none 0 0)) x) := hide (fun x g => by rw [FI]; exact ⟨_, rfl, isl_nil x, g⟩)
  have q1 : (op == 1) = false := hq 1 (by decide)
  have q17 : (op == 17) = false := hq 17 (by decide)
  have q27 : (op == 27) = false := hq 27 (by decide)
  have q33 : (op == 33) = false := hq 33 (by decide)
  have q35 : (op == 35) = false := hq 35 (by decide)
  have q39 : (op == 39) = false := hq 39 (by decide)
  have q3 : (op == 3) = false := hq 3 (by decide)
  have q4 : (op == 4) = false := hq 4 (by decide)
  have q5 : (op == 5) = false := hq 5 (by decide)
  have q6 : (op == 6) = false := hq 6 (by decide)
  have q7 : (op == 7) = false := hq 7 (by decide)
  have q8 : (op == 8) = false := hq 8 (by decide)
  have q9 : (op == 9) = false := hq 9 (by decide)
  have q10 : (op == 10) = false := hq 10 (by decide)
  have q11 : (op == 11) = false := hq 11 (by decide)
  have q12 : (op == 12) = false := hq 12 (by decide)
  have q13 : (op == 13) = false := hq 13 (by decide)
  have q14 : (op == 14) = false := hq 14 (by decide)
  have q15 : (op == 15) = false := hq 15 (by decide)
  have q16 : (op == 16) = false := hq 16 (by decide)
  have q30 : (op == 30) = false := hq 30 (by decide)
  have q19 : (op == 19) = false := hq 19 (by decide)
  have q40 : (op == 40) = false := hq 40 (by decide)
  have q42 : (op == 42) = false := hq 42 (by decide)
  have q26 : (op == 26) = false := hq 26 (by decide)
  have q37 : (op == 37) = false := hq 37 (by decide)
  have q28 : (op == 28) = false := hq 28 (by decide)
  have q29 : (op == 29) = false := hq 29 (by decide)
  have q31 : (op == 31) = false := hq 31 (by decide)
  have q32 : (op == 32) = false := hq 32 (by decide)
  have q38 : (op == 38) = false := hq 38 (by decide)
  have q22 : (op == 22) = false := hq 22 (by decide)
  have q20 : (op == 20) = false := hq 20 (by decide)
  have q21 : (op == 21) = false := hq 21 (by decide)
  have q23 : (op == 23) = false := hq 23 (by decide)
  have q24 : (op == 24) = false := hq 24 (by decide)
  have q36 : (op == 36) = false := hq 36 (by decide)
  have q41 : (op == 41) = false := hq 41 (by decide)
  clear hq FI hop
  unfold agM agI
  go_enter Tryz.func34, Tryz.ntmps34
  go_wp2_with fail
  refine bodyPost_ret (by simp [results, Tryz.results34, go_sem]; try rfl) rfl ?_
  exact unhide K _ ((G.alloc _ _).more _)
theorem reads_any (w : World) (m : Md) (so : Option Addr) (sc : Nat) (go : Option Addr) (gc : Nat) (co : Option Addr) (cc : Nat) (ao : Option Addr) (ac : Nat) (fo : Option Addr) (fc : Nat) (h : ModR w m so sc go gc co cc ao ac fo fc) (i : In) (oA : oI i.a) (hn : m.ca.length ≤ 1000000) : Calls Tryz.prog 34 #[agM m so sc go gc co cc ao ac fo fc, agI i] w (LTo w (rdP m i)) := by
  obtain ⟨op, A, B, C, D⟩ := i
  by_cases hop : op ∈ rdOps
  · simp only [rdOps, List.mem_cons, List.not_mem_nil, or_false] at hop
    rcases hop with rfl | rfl | rfl | rfl | rfl | rfl | rfl | rfl | rfl | rfl | rfl | rfl | rfl | rfl | rfl | rfl | rfl | rfl | rfl | rfl | rfl | rfl | rfl | rfl | rfl | rfl | rfl | rfl | rfl | rfl | rfl | rfl | rfl | rfl | rfl | rfl | rfl | rfl
    · exact reads_1 w m so sc go gc co cc ao ac fo fc A B C D
    · exact reads_17 w m so sc go gc co cc ao ac fo fc A B C D
    · exact reads_27 w m so sc go gc co cc ao ac fo fc A B C D
    · exact reads_33 w m so sc go gc co cc ao ac fo fc A B C D
    · exact reads_35 w m so sc go gc co cc ao ac fo fc A B C D
    · exact reads_39 w m so sc go gc co cc ao ac fo fc A B C D
    · exact reads_3 w m so sc go gc co cc ao ac fo fc A B C D
    · exact reads_4 w m so sc go gc co cc ao ac fo fc A B C D
    · exact reads_5 w m so sc go gc co cc ao ac fo fc A B C D
    · exact reads_6 w m so sc go gc co cc ao ac fo fc A B C D
    · exact reads_7 w m so sc go gc co cc ao ac fo fc A B C D
    · exact reads_8 w m so sc go gc co cc ao ac fo fc A B C D
    · exact reads_9 w m so sc go gc co cc ao ac fo fc A B C D
    · exact reads_10 w m so sc go gc co cc ao ac fo fc A B C D
    · exact reads_11 w m so sc go gc co cc ao ac fo fc A B C D
    · exact reads_12 w m so sc go gc co cc ao ac fo fc A B C D
    · exact reads_13 w m so sc go gc co cc ao ac fo fc A B C D
    · exact reads_14 w m so sc go gc co cc ao ac fo fc A B C D
    · exact reads_15 w m so sc go gc co cc ao ac fo fc A B C D
    · exact reads_16 w m so sc go gc co cc ao ac fo fc A B C D
    · exact reads_30 w m so sc go gc co cc ao ac fo fc A B C D
    · exact reads_19 w m so sc go gc co cc ao ac fo fc A B C D
    · exact reads_40 w m so sc go gc co cc ao ac fo fc A B C D
    · exact reads_42 w m so sc go gc co cc ao ac fo fc A B C D
    · exact reads_26 w m so sc go gc co cc ao ac fo fc A B C D
    · exact reads_37 w m so sc go gc co cc ao ac fo fc A B C D
    · exact reads_28 w m so sc go gc co cc ao ac fo fc A B C D
    · exact reads_29 w m so sc go gc co cc ao ac fo fc A B C D
    · exact reads_31 w m so sc go gc co cc ao ac fo fc A B C D
    · exact reads_32 w m so sc go gc co cc ao ac fo fc A B C D
    · exact reads_38 w m so sc go gc co cc ao ac fo fc A B C D
    · exact reads_22 w m so sc go gc co cc ao ac fo fc A B C D
    · exact reads_20 w m so sc go gc co cc ao ac fo fc h A B C D
    · exact reads_21 w m so sc go gc co cc ao ac fo fc A B C D
    · exact reads_23 w m so sc go gc co cc ao ac fo fc h A B C D
    · exact reads_24 w m so sc go gc co cc ao ac fo fc A B C D
    · exact reads_36 w m so sc go gc co cc ao ac fo fc h A B C D
    · exact reads_41 w m so sc go gc co cc ao ac fo fc h A B C D oA hn
  · exact reads_none w m so sc go gc co cc ao ac fo fc op A B C D hop
end Go.Proofs.YtnliooflpclcbaaGreatDoor
