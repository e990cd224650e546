/- The document's own Reads: runs and closures. -/
import Derived.Test.YtpbeafgfhnlmbaaLiveDRd1
import Derived.Test.YtpbeafgfhnlmbaaLiveRD
import Derived.Test.YtpbeafgfhnlmbaaLiveRC
import Derived.Test.YtpbeafgfhnlmbaaLiveInts
namespace Go.Proofs.Ytpbeafgfhnlmbaa
set_option maxRecDepth 100000
open Go.RowKit Go.Maps Go.ChangeShapes Go.WideShapes Go.ChangeAt Go.Deep

theorem fldR0 (x0 x1 x2 x3 x4 x5 x6 : Value) (w : World) : (Instr.field 52 (.agg #[x0, x1, x2, x3, x4, x5, x6]) 0).run Try.prog w = .ok x0 w := by kernel_rfl
theorem fldR1 (x0 x1 x2 x3 x4 x5 x6 : Value) (w : World) : (Instr.field 52 (.agg #[x0, x1, x2, x3, x4, x5, x6]) 1).run Try.prog w = .ok x1 w := by kernel_rfl

set_option maxHeartbeats 2000000 in
theorem rreads_20 (w : World) (m : Md) (so : Option Addr) (sc : Nat) (go : Option Addr) (gc : Nat) (co : Option Addr) (cc : Nat) (ao : Option Addr) (ac : Nat) (fo : Option Addr) (fc : Nat) (h : ModR w m so sc go gc co cc ao ac fo fc) (A B C D : Int) : Calls Try.prog 17 #[agM m so sc go gc co cc ao ac fo fc, agI ⟨20, A, B, C, D⟩] w (LTo w (rdP m ⟨20, A, B, C, D⟩)) := by
  obtain ⟨W2, hW2⟩ : ∃ W2, W2 = ((w.alloc (.cells #[.slice so m.sh.length sc, .slice go m.gl.length gc, .slice co m.co.length cc, .slice ao m.ca.length ac, .slice fo m.fn.length fc, .int .i64 m.main] 48)).alloc (.cells #[.int .i64 20, .int .i64 A, .int .i64 B, .int .i64 C, .int .i64 D] 54)) := ⟨_, rfl⟩
  have gW : G w W2 := by rw [hW2]; exact (G.alloc _ _).more _
  have KP : Hid (∀ x, G W2 x → G W2 x ∧ x.cell? ⟨w.heap.size, 0, none⟩ = some (.slice so m.sh.length sc) ∧ x.cell? ⟨w.heap.size, 1, none⟩ = some (.slice go m.gl.length gc) ∧ x.cell? ⟨w.heap.size, 2, none⟩ = some (.slice co m.co.length cc) ∧ x.cell? ⟨w.heap.size, 3, none⟩ = some (.slice ao m.ca.length ac) ∧ x.cell? ⟨w.heap.size, 4, none⟩ = some (.slice fo m.fn.length fc) ∧ x.cell? ⟨w.heap.size, 5, none⟩ = some (.int .i64 m.main) ∧ x.cell? ⟨w.heap.size + 1, 0, none⟩ = some (.int .i64 20) ∧ x.cell? ⟨w.heap.size + 1, 1, none⟩ = some (.int .i64 A) ∧ x.cell? ⟨w.heap.size + 1, 2, none⟩ = some (.int .i64 B) ∧ x.cell? ⟨w.heap.size + 1, 3, none⟩ = some (.int .i64 C) ∧ x.cell? ⟨w.heap.size + 1, 4, none⟩ = some (.int .i64 D)) := hide fun x g => ⟨g, g.cell (by rw [hW2]; simp [go_sem]), g.cell (by rw [hW2]; simp [go_sem]), g.cell (by rw [hW2]; simp [go_sem]), g.cell (by rw [hW2]; simp [go_sem]), g.cell (by rw [hW2]; simp [go_sem]), g.cell (by rw [hW2]; simp [go_sem]), g.cell (by rw [hW2]; simp [go_sem]), g.cell (by rw [hW2]; simp [go_sem]), g.cell (by rw [hW2]; simp [go_sem]), g.cell (by rw [hW2]; simp [go_sem]), g.cell (by rw [hW2]; simp [go_sem])⟩
  have GW := hide gW
  have CF := hide (fun x (g : G W2 x) => rfn_any x m so sc go gc co cc ao ac fo fc (h.g (gW.trans g)) B)
  have CS := hide (fun x n => rrun_any x C n)
  have FI : Hid (rdP m ⟨20, A, B, C, D⟩ = runP C (fnP m B).p) := hide (by rfl)
  clear h gW
  unfold agM at CF
  unfold agM agI
  go_enter Try.func17, Try.ntmps17
  go_wp2_with fail
  rw [← hW2]
  clear hW2
  refine wp_region_noPanic ?_
  refine wp_region_held_drew (S := fun x => G W2 x ∧ x.cell? ⟨w.heap.size, 0, none⟩ = some (.slice so m.sh.length sc) ∧ x.cell? ⟨w.heap.size, 1, none⟩ = some (.slice go m.gl.length gc) ∧ x.cell? ⟨w.heap.size, 2, none⟩ = some (.slice co m.co.length cc) ∧ x.cell? ⟨w.heap.size, 3, none⟩ = some (.slice ao m.ca.length ac) ∧ x.cell? ⟨w.heap.size, 4, none⟩ = some (.slice fo m.fn.length fc) ∧ x.cell? ⟨w.heap.size, 5, none⟩ = some (.int .i64 m.main) ∧ x.cell? ⟨w.heap.size + 1, 0, none⟩ = some (.int .i64 20) ∧ x.cell? ⟨w.heap.size + 1, 1, none⟩ = some (.int .i64 A) ∧ x.cell? ⟨w.heap.size + 1, 2, none⟩ = some (.int .i64 B) ∧ x.cell? ⟨w.heap.size + 1, 3, none⟩ = some (.int .i64 C) ∧ x.cell? ⟨w.heap.size + 1, 4, none⟩ = some (.int .i64 D)) (by kernel_rfl) (unhide KP _ (G.refl W2).drew) (fun hHeld => ?_)
  refine wpAnyH_take (i := 0) (v := .pointer (some ⟨w.heap.size + 1, 3, none⟩)) rfl (by kernel_rfl) (by kernel_rfl) (by kernel_rfl) (fun _ _ _ h => h) (Or.inl ⟨by rfl, fun w hSw => by obtain ⟨t0, t1, t2, t3, t4, t5, t6, t7, t8, t9, t10, t11⟩ := hSw; go_simp⟩) (by assumption) ?_
  try simp only [Act.put, List.getElem_toArray, List.getElem_cons_zero, List.setIfInBounds_toArray, List.set_cons_zero, List.set_cons_succ]
  refine wpAnyH_take (i := 1) (v := .int .i64 C) rfl (by kernel_rfl) (by kernel_rfl) (by kernel_rfl) (fun _ _ _ h => h) (Or.inl ⟨by rfl, fun w hSw => by obtain ⟨t0, t1, t2, t3, t4, t5, t6, t7, t8, t9, t10, t11⟩ := hSw; go_simp⟩) (by assumption) ?_
  try simp only [Act.put, List.getElem_toArray, List.getElem_cons_succ, List.getElem_cons_zero, List.setIfInBounds_toArray, List.set_cons_zero, List.set_cons_succ]
  refine wpAnyH_take (i := 2) (v := .agg #[.slice so m.sh.length sc, .slice go m.gl.length gc, .slice co m.co.length cc, .slice ao m.ca.length ac, .slice fo m.fn.length fc, .int .i64 m.main]) rfl (by kernel_rfl) (by kernel_rfl) (by kernel_rfl) (fun _ _ _ h => h) (Or.inl ⟨by rfl, fun w hSw => by obtain ⟨t0, t1, t2, t3, t4, t5, t6, t7, t8, t9, t10, t11⟩ := hSw; go_simp⟩) (by assumption) ?_
  try simp only [Act.put, List.getElem_toArray, List.getElem_cons_succ, List.getElem_cons_zero, List.setIfInBounds_toArray, List.set_cons_zero, List.set_cons_succ]
  refine wpAnyH_take (i := 3) (v := .pointer (some ⟨w.heap.size + 1, 2, none⟩)) rfl (by kernel_rfl) (by kernel_rfl) (by kernel_rfl) (fun _ _ _ h => h) (Or.inl ⟨by rfl, fun w hSw => by obtain ⟨t0, t1, t2, t3, t4, t5, t6, t7, t8, t9, t10, t11⟩ := hSw; go_simp⟩) (by assumption) ?_
  try simp only [Act.put, List.getElem_toArray, List.getElem_cons_succ, List.getElem_cons_zero, List.setIfInBounds_toArray, List.set_cons_zero, List.set_cons_succ]
  refine wpAnyH_take (i := 4) (v := .int .i64 B) rfl (by kernel_rfl) (by kernel_rfl) (by kernel_rfl) (fun _ _ _ h => h) (Or.inl ⟨by rfl, fun w hSw => by obtain ⟨t0, t1, t2, t3, t4, t5, t6, t7, t8, t9, t10, t11⟩ := hSw; go_simp⟩) (by assumption) ?_
  try simp only [Act.put, List.getElem_toArray, List.getElem_cons_succ, List.getElem_cons_zero, List.setIfInBounds_toArray, List.set_cons_zero, List.set_cons_succ]
  refine wpAnyH_ready (rs := [5]) (by kernel_rfl) (by simp) ?_
  refine AllReadyH.cons rfl (fun K hK => ?_) AllReadyH.nil
  go_simp
  refine (unhide CF _ hHeld.1).mono ?_
  rintro e x1 ⟨ko, kc, io, ic, mo, mc, rfl, hg1⟩
  go_wp2_with fail
  have gx1 := hHeld.1.trans hg1
  refine hK.out _ _ (unhide KP _ gx1) (fun hH1 => ?_)
  clear hK K hHeld
  try simp only [Act.put, List.getElem_toArray, List.getElem_cons_succ, List.getElem_cons_zero, List.setIfInBounds_toArray, List.set_cons_zero, List.set_cons_succ]
  refine wpAnyH_take (i := 6) (v := .int .i64 (fnP m B).p) rfl (by kernel_rfl) (by kernel_rfl) (by kernel_rfl) (fun _ _ _ h => h) (Or.inl ⟨by rfl, fun w hSw => by obtain ⟨t0, t1, t2, t3, t4, t5, t6, t7, t8, t9, t10, t11⟩ := hSw; have hf := fldR0; go_simp⟩) (by assumption) ?_
  try simp only [Act.put, List.getElem_toArray, List.getElem_cons_succ, List.getElem_cons_zero, List.setIfInBounds_toArray, List.set_cons_zero, List.set_cons_succ]
  refine wpAnyH_ready (rs := [7]) (by kernel_rfl) (by simp) ?_
  refine AllReadyH.cons rfl (fun K hK => ?_) AllReadyH.nil
  go_simp
  refine (unhide CS _ _).mono ?_
  rintro e x2 ⟨v2, rfl, hL, hg2⟩
  go_wp2_with fail
  have gx2 := gx1.trans hg2
  refine hK.out _ _ (unhide KP _ gx2) (fun hH2 => ?_)
  clear hK K hH1
  try simp only [Act.put, List.getElem_toArray, List.getElem_cons_succ, List.getElem_cons_zero, List.setIfInBounds_toArray, List.set_cons_zero, List.set_cons_succ]
  refine wpAnyH_take (i := 8) (v := v2) rfl (by kernel_rfl) (by kernel_rfl) (by kernel_rfl) (fun _ _ _ h => h) (Or.inl ⟨by rfl, fun w hSw => by obtain ⟨t0, t1, t2, t3, t4, t5, t6, t7, t8, t9, t10, t11⟩ := hSw; go_simp⟩) (by assumption) ?_
  try simp only [Act.put, List.getElem_toArray, List.getElem_cons_succ, List.getElem_cons_zero, List.setIfInBounds_toArray, List.set_cons_zero, List.set_cons_succ]
  refine wpAnyH_done (by kernel_rfl) (NoPanic.normal ?_) _
  have K : Hid (LTo w (rdP m ⟨20, A, B, C, D⟩) (.returned v2) x2) := hide (by rw [unhide FI]; exact ⟨v2, rfl, hL, (unhide GW).trans gx2⟩)
  clear hL hH2 gx1 gx2
  go_wp2_with fail
  refine bodyPost_ret (by simp [results, Try.results17, go_sem]; try rfl) rfl ?_
  exact unhide K
set_option maxHeartbeats 2000000 in
theorem rreads_23 (w : World) (m : Md) (so : Option Addr) (sc : Nat) (go : Option Addr) (gc : Nat) (co : Option Addr) (cc : Nat) (ao : Option Addr) (ac : Nat) (fo : Option Addr) (fc : Nat) (h : ModR w m so sc go gc co cc ao ac fo fc) (A B C D : Int) : Calls Try.prog 17 #[agM m so sc go gc co cc ao ac fo fc, agI ⟨23, A, B, C, D⟩] w (LTo w (rdP m ⟨23, A, B, C, D⟩)) := by
  obtain ⟨W2, hW2⟩ : ∃ W2, W2 = ((w.alloc (.cells #[.slice so m.sh.length sc, .slice go m.gl.length gc, .slice co m.co.length cc, .slice ao m.ca.length ac, .slice fo m.fn.length fc, .int .i64 m.main] 48)).alloc (.cells #[.int .i64 23, .int .i64 A, .int .i64 B, .int .i64 C, .int .i64 D] 54)) := ⟨_, rfl⟩
  have gW : G w W2 := by rw [hW2]; exact (G.alloc _ _).more _
  have KP : Hid (∀ x, G W2 x → G W2 x ∧ x.cell? ⟨w.heap.size, 0, none⟩ = some (.slice so m.sh.length sc) ∧ x.cell? ⟨w.heap.size, 1, none⟩ = some (.slice go m.gl.length gc) ∧ x.cell? ⟨w.heap.size, 2, none⟩ = some (.slice co m.co.length cc) ∧ x.cell? ⟨w.heap.size, 3, none⟩ = some (.slice ao m.ca.length ac) ∧ x.cell? ⟨w.heap.size, 4, none⟩ = some (.slice fo m.fn.length fc) ∧ x.cell? ⟨w.heap.size, 5, none⟩ = some (.int .i64 m.main) ∧ x.cell? ⟨w.heap.size + 1, 0, none⟩ = some (.int .i64 23) ∧ x.cell? ⟨w.heap.size + 1, 1, none⟩ = some (.int .i64 A) ∧ x.cell? ⟨w.heap.size + 1, 2, none⟩ = some (.int .i64 B) ∧ x.cell? ⟨w.heap.size + 1, 3, none⟩ = some (.int .i64 C) ∧ x.cell? ⟨w.heap.size + 1, 4, none⟩ = some (.int .i64 D)) := hide fun x g => ⟨g, g.cell (by rw [hW2]; simp [go_sem]), g.cell (by rw [hW2]; simp [go_sem]), g.cell (by rw [hW2]; simp [go_sem]), g.cell (by rw [hW2]; simp [go_sem]), g.cell (by rw [hW2]; simp [go_sem]), g.cell (by rw [hW2]; simp [go_sem]), g.cell (by rw [hW2]; simp [go_sem]), g.cell (by rw [hW2]; simp [go_sem]), g.cell (by rw [hW2]; simp [go_sem]), g.cell (by rw [hW2]; simp [go_sem]), g.cell (by rw [hW2]; simp [go_sem])⟩
  have GW := hide gW
  have CF := hide (fun x (g : G W2 x) => rfn_any x m so sc go gc co cc ao ac fo fc (h.g (gW.trans g)) A)
  have CS := hide (fun x n => rrun_any x B n)
  have FI : Hid (rdP m ⟨23, A, B, C, D⟩ = runP B (fnP m A).p) := hide (by rfl)
  clear h gW
  unfold agM at CF
  unfold agM agI
  go_enter Try.func17, Try.ntmps17
  go_wp2_with fail
  rw [← hW2]
  clear hW2
  refine wp_region_noPanic ?_
  refine wp_region_held_drew (S := fun x => G W2 x ∧ x.cell? ⟨w.heap.size, 0, none⟩ = some (.slice so m.sh.length sc) ∧ x.cell? ⟨w.heap.size, 1, none⟩ = some (.slice go m.gl.length gc) ∧ x.cell? ⟨w.heap.size, 2, none⟩ = some (.slice co m.co.length cc) ∧ x.cell? ⟨w.heap.size, 3, none⟩ = some (.slice ao m.ca.length ac) ∧ x.cell? ⟨w.heap.size, 4, none⟩ = some (.slice fo m.fn.length fc) ∧ x.cell? ⟨w.heap.size, 5, none⟩ = some (.int .i64 m.main) ∧ x.cell? ⟨w.heap.size + 1, 0, none⟩ = some (.int .i64 23) ∧ x.cell? ⟨w.heap.size + 1, 1, none⟩ = some (.int .i64 A) ∧ x.cell? ⟨w.heap.size + 1, 2, none⟩ = some (.int .i64 B) ∧ x.cell? ⟨w.heap.size + 1, 3, none⟩ = some (.int .i64 C) ∧ x.cell? ⟨w.heap.size + 1, 4, none⟩ = some (.int .i64 D)) (by kernel_rfl) (unhide KP _ (G.refl W2).drew) (fun hHeld => ?_)
  refine wpAnyH_take (i := 0) (v := .pointer (some ⟨w.heap.size + 1, 2, none⟩)) rfl (by kernel_rfl) (by kernel_rfl) (by kernel_rfl) (fun _ _ _ h => h) (Or.inl ⟨by rfl, fun w hSw => by obtain ⟨t0, t1, t2, t3, t4, t5, t6, t7, t8, t9, t10, t11⟩ := hSw; go_simp⟩) (by assumption) ?_
  try simp only [Act.put, List.getElem_toArray, List.getElem_cons_zero, List.setIfInBounds_toArray, List.set_cons_zero, List.set_cons_succ]
  refine wpAnyH_take (i := 1) (v := .int .i64 B) rfl (by kernel_rfl) (by kernel_rfl) (by kernel_rfl) (fun _ _ _ h => h) (Or.inl ⟨by rfl, fun w hSw => by obtain ⟨t0, t1, t2, t3, t4, t5, t6, t7, t8, t9, t10, t11⟩ := hSw; go_simp⟩) (by assumption) ?_
  try simp only [Act.put, List.getElem_toArray, List.getElem_cons_succ, List.getElem_cons_zero, List.setIfInBounds_toArray, List.set_cons_zero, List.set_cons_succ]
  refine wpAnyH_take (i := 2) (v := .agg #[.slice so m.sh.length sc, .slice go m.gl.length gc, .slice co m.co.length cc, .slice ao m.ca.length ac, .slice fo m.fn.length fc, .int .i64 m.main]) rfl (by kernel_rfl) (by kernel_rfl) (by kernel_rfl) (fun _ _ _ h => h) (Or.inl ⟨by rfl, fun w hSw => by obtain ⟨t0, t1, t2, t3, t4, t5, t6, t7, t8, t9, t10, t11⟩ := hSw; go_simp⟩) (by assumption) ?_
  try simp only [Act.put, List.getElem_toArray, List.getElem_cons_succ, List.getElem_cons_zero, List.setIfInBounds_toArray, List.set_cons_zero, List.set_cons_succ]
  refine wpAnyH_take (i := 3) (v := .pointer (some ⟨w.heap.size + 1, 1, none⟩)) rfl (by kernel_rfl) (by kernel_rfl) (by kernel_rfl) (fun _ _ _ h => h) (Or.inl ⟨by rfl, fun w hSw => by obtain ⟨t0, t1, t2, t3, t4, t5, t6, t7, t8, t9, t10, t11⟩ := hSw; go_simp⟩) (by assumption) ?_
  try simp only [Act.put, List.getElem_toArray, List.getElem_cons_succ, List.getElem_cons_zero, List.setIfInBounds_toArray, List.set_cons_zero, List.set_cons_succ]
  refine wpAnyH_take (i := 4) (v := .int .i64 A) rfl (by kernel_rfl) (by kernel_rfl) (by kernel_rfl) (fun _ _ _ h => h) (Or.inl ⟨by rfl, fun w hSw => by obtain ⟨t0, t1, t2, t3, t4, t5, t6, t7, t8, t9, t10, t11⟩ := hSw; go_simp⟩) (by assumption) ?_
  try simp only [Act.put, List.getElem_toArray, List.getElem_cons_succ, List.getElem_cons_zero, List.setIfInBounds_toArray, List.set_cons_zero, List.set_cons_succ]
  refine wpAnyH_ready (rs := [5]) (by kernel_rfl) (by simp) ?_
  refine AllReadyH.cons rfl (fun K hK => ?_) AllReadyH.nil
  go_simp
  refine (unhide CF _ hHeld.1).mono ?_
  rintro e x1 ⟨ko, kc, io, ic, mo, mc, rfl, hg1⟩
  go_wp2_with fail
  have gx1 := hHeld.1.trans hg1
  refine hK.out _ _ (unhide KP _ gx1) (fun hH1 => ?_)
  clear hK K hHeld
  try simp only [Act.put, List.getElem_toArray, List.getElem_cons_succ, List.getElem_cons_zero, List.setIfInBounds_toArray, List.set_cons_zero, List.set_cons_succ]
  refine wpAnyH_take (i := 6) (v := .int .i64 (fnP m A).p) rfl (by kernel_rfl) (by kernel_rfl) (by kernel_rfl) (fun _ _ _ h => h) (Or.inl ⟨by rfl, fun w hSw => by obtain ⟨t0, t1, t2, t3, t4, t5, t6, t7, t8, t9, t10, t11⟩ := hSw; have hf := fldR0; go_simp⟩) (by assumption) ?_
  try simp only [Act.put, List.getElem_toArray, List.getElem_cons_succ, List.getElem_cons_zero, List.setIfInBounds_toArray, List.set_cons_zero, List.set_cons_succ]
  refine wpAnyH_ready (rs := [7]) (by kernel_rfl) (by simp) ?_
  refine AllReadyH.cons rfl (fun K hK => ?_) AllReadyH.nil
  go_simp
  refine (unhide CS _ _).mono ?_
  rintro e x2 ⟨v2, rfl, hL, hg2⟩
  go_wp2_with fail
  have gx2 := gx1.trans hg2
  refine hK.out _ _ (unhide KP _ gx2) (fun hH2 => ?_)
  clear hK K hH1
  try simp only [Act.put, List.getElem_toArray, List.getElem_cons_succ, List.getElem_cons_zero, List.setIfInBounds_toArray, List.set_cons_zero, List.set_cons_succ]
  refine wpAnyH_take (i := 8) (v := v2) rfl (by kernel_rfl) (by kernel_rfl) (by kernel_rfl) (fun _ _ _ h => h) (Or.inl ⟨by rfl, fun w hSw => by obtain ⟨t0, t1, t2, t3, t4, t5, t6, t7, t8, t9, t10, t11⟩ := hSw; go_simp⟩) (by assumption) ?_
  try simp only [Act.put, List.getElem_toArray, List.getElem_cons_succ, List.getElem_cons_zero, List.setIfInBounds_toArray, List.set_cons_zero, List.set_cons_succ]
  refine wpAnyH_done (by kernel_rfl) (NoPanic.normal ?_) _
  have K : Hid (LTo w (rdP m ⟨23, A, B, C, D⟩) (.returned v2) x2) := hide (by rw [unhide FI]; exact ⟨v2, rfl, hL, (unhide GW).trans gx2⟩)
  clear hL hH2 gx1 gx2
  go_wp2_with fail
  refine bodyPost_ret (by simp [results, Try.results17, go_sem]; try rfl) rfl ?_
  exact unhide K
set_option maxHeartbeats 2000000 in
theorem rreads_36 (w : World) (m : Md) (so : Option Addr) (sc : Nat) (go : Option Addr) (gc : Nat) (co : Option Addr) (cc : Nat) (ao : Option Addr) (ac : Nat) (fo : Option Addr) (fc : Nat) (h : ModR w m so sc go gc co cc ao ac fo fc) (A B C D : Int) : Calls Try.prog 17 #[agM m so sc go gc co cc ao ac fo fc, agI ⟨36, A, B, C, D⟩] w (LTo w (rdP m ⟨36, A, B, C, D⟩)) := by
  obtain ⟨W2, hW2⟩ : ∃ W2, W2 = ((w.alloc (.cells #[.slice so m.sh.length sc, .slice go m.gl.length gc, .slice co m.co.length cc, .slice ao m.ca.length ac, .slice fo m.fn.length fc, .int .i64 m.main] 48)).alloc (.cells #[.int .i64 36, .int .i64 A, .int .i64 B, .int .i64 C, .int .i64 D] 54)) := ⟨_, rfl⟩
  have gW : G w W2 := by rw [hW2]; exact (G.alloc _ _).more _
  have KP : Hid (∀ x, G W2 x → G W2 x ∧ x.cell? ⟨w.heap.size, 0, none⟩ = some (.slice so m.sh.length sc) ∧ x.cell? ⟨w.heap.size, 1, none⟩ = some (.slice go m.gl.length gc) ∧ x.cell? ⟨w.heap.size, 2, none⟩ = some (.slice co m.co.length cc) ∧ x.cell? ⟨w.heap.size, 3, none⟩ = some (.slice ao m.ca.length ac) ∧ x.cell? ⟨w.heap.size, 4, none⟩ = some (.slice fo m.fn.length fc) ∧ x.cell? ⟨w.heap.size, 5, none⟩ = some (.int .i64 m.main) ∧ x.cell? ⟨w.heap.size + 1, 0, none⟩ = some (.int .i64 36) ∧ x.cell? ⟨w.heap.size + 1, 1, none⟩ = some (.int .i64 A) ∧ x.cell? ⟨w.heap.size + 1, 2, none⟩ = some (.int .i64 B) ∧ x.cell? ⟨w.heap.size + 1, 3, none⟩ = some (.int .i64 C) ∧ x.cell? ⟨w.heap.size + 1, 4, none⟩ = some (.int .i64 D)) := hide fun x g => ⟨g, g.cell (by rw [hW2]; simp [go_sem]), g.cell (by rw [hW2]; simp [go_sem]), g.cell (by rw [hW2]; simp [go_sem]), g.cell (by rw [hW2]; simp [go_sem]), g.cell (by rw [hW2]; simp [go_sem]), g.cell (by rw [hW2]; simp [go_sem]), g.cell (by rw [hW2]; simp [go_sem]), g.cell (by rw [hW2]; simp [go_sem]), g.cell (by rw [hW2]; simp [go_sem]), g.cell (by rw [hW2]; simp [go_sem]), g.cell (by rw [hW2]; simp [go_sem])⟩
  have GW := hide gW
  have CF := hide (fun x (g : G W2 x) => rfn_any x m so sc go gc co cc ao ac fo fc (h.g (gW.trans g)) B)
  have CS := hide (fun x n => rrun_any x C n)
  have FI : Hid (rdP m ⟨36, A, B, C, D⟩ = runP C (fnP m B).c) := hide (by rfl)
  clear h gW
  unfold agM at CF
  unfold agM agI
  go_enter Try.func17, Try.ntmps17
  go_wp2_with fail
  rw [← hW2]
  clear hW2
  refine wp_region_noPanic ?_
  refine wp_region_held_drew (S := fun x => G W2 x ∧ x.cell? ⟨w.heap.size, 0, none⟩ = some (.slice so m.sh.length sc) ∧ x.cell? ⟨w.heap.size, 1, none⟩ = some (.slice go m.gl.length gc) ∧ x.cell? ⟨w.heap.size, 2, none⟩ = some (.slice co m.co.length cc) ∧ x.cell? ⟨w.heap.size, 3, none⟩ = some (.slice ao m.ca.length ac) ∧ x.cell? ⟨w.heap.size, 4, none⟩ = some (.slice fo m.fn.length fc) ∧ x.cell? ⟨w.heap.size, 5, none⟩ = some (.int .i64 m.main) ∧ x.cell? ⟨w.heap.size + 1, 0, none⟩ = some (.int .i64 36) ∧ x.cell? ⟨w.heap.size + 1, 1, none⟩ = some (.int .i64 A) ∧ x.cell? ⟨w.heap.size + 1, 2, none⟩ = some (.int .i64 B) ∧ x.cell? ⟨w.heap.size + 1, 3, none⟩ = some (.int .i64 C) ∧ x.cell? ⟨w.heap.size + 1, 4, none⟩ = some (.int .i64 D)) (by kernel_rfl) (unhide KP _ (G.refl W2).drew) (fun hHeld => ?_)
  refine wpAnyH_take (i := 0) (v := .pointer (some ⟨w.heap.size + 1, 3, none⟩)) rfl (by kernel_rfl) (by kernel_rfl) (by kernel_rfl) (fun _ _ _ h => h) (Or.inl ⟨by rfl, fun w hSw => by obtain ⟨t0, t1, t2, t3, t4, t5, t6, t7, t8, t9, t10, t11⟩ := hSw; go_simp⟩) (by assumption) ?_
  try simp only [Act.put, List.getElem_toArray, List.getElem_cons_zero, List.setIfInBounds_toArray, List.set_cons_zero, List.set_cons_succ]
  refine wpAnyH_take (i := 1) (v := .int .i64 C) rfl (by kernel_rfl) (by kernel_rfl) (by kernel_rfl) (fun _ _ _ h => h) (Or.inl ⟨by rfl, fun w hSw => by obtain ⟨t0, t1, t2, t3, t4, t5, t6, t7, t8, t9, t10, t11⟩ := hSw; go_simp⟩) (by assumption) ?_
  try simp only [Act.put, List.getElem_toArray, List.getElem_cons_succ, List.getElem_cons_zero, List.setIfInBounds_toArray, List.set_cons_zero, List.set_cons_succ]
  refine wpAnyH_take (i := 2) (v := .agg #[.slice so m.sh.length sc, .slice go m.gl.length gc, .slice co m.co.length cc, .slice ao m.ca.length ac, .slice fo m.fn.length fc, .int .i64 m.main]) rfl (by kernel_rfl) (by kernel_rfl) (by kernel_rfl) (fun _ _ _ h => h) (Or.inl ⟨by rfl, fun w hSw => by obtain ⟨t0, t1, t2, t3, t4, t5, t6, t7, t8, t9, t10, t11⟩ := hSw; go_simp⟩) (by assumption) ?_
  try simp only [Act.put, List.getElem_toArray, List.getElem_cons_succ, List.getElem_cons_zero, List.setIfInBounds_toArray, List.set_cons_zero, List.set_cons_succ]
  refine wpAnyH_take (i := 3) (v := .pointer (some ⟨w.heap.size + 1, 2, none⟩)) rfl (by kernel_rfl) (by kernel_rfl) (by kernel_rfl) (fun _ _ _ h => h) (Or.inl ⟨by rfl, fun w hSw => by obtain ⟨t0, t1, t2, t3, t4, t5, t6, t7, t8, t9, t10, t11⟩ := hSw; go_simp⟩) (by assumption) ?_
  try simp only [Act.put, List.getElem_toArray, List.getElem_cons_succ, List.getElem_cons_zero, List.setIfInBounds_toArray, List.set_cons_zero, List.set_cons_succ]
  refine wpAnyH_take (i := 4) (v := .int .i64 B) rfl (by kernel_rfl) (by kernel_rfl) (by kernel_rfl) (fun _ _ _ h => h) (Or.inl ⟨by rfl, fun w hSw => by obtain ⟨t0, t1, t2, t3, t4, t5, t6, t7, t8, t9, t10, t11⟩ := hSw; go_simp⟩) (by assumption) ?_
  try simp only [Act.put, List.getElem_toArray, List.getElem_cons_succ, List.getElem_cons_zero, List.setIfInBounds_toArray, List.set_cons_zero, List.set_cons_succ]
  refine wpAnyH_ready (rs := [5]) (by kernel_rfl) (by simp) ?_
  refine AllReadyH.cons rfl (fun K hK => ?_) AllReadyH.nil
  go_simp
  refine (unhide CF _ hHeld.1).mono ?_
  rintro e x1 ⟨ko, kc, io, ic, mo, mc, rfl, hg1⟩
  go_wp2_with fail
  have gx1 := hHeld.1.trans hg1
  refine hK.out _ _ (unhide KP _ gx1) (fun hH1 => ?_)
  clear hK K hHeld
  try simp only [Act.put, List.getElem_toArray, List.getElem_cons_succ, List.getElem_cons_zero, List.setIfInBounds_toArray, List.set_cons_zero, List.set_cons_succ]
  refine wpAnyH_take (i := 6) (v := .int .i64 (fnP m B).c) rfl (by kernel_rfl) (by kernel_rfl) (by kernel_rfl) (fun _ _ _ h => h) (Or.inl ⟨by rfl, fun w hSw => by obtain ⟨t0, t1, t2, t3, t4, t5, t6, t7, t8, t9, t10, t11⟩ := hSw; have hf := fldR1; go_simp⟩) (by assumption) ?_
  try simp only [Act.put, List.getElem_toArray, List.getElem_cons_succ, List.getElem_cons_zero, List.setIfInBounds_toArray, List.set_cons_zero, List.set_cons_succ]
  refine wpAnyH_ready (rs := [7]) (by kernel_rfl) (by simp) ?_
  refine AllReadyH.cons rfl (fun K hK => ?_) AllReadyH.nil
  go_simp
  refine (unhide CS _ _).mono ?_
  rintro e x2 ⟨v2, rfl, hL, hg2⟩
  go_wp2_with fail
  have gx2 := gx1.trans hg2
  refine hK.out _ _ (unhide KP _ gx2) (fun hH2 => ?_)
  clear hK K hH1
  try simp only [Act.put, List.getElem_toArray, List.getElem_cons_succ, List.getElem_cons_zero, List.setIfInBounds_toArray, List.set_cons_zero, List.set_cons_succ]
  refine wpAnyH_take (i := 8) (v := v2) rfl (by kernel_rfl) (by kernel_rfl) (by kernel_rfl) (fun _ _ _ h => h) (Or.inl ⟨by rfl, fun w hSw => by obtain ⟨t0, t1, t2, t3, t4, t5, t6, t7, t8, t9, t10, t11⟩ := hSw; go_simp⟩) (by assumption) ?_
  try simp only [Act.put, List.getElem_toArray, List.getElem_cons_succ, List.getElem_cons_zero, List.setIfInBounds_toArray, List.set_cons_zero, List.set_cons_succ]
  refine wpAnyH_done (by kernel_rfl) (NoPanic.normal ?_) _
  have K : Hid (LTo w (rdP m ⟨36, A, B, C, D⟩) (.returned v2) x2) := hide (by rw [unhide FI]; exact ⟨v2, rfl, hL, (unhide GW).trans gx2⟩)
  clear hL hH2 gx1 gx2
  go_wp2_with fail
  refine bodyPost_ret (by simp [results, Try.results17, go_sem]; try rfl) rfl ?_
  exact unhide K
set_option maxHeartbeats 2000000 in
theorem rreads_21 (w : World) (m : Md) (so : Option Addr) (sc : Nat) (go : Option Addr) (gc : Nat) (co : Option Addr) (cc : Nat) (ao : Option Addr) (ac : Nat) (fo : Option Addr) (fc : Nat) (A B C D : Int) : Calls Try.prog 17 #[agM m so sc go gc co cc ao ac fo fc, agI ⟨21, A, B, C, D⟩] w (LTo w (rdP m ⟨21, A, B, C, D⟩)) := by
  obtain ⟨W2, hW2⟩ : ∃ W2, W2 = ((w.alloc (.cells #[.slice so m.sh.length sc, .slice go m.gl.length gc, .slice co m.co.length cc, .slice ao m.ca.length ac, .slice fo m.fn.length fc, .int .i64 m.main] 48)).alloc (.cells #[.int .i64 21, .int .i64 A, .int .i64 B, .int .i64 C, .int .i64 D] 54)) := ⟨_, rfl⟩
  have gW : G w W2 := by rw [hW2]; exact (G.alloc _ _).more _
  have KP : Hid (∀ x, G W2 x → G W2 x ∧ x.cell? ⟨w.heap.size, 0, none⟩ = some (.slice so m.sh.length sc) ∧ x.cell? ⟨w.heap.size, 1, none⟩ = some (.slice go m.gl.length gc) ∧ x.cell? ⟨w.heap.size, 2, none⟩ = some (.slice co m.co.length cc) ∧ x.cell? ⟨w.heap.size, 3, none⟩ = some (.slice ao m.ca.length ac) ∧ x.cell? ⟨w.heap.size, 4, none⟩ = some (.slice fo m.fn.length fc) ∧ x.cell? ⟨w.heap.size, 5, none⟩ = some (.int .i64 m.main) ∧ x.cell? ⟨w.heap.size + 1, 0, none⟩ = some (.int .i64 21) ∧ x.cell? ⟨w.heap.size + 1, 1, none⟩ = some (.int .i64 A) ∧ x.cell? ⟨w.heap.size + 1, 2, none⟩ = some (.int .i64 B) ∧ x.cell? ⟨w.heap.size + 1, 3, none⟩ = some (.int .i64 C) ∧ x.cell? ⟨w.heap.size + 1, 4, none⟩ = some (.int .i64 D)) := hide fun x g => ⟨g, g.cell (by rw [hW2]; simp [go_sem]), g.cell (by rw [hW2]; simp [go_sem]), g.cell (by rw [hW2]; simp [go_sem]), g.cell (by rw [hW2]; simp [go_sem]), g.cell (by rw [hW2]; simp [go_sem]), g.cell (by rw [hW2]; simp [go_sem]), g.cell (by rw [hW2]; simp [go_sem]), g.cell (by rw [hW2]; simp [go_sem]), g.cell (by rw [hW2]; simp [go_sem]), g.cell (by rw [hW2]; simp [go_sem]), g.cell (by rw [hW2]; simp [go_sem])⟩
  have GW := hide gW
  have CS := hide (fun x => rrun_any x C D)
  have AP : Hid (∀ y x2 u, OwnL y W2.heap.size u [B] → G y x2 → G W2 x2 → ∀ v1, IsL x2 v1 (runP C D) → ∃ v' x3, (Builtin.append_ #[32, 32] 32 #[u, v1]).run Try.prog x2 = .ok v' x3 ∧ IsL x3 v' (rdP m ⟨21, A, B, C, D⟩) ∧ G W2 x3) := hide (fun y x2 u hO gy g2 v1 hv => by
    have hlen : (runP C D).length ≤ 64 := by unfold runP; split; simp; rw [runN_len]; omega
    obtain ⟨v', x3, r1, r2, r3⟩ := own_app (own_kept hO (fun q _ hq => gy.block q hq)) g2.size hv (by simp; omega)
    exact ⟨v', x3, r1, r2.isl, ⟨r3.os.trans g2.os, r3.tape.trans g2.tape, r3.output.trans g2.output, Nat.le_trans g2.size r3.size, fun q hq => (r3.block q hq).trans (g2.block q hq)⟩⟩)
  have OW : Hid (∀ y, G W2 y → OwnL (y.alloc (.cells #[.int .i64 B] 3)) W2.heap.size (.slice (some ⟨y.heap.size, 0, none⟩) 1 1) [B]) := hide (fun y gy => World.ownsRow_lit y #[.int .i64 B] 1 gy.size (by unfold maxLen; decide) rfl)
  clear gW
  unfold agM agI
  go_enter Try.func17, Try.ntmps17
  go_wp2_with fail
  rw [← hW2]
  clear hW2
  refine wp_region_noPanic ?_
  refine wp_region_held_drew (S := fun x => G W2 x ∧ x.cell? ⟨w.heap.size, 0, none⟩ = some (.slice so m.sh.length sc) ∧ x.cell? ⟨w.heap.size, 1, none⟩ = some (.slice go m.gl.length gc) ∧ x.cell? ⟨w.heap.size, 2, none⟩ = some (.slice co m.co.length cc) ∧ x.cell? ⟨w.heap.size, 3, none⟩ = some (.slice ao m.ca.length ac) ∧ x.cell? ⟨w.heap.size, 4, none⟩ = some (.slice fo m.fn.length fc) ∧ x.cell? ⟨w.heap.size, 5, none⟩ = some (.int .i64 m.main) ∧ x.cell? ⟨w.heap.size + 1, 0, none⟩ = some (.int .i64 21) ∧ x.cell? ⟨w.heap.size + 1, 1, none⟩ = some (.int .i64 A) ∧ x.cell? ⟨w.heap.size + 1, 2, none⟩ = some (.int .i64 B) ∧ x.cell? ⟨w.heap.size + 1, 3, none⟩ = some (.int .i64 C) ∧ x.cell? ⟨w.heap.size + 1, 4, none⟩ = some (.int .i64 D)) (by kernel_rfl) (unhide KP _ (G.refl W2).drew) (fun hHeld => ?_)
  obtain ⟨y0, hy0⟩ : ∃ y, y = W2.drew := ⟨_, rfl⟩
  rw [← hy0] at hHeld ⊢
  clear hy0
  refine wpAnyH_take (i := 0) (v := .pointer (some ⟨w.heap.size + 1, 2, none⟩)) rfl (by kernel_rfl) (by kernel_rfl) (by kernel_rfl) (fun _ _ _ h => h) (Or.inl ⟨by rfl, fun w hSw => by obtain ⟨t0, t1, t2, t3, t4, t5, t6, t7, t8, t9, t10, t11⟩ := hSw; go_simp⟩) (by assumption) ?_
  try simp only [Act.put, List.getElem_toArray, List.getElem_cons_zero, List.setIfInBounds_toArray, List.set_cons_zero, List.set_cons_succ]
  refine wpAnyH_take (i := 1) (v := .int .i64 B) rfl (by kernel_rfl) (by kernel_rfl) (by kernel_rfl) (fun _ _ _ h => h) (Or.inl ⟨by rfl, fun w hSw => by obtain ⟨t0, t1, t2, t3, t4, t5, t6, t7, t8, t9, t10, t11⟩ := hSw; go_simp⟩) (by assumption) ?_
  try simp only [Act.put, List.getElem_toArray, List.getElem_cons_succ, List.getElem_cons_zero, List.setIfInBounds_toArray, List.set_cons_zero, List.set_cons_succ]
  refine wpAnyH_take (i := 3) (v := .pointer (some ⟨w.heap.size + 1, 3, none⟩)) rfl (by kernel_rfl) (by kernel_rfl) (by kernel_rfl) (fun _ _ _ h => h) (Or.inl ⟨by rfl, fun w hSw => by obtain ⟨t0, t1, t2, t3, t4, t5, t6, t7, t8, t9, t10, t11⟩ := hSw; go_simp⟩) (by assumption) ?_
  try simp only [Act.put, List.getElem_toArray, List.getElem_cons_succ, List.getElem_cons_zero, List.setIfInBounds_toArray, List.set_cons_zero, List.set_cons_succ]
  refine wpAnyH_take (i := 4) (v := .int .i64 C) rfl (by kernel_rfl) (by kernel_rfl) (by kernel_rfl) (fun _ _ _ h => h) (Or.inl ⟨by rfl, fun w hSw => by obtain ⟨t0, t1, t2, t3, t4, t5, t6, t7, t8, t9, t10, t11⟩ := hSw; go_simp⟩) (by assumption) ?_
  try simp only [Act.put, List.getElem_toArray, List.getElem_cons_succ, List.getElem_cons_zero, List.setIfInBounds_toArray, List.set_cons_zero, List.set_cons_succ]
  refine wpAnyH_take (i := 5) (v := .pointer (some ⟨w.heap.size + 1, 4, none⟩)) rfl (by kernel_rfl) (by kernel_rfl) (by kernel_rfl) (fun _ _ _ h => h) (Or.inl ⟨by rfl, fun w hSw => by obtain ⟨t0, t1, t2, t3, t4, t5, t6, t7, t8, t9, t10, t11⟩ := hSw; go_simp⟩) (by assumption) ?_
  try simp only [Act.put, List.getElem_toArray, List.getElem_cons_succ, List.getElem_cons_zero, List.setIfInBounds_toArray, List.set_cons_zero, List.set_cons_succ]
  refine wpAnyH_take (i := 6) (v := .int .i64 D) rfl (by kernel_rfl) (by kernel_rfl) (by kernel_rfl) (fun _ _ _ h => h) (Or.inl ⟨by rfl, fun w hSw => by obtain ⟨t0, t1, t2, t3, t4, t5, t6, t7, t8, t9, t10, t11⟩ := hSw; go_simp⟩) (by assumption) ?_
  try simp only [Act.put, List.getElem_toArray, List.getElem_cons_succ, List.getElem_cons_zero, List.setIfInBounds_toArray, List.set_cons_zero, List.set_cons_succ]
  refine wpAnyH_ready (rs := [2, 7]) (by kernel_rfl) (by simp) ?_
  refine AllReadyH.cons rfl (fun K hK => ?_) (AllReadyH.cons rfl (fun K hK => ?_) AllReadyH.nil)
  · go_simp
    refine hK.out _ _ (unhide KP _ (hHeld.1.more _)) (fun hH1 => ?_)
    clear hK K
    try simp only [Act.put, List.getElem_toArray, List.getElem_cons_succ, List.getElem_cons_zero, List.setIfInBounds_toArray, List.set_cons_zero, List.set_cons_succ]
    have hO := unhide OW y0 hHeld.1
    obtain ⟨y1, hy1⟩ : ∃ y, y = y0.alloc (.cells #[.int .i64 B] 3) := ⟨_, rfl⟩
    rw [← hy1] at hH1 hO ⊢
    clear hy1
    replace hO := hide hO
    refine wpAnyH_ready (rs := [7]) (by kernel_rfl) (by simp) ?_
    refine AllReadyH.cons rfl (fun K hK => ?_) AllReadyH.nil
    go_simp
    refine (unhide CS _).mono ?_
    rintro e y2 ⟨v1, rfl, hL, hg2⟩
    go_wp2_with fail
    have gx2 := hH1.1.trans hg2
    refine hK.out _ _ (unhide KP _ gx2) (fun hH2 => ?_)
    clear hK K
    try simp only [Act.put, List.getElem_toArray, List.getElem_cons_succ, List.getElem_cons_zero, List.setIfInBounds_toArray, List.set_cons_zero, List.set_cons_succ]
    replace hL := hide hL
    refine wpAnyH_ready (rs := [8]) (by kernel_rfl) (by simp) ?_
    refine AllReadyH.cons rfl (fun K hK => ?_) AllReadyH.nil
    obtain ⟨v3, x3, hrun, hL3, hg3⟩ := unhide AP y1 y2 _ (unhide hO) hg2 gx2 v1 (unhide hL)
    refine step_app rfl (.tmp 76) (.tmp 81) 32 rfl _ _ rfl rfl _ _ hrun ?_
    refine hK.out _ _ (unhide KP _ hg3) (fun hH3 => ?_)
    clear hK K hrun
    try simp only [Act.put, List.getElem_toArray, List.getElem_cons_succ, List.getElem_cons_zero, List.setIfInBounds_toArray, List.set_cons_zero, List.set_cons_succ]
    refine wpAnyH_take (i := 9) (v := v3) rfl (by kernel_rfl) (by kernel_rfl) (by kernel_rfl) (fun _ _ _ h => h) (Or.inl ⟨by rfl, fun w hSw => by obtain ⟨t0, t1, t2, t3, t4, t5, t6, t7, t8, t9, t10, t11⟩ := hSw; go_simp⟩) (by assumption) ?_
    try simp only [Act.put, List.getElem_toArray, List.getElem_cons_succ, List.getElem_cons_zero, List.setIfInBounds_toArray, List.set_cons_zero, List.set_cons_succ]
    refine wpAnyH_done (by kernel_rfl) (NoPanic.normal ?_) _
    have K : Hid (LTo w (rdP m ⟨21, A, B, C, D⟩) (.returned v3) x3) := hide ⟨v3, rfl, hL3, (unhide GW).trans hg3⟩
    clear hL3 hH3 hg3
    go_wp2_with fail
    refine bodyPost_ret (by simp [results, Try.results17, go_sem]; try rfl) rfl ?_
    exact unhide K
  · go_simp
    refine (unhide CS _).mono ?_
    rintro e y1 ⟨v1, rfl, hL, hg1⟩
    go_wp2_with fail
    have gx1 := hHeld.1.trans hg1
    refine hK.out _ _ (unhide KP _ gx1) (fun hH1 => ?_)
    clear hK K
    try simp only [Act.put, List.getElem_toArray, List.getElem_cons_succ, List.getElem_cons_zero, List.setIfInBounds_toArray, List.set_cons_zero, List.set_cons_succ]
    replace hL := hide hL
    refine wpAnyH_ready (rs := [2]) (by kernel_rfl) (by simp) ?_
    refine AllReadyH.cons rfl (fun K hK => ?_) AllReadyH.nil
    go_simp
    refine hK.out _ _ (unhide KP _ (gx1.more _)) (fun hH2 => ?_)
    clear hK K
    try simp only [Act.put, List.getElem_toArray, List.getElem_cons_succ, List.getElem_cons_zero, List.setIfInBounds_toArray, List.set_cons_zero, List.set_cons_succ]
    have hO := unhide OW y1 gx1
    obtain ⟨y2, hy2⟩ : ∃ y, y = y1.alloc (.cells #[.int .i64 B] 3) := ⟨_, rfl⟩
    have g12 : G y1 y2 := by rw [hy2]; exact G.alloc _ _
    rw [← hy2] at hH2 hO ⊢
    clear hy2
    replace hO := hide hO
    refine wpAnyH_ready (rs := [8]) (by kernel_rfl) (by simp) ?_
    refine AllReadyH.cons rfl (fun K hK => ?_) AllReadyH.nil
    obtain ⟨v3, x3, hrun, hL3, hg3⟩ := unhide AP y2 y2 _ (unhide hO) (G.refl _) (gx1.trans g12) v1 ((unhide hL).g g12)
    refine step_app rfl (.tmp 76) (.tmp 81) 32 rfl _ _ rfl rfl _ _ hrun ?_
    refine hK.out _ _ (unhide KP _ hg3) (fun hH3 => ?_)
    clear hK K hrun
    try simp only [Act.put, List.getElem_toArray, List.getElem_cons_succ, List.getElem_cons_zero, List.setIfInBounds_toArray, List.set_cons_zero, List.set_cons_succ]
    refine wpAnyH_take (i := 9) (v := v3) rfl (by kernel_rfl) (by kernel_rfl) (by kernel_rfl) (fun _ _ _ h => h) (Or.inl ⟨by rfl, fun w hSw => by obtain ⟨t0, t1, t2, t3, t4, t5, t6, t7, t8, t9, t10, t11⟩ := hSw; go_simp⟩) (by assumption) ?_
    try simp only [Act.put, List.getElem_toArray, List.getElem_cons_succ, List.getElem_cons_zero, List.setIfInBounds_toArray, List.set_cons_zero, List.set_cons_succ]
    refine wpAnyH_done (by kernel_rfl) (NoPanic.normal ?_) _
    have K : Hid (LTo w (rdP m ⟨21, A, B, C, D⟩) (.returned v3) x3) := hide ⟨v3, rfl, hL3, (unhide GW).trans hg3⟩
    clear hL3 hH3 hg3
    go_wp2_with fail
    refine bodyPost_ret (by simp [results, Try.results17, go_sem]; try rfl) rfl ?_
    exact unhide K
set_option maxHeartbeats 2000000 in
theorem rreads_24 (w : World) (m : Md) (so : Option Addr) (sc : Nat) (go : Option Addr) (gc : Nat) (co : Option Addr) (cc : Nat) (ao : Option Addr) (ac : Nat) (fo : Option Addr) (fc : Nat) (A B C D : Int) : Calls Try.prog 17 #[agM m so sc go gc co cc ao ac fo fc, agI ⟨24, A, B, C, D⟩] w (LTo w (rdP m ⟨24, A, B, C, D⟩)) := by
  obtain ⟨W2, hW2⟩ : ∃ W2, W2 = ((w.alloc (.cells #[.slice so m.sh.length sc, .slice go m.gl.length gc, .slice co m.co.length cc, .slice ao m.ca.length ac, .slice fo m.fn.length fc, .int .i64 m.main] 48)).alloc (.cells #[.int .i64 24, .int .i64 A, .int .i64 B, .int .i64 C, .int .i64 D] 54)) := ⟨_, rfl⟩
  have gW : G w W2 := by rw [hW2]; exact (G.alloc _ _).more _
  have KP : Hid (∀ x, G W2 x → G W2 x ∧ x.cell? ⟨w.heap.size, 0, none⟩ = some (.slice so m.sh.length sc) ∧ x.cell? ⟨w.heap.size, 1, none⟩ = some (.slice go m.gl.length gc) ∧ x.cell? ⟨w.heap.size, 2, none⟩ = some (.slice co m.co.length cc) ∧ x.cell? ⟨w.heap.size, 3, none⟩ = some (.slice ao m.ca.length ac) ∧ x.cell? ⟨w.heap.size, 4, none⟩ = some (.slice fo m.fn.length fc) ∧ x.cell? ⟨w.heap.size, 5, none⟩ = some (.int .i64 m.main) ∧ x.cell? ⟨w.heap.size + 1, 0, none⟩ = some (.int .i64 24) ∧ x.cell? ⟨w.heap.size + 1, 1, none⟩ = some (.int .i64 A) ∧ x.cell? ⟨w.heap.size + 1, 2, none⟩ = some (.int .i64 B) ∧ x.cell? ⟨w.heap.size + 1, 3, none⟩ = some (.int .i64 C) ∧ x.cell? ⟨w.heap.size + 1, 4, none⟩ = some (.int .i64 D)) := hide fun x g => ⟨g, g.cell (by rw [hW2]; simp [go_sem]), g.cell (by rw [hW2]; simp [go_sem]), g.cell (by rw [hW2]; simp [go_sem]), g.cell (by rw [hW2]; simp [go_sem]), g.cell (by rw [hW2]; simp [go_sem]), g.cell (by rw [hW2]; simp [go_sem]), g.cell (by rw [hW2]; simp [go_sem]), g.cell (by rw [hW2]; simp [go_sem]), g.cell (by rw [hW2]; simp [go_sem]), g.cell (by rw [hW2]; simp [go_sem]), g.cell (by rw [hW2]; simp [go_sem])⟩
  have GW := hide gW
  have CS := hide (fun x => rrun_any x B C)
  have AP : Hid (∀ y x2 u, OwnL y W2.heap.size u [A] → G y x2 → G W2 x2 → ∀ v1, IsL x2 v1 (runP B C) → ∃ v' x3, (Builtin.append_ #[32, 32] 32 #[u, v1]).run Try.prog x2 = .ok v' x3 ∧ IsL x3 v' (rdP m ⟨24, A, B, C, D⟩) ∧ G W2 x3) := hide (fun y x2 u hO gy g2 v1 hv => by
    have hlen : (runP B C).length ≤ 64 := by unfold runP; split; simp; rw [runN_len]; omega
    obtain ⟨v', x3, r1, r2, r3⟩ := own_app (own_kept hO (fun q _ hq => gy.block q hq)) g2.size hv (by simp; omega)
    exact ⟨v', x3, r1, r2.isl, ⟨r3.os.trans g2.os, r3.tape.trans g2.tape, r3.output.trans g2.output, Nat.le_trans g2.size r3.size, fun q hq => (r3.block q hq).trans (g2.block q hq)⟩⟩)
  have OW : Hid (∀ y, G W2 y → OwnL (y.alloc (.cells #[.int .i64 A] 3)) W2.heap.size (.slice (some ⟨y.heap.size, 0, none⟩) 1 1) [A]) := hide (fun y gy => World.ownsRow_lit y #[.int .i64 A] 1 gy.size (by unfold maxLen; decide) rfl)
  clear gW
  unfold agM agI
  go_enter Try.func17, Try.ntmps17
  go_wp2_with fail
  rw [← hW2]
  clear hW2
  refine wp_region_noPanic ?_
  refine wp_region_held_drew (S := fun x => G W2 x ∧ x.cell? ⟨w.heap.size, 0, none⟩ = some (.slice so m.sh.length sc) ∧ x.cell? ⟨w.heap.size, 1, none⟩ = some (.slice go m.gl.length gc) ∧ x.cell? ⟨w.heap.size, 2, none⟩ = some (.slice co m.co.length cc) ∧ x.cell? ⟨w.heap.size, 3, none⟩ = some (.slice ao m.ca.length ac) ∧ x.cell? ⟨w.heap.size, 4, none⟩ = some (.slice fo m.fn.length fc) ∧ x.cell? ⟨w.heap.size, 5, none⟩ = some (.int .i64 m.main) ∧ x.cell? ⟨w.heap.size + 1, 0, none⟩ = some (.int .i64 24) ∧ x.cell? ⟨w.heap.size + 1, 1, none⟩ = some (.int .i64 A) ∧ x.cell? ⟨w.heap.size + 1, 2, none⟩ = some (.int .i64 B) ∧ x.cell? ⟨w.heap.size + 1, 3, none⟩ = some (.int .i64 C) ∧ x.cell? ⟨w.heap.size + 1, 4, none⟩ = some (.int .i64 D)) (by kernel_rfl) (unhide KP _ (G.refl W2).drew) (fun hHeld => ?_)
  obtain ⟨y0, hy0⟩ : ∃ y, y = W2.drew := ⟨_, rfl⟩
  rw [← hy0] at hHeld ⊢
  clear hy0
  refine wpAnyH_take (i := 0) (v := .pointer (some ⟨w.heap.size + 1, 1, none⟩)) rfl (by kernel_rfl) (by kernel_rfl) (by kernel_rfl) (fun _ _ _ h => h) (Or.inl ⟨by rfl, fun w hSw => by obtain ⟨t0, t1, t2, t3, t4, t5, t6, t7, t8, t9, t10, t11⟩ := hSw; go_simp⟩) (by assumption) ?_
  try simp only [Act.put, List.getElem_toArray, List.getElem_cons_zero, List.setIfInBounds_toArray, List.set_cons_zero, List.set_cons_succ]
  refine wpAnyH_take (i := 1) (v := .int .i64 A) rfl (by kernel_rfl) (by kernel_rfl) (by kernel_rfl) (fun _ _ _ h => h) (Or.inl ⟨by rfl, fun w hSw => by obtain ⟨t0, t1, t2, t3, t4, t5, t6, t7, t8, t9, t10, t11⟩ := hSw; go_simp⟩) (by assumption) ?_
  try simp only [Act.put, List.getElem_toArray, List.getElem_cons_succ, List.getElem_cons_zero, List.setIfInBounds_toArray, List.set_cons_zero, List.set_cons_succ]
  refine wpAnyH_take (i := 3) (v := .pointer (some ⟨w.heap.size + 1, 2, none⟩)) rfl (by kernel_rfl) (by kernel_rfl) (by kernel_rfl) (fun _ _ _ h => h) (Or.inl ⟨by rfl, fun w hSw => by obtain ⟨t0, t1, t2, t3, t4, t5, t6, t7, t8, t9, t10, t11⟩ := hSw; go_simp⟩) (by assumption) ?_
  try simp only [Act.put, List.getElem_toArray, List.getElem_cons_succ, List.getElem_cons_zero, List.setIfInBounds_toArray, List.set_cons_zero, List.set_cons_succ]
  refine wpAnyH_take (i := 4) (v := .int .i64 B) rfl (by kernel_rfl) (by kernel_rfl) (by kernel_rfl) (fun _ _ _ h => h) (Or.inl ⟨by rfl, fun w hSw => by obtain ⟨t0, t1, t2, t3, t4, t5, t6, t7, t8, t9, t10, t11⟩ := hSw; go_simp⟩) (by assumption) ?_
  try simp only [Act.put, List.getElem_toArray, List.getElem_cons_succ, List.getElem_cons_zero, List.setIfInBounds_toArray, List.set_cons_zero, List.set_cons_succ]
  refine wpAnyH_take (i := 5) (v := .pointer (some ⟨w.heap.size + 1, 3, none⟩)) rfl (by kernel_rfl) (by kernel_rfl) (by kernel_rfl) (fun _ _ _ h => h) (Or.inl ⟨by rfl, fun w hSw => by obtain ⟨t0, t1, t2, t3, t4, t5, t6, t7, t8, t9, t10, t11⟩ := hSw; go_simp⟩) (by assumption) ?_
  try simp only [Act.put, List.getElem_toArray, List.getElem_cons_succ, List.getElem_cons_zero, List.setIfInBounds_toArray, List.set_cons_zero, List.set_cons_succ]
  refine wpAnyH_take (i := 6) (v := .int .i64 C) rfl (by kernel_rfl) (by kernel_rfl) (by kernel_rfl) (fun _ _ _ h => h) (Or.inl ⟨by rfl, fun w hSw => by obtain ⟨t0, t1, t2, t3, t4, t5, t6, t7, t8, t9, t10, t11⟩ := hSw; go_simp⟩) (by assumption) ?_
  try simp only [Act.put, List.getElem_toArray, List.getElem_cons_succ, List.getElem_cons_zero, List.setIfInBounds_toArray, List.set_cons_zero, List.set_cons_succ]
  refine wpAnyH_ready (rs := [2, 7]) (by kernel_rfl) (by simp) ?_
  refine AllReadyH.cons rfl (fun K hK => ?_) (AllReadyH.cons rfl (fun K hK => ?_) AllReadyH.nil)
  · go_simp
    refine hK.out _ _ (unhide KP _ (hHeld.1.more _)) (fun hH1 => ?_)
    clear hK K
    try simp only [Act.put, List.getElem_toArray, List.getElem_cons_succ, List.getElem_cons_zero, List.setIfInBounds_toArray, List.set_cons_zero, List.set_cons_succ]
    have hO := unhide OW y0 hHeld.1
    obtain ⟨y1, hy1⟩ : ∃ y, y = y0.alloc (.cells #[.int .i64 A] 3) := ⟨_, rfl⟩
    rw [← hy1] at hH1 hO ⊢
    clear hy1
    replace hO := hide hO
    refine wpAnyH_ready (rs := [7]) (by kernel_rfl) (by simp) ?_
    refine AllReadyH.cons rfl (fun K hK => ?_) AllReadyH.nil
    go_simp
    refine (unhide CS _).mono ?_
    rintro e y2 ⟨v1, rfl, hL, hg2⟩
    go_wp2_with fail
    have gx2 := hH1.1.trans hg2
    refine hK.out _ _ (unhide KP _ gx2) (fun hH2 => ?_)
    clear hK K
    try simp only [Act.put, List.getElem_toArray, List.getElem_cons_succ, List.getElem_cons_zero, List.setIfInBounds_toArray, List.set_cons_zero, List.set_cons_succ]
    replace hL := hide hL
    refine wpAnyH_ready (rs := [8]) (by kernel_rfl) (by simp) ?_
    refine AllReadyH.cons rfl (fun K hK => ?_) AllReadyH.nil
    obtain ⟨v3, x3, hrun, hL3, hg3⟩ := unhide AP y1 y2 _ (unhide hO) hg2 gx2 v1 (unhide hL)
    refine step_app rfl (.tmp 108) (.tmp 113) 32 rfl _ _ rfl rfl _ _ hrun ?_
    refine hK.out _ _ (unhide KP _ hg3) (fun hH3 => ?_)
    clear hK K hrun
    try simp only [Act.put, List.getElem_toArray, List.getElem_cons_succ, List.getElem_cons_zero, List.setIfInBounds_toArray, List.set_cons_zero, List.set_cons_succ]
    refine wpAnyH_take (i := 9) (v := v3) rfl (by kernel_rfl) (by kernel_rfl) (by kernel_rfl) (fun _ _ _ h => h) (Or.inl ⟨by rfl, fun w hSw => by obtain ⟨t0, t1, t2, t3, t4, t5, t6, t7, t8, t9, t10, t11⟩ := hSw; go_simp⟩) (by assumption) ?_
    try simp only [Act.put, List.getElem_toArray, List.getElem_cons_succ, List.getElem_cons_zero, List.setIfInBounds_toArray, List.set_cons_zero, List.set_cons_succ]
    refine wpAnyH_done (by kernel_rfl) (NoPanic.normal ?_) _
    have K : Hid (LTo w (rdP m ⟨24, A, B, C, D⟩) (.returned v3) x3) := hide ⟨v3, rfl, hL3, (unhide GW).trans hg3⟩
    clear hL3 hH3 hg3
    go_wp2_with fail
    refine bodyPost_ret (by simp [results, Try.results17, go_sem]; try rfl) rfl ?_
    exact unhide K
  · go_simp
    refine (unhide CS _).mono ?_
    rintro e y1 ⟨v1, rfl, hL, hg1⟩
    go_wp2_with fail
    have gx1 := hHeld.1.trans hg1
    refine hK.out _ _ (unhide KP _ gx1) (fun hH1 => ?_)
    clear hK K
    try simp only [Act.put, List.getElem_toArray, List.getElem_cons_succ, List.getElem_cons_zero, List.setIfInBounds_toArray, List.set_cons_zero, List.set_cons_succ]
    replace hL := hide hL
    refine wpAnyH_ready (rs := [2]) (by kernel_rfl) (by simp) ?_
    refine AllReadyH.cons rfl (fun K hK => ?_) AllReadyH.nil
    go_simp
    refine hK.out _ _ (unhide KP _ (gx1.more _)) (fun hH2 => ?_)
    clear hK K
    try simp only [Act.put, List.getElem_toArray, List.getElem_cons_succ, List.getElem_cons_zero, List.setIfInBounds_toArray, List.set_cons_zero, List.set_cons_succ]
    have hO := unhide OW y1 gx1
    obtain ⟨y2, hy2⟩ : ∃ y, y = y1.alloc (.cells #[.int .i64 A] 3) := ⟨_, rfl⟩
    have g12 : G y1 y2 := by rw [hy2]; exact G.alloc _ _
    rw [← hy2] at hH2 hO ⊢
    clear hy2
    replace hO := hide hO
    refine wpAnyH_ready (rs := [8]) (by kernel_rfl) (by simp) ?_
    refine AllReadyH.cons rfl (fun K hK => ?_) AllReadyH.nil
    obtain ⟨v3, x3, hrun, hL3, hg3⟩ := unhide AP y2 y2 _ (unhide hO) (G.refl _) (gx1.trans g12) v1 ((unhide hL).g g12)
    refine step_app rfl (.tmp 108) (.tmp 113) 32 rfl _ _ rfl rfl _ _ hrun ?_
    refine hK.out _ _ (unhide KP _ hg3) (fun hH3 => ?_)
    clear hK K hrun
    try simp only [Act.put, List.getElem_toArray, List.getElem_cons_succ, List.getElem_cons_zero, List.setIfInBounds_toArray, List.set_cons_zero, List.set_cons_succ]
    refine wpAnyH_take (i := 9) (v := v3) rfl (by kernel_rfl) (by kernel_rfl) (by kernel_rfl) (fun _ _ _ h => h) (Or.inl ⟨by rfl, fun w hSw => by obtain ⟨t0, t1, t2, t3, t4, t5, t6, t7, t8, t9, t10, t11⟩ := hSw; go_simp⟩) (by assumption) ?_
    try simp only [Act.put, List.getElem_toArray, List.getElem_cons_succ, List.getElem_cons_zero, List.setIfInBounds_toArray, List.set_cons_zero, List.set_cons_succ]
    refine wpAnyH_done (by kernel_rfl) (NoPanic.normal ?_) _
    have K : Hid (LTo w (rdP m ⟨24, A, B, C, D⟩) (.returned v3) x3) := hide ⟨v3, rfl, hL3, (unhide GW).trans hg3⟩
    clear hL3 hH3 hg3
    go_wp2_with fail
    refine bodyPost_ret (by simp [results, Try.results17, go_sem]; try rfl) rfl ?_
    exact unhide K
end Go.Proofs.Ytpbeafgfhnlmbaa
