/- Package verify: judgeOf. -/
import Derived.Test.YtnliooflpclcbaaGreatDoorMvC
import Derived.Test.YtnliooflpclcbaaGreatDoorLiveSm
namespace Go.Proofs.YtnliooflpclcbaaGreatDoor
set_option maxRecDepth 100000
open Go.RowKit Go.Maps Go.ChangeShapes Go.WideShapes Go.ChangeAt Go.Deep

theorem al2 (w : World) (a b : Array Value) (s t : TypeId) (W : World) (hW : W = (w.alloc (.cells a s)).alloc (.cells b t)) : (∀ i, W.cell? ⟨w.heap.size, i, none⟩ = a[i]?) ∧ (∀ i, W.cell? ⟨w.heap.size + 1, i, none⟩ = b[i]?) := by
  subst hW
  have h1 : (w.alloc (.cells a s)).heap.size = w.heap.size + 1 := World.size_alloc ..
  refine ⟨fun i => ?_, fun i => ?_⟩
  · rw [World.cell?_alloc_past _ _ _ (by omega), World.cell?_alloc_new]
  · rw [World.cell?_alloc_at _ _ _ _ (by omega)]
theorem build_judge (so : Option Addr) (sc : Nat) (go : Option Addr) (gc : Nat) (co : Option Addr) (cc : Nat) (ao : Option Addr) (ac : Nat) (fo : Option Addr) (fc : Nat) (q1 q2 q3 q4 q5 : Nat) (q6 fp fcc fs fr : Int) (ko : Option Addr) (kc : Nat) (io : Option Addr) (ic : Nat) (mo : Option Addr) (mc ln1 L ln3 mb : Nat) (tko : Option Addr) (N tc : Nat) (w : World) : (Instr.build 69 #[(0, .agg #[.slice so q2 sc, .slice go q3 gc, .slice co q4 cc, .slice ao q1 ac, .slice fo q5 fc, .int .i64 q6]), (1, .agg #[.int .i64 fp, .int .i64 fcc, .int .i64 fs, .int .i64 fr, .slice ko ln1 kc, .slice io L ic, .slice mo ln3 mc]), (2, .slice (some ⟨mb, 0, none⟩) L L), (4, .slice tko N tc)]).run Tryz.prog w = .ok (.agg #[.slice so q2 sc, .slice go q3 gc, .slice co q4 cc, .slice ao q1 ac, .slice fo q5 fc, .int .i64 q6, .int .i64 fp, .int .i64 fcc, .int .i64 fs, .int .i64 fr, .slice ko ln1 kc, .slice io L ic, .slice mo ln3 mc, .slice (some ⟨mb, 0, none⟩) L L, .slice none 0 0, .slice tko N tc]) w := by kernel_rfl
/-- The judge's cells. -/
abbrev judgeL (m : Md) (so : Option Addr) (sc : Nat) (go : Option Addr) (gc : Nat) (co : Option Addr) (cc : Nat) (ao : Option Addr) (ac : Nat) (fo : Option Addr) (fc : Nat) (f : Fn) (ko : Option Addr) (kc : Nat) (io : Option Addr) (ic : Nat) (mo : Option Addr) (mc : Nat) (mb : Nat) (tko : Option Addr) (N tc : Nat) : List Value := [.slice so m.sh.length sc, .slice go m.gl.length gc, .slice co m.co.length cc, .slice ao m.ca.length ac, .slice fo m.fn.length fc, .int .i64 m.main, .int .i64 f.p, .int .i64 f.c, .int .i64 f.s, .int .i64 f.r, .slice ko f.ks.length kc, .slice io f.is.length ic, .slice mo f.ms.length mc, .slice (some ⟨mb, 0, none⟩) f.is.length f.is.length, .slice none 0 0, .slice tko N tc]
/-- What judgeOf answers. -/
def JgTo (w : World) (m : Md) (so : Option Addr) (sc : Nat) (go : Option Addr) (gc : Nat) (co : Option Addr) (cc : Nat) (ao : Option Addr) (ac : Nat) (fo : Option Addr) (fc : Nat) (f : Fn) (ko : Option Addr) (kc : Nat) (io : Option Addr) (ic : Nat) (mo : Option Addr) (mc : Nat) (tko : Option Addr) (N tc : Nat) (e : Ending) (w' : World) : Prop :=
  ∃ jb mb st, e = .returned (.pointer (some ⟨jb, 0, none⟩)) ∧ jb < w'.heap.size ∧ w.heap.size ≤ jb ∧ CellsAt w' jb 0 (judgeL m so sc go gc co cc ao ac fo fc f ko kc io ic mo mc mb tko N tc) ∧ UAt w' mb f.is.length (fun k => st k &&& kndP f.ks) ∧ w.heap.size ≤ mb ∧ LeastD m f st ∧ G w w'
set_option maxHeartbeats 8000000 in
theorem judge_any (w : World) (m : Md) (so : Option Addr) (sc : Nat) (go : Option Addr) (gc : Nat) (co : Option Addr) (cc : Nat) (ao : Option Addr) (ac : Nat) (fo : Option Addr) (fc : Nat) (f : Fn) (ko : Option Addr) (kc : Nat) (io : Option Addr) (ic : Nat) (mo : Option Addr) (mc : Nat) (tko : Option Addr) (N tc : Nat) (h : ModR w m so sc go gc co cc ao ac fo fc) (hk : RowAt elB w ko f.ks.length kc f.ks) (hi : RowAt elIn w io f.is.length ic f.is) (hf : ∀ i ∈ f.is, oIn i) (oc : ∀ s ∈ m.ca, oCa s) (hB : f.is.length * (4 * m.ca.length) + f.is.length ≤ 100000) (hcl : m.ca.length ≤ 100000) (hkl : f.ks.length ≤ 1000000) :
    Calls Tryz.prog 16 #[agM m so sc go gc co cc ao ac fo fc, .agg #[.int .i64 f.p, .int .i64 f.c, .int .i64 f.s, .int .i64 f.r, .slice ko f.ks.length kc, .slice io f.is.length ic, .slice mo f.ms.length mc], .slice tko N tc] w (JgTo w m so sc go gc co cc ao ac fo fc f ko kc io ic mo mc tko N tc) := by
  have CM : Hid (∀ y, G w y → Calls Tryz.prog 8 #[.agg #[.slice so m.sh.length sc, .slice go m.gl.length gc, .slice co m.co.length cc, .slice ao m.ca.length ac, .slice fo m.fn.length fc, .int .i64 m.main], .agg #[.int .i64 f.p, .int .i64 f.c, .int .i64 f.s, .int .i64 f.r, .slice ko f.ks.length kc, .slice io f.is.length ic, .slice mo f.ms.length mc]] y fun e w' => ∃ st mb, e = .returned (.slice (some ⟨mb, 0, none⟩) f.is.length f.is.length) ∧ UAt w' mb f.is.length (fun k => st k &&& kndP f.ks) ∧ y.heap.size ≤ mb ∧ G y w' ∧ LeastD m f st) := hide fun y g => maps_any y m so sc go gc co cc ao ac fo fc f ko kc io ic mo mc (h.g g) (hk.g okB g) (hi.g okIn g) hf oc hB hcl hkl
  have KK : Hid (∀ z mb st, G w z → UAt z mb f.is.length (fun k => st k &&& kndP f.ks) → w.heap.size ≤ mb → LeastD m f st → JgTo w m so sc go gc co cc ao ac fo fc f ko kc io ic mo mc tko N tc (.returned (.pointer (some ⟨z.heap.size, 0, none⟩))) (z.alloc (.cells #[.slice so m.sh.length sc, .slice go m.gl.length gc, .slice co m.co.length cc, .slice ao m.ca.length ac, .slice fo m.fn.length fc, .int .i64 m.main, .int .i64 f.p, .int .i64 f.c, .int .i64 f.s, .int .i64 f.r, .slice ko f.ks.length kc, .slice io f.is.length ic, .slice mo f.ms.length mc, .slice (some ⟨mb, 0, none⟩) f.is.length f.is.length, .slice none 0 0, .slice tko N tc] 69))) := hide fun z mb st g hu hm hl =>
    ⟨z.heap.size, mb, st, rfl, by rw [World.size_alloc]; omega, g.size, fun j v hv => by rw [Nat.zero_add, World.cell?_alloc_new]; simpa using hv, hu.g (G.alloc _ _), hm, hl, g.more _⟩
  clear h hk hi hf oc hB hcl hkl
  unfold agM
  generalize m.ca.length = q1 at *
  generalize m.sh.length = q2 at *
  generalize m.gl.length = q3 at *
  generalize m.co.length = q4 at *
  generalize m.fn.length = q5 at *
  generalize m.main = q6 at *
  generalize f.p = fp at *
  generalize f.c = fcc at *
  generalize f.s = fs at *
  generalize f.r = fr at *
  generalize f.ks.length = ln1 at *
  generalize f.is.length = L at *
  generalize f.ms.length = ln3 at *
  obtain ⟨W1, hW1⟩ : ∃ W1, W1 = (w.alloc (.cells #[.slice so q2 sc, .slice go q3 gc, .slice co q4 cc, .slice ao q1 ac, .slice fo q5 fc, .int .i64 q6] 33)).alloc (.cells #[.int .i64 fp, .int .i64 fcc, .int .i64 fs, .int .i64 fr, .slice ko ln1 kc, .slice io L ic, .slice mo ln3 mc] 39) := ⟨_, rfl⟩
  have g1 : G w W1 := by rw [hW1]; exact (G.alloc _ _).more _
  obtain ⟨a0, a1⟩ := al2 w _ _ _ _ W1 hW1
  have S1 : G w W1 ∧ W1.cell? ⟨w.heap.size, 0, none⟩ = some (.slice so q2 sc) ∧ W1.cell? ⟨w.heap.size, 1, none⟩ = some (.slice go q3 gc) ∧ W1.cell? ⟨w.heap.size, 2, none⟩ = some (.slice co q4 cc) ∧ W1.cell? ⟨w.heap.size, 3, none⟩ = some (.slice ao q1 ac) ∧ W1.cell? ⟨w.heap.size, 4, none⟩ = some (.slice fo q5 fc) ∧ W1.cell? ⟨w.heap.size, 5, none⟩ = some (.int .i64 q6) ∧ W1.cell? ⟨w.heap.size + 1, 0, none⟩ = some (.int .i64 fp) ∧ W1.cell? ⟨w.heap.size + 1, 1, none⟩ = some (.int .i64 fcc) ∧ W1.cell? ⟨w.heap.size + 1, 2, none⟩ = some (.int .i64 fs) ∧ W1.cell? ⟨w.heap.size + 1, 3, none⟩ = some (.int .i64 fr) ∧ W1.cell? ⟨w.heap.size + 1, 4, none⟩ = some (.slice ko ln1 kc) ∧ W1.cell? ⟨w.heap.size + 1, 5, none⟩ = some (.slice io L ic) ∧ W1.cell? ⟨w.heap.size + 1, 6, none⟩ = some (.slice mo ln3 mc) := ⟨g1, a0 0, a0 1, a0 2, a0 3, a0 4, a0 5, a1 0, a1 1, a1 2, a1 3, a1 4, a1 5, a1 6⟩
  clear a0 a1 g1
  have KP : Hid (∀ y z, (G w y ∧ y.cell? ⟨w.heap.size, 0, none⟩ = some (.slice so q2 sc) ∧ y.cell? ⟨w.heap.size, 1, none⟩ = some (.slice go q3 gc) ∧ y.cell? ⟨w.heap.size, 2, none⟩ = some (.slice co q4 cc) ∧ y.cell? ⟨w.heap.size, 3, none⟩ = some (.slice ao q1 ac) ∧ y.cell? ⟨w.heap.size, 4, none⟩ = some (.slice fo q5 fc) ∧ y.cell? ⟨w.heap.size, 5, none⟩ = some (.int .i64 q6) ∧ y.cell? ⟨w.heap.size + 1, 0, none⟩ = some (.int .i64 fp) ∧ y.cell? ⟨w.heap.size + 1, 1, none⟩ = some (.int .i64 fcc) ∧ y.cell? ⟨w.heap.size + 1, 2, none⟩ = some (.int .i64 fs) ∧ y.cell? ⟨w.heap.size + 1, 3, none⟩ = some (.int .i64 fr) ∧ y.cell? ⟨w.heap.size + 1, 4, none⟩ = some (.slice ko ln1 kc) ∧ y.cell? ⟨w.heap.size + 1, 5, none⟩ = some (.slice io L ic) ∧ y.cell? ⟨w.heap.size + 1, 6, none⟩ = some (.slice mo ln3 mc)) → G y z → (G w z ∧ z.cell? ⟨w.heap.size, 0, none⟩ = some (.slice so q2 sc) ∧ z.cell? ⟨w.heap.size, 1, none⟩ = some (.slice go q3 gc) ∧ z.cell? ⟨w.heap.size, 2, none⟩ = some (.slice co q4 cc) ∧ z.cell? ⟨w.heap.size, 3, none⟩ = some (.slice ao q1 ac) ∧ z.cell? ⟨w.heap.size, 4, none⟩ = some (.slice fo q5 fc) ∧ z.cell? ⟨w.heap.size, 5, none⟩ = some (.int .i64 q6) ∧ z.cell? ⟨w.heap.size + 1, 0, none⟩ = some (.int .i64 fp) ∧ z.cell? ⟨w.heap.size + 1, 1, none⟩ = some (.int .i64 fcc) ∧ z.cell? ⟨w.heap.size + 1, 2, none⟩ = some (.int .i64 fs) ∧ z.cell? ⟨w.heap.size + 1, 3, none⟩ = some (.int .i64 fr) ∧ z.cell? ⟨w.heap.size + 1, 4, none⟩ = some (.slice ko ln1 kc) ∧ z.cell? ⟨w.heap.size + 1, 5, none⟩ = some (.slice io L ic) ∧ z.cell? ⟨w.heap.size + 1, 6, none⟩ = some (.slice mo ln3 mc))) := hide fun y z h g => by
    obtain ⟨t0, t1, t2, t3, t4, t5, t6, t7, t8, t9, t10, t11, t12, t13⟩ := h
    exact ⟨t0.trans g, g.cell t1, g.cell t2, g.cell t3, g.cell t4, g.cell t5, g.cell t6, g.cell t7, g.cell t8, g.cell t9, g.cell t10, g.cell t11, g.cell t12, g.cell t13⟩
  replace S1 := hide S1
  go_enter Tryz.func16, Tryz.ntmps16
  go_upto_region 1 with fail
  rw [← hW1]
  clear hW1
  refine wp_region_noPanic ?_
  refine wp_region_held_drew (S := fun y => G w y ∧ y.cell? ⟨w.heap.size, 0, none⟩ = some (.slice so q2 sc) ∧ y.cell? ⟨w.heap.size, 1, none⟩ = some (.slice go q3 gc) ∧ y.cell? ⟨w.heap.size, 2, none⟩ = some (.slice co q4 cc) ∧ y.cell? ⟨w.heap.size, 3, none⟩ = some (.slice ao q1 ac) ∧ y.cell? ⟨w.heap.size, 4, none⟩ = some (.slice fo q5 fc) ∧ y.cell? ⟨w.heap.size, 5, none⟩ = some (.int .i64 q6) ∧ y.cell? ⟨w.heap.size + 1, 0, none⟩ = some (.int .i64 fp) ∧ y.cell? ⟨w.heap.size + 1, 1, none⟩ = some (.int .i64 fcc) ∧ y.cell? ⟨w.heap.size + 1, 2, none⟩ = some (.int .i64 fs) ∧ y.cell? ⟨w.heap.size + 1, 3, none⟩ = some (.int .i64 fr) ∧ y.cell? ⟨w.heap.size + 1, 4, none⟩ = some (.slice ko ln1 kc) ∧ y.cell? ⟨w.heap.size + 1, 5, none⟩ = some (.slice io L ic) ∧ y.cell? ⟨w.heap.size + 1, 6, none⟩ = some (.slice mo ln3 mc)) (by kernel_rfl) (unhide KP _ _ (unhide S1) (G.drewN W1 1)) (fun hHeld => ?_)
  obtain ⟨y1, hy1⟩ : ∃ y, y = W1.drew := ⟨_, rfl⟩
  rw [← hy1] at hHeld ⊢
  clear hy1
  refine wpAnyH_take (i := 0) (v := .agg #[.slice so q2 sc, .slice go q3 gc, .slice co q4 cc, .slice ao q1 ac, .slice fo q5 fc, .int .i64 q6]) rfl (by kernel_rfl) (by kernel_rfl) (by kernel_rfl) (fun _ _ _ h => h) (Or.inl ⟨by rfl, fun w hSw => by obtain ⟨t0, t1, t2, t3, t4, t5, t6, t7, t8, t9, t10, t11, t12, t13⟩ := hSw; go_simp⟩) (by assumption) ?_
  try simp only [Act.put, List.getElem_toArray, List.getElem_cons_zero, List.setIfInBounds_toArray, List.set_cons_zero, List.set_cons_succ]
  refine wpAnyH_take (i := 1) (v := .agg #[.int .i64 fp, .int .i64 fcc, .int .i64 fs, .int .i64 fr, .slice ko ln1 kc, .slice io L ic, .slice mo ln3 mc]) rfl (by kernel_rfl) (by kernel_rfl) (by kernel_rfl) (fun _ _ _ h => h) (Or.inl ⟨by rfl, fun w hSw => by obtain ⟨t0, t1, t2, t3, t4, t5, t6, t7, t8, t9, t10, t11, t12, t13⟩ := hSw; go_simp⟩) (by assumption) ?_
  try simp only [Act.put, List.getElem_toArray, List.getElem_cons_succ, List.getElem_cons_zero, List.setIfInBounds_toArray, List.set_cons_zero, List.set_cons_succ]
  refine wpAnyH_take (i := 2) (v := .agg #[.slice so q2 sc, .slice go q3 gc, .slice co q4 cc, .slice ao q1 ac, .slice fo q5 fc, .int .i64 q6]) rfl (by kernel_rfl) (by kernel_rfl) (by kernel_rfl) (fun _ _ _ h => h) (Or.inl ⟨by rfl, fun w hSw => by obtain ⟨t0, t1, t2, t3, t4, t5, t6, t7, t8, t9, t10, t11, t12, t13⟩ := hSw; go_simp⟩) (by assumption) ?_
  try simp only [Act.put, List.getElem_toArray, List.getElem_cons_succ, List.getElem_cons_zero, List.setIfInBounds_toArray, List.set_cons_zero, List.set_cons_succ]
  refine wpAnyH_take (i := 3) (v := .agg #[.int .i64 fp, .int .i64 fcc, .int .i64 fs, .int .i64 fr, .slice ko ln1 kc, .slice io L ic, .slice mo ln3 mc]) rfl (by kernel_rfl) (by kernel_rfl) (by kernel_rfl) (fun _ _ _ h => h) (Or.inl ⟨by rfl, fun w hSw => by obtain ⟨t0, t1, t2, t3, t4, t5, t6, t7, t8, t9, t10, t11, t12, t13⟩ := hSw; go_simp⟩) (by assumption) ?_
  try simp only [Act.put, List.getElem_toArray, List.getElem_cons_succ, List.getElem_cons_zero, List.setIfInBounds_toArray, List.set_cons_zero, List.set_cons_succ]
  refine wpAnyH_take (i := 5) (v := .slice tko N tc) rfl (by kernel_rfl) (by kernel_rfl) (by kernel_rfl) (fun _ _ _ h => h) (Or.inl ⟨by rfl, fun w hSw => by obtain ⟨t0, t1, t2, t3, t4, t5, t6, t7, t8, t9, t10, t11, t12, t13⟩ := hSw; go_simp⟩) (by assumption) ?_
  try simp only [Act.put, List.getElem_toArray, List.getElem_cons_succ, List.getElem_cons_zero, List.setIfInBounds_toArray, List.set_cons_zero, List.set_cons_succ]
  refine wpAnyH_ready (rs := [4]) (by kernel_rfl) (by simp) ?_
  refine AllReadyH.cons rfl (fun K hK => ?_) AllReadyH.nil
  go_simp
  refine (unhide CM _ hHeld.1).mono ?_
  rintro e x1 ⟨st, mb, rfl, hu, hm, hg1, hl⟩
  go_wp2_with fail
  refine hK.out _ _ (unhide KP _ _ hHeld hg1) (fun hH1 => ?_)
  have hm2 : w.heap.size ≤ mb := Nat.le_trans hHeld.1.size hm
  replace hu := hide hu
  replace hl := hide hl
  clear hK K hHeld hm hg1 CM
  try simp only [Act.put, List.getElem_toArray, List.getElem_cons_succ, List.getElem_cons_zero, List.setIfInBounds_toArray, List.set_cons_zero, List.set_cons_succ]
  refine wpAnyH_take (i := 6) (v := .agg #[.slice so q2 sc, .slice go q3 gc, .slice co q4 cc, .slice ao q1 ac, .slice fo q5 fc, .int .i64 q6, .int .i64 fp, .int .i64 fcc, .int .i64 fs, .int .i64 fr, .slice ko ln1 kc, .slice io L ic, .slice mo ln3 mc, .slice (some ⟨mb, 0, none⟩) L L, .slice none 0 0, .slice tko N tc]) rfl (by kernel_rfl) (by kernel_rfl) (by kernel_rfl) (fun _ _ _ h => h) (Or.inl ⟨by rfl, fun w hSw => by obtain ⟨t0, t1, t2, t3, t4, t5, t6, t7, t8, t9, t10, t11, t12, t13⟩ := hSw; have hb := build_judge so sc go gc co cc ao ac fo fc q1 q2 q3 q4 q5 q6 fp fcc fs fr ko kc io ic mo mc ln1 L ln3 mb tko N tc; go_simp⟩) (by assumption) ?_
  try simp only [Act.put, List.getElem_toArray, List.getElem_cons_succ, List.getElem_cons_zero, List.setIfInBounds_toArray, List.set_cons_zero, List.set_cons_succ]
  refine wpAnyH_ready (rs := [7]) (by kernel_rfl) (by simp) ?_
  refine AllReadyH.cons rfl (fun K hK => ?_) AllReadyH.nil
  go_wp2_with fail
  refine hK.out _ _ (unhide KP _ _ hH1 (G.alloc x1 _)) (fun hH2 => ?_)
  clear hK K
  try simp only [Act.put, List.getElem_toArray, List.getElem_cons_succ, List.getElem_cons_zero, List.setIfInBounds_toArray, List.set_cons_zero, List.set_cons_succ]
  refine wpAnyH_take (i := 8) (v := .pointer (some ⟨x1.heap.size, 0, none⟩)) rfl (by kernel_rfl) (by kernel_rfl) (by kernel_rfl) (fun _ _ _ h => h) (Or.inl ⟨by rfl, fun w hSw => by go_simp⟩) (by assumption) ?_
  try simp only [Act.put, List.getElem_toArray, List.getElem_cons_succ, List.getElem_cons_zero, List.setIfInBounds_toArray, List.set_cons_zero, List.set_cons_succ]
  refine wpAnyH_done (by kernel_rfl) (NoPanic.normal ?_) _
  have K := hide (unhide KK x1 mb st hH1.1 (unhide hu) hm2 (unhide hl))
  clear hH1 hH2 hu hl KK KP S1
  go_wp2_with fail
  refine bodyPost_ret (by simp [results, Tryz.results16, go_sem]; try rfl) rfl ?_
  exact unhide K
end Go.Proofs.YtnliooflpclcbaaGreatDoor
