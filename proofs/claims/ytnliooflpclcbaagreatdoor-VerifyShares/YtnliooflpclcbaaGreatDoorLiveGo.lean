/- graphOf of package live. -/
import Derived.Test.YtnliooflpclcbaaGreatDoorLiveGo1
import Derived.Test.YtnliooflpclcbaaGreatDoorLiveCase
import Derived.Test.YtnliooflpclcbaaGreatDoorLiveSettle
namespace Go.Proofs.YtnliooflpclcbaaGreatDoor
set_option maxRecDepth 100000
open Go.RowKit Go.Maps Go.ChangeShapes Go.WideShapes Go.ChangeAt Go.Deep

set_option maxHeartbeats 4000000 in
theorem graphOf_any (w : World) (m : Md) (so : Option Addr) (sc : Nat) (go : Option Addr) (gc : Nat) (co : Option Addr) (cc : Nat) (ao : Option Addr) (ac : Nat) (fo : Option Addr) (fc : Nat) (f : Fn) (ko : Option Addr) (kc : Nat) (io : Option Addr) (ic : Nat) (mo : Option Addr) (mc : Nat) (h : ModR w m so sc go gc co cc ao ac fo fc) (hi : RowAt elIn w io f.is.length ic f.is) (hf : ∀ i ∈ f.is, oIn i) (oc : ∀ s ∈ m.ca, oCa s) (hB : f.is.length * (4 * m.ca.length) + f.is.length ≤ 100000) (hcl : m.ca.length ≤ 100000) :
    Calls Tryz.prog 18 #[.agg #[.slice so m.sh.length sc, .slice go m.gl.length gc, .slice co m.co.length cc, .slice ao m.ca.length ac, .slice fo m.fn.length fc, .int .i64 m.main], .agg #[.int .i64 f.p, .int .i64 f.c, .int .i64 f.s, .int .i64 f.r, .slice ko f.ks.length kc, .slice io f.is.length ic, .slice mo f.ms.length mc]] w (GoTo w m f) := by
  obtain ⟨W0, hW0⟩ : ∃ W0, W0 = (w.alloc (.cells #[.slice so m.sh.length sc, .slice go m.gl.length gc, .slice co m.co.length cc, .slice ao m.ca.length ac, .slice fo m.fn.length fc, .int .i64 m.main] 33)).alloc (.cells #[.int .i64 f.p, .int .i64 f.c, .int .i64 f.s, .int .i64 f.r, .slice ko f.ks.length kc, .slice io f.is.length ic, .slice mo f.ms.length mc] 39) := ⟨_, rfl⟩
  have g0 : G w W0 := by rw [hW0]; exact ((G.refl w).more _).more _
  have hs0 : W0.heap.size = w.heap.size + 2 := by rw [hW0, World.size_alloc, World.size_alloc]
  have KP : Hid (∀ x, G W0 x → G W0 x ∧ x.cell? ⟨w.heap.size, 0, none⟩ = some (.slice so m.sh.length sc) ∧ x.cell? ⟨w.heap.size, 1, none⟩ = some (.slice go m.gl.length gc) ∧ x.cell? ⟨w.heap.size, 2, none⟩ = some (.slice co m.co.length cc) ∧ x.cell? ⟨w.heap.size, 3, none⟩ = some (.slice ao m.ca.length ac) ∧ x.cell? ⟨w.heap.size, 4, none⟩ = some (.slice fo m.fn.length fc) ∧ x.cell? ⟨w.heap.size, 5, none⟩ = some (.int .i64 m.main) ∧ x.cell? ⟨w.heap.size + 1, 0, none⟩ = some (.int .i64 f.p) ∧ x.cell? ⟨w.heap.size + 1, 1, none⟩ = some (.int .i64 f.c) ∧ x.cell? ⟨w.heap.size + 1, 2, none⟩ = some (.int .i64 f.s) ∧ x.cell? ⟨w.heap.size + 1, 3, none⟩ = some (.int .i64 f.r) ∧ x.cell? ⟨w.heap.size + 1, 4, none⟩ = some (.slice ko f.ks.length kc) ∧ x.cell? ⟨w.heap.size + 1, 5, none⟩ = some (.slice io f.is.length ic) ∧ x.cell? ⟨w.heap.size + 1, 6, none⟩ = some (.slice mo f.ms.length mc)) := hide fun x g => ⟨g, g.cell (by rw [hW0]; simp [go_sem]), g.cell (by rw [hW0]; simp [go_sem]), g.cell (by rw [hW0]; simp [go_sem]), g.cell (by rw [hW0]; simp [go_sem]), g.cell (by rw [hW0]; simp [go_sem]), g.cell (by rw [hW0]; simp [go_sem]), g.cell (by rw [hW0]; simp [go_sem]), g.cell (by rw [hW0]; simp [go_sem]), g.cell (by rw [hW0]; simp [go_sem]), g.cell (by rw [hW0]; simp [go_sem]), g.cell (by rw [hW0]; simp [go_sem]), g.cell (by rw [hW0]; simp [go_sem]), g.cell (by rw [hW0]; simp [go_sem])⟩
  obtain ⟨n0, hn0⟩ : ∃ n0, n0 = f.is.length := ⟨_, rfl⟩
  obtain ⟨hd, hhd⟩ : ∃ hd, hd = (hdV m so sc go gc co cc ao ac fo fc f ko kc io ic mo mc) := ⟨_, rfl⟩
  have hn1 : n0 ≤ 100000 := by omega
  have MK : Hid (∀ y : World, (Instr.makeSlice 58 (.int .i64 (n0 : Int)) (.int .i64 (n0 : Int))).run Tryz.prog y = .ok (.slice (some ⟨y.heap.size, 0, none⟩) n0 n0) (y.alloc (mkN n0))) := hide (fun y => mk_nodes n0 (by omega) y)
  have GS : Hid (∀ x rb mb, x.heap[rb]? = some (mkN n0) → x.heap[mb]? = some (.map #[] 0) → mb ≠ rb → W0.heap.size ≤ rb → W0.heap.size ≤ mb → G W0 x → LpI W0 (x.alloc (.cells #[.slice so m.sh.length sc, .slice go m.gl.length gc, .slice co m.co.length cc, .slice ao m.ca.length ac, .slice fo m.fn.length fc, .int .i64 m.main, .int .i64 f.p, .int .i64 f.c, .int .i64 f.s, .int .i64 f.r, .slice ko f.ks.length kc, .slice io f.is.length ic, .slice mo f.ms.length mc, .slice (some ⟨rb, 0, none⟩) n0 n0, .map (some mb)] 61)) x.heap.size mb rb n0 n0 hd m f (List.replicate n0 (0, 0, [])) [] 0 ∧ W0.heap.size ≤ x.heap.size) := hide fun x rb mb h1 h2 hne b1 b2 g => by
    rw [hhd]
    exact ⟨⟨gx_start x W0.heap.size rb mb n0 (hdV m so sc go gc co cc ao ac fo fc f ko kc io ic mo mc) rfl (by omega) h1 h2 hne b1 b2 g.size, g.more _, ⟨by simp, fun q s hq => by simp at hq⟩, fun j i hj _ => by omega, by simp⟩, g.size⟩
  rw [← hn0] at hB
  have h0 := hide (h.g g0)
  have hi0 := hide (hi.g okIn g0)
  replace g0 := hide g0
  replace hs0 := hide hs0
  replace hB := hide hB
  replace hcl := hide hcl
  replace hf := hide hf
  replace oc := hide oc
  replace hn0 := hide hn0
  replace hhd := hide hhd
  have gd : Hid (G W0 W0.drew) := hide ((G.refl W0).drew)
  have hfl : Hid (f.is.length = n0) := hide (unhide hn0).symm
  rw [unhide hfl] at hW0 KP ⊢
  clear h hi
  go_enter Tryz.func18, Tryz.ntmps18
  go_upto_region 1 with fail
  rw [← hW0]
  clear hW0
  go_cut [5] (fun q wx => ∃ gB mb rb, q = .pointer (some ⟨gB, 0, none⟩) ∧ Hid (LpI W0 wx gB mb rb n0 n0 hd m f (List.replicate n0 (0, 0, [])) [] 0 ∧ W0.heap.size ≤ gB))
  case first =>
    refine wp_region_noPanic ?_
    refine wp_region_held_drew (S := fun x => G W0 x ∧ x.cell? ⟨w.heap.size, 0, none⟩ = some (.slice so m.sh.length sc) ∧ x.cell? ⟨w.heap.size, 1, none⟩ = some (.slice go m.gl.length gc) ∧ x.cell? ⟨w.heap.size, 2, none⟩ = some (.slice co m.co.length cc) ∧ x.cell? ⟨w.heap.size, 3, none⟩ = some (.slice ao m.ca.length ac) ∧ x.cell? ⟨w.heap.size, 4, none⟩ = some (.slice fo m.fn.length fc) ∧ x.cell? ⟨w.heap.size, 5, none⟩ = some (.int .i64 m.main) ∧ x.cell? ⟨w.heap.size + 1, 0, none⟩ = some (.int .i64 f.p) ∧ x.cell? ⟨w.heap.size + 1, 1, none⟩ = some (.int .i64 f.c) ∧ x.cell? ⟨w.heap.size + 1, 2, none⟩ = some (.int .i64 f.s) ∧ x.cell? ⟨w.heap.size + 1, 3, none⟩ = some (.int .i64 f.r) ∧ x.cell? ⟨w.heap.size + 1, 4, none⟩ = some (.slice ko f.ks.length kc) ∧ x.cell? ⟨w.heap.size + 1, 5, none⟩ = some (.slice io n0 ic) ∧ x.cell? ⟨w.heap.size + 1, 6, none⟩ = some (.slice mo f.ms.length mc)) (by kernel_rfl) (unhide KP _ (unhide gd)) (fun hHeld => ?_)
    obtain ⟨y0, hy0⟩ : ∃ y, y = W0.drew := ⟨_, rfl⟩
    rw [← hy0] at hHeld gd ⊢
    have s0 := (unhide gd).size
    clear hy0
    refine wpAnyH_take (i := 0) (v := .agg #[.slice so m.sh.length sc, .slice go m.gl.length gc, .slice co m.co.length cc, .slice ao m.ca.length ac, .slice fo m.fn.length fc, .int .i64 m.main]) rfl (by kernel_rfl) (by kernel_rfl) (by kernel_rfl) (fun _ _ _ h => h) (Or.inl ⟨by rfl, fun w hSw => by obtain ⟨t0, t1, t2, t3, t4, t5, t6, t7, t8, t9, t10, t11, t12, t13⟩ := hSw; go_simp⟩) (by assumption) ?_
    try simp only [Act.put, List.getElem_toArray, List.getElem_cons_zero, List.setIfInBounds_toArray, List.set_cons_zero, List.set_cons_succ]
    refine wpAnyH_take (i := 1) (v := .agg #[.int .i64 f.p, .int .i64 f.c, .int .i64 f.s, .int .i64 f.r, .slice ko f.ks.length kc, .slice io n0 ic, .slice mo f.ms.length mc]) rfl (by kernel_rfl) (by kernel_rfl) (by kernel_rfl) (fun _ _ _ h => h) (Or.inl ⟨by rfl, fun w hSw => by obtain ⟨t0, t1, t2, t3, t4, t5, t6, t7, t8, t9, t10, t11, t12, t13⟩ := hSw; go_simp⟩) (by assumption) ?_
    try simp only [Act.put, List.getElem_toArray, List.getElem_cons_succ, List.getElem_cons_zero, List.setIfInBounds_toArray, List.set_cons_zero, List.set_cons_succ]
    refine wpAnyH_take (i := 2) (v := .pointer (some ⟨w.heap.size + 1, 5, none⟩)) rfl (by kernel_rfl) (by kernel_rfl) (by kernel_rfl) (fun _ _ _ h => h) (Or.inl ⟨by rfl, fun w hSw => by obtain ⟨t0, t1, t2, t3, t4, t5, t6, t7, t8, t9, t10, t11, t12, t13⟩ := hSw; go_simp⟩) (by assumption) ?_
    try simp only [Act.put, List.getElem_toArray, List.getElem_cons_succ, List.getElem_cons_zero, List.setIfInBounds_toArray, List.set_cons_zero, List.set_cons_succ]
    refine wpAnyH_take (i := 3) (v := .slice io n0 ic) rfl (by kernel_rfl) (by kernel_rfl) (by kernel_rfl) (fun _ _ _ h => h) (Or.inl ⟨by rfl, fun w hSw => by obtain ⟨t0, t1, t2, t3, t4, t5, t6, t7, t8, t9, t10, t11, t12, t13⟩ := hSw; go_simp⟩) (by assumption) ?_
    try simp only [Act.put, List.getElem_toArray, List.getElem_cons_succ, List.getElem_cons_zero, List.setIfInBounds_toArray, List.set_cons_zero, List.set_cons_succ]
    refine wpAnyH_take (i := 4) (v := .int .i64 (n0 : Int)) rfl (by kernel_rfl) (by kernel_rfl) (by kernel_rfl) (fun _ _ _ h => h) (Or.inl ⟨by rfl, fun w hSw => by obtain ⟨t0, t1, t2, t3, t4, t5, t6, t7, t8, t9, t10, t11, t12, t13⟩ := hSw; go_simp⟩) (by assumption) ?_
    try simp only [Act.put, List.getElem_toArray, List.getElem_cons_succ, List.getElem_cons_zero, List.setIfInBounds_toArray, List.set_cons_zero, List.set_cons_succ]
    refine wpAnyH_ready (rs := [5, 6]) (by kernel_rfl) (by simp) ?_
    refine AllReadyH.cons rfl (fun K hK => ?_) (AllReadyH.cons rfl (fun K hK => ?_) AllReadyH.nil)
    · have hmk := unhide MK y0
      go_simp
      refine hK.out _ _ (unhide KP _ (hHeld.1.more _)) (fun hH1 => ?_)
      clear hK K
      try simp only [Act.put, List.getElem_toArray, List.getElem_cons_succ, List.getElem_cons_zero, List.setIfInBounds_toArray, List.set_cons_zero, List.set_cons_succ]
      obtain ⟨y1, hy1⟩ : ∃ y, y = y0.alloc (mkN n0) := ⟨_, rfl⟩
      have s1 : y1.heap.size = y0.heap.size + 1 := by rw [hy1]; exact World.size_alloc _ _
      have b1 : y1.heap[y0.heap.size]? = some (mkN n0) := by rw [hy1]; exact heap_alloc_new y0 _
      rw [← hy1] at hH1 ⊢
      clear hy1
      clear hmk
      refine wpAnyH_ready (rs := [6]) (by kernel_rfl) (by simp) ?_
      refine AllReadyH.cons rfl (fun K hK => ?_) AllReadyH.nil
      have hmm := @run_makeMap Tryz.prog
      go_simp
      refine hK.out _ _ (unhide KP _ (hH1.1.more _)) (fun hH2 => ?_)
      clear hK K
      try simp only [Act.put, List.getElem_toArray, List.getElem_cons_succ, List.getElem_cons_zero, List.setIfInBounds_toArray, List.set_cons_zero, List.set_cons_succ]
      obtain ⟨y2, hy2⟩ : ∃ y, y = y1.alloc (.map #[] 0) := ⟨_, rfl⟩
      have s2 : y2.heap.size = y1.heap.size + 1 := by rw [hy2]; exact World.size_alloc _ _
      have b2 : y2.heap[y1.heap.size]? = some (.map #[] 0) := by rw [hy2]; exact heap_alloc_new y1 _
      have b3 : y2.heap[y0.heap.size]? = some (mkN n0) := by rw [hy2, _root_.Go.heap_alloc_old _ _ (by omega)]; exact b1
      rw [← hy2] at hH2 ⊢
      clear hy2
      refine wpAnyH_take (i := 7) (v := .agg #[.slice so m.sh.length sc, .slice go m.gl.length gc, .slice co m.co.length cc, .slice ao m.ca.length ac, .slice fo m.fn.length fc, .int .i64 m.main, .int .i64 f.p, .int .i64 f.c, .int .i64 f.s, .int .i64 f.r, .slice ko f.ks.length kc, .slice io n0 ic, .slice mo f.ms.length mc, .slice (some ⟨y0.heap.size, 0, none⟩) n0 n0, .map (some y1.heap.size)]) rfl (by kernel_rfl) (by kernel_rfl) (by kernel_rfl) (fun _ _ _ h => h) (Or.inl ⟨by rfl, fun w hSw => by obtain ⟨t0, t1, t2, t3, t4, t5, t6, t7, t8, t9, t10, t11, t12, t13⟩ := hSw; go_simp⟩) (by assumption) ?_
      try simp only [Act.put, List.getElem_toArray, List.getElem_cons_succ, List.getElem_cons_zero, List.setIfInBounds_toArray, List.set_cons_zero, List.set_cons_succ]
      have LF := hide (unhide GS y2 y0.heap.size y1.heap.size b3 b2 (by omega) (by omega) (by omega) hH2.1)
      rw [unhide hfl] at LF
      clear b1 b2 b3 s0 s1 s2 
      refine wpAnyH_ready (rs := [8]) (by kernel_rfl) (by simp) ?_
      refine AllReadyH.cons rfl (fun K hK => ?_) AllReadyH.nil
      go_simp
      refine hK.out _ _ (unhide KP _ (hH2.1.more _)) (fun hH3 => ?_)
      clear hK K
      try simp only [Act.put, List.getElem_toArray, List.getElem_cons_succ, List.getElem_cons_zero, List.setIfInBounds_toArray, List.set_cons_zero, List.set_cons_succ]
      refine wpAnyH_take (i := 9) (v := .pointer (some ⟨y2.heap.size, 0, none⟩)) rfl (by kernel_rfl) (by kernel_rfl) (by kernel_rfl) (fun _ _ _ h => h) (Or.inl ⟨by rfl, fun w hSw => by obtain ⟨t0, t1, t2, t3, t4, t5, t6, t7, t8, t9, t10, t11, t12, t13⟩ := hSw; go_simp⟩) (by assumption) ?_
      try simp only [Act.put, List.getElem_toArray, List.getElem_cons_succ, List.getElem_cons_zero, List.setIfInBounds_toArray, List.set_cons_zero, List.set_cons_succ]
      refine wpAnyH_done (by kernel_rfl) (NoPanic.normal ?_) _
      go_wp2_with fail
      go_meet
      exact ⟨_, _, _, rfl, LF⟩
    · have hmm := @run_makeMap Tryz.prog
      go_simp
      refine hK.out _ _ (unhide KP _ (hHeld.1.more _)) (fun hH1 => ?_)
      clear hK K
      try simp only [Act.put, List.getElem_toArray, List.getElem_cons_succ, List.getElem_cons_zero, List.setIfInBounds_toArray, List.set_cons_zero, List.set_cons_succ]
      obtain ⟨y1, hy1⟩ : ∃ y, y = y0.alloc (.map #[] 0) := ⟨_, rfl⟩
      have s1 : y1.heap.size = y0.heap.size + 1 := by rw [hy1]; exact World.size_alloc _ _
      have b1 : y1.heap[y0.heap.size]? = some (.map #[] 0) := by rw [hy1]; exact heap_alloc_new y0 _
      rw [← hy1] at hH1 ⊢
      clear hy1
      refine wpAnyH_ready (rs := [5]) (by kernel_rfl) (by simp) ?_
      refine AllReadyH.cons rfl (fun K hK => ?_) AllReadyH.nil
      have hmk := unhide MK y1
      go_simp
      refine hK.out _ _ (unhide KP _ (hH1.1.more _)) (fun hH2 => ?_)
      clear hK K
      try simp only [Act.put, List.getElem_toArray, List.getElem_cons_succ, List.getElem_cons_zero, List.setIfInBounds_toArray, List.set_cons_zero, List.set_cons_succ]
      obtain ⟨y2, hy2⟩ : ∃ y, y = y1.alloc (mkN n0) := ⟨_, rfl⟩
      have s2 : y2.heap.size = y1.heap.size + 1 := by rw [hy2]; exact World.size_alloc _ _
      have b2 : y2.heap[y1.heap.size]? = some (mkN n0) := by rw [hy2]; exact heap_alloc_new y1 _
      have b3 : y2.heap[y0.heap.size]? = some (.map #[] 0) := by rw [hy2, _root_.Go.heap_alloc_old _ _ (by omega)]; exact b1
      rw [← hy2] at hH2 ⊢
      clear hy2
      refine wpAnyH_take (i := 7) (v := .agg #[.slice so m.sh.length sc, .slice go m.gl.length gc, .slice co m.co.length cc, .slice ao m.ca.length ac, .slice fo m.fn.length fc, .int .i64 m.main, .int .i64 f.p, .int .i64 f.c, .int .i64 f.s, .int .i64 f.r, .slice ko f.ks.length kc, .slice io n0 ic, .slice mo f.ms.length mc, .slice (some ⟨y1.heap.size, 0, none⟩) n0 n0, .map (some y0.heap.size)]) rfl (by kernel_rfl) (by kernel_rfl) (by kernel_rfl) (fun _ _ _ h => h) (Or.inl ⟨by rfl, fun w hSw => by obtain ⟨t0, t1, t2, t3, t4, t5, t6, t7, t8, t9, t10, t11, t12, t13⟩ := hSw; go_simp⟩) (by assumption) ?_
      try simp only [Act.put, List.getElem_toArray, List.getElem_cons_succ, List.getElem_cons_zero, List.setIfInBounds_toArray, List.set_cons_zero, List.set_cons_succ]
      have LF := hide (unhide GS y2 y1.heap.size y0.heap.size b2 b3 (by omega) (by omega) (by omega) hH2.1)
      rw [unhide hfl] at LF
      clear b1 b2 b3 s0 s1 s2 hmk
      refine wpAnyH_ready (rs := [8]) (by kernel_rfl) (by simp) ?_
      refine AllReadyH.cons rfl (fun K hK => ?_) AllReadyH.nil
      go_simp
      refine hK.out _ _ (unhide KP _ (hH2.1.more _)) (fun hH3 => ?_)
      clear hK K
      try simp only [Act.put, List.getElem_toArray, List.getElem_cons_succ, List.getElem_cons_zero, List.setIfInBounds_toArray, List.set_cons_zero, List.set_cons_succ]
      refine wpAnyH_take (i := 9) (v := .pointer (some ⟨y2.heap.size, 0, none⟩)) rfl (by kernel_rfl) (by kernel_rfl) (by kernel_rfl) (fun _ _ _ h => h) (Or.inl ⟨by rfl, fun w hSw => by obtain ⟨t0, t1, t2, t3, t4, t5, t6, t7, t8, t9, t10, t11, t12, t13⟩ := hSw; go_simp⟩) (by assumption) ?_
      try simp only [Act.put, List.getElem_toArray, List.getElem_cons_succ, List.getElem_cons_zero, List.setIfInBounds_toArray, List.set_cons_zero, List.set_cons_succ]
      refine wpAnyH_done (by kernel_rfl) (NoPanic.normal ?_) _
      go_wp2_with fail
      go_meet
      exact ⟨_, _, _, rfl, LF⟩
  case rest =>
    obtain ⟨gB, mb, rb0, rfl, H0⟩ := hcut
    have FINA : Hid (∀ rb cap ns l wr, LpI W0 wr gB mb rb cap n0 hd m f ns l n0 → GoTo w m f (.returned (.pointer (some ⟨gB, 0, none⟩))) wr) := hide fun rb cap ns l wr H => by
      have e0 := unhide hs0
      have e1 := (unhide H0).2
      have e2 := H.gx.rl
      have hB' := unhide hB
      have hnl := H.ok.len
      have hln := H.ln
      have hG : GOK m f ns l := ⟨by rw [← unhide hn0]; exact H.ok, fun pc i hi => H.ins pc i (by have := (List.getElem?_eq_some_iff.1 hi).1; have := unhide hn0; omega) hi⟩
      have hNd := fun k n hk => gok_nodes hG k n hk
      refine ⟨gB, rb, ns, l, rfl, (unhide g0).trans H.g, by omega, by omega, hG, gr_of H.gx hNd, by omega, ?_⟩
      refine Nat.le_trans (tot_le _ _ (fun k hk => ?_)) (by omega)
      have := hNd k ns[k] (List.getElem?_eq_getElem hk)
      show (ndAt ns k).2.2.length ≤ 2
      rw [ndAt_eq (List.getElem?_eq_getElem hk)]
      exact this.2.2.1
    have hK0 := unhide KP wc (unhide H0).1.g
    obtain ⟨_, bx0, bx1, bx2, bx3, bx4, bx5, bx6, bx7, bx8, bx9, bx10, bx11, bx12⟩ := hK0
    have hn2 : Hid (n0 ≤ 100000) := hide hn1
    have GETI : Hid (∀ k, k < n0 → ∃ b off op A B C D, io = some ⟨b, off, none⟩ ∧ f.is[k]? = some ⟨op, A, B, C, D⟩ ∧ ∀ x, G W0 x → x.cell? ⟨b, off + k * 5, none⟩ = some (.int .i64 op) ∧ x.cell? ⟨b, off + k * 5 + 1, none⟩ = some (.int .i64 A) ∧ x.cell? ⟨b, off + k * 5 + 2, none⟩ = some (.int .i64 B) ∧ x.cell? ⟨b, off + k * 5 + 3, none⟩ = some (.int .i64 C) ∧ x.cell? ⟨b, off + k * 5 + 4, none⟩ = some (.int .i64 D)) := hide fun k hk => by
      obtain ⟨b, off, i', cs, e, ha, ecs, hcs⟩ := row_get (unhide hi0) (k := k) (by have := unhide hfl; omega)
      obtain ⟨op, A, B, C, D⟩ := i'
      have ecs : cs = [.int .i64 op, .int .i64 A, .int .i64 B, .int .i64 C, .int .i64 D] := ecs
      subst ecs
      exact ⟨b, off, op, A, B, C, D, e, ha, fun x g => ⟨hcs x g 0 _ rfl, hcs x g 1 _ rfl, hcs x g 2 _ rfl, hcs x g 3 _ rfl, hcs x g 4 _ rfl⟩⟩
    have H00 := hide (unhide H0).1
    have hgB0 := hide (unhide H0).2
    clear MK GS gd H0
    go_wp2_with fail
    go_loopw [21] (fun i wr => ∃ (k rb cap : Nat) (ns : List Nd) (l : List Sc), k ≤ n0 ∧ i = .int .i64 k ∧ Hid (LpI W0 wr gB mb rb cap n0 hd m f ns l k)) (fun i _ => n0 - (intOf i).toNat)
    case atStart => exact ⟨0, rb0, n0, _, _, Nat.zero_le _, rfl, H00⟩
    case round =>
      obtain ⟨k, rb, cap, ns, l, hk, rfl, HL⟩ := hrel
      clear H00 bx0 bx1 bx2 bx3 bx4 bx5 bx6 bx7 bx8 bx9 bx10 bx11 bx12
      by_cases hlt : k < n0
      rotate_left
      · obtain rfl : k = n0 := by omega
        have K := hide (unhide FINA rb cap ns l wr (unhide HL))
        clear FINA HL GETI
        go_wp2_with fail
        refine bodyPost_ret (by simp [results, Tryz.results18, go_sem]; try rfl) rfl ?_
        exact unhide K
      · obtain ⟨b, off, op, A, B, C, D, rfl, hins, hcel⟩ := unhide GETI k hlt
        obtain ⟨i0, i1, i2, i3, i4⟩ := hcel wr (unhide HL).g
        obtain ⟨Wb, hWb⟩ : ∃ Wb, Wb = (wr.alloc (.cells #[.int .i64 op, .int .i64 A, .int .i64 B, .int .i64 C, .int .i64 D] 41)) := ⟨_, rfl⟩
        obtain ⟨W2, hW2⟩ : ∃ W2, W2 = Wb.alloc (.cells #[.int .u64 0, .int .u64 0, .slice none 0 0] 57) := ⟨_, rfl⟩
        have gb : G wr Wb := by rw [hWb]; exact G.alloc _ _
        have g2 : G Wb W2 := by rw [hW2]; exact G.alloc _ _
        have sb : Wb.heap.size = wr.heap.size + 1 := by rw [hWb]; exact World.size_alloc _ _
        have s2 : W2.heap.size = wr.heap.size + 2 := by rw [hW2, World.size_alloc, sb]
        have oin := unhide hf ⟨op, A, B, C, D⟩ (List.mem_of_getElem? hins)
        have KB : Hid (∀ x, G Wb x → G Wb x ∧ x.cell? ⟨w.heap.size, 0, none⟩ = some (.slice so m.sh.length sc) ∧ x.cell? ⟨w.heap.size, 1, none⟩ = some (.slice go m.gl.length gc) ∧ x.cell? ⟨w.heap.size, 2, none⟩ = some (.slice co m.co.length cc) ∧ x.cell? ⟨w.heap.size, 3, none⟩ = some (.slice ao m.ca.length ac) ∧ x.cell? ⟨w.heap.size, 4, none⟩ = some (.slice fo m.fn.length fc) ∧ x.cell? ⟨w.heap.size, 5, none⟩ = some (.int .i64 m.main) ∧ x.cell? ⟨w.heap.size + 1, 0, none⟩ = some (.int .i64 f.p) ∧ x.cell? ⟨w.heap.size + 1, 1, none⟩ = some (.int .i64 f.c) ∧ x.cell? ⟨w.heap.size + 1, 2, none⟩ = some (.int .i64 f.s) ∧ x.cell? ⟨w.heap.size + 1, 3, none⟩ = some (.int .i64 f.r) ∧ x.cell? ⟨w.heap.size + 1, 4, none⟩ = some (.slice ko f.ks.length kc) ∧ x.cell? ⟨w.heap.size + 1, 5, none⟩ = some (.slice (some ⟨b, off, none⟩) n0 ic) ∧ x.cell? ⟨w.heap.size + 1, 6, none⟩ = some (.slice mo f.ms.length mc) ∧ x.cell? ⟨wr.heap.size, 0, none⟩ = some (.int .i64 op) ∧ x.cell? ⟨wr.heap.size, 1, none⟩ = some (.int .i64 A) ∧ x.cell? ⟨wr.heap.size, 2, none⟩ = some (.int .i64 B) ∧ x.cell? ⟨wr.heap.size, 3, none⟩ = some (.int .i64 C) ∧ x.cell? ⟨wr.heap.size, 4, none⟩ = some (.int .i64 D)) := hide fun x g => by
          have gx := gb.trans g
          have := unhide KP x ((unhide HL).g.trans gx)
          exact ⟨g, this.2.1, this.2.2.1, this.2.2.2.1, this.2.2.2.2.1, this.2.2.2.2.2.1, this.2.2.2.2.2.2.1, this.2.2.2.2.2.2.2.1, this.2.2.2.2.2.2.2.2.1, this.2.2.2.2.2.2.2.2.2.1, this.2.2.2.2.2.2.2.2.2.2.1, this.2.2.2.2.2.2.2.2.2.2.2.1, this.2.2.2.2.2.2.2.2.2.2.2.2.1, this.2.2.2.2.2.2.2.2.2.2.2.2.2, g.cell (by rw [hWb]; simp [go_sem]), g.cell (by rw [hWb]; simp [go_sem]), g.cell (by rw [hWb]; simp [go_sem]), g.cell (by rw [hWb]; simp [go_sem]), g.cell (by rw [hWb]; simp [go_sem])⟩
        have hnew := heap_alloc_new Wb (.cells #[.int .u64 0, .int .u64 0, .slice none 0 0] 57)
        rw [← hW2] at hnew
        have NZ : Hid (∀ x, G W2 x → (x.cell? ⟨wr.heap.size + 1, 0, none⟩ = some (.int .u64 0) ∧ x.frozen? ⟨wr.heap.size + 1, 0, none⟩ = false) ∧ (x.cell? ⟨wr.heap.size + 1, 1, none⟩ = some (.int .u64 0) ∧ x.frozen? ⟨wr.heap.size + 1, 1, none⟩ = false) ∧ (x.cell? ⟨wr.heap.size + 1, 2, none⟩ = some (.slice none 0 0) ∧ x.frozen? ⟨wr.heap.size + 1, 2, none⟩ = false)) := hide fun x g => by
          have q := g.block (wr.heap.size + 1) (by omega)
          rw [sb] at hnew
          exact ⟨⟨g.cell (by rw [cell_of_row _ _ _ _ _ _ hnew]; rfl), (World.frozen?_of_block q).trans (by unfold World.frozen?; rw [hnew]; simp)⟩, ⟨g.cell (by rw [cell_of_row _ _ _ _ _ _ hnew]; rfl), (World.frozen?_of_block q).trans (by unfold World.frozen?; rw [hnew]; simp)⟩, ⟨g.cell (by rw [cell_of_row _ _ _ _ _ _ hnew]; rfl), (World.frozen?_of_block q).trans (by unfold World.frozen?; rw [hnew]; simp)⟩⟩
        have hgl := (unhide HL).gx.gl
        have hml := (unhide HL).gx.ml
        have hrl := (unhide HL).gx.rl
        have H2 := hide ((unhide HL).gx.more (gb.trans g2) [wr.heap.size, wr.heap.size + 1] (fun b hb => by simp at hb; omega))
        have gW2 : Hid (G W0 W2) := hide ((unhide HL).g.trans (gb.trans g2))
        have hNb : Hid (n0 + l.length + 4 * m.ca.length ≤ 1000000 ∧ (k + 1) * (4 * m.ca.length) = k * (4 * m.ca.length) + 4 * m.ca.length) := hide (by
          have e1 := unhide hB
          have e2 := (unhide HL).ln
          have e3 := unhide hcl
          have e4 : k * (4 * m.ca.length) ≤ n0 * (4 * m.ca.length) := Nat.mul_le_mul_right _ (by omega)
          have e5 : (k + 1) * (4 * m.ca.length) = k * (4 * m.ca.length) + 4 * m.ca.length := by rw [Nat.add_mul]; omega
          exact ⟨by omega, e5⟩)
        have e0 := (unhide KB W2 g2)
        obtain ⟨_, bx0, bx1, bx2, bx3, bx4, bx5, bx6, bx7, bx8, bx9, bx10, bx11, bx12, by0, by1, by2, by3, by4⟩ := e0
        have hki : (k : Int) < (n0 : Int) := by omega
        have hkw : wrap64 ((k : Int) + 1) = (k : Int) + 1 := by have := unhide hn2; unfold wrap64; omega
        clear bx0 bx1 bx2 bx3 bx4 bx5 bx6 bx7 bx8 bx9 bx10 bx11 bx12
        replace gb := hide gb
        replace g2 := hide g2
        replace sb := hide sb
        replace s2 := hide s2
        replace hgl := hide hgl
        replace hml := hide hml
        replace hrl := hide hrl
        replace oin := hide oin
        replace hcel := hide hcel
        replace hins := hide hins
        replace hnew := hide hnew
        go_upto_region 5 with fail
        rw [← hWb]
        clear hWb
        go_upto_region 6 with fail
        rw [← hW2, unhide sb]
        clear hW2 i0 i1 i2 i3 i4 FINA GETI
        go_upto_if 28 with fail
        go_cut [8] (fun q wx => q = .pointer (some ⟨wr.heap.size + 1, 0, none⟩) ∧ ∃ rb' cap' ns' l' xo xn xc n, Hid (LpN W0 wx gB mb rb' cap' n0 hd m f ns' l' k ⟨op, A, B, C, D⟩ wr.heap.size (wr.heap.size + 1) xo xn xc n))
        case first =>
          by_cases h41 : op = 41
          · subst h41
            have C1 : Hid (Calls Tryz.prog 32 #[.pointer (some ⟨gB, 0, none⟩), .agg #[.int .i64 41, .int .i64 A, .int .i64 B, .int .i64 C, .int .i64 D]] W2 (SelTo W0.heap.size gB mb rb n0 hd m f W2 ns l [wr.heap.size, wr.heap.size + 1] ⟨41, A, B, C, D⟩)) := hide (by
              have HH := unhide H2
              rw [unhide hhd] at HH ⊢
              have e3 := unhide s2
              exact selectNode_any caseC W2 W0 gB mb rb cap n0 m so sc go gc co cc ao ac fo fc f ko kc (some ⟨b, off, none⟩) ic mo mc (unhide h0) (unhide oc) (by have := unhide hcl; omega) (unhide hn0) ns l _ 41 A B C D (unhide oin).2.1 rfl HH (unhide gW2) (fun b hb => by simp at hb; omega) (unhide HL).ok (unhide hNb).1)
            have FIN : Hid (∀ x1 rb' cap' ns' l' xo xn xc nx, GX x1 W0.heap.size gB mb rb' cap' n0 hd ns' l' [wr.heap.size, wr.heap.size + 1] → Tg W2 x1 gB mb rb rb' → StOK m n0 ns' l' → StMore m.ca.length ns l ns' l' → IsZ (Pz gB mb rb' [wr.heap.size, wr.heap.size + 1]) x1 (.slice xo xn xc) nx → (∀ pc, InsNd m f l' pc ⟨41, A, B, C, D⟩ (0, allU, nx)) → l'.length ≤ l.length + 4 * m.ca.length → LpN W0 (setN x1 (wr.heap.size + 1) 0 [.int .u64 0, .int .u64 18446744073709551615, .slice xo xn xc]) gB mb rb' cap' n0 hd m f ns' l' k ⟨41, A, B, C, D⟩ wr.heap.size (wr.heap.size + 1) xo xn xc (0, allU, nx)) := hide fun x1 rb' cap' ns' l' xo xn xc nx G1 T1 O1 M1 Z1 I1 L1 => by
              have e0 := unhide hgl
              have e1 := unhide hml
              have e2 := unhide hrl
              have e3 := unhide s2
              have e4 := (unhide HL).ln
              have e5 := (unhide hNb).2
              have e6 := T1.size
              have hrr : wr.heap.size + 1 ≠ rb' := by rcases T1.lies with e | e <;> omega
              obtain ⟨⟨z0, _⟩, ⟨z1, _⟩, ⟨z2, _⟩⟩ := unhide NZ W2 (G.refl W2)
              have hcell : ∀ i, i < 3 → (x1.cell? ⟨wr.heap.size + 1, 0 + i, none⟩).isSome = true := fun i hi => by
                match i, hi with
                | 0, _ => rw [Nat.zero_add, T1.cell (by omega) (by omega) (by omega) z0]; rfl
                | 1, _ => rw [Nat.zero_add, T1.cell (by omega) (by omega) (by omega) z1]; rfl
                | 2, _ => rw [Nat.zero_add, T1.cell (by omega) (by omega) (by omega) z2]; rfl
              have hWr := (unhide HL).g.size
              refine ⟨G1.setN (wr.heap.size + 1) 0 _ (by simp) (by omega) (by omega) hrr, setN_G _ (by omega) _ _ _ (T1.G (unhide gW2) G1.b1 G1.b2 e2.1), O1, ins_more (unhide HL).ins M1, by omega, Z1.setN (wr.heap.size + 1) 0 _ (by simp), I1 k, setN_in _ _ _ 0 0 _ rfl hcell, setN_in _ _ _ 0 1 _ rfl hcell, setN_in _ _ _ 0 2 _ rfl hcell, hrr, by omega⟩
            have NB : Hid (∀ x1 rb', Tg W2 x1 gB mb rb rb' → (x1.cell? ⟨wr.heap.size + 1, 0, none⟩ = some (.int .u64 0) ∧ x1.frozen? ⟨wr.heap.size + 1, 0, none⟩ = false) ∧ (x1.cell? ⟨wr.heap.size + 1, 1, none⟩ = some (.int .u64 0) ∧ x1.frozen? ⟨wr.heap.size + 1, 1, none⟩ = false) ∧ (x1.cell? ⟨wr.heap.size + 1, 2, none⟩ = some (.slice none 0 0) ∧ x1.frozen? ⟨wr.heap.size + 1, 2, none⟩ = false)) := hide fun x1 rb' T1 => by
              have e0 := unhide hgl
              have e1 := unhide hml
              have e2 := unhide hrl
              have e3 := unhide s2
              obtain ⟨⟨z0, f0⟩, ⟨z1, f1⟩, ⟨z2, f2⟩⟩ := unhide NZ W2 (G.refl W2)
              exact ⟨⟨T1.cell (by omega) (by omega) (by omega) z0, (T1.fro (by omega) (by omega) (by omega) (by omega)).trans f0⟩, ⟨T1.cell (by omega) (by omega) (by omega) z1, (T1.fro (by omega) (by omega) (by omega) (by omega)).trans f1⟩, ⟨T1.cell (by omega) (by omega) (by omega) z2, (T1.fro (by omega) (by omega) (by omega) (by omega)).trans f2⟩⟩
            go_wp2_with fail
            refine (unhide C1).mono ?_
            rintro e x1 ⟨rb', cap', ns', l', xo, xn, xc, nx, rfl, G1, T1, O1, M1, Z1, I1, L1⟩
            have LF := hide (unhide FIN x1 rb' cap' ns' l' xo xn xc nx G1 T1 O1 M1 Z1 I1 L1)
            obtain ⟨⟨z0, f0⟩, ⟨z1, f1⟩, ⟨z2, f2⟩⟩ := unhide NB x1 rb' T1
            clear C1 FIN NB G1 T1 O1 M1 Z1 I1 L1 by0 by1 by2 by3 by4
            go_wp2_with fail
            go_meet
            exact ⟨rfl, rb', cap', ns', l', xo, xn, xc, _, LF⟩
          · have b41 : (op == 41) = false := beq_eq_false_iff_ne.2 h41
            obtain ⟨R1, hR1⟩ : ∃ R1, R1 = mskP (rdP m ⟨op, A, B, C, D⟩) := ⟨_, rfl⟩
            obtain ⟨R2, hR2⟩ : ∃ R2, R2 = mskP (wrP ⟨op, A, B, C, D⟩) := ⟨_, rfl⟩
            obtain ⟨nx, hnx⟩ : ∃ nx, nx = flP m f (k : Int) := ⟨_, rfl⟩
            have RD : Hid (∀ x, G Wb x → Calls Tryz.prog 34 #[.agg #[.slice so m.sh.length sc, .slice go m.gl.length gc, .slice co m.co.length cc, .slice ao m.ca.length ac, .slice fo m.fn.length fc, .int .i64 m.main], .agg #[.int .i64 op, .int .i64 A, .int .i64 B, .int .i64 C, .int .i64 D]] x (LTo x (rdP m ⟨op, A, B, C, D⟩))) := hide fun x g => reads_any x m so sc go gc co cc ao ac fo fc ((unhide h0).g ((unhide HL).g.trans ((unhide gb).trans g))) ⟨op, A, B, C, D⟩ (unhide oin).2.1 (by have := unhide hcl; omega)
            have WT : Hid (∀ x, Calls Tryz.prog 35 #[.agg #[.int .i64 op, .int .i64 A, .int .i64 B, .int .i64 C, .int .i64 D]] x (LTo x (wrP ⟨op, A, B, C, D⟩))) := hide fun x => writes_any x ⟨op, A, B, C, D⟩
            have M1 : Hid (∀ x v, IsL x v (rdP m ⟨op, A, B, C, D⟩) → Calls Tryz.prog 33 #[v] x fun e w' => e = .returned (.int .u64 (R1 : Int)) ∧ x = w') := hide fun x v h => by
              rw [hR1]
              obtain ⟨r1, r2⟩ := rdP_ok m ⟨op, A, B, C, D⟩ (unhide oin) h41
              exact (slotMap_any x v _ h (by omega) r1).mono (fun e w' h => ⟨h.1, h.2.symm⟩)
            have M2 : Hid (∀ x v, IsL x v (wrP ⟨op, A, B, C, D⟩) → Calls Tryz.prog 33 #[v] x fun e w' => e = .returned (.int .u64 (R2 : Int)) ∧ x = w') := hide fun x v h => by
              rw [hR2]
              obtain ⟨r1, r2⟩ := wrP_ok ⟨op, A, B, C, D⟩ (unhide oin)
              exact (slotMap_any x v _ h (by omega) r1).mono (fun e w' h => ⟨h.1, h.2.symm⟩)
            have FW : Hid (∀ x, G Wb x → Calls Tryz.prog 36 #[.agg #[.slice so m.sh.length sc, .slice go m.gl.length gc, .slice co m.co.length cc, .slice ao m.ca.length ac, .slice fo m.fn.length fc, .int .i64 m.main], .agg #[.int .i64 f.p, .int .i64 f.c, .int .i64 f.s, .int .i64 f.r, .slice ko f.ks.length kc, .slice (some ⟨b, off, none⟩) n0 ic, .slice mo f.ms.length mc], .int .i64 (k : Int)] x (FTo x nx)) := hide fun x g => by
              have gx := (unhide HL).g.trans ((unhide gb).trans g)
              have := follows_any x m so sc go gc co cc ao ac fo fc ((unhide h0).g gx) f ko kc (some ⟨b, off, none⟩) ic mo mc ((unhide hi0).g okIn gx) (unhide hf) (by have := unhide hcl; omega) (k : Int)
              rw [hnx]
              rw [← unhide hfl]
              exact this
            have FIN : Hid (∀ (y1 y2 : World) (xo : Option Addr) (xn xc : Nat), G W2 y1 → NwL y1.heap.size y2 (.slice xo xn xc) nx → G y1 y2 → G Wb (setN y2 (wr.heap.size + 1) 0 [.int .u64 (R1 : Int), .int .u64 (notU R2 : Int), .slice xo xn xc]) ∧ LpN W0 (setN y2 (wr.heap.size + 1) 0 [.int .u64 (R1 : Int), .int .u64 (notU R2 : Int), .slice xo xn xc]) gB mb rb cap n0 hd m f ns l k ⟨op, A, B, C, D⟩ wr.heap.size (wr.heap.size + 1) xo xn xc (R1, notU R2, nx)) := hide fun y1 y2 xo xn xc g1 hnw g12 => by
              have e0 := unhide hgl
              have e1 := unhide hml
              have e2 := unhide hrl
              have e3 := unhide s2
              have e4 := (unhide HL).ln
              have e5 := (unhide hNb).2
              have e6 := unhide sb
              have e7 := g1.size
              have gz := g1.trans g12
              obtain ⟨⟨z0, _⟩, ⟨z1, _⟩, ⟨z2, _⟩⟩ := unhide NZ y2 gz
              have hcell : ∀ i, i < 3 → (y2.cell? ⟨wr.heap.size + 1, 0 + i, none⟩).isSome = true := fun i hi => by
                match i, hi with
                | 0, _ => rw [Nat.zero_add, z0]; rfl
                | 1, _ => rw [Nat.zero_add, z1]; rfl
                | 2, _ => rw [Nat.zero_add, z2]; rfl
              have hWr := (unhide HL).g.size
              refine ⟨setN_G _ (by omega) _ _ _ ((unhide g2).trans gz), ⟨((unhide H2).g gz).setN (wr.heap.size + 1) 0 _ (by simp) (by omega) (by omega) (by omega), setN_G _ (by omega) _ _ _ ((unhide gW2).trans gz), (unhide HL).ok, (unhide HL).ins, by omega, ?_, Or.inr ⟨h41, by rw [hR1, hR2, hnx]⟩, setN_in _ _ _ 0 0 _ rfl hcell, setN_in _ _ _ 0 1 _ rfl hcell, setN_in _ _ _ 0 2 _ rfl hcell, by omega, by omega⟩⟩
              refine (nwl_isz hnw (fun b hb => ?_)).setN (wr.heap.size + 1) 0 _ (by simp)
              rcases hb with hb | hb | hb | hb
              · omega
              · omega
              · omega
              · simp at hb; omega
            have en := not_eq R2 (by rw [hR2]; exact msk_lt _)
            obtain ⟨R3, hR3⟩ : ∃ R3, R3 = notU R2 := ⟨_, rfl⟩
            rw [← hR3] at en FIN
            have gd2 : Hid (G W2 W2.drew) := hide ((G.refl W2).drew)
            have gd3 : Hid (G Wb W2.drew) := hide ((unhide g2).trans (unhide gd2))
            have hsg : IntKind.u64.signed = false := rfl
            clear hR1 hR2 hnx hR3 h41 by0 by1 by2 by3 by4
            replace HL := hide HL
            go_wp2_with fail
            refine wp_region_noPanic ?_
            refine wp_region_held_drew (S := fun x => G Wb x ∧ x.cell? ⟨w.heap.size, 0, none⟩ = some (.slice so m.sh.length sc) ∧ x.cell? ⟨w.heap.size, 1, none⟩ = some (.slice go m.gl.length gc) ∧ x.cell? ⟨w.heap.size, 2, none⟩ = some (.slice co m.co.length cc) ∧ x.cell? ⟨w.heap.size, 3, none⟩ = some (.slice ao m.ca.length ac) ∧ x.cell? ⟨w.heap.size, 4, none⟩ = some (.slice fo m.fn.length fc) ∧ x.cell? ⟨w.heap.size, 5, none⟩ = some (.int .i64 m.main) ∧ x.cell? ⟨w.heap.size + 1, 0, none⟩ = some (.int .i64 f.p) ∧ x.cell? ⟨w.heap.size + 1, 1, none⟩ = some (.int .i64 f.c) ∧ x.cell? ⟨w.heap.size + 1, 2, none⟩ = some (.int .i64 f.s) ∧ x.cell? ⟨w.heap.size + 1, 3, none⟩ = some (.int .i64 f.r) ∧ x.cell? ⟨w.heap.size + 1, 4, none⟩ = some (.slice ko f.ks.length kc) ∧ x.cell? ⟨w.heap.size + 1, 5, none⟩ = some (.slice (some ⟨b, off, none⟩) n0 ic) ∧ x.cell? ⟨w.heap.size + 1, 6, none⟩ = some (.slice mo f.ms.length mc) ∧ x.cell? ⟨wr.heap.size, 0, none⟩ = some (.int .i64 op) ∧ x.cell? ⟨wr.heap.size, 1, none⟩ = some (.int .i64 A) ∧ x.cell? ⟨wr.heap.size, 2, none⟩ = some (.int .i64 B) ∧ x.cell? ⟨wr.heap.size, 3, none⟩ = some (.int .i64 C) ∧ x.cell? ⟨wr.heap.size, 4, none⟩ = some (.int .i64 D)) (by kernel_rfl) (unhide KB _ (unhide gd3)) (fun hHeld => ?_)
            obtain ⟨y0, hy0⟩ : ∃ y, y = W2.drew := ⟨_, rfl⟩
            rw [← hy0] at hHeld gd2 ⊢
            clear hy0 gd3
            refine wpAnyH_take (i := 0) (v := .agg #[.slice so m.sh.length sc, .slice go m.gl.length gc, .slice co m.co.length cc, .slice ao m.ca.length ac, .slice fo m.fn.length fc, .int .i64 m.main]) rfl (by kernel_rfl) (by kernel_rfl) (by kernel_rfl) (fun _ _ _ h => h) (Or.inl ⟨by rfl, fun w hSw => by obtain ⟨t0, t1, t2, t3, t4, t5, t6, t7, t8, t9, t10, t11, t12, t13, t14, t15, t16, t17, t18⟩ := hSw; go_simp⟩) (by assumption) ?_
            try simp only [Act.put, List.getElem_toArray, List.getElem_cons_zero, List.setIfInBounds_toArray, List.set_cons_zero, List.set_cons_succ]
            refine wpAnyH_take (i := 1) (v := .agg #[.int .i64 op, .int .i64 A, .int .i64 B, .int .i64 C, .int .i64 D]) rfl (by kernel_rfl) (by kernel_rfl) (by kernel_rfl) (fun _ _ _ h => h) (Or.inl ⟨by rfl, fun w hSw => by obtain ⟨t0, t1, t2, t3, t4, t5, t6, t7, t8, t9, t10, t11, t12, t13, t14, t15, t16, t17, t18⟩ := hSw; go_simp⟩) (by assumption) ?_
            try simp only [Act.put, List.getElem_toArray, List.getElem_cons_succ, List.getElem_cons_zero, List.setIfInBounds_toArray, List.set_cons_zero, List.set_cons_succ]
            refine wpAnyH_take (i := 4) (v := .agg #[.int .i64 op, .int .i64 A, .int .i64 B, .int .i64 C, .int .i64 D]) rfl (by kernel_rfl) (by kernel_rfl) (by kernel_rfl) (fun _ _ _ h => h) (Or.inl ⟨by rfl, fun w hSw => by obtain ⟨t0, t1, t2, t3, t4, t5, t6, t7, t8, t9, t10, t11, t12, t13, t14, t15, t16, t17, t18⟩ := hSw; go_simp⟩) (by assumption) ?_
            try simp only [Act.put, List.getElem_toArray, List.getElem_cons_succ, List.getElem_cons_zero, List.setIfInBounds_toArray, List.set_cons_zero, List.set_cons_succ]
            refine wpAnyH_take (i := 8) (v := .agg #[.slice so m.sh.length sc, .slice go m.gl.length gc, .slice co m.co.length cc, .slice ao m.ca.length ac, .slice fo m.fn.length fc, .int .i64 m.main]) rfl (by kernel_rfl) (by kernel_rfl) (by kernel_rfl) (fun _ _ _ h => h) (Or.inl ⟨by rfl, fun w hSw => by obtain ⟨t0, t1, t2, t3, t4, t5, t6, t7, t8, t9, t10, t11, t12, t13, t14, t15, t16, t17, t18⟩ := hSw; go_simp⟩) (by assumption) ?_
            try simp only [Act.put, List.getElem_toArray, List.getElem_cons_succ, List.getElem_cons_zero, List.setIfInBounds_toArray, List.set_cons_zero, List.set_cons_succ]
            refine wpAnyH_take (i := 9) (v := .agg #[.int .i64 f.p, .int .i64 f.c, .int .i64 f.s, .int .i64 f.r, .slice ko f.ks.length kc, .slice (some ⟨b, off, none⟩) n0 ic, .slice mo f.ms.length mc]) rfl (by kernel_rfl) (by kernel_rfl) (by kernel_rfl) (fun _ _ _ h => h) (Or.inl ⟨by rfl, fun w hSw => by obtain ⟨t0, t1, t2, t3, t4, t5, t6, t7, t8, t9, t10, t11, t12, t13, t14, t15, t16, t17, t18⟩ := hSw; go_simp⟩) (by assumption) ?_
            try simp only [Act.put, List.getElem_toArray, List.getElem_cons_succ, List.getElem_cons_zero, List.setIfInBounds_toArray, List.set_cons_zero, List.set_cons_succ]
            refine wpAnyH_take (i := 10) (v := .int .i64 (k : Int)) rfl (by kernel_rfl) (by kernel_rfl) (by kernel_rfl) (fun _ _ _ h => h) (Or.inl ⟨by rfl, fun w hSw => by obtain ⟨t0, t1, t2, t3, t4, t5, t6, t7, t8, t9, t10, t11, t12, t13, t14, t15, t16, t17, t18⟩ := hSw; go_simp⟩) (by assumption) ?_
            try simp only [Act.put, List.getElem_toArray, List.getElem_cons_succ, List.getElem_cons_zero, List.setIfInBounds_toArray, List.set_cons_zero, List.set_cons_succ]
            refine wpAnyH_ready (rs := [2]) (by kernel_rfl) (by simp) ?_
            refine AllReadyH.cons rfl (fun K hK => ?_) AllReadyH.nil
            go_simp
            refine (unhide RD y0 hHeld.1).mono ?_
            rintro e y1 ⟨q1, rfl, hL1, hg1⟩
            go_wp2_with fail
            have gy1 := hHeld.1.trans hg1
            refine hK.out _ _ (unhide KB _ gy1) (fun hH1 => ?_)
            clear hK K
            try simp only [Act.put, List.getElem_toArray, List.getElem_cons_succ, List.getElem_cons_zero, List.setIfInBounds_toArray, List.set_cons_zero, List.set_cons_succ]
            replace hL1 := hide hL1
            have gz1 := hide ((unhide gd2).trans hg1)
            clear hg1 hHeld gd2
            refine wpAnyH_ready (rs := [3]) (by kernel_rfl) (by simp) ?_
            refine AllReadyH.cons rfl (fun K hK => ?_) AllReadyH.nil
            go_simp
            refine (unhide M1 y1 _ (unhide hL1)).mono ?_
            rintro e w' ⟨rfl, rfl⟩
            go_wp2_with fail
            refine hK.out _ _ hH1 (fun hH1 => ?_)
            clear hK K hL1
            try simp only [Act.put, List.getElem_toArray, List.getElem_cons_succ, List.getElem_cons_zero, List.setIfInBounds_toArray, List.set_cons_zero, List.set_cons_succ]
            refine wpAnyH_ready (rs := [5]) (by kernel_rfl) (by simp) ?_
            refine AllReadyH.cons rfl (fun K hK => ?_) AllReadyH.nil
            go_simp
            refine (unhide WT y1).mono ?_
            rintro e y2 ⟨q2, rfl, hL2, hg2⟩
            go_wp2_with fail
            have gy2 := gy1.trans hg2
            refine hK.out _ _ (unhide KB _ gy2) (fun hH2 => ?_)
            clear hK K
            try simp only [Act.put, List.getElem_toArray, List.getElem_cons_succ, List.getElem_cons_zero, List.setIfInBounds_toArray, List.set_cons_zero, List.set_cons_succ]
            replace hL2 := hide hL2
            have gz2 := hide ((unhide gz1).trans hg2)
            clear hg2 hH1 gz1 gy1
            refine wpAnyH_ready (rs := [6]) (by kernel_rfl) (by simp) ?_
            refine AllReadyH.cons rfl (fun K hK => ?_) AllReadyH.nil
            go_simp
            refine (unhide M2 y2 _ (unhide hL2)).mono ?_
            rintro e w' ⟨rfl, rfl⟩
            go_wp2_with fail
            refine hK.out _ _ hH2 (fun hH2 => ?_)
            clear hK K hL2
            try simp only [Act.put, List.getElem_toArray, List.getElem_cons_succ, List.getElem_cons_zero, List.setIfInBounds_toArray, List.set_cons_zero, List.set_cons_succ]
            refine wpAnyH_take (i := 7) (v := .int .u64 (R3 : Int)) rfl (by kernel_rfl) (by kernel_rfl) (by kernel_rfl) (fun _ _ _ h => h) (Or.inl ⟨by rfl, fun w hSw => by obtain ⟨t0, t1, t2, t3, t4, t5, t6, t7, t8, t9, t10, t11, t12, t13, t14, t15, t16, t17, t18⟩ := hSw; go_simp⟩) (by assumption) ?_
            try simp only [Act.put, List.getElem_toArray, List.getElem_cons_succ, List.getElem_cons_zero, List.setIfInBounds_toArray, List.set_cons_zero, List.set_cons_succ]
            refine wpAnyH_ready (rs := [11]) (by kernel_rfl) (by simp) ?_
            refine AllReadyH.cons rfl (fun K hK => ?_) AllReadyH.nil
            go_simp
            refine (unhide FW y2 gy2).mono ?_
            rintro e y3 ⟨q3, rfl, hL3, hg3⟩
            obtain ⟨xo, xc, hv3, _⟩ := hL3.1
            obtain ⟨xn, hxn⟩ : ∃ xn, xn = nx.length := ⟨_, rfl⟩
            rw [← hxn] at hv3
            subst hv3
            clear hxn
            go_wp2_with fail
            have gy3 := gy2.trans hg3
            refine hK.out _ _ (unhide KB _ gy3) (fun hH3 => ?_)
            clear hK K
            try simp only [Act.put, List.getElem_toArray, List.getElem_cons_succ, List.getElem_cons_zero, List.setIfInBounds_toArray, List.set_cons_zero, List.set_cons_succ]
            have FF := unhide FIN y2 y3 xo xn xc (unhide gz2) hL3 hg3
            obtain ⟨⟨z0, f0⟩, ⟨z1, f1⟩, ⟨z2, f2⟩⟩ := unhide NZ y3 ((unhide gz2).trans hg3)
            replace FF := hide FF
            clear hL3 hg3 gz2 gy2 hH2
            refine wpAnyH_take (i := 12) (v := .agg #[.int .u64 (R1 : Int), .int .u64 (R3 : Int), .slice xo xn xc]) rfl (by kernel_rfl) (by kernel_rfl) (by kernel_rfl) (fun _ _ _ h => h) (Or.inl ⟨by rfl, fun w hSw => by obtain ⟨t0, t1, t2, t3, t4, t5, t6, t7, t8, t9, t10, t11, t12, t13, t14, t15, t16, t17, t18⟩ := hSw; go_simp⟩) (by assumption) ?_
            try simp only [Act.put, List.getElem_toArray, List.getElem_cons_succ, List.getElem_cons_zero, List.setIfInBounds_toArray, List.set_cons_zero, List.set_cons_succ]
            refine wpAnyH_ready (rs := [13]) (by kernel_rfl) (by simp) ?_
            refine AllReadyH.cons rfl (fun K hK => ?_) AllReadyH.nil
            go_simp
            refine hK.out _ _ (unhide KB _ (unhide FF).1) (fun hH4 => ?_)
            clear hK K
            try simp only [Act.put, List.getElem_toArray, List.getElem_cons_succ, List.getElem_cons_zero, List.setIfInBounds_toArray, List.set_cons_zero, List.set_cons_succ]
            refine wpAnyH_done (by kernel_rfl) (NoPanic.normal ?_) _
            have LF := hide (unhide FF).2
            go_wp2_with fail
            go_meet
            exact ⟨rfl, rb, cap, ns, l, xo, xn, xc, _, LF⟩
        case rest =>
          obtain ⟨rfl, rb', cap', ns', l', xo, xn, xc, n, LN⟩ := hcut
          obtain ⟨c13, _⟩ := (unhide LN).gx.cells
          have n0c := (unhide LN).c0
          have n1c := (unhide LN).c1
          have n2c := (unhide LN).c2
          have gd : Hid (G wc wc.drew) := hide ((G.refl wc).drew)
          have PT := hide ((unhide LN).put hlt (unhide hins) (unhide gd))
          have RC : Hid ((∃ q, wc.drew.cell? ⟨rb', k * 3, none⟩ = some q) ∧ (∃ q, wc.drew.cell? ⟨rb', k * 3 + 1, none⟩ = some q) ∧ (∃ q, wc.drew.cell? ⟨rb', k * 3 + 2, none⟩ = some q) ∧ wc.drew.frozen? ⟨rb', k * 3, none⟩ = false ∧ wc.drew.frozen? ⟨rb', k * 3 + 1, none⟩ = false ∧ wc.drew.frozen? ⟨rb', k * 3 + 2, none⟩ = false) := hide (by
            have X := (unhide LN).gx.g (unhide gd)
            obtain ⟨xs, o, hx⟩ := X.row
            have hkl : k < ns'.length := by have := (unhide LN).ok.len; omega
            obtain ⟨v, x0, x1, x2, _⟩ := hx k ns'[k] (List.getElem?_eq_getElem hkl)
            exact ⟨⟨_, (o.cellAt (k * 3) (by omega)).trans x0⟩, ⟨_, (o.cellAt (k * 3 + 1) (by omega)).trans x1⟩, ⟨_, (o.cellAt (k * 3 + 2) (by omega)).trans x2⟩, o.frozenAt _, o.frozenAt _, o.frozenAt _⟩)
          have hne : Hid (gB ≠ rb' ∧ wr.heap.size + 1 ≠ rb' ∧ k < ns'.length) := hide ⟨(unhide LN).gx.n2, (unhide LN).nb, by have := (unhide LN).ok.len; omega⟩
          obtain ⟨A1, hA1⟩ : ∃ A1, A1 = n.1 := ⟨_, rfl⟩
          obtain ⟨A2, hA2⟩ : ∃ A2, A2 = n.2.1 := ⟨_, rfl⟩
          obtain ⟨NL, hNL⟩ : ∃ NL, NL = ns'.length := ⟨_, rfl⟩
          rw [← hA1] at n0c PT
          rw [← hA2] at n1c PT
          rw [← hNL] at c13 hne
          have SK : Hid (∀ y, (y.cell? ⟨gB, 13, none⟩ = some (.slice (some ⟨rb', 0, none⟩) NL cap') ∧ y.cell? ⟨wr.heap.size + 1, 0, none⟩ = some (.int .u64 (A1 : Int)) ∧ y.cell? ⟨wr.heap.size + 1, 1, none⟩ = some (.int .u64 (A2 : Int)) ∧ y.cell? ⟨wr.heap.size + 1, 2, none⟩ = some (.slice xo xn xc)) → (setN y rb' (k * 3) [.int .u64 (A1 : Int), .int .u64 (A2 : Int), .slice xo xn xc]).cell? ⟨gB, 13, none⟩ = some (.slice (some ⟨rb', 0, none⟩) NL cap') ∧ (setN y rb' (k * 3) [.int .u64 (A1 : Int), .int .u64 (A2 : Int), .slice xo xn xc]).cell? ⟨wr.heap.size + 1, 0, none⟩ = some (.int .u64 (A1 : Int)) ∧ (setN y rb' (k * 3) [.int .u64 (A1 : Int), .int .u64 (A2 : Int), .slice xo xn xc]).cell? ⟨wr.heap.size + 1, 1, none⟩ = some (.int .u64 (A2 : Int)) ∧ (setN y rb' (k * 3) [.int .u64 (A1 : Int), .int .u64 (A2 : Int), .slice xo xn xc]).cell? ⟨wr.heap.size + 1, 2, none⟩ = some (.slice xo xn xc)) := hide fun y h => by
            obtain ⟨q1, q2, _⟩ := unhide hne
            obtain ⟨h1, h2, h3, h4⟩ := h
            exact ⟨by rw [World.cell?_of_block (a := ⟨gB, 13, none⟩) (setN_heap _ _ rb' _ gB q1)]; exact h1, by rw [World.cell?_of_block (a := ⟨wr.heap.size + 1, 0, none⟩) (setN_heap _ _ rb' _ (wr.heap.size + 1) q2)]; exact h2, by rw [World.cell?_of_block (a := ⟨wr.heap.size + 1, 1, none⟩) (setN_heap _ _ rb' _ (wr.heap.size + 1) q2)]; exact h3, by rw [World.cell?_of_block (a := ⟨wr.heap.size + 1, 2, none⟩) (setN_heap _ _ rb' _ (wr.heap.size + 1) q2)]; exact h4⟩
          have hkN : (k : Int) < (NL : Int) := by have := (unhide hne).2.2; omega
          clear LN hA1 hA2 hNL hne by0 by1 by2 by3 by4 KB NZ H2 HL hNb gW2 hki
          go_upto_region 9 with fail
          refine wp_region_noPanic ?_
          refine wp_region_held_drew (S := fun x => x.cell? ⟨gB, 13, none⟩ = some (.slice (some ⟨rb', 0, none⟩) NL cap') ∧ x.cell? ⟨wr.heap.size + 1, 0, none⟩ = some (.int .u64 (A1 : Int)) ∧ x.cell? ⟨wr.heap.size + 1, 1, none⟩ = some (.int .u64 (A2 : Int)) ∧ x.cell? ⟨wr.heap.size + 1, 2, none⟩ = some (.slice xo xn xc)) (by kernel_rfl) ⟨(unhide gd).cell c13, (unhide gd).cell n0c, (unhide gd).cell n1c, (unhide gd).cell n2c⟩ (fun hHeld => ?_)
          obtain ⟨y0, hy0⟩ : ∃ y, y = wc.drew := ⟨_, rfl⟩
          rw [← hy0] at hHeld PT RC ⊢
          obtain ⟨⟨q0, r0⟩, ⟨q1, r1⟩, ⟨q2, r2⟩, fr0, fr1, fr2⟩ := unhide RC
          have SK2 := hide (unhide SK y0 hHeld)
          clear hy0 gd RC SK c13 n0c n1c n2c
          refine wpAnyH_take (i := 0) (v := .pointer (some ⟨gB, 0, none⟩)) rfl (by kernel_rfl) (by kernel_rfl) (by kernel_rfl) (fun _ _ _ h => h) (Or.inl ⟨by rfl, fun w hSw => by obtain ⟨t0, t1, t2, t3⟩ := hSw; go_simp⟩) (by assumption) ?_
          try simp only [Act.put, List.getElem_toArray, List.getElem_cons_zero, List.setIfInBounds_toArray, List.set_cons_zero, List.set_cons_succ]
          refine wpAnyH_take (i := 1) (v := .pointer (some ⟨gB, 0, none⟩)) rfl (by kernel_rfl) (by kernel_rfl) (by kernel_rfl) (fun _ _ _ h => h) (Or.inl ⟨by rfl, fun w hSw => by obtain ⟨t0, t1, t2, t3⟩ := hSw; go_simp⟩) (by assumption) ?_
          try simp only [Act.put, List.getElem_toArray, List.getElem_cons_succ, List.getElem_cons_zero, List.setIfInBounds_toArray, List.set_cons_zero, List.set_cons_succ]
          refine wpAnyH_take (i := 2) (v := .pointer (some ⟨gB, 13, none⟩)) rfl (by kernel_rfl) (by kernel_rfl) (by kernel_rfl) (fun _ _ _ h => h) (Or.inl ⟨by rfl, fun w hSw => by obtain ⟨t0, t1, t2, t3⟩ := hSw; go_simp⟩) (by assumption) ?_
          try simp only [Act.put, List.getElem_toArray, List.getElem_cons_succ, List.getElem_cons_zero, List.setIfInBounds_toArray, List.set_cons_zero, List.set_cons_succ]
          refine wpAnyH_take (i := 3) (v := .slice (some ⟨rb', 0, none⟩) NL cap') rfl (by kernel_rfl) (by kernel_rfl) (by kernel_rfl) (fun _ _ _ h => h) (Or.inl ⟨by rfl, fun w hSw => by obtain ⟨t0, t1, t2, t3⟩ := hSw; go_simp⟩) (by assumption) ?_
          try simp only [Act.put, List.getElem_toArray, List.getElem_cons_succ, List.getElem_cons_zero, List.setIfInBounds_toArray, List.set_cons_zero, List.set_cons_succ]
          refine wpAnyH_take (i := 4) (v := .int .i64 (k : Int)) rfl (by kernel_rfl) (by kernel_rfl) (by kernel_rfl) (fun _ _ _ h => h) (Or.inl ⟨by rfl, fun w hSw => by obtain ⟨t0, t1, t2, t3⟩ := hSw; go_simp⟩) (by assumption) ?_
          try simp only [Act.put, List.getElem_toArray, List.getElem_cons_succ, List.getElem_cons_zero, List.setIfInBounds_toArray, List.set_cons_zero, List.set_cons_succ]
          refine wpAnyH_take (i := 5) (v := .agg #[.int .u64 (A1 : Int), .int .u64 (A2 : Int), .slice xo xn xc]) rfl (by kernel_rfl) (by kernel_rfl) (by kernel_rfl) (fun _ _ _ h => h) (Or.inl ⟨by rfl, fun w hSw => by obtain ⟨t0, t1, t2, t3⟩ := hSw; go_simp⟩) (by assumption) ?_
          try simp only [Act.put, List.getElem_toArray, List.getElem_cons_succ, List.getElem_cons_zero, List.setIfInBounds_toArray, List.set_cons_zero, List.set_cons_succ]
          refine wpAnyH_take (i := 6) (v := .pointer (some ⟨rb', k * 3, none⟩)) rfl (by kernel_rfl) (by kernel_rfl) (by kernel_rfl) (fun _ _ _ h => h) (Or.inl ⟨by rfl, fun w hSw => by obtain ⟨t0, t1, t2, t3⟩ := hSw; go_simp⟩) (by assumption) ?_
          try simp only [Act.put, List.getElem_toArray, List.getElem_cons_succ, List.getElem_cons_zero, List.setIfInBounds_toArray, List.set_cons_zero, List.set_cons_succ]
          refine wpAnyH_ready (rs := [7]) (by kernel_rfl) (by simp) ?_
          refine AllReadyH.cons rfl (fun K hK => ?_) AllReadyH.nil
          go_simp
          refine hK.out _ _ (unhide SK2) (fun hH => ?_)
          clear hK K
          try simp only [Act.put, List.getElem_toArray, List.getElem_cons_succ, List.getElem_cons_zero, List.setIfInBounds_toArray, List.set_cons_zero, List.set_cons_succ]
          refine wpAnyH_done (by kernel_rfl) (NoPanic.normal ?_) _
          clear hH hHeld SK2 r0 r1 r2 fr0 fr1 fr2
          go_wp2_with fail
          go_roundw
          case rel => exact ⟨k + 1, rb', cap', _, l', hlt, by go_num, PT⟩
          case measure => show n0 - ((k : Int) + 1).toNat < n0 - (k : Int).toNat; omega
end Go.Proofs.YtnliooflpclcbaaGreatDoor
