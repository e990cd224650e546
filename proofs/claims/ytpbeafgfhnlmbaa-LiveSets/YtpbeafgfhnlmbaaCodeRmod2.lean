/- gantlineref17.Module, once more: the answer's row of cases has room for them. -/
import Derived.Test.YtpbeafgfhnlmbaaCodeRmodH
import Derived.Test.YtpbeafgfhnlmbaaLiveFC
namespace Go.Proofs.Ytpbeafgfhnlmbaa
set_option maxRecDepth 100000
open Go.RowKit Go.Maps Go.ChangeShapes Go.WideShapes Go.ChangeAt Go.Deep

def ModC (w : World) (v : Value) (m : Md) : Prop := ∃ so sc go gc co cc ao ac fo fc, v = agM m so sc go gc co cc ao ac fo fc ∧ ModR w m so sc go gc co cc ao ac fo fc
theorem ModC.g {w w' : World} {v : Value} {m : Md} (h : ModC w v m) (g : G w w') : ModC w' v m := by
  obtain ⟨so, sc, go, gc, co, cc, ao, ac, fo, fc, e, h2⟩ := h
  exact ⟨so, sc, go, gc, co, cc, ao, ac, fo, fc, e, h2.g g⟩
theorem gre_cap {α : Type} {E : El α} {ty lo : Nat} {wc : World} {gb j : Nat} {cs : List Value} {l : List α} {x : World} {ao : Option Addr} {n c : Nat} (h : GrE E ty lo wc gb j cs l (.slice ao n c) x) (hn : n = l.length) : n ≤ c := by
  obtain ⟨xs, hL, _⟩ := h
  rcases hL.own.2 with ⟨e1, e2⟩ | ⟨g, cap, cur, e, h2, h3, h4, h5, h6, h7⟩
  · omega
  · cases e
    omega

set_option maxHeartbeats 4000000 in
theorem rmodule_raw2 (w : World) (m : Md) (so : Option Addr) (sc : Nat) (go : Option Addr) (gc : Nat) (co : Option Addr) (cc : Nat) (ao : Option Addr) (ac : Nat) (fo : Option Addr) (fc : Nat) (r1 : RowAt elSp w so m.sh.length sc m.sh) (r2 : RowAt elB w go m.gl.length gc m.gl) (r3 : RowAt elI w co m.co.length cc m.co) (r4 : RowAt elCa w ao m.ca.length ac m.ca) (r5 : RowAt elFn w fo m.fn.length fc m.fn)
    (n1 : m.sh.length ≤ 10000000) (n2 : m.gl.length ≤ 10000000) (n3 : m.co.length ≤ 10000000) (n4 : m.ca.length ≤ 10000000) (n5 : m.fn.length ≤ 10000000) (n6 : ∀ f ∈ m.fn, f.ks.length ≤ 10000000 ∧ f.is.length ≤ 10000000 ∧ f.ms.length ≤ 10000000) :
    Calls Try.prog 14 #[.agg #[.slice so m.sh.length sc, .slice go m.gl.length gc, .slice co m.co.length cc, .slice ao m.ca.length ac, .slice fo m.fn.length fc, .int .i64 m.main]] w fun e w' => ∃ v, e = .returned v ∧ ModC w' v m ∧ G w w' := by
  go_enter Try.func14, Try.ntmps14
  go_upto_region 1 with fail
  obtain ⟨W1, hW1⟩ : ∃ W1, W1 = ((w.alloc (.cells #[.slice so m.sh.length sc, .slice go m.gl.length gc, .slice co m.co.length cc, .slice ao m.ca.length ac, .slice fo m.fn.length fc, .int .i64 m.main] 31)).alloc (.cells #[.slice none 0 0, .slice none 0 0, .slice none 0 0, .slice none 0 0, .slice none 0 0, .int .i64 0] 48)) := ⟨_, rfl⟩
  have g1 : G w W1 := by rw [hW1]; exact ((G.refl w).more _).more _
  have hs1 : W1.heap.size = w.heap.size + 2 := by rw [hW1, World.size_alloc, World.size_alloc]
  have KP : Hid (∀ x, G W1 x → G W1 x ∧ x.cell? ⟨w.heap.size, 0, none⟩ = some (.slice so m.sh.length sc) ∧ x.cell? ⟨w.heap.size, 1, none⟩ = some (.slice go m.gl.length gc) ∧ x.cell? ⟨w.heap.size, 2, none⟩ = some (.slice co m.co.length cc) ∧ x.cell? ⟨w.heap.size, 3, none⟩ = some (.slice ao m.ca.length ac) ∧ x.cell? ⟨w.heap.size, 4, none⟩ = some (.slice fo m.fn.length fc) ∧ x.cell? ⟨w.heap.size, 5, none⟩ = some (.int .i64 m.main)) := hide fun x g => ⟨g, g.cell (by rw [hW1]; simp [go_sem]), g.cell (by rw [hW1]; simp [go_sem]), g.cell (by rw [hW1]; simp [go_sem]), g.cell (by rw [hW1]; simp [go_sem]), g.cell (by rw [hW1]; simp [go_sem]), g.cell (by rw [hW1]; simp [go_sem])⟩
  have A1 : Hid (∀ x, G W1 x → ∀ eb, _) := hide fun x g eb => app_bool (r2.g okB (g1.trans g)) n2 eb
  have A2 : Hid (∀ x, G W1 x → ∀ eb, _) := hide fun x g eb => app_i64 (r3.g okI (g1.trans g)) n3 eb
  have KR : Hid (∀ x, G W1 x → (x.cell? ⟨w.heap.size + 1, 0, none⟩ = some (.slice none 0 0) ∧ x.frozen? ⟨w.heap.size + 1, 0, none⟩ = false) ∧ (x.cell? ⟨w.heap.size + 1, 1, none⟩ = some (.slice none 0 0) ∧ x.frozen? ⟨w.heap.size + 1, 1, none⟩ = false) ∧ (x.cell? ⟨w.heap.size + 1, 2, none⟩ = some (.slice none 0 0) ∧ x.frozen? ⟨w.heap.size + 1, 2, none⟩ = false) ∧ (x.cell? ⟨w.heap.size + 1, 3, none⟩ = some (.slice none 0 0) ∧ x.frozen? ⟨w.heap.size + 1, 3, none⟩ = false) ∧ (x.cell? ⟨w.heap.size + 1, 4, none⟩ = some (.slice none 0 0) ∧ x.frozen? ⟨w.heap.size + 1, 4, none⟩ = false) ∧ (x.cell? ⟨w.heap.size + 1, 5, none⟩ = some (.int .i64 0) ∧ x.frozen? ⟨w.heap.size + 1, 5, none⟩ = false)) := hide fun x g => ⟨⟨g.cell (by rw [hW1]; simp [go_sem]), (World.frozen?_of_block (g.block (w.heap.size + 1) (by omega))).trans (by rw [hW1]; simp [go_sem])⟩, ⟨g.cell (by rw [hW1]; simp [go_sem]), (World.frozen?_of_block (g.block (w.heap.size + 1) (by omega))).trans (by rw [hW1]; simp [go_sem])⟩, ⟨g.cell (by rw [hW1]; simp [go_sem]), (World.frozen?_of_block (g.block (w.heap.size + 1) (by omega))).trans (by rw [hW1]; simp [go_sem])⟩, ⟨g.cell (by rw [hW1]; simp [go_sem]), (World.frozen?_of_block (g.block (w.heap.size + 1) (by omega))).trans (by rw [hW1]; simp [go_sem])⟩, ⟨g.cell (by rw [hW1]; simp [go_sem]), (World.frozen?_of_block (g.block (w.heap.size + 1) (by omega))).trans (by rw [hW1]; simp [go_sem])⟩, ⟨g.cell (by rw [hW1]; simp [go_sem]), (World.frozen?_of_block (g.block (w.heap.size + 1) (by omega))).trans (by rw [hW1]; simp [go_sem])⟩⟩
  rw [← hW1]
  replace hs1 := hide hs1
  replace g1 := hide g1
  replace r1 := hide r1
  replace r4 := hide r4
  replace r5 := hide r5
  replace n6 := hide n6
  clear hW1 r2 r3
  go_cut [3] (fun p wx => ∃ gb b1 c1 b2 c2, p = .pointer (some ⟨gb, 0, none⟩) ∧ Hid (MdS W1 gb [.slice none 0 0, .slice (some ⟨b1, 0, none⟩) m.gl.length c1, .slice (some ⟨b2, 0, none⟩) m.co.length c2, .slice none 0 0, .slice none 0 0, .int .i64 m.main] wx ∧ RowX W1.heap.size gb elB wx (some ⟨b1, 0, none⟩) m.gl.length c1 m.gl ∧ RowX W1.heap.size gb elI wx (some ⟨b2, 0, none⟩) m.co.length c2 m.co))
  case first =>
    refine wp_region_noPanic ?_
    refine wp_region_held_drew (S := fun x => G W1 x ∧ x.cell? ⟨w.heap.size, 0, none⟩ = some (.slice so m.sh.length sc) ∧ x.cell? ⟨w.heap.size, 1, none⟩ = some (.slice go m.gl.length gc) ∧ x.cell? ⟨w.heap.size, 2, none⟩ = some (.slice co m.co.length cc) ∧ x.cell? ⟨w.heap.size, 3, none⟩ = some (.slice ao m.ca.length ac) ∧ x.cell? ⟨w.heap.size, 4, none⟩ = some (.slice fo m.fn.length fc) ∧ x.cell? ⟨w.heap.size, 5, none⟩ = some (.int .i64 m.main)) (by kernel_rfl) (unhide KP _ ((G.refl W1).drew)) (fun hHeld => ?_)
    obtain ⟨y0, hy0⟩ : ∃ y, y = W1.drew := ⟨_, rfl⟩
    have s0 : Hid (y0.heap.size = W1.heap.size) := hide (by rw [hy0]; rfl)
    rw [← hy0] at hHeld ⊢
    clear hy0
    refine wpAnyH_take (i := 1) (v := .pointer (some ⟨w.heap.size, 1, none⟩)) rfl (by kernel_rfl) (by kernel_rfl) (by kernel_rfl) (fun _ _ _ h => h) (Or.inl ⟨by rfl, fun w hSw => by obtain ⟨t0, t1, t2, t3, t4, t5, t6⟩ := hSw; go_simp⟩) (by assumption) ?_
    try simp only [Act.put, List.getElem_toArray, List.getElem_cons_succ, List.getElem_cons_zero, List.setIfInBounds_toArray, List.set_cons_zero, List.set_cons_succ]
    refine wpAnyH_take (i := 2) (v := .slice go m.gl.length gc) rfl (by kernel_rfl) (by kernel_rfl) (by kernel_rfl) (fun _ _ _ h => h) (Or.inl ⟨by rfl, fun w hSw => by obtain ⟨t0, t1, t2, t3, t4, t5, t6⟩ := hSw; go_simp⟩) (by assumption) ?_
    try simp only [Act.put, List.getElem_toArray, List.getElem_cons_succ, List.getElem_cons_zero, List.setIfInBounds_toArray, List.set_cons_zero, List.set_cons_succ]
    refine wpAnyH_take (i := 5) (v := .pointer (some ⟨w.heap.size, 2, none⟩)) rfl (by kernel_rfl) (by kernel_rfl) (by kernel_rfl) (fun _ _ _ h => h) (Or.inl ⟨by rfl, fun w hSw => by obtain ⟨t0, t1, t2, t3, t4, t5, t6⟩ := hSw; go_simp⟩) (by assumption) ?_
    try simp only [Act.put, List.getElem_toArray, List.getElem_cons_succ, List.getElem_cons_zero, List.setIfInBounds_toArray, List.set_cons_zero, List.set_cons_succ]
    refine wpAnyH_take (i := 6) (v := .slice co m.co.length cc) rfl (by kernel_rfl) (by kernel_rfl) (by kernel_rfl) (fun _ _ _ h => h) (Or.inl ⟨by rfl, fun w hSw => by obtain ⟨t0, t1, t2, t3, t4, t5, t6⟩ := hSw; go_simp⟩) (by assumption) ?_
    try simp only [Act.put, List.getElem_toArray, List.getElem_cons_succ, List.getElem_cons_zero, List.setIfInBounds_toArray, List.set_cons_zero, List.set_cons_succ]
    refine wpAnyH_take (i := 8) (v := .pointer (some ⟨w.heap.size, 5, none⟩)) rfl (by kernel_rfl) (by kernel_rfl) (by kernel_rfl) (fun _ _ _ h => h) (Or.inl ⟨by rfl, fun w hSw => by obtain ⟨t0, t1, t2, t3, t4, t5, t6⟩ := hSw; go_simp⟩) (by assumption) ?_
    try simp only [Act.put, List.getElem_toArray, List.getElem_cons_succ, List.getElem_cons_zero, List.setIfInBounds_toArray, List.set_cons_zero, List.set_cons_succ]
    refine wpAnyH_take (i := 9) (v := .int .i64 m.main) rfl (by kernel_rfl) (by kernel_rfl) (by kernel_rfl) (fun _ _ _ h => h) (Or.inl ⟨by rfl, fun w hSw => by obtain ⟨t0, t1, t2, t3, t4, t5, t6⟩ := hSw; go_simp⟩) (by assumption) ?_
    try simp only [Act.put, List.getElem_toArray, List.getElem_cons_succ, List.getElem_cons_zero, List.setIfInBounds_toArray, List.set_cons_zero, List.set_cons_succ]
    refine wpAnyH_ready (rs := [0, 4, 11]) (by kernel_rfl) (by simp) ?_
    refine AllReadyH.cons rfl (fun K hK => ?_) (AllReadyH.cons rfl (fun K hK => ?_) (AllReadyH.cons rfl (fun K hK => ?_) AllReadyH.nil))
    · go_simp
      refine hK.out _ _ (unhide KP _ (hHeld.1.more _)) (fun hHeld => ?_)
      clear hK K
      try simp only [Act.put, List.getElem_toArray, List.getElem_cons_succ, List.getElem_cons_zero, List.setIfInBounds_toArray, List.set_cons_zero, List.set_cons_succ]
      obtain ⟨y1, hy1⟩ : ∃ y, y = y0.alloc (.cells #[] 4) := ⟨_, rfl⟩
      have s1 : Hid (y1.heap.size = y0.heap.size + 1) := hide (by rw [hy1]; exact World.size_alloc _ _)
      have q1 : Hid (G y0 y1) := hide (by rw [hy1]; exact G.alloc _ _)
      rw [← hy1] at hHeld ⊢
      clear hy1
      refine wpAnyH_ready (rs := [3, 4, 11]) (by kernel_rfl) (by simp) ?_
      refine AllReadyH.cons rfl (fun K hK => ?_) (AllReadyH.cons rfl (fun K hK => ?_) (AllReadyH.cons rfl (fun K hK => ?_) AllReadyH.nil))
      · obtain ⟨b1, c1, y2, hrun, hg, hR1, hd1⟩ := unhide A1 y1 hHeld.1 y0.heap.size
        refine step_app rfl (.tmp 8) (.tmp 10) 27 rfl _ _ rfl rfl _ _ hrun ?_
        refine hK.out _ _ (unhide KP _ (hHeld.1.trans hg)) (fun hHeld => ?_)
        clear hK K hrun
        try simp only [Act.put, List.getElem_toArray, List.getElem_cons_succ, List.getElem_cons_zero, List.setIfInBounds_toArray, List.set_cons_zero, List.set_cons_succ]
        have s2 : Hid (y1.heap.size ≤ y2.heap.size) := hide hg.size
        have q2 : Hid (G y1 y2) := hide hg
        replace hR1 := hide hR1
        replace hd1 := hide hd1
        clear hg
        refine wpAnyH_ready (rs := [4, 11]) (by kernel_rfl) (by simp) ?_
        refine AllReadyH.cons rfl (fun K hK => ?_) (AllReadyH.cons rfl (fun K hK => ?_) AllReadyH.nil)
        · go_simp
          refine hK.out _ _ (unhide KP _ (hHeld.1.more _)) (fun hHeld => ?_)
          clear hK K
          try simp only [Act.put, List.getElem_toArray, List.getElem_cons_succ, List.getElem_cons_zero, List.setIfInBounds_toArray, List.set_cons_zero, List.set_cons_succ]
          obtain ⟨y3, hy3⟩ : ∃ y, y = y2.alloc (.cells #[] 2) := ⟨_, rfl⟩
          have s3 : Hid (y3.heap.size = y2.heap.size + 1) := hide (by rw [hy3]; exact World.size_alloc _ _)
          have q3 : Hid (G y2 y3) := hide (by rw [hy3]; exact G.alloc _ _)
          rw [← hy3] at hHeld ⊢
          clear hy3
          refine wpAnyH_ready (rs := [7, 11]) (by kernel_rfl) (by simp) ?_
          refine AllReadyH.cons rfl (fun K hK => ?_) (AllReadyH.cons rfl (fun K hK => ?_) AllReadyH.nil)
          · obtain ⟨b2, c2, y4, hrun, hg, hR2, hd2⟩ := unhide A2 y3 hHeld.1 y2.heap.size
            refine step_app rfl (.tmp 12) (.tmp 14) 28 rfl _ _ rfl rfl _ _ hrun ?_
            refine hK.out _ _ (unhide KP _ (hHeld.1.trans hg)) (fun hHeld => ?_)
            clear hK K hrun
            try simp only [Act.put, List.getElem_toArray, List.getElem_cons_succ, List.getElem_cons_zero, List.setIfInBounds_toArray, List.set_cons_zero, List.set_cons_succ]
            have s4 : Hid (y3.heap.size ≤ y4.heap.size) := hide hg.size
            have q4 : Hid (G y3 y4) := hide hg
            replace hR2 := hide hR2
            replace hd2 := hide hd2
            clear hg
            refine wpAnyH_take (i := 10) (v := .agg #[.slice none 0 0, .slice (some ⟨b1, 0, none⟩) m.gl.length c1, .slice (some ⟨b2, 0, none⟩) m.co.length c2, .slice none 0 0, .slice none 0 0, .int .i64 m.main]) rfl (by kernel_rfl) (by kernel_rfl) (by kernel_rfl) (fun _ _ _ h => h) (Or.inl ⟨by rfl, fun w hSw => by obtain ⟨t0, t1, t2, t3, t4, t5, t6⟩ := hSw; go_simp⟩) (by assumption) ?_
            try simp only [Act.put, List.getElem_toArray, List.getElem_cons_succ, List.getElem_cons_zero, List.setIfInBounds_toArray, List.set_cons_zero, List.set_cons_succ]
            refine wpAnyH_ready (rs := [11]) (by kernel_rfl) (by simp) ?_
            refine AllReadyH.cons rfl (fun K hK => ?_) AllReadyH.nil
            go_simp
            refine hK.out _ _ (unhide KP _ (hHeld.1.more _)) (fun hHeld => ?_)
            clear hK K
            try simp only [Act.put, List.getElem_toArray, List.getElem_cons_succ, List.getElem_cons_zero, List.setIfInBounds_toArray, List.set_cons_zero, List.set_cons_succ]
            obtain ⟨y5, hy5⟩ : ∃ y, y = y4.alloc (.cells #[.slice none 0 0, .slice none 0 0, .slice none 0 0, .slice none 0 0, .slice none 0 0, .int .i64 0] 48) := ⟨_, rfl⟩
            have s5 : Hid (y5.heap.size = y4.heap.size + 1) := hide (by rw [hy5]; exact World.size_alloc _ _)
            have q5 : Hid (G y4 y5) := hide (by rw [hy5]; exact G.alloc _ _)
            have qz : Hid (G (y4.alloc (.cells #[.slice none 0 0, .slice none 0 0, .slice none 0 0, .slice none 0 0, .slice none 0 0, .int .i64 0] 48)) y5) := hide (by rw [hy5]; exact G.refl _)
            rw [← hy5] at hHeld ⊢
            clear hy5
            refine wpAnyH_ready (rs := [12]) (by kernel_rfl) (by simp) ?_
            refine AllReadyH.cons rfl (fun K hK => ?_) AllReadyH.nil
            have R1 := (unhide hR1).g okB (((unhide q3).trans (unhide q4)).trans (unhide q5))
            have R2 := (unhide hR2).g okI (unhide q5)
            have d1 : m.gl.length = 0 ∨ (b1 ≠ y4.heap.size ∧ W1.heap.size ≤ b1) := (unhide hd1).imp id (fun h => by have u0 := unhide s0; have u1 := unhide s1; have u2 := unhide s2; have u3 := unhide s3; have u4 := unhide s4; have u5 := unhide s5; omega)
            have d2 : m.co.length = 0 ∨ (b2 ≠ y4.heap.size ∧ W1.heap.size ≤ b2) := (unhide hd2).imp id (fun h => by have u0 := unhide s0; have u1 := unhide s1; have u2 := unhide s2; have u3 := unhide s3; have u4 := unhide s4; have u5 := unhide s5; omega)
            have hgb : W1.heap.size ≤ y4.heap.size := by have u0 := unhide s0; have u1 := unhide s1; have u2 := unhide s2; have u3 := unhide s3; have u4 := unhide s4; have u5 := unhide s5; omega
            have LF := hide (md_leaf (m := m) hHeld.1 hgb rfl (unhide qz) R1 R2 d1 d2)
            have z0 := (unhide qz).cell (x := ⟨y4.heap.size, 0, none⟩) (v := .slice none 0 0) (by simp [go_sem])
            have f0 : y5.frozen? ⟨y4.heap.size, 0, none⟩ = false := (World.frozen?_of_block ((unhide qz).block y4.heap.size (by rw [World.size_alloc]; omega))).trans (by simp [go_sem])
            have z1 := (unhide qz).cell (x := ⟨y4.heap.size, 1, none⟩) (v := .slice none 0 0) (by simp [go_sem])
            have f1 : y5.frozen? ⟨y4.heap.size, 1, none⟩ = false := (World.frozen?_of_block ((unhide qz).block y4.heap.size (by rw [World.size_alloc]; omega))).trans (by simp [go_sem])
            have z2 := (unhide qz).cell (x := ⟨y4.heap.size, 2, none⟩) (v := .slice none 0 0) (by simp [go_sem])
            have f2 : y5.frozen? ⟨y4.heap.size, 2, none⟩ = false := (World.frozen?_of_block ((unhide qz).block y4.heap.size (by rw [World.size_alloc]; omega))).trans (by simp [go_sem])
            have z3 := (unhide qz).cell (x := ⟨y4.heap.size, 3, none⟩) (v := .slice none 0 0) (by simp [go_sem])
            have f3 : y5.frozen? ⟨y4.heap.size, 3, none⟩ = false := (World.frozen?_of_block ((unhide qz).block y4.heap.size (by rw [World.size_alloc]; omega))).trans (by simp [go_sem])
            have z4 := (unhide qz).cell (x := ⟨y4.heap.size, 4, none⟩) (v := .slice none 0 0) (by simp [go_sem])
            have f4 : y5.frozen? ⟨y4.heap.size, 4, none⟩ = false := (World.frozen?_of_block ((unhide qz).block y4.heap.size (by rw [World.size_alloc]; omega))).trans (by simp [go_sem])
            have z5 := (unhide qz).cell (x := ⟨y4.heap.size, 5, none⟩) (v := .int .i64 0) (by simp [go_sem])
            have f5 : y5.frozen? ⟨y4.heap.size, 5, none⟩ = false := (World.frozen?_of_block ((unhide qz).block y4.heap.size (by rw [World.size_alloc]; omega))).trans (by simp [go_sem])
            clear R1 R2 d1 d2 hgb
            go_simp
            refine hK.out _ _ (unhide KP _ (unhide LF).1.g) (fun hHeld => ?_)
            clear hK K
            try simp only [Act.put, List.getElem_toArray, List.getElem_cons_succ, List.getElem_cons_zero, List.setIfInBounds_toArray, List.set_cons_zero, List.set_cons_succ]
            refine wpAnyH_done (by kernel_rfl) (NoPanic.normal ?_) _
            go_wp2_with fail
            go_meet
            exact ⟨_, b1, c1, b2, c2, rfl, LF⟩
          · go_simp
            refine hK.out _ _ (unhide KP _ (hHeld.1.more _)) (fun hHeld => ?_)
            clear hK K
            try simp only [Act.put, List.getElem_toArray, List.getElem_cons_succ, List.getElem_cons_zero, List.setIfInBounds_toArray, List.set_cons_zero, List.set_cons_succ]
            obtain ⟨y4, hy4⟩ : ∃ y, y = y3.alloc (.cells #[.slice none 0 0, .slice none 0 0, .slice none 0 0, .slice none 0 0, .slice none 0 0, .int .i64 0] 48) := ⟨_, rfl⟩
            have s4 : Hid (y4.heap.size = y3.heap.size + 1) := hide (by rw [hy4]; exact World.size_alloc _ _)
            have q4 : Hid (G y3 y4) := hide (by rw [hy4]; exact G.alloc _ _)
            have qz : Hid (G (y3.alloc (.cells #[.slice none 0 0, .slice none 0 0, .slice none 0 0, .slice none 0 0, .slice none 0 0, .int .i64 0] 48)) y4) := hide (by rw [hy4]; exact G.refl _)
            rw [← hy4] at hHeld ⊢
            clear hy4
            refine wpAnyH_ready (rs := [7]) (by kernel_rfl) (by simp) ?_
            refine AllReadyH.cons rfl (fun K hK => ?_) AllReadyH.nil
            obtain ⟨b2, c2, y5, hrun, hg, hR2, hd2⟩ := unhide A2 y4 hHeld.1 y2.heap.size
            refine step_app rfl (.tmp 12) (.tmp 14) 28 rfl _ _ rfl rfl _ _ hrun ?_
            refine hK.out _ _ (unhide KP _ (hHeld.1.trans hg)) (fun hHeld => ?_)
            clear hK K hrun
            try simp only [Act.put, List.getElem_toArray, List.getElem_cons_succ, List.getElem_cons_zero, List.setIfInBounds_toArray, List.set_cons_zero, List.set_cons_succ]
            have s5 : Hid (y4.heap.size ≤ y5.heap.size) := hide hg.size
            have q5 : Hid (G y4 y5) := hide hg
            replace hR2 := hide hR2
            replace hd2 := hide hd2
            clear hg
            refine wpAnyH_take (i := 10) (v := .agg #[.slice none 0 0, .slice (some ⟨b1, 0, none⟩) m.gl.length c1, .slice (some ⟨b2, 0, none⟩) m.co.length c2, .slice none 0 0, .slice none 0 0, .int .i64 m.main]) rfl (by kernel_rfl) (by kernel_rfl) (by kernel_rfl) (fun _ _ _ h => h) (Or.inl ⟨by rfl, fun w hSw => by obtain ⟨t0, t1, t2, t3, t4, t5, t6⟩ := hSw; go_simp⟩) (by assumption) ?_
            try simp only [Act.put, List.getElem_toArray, List.getElem_cons_succ, List.getElem_cons_zero, List.setIfInBounds_toArray, List.set_cons_zero, List.set_cons_succ]
            refine wpAnyH_ready (rs := [12]) (by kernel_rfl) (by simp) ?_
            refine AllReadyH.cons rfl (fun K hK => ?_) AllReadyH.nil
            have R1 := (unhide hR1).g okB (((unhide q3).trans (unhide q4)).trans (unhide q5))
            have R2 := (unhide hR2).g okI (G.refl _)
            have d1 : m.gl.length = 0 ∨ (b1 ≠ y3.heap.size ∧ W1.heap.size ≤ b1) := (unhide hd1).imp id (fun h => by have u0 := unhide s0; have u1 := unhide s1; have u2 := unhide s2; have u3 := unhide s3; have u4 := unhide s4; have u5 := unhide s5; omega)
            have d2 : m.co.length = 0 ∨ (b2 ≠ y3.heap.size ∧ W1.heap.size ≤ b2) := (unhide hd2).imp id (fun h => by have u0 := unhide s0; have u1 := unhide s1; have u2 := unhide s2; have u3 := unhide s3; have u4 := unhide s4; have u5 := unhide s5; omega)
            have hgb : W1.heap.size ≤ y3.heap.size := by have u0 := unhide s0; have u1 := unhide s1; have u2 := unhide s2; have u3 := unhide s3; have u4 := unhide s4; have u5 := unhide s5; omega
            have LF := hide (md_leaf (m := m) hHeld.1 hgb rfl ((unhide qz).trans (unhide q5)) R1 R2 d1 d2)
            have z0 := ((unhide qz).trans (unhide q5)).cell (x := ⟨y3.heap.size, 0, none⟩) (v := .slice none 0 0) (by simp [go_sem])
            have f0 : y5.frozen? ⟨y3.heap.size, 0, none⟩ = false := (World.frozen?_of_block (((unhide qz).trans (unhide q5)).block y3.heap.size (by rw [World.size_alloc]; omega))).trans (by simp [go_sem])
            have z1 := ((unhide qz).trans (unhide q5)).cell (x := ⟨y3.heap.size, 1, none⟩) (v := .slice none 0 0) (by simp [go_sem])
            have f1 : y5.frozen? ⟨y3.heap.size, 1, none⟩ = false := (World.frozen?_of_block (((unhide qz).trans (unhide q5)).block y3.heap.size (by rw [World.size_alloc]; omega))).trans (by simp [go_sem])
            have z2 := ((unhide qz).trans (unhide q5)).cell (x := ⟨y3.heap.size, 2, none⟩) (v := .slice none 0 0) (by simp [go_sem])
            have f2 : y5.frozen? ⟨y3.heap.size, 2, none⟩ = false := (World.frozen?_of_block (((unhide qz).trans (unhide q5)).block y3.heap.size (by rw [World.size_alloc]; omega))).trans (by simp [go_sem])
            have z3 := ((unhide qz).trans (unhide q5)).cell (x := ⟨y3.heap.size, 3, none⟩) (v := .slice none 0 0) (by simp [go_sem])
            have f3 : y5.frozen? ⟨y3.heap.size, 3, none⟩ = false := (World.frozen?_of_block (((unhide qz).trans (unhide q5)).block y3.heap.size (by rw [World.size_alloc]; omega))).trans (by simp [go_sem])
            have z4 := ((unhide qz).trans (unhide q5)).cell (x := ⟨y3.heap.size, 4, none⟩) (v := .slice none 0 0) (by simp [go_sem])
            have f4 : y5.frozen? ⟨y3.heap.size, 4, none⟩ = false := (World.frozen?_of_block (((unhide qz).trans (unhide q5)).block y3.heap.size (by rw [World.size_alloc]; omega))).trans (by simp [go_sem])
            have z5 := ((unhide qz).trans (unhide q5)).cell (x := ⟨y3.heap.size, 5, none⟩) (v := .int .i64 0) (by simp [go_sem])
            have f5 : y5.frozen? ⟨y3.heap.size, 5, none⟩ = false := (World.frozen?_of_block (((unhide qz).trans (unhide q5)).block y3.heap.size (by rw [World.size_alloc]; omega))).trans (by simp [go_sem])
            clear R1 R2 d1 d2 hgb
            go_simp
            refine hK.out _ _ (unhide KP _ (unhide LF).1.g) (fun hHeld => ?_)
            clear hK K
            try simp only [Act.put, List.getElem_toArray, List.getElem_cons_succ, List.getElem_cons_zero, List.setIfInBounds_toArray, List.set_cons_zero, List.set_cons_succ]
            refine wpAnyH_done (by kernel_rfl) (NoPanic.normal ?_) _
            go_wp2_with fail
            go_meet
            exact ⟨_, b1, c1, b2, c2, rfl, LF⟩
        · go_simp
          refine hK.out _ _ (unhide KP _ (hHeld.1.more _)) (fun hHeld => ?_)
          clear hK K
          try simp only [Act.put, List.getElem_toArray, List.getElem_cons_succ, List.getElem_cons_zero, List.setIfInBounds_toArray, List.set_cons_zero, List.set_cons_succ]
          obtain ⟨y3, hy3⟩ : ∃ y, y = y2.alloc (.cells #[.slice none 0 0, .slice none 0 0, .slice none 0 0, .slice none 0 0, .slice none 0 0, .int .i64 0] 48) := ⟨_, rfl⟩
          have s3 : Hid (y3.heap.size = y2.heap.size + 1) := hide (by rw [hy3]; exact World.size_alloc _ _)
          have q3 : Hid (G y2 y3) := hide (by rw [hy3]; exact G.alloc _ _)
          have qz : Hid (G (y2.alloc (.cells #[.slice none 0 0, .slice none 0 0, .slice none 0 0, .slice none 0 0, .slice none 0 0, .int .i64 0] 48)) y3) := hide (by rw [hy3]; exact G.refl _)
          rw [← hy3] at hHeld ⊢
          clear hy3
          refine wpAnyH_ready (rs := [4]) (by kernel_rfl) (by simp) ?_
          refine AllReadyH.cons rfl (fun K hK => ?_) AllReadyH.nil
          go_simp
          refine hK.out _ _ (unhide KP _ (hHeld.1.more _)) (fun hHeld => ?_)
          clear hK K
          try simp only [Act.put, List.getElem_toArray, List.getElem_cons_succ, List.getElem_cons_zero, List.setIfInBounds_toArray, List.set_cons_zero, List.set_cons_succ]
          obtain ⟨y4, hy4⟩ : ∃ y, y = y3.alloc (.cells #[] 2) := ⟨_, rfl⟩
          have s4 : Hid (y4.heap.size = y3.heap.size + 1) := hide (by rw [hy4]; exact World.size_alloc _ _)
          have q4 : Hid (G y3 y4) := hide (by rw [hy4]; exact G.alloc _ _)
          rw [← hy4] at hHeld ⊢
          clear hy4
          refine wpAnyH_ready (rs := [7]) (by kernel_rfl) (by simp) ?_
          refine AllReadyH.cons rfl (fun K hK => ?_) AllReadyH.nil
          obtain ⟨b2, c2, y5, hrun, hg, hR2, hd2⟩ := unhide A2 y4 hHeld.1 y3.heap.size
          refine step_app rfl (.tmp 12) (.tmp 14) 28 rfl _ _ rfl rfl _ _ hrun ?_
          refine hK.out _ _ (unhide KP _ (hHeld.1.trans hg)) (fun hHeld => ?_)
          clear hK K hrun
          try simp only [Act.put, List.getElem_toArray, List.getElem_cons_succ, List.getElem_cons_zero, List.setIfInBounds_toArray, List.set_cons_zero, List.set_cons_succ]
          have s5 : Hid (y4.heap.size ≤ y5.heap.size) := hide hg.size
          have q5 : Hid (G y4 y5) := hide hg
          replace hR2 := hide hR2
          replace hd2 := hide hd2
          clear hg
          refine wpAnyH_take (i := 10) (v := .agg #[.slice none 0 0, .slice (some ⟨b1, 0, none⟩) m.gl.length c1, .slice (some ⟨b2, 0, none⟩) m.co.length c2, .slice none 0 0, .slice none 0 0, .int .i64 m.main]) rfl (by kernel_rfl) (by kernel_rfl) (by kernel_rfl) (fun _ _ _ h => h) (Or.inl ⟨by rfl, fun w hSw => by obtain ⟨t0, t1, t2, t3, t4, t5, t6⟩ := hSw; go_simp⟩) (by assumption) ?_
          try simp only [Act.put, List.getElem_toArray, List.getElem_cons_succ, List.getElem_cons_zero, List.setIfInBounds_toArray, List.set_cons_zero, List.set_cons_succ]
          refine wpAnyH_ready (rs := [12]) (by kernel_rfl) (by simp) ?_
          refine AllReadyH.cons rfl (fun K hK => ?_) AllReadyH.nil
          have R1 := (unhide hR1).g okB (((unhide q3).trans (unhide q4)).trans (unhide q5))
          have R2 := (unhide hR2).g okI (G.refl _)
          have d1 : m.gl.length = 0 ∨ (b1 ≠ y2.heap.size ∧ W1.heap.size ≤ b1) := (unhide hd1).imp id (fun h => by have u0 := unhide s0; have u1 := unhide s1; have u2 := unhide s2; have u3 := unhide s3; have u4 := unhide s4; have u5 := unhide s5; omega)
          have d2 : m.co.length = 0 ∨ (b2 ≠ y2.heap.size ∧ W1.heap.size ≤ b2) := (unhide hd2).imp id (fun h => by have u0 := unhide s0; have u1 := unhide s1; have u2 := unhide s2; have u3 := unhide s3; have u4 := unhide s4; have u5 := unhide s5; omega)
          have hgb : W1.heap.size ≤ y2.heap.size := by have u0 := unhide s0; have u1 := unhide s1; have u2 := unhide s2; have u3 := unhide s3; have u4 := unhide s4; have u5 := unhide s5; omega
          have LF := hide (md_leaf (m := m) hHeld.1 hgb rfl ((unhide qz).trans ((unhide q4).trans (unhide q5))) R1 R2 d1 d2)
          have z0 := ((unhide qz).trans ((unhide q4).trans (unhide q5))).cell (x := ⟨y2.heap.size, 0, none⟩) (v := .slice none 0 0) (by simp [go_sem])
          have f0 : y5.frozen? ⟨y2.heap.size, 0, none⟩ = false := (World.frozen?_of_block (((unhide qz).trans ((unhide q4).trans (unhide q5))).block y2.heap.size (by rw [World.size_alloc]; omega))).trans (by simp [go_sem])
          have z1 := ((unhide qz).trans ((unhide q4).trans (unhide q5))).cell (x := ⟨y2.heap.size, 1, none⟩) (v := .slice none 0 0) (by simp [go_sem])
          have f1 : y5.frozen? ⟨y2.heap.size, 1, none⟩ = false := (World.frozen?_of_block (((unhide qz).trans ((unhide q4).trans (unhide q5))).block y2.heap.size (by rw [World.size_alloc]; omega))).trans (by simp [go_sem])
          have z2 := ((unhide qz).trans ((unhide q4).trans (unhide q5))).cell (x := ⟨y2.heap.size, 2, none⟩) (v := .slice none 0 0) (by simp [go_sem])
          have f2 : y5.frozen? ⟨y2.heap.size, 2, none⟩ = false := (World.frozen?_of_block (((unhide qz).trans ((unhide q4).trans (unhide q5))).block y2.heap.size (by rw [World.size_alloc]; omega))).trans (by simp [go_sem])
          have z3 := ((unhide qz).trans ((unhide q4).trans (unhide q5))).cell (x := ⟨y2.heap.size, 3, none⟩) (v := .slice none 0 0) (by simp [go_sem])
          have f3 : y5.frozen? ⟨y2.heap.size, 3, none⟩ = false := (World.frozen?_of_block (((unhide qz).trans ((unhide q4).trans (unhide q5))).block y2.heap.size (by rw [World.size_alloc]; omega))).trans (by simp [go_sem])
          have z4 := ((unhide qz).trans ((unhide q4).trans (unhide q5))).cell (x := ⟨y2.heap.size, 4, none⟩) (v := .slice none 0 0) (by simp [go_sem])
          have f4 : y5.frozen? ⟨y2.heap.size, 4, none⟩ = false := (World.frozen?_of_block (((unhide qz).trans ((unhide q4).trans (unhide q5))).block y2.heap.size (by rw [World.size_alloc]; omega))).trans (by simp [go_sem])
          have z5 := ((unhide qz).trans ((unhide q4).trans (unhide q5))).cell (x := ⟨y2.heap.size, 5, none⟩) (v := .int .i64 0) (by simp [go_sem])
          have f5 : y5.frozen? ⟨y2.heap.size, 5, none⟩ = false := (World.frozen?_of_block (((unhide qz).trans ((unhide q4).trans (unhide q5))).block y2.heap.size (by rw [World.size_alloc]; omega))).trans (by simp [go_sem])
          clear R1 R2 d1 d2 hgb
          go_simp
          refine hK.out _ _ (unhide KP _ (unhide LF).1.g) (fun hHeld => ?_)
          clear hK K
          try simp only [Act.put, List.getElem_toArray, List.getElem_cons_succ, List.getElem_cons_zero, List.setIfInBounds_toArray, List.set_cons_zero, List.set_cons_succ]
          refine wpAnyH_done (by kernel_rfl) (NoPanic.normal ?_) _
          go_wp2_with fail
          go_meet
          exact ⟨_, b1, c1, b2, c2, rfl, LF⟩
      · go_simp
        refine hK.out _ _ (unhide KP _ (hHeld.1.more _)) (fun hHeld => ?_)
        clear hK K
        try simp only [Act.put, List.getElem_toArray, List.getElem_cons_succ, List.getElem_cons_zero, List.setIfInBounds_toArray, List.set_cons_zero, List.set_cons_succ]
        obtain ⟨y2, hy2⟩ : ∃ y, y = y1.alloc (.cells #[] 2) := ⟨_, rfl⟩
        have s2 : Hid (y2.heap.size = y1.heap.size + 1) := hide (by rw [hy2]; exact World.size_alloc _ _)
        have q2 : Hid (G y1 y2) := hide (by rw [hy2]; exact G.alloc _ _)
        rw [← hy2] at hHeld ⊢
        clear hy2
        refine wpAnyH_ready (rs := [3, 11]) (by kernel_rfl) (by simp) ?_
        refine AllReadyH.cons rfl (fun K hK => ?_) (AllReadyH.cons rfl (fun K hK => ?_) AllReadyH.nil)
        · obtain ⟨b1, c1, y3, hrun, hg, hR1, hd1⟩ := unhide A1 y2 hHeld.1 y0.heap.size
          refine step_app rfl (.tmp 8) (.tmp 10) 27 rfl _ _ rfl rfl _ _ hrun ?_
          refine hK.out _ _ (unhide KP _ (hHeld.1.trans hg)) (fun hHeld => ?_)
          clear hK K hrun
          try simp only [Act.put, List.getElem_toArray, List.getElem_cons_succ, List.getElem_cons_zero, List.setIfInBounds_toArray, List.set_cons_zero, List.set_cons_succ]
          have s3 : Hid (y2.heap.size ≤ y3.heap.size) := hide hg.size
          have q3 : Hid (G y2 y3) := hide hg
          replace hR1 := hide hR1
          replace hd1 := hide hd1
          clear hg
          refine wpAnyH_ready (rs := [7, 11]) (by kernel_rfl) (by simp) ?_
          refine AllReadyH.cons rfl (fun K hK => ?_) (AllReadyH.cons rfl (fun K hK => ?_) AllReadyH.nil)
          · obtain ⟨b2, c2, y4, hrun, hg, hR2, hd2⟩ := unhide A2 y3 hHeld.1 y1.heap.size
            refine step_app rfl (.tmp 12) (.tmp 14) 28 rfl _ _ rfl rfl _ _ hrun ?_
            refine hK.out _ _ (unhide KP _ (hHeld.1.trans hg)) (fun hHeld => ?_)
            clear hK K hrun
            try simp only [Act.put, List.getElem_toArray, List.getElem_cons_succ, List.getElem_cons_zero, List.setIfInBounds_toArray, List.set_cons_zero, List.set_cons_succ]
            have s4 : Hid (y3.heap.size ≤ y4.heap.size) := hide hg.size
            have q4 : Hid (G y3 y4) := hide hg
            replace hR2 := hide hR2
            replace hd2 := hide hd2
            clear hg
            refine wpAnyH_take (i := 10) (v := .agg #[.slice none 0 0, .slice (some ⟨b1, 0, none⟩) m.gl.length c1, .slice (some ⟨b2, 0, none⟩) m.co.length c2, .slice none 0 0, .slice none 0 0, .int .i64 m.main]) rfl (by kernel_rfl) (by kernel_rfl) (by kernel_rfl) (fun _ _ _ h => h) (Or.inl ⟨by rfl, fun w hSw => by obtain ⟨t0, t1, t2, t3, t4, t5, t6⟩ := hSw; go_simp⟩) (by assumption) ?_
            try simp only [Act.put, List.getElem_toArray, List.getElem_cons_succ, List.getElem_cons_zero, List.setIfInBounds_toArray, List.set_cons_zero, List.set_cons_succ]
            refine wpAnyH_ready (rs := [11]) (by kernel_rfl) (by simp) ?_
            refine AllReadyH.cons rfl (fun K hK => ?_) AllReadyH.nil
            go_simp
            refine hK.out _ _ (unhide KP _ (hHeld.1.more _)) (fun hHeld => ?_)
            clear hK K
            try simp only [Act.put, List.getElem_toArray, List.getElem_cons_succ, List.getElem_cons_zero, List.setIfInBounds_toArray, List.set_cons_zero, List.set_cons_succ]
            obtain ⟨y5, hy5⟩ : ∃ y, y = y4.alloc (.cells #[.slice none 0 0, .slice none 0 0, .slice none 0 0, .slice none 0 0, .slice none 0 0, .int .i64 0] 48) := ⟨_, rfl⟩
            have s5 : Hid (y5.heap.size = y4.heap.size + 1) := hide (by rw [hy5]; exact World.size_alloc _ _)
            have q5 : Hid (G y4 y5) := hide (by rw [hy5]; exact G.alloc _ _)
            have qz : Hid (G (y4.alloc (.cells #[.slice none 0 0, .slice none 0 0, .slice none 0 0, .slice none 0 0, .slice none 0 0, .int .i64 0] 48)) y5) := hide (by rw [hy5]; exact G.refl _)
            rw [← hy5] at hHeld ⊢
            clear hy5
            refine wpAnyH_ready (rs := [12]) (by kernel_rfl) (by simp) ?_
            refine AllReadyH.cons rfl (fun K hK => ?_) AllReadyH.nil
            have R1 := (unhide hR1).g okB ((unhide q4).trans (unhide q5))
            have R2 := (unhide hR2).g okI (unhide q5)
            have d1 : m.gl.length = 0 ∨ (b1 ≠ y4.heap.size ∧ W1.heap.size ≤ b1) := (unhide hd1).imp id (fun h => by have u0 := unhide s0; have u1 := unhide s1; have u2 := unhide s2; have u3 := unhide s3; have u4 := unhide s4; have u5 := unhide s5; omega)
            have d2 : m.co.length = 0 ∨ (b2 ≠ y4.heap.size ∧ W1.heap.size ≤ b2) := (unhide hd2).imp id (fun h => by have u0 := unhide s0; have u1 := unhide s1; have u2 := unhide s2; have u3 := unhide s3; have u4 := unhide s4; have u5 := unhide s5; omega)
            have hgb : W1.heap.size ≤ y4.heap.size := by have u0 := unhide s0; have u1 := unhide s1; have u2 := unhide s2; have u3 := unhide s3; have u4 := unhide s4; have u5 := unhide s5; omega
            have LF := hide (md_leaf (m := m) hHeld.1 hgb rfl (unhide qz) R1 R2 d1 d2)
            have z0 := (unhide qz).cell (x := ⟨y4.heap.size, 0, none⟩) (v := .slice none 0 0) (by simp [go_sem])
            have f0 : y5.frozen? ⟨y4.heap.size, 0, none⟩ = false := (World.frozen?_of_block ((unhide qz).block y4.heap.size (by rw [World.size_alloc]; omega))).trans (by simp [go_sem])
            have z1 := (unhide qz).cell (x := ⟨y4.heap.size, 1, none⟩) (v := .slice none 0 0) (by simp [go_sem])
            have f1 : y5.frozen? ⟨y4.heap.size, 1, none⟩ = false := (World.frozen?_of_block ((unhide qz).block y4.heap.size (by rw [World.size_alloc]; omega))).trans (by simp [go_sem])
            have z2 := (unhide qz).cell (x := ⟨y4.heap.size, 2, none⟩) (v := .slice none 0 0) (by simp [go_sem])
            have f2 : y5.frozen? ⟨y4.heap.size, 2, none⟩ = false := (World.frozen?_of_block ((unhide qz).block y4.heap.size (by rw [World.size_alloc]; omega))).trans (by simp [go_sem])
            have z3 := (unhide qz).cell (x := ⟨y4.heap.size, 3, none⟩) (v := .slice none 0 0) (by simp [go_sem])
            have f3 : y5.frozen? ⟨y4.heap.size, 3, none⟩ = false := (World.frozen?_of_block ((unhide qz).block y4.heap.size (by rw [World.size_alloc]; omega))).trans (by simp [go_sem])
            have z4 := (unhide qz).cell (x := ⟨y4.heap.size, 4, none⟩) (v := .slice none 0 0) (by simp [go_sem])
            have f4 : y5.frozen? ⟨y4.heap.size, 4, none⟩ = false := (World.frozen?_of_block ((unhide qz).block y4.heap.size (by rw [World.size_alloc]; omega))).trans (by simp [go_sem])
            have z5 := (unhide qz).cell (x := ⟨y4.heap.size, 5, none⟩) (v := .int .i64 0) (by simp [go_sem])
            have f5 : y5.frozen? ⟨y4.heap.size, 5, none⟩ = false := (World.frozen?_of_block ((unhide qz).block y4.heap.size (by rw [World.size_alloc]; omega))).trans (by simp [go_sem])
            clear R1 R2 d1 d2 hgb
            go_simp
            refine hK.out _ _ (unhide KP _ (unhide LF).1.g) (fun hHeld => ?_)
            clear hK K
            try simp only [Act.put, List.getElem_toArray, List.getElem_cons_succ, List.getElem_cons_zero, List.setIfInBounds_toArray, List.set_cons_zero, List.set_cons_succ]
            refine wpAnyH_done (by kernel_rfl) (NoPanic.normal ?_) _
            go_wp2_with fail
            go_meet
            exact ⟨_, b1, c1, b2, c2, rfl, LF⟩
          · go_simp
            refine hK.out _ _ (unhide KP _ (hHeld.1.more _)) (fun hHeld => ?_)
            clear hK K
            try simp only [Act.put, List.getElem_toArray, List.getElem_cons_succ, List.getElem_cons_zero, List.setIfInBounds_toArray, List.set_cons_zero, List.set_cons_succ]
            obtain ⟨y4, hy4⟩ : ∃ y, y = y3.alloc (.cells #[.slice none 0 0, .slice none 0 0, .slice none 0 0, .slice none 0 0, .slice none 0 0, .int .i64 0] 48) := ⟨_, rfl⟩
            have s4 : Hid (y4.heap.size = y3.heap.size + 1) := hide (by rw [hy4]; exact World.size_alloc _ _)
            have q4 : Hid (G y3 y4) := hide (by rw [hy4]; exact G.alloc _ _)
            have qz : Hid (G (y3.alloc (.cells #[.slice none 0 0, .slice none 0 0, .slice none 0 0, .slice none 0 0, .slice none 0 0, .int .i64 0] 48)) y4) := hide (by rw [hy4]; exact G.refl _)
            rw [← hy4] at hHeld ⊢
            clear hy4
            refine wpAnyH_ready (rs := [7]) (by kernel_rfl) (by simp) ?_
            refine AllReadyH.cons rfl (fun K hK => ?_) AllReadyH.nil
            obtain ⟨b2, c2, y5, hrun, hg, hR2, hd2⟩ := unhide A2 y4 hHeld.1 y1.heap.size
            refine step_app rfl (.tmp 12) (.tmp 14) 28 rfl _ _ rfl rfl _ _ hrun ?_
            refine hK.out _ _ (unhide KP _ (hHeld.1.trans hg)) (fun hHeld => ?_)
            clear hK K hrun
            try simp only [Act.put, List.getElem_toArray, List.getElem_cons_succ, List.getElem_cons_zero, List.setIfInBounds_toArray, List.set_cons_zero, List.set_cons_succ]
            have s5 : Hid (y4.heap.size ≤ y5.heap.size) := hide hg.size
            have q5 : Hid (G y4 y5) := hide hg
            replace hR2 := hide hR2
            replace hd2 := hide hd2
            clear hg
            refine wpAnyH_take (i := 10) (v := .agg #[.slice none 0 0, .slice (some ⟨b1, 0, none⟩) m.gl.length c1, .slice (some ⟨b2, 0, none⟩) m.co.length c2, .slice none 0 0, .slice none 0 0, .int .i64 m.main]) rfl (by kernel_rfl) (by kernel_rfl) (by kernel_rfl) (fun _ _ _ h => h) (Or.inl ⟨by rfl, fun w hSw => by obtain ⟨t0, t1, t2, t3, t4, t5, t6⟩ := hSw; go_simp⟩) (by assumption) ?_
            try simp only [Act.put, List.getElem_toArray, List.getElem_cons_succ, List.getElem_cons_zero, List.setIfInBounds_toArray, List.set_cons_zero, List.set_cons_succ]
            refine wpAnyH_ready (rs := [12]) (by kernel_rfl) (by simp) ?_
            refine AllReadyH.cons rfl (fun K hK => ?_) AllReadyH.nil
            have R1 := (unhide hR1).g okB ((unhide q4).trans (unhide q5))
            have R2 := (unhide hR2).g okI (G.refl _)
            have d1 : m.gl.length = 0 ∨ (b1 ≠ y3.heap.size ∧ W1.heap.size ≤ b1) := (unhide hd1).imp id (fun h => by have u0 := unhide s0; have u1 := unhide s1; have u2 := unhide s2; have u3 := unhide s3; have u4 := unhide s4; have u5 := unhide s5; omega)
            have d2 : m.co.length = 0 ∨ (b2 ≠ y3.heap.size ∧ W1.heap.size ≤ b2) := (unhide hd2).imp id (fun h => by have u0 := unhide s0; have u1 := unhide s1; have u2 := unhide s2; have u3 := unhide s3; have u4 := unhide s4; have u5 := unhide s5; omega)
            have hgb : W1.heap.size ≤ y3.heap.size := by have u0 := unhide s0; have u1 := unhide s1; have u2 := unhide s2; have u3 := unhide s3; have u4 := unhide s4; have u5 := unhide s5; omega
            have LF := hide (md_leaf (m := m) hHeld.1 hgb rfl ((unhide qz).trans (unhide q5)) R1 R2 d1 d2)
            have z0 := ((unhide qz).trans (unhide q5)).cell (x := ⟨y3.heap.size, 0, none⟩) (v := .slice none 0 0) (by simp [go_sem])
            have f0 : y5.frozen? ⟨y3.heap.size, 0, none⟩ = false := (World.frozen?_of_block (((unhide qz).trans (unhide q5)).block y3.heap.size (by rw [World.size_alloc]; omega))).trans (by simp [go_sem])
            have z1 := ((unhide qz).trans (unhide q5)).cell (x := ⟨y3.heap.size, 1, none⟩) (v := .slice none 0 0) (by simp [go_sem])
            have f1 : y5.frozen? ⟨y3.heap.size, 1, none⟩ = false := (World.frozen?_of_block (((unhide qz).trans (unhide q5)).block y3.heap.size (by rw [World.size_alloc]; omega))).trans (by simp [go_sem])
            have z2 := ((unhide qz).trans (unhide q5)).cell (x := ⟨y3.heap.size, 2, none⟩) (v := .slice none 0 0) (by simp [go_sem])
            have f2 : y5.frozen? ⟨y3.heap.size, 2, none⟩ = false := (World.frozen?_of_block (((unhide qz).trans (unhide q5)).block y3.heap.size (by rw [World.size_alloc]; omega))).trans (by simp [go_sem])
            have z3 := ((unhide qz).trans (unhide q5)).cell (x := ⟨y3.heap.size, 3, none⟩) (v := .slice none 0 0) (by simp [go_sem])
            have f3 : y5.frozen? ⟨y3.heap.size, 3, none⟩ = false := (World.frozen?_of_block (((unhide qz).trans (unhide q5)).block y3.heap.size (by rw [World.size_alloc]; omega))).trans (by simp [go_sem])
            have z4 := ((unhide qz).trans (unhide q5)).cell (x := ⟨y3.heap.size, 4, none⟩) (v := .slice none 0 0) (by simp [go_sem])
            have f4 : y5.frozen? ⟨y3.heap.size, 4, none⟩ = false := (World.frozen?_of_block (((unhide qz).trans (unhide q5)).block y3.heap.size (by rw [World.size_alloc]; omega))).trans (by simp [go_sem])
            have z5 := ((unhide qz).trans (unhide q5)).cell (x := ⟨y3.heap.size, 5, none⟩) (v := .int .i64 0) (by simp [go_sem])
            have f5 : y5.frozen? ⟨y3.heap.size, 5, none⟩ = false := (World.frozen?_of_block (((unhide qz).trans (unhide q5)).block y3.heap.size (by rw [World.size_alloc]; omega))).trans (by simp [go_sem])
            clear R1 R2 d1 d2 hgb
            go_simp
            refine hK.out _ _ (unhide KP _ (unhide LF).1.g) (fun hHeld => ?_)
            clear hK K
            try simp only [Act.put, List.getElem_toArray, List.getElem_cons_succ, List.getElem_cons_zero, List.setIfInBounds_toArray, List.set_cons_zero, List.set_cons_succ]
            refine wpAnyH_done (by kernel_rfl) (NoPanic.normal ?_) _
            go_wp2_with fail
            go_meet
            exact ⟨_, b1, c1, b2, c2, rfl, LF⟩
        · go_simp
          refine hK.out _ _ (unhide KP _ (hHeld.1.more _)) (fun hHeld => ?_)
          clear hK K
          try simp only [Act.put, List.getElem_toArray, List.getElem_cons_succ, List.getElem_cons_zero, List.setIfInBounds_toArray, List.set_cons_zero, List.set_cons_succ]
          obtain ⟨y3, hy3⟩ : ∃ y, y = y2.alloc (.cells #[.slice none 0 0, .slice none 0 0, .slice none 0 0, .slice none 0 0, .slice none 0 0, .int .i64 0] 48) := ⟨_, rfl⟩
          have s3 : Hid (y3.heap.size = y2.heap.size + 1) := hide (by rw [hy3]; exact World.size_alloc _ _)
          have q3 : Hid (G y2 y3) := hide (by rw [hy3]; exact G.alloc _ _)
          have qz : Hid (G (y2.alloc (.cells #[.slice none 0 0, .slice none 0 0, .slice none 0 0, .slice none 0 0, .slice none 0 0, .int .i64 0] 48)) y3) := hide (by rw [hy3]; exact G.refl _)
          rw [← hy3] at hHeld ⊢
          clear hy3
          refine wpAnyH_ready (rs := [3]) (by kernel_rfl) (by simp) ?_
          refine AllReadyH.cons rfl (fun K hK => ?_) AllReadyH.nil
          obtain ⟨b1, c1, y4, hrun, hg, hR1, hd1⟩ := unhide A1 y3 hHeld.1 y0.heap.size
          refine step_app rfl (.tmp 8) (.tmp 10) 27 rfl _ _ rfl rfl _ _ hrun ?_
          refine hK.out _ _ (unhide KP _ (hHeld.1.trans hg)) (fun hHeld => ?_)
          clear hK K hrun
          try simp only [Act.put, List.getElem_toArray, List.getElem_cons_succ, List.getElem_cons_zero, List.setIfInBounds_toArray, List.set_cons_zero, List.set_cons_succ]
          have s4 : Hid (y3.heap.size ≤ y4.heap.size) := hide hg.size
          have q4 : Hid (G y3 y4) := hide hg
          replace hR1 := hide hR1
          replace hd1 := hide hd1
          clear hg
          refine wpAnyH_ready (rs := [7]) (by kernel_rfl) (by simp) ?_
          refine AllReadyH.cons rfl (fun K hK => ?_) AllReadyH.nil
          obtain ⟨b2, c2, y5, hrun, hg, hR2, hd2⟩ := unhide A2 y4 hHeld.1 y1.heap.size
          refine step_app rfl (.tmp 12) (.tmp 14) 28 rfl _ _ rfl rfl _ _ hrun ?_
          refine hK.out _ _ (unhide KP _ (hHeld.1.trans hg)) (fun hHeld => ?_)
          clear hK K hrun
          try simp only [Act.put, List.getElem_toArray, List.getElem_cons_succ, List.getElem_cons_zero, List.setIfInBounds_toArray, List.set_cons_zero, List.set_cons_succ]
          have s5 : Hid (y4.heap.size ≤ y5.heap.size) := hide hg.size
          have q5 : Hid (G y4 y5) := hide hg
          replace hR2 := hide hR2
          replace hd2 := hide hd2
          clear hg
          refine wpAnyH_take (i := 10) (v := .agg #[.slice none 0 0, .slice (some ⟨b1, 0, none⟩) m.gl.length c1, .slice (some ⟨b2, 0, none⟩) m.co.length c2, .slice none 0 0, .slice none 0 0, .int .i64 m.main]) rfl (by kernel_rfl) (by kernel_rfl) (by kernel_rfl) (fun _ _ _ h => h) (Or.inl ⟨by rfl, fun w hSw => by obtain ⟨t0, t1, t2, t3, t4, t5, t6⟩ := hSw; go_simp⟩) (by assumption) ?_
          try simp only [Act.put, List.getElem_toArray, List.getElem_cons_succ, List.getElem_cons_zero, List.setIfInBounds_toArray, List.set_cons_zero, List.set_cons_succ]
          refine wpAnyH_ready (rs := [12]) (by kernel_rfl) (by simp) ?_
          refine AllReadyH.cons rfl (fun K hK => ?_) AllReadyH.nil
          have R1 := (unhide hR1).g okB (unhide q5)
          have R2 := (unhide hR2).g okI (G.refl _)
          have d1 : m.gl.length = 0 ∨ (b1 ≠ y2.heap.size ∧ W1.heap.size ≤ b1) := (unhide hd1).imp id (fun h => by have u0 := unhide s0; have u1 := unhide s1; have u2 := unhide s2; have u3 := unhide s3; have u4 := unhide s4; have u5 := unhide s5; omega)
          have d2 : m.co.length = 0 ∨ (b2 ≠ y2.heap.size ∧ W1.heap.size ≤ b2) := (unhide hd2).imp id (fun h => by have u0 := unhide s0; have u1 := unhide s1; have u2 := unhide s2; have u3 := unhide s3; have u4 := unhide s4; have u5 := unhide s5; omega)
          have hgb : W1.heap.size ≤ y2.heap.size := by have u0 := unhide s0; have u1 := unhide s1; have u2 := unhide s2; have u3 := unhide s3; have u4 := unhide s4; have u5 := unhide s5; omega
          have LF := hide (md_leaf (m := m) hHeld.1 hgb rfl ((unhide qz).trans ((unhide q4).trans (unhide q5))) R1 R2 d1 d2)
          have z0 := ((unhide qz).trans ((unhide q4).trans (unhide q5))).cell (x := ⟨y2.heap.size, 0, none⟩) (v := .slice none 0 0) (by simp [go_sem])
          have f0 : y5.frozen? ⟨y2.heap.size, 0, none⟩ = false := (World.frozen?_of_block (((unhide qz).trans ((unhide q4).trans (unhide q5))).block y2.heap.size (by rw [World.size_alloc]; omega))).trans (by simp [go_sem])
          have z1 := ((unhide qz).trans ((unhide q4).trans (unhide q5))).cell (x := ⟨y2.heap.size, 1, none⟩) (v := .slice none 0 0) (by simp [go_sem])
          have f1 : y5.frozen? ⟨y2.heap.size, 1, none⟩ = false := (World.frozen?_of_block (((unhide qz).trans ((unhide q4).trans (unhide q5))).block y2.heap.size (by rw [World.size_alloc]; omega))).trans (by simp [go_sem])
          have z2 := ((unhide qz).trans ((unhide q4).trans (unhide q5))).cell (x := ⟨y2.heap.size, 2, none⟩) (v := .slice none 0 0) (by simp [go_sem])
          have f2 : y5.frozen? ⟨y2.heap.size, 2, none⟩ = false := (World.frozen?_of_block (((unhide qz).trans ((unhide q4).trans (unhide q5))).block y2.heap.size (by rw [World.size_alloc]; omega))).trans (by simp [go_sem])
          have z3 := ((unhide qz).trans ((unhide q4).trans (unhide q5))).cell (x := ⟨y2.heap.size, 3, none⟩) (v := .slice none 0 0) (by simp [go_sem])
          have f3 : y5.frozen? ⟨y2.heap.size, 3, none⟩ = false := (World.frozen?_of_block (((unhide qz).trans ((unhide q4).trans (unhide q5))).block y2.heap.size (by rw [World.size_alloc]; omega))).trans (by simp [go_sem])
          have z4 := ((unhide qz).trans ((unhide q4).trans (unhide q5))).cell (x := ⟨y2.heap.size, 4, none⟩) (v := .slice none 0 0) (by simp [go_sem])
          have f4 : y5.frozen? ⟨y2.heap.size, 4, none⟩ = false := (World.frozen?_of_block (((unhide qz).trans ((unhide q4).trans (unhide q5))).block y2.heap.size (by rw [World.size_alloc]; omega))).trans (by simp [go_sem])
          have z5 := ((unhide qz).trans ((unhide q4).trans (unhide q5))).cell (x := ⟨y2.heap.size, 5, none⟩) (v := .int .i64 0) (by simp [go_sem])
          have f5 : y5.frozen? ⟨y2.heap.size, 5, none⟩ = false := (World.frozen?_of_block (((unhide qz).trans ((unhide q4).trans (unhide q5))).block y2.heap.size (by rw [World.size_alloc]; omega))).trans (by simp [go_sem])
          clear R1 R2 d1 d2 hgb
          go_simp
          refine hK.out _ _ (unhide KP _ (unhide LF).1.g) (fun hHeld => ?_)
          clear hK K
          try simp only [Act.put, List.getElem_toArray, List.getElem_cons_succ, List.getElem_cons_zero, List.setIfInBounds_toArray, List.set_cons_zero, List.set_cons_succ]
          refine wpAnyH_done (by kernel_rfl) (NoPanic.normal ?_) _
          go_wp2_with fail
          go_meet
          exact ⟨_, b1, c1, b2, c2, rfl, LF⟩
      · go_simp
        refine hK.out _ _ (unhide KP _ (hHeld.1.more _)) (fun hHeld => ?_)
        clear hK K
        try simp only [Act.put, List.getElem_toArray, List.getElem_cons_succ, List.getElem_cons_zero, List.setIfInBounds_toArray, List.set_cons_zero, List.set_cons_succ]
        obtain ⟨y2, hy2⟩ : ∃ y, y = y1.alloc (.cells #[.slice none 0 0, .slice none 0 0, .slice none 0 0, .slice none 0 0, .slice none 0 0, .int .i64 0] 48) := ⟨_, rfl⟩
        have s2 : Hid (y2.heap.size = y1.heap.size + 1) := hide (by rw [hy2]; exact World.size_alloc _ _)
        have q2 : Hid (G y1 y2) := hide (by rw [hy2]; exact G.alloc _ _)
        have qz : Hid (G (y1.alloc (.cells #[.slice none 0 0, .slice none 0 0, .slice none 0 0, .slice none 0 0, .slice none 0 0, .int .i64 0] 48)) y2) := hide (by rw [hy2]; exact G.refl _)
        rw [← hy2] at hHeld ⊢
        clear hy2
        refine wpAnyH_ready (rs := [3, 4]) (by kernel_rfl) (by simp) ?_
        refine AllReadyH.cons rfl (fun K hK => ?_) (AllReadyH.cons rfl (fun K hK => ?_) AllReadyH.nil)
        · obtain ⟨b1, c1, y3, hrun, hg, hR1, hd1⟩ := unhide A1 y2 hHeld.1 y0.heap.size
          refine step_app rfl (.tmp 8) (.tmp 10) 27 rfl _ _ rfl rfl _ _ hrun ?_
          refine hK.out _ _ (unhide KP _ (hHeld.1.trans hg)) (fun hHeld => ?_)
          clear hK K hrun
          try simp only [Act.put, List.getElem_toArray, List.getElem_cons_succ, List.getElem_cons_zero, List.setIfInBounds_toArray, List.set_cons_zero, List.set_cons_succ]
          have s3 : Hid (y2.heap.size ≤ y3.heap.size) := hide hg.size
          have q3 : Hid (G y2 y3) := hide hg
          replace hR1 := hide hR1
          replace hd1 := hide hd1
          clear hg
          refine wpAnyH_ready (rs := [4]) (by kernel_rfl) (by simp) ?_
          refine AllReadyH.cons rfl (fun K hK => ?_) AllReadyH.nil
          go_simp
          refine hK.out _ _ (unhide KP _ (hHeld.1.more _)) (fun hHeld => ?_)
          clear hK K
          try simp only [Act.put, List.getElem_toArray, List.getElem_cons_succ, List.getElem_cons_zero, List.setIfInBounds_toArray, List.set_cons_zero, List.set_cons_succ]
          obtain ⟨y4, hy4⟩ : ∃ y, y = y3.alloc (.cells #[] 2) := ⟨_, rfl⟩
          have s4 : Hid (y4.heap.size = y3.heap.size + 1) := hide (by rw [hy4]; exact World.size_alloc _ _)
          have q4 : Hid (G y3 y4) := hide (by rw [hy4]; exact G.alloc _ _)
          rw [← hy4] at hHeld ⊢
          clear hy4
          refine wpAnyH_ready (rs := [7]) (by kernel_rfl) (by simp) ?_
          refine AllReadyH.cons rfl (fun K hK => ?_) AllReadyH.nil
          obtain ⟨b2, c2, y5, hrun, hg, hR2, hd2⟩ := unhide A2 y4 hHeld.1 y3.heap.size
          refine step_app rfl (.tmp 12) (.tmp 14) 28 rfl _ _ rfl rfl _ _ hrun ?_
          refine hK.out _ _ (unhide KP _ (hHeld.1.trans hg)) (fun hHeld => ?_)
          clear hK K hrun
          try simp only [Act.put, List.getElem_toArray, List.getElem_cons_succ, List.getElem_cons_zero, List.setIfInBounds_toArray, List.set_cons_zero, List.set_cons_succ]
          have s5 : Hid (y4.heap.size ≤ y5.heap.size) := hide hg.size
          have q5 : Hid (G y4 y5) := hide hg
          replace hR2 := hide hR2
          replace hd2 := hide hd2
          clear hg
          refine wpAnyH_take (i := 10) (v := .agg #[.slice none 0 0, .slice (some ⟨b1, 0, none⟩) m.gl.length c1, .slice (some ⟨b2, 0, none⟩) m.co.length c2, .slice none 0 0, .slice none 0 0, .int .i64 m.main]) rfl (by kernel_rfl) (by kernel_rfl) (by kernel_rfl) (fun _ _ _ h => h) (Or.inl ⟨by rfl, fun w hSw => by obtain ⟨t0, t1, t2, t3, t4, t5, t6⟩ := hSw; go_simp⟩) (by assumption) ?_
          try simp only [Act.put, List.getElem_toArray, List.getElem_cons_succ, List.getElem_cons_zero, List.setIfInBounds_toArray, List.set_cons_zero, List.set_cons_succ]
          refine wpAnyH_ready (rs := [12]) (by kernel_rfl) (by simp) ?_
          refine AllReadyH.cons rfl (fun K hK => ?_) AllReadyH.nil
          have R1 := (unhide hR1).g okB ((unhide q4).trans (unhide q5))
          have R2 := (unhide hR2).g okI (G.refl _)
          have d1 : m.gl.length = 0 ∨ (b1 ≠ y1.heap.size ∧ W1.heap.size ≤ b1) := (unhide hd1).imp id (fun h => by have u0 := unhide s0; have u1 := unhide s1; have u2 := unhide s2; have u3 := unhide s3; have u4 := unhide s4; have u5 := unhide s5; omega)
          have d2 : m.co.length = 0 ∨ (b2 ≠ y1.heap.size ∧ W1.heap.size ≤ b2) := (unhide hd2).imp id (fun h => by have u0 := unhide s0; have u1 := unhide s1; have u2 := unhide s2; have u3 := unhide s3; have u4 := unhide s4; have u5 := unhide s5; omega)
          have hgb : W1.heap.size ≤ y1.heap.size := by have u0 := unhide s0; have u1 := unhide s1; have u2 := unhide s2; have u3 := unhide s3; have u4 := unhide s4; have u5 := unhide s5; omega
          have LF := hide (md_leaf (m := m) hHeld.1 hgb rfl ((unhide qz).trans (((unhide q3).trans (unhide q4)).trans (unhide q5))) R1 R2 d1 d2)
          have z0 := ((unhide qz).trans (((unhide q3).trans (unhide q4)).trans (unhide q5))).cell (x := ⟨y1.heap.size, 0, none⟩) (v := .slice none 0 0) (by simp [go_sem])
          have f0 : y5.frozen? ⟨y1.heap.size, 0, none⟩ = false := (World.frozen?_of_block (((unhide qz).trans (((unhide q3).trans (unhide q4)).trans (unhide q5))).block y1.heap.size (by rw [World.size_alloc]; omega))).trans (by simp [go_sem])
          have z1 := ((unhide qz).trans (((unhide q3).trans (unhide q4)).trans (unhide q5))).cell (x := ⟨y1.heap.size, 1, none⟩) (v := .slice none 0 0) (by simp [go_sem])
          have f1 : y5.frozen? ⟨y1.heap.size, 1, none⟩ = false := (World.frozen?_of_block (((unhide qz).trans (((unhide q3).trans (unhide q4)).trans (unhide q5))).block y1.heap.size (by rw [World.size_alloc]; omega))).trans (by simp [go_sem])
          have z2 := ((unhide qz).trans (((unhide q3).trans (unhide q4)).trans (unhide q5))).cell (x := ⟨y1.heap.size, 2, none⟩) (v := .slice none 0 0) (by simp [go_sem])
          have f2 : y5.frozen? ⟨y1.heap.size, 2, none⟩ = false := (World.frozen?_of_block (((unhide qz).trans (((unhide q3).trans (unhide q4)).trans (unhide q5))).block y1.heap.size (by rw [World.size_alloc]; omega))).trans (by simp [go_sem])
          have z3 := ((unhide qz).trans (((unhide q3).trans (unhide q4)).trans (unhide q5))).cell (x := ⟨y1.heap.size, 3, none⟩) (v := .slice none 0 0) (by simp [go_sem])
          have f3 : y5.frozen? ⟨y1.heap.size, 3, none⟩ = false := (World.frozen?_of_block (((unhide qz).trans (((unhide q3).trans (unhide q4)).trans (unhide q5))).block y1.heap.size (by rw [World.size_alloc]; omega))).trans (by simp [go_sem])
          have z4 := ((unhide qz).trans (((unhide q3).trans (unhide q4)).trans (unhide q5))).cell (x := ⟨y1.heap.size, 4, none⟩) (v := .slice none 0 0) (by simp [go_sem])
          have f4 : y5.frozen? ⟨y1.heap.size, 4, none⟩ = false := (World.frozen?_of_block (((unhide qz).trans (((unhide q3).trans (unhide q4)).trans (unhide q5))).block y1.heap.size (by rw [World.size_alloc]; omega))).trans (by simp [go_sem])
          have z5 := ((unhide qz).trans (((unhide q3).trans (unhide q4)).trans (unhide q5))).cell (x := ⟨y1.heap.size, 5, none⟩) (v := .int .i64 0) (by simp [go_sem])
          have f5 : y5.frozen? ⟨y1.heap.size, 5, none⟩ = false := (World.frozen?_of_block (((unhide qz).trans (((unhide q3).trans (unhide q4)).trans (unhide q5))).block y1.heap.size (by rw [World.size_alloc]; omega))).trans (by simp [go_sem])
          clear R1 R2 d1 d2 hgb
          go_simp
          refine hK.out _ _ (unhide KP _ (unhide LF).1.g) (fun hHeld => ?_)
          clear hK K
          try simp only [Act.put, List.getElem_toArray, List.getElem_cons_succ, List.getElem_cons_zero, List.setIfInBounds_toArray, List.set_cons_zero, List.set_cons_succ]
          refine wpAnyH_done (by kernel_rfl) (NoPanic.normal ?_) _
          go_wp2_with fail
          go_meet
          exact ⟨_, b1, c1, b2, c2, rfl, LF⟩
        · go_simp
          refine hK.out _ _ (unhide KP _ (hHeld.1.more _)) (fun hHeld => ?_)
          clear hK K
          try simp only [Act.put, List.getElem_toArray, List.getElem_cons_succ, List.getElem_cons_zero, List.setIfInBounds_toArray, List.set_cons_zero, List.set_cons_succ]
          obtain ⟨y3, hy3⟩ : ∃ y, y = y2.alloc (.cells #[] 2) := ⟨_, rfl⟩
          have s3 : Hid (y3.heap.size = y2.heap.size + 1) := hide (by rw [hy3]; exact World.size_alloc _ _)
          have q3 : Hid (G y2 y3) := hide (by rw [hy3]; exact G.alloc _ _)
          rw [← hy3] at hHeld ⊢
          clear hy3
          refine wpAnyH_ready (rs := [3]) (by kernel_rfl) (by simp) ?_
          refine AllReadyH.cons rfl (fun K hK => ?_) AllReadyH.nil
          obtain ⟨b1, c1, y4, hrun, hg, hR1, hd1⟩ := unhide A1 y3 hHeld.1 y0.heap.size
          refine step_app rfl (.tmp 8) (.tmp 10) 27 rfl _ _ rfl rfl _ _ hrun ?_
          refine hK.out _ _ (unhide KP _ (hHeld.1.trans hg)) (fun hHeld => ?_)
          clear hK K hrun
          try simp only [Act.put, List.getElem_toArray, List.getElem_cons_succ, List.getElem_cons_zero, List.setIfInBounds_toArray, List.set_cons_zero, List.set_cons_succ]
          have s4 : Hid (y3.heap.size ≤ y4.heap.size) := hide hg.size
          have q4 : Hid (G y3 y4) := hide hg
          replace hR1 := hide hR1
          replace hd1 := hide hd1
          clear hg
          refine wpAnyH_ready (rs := [7]) (by kernel_rfl) (by simp) ?_
          refine AllReadyH.cons rfl (fun K hK => ?_) AllReadyH.nil
          obtain ⟨b2, c2, y5, hrun, hg, hR2, hd2⟩ := unhide A2 y4 hHeld.1 y2.heap.size
          refine step_app rfl (.tmp 12) (.tmp 14) 28 rfl _ _ rfl rfl _ _ hrun ?_
          refine hK.out _ _ (unhide KP _ (hHeld.1.trans hg)) (fun hHeld => ?_)
          clear hK K hrun
          try simp only [Act.put, List.getElem_toArray, List.getElem_cons_succ, List.getElem_cons_zero, List.setIfInBounds_toArray, List.set_cons_zero, List.set_cons_succ]
          have s5 : Hid (y4.heap.size ≤ y5.heap.size) := hide hg.size
          have q5 : Hid (G y4 y5) := hide hg
          replace hR2 := hide hR2
          replace hd2 := hide hd2
          clear hg
          refine wpAnyH_take (i := 10) (v := .agg #[.slice none 0 0, .slice (some ⟨b1, 0, none⟩) m.gl.length c1, .slice (some ⟨b2, 0, none⟩) m.co.length c2, .slice none 0 0, .slice none 0 0, .int .i64 m.main]) rfl (by kernel_rfl) (by kernel_rfl) (by kernel_rfl) (fun _ _ _ h => h) (Or.inl ⟨by rfl, fun w hSw => by obtain ⟨t0, t1, t2, t3, t4, t5, t6⟩ := hSw; go_simp⟩) (by assumption) ?_
          try simp only [Act.put, List.getElem_toArray, List.getElem_cons_succ, List.getElem_cons_zero, List.setIfInBounds_toArray, List.set_cons_zero, List.set_cons_succ]
          refine wpAnyH_ready (rs := [12]) (by kernel_rfl) (by simp) ?_
          refine AllReadyH.cons rfl (fun K hK => ?_) AllReadyH.nil
          have R1 := (unhide hR1).g okB (unhide q5)
          have R2 := (unhide hR2).g okI (G.refl _)
          have d1 : m.gl.length = 0 ∨ (b1 ≠ y1.heap.size ∧ W1.heap.size ≤ b1) := (unhide hd1).imp id (fun h => by have u0 := unhide s0; have u1 := unhide s1; have u2 := unhide s2; have u3 := unhide s3; have u4 := unhide s4; have u5 := unhide s5; omega)
          have d2 : m.co.length = 0 ∨ (b2 ≠ y1.heap.size ∧ W1.heap.size ≤ b2) := (unhide hd2).imp id (fun h => by have u0 := unhide s0; have u1 := unhide s1; have u2 := unhide s2; have u3 := unhide s3; have u4 := unhide s4; have u5 := unhide s5; omega)
          have hgb : W1.heap.size ≤ y1.heap.size := by have u0 := unhide s0; have u1 := unhide s1; have u2 := unhide s2; have u3 := unhide s3; have u4 := unhide s4; have u5 := unhide s5; omega
          have LF := hide (md_leaf (m := m) hHeld.1 hgb rfl ((unhide qz).trans (((unhide q3).trans (unhide q4)).trans (unhide q5))) R1 R2 d1 d2)
          have z0 := ((unhide qz).trans (((unhide q3).trans (unhide q4)).trans (unhide q5))).cell (x := ⟨y1.heap.size, 0, none⟩) (v := .slice none 0 0) (by simp [go_sem])
          have f0 : y5.frozen? ⟨y1.heap.size, 0, none⟩ = false := (World.frozen?_of_block (((unhide qz).trans (((unhide q3).trans (unhide q4)).trans (unhide q5))).block y1.heap.size (by rw [World.size_alloc]; omega))).trans (by simp [go_sem])
          have z1 := ((unhide qz).trans (((unhide q3).trans (unhide q4)).trans (unhide q5))).cell (x := ⟨y1.heap.size, 1, none⟩) (v := .slice none 0 0) (by simp [go_sem])
          have f1 : y5.frozen? ⟨y1.heap.size, 1, none⟩ = false := (World.frozen?_of_block (((unhide qz).trans (((unhide q3).trans (unhide q4)).trans (unhide q5))).block y1.heap.size (by rw [World.size_alloc]; omega))).trans (by simp [go_sem])
          have z2 := ((unhide qz).trans (((unhide q3).trans (unhide q4)).trans (unhide q5))).cell (x := ⟨y1.heap.size, 2, none⟩) (v := .slice none 0 0) (by simp [go_sem])
          have f2 : y5.frozen? ⟨y1.heap.size, 2, none⟩ = false := (World.frozen?_of_block (((unhide qz).trans (((unhide q3).trans (unhide q4)).trans (unhide q5))).block y1.heap.size (by rw [World.size_alloc]; omega))).trans (by simp [go_sem])
          have z3 := ((unhide qz).trans (((unhide q3).trans (unhide q4)).trans (unhide q5))).cell (x := ⟨y1.heap.size, 3, none⟩) (v := .slice none 0 0) (by simp [go_sem])
          have f3 : y5.frozen? ⟨y1.heap.size, 3, none⟩ = false := (World.frozen?_of_block (((unhide qz).trans (((unhide q3).trans (unhide q4)).trans (unhide q5))).block y1.heap.size (by rw [World.size_alloc]; omega))).trans (by simp [go_sem])
          have z4 := ((unhide qz).trans (((unhide q3).trans (unhide q4)).trans (unhide q5))).cell (x := ⟨y1.heap.size, 4, none⟩) (v := .slice none 0 0) (by simp [go_sem])
          have f4 : y5.frozen? ⟨y1.heap.size, 4, none⟩ = false := (World.frozen?_of_block (((unhide qz).trans (((unhide q3).trans (unhide q4)).trans (unhide q5))).block y1.heap.size (by rw [World.size_alloc]; omega))).trans (by simp [go_sem])
          have z5 := ((unhide qz).trans (((unhide q3).trans (unhide q4)).trans (unhide q5))).cell (x := ⟨y1.heap.size, 5, none⟩) (v := .int .i64 0) (by simp [go_sem])
          have f5 : y5.frozen? ⟨y1.heap.size, 5, none⟩ = false := (World.frozen?_of_block (((unhide qz).trans (((unhide q3).trans (unhide q4)).trans (unhide q5))).block y1.heap.size (by rw [World.size_alloc]; omega))).trans (by simp [go_sem])
          clear R1 R2 d1 d2 hgb
          go_simp
          refine hK.out _ _ (unhide KP _ (unhide LF).1.g) (fun hHeld => ?_)
          clear hK K
          try simp only [Act.put, List.getElem_toArray, List.getElem_cons_succ, List.getElem_cons_zero, List.setIfInBounds_toArray, List.set_cons_zero, List.set_cons_succ]
          refine wpAnyH_done (by kernel_rfl) (NoPanic.normal ?_) _
          go_wp2_with fail
          go_meet
          exact ⟨_, b1, c1, b2, c2, rfl, LF⟩
    · go_simp
      refine hK.out _ _ (unhide KP _ (hHeld.1.more _)) (fun hHeld => ?_)
      clear hK K
      try simp only [Act.put, List.getElem_toArray, List.getElem_cons_succ, List.getElem_cons_zero, List.setIfInBounds_toArray, List.set_cons_zero, List.set_cons_succ]
      obtain ⟨y1, hy1⟩ : ∃ y, y = y0.alloc (.cells #[] 2) := ⟨_, rfl⟩
      have s1 : Hid (y1.heap.size = y0.heap.size + 1) := hide (by rw [hy1]; exact World.size_alloc _ _)
      have q1 : Hid (G y0 y1) := hide (by rw [hy1]; exact G.alloc _ _)
      rw [← hy1] at hHeld ⊢
      clear hy1
      refine wpAnyH_ready (rs := [0, 11]) (by kernel_rfl) (by simp) ?_
      refine AllReadyH.cons rfl (fun K hK => ?_) (AllReadyH.cons rfl (fun K hK => ?_) AllReadyH.nil)
      · go_simp
        refine hK.out _ _ (unhide KP _ (hHeld.1.more _)) (fun hHeld => ?_)
        clear hK K
        try simp only [Act.put, List.getElem_toArray, List.getElem_cons_succ, List.getElem_cons_zero, List.setIfInBounds_toArray, List.set_cons_zero, List.set_cons_succ]
        obtain ⟨y2, hy2⟩ : ∃ y, y = y1.alloc (.cells #[] 4) := ⟨_, rfl⟩
        have s2 : Hid (y2.heap.size = y1.heap.size + 1) := hide (by rw [hy2]; exact World.size_alloc _ _)
        have q2 : Hid (G y1 y2) := hide (by rw [hy2]; exact G.alloc _ _)
        rw [← hy2] at hHeld ⊢
        clear hy2
        refine wpAnyH_ready (rs := [3, 11]) (by kernel_rfl) (by simp) ?_
        refine AllReadyH.cons rfl (fun K hK => ?_) (AllReadyH.cons rfl (fun K hK => ?_) AllReadyH.nil)
        · obtain ⟨b1, c1, y3, hrun, hg, hR1, hd1⟩ := unhide A1 y2 hHeld.1 y1.heap.size
          refine step_app rfl (.tmp 8) (.tmp 10) 27 rfl _ _ rfl rfl _ _ hrun ?_
          refine hK.out _ _ (unhide KP _ (hHeld.1.trans hg)) (fun hHeld => ?_)
          clear hK K hrun
          try simp only [Act.put, List.getElem_toArray, List.getElem_cons_succ, List.getElem_cons_zero, List.setIfInBounds_toArray, List.set_cons_zero, List.set_cons_succ]
          have s3 : Hid (y2.heap.size ≤ y3.heap.size) := hide hg.size
          have q3 : Hid (G y2 y3) := hide hg
          replace hR1 := hide hR1
          replace hd1 := hide hd1
          clear hg
          refine wpAnyH_ready (rs := [7, 11]) (by kernel_rfl) (by simp) ?_
          refine AllReadyH.cons rfl (fun K hK => ?_) (AllReadyH.cons rfl (fun K hK => ?_) AllReadyH.nil)
          · obtain ⟨b2, c2, y4, hrun, hg, hR2, hd2⟩ := unhide A2 y3 hHeld.1 y0.heap.size
            refine step_app rfl (.tmp 12) (.tmp 14) 28 rfl _ _ rfl rfl _ _ hrun ?_
            refine hK.out _ _ (unhide KP _ (hHeld.1.trans hg)) (fun hHeld => ?_)
            clear hK K hrun
            try simp only [Act.put, List.getElem_toArray, List.getElem_cons_succ, List.getElem_cons_zero, List.setIfInBounds_toArray, List.set_cons_zero, List.set_cons_succ]
            have s4 : Hid (y3.heap.size ≤ y4.heap.size) := hide hg.size
            have q4 : Hid (G y3 y4) := hide hg
            replace hR2 := hide hR2
            replace hd2 := hide hd2
            clear hg
            refine wpAnyH_take (i := 10) (v := .agg #[.slice none 0 0, .slice (some ⟨b1, 0, none⟩) m.gl.length c1, .slice (some ⟨b2, 0, none⟩) m.co.length c2, .slice none 0 0, .slice none 0 0, .int .i64 m.main]) rfl (by kernel_rfl) (by kernel_rfl) (by kernel_rfl) (fun _ _ _ h => h) (Or.inl ⟨by rfl, fun w hSw => by obtain ⟨t0, t1, t2, t3, t4, t5, t6⟩ := hSw; go_simp⟩) (by assumption) ?_
            try simp only [Act.put, List.getElem_toArray, List.getElem_cons_succ, List.getElem_cons_zero, List.setIfInBounds_toArray, List.set_cons_zero, List.set_cons_succ]
            refine wpAnyH_ready (rs := [11]) (by kernel_rfl) (by simp) ?_
            refine AllReadyH.cons rfl (fun K hK => ?_) AllReadyH.nil
            go_simp
            refine hK.out _ _ (unhide KP _ (hHeld.1.more _)) (fun hHeld => ?_)
            clear hK K
            try simp only [Act.put, List.getElem_toArray, List.getElem_cons_succ, List.getElem_cons_zero, List.setIfInBounds_toArray, List.set_cons_zero, List.set_cons_succ]
            obtain ⟨y5, hy5⟩ : ∃ y, y = y4.alloc (.cells #[.slice none 0 0, .slice none 0 0, .slice none 0 0, .slice none 0 0, .slice none 0 0, .int .i64 0] 48) := ⟨_, rfl⟩
            have s5 : Hid (y5.heap.size = y4.heap.size + 1) := hide (by rw [hy5]; exact World.size_alloc _ _)
            have q5 : Hid (G y4 y5) := hide (by rw [hy5]; exact G.alloc _ _)
            have qz : Hid (G (y4.alloc (.cells #[.slice none 0 0, .slice none 0 0, .slice none 0 0, .slice none 0 0, .slice none 0 0, .int .i64 0] 48)) y5) := hide (by rw [hy5]; exact G.refl _)
            rw [← hy5] at hHeld ⊢
            clear hy5
            refine wpAnyH_ready (rs := [12]) (by kernel_rfl) (by simp) ?_
            refine AllReadyH.cons rfl (fun K hK => ?_) AllReadyH.nil
            have R1 := (unhide hR1).g okB ((unhide q4).trans (unhide q5))
            have R2 := (unhide hR2).g okI (unhide q5)
            have d1 : m.gl.length = 0 ∨ (b1 ≠ y4.heap.size ∧ W1.heap.size ≤ b1) := (unhide hd1).imp id (fun h => by have u0 := unhide s0; have u1 := unhide s1; have u2 := unhide s2; have u3 := unhide s3; have u4 := unhide s4; have u5 := unhide s5; omega)
            have d2 : m.co.length = 0 ∨ (b2 ≠ y4.heap.size ∧ W1.heap.size ≤ b2) := (unhide hd2).imp id (fun h => by have u0 := unhide s0; have u1 := unhide s1; have u2 := unhide s2; have u3 := unhide s3; have u4 := unhide s4; have u5 := unhide s5; omega)
            have hgb : W1.heap.size ≤ y4.heap.size := by have u0 := unhide s0; have u1 := unhide s1; have u2 := unhide s2; have u3 := unhide s3; have u4 := unhide s4; have u5 := unhide s5; omega
            have LF := hide (md_leaf (m := m) hHeld.1 hgb rfl (unhide qz) R1 R2 d1 d2)
            have z0 := (unhide qz).cell (x := ⟨y4.heap.size, 0, none⟩) (v := .slice none 0 0) (by simp [go_sem])
            have f0 : y5.frozen? ⟨y4.heap.size, 0, none⟩ = false := (World.frozen?_of_block ((unhide qz).block y4.heap.size (by rw [World.size_alloc]; omega))).trans (by simp [go_sem])
            have z1 := (unhide qz).cell (x := ⟨y4.heap.size, 1, none⟩) (v := .slice none 0 0) (by simp [go_sem])
            have f1 : y5.frozen? ⟨y4.heap.size, 1, none⟩ = false := (World.frozen?_of_block ((unhide qz).block y4.heap.size (by rw [World.size_alloc]; omega))).trans (by simp [go_sem])
            have z2 := (unhide qz).cell (x := ⟨y4.heap.size, 2, none⟩) (v := .slice none 0 0) (by simp [go_sem])
            have f2 : y5.frozen? ⟨y4.heap.size, 2, none⟩ = false := (World.frozen?_of_block ((unhide qz).block y4.heap.size (by rw [World.size_alloc]; omega))).trans (by simp [go_sem])
            have z3 := (unhide qz).cell (x := ⟨y4.heap.size, 3, none⟩) (v := .slice none 0 0) (by simp [go_sem])
            have f3 : y5.frozen? ⟨y4.heap.size, 3, none⟩ = false := (World.frozen?_of_block ((unhide qz).block y4.heap.size (by rw [World.size_alloc]; omega))).trans (by simp [go_sem])
            have z4 := (unhide qz).cell (x := ⟨y4.heap.size, 4, none⟩) (v := .slice none 0 0) (by simp [go_sem])
            have f4 : y5.frozen? ⟨y4.heap.size, 4, none⟩ = false := (World.frozen?_of_block ((unhide qz).block y4.heap.size (by rw [World.size_alloc]; omega))).trans (by simp [go_sem])
            have z5 := (unhide qz).cell (x := ⟨y4.heap.size, 5, none⟩) (v := .int .i64 0) (by simp [go_sem])
            have f5 : y5.frozen? ⟨y4.heap.size, 5, none⟩ = false := (World.frozen?_of_block ((unhide qz).block y4.heap.size (by rw [World.size_alloc]; omega))).trans (by simp [go_sem])
            clear R1 R2 d1 d2 hgb
            go_simp
            refine hK.out _ _ (unhide KP _ (unhide LF).1.g) (fun hHeld => ?_)
            clear hK K
            try simp only [Act.put, List.getElem_toArray, List.getElem_cons_succ, List.getElem_cons_zero, List.setIfInBounds_toArray, List.set_cons_zero, List.set_cons_succ]
            refine wpAnyH_done (by kernel_rfl) (NoPanic.normal ?_) _
            go_wp2_with fail
            go_meet
            exact ⟨_, b1, c1, b2, c2, rfl, LF⟩
          · go_simp
            refine hK.out _ _ (unhide KP _ (hHeld.1.more _)) (fun hHeld => ?_)
            clear hK K
            try simp only [Act.put, List.getElem_toArray, List.getElem_cons_succ, List.getElem_cons_zero, List.setIfInBounds_toArray, List.set_cons_zero, List.set_cons_succ]
            obtain ⟨y4, hy4⟩ : ∃ y, y = y3.alloc (.cells #[.slice none 0 0, .slice none 0 0, .slice none 0 0, .slice none 0 0, .slice none 0 0, .int .i64 0] 48) := ⟨_, rfl⟩
            have s4 : Hid (y4.heap.size = y3.heap.size + 1) := hide (by rw [hy4]; exact World.size_alloc _ _)
            have q4 : Hid (G y3 y4) := hide (by rw [hy4]; exact G.alloc _ _)
            have qz : Hid (G (y3.alloc (.cells #[.slice none 0 0, .slice none 0 0, .slice none 0 0, .slice none 0 0, .slice none 0 0, .int .i64 0] 48)) y4) := hide (by rw [hy4]; exact G.refl _)
            rw [← hy4] at hHeld ⊢
            clear hy4
            refine wpAnyH_ready (rs := [7]) (by kernel_rfl) (by simp) ?_
            refine AllReadyH.cons rfl (fun K hK => ?_) AllReadyH.nil
            obtain ⟨b2, c2, y5, hrun, hg, hR2, hd2⟩ := unhide A2 y4 hHeld.1 y0.heap.size
            refine step_app rfl (.tmp 12) (.tmp 14) 28 rfl _ _ rfl rfl _ _ hrun ?_
            refine hK.out _ _ (unhide KP _ (hHeld.1.trans hg)) (fun hHeld => ?_)
            clear hK K hrun
            try simp only [Act.put, List.getElem_toArray, List.getElem_cons_succ, List.getElem_cons_zero, List.setIfInBounds_toArray, List.set_cons_zero, List.set_cons_succ]
            have s5 : Hid (y4.heap.size ≤ y5.heap.size) := hide hg.size
            have q5 : Hid (G y4 y5) := hide hg
            replace hR2 := hide hR2
            replace hd2 := hide hd2
            clear hg
            refine wpAnyH_take (i := 10) (v := .agg #[.slice none 0 0, .slice (some ⟨b1, 0, none⟩) m.gl.length c1, .slice (some ⟨b2, 0, none⟩) m.co.length c2, .slice none 0 0, .slice none 0 0, .int .i64 m.main]) rfl (by kernel_rfl) (by kernel_rfl) (by kernel_rfl) (fun _ _ _ h => h) (Or.inl ⟨by rfl, fun w hSw => by obtain ⟨t0, t1, t2, t3, t4, t5, t6⟩ := hSw; go_simp⟩) (by assumption) ?_
            try simp only [Act.put, List.getElem_toArray, List.getElem_cons_succ, List.getElem_cons_zero, List.setIfInBounds_toArray, List.set_cons_zero, List.set_cons_succ]
            refine wpAnyH_ready (rs := [12]) (by kernel_rfl) (by simp) ?_
            refine AllReadyH.cons rfl (fun K hK => ?_) AllReadyH.nil
            have R1 := (unhide hR1).g okB ((unhide q4).trans (unhide q5))
            have R2 := (unhide hR2).g okI (G.refl _)
            have d1 : m.gl.length = 0 ∨ (b1 ≠ y3.heap.size ∧ W1.heap.size ≤ b1) := (unhide hd1).imp id (fun h => by have u0 := unhide s0; have u1 := unhide s1; have u2 := unhide s2; have u3 := unhide s3; have u4 := unhide s4; have u5 := unhide s5; omega)
            have d2 : m.co.length = 0 ∨ (b2 ≠ y3.heap.size ∧ W1.heap.size ≤ b2) := (unhide hd2).imp id (fun h => by have u0 := unhide s0; have u1 := unhide s1; have u2 := unhide s2; have u3 := unhide s3; have u4 := unhide s4; have u5 := unhide s5; omega)
            have hgb : W1.heap.size ≤ y3.heap.size := by have u0 := unhide s0; have u1 := unhide s1; have u2 := unhide s2; have u3 := unhide s3; have u4 := unhide s4; have u5 := unhide s5; omega
            have LF := hide (md_leaf (m := m) hHeld.1 hgb rfl ((unhide qz).trans (unhide q5)) R1 R2 d1 d2)
            have z0 := ((unhide qz).trans (unhide q5)).cell (x := ⟨y3.heap.size, 0, none⟩) (v := .slice none 0 0) (by simp [go_sem])
            have f0 : y5.frozen? ⟨y3.heap.size, 0, none⟩ = false := (World.frozen?_of_block (((unhide qz).trans (unhide q5)).block y3.heap.size (by rw [World.size_alloc]; omega))).trans (by simp [go_sem])
            have z1 := ((unhide qz).trans (unhide q5)).cell (x := ⟨y3.heap.size, 1, none⟩) (v := .slice none 0 0) (by simp [go_sem])
            have f1 : y5.frozen? ⟨y3.heap.size, 1, none⟩ = false := (World.frozen?_of_block (((unhide qz).trans (unhide q5)).block y3.heap.size (by rw [World.size_alloc]; omega))).trans (by simp [go_sem])
            have z2 := ((unhide qz).trans (unhide q5)).cell (x := ⟨y3.heap.size, 2, none⟩) (v := .slice none 0 0) (by simp [go_sem])
            have f2 : y5.frozen? ⟨y3.heap.size, 2, none⟩ = false := (World.frozen?_of_block (((unhide qz).trans (unhide q5)).block y3.heap.size (by rw [World.size_alloc]; omega))).trans (by simp [go_sem])
            have z3 := ((unhide qz).trans (unhide q5)).cell (x := ⟨y3.heap.size, 3, none⟩) (v := .slice none 0 0) (by simp [go_sem])
            have f3 : y5.frozen? ⟨y3.heap.size, 3, none⟩ = false := (World.frozen?_of_block (((unhide qz).trans (unhide q5)).block y3.heap.size (by rw [World.size_alloc]; omega))).trans (by simp [go_sem])
            have z4 := ((unhide qz).trans (unhide q5)).cell (x := ⟨y3.heap.size, 4, none⟩) (v := .slice none 0 0) (by simp [go_sem])
            have f4 : y5.frozen? ⟨y3.heap.size, 4, none⟩ = false := (World.frozen?_of_block (((unhide qz).trans (unhide q5)).block y3.heap.size (by rw [World.size_alloc]; omega))).trans (by simp [go_sem])
            have z5 := ((unhide qz).trans (unhide q5)).cell (x := ⟨y3.heap.size, 5, none⟩) (v := .int .i64 0) (by simp [go_sem])
            have f5 : y5.frozen? ⟨y3.heap.size, 5, none⟩ = false := (World.frozen?_of_block (((unhide qz).trans (unhide q5)).block y3.heap.size (by rw [World.size_alloc]; omega))).trans (by simp [go_sem])
            clear R1 R2 d1 d2 hgb
            go_simp
            refine hK.out _ _ (unhide KP _ (unhide LF).1.g) (fun hHeld => ?_)
            clear hK K
            try simp only [Act.put, List.getElem_toArray, List.getElem_cons_succ, List.getElem_cons_zero, List.setIfInBounds_toArray, List.set_cons_zero, List.set_cons_succ]
            refine wpAnyH_done (by kernel_rfl) (NoPanic.normal ?_) _
            go_wp2_with fail
            go_meet
            exact ⟨_, b1, c1, b2, c2, rfl, LF⟩
        · go_simp
          refine hK.out _ _ (unhide KP _ (hHeld.1.more _)) (fun hHeld => ?_)
          clear hK K
          try simp only [Act.put, List.getElem_toArray, List.getElem_cons_succ, List.getElem_cons_zero, List.setIfInBounds_toArray, List.set_cons_zero, List.set_cons_succ]
          obtain ⟨y3, hy3⟩ : ∃ y, y = y2.alloc (.cells #[.slice none 0 0, .slice none 0 0, .slice none 0 0, .slice none 0 0, .slice none 0 0, .int .i64 0] 48) := ⟨_, rfl⟩
          have s3 : Hid (y3.heap.size = y2.heap.size + 1) := hide (by rw [hy3]; exact World.size_alloc _ _)
          have q3 : Hid (G y2 y3) := hide (by rw [hy3]; exact G.alloc _ _)
          have qz : Hid (G (y2.alloc (.cells #[.slice none 0 0, .slice none 0 0, .slice none 0 0, .slice none 0 0, .slice none 0 0, .int .i64 0] 48)) y3) := hide (by rw [hy3]; exact G.refl _)
          rw [← hy3] at hHeld ⊢
          clear hy3
          refine wpAnyH_ready (rs := [3]) (by kernel_rfl) (by simp) ?_
          refine AllReadyH.cons rfl (fun K hK => ?_) AllReadyH.nil
          obtain ⟨b1, c1, y4, hrun, hg, hR1, hd1⟩ := unhide A1 y3 hHeld.1 y1.heap.size
          refine step_app rfl (.tmp 8) (.tmp 10) 27 rfl _ _ rfl rfl _ _ hrun ?_
          refine hK.out _ _ (unhide KP _ (hHeld.1.trans hg)) (fun hHeld => ?_)
          clear hK K hrun
          try simp only [Act.put, List.getElem_toArray, List.getElem_cons_succ, List.getElem_cons_zero, List.setIfInBounds_toArray, List.set_cons_zero, List.set_cons_succ]
          have s4 : Hid (y3.heap.size ≤ y4.heap.size) := hide hg.size
          have q4 : Hid (G y3 y4) := hide hg
          replace hR1 := hide hR1
          replace hd1 := hide hd1
          clear hg
          refine wpAnyH_ready (rs := [7]) (by kernel_rfl) (by simp) ?_
          refine AllReadyH.cons rfl (fun K hK => ?_) AllReadyH.nil
          obtain ⟨b2, c2, y5, hrun, hg, hR2, hd2⟩ := unhide A2 y4 hHeld.1 y0.heap.size
          refine step_app rfl (.tmp 12) (.tmp 14) 28 rfl _ _ rfl rfl _ _ hrun ?_
          refine hK.out _ _ (unhide KP _ (hHeld.1.trans hg)) (fun hHeld => ?_)
          clear hK K hrun
          try simp only [Act.put, List.getElem_toArray, List.getElem_cons_succ, List.getElem_cons_zero, List.setIfInBounds_toArray, List.set_cons_zero, List.set_cons_succ]
          have s5 : Hid (y4.heap.size ≤ y5.heap.size) := hide hg.size
          have q5 : Hid (G y4 y5) := hide hg
          replace hR2 := hide hR2
          replace hd2 := hide hd2
          clear hg
          refine wpAnyH_take (i := 10) (v := .agg #[.slice none 0 0, .slice (some ⟨b1, 0, none⟩) m.gl.length c1, .slice (some ⟨b2, 0, none⟩) m.co.length c2, .slice none 0 0, .slice none 0 0, .int .i64 m.main]) rfl (by kernel_rfl) (by kernel_rfl) (by kernel_rfl) (fun _ _ _ h => h) (Or.inl ⟨by rfl, fun w hSw => by obtain ⟨t0, t1, t2, t3, t4, t5, t6⟩ := hSw; go_simp⟩) (by assumption) ?_
          try simp only [Act.put, List.getElem_toArray, List.getElem_cons_succ, List.getElem_cons_zero, List.setIfInBounds_toArray, List.set_cons_zero, List.set_cons_succ]
          refine wpAnyH_ready (rs := [12]) (by kernel_rfl) (by simp) ?_
          refine AllReadyH.cons rfl (fun K hK => ?_) AllReadyH.nil
          have R1 := (unhide hR1).g okB (unhide q5)
          have R2 := (unhide hR2).g okI (G.refl _)
          have d1 : m.gl.length = 0 ∨ (b1 ≠ y2.heap.size ∧ W1.heap.size ≤ b1) := (unhide hd1).imp id (fun h => by have u0 := unhide s0; have u1 := unhide s1; have u2 := unhide s2; have u3 := unhide s3; have u4 := unhide s4; have u5 := unhide s5; omega)
          have d2 : m.co.length = 0 ∨ (b2 ≠ y2.heap.size ∧ W1.heap.size ≤ b2) := (unhide hd2).imp id (fun h => by have u0 := unhide s0; have u1 := unhide s1; have u2 := unhide s2; have u3 := unhide s3; have u4 := unhide s4; have u5 := unhide s5; omega)
          have hgb : W1.heap.size ≤ y2.heap.size := by have u0 := unhide s0; have u1 := unhide s1; have u2 := unhide s2; have u3 := unhide s3; have u4 := unhide s4; have u5 := unhide s5; omega
          have LF := hide (md_leaf (m := m) hHeld.1 hgb rfl ((unhide qz).trans ((unhide q4).trans (unhide q5))) R1 R2 d1 d2)
          have z0 := ((unhide qz).trans ((unhide q4).trans (unhide q5))).cell (x := ⟨y2.heap.size, 0, none⟩) (v := .slice none 0 0) (by simp [go_sem])
          have f0 : y5.frozen? ⟨y2.heap.size, 0, none⟩ = false := (World.frozen?_of_block (((unhide qz).trans ((unhide q4).trans (unhide q5))).block y2.heap.size (by rw [World.size_alloc]; omega))).trans (by simp [go_sem])
          have z1 := ((unhide qz).trans ((unhide q4).trans (unhide q5))).cell (x := ⟨y2.heap.size, 1, none⟩) (v := .slice none 0 0) (by simp [go_sem])
          have f1 : y5.frozen? ⟨y2.heap.size, 1, none⟩ = false := (World.frozen?_of_block (((unhide qz).trans ((unhide q4).trans (unhide q5))).block y2.heap.size (by rw [World.size_alloc]; omega))).trans (by simp [go_sem])
          have z2 := ((unhide qz).trans ((unhide q4).trans (unhide q5))).cell (x := ⟨y2.heap.size, 2, none⟩) (v := .slice none 0 0) (by simp [go_sem])
          have f2 : y5.frozen? ⟨y2.heap.size, 2, none⟩ = false := (World.frozen?_of_block (((unhide qz).trans ((unhide q4).trans (unhide q5))).block y2.heap.size (by rw [World.size_alloc]; omega))).trans (by simp [go_sem])
          have z3 := ((unhide qz).trans ((unhide q4).trans (unhide q5))).cell (x := ⟨y2.heap.size, 3, none⟩) (v := .slice none 0 0) (by simp [go_sem])
          have f3 : y5.frozen? ⟨y2.heap.size, 3, none⟩ = false := (World.frozen?_of_block (((unhide qz).trans ((unhide q4).trans (unhide q5))).block y2.heap.size (by rw [World.size_alloc]; omega))).trans (by simp [go_sem])
          have z4 := ((unhide qz).trans ((unhide q4).trans (unhide q5))).cell (x := ⟨y2.heap.size, 4, none⟩) (v := .slice none 0 0) (by simp [go_sem])
          have f4 : y5.frozen? ⟨y2.heap.size, 4, none⟩ = false := (World.frozen?_of_block (((unhide qz).trans ((unhide q4).trans (unhide q5))).block y2.heap.size (by rw [World.size_alloc]; omega))).trans (by simp [go_sem])
          have z5 := ((unhide qz).trans ((unhide q4).trans (unhide q5))).cell (x := ⟨y2.heap.size, 5, none⟩) (v := .int .i64 0) (by simp [go_sem])
          have f5 : y5.frozen? ⟨y2.heap.size, 5, none⟩ = false := (World.frozen?_of_block (((unhide qz).trans ((unhide q4).trans (unhide q5))).block y2.heap.size (by rw [World.size_alloc]; omega))).trans (by simp [go_sem])
          clear R1 R2 d1 d2 hgb
          go_simp
          refine hK.out _ _ (unhide KP _ (unhide LF).1.g) (fun hHeld => ?_)
          clear hK K
          try simp only [Act.put, List.getElem_toArray, List.getElem_cons_succ, List.getElem_cons_zero, List.setIfInBounds_toArray, List.set_cons_zero, List.set_cons_succ]
          refine wpAnyH_done (by kernel_rfl) (NoPanic.normal ?_) _
          go_wp2_with fail
          go_meet
          exact ⟨_, b1, c1, b2, c2, rfl, LF⟩
      · go_simp
        refine hK.out _ _ (unhide KP _ (hHeld.1.more _)) (fun hHeld => ?_)
        clear hK K
        try simp only [Act.put, List.getElem_toArray, List.getElem_cons_succ, List.getElem_cons_zero, List.setIfInBounds_toArray, List.set_cons_zero, List.set_cons_succ]
        obtain ⟨y2, hy2⟩ : ∃ y, y = y1.alloc (.cells #[.slice none 0 0, .slice none 0 0, .slice none 0 0, .slice none 0 0, .slice none 0 0, .int .i64 0] 48) := ⟨_, rfl⟩
        have s2 : Hid (y2.heap.size = y1.heap.size + 1) := hide (by rw [hy2]; exact World.size_alloc _ _)
        have q2 : Hid (G y1 y2) := hide (by rw [hy2]; exact G.alloc _ _)
        have qz : Hid (G (y1.alloc (.cells #[.slice none 0 0, .slice none 0 0, .slice none 0 0, .slice none 0 0, .slice none 0 0, .int .i64 0] 48)) y2) := hide (by rw [hy2]; exact G.refl _)
        rw [← hy2] at hHeld ⊢
        clear hy2
        refine wpAnyH_ready (rs := [0]) (by kernel_rfl) (by simp) ?_
        refine AllReadyH.cons rfl (fun K hK => ?_) AllReadyH.nil
        go_simp
        refine hK.out _ _ (unhide KP _ (hHeld.1.more _)) (fun hHeld => ?_)
        clear hK K
        try simp only [Act.put, List.getElem_toArray, List.getElem_cons_succ, List.getElem_cons_zero, List.setIfInBounds_toArray, List.set_cons_zero, List.set_cons_succ]
        obtain ⟨y3, hy3⟩ : ∃ y, y = y2.alloc (.cells #[] 4) := ⟨_, rfl⟩
        have s3 : Hid (y3.heap.size = y2.heap.size + 1) := hide (by rw [hy3]; exact World.size_alloc _ _)
        have q3 : Hid (G y2 y3) := hide (by rw [hy3]; exact G.alloc _ _)
        rw [← hy3] at hHeld ⊢
        clear hy3
        refine wpAnyH_ready (rs := [3]) (by kernel_rfl) (by simp) ?_
        refine AllReadyH.cons rfl (fun K hK => ?_) AllReadyH.nil
        obtain ⟨b1, c1, y4, hrun, hg, hR1, hd1⟩ := unhide A1 y3 hHeld.1 y2.heap.size
        refine step_app rfl (.tmp 8) (.tmp 10) 27 rfl _ _ rfl rfl _ _ hrun ?_
        refine hK.out _ _ (unhide KP _ (hHeld.1.trans hg)) (fun hHeld => ?_)
        clear hK K hrun
        try simp only [Act.put, List.getElem_toArray, List.getElem_cons_succ, List.getElem_cons_zero, List.setIfInBounds_toArray, List.set_cons_zero, List.set_cons_succ]
        have s4 : Hid (y3.heap.size ≤ y4.heap.size) := hide hg.size
        have q4 : Hid (G y3 y4) := hide hg
        replace hR1 := hide hR1
        replace hd1 := hide hd1
        clear hg
        refine wpAnyH_ready (rs := [7]) (by kernel_rfl) (by simp) ?_
        refine AllReadyH.cons rfl (fun K hK => ?_) AllReadyH.nil
        obtain ⟨b2, c2, y5, hrun, hg, hR2, hd2⟩ := unhide A2 y4 hHeld.1 y0.heap.size
        refine step_app rfl (.tmp 12) (.tmp 14) 28 rfl _ _ rfl rfl _ _ hrun ?_
        refine hK.out _ _ (unhide KP _ (hHeld.1.trans hg)) (fun hHeld => ?_)
        clear hK K hrun
        try simp only [Act.put, List.getElem_toArray, List.getElem_cons_succ, List.getElem_cons_zero, List.setIfInBounds_toArray, List.set_cons_zero, List.set_cons_succ]
        have s5 : Hid (y4.heap.size ≤ y5.heap.size) := hide hg.size
        have q5 : Hid (G y4 y5) := hide hg
        replace hR2 := hide hR2
        replace hd2 := hide hd2
        clear hg
        refine wpAnyH_take (i := 10) (v := .agg #[.slice none 0 0, .slice (some ⟨b1, 0, none⟩) m.gl.length c1, .slice (some ⟨b2, 0, none⟩) m.co.length c2, .slice none 0 0, .slice none 0 0, .int .i64 m.main]) rfl (by kernel_rfl) (by kernel_rfl) (by kernel_rfl) (fun _ _ _ h => h) (Or.inl ⟨by rfl, fun w hSw => by obtain ⟨t0, t1, t2, t3, t4, t5, t6⟩ := hSw; go_simp⟩) (by assumption) ?_
        try simp only [Act.put, List.getElem_toArray, List.getElem_cons_succ, List.getElem_cons_zero, List.setIfInBounds_toArray, List.set_cons_zero, List.set_cons_succ]
        refine wpAnyH_ready (rs := [12]) (by kernel_rfl) (by simp) ?_
        refine AllReadyH.cons rfl (fun K hK => ?_) AllReadyH.nil
        have R1 := (unhide hR1).g okB (unhide q5)
        have R2 := (unhide hR2).g okI (G.refl _)
        have d1 : m.gl.length = 0 ∨ (b1 ≠ y1.heap.size ∧ W1.heap.size ≤ b1) := (unhide hd1).imp id (fun h => by have u0 := unhide s0; have u1 := unhide s1; have u2 := unhide s2; have u3 := unhide s3; have u4 := unhide s4; have u5 := unhide s5; omega)
        have d2 : m.co.length = 0 ∨ (b2 ≠ y1.heap.size ∧ W1.heap.size ≤ b2) := (unhide hd2).imp id (fun h => by have u0 := unhide s0; have u1 := unhide s1; have u2 := unhide s2; have u3 := unhide s3; have u4 := unhide s4; have u5 := unhide s5; omega)
        have hgb : W1.heap.size ≤ y1.heap.size := by have u0 := unhide s0; have u1 := unhide s1; have u2 := unhide s2; have u3 := unhide s3; have u4 := unhide s4; have u5 := unhide s5; omega
        have LF := hide (md_leaf (m := m) hHeld.1 hgb rfl ((unhide qz).trans (((unhide q3).trans (unhide q4)).trans (unhide q5))) R1 R2 d1 d2)
        have z0 := ((unhide qz).trans (((unhide q3).trans (unhide q4)).trans (unhide q5))).cell (x := ⟨y1.heap.size, 0, none⟩) (v := .slice none 0 0) (by simp [go_sem])
        have f0 : y5.frozen? ⟨y1.heap.size, 0, none⟩ = false := (World.frozen?_of_block (((unhide qz).trans (((unhide q3).trans (unhide q4)).trans (unhide q5))).block y1.heap.size (by rw [World.size_alloc]; omega))).trans (by simp [go_sem])
        have z1 := ((unhide qz).trans (((unhide q3).trans (unhide q4)).trans (unhide q5))).cell (x := ⟨y1.heap.size, 1, none⟩) (v := .slice none 0 0) (by simp [go_sem])
        have f1 : y5.frozen? ⟨y1.heap.size, 1, none⟩ = false := (World.frozen?_of_block (((unhide qz).trans (((unhide q3).trans (unhide q4)).trans (unhide q5))).block y1.heap.size (by rw [World.size_alloc]; omega))).trans (by simp [go_sem])
        have z2 := ((unhide qz).trans (((unhide q3).trans (unhide q4)).trans (unhide q5))).cell (x := ⟨y1.heap.size, 2, none⟩) (v := .slice none 0 0) (by simp [go_sem])
        have f2 : y5.frozen? ⟨y1.heap.size, 2, none⟩ = false := (World.frozen?_of_block (((unhide qz).trans (((unhide q3).trans (unhide q4)).trans (unhide q5))).block y1.heap.size (by rw [World.size_alloc]; omega))).trans (by simp [go_sem])
        have z3 := ((unhide qz).trans (((unhide q3).trans (unhide q4)).trans (unhide q5))).cell (x := ⟨y1.heap.size, 3, none⟩) (v := .slice none 0 0) (by simp [go_sem])
        have f3 : y5.frozen? ⟨y1.heap.size, 3, none⟩ = false := (World.frozen?_of_block (((unhide qz).trans (((unhide q3).trans (unhide q4)).trans (unhide q5))).block y1.heap.size (by rw [World.size_alloc]; omega))).trans (by simp [go_sem])
        have z4 := ((unhide qz).trans (((unhide q3).trans (unhide q4)).trans (unhide q5))).cell (x := ⟨y1.heap.size, 4, none⟩) (v := .slice none 0 0) (by simp [go_sem])
        have f4 : y5.frozen? ⟨y1.heap.size, 4, none⟩ = false := (World.frozen?_of_block (((unhide qz).trans (((unhide q3).trans (unhide q4)).trans (unhide q5))).block y1.heap.size (by rw [World.size_alloc]; omega))).trans (by simp [go_sem])
        have z5 := ((unhide qz).trans (((unhide q3).trans (unhide q4)).trans (unhide q5))).cell (x := ⟨y1.heap.size, 5, none⟩) (v := .int .i64 0) (by simp [go_sem])
        have f5 : y5.frozen? ⟨y1.heap.size, 5, none⟩ = false := (World.frozen?_of_block (((unhide qz).trans (((unhide q3).trans (unhide q4)).trans (unhide q5))).block y1.heap.size (by rw [World.size_alloc]; omega))).trans (by simp [go_sem])
        clear R1 R2 d1 d2 hgb
        go_simp
        refine hK.out _ _ (unhide KP _ (unhide LF).1.g) (fun hHeld => ?_)
        clear hK K
        try simp only [Act.put, List.getElem_toArray, List.getElem_cons_succ, List.getElem_cons_zero, List.setIfInBounds_toArray, List.set_cons_zero, List.set_cons_succ]
        refine wpAnyH_done (by kernel_rfl) (NoPanic.normal ?_) _
        go_wp2_with fail
        go_meet
        exact ⟨_, b1, c1, b2, c2, rfl, LF⟩
    · go_simp
      refine hK.out _ _ (unhide KP _ (hHeld.1.more _)) (fun hHeld => ?_)
      clear hK K
      try simp only [Act.put, List.getElem_toArray, List.getElem_cons_succ, List.getElem_cons_zero, List.setIfInBounds_toArray, List.set_cons_zero, List.set_cons_succ]
      obtain ⟨y1, hy1⟩ : ∃ y, y = y0.alloc (.cells #[.slice none 0 0, .slice none 0 0, .slice none 0 0, .slice none 0 0, .slice none 0 0, .int .i64 0] 48) := ⟨_, rfl⟩
      have s1 : Hid (y1.heap.size = y0.heap.size + 1) := hide (by rw [hy1]; exact World.size_alloc _ _)
      have q1 : Hid (G y0 y1) := hide (by rw [hy1]; exact G.alloc _ _)
      have qz : Hid (G (y0.alloc (.cells #[.slice none 0 0, .slice none 0 0, .slice none 0 0, .slice none 0 0, .slice none 0 0, .int .i64 0] 48)) y1) := hide (by rw [hy1]; exact G.refl _)
      rw [← hy1] at hHeld ⊢
      clear hy1
      refine wpAnyH_ready (rs := [0, 4]) (by kernel_rfl) (by simp) ?_
      refine AllReadyH.cons rfl (fun K hK => ?_) (AllReadyH.cons rfl (fun K hK => ?_) AllReadyH.nil)
      · go_simp
        refine hK.out _ _ (unhide KP _ (hHeld.1.more _)) (fun hHeld => ?_)
        clear hK K
        try simp only [Act.put, List.getElem_toArray, List.getElem_cons_succ, List.getElem_cons_zero, List.setIfInBounds_toArray, List.set_cons_zero, List.set_cons_succ]
        obtain ⟨y2, hy2⟩ : ∃ y, y = y1.alloc (.cells #[] 4) := ⟨_, rfl⟩
        have s2 : Hid (y2.heap.size = y1.heap.size + 1) := hide (by rw [hy2]; exact World.size_alloc _ _)
        have q2 : Hid (G y1 y2) := hide (by rw [hy2]; exact G.alloc _ _)
        rw [← hy2] at hHeld ⊢
        clear hy2
        refine wpAnyH_ready (rs := [3, 4]) (by kernel_rfl) (by simp) ?_
        refine AllReadyH.cons rfl (fun K hK => ?_) (AllReadyH.cons rfl (fun K hK => ?_) AllReadyH.nil)
        · obtain ⟨b1, c1, y3, hrun, hg, hR1, hd1⟩ := unhide A1 y2 hHeld.1 y1.heap.size
          refine step_app rfl (.tmp 8) (.tmp 10) 27 rfl _ _ rfl rfl _ _ hrun ?_
          refine hK.out _ _ (unhide KP _ (hHeld.1.trans hg)) (fun hHeld => ?_)
          clear hK K hrun
          try simp only [Act.put, List.getElem_toArray, List.getElem_cons_succ, List.getElem_cons_zero, List.setIfInBounds_toArray, List.set_cons_zero, List.set_cons_succ]
          have s3 : Hid (y2.heap.size ≤ y3.heap.size) := hide hg.size
          have q3 : Hid (G y2 y3) := hide hg
          replace hR1 := hide hR1
          replace hd1 := hide hd1
          clear hg
          refine wpAnyH_ready (rs := [4]) (by kernel_rfl) (by simp) ?_
          refine AllReadyH.cons rfl (fun K hK => ?_) AllReadyH.nil
          go_simp
          refine hK.out _ _ (unhide KP _ (hHeld.1.more _)) (fun hHeld => ?_)
          clear hK K
          try simp only [Act.put, List.getElem_toArray, List.getElem_cons_succ, List.getElem_cons_zero, List.setIfInBounds_toArray, List.set_cons_zero, List.set_cons_succ]
          obtain ⟨y4, hy4⟩ : ∃ y, y = y3.alloc (.cells #[] 2) := ⟨_, rfl⟩
          have s4 : Hid (y4.heap.size = y3.heap.size + 1) := hide (by rw [hy4]; exact World.size_alloc _ _)
          have q4 : Hid (G y3 y4) := hide (by rw [hy4]; exact G.alloc _ _)
          rw [← hy4] at hHeld ⊢
          clear hy4
          refine wpAnyH_ready (rs := [7]) (by kernel_rfl) (by simp) ?_
          refine AllReadyH.cons rfl (fun K hK => ?_) AllReadyH.nil
          obtain ⟨b2, c2, y5, hrun, hg, hR2, hd2⟩ := unhide A2 y4 hHeld.1 y3.heap.size
          refine step_app rfl (.tmp 12) (.tmp 14) 28 rfl _ _ rfl rfl _ _ hrun ?_
          refine hK.out _ _ (unhide KP _ (hHeld.1.trans hg)) (fun hHeld => ?_)
          clear hK K hrun
          try simp only [Act.put, List.getElem_toArray, List.getElem_cons_succ, List.getElem_cons_zero, List.setIfInBounds_toArray, List.set_cons_zero, List.set_cons_succ]
          have s5 : Hid (y4.heap.size ≤ y5.heap.size) := hide hg.size
          have q5 : Hid (G y4 y5) := hide hg
          replace hR2 := hide hR2
          replace hd2 := hide hd2
          clear hg
          refine wpAnyH_take (i := 10) (v := .agg #[.slice none 0 0, .slice (some ⟨b1, 0, none⟩) m.gl.length c1, .slice (some ⟨b2, 0, none⟩) m.co.length c2, .slice none 0 0, .slice none 0 0, .int .i64 m.main]) rfl (by kernel_rfl) (by kernel_rfl) (by kernel_rfl) (fun _ _ _ h => h) (Or.inl ⟨by rfl, fun w hSw => by obtain ⟨t0, t1, t2, t3, t4, t5, t6⟩ := hSw; go_simp⟩) (by assumption) ?_
          try simp only [Act.put, List.getElem_toArray, List.getElem_cons_succ, List.getElem_cons_zero, List.setIfInBounds_toArray, List.set_cons_zero, List.set_cons_succ]
          refine wpAnyH_ready (rs := [12]) (by kernel_rfl) (by simp) ?_
          refine AllReadyH.cons rfl (fun K hK => ?_) AllReadyH.nil
          have R1 := (unhide hR1).g okB ((unhide q4).trans (unhide q5))
          have R2 := (unhide hR2).g okI (G.refl _)
          have d1 : m.gl.length = 0 ∨ (b1 ≠ y0.heap.size ∧ W1.heap.size ≤ b1) := (unhide hd1).imp id (fun h => by have u0 := unhide s0; have u1 := unhide s1; have u2 := unhide s2; have u3 := unhide s3; have u4 := unhide s4; have u5 := unhide s5; omega)
          have d2 : m.co.length = 0 ∨ (b2 ≠ y0.heap.size ∧ W1.heap.size ≤ b2) := (unhide hd2).imp id (fun h => by have u0 := unhide s0; have u1 := unhide s1; have u2 := unhide s2; have u3 := unhide s3; have u4 := unhide s4; have u5 := unhide s5; omega)
          have hgb : W1.heap.size ≤ y0.heap.size := by have u0 := unhide s0; have u1 := unhide s1; have u2 := unhide s2; have u3 := unhide s3; have u4 := unhide s4; have u5 := unhide s5; omega
          have LF := hide (md_leaf (m := m) hHeld.1 hgb rfl ((unhide qz).trans ((((unhide q2).trans (unhide q3)).trans (unhide q4)).trans (unhide q5))) R1 R2 d1 d2)
          have z0 := ((unhide qz).trans ((((unhide q2).trans (unhide q3)).trans (unhide q4)).trans (unhide q5))).cell (x := ⟨y0.heap.size, 0, none⟩) (v := .slice none 0 0) (by simp [go_sem])
          have f0 : y5.frozen? ⟨y0.heap.size, 0, none⟩ = false := (World.frozen?_of_block (((unhide qz).trans ((((unhide q2).trans (unhide q3)).trans (unhide q4)).trans (unhide q5))).block y0.heap.size (by rw [World.size_alloc]; omega))).trans (by simp [go_sem])
          have z1 := ((unhide qz).trans ((((unhide q2).trans (unhide q3)).trans (unhide q4)).trans (unhide q5))).cell (x := ⟨y0.heap.size, 1, none⟩) (v := .slice none 0 0) (by simp [go_sem])
          have f1 : y5.frozen? ⟨y0.heap.size, 1, none⟩ = false := (World.frozen?_of_block (((unhide qz).trans ((((unhide q2).trans (unhide q3)).trans (unhide q4)).trans (unhide q5))).block y0.heap.size (by rw [World.size_alloc]; omega))).trans (by simp [go_sem])
          have z2 := ((unhide qz).trans ((((unhide q2).trans (unhide q3)).trans (unhide q4)).trans (unhide q5))).cell (x := ⟨y0.heap.size, 2, none⟩) (v := .slice none 0 0) (by simp [go_sem])
          have f2 : y5.frozen? ⟨y0.heap.size, 2, none⟩ = false := (World.frozen?_of_block (((unhide qz).trans ((((unhide q2).trans (unhide q3)).trans (unhide q4)).trans (unhide q5))).block y0.heap.size (by rw [World.size_alloc]; omega))).trans (by simp [go_sem])
          have z3 := ((unhide qz).trans ((((unhide q2).trans (unhide q3)).trans (unhide q4)).trans (unhide q5))).cell (x := ⟨y0.heap.size, 3, none⟩) (v := .slice none 0 0) (by simp [go_sem])
          have f3 : y5.frozen? ⟨y0.heap.size, 3, none⟩ = false := (World.frozen?_of_block (((unhide qz).trans ((((unhide q2).trans (unhide q3)).trans (unhide q4)).trans (unhide q5))).block y0.heap.size (by rw [World.size_alloc]; omega))).trans (by simp [go_sem])
          have z4 := ((unhide qz).trans ((((unhide q2).trans (unhide q3)).trans (unhide q4)).trans (unhide q5))).cell (x := ⟨y0.heap.size, 4, none⟩) (v := .slice none 0 0) (by simp [go_sem])
          have f4 : y5.frozen? ⟨y0.heap.size, 4, none⟩ = false := (World.frozen?_of_block (((unhide qz).trans ((((unhide q2).trans (unhide q3)).trans (unhide q4)).trans (unhide q5))).block y0.heap.size (by rw [World.size_alloc]; omega))).trans (by simp [go_sem])
          have z5 := ((unhide qz).trans ((((unhide q2).trans (unhide q3)).trans (unhide q4)).trans (unhide q5))).cell (x := ⟨y0.heap.size, 5, none⟩) (v := .int .i64 0) (by simp [go_sem])
          have f5 : y5.frozen? ⟨y0.heap.size, 5, none⟩ = false := (World.frozen?_of_block (((unhide qz).trans ((((unhide q2).trans (unhide q3)).trans (unhide q4)).trans (unhide q5))).block y0.heap.size (by rw [World.size_alloc]; omega))).trans (by simp [go_sem])
          clear R1 R2 d1 d2 hgb
          go_simp
          refine hK.out _ _ (unhide KP _ (unhide LF).1.g) (fun hHeld => ?_)
          clear hK K
          try simp only [Act.put, List.getElem_toArray, List.getElem_cons_succ, List.getElem_cons_zero, List.setIfInBounds_toArray, List.set_cons_zero, List.set_cons_succ]
          refine wpAnyH_done (by kernel_rfl) (NoPanic.normal ?_) _
          go_wp2_with fail
          go_meet
          exact ⟨_, b1, c1, b2, c2, rfl, LF⟩
        · go_simp
          refine hK.out _ _ (unhide KP _ (hHeld.1.more _)) (fun hHeld => ?_)
          clear hK K
          try simp only [Act.put, List.getElem_toArray, List.getElem_cons_succ, List.getElem_cons_zero, List.setIfInBounds_toArray, List.set_cons_zero, List.set_cons_succ]
          obtain ⟨y3, hy3⟩ : ∃ y, y = y2.alloc (.cells #[] 2) := ⟨_, rfl⟩
          have s3 : Hid (y3.heap.size = y2.heap.size + 1) := hide (by rw [hy3]; exact World.size_alloc _ _)
          have q3 : Hid (G y2 y3) := hide (by rw [hy3]; exact G.alloc _ _)
          rw [← hy3] at hHeld ⊢
          clear hy3
          refine wpAnyH_ready (rs := [3]) (by kernel_rfl) (by simp) ?_
          refine AllReadyH.cons rfl (fun K hK => ?_) AllReadyH.nil
          obtain ⟨b1, c1, y4, hrun, hg, hR1, hd1⟩ := unhide A1 y3 hHeld.1 y1.heap.size
          refine step_app rfl (.tmp 8) (.tmp 10) 27 rfl _ _ rfl rfl _ _ hrun ?_
          refine hK.out _ _ (unhide KP _ (hHeld.1.trans hg)) (fun hHeld => ?_)
          clear hK K hrun
          try simp only [Act.put, List.getElem_toArray, List.getElem_cons_succ, List.getElem_cons_zero, List.setIfInBounds_toArray, List.set_cons_zero, List.set_cons_succ]
          have s4 : Hid (y3.heap.size ≤ y4.heap.size) := hide hg.size
          have q4 : Hid (G y3 y4) := hide hg
          replace hR1 := hide hR1
          replace hd1 := hide hd1
          clear hg
          refine wpAnyH_ready (rs := [7]) (by kernel_rfl) (by simp) ?_
          refine AllReadyH.cons rfl (fun K hK => ?_) AllReadyH.nil
          obtain ⟨b2, c2, y5, hrun, hg, hR2, hd2⟩ := unhide A2 y4 hHeld.1 y2.heap.size
          refine step_app rfl (.tmp 12) (.tmp 14) 28 rfl _ _ rfl rfl _ _ hrun ?_
          refine hK.out _ _ (unhide KP _ (hHeld.1.trans hg)) (fun hHeld => ?_)
          clear hK K hrun
          try simp only [Act.put, List.getElem_toArray, List.getElem_cons_succ, List.getElem_cons_zero, List.setIfInBounds_toArray, List.set_cons_zero, List.set_cons_succ]
          have s5 : Hid (y4.heap.size ≤ y5.heap.size) := hide hg.size
          have q5 : Hid (G y4 y5) := hide hg
          replace hR2 := hide hR2
          replace hd2 := hide hd2
          clear hg
          refine wpAnyH_take (i := 10) (v := .agg #[.slice none 0 0, .slice (some ⟨b1, 0, none⟩) m.gl.length c1, .slice (some ⟨b2, 0, none⟩) m.co.length c2, .slice none 0 0, .slice none 0 0, .int .i64 m.main]) rfl (by kernel_rfl) (by kernel_rfl) (by kernel_rfl) (fun _ _ _ h => h) (Or.inl ⟨by rfl, fun w hSw => by obtain ⟨t0, t1, t2, t3, t4, t5, t6⟩ := hSw; go_simp⟩) (by assumption) ?_
          try simp only [Act.put, List.getElem_toArray, List.getElem_cons_succ, List.getElem_cons_zero, List.setIfInBounds_toArray, List.set_cons_zero, List.set_cons_succ]
          refine wpAnyH_ready (rs := [12]) (by kernel_rfl) (by simp) ?_
          refine AllReadyH.cons rfl (fun K hK => ?_) AllReadyH.nil
          have R1 := (unhide hR1).g okB (unhide q5)
          have R2 := (unhide hR2).g okI (G.refl _)
          have d1 : m.gl.length = 0 ∨ (b1 ≠ y0.heap.size ∧ W1.heap.size ≤ b1) := (unhide hd1).imp id (fun h => by have u0 := unhide s0; have u1 := unhide s1; have u2 := unhide s2; have u3 := unhide s3; have u4 := unhide s4; have u5 := unhide s5; omega)
          have d2 : m.co.length = 0 ∨ (b2 ≠ y0.heap.size ∧ W1.heap.size ≤ b2) := (unhide hd2).imp id (fun h => by have u0 := unhide s0; have u1 := unhide s1; have u2 := unhide s2; have u3 := unhide s3; have u4 := unhide s4; have u5 := unhide s5; omega)
          have hgb : W1.heap.size ≤ y0.heap.size := by have u0 := unhide s0; have u1 := unhide s1; have u2 := unhide s2; have u3 := unhide s3; have u4 := unhide s4; have u5 := unhide s5; omega
          have LF := hide (md_leaf (m := m) hHeld.1 hgb rfl ((unhide qz).trans ((((unhide q2).trans (unhide q3)).trans (unhide q4)).trans (unhide q5))) R1 R2 d1 d2)
          have z0 := ((unhide qz).trans ((((unhide q2).trans (unhide q3)).trans (unhide q4)).trans (unhide q5))).cell (x := ⟨y0.heap.size, 0, none⟩) (v := .slice none 0 0) (by simp [go_sem])
          have f0 : y5.frozen? ⟨y0.heap.size, 0, none⟩ = false := (World.frozen?_of_block (((unhide qz).trans ((((unhide q2).trans (unhide q3)).trans (unhide q4)).trans (unhide q5))).block y0.heap.size (by rw [World.size_alloc]; omega))).trans (by simp [go_sem])
          have z1 := ((unhide qz).trans ((((unhide q2).trans (unhide q3)).trans (unhide q4)).trans (unhide q5))).cell (x := ⟨y0.heap.size, 1, none⟩) (v := .slice none 0 0) (by simp [go_sem])
          have f1 : y5.frozen? ⟨y0.heap.size, 1, none⟩ = false := (World.frozen?_of_block (((unhide qz).trans ((((unhide q2).trans (unhide q3)).trans (unhide q4)).trans (unhide q5))).block y0.heap.size (by rw [World.size_alloc]; omega))).trans (by simp [go_sem])
          have z2 := ((unhide qz).trans ((((unhide q2).trans (unhide q3)).trans (unhide q4)).trans (unhide q5))).cell (x := ⟨y0.heap.size, 2, none⟩) (v := .slice none 0 0) (by simp [go_sem])
          have f2 : y5.frozen? ⟨y0.heap.size, 2, none⟩ = false := (World.frozen?_of_block (((unhide qz).trans ((((unhide q2).trans (unhide q3)).trans (unhide q4)).trans (unhide q5))).block y0.heap.size (by rw [World.size_alloc]; omega))).trans (by simp [go_sem])
          have z3 := ((unhide qz).trans ((((unhide q2).trans (unhide q3)).trans (unhide q4)).trans (unhide q5))).cell (x := ⟨y0.heap.size, 3, none⟩) (v := .slice none 0 0) (by simp [go_sem])
          have f3 : y5.frozen? ⟨y0.heap.size, 3, none⟩ = false := (World.frozen?_of_block (((unhide qz).trans ((((unhide q2).trans (unhide q3)).trans (unhide q4)).trans (unhide q5))).block y0.heap.size (by rw [World.size_alloc]; omega))).trans (by simp [go_sem])
          have z4 := ((unhide qz).trans ((((unhide q2).trans (unhide q3)).trans (unhide q4)).trans (unhide q5))).cell (x := ⟨y0.heap.size, 4, none⟩) (v := .slice none 0 0) (by simp [go_sem])
          have f4 : y5.frozen? ⟨y0.heap.size, 4, none⟩ = false := (World.frozen?_of_block (((unhide qz).trans ((((unhide q2).trans (unhide q3)).trans (unhide q4)).trans (unhide q5))).block y0.heap.size (by rw [World.size_alloc]; omega))).trans (by simp [go_sem])
          have z5 := ((unhide qz).trans ((((unhide q2).trans (unhide q3)).trans (unhide q4)).trans (unhide q5))).cell (x := ⟨y0.heap.size, 5, none⟩) (v := .int .i64 0) (by simp [go_sem])
          have f5 : y5.frozen? ⟨y0.heap.size, 5, none⟩ = false := (World.frozen?_of_block (((unhide qz).trans ((((unhide q2).trans (unhide q3)).trans (unhide q4)).trans (unhide q5))).block y0.heap.size (by rw [World.size_alloc]; omega))).trans (by simp [go_sem])
          clear R1 R2 d1 d2 hgb
          go_simp
          refine hK.out _ _ (unhide KP _ (unhide LF).1.g) (fun hHeld => ?_)
          clear hK K
          try simp only [Act.put, List.getElem_toArray, List.getElem_cons_succ, List.getElem_cons_zero, List.setIfInBounds_toArray, List.set_cons_zero, List.set_cons_succ]
          refine wpAnyH_done (by kernel_rfl) (NoPanic.normal ?_) _
          go_wp2_with fail
          go_meet
          exact ⟨_, b1, c1, b2, c2, rfl, LF⟩
      · go_simp
        refine hK.out _ _ (unhide KP _ (hHeld.1.more _)) (fun hHeld => ?_)
        clear hK K
        try simp only [Act.put, List.getElem_toArray, List.getElem_cons_succ, List.getElem_cons_zero, List.setIfInBounds_toArray, List.set_cons_zero, List.set_cons_succ]
        obtain ⟨y2, hy2⟩ : ∃ y, y = y1.alloc (.cells #[] 2) := ⟨_, rfl⟩
        have s2 : Hid (y2.heap.size = y1.heap.size + 1) := hide (by rw [hy2]; exact World.size_alloc _ _)
        have q2 : Hid (G y1 y2) := hide (by rw [hy2]; exact G.alloc _ _)
        rw [← hy2] at hHeld ⊢
        clear hy2
        refine wpAnyH_ready (rs := [0]) (by kernel_rfl) (by simp) ?_
        refine AllReadyH.cons rfl (fun K hK => ?_) AllReadyH.nil
        go_simp
        refine hK.out _ _ (unhide KP _ (hHeld.1.more _)) (fun hHeld => ?_)
        clear hK K
        try simp only [Act.put, List.getElem_toArray, List.getElem_cons_succ, List.getElem_cons_zero, List.setIfInBounds_toArray, List.set_cons_zero, List.set_cons_succ]
        obtain ⟨y3, hy3⟩ : ∃ y, y = y2.alloc (.cells #[] 4) := ⟨_, rfl⟩
        have s3 : Hid (y3.heap.size = y2.heap.size + 1) := hide (by rw [hy3]; exact World.size_alloc _ _)
        have q3 : Hid (G y2 y3) := hide (by rw [hy3]; exact G.alloc _ _)
        rw [← hy3] at hHeld ⊢
        clear hy3
        refine wpAnyH_ready (rs := [3]) (by kernel_rfl) (by simp) ?_
        refine AllReadyH.cons rfl (fun K hK => ?_) AllReadyH.nil
        obtain ⟨b1, c1, y4, hrun, hg, hR1, hd1⟩ := unhide A1 y3 hHeld.1 y2.heap.size
        refine step_app rfl (.tmp 8) (.tmp 10) 27 rfl _ _ rfl rfl _ _ hrun ?_
        refine hK.out _ _ (unhide KP _ (hHeld.1.trans hg)) (fun hHeld => ?_)
        clear hK K hrun
        try simp only [Act.put, List.getElem_toArray, List.getElem_cons_succ, List.getElem_cons_zero, List.setIfInBounds_toArray, List.set_cons_zero, List.set_cons_succ]
        have s4 : Hid (y3.heap.size ≤ y4.heap.size) := hide hg.size
        have q4 : Hid (G y3 y4) := hide hg
        replace hR1 := hide hR1
        replace hd1 := hide hd1
        clear hg
        refine wpAnyH_ready (rs := [7]) (by kernel_rfl) (by simp) ?_
        refine AllReadyH.cons rfl (fun K hK => ?_) AllReadyH.nil
        obtain ⟨b2, c2, y5, hrun, hg, hR2, hd2⟩ := unhide A2 y4 hHeld.1 y1.heap.size
        refine step_app rfl (.tmp 12) (.tmp 14) 28 rfl _ _ rfl rfl _ _ hrun ?_
        refine hK.out _ _ (unhide KP _ (hHeld.1.trans hg)) (fun hHeld => ?_)
        clear hK K hrun
        try simp only [Act.put, List.getElem_toArray, List.getElem_cons_succ, List.getElem_cons_zero, List.setIfInBounds_toArray, List.set_cons_zero, List.set_cons_succ]
        have s5 : Hid (y4.heap.size ≤ y5.heap.size) := hide hg.size
        have q5 : Hid (G y4 y5) := hide hg
        replace hR2 := hide hR2
        replace hd2 := hide hd2
        clear hg
        refine wpAnyH_take (i := 10) (v := .agg #[.slice none 0 0, .slice (some ⟨b1, 0, none⟩) m.gl.length c1, .slice (some ⟨b2, 0, none⟩) m.co.length c2, .slice none 0 0, .slice none 0 0, .int .i64 m.main]) rfl (by kernel_rfl) (by kernel_rfl) (by kernel_rfl) (fun _ _ _ h => h) (Or.inl ⟨by rfl, fun w hSw => by obtain ⟨t0, t1, t2, t3, t4, t5, t6⟩ := hSw; go_simp⟩) (by assumption) ?_
        try simp only [Act.put, List.getElem_toArray, List.getElem_cons_succ, List.getElem_cons_zero, List.setIfInBounds_toArray, List.set_cons_zero, List.set_cons_succ]
        refine wpAnyH_ready (rs := [12]) (by kernel_rfl) (by simp) ?_
        refine AllReadyH.cons rfl (fun K hK => ?_) AllReadyH.nil
        have R1 := (unhide hR1).g okB (unhide q5)
        have R2 := (unhide hR2).g okI (G.refl _)
        have d1 : m.gl.length = 0 ∨ (b1 ≠ y0.heap.size ∧ W1.heap.size ≤ b1) := (unhide hd1).imp id (fun h => by have u0 := unhide s0; have u1 := unhide s1; have u2 := unhide s2; have u3 := unhide s3; have u4 := unhide s4; have u5 := unhide s5; omega)
        have d2 : m.co.length = 0 ∨ (b2 ≠ y0.heap.size ∧ W1.heap.size ≤ b2) := (unhide hd2).imp id (fun h => by have u0 := unhide s0; have u1 := unhide s1; have u2 := unhide s2; have u3 := unhide s3; have u4 := unhide s4; have u5 := unhide s5; omega)
        have hgb : W1.heap.size ≤ y0.heap.size := by have u0 := unhide s0; have u1 := unhide s1; have u2 := unhide s2; have u3 := unhide s3; have u4 := unhide s4; have u5 := unhide s5; omega
        have LF := hide (md_leaf (m := m) hHeld.1 hgb rfl ((unhide qz).trans ((((unhide q2).trans (unhide q3)).trans (unhide q4)).trans (unhide q5))) R1 R2 d1 d2)
        have z0 := ((unhide qz).trans ((((unhide q2).trans (unhide q3)).trans (unhide q4)).trans (unhide q5))).cell (x := ⟨y0.heap.size, 0, none⟩) (v := .slice none 0 0) (by simp [go_sem])
        have f0 : y5.frozen? ⟨y0.heap.size, 0, none⟩ = false := (World.frozen?_of_block (((unhide qz).trans ((((unhide q2).trans (unhide q3)).trans (unhide q4)).trans (unhide q5))).block y0.heap.size (by rw [World.size_alloc]; omega))).trans (by simp [go_sem])
        have z1 := ((unhide qz).trans ((((unhide q2).trans (unhide q3)).trans (unhide q4)).trans (unhide q5))).cell (x := ⟨y0.heap.size, 1, none⟩) (v := .slice none 0 0) (by simp [go_sem])
        have f1 : y5.frozen? ⟨y0.heap.size, 1, none⟩ = false := (World.frozen?_of_block (((unhide qz).trans ((((unhide q2).trans (unhide q3)).trans (unhide q4)).trans (unhide q5))).block y0.heap.size (by rw [World.size_alloc]; omega))).trans (by simp [go_sem])
        have z2 := ((unhide qz).trans ((((unhide q2).trans (unhide q3)).trans (unhide q4)).trans (unhide q5))).cell (x := ⟨y0.heap.size, 2, none⟩) (v := .slice none 0 0) (by simp [go_sem])
        have f2 : y5.frozen? ⟨y0.heap.size, 2, none⟩ = false := (World.frozen?_of_block (((unhide qz).trans ((((unhide q2).trans (unhide q3)).trans (unhide q4)).trans (unhide q5))).block y0.heap.size (by rw [World.size_alloc]; omega))).trans (by simp [go_sem])
        have z3 := ((unhide qz).trans ((((unhide q2).trans (unhide q3)).trans (unhide q4)).trans (unhide q5))).cell (x := ⟨y0.heap.size, 3, none⟩) (v := .slice none 0 0) (by simp [go_sem])
        have f3 : y5.frozen? ⟨y0.heap.size, 3, none⟩ = false := (World.frozen?_of_block (((unhide qz).trans ((((unhide q2).trans (unhide q3)).trans (unhide q4)).trans (unhide q5))).block y0.heap.size (by rw [World.size_alloc]; omega))).trans (by simp [go_sem])
        have z4 := ((unhide qz).trans ((((unhide q2).trans (unhide q3)).trans (unhide q4)).trans (unhide q5))).cell (x := ⟨y0.heap.size, 4, none⟩) (v := .slice none 0 0) (by simp [go_sem])
        have f4 : y5.frozen? ⟨y0.heap.size, 4, none⟩ = false := (World.frozen?_of_block (((unhide qz).trans ((((unhide q2).trans (unhide q3)).trans (unhide q4)).trans (unhide q5))).block y0.heap.size (by rw [World.size_alloc]; omega))).trans (by simp [go_sem])
        have z5 := ((unhide qz).trans ((((unhide q2).trans (unhide q3)).trans (unhide q4)).trans (unhide q5))).cell (x := ⟨y0.heap.size, 5, none⟩) (v := .int .i64 0) (by simp [go_sem])
        have f5 : y5.frozen? ⟨y0.heap.size, 5, none⟩ = false := (World.frozen?_of_block (((unhide qz).trans ((((unhide q2).trans (unhide q3)).trans (unhide q4)).trans (unhide q5))).block y0.heap.size (by rw [World.size_alloc]; omega))).trans (by simp [go_sem])
        clear R1 R2 d1 d2 hgb
        go_simp
        refine hK.out _ _ (unhide KP _ (unhide LF).1.g) (fun hHeld => ?_)
        clear hK K
        try simp only [Act.put, List.getElem_toArray, List.getElem_cons_succ, List.getElem_cons_zero, List.setIfInBounds_toArray, List.set_cons_zero, List.set_cons_succ]
        refine wpAnyH_done (by kernel_rfl) (NoPanic.normal ?_) _
        go_wp2_with fail
        go_meet
        exact ⟨_, b1, c1, b2, c2, rfl, LF⟩
  case rest =>
    obtain ⟨gb, b1, c1, b2, c2, rfl, F0⟩ := hcut
    have RXg := hide (unhide F0).2.1
    have RXi := hide (unhide F0).2.2
    have Fa := hide (unhide F0).1
    clear F0 A1 A2 n2 n3
    have ST : Hid (GrE elSp 83 W1.heap.size wc gb 0 [.slice none 0 0, .slice (some ⟨b1, 0, none⟩) m.gl.length c1, .slice (some ⟨b2, 0, none⟩) m.co.length c2, .slice none 0 0, .slice none 0 0, .int .i64 m.main] ((m.sh).take 0) (.slice none 0 0) wc) := hide (gre_start (unhide Fa).cl rfl (unhide Fa).fz)
    have RD : Hid (∀ (k : Nat) (wr : World) (v : Value), k < m.sh.length → GrE elSp 83 W1.heap.size wc gb 0 [.slice none 0 0, .slice (some ⟨b1, 0, none⟩) m.gl.length c1, .slice (some ⟨b2, 0, none⟩) m.co.length c2, .slice none 0 0, .slice none 0 0, .int .i64 m.main] ((m.sh).take k) v wr → ∃ (b off : Nat) (s : Sp), so = some ⟨b, off, none⟩ ∧ wr.cell? ⟨gb, 0, none⟩ = some v ∧ (∀ x, G W1 x → G W1 x ∧ x.cell? ⟨w.heap.size, 0, none⟩ = some (.slice (some ⟨b, off, none⟩) m.sh.length sc) ∧ x.cell? ⟨b, off + k * 3, none⟩ = some (.int .i64 s.k) ∧ x.cell? ⟨b, off + k * 3 + 1, none⟩ = some (.int .i64 s.f) ∧ x.cell? ⟨b, off + k * 3 + 2, none⟩ = some (.int .u64 (s.m : Int))) ∧ (∀ x2, G wr x2 → ∀ nb, (∀ q u, ([.int .i64 s.k, .int .i64 s.f, .int .u64 (s.m : Int)] : List Value)[q]? = some u → x2.cell? ((⟨nb, 0, none⟩ : Addr).add q) = some u) → ∃ gn cn x3, (Builtin.append_ #[44, 44] 44 #[v, .slice (some ⟨nb, 0, none⟩) 1 1]).run Try.prog x2 = .ok (.slice (some ⟨gn, 0, none⟩) (k + 1) cn) x3 ∧ G W1 x3 ∧ x3.cell? ⟨gb, 0, none⟩ = some v ∧ x3.frozen? ⟨gb, 0, none⟩ = false ∧ GrE elSp 83 W1.heap.size wc gb 0 [.slice none 0 0, .slice (some ⟨b1, 0, none⟩) m.gl.length c1, .slice (some ⟨b2, 0, none⟩) m.co.length c2, .slice none 0 0, .slice none 0 0, .int .i64 m.main] ((m.sh).take (k + 1)) (.slice (some ⟨gn, 0, none⟩) (k + 1) cn) (x3.setCell ⟨gb, 0, none⟩ (.slice (some ⟨gn, 0, none⟩) (k + 1) cn)))) := hide fun k wr v hk H => by
      obtain ⟨b, off, s, cs, rfl, ha, ecs, hcs⟩ := row_get (unhide r1) hk
      have ecs : cs = [.int .i64 s.k, .int .i64 s.f, .int .u64 (s.m : Int)] := ecs
      subst ecs
      have h5 : wr.cell? ⟨gb, 0, none⟩ = some v := by
        obtain ⟨xs, hL, _⟩ := H
        have := hL.cells 0 v rfl
        rwa [Nat.zero_add] at this
      refine ⟨b, off, s, rfl, h5, fun x g => ?_, fun x2 g2 nb hc => ?_⟩
      · have gx := (unhide g1).trans g
        exact ⟨g, (unhide KP x g).2.1, hcs x gx 0 _ rfl, hcs x gx 1 _ rfl, hcs x gx 2 _ rfl⟩
      · obtain ⟨ii, hi, hz, hs, hb⟩ := info_parts info_rshape
        have hl := take_len (m.sh) k (Nat.le_of_lt hk)
        have := gre_app (E := elSp) Try.underlying44 hi hz hs hb rfl (by decide) (by decide) H (unhide Fa).lo (unhide Fa).lt (by simp) g2 nb [.int .i64 s.k, .int .i64 s.f, .int .u64 (s.m : Int)] s rfl (fun _ _ => rfl) hc (by simp [Value.oneCell']) (by omega) (unhide Fa).g (unhide Fa).lo
        rw [take_one _ _ _ ha]
        rw [hl] at this
        exact this
    have EN : Hid (∀ (wr : World) (v : Value), GrE elSp 83 W1.heap.size wc gb 0 [.slice none 0 0, .slice (some ⟨b1, 0, none⟩) m.gl.length c1, .slice (some ⟨b2, 0, none⟩) m.co.length c2, .slice none 0 0, .slice none 0 0, .int .i64 m.main] ((m.sh).take m.sh.length) v wr → ∃ vo vc, v = .slice vo m.sh.length vc ∧ RowX W1.heap.size gb elSp wr vo m.sh.length vc m.sh ∧ MdS W1 gb [v, .slice (some ⟨b1, 0, none⟩) m.gl.length c1, .slice (some ⟨b2, 0, none⟩) m.co.length c2, .slice none 0 0, .slice none 0 0, .int .i64 m.main] wr ∧ Kx W1.heap.size gb none wc wr) := hide fun wr v H => by
      rw [List.take_of_length_le (Nat.le_refl _)] at H
      exact md_end (unhide Fa) H
    have BX : Hid (∀ wr v k, GrE elSp 83 W1.heap.size wc gb 0 [.slice none 0 0, .slice (some ⟨b1, 0, none⟩) m.gl.length c1, .slice (some ⟨b2, 0, none⟩) m.co.length c2, .slice none 0 0, .slice none 0 0, .int .i64 m.main] ((m.sh).take k) v wr → G W1 wr ∧ wr.cell? ⟨w.heap.size, 0, none⟩ = some (.slice so m.sh.length sc)) := hide fun wr v k H => by
      obtain ⟨xs, hL, _⟩ := H
      have g := hL.g (unhide Fa).g (unhide Fa).lo
      exact ⟨g, (unhide KP wr g).2.1⟩
    have hgbl : W1.heap.size ≤ gb := (unhide Fa).lo
    clear Fa
    go_wp2_with fail
    go_loopw [4] (fun i wr => ∃ (k : Nat) (v : Value), k ≤ m.sh.length ∧ i = .int .i64 k ∧ Hid (GrE elSp 83 W1.heap.size wc gb 0 [.slice none 0 0, .slice (some ⟨b1, 0, none⟩) m.gl.length c1, .slice (some ⟨b2, 0, none⟩) m.co.length c2, .slice none 0 0, .slice none 0 0, .int .i64 m.main] ((m.sh).take k) v wr)) (fun i _ => m.sh.length - (intOf i).toNat)
    case atStart => exact ⟨0, _, Nat.zero_le _, rfl, ST⟩
    case round =>
      obtain ⟨k, v, hk, rfl, H⟩ := hrel
      obtain ⟨gWr, hC⟩ := unhide BX wr v k (unhide H)
      replace gWr := hide gWr
      clear ST
      by_cases hlt : k < m.sh.length
      · obtain ⟨b, off, s, rfl, hv, KE, AP⟩ := unhide RD k wr v hlt (unhide H)
        replace KE := hide KE
        replace AP := hide AP
        have hk0 : (0 : Int) ≤ (k : Int) := by omega
        have hkn : (k : Int) < (m.sh.length : Int) := by omega
        have hgl := hgbl
        clear RD EN BX KR H
        go_wp2_with fail
        refine wp_region_noPanic ?_
        refine wp_region_held_drew (S := fun x => G W1 x ∧ x.cell? ⟨w.heap.size, 0, none⟩ = some (.slice (some ⟨b, off, none⟩) m.sh.length sc) ∧ x.cell? ⟨b, off + k * 3, none⟩ = some (.int .i64 s.k) ∧ x.cell? ⟨b, off + k * 3 + 1, none⟩ = some (.int .i64 s.f) ∧ x.cell? ⟨b, off + k * 3 + 2, none⟩ = some (.int .u64 (s.m : Int))) (by kernel_rfl) (unhide KE _ (unhide gWr).drew) (fun hHeld => ?_)
        obtain ⟨y0, hy0⟩ : ∃ y, y = wr.drew := ⟨_, rfl⟩
        have q0 : Hid (G wr y0) := hide (by rw [hy0]; exact (G.refl wr).drew)
        rw [← hy0] at hHeld ⊢
        clear hy0 hC
        refine wpAnyH_take (i := 0) (v := .pointer (some ⟨gb, 0, none⟩)) rfl (by kernel_rfl) (by kernel_rfl) (by kernel_rfl) (fun _ _ _ h => h) (Or.inl ⟨by rfl, fun w hSw => by obtain ⟨t0, t1, t2, t3, t4⟩ := hSw; go_simp⟩) (by assumption) ?_
        try simp only [Act.put, List.getElem_toArray, List.getElem_cons_zero, List.setIfInBounds_toArray, List.set_cons_zero, List.set_cons_succ]
        refine wpAnyH_take (i := 2) (v := .pointer (some ⟨w.heap.size, 0, none⟩)) rfl (by kernel_rfl) (by kernel_rfl) (by kernel_rfl) (fun _ _ _ h => h) (Or.inl ⟨by rfl, fun w hSw => by obtain ⟨t0, t1, t2, t3, t4⟩ := hSw; go_simp⟩) (by assumption) ?_
        try simp only [Act.put, List.getElem_toArray, List.getElem_cons_succ, List.getElem_cons_zero, List.setIfInBounds_toArray, List.set_cons_zero, List.set_cons_succ]
        refine wpAnyH_take (i := 3) (v := .slice (some ⟨b, off, none⟩) m.sh.length sc) rfl (by kernel_rfl) (by kernel_rfl) (by kernel_rfl) (fun _ _ _ h => h) (Or.inl ⟨by rfl, fun w hSw => by obtain ⟨t0, t1, t2, t3, t4⟩ := hSw; go_simp⟩) (by assumption) ?_
        try simp only [Act.put, List.getElem_toArray, List.getElem_cons_succ, List.getElem_cons_zero, List.setIfInBounds_toArray, List.set_cons_zero, List.set_cons_succ]
        refine wpAnyH_take (i := 4) (v := .int .i64 (k : Int)) rfl (by kernel_rfl) (by kernel_rfl) (by kernel_rfl) (fun _ _ _ h => h) (Or.inl ⟨by rfl, fun w hSw => by obtain ⟨t0, t1, t2, t3, t4⟩ := hSw; go_simp⟩) (by assumption) ?_
        try simp only [Act.put, List.getElem_toArray, List.getElem_cons_succ, List.getElem_cons_zero, List.setIfInBounds_toArray, List.set_cons_zero, List.set_cons_succ]
        refine wpAnyH_take (i := 5) (v := .pointer (some ⟨b, off + k * 3, none⟩)) rfl (by kernel_rfl) (by kernel_rfl) (by kernel_rfl) (fun _ _ _ h => h) (Or.inl ⟨by rfl, fun w hSw => by obtain ⟨t0, t1, t2, t3, t4⟩ := hSw; go_simp⟩) (by assumption) ?_
        try simp only [Act.put, List.getElem_toArray, List.getElem_cons_succ, List.getElem_cons_zero, List.setIfInBounds_toArray, List.set_cons_zero, List.set_cons_succ]
        refine wpAnyH_take (i := 6) (v := .pointer (some ⟨b, off + k * 3, none⟩)) rfl (by kernel_rfl) (by kernel_rfl) (by kernel_rfl) (fun _ _ _ h => h) (Or.inl ⟨by rfl, fun w hSw => by obtain ⟨t0, t1, t2, t3, t4⟩ := hSw; go_simp⟩) (by assumption) ?_
        try simp only [Act.put, List.getElem_toArray, List.getElem_cons_succ, List.getElem_cons_zero, List.setIfInBounds_toArray, List.set_cons_zero, List.set_cons_succ]
        refine wpAnyH_take (i := 7) (v := .int .i64 s.k) rfl (by kernel_rfl) (by kernel_rfl) (by kernel_rfl) (fun _ _ _ h => h) (Or.inl ⟨by rfl, fun w hSw => by obtain ⟨t0, t1, t2, t3, t4⟩ := hSw; go_simp⟩) (by assumption) ?_
        try simp only [Act.put, List.getElem_toArray, List.getElem_cons_succ, List.getElem_cons_zero, List.setIfInBounds_toArray, List.set_cons_zero, List.set_cons_succ]
        refine wpAnyH_take (i := 8) (v := .pointer (some ⟨w.heap.size, 0, none⟩)) rfl (by kernel_rfl) (by kernel_rfl) (by kernel_rfl) (fun _ _ _ h => h) (Or.inl ⟨by rfl, fun w hSw => by obtain ⟨t0, t1, t2, t3, t4⟩ := hSw; go_simp⟩) (by assumption) ?_
        try simp only [Act.put, List.getElem_toArray, List.getElem_cons_succ, List.getElem_cons_zero, List.setIfInBounds_toArray, List.set_cons_zero, List.set_cons_succ]
        refine wpAnyH_take (i := 9) (v := .slice (some ⟨b, off, none⟩) m.sh.length sc) rfl (by kernel_rfl) (by kernel_rfl) (by kernel_rfl) (fun _ _ _ h => h) (Or.inl ⟨by rfl, fun w hSw => by obtain ⟨t0, t1, t2, t3, t4⟩ := hSw; go_simp⟩) (by assumption) ?_
        try simp only [Act.put, List.getElem_toArray, List.getElem_cons_succ, List.getElem_cons_zero, List.setIfInBounds_toArray, List.set_cons_zero, List.set_cons_succ]
        refine wpAnyH_take (i := 10) (v := .int .i64 (k : Int)) rfl (by kernel_rfl) (by kernel_rfl) (by kernel_rfl) (fun _ _ _ h => h) (Or.inl ⟨by rfl, fun w hSw => by obtain ⟨t0, t1, t2, t3, t4⟩ := hSw; go_simp⟩) (by assumption) ?_
        try simp only [Act.put, List.getElem_toArray, List.getElem_cons_succ, List.getElem_cons_zero, List.setIfInBounds_toArray, List.set_cons_zero, List.set_cons_succ]
        refine wpAnyH_take (i := 11) (v := .pointer (some ⟨b, off + k * 3, none⟩)) rfl (by kernel_rfl) (by kernel_rfl) (by kernel_rfl) (fun _ _ _ h => h) (Or.inl ⟨by rfl, fun w hSw => by obtain ⟨t0, t1, t2, t3, t4⟩ := hSw; go_simp⟩) (by assumption) ?_
        try simp only [Act.put, List.getElem_toArray, List.getElem_cons_succ, List.getElem_cons_zero, List.setIfInBounds_toArray, List.set_cons_zero, List.set_cons_succ]
        refine wpAnyH_take (i := 12) (v := .pointer (some ⟨b, off + k * 3 + 1, none⟩)) rfl (by kernel_rfl) (by kernel_rfl) (by kernel_rfl) (fun _ _ _ h => h) (Or.inl ⟨by rfl, fun w hSw => by obtain ⟨t0, t1, t2, t3, t4⟩ := hSw; go_simp⟩) (by assumption) ?_
        try simp only [Act.put, List.getElem_toArray, List.getElem_cons_succ, List.getElem_cons_zero, List.setIfInBounds_toArray, List.set_cons_zero, List.set_cons_succ]
        refine wpAnyH_take (i := 13) (v := .int .i64 s.f) rfl (by kernel_rfl) (by kernel_rfl) (by kernel_rfl) (fun _ _ _ h => h) (Or.inl ⟨by rfl, fun w hSw => by obtain ⟨t0, t1, t2, t3, t4⟩ := hSw; go_simp⟩) (by assumption) ?_
        try simp only [Act.put, List.getElem_toArray, List.getElem_cons_succ, List.getElem_cons_zero, List.setIfInBounds_toArray, List.set_cons_zero, List.set_cons_succ]
        refine wpAnyH_take (i := 14) (v := .pointer (some ⟨w.heap.size, 0, none⟩)) rfl (by kernel_rfl) (by kernel_rfl) (by kernel_rfl) (fun _ _ _ h => h) (Or.inl ⟨by rfl, fun w hSw => by obtain ⟨t0, t1, t2, t3, t4⟩ := hSw; go_simp⟩) (by assumption) ?_
        try simp only [Act.put, List.getElem_toArray, List.getElem_cons_succ, List.getElem_cons_zero, List.setIfInBounds_toArray, List.set_cons_zero, List.set_cons_succ]
        refine wpAnyH_take (i := 15) (v := .slice (some ⟨b, off, none⟩) m.sh.length sc) rfl (by kernel_rfl) (by kernel_rfl) (by kernel_rfl) (fun _ _ _ h => h) (Or.inl ⟨by rfl, fun w hSw => by obtain ⟨t0, t1, t2, t3, t4⟩ := hSw; go_simp⟩) (by assumption) ?_
        try simp only [Act.put, List.getElem_toArray, List.getElem_cons_succ, List.getElem_cons_zero, List.setIfInBounds_toArray, List.set_cons_zero, List.set_cons_succ]
        refine wpAnyH_take (i := 16) (v := .int .i64 (k : Int)) rfl (by kernel_rfl) (by kernel_rfl) (by kernel_rfl) (fun _ _ _ h => h) (Or.inl ⟨by rfl, fun w hSw => by obtain ⟨t0, t1, t2, t3, t4⟩ := hSw; go_simp⟩) (by assumption) ?_
        try simp only [Act.put, List.getElem_toArray, List.getElem_cons_succ, List.getElem_cons_zero, List.setIfInBounds_toArray, List.set_cons_zero, List.set_cons_succ]
        refine wpAnyH_take (i := 17) (v := .pointer (some ⟨b, off + k * 3, none⟩)) rfl (by kernel_rfl) (by kernel_rfl) (by kernel_rfl) (fun _ _ _ h => h) (Or.inl ⟨by rfl, fun w hSw => by obtain ⟨t0, t1, t2, t3, t4⟩ := hSw; go_simp⟩) (by assumption) ?_
        try simp only [Act.put, List.getElem_toArray, List.getElem_cons_succ, List.getElem_cons_zero, List.setIfInBounds_toArray, List.set_cons_zero, List.set_cons_succ]
        refine wpAnyH_take (i := 18) (v := .pointer (some ⟨b, off + k * 3 + 2, none⟩)) rfl (by kernel_rfl) (by kernel_rfl) (by kernel_rfl) (fun _ _ _ h => h) (Or.inl ⟨by rfl, fun w hSw => by obtain ⟨t0, t1, t2, t3, t4⟩ := hSw; go_simp⟩) (by assumption) ?_
        try simp only [Act.put, List.getElem_toArray, List.getElem_cons_succ, List.getElem_cons_zero, List.setIfInBounds_toArray, List.set_cons_zero, List.set_cons_succ]
        refine wpAnyH_take (i := 19) (v := .int .u64 (s.m : Int)) rfl (by kernel_rfl) (by kernel_rfl) (by kernel_rfl) (fun _ _ _ h => h) (Or.inl ⟨by rfl, fun w hSw => by obtain ⟨t0, t1, t2, t3, t4⟩ := hSw; go_simp⟩) (by assumption) ?_
        try simp only [Act.put, List.getElem_toArray, List.getElem_cons_succ, List.getElem_cons_zero, List.setIfInBounds_toArray, List.set_cons_zero, List.set_cons_succ]
        refine wpAnyH_take (i := 20) (v := .agg #[.int .i64 s.k, .int .i64 s.f, .int .u64 (s.m : Int)]) rfl (by kernel_rfl) (by kernel_rfl) (by kernel_rfl) (fun _ _ _ h => h) (Or.inl ⟨by rfl, fun w hSw => by obtain ⟨t0, t1, t2, t3, t4⟩ := hSw; go_simp⟩) (by assumption) ?_
        try simp only [Act.put, List.getElem_toArray, List.getElem_cons_succ, List.getElem_cons_zero, List.setIfInBounds_toArray, List.set_cons_zero, List.set_cons_succ]
        refine wpAnyH_ready (rs := [1, 21]) (by kernel_rfl) (by simp) ?_
        refine AllReadyH.cons rfl (fun K hK => ?_) (AllReadyH.cons rfl (fun K hK => ?_) AllReadyH.nil)
        · have hl := (unhide q0).cell hv
          go_simp
          refine hK.out _ _ hHeld (fun hHeld => ?_)
          clear hK K hl
          try simp only [Act.put, List.getElem_toArray, List.getElem_cons_succ, List.getElem_cons_zero, List.setIfInBounds_toArray, List.set_cons_zero, List.set_cons_succ]
          refine wpAnyH_ready (rs := [21]) (by kernel_rfl) (by simp) ?_
          refine AllReadyH.cons rfl (fun K hK => ?_) AllReadyH.nil
          go_simp
          refine hK.out _ _ (unhide KE _ (hHeld.1.more _)) (fun hHeld => ?_)
          clear hK K
          try simp only [Act.put, List.getElem_toArray, List.getElem_cons_succ, List.getElem_cons_zero, List.setIfInBounds_toArray, List.set_cons_zero, List.set_cons_succ]
          obtain ⟨y1, hy1⟩ : ∃ y, y = y0.alloc (.cells #[.int .i64 s.k, .int .i64 s.f, .int .u64 (s.m : Int)] 83) := ⟨_, rfl⟩
          have q1 : Hid (G y0 y1) := hide (by rw [hy1]; exact G.alloc _ _)
          have qn : Hid (∀ q u, ([.int .i64 s.k, .int .i64 s.f, .int .u64 (s.m : Int)] : List Value)[q]? = some u → y1.cell? ((⟨y0.heap.size, 0, none⟩ : Addr).add q) = some u) := hide (fun q u hq => by rw [hy1, Addr.add_lit, Nat.zero_add, cell_of_row _ _ _ _ _ _ (heap_alloc_new y0 _)]; simpa using hq)
          rw [← hy1] at hHeld ⊢
          clear hy1
          refine wpAnyH_ready (rs := [22]) (by kernel_rfl) (by simp) ?_
          refine AllReadyH.cons rfl (fun K hK => ?_) AllReadyH.nil
          obtain ⟨gn, cn, y2, hrun, hgW, hcv, hfv, HG⟩ := unhide AP y1 ((unhide q0).trans (unhide q1)) y0.heap.size (unhide qn)
          replace HG := hide HG
          refine step_app rfl (.tmp 27) (.tmp 47) 44 rfl _ _ rfl rfl _ _ hrun ?_
          refine hK.out _ _ (unhide KE _ hgW) (fun hHeld => ?_)
          clear hK K hrun
          try simp only [Act.put, List.getElem_toArray, List.getElem_cons_succ, List.getElem_cons_zero, List.setIfInBounds_toArray, List.set_cons_zero, List.set_cons_succ]
          refine wpAnyH_take (i := 23) (v := .pointer (some ⟨gb, 0, none⟩)) rfl (by kernel_rfl) (by kernel_rfl) (by kernel_rfl) (fun _ _ _ h => h) (Or.inl ⟨by rfl, fun w hSw => by obtain ⟨t0, t1, t2, t3, t4⟩ := hSw; go_simp⟩) (by assumption) ?_
          try simp only [Act.put, List.getElem_toArray, List.getElem_cons_succ, List.getElem_cons_zero, List.setIfInBounds_toArray, List.set_cons_zero, List.set_cons_succ]
          refine wpAnyH_ready (rs := [24]) (by kernel_rfl) (by simp) ?_
          refine AllReadyH.cons rfl (fun K hK => ?_) AllReadyH.nil
          go_simp
          refine hK.out _ _ (unhide KE _ (G.set hgW _ _ _ hgl)) (fun hHeld => ?_)
          clear hK K hcv hfv
          try simp only [Act.put, List.getElem_toArray, List.getElem_cons_succ, List.getElem_cons_zero, List.setIfInBounds_toArray, List.set_cons_zero, List.set_cons_succ]
          refine wpAnyH_done (by kernel_rfl) (NoPanic.normal ?_) _
          clear hHeld hgW
          go_wp2_with fail
          go_roundw
          case rel => exact ⟨k + 1, _, by omega, by go_num, HG⟩
          case measure => simp [intOf]; omega
        · go_simp
          refine hK.out _ _ (unhide KE _ (hHeld.1.more _)) (fun hHeld => ?_)
          clear hK K
          try simp only [Act.put, List.getElem_toArray, List.getElem_cons_succ, List.getElem_cons_zero, List.setIfInBounds_toArray, List.set_cons_zero, List.set_cons_succ]
          obtain ⟨y1, hy1⟩ : ∃ y, y = y0.alloc (.cells #[.int .i64 s.k, .int .i64 s.f, .int .u64 (s.m : Int)] 83) := ⟨_, rfl⟩
          have q1 : Hid (G y0 y1) := hide (by rw [hy1]; exact G.alloc _ _)
          have qn : Hid (∀ q u, ([.int .i64 s.k, .int .i64 s.f, .int .u64 (s.m : Int)] : List Value)[q]? = some u → y1.cell? ((⟨y0.heap.size, 0, none⟩ : Addr).add q) = some u) := hide (fun q u hq => by rw [hy1, Addr.add_lit, Nat.zero_add, cell_of_row _ _ _ _ _ _ (heap_alloc_new y0 _)]; simpa using hq)
          rw [← hy1] at hHeld ⊢
          clear hy1
          refine wpAnyH_ready (rs := [1]) (by kernel_rfl) (by simp) ?_
          refine AllReadyH.cons rfl (fun K hK => ?_) AllReadyH.nil
          have hl := ((unhide q0).trans (unhide q1)).cell hv
          go_simp
          refine hK.out _ _ hHeld (fun hHeld => ?_)
          clear hK K hl
          try simp only [Act.put, List.getElem_toArray, List.getElem_cons_succ, List.getElem_cons_zero, List.setIfInBounds_toArray, List.set_cons_zero, List.set_cons_succ]
          refine wpAnyH_ready (rs := [22]) (by kernel_rfl) (by simp) ?_
          refine AllReadyH.cons rfl (fun K hK => ?_) AllReadyH.nil
          obtain ⟨gn, cn, y2, hrun, hgW, hcv, hfv, HG⟩ := unhide AP y1 ((unhide q0).trans (unhide q1)) y0.heap.size (unhide qn)
          replace HG := hide HG
          refine step_app rfl (.tmp 27) (.tmp 47) 44 rfl _ _ rfl rfl _ _ hrun ?_
          refine hK.out _ _ (unhide KE _ hgW) (fun hHeld => ?_)
          clear hK K hrun
          try simp only [Act.put, List.getElem_toArray, List.getElem_cons_succ, List.getElem_cons_zero, List.setIfInBounds_toArray, List.set_cons_zero, List.set_cons_succ]
          refine wpAnyH_take (i := 23) (v := .pointer (some ⟨gb, 0, none⟩)) rfl (by kernel_rfl) (by kernel_rfl) (by kernel_rfl) (fun _ _ _ h => h) (Or.inl ⟨by rfl, fun w hSw => by obtain ⟨t0, t1, t2, t3, t4⟩ := hSw; go_simp⟩) (by assumption) ?_
          try simp only [Act.put, List.getElem_toArray, List.getElem_cons_succ, List.getElem_cons_zero, List.setIfInBounds_toArray, List.set_cons_zero, List.set_cons_succ]
          refine wpAnyH_ready (rs := [24]) (by kernel_rfl) (by simp) ?_
          refine AllReadyH.cons rfl (fun K hK => ?_) AllReadyH.nil
          go_simp
          refine hK.out _ _ (unhide KE _ (G.set hgW _ _ _ hgl)) (fun hHeld => ?_)
          clear hK K hcv hfv
          try simp only [Act.put, List.getElem_toArray, List.getElem_cons_succ, List.getElem_cons_zero, List.setIfInBounds_toArray, List.set_cons_zero, List.set_cons_succ]
          refine wpAnyH_done (by kernel_rfl) (NoPanic.normal ?_) _
          clear hHeld hgW
          go_wp2_with fail
          go_roundw
          case rel => exact ⟨k + 1, _, by omega, by go_num, HG⟩
          case measure => simp [intOf]; omega
      · obtain rfl : k = m.sh.length := by omega
        obtain ⟨voa, vca, rfl, RXa, FX, KX⟩ := unhide EN wr v (unhide H)
        have RZg := hide ((unhide RXg).keep KX)
        clear RXg
        have RZi := hide ((unhide RXi).keep KX)
        clear RXi
        have RXg := RZg
        clear RZg
        have RXi := RZi
        clear RZi
        replace RXa := hide RXa
        clear EN RD BX H KX
        have Fb := hide FX
        clear FX gWr hgbl hlt hk
        obtain ⟨wd0, hwd0⟩ : ∃ y, y = wr := ⟨_, rfl⟩
        subst hwd0
        have ST : Hid (GrE elCa 84 W1.heap.size wd0 gb 3 [.slice voa m.sh.length vca, .slice (some ⟨b1, 0, none⟩) m.gl.length c1, .slice (some ⟨b2, 0, none⟩) m.co.length c2, .slice none 0 0, .slice none 0 0, .int .i64 m.main] ((m.ca).take 0) (.slice none 0 0) wd0) := hide (gre_start (unhide Fb).cl rfl (unhide Fb).fz)
        have RD : Hid (∀ (k : Nat) (wr : World) (v : Value), k < m.ca.length → GrE elCa 84 W1.heap.size wd0 gb 3 [.slice voa m.sh.length vca, .slice (some ⟨b1, 0, none⟩) m.gl.length c1, .slice (some ⟨b2, 0, none⟩) m.co.length c2, .slice none 0 0, .slice none 0 0, .int .i64 m.main] ((m.ca).take k) v wr → ∃ (b off : Nat) (s : Ca), ao = some ⟨b, off, none⟩ ∧ wr.cell? ⟨gb, 3, none⟩ = some v ∧ (∀ x, G W1 x → G W1 x ∧ x.cell? ⟨w.heap.size, 3, none⟩ = some (.slice (some ⟨b, off, none⟩) m.ca.length ac) ∧ x.cell? ⟨b, off + k * 4, none⟩ = some (.int .i64 s.k) ∧ x.cell? ⟨b, off + k * 4 + 1, none⟩ = some (.int .i64 s.c) ∧ x.cell? ⟨b, off + k * 4 + 2, none⟩ = some (.int .i64 s.v) ∧ x.cell? ⟨b, off + k * 4 + 3, none⟩ = some (.int .i64 s.t)) ∧ (∀ x2, G wr x2 → ∀ nb, (∀ q u, ([.int .i64 s.k, .int .i64 s.c, .int .i64 s.v, .int .i64 s.t] : List Value)[q]? = some u → x2.cell? ((⟨nb, 0, none⟩ : Addr).add q) = some u) → ∃ gn cn x3, (Builtin.append_ #[45, 45] 45 #[v, .slice (some ⟨nb, 0, none⟩) 1 1]).run Try.prog x2 = .ok (.slice (some ⟨gn, 0, none⟩) (k + 1) cn) x3 ∧ G W1 x3 ∧ x3.cell? ⟨gb, 3, none⟩ = some v ∧ x3.frozen? ⟨gb, 3, none⟩ = false ∧ GrE elCa 84 W1.heap.size wd0 gb 3 [.slice voa m.sh.length vca, .slice (some ⟨b1, 0, none⟩) m.gl.length c1, .slice (some ⟨b2, 0, none⟩) m.co.length c2, .slice none 0 0, .slice none 0 0, .int .i64 m.main] ((m.ca).take (k + 1)) (.slice (some ⟨gn, 0, none⟩) (k + 1) cn) (x3.setCell ⟨gb, 3, none⟩ (.slice (some ⟨gn, 0, none⟩) (k + 1) cn)))) := hide fun k wr v hk H => by
          obtain ⟨b, off, s, cs, rfl, ha, ecs, hcs⟩ := row_get (unhide r4) hk
          have ecs : cs = [.int .i64 s.k, .int .i64 s.c, .int .i64 s.v, .int .i64 s.t] := ecs
          subst ecs
          have h5 : wr.cell? ⟨gb, 3, none⟩ = some v := by
            obtain ⟨xs, hL, _⟩ := H
            have := hL.cells 3 v rfl
            rwa [Nat.zero_add] at this
          refine ⟨b, off, s, rfl, h5, fun x g => ?_, fun x2 g2 nb hc => ?_⟩
          · have gx := (unhide g1).trans g
            exact ⟨g, (unhide KP x g).2.2.2.2.1, hcs x gx 0 _ rfl, hcs x gx 1 _ rfl, hcs x gx 2 _ rfl, hcs x gx 3 _ rfl⟩
          · obtain ⟨ii, hi, hz, hs, hb⟩ := info_parts info_rcase
            have hl := take_len (m.ca) k (Nat.le_of_lt hk)
            have := gre_app (E := elCa) Try.underlying45 hi hz hs hb rfl (by decide) (by decide) H (unhide Fb).lo (unhide Fb).lt (by simp) g2 nb [.int .i64 s.k, .int .i64 s.c, .int .i64 s.v, .int .i64 s.t] s rfl (fun _ _ => rfl) hc (by simp [Value.oneCell']) (by omega) (unhide Fb).g (unhide Fb).lo
            rw [take_one _ _ _ ha]
            rw [hl] at this
            exact this
        have EN : Hid (∀ (wr : World) (v : Value), GrE elCa 84 W1.heap.size wd0 gb 3 [.slice voa m.sh.length vca, .slice (some ⟨b1, 0, none⟩) m.gl.length c1, .slice (some ⟨b2, 0, none⟩) m.co.length c2, .slice none 0 0, .slice none 0 0, .int .i64 m.main] ((m.ca).take m.ca.length) v wr → ∃ vo vc, v = .slice vo m.ca.length vc ∧ RowX W1.heap.size gb elCa wr vo m.ca.length vc m.ca ∧ MdS W1 gb [.slice voa m.sh.length vca, .slice (some ⟨b1, 0, none⟩) m.gl.length c1, .slice (some ⟨b2, 0, none⟩) m.co.length c2, v, .slice none 0 0, .int .i64 m.main] wr ∧ Kx W1.heap.size gb none wd0 wr ∧ m.ca.length ≤ vc) := hide fun wr v H => by
          rw [List.take_of_length_le (Nat.le_refl _)] at H
          obtain ⟨vo, vc, e, h1, h2, h3⟩ := md_end (unhide Fb) H
          subst e
          exact ⟨vo, vc, rfl, h1, h2, h3, gre_cap H rfl⟩
        have BX : Hid (∀ wr v k, GrE elCa 84 W1.heap.size wd0 gb 3 [.slice voa m.sh.length vca, .slice (some ⟨b1, 0, none⟩) m.gl.length c1, .slice (some ⟨b2, 0, none⟩) m.co.length c2, .slice none 0 0, .slice none 0 0, .int .i64 m.main] ((m.ca).take k) v wr → G W1 wr ∧ wr.cell? ⟨w.heap.size, 3, none⟩ = some (.slice ao m.ca.length ac)) := hide fun wr v k H => by
          obtain ⟨xs, hL, _⟩ := H
          have g := hL.g (unhide Fb).g (unhide Fb).lo
          exact ⟨g, (unhide KP wr g).2.2.2.2.1⟩
        have hgbl : W1.heap.size ≤ gb := (unhide Fb).lo
        clear Fb
        go_wp2_with fail
        clear hC
        go_loopw [5] (fun i wr => ∃ (k : Nat) (v : Value), k ≤ m.ca.length ∧ i = .int .i64 k ∧ Hid (GrE elCa 84 W1.heap.size wd0 gb 3 [.slice voa m.sh.length vca, .slice (some ⟨b1, 0, none⟩) m.gl.length c1, .slice (some ⟨b2, 0, none⟩) m.co.length c2, .slice none 0 0, .slice none 0 0, .int .i64 m.main] ((m.ca).take k) v wr)) (fun i _ => m.ca.length - (intOf i).toNat)
        case atStart => exact ⟨0, _, Nat.zero_le _, rfl, ST⟩
        case round =>
          obtain ⟨k, v, hk, rfl, H⟩ := hrel
          obtain ⟨gWr, hC⟩ := unhide BX wr v k (unhide H)
          replace gWr := hide gWr
          clear ST
          by_cases hlt : k < m.ca.length
          · obtain ⟨b, off, s, rfl, hv, KE, AP⟩ := unhide RD k wr v hlt (unhide H)
            replace KE := hide KE
            replace AP := hide AP
            have hk0 : (0 : Int) ≤ (k : Int) := by omega
            have hkn : (k : Int) < (m.ca.length : Int) := by omega
            have hgl := hgbl
            clear RD EN BX KR H
            obtain ⟨_, _, e0, e1, e2, e3⟩ := unhide KE wr (unhide gWr)
            go_upto_region 10 with fail
            obtain ⟨y1, hy1⟩ : ∃ y, y = wr.alloc (.cells #[.int .i64 s.k, .int .i64 s.c, .int .i64 s.v, .int .i64 s.t] 24) := ⟨_, rfl⟩
            have hyG : G wr y1 := by rw [hy1]; exact G.alloc _ _
            have hv1 := hyG.cell hv
            have x0 : y1.cell? ⟨wr.heap.size, 0, none⟩ = some (.int .i64 s.k) := by rw [hy1]; simp [go_sem]
            have x1 : y1.cell? ⟨wr.heap.size, 1, none⟩ = some (.int .i64 s.c) := by rw [hy1]; simp [go_sem]
            have x2 : y1.cell? ⟨wr.heap.size, 2, none⟩ = some (.int .i64 s.v) := by rw [hy1]; simp [go_sem]
            have x3 : y1.cell? ⟨wr.heap.size, 3, none⟩ = some (.int .i64 s.t) := by rw [hy1]; simp [go_sem]
            have AQ : Hid (∃ gn cn z3, (Builtin.append_ #[45, 45] 45 #[v, .slice (some ⟨y1.heap.size, 0, none⟩) 1 1]).run Try.prog (y1.alloc (.cells #[.int .i64 s.k, .int .i64 s.c, .int .i64 s.v, .int .i64 s.t] 84)) = .ok (.slice (some ⟨gn, 0, none⟩) (k + 1) cn) z3 ∧ _) := hide (unhide AP (y1.alloc (.cells #[.int .i64 s.k, .int .i64 s.c, .int .i64 s.v, .int .i64 s.t] 84)) (hyG.more _) y1.heap.size (fun q u hq => by rw [Addr.add_lit, Nat.zero_add, cell_of_row _ _ _ _ _ _ (heap_alloc_new y1 _)]; simpa using hq))
            rw [← hy1]
            clear hy1 AP e0 e1 e2 e3 hv KE hC
            replace hyG := hide hyG
            go_wp2_with (at_builtin; obtain ⟨gn, cn, z3, hrun, hgW, hcv, hfv, HG⟩ := unhide AQ; replace HG := hide HG; refine wpl_run rfl (.tmp 63) (.tmp 73) 45 rfl _ _ rfl rfl _ _ hrun ?_; clear hrun AQ)
            go_roundw
            case rel => exact ⟨k + 1, _, by omega, by go_num, HG⟩
            case measure => simp [intOf]; omega
          · obtain rfl : k = m.ca.length := by omega
            obtain ⟨vob, vcb, rfl, RXb, FX, KX, hvcb⟩ := unhide EN wr v (unhide H)
            replace hvcb := hide hvcb
            have RZg := hide ((unhide RXg).keep KX)
            clear RXg
            have RZi := hide ((unhide RXi).keep KX)
            clear RXi
            have RZa := hide ((unhide RXa).keep KX)
            clear RXa
            have RXg := RZg
            clear RZg
            have RXi := RZi
            clear RZi
            have RXa := RZa
            clear RZa
            replace RXb := hide RXb
            clear EN RD BX H KX
            have Fc := hide FX
            clear FX gWr hgbl hlt hk
            obtain ⟨wd1, hwd1⟩ : ∃ y, y = wr := ⟨_, rfl⟩
            subst hwd1
            have ST : Hid (GrE elFn 52 W1.heap.size wd1 gb 4 [.slice voa m.sh.length vca, .slice (some ⟨b1, 0, none⟩) m.gl.length c1, .slice (some ⟨b2, 0, none⟩) m.co.length c2, .slice vob m.ca.length vcb, .slice none 0 0, .int .i64 m.main] ((m.fn).take 0) (.slice none 0 0) wd1) := hide (gre_start (unhide Fc).cl rfl (unhide Fc).fz)
            have RD : Hid (∀ (k : Nat) (wr : World) (v : Value), k < m.fn.length → GrE elFn 52 W1.heap.size wd1 gb 4 [.slice voa m.sh.length vca, .slice (some ⟨b1, 0, none⟩) m.gl.length c1, .slice (some ⟨b2, 0, none⟩) m.co.length c2, .slice vob m.ca.length vcb, .slice none 0 0, .int .i64 m.main] ((m.fn).take k) v wr → ∃ (b off : Nat) (a : Fn) (ko : Option Addr) (kc : Nat) (io : Option Addr) (ic : Nat) (mo : Option Addr) (mc : Nat), fo = some ⟨b, off, none⟩ ∧ wr.cell? ⟨gb, 4, none⟩ = some v ∧ (∀ x, G W1 x → G W1 x ∧ x.cell? ⟨w.heap.size, 4, none⟩ = some (.slice (some ⟨b, off, none⟩) m.fn.length fc) ∧ x.cell? ⟨b, off + k * 7, none⟩ = some (.int .i64 a.p) ∧ x.cell? ⟨b, off + k * 7 + 1, none⟩ = some (.int .i64 a.c) ∧ x.cell? ⟨b, off + k * 7 + 2, none⟩ = some (.int .i64 a.s) ∧ x.cell? ⟨b, off + k * 7 + 3, none⟩ = some (.int .i64 a.r) ∧ x.cell? ⟨b, off + k * 7 + 4, none⟩ = some (.slice ko a.ks.length kc) ∧ x.cell? ⟨b, off + k * 7 + 5, none⟩ = some (.slice io a.is.length ic) ∧ x.cell? ⟨b, off + k * 7 + 6, none⟩ = some (.slice mo a.ms.length mc)) ∧ (∀ x, G W1 x → Calls Try.prog 15 #[.agg #[.int .i64 a.p, .int .i64 a.c, .int .i64 a.s, .int .i64 a.r, .slice ko a.ks.length kc, .slice io a.is.length ic, .slice mo a.ms.length mc]] x fun e w' => ∃ (ko' : Option Addr) (kc' : Nat) (io' : Option Addr) (ic' : Nat) (mo' : Option Addr) (mc' : Nat), e = .returned (.agg #[.int .i64 a.p, .int .i64 a.c, .int .i64 a.s, .int .i64 a.r, .slice ko' a.ks.length kc', .slice io' a.is.length ic', .slice mo' a.ms.length mc']) ∧ (∀ w2, KeepFrom x.heap.size w' w2 → FnCells w2 a [.int .i64 a.p, .int .i64 a.c, .int .i64 a.s, .int .i64 a.r, .slice ko' a.ks.length kc', .slice io' a.is.length ic', .slice mo' a.ms.length mc']) ∧ G x w') ∧ (∀ x2, G wr x2 → ∀ nb (ko' : Option Addr) (kc' : Nat) (io' : Option Addr) (ic' : Nat) (mo' : Option Addr) (mc' : Nat), (∀ w', KeepFrom wr.heap.size x2 w' → FnCells w' a [.int .i64 a.p, .int .i64 a.c, .int .i64 a.s, .int .i64 a.r, .slice ko' a.ks.length kc', .slice io' a.is.length ic', .slice mo' a.ms.length mc']) → (∀ q u, ([.int .i64 a.p, .int .i64 a.c, .int .i64 a.s, .int .i64 a.r, .slice ko' a.ks.length kc', .slice io' a.is.length ic', .slice mo' a.ms.length mc'] : List Value)[q]? = some u → x2.cell? ((⟨nb, 0, none⟩ : Addr).add q) = some u) → ∃ gn cn x3, (Builtin.append_ #[46, 46] 46 #[v, .slice (some ⟨nb, 0, none⟩) 1 1]).run Try.prog x2 = .ok (.slice (some ⟨gn, 0, none⟩) (k + 1) cn) x3 ∧ G W1 x3 ∧ x3.cell? ⟨gb, 4, none⟩ = some v ∧ x3.frozen? ⟨gb, 4, none⟩ = false ∧ GrE elFn 52 W1.heap.size wd1 gb 4 [.slice voa m.sh.length vca, .slice (some ⟨b1, 0, none⟩) m.gl.length c1, .slice (some ⟨b2, 0, none⟩) m.co.length c2, .slice vob m.ca.length vcb, .slice none 0 0, .int .i64 m.main] ((m.fn).take (k + 1)) (.slice (some ⟨gn, 0, none⟩) (k + 1) cn) (x3.setCell ⟨gb, 4, none⟩ (.slice (some ⟨gn, 0, none⟩) (k + 1) cn)))) := hide fun k wr v hk H => by
              obtain ⟨b, off, a, cs, rfl, ha, ecs, hcs⟩ := row_get (unhide r5) hk
              obtain ⟨ko, kc, io, ic, mo, mc, rfl, e1, e2, e3⟩ := ecs
              have h5 : wr.cell? ⟨gb, 4, none⟩ = some v := by
                obtain ⟨xs, hL, _⟩ := H
                have := hL.cells 4 v rfl
                rwa [Nat.zero_add] at this
              have hm := unhide n6 a (List.mem_of_getElem? ha)
              refine ⟨b, off, a, ko, kc, io, ic, mo, mc, rfl, h5, fun x g => ?_, fun x g => ?_, fun x2 g2 nb ko' kc' io' ic' mo' mc' hE hc => ?_⟩
              · have gx := (unhide g1).trans g
                exact ⟨g, (unhide KP x g).2.2.2.2.2.1, hcs x gx 0 _ rfl, hcs x gx 1 _ rfl, hcs x gx 2 _ rfl, hcs x gx 3 _ rfl, hcs x gx 4 _ rfl, hcs x gx 5 _ rfl, hcs x gx 6 _ rfl⟩
              · have gx := (unhide g1).trans g
                refine (rfunc x a ko kc io ic mo mc (e1.g okB gx) (e2.g okIn gx) (e3.g okU gx) hm.1 hm.2.1 hm.2.2).mono ?_
                rintro e w' ⟨cs, rfl, hF, hg⟩
                obtain ⟨ko', kc', io', ic', mo', mc', rfl, _⟩ := hF w' (KeepFrom.refl _ _)
                exact ⟨ko', kc', io', ic', mo', mc', rfl, hF, hg⟩
              · obtain ⟨ii, hi, hz, hs, hb⟩ := info_parts info_rfunc
                have hl := take_len (m.fn) k (Nat.le_of_lt hk)
                have := gre_app (E := elFn) Try.underlying46 hi hz hs hb rfl (by decide) (by decide) H (unhide Fc).lo (unhide Fc).lt (by simp) g2 nb [.int .i64 a.p, .int .i64 a.c, .int .i64 a.s, .int .i64 a.r, .slice ko' a.ks.length kc', .slice io' a.is.length ic', .slice mo' a.ms.length mc'] a rfl hE hc (by simp [Value.oneCell']) (by omega) (unhide Fc).g (unhide Fc).lo
                rw [take_one _ _ _ ha]
                rw [hl] at this
                exact this
            have EN : Hid (∀ (wr : World) (v : Value), GrE elFn 52 W1.heap.size wd1 gb 4 [.slice voa m.sh.length vca, .slice (some ⟨b1, 0, none⟩) m.gl.length c1, .slice (some ⟨b2, 0, none⟩) m.co.length c2, .slice vob m.ca.length vcb, .slice none 0 0, .int .i64 m.main] ((m.fn).take m.fn.length) v wr → ∃ vo vc, v = .slice vo m.fn.length vc ∧ RowX W1.heap.size gb elFn wr vo m.fn.length vc m.fn ∧ MdS W1 gb [.slice voa m.sh.length vca, .slice (some ⟨b1, 0, none⟩) m.gl.length c1, .slice (some ⟨b2, 0, none⟩) m.co.length c2, .slice vob m.ca.length vcb, v, .int .i64 m.main] wr ∧ Kx W1.heap.size gb none wd1 wr) := hide fun wr v H => by
              rw [List.take_of_length_le (Nat.le_refl _)] at H
              exact md_end (unhide Fc) H
            have BX : Hid (∀ wr v k, GrE elFn 52 W1.heap.size wd1 gb 4 [.slice voa m.sh.length vca, .slice (some ⟨b1, 0, none⟩) m.gl.length c1, .slice (some ⟨b2, 0, none⟩) m.co.length c2, .slice vob m.ca.length vcb, .slice none 0 0, .int .i64 m.main] ((m.fn).take k) v wr → G W1 wr ∧ wr.cell? ⟨w.heap.size, 4, none⟩ = some (.slice fo m.fn.length fc)) := hide fun wr v k H => by
              obtain ⟨xs, hL, _⟩ := H
              have g := hL.g (unhide Fc).g (unhide Fc).lo
              exact ⟨g, (unhide KP wr g).2.2.2.2.2.1⟩
            have hgbl : W1.heap.size ≤ gb := (unhide Fc).lo
            clear Fc
            go_wp2_with fail
            clear hC
            go_loopw [7] (fun i wr => ∃ (k : Nat) (v : Value), k ≤ m.fn.length ∧ i = .int .i64 k ∧ Hid (GrE elFn 52 W1.heap.size wd1 gb 4 [.slice voa m.sh.length vca, .slice (some ⟨b1, 0, none⟩) m.gl.length c1, .slice (some ⟨b2, 0, none⟩) m.co.length c2, .slice vob m.ca.length vcb, .slice none 0 0, .int .i64 m.main] ((m.fn).take k) v wr)) (fun i _ => m.fn.length - (intOf i).toNat)
            case atStart => exact ⟨0, _, Nat.zero_le _, rfl, ST⟩
            case round =>
              obtain ⟨k, v, hk, rfl, H⟩ := hrel
              obtain ⟨gWr, hC⟩ := unhide BX wr v k (unhide H)
              replace gWr := hide gWr
              clear ST
              by_cases hlt : k < m.fn.length
              · obtain ⟨b, off, a, ko, kc, io, ic, mo, mc, rfl, hv, KE, IN, AP⟩ := unhide RD k wr v hlt (unhide H)
                replace IN := hide IN
                replace KE := hide KE
                replace AP := hide AP
                have hk0 : (0 : Int) ≤ (k : Int) := by omega
                have hkn : (k : Int) < (m.fn.length : Int) := by omega
                have hgl := hgbl
                clear RD EN BX KR H
                go_wp2_with fail
                refine wp_region_noPanic ?_
                refine wp_region_held_drew (S := fun x => G W1 x ∧ x.cell? ⟨w.heap.size, 4, none⟩ = some (.slice (some ⟨b, off, none⟩) m.fn.length fc) ∧ x.cell? ⟨b, off + k * 7, none⟩ = some (.int .i64 a.p) ∧ x.cell? ⟨b, off + k * 7 + 1, none⟩ = some (.int .i64 a.c) ∧ x.cell? ⟨b, off + k * 7 + 2, none⟩ = some (.int .i64 a.s) ∧ x.cell? ⟨b, off + k * 7 + 3, none⟩ = some (.int .i64 a.r) ∧ x.cell? ⟨b, off + k * 7 + 4, none⟩ = some (.slice ko a.ks.length kc) ∧ x.cell? ⟨b, off + k * 7 + 5, none⟩ = some (.slice io a.is.length ic) ∧ x.cell? ⟨b, off + k * 7 + 6, none⟩ = some (.slice mo a.ms.length mc)) (by kernel_rfl) (unhide KE _ (unhide gWr).drew) (fun hHeld => ?_)
                obtain ⟨y0, hy0⟩ : ∃ y, y = wr.drew := ⟨_, rfl⟩
                have q0 : Hid (G wr y0) := hide (by rw [hy0]; exact (G.refl wr).drew)
                rw [← hy0] at hHeld ⊢
                clear hy0 hC
                refine wpAnyH_take (i := 0) (v := .pointer (some ⟨gb, 4, none⟩)) rfl (by kernel_rfl) (by kernel_rfl) (by kernel_rfl) (fun _ _ _ h => h) (Or.inl ⟨by rfl, fun w hSw => by obtain ⟨t0, t1, t2, t3, t4, t5, t6, t7, t8⟩ := hSw; go_simp⟩) (by assumption) ?_
                try simp only [Act.put, List.getElem_toArray, List.getElem_cons_zero, List.setIfInBounds_toArray, List.set_cons_zero, List.set_cons_succ]
                refine wpAnyH_take (i := 2) (v := .pointer (some ⟨w.heap.size, 4, none⟩)) rfl (by kernel_rfl) (by kernel_rfl) (by kernel_rfl) (fun _ _ _ h => h) (Or.inl ⟨by rfl, fun w hSw => by obtain ⟨t0, t1, t2, t3, t4, t5, t6, t7, t8⟩ := hSw; go_simp⟩) (by assumption) ?_
                try simp only [Act.put, List.getElem_toArray, List.getElem_cons_succ, List.getElem_cons_zero, List.setIfInBounds_toArray, List.set_cons_zero, List.set_cons_succ]
                refine wpAnyH_take (i := 3) (v := .slice (some ⟨b, off, none⟩) m.fn.length fc) rfl (by kernel_rfl) (by kernel_rfl) (by kernel_rfl) (fun _ _ _ h => h) (Or.inl ⟨by rfl, fun w hSw => by obtain ⟨t0, t1, t2, t3, t4, t5, t6, t7, t8⟩ := hSw; go_simp⟩) (by assumption) ?_
                try simp only [Act.put, List.getElem_toArray, List.getElem_cons_succ, List.getElem_cons_zero, List.setIfInBounds_toArray, List.set_cons_zero, List.set_cons_succ]
                refine wpAnyH_take (i := 4) (v := .int .i64 (k : Int)) rfl (by kernel_rfl) (by kernel_rfl) (by kernel_rfl) (fun _ _ _ h => h) (Or.inl ⟨by rfl, fun w hSw => by obtain ⟨t0, t1, t2, t3, t4, t5, t6, t7, t8⟩ := hSw; go_simp⟩) (by assumption) ?_
                try simp only [Act.put, List.getElem_toArray, List.getElem_cons_succ, List.getElem_cons_zero, List.setIfInBounds_toArray, List.set_cons_zero, List.set_cons_succ]
                refine wpAnyH_take (i := 5) (v := .pointer (some ⟨b, off + k * 7, none⟩)) rfl (by kernel_rfl) (by kernel_rfl) (by kernel_rfl) (fun _ _ _ h => h) (Or.inl ⟨by rfl, fun w hSw => by obtain ⟨t0, t1, t2, t3, t4, t5, t6, t7, t8⟩ := hSw; go_simp⟩) (by assumption) ?_
                try simp only [Act.put, List.getElem_toArray, List.getElem_cons_succ, List.getElem_cons_zero, List.setIfInBounds_toArray, List.set_cons_zero, List.set_cons_succ]
                refine wpAnyH_take (i := 6) (v := .agg #[.int .i64 a.p, .int .i64 a.c, .int .i64 a.s, .int .i64 a.r, .slice ko a.ks.length kc, .slice io a.is.length ic, .slice mo a.ms.length mc]) rfl (by kernel_rfl) (by kernel_rfl) (by kernel_rfl) (fun _ _ _ h => h) (Or.inl ⟨by rfl, fun w hSw => by obtain ⟨t0, t1, t2, t3, t4, t5, t6, t7, t8⟩ := hSw; go_simp⟩) (by assumption) ?_
                try simp only [Act.put, List.getElem_toArray, List.getElem_cons_succ, List.getElem_cons_zero, List.setIfInBounds_toArray, List.set_cons_zero, List.set_cons_succ]
                refine wpAnyH_ready (rs := [1, 7]) (by kernel_rfl) (by simp) ?_
                refine AllReadyH.cons rfl (fun K hK => ?_) (AllReadyH.cons rfl (fun K hK => ?_) AllReadyH.nil)
                · have hl := (unhide q0).cell hv
                  go_simp
                  refine hK.out _ _ hHeld (fun hHeld => ?_)
                  clear hK K hl
                  try simp only [Act.put, List.getElem_toArray, List.getElem_cons_succ, List.getElem_cons_zero, List.setIfInBounds_toArray, List.set_cons_zero, List.set_cons_succ]
                  refine wpAnyH_ready (rs := [7]) (by kernel_rfl) (by simp) ?_
                  refine AllReadyH.cons rfl (fun K hK => ?_) AllReadyH.nil
                  go_simp
                  refine (unhide IN _ hHeld.1).mono ?_
                  rintro e y1 ⟨ko', kc', io', ic', mo', mc', rfl, FCk, hg⟩
                  replace FCk := hide FCk
                  go_wp2_with fail
                  refine hK.out _ _ (unhide KE _ (hHeld.1.trans hg)) (fun hHeld => ?_)
                  clear hK K
                  try simp only [Act.put, List.getElem_toArray, List.getElem_cons_succ, List.getElem_cons_zero, List.setIfInBounds_toArray, List.set_cons_zero, List.set_cons_succ]
                  have q1 : Hid (G y0 y1) := hide hg
                  clear hg
                  refine wpAnyH_ready (rs := [8]) (by kernel_rfl) (by simp) ?_
                  refine AllReadyH.cons rfl (fun K hK => ?_) AllReadyH.nil
                  go_simp
                  refine hK.out _ _ (unhide KE _ (hHeld.1.more _)) (fun hHeld => ?_)
                  clear hK K
                  try simp only [Act.put, List.getElem_toArray, List.getElem_cons_succ, List.getElem_cons_zero, List.setIfInBounds_toArray, List.set_cons_zero, List.set_cons_succ]
                  obtain ⟨y2, hy2⟩ : ∃ y, y = y1.alloc (.cells #[.int .i64 a.p, .int .i64 a.c, .int .i64 a.s, .int .i64 a.r, .slice ko' a.ks.length kc', .slice io' a.is.length ic', .slice mo' a.ms.length mc'] 52) := ⟨_, rfl⟩
                  have q2 : Hid (G y1 y2) := hide (by rw [hy2]; exact G.alloc _ _)
                  have qn : Hid (∀ q u, ([.int .i64 a.p, .int .i64 a.c, .int .i64 a.s, .int .i64 a.r, .slice ko' a.ks.length kc', .slice io' a.is.length ic', .slice mo' a.ms.length mc'] : List Value)[q]? = some u → y2.cell? ((⟨y1.heap.size, 0, none⟩ : Addr).add q) = some u) := hide (fun q u hq => by rw [hy2, Addr.add_lit, Nat.zero_add, cell_of_row _ _ _ _ _ _ (heap_alloc_new y1 _)]; simpa using hq)
                  rw [← hy2] at hHeld ⊢
                  clear hy2
                  refine wpAnyH_ready (rs := [9]) (by kernel_rfl) (by simp) ?_
                  refine AllReadyH.cons rfl (fun K hK => ?_) AllReadyH.nil
                  obtain ⟨gn, cn, y3, hrun, hgW, hcv, hfv, HG⟩ := unhide AP y2 (((unhide q0).trans (unhide q1)).trans (unhide q2)) y1.heap.size ko' kc' io' ic' mo' mc' (fun w2 kw => unhide FCk w2 (keep_new (unhide q0) (unhide q2) kw)) (unhide qn)
                  replace HG := hide HG
                  refine step_app rfl (.tmp 84) (.tmp 91) 46 rfl _ _ rfl rfl _ _ hrun ?_
                  refine hK.out _ _ (unhide KE _ hgW) (fun hHeld => ?_)
                  clear hK K hrun
                  try simp only [Act.put, List.getElem_toArray, List.getElem_cons_succ, List.getElem_cons_zero, List.setIfInBounds_toArray, List.set_cons_zero, List.set_cons_succ]
                  refine wpAnyH_take (i := 10) (v := .pointer (some ⟨gb, 4, none⟩)) rfl (by kernel_rfl) (by kernel_rfl) (by kernel_rfl) (fun _ _ _ h => h) (Or.inl ⟨by rfl, fun w hSw => by obtain ⟨t0, t1, t2, t3, t4, t5, t6, t7, t8⟩ := hSw; go_simp⟩) (by assumption) ?_
                  try simp only [Act.put, List.getElem_toArray, List.getElem_cons_succ, List.getElem_cons_zero, List.setIfInBounds_toArray, List.set_cons_zero, List.set_cons_succ]
                  refine wpAnyH_ready (rs := [11]) (by kernel_rfl) (by simp) ?_
                  refine AllReadyH.cons rfl (fun K hK => ?_) AllReadyH.nil
                  go_simp
                  refine hK.out _ _ (unhide KE _ (G.set hgW _ _ _ hgl)) (fun hHeld => ?_)
                  clear hK K hcv hfv
                  try simp only [Act.put, List.getElem_toArray, List.getElem_cons_succ, List.getElem_cons_zero, List.setIfInBounds_toArray, List.set_cons_zero, List.set_cons_succ]
                  refine wpAnyH_done (by kernel_rfl) (NoPanic.normal ?_) _
                  clear hHeld hgW
                  go_wp2_with fail
                  go_roundw
                  case rel => exact ⟨k + 1, _, by omega, by go_num, HG⟩
                  case measure => simp [intOf]; omega
                · go_simp
                  refine (unhide IN _ hHeld.1).mono ?_
                  rintro e y1 ⟨ko', kc', io', ic', mo', mc', rfl, FCk, hg⟩
                  replace FCk := hide FCk
                  go_wp2_with fail
                  refine hK.out _ _ (unhide KE _ (hHeld.1.trans hg)) (fun hHeld => ?_)
                  clear hK K
                  try simp only [Act.put, List.getElem_toArray, List.getElem_cons_succ, List.getElem_cons_zero, List.setIfInBounds_toArray, List.set_cons_zero, List.set_cons_succ]
                  have q1 : Hid (G y0 y1) := hide hg
                  clear hg
                  refine wpAnyH_ready (rs := [1, 8]) (by kernel_rfl) (by simp) ?_
                  refine AllReadyH.cons rfl (fun K hK => ?_) (AllReadyH.cons rfl (fun K hK => ?_) AllReadyH.nil)
                  · have hl := ((unhide q0).trans (unhide q1)).cell hv
                    go_simp
                    refine hK.out _ _ hHeld (fun hHeld => ?_)
                    clear hK K hl
                    try simp only [Act.put, List.getElem_toArray, List.getElem_cons_succ, List.getElem_cons_zero, List.setIfInBounds_toArray, List.set_cons_zero, List.set_cons_succ]
                    refine wpAnyH_ready (rs := [8]) (by kernel_rfl) (by simp) ?_
                    refine AllReadyH.cons rfl (fun K hK => ?_) AllReadyH.nil
                    go_simp
                    refine hK.out _ _ (unhide KE _ (hHeld.1.more _)) (fun hHeld => ?_)
                    clear hK K
                    try simp only [Act.put, List.getElem_toArray, List.getElem_cons_succ, List.getElem_cons_zero, List.setIfInBounds_toArray, List.set_cons_zero, List.set_cons_succ]
                    obtain ⟨y2, hy2⟩ : ∃ y, y = y1.alloc (.cells #[.int .i64 a.p, .int .i64 a.c, .int .i64 a.s, .int .i64 a.r, .slice ko' a.ks.length kc', .slice io' a.is.length ic', .slice mo' a.ms.length mc'] 52) := ⟨_, rfl⟩
                    have q2 : Hid (G y1 y2) := hide (by rw [hy2]; exact G.alloc _ _)
                    have qn : Hid (∀ q u, ([.int .i64 a.p, .int .i64 a.c, .int .i64 a.s, .int .i64 a.r, .slice ko' a.ks.length kc', .slice io' a.is.length ic', .slice mo' a.ms.length mc'] : List Value)[q]? = some u → y2.cell? ((⟨y1.heap.size, 0, none⟩ : Addr).add q) = some u) := hide (fun q u hq => by rw [hy2, Addr.add_lit, Nat.zero_add, cell_of_row _ _ _ _ _ _ (heap_alloc_new y1 _)]; simpa using hq)
                    rw [← hy2] at hHeld ⊢
                    clear hy2
                    refine wpAnyH_ready (rs := [9]) (by kernel_rfl) (by simp) ?_
                    refine AllReadyH.cons rfl (fun K hK => ?_) AllReadyH.nil
                    obtain ⟨gn, cn, y3, hrun, hgW, hcv, hfv, HG⟩ := unhide AP y2 (((unhide q0).trans (unhide q1)).trans (unhide q2)) y1.heap.size ko' kc' io' ic' mo' mc' (fun w2 kw => unhide FCk w2 (keep_new (unhide q0) (unhide q2) kw)) (unhide qn)
                    replace HG := hide HG
                    refine step_app rfl (.tmp 84) (.tmp 91) 46 rfl _ _ rfl rfl _ _ hrun ?_
                    refine hK.out _ _ (unhide KE _ hgW) (fun hHeld => ?_)
                    clear hK K hrun
                    try simp only [Act.put, List.getElem_toArray, List.getElem_cons_succ, List.getElem_cons_zero, List.setIfInBounds_toArray, List.set_cons_zero, List.set_cons_succ]
                    refine wpAnyH_take (i := 10) (v := .pointer (some ⟨gb, 4, none⟩)) rfl (by kernel_rfl) (by kernel_rfl) (by kernel_rfl) (fun _ _ _ h => h) (Or.inl ⟨by rfl, fun w hSw => by obtain ⟨t0, t1, t2, t3, t4, t5, t6, t7, t8⟩ := hSw; go_simp⟩) (by assumption) ?_
                    try simp only [Act.put, List.getElem_toArray, List.getElem_cons_succ, List.getElem_cons_zero, List.setIfInBounds_toArray, List.set_cons_zero, List.set_cons_succ]
                    refine wpAnyH_ready (rs := [11]) (by kernel_rfl) (by simp) ?_
                    refine AllReadyH.cons rfl (fun K hK => ?_) AllReadyH.nil
                    go_simp
                    refine hK.out _ _ (unhide KE _ (G.set hgW _ _ _ hgl)) (fun hHeld => ?_)
                    clear hK K hcv hfv
                    try simp only [Act.put, List.getElem_toArray, List.getElem_cons_succ, List.getElem_cons_zero, List.setIfInBounds_toArray, List.set_cons_zero, List.set_cons_succ]
                    refine wpAnyH_done (by kernel_rfl) (NoPanic.normal ?_) _
                    clear hHeld hgW
                    go_wp2_with fail
                    go_roundw
                    case rel => exact ⟨k + 1, _, by omega, by go_num, HG⟩
                    case measure => simp [intOf]; omega
                  · go_simp
                    refine hK.out _ _ (unhide KE _ (hHeld.1.more _)) (fun hHeld => ?_)
                    clear hK K
                    try simp only [Act.put, List.getElem_toArray, List.getElem_cons_succ, List.getElem_cons_zero, List.setIfInBounds_toArray, List.set_cons_zero, List.set_cons_succ]
                    obtain ⟨y2, hy2⟩ : ∃ y, y = y1.alloc (.cells #[.int .i64 a.p, .int .i64 a.c, .int .i64 a.s, .int .i64 a.r, .slice ko' a.ks.length kc', .slice io' a.is.length ic', .slice mo' a.ms.length mc'] 52) := ⟨_, rfl⟩
                    have q2 : Hid (G y1 y2) := hide (by rw [hy2]; exact G.alloc _ _)
                    have qn : Hid (∀ q u, ([.int .i64 a.p, .int .i64 a.c, .int .i64 a.s, .int .i64 a.r, .slice ko' a.ks.length kc', .slice io' a.is.length ic', .slice mo' a.ms.length mc'] : List Value)[q]? = some u → y2.cell? ((⟨y1.heap.size, 0, none⟩ : Addr).add q) = some u) := hide (fun q u hq => by rw [hy2, Addr.add_lit, Nat.zero_add, cell_of_row _ _ _ _ _ _ (heap_alloc_new y1 _)]; simpa using hq)
                    rw [← hy2] at hHeld ⊢
                    clear hy2
                    refine wpAnyH_ready (rs := [1]) (by kernel_rfl) (by simp) ?_
                    refine AllReadyH.cons rfl (fun K hK => ?_) AllReadyH.nil
                    have hl := (((unhide q0).trans (unhide q1)).trans (unhide q2)).cell hv
                    go_simp
                    refine hK.out _ _ hHeld (fun hHeld => ?_)
                    clear hK K hl
                    try simp only [Act.put, List.getElem_toArray, List.getElem_cons_succ, List.getElem_cons_zero, List.setIfInBounds_toArray, List.set_cons_zero, List.set_cons_succ]
                    refine wpAnyH_ready (rs := [9]) (by kernel_rfl) (by simp) ?_
                    refine AllReadyH.cons rfl (fun K hK => ?_) AllReadyH.nil
                    obtain ⟨gn, cn, y3, hrun, hgW, hcv, hfv, HG⟩ := unhide AP y2 (((unhide q0).trans (unhide q1)).trans (unhide q2)) y1.heap.size ko' kc' io' ic' mo' mc' (fun w2 kw => unhide FCk w2 (keep_new (unhide q0) (unhide q2) kw)) (unhide qn)
                    replace HG := hide HG
                    refine step_app rfl (.tmp 84) (.tmp 91) 46 rfl _ _ rfl rfl _ _ hrun ?_
                    refine hK.out _ _ (unhide KE _ hgW) (fun hHeld => ?_)
                    clear hK K hrun
                    try simp only [Act.put, List.getElem_toArray, List.getElem_cons_succ, List.getElem_cons_zero, List.setIfInBounds_toArray, List.set_cons_zero, List.set_cons_succ]
                    refine wpAnyH_take (i := 10) (v := .pointer (some ⟨gb, 4, none⟩)) rfl (by kernel_rfl) (by kernel_rfl) (by kernel_rfl) (fun _ _ _ h => h) (Or.inl ⟨by rfl, fun w hSw => by obtain ⟨t0, t1, t2, t3, t4, t5, t6, t7, t8⟩ := hSw; go_simp⟩) (by assumption) ?_
                    try simp only [Act.put, List.getElem_toArray, List.getElem_cons_succ, List.getElem_cons_zero, List.setIfInBounds_toArray, List.set_cons_zero, List.set_cons_succ]
                    refine wpAnyH_ready (rs := [11]) (by kernel_rfl) (by simp) ?_
                    refine AllReadyH.cons rfl (fun K hK => ?_) AllReadyH.nil
                    go_simp
                    refine hK.out _ _ (unhide KE _ (G.set hgW _ _ _ hgl)) (fun hHeld => ?_)
                    clear hK K hcv hfv
                    try simp only [Act.put, List.getElem_toArray, List.getElem_cons_succ, List.getElem_cons_zero, List.setIfInBounds_toArray, List.set_cons_zero, List.set_cons_succ]
                    refine wpAnyH_done (by kernel_rfl) (NoPanic.normal ?_) _
                    clear hHeld hgW
                    go_wp2_with fail
                    go_roundw
                    case rel => exact ⟨k + 1, _, by omega, by go_num, HG⟩
                    case measure => simp [intOf]; omega
              · obtain rfl : k = m.fn.length := by omega
                obtain ⟨voc, vcc, rfl, RXc, FX, KX⟩ := unhide EN wr v (unhide H)
                have RZg := hide ((unhide RXg).keep KX)
                clear RXg
                have RZi := hide ((unhide RXi).keep KX)
                clear RXi
                have RZa := hide ((unhide RXa).keep KX)
                clear RXa
                have RZb := hide ((unhide RXb).keep KX)
                clear RXb
                have RXg := RZg
                clear RZg
                have RXi := RZi
                clear RZi
                have RXa := RZa
                clear RZa
                have RXb := RZb
                clear RZb
                replace RXc := hide RXc
                clear EN RD BX H KX
                have gw2 := FX.g
                obtain ⟨⟨z0, f0⟩, ⟨z1, f1⟩, ⟨z2, f2⟩, ⟨z3, f3⟩, ⟨z4, f4⟩, ⟨z5, f5⟩⟩ := unhide KR wr gw2
                have e0 : wr.cell? ⟨gb, 0, none⟩ = some (.slice voa m.sh.length vca) := FX.cl 0 _ rfl
                have e1 : wr.cell? ⟨gb, 1, none⟩ = some (.slice (some ⟨b1, 0, none⟩) m.gl.length c1) := FX.cl 1 _ rfl
                have e2 : wr.cell? ⟨gb, 2, none⟩ = some (.slice (some ⟨b2, 0, none⟩) m.co.length c2) := FX.cl 2 _ rfl
                have e3 : wr.cell? ⟨gb, 3, none⟩ = some (.slice vob m.ca.length vcb) := FX.cl 3 _ rfl
                have e4 : wr.cell? ⟨gb, 4, none⟩ = some (.slice voc m.fn.length vcc) := FX.cl 4 _ rfl
                have e5 : wr.cell? ⟨gb, 5, none⟩ = some (.int .i64 m.main) := FX.cl 5 _ rfl
                have QC : CellsAt (setN wr (w.heap.size + 1) 0 [.slice voa m.sh.length vca, .slice (some ⟨b1, 0, none⟩) m.gl.length c1, .slice (some ⟨b2, 0, none⟩) m.co.length c2, .slice vob m.ca.length vcb, .slice voc m.fn.length vcc, .int .i64 m.main]) (w.heap.size + 1) 0 [.slice voa m.sh.length vca, .slice (some ⟨b1, 0, none⟩) m.gl.length c1, .slice (some ⟨b2, 0, none⟩) m.co.length c2, .slice vob m.ca.length vcb, .slice voc m.fn.length vcc, .int .i64 m.main] := fun j u hj => setN_in _ _ _ _ j u hj (fun i hi => by
                  rw [Nat.zero_add]
                  match i, hi with
                  | 0, _ => rw [z0]; rfl
                  | 1, _ => rw [z1]; rfl
                  | 2, _ => rw [z2]; rfl
                  | 3, _ => rw [z3]; rfl
                  | 4, _ => rw [z4]; rfl
                  | 5, _ => rw [z5]; rfl)
                have hs := unhide hs1
                have KF : Kx W1.heap.size gb none wr (setN wr (w.heap.size + 1) 0 [.slice voa m.sh.length vca, .slice (some ⟨b1, 0, none⟩) m.gl.length c1, .slice (some ⟨b2, 0, none⟩) m.co.length c2, .slice vob m.ca.length vcb, .slice voc m.fn.length vcc, .int .i64 m.main]) := ⟨fun b h1 h2 h3 _ => setN_heap _ _ _ _ _ (by omega), by rw [setN_size]; exact Nat.le_refl _⟩
                have RB := md_rows (gl := m.gl) (co := m.co) KF (unhide RXa) (unhide RXg) (unhide RXi) (unhide RXb) (unhide RXc)
                have eS : setN wr (w.heap.size + 1) 0 [.slice voa m.sh.length vca, .slice (some ⟨b1, 0, none⟩) m.gl.length c1, .slice (some ⟨b2, 0, none⟩) m.co.length c2, .slice vob m.ca.length vcb, .slice voc m.fn.length vcc, .int .i64 m.main] = ((((((wr.setCell ⟨w.heap.size + 1, 0, none⟩ (.slice voa m.sh.length vca)).setCell ⟨w.heap.size + 1, 1, none⟩ (.slice (some ⟨b1, 0, none⟩) m.gl.length c1)).setCell ⟨w.heap.size + 1, 2, none⟩ (.slice (some ⟨b2, 0, none⟩) m.co.length c2)).setCell ⟨w.heap.size + 1, 3, none⟩ (.slice vob m.ca.length vcb)).setCell ⟨w.heap.size + 1, 4, none⟩ (.slice voc m.fn.length vcc)).setCell ⟨w.heap.size + 1, 5, none⟩ (.int .i64 m.main)) := rfl
                have GS : G w ((((((wr.setCell ⟨w.heap.size + 1, 0, none⟩ (.slice voa m.sh.length vca)).setCell ⟨w.heap.size + 1, 1, none⟩ (.slice (some ⟨b1, 0, none⟩) m.gl.length c1)).setCell ⟨w.heap.size + 1, 2, none⟩ (.slice (some ⟨b2, 0, none⟩) m.co.length c2)).setCell ⟨w.heap.size + 1, 3, none⟩ (.slice vob m.ca.length vcb)).setCell ⟨w.heap.size + 1, 4, none⟩ (.slice voc m.fn.length vcc)).setCell ⟨w.heap.size + 1, 5, none⟩ (.int .i64 m.main)) := by
                  rw [← eS]
                  exact setN_G (w := w) (w.heap.size + 1) (by omega) _ wr 0 ((unhide g1).trans gw2)
                rw [eS] at QC RB
                clear eS KF
                have cc0 : ((((((wr.setCell ⟨w.heap.size + 1, 0, none⟩ (.slice voa m.sh.length vca)).setCell ⟨w.heap.size + 1, 1, none⟩ (.slice (some ⟨b1, 0, none⟩) m.gl.length c1)).setCell ⟨w.heap.size + 1, 2, none⟩ (.slice (some ⟨b2, 0, none⟩) m.co.length c2)).setCell ⟨w.heap.size + 1, 3, none⟩ (.slice vob m.ca.length vcb)).setCell ⟨w.heap.size + 1, 4, none⟩ (.slice voc m.fn.length vcc)).setCell ⟨w.heap.size + 1, 5, none⟩ (.int .i64 m.main)).cell? ⟨w.heap.size + 1, 0, none⟩ = some (.slice voa m.sh.length vca) := QC 0 _ rfl
                have cc1 : ((((((wr.setCell ⟨w.heap.size + 1, 0, none⟩ (.slice voa m.sh.length vca)).setCell ⟨w.heap.size + 1, 1, none⟩ (.slice (some ⟨b1, 0, none⟩) m.gl.length c1)).setCell ⟨w.heap.size + 1, 2, none⟩ (.slice (some ⟨b2, 0, none⟩) m.co.length c2)).setCell ⟨w.heap.size + 1, 3, none⟩ (.slice vob m.ca.length vcb)).setCell ⟨w.heap.size + 1, 4, none⟩ (.slice voc m.fn.length vcc)).setCell ⟨w.heap.size + 1, 5, none⟩ (.int .i64 m.main)).cell? ⟨w.heap.size + 1, 1, none⟩ = some (.slice (some ⟨b1, 0, none⟩) m.gl.length c1) := QC 1 _ rfl
                have cc2 : ((((((wr.setCell ⟨w.heap.size + 1, 0, none⟩ (.slice voa m.sh.length vca)).setCell ⟨w.heap.size + 1, 1, none⟩ (.slice (some ⟨b1, 0, none⟩) m.gl.length c1)).setCell ⟨w.heap.size + 1, 2, none⟩ (.slice (some ⟨b2, 0, none⟩) m.co.length c2)).setCell ⟨w.heap.size + 1, 3, none⟩ (.slice vob m.ca.length vcb)).setCell ⟨w.heap.size + 1, 4, none⟩ (.slice voc m.fn.length vcc)).setCell ⟨w.heap.size + 1, 5, none⟩ (.int .i64 m.main)).cell? ⟨w.heap.size + 1, 2, none⟩ = some (.slice (some ⟨b2, 0, none⟩) m.co.length c2) := QC 2 _ rfl
                have cc3 : ((((((wr.setCell ⟨w.heap.size + 1, 0, none⟩ (.slice voa m.sh.length vca)).setCell ⟨w.heap.size + 1, 1, none⟩ (.slice (some ⟨b1, 0, none⟩) m.gl.length c1)).setCell ⟨w.heap.size + 1, 2, none⟩ (.slice (some ⟨b2, 0, none⟩) m.co.length c2)).setCell ⟨w.heap.size + 1, 3, none⟩ (.slice vob m.ca.length vcb)).setCell ⟨w.heap.size + 1, 4, none⟩ (.slice voc m.fn.length vcc)).setCell ⟨w.heap.size + 1, 5, none⟩ (.int .i64 m.main)).cell? ⟨w.heap.size + 1, 3, none⟩ = some (.slice vob m.ca.length vcb) := QC 3 _ rfl
                have cc4 : ((((((wr.setCell ⟨w.heap.size + 1, 0, none⟩ (.slice voa m.sh.length vca)).setCell ⟨w.heap.size + 1, 1, none⟩ (.slice (some ⟨b1, 0, none⟩) m.gl.length c1)).setCell ⟨w.heap.size + 1, 2, none⟩ (.slice (some ⟨b2, 0, none⟩) m.co.length c2)).setCell ⟨w.heap.size + 1, 3, none⟩ (.slice vob m.ca.length vcb)).setCell ⟨w.heap.size + 1, 4, none⟩ (.slice voc m.fn.length vcc)).setCell ⟨w.heap.size + 1, 5, none⟩ (.int .i64 m.main)).cell? ⟨w.heap.size + 1, 4, none⟩ = some (.slice voc m.fn.length vcc) := QC 4 _ rfl
                have cc5 : ((((((wr.setCell ⟨w.heap.size + 1, 0, none⟩ (.slice voa m.sh.length vca)).setCell ⟨w.heap.size + 1, 1, none⟩ (.slice (some ⟨b1, 0, none⟩) m.gl.length c1)).setCell ⟨w.heap.size + 1, 2, none⟩ (.slice (some ⟨b2, 0, none⟩) m.co.length c2)).setCell ⟨w.heap.size + 1, 3, none⟩ (.slice vob m.ca.length vcb)).setCell ⟨w.heap.size + 1, 4, none⟩ (.slice voc m.fn.length vcc)).setCell ⟨w.heap.size + 1, 5, none⟩ (.int .i64 m.main)).cell? ⟨w.heap.size + 1, 5, none⟩ = some (.int .i64 m.main) := QC 5 _ rfl
                have FI := hide (show ModC ((((((wr.setCell ⟨w.heap.size + 1, 0, none⟩ (.slice voa m.sh.length vca)).setCell ⟨w.heap.size + 1, 1, none⟩ (.slice (some ⟨b1, 0, none⟩) m.gl.length c1)).setCell ⟨w.heap.size + 1, 2, none⟩ (.slice (some ⟨b2, 0, none⟩) m.co.length c2)).setCell ⟨w.heap.size + 1, 3, none⟩ (.slice vob m.ca.length vcb)).setCell ⟨w.heap.size + 1, 4, none⟩ (.slice voc m.fn.length vcc)).setCell ⟨w.heap.size + 1, 5, none⟩ (.int .i64 m.main)) (.agg #[.slice voa m.sh.length vca, .slice (some ⟨b1, 0, none⟩) m.gl.length c1, .slice (some ⟨b2, 0, none⟩) m.co.length c2, .slice vob m.ca.length vcb, .slice voc m.fn.length vcc, .int .i64 m.main]) m ∧ G w ((((((wr.setCell ⟨w.heap.size + 1, 0, none⟩ (.slice voa m.sh.length vca)).setCell ⟨w.heap.size + 1, 1, none⟩ (.slice (some ⟨b1, 0, none⟩) m.gl.length c1)).setCell ⟨w.heap.size + 1, 2, none⟩ (.slice (some ⟨b2, 0, none⟩) m.co.length c2)).setCell ⟨w.heap.size + 1, 3, none⟩ (.slice vob m.ca.length vcb)).setCell ⟨w.heap.size + 1, 4, none⟩ (.slice voc m.fn.length vcc)).setCell ⟨w.heap.size + 1, 5, none⟩ (.int .i64 m.main)) from ⟨⟨_, _, _, _, _, _, _, _, _, _, rfl, ⟨RB.1, RB.2.1, RB.2.2.1, RB.2.2.2.1, RB.2.2.2.2, unhide hvcb⟩⟩, GS⟩)
                clear GS QC RB FX gw2 gWr KR KP RXa RXb RXc RXg RXi hs
                go_wp2_with fail
                refine bodyPost_ret (by simp [results, Try.results14, go_sem, cc0, cc1, cc2, cc3, cc4, cc5]; try rfl) rfl ?_
                exact ⟨_, rfl, unhide FI⟩
theorem rmodule2 (w : World) (v : Value) (m : Md) (hm : ModAt w v m) (n1 : m.sh.length ≤ 10000000) (n2 : m.gl.length ≤ 10000000) (n3 : m.co.length ≤ 10000000) (n4 : m.ca.length ≤ 10000000) (n5 : m.fn.length ≤ 10000000) (n6 : ∀ f ∈ m.fn, f.ks.length ≤ 10000000 ∧ f.is.length ≤ 10000000 ∧ f.ms.length ≤ 10000000) :
    Calls Try.prog 14 #[v] w fun e w' => ∃ v', e = .returned v' ∧ ModC w' v' m ∧ G w w' := by
  obtain ⟨so, sc, go, gc, co, cc, ao, ac, fo, fc, rfl, r1, r2, r3, r4, r5⟩ := hm
  exact rmodule_raw2 w m so sc go gc co cc ao ac fo fc r1 r2 r3 r4 r5 n1 n2 n3 n4 n5 n6
end Go.Proofs.Ytpbeafgfhnlmbaa
