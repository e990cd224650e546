/- caseNode of package live. -/
import Derived.Test.YtnliooflpclcbaaGreatDoorLiveKp
namespace Go.Proofs.YtnliooflpclcbaaGreatDoor
set_option maxRecDepth 100000
open Go.RowKit Go.Maps Go.ChangeShapes Go.WideShapes Go.ChangeAt Go.Deep

set_option maxHeartbeats 4000000 in
theorem caseNode_raw (w : World) (gB : Nat) (f : Fn) (ko : Option Addr) (kc : Nat) (io : Option Addr) (ic : Nat) (mo : Option Addr) (mc : Nat) (e0 : w.cell? ⟨gB, 6, none⟩ = some (.int .i64 f.p)) (e1 : w.cell? ⟨gB, 7, none⟩ = some (.int .i64 f.c)) (e2 : w.cell? ⟨gB, 8, none⟩ = some (.int .i64 f.s)) (e3 : w.cell? ⟨gB, 9, none⟩ = some (.int .i64 f.r)) (e4 : w.cell? ⟨gB, 10, none⟩ = some (.slice ko f.ks.length kc)) (e5 : w.cell? ⟨gB, 11, none⟩ = some (.slice io f.is.length ic)) (e6 : w.cell? ⟨gB, 12, none⟩ = some (.slice mo f.ms.length mc)) (ck cc cv ct : Int) (oc : oCa ⟨ck, cc, cv, ct⟩) :
    Calls Tryz.prog 73 #[.pointer (some ⟨gB, 0, none⟩), .agg #[.int .i64 ck, .int .i64 cc, .int .i64 cv, .int .i64 ct]] w (NdTo w (mskP (crP ⟨ck, cc, cv, ct⟩)) (kpC ⟨ck, cc, cv, ct⟩) (plP f.is.length [ct])) := by
  have hgB := World.block_lt_of_cell? w _ e0
  obtain ⟨R, hR⟩ : ∃ R, R = mskP (crP ⟨ck, cc, cv, ct⟩) := ⟨_, rfl⟩
  obtain ⟨M, hM⟩ : ∃ M, M = mskP [cv] := ⟨_, rfl⟩
  obtain ⟨nx, hnx⟩ : ∃ nx, nx = plP f.is.length [ct] := ⟨_, rfl⟩
  have hRb : R < 18446744073709551616 := by rw [hR]; exact msk_lt _
  have hMb : M < 18446744073709551616 := by rw [hM]; exact msk_lt _
  have SM : Hid (∀ x v, IsL x v (crP ⟨ck, cc, cv, ct⟩) → Calls Tryz.prog 33 #[v] x fun e w' => e = .returned (.int .u64 (R : Int)) ∧ x = w') := hide fun x v h => by
    rw [hR]
    refine (slotMap_any x v _ h (by have := crP_len ⟨ck, cc, cv, ct⟩; omega) (fun s hs => ?_)).mono (fun e w' h => ⟨h.1, h.2.symm⟩)
    unfold crP at hs
    split at hs
    · cases hs
    · split at hs
      · simp at hs
        rcases hs with rfl | rfl
        · exact oc.2.1
        · exact oc.2.2.1
      · simp at hs
        subst hs
        exact oc.2.1
  have SM2 : Hid (∀ x : World, Calls Tryz.prog 33 #[.slice (some ⟨x.heap.size, 0, none⟩) 1 1] (x.alloc (.cells #[.int .i64 cv] 3)) fun e w' => e = .returned (.int .u64 (M : Int)) ∧ x.alloc (.cells #[.int .i64 cv] 3) = w') := hide fun x => by
    rw [hM]
    exact (slotMap_any _ _ _ (isl_new x [cv] (by show 1 ≤ maxLen; decide)) (by simp) (fun s hs => by simp at hs; subst hs; exact oc.2.2.1)).mono (fun e w' h => ⟨h.1, h.2.symm⟩)
  have CR := hide (fun x => caseReads_any x ⟨ck, cc, cv, ct⟩)
  have PL : Hid (∀ x v, IsL x v [ct] → Calls Tryz.prog 63 #[.agg #[.int .i64 f.p, .int .i64 f.c, .int .i64 f.s, .int .i64 f.r, .slice ko f.ks.length kc, .slice io f.is.length ic, .slice mo f.ms.length mc], v] x (FTo x nx)) := hide fun x v h => by
    rw [hnx]
    exact places_any x f ko kc io ic mo mc v [ct] h (by simp)
  have IL : Hid (∀ y : World, IsL (y.alloc (.cells #[.int .i64 ct] 3)) (.slice (some ⟨y.heap.size, 0, none⟩) 1 1) [ct]) := hide fun y => isl_new y [ct] (by show 1 ≤ maxLen; decide)
  obtain ⟨W1, hW1⟩ : ∃ W1, W1 = ((w.alloc (.cells #[.int .i64 ck, .int .i64 cc, .int .i64 cv, .int .i64 ct] 43)).alloc (.cells #[.int .u64 0, .int .u64 0, .slice none 0 0] 57)) := ⟨_, rfl⟩
  have gW : G w W1 := by rw [hW1]; exact ((G.refl w).more _).more _
  have hs1 : W1.heap.size = w.heap.size + 2 := by rw [hW1, World.size_alloc, World.size_alloc]
  have KP : Hid (∀ x, G W1 x → G W1 x ∧ x.cell? ⟨w.heap.size, 0, none⟩ = some (.int .i64 ck) ∧ x.cell? ⟨w.heap.size, 1, none⟩ = some (.int .i64 cc) ∧ x.cell? ⟨w.heap.size, 2, none⟩ = some (.int .i64 cv) ∧ x.cell? ⟨w.heap.size, 3, none⟩ = some (.int .i64 ct) ∧ x.cell? ⟨gB, 6, none⟩ = some (.int .i64 f.p) ∧ x.cell? ⟨gB, 7, none⟩ = some (.int .i64 f.c) ∧ x.cell? ⟨gB, 8, none⟩ = some (.int .i64 f.s) ∧ x.cell? ⟨gB, 9, none⟩ = some (.int .i64 f.r) ∧ x.cell? ⟨gB, 10, none⟩ = some (.slice ko f.ks.length kc) ∧ x.cell? ⟨gB, 11, none⟩ = some (.slice io f.is.length ic) ∧ x.cell? ⟨gB, 12, none⟩ = some (.slice mo f.ms.length mc)) := hide fun x g => ⟨g, g.cell (by rw [hW1]; simp [go_sem]), g.cell (by rw [hW1]; simp [go_sem]), g.cell (by rw [hW1]; simp [go_sem]), g.cell (by rw [hW1]; simp [go_sem]), g.cell (gW.cell e0), g.cell (gW.cell e1), g.cell (gW.cell e2), g.cell (gW.cell e3), g.cell (gW.cell e4), g.cell (gW.cell e5), g.cell (gW.cell e6)⟩
  have KR : Hid (∀ x, G W1 x → (x.cell? ⟨w.heap.size + 1, 0, none⟩ = some (.int .u64 0) ∧ x.frozen? ⟨w.heap.size + 1, 0, none⟩ = false) ∧ (x.cell? ⟨w.heap.size + 1, 1, none⟩ = some (.int .u64 0) ∧ x.frozen? ⟨w.heap.size + 1, 1, none⟩ = false) ∧ (x.cell? ⟨w.heap.size + 1, 2, none⟩ = some (.slice none 0 0) ∧ x.frozen? ⟨w.heap.size + 1, 2, none⟩ = false)) := hide fun x g => ⟨⟨g.cell (by rw [hW1]; simp [go_sem]), (World.frozen?_of_block (g.block (w.heap.size + 1) (by omega))).trans (by rw [hW1]; simp [go_sem])⟩, ⟨g.cell (by rw [hW1]; simp [go_sem]), (World.frozen?_of_block (g.block (w.heap.size + 1) (by omega))).trans (by rw [hW1]; simp [go_sem])⟩, ⟨g.cell (by rw [hW1]; simp [go_sem]), (World.frozen?_of_block (g.block (w.heap.size + 1) (by omega))).trans (by rw [hW1]; simp [go_sem])⟩⟩
  have en := hide (not_eq M hMb)
  have KPC : Hid ((ck = 0 → kpC ⟨ck, cc, cv, ct⟩ = notU M) ∧ (ck ≠ 0 → kpC ⟨ck, cc, cv, ct⟩ = 18446744073709551615)) := hide ⟨fun h => by unfold kpC; rw [if_pos h, hM], fun h => by unfold kpC; rw [if_neg h]; rfl⟩
  obtain ⟨KK, hKK⟩ : ∃ KK, KK = kpC ⟨ck, cc, cv, ct⟩ := ⟨_, rfl⟩
  rw [← hKK] at KPC
  rw [← hR, ← hnx, ← hKK]
  replace hs1 := hide hs1
  replace gW := hide gW
  clear oc hR hM hnx hKK hRb hMb e0 e1 e2 e3 e4 e5 e6
  go_enter Tryz.func73, Tryz.ntmps73
  go_upto_region 1 with fail
  rw [← hW1]
  clear hW1
  go_cut [5] (fun q wx => ∃ gb xo xn xc, q = .pointer (some ⟨gb, 0, none⟩) ∧ Hid (NdB W1 gb R 18446744073709551615 (.slice xo xn xc) nx wx))
  case first =>
    refine wp_region_noPanic ?_
    refine wp_region_held_drew (S := fun x => G W1 x ∧ x.cell? ⟨w.heap.size, 0, none⟩ = some (.int .i64 ck) ∧ x.cell? ⟨w.heap.size, 1, none⟩ = some (.int .i64 cc) ∧ x.cell? ⟨w.heap.size, 2, none⟩ = some (.int .i64 cv) ∧ x.cell? ⟨w.heap.size, 3, none⟩ = some (.int .i64 ct) ∧ x.cell? ⟨gB, 6, none⟩ = some (.int .i64 f.p) ∧ x.cell? ⟨gB, 7, none⟩ = some (.int .i64 f.c) ∧ x.cell? ⟨gB, 8, none⟩ = some (.int .i64 f.s) ∧ x.cell? ⟨gB, 9, none⟩ = some (.int .i64 f.r) ∧ x.cell? ⟨gB, 10, none⟩ = some (.slice ko f.ks.length kc) ∧ x.cell? ⟨gB, 11, none⟩ = some (.slice io f.is.length ic) ∧ x.cell? ⟨gB, 12, none⟩ = some (.slice mo f.ms.length mc)) (by kernel_rfl) (unhide KP _ ((G.refl W1).drew)) (fun hHeld => ?_)
    obtain ⟨y0, hy0⟩ : ∃ y, y = W1.drew := ⟨_, rfl⟩
    have s0 : Hid (W1.heap.size ≤ y0.heap.size) := hide (by rw [hy0]; exact Nat.le_refl _)
    rw [← hy0] at hHeld ⊢
    clear hy0
    refine wpAnyH_take (i := 0) (v := .agg #[.int .i64 ck, .int .i64 cc, .int .i64 cv, .int .i64 ct]) rfl (by kernel_rfl) (by kernel_rfl) (by kernel_rfl) (fun _ _ _ h => h) (Or.inl ⟨by rfl, fun w hSw => by obtain ⟨t0, t1, t2, t3, t4, t5, t6, t7, t8, t9, t10, t11⟩ := hSw; go_simp⟩) (by assumption) ?_
    try simp only [Act.put, List.getElem_toArray, List.getElem_cons_zero, List.setIfInBounds_toArray, List.set_cons_zero, List.set_cons_succ]
    refine wpAnyH_take (i := 3) (v := .pointer (some ⟨gB, 0, none⟩)) rfl (by kernel_rfl) (by kernel_rfl) (by kernel_rfl) (fun _ _ _ h => h) (Or.inl ⟨by rfl, fun w hSw => by obtain ⟨t0, t1, t2, t3, t4, t5, t6, t7, t8, t9, t10, t11⟩ := hSw; go_simp⟩) (by assumption) ?_
    try simp only [Act.put, List.getElem_toArray, List.getElem_cons_succ, List.getElem_cons_zero, List.setIfInBounds_toArray, List.set_cons_zero, List.set_cons_succ]
    refine wpAnyH_take (i := 4) (v := .pointer (some ⟨gB, 0, none⟩)) rfl (by kernel_rfl) (by kernel_rfl) (by kernel_rfl) (fun _ _ _ h => h) (Or.inl ⟨by rfl, fun w hSw => by obtain ⟨t0, t1, t2, t3, t4, t5, t6, t7, t8, t9, t10, t11⟩ := hSw; go_simp⟩) (by assumption) ?_
    try simp only [Act.put, List.getElem_toArray, List.getElem_cons_succ, List.getElem_cons_zero, List.setIfInBounds_toArray, List.set_cons_zero, List.set_cons_succ]
    refine wpAnyH_take (i := 5) (v := .pointer (some ⟨gB, 6, none⟩)) rfl (by kernel_rfl) (by kernel_rfl) (by kernel_rfl) (fun _ _ _ h => h) (Or.inl ⟨by rfl, fun w hSw => by obtain ⟨t0, t1, t2, t3, t4, t5, t6, t7, t8, t9, t10, t11⟩ := hSw; go_simp⟩) (by assumption) ?_
    try simp only [Act.put, List.getElem_toArray, List.getElem_cons_succ, List.getElem_cons_zero, List.setIfInBounds_toArray, List.set_cons_zero, List.set_cons_succ]
    refine wpAnyH_take (i := 6) (v := .agg #[.int .i64 f.p, .int .i64 f.c, .int .i64 f.s, .int .i64 f.r, .slice ko f.ks.length kc, .slice io f.is.length ic, .slice mo f.ms.length mc]) rfl (by kernel_rfl) (by kernel_rfl) (by kernel_rfl) (fun _ _ _ h => h) (Or.inl ⟨by rfl, fun w hSw => by obtain ⟨t0, t1, t2, t3, t4, t5, t6, t7, t8, t9, t10, t11⟩ := hSw; go_simp⟩) (by assumption) ?_
    try simp only [Act.put, List.getElem_toArray, List.getElem_cons_succ, List.getElem_cons_zero, List.setIfInBounds_toArray, List.set_cons_zero, List.set_cons_succ]
    refine wpAnyH_take (i := 7) (v := .pointer (some ⟨w.heap.size, 3, none⟩)) rfl (by kernel_rfl) (by kernel_rfl) (by kernel_rfl) (fun _ _ _ h => h) (Or.inl ⟨by rfl, fun w hSw => by obtain ⟨t0, t1, t2, t3, t4, t5, t6, t7, t8, t9, t10, t11⟩ := hSw; go_simp⟩) (by assumption) ?_
    try simp only [Act.put, List.getElem_toArray, List.getElem_cons_succ, List.getElem_cons_zero, List.setIfInBounds_toArray, List.set_cons_zero, List.set_cons_succ]
    refine wpAnyH_take (i := 8) (v := .int .i64 ct) rfl (by kernel_rfl) (by kernel_rfl) (by kernel_rfl) (fun _ _ _ h => h) (Or.inl ⟨by rfl, fun w hSw => by obtain ⟨t0, t1, t2, t3, t4, t5, t6, t7, t8, t9, t10, t11⟩ := hSw; go_simp⟩) (by assumption) ?_
    try simp only [Act.put, List.getElem_toArray, List.getElem_cons_succ, List.getElem_cons_zero, List.setIfInBounds_toArray, List.set_cons_zero, List.set_cons_succ]
    refine wpAnyH_ready (rs := [1, 9, 12]) (by kernel_rfl) (by simp) ?_
    refine AllReadyH.cons rfl (fun K hK => ?_) (AllReadyH.cons rfl (fun K hK => ?_) (AllReadyH.cons rfl (fun K hK => ?_) AllReadyH.nil))
    · go_simp
      refine (unhide CR y0).mono ?_
      rintro e y1 ⟨v1, rfl, hL, hg⟩
      go_wp2_with fail
      refine hK.out _ _ (unhide KP _ (hHeld.1.trans hg)) (fun hHeld => ?_)
      clear hK K
      try simp only [Act.put, List.getElem_toArray, List.getElem_cons_succ, List.getElem_cons_zero, List.setIfInBounds_toArray, List.set_cons_zero, List.set_cons_succ]
      have s1 : Hid (y0.heap.size ≤ y1.heap.size) := hide hg.size
      have q1 : Hid (G y0 y1) := hide hg
      replace hL := hide hL
      clear hg
      refine wpAnyH_ready (rs := [2, 9, 12]) (by kernel_rfl) (by simp) ?_
      refine AllReadyH.cons rfl (fun K hK => ?_) (AllReadyH.cons rfl (fun K hK => ?_) (AllReadyH.cons rfl (fun K hK => ?_) AllReadyH.nil))
      · go_simp
        refine (unhide SM y1 _ ((unhide hL).g (G.refl _))).mono ?_
        rintro e w' ⟨rfl, rfl⟩
        go_wp2_with fail
        refine hK.out _ _ hHeld (fun hHeld => ?_)
        clear hK K hL
        try simp only [Act.put, List.getElem_toArray, List.getElem_cons_succ, List.getElem_cons_zero, List.setIfInBounds_toArray, List.set_cons_zero, List.set_cons_succ]
        refine wpAnyH_ready (rs := [9, 12]) (by kernel_rfl) (by simp) ?_
        refine AllReadyH.cons rfl (fun K hK => ?_) (AllReadyH.cons rfl (fun K hK => ?_) AllReadyH.nil)
        · go_simp
          refine hK.out _ _ (unhide KP _ (hHeld.1.more _)) (fun hHeld => ?_)
          clear hK K
          try simp only [Act.put, List.getElem_toArray, List.getElem_cons_succ, List.getElem_cons_zero, List.setIfInBounds_toArray, List.set_cons_zero, List.set_cons_succ]
          have hI := hide (unhide IL y1)
          obtain ⟨y2, hy2⟩ : ∃ y, y = y1.alloc (.cells #[.int .i64 ct] 3) := ⟨_, rfl⟩
          have s2 : Hid (y2.heap.size = y1.heap.size + 1) := hide (by rw [hy2]; exact World.size_alloc _ _)
          have q2 : Hid (G y1 y2) := hide (by rw [hy2]; exact G.alloc _ _)
          rw [← hy2] at hHeld ⊢
          rw [← hy2] at hI
          clear hy2
          refine wpAnyH_ready (rs := [10, 12]) (by kernel_rfl) (by simp) ?_
          refine AllReadyH.cons rfl (fun K hK => ?_) (AllReadyH.cons rfl (fun K hK => ?_) AllReadyH.nil)
          · go_simp
            refine (unhide PL y2 _ ((unhide hI).g (G.refl _))).mono ?_
            rintro e y3 ⟨v2, rfl, hN, hg⟩
            obtain ⟨xo, xc, hv2, _⟩ := hN.1
            obtain ⟨xn, hxn⟩ : ∃ xn, xn = nx.length := ⟨_, rfl⟩
            rw [← hxn] at hv2
            subst hv2
            clear hxn
            go_wp2_with fail
            refine hK.out _ _ (unhide KP _ (hHeld.1.trans hg)) (fun hHeld => ?_)
            clear hK K hI
            try simp only [Act.put, List.getElem_toArray, List.getElem_cons_succ, List.getElem_cons_zero, List.setIfInBounds_toArray, List.set_cons_zero, List.set_cons_succ]
            have s3 : Hid (y2.heap.size ≤ y3.heap.size) := hide hg.size
            have q3 : Hid (G y2 y3) := hide hg
            replace hN := hide hN
            clear hg
            refine wpAnyH_take (i := 11) (v := .agg #[.int .u64 (R : Int), .int .u64 18446744073709551615, .slice xo xn xc]) rfl (by kernel_rfl) (by kernel_rfl) (by kernel_rfl) (fun _ _ _ h => h) (Or.inl ⟨by rfl, fun w hSw => by obtain ⟨t0, t1, t2, t3, t4, t5, t6, t7, t8, t9, t10, t11⟩ := hSw; go_simp⟩) (by assumption) ?_
            try simp only [Act.put, List.getElem_toArray, List.getElem_cons_succ, List.getElem_cons_zero, List.setIfInBounds_toArray, List.set_cons_zero, List.set_cons_succ]
            refine wpAnyH_ready (rs := [12]) (by kernel_rfl) (by simp) ?_
            refine AllReadyH.cons rfl (fun K hK => ?_) AllReadyH.nil
            go_simp
            refine hK.out _ _ (unhide KP _ (hHeld.1.more _)) (fun hHeld => ?_)
            clear hK K
            try simp only [Act.put, List.getElem_toArray, List.getElem_cons_succ, List.getElem_cons_zero, List.setIfInBounds_toArray, List.set_cons_zero, List.set_cons_succ]
            obtain ⟨y4, hy4⟩ : ∃ y, y = y3.alloc (.cells #[.int .u64 0, .int .u64 0, .slice none 0 0] 57) := ⟨_, rfl⟩
            have s4 : Hid (y4.heap.size = y3.heap.size + 1) := hide (by rw [hy4]; exact World.size_alloc _ _)
            have q4 : Hid (G y3 y4) := hide (by rw [hy4]; exact G.alloc _ _)
            have qz : Hid (G (y3.alloc (.cells #[.int .u64 0, .int .u64 0, .slice none 0 0] 57)) y4) := hide (by rw [hy4]; exact G.refl _)
            rw [← hy4] at hHeld ⊢
            clear hy4
            refine wpAnyH_ready (rs := [13]) (by kernel_rfl) (by simp) ?_
            refine AllReadyH.cons rfl (fun K hK => ?_) AllReadyH.nil
            have hgb : W1.heap.size ≤ y3.heap.size := by have u0 := unhide s0; have u1 := unhide s1; have u2 := unhide s2; have u3 := unhide s3; have u4 := unhide s4; omega
            have hho : y3.heap.size < y2.heap.size ∨ y3.heap.size ≤ y3.heap.size := by have u0 := unhide s0; have u1 := unhide s1; have u2 := unhide s2; have u3 := unhide s3; have u4 := unhide s4; omega
            have hh1 : W1.heap.size ≤ y2.heap.size := by have u0 := unhide s0; have u1 := unhide s1; have u2 := unhide s2; have u3 := unhide s3; have u4 := unhide s4; omega
            have LF := hide (nd_leaf R 18446744073709551615 hHeld.1 rfl hgb (unhide qz) (unhide hN) hh1 (unhide q4) hho)
            have z0 := (unhide qz).cell (x := ⟨y3.heap.size, 0, none⟩) (v := .int .u64 0) (by simp [go_sem])
            have f0 : y4.frozen? ⟨y3.heap.size, 0, none⟩ = false := (World.frozen?_of_block ((unhide qz).block y3.heap.size (by rw [World.size_alloc]; omega))).trans (by simp [go_sem])
            have z1 := (unhide qz).cell (x := ⟨y3.heap.size, 1, none⟩) (v := .int .u64 0) (by simp [go_sem])
            have f1 : y4.frozen? ⟨y3.heap.size, 1, none⟩ = false := (World.frozen?_of_block ((unhide qz).block y3.heap.size (by rw [World.size_alloc]; omega))).trans (by simp [go_sem])
            have z2 := (unhide qz).cell (x := ⟨y3.heap.size, 2, none⟩) (v := .slice none 0 0) (by simp [go_sem])
            have f2 : y4.frozen? ⟨y3.heap.size, 2, none⟩ = false := (World.frozen?_of_block ((unhide qz).block y3.heap.size (by rw [World.size_alloc]; omega))).trans (by simp [go_sem])
            clear hgb hho hh1 hN
            go_simp
            refine hK.out _ _ (unhide KP _ (unhide LF).g) (fun hHeld => ?_)
            clear hK K
            try simp only [Act.put, List.getElem_toArray, List.getElem_cons_succ, List.getElem_cons_zero, List.setIfInBounds_toArray, List.set_cons_zero, List.set_cons_succ]
            refine wpAnyH_done (by kernel_rfl) (NoPanic.normal ?_) _
            go_wp2_with fail
            go_meet
            exact ⟨_, xo, xn, xc, rfl, LF⟩
          · go_simp
            refine hK.out _ _ (unhide KP _ (hHeld.1.more _)) (fun hHeld => ?_)
            clear hK K
            try simp only [Act.put, List.getElem_toArray, List.getElem_cons_succ, List.getElem_cons_zero, List.setIfInBounds_toArray, List.set_cons_zero, List.set_cons_succ]
            obtain ⟨y3, hy3⟩ : ∃ y, y = y2.alloc (.cells #[.int .u64 0, .int .u64 0, .slice none 0 0] 57) := ⟨_, rfl⟩
            have s3 : Hid (y3.heap.size = y2.heap.size + 1) := hide (by rw [hy3]; exact World.size_alloc _ _)
            have q3 : Hid (G y2 y3) := hide (by rw [hy3]; exact G.alloc _ _)
            have qz : Hid (G (y2.alloc (.cells #[.int .u64 0, .int .u64 0, .slice none 0 0] 57)) y3) := hide (by rw [hy3]; exact G.refl _)
            rw [← hy3] at hHeld ⊢
            clear hy3
            refine wpAnyH_ready (rs := [10]) (by kernel_rfl) (by simp) ?_
            refine AllReadyH.cons rfl (fun K hK => ?_) AllReadyH.nil
            go_simp
            refine (unhide PL y3 _ ((unhide hI).g (unhide q3))).mono ?_
            rintro e y4 ⟨v2, rfl, hN, hg⟩
            obtain ⟨xo, xc, hv2, _⟩ := hN.1
            obtain ⟨xn, hxn⟩ : ∃ xn, xn = nx.length := ⟨_, rfl⟩
            rw [← hxn] at hv2
            subst hv2
            clear hxn
            go_wp2_with fail
            refine hK.out _ _ (unhide KP _ (hHeld.1.trans hg)) (fun hHeld => ?_)
            clear hK K hI
            try simp only [Act.put, List.getElem_toArray, List.getElem_cons_succ, List.getElem_cons_zero, List.setIfInBounds_toArray, List.set_cons_zero, List.set_cons_succ]
            have s4 : Hid (y3.heap.size ≤ y4.heap.size) := hide hg.size
            have q4 : Hid (G y3 y4) := hide hg
            replace hN := hide hN
            clear hg
            refine wpAnyH_take (i := 11) (v := .agg #[.int .u64 (R : Int), .int .u64 18446744073709551615, .slice xo xn xc]) rfl (by kernel_rfl) (by kernel_rfl) (by kernel_rfl) (fun _ _ _ h => h) (Or.inl ⟨by rfl, fun w hSw => by obtain ⟨t0, t1, t2, t3, t4, t5, t6, t7, t8, t9, t10, t11⟩ := hSw; go_simp⟩) (by assumption) ?_
            try simp only [Act.put, List.getElem_toArray, List.getElem_cons_succ, List.getElem_cons_zero, List.setIfInBounds_toArray, List.set_cons_zero, List.set_cons_succ]
            refine wpAnyH_ready (rs := [13]) (by kernel_rfl) (by simp) ?_
            refine AllReadyH.cons rfl (fun K hK => ?_) AllReadyH.nil
            have hgb : W1.heap.size ≤ y2.heap.size := by have u0 := unhide s0; have u1 := unhide s1; have u2 := unhide s2; have u3 := unhide s3; have u4 := unhide s4; omega
            have hho : y2.heap.size < y3.heap.size ∨ y4.heap.size ≤ y2.heap.size := by have u0 := unhide s0; have u1 := unhide s1; have u2 := unhide s2; have u3 := unhide s3; have u4 := unhide s4; omega
            have hh1 : W1.heap.size ≤ y3.heap.size := by have u0 := unhide s0; have u1 := unhide s1; have u2 := unhide s2; have u3 := unhide s3; have u4 := unhide s4; omega
            have LF := hide (nd_leaf R 18446744073709551615 hHeld.1 rfl hgb ((unhide qz).trans (unhide q4)) (unhide hN) hh1 (G.refl _) hho)
            have z0 := ((unhide qz).trans (unhide q4)).cell (x := ⟨y2.heap.size, 0, none⟩) (v := .int .u64 0) (by simp [go_sem])
            have f0 : y4.frozen? ⟨y2.heap.size, 0, none⟩ = false := (World.frozen?_of_block (((unhide qz).trans (unhide q4)).block y2.heap.size (by rw [World.size_alloc]; omega))).trans (by simp [go_sem])
            have z1 := ((unhide qz).trans (unhide q4)).cell (x := ⟨y2.heap.size, 1, none⟩) (v := .int .u64 0) (by simp [go_sem])
            have f1 : y4.frozen? ⟨y2.heap.size, 1, none⟩ = false := (World.frozen?_of_block (((unhide qz).trans (unhide q4)).block y2.heap.size (by rw [World.size_alloc]; omega))).trans (by simp [go_sem])
            have z2 := ((unhide qz).trans (unhide q4)).cell (x := ⟨y2.heap.size, 2, none⟩) (v := .slice none 0 0) (by simp [go_sem])
            have f2 : y4.frozen? ⟨y2.heap.size, 2, none⟩ = false := (World.frozen?_of_block (((unhide qz).trans (unhide q4)).block y2.heap.size (by rw [World.size_alloc]; omega))).trans (by simp [go_sem])
            clear hgb hho hh1 hN
            go_simp
            refine hK.out _ _ (unhide KP _ (unhide LF).g) (fun hHeld => ?_)
            clear hK K
            try simp only [Act.put, List.getElem_toArray, List.getElem_cons_succ, List.getElem_cons_zero, List.setIfInBounds_toArray, List.set_cons_zero, List.set_cons_succ]
            refine wpAnyH_done (by kernel_rfl) (NoPanic.normal ?_) _
            go_wp2_with fail
            go_meet
            exact ⟨_, xo, xn, xc, rfl, LF⟩
        · go_simp
          refine hK.out _ _ (unhide KP _ (hHeld.1.more _)) (fun hHeld => ?_)
          clear hK K
          try simp only [Act.put, List.getElem_toArray, List.getElem_cons_succ, List.getElem_cons_zero, List.setIfInBounds_toArray, List.set_cons_zero, List.set_cons_succ]
          obtain ⟨y2, hy2⟩ : ∃ y, y = y1.alloc (.cells #[.int .u64 0, .int .u64 0, .slice none 0 0] 57) := ⟨_, rfl⟩
          have s2 : Hid (y2.heap.size = y1.heap.size + 1) := hide (by rw [hy2]; exact World.size_alloc _ _)
          have q2 : Hid (G y1 y2) := hide (by rw [hy2]; exact G.alloc _ _)
          have qz : Hid (G (y1.alloc (.cells #[.int .u64 0, .int .u64 0, .slice none 0 0] 57)) y2) := hide (by rw [hy2]; exact G.refl _)
          rw [← hy2] at hHeld ⊢
          clear hy2
          refine wpAnyH_ready (rs := [9]) (by kernel_rfl) (by simp) ?_
          refine AllReadyH.cons rfl (fun K hK => ?_) AllReadyH.nil
          go_simp
          refine hK.out _ _ (unhide KP _ (hHeld.1.more _)) (fun hHeld => ?_)
          clear hK K
          try simp only [Act.put, List.getElem_toArray, List.getElem_cons_succ, List.getElem_cons_zero, List.setIfInBounds_toArray, List.set_cons_zero, List.set_cons_succ]
          have hI := hide (unhide IL y2)
          obtain ⟨y3, hy3⟩ : ∃ y, y = y2.alloc (.cells #[.int .i64 ct] 3) := ⟨_, rfl⟩
          have s3 : Hid (y3.heap.size = y2.heap.size + 1) := hide (by rw [hy3]; exact World.size_alloc _ _)
          have q3 : Hid (G y2 y3) := hide (by rw [hy3]; exact G.alloc _ _)
          rw [← hy3] at hHeld ⊢
          rw [← hy3] at hI
          clear hy3
          refine wpAnyH_ready (rs := [10]) (by kernel_rfl) (by simp) ?_
          refine AllReadyH.cons rfl (fun K hK => ?_) AllReadyH.nil
          go_simp
          refine (unhide PL y3 _ ((unhide hI).g (G.refl _))).mono ?_
          rintro e y4 ⟨v2, rfl, hN, hg⟩
          obtain ⟨xo, xc, hv2, _⟩ := hN.1
          obtain ⟨xn, hxn⟩ : ∃ xn, xn = nx.length := ⟨_, rfl⟩
          rw [← hxn] at hv2
          subst hv2
          clear hxn
          go_wp2_with fail
          refine hK.out _ _ (unhide KP _ (hHeld.1.trans hg)) (fun hHeld => ?_)
          clear hK K hI
          try simp only [Act.put, List.getElem_toArray, List.getElem_cons_succ, List.getElem_cons_zero, List.setIfInBounds_toArray, List.set_cons_zero, List.set_cons_succ]
          have s4 : Hid (y3.heap.size ≤ y4.heap.size) := hide hg.size
          have q4 : Hid (G y3 y4) := hide hg
          replace hN := hide hN
          clear hg
          refine wpAnyH_take (i := 11) (v := .agg #[.int .u64 (R : Int), .int .u64 18446744073709551615, .slice xo xn xc]) rfl (by kernel_rfl) (by kernel_rfl) (by kernel_rfl) (fun _ _ _ h => h) (Or.inl ⟨by rfl, fun w hSw => by obtain ⟨t0, t1, t2, t3, t4, t5, t6, t7, t8, t9, t10, t11⟩ := hSw; go_simp⟩) (by assumption) ?_
          try simp only [Act.put, List.getElem_toArray, List.getElem_cons_succ, List.getElem_cons_zero, List.setIfInBounds_toArray, List.set_cons_zero, List.set_cons_succ]
          refine wpAnyH_ready (rs := [13]) (by kernel_rfl) (by simp) ?_
          refine AllReadyH.cons rfl (fun K hK => ?_) AllReadyH.nil
          have hgb : W1.heap.size ≤ y1.heap.size := by have u0 := unhide s0; have u1 := unhide s1; have u2 := unhide s2; have u3 := unhide s3; have u4 := unhide s4; omega
          have hho : y1.heap.size < y3.heap.size ∨ y4.heap.size ≤ y1.heap.size := by have u0 := unhide s0; have u1 := unhide s1; have u2 := unhide s2; have u3 := unhide s3; have u4 := unhide s4; omega
          have hh1 : W1.heap.size ≤ y3.heap.size := by have u0 := unhide s0; have u1 := unhide s1; have u2 := unhide s2; have u3 := unhide s3; have u4 := unhide s4; omega
          have LF := hide (nd_leaf R 18446744073709551615 hHeld.1 rfl hgb ((unhide qz).trans ((unhide q3).trans (unhide q4))) (unhide hN) hh1 (G.refl _) hho)
          have z0 := ((unhide qz).trans ((unhide q3).trans (unhide q4))).cell (x := ⟨y1.heap.size, 0, none⟩) (v := .int .u64 0) (by simp [go_sem])
          have f0 : y4.frozen? ⟨y1.heap.size, 0, none⟩ = false := (World.frozen?_of_block (((unhide qz).trans ((unhide q3).trans (unhide q4))).block y1.heap.size (by rw [World.size_alloc]; omega))).trans (by simp [go_sem])
          have z1 := ((unhide qz).trans ((unhide q3).trans (unhide q4))).cell (x := ⟨y1.heap.size, 1, none⟩) (v := .int .u64 0) (by simp [go_sem])
          have f1 : y4.frozen? ⟨y1.heap.size, 1, none⟩ = false := (World.frozen?_of_block (((unhide qz).trans ((unhide q3).trans (unhide q4))).block y1.heap.size (by rw [World.size_alloc]; omega))).trans (by simp [go_sem])
          have z2 := ((unhide qz).trans ((unhide q3).trans (unhide q4))).cell (x := ⟨y1.heap.size, 2, none⟩) (v := .slice none 0 0) (by simp [go_sem])
          have f2 : y4.frozen? ⟨y1.heap.size, 2, none⟩ = false := (World.frozen?_of_block (((unhide qz).trans ((unhide q3).trans (unhide q4))).block y1.heap.size (by rw [World.size_alloc]; omega))).trans (by simp [go_sem])
          clear hgb hho hh1 hN
          go_simp
          refine hK.out _ _ (unhide KP _ (unhide LF).g) (fun hHeld => ?_)
          clear hK K
          try simp only [Act.put, List.getElem_toArray, List.getElem_cons_succ, List.getElem_cons_zero, List.setIfInBounds_toArray, List.set_cons_zero, List.set_cons_succ]
          refine wpAnyH_done (by kernel_rfl) (NoPanic.normal ?_) _
          go_wp2_with fail
          go_meet
          exact ⟨_, xo, xn, xc, rfl, LF⟩
      · go_simp
        refine hK.out _ _ (unhide KP _ (hHeld.1.more _)) (fun hHeld => ?_)
        clear hK K
        try simp only [Act.put, List.getElem_toArray, List.getElem_cons_succ, List.getElem_cons_zero, List.setIfInBounds_toArray, List.set_cons_zero, List.set_cons_succ]
        have hI := hide (unhide IL y1)
        obtain ⟨y2, hy2⟩ : ∃ y, y = y1.alloc (.cells #[.int .i64 ct] 3) := ⟨_, rfl⟩
        have s2 : Hid (y2.heap.size = y1.heap.size + 1) := hide (by rw [hy2]; exact World.size_alloc _ _)
        have q2 : Hid (G y1 y2) := hide (by rw [hy2]; exact G.alloc _ _)
        rw [← hy2] at hHeld ⊢
        rw [← hy2] at hI
        clear hy2
        refine wpAnyH_ready (rs := [2, 12]) (by kernel_rfl) (by simp) ?_
        refine AllReadyH.cons rfl (fun K hK => ?_) (AllReadyH.cons rfl (fun K hK => ?_) AllReadyH.nil)
        · go_simp
          refine (unhide SM y2 _ ((unhide hL).g (unhide q2))).mono ?_
          rintro e w' ⟨rfl, rfl⟩
          go_wp2_with fail
          refine hK.out _ _ hHeld (fun hHeld => ?_)
          clear hK K hL
          try simp only [Act.put, List.getElem_toArray, List.getElem_cons_succ, List.getElem_cons_zero, List.setIfInBounds_toArray, List.set_cons_zero, List.set_cons_succ]
          refine wpAnyH_ready (rs := [10, 12]) (by kernel_rfl) (by simp) ?_
          refine AllReadyH.cons rfl (fun K hK => ?_) (AllReadyH.cons rfl (fun K hK => ?_) AllReadyH.nil)
          · go_simp
            refine (unhide PL y2 _ ((unhide hI).g (G.refl _))).mono ?_
            rintro e y3 ⟨v2, rfl, hN, hg⟩
            obtain ⟨xo, xc, hv2, _⟩ := hN.1
            obtain ⟨xn, hxn⟩ : ∃ xn, xn = nx.length := ⟨_, rfl⟩
            rw [← hxn] at hv2
            subst hv2
            clear hxn
            go_wp2_with fail
            refine hK.out _ _ (unhide KP _ (hHeld.1.trans hg)) (fun hHeld => ?_)
            clear hK K hI
            try simp only [Act.put, List.getElem_toArray, List.getElem_cons_succ, List.getElem_cons_zero, List.setIfInBounds_toArray, List.set_cons_zero, List.set_cons_succ]
            have s3 : Hid (y2.heap.size ≤ y3.heap.size) := hide hg.size
            have q3 : Hid (G y2 y3) := hide hg
            replace hN := hide hN
            clear hg
            refine wpAnyH_take (i := 11) (v := .agg #[.int .u64 (R : Int), .int .u64 18446744073709551615, .slice xo xn xc]) rfl (by kernel_rfl) (by kernel_rfl) (by kernel_rfl) (fun _ _ _ h => h) (Or.inl ⟨by rfl, fun w hSw => by obtain ⟨t0, t1, t2, t3, t4, t5, t6, t7, t8, t9, t10, t11⟩ := hSw; go_simp⟩) (by assumption) ?_
            try simp only [Act.put, List.getElem_toArray, List.getElem_cons_succ, List.getElem_cons_zero, List.setIfInBounds_toArray, List.set_cons_zero, List.set_cons_succ]
            refine wpAnyH_ready (rs := [12]) (by kernel_rfl) (by simp) ?_
            refine AllReadyH.cons rfl (fun K hK => ?_) AllReadyH.nil
            go_simp
            refine hK.out _ _ (unhide KP _ (hHeld.1.more _)) (fun hHeld => ?_)
            clear hK K
            try simp only [Act.put, List.getElem_toArray, List.getElem_cons_succ, List.getElem_cons_zero, List.setIfInBounds_toArray, List.set_cons_zero, List.set_cons_succ]
            obtain ⟨y4, hy4⟩ : ∃ y, y = y3.alloc (.cells #[.int .u64 0, .int .u64 0, .slice none 0 0] 57) := ⟨_, rfl⟩
            have s4 : Hid (y4.heap.size = y3.heap.size + 1) := hide (by rw [hy4]; exact World.size_alloc _ _)
            have q4 : Hid (G y3 y4) := hide (by rw [hy4]; exact G.alloc _ _)
            have qz : Hid (G (y3.alloc (.cells #[.int .u64 0, .int .u64 0, .slice none 0 0] 57)) y4) := hide (by rw [hy4]; exact G.refl _)
            rw [← hy4] at hHeld ⊢
            clear hy4
            refine wpAnyH_ready (rs := [13]) (by kernel_rfl) (by simp) ?_
            refine AllReadyH.cons rfl (fun K hK => ?_) AllReadyH.nil
            have hgb : W1.heap.size ≤ y3.heap.size := by have u0 := unhide s0; have u1 := unhide s1; have u2 := unhide s2; have u3 := unhide s3; have u4 := unhide s4; omega
            have hho : y3.heap.size < y2.heap.size ∨ y3.heap.size ≤ y3.heap.size := by have u0 := unhide s0; have u1 := unhide s1; have u2 := unhide s2; have u3 := unhide s3; have u4 := unhide s4; omega
            have hh1 : W1.heap.size ≤ y2.heap.size := by have u0 := unhide s0; have u1 := unhide s1; have u2 := unhide s2; have u3 := unhide s3; have u4 := unhide s4; omega
            have LF := hide (nd_leaf R 18446744073709551615 hHeld.1 rfl hgb (unhide qz) (unhide hN) hh1 (unhide q4) hho)
            have z0 := (unhide qz).cell (x := ⟨y3.heap.size, 0, none⟩) (v := .int .u64 0) (by simp [go_sem])
            have f0 : y4.frozen? ⟨y3.heap.size, 0, none⟩ = false := (World.frozen?_of_block ((unhide qz).block y3.heap.size (by rw [World.size_alloc]; omega))).trans (by simp [go_sem])
            have z1 := (unhide qz).cell (x := ⟨y3.heap.size, 1, none⟩) (v := .int .u64 0) (by simp [go_sem])
            have f1 : y4.frozen? ⟨y3.heap.size, 1, none⟩ = false := (World.frozen?_of_block ((unhide qz).block y3.heap.size (by rw [World.size_alloc]; omega))).trans (by simp [go_sem])
            have z2 := (unhide qz).cell (x := ⟨y3.heap.size, 2, none⟩) (v := .slice none 0 0) (by simp [go_sem])
            have f2 : y4.frozen? ⟨y3.heap.size, 2, none⟩ = false := (World.frozen?_of_block ((unhide qz).block y3.heap.size (by rw [World.size_alloc]; omega))).trans (by simp [go_sem])
            clear hgb hho hh1 hN
            go_simp
            refine hK.out _ _ (unhide KP _ (unhide LF).g) (fun hHeld => ?_)
            clear hK K
            try simp only [Act.put, List.getElem_toArray, List.getElem_cons_succ, List.getElem_cons_zero, List.setIfInBounds_toArray, List.set_cons_zero, List.set_cons_succ]
            refine wpAnyH_done (by kernel_rfl) (NoPanic.normal ?_) _
            go_wp2_with fail
            go_meet
            exact ⟨_, xo, xn, xc, rfl, LF⟩
          · go_simp
            refine hK.out _ _ (unhide KP _ (hHeld.1.more _)) (fun hHeld => ?_)
            clear hK K
            try simp only [Act.put, List.getElem_toArray, List.getElem_cons_succ, List.getElem_cons_zero, List.setIfInBounds_toArray, List.set_cons_zero, List.set_cons_succ]
            obtain ⟨y3, hy3⟩ : ∃ y, y = y2.alloc (.cells #[.int .u64 0, .int .u64 0, .slice none 0 0] 57) := ⟨_, rfl⟩
            have s3 : Hid (y3.heap.size = y2.heap.size + 1) := hide (by rw [hy3]; exact World.size_alloc _ _)
            have q3 : Hid (G y2 y3) := hide (by rw [hy3]; exact G.alloc _ _)
            have qz : Hid (G (y2.alloc (.cells #[.int .u64 0, .int .u64 0, .slice none 0 0] 57)) y3) := hide (by rw [hy3]; exact G.refl _)
            rw [← hy3] at hHeld ⊢
            clear hy3
            refine wpAnyH_ready (rs := [10]) (by kernel_rfl) (by simp) ?_
            refine AllReadyH.cons rfl (fun K hK => ?_) AllReadyH.nil
            go_simp
            refine (unhide PL y3 _ ((unhide hI).g (unhide q3))).mono ?_
            rintro e y4 ⟨v2, rfl, hN, hg⟩
            obtain ⟨xo, xc, hv2, _⟩ := hN.1
            obtain ⟨xn, hxn⟩ : ∃ xn, xn = nx.length := ⟨_, rfl⟩
            rw [← hxn] at hv2
            subst hv2
            clear hxn
            go_wp2_with fail
            refine hK.out _ _ (unhide KP _ (hHeld.1.trans hg)) (fun hHeld => ?_)
            clear hK K hI
            try simp only [Act.put, List.getElem_toArray, List.getElem_cons_succ, List.getElem_cons_zero, List.setIfInBounds_toArray, List.set_cons_zero, List.set_cons_succ]
            have s4 : Hid (y3.heap.size ≤ y4.heap.size) := hide hg.size
            have q4 : Hid (G y3 y4) := hide hg
            replace hN := hide hN
            clear hg
            refine wpAnyH_take (i := 11) (v := .agg #[.int .u64 (R : Int), .int .u64 18446744073709551615, .slice xo xn xc]) rfl (by kernel_rfl) (by kernel_rfl) (by kernel_rfl) (fun _ _ _ h => h) (Or.inl ⟨by rfl, fun w hSw => by obtain ⟨t0, t1, t2, t3, t4, t5, t6, t7, t8, t9, t10, t11⟩ := hSw; go_simp⟩) (by assumption) ?_
            try simp only [Act.put, List.getElem_toArray, List.getElem_cons_succ, List.getElem_cons_zero, List.setIfInBounds_toArray, List.set_cons_zero, List.set_cons_succ]
            refine wpAnyH_ready (rs := [13]) (by kernel_rfl) (by simp) ?_
            refine AllReadyH.cons rfl (fun K hK => ?_) AllReadyH.nil
            have hgb : W1.heap.size ≤ y2.heap.size := by have u0 := unhide s0; have u1 := unhide s1; have u2 := unhide s2; have u3 := unhide s3; have u4 := unhide s4; omega
            have hho : y2.heap.size < y3.heap.size ∨ y4.heap.size ≤ y2.heap.size := by have u0 := unhide s0; have u1 := unhide s1; have u2 := unhide s2; have u3 := unhide s3; have u4 := unhide s4; omega
            have hh1 : W1.heap.size ≤ y3.heap.size := by have u0 := unhide s0; have u1 := unhide s1; have u2 := unhide s2; have u3 := unhide s3; have u4 := unhide s4; omega
            have LF := hide (nd_leaf R 18446744073709551615 hHeld.1 rfl hgb ((unhide qz).trans (unhide q4)) (unhide hN) hh1 (G.refl _) hho)
            have z0 := ((unhide qz).trans (unhide q4)).cell (x := ⟨y2.heap.size, 0, none⟩) (v := .int .u64 0) (by simp [go_sem])
            have f0 : y4.frozen? ⟨y2.heap.size, 0, none⟩ = false := (World.frozen?_of_block (((unhide qz).trans (unhide q4)).block y2.heap.size (by rw [World.size_alloc]; omega))).trans (by simp [go_sem])
            have z1 := ((unhide qz).trans (unhide q4)).cell (x := ⟨y2.heap.size, 1, none⟩) (v := .int .u64 0) (by simp [go_sem])
            have f1 : y4.frozen? ⟨y2.heap.size, 1, none⟩ = false := (World.frozen?_of_block (((unhide qz).trans (unhide q4)).block y2.heap.size (by rw [World.size_alloc]; omega))).trans (by simp [go_sem])
            have z2 := ((unhide qz).trans (unhide q4)).cell (x := ⟨y2.heap.size, 2, none⟩) (v := .slice none 0 0) (by simp [go_sem])
            have f2 : y4.frozen? ⟨y2.heap.size, 2, none⟩ = false := (World.frozen?_of_block (((unhide qz).trans (unhide q4)).block y2.heap.size (by rw [World.size_alloc]; omega))).trans (by simp [go_sem])
            clear hgb hho hh1 hN
            go_simp
            refine hK.out _ _ (unhide KP _ (unhide LF).g) (fun hHeld => ?_)
            clear hK K
            try simp only [Act.put, List.getElem_toArray, List.getElem_cons_succ, List.getElem_cons_zero, List.setIfInBounds_toArray, List.set_cons_zero, List.set_cons_succ]
            refine wpAnyH_done (by kernel_rfl) (NoPanic.normal ?_) _
            go_wp2_with fail
            go_meet
            exact ⟨_, xo, xn, xc, rfl, LF⟩
        · go_simp
          refine hK.out _ _ (unhide KP _ (hHeld.1.more _)) (fun hHeld => ?_)
          clear hK K
          try simp only [Act.put, List.getElem_toArray, List.getElem_cons_succ, List.getElem_cons_zero, List.setIfInBounds_toArray, List.set_cons_zero, List.set_cons_succ]
          obtain ⟨y3, hy3⟩ : ∃ y, y = y2.alloc (.cells #[.int .u64 0, .int .u64 0, .slice none 0 0] 57) := ⟨_, rfl⟩
          have s3 : Hid (y3.heap.size = y2.heap.size + 1) := hide (by rw [hy3]; exact World.size_alloc _ _)
          have q3 : Hid (G y2 y3) := hide (by rw [hy3]; exact G.alloc _ _)
          have qz : Hid (G (y2.alloc (.cells #[.int .u64 0, .int .u64 0, .slice none 0 0] 57)) y3) := hide (by rw [hy3]; exact G.refl _)
          rw [← hy3] at hHeld ⊢
          clear hy3
          refine wpAnyH_ready (rs := [2]) (by kernel_rfl) (by simp) ?_
          refine AllReadyH.cons rfl (fun K hK => ?_) AllReadyH.nil
          go_simp
          refine (unhide SM y3 _ ((unhide hL).g ((unhide q2).trans (unhide q3)))).mono ?_
          rintro e w' ⟨rfl, rfl⟩
          go_wp2_with fail
          refine hK.out _ _ hHeld (fun hHeld => ?_)
          clear hK K hL
          try simp only [Act.put, List.getElem_toArray, List.getElem_cons_succ, List.getElem_cons_zero, List.setIfInBounds_toArray, List.set_cons_zero, List.set_cons_succ]
          refine wpAnyH_ready (rs := [10]) (by kernel_rfl) (by simp) ?_
          refine AllReadyH.cons rfl (fun K hK => ?_) AllReadyH.nil
          go_simp
          refine (unhide PL y3 _ ((unhide hI).g (unhide q3))).mono ?_
          rintro e y4 ⟨v2, rfl, hN, hg⟩
          obtain ⟨xo, xc, hv2, _⟩ := hN.1
          obtain ⟨xn, hxn⟩ : ∃ xn, xn = nx.length := ⟨_, rfl⟩
          rw [← hxn] at hv2
          subst hv2
          clear hxn
          go_wp2_with fail
          refine hK.out _ _ (unhide KP _ (hHeld.1.trans hg)) (fun hHeld => ?_)
          clear hK K hI
          try simp only [Act.put, List.getElem_toArray, List.getElem_cons_succ, List.getElem_cons_zero, List.setIfInBounds_toArray, List.set_cons_zero, List.set_cons_succ]
          have s4 : Hid (y3.heap.size ≤ y4.heap.size) := hide hg.size
          have q4 : Hid (G y3 y4) := hide hg
          replace hN := hide hN
          clear hg
          refine wpAnyH_take (i := 11) (v := .agg #[.int .u64 (R : Int), .int .u64 18446744073709551615, .slice xo xn xc]) rfl (by kernel_rfl) (by kernel_rfl) (by kernel_rfl) (fun _ _ _ h => h) (Or.inl ⟨by rfl, fun w hSw => by obtain ⟨t0, t1, t2, t3, t4, t5, t6, t7, t8, t9, t10, t11⟩ := hSw; go_simp⟩) (by assumption) ?_
          try simp only [Act.put, List.getElem_toArray, List.getElem_cons_succ, List.getElem_cons_zero, List.setIfInBounds_toArray, List.set_cons_zero, List.set_cons_succ]
          refine wpAnyH_ready (rs := [13]) (by kernel_rfl) (by simp) ?_
          refine AllReadyH.cons rfl (fun K hK => ?_) AllReadyH.nil
          have hgb : W1.heap.size ≤ y2.heap.size := by have u0 := unhide s0; have u1 := unhide s1; have u2 := unhide s2; have u3 := unhide s3; have u4 := unhide s4; omega
          have hho : y2.heap.size < y3.heap.size ∨ y4.heap.size ≤ y2.heap.size := by have u0 := unhide s0; have u1 := unhide s1; have u2 := unhide s2; have u3 := unhide s3; have u4 := unhide s4; omega
          have hh1 : W1.heap.size ≤ y3.heap.size := by have u0 := unhide s0; have u1 := unhide s1; have u2 := unhide s2; have u3 := unhide s3; have u4 := unhide s4; omega
          have LF := hide (nd_leaf R 18446744073709551615 hHeld.1 rfl hgb ((unhide qz).trans (unhide q4)) (unhide hN) hh1 (G.refl _) hho)
          have z0 := ((unhide qz).trans (unhide q4)).cell (x := ⟨y2.heap.size, 0, none⟩) (v := .int .u64 0) (by simp [go_sem])
          have f0 : y4.frozen? ⟨y2.heap.size, 0, none⟩ = false := (World.frozen?_of_block (((unhide qz).trans (unhide q4)).block y2.heap.size (by rw [World.size_alloc]; omega))).trans (by simp [go_sem])
          have z1 := ((unhide qz).trans (unhide q4)).cell (x := ⟨y2.heap.size, 1, none⟩) (v := .int .u64 0) (by simp [go_sem])
          have f1 : y4.frozen? ⟨y2.heap.size, 1, none⟩ = false := (World.frozen?_of_block (((unhide qz).trans (unhide q4)).block y2.heap.size (by rw [World.size_alloc]; omega))).trans (by simp [go_sem])
          have z2 := ((unhide qz).trans (unhide q4)).cell (x := ⟨y2.heap.size, 2, none⟩) (v := .slice none 0 0) (by simp [go_sem])
          have f2 : y4.frozen? ⟨y2.heap.size, 2, none⟩ = false := (World.frozen?_of_block (((unhide qz).trans (unhide q4)).block y2.heap.size (by rw [World.size_alloc]; omega))).trans (by simp [go_sem])
          clear hgb hho hh1 hN
          go_simp
          refine hK.out _ _ (unhide KP _ (unhide LF).g) (fun hHeld => ?_)
          clear hK K
          try simp only [Act.put, List.getElem_toArray, List.getElem_cons_succ, List.getElem_cons_zero, List.setIfInBounds_toArray, List.set_cons_zero, List.set_cons_succ]
          refine wpAnyH_done (by kernel_rfl) (NoPanic.normal ?_) _
          go_wp2_with fail
          go_meet
          exact ⟨_, xo, xn, xc, rfl, LF⟩
      · go_simp
        refine hK.out _ _ (unhide KP _ (hHeld.1.more _)) (fun hHeld => ?_)
        clear hK K
        try simp only [Act.put, List.getElem_toArray, List.getElem_cons_succ, List.getElem_cons_zero, List.setIfInBounds_toArray, List.set_cons_zero, List.set_cons_succ]
        obtain ⟨y2, hy2⟩ : ∃ y, y = y1.alloc (.cells #[.int .u64 0, .int .u64 0, .slice none 0 0] 57) := ⟨_, rfl⟩
        have s2 : Hid (y2.heap.size = y1.heap.size + 1) := hide (by rw [hy2]; exact World.size_alloc _ _)
        have q2 : Hid (G y1 y2) := hide (by rw [hy2]; exact G.alloc _ _)
        have qz : Hid (G (y1.alloc (.cells #[.int .u64 0, .int .u64 0, .slice none 0 0] 57)) y2) := hide (by rw [hy2]; exact G.refl _)
        rw [← hy2] at hHeld ⊢
        clear hy2
        refine wpAnyH_ready (rs := [2, 9]) (by kernel_rfl) (by simp) ?_
        refine AllReadyH.cons rfl (fun K hK => ?_) (AllReadyH.cons rfl (fun K hK => ?_) AllReadyH.nil)
        · go_simp
          refine (unhide SM y2 _ ((unhide hL).g (unhide q2))).mono ?_
          rintro e w' ⟨rfl, rfl⟩
          go_wp2_with fail
          refine hK.out _ _ hHeld (fun hHeld => ?_)
          clear hK K hL
          try simp only [Act.put, List.getElem_toArray, List.getElem_cons_succ, List.getElem_cons_zero, List.setIfInBounds_toArray, List.set_cons_zero, List.set_cons_succ]
          refine wpAnyH_ready (rs := [9]) (by kernel_rfl) (by simp) ?_
          refine AllReadyH.cons rfl (fun K hK => ?_) AllReadyH.nil
          go_simp
          refine hK.out _ _ (unhide KP _ (hHeld.1.more _)) (fun hHeld => ?_)
          clear hK K
          try simp only [Act.put, List.getElem_toArray, List.getElem_cons_succ, List.getElem_cons_zero, List.setIfInBounds_toArray, List.set_cons_zero, List.set_cons_succ]
          have hI := hide (unhide IL y2)
          obtain ⟨y3, hy3⟩ : ∃ y, y = y2.alloc (.cells #[.int .i64 ct] 3) := ⟨_, rfl⟩
          have s3 : Hid (y3.heap.size = y2.heap.size + 1) := hide (by rw [hy3]; exact World.size_alloc _ _)
          have q3 : Hid (G y2 y3) := hide (by rw [hy3]; exact G.alloc _ _)
          rw [← hy3] at hHeld ⊢
          rw [← hy3] at hI
          clear hy3
          refine wpAnyH_ready (rs := [10]) (by kernel_rfl) (by simp) ?_
          refine AllReadyH.cons rfl (fun K hK => ?_) AllReadyH.nil
          go_simp
          refine (unhide PL y3 _ ((unhide hI).g (G.refl _))).mono ?_
          rintro e y4 ⟨v2, rfl, hN, hg⟩
          obtain ⟨xo, xc, hv2, _⟩ := hN.1
          obtain ⟨xn, hxn⟩ : ∃ xn, xn = nx.length := ⟨_, rfl⟩
          rw [← hxn] at hv2
          subst hv2
          clear hxn
          go_wp2_with fail
          refine hK.out _ _ (unhide KP _ (hHeld.1.trans hg)) (fun hHeld => ?_)
          clear hK K hI
          try simp only [Act.put, List.getElem_toArray, List.getElem_cons_succ, List.getElem_cons_zero, List.setIfInBounds_toArray, List.set_cons_zero, List.set_cons_succ]
          have s4 : Hid (y3.heap.size ≤ y4.heap.size) := hide hg.size
          have q4 : Hid (G y3 y4) := hide hg
          replace hN := hide hN
          clear hg
          refine wpAnyH_take (i := 11) (v := .agg #[.int .u64 (R : Int), .int .u64 18446744073709551615, .slice xo xn xc]) rfl (by kernel_rfl) (by kernel_rfl) (by kernel_rfl) (fun _ _ _ h => h) (Or.inl ⟨by rfl, fun w hSw => by obtain ⟨t0, t1, t2, t3, t4, t5, t6, t7, t8, t9, t10, t11⟩ := hSw; go_simp⟩) (by assumption) ?_
          try simp only [Act.put, List.getElem_toArray, List.getElem_cons_succ, List.getElem_cons_zero, List.setIfInBounds_toArray, List.set_cons_zero, List.set_cons_succ]
          refine wpAnyH_ready (rs := [13]) (by kernel_rfl) (by simp) ?_
          refine AllReadyH.cons rfl (fun K hK => ?_) AllReadyH.nil
          have hgb : W1.heap.size ≤ y1.heap.size := by have u0 := unhide s0; have u1 := unhide s1; have u2 := unhide s2; have u3 := unhide s3; have u4 := unhide s4; omega
          have hho : y1.heap.size < y3.heap.size ∨ y4.heap.size ≤ y1.heap.size := by have u0 := unhide s0; have u1 := unhide s1; have u2 := unhide s2; have u3 := unhide s3; have u4 := unhide s4; omega
          have hh1 : W1.heap.size ≤ y3.heap.size := by have u0 := unhide s0; have u1 := unhide s1; have u2 := unhide s2; have u3 := unhide s3; have u4 := unhide s4; omega
          have LF := hide (nd_leaf R 18446744073709551615 hHeld.1 rfl hgb ((unhide qz).trans ((unhide q3).trans (unhide q4))) (unhide hN) hh1 (G.refl _) hho)
          have z0 := ((unhide qz).trans ((unhide q3).trans (unhide q4))).cell (x := ⟨y1.heap.size, 0, none⟩) (v := .int .u64 0) (by simp [go_sem])
          have f0 : y4.frozen? ⟨y1.heap.size, 0, none⟩ = false := (World.frozen?_of_block (((unhide qz).trans ((unhide q3).trans (unhide q4))).block y1.heap.size (by rw [World.size_alloc]; omega))).trans (by simp [go_sem])
          have z1 := ((unhide qz).trans ((unhide q3).trans (unhide q4))).cell (x := ⟨y1.heap.size, 1, none⟩) (v := .int .u64 0) (by simp [go_sem])
          have f1 : y4.frozen? ⟨y1.heap.size, 1, none⟩ = false := (World.frozen?_of_block (((unhide qz).trans ((unhide q3).trans (unhide q4))).block y1.heap.size (by rw [World.size_alloc]; omega))).trans (by simp [go_sem])
          have z2 := ((unhide qz).trans ((unhide q3).trans (unhide q4))).cell (x := ⟨y1.heap.size, 2, none⟩) (v := .slice none 0 0) (by simp [go_sem])
          have f2 : y4.frozen? ⟨y1.heap.size, 2, none⟩ = false := (World.frozen?_of_block (((unhide qz).trans ((unhide q3).trans (unhide q4))).block y1.heap.size (by rw [World.size_alloc]; omega))).trans (by simp [go_sem])
          clear hgb hho hh1 hN
          go_simp
          refine hK.out _ _ (unhide KP _ (unhide LF).g) (fun hHeld => ?_)
          clear hK K
          try simp only [Act.put, List.getElem_toArray, List.getElem_cons_succ, List.getElem_cons_zero, List.setIfInBounds_toArray, List.set_cons_zero, List.set_cons_succ]
          refine wpAnyH_done (by kernel_rfl) (NoPanic.normal ?_) _
          go_wp2_with fail
          go_meet
          exact ⟨_, xo, xn, xc, rfl, LF⟩
        · go_simp
          refine hK.out _ _ (unhide KP _ (hHeld.1.more _)) (fun hHeld => ?_)
          clear hK K
          try simp only [Act.put, List.getElem_toArray, List.getElem_cons_succ, List.getElem_cons_zero, List.setIfInBounds_toArray, List.set_cons_zero, List.set_cons_succ]
          have hI := hide (unhide IL y2)
          obtain ⟨y3, hy3⟩ : ∃ y, y = y2.alloc (.cells #[.int .i64 ct] 3) := ⟨_, rfl⟩
          have s3 : Hid (y3.heap.size = y2.heap.size + 1) := hide (by rw [hy3]; exact World.size_alloc _ _)
          have q3 : Hid (G y2 y3) := hide (by rw [hy3]; exact G.alloc _ _)
          rw [← hy3] at hHeld ⊢
          rw [← hy3] at hI
          clear hy3
          refine wpAnyH_ready (rs := [2]) (by kernel_rfl) (by simp) ?_
          refine AllReadyH.cons rfl (fun K hK => ?_) AllReadyH.nil
          go_simp
          refine (unhide SM y3 _ ((unhide hL).g ((unhide q2).trans (unhide q3)))).mono ?_
          rintro e w' ⟨rfl, rfl⟩
          go_wp2_with fail
          refine hK.out _ _ hHeld (fun hHeld => ?_)
          clear hK K hL
          try simp only [Act.put, List.getElem_toArray, List.getElem_cons_succ, List.getElem_cons_zero, List.setIfInBounds_toArray, List.set_cons_zero, List.set_cons_succ]
          refine wpAnyH_ready (rs := [10]) (by kernel_rfl) (by simp) ?_
          refine AllReadyH.cons rfl (fun K hK => ?_) AllReadyH.nil
          go_simp
          refine (unhide PL y3 _ ((unhide hI).g (G.refl _))).mono ?_
          rintro e y4 ⟨v2, rfl, hN, hg⟩
          obtain ⟨xo, xc, hv2, _⟩ := hN.1
          obtain ⟨xn, hxn⟩ : ∃ xn, xn = nx.length := ⟨_, rfl⟩
          rw [← hxn] at hv2
          subst hv2
          clear hxn
          go_wp2_with fail
          refine hK.out _ _ (unhide KP _ (hHeld.1.trans hg)) (fun hHeld => ?_)
          clear hK K hI
          try simp only [Act.put, List.getElem_toArray, List.getElem_cons_succ, List.getElem_cons_zero, List.setIfInBounds_toArray, List.set_cons_zero, List.set_cons_succ]
          have s4 : Hid (y3.heap.size ≤ y4.heap.size) := hide hg.size
          have q4 : Hid (G y3 y4) := hide hg
          replace hN := hide hN
          clear hg
          refine wpAnyH_take (i := 11) (v := .agg #[.int .u64 (R : Int), .int .u64 18446744073709551615, .slice xo xn xc]) rfl (by kernel_rfl) (by kernel_rfl) (by kernel_rfl) (fun _ _ _ h => h) (Or.inl ⟨by rfl, fun w hSw => by obtain ⟨t0, t1, t2, t3, t4, t5, t6, t7, t8, t9, t10, t11⟩ := hSw; go_simp⟩) (by assumption) ?_
          try simp only [Act.put, List.getElem_toArray, List.getElem_cons_succ, List.getElem_cons_zero, List.setIfInBounds_toArray, List.set_cons_zero, List.set_cons_succ]
          refine wpAnyH_ready (rs := [13]) (by kernel_rfl) (by simp) ?_
          refine AllReadyH.cons rfl (fun K hK => ?_) AllReadyH.nil
          have hgb : W1.heap.size ≤ y1.heap.size := by have u0 := unhide s0; have u1 := unhide s1; have u2 := unhide s2; have u3 := unhide s3; have u4 := unhide s4; omega
          have hho : y1.heap.size < y3.heap.size ∨ y4.heap.size ≤ y1.heap.size := by have u0 := unhide s0; have u1 := unhide s1; have u2 := unhide s2; have u3 := unhide s3; have u4 := unhide s4; omega
          have hh1 : W1.heap.size ≤ y3.heap.size := by have u0 := unhide s0; have u1 := unhide s1; have u2 := unhide s2; have u3 := unhide s3; have u4 := unhide s4; omega
          have LF := hide (nd_leaf R 18446744073709551615 hHeld.1 rfl hgb ((unhide qz).trans ((unhide q3).trans (unhide q4))) (unhide hN) hh1 (G.refl _) hho)
          have z0 := ((unhide qz).trans ((unhide q3).trans (unhide q4))).cell (x := ⟨y1.heap.size, 0, none⟩) (v := .int .u64 0) (by simp [go_sem])
          have f0 : y4.frozen? ⟨y1.heap.size, 0, none⟩ = false := (World.frozen?_of_block (((unhide qz).trans ((unhide q3).trans (unhide q4))).block y1.heap.size (by rw [World.size_alloc]; omega))).trans (by simp [go_sem])
          have z1 := ((unhide qz).trans ((unhide q3).trans (unhide q4))).cell (x := ⟨y1.heap.size, 1, none⟩) (v := .int .u64 0) (by simp [go_sem])
          have f1 : y4.frozen? ⟨y1.heap.size, 1, none⟩ = false := (World.frozen?_of_block (((unhide qz).trans ((unhide q3).trans (unhide q4))).block y1.heap.size (by rw [World.size_alloc]; omega))).trans (by simp [go_sem])
          have z2 := ((unhide qz).trans ((unhide q3).trans (unhide q4))).cell (x := ⟨y1.heap.size, 2, none⟩) (v := .slice none 0 0) (by simp [go_sem])
          have f2 : y4.frozen? ⟨y1.heap.size, 2, none⟩ = false := (World.frozen?_of_block (((unhide qz).trans ((unhide q3).trans (unhide q4))).block y1.heap.size (by rw [World.size_alloc]; omega))).trans (by simp [go_sem])
          clear hgb hho hh1 hN
          go_simp
          refine hK.out _ _ (unhide KP _ (unhide LF).g) (fun hHeld => ?_)
          clear hK K
          try simp only [Act.put, List.getElem_toArray, List.getElem_cons_succ, List.getElem_cons_zero, List.setIfInBounds_toArray, List.set_cons_zero, List.set_cons_succ]
          refine wpAnyH_done (by kernel_rfl) (NoPanic.normal ?_) _
          go_wp2_with fail
          go_meet
          exact ⟨_, xo, xn, xc, rfl, LF⟩
    · go_simp
      refine hK.out _ _ (unhide KP _ (hHeld.1.more _)) (fun hHeld => ?_)
      clear hK K
      try simp only [Act.put, List.getElem_toArray, List.getElem_cons_succ, List.getElem_cons_zero, List.setIfInBounds_toArray, List.set_cons_zero, List.set_cons_succ]
      have hI := hide (unhide IL y0)
      obtain ⟨y1, hy1⟩ : ∃ y, y = y0.alloc (.cells #[.int .i64 ct] 3) := ⟨_, rfl⟩
      have s1 : Hid (y1.heap.size = y0.heap.size + 1) := hide (by rw [hy1]; exact World.size_alloc _ _)
      have q1 : Hid (G y0 y1) := hide (by rw [hy1]; exact G.alloc _ _)
      rw [← hy1] at hHeld ⊢
      rw [← hy1] at hI
      clear hy1
      refine wpAnyH_ready (rs := [1, 12]) (by kernel_rfl) (by simp) ?_
      refine AllReadyH.cons rfl (fun K hK => ?_) (AllReadyH.cons rfl (fun K hK => ?_) AllReadyH.nil)
      · go_simp
        refine (unhide CR y1).mono ?_
        rintro e y2 ⟨v1, rfl, hL, hg⟩
        go_wp2_with fail
        refine hK.out _ _ (unhide KP _ (hHeld.1.trans hg)) (fun hHeld => ?_)
        clear hK K
        try simp only [Act.put, List.getElem_toArray, List.getElem_cons_succ, List.getElem_cons_zero, List.setIfInBounds_toArray, List.set_cons_zero, List.set_cons_succ]
        have s2 : Hid (y1.heap.size ≤ y2.heap.size) := hide hg.size
        have q2 : Hid (G y1 y2) := hide hg
        replace hL := hide hL
        clear hg
        refine wpAnyH_ready (rs := [2, 12]) (by kernel_rfl) (by simp) ?_
        refine AllReadyH.cons rfl (fun K hK => ?_) (AllReadyH.cons rfl (fun K hK => ?_) AllReadyH.nil)
        · go_simp
          refine (unhide SM y2 _ ((unhide hL).g (G.refl _))).mono ?_
          rintro e w' ⟨rfl, rfl⟩
          go_wp2_with fail
          refine hK.out _ _ hHeld (fun hHeld => ?_)
          clear hK K hL
          try simp only [Act.put, List.getElem_toArray, List.getElem_cons_succ, List.getElem_cons_zero, List.setIfInBounds_toArray, List.set_cons_zero, List.set_cons_succ]
          refine wpAnyH_ready (rs := [10, 12]) (by kernel_rfl) (by simp) ?_
          refine AllReadyH.cons rfl (fun K hK => ?_) (AllReadyH.cons rfl (fun K hK => ?_) AllReadyH.nil)
          · go_simp
            refine (unhide PL y2 _ ((unhide hI).g (unhide q2))).mono ?_
            rintro e y3 ⟨v2, rfl, hN, hg⟩
            obtain ⟨xo, xc, hv2, _⟩ := hN.1
            obtain ⟨xn, hxn⟩ : ∃ xn, xn = nx.length := ⟨_, rfl⟩
            rw [← hxn] at hv2
            subst hv2
            clear hxn
            go_wp2_with fail
            refine hK.out _ _ (unhide KP _ (hHeld.1.trans hg)) (fun hHeld => ?_)
            clear hK K hI
            try simp only [Act.put, List.getElem_toArray, List.getElem_cons_succ, List.getElem_cons_zero, List.setIfInBounds_toArray, List.set_cons_zero, List.set_cons_succ]
            have s3 : Hid (y2.heap.size ≤ y3.heap.size) := hide hg.size
            have q3 : Hid (G y2 y3) := hide hg
            replace hN := hide hN
            clear hg
            refine wpAnyH_take (i := 11) (v := .agg #[.int .u64 (R : Int), .int .u64 18446744073709551615, .slice xo xn xc]) rfl (by kernel_rfl) (by kernel_rfl) (by kernel_rfl) (fun _ _ _ h => h) (Or.inl ⟨by rfl, fun w hSw => by obtain ⟨t0, t1, t2, t3, t4, t5, t6, t7, t8, t9, t10, t11⟩ := hSw; go_simp⟩) (by assumption) ?_
            try simp only [Act.put, List.getElem_toArray, List.getElem_cons_succ, List.getElem_cons_zero, List.setIfInBounds_toArray, List.set_cons_zero, List.set_cons_succ]
            refine wpAnyH_ready (rs := [12]) (by kernel_rfl) (by simp) ?_
            refine AllReadyH.cons rfl (fun K hK => ?_) AllReadyH.nil
            go_simp
            refine hK.out _ _ (unhide KP _ (hHeld.1.more _)) (fun hHeld => ?_)
            clear hK K
            try simp only [Act.put, List.getElem_toArray, List.getElem_cons_succ, List.getElem_cons_zero, List.setIfInBounds_toArray, List.set_cons_zero, List.set_cons_succ]
            obtain ⟨y4, hy4⟩ : ∃ y, y = y3.alloc (.cells #[.int .u64 0, .int .u64 0, .slice none 0 0] 57) := ⟨_, rfl⟩
            have s4 : Hid (y4.heap.size = y3.heap.size + 1) := hide (by rw [hy4]; exact World.size_alloc _ _)
            have q4 : Hid (G y3 y4) := hide (by rw [hy4]; exact G.alloc _ _)
            have qz : Hid (G (y3.alloc (.cells #[.int .u64 0, .int .u64 0, .slice none 0 0] 57)) y4) := hide (by rw [hy4]; exact G.refl _)
            rw [← hy4] at hHeld ⊢
            clear hy4
            refine wpAnyH_ready (rs := [13]) (by kernel_rfl) (by simp) ?_
            refine AllReadyH.cons rfl (fun K hK => ?_) AllReadyH.nil
            have hgb : W1.heap.size ≤ y3.heap.size := by have u0 := unhide s0; have u1 := unhide s1; have u2 := unhide s2; have u3 := unhide s3; have u4 := unhide s4; omega
            have hho : y3.heap.size < y2.heap.size ∨ y3.heap.size ≤ y3.heap.size := by have u0 := unhide s0; have u1 := unhide s1; have u2 := unhide s2; have u3 := unhide s3; have u4 := unhide s4; omega
            have hh1 : W1.heap.size ≤ y2.heap.size := by have u0 := unhide s0; have u1 := unhide s1; have u2 := unhide s2; have u3 := unhide s3; have u4 := unhide s4; omega
            have LF := hide (nd_leaf R 18446744073709551615 hHeld.1 rfl hgb (unhide qz) (unhide hN) hh1 (unhide q4) hho)
            have z0 := (unhide qz).cell (x := ⟨y3.heap.size, 0, none⟩) (v := .int .u64 0) (by simp [go_sem])
            have f0 : y4.frozen? ⟨y3.heap.size, 0, none⟩ = false := (World.frozen?_of_block ((unhide qz).block y3.heap.size (by rw [World.size_alloc]; omega))).trans (by simp [go_sem])
            have z1 := (unhide qz).cell (x := ⟨y3.heap.size, 1, none⟩) (v := .int .u64 0) (by simp [go_sem])
            have f1 : y4.frozen? ⟨y3.heap.size, 1, none⟩ = false := (World.frozen?_of_block ((unhide qz).block y3.heap.size (by rw [World.size_alloc]; omega))).trans (by simp [go_sem])
            have z2 := (unhide qz).cell (x := ⟨y3.heap.size, 2, none⟩) (v := .slice none 0 0) (by simp [go_sem])
            have f2 : y4.frozen? ⟨y3.heap.size, 2, none⟩ = false := (World.frozen?_of_block ((unhide qz).block y3.heap.size (by rw [World.size_alloc]; omega))).trans (by simp [go_sem])
            clear hgb hho hh1 hN
            go_simp
            refine hK.out _ _ (unhide KP _ (unhide LF).g) (fun hHeld => ?_)
            clear hK K
            try simp only [Act.put, List.getElem_toArray, List.getElem_cons_succ, List.getElem_cons_zero, List.setIfInBounds_toArray, List.set_cons_zero, List.set_cons_succ]
            refine wpAnyH_done (by kernel_rfl) (NoPanic.normal ?_) _
            go_wp2_with fail
            go_meet
            exact ⟨_, xo, xn, xc, rfl, LF⟩
          · go_simp
            refine hK.out _ _ (unhide KP _ (hHeld.1.more _)) (fun hHeld => ?_)
            clear hK K
            try simp only [Act.put, List.getElem_toArray, List.getElem_cons_succ, List.getElem_cons_zero, List.setIfInBounds_toArray, List.set_cons_zero, List.set_cons_succ]
            obtain ⟨y3, hy3⟩ : ∃ y, y = y2.alloc (.cells #[.int .u64 0, .int .u64 0, .slice none 0 0] 57) := ⟨_, rfl⟩
            have s3 : Hid (y3.heap.size = y2.heap.size + 1) := hide (by rw [hy3]; exact World.size_alloc _ _)
            have q3 : Hid (G y2 y3) := hide (by rw [hy3]; exact G.alloc _ _)
            have qz : Hid (G (y2.alloc (.cells #[.int .u64 0, .int .u64 0, .slice none 0 0] 57)) y3) := hide (by rw [hy3]; exact G.refl _)
            rw [← hy3] at hHeld ⊢
            clear hy3
            refine wpAnyH_ready (rs := [10]) (by kernel_rfl) (by simp) ?_
            refine AllReadyH.cons rfl (fun K hK => ?_) AllReadyH.nil
            go_simp
            refine (unhide PL y3 _ ((unhide hI).g ((unhide q2).trans (unhide q3)))).mono ?_
            rintro e y4 ⟨v2, rfl, hN, hg⟩
            obtain ⟨xo, xc, hv2, _⟩ := hN.1
            obtain ⟨xn, hxn⟩ : ∃ xn, xn = nx.length := ⟨_, rfl⟩
            rw [← hxn] at hv2
            subst hv2
            clear hxn
            go_wp2_with fail
            refine hK.out _ _ (unhide KP _ (hHeld.1.trans hg)) (fun hHeld => ?_)
            clear hK K hI
            try simp only [Act.put, List.getElem_toArray, List.getElem_cons_succ, List.getElem_cons_zero, List.setIfInBounds_toArray, List.set_cons_zero, List.set_cons_succ]
            have s4 : Hid (y3.heap.size ≤ y4.heap.size) := hide hg.size
            have q4 : Hid (G y3 y4) := hide hg
            replace hN := hide hN
            clear hg
            refine wpAnyH_take (i := 11) (v := .agg #[.int .u64 (R : Int), .int .u64 18446744073709551615, .slice xo xn xc]) rfl (by kernel_rfl) (by kernel_rfl) (by kernel_rfl) (fun _ _ _ h => h) (Or.inl ⟨by rfl, fun w hSw => by obtain ⟨t0, t1, t2, t3, t4, t5, t6, t7, t8, t9, t10, t11⟩ := hSw; go_simp⟩) (by assumption) ?_
            try simp only [Act.put, List.getElem_toArray, List.getElem_cons_succ, List.getElem_cons_zero, List.setIfInBounds_toArray, List.set_cons_zero, List.set_cons_succ]
            refine wpAnyH_ready (rs := [13]) (by kernel_rfl) (by simp) ?_
            refine AllReadyH.cons rfl (fun K hK => ?_) AllReadyH.nil
            have hgb : W1.heap.size ≤ y2.heap.size := by have u0 := unhide s0; have u1 := unhide s1; have u2 := unhide s2; have u3 := unhide s3; have u4 := unhide s4; omega
            have hho : y2.heap.size < y3.heap.size ∨ y4.heap.size ≤ y2.heap.size := by have u0 := unhide s0; have u1 := unhide s1; have u2 := unhide s2; have u3 := unhide s3; have u4 := unhide s4; omega
            have hh1 : W1.heap.size ≤ y3.heap.size := by have u0 := unhide s0; have u1 := unhide s1; have u2 := unhide s2; have u3 := unhide s3; have u4 := unhide s4; omega
            have LF := hide (nd_leaf R 18446744073709551615 hHeld.1 rfl hgb ((unhide qz).trans (unhide q4)) (unhide hN) hh1 (G.refl _) hho)
            have z0 := ((unhide qz).trans (unhide q4)).cell (x := ⟨y2.heap.size, 0, none⟩) (v := .int .u64 0) (by simp [go_sem])
            have f0 : y4.frozen? ⟨y2.heap.size, 0, none⟩ = false := (World.frozen?_of_block (((unhide qz).trans (unhide q4)).block y2.heap.size (by rw [World.size_alloc]; omega))).trans (by simp [go_sem])
            have z1 := ((unhide qz).trans (unhide q4)).cell (x := ⟨y2.heap.size, 1, none⟩) (v := .int .u64 0) (by simp [go_sem])
            have f1 : y4.frozen? ⟨y2.heap.size, 1, none⟩ = false := (World.frozen?_of_block (((unhide qz).trans (unhide q4)).block y2.heap.size (by rw [World.size_alloc]; omega))).trans (by simp [go_sem])
            have z2 := ((unhide qz).trans (unhide q4)).cell (x := ⟨y2.heap.size, 2, none⟩) (v := .slice none 0 0) (by simp [go_sem])
            have f2 : y4.frozen? ⟨y2.heap.size, 2, none⟩ = false := (World.frozen?_of_block (((unhide qz).trans (unhide q4)).block y2.heap.size (by rw [World.size_alloc]; omega))).trans (by simp [go_sem])
            clear hgb hho hh1 hN
            go_simp
            refine hK.out _ _ (unhide KP _ (unhide LF).g) (fun hHeld => ?_)
            clear hK K
            try simp only [Act.put, List.getElem_toArray, List.getElem_cons_succ, List.getElem_cons_zero, List.setIfInBounds_toArray, List.set_cons_zero, List.set_cons_succ]
            refine wpAnyH_done (by kernel_rfl) (NoPanic.normal ?_) _
            go_wp2_with fail
            go_meet
            exact ⟨_, xo, xn, xc, rfl, LF⟩
        · go_simp
          refine hK.out _ _ (unhide KP _ (hHeld.1.more _)) (fun hHeld => ?_)
          clear hK K
          try simp only [Act.put, List.getElem_toArray, List.getElem_cons_succ, List.getElem_cons_zero, List.setIfInBounds_toArray, List.set_cons_zero, List.set_cons_succ]
          obtain ⟨y3, hy3⟩ : ∃ y, y = y2.alloc (.cells #[.int .u64 0, .int .u64 0, .slice none 0 0] 57) := ⟨_, rfl⟩
          have s3 : Hid (y3.heap.size = y2.heap.size + 1) := hide (by rw [hy3]; exact World.size_alloc _ _)
          have q3 : Hid (G y2 y3) := hide (by rw [hy3]; exact G.alloc _ _)
          have qz : Hid (G (y2.alloc (.cells #[.int .u64 0, .int .u64 0, .slice none 0 0] 57)) y3) := hide (by rw [hy3]; exact G.refl _)
          rw [← hy3] at hHeld ⊢
          clear hy3
          refine wpAnyH_ready (rs := [2]) (by kernel_rfl) (by simp) ?_
          refine AllReadyH.cons rfl (fun K hK => ?_) AllReadyH.nil
          go_simp
          refine (unhide SM y3 _ ((unhide hL).g (unhide q3))).mono ?_
          rintro e w' ⟨rfl, rfl⟩
          go_wp2_with fail
          refine hK.out _ _ hHeld (fun hHeld => ?_)
          clear hK K hL
          try simp only [Act.put, List.getElem_toArray, List.getElem_cons_succ, List.getElem_cons_zero, List.setIfInBounds_toArray, List.set_cons_zero, List.set_cons_succ]
          refine wpAnyH_ready (rs := [10]) (by kernel_rfl) (by simp) ?_
          refine AllReadyH.cons rfl (fun K hK => ?_) AllReadyH.nil
          go_simp
          refine (unhide PL y3 _ ((unhide hI).g ((unhide q2).trans (unhide q3)))).mono ?_
          rintro e y4 ⟨v2, rfl, hN, hg⟩
          obtain ⟨xo, xc, hv2, _⟩ := hN.1
          obtain ⟨xn, hxn⟩ : ∃ xn, xn = nx.length := ⟨_, rfl⟩
          rw [← hxn] at hv2
          subst hv2
          clear hxn
          go_wp2_with fail
          refine hK.out _ _ (unhide KP _ (hHeld.1.trans hg)) (fun hHeld => ?_)
          clear hK K hI
          try simp only [Act.put, List.getElem_toArray, List.getElem_cons_succ, List.getElem_cons_zero, List.setIfInBounds_toArray, List.set_cons_zero, List.set_cons_succ]
          have s4 : Hid (y3.heap.size ≤ y4.heap.size) := hide hg.size
          have q4 : Hid (G y3 y4) := hide hg
          replace hN := hide hN
          clear hg
          refine wpAnyH_take (i := 11) (v := .agg #[.int .u64 (R : Int), .int .u64 18446744073709551615, .slice xo xn xc]) rfl (by kernel_rfl) (by kernel_rfl) (by kernel_rfl) (fun _ _ _ h => h) (Or.inl ⟨by rfl, fun w hSw => by obtain ⟨t0, t1, t2, t3, t4, t5, t6, t7, t8, t9, t10, t11⟩ := hSw; go_simp⟩) (by assumption) ?_
          try simp only [Act.put, List.getElem_toArray, List.getElem_cons_succ, List.getElem_cons_zero, List.setIfInBounds_toArray, List.set_cons_zero, List.set_cons_succ]
          refine wpAnyH_ready (rs := [13]) (by kernel_rfl) (by simp) ?_
          refine AllReadyH.cons rfl (fun K hK => ?_) AllReadyH.nil
          have hgb : W1.heap.size ≤ y2.heap.size := by have u0 := unhide s0; have u1 := unhide s1; have u2 := unhide s2; have u3 := unhide s3; have u4 := unhide s4; omega
          have hho : y2.heap.size < y3.heap.size ∨ y4.heap.size ≤ y2.heap.size := by have u0 := unhide s0; have u1 := unhide s1; have u2 := unhide s2; have u3 := unhide s3; have u4 := unhide s4; omega
          have hh1 : W1.heap.size ≤ y3.heap.size := by have u0 := unhide s0; have u1 := unhide s1; have u2 := unhide s2; have u3 := unhide s3; have u4 := unhide s4; omega
          have LF := hide (nd_leaf R 18446744073709551615 hHeld.1 rfl hgb ((unhide qz).trans (unhide q4)) (unhide hN) hh1 (G.refl _) hho)
          have z0 := ((unhide qz).trans (unhide q4)).cell (x := ⟨y2.heap.size, 0, none⟩) (v := .int .u64 0) (by simp [go_sem])
          have f0 : y4.frozen? ⟨y2.heap.size, 0, none⟩ = false := (World.frozen?_of_block (((unhide qz).trans (unhide q4)).block y2.heap.size (by rw [World.size_alloc]; omega))).trans (by simp [go_sem])
          have z1 := ((unhide qz).trans (unhide q4)).cell (x := ⟨y2.heap.size, 1, none⟩) (v := .int .u64 0) (by simp [go_sem])
          have f1 : y4.frozen? ⟨y2.heap.size, 1, none⟩ = false := (World.frozen?_of_block (((unhide qz).trans (unhide q4)).block y2.heap.size (by rw [World.size_alloc]; omega))).trans (by simp [go_sem])
          have z2 := ((unhide qz).trans (unhide q4)).cell (x := ⟨y2.heap.size, 2, none⟩) (v := .slice none 0 0) (by simp [go_sem])
          have f2 : y4.frozen? ⟨y2.heap.size, 2, none⟩ = false := (World.frozen?_of_block (((unhide qz).trans (unhide q4)).block y2.heap.size (by rw [World.size_alloc]; omega))).trans (by simp [go_sem])
          clear hgb hho hh1 hN
          go_simp
          refine hK.out _ _ (unhide KP _ (unhide LF).g) (fun hHeld => ?_)
          clear hK K
          try simp only [Act.put, List.getElem_toArray, List.getElem_cons_succ, List.getElem_cons_zero, List.setIfInBounds_toArray, List.set_cons_zero, List.set_cons_succ]
          refine wpAnyH_done (by kernel_rfl) (NoPanic.normal ?_) _
          go_wp2_with fail
          go_meet
          exact ⟨_, xo, xn, xc, rfl, LF⟩
      · go_simp
        refine hK.out _ _ (unhide KP _ (hHeld.1.more _)) (fun hHeld => ?_)
        clear hK K
        try simp only [Act.put, List.getElem_toArray, List.getElem_cons_succ, List.getElem_cons_zero, List.setIfInBounds_toArray, List.set_cons_zero, List.set_cons_succ]
        obtain ⟨y2, hy2⟩ : ∃ y, y = y1.alloc (.cells #[.int .u64 0, .int .u64 0, .slice none 0 0] 57) := ⟨_, rfl⟩
        have s2 : Hid (y2.heap.size = y1.heap.size + 1) := hide (by rw [hy2]; exact World.size_alloc _ _)
        have q2 : Hid (G y1 y2) := hide (by rw [hy2]; exact G.alloc _ _)
        have qz : Hid (G (y1.alloc (.cells #[.int .u64 0, .int .u64 0, .slice none 0 0] 57)) y2) := hide (by rw [hy2]; exact G.refl _)
        rw [← hy2] at hHeld ⊢
        clear hy2
        refine wpAnyH_ready (rs := [1]) (by kernel_rfl) (by simp) ?_
        refine AllReadyH.cons rfl (fun K hK => ?_) AllReadyH.nil
        go_simp
        refine (unhide CR y2).mono ?_
        rintro e y3 ⟨v1, rfl, hL, hg⟩
        go_wp2_with fail
        refine hK.out _ _ (unhide KP _ (hHeld.1.trans hg)) (fun hHeld => ?_)
        clear hK K
        try simp only [Act.put, List.getElem_toArray, List.getElem_cons_succ, List.getElem_cons_zero, List.setIfInBounds_toArray, List.set_cons_zero, List.set_cons_succ]
        have s3 : Hid (y2.heap.size ≤ y3.heap.size) := hide hg.size
        have q3 : Hid (G y2 y3) := hide hg
        replace hL := hide hL
        clear hg
        refine wpAnyH_ready (rs := [2]) (by kernel_rfl) (by simp) ?_
        refine AllReadyH.cons rfl (fun K hK => ?_) AllReadyH.nil
        go_simp
        refine (unhide SM y3 _ ((unhide hL).g (G.refl _))).mono ?_
        rintro e w' ⟨rfl, rfl⟩
        go_wp2_with fail
        refine hK.out _ _ hHeld (fun hHeld => ?_)
        clear hK K hL
        try simp only [Act.put, List.getElem_toArray, List.getElem_cons_succ, List.getElem_cons_zero, List.setIfInBounds_toArray, List.set_cons_zero, List.set_cons_succ]
        refine wpAnyH_ready (rs := [10]) (by kernel_rfl) (by simp) ?_
        refine AllReadyH.cons rfl (fun K hK => ?_) AllReadyH.nil
        go_simp
        refine (unhide PL y3 _ ((unhide hI).g ((unhide q2).trans (unhide q3)))).mono ?_
        rintro e y4 ⟨v2, rfl, hN, hg⟩
        obtain ⟨xo, xc, hv2, _⟩ := hN.1
        obtain ⟨xn, hxn⟩ : ∃ xn, xn = nx.length := ⟨_, rfl⟩
        rw [← hxn] at hv2
        subst hv2
        clear hxn
        go_wp2_with fail
        refine hK.out _ _ (unhide KP _ (hHeld.1.trans hg)) (fun hHeld => ?_)
        clear hK K hI
        try simp only [Act.put, List.getElem_toArray, List.getElem_cons_succ, List.getElem_cons_zero, List.setIfInBounds_toArray, List.set_cons_zero, List.set_cons_succ]
        have s4 : Hid (y3.heap.size ≤ y4.heap.size) := hide hg.size
        have q4 : Hid (G y3 y4) := hide hg
        replace hN := hide hN
        clear hg
        refine wpAnyH_take (i := 11) (v := .agg #[.int .u64 (R : Int), .int .u64 18446744073709551615, .slice xo xn xc]) rfl (by kernel_rfl) (by kernel_rfl) (by kernel_rfl) (fun _ _ _ h => h) (Or.inl ⟨by rfl, fun w hSw => by obtain ⟨t0, t1, t2, t3, t4, t5, t6, t7, t8, t9, t10, t11⟩ := hSw; go_simp⟩) (by assumption) ?_
        try simp only [Act.put, List.getElem_toArray, List.getElem_cons_succ, List.getElem_cons_zero, List.setIfInBounds_toArray, List.set_cons_zero, List.set_cons_succ]
        refine wpAnyH_ready (rs := [13]) (by kernel_rfl) (by simp) ?_
        refine AllReadyH.cons rfl (fun K hK => ?_) AllReadyH.nil
        have hgb : W1.heap.size ≤ y1.heap.size := by have u0 := unhide s0; have u1 := unhide s1; have u2 := unhide s2; have u3 := unhide s3; have u4 := unhide s4; omega
        have hho : y1.heap.size < y3.heap.size ∨ y4.heap.size ≤ y1.heap.size := by have u0 := unhide s0; have u1 := unhide s1; have u2 := unhide s2; have u3 := unhide s3; have u4 := unhide s4; omega
        have hh1 : W1.heap.size ≤ y3.heap.size := by have u0 := unhide s0; have u1 := unhide s1; have u2 := unhide s2; have u3 := unhide s3; have u4 := unhide s4; omega
        have LF := hide (nd_leaf R 18446744073709551615 hHeld.1 rfl hgb ((unhide qz).trans ((unhide q3).trans (unhide q4))) (unhide hN) hh1 (G.refl _) hho)
        have z0 := ((unhide qz).trans ((unhide q3).trans (unhide q4))).cell (x := ⟨y1.heap.size, 0, none⟩) (v := .int .u64 0) (by simp [go_sem])
        have f0 : y4.frozen? ⟨y1.heap.size, 0, none⟩ = false := (World.frozen?_of_block (((unhide qz).trans ((unhide q3).trans (unhide q4))).block y1.heap.size (by rw [World.size_alloc]; omega))).trans (by simp [go_sem])
        have z1 := ((unhide qz).trans ((unhide q3).trans (unhide q4))).cell (x := ⟨y1.heap.size, 1, none⟩) (v := .int .u64 0) (by simp [go_sem])
        have f1 : y4.frozen? ⟨y1.heap.size, 1, none⟩ = false := (World.frozen?_of_block (((unhide qz).trans ((unhide q3).trans (unhide q4))).block y1.heap.size (by rw [World.size_alloc]; omega))).trans (by simp [go_sem])
        have z2 := ((unhide qz).trans ((unhide q3).trans (unhide q4))).cell (x := ⟨y1.heap.size, 2, none⟩) (v := .slice none 0 0) (by simp [go_sem])
        have f2 : y4.frozen? ⟨y1.heap.size, 2, none⟩ = false := (World.frozen?_of_block (((unhide qz).trans ((unhide q3).trans (unhide q4))).block y1.heap.size (by rw [World.size_alloc]; omega))).trans (by simp [go_sem])
        clear hgb hho hh1 hN
        go_simp
        refine hK.out _ _ (unhide KP _ (unhide LF).g) (fun hHeld => ?_)
        clear hK K
        try simp only [Act.put, List.getElem_toArray, List.getElem_cons_succ, List.getElem_cons_zero, List.setIfInBounds_toArray, List.set_cons_zero, List.set_cons_succ]
        refine wpAnyH_done (by kernel_rfl) (NoPanic.normal ?_) _
        go_wp2_with fail
        go_meet
        exact ⟨_, xo, xn, xc, rfl, LF⟩
    · go_simp
      refine hK.out _ _ (unhide KP _ (hHeld.1.more _)) (fun hHeld => ?_)
      clear hK K
      try simp only [Act.put, List.getElem_toArray, List.getElem_cons_succ, List.getElem_cons_zero, List.setIfInBounds_toArray, List.set_cons_zero, List.set_cons_succ]
      obtain ⟨y1, hy1⟩ : ∃ y, y = y0.alloc (.cells #[.int .u64 0, .int .u64 0, .slice none 0 0] 57) := ⟨_, rfl⟩
      have s1 : Hid (y1.heap.size = y0.heap.size + 1) := hide (by rw [hy1]; exact World.size_alloc _ _)
      have q1 : Hid (G y0 y1) := hide (by rw [hy1]; exact G.alloc _ _)
      have qz : Hid (G (y0.alloc (.cells #[.int .u64 0, .int .u64 0, .slice none 0 0] 57)) y1) := hide (by rw [hy1]; exact G.refl _)
      rw [← hy1] at hHeld ⊢
      clear hy1
      refine wpAnyH_ready (rs := [1, 9]) (by kernel_rfl) (by simp) ?_
      refine AllReadyH.cons rfl (fun K hK => ?_) (AllReadyH.cons rfl (fun K hK => ?_) AllReadyH.nil)
      · go_simp
        refine (unhide CR y1).mono ?_
        rintro e y2 ⟨v1, rfl, hL, hg⟩
        go_wp2_with fail
        refine hK.out _ _ (unhide KP _ (hHeld.1.trans hg)) (fun hHeld => ?_)
        clear hK K
        try simp only [Act.put, List.getElem_toArray, List.getElem_cons_succ, List.getElem_cons_zero, List.setIfInBounds_toArray, List.set_cons_zero, List.set_cons_succ]
        have s2 : Hid (y1.heap.size ≤ y2.heap.size) := hide hg.size
        have q2 : Hid (G y1 y2) := hide hg
        replace hL := hide hL
        clear hg
        refine wpAnyH_ready (rs := [2, 9]) (by kernel_rfl) (by simp) ?_
        refine AllReadyH.cons rfl (fun K hK => ?_) (AllReadyH.cons rfl (fun K hK => ?_) AllReadyH.nil)
        · go_simp
          refine (unhide SM y2 _ ((unhide hL).g (G.refl _))).mono ?_
          rintro e w' ⟨rfl, rfl⟩
          go_wp2_with fail
          refine hK.out _ _ hHeld (fun hHeld => ?_)
          clear hK K hL
          try simp only [Act.put, List.getElem_toArray, List.getElem_cons_succ, List.getElem_cons_zero, List.setIfInBounds_toArray, List.set_cons_zero, List.set_cons_succ]
          refine wpAnyH_ready (rs := [9]) (by kernel_rfl) (by simp) ?_
          refine AllReadyH.cons rfl (fun K hK => ?_) AllReadyH.nil
          go_simp
          refine hK.out _ _ (unhide KP _ (hHeld.1.more _)) (fun hHeld => ?_)
          clear hK K
          try simp only [Act.put, List.getElem_toArray, List.getElem_cons_succ, List.getElem_cons_zero, List.setIfInBounds_toArray, List.set_cons_zero, List.set_cons_succ]
          have hI := hide (unhide IL y2)
          obtain ⟨y3, hy3⟩ : ∃ y, y = y2.alloc (.cells #[.int .i64 ct] 3) := ⟨_, rfl⟩
          have s3 : Hid (y3.heap.size = y2.heap.size + 1) := hide (by rw [hy3]; exact World.size_alloc _ _)
          have q3 : Hid (G y2 y3) := hide (by rw [hy3]; exact G.alloc _ _)
          rw [← hy3] at hHeld ⊢
          rw [← hy3] at hI
          clear hy3
          refine wpAnyH_ready (rs := [10]) (by kernel_rfl) (by simp) ?_
          refine AllReadyH.cons rfl (fun K hK => ?_) AllReadyH.nil
          go_simp
          refine (unhide PL y3 _ ((unhide hI).g (G.refl _))).mono ?_
          rintro e y4 ⟨v2, rfl, hN, hg⟩
          obtain ⟨xo, xc, hv2, _⟩ := hN.1
          obtain ⟨xn, hxn⟩ : ∃ xn, xn = nx.length := ⟨_, rfl⟩
          rw [← hxn] at hv2
          subst hv2
          clear hxn
          go_wp2_with fail
          refine hK.out _ _ (unhide KP _ (hHeld.1.trans hg)) (fun hHeld => ?_)
          clear hK K hI
          try simp only [Act.put, List.getElem_toArray, List.getElem_cons_succ, List.getElem_cons_zero, List.setIfInBounds_toArray, List.set_cons_zero, List.set_cons_succ]
          have s4 : Hid (y3.heap.size ≤ y4.heap.size) := hide hg.size
          have q4 : Hid (G y3 y4) := hide hg
          replace hN := hide hN
          clear hg
          refine wpAnyH_take (i := 11) (v := .agg #[.int .u64 (R : Int), .int .u64 18446744073709551615, .slice xo xn xc]) rfl (by kernel_rfl) (by kernel_rfl) (by kernel_rfl) (fun _ _ _ h => h) (Or.inl ⟨by rfl, fun w hSw => by obtain ⟨t0, t1, t2, t3, t4, t5, t6, t7, t8, t9, t10, t11⟩ := hSw; go_simp⟩) (by assumption) ?_
          try simp only [Act.put, List.getElem_toArray, List.getElem_cons_succ, List.getElem_cons_zero, List.setIfInBounds_toArray, List.set_cons_zero, List.set_cons_succ]
          refine wpAnyH_ready (rs := [13]) (by kernel_rfl) (by simp) ?_
          refine AllReadyH.cons rfl (fun K hK => ?_) AllReadyH.nil
          have hgb : W1.heap.size ≤ y0.heap.size := by have u0 := unhide s0; have u1 := unhide s1; have u2 := unhide s2; have u3 := unhide s3; have u4 := unhide s4; omega
          have hho : y0.heap.size < y3.heap.size ∨ y4.heap.size ≤ y0.heap.size := by have u0 := unhide s0; have u1 := unhide s1; have u2 := unhide s2; have u3 := unhide s3; have u4 := unhide s4; omega
          have hh1 : W1.heap.size ≤ y3.heap.size := by have u0 := unhide s0; have u1 := unhide s1; have u2 := unhide s2; have u3 := unhide s3; have u4 := unhide s4; omega
          have LF := hide (nd_leaf R 18446744073709551615 hHeld.1 rfl hgb ((unhide qz).trans (((unhide q2).trans (unhide q3)).trans (unhide q4))) (unhide hN) hh1 (G.refl _) hho)
          have z0 := ((unhide qz).trans (((unhide q2).trans (unhide q3)).trans (unhide q4))).cell (x := ⟨y0.heap.size, 0, none⟩) (v := .int .u64 0) (by simp [go_sem])
          have f0 : y4.frozen? ⟨y0.heap.size, 0, none⟩ = false := (World.frozen?_of_block (((unhide qz).trans (((unhide q2).trans (unhide q3)).trans (unhide q4))).block y0.heap.size (by rw [World.size_alloc]; omega))).trans (by simp [go_sem])
          have z1 := ((unhide qz).trans (((unhide q2).trans (unhide q3)).trans (unhide q4))).cell (x := ⟨y0.heap.size, 1, none⟩) (v := .int .u64 0) (by simp [go_sem])
          have f1 : y4.frozen? ⟨y0.heap.size, 1, none⟩ = false := (World.frozen?_of_block (((unhide qz).trans (((unhide q2).trans (unhide q3)).trans (unhide q4))).block y0.heap.size (by rw [World.size_alloc]; omega))).trans (by simp [go_sem])
          have z2 := ((unhide qz).trans (((unhide q2).trans (unhide q3)).trans (unhide q4))).cell (x := ⟨y0.heap.size, 2, none⟩) (v := .slice none 0 0) (by simp [go_sem])
          have f2 : y4.frozen? ⟨y0.heap.size, 2, none⟩ = false := (World.frozen?_of_block (((unhide qz).trans (((unhide q2).trans (unhide q3)).trans (unhide q4))).block y0.heap.size (by rw [World.size_alloc]; omega))).trans (by simp [go_sem])
          clear hgb hho hh1 hN
          go_simp
          refine hK.out _ _ (unhide KP _ (unhide LF).g) (fun hHeld => ?_)
          clear hK K
          try simp only [Act.put, List.getElem_toArray, List.getElem_cons_succ, List.getElem_cons_zero, List.setIfInBounds_toArray, List.set_cons_zero, List.set_cons_succ]
          refine wpAnyH_done (by kernel_rfl) (NoPanic.normal ?_) _
          go_wp2_with fail
          go_meet
          exact ⟨_, xo, xn, xc, rfl, LF⟩
        · go_simp
          refine hK.out _ _ (unhide KP _ (hHeld.1.more _)) (fun hHeld => ?_)
          clear hK K
          try simp only [Act.put, List.getElem_toArray, List.getElem_cons_succ, List.getElem_cons_zero, List.setIfInBounds_toArray, List.set_cons_zero, List.set_cons_succ]
          have hI := hide (unhide IL y2)
          obtain ⟨y3, hy3⟩ : ∃ y, y = y2.alloc (.cells #[.int .i64 ct] 3) := ⟨_, rfl⟩
          have s3 : Hid (y3.heap.size = y2.heap.size + 1) := hide (by rw [hy3]; exact World.size_alloc _ _)
          have q3 : Hid (G y2 y3) := hide (by rw [hy3]; exact G.alloc _ _)
          rw [← hy3] at hHeld ⊢
          rw [← hy3] at hI
          clear hy3
          refine wpAnyH_ready (rs := [2]) (by kernel_rfl) (by simp) ?_
          refine AllReadyH.cons rfl (fun K hK => ?_) AllReadyH.nil
          go_simp
          refine (unhide SM y3 _ ((unhide hL).g (unhide q3))).mono ?_
          rintro e w' ⟨rfl, rfl⟩
          go_wp2_with fail
          refine hK.out _ _ hHeld (fun hHeld => ?_)
          clear hK K hL
          try simp only [Act.put, List.getElem_toArray, List.getElem_cons_succ, List.getElem_cons_zero, List.setIfInBounds_toArray, List.set_cons_zero, List.set_cons_succ]
          refine wpAnyH_ready (rs := [10]) (by kernel_rfl) (by simp) ?_
          refine AllReadyH.cons rfl (fun K hK => ?_) AllReadyH.nil
          go_simp
          refine (unhide PL y3 _ ((unhide hI).g (G.refl _))).mono ?_
          rintro e y4 ⟨v2, rfl, hN, hg⟩
          obtain ⟨xo, xc, hv2, _⟩ := hN.1
          obtain ⟨xn, hxn⟩ : ∃ xn, xn = nx.length := ⟨_, rfl⟩
          rw [← hxn] at hv2
          subst hv2
          clear hxn
          go_wp2_with fail
          refine hK.out _ _ (unhide KP _ (hHeld.1.trans hg)) (fun hHeld => ?_)
          clear hK K hI
          try simp only [Act.put, List.getElem_toArray, List.getElem_cons_succ, List.getElem_cons_zero, List.setIfInBounds_toArray, List.set_cons_zero, List.set_cons_succ]
          have s4 : Hid (y3.heap.size ≤ y4.heap.size) := hide hg.size
          have q4 : Hid (G y3 y4) := hide hg
          replace hN := hide hN
          clear hg
          refine wpAnyH_take (i := 11) (v := .agg #[.int .u64 (R : Int), .int .u64 18446744073709551615, .slice xo xn xc]) rfl (by kernel_rfl) (by kernel_rfl) (by kernel_rfl) (fun _ _ _ h => h) (Or.inl ⟨by rfl, fun w hSw => by obtain ⟨t0, t1, t2, t3, t4, t5, t6, t7, t8, t9, t10, t11⟩ := hSw; go_simp⟩) (by assumption) ?_
          try simp only [Act.put, List.getElem_toArray, List.getElem_cons_succ, List.getElem_cons_zero, List.setIfInBounds_toArray, List.set_cons_zero, List.set_cons_succ]
          refine wpAnyH_ready (rs := [13]) (by kernel_rfl) (by simp) ?_
          refine AllReadyH.cons rfl (fun K hK => ?_) AllReadyH.nil
          have hgb : W1.heap.size ≤ y0.heap.size := by have u0 := unhide s0; have u1 := unhide s1; have u2 := unhide s2; have u3 := unhide s3; have u4 := unhide s4; omega
          have hho : y0.heap.size < y3.heap.size ∨ y4.heap.size ≤ y0.heap.size := by have u0 := unhide s0; have u1 := unhide s1; have u2 := unhide s2; have u3 := unhide s3; have u4 := unhide s4; omega
          have hh1 : W1.heap.size ≤ y3.heap.size := by have u0 := unhide s0; have u1 := unhide s1; have u2 := unhide s2; have u3 := unhide s3; have u4 := unhide s4; omega
          have LF := hide (nd_leaf R 18446744073709551615 hHeld.1 rfl hgb ((unhide qz).trans (((unhide q2).trans (unhide q3)).trans (unhide q4))) (unhide hN) hh1 (G.refl _) hho)
          have z0 := ((unhide qz).trans (((unhide q2).trans (unhide q3)).trans (unhide q4))).cell (x := ⟨y0.heap.size, 0, none⟩) (v := .int .u64 0) (by simp [go_sem])
          have f0 : y4.frozen? ⟨y0.heap.size, 0, none⟩ = false := (World.frozen?_of_block (((unhide qz).trans (((unhide q2).trans (unhide q3)).trans (unhide q4))).block y0.heap.size (by rw [World.size_alloc]; omega))).trans (by simp [go_sem])
          have z1 := ((unhide qz).trans (((unhide q2).trans (unhide q3)).trans (unhide q4))).cell (x := ⟨y0.heap.size, 1, none⟩) (v := .int .u64 0) (by simp [go_sem])
          have f1 : y4.frozen? ⟨y0.heap.size, 1, none⟩ = false := (World.frozen?_of_block (((unhide qz).trans (((unhide q2).trans (unhide q3)).trans (unhide q4))).block y0.heap.size (by rw [World.size_alloc]; omega))).trans (by simp [go_sem])
          have z2 := ((unhide qz).trans (((unhide q2).trans (unhide q3)).trans (unhide q4))).cell (x := ⟨y0.heap.size, 2, none⟩) (v := .slice none 0 0) (by simp [go_sem])
          have f2 : y4.frozen? ⟨y0.heap.size, 2, none⟩ = false := (World.frozen?_of_block (((unhide qz).trans (((unhide q2).trans (unhide q3)).trans (unhide q4))).block y0.heap.size (by rw [World.size_alloc]; omega))).trans (by simp [go_sem])
          clear hgb hho hh1 hN
          go_simp
          refine hK.out _ _ (unhide KP _ (unhide LF).g) (fun hHeld => ?_)
          clear hK K
          try simp only [Act.put, List.getElem_toArray, List.getElem_cons_succ, List.getElem_cons_zero, List.setIfInBounds_toArray, List.set_cons_zero, List.set_cons_succ]
          refine wpAnyH_done (by kernel_rfl) (NoPanic.normal ?_) _
          go_wp2_with fail
          go_meet
          exact ⟨_, xo, xn, xc, rfl, LF⟩
      · go_simp
        refine hK.out _ _ (unhide KP _ (hHeld.1.more _)) (fun hHeld => ?_)
        clear hK K
        try simp only [Act.put, List.getElem_toArray, List.getElem_cons_succ, List.getElem_cons_zero, List.setIfInBounds_toArray, List.set_cons_zero, List.set_cons_succ]
        have hI := hide (unhide IL y1)
        obtain ⟨y2, hy2⟩ : ∃ y, y = y1.alloc (.cells #[.int .i64 ct] 3) := ⟨_, rfl⟩
        have s2 : Hid (y2.heap.size = y1.heap.size + 1) := hide (by rw [hy2]; exact World.size_alloc _ _)
        have q2 : Hid (G y1 y2) := hide (by rw [hy2]; exact G.alloc _ _)
        rw [← hy2] at hHeld ⊢
        rw [← hy2] at hI
        clear hy2
        refine wpAnyH_ready (rs := [1]) (by kernel_rfl) (by simp) ?_
        refine AllReadyH.cons rfl (fun K hK => ?_) AllReadyH.nil
        go_simp
        refine (unhide CR y2).mono ?_
        rintro e y3 ⟨v1, rfl, hL, hg⟩
        go_wp2_with fail
        refine hK.out _ _ (unhide KP _ (hHeld.1.trans hg)) (fun hHeld => ?_)
        clear hK K
        try simp only [Act.put, List.getElem_toArray, List.getElem_cons_succ, List.getElem_cons_zero, List.setIfInBounds_toArray, List.set_cons_zero, List.set_cons_succ]
        have s3 : Hid (y2.heap.size ≤ y3.heap.size) := hide hg.size
        have q3 : Hid (G y2 y3) := hide hg
        replace hL := hide hL
        clear hg
        refine wpAnyH_ready (rs := [2]) (by kernel_rfl) (by simp) ?_
        refine AllReadyH.cons rfl (fun K hK => ?_) AllReadyH.nil
        go_simp
        refine (unhide SM y3 _ ((unhide hL).g (G.refl _))).mono ?_
        rintro e w' ⟨rfl, rfl⟩
        go_wp2_with fail
        refine hK.out _ _ hHeld (fun hHeld => ?_)
        clear hK K hL
        try simp only [Act.put, List.getElem_toArray, List.getElem_cons_succ, List.getElem_cons_zero, List.setIfInBounds_toArray, List.set_cons_zero, List.set_cons_succ]
        refine wpAnyH_ready (rs := [10]) (by kernel_rfl) (by simp) ?_
        refine AllReadyH.cons rfl (fun K hK => ?_) AllReadyH.nil
        go_simp
        refine (unhide PL y3 _ ((unhide hI).g (unhide q3))).mono ?_
        rintro e y4 ⟨v2, rfl, hN, hg⟩
        obtain ⟨xo, xc, hv2, _⟩ := hN.1
        obtain ⟨xn, hxn⟩ : ∃ xn, xn = nx.length := ⟨_, rfl⟩
        rw [← hxn] at hv2
        subst hv2
        clear hxn
        go_wp2_with fail
        refine hK.out _ _ (unhide KP _ (hHeld.1.trans hg)) (fun hHeld => ?_)
        clear hK K hI
        try simp only [Act.put, List.getElem_toArray, List.getElem_cons_succ, List.getElem_cons_zero, List.setIfInBounds_toArray, List.set_cons_zero, List.set_cons_succ]
        have s4 : Hid (y3.heap.size ≤ y4.heap.size) := hide hg.size
        have q4 : Hid (G y3 y4) := hide hg
        replace hN := hide hN
        clear hg
        refine wpAnyH_take (i := 11) (v := .agg #[.int .u64 (R : Int), .int .u64 18446744073709551615, .slice xo xn xc]) rfl (by kernel_rfl) (by kernel_rfl) (by kernel_rfl) (fun _ _ _ h => h) (Or.inl ⟨by rfl, fun w hSw => by obtain ⟨t0, t1, t2, t3, t4, t5, t6, t7, t8, t9, t10, t11⟩ := hSw; go_simp⟩) (by assumption) ?_
        try simp only [Act.put, List.getElem_toArray, List.getElem_cons_succ, List.getElem_cons_zero, List.setIfInBounds_toArray, List.set_cons_zero, List.set_cons_succ]
        refine wpAnyH_ready (rs := [13]) (by kernel_rfl) (by simp) ?_
        refine AllReadyH.cons rfl (fun K hK => ?_) AllReadyH.nil
        have hgb : W1.heap.size ≤ y0.heap.size := by have u0 := unhide s0; have u1 := unhide s1; have u2 := unhide s2; have u3 := unhide s3; have u4 := unhide s4; omega
        have hho : y0.heap.size < y3.heap.size ∨ y4.heap.size ≤ y0.heap.size := by have u0 := unhide s0; have u1 := unhide s1; have u2 := unhide s2; have u3 := unhide s3; have u4 := unhide s4; omega
        have hh1 : W1.heap.size ≤ y3.heap.size := by have u0 := unhide s0; have u1 := unhide s1; have u2 := unhide s2; have u3 := unhide s3; have u4 := unhide s4; omega
        have LF := hide (nd_leaf R 18446744073709551615 hHeld.1 rfl hgb ((unhide qz).trans (((unhide q2).trans (unhide q3)).trans (unhide q4))) (unhide hN) hh1 (G.refl _) hho)
        have z0 := ((unhide qz).trans (((unhide q2).trans (unhide q3)).trans (unhide q4))).cell (x := ⟨y0.heap.size, 0, none⟩) (v := .int .u64 0) (by simp [go_sem])
        have f0 : y4.frozen? ⟨y0.heap.size, 0, none⟩ = false := (World.frozen?_of_block (((unhide qz).trans (((unhide q2).trans (unhide q3)).trans (unhide q4))).block y0.heap.size (by rw [World.size_alloc]; omega))).trans (by simp [go_sem])
        have z1 := ((unhide qz).trans (((unhide q2).trans (unhide q3)).trans (unhide q4))).cell (x := ⟨y0.heap.size, 1, none⟩) (v := .int .u64 0) (by simp [go_sem])
        have f1 : y4.frozen? ⟨y0.heap.size, 1, none⟩ = false := (World.frozen?_of_block (((unhide qz).trans (((unhide q2).trans (unhide q3)).trans (unhide q4))).block y0.heap.size (by rw [World.size_alloc]; omega))).trans (by simp [go_sem])
        have z2 := ((unhide qz).trans (((unhide q2).trans (unhide q3)).trans (unhide q4))).cell (x := ⟨y0.heap.size, 2, none⟩) (v := .slice none 0 0) (by simp [go_sem])
        have f2 : y4.frozen? ⟨y0.heap.size, 2, none⟩ = false := (World.frozen?_of_block (((unhide qz).trans (((unhide q2).trans (unhide q3)).trans (unhide q4))).block y0.heap.size (by rw [World.size_alloc]; omega))).trans (by simp [go_sem])
        clear hgb hho hh1 hN
        go_simp
        refine hK.out _ _ (unhide KP _ (unhide LF).g) (fun hHeld => ?_)
        clear hK K
        try simp only [Act.put, List.getElem_toArray, List.getElem_cons_succ, List.getElem_cons_zero, List.setIfInBounds_toArray, List.set_cons_zero, List.set_cons_succ]
        refine wpAnyH_done (by kernel_rfl) (NoPanic.normal ?_) _
        go_wp2_with fail
        go_meet
        exact ⟨_, xo, xn, xc, rfl, LF⟩
  case rest =>
    obtain ⟨gb, xo, xn, xc, rfl, H⟩ := hcut
    have hK0 := unhide KP wc (unhide H).g
    obtain ⟨_, k0, k1, k2, k3, _⟩ := hK0
    clear KP CR SM PL IL
    by_cases h0 : ck = 0
    · have hkk : KK = notU M := (unhide KPC).1 h0
      subst hkk
      have C2 := hide (unhide SM2 wc)
      have H2 := hide ((unhide H).more (G.alloc wc (.cells #[.int .i64 cv] 3)))
      obtain ⟨X, hX⟩ : ∃ X, X = wc.alloc (.cells #[.int .i64 cv] 3) := ⟨_, rfl⟩
      rw [← hX] at C2 H2
      have H3 := hide ((unhide H2).kept (notU M))
      have p1 := (unhide H2).c1
      have fz1 := (unhide H2).fz 1
      obtain ⟨Y, hY⟩ : ∃ Y, Y = X.setCell ⟨gb, 1, none⟩ (.int .u64 (notU M : Int)) := ⟨_, rfl⟩
      rw [← hY] at H3
      have d0 := (unhide H3).c0
      have d1 := (unhide H3).c1
      have d2 := (unhide H3).c2
      obtain ⟨⟨r0, g0⟩, ⟨r1, g1⟩, ⟨r2, g2⟩⟩ := unhide KR Y (unhide H3).g
      have OUT := hide ((unhide H3).out (unhide gW) (show w.heap.size ≤ w.heap.size + 1 by omega) (by have := unhide hs1; omega))
      have hs : IntKind.u64.signed = false := rfl
      have en2 := unhide en
      subst h0
      replace hY := hide hY
      clear H H2 H3 SM2 KR KPC hs1 gW
      go_upto_region 3 with fail
      go_upto_region 4 with (go_at_call 33; rw [← hX]; clear hX; refine (unhide C2).mono ?_; rintro e w' ⟨rfl, rfl⟩; clear C2)
      rw [← unhide hY]
      clear hY p1 fz1
      go_wp2_with fail
      refine bodyPost_ret (by simp [results, Tryz.results73, go_sem, r0, r1, r2]; try rfl) rfl ?_
      exact unhide OUT
    · have hkk : KK = 18446744073709551615 := (unhide KPC).2 h0
      subst hkk
      have b0 : (ck == 0) = false := beq_eq_false_iff_ne.2 h0
      have d0 := (unhide H).c0
      have d1 := (unhide H).c1
      have d2 := (unhide H).c2
      obtain ⟨⟨r0, g0⟩, ⟨r1, g1⟩, ⟨r2, g2⟩⟩ := unhide KR wc (unhide H).g
      have OUT := hide ((unhide H).out (unhide gW) (show w.heap.size ≤ w.heap.size + 1 by omega) (by have := unhide hs1; omega))
      clear H SM2 KR KPC hs1 gW en h0
      go_wp2_with fail
      refine bodyPost_ret (by simp [results, Tryz.results73, go_sem, r0, r1, r2]; try rfl) rfl ?_
      exact unhide OUT
theorem caseC : CaseC := fun w gB f ko kc io ic mo mc e0 e1 e2 e3 e4 e5 e6 ck cc cv ct oc => caseNode_raw w gB f ko kc io ic mo mc e0 e1 e2 e3 e4 e5 e6 ck cc cv ct oc
end Go.Proofs.YtnliooflpclcbaaGreatDoor
