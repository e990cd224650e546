/- The document's own Show (gantlineref9.Show). -/
import Derived.Test.YtfbochlohalimaaDoorCodeText2
import Derived.Deep.DeepCutAuto
import Derived.Test.YtfbochlohalimaaDoorCodeHeld
namespace Go.Proofs.YtfbochlohalimaaDoor
set_option maxRecDepth 100000
open Go.RowKit Go.Maps Go.ChangeShapes Go.WideShapes Go.ChangeAt Go.Deep

set_option maxHeartbeats 1000000 in
theorem rshow_out (w : World) (i : In) (h : i.op < 0 ∨ 44 < i.op) :
    Calls Tryd.prog 20 #[.agg #[.int .i64 i.op, .int .i64 i.a, .int .i64 i.b, .int .i64 i.c, .int .i64 i.d]] w fun e w' => e = .returned (.string ⟨(showP i).toArray⟩) ∧ G w w' := by
  have e : showP i = [] := by unfold showP; rw [rows_out i.op h]; rfl
  rw [e]
  by_cases hl : i.op < 0
  · go_enter Tryd.func20, Tryd.ntmps20
    go_wp2_with fail
    go_ret
    exact ⟨rfl, (G.refl w).more _⟩
  · have hh : 44 < i.op := by omega
    go_enter Tryd.func20, Tryd.ntmps20
    go_wp2_with fail
    go_ret
    exact ⟨rfl, (G.refl w).more _⟩

set_option maxHeartbeats 2000000 in
theorem rshow_in (w : World) (i : In) (j : Nat) (hj : i.op = (j : Int)) (hj45 : j < 45) (hi : oIn i) :
    Calls Tryd.prog 20 #[.agg #[.int .i64 i.op, .int .i64 i.a, .int .i64 i.b, .int .i64 i.c, .int .i64 i.d]] w fun e w' => e = .returned (.string ⟨(showP i).toArray⟩) ∧ G w w' := by
  have hle := ops_le i.op
  have hr := rows_get i.op (by omega) (by omega)
  rw [hj, Int.toNat_natCast] at hr
  have RO := hide (fun W => rrows_any W)
  have IT := hide (fun W (v : Int) (hv : oI v) => text_any v hv W)
  have SH : Hid (showP i = (rwOf i.op).nm ++ opsP ([i.a, i.b, i.c, i.d].take (rwOf i.op).ops)) := hide rfl
  have hnm := nm_le i.op
  have SZ : Hid (∀ k, k ≤ 4 → (⟨((rwOf i.op).nm ++ opsP ([i.a, i.b, i.c, i.d].take k)).toArray⟩ : ByteArray).size ≤ 1000) := hide fun k hk => by
    have h1 := ops_len ([i.a, i.b, i.c, i.d].take k) (fun v hv => by
      have hm := List.mem_of_mem_take hv
      obtain ⟨o0, o1, o2, o3, o4⟩ := hi
      simp at hm
      rcases hm with rfl | rfl | rfl | rfl
      · exact o1
      · exact o2
      · exact o3
      · exact o4)
    have h2 : ([i.a, i.b, i.c, i.d].take k).length ≤ 4 := by simp; omega
    show ((rwOf i.op).nm ++ opsP ([i.a, i.b, i.c, i.d].take k)).toArray.size ≤ 1000
    simp only [List.size_toArray, List.length_append]
    omega
  rw [hj] at hle hnm SH SZ
  have HI := hide hi
  generalize rwOf (j : Int) = r at *
  obtain ⟨n, hn⟩ : ∃ n, n = r.ops := ⟨_, rfl⟩
  rw [← hn] at hle SH
  have HR := hide (fun W b (h : RRows W b) => (show W.cell? ⟨b, j * 2, none⟩ = some (.string ⟨r.nm.toArray⟩) ∧ W.cell? ⟨b, j * 2 + 1, none⟩ = some (.int .i64 (n : Int)) by rw [hn]; exact h j r hr))
  rw [hj]
  have h0 : ¬ (j : Int) < 0 := by omega
  have h44 : ¬ (44 : Int) < (j : Int) := by omega
  have hji : (j : Int) < 45 := by omega
  clear hn hr hi hnm hj
  go_enter Tryd.func20, Tryd.ntmps20
  go_upto_region 3 with fail
  obtain ⟨W1, hW1⟩ : ∃ W1, W1 = w.alloc (.cells #[.int .i64 (j : Int), .int .i64 i.a, .int .i64 i.b, .int .i64 i.c, .int .i64 i.d] 42) := ⟨_, rfl⟩
  have g1 : G w W1 := by rw [hW1]; exact G.alloc _ _
  have c0 : W1.cell? ⟨w.heap.size, 0, none⟩ = some (.int .i64 (j : Int)) := by rw [hW1]; simp [go_sem]
  have c1 : W1.cell? ⟨w.heap.size, 1, none⟩ = some (.int .i64 i.a) := by rw [hW1]; simp [go_sem]
  have c2 : W1.cell? ⟨w.heap.size, 2, none⟩ = some (.int .i64 i.b) := by rw [hW1]; simp [go_sem]
  have c3 : W1.cell? ⟨w.heap.size, 3, none⟩ = some (.int .i64 i.c) := by rw [hW1]; simp [go_sem]
  have c4 : W1.cell? ⟨w.heap.size, 4, none⟩ = some (.int .i64 i.d) := by rw [hW1]; simp [go_sem]
  rw [← hW1]
  clear hW1
  have e0 := fun o => (G.alloc W1 o).cell c0
  replace g1 := hide g1
  go_cut [3] (fun p wx => ∃ X, p = .pointer (some ⟨X, 0, none⟩) ∧ wx.cell? ⟨X, 0, none⟩ = some (.string ⟨r.nm.toArray⟩) ∧ wx.cell? ⟨X, 1, none⟩ = some (.int .i64 (n : Int)) ∧ Hid (G W1 wx))
  case first =>
    have KP : Hid (∀ x, G W1 x → G W1 x ∧ x.cell? ⟨w.heap.size, 0, none⟩ = some (.int .i64 (j : Int))) := hide fun x gx => ⟨gx, gx.cell c0⟩
    clear c1 c2 c3 c4 IT SH SZ HI
    refine wp_region_noPanic ?_
    refine wp_region_held_drew (S := fun x => G W1 x ∧ x.cell? ⟨w.heap.size, 0, none⟩ = some (.int .i64 (j : Int))) (by kernel_rfl) (unhide KP _ ((G.refl W1).drew)) (fun hHeld => ?_)
    refine wpAnyH_take (i := 1) (v := .pointer (some ⟨w.heap.size, 0, none⟩)) rfl (by kernel_rfl) (by kernel_rfl) (by kernel_rfl) (fun _ _ _ h => h) (Or.inl ⟨by rfl, fun w hSw => by obtain ⟨t0, t1⟩ := hSw; go_simp⟩) (by assumption) ?_
    try simp only [Act.put, List.getElem_toArray, List.getElem_cons_succ, List.getElem_cons_zero, List.setIfInBounds_toArray, List.set_cons_zero, List.set_cons_succ]
    refine wpAnyH_take (i := 2) (v := .int .i64 (j : Int)) rfl (by kernel_rfl) (by kernel_rfl) (by kernel_rfl) (fun _ _ _ h => h) (Or.inl ⟨by rfl, fun w hSw => by obtain ⟨t0, t1⟩ := hSw; go_simp⟩) (by assumption) ?_
    try simp only [Act.put, List.getElem_toArray, List.getElem_cons_succ, List.getElem_cons_zero, List.setIfInBounds_toArray, List.set_cons_zero, List.set_cons_succ]
    refine wpAnyH_ready (rs := [0, 5]) (by kernel_rfl) (by simp) ?_
    refine AllReadyH.cons rfl (fun K hK => ?_) (AllReadyH.cons rfl (fun K hK => ?_) AllReadyH.nil)
    · go_simp
      refine (unhide RO _).mono ?_
      rintro e w2 ⟨rfl, hR, hg⟩
      obtain ⟨q0, q1⟩ := unhide HR _ _ hR
      have b0 := World.block_lt_of_cell? _ _ q0
      change w2.cell? ⟨W1.heap.size, j * 2, none⟩ = _ at q0
      change w2.cell? ⟨W1.heap.size, j * 2 + 1, none⟩ = _ at q1
      have h2 := unhide KP w2 ((G.refl W1).drew.trans hg)
      have K2 : Hid (∀ x, G w2 x → G w2 x ∧ x.cell? ⟨W1.heap.size, j * 2, none⟩ = some (.string ⟨r.nm.toArray⟩) ∧ x.cell? ⟨W1.heap.size, j * 2 + 1, none⟩ = some (.int .i64 (n : Int))) := hide fun x gx => ⟨gx, gx.cell q0, gx.cell q1⟩
      go_wp2_with fail
      refine hK.out _ _ h2 (fun hHeld => ?_)
      clear hK K
      try simp only [Act.put, List.getElem_toArray, List.getElem_cons_succ, List.getElem_cons_zero, List.setIfInBounds_toArray, List.set_cons_zero, List.set_cons_succ]
      refine held_more (S' := fun x => G w2 x ∧ x.cell? ⟨W1.heap.size, j * 2, none⟩ = some (.string ⟨r.nm.toArray⟩) ∧ x.cell? ⟨W1.heap.size, j * 2 + 1, none⟩ = some (.int .i64 (n : Int))) (fun x h => unhide KP x (h2.1.trans h.1)) _ _ _ _ ?_
      have hHeld2 := unhide K2 w2 (G.refl _)
      refine wpAnyH_take (i := 3) (v := .pointer (some ⟨W1.heap.size, j * 2, none⟩)) rfl (by kernel_rfl) (by kernel_rfl) (by kernel_rfl) (fun _ _ _ h => h) (Or.inl ⟨by rfl, fun w hSw => by obtain ⟨t0, t1, t2⟩ := hSw; go_simp⟩) (by assumption) ?_
      try simp only [Act.put, List.getElem_toArray, List.getElem_cons_succ, List.getElem_cons_zero, List.setIfInBounds_toArray, List.set_cons_zero, List.set_cons_succ]
      refine wpAnyH_take (i := 4) (v := .agg #[.string ⟨r.nm.toArray⟩, .int .i64 (n : Int)]) rfl (by kernel_rfl) (by kernel_rfl) (by kernel_rfl) (fun _ _ _ h => h) (Or.inl ⟨by rfl, fun w hSw => by obtain ⟨t0, t1, t2⟩ := hSw; go_simp⟩) (by assumption) ?_
      try simp only [Act.put, List.getElem_toArray, List.getElem_cons_succ, List.getElem_cons_zero, List.setIfInBounds_toArray, List.set_cons_zero, List.set_cons_succ]
      refine wpAnyH_ready (rs := [5]) (by kernel_rfl) (by simp) ?_
      refine AllReadyH.cons rfl (fun K hK => ?_) AllReadyH.nil
      go_simp
      refine hK.out _ _ (unhide K2 _ (G.alloc _ _)) (fun hHeld => ?_)
      clear hK K
      try simp only [Act.put, List.getElem_toArray, List.getElem_cons_succ, List.getElem_cons_zero, List.setIfInBounds_toArray, List.set_cons_zero, List.set_cons_succ]
      refine wpAnyH_ready (rs := [6]) (by kernel_rfl) (by simp) ?_
      refine AllReadyH.cons rfl (fun K hK => ?_) AllReadyH.nil
      go_simp
      refine hK.out _ _ (unhide K2 _ (G.alloc _ _)) (fun hHeld => ?_)
      clear hK K
      try simp only [Act.put, List.getElem_toArray, List.getElem_cons_succ, List.getElem_cons_zero, List.setIfInBounds_toArray, List.set_cons_zero, List.set_cons_succ]
      refine wpAnyH_done (by kernel_rfl) (NoPanic.normal ?_) _
      go_wp2_with fail
      go_meet
      exact ⟨w2.heap.size, rfl, by simp [go_sem], by simp [go_sem], hide (h2.1.trans (G.alloc _ _))⟩
    · go_simp
      refine hK.out _ _ (unhide KP _ (((G.refl W1).more _).drew)) (fun hHeld => ?_)
      clear hK K
      try simp only [Act.put, List.getElem_toArray, List.getElem_cons_succ, List.getElem_cons_zero, List.setIfInBounds_toArray, List.set_cons_zero, List.set_cons_succ]
      refine wpAnyH_ready (rs := [0]) (by kernel_rfl) (by simp) ?_
      refine AllReadyH.cons rfl (fun K hK => ?_) AllReadyH.nil
      go_simp
      refine (unhide RO _).mono ?_
      rintro e w2 ⟨rfl, hR, hg⟩
      obtain ⟨q0, q1⟩ := unhide HR _ _ hR
      have hsz : (W1.alloc (.cells #[.string ⟨#[]⟩, .int .i64 0] 85)).drew.heap.size = W1.heap.size + 1 := World.size_alloc _ _
      rw [hsz] at q0 q1
      have h2 := unhide KP w2 (((G.refl W1).more _).drew.trans hg)
      have z0 := hg.cell (x := ⟨W1.heap.size, 0, none⟩) (v := .string ⟨#[]⟩) (by simp [go_sem])
      have z1 := hg.cell (x := ⟨W1.heap.size, 1, none⟩) (v := .int .i64 0) (by simp [go_sem])
      have y0 : w2.frozen? ⟨W1.heap.size, 0, none⟩ = false := (World.frozen?_of_block (hg.block W1.heap.size (by rw [hsz]; omega))).trans (by simp [go_sem])
      have y1 : w2.frozen? ⟨W1.heap.size, 1, none⟩ = false := (World.frozen?_of_block (hg.block W1.heap.size (by rw [hsz]; omega))).trans (by simp [go_sem])
      have K2 : Hid (∀ x, G w2 x → G W1 x ∧ x.cell? ⟨W1.heap.size + 1, j * 2, none⟩ = some (.string ⟨r.nm.toArray⟩) ∧ x.cell? ⟨W1.heap.size + 1, j * 2 + 1, none⟩ = some (.int .i64 (n : Int))) := hide fun x gx => ⟨h2.1.trans gx, gx.cell q0, gx.cell q1⟩
      go_wp2_with fail
      refine hK.out _ _ h2 (fun hHeld => ?_)
      clear hK K
      try simp only [Act.put, List.getElem_toArray, List.getElem_cons_succ, List.getElem_cons_zero, List.setIfInBounds_toArray, List.set_cons_zero, List.set_cons_succ]
      refine held_more (S' := fun x => G W1 x ∧ x.cell? ⟨W1.heap.size + 1, j * 2, none⟩ = some (.string ⟨r.nm.toArray⟩) ∧ x.cell? ⟨W1.heap.size + 1, j * 2 + 1, none⟩ = some (.int .i64 (n : Int))) (fun x h => unhide KP x h.1) _ _ _ _ ?_
      have hHeld2 := unhide K2 w2 (G.refl _)
      refine wpAnyH_take (i := 3) (v := .pointer (some ⟨W1.heap.size + 1, j * 2, none⟩)) rfl (by kernel_rfl) (by kernel_rfl) (by kernel_rfl) (fun _ _ _ h => h) (Or.inl ⟨by rfl, fun w hSw => by obtain ⟨t0, t1, t2⟩ := hSw; go_simp⟩) (by assumption) ?_
      try simp only [Act.put, List.getElem_toArray, List.getElem_cons_succ, List.getElem_cons_zero, List.setIfInBounds_toArray, List.set_cons_zero, List.set_cons_succ]
      refine wpAnyH_take (i := 4) (v := .agg #[.string ⟨r.nm.toArray⟩, .int .i64 (n : Int)]) rfl (by kernel_rfl) (by kernel_rfl) (by kernel_rfl) (fun _ _ _ h => h) (Or.inl ⟨by rfl, fun w hSw => by obtain ⟨t0, t1, t2⟩ := hSw; go_simp⟩) (by assumption) ?_
      try simp only [Act.put, List.getElem_toArray, List.getElem_cons_succ, List.getElem_cons_zero, List.setIfInBounds_toArray, List.set_cons_zero, List.set_cons_succ]
      refine wpAnyH_ready (rs := [6]) (by kernel_rfl) (by simp) ?_
      refine AllReadyH.cons rfl (fun K hK => ?_) AllReadyH.nil
      go_simp
      refine hK.out _ _ ⟨((h2.1.set _ _ _ (Nat.le_refl _)).set _ _ _ (Nat.le_refl _)), by rw [cell_other _ (Or.inl (Nat.succ_ne_self _)), cell_other _ (Or.inl (Nat.succ_ne_self _))]; exact q0, by rw [cell_other _ (Or.inl (Nat.succ_ne_self _)), cell_other _ (Or.inl (Nat.succ_ne_self _))]; exact q1⟩ (fun hHeld => ?_)
      clear hK K
      try simp only [Act.put, List.getElem_toArray, List.getElem_cons_succ, List.getElem_cons_zero, List.setIfInBounds_toArray, List.set_cons_zero, List.set_cons_succ]
      refine wpAnyH_done (by kernel_rfl) (NoPanic.normal ?_) _
      go_wp2_with fail
      go_meet
      exact ⟨W1.heap.size, rfl, by rw [cell_other _ (Or.inr (by decide))]; exact cell_same _ z0, by refine cell_same _ (u := .int .i64 0) ?_; rw [cell_other _ (Or.inr (by decide))]; exact z1, hide ((h2.1.set _ _ _ (Nat.le_refl _)).set _ _ _ (Nat.le_refl _))⟩
  case rest =>
    obtain ⟨X, rfl, x0, x1, gX⟩ := hcut
    have d1 := (unhide gX).cell c1
    have d2 := (unhide gX).cell c2
    have d3 := (unhide gX).cell c3
    have d4 := (unhide gX).cell c4
    clear c0 c1 c2 c3 c4 e0 RO HR
    replace gX := hide ((unhide g1).trans (unhide gX))
    clear g1
    have ST : Hid ((⟨r.nm.toArray⟩ : ByteArray) = ⟨(r.nm ++ opsP ([i.a, i.b, i.c, i.d].take 0)).toArray⟩) := hide (by simp [opsP])
    have AR : Hid (∀ (W : World), G (wc.alloc (.cells #[.int .i64 i.a, .int .i64 i.b, .int .i64 i.c, .int .i64 i.d] 3)) W → G w W ∧ W.cell? ⟨X, 1, none⟩ = some (.int .i64 (n : Int)) ∧ ∀ (k : Nat) (v : Int), [i.a, i.b, i.c, i.d][k]? = some v → W.cell? ⟨wc.heap.size, k, none⟩ = some (.int .i64 v)) := hide fun W gW => by
      refine ⟨((unhide gX).more _).trans gW, gW.cell ((G.alloc wc _).cell x1), fun k v hk => gW.cell ?_⟩
      match k, hk with
      | 0, hk => simp at hk; rw [← hk]; simp [go_sem]
      | 1, hk => simp at hk; rw [← hk]; simp [go_sem]
      | 2, hk => simp at hk; rw [← hk]; simp [go_sem]
      | 3, hk => simp at hk; rw [← hk]; simp [go_sem]
    go_wp2_with fail
    go_loopw [4, 6] (fun t j wr => ∃ k : Nat, k ≤ n ∧ j = .int .i64 k ∧ t = .string ⟨(r.nm ++ opsP ([i.a, i.b, i.c, i.d].take k)).toArray⟩ ∧ Hid (G (wc.alloc (.cells #[.int .i64 i.a, .int .i64 i.b, .int .i64 i.c, .int .i64 i.d] 3)) wr)) (fun _ j _ => n - (intOf j).toNat)
    case atStart => exact ⟨0, Nat.zero_le _, rfl, by rw [← unhide ST], hide (G.refl _)⟩
    case round =>
      obtain ⟨k, hk, rfl, rfl, HG⟩ := hrel
      clear d1 d2 d3 d4 ST x0 x1 gX
      obtain ⟨gw, hx1, hcl⟩ := unhide AR wr (unhide HG)
      by_cases hlt : k < n
      · obtain ⟨v, hv, ov⟩ : ∃ v, [i.a, i.b, i.c, i.d][k]? = some v ∧ oI v := by
          have h4 : k < 4 := by omega
          obtain ⟨o0, o1, o2, o3, o4⟩ := unhide HI
          match k, h4 with
          | 0, _ => exact ⟨_, rfl, o1⟩
          | 1, _ => exact ⟨_, rfl, o2⟩
          | 2, _ => exact ⟨_, rfl, o3⟩
          | 3, _ => exact ⟨_, rfl, o4⟩
        have hc := hcl k v hv
        have C := hide (unhide IT wr v ov)
        have hz0 := unhide SZ k (by omega)
        have hz1 : (⟨(Lib.itoa v).toArray⟩ : ByteArray).size ≤ 21 := by
          show (Lib.itoa v).toArray.size ≤ 21
          simpa using Lib.itoa_length_le v ov.1 ov.2
        have NX : Hid (((⟨(r.nm ++ opsP ([i.a, i.b, i.c, i.d].take k)).toArray⟩ : ByteArray) ++ (⟨#[32]⟩ : ByteArray)) ++ ⟨(Lib.itoa v).toArray⟩ = ⟨(r.nm ++ opsP ([i.a, i.b, i.c, i.d].take (k + 1))).toArray⟩) := hide (by
          rw [ops_next _ k v hv, show (⟨#[32]⟩ : ByteArray) = ⟨[32].toArray⟩ from rfl, ba_append, ba_append]
          simp)
        have hk4 : (k : Int) < 4 := by omega
        have hkn : (k : Int) < (n : Int) := by omega
        generalize (⟨(r.nm ++ opsP ([i.a, i.b, i.c, i.d].take k)).toArray⟩ : ByteArray) = T0 at *
        generalize (⟨(Lib.itoa v).toArray⟩ : ByteArray) = T1 at *
        clear hcl hv ov gw
        go_wp2_with fail
        refine (unhide C).mono ?_
        rintro e w2 ⟨rfl, hg⟩
        have HG2 := hide ((unhide HG).trans hg)
        clear hg C HG hc
        go_wp2_with fail
        go_roundw
        case rel => exact ⟨k + 1, by omega, by go_num, by rw [unhide NX], HG2⟩
        case measure => simp [intOf]; omega
      · obtain rfl : k = n := by omega
        replace gw := hide gw
        clear hcl HG AR IT SZ
        go_wp2_with fail
        go_ret
        refine ⟨?_, unhide gw⟩
        rw [unhide SH]
        rfl

theorem rshow_any (w : World) (i : In) (hi : oIn i) :
    Calls Tryd.prog 20 #[.agg #[.int .i64 i.op, .int .i64 i.a, .int .i64 i.b, .int .i64 i.c, .int .i64 i.d]] w fun e w' => e = .returned (.string ⟨(showP i).toArray⟩) ∧ G w w' := by
  by_cases h : i.op < 0 ∨ 44 < i.op
  · exact rshow_out w i h
  · exact rshow_in w i i.op.toNat (by omega) (by omega) hi
end Go.Proofs.YtfbochlohalimaaDoor
