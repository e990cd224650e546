/- awake() of package gantlinelaw7 answers true. -/
import Derived.Test.YtinehimleldkdaaGreatDoorMgT
import Derived.Deep.RegionHeld3
namespace Go.Proofs.YtinehimleldkdaaGreatDoor
set_option maxRecDepth 100000
open Go.ChangeShapes Go.WideShapes Go.ChangeAt Go.RowKit Go.Maps Go.Deep

/-- Two things: one field, to the second; none. -/
def lA : List Th := [⟨1, 0, [1]⟩, ⟨0, 0, []⟩]
def oA (w : World) : World := (w.alloc (.cells #[.int .i64 1] 3)).alloc (.cells #[.int .i64 1, .int .i64 0, .slice (some ⟨w.heap.size, 0, none⟩) 1 1, .int .i64 0, .int .i64 0, .slice none 0 0] 51)
theorem ths_lA (w : World) : ThsAt (oA w) (some ⟨w.heap.size + 1, 0, none⟩) lA := by
  unfold oA
  obtain ⟨w1, h1⟩ : ∃ w1, w.alloc (.cells #[.int .i64 1] 3) = w1 := ⟨_, rfl⟩
  have hs : w1.heap.size = w.heap.size + 1 := by rw [← h1, World.size_alloc]
  have hc : w1.cell? ⟨w.heap.size, 0, none⟩ = some (.int .i64 1) := by rw [← h1]; exact World.cell?_alloc_new _ _ _ 0
  rw [h1]
  refine Or.inr ⟨w.heap.size + 1, 0, rfl, fun i t hi => ?_⟩
  rw [← hs]
  match i, hi with
  | 0, hi =>
    cases hi
    refine ⟨by rw [World.cell?_alloc_new]; rfl, by rw [World.cell?_alloc_new]; rfl, some ⟨w.heap.size, 0, none⟩, 1, by rw [World.cell?_alloc_new]; rfl, Or.inr ⟨w.heap.size, 0, rfl, by rw [World.size_alloc]; omega, fun j x hj => ?_⟩⟩
    match j, hj with
    | 0, hj => cases hj; exact (G.alloc w1 _).cell hc
    | j + 1, hj => simp at hj
  | 1, hi =>
    cases hi
    exact ⟨by rw [World.cell?_alloc_new]; rfl, by rw [World.cell?_alloc_new]; rfl, none, 0, by rw [World.cell?_alloc_new]; rfl, Or.inl rfl⟩
  | i + 2, hi => simp [lA] at hi

theorem reach_two {is : Int → Bool} {F : Int → List Int} {fnd : List Int} {x y : Int} (hxy : x < y) (hx : is x = true) (hy : is y = true) (fx : F x = [y]) (fy : F y = []) (ha : Asc fnd) (hm : ∀ z, z ∈ fnd ↔ Rch is F [x] z) : fnd = [x, y] := by
  refine Asc.ext ha (by simp; exact hxy) fun z => ?_
  rw [hm z]
  constructor
  · intro h
    refine Rch.least (P := fun z => z ∈ [x, y]) (fun z hz _ => by simp at hz ⊢; exact Or.inl hz) (fun a b h1 h2 _ => ?_) h
    simp at h1
    rcases h1 with e | e
    · rw [e, fx] at h2; simp at h2 ⊢; exact Or.inr h2
    · rw [e, fy] at h2; cases h2
  · intro h
    have r0 : Rch is F [x] x := .root (by simp) hx
    simp at h
    rcases h with e | e
    · rw [e]; exact r0
    · rw [e]; exact .step r0 (by rw [fx]; simp) hy

set_option maxHeartbeats 4000000 in
theorem awake7_core (world_any : WorldC) (w : World) (ht : Hid (Tab w)) (al : Al) (M1 M2 M3 : Ms) (hal : Hid (wld 8 lA = (al, [64, 66]))) (o : Hid (∀ y, wfI (al.a.wd y))) (e1 : Hid ((⟨al, kinds, []⟩ : Ms).flds 64 = [66])) (e2 : Hid ((⟨al, kinds, []⟩ : Ms).flds 66 = []))
    (i1 : Hid (al.a.is 64 = true)) (i2 : Hid (al.a.is 66 = true)) (b1 : Hid (al.a.markB 64 = true)) (s1 : Hid ((⟨al, kinds, []⟩ : Ms).shade 64 = M1)) (g1 : Hid (M1.g = [64])) (s2 : Hid (M1.step = M2)) (g2 : Hid (M2.g = [66])) (b2 : Hid (M2.al.a.markB 66 = false)) (s3 : Hid (M2.shade 66 = M3)) (k : Nat) (m3 : Hid (M3.al.a.mrI 1 = k)) (hk : ((k : Int) != 0) = true) :
    Calls Tryz.prog 8 #[] w fun e w' => e = .returned (.bool true) ∧ G w w' := by
  have gA : Hid (G w (oA w)) := hide ((G.alloc _ _).more _)
  have T := hide ((unhide ht).later (unhide gA))
  have CW := hide (world_any (oA w) T 8 (by decide) (by decide) (some ⟨w.heap.size + 1, 0, none⟩) 2 2 lA (hide rfl) (by decide) (hide (ths_lA w)))
  rw [unhide hal] at CW
  simp only at CW
  unfold oA at CW
  go_enter Tryz.func8, Tryz.ntmps8
  go_wp2_with fail
  refine (unhide CW).mono ?_
  rintro r w3 ⟨L, bo, cb, rfl, X, R⟩
  have gX : Hid (G w w3) := hide ((unhide gA).trans X.below)
  obtain ⟨A, hA1, hA2⟩ := X.few
  rcases R.is with h0 | ⟨ga, oa, rfl, hga, hca⟩
  · cases h0
  have c0 : w3.cell? ⟨ga, oa, none⟩ = some (.int .i64 64) := hca 0 64 rfl
  have c1 : w3.cell? ⟨ga, oa + 1, none⟩ = some (.int .i64 66) := hca 1 66 rfl
  replace X := hide X
  replace hA2 := hide hA2
  have CF := hide (m_fields X 64)
  rw [unhide e1] at CF
  simp only [List.length_cons, List.length_nil, Nat.zero_add] at CF
  clear CW R hca T gA
  go_wp2_with fail
  refine (unhide CF).mono ?_
  rintro r w4 ⟨ao, cf, rfl, RF, g4⟩
  have NR := (unhide X).newRow g4 RF
  have X4 := hide NR.1
  rcases RF.is with h0 | ⟨gf, of, rfl, hgf, hcf⟩
  · cases h0
  have d0 : w4.cell? ⟨gf, of, none⟩ = some (.int .i64 66) := hcf 0 66 rfl
  replace c0 := g4.cell c0
  replace c1 := g4.cell c1
  have X5 := hide ((unhide X4).gr (G.alloc w4 (.cells #[.int .i64 64] 2)))
  have CR := hide (m_reach X5 (bo := some ⟨w4.heap.size, 0, none⟩) (cb := 1) (n := 1) (ys := [64]) (A := A) rfl (by decide) o (hide fun y hy => by simp at hy; subst hy; exact wf_small (by decide) (by decide)) (hide (Or.inr ⟨w4.heap.size, 0, rfl, by rw [World.size_alloc]; omega, fun i x hi => by
    match i, hi with
    | 0, hi => cases hi; exact World.cell?_alloc_new _ _ _ 0
    | i + 1, hi => simp at hi⟩)) (hide fun d hd => by simp [Gy.blk] at hd; subst hd; rw [World.size_alloc]; omega) hA2 (by omega))
  clear CF NR hcf RF X g4
  go_wp2_with fail
  refine (unhide CR).mono ?_
  rintro r w5 ⟨a2, cr, fnd, rfl, _, g5, ha, hm⟩
  obtain rfl := reach_two (by decide) (unhide i1) (unhide i2) (unhide e1) (unhide e2) ha hm
  have g45 : G w4 w5 := (G.alloc w4 _).trans g5
  have X6 := hide ((unhide X5).gr g5)
  replace c0 := g45.cell c0
  replace c1 := g45.cell c1
  replace d0 := g45.cell d0
  have CS := hide (m_shade X6 (by simp) 64)
  rw [unhide s1] at CS
  simp only [unhide b1] at CS
  clear CR X4 X5 g45 g5 ha hm
  go_wp2_with fail
  refine (unhide CS).mono ?_
  rintro r w6 ⟨rfl, X7, K7⟩
  have l0 := K7 ga (by simp [Gy.blk])
  have l1 := K7 gf (by simp [Gy.blk])
  replace c1 := (World.cell?_of_block (a := ⟨ga, oa + 1, none⟩) l0).trans c1
  replace d0 := (World.cell?_of_block (a := ⟨gf, of, none⟩) l1).trans d0
  replace X7 := hide X7
  have CT := hide (m_step_some X7 (x := 64) (rs := []) g1 (by simp))
  rw [unhide s2] at CT
  clear CS X6 K7 l0 l1 c0
  go_wp2_with fail
  refine (unhide CT).mono ?_
  rintro r w7 ⟨rfl, X8, K8⟩
  have l0 := K8 ga (by simp [Gy.blk])
  have l1 := K8 gf (by simp [Gy.blk])
  replace c1 := (World.cell?_of_block (a := ⟨ga, oa + 1, none⟩) l0).trans c1
  replace d0 := (World.cell?_of_block (a := ⟨gf, of, none⟩) l1).trans d0
  replace X8 := hide X8
  have lga := World.block_lt_of_cell? _ _ c1
  have lgf := World.block_lt_of_cell? _ _ d0
  have SS : w7.cell? ⟨gf, of, none⟩ = some (.int .i64 66) ∧ w7.cell? ⟨ga, oa + 1, none⟩ = some (.int .i64 66) := ⟨d0, c1⟩
  have CL : Hid (∀ w1, G w7 w1 → Calls Tryz.prog 14 #[.pointer (some ⟨L.kb, 0, none⟩)] w1 fun r w' => r = .returned (.int .i64 1) ∧ w' = w1) := hide fun w1 g => by
    have := m_left (hide ((unhide X8).gr g))
    rw [unhide g2] at this
    exact this
  have CH : Hid (∀ w1, G w7 w1 → Calls Tryz.prog 11 #[.pointer (some ⟨L.kb, 0, none⟩), .int .i64 66] w1 fun r w' => r = .returned (.bool false) ∧ MS (oA w) w' L M3 ⟨al, kinds, []⟩ 2 (Gy.blk (some ⟨gf, of, none⟩) ++ Gy.blk (some ⟨ga, oa, none⟩)) ∧ (w'.cell? ⟨gf, of, none⟩ = some (.int .i64 66) ∧ w'.cell? ⟨ga, oa + 1, none⟩ = some (.int .i64 66))) := hide fun w1 g => by
    have := m_shade (hide ((unhide X8).gr g)) (by rw [unhide g2]; simp) 66
    rw [unhide s3] at this
    exact this.mono fun _ _ hh => ⟨by rw [hh.1, unhide b2], hh.2.1, (World.cell?_of_block (a := ⟨gf, of, none⟩) (hh.2.2 gf (by simp [Gy.blk]))).trans (g.cell d0), (World.cell?_of_block (a := ⟨ga, oa + 1, none⟩) (hh.2.2 ga (by simp [Gy.blk]))).trans (g.cell c1)⟩
  have CM : Hid (∀ w1, MS (oA w) w1 L M3 ⟨al, kinds, []⟩ 2 (Gy.blk (some ⟨gf, of, none⟩) ++ Gy.blk (some ⟨ga, oa, none⟩)) → (w1.cell? ⟨gf, of, none⟩ = some (.int .i64 66) ∧ w1.cell? ⟨ga, oa + 1, none⟩ = some (.int .i64 66)) → Calls Tryz.prog 22 #[.pointer (some ⟨L.xl.d.ab, 0, none⟩), .int .i64 1] w1 fun r w' => r = .returned (.int .u64 (k : Int)) ∧ MS (oA w) w' L M3 ⟨al, kinds, []⟩ 2 (Gy.blk (some ⟨gf, of, none⟩) ++ Gy.blk (some ⟨ga, oa, none⟩)) ∧ (w'.cell? ⟨gf, of, none⟩ = some (.int .i64 66) ∧ w'.cell? ⟨ga, oa + 1, none⟩ = some (.int .i64 66))) := hide fun w1 h hc => by
    have := s_marked (hide h) 1
    rw [unhide m3] at this
    exact this.mono fun _ _ hh => ⟨hh.1, hh.2.1, (World.cell?_of_block (a := ⟨gf, of, none⟩) (hh.2.2 gf (by simp [Gy.blk]))).trans hc.1, (World.cell?_of_block (a := ⟨ga, oa + 1, none⟩) (hh.2.2 ga (by simp [Gy.blk]))).trans hc.2⟩
  have hend : Hid (∀ w', MS (oA w) w' L M3 ⟨al, kinds, []⟩ 2 (Gy.blk (some ⟨gf, of, none⟩) ++ Gy.blk (some ⟨ga, oa, none⟩)) → G w w') := hide fun w' h => ((G.alloc _ _).more _).trans h.below
  clear CT X7 K8 l0 l1 X8 d0 c1
  go_wp2_with fail
  go_region_held3 (fun wx => wx.cell? ⟨gf, of, none⟩ = some (.int .i64 66) ∧ wx.cell? ⟨ga, oa + 1, none⟩ = some (.int .i64 66)) (first | assumption | go_keep)
   ((first
    | (go_at_call 14; refine (unhide CL _ (by first | exact G.refl _ | exact G.drew (G.refl _))).mono ?_; rintro r w8 ⟨rfl, rfl⟩)
    | (go_at_call 11; refine (unhide CH _ (by first | exact G.refl _ | exact G.drew (G.refl _))).mono ?_; rintro r w9 ⟨rfl, X9, S9⟩)
    | (go_at_call 22; refine (unhide CM _ (by first | exact X9 | exact X9.gr (G.drew (G.refl _))) S9).mono ?_; rintro r w10 ⟨rfl, X10, S10⟩)))
  all_goals
    go_wp2_with fail
    go_ret
    exact ⟨rfl, unhide hend _ X10⟩
theorem pair_eq {α β : Type} {r : α × β} {b : β} (h : r.2 = b) : r = (r.1, b) := by rw [← h]
theorem awake7 (world_any : WorldC) (w : World) (ht : Tab w) : Calls Tryz.prog 8 #[] w fun e w' => e = .returned (.bool true) ∧ G w w' :=
  awake7_core world_any w (hide ht) _ _ _ _ (hide (pair_eq (by decide +kernel))) (hide (wld_ok (by decide) (by decide) (l := lA) (fun t ht z hz => by simp [lA] at ht; rcases ht with rfl | rfl <;> simp at hz <;> subst hz <;> exact wf_small (by decide) (by decide))).o.wf) (hide (by decide +kernel)) (hide (by decide +kernel)) (hide (by decide +kernel)) (hide (by decide +kernel)) (hide (by decide +kernel)) (hide rfl) (hide (by decide +kernel)) (hide rfl) (hide (by decide +kernel)) (hide (by decide +kernel)) (hide rfl) _ (hide rfl) (by decide +kernel)
end Go.Proofs.YtinehimleldkdaaGreatDoor
