/- LiveSets answers true. -/
import Derived.Test.YtpbeafgfhnlmbaaLiveLw
import Derived.Test.YtpbeafgfhnlmbaaLiveDSm
import Derived.Test.YtpbeafgfhnlmbaaLiveInts
import Derived.Test.YtpbeafgfhnlmbaaCodeRmod2
namespace Go.Proofs.Ytpbeafgfhnlmbaa
set_option maxRecDepth 100000
open Go.RowKit Go.Maps Go.ChangeShapes Go.WideShapes Go.ChangeAt Go.Deep

theorem least_uniq {m : Md} {f : Fn} {s t : Nat → Nat} (h : LeastD m f s) (k : LeastD m f t) (pc : Nat) (hp : pc < f.is.length) : s pc = t pc := by
  refine Nat.eq_of_testBit_eq (fun q => ?_)
  cases e : (s pc).testBit q
  · cases e2 : (t pc).testBit q
    · rfl
    · have := k.le _ h.cl pc q hp e2
      rw [e] at this
      cases this
  · exact (h.le _ k.cl pc q hp e).symm
set_option maxHeartbeats 8000000 in
theorem walk_LiveSets (w : World) (m : Md) (so : Option Addr) (sc : Nat) (go : Option Addr) (gc : Nat) (co : Option Addr) (cc : Nat) (ao : Option Addr) (ac : Nat) (fo : Option Addr) (fc : Nat) (f : Fn) (ko : Option Addr) (kc : Nat) (io : Option Addr) (ic : Nat) (mo : Option Addr) (mc : Nat) (hM : ModR w m so sc go gc co cc ao ac fo fc) (oM : oMd m) (hlen : m.fn.length * 104 ≤ reachBytes) (rk : RowAt elB w ko f.ks.length kc f.ks) (ri : RowAt elIn w io f.is.length ic f.is) (rm : RowAt elU w mo f.ms.length mc f.ms) (oF : oFn f) :
    Calls Try.prog 5 #[.agg #[.slice so m.sh.length sc, .slice go m.gl.length gc, .slice co m.co.length cc, .slice ao m.ca.length ac, .slice fo m.fn.length fc, .int .i64 m.main], .agg #[.int .i64 f.p, .int .i64 f.c, .int .i64 f.s, .int .i64 f.r, .slice ko f.ks.length kc, .slice io f.is.length ic, .slice mo f.ms.length mc]] w fun e w' => e = .returned (.bool true) ∧ G w w' := by
  obtain ⟨W0, hW0⟩ : ∃ W0, W0 = (w.alloc (.cells #[.slice so m.sh.length sc, .slice go m.gl.length gc, .slice co m.co.length cc, .slice ao m.ca.length ac, .slice fo m.fn.length fc, .int .i64 m.main] 31)).alloc (.cells #[.int .i64 f.p, .int .i64 f.c, .int .i64 f.s, .int .i64 f.r, .slice ko f.ks.length kc, .slice io f.is.length ic, .slice mo f.ms.length mc] 42) := ⟨_, rfl⟩
  have g0 : G w W0 := by rw [hW0]; exact ((G.refl w).more _).more _
  have m0 : W0.cell? ⟨w.heap.size, 0, none⟩ = some (.slice so m.sh.length sc) := by rw [hW0]; simp [go_sem]
  have m1 : W0.cell? ⟨w.heap.size, 1, none⟩ = some (.slice go m.gl.length gc) := by rw [hW0]; simp [go_sem]
  have m2 : W0.cell? ⟨w.heap.size, 2, none⟩ = some (.slice co m.co.length cc) := by rw [hW0]; simp [go_sem]
  have m3 : W0.cell? ⟨w.heap.size, 3, none⟩ = some (.slice ao m.ca.length ac) := by rw [hW0]; simp [go_sem]
  have m4 : W0.cell? ⟨w.heap.size, 4, none⟩ = some (.slice fo m.fn.length fc) := by rw [hW0]; simp [go_sem]
  have m5 : W0.cell? ⟨w.heap.size, 5, none⟩ = some (.int .i64 m.main) := by rw [hW0]; simp [go_sem]
  have f0 : W0.cell? ⟨w.heap.size + 1, 0, none⟩ = some (.int .i64 f.p) := by rw [hW0]; simp [go_sem]
  have f1 : W0.cell? ⟨w.heap.size + 1, 1, none⟩ = some (.int .i64 f.c) := by rw [hW0]; simp [go_sem]
  have f2 : W0.cell? ⟨w.heap.size + 1, 2, none⟩ = some (.int .i64 f.s) := by rw [hW0]; simp [go_sem]
  have f3 : W0.cell? ⟨w.heap.size + 1, 3, none⟩ = some (.int .i64 f.r) := by rw [hW0]; simp [go_sem]
  have f4 : W0.cell? ⟨w.heap.size + 1, 4, none⟩ = some (.slice ko f.ks.length kc) := by rw [hW0]; simp [go_sem]
  have f5 : W0.cell? ⟨w.heap.size + 1, 5, none⟩ = some (.slice io f.is.length ic) := by rw [hW0]; simp [go_sem]
  have f6 : W0.cell? ⟨w.heap.size + 1, 6, none⟩ = some (.slice mo f.ms.length mc) := by rw [hW0]; simp [go_sem]
  have fz : W0.frozen? ⟨w.heap.size, 4, none⟩ = false := by rw [hW0]; simp [go_sem]
  have AK := hide (awake_any W0)
  have PRE := hide (fun x1 g1 => law_pre w W0 m so sc go gc co cc ao ac fo fc f ko kc io ic mo mc hM rk ri rm hlen g0 m0 m1 m2 m3 m4 m5 f0 f1 f2 f3 f4 f5 f6 fz x1 g1)
  replace oM := hide oM
  replace oF := hide oF
  clear hM rk ri rm hlen fz
  go_enter Try.func5, Try.ntmps5
  go_upto_region 1 with fail
  rw [← hW0]
  clear hW0
  go_wp2_with fail
  refine (unhide AK).mono ?_
  rintro e x1 ⟨rfl, g1⟩
  obtain ⟨b, c', x2, hrun, k4, fk, LW⟩ := unhide PRE x1 g1
  replace LW := hide LW
  have e0 := g1.cell f0
  have e1 := g1.cell f1
  have e2 := g1.cell f2
  have e3 := g1.cell f3
  have e4 := g1.cell f4
  have e5 := g1.cell f5
  have e6 := g1.cell f6
  have d4 := (G.alloc x1 (.cells #[.int .i64 f.p, .int .i64 f.c, .int .i64 f.s, .int .i64 f.r, .slice ko f.ks.length kc, .slice io f.is.length ic, .slice mo f.ms.length mc] 42)).cell (g1.cell m4)
  clear AK PRE m0 m1 m2 m3 m4 m5 f0 f1 f2 f3 f4 f5 f6 g0 g1
  go_upto_region 4 with (at_builtin; refine wpl_run rfl (.tmp 10) (.tmp 12) 29 rfl _ _ rfl rfl _ _ hrun ?_; clear hrun)
  obtain ⟨X, hX⟩ : ∃ X, X = x2.setCell ⟨w.heap.size, 4, none⟩ (.slice (some ⟨b, 0, none⟩) (m.fn.length + 1) c') := ⟨_, rfl⟩
  rw [← hX] at LW ⊢
  have BB := hide (fun x g => (unhide LW).box x g)
  obtain ⟨bx0, bx1, bx2, bx3, bx4, bx5, bx6, bx7, bx8, bx9, bx10, bx11, bx12⟩ := unhide BB X (G.refl X)
  have CB := hide (lw_big (unhide LW))
  clear hX k4 fk e0 e1 e2 e3 e4 e5 e6 d4
  go_wp2_with fail
  refine (unhide CB).mono ?_
  rintro e y1 ⟨q, rfl, hq, gy1⟩
  have KW := hide ((unhide LW).g.trans gy1)
  clear CB bx0 bx1 bx2 bx3 bx4 bx5 bx6 bx7 bx8 bx9 bx10 bx11 bx12
  cases q
  rotate_left
  · clear hq gy1 LW BB
    go_wp2_with fail
    go_ret
    exact ⟨rfl, unhide KW⟩
  have sm := hq rfl
  obtain ⟨s1, s2, s3, s4⟩ := sm_bounds sm
  have CM : Hid (Calls Try.prog 14 #[.agg #[.slice so m.sh.length sc, .slice go m.gl.length gc, .slice co m.co.length cc, .slice ao m.ca.length ac, .slice (some ⟨b, 0, none⟩) (m.fn.length + 1) c', .int .i64 m.main]] y1 fun e w' => ∃ v', e = .returned v' ∧ ModC w' v' (md2 m f) ∧ G y1 w') := hide (by
    have mr := (unhide LW).mr.g gy1
    obtain ⟨q1, q2, q3, q4, q5, q6⟩ := sm
    exact rmodule2 y1 _ (md2 m f) ⟨so, sc, go, gc, co, cc, ao, ac, some ⟨b, 0, none⟩, c', rfl, mr.r1, mr.r2, mr.r3, mr.r4, mr.r5⟩ (by omega) (by omega) (by omega) (by omega) (by omega) (fun f hf => by obtain ⟨z1, z2, z3⟩ := q6 f hf; exact ⟨by omega, by omega, by omega⟩))
  obtain ⟨bx0, bx1, bx2, bx3, bx4, bx5, bx6, bx7, bx8, bx9, bx10, bx11, bx12⟩ := unhide BB y1 gy1
  have hs2 := hide s2
  have hs4 := hide s4
  have hs3 := hide (sm.2.2.2.2.2 f (by simp [md2]))
  have hsm := hide sm
  clear hq sm s1 s2 s3 s4
  go_wp2_with fail
  refine (unhide CM).mono ?_
  rintro e z1 ⟨v3, rfl, ⟨so2, sc2, go2, gc2, co2, cc2, ao2, ac2, fo2, fc2, hv3, MR⟩, gz1⟩
  subst hv3
  obtain ⟨M2, hM2⟩ : ∃ M2, M2 = md2 m f := ⟨_, rfl⟩
  rw [← hM2] at MR ⊢
  replace MR := hide MR
  replace hM2 := hide hM2
  clear CM bx0 bx1 bx2 bx3 bx4 bx5 bx6 bx7 bx8 bx9 bx10 bx11 bx12
  unfold agM
  go_upto_region 7 with fail
  obtain ⟨Z1, hZ1⟩ : ∃ Z1, Z1 = z1.alloc (.cells #[.slice so2 M2.sh.length sc2, .slice go2 M2.gl.length gc2, .slice co2 M2.co.length cc2, .slice ao2 M2.ca.length ac2, .slice fo2 M2.fn.length fc2, .int .i64 M2.main] 48) := ⟨_, rfl⟩
  rw [← hZ1]
  have GZ1 : G z1 Z1 := by rw [hZ1]; exact G.alloc _ _
  obtain ⟨B1, hB1⟩ : ∃ B1, B1 = z1.heap.size := ⟨_, rfl⟩
  have WB : Hid (∀ x, G Z1 x → x.cell? ⟨B1, 0, none⟩ = some (.slice so2 M2.sh.length sc2) ∧ x.cell? ⟨B1, 1, none⟩ = some (.slice go2 M2.gl.length gc2) ∧ x.cell? ⟨B1, 2, none⟩ = some (.slice co2 M2.co.length cc2) ∧ x.cell? ⟨B1, 3, none⟩ = some (.slice ao2 M2.ca.length ac2) ∧ x.cell? ⟨B1, 4, none⟩ = some (.slice fo2 M2.fn.length fc2) ∧ x.cell? ⟨B1, 5, none⟩ = some (.int .i64 M2.main)) := hide fun x g => by
    rw [hB1]
    exact ⟨g.cell (by rw [hZ1]; simp [go_sem]), g.cell (by rw [hZ1]; simp [go_sem]), g.cell (by rw [hZ1]; simp [go_sem]), g.cell (by rw [hZ1]; simp [go_sem]), g.cell (by rw [hZ1]; simp [go_sem]), g.cell (by rw [hZ1]; simp [go_sem])⟩
  rw [← hB1]
  have gX1 : G X Z1 := (gy1.trans gz1).trans GZ1
  have gz1Z := hide GZ1
  obtain ⟨bx0, bx1, bx2, bx3, bx4, bx5, bx6, bx7, bx8, bx9, bx10, bx11, bx12⟩ := unhide BB Z1 gX1
  have CF2 : Hid (Calls Try.prog 15 #[.agg #[.int .i64 f.p, .int .i64 f.c, .int .i64 f.s, .int .i64 f.r, .slice ko f.ks.length kc, .slice io f.is.length ic, .slice mo f.ms.length mc]] Z1 fun e w' => ∃ cs, e = .returned (.agg cs.toArray) ∧ (∀ w2, KeepFrom Z1.heap.size w' w2 → FnCells w2 f cs) ∧ G Z1 w') := hide (by
    obtain ⟨z1, z2, z3⟩ := unhide hs3
    exact rfunc Z1 f ko kc io ic mo mc ((unhide LW).rk.g okB gX1) ((unhide LW).ri.g okIn gX1) ((unhide LW).rm.g okU gX1) (by omega) (by omega) (by omega))
  replace gX1 := hide gX1
  clear hZ1 hB1 GZ1 gz1 gy1
  go_wp2_with fail
  refine (unhide CF2).mono ?_
  rintro e z2 ⟨cs, rfl, hcs, gz2⟩
  obtain ⟨ko2, kc2, io2, ic2, mo2, mc2, ecs, rk2, ri2, rm2⟩ := hcs z2 (KeepFrom.refl _ _)
  subst ecs
  replace ri2 := hide ri2
  replace rk2 := hide rk2
  clear CF2 bx0 bx1 bx2 bx3 bx4 bx5 bx6 bx7 bx8 bx9 bx10 bx11 bx12 hcs rm2
  go_upto_region 8 with fail
  obtain ⟨Z2, hZ2⟩ : ∃ Z2, Z2 = z2.alloc (.cells #[.int .i64 f.p, .int .i64 f.c, .int .i64 f.s, .int .i64 f.r, .slice ko2 f.ks.length kc2, .slice io2 f.is.length ic2, .slice mo2 f.ms.length mc2] 52) := ⟨_, rfl⟩
  rw [← hZ2]
  have GZ2 : G z2 Z2 := by rw [hZ2]; exact G.alloc _ _
  obtain ⟨B2, hB2⟩ : ∃ B2, B2 = z2.heap.size := ⟨_, rfl⟩
  have GB : Hid (∀ x, G Z2 x → x.cell? ⟨B2, 0, none⟩ = some (.int .i64 f.p) ∧ x.cell? ⟨B2, 1, none⟩ = some (.int .i64 f.c) ∧ x.cell? ⟨B2, 2, none⟩ = some (.int .i64 f.s) ∧ x.cell? ⟨B2, 3, none⟩ = some (.int .i64 f.r) ∧ x.cell? ⟨B2, 4, none⟩ = some (.slice ko2 f.ks.length kc2) ∧ x.cell? ⟨B2, 5, none⟩ = some (.slice io2 f.is.length ic2) ∧ x.cell? ⟨B2, 6, none⟩ = some (.slice mo2 f.ms.length mc2)) := hide fun x g => by
    rw [hB2]
    exact ⟨g.cell (by rw [hZ2]; simp [go_sem]), g.cell (by rw [hZ2]; simp [go_sem]), g.cell (by rw [hZ2]; simp [go_sem]), g.cell (by rw [hZ2]; simp [go_sem]), g.cell (by rw [hZ2]; simp [go_sem]), g.cell (by rw [hZ2]; simp [go_sem]), g.cell (by rw [hZ2]; simp [go_sem])⟩
  rw [← hB2]
  have gZ12 := hide (gz2.trans GZ2)
  have gz2Z := hide GZ2
  have g12 : G Z1 Z2 := unhide gZ12
  have gX2 : G X Z2 := (unhide gX1).trans g12
  have WB3 := hide (fun x (g : G Z2 x) => unhide WB x (g12.trans g))
  have GB3 := GB
  have BM3 : Hid (∀ x, G Z2 x → x.cell? ⟨w.heap.size, 0, none⟩ = some (.slice so m.sh.length sc) ∧ x.cell? ⟨w.heap.size, 1, none⟩ = some (.slice go m.gl.length gc) ∧ x.cell? ⟨w.heap.size, 2, none⟩ = some (.slice co m.co.length cc) ∧ x.cell? ⟨w.heap.size, 3, none⟩ = some (.slice ao m.ca.length ac) ∧ x.cell? ⟨w.heap.size, 4, none⟩ = some (.slice (some ⟨b, 0, none⟩) (m.fn.length + 1) c') ∧ x.cell? ⟨w.heap.size, 5, none⟩ = some (.int .i64 m.main)) := hide fun x g => by
    obtain ⟨bx0, bx1, bx2, bx3, bx4, bx5, bx6, bx7, bx8, bx9, bx10, bx11, bx12⟩ := unhide BB x (gX2.trans g)
    exact ⟨bx0, bx1, bx2, bx3, bx4, bx5⟩
  have BF3 : Hid (∀ x, G Z2 x → x.cell? ⟨w.heap.size + 1, 0, none⟩ = some (.int .i64 f.p) ∧ x.cell? ⟨w.heap.size + 1, 1, none⟩ = some (.int .i64 f.c) ∧ x.cell? ⟨w.heap.size + 1, 2, none⟩ = some (.int .i64 f.s) ∧ x.cell? ⟨w.heap.size + 1, 3, none⟩ = some (.int .i64 f.r) ∧ x.cell? ⟨w.heap.size + 1, 4, none⟩ = some (.slice ko f.ks.length kc) ∧ x.cell? ⟨w.heap.size + 1, 5, none⟩ = some (.slice io f.is.length ic) ∧ x.cell? ⟨w.heap.size + 1, 6, none⟩ = some (.slice mo f.ms.length mc)) := hide fun x g => by
    obtain ⟨bx0, bx1, bx2, bx3, bx4, bx5, bx6, bx7, bx8, bx9, bx10, bx11, bx12⟩ := unhide BB x (gX2.trans g)
    exact ⟨bx6, bx7, bx8, bx9, bx10, bx11, bx12⟩
  have MR3 := hide ((unhide MR).g ((unhide gz1Z).trans g12))
  have RI3 := hide ((unhide ri2).g okIn (unhide gz2Z))
  have RK3 := hide ((unhide rk2).g okB (unhide gz2Z))
  have DONE := hide (fun x (g : G Z2 x) => (unhide LW).g.trans (gX2.trans g))
  have hks : Hid (f.ks.length ≤ 1000000) := hide (by obtain ⟨z1, z2, z3⟩ := unhide hs3; omega)
  have CS : Hid (∀ x, G Z2 x → Calls Try.prog 12 #[.agg #[.slice so m.sh.length sc, .slice go m.gl.length gc, .slice co m.co.length cc, .slice ao m.ca.length ac, .slice (some ⟨b, 0, none⟩) (m.fn.length + 1) c', .int .i64 m.main], .agg #[.int .i64 f.p, .int .i64 f.c, .int .i64 f.s, .int .i64 f.r, .slice ko f.ks.length kc, .slice io f.is.length ic, .slice mo f.ms.length mc]] x (SetTo x (md2 m f) f)) := hide fun x g => lw_sets (unhide LW) (unhide oM) (unhide oF) (unhide hsm) (gX2.trans g)
  have CP : Hid (∀ x, G Z2 x → Calls Try.prog 23 #[.agg #[.slice so m.sh.length sc, .slice go m.gl.length gc, .slice co m.co.length cc, .slice ao m.ca.length ac, .slice (some ⟨b, 0, none⟩) (m.fn.length + 1) c', .int .i64 m.main], .agg #[.int .i64 f.p, .int .i64 f.c, .int .i64 f.s, .int .i64 f.r, .slice ko f.ks.length kc, .slice io f.is.length ic, .slice mo f.ms.length mc]] x (MapTo x (md2 m f) f)) := hide fun x g => lw_maps (unhide LW) (unhide oM) (unhide oF) (unhide hsm) (gX2.trans g)
  have DS : Hid (∀ x, G Z2 x → Calls Try.prog 22 #[.agg #[.slice so2 M2.sh.length sc2, .slice go2 M2.gl.length gc2, .slice co2 M2.co.length cc2, .slice ao2 M2.ca.length ac2, .slice fo2 M2.fn.length fc2, .int .i64 M2.main], .agg #[.int .i64 f.p, .int .i64 f.c, .int .i64 f.s, .int .i64 f.r, .slice ko2 f.ks.length kc2, .slice io2 f.is.length ic2, .slice mo2 f.ms.length mc2]] x (SetTo x (md2 m f) f)) := hide fun x g => by
    rw [← unhide hM2]
    exact rsets_any x M2 so2 sc2 go2 gc2 co2 cc2 ao2 ac2 fo2 fc2 ((unhide MR3).g g) f ko2 kc2 io2 ic2 mo2 mc2 ((unhide RI3).g okIn g) (oF_is (unhide oF)) (by rw [unhide hM2]; exact oM_ca (unhide oM)) (by rw [unhide hM2]; have := unhide hs2; show m.ca.length ≤ 1000; omega) (unhide hs4)
  have DP : Hid (∀ x, G Z2 x → Calls Try.prog 24 #[.agg #[.slice so2 M2.sh.length sc2, .slice go2 M2.gl.length gc2, .slice co2 M2.co.length cc2, .slice ao2 M2.ca.length ac2, .slice fo2 M2.fn.length fc2, .int .i64 M2.main], .agg #[.int .i64 f.p, .int .i64 f.c, .int .i64 f.s, .int .i64 f.r, .slice ko2 f.ks.length kc2, .slice io2 f.is.length ic2, .slice mo2 f.ms.length mc2]] x (MapTo x (md2 m f) f)) := hide fun x g => by
    rw [← unhide hM2]
    exact rmaps_any x M2 so2 sc2 go2 gc2 co2 cc2 ao2 ac2 fo2 fc2 ((unhide MR3).g g) f ko2 kc2 io2 ic2 mo2 mc2 ((unhide RI3).g okIn g) ((unhide RK3).g okB g) (oF_is (unhide oF)) (by rw [unhide hM2]; exact oM_ca (unhide oM)) (by rw [unhide hM2]; have := unhide hs2; show m.ca.length ≤ 1000; omega) (unhide hs4) (unhide hks)
  obtain ⟨n, hn0⟩ : ∃ n, n = f.is.length := ⟨_, rfl⟩
  have NU : Hid (∀ (x : World) (b1 b2 : Nat) (s t : Nat → Nat), UAt x b1 n s → UAt x b2 n t → (∀ k, k < n → s k = t k) → Calls Try.prog 21 #[.slice (some ⟨b1, 0, none⟩) n n, .slice (some ⟨b2, 0, none⟩) n n] x fun e w' => e = .returned (.bool true) ∧ G x w') := hide fun x b1 b2 s t U1 U2 he => by
    have hn2 : n ≤ 200 := by rw [hn0]; exact unhide hs4
    have e : (List.range n).map s = (List.range n).map t := List.map_congr_left (fun k hk => he k (List.mem_range.1 hk))
    have h2 := U2.isn (by omega)
    rw [← e] at h2
    have := nums_any x _ _ _ _ (U1.isn (by omega)) h2 (by simp; omega) (by simp; omega)
    simp only [decide_true] at this
    exact this
  have LQ : Hid (∀ s t, LeastD (md2 m f) f s → LeastD (md2 m f) f t → ∀ k, k < n → s k = t k) := hide fun s t h1 h2 k hk => least_uniq h1 h2 k (by rw [← hn0]; exact hk)
  unfold SetTo at CS DS
  unfold MapTo at CP DP
  rw [← hn0] at CS CP DS DP GB3 BF3 ⊢
  clear LW BB WB GB MR ri2 rk2 gX1 gZ12 gz1Z gz2Z hZ2 GZ2 hB2 gz2 g12 gX2 MR3 RI3 RK3 hs2 hs4 hs3 hM2 oM oF KW hsm hks hn0
  refine wp_region_noPanic ?_
  refine wp_region_held_drew (S := fun x => G Z2 x) (by kernel_rfl) (G.drewN Z2 1) (fun hHeld => ?_)
  obtain ⟨y4, hy4⟩ : ∃ y, y = Z2.drew := ⟨_, rfl⟩
  rw [← hy4] at hHeld ⊢
  clear hy4
  refine wpAnyH_take (i := 0) (v := .agg #[.slice so m.sh.length sc, .slice go m.gl.length gc, .slice co m.co.length cc, .slice ao m.ca.length ac, .slice (some ⟨b, 0, none⟩) (m.fn.length + 1) c', .int .i64 m.main]) rfl (by kernel_rfl) (by kernel_rfl) (by kernel_rfl) (fun _ _ _ h => h) (Or.inl ⟨by rfl, fun w hSw => by obtain ⟨t0, t1, t2, t3, t4, t5⟩ := unhide BM3 w hSw; go_simp⟩) (by assumption) ?_
  try simp only [Act.put, List.getElem_toArray, List.getElem_cons_zero, List.setIfInBounds_toArray, List.set_cons_zero, List.set_cons_succ]
  refine wpAnyH_take (i := 1) (v := .agg #[.int .i64 f.p, .int .i64 f.c, .int .i64 f.s, .int .i64 f.r, .slice ko f.ks.length kc, .slice io n ic, .slice mo f.ms.length mc]) rfl (by kernel_rfl) (by kernel_rfl) (by kernel_rfl) (fun _ _ _ h => h) (Or.inl ⟨by rfl, fun w hSw => by obtain ⟨t0, t1, t2, t3, t4, t5, t6⟩ := unhide BF3 w hSw; go_simp⟩) (by assumption) ?_
  try simp only [Act.put, List.getElem_toArray, List.getElem_cons_succ, List.getElem_cons_zero, List.setIfInBounds_toArray, List.set_cons_zero, List.set_cons_succ]
  refine wpAnyH_take (i := 3) (v := .agg #[.slice so2 M2.sh.length sc2, .slice go2 M2.gl.length gc2, .slice co2 M2.co.length cc2, .slice ao2 M2.ca.length ac2, .slice fo2 M2.fn.length fc2, .int .i64 M2.main]) rfl (by kernel_rfl) (by kernel_rfl) (by kernel_rfl) (fun _ _ _ h => h) (Or.inl ⟨by rfl, fun w hSw => by obtain ⟨t0, t1, t2, t3, t4, t5⟩ := unhide WB3 w hSw; go_simp⟩) (by assumption) ?_
  try simp only [Act.put, List.getElem_toArray, List.getElem_cons_succ, List.getElem_cons_zero, List.setIfInBounds_toArray, List.set_cons_zero, List.set_cons_succ]
  refine wpAnyH_take (i := 4) (v := .agg #[.int .i64 f.p, .int .i64 f.c, .int .i64 f.s, .int .i64 f.r, .slice ko2 f.ks.length kc2, .slice io2 n ic2, .slice mo2 f.ms.length mc2]) rfl (by kernel_rfl) (by kernel_rfl) (by kernel_rfl) (fun _ _ _ h => h) (Or.inl ⟨by rfl, fun w hSw => by obtain ⟨t0, t1, t2, t3, t4, t5, t6⟩ := unhide GB3 w hSw; go_simp⟩) (by assumption) ?_
  try simp only [Act.put, List.getElem_toArray, List.getElem_cons_succ, List.getElem_cons_zero, List.setIfInBounds_toArray, List.set_cons_zero, List.set_cons_succ]
  refine wpAnyH_ready (rs := [2]) (by kernel_rfl) (by simp) ?_
  refine AllReadyH.cons rfl (fun K hK => ?_) AllReadyH.nil
  go_simp
  refine (unhide CS y4 hHeld).mono ?_
  rintro e y5 ⟨s1, a1, rfl, hu1, _, gy5, l1⟩
  go_wp2_with fail
  have hgy5 := hHeld.trans gy5
  refine hK.out _ _ hgy5 (fun hHy5 => ?_)
  clear hK K
  try simp only [Act.put, List.getElem_toArray, List.getElem_cons_succ, List.getElem_cons_zero, List.setIfInBounds_toArray, List.set_cons_zero, List.set_cons_succ]
  refine wpAnyH_ready (rs := [5]) (by kernel_rfl) (by simp) ?_
  refine AllReadyH.cons rfl (fun K hK => ?_) AllReadyH.nil
  go_simp
  refine (unhide DS y5 hgy5).mono ?_
  rintro e y6 ⟨s2, a2, rfl, hu2, _, gy6, l2⟩
  replace hu1 := hu1.g gy6
  go_wp2_with fail
  have hgy6 := hgy5.trans gy6
  refine hK.out _ _ hgy6 (fun hHy6 => ?_)
  clear hK K
  try simp only [Act.put, List.getElem_toArray, List.getElem_cons_succ, List.getElem_cons_zero, List.setIfInBounds_toArray, List.set_cons_zero, List.set_cons_succ]
  refine wpAnyH_ready (rs := [6]) (by kernel_rfl) (by simp) ?_
  refine AllReadyH.cons rfl (fun K hK => ?_) AllReadyH.nil
  go_simp
  refine (unhide NU y6 a1 a2 s1 s2 hu1 hu2 (unhide LQ s1 s2 l1 l2)).mono ?_
  rintro e y7 ⟨rfl, gy7⟩
  clear hu1 hu2 l1 l2
  go_wp2_with fail
  have hgy7 := hgy6.trans gy7
  refine hK.out _ _ hgy7 (fun hHy7 => ?_)
  clear hK K
  try simp only [Act.put, List.getElem_toArray, List.getElem_cons_succ, List.getElem_cons_zero, List.setIfInBounds_toArray, List.set_cons_zero, List.set_cons_succ]
  refine wpAnyH_take (i := 7) (v := .bool true) rfl (by kernel_rfl) (by kernel_rfl) (by kernel_rfl) (fun _ _ _ h => h) (Or.inl ⟨by rfl, fun w hSw => by go_simp⟩) (by assumption) ?_
  try simp only [Act.put, List.getElem_toArray, List.getElem_cons_succ, List.getElem_cons_zero, List.setIfInBounds_toArray, List.set_cons_zero, List.set_cons_succ]
  refine wpAnyH_take (i := 8) (v := .agg #[.slice so m.sh.length sc, .slice go m.gl.length gc, .slice co m.co.length cc, .slice ao m.ca.length ac, .slice (some ⟨b, 0, none⟩) (m.fn.length + 1) c', .int .i64 m.main]) rfl (by kernel_rfl) (by kernel_rfl) (by kernel_rfl) (fun _ _ _ h => h) (Or.inl ⟨by rfl, fun w hSw => by obtain ⟨t0, t1, t2, t3, t4, t5⟩ := unhide BM3 w hSw; go_simp⟩) (by assumption) ?_
  try simp only [Act.put, List.getElem_toArray, List.getElem_cons_succ, List.getElem_cons_zero, List.setIfInBounds_toArray, List.set_cons_zero, List.set_cons_succ]
  refine wpAnyH_take (i := 9) (v := .agg #[.int .i64 f.p, .int .i64 f.c, .int .i64 f.s, .int .i64 f.r, .slice ko f.ks.length kc, .slice io n ic, .slice mo f.ms.length mc]) rfl (by kernel_rfl) (by kernel_rfl) (by kernel_rfl) (fun _ _ _ h => h) (Or.inl ⟨by rfl, fun w hSw => by obtain ⟨t0, t1, t2, t3, t4, t5, t6⟩ := unhide BF3 w hSw; go_simp⟩) (by assumption) ?_
  try simp only [Act.put, List.getElem_toArray, List.getElem_cons_succ, List.getElem_cons_zero, List.setIfInBounds_toArray, List.set_cons_zero, List.set_cons_succ]
  refine wpAnyH_take (i := 11) (v := .agg #[.slice so2 M2.sh.length sc2, .slice go2 M2.gl.length gc2, .slice co2 M2.co.length cc2, .slice ao2 M2.ca.length ac2, .slice fo2 M2.fn.length fc2, .int .i64 M2.main]) rfl (by kernel_rfl) (by kernel_rfl) (by kernel_rfl) (fun _ _ _ h => h) (Or.inl ⟨by rfl, fun w hSw => by obtain ⟨t0, t1, t2, t3, t4, t5⟩ := unhide WB3 w hSw; go_simp⟩) (by assumption) ?_
  try simp only [Act.put, List.getElem_toArray, List.getElem_cons_succ, List.getElem_cons_zero, List.setIfInBounds_toArray, List.set_cons_zero, List.set_cons_succ]
  refine wpAnyH_take (i := 12) (v := .agg #[.int .i64 f.p, .int .i64 f.c, .int .i64 f.s, .int .i64 f.r, .slice ko2 f.ks.length kc2, .slice io2 n ic2, .slice mo2 f.ms.length mc2]) rfl (by kernel_rfl) (by kernel_rfl) (by kernel_rfl) (fun _ _ _ h => h) (Or.inl ⟨by rfl, fun w hSw => by obtain ⟨t0, t1, t2, t3, t4, t5, t6⟩ := unhide GB3 w hSw; go_simp⟩) (by assumption) ?_
  try simp only [Act.put, List.getElem_toArray, List.getElem_cons_succ, List.getElem_cons_zero, List.setIfInBounds_toArray, List.set_cons_zero, List.set_cons_succ]
  refine wpAnyH_ready (rs := [10]) (by kernel_rfl) (by simp) ?_
  refine AllReadyH.cons rfl (fun K hK => ?_) AllReadyH.nil
  go_simp
  refine (unhide CP y7 hgy7).mono ?_
  rintro e y8 ⟨s3, a3, rfl, hu3, _, gy8, l3⟩
  go_wp2_with fail
  have hgy8 := hgy7.trans gy8
  refine hK.out _ _ hgy8 (fun hHy8 => ?_)
  clear hK K
  try simp only [Act.put, List.getElem_toArray, List.getElem_cons_succ, List.getElem_cons_zero, List.setIfInBounds_toArray, List.set_cons_zero, List.set_cons_succ]
  refine wpAnyH_ready (rs := [13]) (by kernel_rfl) (by simp) ?_
  refine AllReadyH.cons rfl (fun K hK => ?_) AllReadyH.nil
  go_simp
  refine (unhide DP y8 hgy8).mono ?_
  rintro e y9 ⟨s4, a4, rfl, hu4, _, gy9, l4⟩
  replace hu3 := hu3.g gy9
  go_wp2_with fail
  have hgy9 := hgy8.trans gy9
  refine hK.out _ _ hgy9 (fun hHy9 => ?_)
  clear hK K
  try simp only [Act.put, List.getElem_toArray, List.getElem_cons_succ, List.getElem_cons_zero, List.setIfInBounds_toArray, List.set_cons_zero, List.set_cons_succ]
  refine wpAnyH_ready (rs := [14]) (by kernel_rfl) (by simp) ?_
  refine AllReadyH.cons rfl (fun K hK => ?_) AllReadyH.nil
  go_simp
  refine (unhide NU y9 a3 a4 _ _ hu3 hu4 (fun k hk => congrArg (fun z => z &&& kndP f.ks) (unhide LQ s3 s4 l3 l4 k hk))).mono ?_
  rintro e y13 ⟨rfl, gy13⟩
  clear hu3 hu4 l3 l4
  go_wp2_with fail
  have hgy13 := hgy9.trans gy13
  refine hK.out _ _ hgy13 (fun hHy13 => ?_)
  clear hK K
  try simp only [Act.put, List.getElem_toArray, List.getElem_cons_succ, List.getElem_cons_zero, List.setIfInBounds_toArray, List.set_cons_zero, List.set_cons_succ]
  refine wpAnyH_take (i := 15) (v := .bool true) rfl (by kernel_rfl) (by kernel_rfl) (by kernel_rfl) (fun _ _ _ h => h) (Or.inl ⟨by rfl, fun w hSw => by go_simp⟩) (by assumption) ?_
  try simp only [Act.put, List.getElem_toArray, List.getElem_cons_succ, List.getElem_cons_zero, List.setIfInBounds_toArray, List.set_cons_zero, List.set_cons_succ]
  refine wpAnyH_take (i := 16) (v := .bool true) rfl (by kernel_rfl) (by kernel_rfl) (by kernel_rfl) (fun _ _ _ h => h) (Or.inl ⟨by rfl, fun w hSw => by go_simp⟩) (by assumption) ?_
  try simp only [Act.put, List.getElem_toArray, List.getElem_cons_succ, List.getElem_cons_zero, List.setIfInBounds_toArray, List.set_cons_zero, List.set_cons_succ]
  refine wpAnyH_done (by kernel_rfl) (NoPanic.normal ?_) _
  have K := hide (unhide DONE y13 hgy13)
  clear CS CP DS DP NU LQ WB3 GB3 BM3 BF3 DONE
  go_wp2_with fail
  go_ret
  exact ⟨rfl, unhide K⟩

set_option maxRecDepth 100000 in
theorem lifted_LiveSets (os : Os) (started : os.Started) (H : Type) (enc : TypeId × Value → H) :
    ReturnsInHanded {} Try.checked os 5 .any (Rows.liveSetsSpec.pre6 enc Try.prog Try.f5 Rows.liveSetsRow.domain false) (Rows.liveSetsSpec.post enc Try.prog Try.f5 false true false false) := by
  refine returnsInHanded_of_change_sized (C := Try.checked) own started (by kernel_rfl) Try.func5
    (ChangeSpec.witness6 (enc := enc) (C := Try.checked) false ⟨#[], #[.agg #[.slice none 0 0, .slice none 0 0, .slice none 0 0, .slice none 0 0, .slice none 0 0, .int .i64 0], .agg #[.int .i64 0, .int .i64 0, .int .i64 0, .int .i64 0, .slice none 0 0, .slice none 0 0, .slice none 0 0]], []⟩ 8 (by kernel_rfl) (by kernel_rfl) (by kernel_rfl) (by kernel_rfl)) ?_
  intro W base args ds gs before hval0 hW _ hsz0 _
  have hval : ∀ (j : Nat) t v, Try.f5.params[j]? = some t → args[j]? = some v → Value.okWide Try.prog W .any base t v := hval0
  have hsz : (DataW.weightsEach Try.prog (Try.f5.params.toList ++ Rows.liveSetsSpec.plain.varTypes Try.prog) (ds ++ gs)).all (· ≤ reachBytes) = true := hsz0
  have hW' := hW
  obtain ⟨p, q, hA0, hV, rfl, hfz, hnd⟩ := hW
  have hA : DataW.TrodAll enc Try.prog W 0 (fun _ => true) true Try.f5.params.toList args.toList ds p := hA0
  rw [Try.params5] at hA hval hsz
  obtain ⟨v0, vs0, d0, ds0, p0, q0, hargs, rfl, rfl, h0, r0⟩ := trodAll_cons hA
  obtain ⟨v1, vs1, d1, ds1, p1, q1, rfl, rfl, rfl, h1, r1⟩ := trodAll_cons r0
  obtain ⟨rfl, rfl, rfl⟩ := trodAll_nil r1
  obtain rfl : args = #[v0, v1] := by cases args; simp_all
  obtain ⟨rfl, rfl⟩ := trodVars_none hV
  have k0 := h0
  have lt0 : ∀ x ∈ p0, x.block < W.heap.size := by obtain ⟨m, hm⟩ := k0; exact DataW.trod_lt m _ _ _ hm
  obtain ⟨m0, so0, sc0, go0, gc0, co0, cc0, ao0, ac0, fo0, fc0, rfl, hM0, oM0, hl0⟩ := open_modr (hval 0 31 v0 rfl rfl) h0 (fun k hk => by simpa using List.all_eq_true.1 hsz k (DataW.weights_mem_each (j := 0) (t := 31) (d := d0) rfl rfl k hk))
  have k1 := h1
  have lt1 : ∀ x ∈ p1, x.block < W.heap.size := by obtain ⟨m, hm⟩ := k1; exact DataW.trod_lt m _ _ _ hm
  obtain ⟨f1, ko1, kc1, io1, ic1, mo1, mc1, rfl, rk1, ri1, rm1, oF1⟩ := open_fn (hval 1 42 v1 rfl rfl) h1
  clear hA0 hval0 hsz0
  refine (walk_LiveSets W m0 so0 sc0 go0 gc0 co0 cc0 ao0 ac0 fo0 fc0 f1 ko1 kc1 io1 ic1 mo1 mc1 hM0 oM0 hl0 rk1 ri1 rm1 oF1).mono fun e W' ⟨he, hg⟩ => ?_
  subst he
  exact ⟨_, rfl, _, _, _, [], _, [], hW', trodAll_mk1 (shut_bool Try.underlying4 _), (trodAll_cons_mk (Below.trod laidOut (by kernel_rfl) (of_decide_eq_true (by kernel_rfl)) k0 hg lt0) (trodAll_cons_mk (Below.trod laidOut (by kernel_rfl) (of_decide_eq_true (by kernel_rfl)) k1 hg lt1) trodAll_mk0)), rfl, hg.frame _, fun h => by cases h⟩

/-- THE STATEMENT. -/
theorem said_LiveSets : Rows.LiveSetsSaid :=
  OpenClaim.holds_of_wide 5 Try.f5 rfl rfl rfl rfl rfl rfl rfl ⟨rfl, rfl, rfl, rfl, rfl⟩ rfl rfl rfl rfl rfl (by kernel_rfl) Try.func5 (by kernel_rfl)
    (of_decide_eq_true (by kernel_rfl)) (by unfold Func.isWrapper; first | (rw [if_pos (by decide +kernel)]; kernel_rfl) | (rw [if_neg (by decide +kernel)]; exact ⟨rfl, rfl⟩))
    (fun os started H enc _ => lifted_LiveSets os started H enc)
#print axioms said_LiveSets
end Go.Proofs.Ytpbeafgfhnlmbaa
