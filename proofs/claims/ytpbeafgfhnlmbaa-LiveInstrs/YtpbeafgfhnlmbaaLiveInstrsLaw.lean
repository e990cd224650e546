/- LiveInstrs answers true. -/
import Derived.Test.YtpbeafgfhnlmbaaLiveLw2
import Derived.Test.YtpbeafgfhnlmbaaLiveDRd3
import Derived.Test.YtpbeafgfhnlmbaaLiveDWr
import Derived.Test.YtpbeafgfhnlmbaaCodeRmod2
namespace Go.Proofs.Ytpbeafgfhnlmbaa
set_option maxRecDepth 100000
open Go.RowKit Go.Maps Go.ChangeShapes Go.WideShapes Go.ChangeAt Go.Deep

theorem rd_bound2 {m : Md} {f : Fn} (hs : m.ca.length ≤ 60) {op A B C D : Int} (oi : oIn ⟨op, A, B, C, D⟩) : (rdP (md2 m f) ⟨op, A, B, C, D⟩).length ≤ 100000 := by
  by_cases h41 : op = 41
  · rw [rdP_41 _ _ h41]
    have h1 := cr_len (casesP (md2 m f) A B)
    have h2 : (casesP (md2 m f) A B).length ≤ (md2 m f).ca.length := by
      unfold casesP
      split
      · simp
      · rw [List.length_take, List.length_drop]; omega
    have h3 : (md2 m f).ca.length ≤ 60 := hs
    show ((casesP (md2 m f) A B).flatMap crP).length ≤ 100000
    omega
  · exact Nat.le_trans (rdP_ok (md2 m f) ⟨op, A, B, C, D⟩ oi h41).2 (by decide)
theorem fl_bound (m : Md) (f : Fn) (pc : Int) (h : f.is.length ≤ 200) : (flP m f pc).length ≤ 100000 := by
  unfold flP
  split
  · simp
  · split
    · simp
    · refine Nat.le_trans (plP_le _ _) ?_
      omega
set_option maxHeartbeats 8000000 in
theorem walk_LiveInstrs (w : World) (m : Md) (so : Option Addr) (sc : Nat) (go : Option Addr) (gc : Nat) (co : Option Addr) (cc : Nat) (ao : Option Addr) (ac : Nat) (fo : Option Addr) (fc : Nat) (f : Fn) (ko : Option Addr) (kc : Nat) (io : Option Addr) (ic : Nat) (mo : Option Addr) (mc : Nat) (op A B C D pc : Int) (hM : ModR w m so sc go gc co cc ao ac fo fc) (oM : oMd m) (hlen : m.fn.length * 104 ≤ reachBytes) (rk : RowAt elB w ko f.ks.length kc f.ks) (ri : RowAt elIn w io f.is.length ic f.is) (rm : RowAt elU w mo f.ms.length mc f.ms) (oF : oFn f) (oi : oIn ⟨op, A, B, C, D⟩) (_opc : oI pc) :
    Calls Try.prog 4 #[.agg #[.slice so m.sh.length sc, .slice go m.gl.length gc, .slice co m.co.length cc, .slice ao m.ca.length ac, .slice fo m.fn.length fc, .int .i64 m.main], .agg #[.int .i64 f.p, .int .i64 f.c, .int .i64 f.s, .int .i64 f.r, .slice ko f.ks.length kc, .slice io f.is.length ic, .slice mo f.ms.length mc], .agg #[.int .i64 op, .int .i64 A, .int .i64 B, .int .i64 C, .int .i64 D], .int .i64 pc] w fun e w' => e = .returned (.bool true) ∧ G w w' := by
  obtain ⟨W0, hW0⟩ : ∃ W0, W0 = ((w.alloc (.cells #[.slice so m.sh.length sc, .slice go m.gl.length gc, .slice co m.co.length cc, .slice ao m.ca.length ac, .slice fo m.fn.length fc, .int .i64 m.main] 31)).alloc (.cells #[.int .i64 f.p, .int .i64 f.c, .int .i64 f.s, .int .i64 f.r, .slice ko f.ks.length kc, .slice io f.is.length ic, .slice mo f.ms.length mc] 42)).alloc (.cells #[.int .i64 op, .int .i64 A, .int .i64 B, .int .i64 C, .int .i64 D] 35) := ⟨_, rfl⟩
  have g0 : G w W0 := by rw [hW0]; exact (((G.refl w).more _).more _).more _
  have m0 : W0.cell? ⟨w.heap.size, 0, none⟩ = some (.slice so m.sh.length sc) := by rw [hW0]; simp [go_sem]
  have m1 : W0.cell? ⟨w.heap.size, 1, none⟩ = some (.slice go m.gl.length gc) := by rw [hW0]; simp [go_sem]
  have m2 : W0.cell? ⟨w.heap.size, 2, none⟩ = some (.slice co m.co.length cc) := by rw [hW0]; simp [go_sem]
  have m3 : W0.cell? ⟨w.heap.size, 3, none⟩ = some (.slice ao m.ca.length ac) := by rw [hW0]; simp [go_sem]
  have m4 : W0.cell? ⟨w.heap.size, 4, none⟩ = some (.slice fo m.fn.length fc) := by rw [hW0]; simp [go_sem]
  have m5 : W0.cell? ⟨w.heap.size, 5, none⟩ = some (.int .i64 m.main) := by rw [hW0]; simp [go_sem]
  have f0 : W0.cell? ⟨w.heap.size + 1, 0, none⟩ = some (.int .i64 f.p) := by rw [hW0]; simp [go_sem]
  have f1 : W0.cell? ⟨w.heap.size + 1, 1, none⟩ = some (.int .i64 f.c) := by rw [hW0]; simp [go_sem]
  have f2 : W0.cell? ⟨w.heap.size + 1, 2, none⟩ = some (.int .i64 f.s) := by rw [hW0]; simp [go_sem]
  have f3 : W0.cell? ⟨w.heap.size + 1, 3, none⟩ = some (.int .i64 f.r) := by rw [hW0]; simp [go_sem]
  have f4 : W0.cell? ⟨w.heap.size + 1, 4, none⟩ = some (.slice ko f.ks.length kc) := by rw [hW0]; simp [go_sem]
  have f5 : W0.cell? ⟨w.heap.size + 1, 5, none⟩ = some (.slice io f.is.length ic) := by rw [hW0]; simp [go_sem]
  have f6 : W0.cell? ⟨w.heap.size + 1, 6, none⟩ = some (.slice mo f.ms.length mc) := by rw [hW0]; simp [go_sem]
  have i0 : W0.cell? ⟨w.heap.size + 1 + 1, 0, none⟩ = some (.int .i64 op) := by rw [hW0]; simp [go_sem]
  have i1 : W0.cell? ⟨w.heap.size + 1 + 1, 1, none⟩ = some (.int .i64 A) := by rw [hW0]; simp [go_sem]
  have i2 : W0.cell? ⟨w.heap.size + 1 + 1, 2, none⟩ = some (.int .i64 B) := by rw [hW0]; simp [go_sem]
  have i3 : W0.cell? ⟨w.heap.size + 1 + 1, 3, none⟩ = some (.int .i64 C) := by rw [hW0]; simp [go_sem]
  have i4 : W0.cell? ⟨w.heap.size + 1 + 1, 4, none⟩ = some (.int .i64 D) := by rw [hW0]; simp [go_sem]
  have hsz : w.heap.size + 1 + 1 < W0.heap.size := by rw [hW0, World.size_alloc, World.size_alloc, World.size_alloc]; omega
  have fz : W0.frozen? ⟨w.heap.size, 4, none⟩ = false := by rw [hW0]; simp [go_sem]
  have AK := hide (awake_any W0)
  have PRE := hide (fun x1 g1 => law_pre w W0 m so sc go gc co cc ao ac fo fc f ko kc io ic mo mc hM rk ri rm hlen g0 m0 m1 m2 m3 m4 m5 f0 f1 f2 f3 f4 f5 f6 fz x1 g1)
  have IBX : Hid (∀ (b c' : Nat) (X : World), LwI w W0 X m so sc go gc co cc ao ac f ko kc io ic mo mc b c' → ∀ x, G X x → x.cell? ⟨w.heap.size + 1 + 1, 0, none⟩ = some (.int .i64 op) ∧ x.cell? ⟨w.heap.size + 1 + 1, 1, none⟩ = some (.int .i64 A) ∧ x.cell? ⟨w.heap.size + 1 + 1, 2, none⟩ = some (.int .i64 B) ∧ x.cell? ⟨w.heap.size + 1 + 1, 3, none⟩ = some (.int .i64 C) ∧ x.cell? ⟨w.heap.size + 1 + 1, 4, none⟩ = some (.int .i64 D)) := hide fun b c' X LW x g => by
    have hbk : X.heap[w.heap.size + 1 + 1]? = W0.heap[w.heap.size + 1 + 1]? := LW.old _ hsz (by omega)
    have hc : ∀ k v, W0.cell? ⟨w.heap.size + 1 + 1, k, none⟩ = some v → x.cell? ⟨w.heap.size + 1 + 1, k, none⟩ = some v := fun k v hv => g.cell ((World.cell?_of_block (a := ⟨w.heap.size + 1 + 1, k, none⟩) hbk).trans hv)
    exact ⟨hc 0 _ i0, hc 1 _ i1, hc 2 _ i2, hc 3 _ i3, hc 4 _ i4⟩
  replace oM := hide oM
  replace oF := hide oF
  replace oi := hide oi
  clear hM rk ri rm hlen fz i0 i1 i2 i3 i4 hsz
  go_enter Try.func4, Try.ntmps4
  go_upto_region 1 with fail
  rw [← hW0]
  clear hW0
  go_wp2_with fail
  refine (unhide AK).mono ?_
  rintro e x1 ⟨rfl, g1⟩
  obtain ⟨b, c', x2, hrun, k4, fk, LW⟩ := unhide PRE x1 g1
  replace LW := hide LW
  have e0 := g1.cell f0
  have e1 := g1.cell f1
  have e2 := g1.cell f2
  have e3 := g1.cell f3
  have e4 := g1.cell f4
  have e5 := g1.cell f5
  have e6 := g1.cell f6
  have d4 := (G.alloc x1 (.cells #[.int .i64 f.p, .int .i64 f.c, .int .i64 f.s, .int .i64 f.r, .slice ko f.ks.length kc, .slice io f.is.length ic, .slice mo f.ms.length mc] 42)).cell (g1.cell m4)
  clear AK PRE m0 m1 m2 m3 m4 m5 f0 f1 f2 f3 f4 f5 f6 g0 g1
  go_upto_region 4 with (at_builtin; refine wpl_run rfl (.tmp 15) (.tmp 17) 29 rfl _ _ rfl rfl _ _ hrun ?_; clear hrun)
  obtain ⟨X, hX⟩ : ∃ X, X = x2.setCell ⟨w.heap.size, 4, none⟩ (.slice (some ⟨b, 0, none⟩) (m.fn.length + 1) c') := ⟨_, rfl⟩
  rw [← hX] at LW ⊢
  have BB := hide (fun x g => (unhide LW).box x g)
  have BI := hide (unhide IBX b c' X (unhide LW))
  obtain ⟨bx0, bx1, bx2, bx3, bx4, bx5, bx6, bx7, bx8, bx9, bx10, bx11, bx12⟩ := unhide BB X (G.refl X)
  have CB := hide (lw_big (unhide LW))
  clear hX k4 fk e0 e1 e2 e3 e4 e5 e6 d4 IBX
  go_wp2_with fail
  refine (unhide CB).mono ?_
  rintro e y1 ⟨q, rfl, hq, gy1⟩
  have KW := hide ((unhide LW).g.trans gy1)
  clear CB bx0 bx1 bx2 bx3 bx4 bx5 bx6 bx7 bx8 bx9 bx10 bx11 bx12
  cases q
  rotate_left
  · clear hq gy1 LW BB BI
    go_wp2_with fail
    go_ret
    exact ⟨rfl, unhide KW⟩
  have sm := hq rfl
  obtain ⟨s1, s2, s3, s4⟩ := sm_bounds sm
  have CM : Hid (Calls Try.prog 14 #[.agg #[.slice so m.sh.length sc, .slice go m.gl.length gc, .slice co m.co.length cc, .slice ao m.ca.length ac, .slice (some ⟨b, 0, none⟩) (m.fn.length + 1) c', .int .i64 m.main]] y1 fun e w' => ∃ v', e = .returned v' ∧ ModC w' v' (md2 m f) ∧ G y1 w') := hide (by
    have mr := (unhide LW).mr.g gy1
    obtain ⟨q1, q2, q3, q4, q5, q6⟩ := sm
    exact rmodule2 y1 _ (md2 m f) ⟨so, sc, go, gc, co, cc, ao, ac, some ⟨b, 0, none⟩, c', rfl, mr.r1, mr.r2, mr.r3, mr.r4, mr.r5⟩ (by omega) (by omega) (by omega) (by omega) (by omega) (fun f hf => by obtain ⟨z1, z2, z3⟩ := q6 f hf; exact ⟨by omega, by omega, by omega⟩))
  obtain ⟨bx0, bx1, bx2, bx3, bx4, bx5, bx6, bx7, bx8, bx9, bx10, bx11, bx12⟩ := unhide BB y1 gy1
  have hs2 := hide s2
  have hs4 := hide s4
  have hs3 := hide (sm.2.2.2.2.2 f (by simp [md2]))
  clear hq sm s1 s2 s3 s4
  go_wp2_with fail
  refine (unhide CM).mono ?_
  rintro e z1 ⟨v3, rfl, ⟨so2, sc2, go2, gc2, co2, cc2, ao2, ac2, fo2, fc2, hv3, MR⟩, gz1⟩
  subst hv3
  obtain ⟨M2, hM2⟩ : ∃ M2, M2 = md2 m f := ⟨_, rfl⟩
  rw [← hM2] at MR ⊢
  replace MR := hide MR
  replace hM2 := hide hM2
  clear CM bx0 bx1 bx2 bx3 bx4 bx5 bx6 bx7 bx8 bx9 bx10 bx11 bx12
  unfold agM
  go_upto_region 7 with fail
  obtain ⟨Z1, hZ1⟩ : ∃ Z1, Z1 = z1.alloc (.cells #[.slice so2 M2.sh.length sc2, .slice go2 M2.gl.length gc2, .slice co2 M2.co.length cc2, .slice ao2 M2.ca.length ac2, .slice fo2 M2.fn.length fc2, .int .i64 M2.main] 48) := ⟨_, rfl⟩
  rw [← hZ1]
  have GZ1 : G z1 Z1 := by rw [hZ1]; exact G.alloc _ _
  obtain ⟨B1, hB1⟩ : ∃ B1, B1 = z1.heap.size := ⟨_, rfl⟩
  have WB : Hid (∀ x, G Z1 x → x.cell? ⟨B1, 0, none⟩ = some (.slice so2 M2.sh.length sc2) ∧ x.cell? ⟨B1, 1, none⟩ = some (.slice go2 M2.gl.length gc2) ∧ x.cell? ⟨B1, 2, none⟩ = some (.slice co2 M2.co.length cc2) ∧ x.cell? ⟨B1, 3, none⟩ = some (.slice ao2 M2.ca.length ac2) ∧ x.cell? ⟨B1, 4, none⟩ = some (.slice fo2 M2.fn.length fc2) ∧ x.cell? ⟨B1, 5, none⟩ = some (.int .i64 M2.main)) := hide fun x g => by
    rw [hB1]
    exact ⟨g.cell (by rw [hZ1]; simp [go_sem]), g.cell (by rw [hZ1]; simp [go_sem]), g.cell (by rw [hZ1]; simp [go_sem]), g.cell (by rw [hZ1]; simp [go_sem]), g.cell (by rw [hZ1]; simp [go_sem]), g.cell (by rw [hZ1]; simp [go_sem])⟩
  rw [← hB1]
  have gX1 : G X Z1 := (gy1.trans gz1).trans GZ1
  have gz1Z := hide GZ1
  obtain ⟨bx0, bx1, bx2, bx3, bx4, bx5, bx6, bx7, bx8, bx9, bx10, bx11, bx12⟩ := unhide BB Z1 gX1
  have CF2 : Hid (Calls Try.prog 15 #[.agg #[.int .i64 f.p, .int .i64 f.c, .int .i64 f.s, .int .i64 f.r, .slice ko f.ks.length kc, .slice io f.is.length ic, .slice mo f.ms.length mc]] Z1 fun e w' => ∃ cs, e = .returned (.agg cs.toArray) ∧ (∀ w2, KeepFrom Z1.heap.size w' w2 → FnCells w2 f cs) ∧ G Z1 w') := hide (by
    obtain ⟨z1, z2, z3⟩ := unhide hs3
    exact rfunc Z1 f ko kc io ic mo mc ((unhide LW).rk.g okB gX1) ((unhide LW).ri.g okIn gX1) ((unhide LW).rm.g okU gX1) (by omega) (by omega) (by omega))
  replace gX1 := hide gX1
  clear hZ1 hB1 GZ1 gz1 gy1
  go_wp2_with fail
  refine (unhide CF2).mono ?_
  rintro e z2 ⟨cs, rfl, hcs, gz2⟩
  obtain ⟨ko2, kc2, io2, ic2, mo2, mc2, ecs, rk2, ri2, rm2⟩ := hcs z2 (KeepFrom.refl _ _)
  subst ecs
  replace ri2 := hide ri2
  clear CF2 bx0 bx1 bx2 bx3 bx4 bx5 bx6 bx7 bx8 bx9 bx10 bx11 bx12 hcs rk2 rm2
  go_upto_region 8 with fail
  obtain ⟨Z2, hZ2⟩ : ∃ Z2, Z2 = z2.alloc (.cells #[.int .i64 f.p, .int .i64 f.c, .int .i64 f.s, .int .i64 f.r, .slice ko2 f.ks.length kc2, .slice io2 f.is.length ic2, .slice mo2 f.ms.length mc2] 52) := ⟨_, rfl⟩
  rw [← hZ2]
  have GZ2 : G z2 Z2 := by rw [hZ2]; exact G.alloc _ _
  obtain ⟨B2, hB2⟩ : ∃ B2, B2 = z2.heap.size := ⟨_, rfl⟩
  have GB : Hid (∀ x, G Z2 x → x.cell? ⟨B2, 0, none⟩ = some (.int .i64 f.p) ∧ x.cell? ⟨B2, 1, none⟩ = some (.int .i64 f.c) ∧ x.cell? ⟨B2, 2, none⟩ = some (.int .i64 f.s) ∧ x.cell? ⟨B2, 3, none⟩ = some (.int .i64 f.r) ∧ x.cell? ⟨B2, 4, none⟩ = some (.slice ko2 f.ks.length kc2) ∧ x.cell? ⟨B2, 5, none⟩ = some (.slice io2 f.is.length ic2) ∧ x.cell? ⟨B2, 6, none⟩ = some (.slice mo2 f.ms.length mc2)) := hide fun x g => by
    rw [hB2]
    exact ⟨g.cell (by rw [hZ2]; simp [go_sem]), g.cell (by rw [hZ2]; simp [go_sem]), g.cell (by rw [hZ2]; simp [go_sem]), g.cell (by rw [hZ2]; simp [go_sem]), g.cell (by rw [hZ2]; simp [go_sem]), g.cell (by rw [hZ2]; simp [go_sem]), g.cell (by rw [hZ2]; simp [go_sem])⟩
  rw [← hB2]
  have gZ12 := hide (gz2.trans GZ2)
  have gz2Z := hide GZ2
  obtain ⟨i0, i1, i2, i3, i4⟩ := unhide BI Z2 ((unhide gX1).trans (unhide gZ12))
  have CI : Hid (Calls Try.prog 16 #[.agg #[.int .i64 op, .int .i64 A, .int .i64 B, .int .i64 C, .int .i64 D]] Z2 fun e w' => e = .returned (.agg #[.int .i64 op, .int .i64 A, .int .i64 B, .int .i64 C, .int .i64 D]) ∧ G Z2 w') := hide (rinstr_any Z2 ⟨op, A, B, C, D⟩)
  clear hZ2 hB2 GZ2 gz2
  go_wp2_with fail
  refine (unhide CI).mono ?_
  rintro e z3 ⟨rfl, gz3⟩
  clear CI i0 i1 i2 i3 i4
  go_upto_region 9 with fail
  obtain ⟨Z3, hZ3⟩ : ∃ Z3, Z3 = z3.alloc (.cells #[.int .i64 op, .int .i64 A, .int .i64 B, .int .i64 C, .int .i64 D] 54) := ⟨_, rfl⟩
  rw [← hZ3]
  have GZ3 : G z3 Z3 := by rw [hZ3]; exact G.alloc _ _
  obtain ⟨B3, hB3⟩ : ∃ B3, B3 = z3.heap.size := ⟨_, rfl⟩
  have JB : Hid (∀ x, G Z3 x → x.cell? ⟨B3, 0, none⟩ = some (.int .i64 op) ∧ x.cell? ⟨B3, 1, none⟩ = some (.int .i64 A) ∧ x.cell? ⟨B3, 2, none⟩ = some (.int .i64 B) ∧ x.cell? ⟨B3, 3, none⟩ = some (.int .i64 C) ∧ x.cell? ⟨B3, 4, none⟩ = some (.int .i64 D)) := hide fun x g => by
    rw [hB3]
    exact ⟨g.cell (by rw [hZ3]; simp [go_sem]), g.cell (by rw [hZ3]; simp [go_sem]), g.cell (by rw [hZ3]; simp [go_sem]), g.cell (by rw [hZ3]; simp [go_sem]), g.cell (by rw [hZ3]; simp [go_sem])⟩
  rw [← hB3]
  have g23 : G Z2 Z3 := gz3.trans GZ3
  have g13 : G Z1 Z3 := (unhide gZ12).trans g23
  have gX3 : G X Z3 := (unhide gX1).trans g13
  have WB3 := hide (fun x (g : G Z3 x) => unhide WB x (g13.trans g))
  have GB3 := hide (fun x (g : G Z3 x) => unhide GB x (g23.trans g))
  have BI3 := hide (fun x (g : G Z3 x) => unhide BI x (gX3.trans g))
  have BM3 : Hid (∀ x, G Z3 x → x.cell? ⟨w.heap.size, 0, none⟩ = some (.slice so m.sh.length sc) ∧ x.cell? ⟨w.heap.size, 1, none⟩ = some (.slice go m.gl.length gc) ∧ x.cell? ⟨w.heap.size, 2, none⟩ = some (.slice co m.co.length cc) ∧ x.cell? ⟨w.heap.size, 3, none⟩ = some (.slice ao m.ca.length ac) ∧ x.cell? ⟨w.heap.size, 4, none⟩ = some (.slice (some ⟨b, 0, none⟩) (m.fn.length + 1) c') ∧ x.cell? ⟨w.heap.size, 5, none⟩ = some (.int .i64 m.main)) := hide fun x g => by
    obtain ⟨bx0, bx1, bx2, bx3, bx4, bx5, bx6, bx7, bx8, bx9, bx10, bx11, bx12⟩ := unhide BB x (gX3.trans g)
    exact ⟨bx0, bx1, bx2, bx3, bx4, bx5⟩
  have BF3 : Hid (∀ x, G Z3 x → x.cell? ⟨w.heap.size + 1, 0, none⟩ = some (.int .i64 f.p) ∧ x.cell? ⟨w.heap.size + 1, 1, none⟩ = some (.int .i64 f.c) ∧ x.cell? ⟨w.heap.size + 1, 2, none⟩ = some (.int .i64 f.s) ∧ x.cell? ⟨w.heap.size + 1, 3, none⟩ = some (.int .i64 f.r) ∧ x.cell? ⟨w.heap.size + 1, 4, none⟩ = some (.slice ko f.ks.length kc) ∧ x.cell? ⟨w.heap.size + 1, 5, none⟩ = some (.slice io f.is.length ic) ∧ x.cell? ⟨w.heap.size + 1, 6, none⟩ = some (.slice mo f.ms.length mc)) := hide fun x g => by
    obtain ⟨bx0, bx1, bx2, bx3, bx4, bx5, bx6, bx7, bx8, bx9, bx10, bx11, bx12⟩ := unhide BB x (gX3.trans g)
    exact ⟨bx6, bx7, bx8, bx9, bx10, bx11, bx12⟩
  have MR3 := hide ((unhide MR).g ((unhide gz1Z).trans g13))
  have RI3 := hide ((unhide ri2).g okIn ((unhide gz2Z).trans g23))
  have DONE := hide (fun x (g : G Z3 x) => (unhide LW).g.trans (gX3.trans g))
  obtain ⟨RL, hRL⟩ : ∃ RL, RL = rdP (md2 m f) ⟨op, A, B, C, D⟩ := ⟨_, rfl⟩
  obtain ⟨WL, hWL⟩ : ∃ WL, WL = wrP ⟨op, A, B, C, D⟩ := ⟨_, rfl⟩
  obtain ⟨FL, hFL⟩ : ∃ FL, FL = flP (md2 m f) f pc := ⟨_, rfl⟩
  have hca : Hid (m.ca.length ≤ 60) := hs2
  have CR : Hid (∀ x, G Z3 x → Calls Try.prog 9 #[.agg #[.slice so m.sh.length sc, .slice go m.gl.length gc, .slice co m.co.length cc, .slice ao m.ca.length ac, .slice (some ⟨b, 0, none⟩) (m.fn.length + 1) c', .int .i64 m.main], .agg #[.int .i64 op, .int .i64 A, .int .i64 B, .int .i64 C, .int .i64 D]] x (LTo x RL)) := hide fun x g => by
    rw [hRL]
    exact lw_reads (unhide LW) (by have := unhide hca; omega) (gX3.trans g) op A B C D (unhide oi).2.1
  have DR : Hid (∀ x, G Z3 x → Calls Try.prog 17 #[.agg #[.slice so2 M2.sh.length sc2, .slice go2 M2.gl.length gc2, .slice co2 M2.co.length cc2, .slice ao2 M2.ca.length ac2, .slice fo2 M2.fn.length fc2, .int .i64 M2.main], .agg #[.int .i64 op, .int .i64 A, .int .i64 B, .int .i64 C, .int .i64 D]] x (LTo x RL)) := hide fun x g => by
    rw [hRL, ← unhide hM2]
    exact rreads_any x M2 so2 sc2 go2 gc2 co2 cc2 ao2 ac2 fo2 fc2 ((unhide MR3).g g) ⟨op, A, B, C, D⟩ (unhide oi) (by rw [unhide hM2]; have := unhide hca; show m.ca.length ≤ 1000000; omega)
  have CW : Hid (∀ x, Calls Try.prog 11 #[.agg #[.int .i64 op, .int .i64 A, .int .i64 B, .int .i64 C, .int .i64 D]] x (LTo x WL)) := hide fun x => by
    rw [hWL]
    exact writes_any x ⟨op, A, B, C, D⟩
  have DW : Hid (∀ x, Calls Try.prog 18 #[.agg #[.int .i64 op, .int .i64 A, .int .i64 B, .int .i64 C, .int .i64 D]] x (LTo x WL)) := hide fun x => by
    rw [hWL]
    exact rwrites_any x ⟨op, A, B, C, D⟩
  have CFo : Hid (∀ x, G Z3 x → Calls Try.prog 19 #[.agg #[.slice so m.sh.length sc, .slice go m.gl.length gc, .slice co m.co.length cc, .slice ao m.ca.length ac, .slice (some ⟨b, 0, none⟩) (m.fn.length + 1) c', .int .i64 m.main], .agg #[.int .i64 f.p, .int .i64 f.c, .int .i64 f.s, .int .i64 f.r, .slice ko f.ks.length kc, .slice io f.is.length ic, .slice mo f.ms.length mc], .int .i64 pc] x (LTo x FL)) := hide fun x g => by
    rw [hFL]
    exact lw_follows (unhide LW) (unhide oF) (by have := unhide hca; omega) (gX3.trans g) pc
  have DFo : Hid (∀ x, G Z3 x → Calls Try.prog 20 #[.agg #[.slice so2 M2.sh.length sc2, .slice go2 M2.gl.length gc2, .slice co2 M2.co.length cc2, .slice ao2 M2.ca.length ac2, .slice fo2 M2.fn.length fc2, .int .i64 M2.main], .agg #[.int .i64 f.p, .int .i64 f.c, .int .i64 f.s, .int .i64 f.r, .slice ko2 f.ks.length kc2, .slice io2 f.is.length ic2, .slice mo2 f.ms.length mc2], .int .i64 pc] x (LTo x FL)) := hide fun x g => by
    rw [hFL, ← unhide hM2]
    exact rfollows_any x M2 so2 sc2 go2 gc2 co2 cc2 ao2 ac2 fo2 fc2 ((unhide MR3).g g) f ko2 kc2 io2 ic2 mo2 mc2 ((unhide RI3).g okIn g) (oF_is (unhide oF)) (by rw [unhide hM2]; have := unhide hca; show m.ca.length < 1000000; omega) (by have := unhide hs4; omega) pc
  have IN : Hid (∀ (l : List Int) (x : World) (u v : Value), l.length ≤ 100000 → IsL x u l → IsL x v l → Calls Try.prog 10 #[u, v] x fun e w' => e = .returned (.bool true) ∧ G x w') := hide fun l x u v hl h1 h2 => by
    have := ints_any x u v l l h1 h2 (by omega) (by omega)
    simp only [decide_true] at this
    exact this
  have HR : Hid (RL.length ≤ 100000) := hide (by rw [hRL]; exact rd_bound2 (unhide hca) (unhide oi))
  have HWb : Hid (WL.length ≤ 100000) := hide (by rw [hWL]; exact Nat.le_trans (wrP_ok _ (unhide oi)).2 (by decide))
  have HF : Hid (FL.length ≤ 100000) := hide (by rw [hFL]; exact fl_bound _ _ _ (unhide hs4))
  clear LW BB BI WB GB MR ri2 gX1 gZ12 gz1Z gz2Z hZ3 GZ3 hB3 gz3 g23 g13 gX3 MR3 RI3 hRL hWL hFL hca hs2 hs4 hs3 hM2 oM oF oi KW
  refine wp_region_noPanic ?_
  refine wp_region_held_drew (S := fun x => G Z3 x) (by kernel_rfl) (G.drewN Z3 1) (fun hHeld => ?_)
  obtain ⟨y4, hy4⟩ : ∃ y, y = Z3.drew := ⟨_, rfl⟩
  rw [← hy4] at hHeld ⊢
  clear hy4
  refine wpAnyH_take (i := 0) (v := .agg #[.slice so m.sh.length sc, .slice go m.gl.length gc, .slice co m.co.length cc, .slice ao m.ca.length ac, .slice (some ⟨b, 0, none⟩) (m.fn.length + 1) c', .int .i64 m.main]) rfl (by kernel_rfl) (by kernel_rfl) (by kernel_rfl) (fun _ _ _ h => h) (Or.inl ⟨by rfl, fun w hSw => by obtain ⟨t0, t1, t2, t3, t4, t5⟩ := unhide BM3 w hSw; go_simp⟩) (by assumption) ?_
  try simp only [Act.put, List.getElem_toArray, List.getElem_cons_zero, List.setIfInBounds_toArray, List.set_cons_zero, List.set_cons_succ]
  refine wpAnyH_take (i := 1) (v := .agg #[.int .i64 op, .int .i64 A, .int .i64 B, .int .i64 C, .int .i64 D]) rfl (by kernel_rfl) (by kernel_rfl) (by kernel_rfl) (fun _ _ _ h => h) (Or.inl ⟨by rfl, fun w hSw => by obtain ⟨t0, t1, t2, t3, t4⟩ := unhide BI3 w hSw; go_simp⟩) (by assumption) ?_
  try simp only [Act.put, List.getElem_toArray, List.getElem_cons_succ, List.getElem_cons_zero, List.setIfInBounds_toArray, List.set_cons_zero, List.set_cons_succ]
  refine wpAnyH_take (i := 3) (v := .agg #[.slice so2 M2.sh.length sc2, .slice go2 M2.gl.length gc2, .slice co2 M2.co.length cc2, .slice ao2 M2.ca.length ac2, .slice fo2 M2.fn.length fc2, .int .i64 M2.main]) rfl (by kernel_rfl) (by kernel_rfl) (by kernel_rfl) (fun _ _ _ h => h) (Or.inl ⟨by rfl, fun w hSw => by obtain ⟨t0, t1, t2, t3, t4, t5⟩ := unhide WB3 w hSw; go_simp⟩) (by assumption) ?_
  try simp only [Act.put, List.getElem_toArray, List.getElem_cons_succ, List.getElem_cons_zero, List.setIfInBounds_toArray, List.set_cons_zero, List.set_cons_succ]
  refine wpAnyH_take (i := 4) (v := .agg #[.int .i64 op, .int .i64 A, .int .i64 B, .int .i64 C, .int .i64 D]) rfl (by kernel_rfl) (by kernel_rfl) (by kernel_rfl) (fun _ _ _ h => h) (Or.inl ⟨by rfl, fun w hSw => by obtain ⟨t0, t1, t2, t3, t4⟩ := unhide JB w hSw; go_simp⟩) (by assumption) ?_
  try simp only [Act.put, List.getElem_toArray, List.getElem_cons_succ, List.getElem_cons_zero, List.setIfInBounds_toArray, List.set_cons_zero, List.set_cons_succ]
  refine wpAnyH_ready (rs := [2]) (by kernel_rfl) (by simp) ?_
  refine AllReadyH.cons rfl (fun K hK => ?_) AllReadyH.nil
  go_simp
  refine (unhide CR y4 hHeld).mono ?_
  rintro e y5 ⟨u1, rfl, hu1, gy5⟩
  go_wp2_with fail
  have hgy5 := hHeld.trans gy5
  refine hK.out _ _ hgy5 (fun hHy5 => ?_)
  clear hK K
  try simp only [Act.put, List.getElem_toArray, List.getElem_cons_succ, List.getElem_cons_zero, List.setIfInBounds_toArray, List.set_cons_zero, List.set_cons_succ]
  refine wpAnyH_ready (rs := [5]) (by kernel_rfl) (by simp) ?_
  refine AllReadyH.cons rfl (fun K hK => ?_) AllReadyH.nil
  go_simp
  refine (unhide DR y5 hgy5).mono ?_
  rintro e y6 ⟨u2, rfl, hu2, gy6⟩
  replace hu1 := hu1.g gy6
  go_wp2_with fail
  have hgy6 := hgy5.trans gy6
  refine hK.out _ _ hgy6 (fun hHy6 => ?_)
  clear hK K
  try simp only [Act.put, List.getElem_toArray, List.getElem_cons_succ, List.getElem_cons_zero, List.setIfInBounds_toArray, List.set_cons_zero, List.set_cons_succ]
  refine wpAnyH_ready (rs := [6]) (by kernel_rfl) (by simp) ?_
  refine AllReadyH.cons rfl (fun K hK => ?_) AllReadyH.nil
  go_simp
  refine (unhide IN RL y6 u1 u2 (unhide HR) hu1 hu2).mono ?_
  rintro e y7 ⟨rfl, gy7⟩
  clear hu1 hu2
  go_wp2_with fail
  have hgy7 := hgy6.trans gy7
  refine hK.out _ _ hgy7 (fun hHy7 => ?_)
  clear hK K
  try simp only [Act.put, List.getElem_toArray, List.getElem_cons_succ, List.getElem_cons_zero, List.setIfInBounds_toArray, List.set_cons_zero, List.set_cons_succ]
  refine wpAnyH_take (i := 7) (v := .bool true) rfl (by kernel_rfl) (by kernel_rfl) (by kernel_rfl) (fun _ _ _ h => h) (Or.inl ⟨by rfl, fun w hSw => by go_simp⟩) (by assumption) ?_
  try simp only [Act.put, List.getElem_toArray, List.getElem_cons_succ, List.getElem_cons_zero, List.setIfInBounds_toArray, List.set_cons_zero, List.set_cons_succ]
  refine wpAnyH_take (i := 8) (v := .agg #[.int .i64 op, .int .i64 A, .int .i64 B, .int .i64 C, .int .i64 D]) rfl (by kernel_rfl) (by kernel_rfl) (by kernel_rfl) (fun _ _ _ h => h) (Or.inl ⟨by rfl, fun w hSw => by obtain ⟨t0, t1, t2, t3, t4⟩ := unhide BI3 w hSw; go_simp⟩) (by assumption) ?_
  try simp only [Act.put, List.getElem_toArray, List.getElem_cons_succ, List.getElem_cons_zero, List.setIfInBounds_toArray, List.set_cons_zero, List.set_cons_succ]
  refine wpAnyH_take (i := 10) (v := .agg #[.int .i64 op, .int .i64 A, .int .i64 B, .int .i64 C, .int .i64 D]) rfl (by kernel_rfl) (by kernel_rfl) (by kernel_rfl) (fun _ _ _ h => h) (Or.inl ⟨by rfl, fun w hSw => by obtain ⟨t0, t1, t2, t3, t4⟩ := unhide JB w hSw; go_simp⟩) (by assumption) ?_
  try simp only [Act.put, List.getElem_toArray, List.getElem_cons_succ, List.getElem_cons_zero, List.setIfInBounds_toArray, List.set_cons_zero, List.set_cons_succ]
  refine wpAnyH_ready (rs := [9]) (by kernel_rfl) (by simp) ?_
  refine AllReadyH.cons rfl (fun K hK => ?_) AllReadyH.nil
  go_simp
  refine (unhide CW y7).mono ?_
  rintro e y8 ⟨u3, rfl, hu3, gy8⟩
  go_wp2_with fail
  have hgy8 := hgy7.trans gy8
  refine hK.out _ _ hgy8 (fun hHy8 => ?_)
  clear hK K
  try simp only [Act.put, List.getElem_toArray, List.getElem_cons_succ, List.getElem_cons_zero, List.setIfInBounds_toArray, List.set_cons_zero, List.set_cons_succ]
  refine wpAnyH_ready (rs := [11]) (by kernel_rfl) (by simp) ?_
  refine AllReadyH.cons rfl (fun K hK => ?_) AllReadyH.nil
  go_simp
  refine (unhide DW y8).mono ?_
  rintro e y9 ⟨u4, rfl, hu4, gy9⟩
  replace hu3 := hu3.g gy9
  go_wp2_with fail
  have hgy9 := hgy8.trans gy9
  refine hK.out _ _ hgy9 (fun hHy9 => ?_)
  clear hK K
  try simp only [Act.put, List.getElem_toArray, List.getElem_cons_succ, List.getElem_cons_zero, List.setIfInBounds_toArray, List.set_cons_zero, List.set_cons_succ]
  refine wpAnyH_ready (rs := [12]) (by kernel_rfl) (by simp) ?_
  refine AllReadyH.cons rfl (fun K hK => ?_) AllReadyH.nil
  go_simp
  refine (unhide IN WL y9 u3 u4 (unhide HWb) hu3 hu4).mono ?_
  rintro e y10 ⟨rfl, gy10⟩
  clear hu3 hu4
  go_wp2_with fail
  have hgy10 := hgy9.trans gy10
  refine hK.out _ _ hgy10 (fun hHy10 => ?_)
  clear hK K
  try simp only [Act.put, List.getElem_toArray, List.getElem_cons_succ, List.getElem_cons_zero, List.setIfInBounds_toArray, List.set_cons_zero, List.set_cons_succ]
  refine wpAnyH_take (i := 13) (v := .bool true) rfl (by kernel_rfl) (by kernel_rfl) (by kernel_rfl) (fun _ _ _ h => h) (Or.inl ⟨by rfl, fun w hSw => by go_simp⟩) (by assumption) ?_
  try simp only [Act.put, List.getElem_toArray, List.getElem_cons_succ, List.getElem_cons_zero, List.setIfInBounds_toArray, List.set_cons_zero, List.set_cons_succ]
  refine wpAnyH_take (i := 14) (v := .bool true) rfl (by kernel_rfl) (by kernel_rfl) (by kernel_rfl) (fun _ _ _ h => h) (Or.inl ⟨by rfl, fun w hSw => by go_simp⟩) (by assumption) ?_
  try simp only [Act.put, List.getElem_toArray, List.getElem_cons_succ, List.getElem_cons_zero, List.setIfInBounds_toArray, List.set_cons_zero, List.set_cons_succ]
  refine wpAnyH_take (i := 15) (v := .agg #[.slice so m.sh.length sc, .slice go m.gl.length gc, .slice co m.co.length cc, .slice ao m.ca.length ac, .slice (some ⟨b, 0, none⟩) (m.fn.length + 1) c', .int .i64 m.main]) rfl (by kernel_rfl) (by kernel_rfl) (by kernel_rfl) (fun _ _ _ h => h) (Or.inl ⟨by rfl, fun w hSw => by obtain ⟨t0, t1, t2, t3, t4, t5⟩ := unhide BM3 w hSw; go_simp⟩) (by assumption) ?_
  try simp only [Act.put, List.getElem_toArray, List.getElem_cons_succ, List.getElem_cons_zero, List.setIfInBounds_toArray, List.set_cons_zero, List.set_cons_succ]
  refine wpAnyH_take (i := 16) (v := .agg #[.int .i64 f.p, .int .i64 f.c, .int .i64 f.s, .int .i64 f.r, .slice ko f.ks.length kc, .slice io f.is.length ic, .slice mo f.ms.length mc]) rfl (by kernel_rfl) (by kernel_rfl) (by kernel_rfl) (fun _ _ _ h => h) (Or.inl ⟨by rfl, fun w hSw => by obtain ⟨t0, t1, t2, t3, t4, t5, t6⟩ := unhide BF3 w hSw; go_simp⟩) (by assumption) ?_
  try simp only [Act.put, List.getElem_toArray, List.getElem_cons_succ, List.getElem_cons_zero, List.setIfInBounds_toArray, List.set_cons_zero, List.set_cons_succ]
  refine wpAnyH_take (i := 17) (v := .int .i64 pc) rfl (by kernel_rfl) (by kernel_rfl) (by kernel_rfl) (fun _ _ _ h => h) (Or.inl ⟨by rfl, fun w hSw => by go_simp⟩) (by assumption) ?_
  try simp only [Act.put, List.getElem_toArray, List.getElem_cons_succ, List.getElem_cons_zero, List.setIfInBounds_toArray, List.set_cons_zero, List.set_cons_succ]
  refine wpAnyH_take (i := 19) (v := .agg #[.slice so2 M2.sh.length sc2, .slice go2 M2.gl.length gc2, .slice co2 M2.co.length cc2, .slice ao2 M2.ca.length ac2, .slice fo2 M2.fn.length fc2, .int .i64 M2.main]) rfl (by kernel_rfl) (by kernel_rfl) (by kernel_rfl) (fun _ _ _ h => h) (Or.inl ⟨by rfl, fun w hSw => by obtain ⟨t0, t1, t2, t3, t4, t5⟩ := unhide WB3 w hSw; go_simp⟩) (by assumption) ?_
  try simp only [Act.put, List.getElem_toArray, List.getElem_cons_succ, List.getElem_cons_zero, List.setIfInBounds_toArray, List.set_cons_zero, List.set_cons_succ]
  refine wpAnyH_take (i := 20) (v := .agg #[.int .i64 f.p, .int .i64 f.c, .int .i64 f.s, .int .i64 f.r, .slice ko2 f.ks.length kc2, .slice io2 f.is.length ic2, .slice mo2 f.ms.length mc2]) rfl (by kernel_rfl) (by kernel_rfl) (by kernel_rfl) (fun _ _ _ h => h) (Or.inl ⟨by rfl, fun w hSw => by obtain ⟨t0, t1, t2, t3, t4, t5, t6⟩ := unhide GB3 w hSw; go_simp⟩) (by assumption) ?_
  try simp only [Act.put, List.getElem_toArray, List.getElem_cons_succ, List.getElem_cons_zero, List.setIfInBounds_toArray, List.set_cons_zero, List.set_cons_succ]
  refine wpAnyH_take (i := 21) (v := .int .i64 pc) rfl (by kernel_rfl) (by kernel_rfl) (by kernel_rfl) (fun _ _ _ h => h) (Or.inl ⟨by rfl, fun w hSw => by go_simp⟩) (by assumption) ?_
  try simp only [Act.put, List.getElem_toArray, List.getElem_cons_succ, List.getElem_cons_zero, List.setIfInBounds_toArray, List.set_cons_zero, List.set_cons_succ]
  refine wpAnyH_ready (rs := [18]) (by kernel_rfl) (by simp) ?_
  refine AllReadyH.cons rfl (fun K hK => ?_) AllReadyH.nil
  go_simp
  refine (unhide CFo y10 hgy10).mono ?_
  rintro e y11 ⟨u5, rfl, hu5, gy11⟩
  go_wp2_with fail
  have hgy11 := hgy10.trans gy11
  refine hK.out _ _ hgy11 (fun hHy11 => ?_)
  clear hK K
  try simp only [Act.put, List.getElem_toArray, List.getElem_cons_succ, List.getElem_cons_zero, List.setIfInBounds_toArray, List.set_cons_zero, List.set_cons_succ]
  refine wpAnyH_ready (rs := [22]) (by kernel_rfl) (by simp) ?_
  refine AllReadyH.cons rfl (fun K hK => ?_) AllReadyH.nil
  go_simp
  refine (unhide DFo y11 hgy11).mono ?_
  rintro e y12 ⟨u6, rfl, hu6, gy12⟩
  replace hu5 := hu5.g gy12
  go_wp2_with fail
  have hgy12 := hgy11.trans gy12
  refine hK.out _ _ hgy12 (fun hHy12 => ?_)
  clear hK K
  try simp only [Act.put, List.getElem_toArray, List.getElem_cons_succ, List.getElem_cons_zero, List.setIfInBounds_toArray, List.set_cons_zero, List.set_cons_succ]
  refine wpAnyH_ready (rs := [23]) (by kernel_rfl) (by simp) ?_
  refine AllReadyH.cons rfl (fun K hK => ?_) AllReadyH.nil
  go_simp
  refine (unhide IN FL y12 u5 u6 (unhide HF) hu5 hu6).mono ?_
  rintro e y13 ⟨rfl, gy13⟩
  clear hu5 hu6
  go_wp2_with fail
  have hgy13 := hgy12.trans gy13
  refine hK.out _ _ hgy13 (fun hHy13 => ?_)
  clear hK K
  try simp only [Act.put, List.getElem_toArray, List.getElem_cons_succ, List.getElem_cons_zero, List.setIfInBounds_toArray, List.set_cons_zero, List.set_cons_succ]
  refine wpAnyH_take (i := 24) (v := .bool true) rfl (by kernel_rfl) (by kernel_rfl) (by kernel_rfl) (fun _ _ _ h => h) (Or.inl ⟨by rfl, fun w hSw => by go_simp⟩) (by assumption) ?_
  try simp only [Act.put, List.getElem_toArray, List.getElem_cons_succ, List.getElem_cons_zero, List.setIfInBounds_toArray, List.set_cons_zero, List.set_cons_succ]
  refine wpAnyH_take (i := 25) (v := .bool true) rfl (by kernel_rfl) (by kernel_rfl) (by kernel_rfl) (fun _ _ _ h => h) (Or.inl ⟨by rfl, fun w hSw => by go_simp⟩) (by assumption) ?_
  try simp only [Act.put, List.getElem_toArray, List.getElem_cons_succ, List.getElem_cons_zero, List.setIfInBounds_toArray, List.set_cons_zero, List.set_cons_succ]
  refine wpAnyH_done (by kernel_rfl) (NoPanic.normal ?_) _
  have K := hide (unhide DONE y13 hgy13)
  clear CR DR CW DW CFo DFo IN HR HWb HF WB3 GB3 BI3 BM3 BF3 JB DONE
  go_wp2_with fail
  go_ret
  exact ⟨rfl, unhide K⟩

set_option maxRecDepth 100000 in
theorem lifted_LiveInstrs (os : Os) (started : os.Started) (H : Type) (enc : TypeId × Value → H) :
    ReturnsInHanded {} Try.checked os 4 .any (Rows.liveInstrsSpec.pre6 enc Try.prog Try.f4 Rows.liveInstrsRow.domain false) (Rows.liveInstrsSpec.post enc Try.prog Try.f4 false true false false) := by
  refine returnsInHanded_of_change_sized (C := Try.checked) own started (by kernel_rfl) Try.func4
    (ChangeSpec.witness6 (enc := enc) (C := Try.checked) false ⟨#[], #[.agg #[.slice none 0 0, .slice none 0 0, .slice none 0 0, .slice none 0 0, .slice none 0 0, .int .i64 0], .agg #[.int .i64 0, .int .i64 0, .int .i64 0, .int .i64 0, .slice none 0 0, .slice none 0 0, .slice none 0 0], .agg #[.int .i64 0, .int .i64 0, .int .i64 0, .int .i64 0, .int .i64 0], .int .i64 0], []⟩ 8 (by kernel_rfl) (by kernel_rfl) (by kernel_rfl) (by kernel_rfl)) ?_
  intro W base args ds gs before hval0 hW _ hsz0 _
  have hval : ∀ (j : Nat) t v, Try.f4.params[j]? = some t → args[j]? = some v → Value.okWide Try.prog W .any base t v := hval0
  have hsz : (DataW.weightsEach Try.prog (Try.f4.params.toList ++ Rows.liveInstrsSpec.plain.varTypes Try.prog) (ds ++ gs)).all (· ≤ reachBytes) = true := hsz0
  have hW' := hW
  obtain ⟨p, q, hA0, hV, rfl, hfz, hnd⟩ := hW
  have hA : DataW.TrodAll enc Try.prog W 0 (fun _ => true) true Try.f4.params.toList args.toList ds p := hA0
  rw [Try.params4] at hA hval hsz
  obtain ⟨v0, vs0, d0, ds0, p0, q0, hargs, rfl, rfl, h0, r0⟩ := trodAll_cons hA
  obtain ⟨v1, vs1, d1, ds1, p1, q1, rfl, rfl, rfl, h1, r1⟩ := trodAll_cons r0
  obtain ⟨v2, vs2, d2, ds2, p2, q2, rfl, rfl, rfl, h2, r2⟩ := trodAll_cons r1
  obtain ⟨v3, vs3, d3, ds3, p3, q3, rfl, rfl, rfl, h3, r3⟩ := trodAll_cons r2
  obtain ⟨rfl, rfl, rfl⟩ := trodAll_nil r3
  obtain rfl : args = #[v0, v1, v2, v3] := by cases args; simp_all
  obtain ⟨rfl, rfl⟩ := trodVars_none hV
  have k0 := h0
  have lt0 : ∀ x ∈ p0, x.block < W.heap.size := by obtain ⟨m, hm⟩ := k0; exact DataW.trod_lt m _ _ _ hm
  obtain ⟨m0, so0, sc0, go0, gc0, co0, cc0, ao0, ac0, fo0, fc0, rfl, hM0, oM0, hl0⟩ := open_modr (hval 0 31 v0 rfl rfl) h0 (fun k hk => by simpa using List.all_eq_true.1 hsz k (DataW.weights_mem_each (j := 0) (t := 31) (d := d0) rfl rfl k hk))
  have k1 := h1
  have lt1 : ∀ x ∈ p1, x.block < W.heap.size := by obtain ⟨m, hm⟩ := k1; exact DataW.trod_lt m _ _ _ hm
  obtain ⟨f1, ko1, kc1, io1, ic1, mo1, mc1, rfl, rk1, ri1, rm1, oF1⟩ := open_fn (hval 1 42 v1 rfl rfl) h1
  have k2 := h2
  have lt2 : ∀ x ∈ p2, x.block < W.heap.size := by obtain ⟨m, hm⟩ := k2; exact DataW.trod_lt m _ _ _ hm
  obtain ⟨⟨op2, A2, B2, C2, D2⟩, rfl, w2⟩ := open_instr (hval 2 35 v2 rfl rfl) h2
  have k3 := h3
  have lt3 : ∀ x ∈ p3, x.block < W.heap.size := by obtain ⟨m, hm⟩ := k3; exact DataW.trod_lt m _ _ _ hm
  obtain ⟨a3, rfl, rfl, rfl, w3⟩ := open_int Try.underlying3 (hval 3 3 v3 rfl rfl) h3
  clear hA0 hval0 hsz0
  refine (walk_LiveInstrs W m0 so0 sc0 go0 gc0 co0 cc0 ao0 ac0 fo0 fc0 f1 ko1 kc1 io1 ic1 mo1 mc1 op2 A2 B2 C2 D2 a3 hM0 oM0 hl0 rk1 ri1 rm1 oF1 w2 (oI_wf w3)).mono fun e W' ⟨he, hg⟩ => ?_
  subst he
  exact ⟨_, rfl, _, _, _, [], _, [], hW', trodAll_mk1 (shut_bool Try.underlying4 _), (trodAll_cons_mk (Below.trod laidOut (by kernel_rfl) (of_decide_eq_true (by kernel_rfl)) k0 hg lt0) (trodAll_cons_mk (Below.trod laidOut (by kernel_rfl) (of_decide_eq_true (by kernel_rfl)) k1 hg lt1) (trodAll_cons_mk (Below.trod laidOut (by kernel_rfl) (of_decide_eq_true (by kernel_rfl)) k2 hg lt2) (trodAll_cons_mk (Below.trod laidOut (by kernel_rfl) (of_decide_eq_true (by kernel_rfl)) k3 hg lt3) trodAll_mk0)))), rfl, hg.frame _, fun h => by cases h⟩

/-- THE STATEMENT. -/
theorem said_LiveInstrs : Rows.LiveInstrsSaid :=
  OpenClaim.holds_of_wide 4 Try.f4 rfl rfl rfl rfl rfl rfl rfl ⟨rfl, rfl, rfl, rfl, rfl⟩ rfl rfl rfl rfl rfl (by kernel_rfl) Try.func4 (by kernel_rfl)
    (of_decide_eq_true (by kernel_rfl)) (by unfold Func.isWrapper; first | (rw [if_pos (by decide +kernel)]; kernel_rfl) | (rw [if_neg (by decide +kernel)]; exact ⟨rfl, rfl⟩))
    (fun os started H enc _ => lifted_LiveInstrs os started H enc)
#print axioms said_LiveInstrs
end Go.Proofs.Ytpbeafgfhnlmbaa
