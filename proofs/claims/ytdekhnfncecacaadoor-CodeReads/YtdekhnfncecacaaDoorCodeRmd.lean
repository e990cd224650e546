/- The reader's module. -/
import Derived.Test.YtdekhnfncecacaaDoorCodeRlF
namespace Go.Proofs.YtdekhnfncecacaaDoor
set_option maxRecDepth 100000
open Go.RowKit Go.Maps Go.ChangeShapes Go.WideShapes Go.ChangeAt Go.Deep

set_option maxHeartbeats 4000000 in
theorem r_module (w0 w : World) (rb : Nat) (s : Option (List Int)) (hrb : w0.heap.size ≤ rb) (g0 : Below w0.heap.size w0 w) (h : RdS w0 w rb s) :
    Calls Tryd.prog 31 #[.pointer (some ⟨rb, 0, none⟩)] w fun e w' => ∃ (a : Md) (s' : Option (List Int)) (x0 : Option Addr) (y0 : Nat) (x1 : Option Addr) (y1 : Nat) (x2 : Option Addr) (y2 : Nat) (x3 : Option Addr) (y3 : Nat) (x4 : Option Addr) (y4 : Nat), e = .returned (.agg #[.slice x0 a.sh.length y0, .slice x1 a.gl.length y1, .slice x2 a.co.length y2, .slice x3 a.ca.length y3, .slice x4 a.fn.length y4, .int .i64 a.main]) ∧ (∀ w'', KeepFrom w.heap.size w' w'' → ModAt w'' (.agg #[.slice x0 a.sh.length y0, .slice x1 a.gl.length y1, .slice x2 a.co.length y2, .slice x3 a.ca.length y3, .slice x4 a.fn.length y4, .int .i64 a.main]) a) ∧ oMd a ∧ Res pMd s a s' ∧ RdTo w0 w w' rb s' := by
  have hlt := h.lt
  have hB := g0.size
  have hne : ¬ w.heap.size = rb := by omega
  obtain ⟨W1, hW1⟩ : ∃ W1, W1 = (w.alloc (.cells #[.slice none 0 0, .slice none 0 0, .slice none 0 0, .slice none 0 0, .slice none 0 0, .int .i64 0] 28)) := ⟨_, rfl⟩
  have gW : G w W1 := by rw [hW1]; exact G.alloc w _
  have hs1 : W1.heap.size = w.heap.size + 1 := by rw [hW1]; exact World.size_alloc _ _
  have z0 : W1.cell? ⟨w.heap.size, 0, none⟩ = some (.slice none 0 0) := by rw [hW1]; simp [go_sem]
  have f0 : W1.frozen? ⟨w.heap.size, 0, none⟩ = false := by rw [hW1]; simp [go_sem]
  have z1 : W1.cell? ⟨w.heap.size, 1, none⟩ = some (.slice none 0 0) := by rw [hW1]; simp [go_sem]
  have f1 : W1.frozen? ⟨w.heap.size, 1, none⟩ = false := by rw [hW1]; simp [go_sem]
  have z2 : W1.cell? ⟨w.heap.size, 2, none⟩ = some (.slice none 0 0) := by rw [hW1]; simp [go_sem]
  have f2 : W1.frozen? ⟨w.heap.size, 2, none⟩ = false := by rw [hW1]; simp [go_sem]
  have z3 : W1.cell? ⟨w.heap.size, 3, none⟩ = some (.slice none 0 0) := by rw [hW1]; simp [go_sem]
  have f3 : W1.frozen? ⟨w.heap.size, 3, none⟩ = false := by rw [hW1]; simp [go_sem]
  have z4 : W1.cell? ⟨w.heap.size, 4, none⟩ = some (.slice none 0 0) := by rw [hW1]; simp [go_sem]
  have f4 : W1.frozen? ⟨w.heap.size, 4, none⟩ = false := by rw [hW1]; simp [go_sem]
  have z5 : W1.cell? ⟨w.heap.size, 5, none⟩ = some (.int .i64 0) := by rw [hW1]; simp [go_sem]
  have f5 : W1.frozen? ⟨w.heap.size, 5, none⟩ = false := by rw [hW1]; simp [go_sem]
  have NX := hide (fun (W : World) (t : Option (List Int)) (k : RdTo w0 W1 W rb t) => (show Below w0.heap.size w0 W from Below.trans (Below.trans g0 (Below.mono gW hB)) (k.2.below (by omega) hrb)))
  have FIN := hide (fun (W : World) (t : Option (List Int)) (k : RdTo w0 W1 W rb t) => (show RdTo w0 w W rb t from k.from (Tr.of_G rb gW)))
  have SZ := hide (fun (W : World) (t : Option (List Int)) (k : RdTo w0 W1 W rb t) => (show w.heap.size + 1 ≤ W.heap.size from by have := k.2.size; omega))
  have KC := hide (fun (W : World) (t : Option (List Int)) (k : RdTo w0 W1 W rb t) => (show W.cell? ⟨w.heap.size, 0, none⟩ = some (.slice none 0 0) ∧ W.cell? ⟨w.heap.size, 1, none⟩ = some (.slice none 0 0) ∧ W.cell? ⟨w.heap.size, 2, none⟩ = some (.slice none 0 0) ∧ W.cell? ⟨w.heap.size, 3, none⟩ = some (.slice none 0 0) ∧ W.cell? ⟨w.heap.size, 4, none⟩ = some (.slice none 0 0) ∧ W.cell? ⟨w.heap.size, 5, none⟩ = some (.int .i64 0) ∧ W.frozen? ⟨w.heap.size, 0, none⟩ = false ∧ W.frozen? ⟨w.heap.size, 1, none⟩ = false ∧ W.frozen? ⟨w.heap.size, 2, none⟩ = false ∧ W.frozen? ⟨w.heap.size, 3, none⟩ = false ∧ W.frozen? ⟨w.heap.size, 4, none⟩ = false ∧ W.frozen? ⟨w.heap.size, 5, none⟩ = false from ⟨k.2.cell z0 hne, k.2.cell z1 hne, k.2.cell z2 hne, k.2.cell z3 hne, k.2.cell z4 hne, k.2.cell z5 hne, k.2.fro (by omega) f0 hne, k.2.fro (by omega) f1 hne, k.2.fro (by omega) f2 hne, k.2.fro (by omega) f3 hne, k.2.fro (by omega) f4 hne, k.2.fro (by omega) f5 hne⟩))
  have S0 : RdTo w0 W1 W1 rb s := ⟨h.g gW, Tr.refl _ _⟩
  have C0 := hide (rl_shape w0 W1 rb s hrb (unhide NX W1 s S0) S0.1)
  have SZ0 := unhide SZ W1 s S0
  rw [hW1] at C0
  clear h g0 S0 z0 f0 z1 f1 z2 f2 z3 f3 z4 f4 z5 f5
  go_enter Tryd.func31, Tryd.ntmps31
  go_wp2_with fail
  refine (unhide C0).mono ?_
  rintro e w1 ⟨x0, n0, y0, l0, s1, rfl, R0, o0, r0, k0⟩
  rw [← hW1] at k0 R0
  obtain rfl := R0.at.1
  have R0 := hide (R0.mono SZ0)
  have C1 := hide (rl_bool w0 w1 rb s1 hrb (unhide NX w1 s1 k0) k0.1)
  replace k0 := hide k0
  replace o0 := hide o0
  replace r0 := hide r0
  clear C0
  go_wp2_with fail
  refine (unhide C1).mono ?_
  rintro e w2 ⟨x1, n1, y1, l1, s2, rfl, R1, o1, r1, k1⟩
  have R0 := hide ((unhide R0).keep (k1.2.keep (by omega)))
  obtain rfl := R1.at.1
  have R1 := hide (R1.mono (unhide SZ w1 s1 (unhide k0)))
  replace k1 := RdTo.from k1 (unhide k0).2
  have C2 := hide (rl_int64 w0 w2 rb s2 hrb (unhide NX w2 s2 k1) k1.1)
  replace k1 := hide k1
  replace o1 := hide o1
  replace r1 := hide r1
  clear C1
  go_wp2_with fail
  refine (unhide C2).mono ?_
  rintro e w3 ⟨x2, n2, y2, l2, s3, rfl, R2, o2, r2, k2⟩
  have R0 := hide ((unhide R0).keep (k2.2.keep (by omega)))
  have R1 := hide ((unhide R1).keep (k2.2.keep (by omega)))
  obtain rfl := R2.at.1
  have R2 := hide (R2.mono (unhide SZ w2 s2 (unhide k1)))
  replace k2 := RdTo.from k2 (unhide k1).2
  have C3 := hide (rl_case w0 w3 rb s3 hrb (unhide NX w3 s3 k2) k2.1)
  replace k2 := hide k2
  replace o2 := hide o2
  replace r2 := hide r2
  clear C2
  go_wp2_with fail
  refine (unhide C3).mono ?_
  rintro e w4 ⟨x3, n3, y3, l3, s4, rfl, R3, o3, r3, k3⟩
  have R0 := hide ((unhide R0).keep (k3.2.keep (by omega)))
  have R1 := hide ((unhide R1).keep (k3.2.keep (by omega)))
  have R2 := hide ((unhide R2).keep (k3.2.keep (by omega)))
  obtain rfl := R3.at.1
  have R3 := hide (R3.mono (unhide SZ w3 s3 (unhide k2)))
  replace k3 := RdTo.from k3 (unhide k2).2
  have C4 := hide (rl_func w0 w4 rb s4 hrb (unhide NX w4 s4 k3) k3.1)
  replace k3 := hide k3
  replace o3 := hide o3
  replace r3 := hide r3
  clear C3
  go_wp2_with fail
  refine (unhide C4).mono ?_
  rintro e w5 ⟨x4, n4, y4, l4, s5, rfl, R4, o4, r4, k4⟩
  have R0 := hide ((unhide R0).keep (k4.2.keep (by omega)))
  have R1 := hide ((unhide R1).keep (k4.2.keep (by omega)))
  have R2 := hide ((unhide R2).keep (k4.2.keep (by omega)))
  have R3 := hide ((unhide R3).keep (k4.2.keep (by omega)))
  obtain rfl := R4.at.1
  have R4 := hide (R4.mono (unhide SZ w4 s4 (unhide k3)))
  replace k4 := RdTo.from k4 (unhide k3).2
  have C5 := hide (r_integer w0 w5 rb s5 (unhide NX w5 s5 k4) k4.1)
  replace k4 := hide k4
  replace o4 := hide o4
  replace r4 := hide r4
  clear C4
  go_wp2_with fail
  refine (unhide C5).mono ?_
  rintro e w6 ⟨v5, s6, rfl, o5, r5, k5⟩
  have R0 := hide ((unhide R0).keep (k5.2.keep (by omega)))
  have R1 := hide ((unhide R1).keep (k5.2.keep (by omega)))
  have R2 := hide ((unhide R2).keep (k5.2.keep (by omega)))
  have R3 := hide ((unhide R3).keep (k5.2.keep (by omega)))
  have R4 := hide ((unhide R4).keep (k5.2.keep (by omega)))
  replace k5 := RdTo.from k5 (unhide k4).2
  replace k5 := hide k5
  replace o5 := hide o5
  replace r5 := hide r5
  clear C5
  obtain ⟨z0, z1, z2, z3, z4, z5, f0, f1, f2, f3, f4, f5⟩ := unhide KC w6 s6 (unhide k5)
  have q0 : ((((((w6.setCell ⟨w.heap.size, 0, none⟩ (.slice x0 l0.length y0)).setCell ⟨w.heap.size, 1, none⟩ (.slice x1 l1.length y1)).setCell ⟨w.heap.size, 2, none⟩ (.slice x2 l2.length y2)).setCell ⟨w.heap.size, 3, none⟩ (.slice x3 l3.length y3)).setCell ⟨w.heap.size, 4, none⟩ (.slice x4 l4.length y4)).setCell ⟨w.heap.size, 5, none⟩ (.int .i64 v5)).cell? ⟨w.heap.size, 0, none⟩ = some (.slice x0 l0.length y0) := by
    rw [cell_other _ (Or.inr (by omega)), cell_other _ (Or.inr (by omega)), cell_other _ (Or.inr (by omega)), cell_other _ (Or.inr (by omega)), cell_other _ (Or.inr (by omega))]
    exact cell_same _ (by exact z0)
  have q1 : ((((((w6.setCell ⟨w.heap.size, 0, none⟩ (.slice x0 l0.length y0)).setCell ⟨w.heap.size, 1, none⟩ (.slice x1 l1.length y1)).setCell ⟨w.heap.size, 2, none⟩ (.slice x2 l2.length y2)).setCell ⟨w.heap.size, 3, none⟩ (.slice x3 l3.length y3)).setCell ⟨w.heap.size, 4, none⟩ (.slice x4 l4.length y4)).setCell ⟨w.heap.size, 5, none⟩ (.int .i64 v5)).cell? ⟨w.heap.size, 1, none⟩ = some (.slice x1 l1.length y1) := by
    rw [cell_other _ (Or.inr (by omega)), cell_other _ (Or.inr (by omega)), cell_other _ (Or.inr (by omega)), cell_other _ (Or.inr (by omega))]
    exact cell_same _ (by rw [cell_other _ (Or.inr (by omega))]; exact z1)
  have q2 : ((((((w6.setCell ⟨w.heap.size, 0, none⟩ (.slice x0 l0.length y0)).setCell ⟨w.heap.size, 1, none⟩ (.slice x1 l1.length y1)).setCell ⟨w.heap.size, 2, none⟩ (.slice x2 l2.length y2)).setCell ⟨w.heap.size, 3, none⟩ (.slice x3 l3.length y3)).setCell ⟨w.heap.size, 4, none⟩ (.slice x4 l4.length y4)).setCell ⟨w.heap.size, 5, none⟩ (.int .i64 v5)).cell? ⟨w.heap.size, 2, none⟩ = some (.slice x2 l2.length y2) := by
    rw [cell_other _ (Or.inr (by omega)), cell_other _ (Or.inr (by omega)), cell_other _ (Or.inr (by omega))]
    exact cell_same _ (by rw [cell_other _ (Or.inr (by omega)), cell_other _ (Or.inr (by omega))]; exact z2)
  have q3 : ((((((w6.setCell ⟨w.heap.size, 0, none⟩ (.slice x0 l0.length y0)).setCell ⟨w.heap.size, 1, none⟩ (.slice x1 l1.length y1)).setCell ⟨w.heap.size, 2, none⟩ (.slice x2 l2.length y2)).setCell ⟨w.heap.size, 3, none⟩ (.slice x3 l3.length y3)).setCell ⟨w.heap.size, 4, none⟩ (.slice x4 l4.length y4)).setCell ⟨w.heap.size, 5, none⟩ (.int .i64 v5)).cell? ⟨w.heap.size, 3, none⟩ = some (.slice x3 l3.length y3) := by
    rw [cell_other _ (Or.inr (by omega)), cell_other _ (Or.inr (by omega))]
    exact cell_same _ (by rw [cell_other _ (Or.inr (by omega)), cell_other _ (Or.inr (by omega)), cell_other _ (Or.inr (by omega))]; exact z3)
  have q4 : ((((((w6.setCell ⟨w.heap.size, 0, none⟩ (.slice x0 l0.length y0)).setCell ⟨w.heap.size, 1, none⟩ (.slice x1 l1.length y1)).setCell ⟨w.heap.size, 2, none⟩ (.slice x2 l2.length y2)).setCell ⟨w.heap.size, 3, none⟩ (.slice x3 l3.length y3)).setCell ⟨w.heap.size, 4, none⟩ (.slice x4 l4.length y4)).setCell ⟨w.heap.size, 5, none⟩ (.int .i64 v5)).cell? ⟨w.heap.size, 4, none⟩ = some (.slice x4 l4.length y4) := by
    rw [cell_other _ (Or.inr (by omega))]
    exact cell_same _ (by rw [cell_other _ (Or.inr (by omega)), cell_other _ (Or.inr (by omega)), cell_other _ (Or.inr (by omega)), cell_other _ (Or.inr (by omega))]; exact z4)
  have q5 : ((((((w6.setCell ⟨w.heap.size, 0, none⟩ (.slice x0 l0.length y0)).setCell ⟨w.heap.size, 1, none⟩ (.slice x1 l1.length y1)).setCell ⟨w.heap.size, 2, none⟩ (.slice x2 l2.length y2)).setCell ⟨w.heap.size, 3, none⟩ (.slice x3 l3.length y3)).setCell ⟨w.heap.size, 4, none⟩ (.slice x4 l4.length y4)).setCell ⟨w.heap.size, 5, none⟩ (.int .i64 v5)).cell? ⟨w.heap.size, 5, none⟩ = some (.int .i64 v5) := by
    exact cell_same _ (by rw [cell_other _ (Or.inr (by omega)), cell_other _ (Or.inr (by omega)), cell_other _ (Or.inr (by omega)), cell_other _ (Or.inr (by omega)), cell_other _ (Or.inr (by omega))]; exact z5)
  have KF : KeepFrom (w.heap.size + 1) w6 ((((((w6.setCell ⟨w.heap.size, 0, none⟩ (.slice x0 l0.length y0)).setCell ⟨w.heap.size, 1, none⟩ (.slice x1 l1.length y1)).setCell ⟨w.heap.size, 2, none⟩ (.slice x2 l2.length y2)).setCell ⟨w.heap.size, 3, none⟩ (.slice x3 l3.length y3)).setCell ⟨w.heap.size, 4, none⟩ (.slice x4 l4.length y4)).setCell ⟨w.heap.size, 5, none⟩ (.int .i64 v5)) := (KeepFrom.put (KeepFrom.put (KeepFrom.put (KeepFrom.put (KeepFrom.put (KeepFrom.put (KeepFrom.refl _ _) w.heap.size 0 (.slice x0 l0.length y0) (by omega)) w.heap.size 1 (.slice x1 l1.length y1) (by omega)) w.heap.size 2 (.slice x2 l2.length y2) (by omega)) w.heap.size 3 (.slice x3 l3.length y3) (by omega)) w.heap.size 4 (.slice x4 l4.length y4) (by omega)) w.heap.size 5 (.int .i64 v5) (by omega))
  have K := hide (show (∀ w'', KeepFrom w.heap.size ((((((w6.setCell ⟨w.heap.size, 0, none⟩ (.slice x0 l0.length y0)).setCell ⟨w.heap.size, 1, none⟩ (.slice x1 l1.length y1)).setCell ⟨w.heap.size, 2, none⟩ (.slice x2 l2.length y2)).setCell ⟨w.heap.size, 3, none⟩ (.slice x3 l3.length y3)).setCell ⟨w.heap.size, 4, none⟩ (.slice x4 l4.length y4)).setCell ⟨w.heap.size, 5, none⟩ (.int .i64 v5)) w'' → ModAt w'' (.agg #[.slice x0 l0.length y0, .slice x1 l1.length y1, .slice x2 l2.length y2, .slice x3 l3.length y3, .slice x4 l4.length y4, .int .i64 v5]) (⟨l0, l1, l2, l3, l4, v5⟩ : Md)) ∧ oMd (⟨l0, l1, l2, l3, l4, v5⟩ : Md) ∧ Res pMd s ⟨l0, l1, l2, l3, l4, v5⟩ s6 ∧ RdTo w0 w ((((((w6.setCell ⟨w.heap.size, 0, none⟩ (.slice x0 l0.length y0)).setCell ⟨w.heap.size, 1, none⟩ (.slice x1 l1.length y1)).setCell ⟨w.heap.size, 2, none⟩ (.slice x2 l2.length y2)).setCell ⟨w.heap.size, 3, none⟩ (.slice x3 l3.length y3)).setCell ⟨w.heap.size, 4, none⟩ (.slice x4 l4.length y4)).setCell ⟨w.heap.size, 5, none⟩ (.int .i64 v5)) rb s6 from ⟨(fun w2 k2 => ⟨x0, y0, x1, y1, x2, y2, x3, y3, x4, y4, rfl, (unhide R0) w2 (KF.trans (k2.mono (by omega))), (unhide R1) w2 (KF.trans (k2.mono (by omega))), (unhide R2) w2 (KF.trans (k2.mono (by omega))), (unhide R3) w2 (KF.trans (k2.mono (by omega))), (unhide R4) w2 (KF.trans (k2.mono (by omega)))⟩), ⟨⟨big_len (unhide R0).at.2.1, unhide o0⟩, ⟨big_len (unhide R1).at.2.1, unhide o1⟩, ⟨big_len (unhide R2).at.2.1, unhide o2⟩, ⟨big_len (unhide R3).at.2.1, unhide o3⟩, ⟨big_len (unhide R4).at.2.1, unhide o4⟩, unhide o5⟩, (((unhide r0).seq ((unhide r1).seq ((unhide r2).seq ((unhide r3).seq ((unhide r4).seq (unhide r5))))))).map _, (((((((unhide FIN w6 s6 (unhide k5)).set w.heap.size 0 (.slice x0 l0.length y0) hne (Nat.le_refl _)).set w.heap.size 1 (.slice x1 l1.length y1) hne (Nat.le_refl _)).set w.heap.size 2 (.slice x2 l2.length y2) hne (Nat.le_refl _)).set w.heap.size 3 (.slice x3 l3.length y3) hne (Nat.le_refl _)).set w.heap.size 4 (.slice x4 l4.length y4) hne (Nat.le_refl _)).set w.heap.size 5 (.int .i64 v5) hne (Nat.le_refl _))⟩)
  clear o0 r0 k0 o1 r1 k1 o2 r2 k2 o3 r3 k3 o4 r4 k4 o5 r5 k5 NX FIN KC SZ gW hs1 hW1 KF R0 R1 R2 R3 R4
  go_wp2_with fail
  refine bodyPost_ret (by simp [results, Tryd.results31, go_sem, q0, q1, q2, q3, q4, q5]; try rfl) rfl ?_
  exact ⟨⟨l0, l1, l2, l3, l4, v5⟩, s6, x0, y0, x1, y1, x2, y2, x3, y3, x4, y4, rfl, unhide K⟩
end Go.Proofs.YtdekhnfncecacaaDoor
