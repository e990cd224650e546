/- The reader's function. -/
import Derived.Test.YtdekhnfncecacaaDoorCodeRl
import Derived.Test.YtdekhnfncecacaaDoorCodeOpen
namespace Go.Proofs.YtdekhnfncecacaaDoor
set_option maxRecDepth 100000
open Go.RowKit Go.Maps Go.ChangeShapes Go.WideShapes Go.ChangeAt Go.Deep

theorem KeepFrom.put {lo : Nat} {w w1 : World} (h : KeepFrom lo w w1) (b i : Nat) (v : Value) (hb : b < lo) : KeepFrom lo w (w1.setCell ⟨b, i, none⟩ v) :=
  h.trans ⟨fun k h1 _ => heap_set _ _ (by show k ≠ b; omega), by rw [World.size_setCell]; exact Nat.le_refl _⟩

set_option maxHeartbeats 4000000 in
theorem r_function (w0 w : World) (rb : Nat) (s : Option (List Int)) (hrb : w0.heap.size ≤ rb) (g0 : Below w0.heap.size w0 w) (h : RdS w0 w rb s) :
    Calls Tryd.prog 68 #[.pointer (some ⟨rb, 0, none⟩)] w fun e w' => ∃ (a : Fn) (s' : Option (List Int)) (x4 : Option Addr) (y4 : Nat) (x5 : Option Addr) (y5 : Nat) (x6 : Option Addr) (y6 : Nat), e = .returned (.agg #[.int .i64 a.p, .int .i64 a.c, .int .i64 a.s, .int .i64 a.r, .slice x4 a.ks.length y4, .slice x5 a.is.length y5, .slice x6 a.ms.length y6]) ∧ (∀ w'', KeepFrom w.heap.size w' w'' → FnCells w'' a [.int .i64 a.p, .int .i64 a.c, .int .i64 a.s, .int .i64 a.r, .slice x4 a.ks.length y4, .slice x5 a.is.length y5, .slice x6 a.ms.length y6]) ∧ oFn a ∧ Res pFn s a s' ∧ RdTo w0 w w' rb s' := by
  have hlt := h.lt
  have hB := g0.size
  have hne : ¬ w.heap.size = rb := by omega
  obtain ⟨W1, hW1⟩ : ∃ W1, W1 = (w.alloc (.cells #[.int .i64 0, .int .i64 0, .int .i64 0, .int .i64 0, .slice none 0 0, .slice none 0 0, .slice none 0 0] 57)) := ⟨_, rfl⟩
  have gW : G w W1 := by rw [hW1]; exact G.alloc w _
  have hs1 : W1.heap.size = w.heap.size + 1 := by rw [hW1]; exact World.size_alloc _ _
  have z0 : W1.cell? ⟨w.heap.size, 0, none⟩ = some (.int .i64 0) := by rw [hW1]; simp [go_sem]
  have f0 : W1.frozen? ⟨w.heap.size, 0, none⟩ = false := by rw [hW1]; simp [go_sem]
  have z1 : W1.cell? ⟨w.heap.size, 1, none⟩ = some (.int .i64 0) := by rw [hW1]; simp [go_sem]
  have f1 : W1.frozen? ⟨w.heap.size, 1, none⟩ = false := by rw [hW1]; simp [go_sem]
  have z2 : W1.cell? ⟨w.heap.size, 2, none⟩ = some (.int .i64 0) := by rw [hW1]; simp [go_sem]
  have f2 : W1.frozen? ⟨w.heap.size, 2, none⟩ = false := by rw [hW1]; simp [go_sem]
  have z3 : W1.cell? ⟨w.heap.size, 3, none⟩ = some (.int .i64 0) := by rw [hW1]; simp [go_sem]
  have f3 : W1.frozen? ⟨w.heap.size, 3, none⟩ = false := by rw [hW1]; simp [go_sem]
  have z4 : W1.cell? ⟨w.heap.size, 4, none⟩ = some (.slice none 0 0) := by rw [hW1]; simp [go_sem]
  have f4 : W1.frozen? ⟨w.heap.size, 4, none⟩ = false := by rw [hW1]; simp [go_sem]
  have z5 : W1.cell? ⟨w.heap.size, 5, none⟩ = some (.slice none 0 0) := by rw [hW1]; simp [go_sem]
  have f5 : W1.frozen? ⟨w.heap.size, 5, none⟩ = false := by rw [hW1]; simp [go_sem]
  have z6 : W1.cell? ⟨w.heap.size, 6, none⟩ = some (.slice none 0 0) := by rw [hW1]; simp [go_sem]
  have f6 : W1.frozen? ⟨w.heap.size, 6, none⟩ = false := by rw [hW1]; simp [go_sem]
  have NX := hide (fun (W : World) (t : Option (List Int)) (k : RdTo w0 W1 W rb t) => (show Below w0.heap.size w0 W from Below.trans (Below.trans g0 (Below.mono gW hB)) (k.2.below (by omega) hrb)))
  have FIN := hide (fun (W : World) (t : Option (List Int)) (k : RdTo w0 W1 W rb t) => (show RdTo w0 w W rb t from k.from (Tr.of_G rb gW)))
  have SZ := hide (fun (W : World) (t : Option (List Int)) (k : RdTo w0 W1 W rb t) => (show w.heap.size + 1 ≤ W.heap.size from by have := k.2.size; omega))
  have KC := hide (fun (W : World) (t : Option (List Int)) (k : RdTo w0 W1 W rb t) => (show W.cell? ⟨w.heap.size, 0, none⟩ = some (.int .i64 0) ∧ W.cell? ⟨w.heap.size, 1, none⟩ = some (.int .i64 0) ∧ W.cell? ⟨w.heap.size, 2, none⟩ = some (.int .i64 0) ∧ W.cell? ⟨w.heap.size, 3, none⟩ = some (.int .i64 0) ∧ W.cell? ⟨w.heap.size, 4, none⟩ = some (.slice none 0 0) ∧ W.cell? ⟨w.heap.size, 5, none⟩ = some (.slice none 0 0) ∧ W.cell? ⟨w.heap.size, 6, none⟩ = some (.slice none 0 0) ∧ W.frozen? ⟨w.heap.size, 0, none⟩ = false ∧ W.frozen? ⟨w.heap.size, 1, none⟩ = false ∧ W.frozen? ⟨w.heap.size, 2, none⟩ = false ∧ W.frozen? ⟨w.heap.size, 3, none⟩ = false ∧ W.frozen? ⟨w.heap.size, 4, none⟩ = false ∧ W.frozen? ⟨w.heap.size, 5, none⟩ = false ∧ W.frozen? ⟨w.heap.size, 6, none⟩ = false from ⟨k.2.cell z0 hne, k.2.cell z1 hne, k.2.cell z2 hne, k.2.cell z3 hne, k.2.cell z4 hne, k.2.cell z5 hne, k.2.cell z6 hne, k.2.fro (by omega) f0 hne, k.2.fro (by omega) f1 hne, k.2.fro (by omega) f2 hne, k.2.fro (by omega) f3 hne, k.2.fro (by omega) f4 hne, k.2.fro (by omega) f5 hne, k.2.fro (by omega) f6 hne⟩))
  have S0 : RdTo w0 W1 W1 rb s := ⟨h.g gW, Tr.refl _ _⟩
  have C0 := hide (r_integer w0 W1 rb s (unhide NX W1 s S0) S0.1)
  rw [hW1] at C0
  clear h g0 S0 z0 f0 z1 f1 z2 f2 z3 f3 z4 f4 z5 f5 z6 f6
  go_enter Tryd.func68, Tryd.ntmps68
  go_wp2_with fail
  refine (unhide C0).mono ?_
  rintro e w1 ⟨v0, s1, rfl, o0, r0, k0⟩
  rw [← hW1] at k0
  have C1 := hide (r_integer w0 w1 rb s1 (unhide NX w1 s1 k0) k0.1)
  replace k0 := hide k0
  replace o0 := hide o0
  replace r0 := hide r0
  clear C0
  go_wp2_with fail
  refine (unhide C1).mono ?_
  rintro e w2 ⟨v1, s2, rfl, o1, r1, k1⟩
  replace k1 := RdTo.from k1 (unhide k0).2
  have C2 := hide (r_integer w0 w2 rb s2 (unhide NX w2 s2 k1) k1.1)
  replace k1 := hide k1
  replace o1 := hide o1
  replace r1 := hide r1
  clear C1
  go_wp2_with fail
  refine (unhide C2).mono ?_
  rintro e w3 ⟨v2, s3, rfl, o2, r2, k2⟩
  replace k2 := RdTo.from k2 (unhide k1).2
  have C3 := hide (r_integer w0 w3 rb s3 (unhide NX w3 s3 k2) k2.1)
  replace k2 := hide k2
  replace o2 := hide o2
  replace r2 := hide r2
  clear C2
  go_wp2_with fail
  refine (unhide C3).mono ?_
  rintro e w4 ⟨v3, s4, rfl, o3, r3, k3⟩
  replace k3 := RdTo.from k3 (unhide k2).2
  have C4 := hide (rl_bool w0 w4 rb s4 hrb (unhide NX w4 s4 k3) k3.1)
  replace k3 := hide k3
  replace o3 := hide o3
  replace r3 := hide r3
  clear C3
  go_wp2_with fail
  refine (unhide C4).mono ?_
  rintro e w5 ⟨x4, n4, y4, l4, s5, rfl, R4, o4, r4, k4⟩
  obtain rfl := R4.at.1
  have R4 := hide (R4.mono (unhide SZ w4 s4 (unhide k3)))
  replace k4 := RdTo.from k4 (unhide k3).2
  have C5 := hide (rl_instr w0 w5 rb s5 hrb (unhide NX w5 s5 k4) k4.1)
  replace k4 := hide k4
  replace o4 := hide o4
  replace r4 := hide r4
  clear C4
  go_wp2_with fail
  refine (unhide C5).mono ?_
  rintro e w6 ⟨x5, n5, y5, l5, s6, rfl, R5, o5, r5, k5⟩
  have R4 := hide ((unhide R4).keep (k5.2.keep (by omega)))
  obtain rfl := R5.at.1
  have R5 := hide (R5.mono (unhide SZ w5 s5 (unhide k4)))
  replace k5 := RdTo.from k5 (unhide k4).2
  have C6 := hide (rl_uint64 w0 w6 rb s6 hrb (unhide NX w6 s6 k5) k5.1)
  replace k5 := hide k5
  replace o5 := hide o5
  replace r5 := hide r5
  clear C5
  go_wp2_with fail
  refine (unhide C6).mono ?_
  rintro e w7 ⟨x6, n6, y6, l6, s7, rfl, R6, o6, r6, k6⟩
  have R4 := hide ((unhide R4).keep (k6.2.keep (by omega)))
  have R5 := hide ((unhide R5).keep (k6.2.keep (by omega)))
  obtain rfl := R6.at.1
  have R6 := hide (R6.mono (unhide SZ w6 s6 (unhide k5)))
  replace k6 := RdTo.from k6 (unhide k5).2
  replace k6 := hide k6
  replace o6 := hide o6
  replace r6 := hide r6
  clear C6
  obtain ⟨z0, z1, z2, z3, z4, z5, z6, f0, f1, f2, f3, f4, f5, f6⟩ := unhide KC w7 s7 (unhide k6)
  have q0 : (((((((w7.setCell ⟨w.heap.size, 0, none⟩ (.int .i64 v0)).setCell ⟨w.heap.size, 1, none⟩ (.int .i64 v1)).setCell ⟨w.heap.size, 2, none⟩ (.int .i64 v2)).setCell ⟨w.heap.size, 3, none⟩ (.int .i64 v3)).setCell ⟨w.heap.size, 4, none⟩ (.slice x4 l4.length y4)).setCell ⟨w.heap.size, 5, none⟩ (.slice x5 l5.length y5)).setCell ⟨w.heap.size, 6, none⟩ (.slice x6 l6.length y6)).cell? ⟨w.heap.size, 0, none⟩ = some (.int .i64 v0) := by
    rw [cell_other _ (Or.inr (by omega)), cell_other _ (Or.inr (by omega)), cell_other _ (Or.inr (by omega)), cell_other _ (Or.inr (by omega)), cell_other _ (Or.inr (by omega)), cell_other _ (Or.inr (by omega))]
    exact cell_same _ (by exact z0)
  have q1 : (((((((w7.setCell ⟨w.heap.size, 0, none⟩ (.int .i64 v0)).setCell ⟨w.heap.size, 1, none⟩ (.int .i64 v1)).setCell ⟨w.heap.size, 2, none⟩ (.int .i64 v2)).setCell ⟨w.heap.size, 3, none⟩ (.int .i64 v3)).setCell ⟨w.heap.size, 4, none⟩ (.slice x4 l4.length y4)).setCell ⟨w.heap.size, 5, none⟩ (.slice x5 l5.length y5)).setCell ⟨w.heap.size, 6, none⟩ (.slice x6 l6.length y6)).cell? ⟨w.heap.size, 1, none⟩ = some (.int .i64 v1) := by
    rw [cell_other _ (Or.inr (by omega)), cell_other _ (Or.inr (by omega)), cell_other _ (Or.inr (by omega)), cell_other _ (Or.inr (by omega)), cell_other _ (Or.inr (by omega))]
    exact cell_same _ (by rw [cell_other _ (Or.inr (by omega))]; exact z1)
  have q2 : (((((((w7.setCell ⟨w.heap.size, 0, none⟩ (.int .i64 v0)).setCell ⟨w.heap.size, 1, none⟩ (.int .i64 v1)).setCell ⟨w.heap.size, 2, none⟩ (.int .i64 v2)).setCell ⟨w.heap.size, 3, none⟩ (.int .i64 v3)).setCell ⟨w.heap.size, 4, none⟩ (.slice x4 l4.length y4)).setCell ⟨w.heap.size, 5, none⟩ (.slice x5 l5.length y5)).setCell ⟨w.heap.size, 6, none⟩ (.slice x6 l6.length y6)).cell? ⟨w.heap.size, 2, none⟩ = some (.int .i64 v2) := by
    rw [cell_other _ (Or.inr (by omega)), cell_other _ (Or.inr (by omega)), cell_other _ (Or.inr (by omega)), cell_other _ (Or.inr (by omega))]
    exact cell_same _ (by rw [cell_other _ (Or.inr (by omega)), cell_other _ (Or.inr (by omega))]; exact z2)
  have q3 : (((((((w7.setCell ⟨w.heap.size, 0, none⟩ (.int .i64 v0)).setCell ⟨w.heap.size, 1, none⟩ (.int .i64 v1)).setCell ⟨w.heap.size, 2, none⟩ (.int .i64 v2)).setCell ⟨w.heap.size, 3, none⟩ (.int .i64 v3)).setCell ⟨w.heap.size, 4, none⟩ (.slice x4 l4.length y4)).setCell ⟨w.heap.size, 5, none⟩ (.slice x5 l5.length y5)).setCell ⟨w.heap.size, 6, none⟩ (.slice x6 l6.length y6)).cell? ⟨w.heap.size, 3, none⟩ = some (.int .i64 v3) := by
    rw [cell_other _ (Or.inr (by omega)), cell_other _ (Or.inr (by omega)), cell_other _ (Or.inr (by omega))]
    exact cell_same _ (by rw [cell_other _ (Or.inr (by omega)), cell_other _ (Or.inr (by omega)), cell_other _ (Or.inr (by omega))]; exact z3)
  have q4 : (((((((w7.setCell ⟨w.heap.size, 0, none⟩ (.int .i64 v0)).setCell ⟨w.heap.size, 1, none⟩ (.int .i64 v1)).setCell ⟨w.heap.size, 2, none⟩ (.int .i64 v2)).setCell ⟨w.heap.size, 3, none⟩ (.int .i64 v3)).setCell ⟨w.heap.size, 4, none⟩ (.slice x4 l4.length y4)).setCell ⟨w.heap.size, 5, none⟩ (.slice x5 l5.length y5)).setCell ⟨w.heap.size, 6, none⟩ (.slice x6 l6.length y6)).cell? ⟨w.heap.size, 4, none⟩ = some (.slice x4 l4.length y4) := by
    rw [cell_other _ (Or.inr (by omega)), cell_other _ (Or.inr (by omega))]
    exact cell_same _ (by rw [cell_other _ (Or.inr (by omega)), cell_other _ (Or.inr (by omega)), cell_other _ (Or.inr (by omega)), cell_other _ (Or.inr (by omega))]; exact z4)
  have q5 : (((((((w7.setCell ⟨w.heap.size, 0, none⟩ (.int .i64 v0)).setCell ⟨w.heap.size, 1, none⟩ (.int .i64 v1)).setCell ⟨w.heap.size, 2, none⟩ (.int .i64 v2)).setCell ⟨w.heap.size, 3, none⟩ (.int .i64 v3)).setCell ⟨w.heap.size, 4, none⟩ (.slice x4 l4.length y4)).setCell ⟨w.heap.size, 5, none⟩ (.slice x5 l5.length y5)).setCell ⟨w.heap.size, 6, none⟩ (.slice x6 l6.length y6)).cell? ⟨w.heap.size, 5, none⟩ = some (.slice x5 l5.length y5) := by
    rw [cell_other _ (Or.inr (by omega))]
    exact cell_same _ (by rw [cell_other _ (Or.inr (by omega)), cell_other _ (Or.inr (by omega)), cell_other _ (Or.inr (by omega)), cell_other _ (Or.inr (by omega)), cell_other _ (Or.inr (by omega))]; exact z5)
  have q6 : (((((((w7.setCell ⟨w.heap.size, 0, none⟩ (.int .i64 v0)).setCell ⟨w.heap.size, 1, none⟩ (.int .i64 v1)).setCell ⟨w.heap.size, 2, none⟩ (.int .i64 v2)).setCell ⟨w.heap.size, 3, none⟩ (.int .i64 v3)).setCell ⟨w.heap.size, 4, none⟩ (.slice x4 l4.length y4)).setCell ⟨w.heap.size, 5, none⟩ (.slice x5 l5.length y5)).setCell ⟨w.heap.size, 6, none⟩ (.slice x6 l6.length y6)).cell? ⟨w.heap.size, 6, none⟩ = some (.slice x6 l6.length y6) := by
    exact cell_same _ (by rw [cell_other _ (Or.inr (by omega)), cell_other _ (Or.inr (by omega)), cell_other _ (Or.inr (by omega)), cell_other _ (Or.inr (by omega)), cell_other _ (Or.inr (by omega)), cell_other _ (Or.inr (by omega))]; exact z6)
  have KF : KeepFrom (w.heap.size + 1) w7 (((((((w7.setCell ⟨w.heap.size, 0, none⟩ (.int .i64 v0)).setCell ⟨w.heap.size, 1, none⟩ (.int .i64 v1)).setCell ⟨w.heap.size, 2, none⟩ (.int .i64 v2)).setCell ⟨w.heap.size, 3, none⟩ (.int .i64 v3)).setCell ⟨w.heap.size, 4, none⟩ (.slice x4 l4.length y4)).setCell ⟨w.heap.size, 5, none⟩ (.slice x5 l5.length y5)).setCell ⟨w.heap.size, 6, none⟩ (.slice x6 l6.length y6)) := (KeepFrom.put (KeepFrom.put (KeepFrom.put (KeepFrom.put (KeepFrom.put (KeepFrom.put (KeepFrom.put (KeepFrom.refl _ _) w.heap.size 0 (.int .i64 v0) (by omega)) w.heap.size 1 (.int .i64 v1) (by omega)) w.heap.size 2 (.int .i64 v2) (by omega)) w.heap.size 3 (.int .i64 v3) (by omega)) w.heap.size 4 (.slice x4 l4.length y4) (by omega)) w.heap.size 5 (.slice x5 l5.length y5) (by omega)) w.heap.size 6 (.slice x6 l6.length y6) (by omega))
  have K := hide (show (∀ w'', KeepFrom w.heap.size (((((((w7.setCell ⟨w.heap.size, 0, none⟩ (.int .i64 v0)).setCell ⟨w.heap.size, 1, none⟩ (.int .i64 v1)).setCell ⟨w.heap.size, 2, none⟩ (.int .i64 v2)).setCell ⟨w.heap.size, 3, none⟩ (.int .i64 v3)).setCell ⟨w.heap.size, 4, none⟩ (.slice x4 l4.length y4)).setCell ⟨w.heap.size, 5, none⟩ (.slice x5 l5.length y5)).setCell ⟨w.heap.size, 6, none⟩ (.slice x6 l6.length y6)) w'' → FnCells w'' (⟨v0, v1, v2, v3, l4, l5, l6⟩ : Fn) [.int .i64 v0, .int .i64 v1, .int .i64 v2, .int .i64 v3, .slice x4 l4.length y4, .slice x5 l5.length y5, .slice x6 l6.length y6]) ∧ oFn (⟨v0, v1, v2, v3, l4, l5, l6⟩ : Fn) ∧ Res pFn s ⟨v0, v1, v2, v3, l4, l5, l6⟩ s7 ∧ RdTo w0 w (((((((w7.setCell ⟨w.heap.size, 0, none⟩ (.int .i64 v0)).setCell ⟨w.heap.size, 1, none⟩ (.int .i64 v1)).setCell ⟨w.heap.size, 2, none⟩ (.int .i64 v2)).setCell ⟨w.heap.size, 3, none⟩ (.int .i64 v3)).setCell ⟨w.heap.size, 4, none⟩ (.slice x4 l4.length y4)).setCell ⟨w.heap.size, 5, none⟩ (.slice x5 l5.length y5)).setCell ⟨w.heap.size, 6, none⟩ (.slice x6 l6.length y6)) rb s7 from ⟨(fun w2 k2 => ⟨x4, y4, x5, y5, x6, y6, rfl, (unhide R4) w2 (KF.trans (k2.mono (by omega))), (unhide R5) w2 (KF.trans (k2.mono (by omega))), (unhide R6) w2 (KF.trans (k2.mono (by omega)))⟩), ⟨unhide o0, unhide o1, unhide o2, unhide o3, ⟨big_len (unhide R4).at.2.1, unhide o4⟩, ⟨big_len (unhide R5).at.2.1, unhide o5⟩, ⟨big_len (unhide R6).at.2.1, unhide o6⟩⟩, (((unhide r0).seq ((unhide r1).seq ((unhide r2).seq ((unhide r3).seq ((unhide r4).seq ((unhide r5).seq (unhide r6)))))))).map _, ((((((((unhide FIN w7 s7 (unhide k6)).set w.heap.size 0 (.int .i64 v0) hne (Nat.le_refl _)).set w.heap.size 1 (.int .i64 v1) hne (Nat.le_refl _)).set w.heap.size 2 (.int .i64 v2) hne (Nat.le_refl _)).set w.heap.size 3 (.int .i64 v3) hne (Nat.le_refl _)).set w.heap.size 4 (.slice x4 l4.length y4) hne (Nat.le_refl _)).set w.heap.size 5 (.slice x5 l5.length y5) hne (Nat.le_refl _)).set w.heap.size 6 (.slice x6 l6.length y6) hne (Nat.le_refl _))⟩)
  clear o0 r0 k0 o1 r1 k1 o2 r2 k2 o3 r3 k3 o4 r4 k4 o5 r5 k5 o6 r6 k6 NX FIN KC SZ gW hs1 hW1 KF R4 R5 R6
  go_wp2_with fail
  refine bodyPost_ret (by simp [results, Tryd.results68, go_sem, q0, q1, q2, q3, q4, q5, q6]; try rfl) rfl ?_
  exact ⟨⟨v0, v1, v2, v3, l4, l5, l6⟩, s7, x4, y4, x5, y5, x6, y6, rfl, unhide K⟩
end Go.Proofs.YtdekhnfncecacaaDoor
