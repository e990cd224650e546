/- The reader's shape, choice, instr. -/
import Derived.Test.YtdekhnfncecacaaDoorCodeRd
namespace Go.Proofs.YtdekhnfncecacaaDoor
set_option maxRecDepth 100000
open Go.RowKit Go.Maps Go.ChangeShapes Go.WideShapes Go.ChangeAt Go.Deep

theorem RdTo.set {w0 w W : World} {rb : Nat} {s : Option (List Int)} (h : RdTo w0 w W rb s) (rc i : Nat) (v : Value) (h1 : rc ≠ rb) (h2 : w.heap.size ≤ rc) : RdTo w0 w (W.setCell ⟨rc, i, none⟩ v) rb s :=
  ⟨h.1.kept (heap_set _ _ (fun e => h1 e.symm)), h.2.os, h.2.tape, h.2.output, by rw [World.size_setCell]; exact h.2.size, fun k hk hne => (heap_set _ _ (by show k ≠ rc; omega)).trans (h.2.block k hk hne)⟩
theorem RdTo.from {w0 w W W2 : World} {rb : Nat} {s : Option (List Int)} (h : RdTo w0 W W2 rb s) (g : Tr w W rb) : RdTo w0 w W2 rb s := ⟨h.1, g.trans h.2⟩
theorem Tr.cell {w w' : World} {rb b i : Nat} {v : Value} (h : Tr w w' rb) (hc : w.cell? ⟨b, i, none⟩ = some v) (hb : b ≠ rb) : w'.cell? ⟨b, i, none⟩ = some v :=
  (World.cell?_of_block (h.block b (World.block_lt_of_cell? w _ hc) hb)).trans hc
theorem Tr.fro {w w' : World} {rb b i : Nat} (h : Tr w w' rb) (hl : b < w.heap.size) (hc : w.frozen? ⟨b, i, none⟩ = false) (hb : b ≠ rb) : w'.frozen? ⟨b, i, none⟩ = false :=
  (World.frozen?_of_block (h.block b hl hb)).trans hc

set_option maxHeartbeats 1000000 in
theorem r_shape (w0 w : World) (rb : Nat) (s : Option (List Int)) (hrb : w0.heap.size ≤ rb) (g0 : Below w0.heap.size w0 w) (h : RdS w0 w rb s) :
    Calls Tryd.prog 60 #[.pointer (some ⟨rb, 0, none⟩)] w fun e w' => ∃ (a : Sp) (s' : Option (List Int)), e = .returned (.agg #[.int .i64 a.k, .int .i64 a.f, .int .u64 (a.m : Int)]) ∧ oSp a ∧ Res pSp s a s' ∧ RdTo w0 w w' rb s' := by
  have hlt := h.lt
  have hB := g0.size
  have hne : ¬ w.heap.size = rb := by omega
  obtain ⟨W1, hW1⟩ : ∃ W1, W1 = (w.alloc (.cells #[.int .i64 0, .int .i64 0, .int .u64 0] 64)) := ⟨_, rfl⟩
  have gW : G w W1 := by rw [hW1]; exact G.alloc w _
  have hs1 : W1.heap.size = w.heap.size + 1 := by rw [hW1]; exact World.size_alloc _ _
  have z0 : W1.cell? ⟨w.heap.size, 0, none⟩ = some (.int .i64 0) := by rw [hW1]; simp [go_sem]
  have f0 : W1.frozen? ⟨w.heap.size, 0, none⟩ = false := by rw [hW1]; simp [go_sem]
  have z1 : W1.cell? ⟨w.heap.size, 1, none⟩ = some (.int .i64 0) := by rw [hW1]; simp [go_sem]
  have f1 : W1.frozen? ⟨w.heap.size, 1, none⟩ = false := by rw [hW1]; simp [go_sem]
  have z2 : W1.cell? ⟨w.heap.size, 2, none⟩ = some (.int .u64 0) := by rw [hW1]; simp [go_sem]
  have f2 : W1.frozen? ⟨w.heap.size, 2, none⟩ = false := by rw [hW1]; simp [go_sem]
  have NX := hide (fun (W : World) (t : Option (List Int)) (k : RdTo w0 W1 W rb t) => (show Below w0.heap.size w0 W from Below.trans (Below.trans g0 (Below.mono gW hB)) (k.2.below (by omega) hrb)))
  have FIN := hide (fun (W : World) (t : Option (List Int)) (k : RdTo w0 W1 W rb t) => (show RdTo w0 w W rb t from k.from (Tr.of_G rb gW)))
  have KC := hide (fun (W : World) (t : Option (List Int)) (k : RdTo w0 W1 W rb t) => (show W.cell? ⟨w.heap.size, 0, none⟩ = some (.int .i64 0) ∧ W.cell? ⟨w.heap.size, 1, none⟩ = some (.int .i64 0) ∧ W.cell? ⟨w.heap.size, 2, none⟩ = some (.int .u64 0) ∧ W.frozen? ⟨w.heap.size, 0, none⟩ = false ∧ W.frozen? ⟨w.heap.size, 1, none⟩ = false ∧ W.frozen? ⟨w.heap.size, 2, none⟩ = false from ⟨k.2.cell z0 hne, k.2.cell z1 hne, k.2.cell z2 hne, k.2.fro (by omega) f0 hne, k.2.fro (by omega) f1 hne, k.2.fro (by omega) f2 hne⟩))
  have S0 : RdTo w0 W1 W1 rb s := ⟨h.g gW, Tr.refl _ _⟩
  have C0 := hide (r_integer w0 W1 rb s (unhide NX W1 s S0) S0.1)
  rw [hW1] at C0
  clear h g0 S0 z0 f0 z1 f1 z2 f2
  go_enter Tryd.func60, Tryd.ntmps60
  go_wp2_with fail
  refine (unhide C0).mono ?_
  rintro e w1 ⟨v0, s1, rfl, o0, r0, k0⟩
  rw [← hW1] at k0
  have C1 := hide (r_integer w0 w1 rb s1 (unhide NX w1 s1 k0) k0.1)
  clear C0
  go_wp2_with fail
  refine (unhide C1).mono ?_
  rintro e w2 ⟨v1, s2, rfl, o1, r1, k1⟩
  replace k1 := RdTo.from k1 k0.2
  have C2 := hide (r_number w0 w2 rb s2 (unhide NX w2 s2 k1) k1.1)
  clear C1
  go_wp2_with fail
  refine (unhide C2).mono ?_
  rintro e w3 ⟨v2, s3, rfl, o2, r2, _, k2⟩
  replace k2 := RdTo.from k2 k1.2
  clear C2
  obtain ⟨z0, z1, z2, f0, f1, f2⟩ := unhide KC w3 s3 k2
  have K := hide (show oSp (⟨v0, v1, v2⟩ : Sp) ∧ Res pSp s ⟨v0, v1, v2⟩ s3 ∧ RdTo w0 w _ rb s3 from ⟨⟨o0, o1, o2⟩, ((r0.seq (r1.seq r2))).map _, ((((unhide FIN w3 s3 k2).set w.heap.size 0 (.int .i64 v0) hne (Nat.le_refl _)).set w.heap.size 1 (.int .i64 v1) hne (Nat.le_refl _)).set w.heap.size 2 (.int .u64 (v2 : Int)) hne (Nat.le_refl _))⟩)
  clear o0 r0 k0 o1 r1 k1 o2 r2 k2 NX FIN KC gW hs1 hW1
  have q0 : (((w3.setCell ⟨w.heap.size, 0, none⟩ (.int .i64 v0)).setCell ⟨w.heap.size, 1, none⟩ (.int .i64 v1)).setCell ⟨w.heap.size, 2, none⟩ (.int .u64 (v2 : Int))).cell? ⟨w.heap.size, 0, none⟩ = some (.int .i64 v0) := by
    rw [cell_other _ (Or.inr (by omega)), cell_other _ (Or.inr (by omega))]
    exact cell_same _ (by exact z0)
  have q1 : (((w3.setCell ⟨w.heap.size, 0, none⟩ (.int .i64 v0)).setCell ⟨w.heap.size, 1, none⟩ (.int .i64 v1)).setCell ⟨w.heap.size, 2, none⟩ (.int .u64 (v2 : Int))).cell? ⟨w.heap.size, 1, none⟩ = some (.int .i64 v1) := by
    rw [cell_other _ (Or.inr (by omega))]
    exact cell_same _ (by rw [cell_other _ (Or.inr (by omega))]; exact z1)
  have q2 : (((w3.setCell ⟨w.heap.size, 0, none⟩ (.int .i64 v0)).setCell ⟨w.heap.size, 1, none⟩ (.int .i64 v1)).setCell ⟨w.heap.size, 2, none⟩ (.int .u64 (v2 : Int))).cell? ⟨w.heap.size, 2, none⟩ = some (.int .u64 (v2 : Int)) := by
    exact cell_same _ (by rw [cell_other _ (Or.inr (by omega)), cell_other _ (Or.inr (by omega))]; exact z2)
  go_wp2_with fail
  refine bodyPost_ret (by simp [results, Tryd.results60, go_sem, q0, q1, q2]; try rfl) rfl ?_
  exact ⟨⟨v0, v1, v2⟩, s3, rfl, unhide K⟩

set_option maxHeartbeats 1000000 in
theorem r_choice (w0 w : World) (rb : Nat) (s : Option (List Int)) (hrb : w0.heap.size ≤ rb) (g0 : Below w0.heap.size w0 w) (h : RdS w0 w rb s) :
    Calls Tryd.prog 66 #[.pointer (some ⟨rb, 0, none⟩)] w fun e w' => ∃ (a : Ca) (s' : Option (List Int)), e = .returned (.agg #[.int .i64 a.k, .int .i64 a.c, .int .i64 a.v, .int .i64 a.t]) ∧ oCa a ∧ Res pCa s a s' ∧ RdTo w0 w w' rb s' := by
  have hlt := h.lt
  have hB := g0.size
  have hne : ¬ w.heap.size = rb := by omega
  obtain ⟨W1, hW1⟩ : ∃ W1, W1 = (w.alloc (.cells #[.int .i64 0, .int .i64 0, .int .i64 0, .int .i64 0] 75)) := ⟨_, rfl⟩
  have gW : G w W1 := by rw [hW1]; exact G.alloc w _
  have hs1 : W1.heap.size = w.heap.size + 1 := by rw [hW1]; exact World.size_alloc _ _
  have z0 : W1.cell? ⟨w.heap.size, 0, none⟩ = some (.int .i64 0) := by rw [hW1]; simp [go_sem]
  have f0 : W1.frozen? ⟨w.heap.size, 0, none⟩ = false := by rw [hW1]; simp [go_sem]
  have z1 : W1.cell? ⟨w.heap.size, 1, none⟩ = some (.int .i64 0) := by rw [hW1]; simp [go_sem]
  have f1 : W1.frozen? ⟨w.heap.size, 1, none⟩ = false := by rw [hW1]; simp [go_sem]
  have z2 : W1.cell? ⟨w.heap.size, 2, none⟩ = some (.int .i64 0) := by rw [hW1]; simp [go_sem]
  have f2 : W1.frozen? ⟨w.heap.size, 2, none⟩ = false := by rw [hW1]; simp [go_sem]
  have z3 : W1.cell? ⟨w.heap.size, 3, none⟩ = some (.int .i64 0) := by rw [hW1]; simp [go_sem]
  have f3 : W1.frozen? ⟨w.heap.size, 3, none⟩ = false := by rw [hW1]; simp [go_sem]
  have NX := hide (fun (W : World) (t : Option (List Int)) (k : RdTo w0 W1 W rb t) => (show Below w0.heap.size w0 W from Below.trans (Below.trans g0 (Below.mono gW hB)) (k.2.below (by omega) hrb)))
  have FIN := hide (fun (W : World) (t : Option (List Int)) (k : RdTo w0 W1 W rb t) => (show RdTo w0 w W rb t from k.from (Tr.of_G rb gW)))
  have KC := hide (fun (W : World) (t : Option (List Int)) (k : RdTo w0 W1 W rb t) => (show W.cell? ⟨w.heap.size, 0, none⟩ = some (.int .i64 0) ∧ W.cell? ⟨w.heap.size, 1, none⟩ = some (.int .i64 0) ∧ W.cell? ⟨w.heap.size, 2, none⟩ = some (.int .i64 0) ∧ W.cell? ⟨w.heap.size, 3, none⟩ = some (.int .i64 0) ∧ W.frozen? ⟨w.heap.size, 0, none⟩ = false ∧ W.frozen? ⟨w.heap.size, 1, none⟩ = false ∧ W.frozen? ⟨w.heap.size, 2, none⟩ = false ∧ W.frozen? ⟨w.heap.size, 3, none⟩ = false from ⟨k.2.cell z0 hne, k.2.cell z1 hne, k.2.cell z2 hne, k.2.cell z3 hne, k.2.fro (by omega) f0 hne, k.2.fro (by omega) f1 hne, k.2.fro (by omega) f2 hne, k.2.fro (by omega) f3 hne⟩))
  have S0 : RdTo w0 W1 W1 rb s := ⟨h.g gW, Tr.refl _ _⟩
  have C0 := hide (r_integer w0 W1 rb s (unhide NX W1 s S0) S0.1)
  rw [hW1] at C0
  clear h g0 S0 z0 f0 z1 f1 z2 f2 z3 f3
  go_enter Tryd.func66, Tryd.ntmps66
  go_wp2_with fail
  refine (unhide C0).mono ?_
  rintro e w1 ⟨v0, s1, rfl, o0, r0, k0⟩
  rw [← hW1] at k0
  have C1 := hide (r_integer w0 w1 rb s1 (unhide NX w1 s1 k0) k0.1)
  clear C0
  go_wp2_with fail
  refine (unhide C1).mono ?_
  rintro e w2 ⟨v1, s2, rfl, o1, r1, k1⟩
  replace k1 := RdTo.from k1 k0.2
  have C2 := hide (r_integer w0 w2 rb s2 (unhide NX w2 s2 k1) k1.1)
  clear C1
  go_wp2_with fail
  refine (unhide C2).mono ?_
  rintro e w3 ⟨v2, s3, rfl, o2, r2, k2⟩
  replace k2 := RdTo.from k2 k1.2
  have C3 := hide (r_integer w0 w3 rb s3 (unhide NX w3 s3 k2) k2.1)
  clear C2
  go_wp2_with fail
  refine (unhide C3).mono ?_
  rintro e w4 ⟨v3, s4, rfl, o3, r3, k3⟩
  replace k3 := RdTo.from k3 k2.2
  clear C3
  obtain ⟨z0, z1, z2, z3, f0, f1, f2, f3⟩ := unhide KC w4 s4 k3
  have K := hide (show oCa (⟨v0, v1, v2, v3⟩ : Ca) ∧ Res pCa s ⟨v0, v1, v2, v3⟩ s4 ∧ RdTo w0 w _ rb s4 from ⟨⟨o0, o1, o2, o3⟩, ((r0.seq (r1.seq (r2.seq r3)))).map _, (((((unhide FIN w4 s4 k3).set w.heap.size 0 (.int .i64 v0) hne (Nat.le_refl _)).set w.heap.size 1 (.int .i64 v1) hne (Nat.le_refl _)).set w.heap.size 2 (.int .i64 v2) hne (Nat.le_refl _)).set w.heap.size 3 (.int .i64 v3) hne (Nat.le_refl _))⟩)
  clear o0 r0 k0 o1 r1 k1 o2 r2 k2 o3 r3 k3 NX FIN KC gW hs1 hW1
  have q0 : ((((w4.setCell ⟨w.heap.size, 0, none⟩ (.int .i64 v0)).setCell ⟨w.heap.size, 1, none⟩ (.int .i64 v1)).setCell ⟨w.heap.size, 2, none⟩ (.int .i64 v2)).setCell ⟨w.heap.size, 3, none⟩ (.int .i64 v3)).cell? ⟨w.heap.size, 0, none⟩ = some (.int .i64 v0) := by
    rw [cell_other _ (Or.inr (by omega)), cell_other _ (Or.inr (by omega)), cell_other _ (Or.inr (by omega))]
    exact cell_same _ (by exact z0)
  have q1 : ((((w4.setCell ⟨w.heap.size, 0, none⟩ (.int .i64 v0)).setCell ⟨w.heap.size, 1, none⟩ (.int .i64 v1)).setCell ⟨w.heap.size, 2, none⟩ (.int .i64 v2)).setCell ⟨w.heap.size, 3, none⟩ (.int .i64 v3)).cell? ⟨w.heap.size, 1, none⟩ = some (.int .i64 v1) := by
    rw [cell_other _ (Or.inr (by omega)), cell_other _ (Or.inr (by omega))]
    exact cell_same _ (by rw [cell_other _ (Or.inr (by omega))]; exact z1)
  have q2 : ((((w4.setCell ⟨w.heap.size, 0, none⟩ (.int .i64 v0)).setCell ⟨w.heap.size, 1, none⟩ (.int .i64 v1)).setCell ⟨w.heap.size, 2, none⟩ (.int .i64 v2)).setCell ⟨w.heap.size, 3, none⟩ (.int .i64 v3)).cell? ⟨w.heap.size, 2, none⟩ = some (.int .i64 v2) := by
    rw [cell_other _ (Or.inr (by omega))]
    exact cell_same _ (by rw [cell_other _ (Or.inr (by omega)), cell_other _ (Or.inr (by omega))]; exact z2)
  have q3 : ((((w4.setCell ⟨w.heap.size, 0, none⟩ (.int .i64 v0)).setCell ⟨w.heap.size, 1, none⟩ (.int .i64 v1)).setCell ⟨w.heap.size, 2, none⟩ (.int .i64 v2)).setCell ⟨w.heap.size, 3, none⟩ (.int .i64 v3)).cell? ⟨w.heap.size, 3, none⟩ = some (.int .i64 v3) := by
    exact cell_same _ (by rw [cell_other _ (Or.inr (by omega)), cell_other _ (Or.inr (by omega)), cell_other _ (Or.inr (by omega))]; exact z3)
  go_wp2_with fail
  refine bodyPost_ret (by simp [results, Tryd.results66, go_sem, q0, q1, q2, q3]; try rfl) rfl ?_
  exact ⟨⟨v0, v1, v2, v3⟩, s4, rfl, unhide K⟩

set_option maxHeartbeats 1000000 in
theorem r_instr (w0 w : World) (rb : Nat) (s : Option (List Int)) (hrb : w0.heap.size ≤ rb) (g0 : Below w0.heap.size w0 w) (h : RdS w0 w rb s) :
    Calls Tryd.prog 80 #[.pointer (some ⟨rb, 0, none⟩)] w fun e w' => ∃ (a : In) (s' : Option (List Int)), e = .returned (.agg #[.int .i64 a.op, .int .i64 a.a, .int .i64 a.b, .int .i64 a.c, .int .i64 a.d]) ∧ oIn a ∧ Res pIn s a s' ∧ RdTo w0 w w' rb s' := by
  have hlt := h.lt
  have hB := g0.size
  have hne : ¬ w.heap.size = rb := by omega
  obtain ⟨W1, hW1⟩ : ∃ W1, W1 = (w.alloc (.cells #[.int .i64 0, .int .i64 0, .int .i64 0, .int .i64 0, .int .i64 0] 51)) := ⟨_, rfl⟩
  have gW : G w W1 := by rw [hW1]; exact G.alloc w _
  have hs1 : W1.heap.size = w.heap.size + 1 := by rw [hW1]; exact World.size_alloc _ _
  have z0 : W1.cell? ⟨w.heap.size, 0, none⟩ = some (.int .i64 0) := by rw [hW1]; simp [go_sem]
  have f0 : W1.frozen? ⟨w.heap.size, 0, none⟩ = false := by rw [hW1]; simp [go_sem]
  have z1 : W1.cell? ⟨w.heap.size, 1, none⟩ = some (.int .i64 0) := by rw [hW1]; simp [go_sem]
  have f1 : W1.frozen? ⟨w.heap.size, 1, none⟩ = false := by rw [hW1]; simp [go_sem]
  have z2 : W1.cell? ⟨w.heap.size, 2, none⟩ = some (.int .i64 0) := by rw [hW1]; simp [go_sem]
  have f2 : W1.frozen? ⟨w.heap.size, 2, none⟩ = false := by rw [hW1]; simp [go_sem]
  have z3 : W1.cell? ⟨w.heap.size, 3, none⟩ = some (.int .i64 0) := by rw [hW1]; simp [go_sem]
  have f3 : W1.frozen? ⟨w.heap.size, 3, none⟩ = false := by rw [hW1]; simp [go_sem]
  have z4 : W1.cell? ⟨w.heap.size, 4, none⟩ = some (.int .i64 0) := by rw [hW1]; simp [go_sem]
  have f4 : W1.frozen? ⟨w.heap.size, 4, none⟩ = false := by rw [hW1]; simp [go_sem]
  have NX := hide (fun (W : World) (t : Option (List Int)) (k : RdTo w0 W1 W rb t) => (show Below w0.heap.size w0 W from Below.trans (Below.trans g0 (Below.mono gW hB)) (k.2.below (by omega) hrb)))
  have FIN := hide (fun (W : World) (t : Option (List Int)) (k : RdTo w0 W1 W rb t) => (show RdTo w0 w W rb t from k.from (Tr.of_G rb gW)))
  have KC := hide (fun (W : World) (t : Option (List Int)) (k : RdTo w0 W1 W rb t) => (show W.cell? ⟨w.heap.size, 0, none⟩ = some (.int .i64 0) ∧ W.cell? ⟨w.heap.size, 1, none⟩ = some (.int .i64 0) ∧ W.cell? ⟨w.heap.size, 2, none⟩ = some (.int .i64 0) ∧ W.cell? ⟨w.heap.size, 3, none⟩ = some (.int .i64 0) ∧ W.cell? ⟨w.heap.size, 4, none⟩ = some (.int .i64 0) ∧ W.frozen? ⟨w.heap.size, 0, none⟩ = false ∧ W.frozen? ⟨w.heap.size, 1, none⟩ = false ∧ W.frozen? ⟨w.heap.size, 2, none⟩ = false ∧ W.frozen? ⟨w.heap.size, 3, none⟩ = false ∧ W.frozen? ⟨w.heap.size, 4, none⟩ = false from ⟨k.2.cell z0 hne, k.2.cell z1 hne, k.2.cell z2 hne, k.2.cell z3 hne, k.2.cell z4 hne, k.2.fro (by omega) f0 hne, k.2.fro (by omega) f1 hne, k.2.fro (by omega) f2 hne, k.2.fro (by omega) f3 hne, k.2.fro (by omega) f4 hne⟩))
  have S0 : RdTo w0 W1 W1 rb s := ⟨h.g gW, Tr.refl _ _⟩
  have C0 := hide (r_integer w0 W1 rb s (unhide NX W1 s S0) S0.1)
  rw [hW1] at C0
  clear h g0 S0 z0 f0 z1 f1 z2 f2 z3 f3 z4 f4
  go_enter Tryd.func80, Tryd.ntmps80
  go_wp2_with fail
  refine (unhide C0).mono ?_
  rintro e w1 ⟨v0, s1, rfl, o0, r0, k0⟩
  rw [← hW1] at k0
  have C1 := hide (r_integer w0 w1 rb s1 (unhide NX w1 s1 k0) k0.1)
  clear C0
  go_wp2_with fail
  refine (unhide C1).mono ?_
  rintro e w2 ⟨v1, s2, rfl, o1, r1, k1⟩
  replace k1 := RdTo.from k1 k0.2
  have C2 := hide (r_integer w0 w2 rb s2 (unhide NX w2 s2 k1) k1.1)
  clear C1
  go_wp2_with fail
  refine (unhide C2).mono ?_
  rintro e w3 ⟨v2, s3, rfl, o2, r2, k2⟩
  replace k2 := RdTo.from k2 k1.2
  have C3 := hide (r_integer w0 w3 rb s3 (unhide NX w3 s3 k2) k2.1)
  clear C2
  go_wp2_with fail
  refine (unhide C3).mono ?_
  rintro e w4 ⟨v3, s4, rfl, o3, r3, k3⟩
  replace k3 := RdTo.from k3 k2.2
  have C4 := hide (r_integer w0 w4 rb s4 (unhide NX w4 s4 k3) k3.1)
  clear C3
  go_wp2_with fail
  refine (unhide C4).mono ?_
  rintro e w5 ⟨v4, s5, rfl, o4, r4, k4⟩
  replace k4 := RdTo.from k4 k3.2
  clear C4
  obtain ⟨z0, z1, z2, z3, z4, f0, f1, f2, f3, f4⟩ := unhide KC w5 s5 k4
  have K := hide (show oIn (⟨v0, v1, v2, v3, v4⟩ : In) ∧ Res pIn s ⟨v0, v1, v2, v3, v4⟩ s5 ∧ RdTo w0 w _ rb s5 from ⟨⟨o0, o1, o2, o3, o4⟩, ((r0.seq (r1.seq (r2.seq (r3.seq r4))))).map _, ((((((unhide FIN w5 s5 k4).set w.heap.size 0 (.int .i64 v0) hne (Nat.le_refl _)).set w.heap.size 1 (.int .i64 v1) hne (Nat.le_refl _)).set w.heap.size 2 (.int .i64 v2) hne (Nat.le_refl _)).set w.heap.size 3 (.int .i64 v3) hne (Nat.le_refl _)).set w.heap.size 4 (.int .i64 v4) hne (Nat.le_refl _))⟩)
  clear o0 r0 k0 o1 r1 k1 o2 r2 k2 o3 r3 k3 o4 r4 k4 NX FIN KC gW hs1 hW1
  have q0 : (((((w5.setCell ⟨w.heap.size, 0, none⟩ (.int .i64 v0)).setCell ⟨w.heap.size, 1, none⟩ (.int .i64 v1)).setCell ⟨w.heap.size, 2, none⟩ (.int .i64 v2)).setCell ⟨w.heap.size, 3, none⟩ (.int .i64 v3)).setCell ⟨w.heap.size, 4, none⟩ (.int .i64 v4)).cell? ⟨w.heap.size, 0, none⟩ = some (.int .i64 v0) := by
    rw [cell_other _ (Or.inr (by omega)), cell_other _ (Or.inr (by omega)), cell_other _ (Or.inr (by omega)), cell_other _ (Or.inr (by omega))]
    exact cell_same _ (by exact z0)
  have q1 : (((((w5.setCell ⟨w.heap.size, 0, none⟩ (.int .i64 v0)).setCell ⟨w.heap.size, 1, none⟩ (.int .i64 v1)).setCell ⟨w.heap.size, 2, none⟩ (.int .i64 v2)).setCell ⟨w.heap.size, 3, none⟩ (.int .i64 v3)).setCell ⟨w.heap.size, 4, none⟩ (.int .i64 v4)).cell? ⟨w.heap.size, 1, none⟩ = some (.int .i64 v1) := by
    rw [cell_other _ (Or.inr (by omega)), cell_other _ (Or.inr (by omega)), cell_other _ (Or.inr (by omega))]
    exact cell_same _ (by rw [cell_other _ (Or.inr (by omega))]; exact z1)
  have q2 : (((((w5.setCell ⟨w.heap.size, 0, none⟩ (.int .i64 v0)).setCell ⟨w.heap.size, 1, none⟩ (.int .i64 v1)).setCell ⟨w.heap.size, 2, none⟩ (.int .i64 v2)).setCell ⟨w.heap.size, 3, none⟩ (.int .i64 v3)).setCell ⟨w.heap.size, 4, none⟩ (.int .i64 v4)).cell? ⟨w.heap.size, 2, none⟩ = some (.int .i64 v2) := by
    rw [cell_other _ (Or.inr (by omega)), cell_other _ (Or.inr (by omega))]
    exact cell_same _ (by rw [cell_other _ (Or.inr (by omega)), cell_other _ (Or.inr (by omega))]; exact z2)
  have q3 : (((((w5.setCell ⟨w.heap.size, 0, none⟩ (.int .i64 v0)).setCell ⟨w.heap.size, 1, none⟩ (.int .i64 v1)).setCell ⟨w.heap.size, 2, none⟩ (.int .i64 v2)).setCell ⟨w.heap.size, 3, none⟩ (.int .i64 v3)).setCell ⟨w.heap.size, 4, none⟩ (.int .i64 v4)).cell? ⟨w.heap.size, 3, none⟩ = some (.int .i64 v3) := by
    rw [cell_other _ (Or.inr (by omega))]
    exact cell_same _ (by rw [cell_other _ (Or.inr (by omega)), cell_other _ (Or.inr (by omega)), cell_other _ (Or.inr (by omega))]; exact z3)
  have q4 : (((((w5.setCell ⟨w.heap.size, 0, none⟩ (.int .i64 v0)).setCell ⟨w.heap.size, 1, none⟩ (.int .i64 v1)).setCell ⟨w.heap.size, 2, none⟩ (.int .i64 v2)).setCell ⟨w.heap.size, 3, none⟩ (.int .i64 v3)).setCell ⟨w.heap.size, 4, none⟩ (.int .i64 v4)).cell? ⟨w.heap.size, 4, none⟩ = some (.int .i64 v4) := by
    exact cell_same _ (by rw [cell_other _ (Or.inr (by omega)), cell_other _ (Or.inr (by omega)), cell_other _ (Or.inr (by omega)), cell_other _ (Or.inr (by omega))]; exact z4)
  go_wp2_with fail
  refine bodyPost_ret (by simp [results, Tryd.results80, go_sem, q0, q1, q2, q3, q4]; try rfl) rfl ?_
  exact ⟨⟨v0, v1, v2, v3, v4⟩, s5, rfl, unhide K⟩

end Go.Proofs.YtdekhnfncecacaaDoor
