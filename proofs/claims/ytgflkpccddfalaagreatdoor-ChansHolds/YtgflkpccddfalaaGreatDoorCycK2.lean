/- The program's Cycle: New; whom it serves while nothing is held; Start. -/
import Derived.Test.YtgflkpccddfalaaGreatDoorCycK
import Derived.Carry
import Derived.Laws.AppendOwnNone
namespace Go.Proofs.YtgflkpccddfalaaGreatDoor
set_option maxRecDepth 100000
open Go.ChangeShapes Go.WideShapes Go.ChangeAt Go.RowKit Go.Maps

theorem headnew_k (w : World) :
    Calls Tryz.prog 40 #[] w fun e w' => e = .returned (.pointer (some ⟨w.heap.size + 1, 0, none⟩)) ∧ w' = (w.alloc (.map #[] 0)).alloc (.cells #[.map (some w.heap.size), .slice none 0 0] 102) := by
  have hmm := @run_makeMap Tryz.prog
  go_enter Tryz.func40, Tryz.ntmps40
  go_wp2
  go_ret
  exact ⟨rfl, rfl⟩
theorem marknew_k (w : World) (ab tb : Nat) : Calls Tryz.prog 42 #[.pointer (some ⟨ab, 0, none⟩), .pointer (some ⟨tb, 0, none⟩)] w fun r w' =>
    r = .returned (.pointer (some ⟨w.heap.size + 1, 0, none⟩)) ∧ w' = (w.alloc (.cells #[.pointer none, .pointer none, .int .i64 0, .int .i64 0] 137)).alloc (.cells #[.pointer (some ⟨ab, 0, none⟩), .pointer (some ⟨tb, 0, none⟩), .pointer (some ⟨w.heap.size, 0, none⟩)] 131) := by
  go_enter Tryz.func42, Tryz.ntmps42
  go_wp2_with (go_at_call 61; refine (Gy.new_raw _).mono ?_; rintro e w' ⟨rfl, rfl⟩)
  go_ret
  exact ⟨rfl, rfl⟩
theorem kl_new_core {w : World} (ab n : Nat) (C : Array Value) (M : ∀ w, (Instr.makeSlice 124 (.int .i64 (n : Int)) (.int .i64 (n : Int))).run Tryz.prog w = .ok (.slice (some ⟨w.heap.size, 0, none⟩) n n) (w.alloc (.cells C 4)))
    (hsp : Hid (Calls Tryz.prog 60 #[.pointer (some ⟨ab, 0, none⟩)] w fun e w' => e = .returned (.int .i64 (n : Int)) ∧ w' = w)) :
    Calls Tryz.prog 41 #[.pointer (some ⟨ab, 0, none⟩)] w fun e w' => e = .returned (.pointer (some ⟨w.heap.size + 1, 0, none⟩)) ∧ w' = (w.alloc (.cells C 4)).alloc (.cells #[.pointer (some ⟨ab, 0, none⟩), .slice (some ⟨w.heap.size, 0, none⟩) n n] 127) := by
  go_enter Tryz.func41, Tryz.ntmps41
  go_wp2_with fail
  refine (unhide hsp).mono ?_
  rintro e w2 ⟨rfl, hw⟩
  subst hw
  clear hsp
  go_wp2_with fail
  go_ret
  exact ⟨rfl, rfl⟩
theorem kl_new {W w : World} {d : Ad} (n : Nat) (hn5 : n ≤ 512) (h : Hid (St W w d (ab0 n))) :
    Calls Tryz.prog 41 #[.pointer (some ⟨d.ab, 0, none⟩)] w fun e w' => ∃ x : Ld, e = .returned (.pointer (some ⟨x.lb, 0, none⟩)) ∧ x.d = d ∧ StL W w' x (al0 n) ∧ G w w' ∧ w.heap.size ≤ x.lb ∧ w.heap.size ≤ x.ub ∧ x.ub < w'.heap.size := by
  refine (kl_new_core d.ab n _ (mk_bools n hn5) (hide (st_spans h))).mono ?_
  rintro e w' ⟨rfl, rfl⟩
  obtain ⟨r1, r2⟩ := lnew_at _ (unhide h) fun _ _ hb => bools_at (n := n) hb
  exact ⟨_, rfl, rfl, r1, r2, Nat.le_succ _, Nat.le_refl _, by show w.heap.size < _; rw [World.size_alloc, World.size_alloc]; omega⟩

theorem k_new7 (w : World) : Calls Tryz.prog 21 #[.int .i64 7] w fun e w' => e = .returned (.tuple #[.pointer none, .int .i64 1]) ∧ w' = w := by
  go_enter Tryz.func21, Tryz.ntmps21
  go_wp2_with fail
  refine (new_no w 7 (Or.inl (by decide))).mono ?_
  rintro e w1 ⟨rfl, rfl⟩
  go_wp2_with fail
  go_ret2
  exact ⟨rfl, rfl⟩
theorem ks_new {W w3 w4 : World} {xl : Ld} {tb : Nat} (S3 : StL W w4 xl (al0 8)) (Q4 : Gy.QL w4 w3.heap.size [] []) (k0 : w4.cell? ⟨w3.heap.size + 1, 0, none⟩ = some (.pointer (some ⟨xl.d.ab, 0, none⟩)) ∧ w4.cell? ⟨w3.heap.size + 1, 2, none⟩ = some (.pointer (some ⟨w3.heap.size, 0, none⟩)) ∧ w4.cell? ⟨w3.heap.size + 1, 1, none⟩ = some (.pointer (some ⟨tb, 0, none⟩)))
    (z4 : w4.heap.size = w3.heap.size + 2) (hW : W.heap.size ≤ w3.heap.size) (l1 : xl.d.wb < w3.heap.size) (l2 : xl.d.sb < w3.heap.size) (l3 : xl.ub < w3.heap.size) (l4 : xl.d.ab < w3.heap.size) (l5 : xl.lb < w3.heap.size) :
    KS W ((w4.alloc (.map #[] 0)).alloc (.cells #[.pointer (some ⟨xl.d.ab, 0, none⟩), .pointer (some ⟨xl.lb, 0, none⟩), .pointer (some ⟨tb, 0, none⟩), .pointer (some ⟨w3.heap.size + 1, 0, none⟩), .int .i64 0, .map (some w4.heap.size), .int .i64 64, .int .i64 0] 88)) xl ⟨w4.heap.size + 1, w4.heap.size, w3.heap.size + 1, tb, w3.heap.size⟩ (al0 8) 0 64 0 := by
  obtain ⟨w5, h5⟩ : ∃ w5, w4.alloc (.map #[] 0) = w5 := ⟨_, rfl⟩
  have z5 : w5.heap.size = w4.heap.size + 1 := by rw [← h5, World.size_alloc]
  have g5 : G w4 w5 := by rw [← h5]; exact G.alloc _ _
  have m5 : w5.heap[w4.heap.size]? = some (.map #[] 0) := by rw [← h5]; exact heap_alloc_new w4 _
  rw [h5, ← z5]
  obtain ⟨w6, h6⟩ : ∃ w6, w5.alloc (.cells #[.pointer (some ⟨xl.d.ab, 0, none⟩), .pointer (some ⟨xl.lb, 0, none⟩), .pointer (some ⟨tb, 0, none⟩), .pointer (some ⟨w3.heap.size + 1, 0, none⟩), .int .i64 0, .map (some w4.heap.size), .int .i64 64, .int .i64 0] 88) = w6 := ⟨_, rfl⟩
  have g6 : G w5 w6 := by rw [← h6]; exact G.alloc _ _
  have z6 : w6.heap.size = w5.heap.size + 1 := by rw [← h6, World.size_alloc]
  have g := g5.trans g6
  have b6 : w6.heap[w5.heap.size]? = some (.cells #[.pointer (some ⟨xl.d.ab, 0, none⟩), .pointer (some ⟨xl.lb, 0, none⟩), .pointer (some ⟨tb, 0, none⟩), .pointer (some ⟨w3.heap.size + 1, 0, none⟩), .int .i64 0, .map (some w4.heap.size), .int .i64 64, .int .i64 0] 88 (0, 0)) := by rw [← h6]; exact heap_alloc_new w5 _
  have hc : ∀ i : Nat, w6.cell? ⟨w5.heap.size, i, none⟩ = #[Value.pointer (some ⟨xl.d.ab, 0, none⟩), .pointer (some ⟨xl.lb, 0, none⟩), .pointer (some ⟨tb, 0, none⟩), .pointer (some ⟨w3.heap.size + 1, 0, none⟩), .int .i64 0, .map (some w4.heap.size), .int .i64 64, .int .i64 0][i]? := fun i => by rw [← h6]; exact World.cell?_alloc_new _ _ _ i
  rw [h6]
  refine ⟨S3.G g, hc 0, hc 1, hc 2, hc 3, hc 4, hc 5, hc 6, hc 7, fun i => by simp [World.frozen?, b6], ⟨0, (g6.block w4.heap.size (by omega)).trans m5⟩, g.cell k0.1, g.cell k0.2.1, g.cell k0.2.2, Q4.grown g, fun d hd => ?_, by simp; omega, by simp; omega⟩
  simp at hd
  omega
set_option maxHeartbeats 2000000 in
theorem k_new {W w : World} (hb : Hid (Below W.heap.size W w)) (ht : Hid (Tab W)) : Calls Tryz.prog 21 #[.int .i64 8] w fun e w' => ∃ xl b, e = .returned (.tuple #[.pointer (some ⟨b.cb, 0, none⟩), .int .i64 0]) ∧ KS W w' xl b (al0 8) 0 64 0 := by
  have hmm := @run_makeMap Tryz.prog
  have hbs := (unhide hb).size
  go_enter Tryz.func21, Tryz.ntmps21
  go_wp2_with fail
  refine (st_make8 hb ht).mono ?_
  rintro r w1 ⟨d, rfl, S1, g1, q1, q2, q3⟩
  replace S1 := hide S1
  have z1 := g1.size
  clear g1
  go_wp2_with fail
  refine (headnew_k _).mono ?_
  rintro r w2 ⟨rfl, hw2⟩
  have g2 : Hid (G w1 w2) := hide (by rw [hw2]; exact (G.alloc _ _).more _)
  have z2 : w2.heap.size = w1.heap.size + 2 := by rw [hw2]; simp
  clear hw2
  have CA := hide (kl_new 8 (by decide) (hide ((unhide S1).G (unhide g2))))
  go_wp2_with fail
  refine (unhide CA).mono ?_
  rintro r w3 ⟨xl, rfl, hxd, S3, g3, y1, y2, y3⟩
  subst hxd
  replace S3 := hide S3
  have z3 := g3.size
  clear CA g3
  go_wp2_with fail
  refine (marknew_k _ _ _).mono ?_
  rintro r w4 ⟨rfl, hw4⟩
  have Q4 : Hid (Gy.QL w4 w3.heap.size [] []) := hide (by rw [hw4]; exact (Gy.queue_new w3).grown (G.alloc _ _))
  have g4 : Hid (G w3 w4) := hide (by rw [hw4]; exact (G.alloc _ _).more _)
  have z4 : w4.heap.size = w3.heap.size + 2 := by rw [hw4]; simp
  have k0 : Hid (w4.cell? ⟨w3.heap.size + 1, 0, none⟩ = some (.pointer (some ⟨xl.d.ab, 0, none⟩)) ∧ w4.cell? ⟨w3.heap.size + 1, 2, none⟩ = some (.pointer (some ⟨w3.heap.size, 0, none⟩)) ∧ w4.cell? ⟨w3.heap.size + 1, 1, none⟩ = some (.pointer (some ⟨w1.heap.size + 1, 0, none⟩))) := hide (by
    have hz : (w3.alloc (.cells #[.pointer none, .pointer none, .int .i64 0, .int .i64 0] 137)).heap.size = w3.heap.size + 1 := by rw [World.size_alloc]
    rw [hw4, ← hz]
    exact ⟨World.cell?_alloc_new _ _ _ 0, World.cell?_alloc_new _ _ _ 2, World.cell?_alloc_new _ _ _ 1⟩)
  clear hw4
  have S4 := (unhide S3).G (unhide g4)
  have l0 := (unhide S3).st.at_.lt0
  have l1 := (unhide S3).st.at_.lt1 (unhide S3).st.n8
  have l2 := (unhide S3).st.at_.lt2 (unhide S3).st.n8
  have z4' := hide z4
  clear z4
  go_wp2_with fail
  go_ret2
  exact ⟨xl, ⟨w4.heap.size + 1, w4.heap.size, w3.heap.size + 1, w1.heap.size + 1, w3.heap.size⟩, rfl, ks_new S4 (unhide Q4) (unhide k0) (unhide z4') (by omega) l1 l2 (by omega) l0 (unhide S3).lt0⟩

/-! ### whom it serves: nothing is held -/
/-- A holder that holds nothing. -/
structure HdA (w : World) (hb : Nat) : Prop where
  g : w.cell? ⟨hb, 0, none⟩ = some (.slice none 0 0)
  o0 : w.cell? ⟨hb, 5, none⟩ = some (.bool false)
  o1 : w.cell? ⟨hb, 6, none⟩ = some (.bool false)
  o2 : w.cell? ⟨hb, 7, none⟩ = some (.bool false)
  o3 : w.cell? ⟨hb, 8, none⟩ = some (.bool false)
theorem HdA.gr {w w' : World} {hb : Nat} (h : HdA w hb) (g : G w w') : HdA w' hb := ⟨g.cell h.g, g.cell h.o0, g.cell h.o1, g.cell h.o2, g.cell h.o3⟩
end Go.Proofs.YtgflkpccddfalaaGreatDoor
