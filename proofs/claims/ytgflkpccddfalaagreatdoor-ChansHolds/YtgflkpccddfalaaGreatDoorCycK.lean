/- The program's Cycle beside its heap, while nothing is held: its cells, its own calls that only read. -/
import Derived.Test.YtgflkpccddfalaaGreatDoorAllocCalls2
import Derived.Test.YtgflkpccddfalaaGreatDoorGreyQ
import Derived.Deep.RegionHeld3
namespace Go.Proofs.YtgflkpccddfalaaGreatDoor
set_option maxRecDepth 100000
open Go.ChangeShapes Go.WideShapes Go.ChangeAt Go.RowKit Go.Maps

structure Kn where
  cb : Nat
  mb : Nat
  kb : Nat
  tb : Nat
  q : Nat
/-- A Cycle: the phase, the words kept, how many are done; no stack is black, none is grey. -/
structure KS (W w : World) (xl : Ld) (b : Kn) (al : Al) (ph kept done : Int) : Prop where
  st : StL W w xl al
  c0 : w.cell? ⟨b.cb, 0, none⟩ = some (.pointer (some ⟨xl.d.ab, 0, none⟩))
  c1 : w.cell? ⟨b.cb, 1, none⟩ = some (.pointer (some ⟨xl.lb, 0, none⟩))
  c2 : w.cell? ⟨b.cb, 2, none⟩ = some (.pointer (some ⟨b.tb, 0, none⟩))
  c3 : w.cell? ⟨b.cb, 3, none⟩ = some (.pointer (some ⟨b.kb, 0, none⟩))
  c4 : w.cell? ⟨b.cb, 4, none⟩ = some (.int .i64 ph)
  c5 : w.cell? ⟨b.cb, 5, none⟩ = some (.map (some b.mb))
  c6 : w.cell? ⟨b.cb, 6, none⟩ = some (.int .i64 kept)
  c7 : w.cell? ⟨b.cb, 7, none⟩ = some (.int .i64 done)
  fz : ∀ i, w.frozen? ⟨b.cb, i, none⟩ = false
  mp : ∃ clock, w.heap[b.mb]? = some (.map #[] clock)
  k0 : w.cell? ⟨b.kb, 0, none⟩ = some (.pointer (some ⟨xl.d.ab, 0, none⟩))
  k2 : w.cell? ⟨b.kb, 2, none⟩ = some (.pointer (some ⟨b.q, 0, none⟩))
  k1 : w.cell? ⟨b.kb, 1, none⟩ = some (.pointer (some ⟨b.tb, 0, none⟩))
  que : Gy.QL w b.q [] []
  ap : ∀ d ∈ [b.cb, b.mb, b.kb, b.q], d < w.heap.size ∧ W.heap.size ≤ d ∧ d ≠ xl.d.wb ∧ d ≠ xl.d.sb ∧ d ≠ xl.ub ∧ d ≠ xl.d.ab ∧ d ≠ xl.lb
  nd : b.cb ≠ b.mb ∧ b.cb ≠ b.kb ∧ b.cb ≠ b.q
  nm : b.mb ≠ b.kb ∧ b.mb ≠ b.q
section
variable {W w w' : World} {xl : Ld} {b : Kn} {al al' : Al} {ph kept done : Int}
theorem KS.blocks (h : KS W w xl b al ph kept done) (s : StL W w' xl al') (hs : w.heap.size ≤ w'.heap.size) (k : ∀ d ∈ [b.cb, b.mb, b.kb, b.q], w'.heap[d]? = w.heap[d]?) : KS W w' xl b al' ph kept done := by
  have kc := k b.cb (by simp)
  have kk := k b.kb (by simp)
  refine ⟨s, ?_, ?_, ?_, ?_, ?_, ?_, ?_, ?_, fun i => (World.frozen?_of_block (a := ⟨b.cb, i, none⟩) kc).trans (h.fz i), (by obtain ⟨c, hc⟩ := h.mp; exact ⟨c, (k b.mb (by simp)).trans hc⟩), ?_, ?_, ?_, h.que.kept (k b.q (by simp)) (fun d hd => by cases hd), fun d hd => ⟨Nat.lt_of_lt_of_le (h.ap d hd).1 hs, (h.ap d hd).2⟩, h.nd, h.nm⟩
  · exact (World.cell?_of_block (a := ⟨b.cb, 0, none⟩) kc).trans h.c0
  · exact (World.cell?_of_block (a := ⟨b.cb, 1, none⟩) kc).trans h.c1
  · exact (World.cell?_of_block (a := ⟨b.cb, 2, none⟩) kc).trans h.c2
  · exact (World.cell?_of_block (a := ⟨b.cb, 3, none⟩) kc).trans h.c3
  · exact (World.cell?_of_block (a := ⟨b.cb, 4, none⟩) kc).trans h.c4
  · exact (World.cell?_of_block (a := ⟨b.cb, 5, none⟩) kc).trans h.c5
  · exact (World.cell?_of_block (a := ⟨b.cb, 6, none⟩) kc).trans h.c6
  · exact (World.cell?_of_block (a := ⟨b.cb, 7, none⟩) kc).trans h.c7
  · exact (World.cell?_of_block (a := ⟨b.kb, 0, none⟩) kk).trans h.k0
  · exact (World.cell?_of_block (a := ⟨b.kb, 2, none⟩) kk).trans h.k2
  · exact (World.cell?_of_block (a := ⟨b.kb, 1, none⟩) kk).trans h.k1
theorem KS.turn (h : KS W w xl b al ph kept done) (s : StL W w' xl al') (t : TnL w w' xl) : KS W w' xl b al' ph kept done :=
  h.blocks s t.size fun d hd => t.block d (h.ap d hd).1 (h.ap d hd).2.2.1 (h.ap d hd).2.2.2.1 (h.ap d hd).2.2.2.2.1
theorem KS.gr (h : KS W w xl b al ph kept done) (g : G w w') : KS W w' xl b al ph kept done := h.blocks (h.st.G g) g.size fun d hd => g.block d (h.ap d hd).1

/-- A cell of the Cycle's own is written. -/
theorem KS.other (h : KS W w xl b al ph kept done) (i : Nat) (v : Value) : StL W (w.setCell ⟨b.cb, i, none⟩ v) xl al ∧ (∀ d, d ≠ b.cb → (w.setCell ⟨b.cb, i, none⟩ v).heap[d]? = w.heap[d]?) := by
  have k : ∀ d, d ≠ b.cb → (w.setCell ⟨b.cb, i, none⟩ v).heap[d]? = w.heap[d]? := fun d hd => Below.heap_setCell _ _ _ _ (by show d ≠ b.cb; exact hd)
  obtain ⟨q1, q2, q3, q4, q5, q6, q7⟩ := h.ap b.cb (by simp)
  have kl := k xl.lb (Ne.symm q7)
  have ku := k xl.ub (Ne.symm q5)
  refine ⟨⟨⟨h.st.st.at_.kept (k _ (Ne.symm q6)) (k _ (Ne.symm q3)) (k _ (Ne.symm q4)), h.st.st.good, h.st.below.setCell q2 v, h.st.st.tab⟩, (World.cell?_of_block (a := ⟨xl.lb, 0, none⟩) kl).trans h.st.c0, (World.cell?_of_block (a := ⟨xl.lb, 1, none⟩) kl).trans h.st.c1, fun s hs => (World.cell?_of_block (a := ⟨xl.ub, s, none⟩) ku).trans (h.st.us s hs),
    fun i => (World.frozen?_of_block (a := ⟨xl.ub, i, none⟩) ku).trans (h.st.fu i), h.st.b0, h.st.b1, h.st.n0, h.st.n1, h.st.n2⟩, k⟩
theorem cellO {w : World} {c i j : Nat} {v u : Value} (hn : j ≠ i) (h : w.cell? ⟨c, j, none⟩ = some u) : (w.setCell ⟨c, i, none⟩ v).cell? ⟨c, j, none⟩ = some u := (cell_other v (Or.inr hn)).trans h
theorem KS.phase (h : KS W w xl b al ph kept done) (p : Int) : KS W (w.setCell ⟨b.cb, 4, none⟩ (.int .i64 p)) xl b al p kept done := by
  obtain ⟨s, k⟩ := h.other 4 (.int .i64 p)
  refine ⟨s, cellO (by decide) h.c0, cellO (by decide) h.c1, cellO (by decide) h.c2, cellO (by decide) h.c3, cell_same _ h.c4, cellO (by decide) h.c5, cellO (by decide) h.c6, cellO (by decide) h.c7, fun i => by rw [World.frozen?_setCell]; exact h.fz i, (by obtain ⟨c, hc⟩ := h.mp; exact ⟨c, (k _ (Ne.symm h.nd.1)).trans hc⟩), (World.cell?_of_block (a := ⟨b.kb, 0, none⟩) (k _ (Ne.symm h.nd.2.1))).trans h.k0, (World.cell?_of_block (a := ⟨b.kb, 2, none⟩) (k _ (Ne.symm h.nd.2.1))).trans h.k2, (World.cell?_of_block (a := ⟨b.kb, 1, none⟩) (k _ (Ne.symm h.nd.2.1))).trans h.k1, h.que.kept (k _ (Ne.symm h.nd.2.2)) (fun d hd => by cases hd), fun d hd => by rw [World.size_setCell]; exact h.ap d hd, h.nd, h.nm⟩
theorem KS.keep6 (h : KS W w xl b al ph kept done) (p : Int) : KS W (w.setCell ⟨b.cb, 6, none⟩ (.int .i64 p)) xl b al ph p done := by
  obtain ⟨s, k⟩ := h.other 6 (.int .i64 p)
  refine ⟨s, cellO (by decide) h.c0, cellO (by decide) h.c1, cellO (by decide) h.c2, cellO (by decide) h.c3, cellO (by decide) h.c4, cellO (by decide) h.c5, cell_same _ h.c6, cellO (by decide) h.c7, fun i => by rw [World.frozen?_setCell]; exact h.fz i, (by obtain ⟨c, hc⟩ := h.mp; exact ⟨c, (k _ (Ne.symm h.nd.1)).trans hc⟩), (World.cell?_of_block (a := ⟨b.kb, 0, none⟩) (k _ (Ne.symm h.nd.2.1))).trans h.k0, (World.cell?_of_block (a := ⟨b.kb, 2, none⟩) (k _ (Ne.symm h.nd.2.1))).trans h.k2, (World.cell?_of_block (a := ⟨b.kb, 1, none⟩) (k _ (Ne.symm h.nd.2.1))).trans h.k1, h.que.kept (k _ (Ne.symm h.nd.2.2)) (fun d hd => by cases hd), fun d hd => by rw [World.size_setCell]; exact h.ap d hd, h.nd, h.nm⟩
theorem KS.done7 (h : KS W w xl b al ph kept done) (p : Int) : KS W (w.setCell ⟨b.cb, 7, none⟩ (.int .i64 p)) xl b al ph kept p := by
  obtain ⟨s, k⟩ := h.other 7 (.int .i64 p)
  refine ⟨s, cellO (by decide) h.c0, cellO (by decide) h.c1, cellO (by decide) h.c2, cellO (by decide) h.c3, cellO (by decide) h.c4, cellO (by decide) h.c5, cellO (by decide) h.c6, cell_same _ h.c7, fun i => by rw [World.frozen?_setCell]; exact h.fz i, (by obtain ⟨c, hc⟩ := h.mp; exact ⟨c, (k _ (Ne.symm h.nd.1)).trans hc⟩), (World.cell?_of_block (a := ⟨b.kb, 0, none⟩) (k _ (Ne.symm h.nd.2.1))).trans h.k0, (World.cell?_of_block (a := ⟨b.kb, 2, none⟩) (k _ (Ne.symm h.nd.2.1))).trans h.k2, (World.cell?_of_block (a := ⟨b.kb, 1, none⟩) (k _ (Ne.symm h.nd.2.1))).trans h.k1, h.que.kept (k _ (Ne.symm h.nd.2.2)) (fun d hd => by cases hd), fun d hd => by rw [World.size_setCell]; exact h.ap d hd, h.nd, h.nm⟩
theorem k_arena (h : Hid (KS W w xl b al ph kept done)) : Calls Tryz.prog 13 #[.pointer (some ⟨b.cb, 0, none⟩)] w fun e w' => e = .returned (.pointer (some ⟨xl.d.ab, 0, none⟩)) ∧ w' = w := by
  have c0 := (unhide h).c0
  go_enter Tryz.func13, Tryz.ntmps13
  go_wp2_with fail
  go_ret
  exact ⟨rfl, rfl⟩
theorem k_table (h : Hid (KS W w xl b al ph kept done)) : Calls Tryz.prog 23 #[.pointer (some ⟨b.cb, 0, none⟩)] w fun e w' => e = .returned (.pointer (some ⟨b.tb, 0, none⟩)) ∧ w' = w := by
  have c2 := (unhide h).c2
  go_enter Tryz.func23, Tryz.ntmps23
  go_wp2_with fail
  go_ret
  exact ⟨rfl, rfl⟩
theorem k_shades (h : Hid (KS W w xl b al ph kept done)) : Calls Tryz.prog 65 #[.pointer (some ⟨b.cb, 0, none⟩)] w fun e w' => e = .returned (.bool (ph == 1 || ph == 2)) ∧ w' = w := by
  have c4 := (unhide h).c4
  cases h1 : ph == 1
  · go_enter Tryz.func65, Tryz.ntmps65
    go_wp2_with fail
    go_ret
    exact ⟨by simp, rfl⟩
  · go_enter Tryz.func65, Tryz.ntmps65
    go_wp2_with fail
    go_ret
    exact ⟨by simp, rfl⟩
end
end Go.Proofs.YtgflkpccddfalaaGreatDoor
