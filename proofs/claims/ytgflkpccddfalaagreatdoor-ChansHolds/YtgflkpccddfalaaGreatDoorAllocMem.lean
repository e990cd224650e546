/- An Alloc of the program in memory; the arena's calls through it. -/
import Derived.Test.YtgflkpccddfalaaGreatDoorAllocPlain
namespace Go.Proofs.YtgflkpccddfalaaGreatDoor
set_option maxRecDepth 100000
open Go.RowKit Go.Maps Go.ChangeShapes Go.WideShapes Go.ChangeAt

/-- Where an Alloc lies: its block, its flags' block and room, its arena. -/
structure Ld where
  lb : Nat
  ub : Nat
  cu : Nat
  d : Ad

/-- All that a law knows of one allocator on its way: W is the law's first world. -/
structure StL (W w : World) (x : Ld) (l : Al) : Prop where
  st : St W w x.d l.a
  c0 : w.cell? ⟨x.lb, 0, none⟩ = some (.pointer (some ⟨x.d.ab, 0, none⟩))
  c1 : w.cell? ⟨x.lb, 1, none⟩ = some (.slice (some ⟨x.ub, 0, none⟩) l.a.n x.cu)
  us : ∀ s, s < l.a.n → w.cell? ⟨x.ub, s, none⟩ = some (.bool (l.u s))
  fu : ∀ i, w.frozen? ⟨x.ub, i, none⟩ = false
  b0 : W.heap.size ≤ x.lb
  b1 : W.heap.size ≤ x.ub
  n0 : x.lb ≠ x.ub
  n1 : x.lb ≠ x.d.wb ∧ x.lb ≠ x.d.sb
  n2 : x.ub ≠ x.d.ab ∧ x.ub ≠ x.d.wb ∧ x.ub ≠ x.d.sb

/-- w' is w but for what the arena's rows and the flags hold, and for new blocks. -/
structure TnL (w w' : World) (x : Ld) : Prop where
  os : w'.os = w.os
  tape : w'.tape = w.tape
  output : w'.output = w.output
  size : w.heap.size ≤ w'.heap.size
  block : ∀ k, k < w.heap.size → k ≠ x.d.wb → k ≠ x.d.sb → k ≠ x.ub → w'.heap[k]? = w.heap[k]?
theorem TnL.of_Tn {w w' : World} {x : Ld} (h : Tn w w' x.d) : TnL w w' x := ⟨h.os, h.tape, h.output, h.size, fun k hk h1 h2 _ => h.block k hk h1 h2⟩
theorem TnL.of_G {w w' : World} {x : Ld} (h : G w w') : TnL w w' x := TnL.of_Tn (Tn.of_G h)
theorem TnL.refl (w : World) (x : Ld) : TnL w w x := TnL.of_G (G.refl w)
theorem TnL.trans {w w1 w2 : World} {x : Ld} (h : TnL w w1 x) (k : TnL w1 w2 x) : TnL w w2 x :=
  ⟨k.os.trans h.os, k.tape.trans h.tape, k.output.trans h.output, Nat.le_trans h.size k.size, fun b hb h1 h2 h3 => (k.block b (Nat.lt_of_lt_of_le hb h.size) h1 h2 h3).trans (h.block b hb h1 h2 h3)⟩
theorem TnL.set {w w1 : World} {x : Ld} (h : TnL w w1 x) (i : Nat) (v : Value) : TnL w (w1.setCell ⟨x.ub, i, none⟩ v) x := by
  refine ⟨h.os, h.tape, h.output, by rw [World.size_setCell]; exact h.size, fun k hk h1 h2 h3 => ?_⟩
  rw [Below.heap_setCell _ _ _ _ (by show k ≠ x.ub; omega)]
  exact h.block k hk h1 h2 h3
theorem TnL.G {w w1 w2 : World} {x : Ld} (h : TnL w w1 x) (g : G w1 w2) : TnL w w2 x := h.trans (TnL.of_G g)

section
variable {W w w' : World} {x : Ld} {l : Al} {a' : Ab}
theorem StL.lt0 (h : StL W w x l) : x.lb < w.heap.size := World.block_lt_of_cell? w _ h.c0
theorem StL.lt1 (h : StL W w x l) : x.ub < w.heap.size := World.block_lt_of_cell? w _ (h.us 0 (by have := h.st.n8; omega))
theorem StL.below (h : StL W w x l) : Below W.heap.size W w := h.st.below
theorem StL.G (h : StL W w x l) (g : G w w') : StL W w' x l :=
  ⟨h.st.G g, g.cell h.c0, g.cell h.c1, fun s hs => g.cell (h.us s hs), fun i => (World.frozen?_of_block (a := ⟨x.ub, i, none⟩) (g.block _ h.lt1)).trans (h.fu i), h.b0, h.b1, h.n0, h.n1, h.n2⟩
theorem StL.turn (h : StL W w x l) (s : St W w' x.d a') (t : Tn w w' x.d) (hn : a'.n = l.a.n) : StL W w' x ⟨a', l.u⟩ := by
  have kl : w'.heap[x.lb]? = w.heap[x.lb]? := t.block _ h.lt0 h.n1.1 h.n1.2
  have ku : w'.heap[x.ub]? = w.heap[x.ub]? := t.block _ h.lt1 h.n2.2.1 h.n2.2.2
  exact ⟨s, (World.cell?_of_block (a := ⟨x.lb, 0, none⟩) kl).trans h.c0, by show _ = some (Value.slice _ a'.n _); rw [hn]; exact (World.cell?_of_block (a := ⟨x.lb, 1, none⟩) kl).trans h.c1, fun s hs => (World.cell?_of_block (a := ⟨x.ub, s, none⟩) ku).trans (h.us s (by rw [← hn]; exact hs)),
    fun i => (World.frozen?_of_block (a := ⟨x.ub, i, none⟩) ku).trans (h.fu i), h.b0, h.b1, h.n0, h.n1, h.n2⟩
theorem StL.setU (h : StL W w x l) {s : Nat} (hs : s < l.a.n) (b : Bool) : StL W (w.setCell ⟨x.ub, s, none⟩ (.bool b)) x ⟨l.a, upd l.u s b⟩ := by
  have k : ∀ b', b' ≠ x.ub → (w.setCell ⟨x.ub, s, none⟩ (.bool b)).heap[b']? = w.heap[b']? := fun b' hb => Below.heap_setCell _ _ _ _ (by show b' ≠ x.ub; omega)
  have kl := k x.lb h.n0
  refine ⟨⟨h.st.at_.kept (k _ (Ne.symm h.n2.1)) (k _ (Ne.symm h.n2.2.1)) (k _ (Ne.symm h.n2.2.2)), h.st.good, ?_, h.st.tab⟩, (World.cell?_of_block (a := ⟨x.lb, 0, none⟩) kl).trans h.c0, (World.cell?_of_block (a := ⟨x.lb, 1, none⟩) kl).trans h.c1, fun t ht => ?_, fun i => by rw [World.frozen?_setCell]; exact h.fu i, h.b0, h.b1, h.n0, h.n1, h.n2⟩
  · have hb := h.st.below
    refine ⟨hb.os, hb.tape, hb.output, by rw [World.size_setCell]; exact hb.size, fun k2 hk => ?_⟩
    rw [k k2 (by have := h.b1; omega)]
    exact hb.block k2 hk
  · show _ = some (Value.bool (upd l.u s b t))
    by_cases e : t = s
    · subst e; rw [cell_same _ (h.us t hs), upd_same]
    · rw [cell_other _ (by simp; omega), upd_other _ _ e]; exact h.us t ht
/-- The world behind a call is below what the law began with. -/
theorem StL.same (h : StL W w x l) {l2 : Al} (h1 : l2.a = l.a) (h2 : ∀ s, s < l.a.n → l2.u s = l.u s) : StL W w x l2 := by
  obtain ⟨a2, u2⟩ := l2
  simp only at h1 h2
  subst h1
  exact ⟨h.st, h.c0, h.c1, fun s hs => by show _ = some (Value.bool (u2 s)); rw [h2 s hs]; exact h.us s hs, h.fu, h.b0, h.b1, h.n0, h.n1, h.n2⟩

/-! ### the arena's calls -/
theorem ls_spans (h : Hid (StL W w x l)) : Calls Tryz.prog 60 #[.pointer (some ⟨x.d.ab, 0, none⟩)] w fun e w' => e = .returned (.int .i64 l.a.n) ∧ w' = w := st_spans (hide (unhide h).st)
theorem ls_cls (h : Hid (StL W w x l)) (s : Int) : Calls Tryz.prog 63 #[.pointer (some ⟨x.d.ab, 0, none⟩), .int .i64 s] w fun e w' => e = .returned (.int .i64 (l.a.clsI s)) ∧ StL W w' x l ∧ G w w' :=
  (st_cls (hide (unhide h).st) s).mono fun _ _ hh => ⟨hh.1, (unhide h).G hh.2.2, hh.2.2⟩
theorem ls_taken (h : Hid (StL W w x l)) (s : Int) : Calls Tryz.prog 14 #[.pointer (some ⟨x.d.ab, 0, none⟩), .int .i64 s] w fun e w' => e = .returned (.int .u64 (l.a.tkI s : Int)) ∧ StL W w' x l ∧ G w w' :=
  (st_taken (hide (unhide h).st) s).mono fun _ _ hh => ⟨hh.1, (unhide h).G hh.2.2, hh.2.2⟩
theorem ls_is (h : Hid (StL W w x l)) (s : Int) : Calls Tryz.prog 15 #[.pointer (some ⟨x.d.ab, 0, none⟩), .int .i64 s] w fun e w' => e = .returned (.bool (l.a.is s)) ∧ StL W w' x l ∧ G w w' :=
  (st_is (hide (unhide h).st) s).mono fun _ _ hh => ⟨hh.1, (unhide h).G hh.2.2, hh.2.2⟩
theorem ls_read (h : Hid (StL W w x l)) (s i : Int) : Calls Tryz.prog 51 #[.pointer (some ⟨x.d.ab, 0, none⟩), .int .i64 s, .int .i64 i] w fun e w' => e = .returned (.tuple #[.int .i64 (l.a.readV s i), .int .i64 (l.a.readE s i)]) ∧ StL W w' x l ∧ G w w' :=
  (st_read (hide (unhide h).st) s i).mono fun _ _ hh => ⟨hh.1, (unhide h).G hh.2.2, hh.2.2⟩
theorem Ab.markA_n (a : Ab) (s : Int) : (a.markA s).n = a.n := by unfold Ab.markA; split <;> rfl
theorem Ab.writeA_n (a : Ab) (s i v : Int) : (a.writeA s i v).n = a.n := by unfold Ab.writeA; split <;> rfl
theorem ls_write (h : Hid (StL W w x l)) (s i v : Int) : Calls Tryz.prog 26 #[.pointer (some ⟨x.d.ab, 0, none⟩), .int .i64 s, .int .i64 i, .int .i64 v] w fun e w' => e = .returned (.int .i64 (l.a.readE s i)) ∧ StL W w' x ⟨l.a.writeA s i v, l.u⟩ ∧ TnL w w' x :=
  (st_write (hide (unhide h).st) s i v).mono fun _ _ hh => ⟨hh.1, (unhide h).turn hh.2.1 hh.2.2 (Ab.writeA_n _ _ _ _), TnL.of_Tn hh.2.2⟩
theorem ls_mark (h : Hid (StL W w x l)) (s : Int) : Calls Tryz.prog 66 #[.pointer (some ⟨x.d.ab, 0, none⟩), .int .i64 s] w fun e w' => e = .returned (.bool (l.a.markB s)) ∧ StL W w' x ⟨l.a.markA s, l.u⟩ ∧ TnL w w' x :=
  (st_mark (hide (unhide h).st) s).mono fun _ _ hh => ⟨hh.1, (unhide h).turn hh.2.1 hh.2.2 (Ab.markA_n _ _), TnL.of_Tn hh.2.2⟩
theorem ls_set (h : Hid (StL W w x l)) (s c : Int) : Calls Tryz.prog 94 #[.pointer (some ⟨x.d.ab, 0, none⟩), .int .i64 s, .int .i64 c] w fun e w' => e = .returned (.int .i64 (l.a.setE s c)) ∧ StL W w' x ⟨l.a.setA s c, l.u⟩ ∧ TnL w w' x :=
  (st_set (hide (unhide h).st) s c).mono fun _ _ hh => ⟨hh.1, (unhide h).turn hh.2.1 hh.2.2 (Ab.setA_n _ _ _), TnL.of_Tn hh.2.2⟩
theorem ls_take (h : Hid (StL W w x l)) (s : Int) : Calls Tryz.prog 92 #[.pointer (some ⟨x.d.ab, 0, none⟩), .int .i64 s] w fun e w' => e = .returned (.tuple #[.int .i64 (l.a.takeV s), .int .i64 (l.a.takeE s)]) ∧ StL W w' x ⟨l.a.takeA s, l.u⟩ ∧ TnL w w' x :=
  (st_take (hide (unhide h).st) s).mono fun _ _ hh => ⟨hh.1, (unhide h).turn hh.2.1 hh.2.2 (Ab.takeA_n _ _), TnL.of_Tn hh.2.2⟩
theorem ls_asweep (h : Hid (StL W w x l)) (s : Int) : Calls Tryz.prog 100 #[.pointer (some ⟨x.d.ab, 0, none⟩), .int .i64 s] w fun e w' => e = .returned (.int .i64 (l.a.sweepN s : Int)) ∧ StL W w' x ⟨l.a.sweepA s, l.u⟩ ∧ TnL w w' x :=
  (st_sweep (hide (unhide h).st) s).mono fun _ _ hh => ⟨hh.1, (unhide h).turn hh.2.1 hh.2.2 (Ab.sweepA_n _ _), TnL.of_Tn hh.2.2⟩

/-! ### the small ones -/
set_option maxHeartbeats 400000 in
theorem l_classed (h : Hid (StL W w x l)) (s : Int) : Calls Tryz.prog 93 #[.pointer (some ⟨x.lb, 0, none⟩), .int .i64 s] w fun e w' => e = .returned (.bool (decide (0 ≤ l.a.clsI s))) ∧ StL W w' x l ∧ G w w' := by
  have c0 := (unhide h).c0
  go_enter Tryz.func93, Tryz.ntmps93
  go_wp2_with fail
  refine (ls_cls h s).mono ?_
  rintro e w1 ⟨rfl, S, g⟩
  replace g := hide g
  replace S := hide S
  generalize hc : l.a.clsI s = c
  go_wp2_with fail
  go_ret
  exact ⟨by simp [hc], unhide S, unhide g⟩

set_option maxHeartbeats 400000 in
theorem l_sweep_core (s n ub cu : Nat) (hn : Hid (l.a.n = n)) (hub : Hid (x.ub = ub)) (hcu : Hid (x.cu = cu)) (hs : s < n) (h : Hid (StL W w x l)) : Calls Tryz.prog 91 #[.pointer (some ⟨x.lb, 0, none⟩), .int .i64 (s : Int)] w fun e w' => e = .returned (.tuple #[]) ∧ StL W w' x (l.sweep s) ∧ TnL w w' x := by
  have c0 := (unhide h).c0
  go_enter Tryz.func91, Tryz.ntmps91
  go_wp2_with fail
  refine (ls_asweep h s).mono ?_
  rintro e w1 ⟨rfl, S, t⟩
  clear c0
  have hsn : s < (l.a.sweepA s).n := by rw [Ab.sweepA_n, unhide hn]; exact hs
  have c1 : w1.cell? ⟨x.lb, 1, none⟩ = some (.slice (some ⟨ub, 0, none⟩) n cu) := by
    have := S.c1
    simp only [Ab.sweepA_n, unhide hn, unhide hub, unhide hcu] at this
    exact this
  have u1 : w1.cell? ⟨ub, s, none⟩ = some (.bool (l.u s)) := by rw [← unhide hub]; exact S.us s hsn
  have f1 : w1.frozen? ⟨ub, s, none⟩ = false := by rw [← unhide hub]; exact S.fu s
  have S2 : Hid (StL W (w1.setCell ⟨ub, s, none⟩ (.bool false)) x (l.sweep s)) := hide (by rw [← unhide hub]; exact S.setU hsn false)
  have t2 : Hid (TnL w (w1.setCell ⟨ub, s, none⟩ (.bool false)) x) := hide (by rw [← unhide hub]; exact t.set s _)
  clear S t hsn h
  generalize l.u s = ub1 at u1
  go_wp2_with fail
  go_end0
  exact ⟨rfl, unhide S2, unhide t2⟩
theorem l_sweep (h : Hid (StL W w x l)) (s : Nat) (hs : s < l.a.n) : Calls Tryz.prog 91 #[.pointer (some ⟨x.lb, 0, none⟩), .int .i64 (s : Int)] w fun e w' => e = .returned (.tuple #[]) ∧ StL W w' x (l.sweep s) ∧ TnL w w' x :=
  l_sweep_core s l.a.n x.ub x.cu (hide rfl) (hide rfl) (hide rfl) hs h
end
end Go.Proofs.YtgflkpccddfalaaGreatDoor
