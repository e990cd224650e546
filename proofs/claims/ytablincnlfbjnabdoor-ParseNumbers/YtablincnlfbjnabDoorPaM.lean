/- The program's parser in memory: the words, the reader; what reads one word. -/
import Derived.Test.YtablincnlfbjnabDoorPaG
import Derived.Test.YtablincnlfbjnabDoorLexRow
import Derived.Deep.RegionHeld3
import Derived.Laws.OwnMore
import Derived.Deep.RegionWith
import Derived.Lib.Fields
namespace Go.Proofs.YtablincnlfbjnabDoor
set_option maxRecDepth 100000
open Go.RowKit Go.Maps Go.ChangeShapes Go.WideShapes Go.ChangeAt Go.Deep

theorem G.alloc (w : World) (o : Obj) : G w (w.alloc o) := (Below.refl _ _).alloc (Nat.le_refl _) o
theorem G.more {a b : World} (h : G a b) (o : Obj) : G a (b.alloc o) := Below.alloc h h.size o
theorem G.drew {a b : World} (h : G a b) : G a b.drew := ⟨h.os, h.tape, h.output, h.size, h.block⟩
theorem G.cell {w w' : World} (g : G w w') {x : Addr} {v : Value} (h : w.cell? x = some v) : w'.cell? x = some v :=
  (World.cell?_of_block (g.block _ (World.block_lt_of_cell? w _ h))).trans h
theorem G.set {w W : World} (h : G w W) (b i : Nat) (v : Value) (hb : w.heap.size ≤ b) : G w (W.setCell ⟨b, i, none⟩ v) :=
  ⟨h.os, h.tape, h.output, by rw [World.size_setCell]; exact h.size, fun k hk => (Below.heap_setCell _ _ _ _ (by show k ≠ b; omega)).trans (h.block k hk)⟩
/-- All as it was but the blocks of which S holds. -/
structure Gs (S : Nat → Prop) (w w' : World) : Prop where
  os : w'.os = w.os
  tape : w'.tape = w.tape
  output : w'.output = w.output
  size : w.heap.size ≤ w'.heap.size
  block : ∀ b, b < w.heap.size → ¬ S b → w'.heap[b]? = w.heap[b]?
theorem Gs.refl (S : Nat → Prop) (w : World) : Gs S w w := ⟨rfl, rfl, rfl, Nat.le_refl _, fun _ _ _ => rfl⟩
theorem Gs.trans {S : Nat → Prop} {a b c : World} (h : Gs S a b) (k : Gs S b c) : Gs S a c :=
  ⟨k.os.trans h.os, k.tape.trans h.tape, k.output.trans h.output, Nat.le_trans h.size k.size, fun q hq hn => (k.block q (Nat.lt_of_lt_of_le hq h.size) hn).trans (h.block q hq hn)⟩
theorem Gs.mono {S S' : Nat → Prop} {a b : World} (h : Gs S a b) (i : ∀ q, q < a.heap.size → S q → S' q) : Gs S' a b :=
  ⟨h.os, h.tape, h.output, h.size, fun q hq hn => h.block q hq (fun s => hn (i q hq s))⟩
theorem Gs.cell {S : Nat → Prop} {w w' : World} (h : Gs S w w') {b i : Nat} {v : Value} (hn : ¬ S b) (hc : w.cell? ⟨b, i, none⟩ = some v) : w'.cell? ⟨b, i, none⟩ = some v :=
  (World.cell?_of_block (a := ⟨b, i, none⟩) (h.block b (World.block_lt_of_cell? w _ hc) hn)).trans hc
theorem gs_of_g (S : Nat → Prop) {w w' : World} (g : G w w') : Gs S w w' := ⟨g.os, g.tape, g.output, g.size, fun b hb _ => g.block b hb⟩
/-- But for the reader's block. -/
abbrev Gt (rb : Nat) (w w' : World) : Prop := Gs (fun b => b = rb) w w'
theorem G.gt {rb : Nat} {w w' : World} (g : G w w') : Gt rb w w' := gs_of_g _ g
theorem gt_set (rb j : Nat) (v : Value) (w : World) : Gt rb w (w.setCell ⟨rb, j, none⟩ v) :=
  ⟨rfl, rfl, rfl, by rw [World.size_setCell]; exact Nat.le_refl _, fun k _ hn => Below.heap_setCell _ _ _ _ (by show k ≠ rb; exact hn)⟩
/-- The words lie there; the last one is the end. -/
structure Wds (rb wb wc : Nat) (ws : List Wd) (y : World) : Prop where
  ne : wb ≠ rb
  lt : wb < y.heap.size
  len : ws.length ≤ 20000
  cap : ws.length ≤ wc
  c : ∀ i wd, ws[i]? = some wd → y.cell? ⟨wb, i * 3, none⟩ = some (.int .i64 (wd.k : Int)) ∧ y.cell? ⟨wb, i * 3 + 1, none⟩ = some (.string ⟨wd.x.toArray⟩) ∧ y.cell? ⟨wb, i * 3 + 2, none⟩ = some (.int .i64 (wd.o : Int))
  good : ∀ i wd, i + 1 < ws.length → ws[i]? = some wd → wd.x ≠ [] ∧ wd.k ≠ 0
  last : ∃ o, ws[ws.length - 1]? = some ⟨0, [], o⟩
  sp : ∀ c : Nat, c < 256 → y.cell? ⟨0, c, none⟩ = some (.int .u8 (if Lib.isSp (UInt8.ofNat c) then 1 else 0))
  gl : 0 < rb
theorem Wds.gt {rb wb wc : Nat} {ws : List Wd} {y z : World} (h : Wds rb wb wc ws y) (g : Gt rb y z) : Wds rb wb wc ws z :=
  ⟨h.ne, Nat.lt_of_lt_of_le h.lt g.size, h.len, h.cap, fun i wd hi => by obtain ⟨h1, h2, h3⟩ := h.c i wd hi; exact ⟨g.cell h.ne h1, g.cell h.ne h2, g.cell h.ne h3⟩, h.good, h.last, fun c hc => g.cell (by have := h.gl; show ¬ 0 = rb; omega) (h.sp c hc), h.gl⟩
/-- The reader's own block. -/
def RBk (rb wb wc : Nat) (ws : List Wd) (s : PS) (y : World) : Prop := y.heap[rb]? = some (.cells #[.slice (some ⟨wb, s.k * 3, none⟩) (ws.length - s.k) (wc - s.k), .int .i64 s.d, .int .i64 s.a, .int .i64 s.e] 38 (0, 0))
theorem RBk.lt {rb wb wc : Nat} {ws : List Wd} {s : PS} {y : World} (h : RBk rb wb wc ws s y) : rb < y.heap.size := by
  rcases Nat.lt_or_ge rb y.heap.size with h' | h'
  · exact h'
  · unfold RBk at h; rw [Array.getElem?_eq_none h'] at h; cases h
theorem RBk.g {rb wb wc : Nat} {ws : List Wd} {s : PS} {y z : World} (h : RBk rb wb wc ws s y) (g : G y z) : RBk rb wb wc ws s z := (g.block rb h.lt).trans h
theorem RBk.c {rb wb wc : Nat} {ws : List Wd} {s : PS} {y : World} (h : RBk rb wb wc ws s y) : y.cell? ⟨rb, 0, none⟩ = some (.slice (some ⟨wb, s.k * 3, none⟩) (ws.length - s.k) (wc - s.k)) ∧ y.cell? ⟨rb, 1, none⟩ = some (.int .i64 s.d) ∧ y.cell? ⟨rb, 2, none⟩ = some (.int .i64 s.a) ∧ y.cell? ⟨rb, 3, none⟩ = some (.int .i64 s.e) :=
  ⟨by rw [Lib.cell_of_heap h]; rfl, by rw [Lib.cell_of_heap h]; rfl, by rw [Lib.cell_of_heap h]; rfl, by rw [Lib.cell_of_heap h]; rfl⟩
theorem RBk.f {rb wb wc : Nat} {ws : List Wd} {s : PS} {y : World} (h : RBk rb wb wc ws s y) (j : Nat) : y.frozen? ⟨rb, j, none⟩ = false := Lib.frozen_of_heap h j
section
variable {rb wb wc : Nat} {ws : List Wd} {k : Nat} {d a e : Int} {y : World}
theorem RBk.setK (h : RBk rb wb wc ws ⟨k, d, a, e⟩ y) (k' : Nat) : RBk rb wb wc ws ⟨k', d, a, e⟩ (y.setCell ⟨rb, 0, none⟩ (.slice (some ⟨wb, k' * 3, none⟩) (ws.length - k') (wc - k'))) := by
  unfold RBk at h ⊢
  simp [World.setCell, Array.getElem?_modify, h]
theorem RBk.setD (h : RBk rb wb wc ws ⟨k, d, a, e⟩ y) (d' : Int) : RBk rb wb wc ws ⟨k, d', a, e⟩ (y.setCell ⟨rb, 1, none⟩ (.int .i64 d')) := by
  unfold RBk at h ⊢
  simp [World.setCell, Array.getElem?_modify, h]
theorem RBk.setA (h : RBk rb wb wc ws ⟨k, d, a, e⟩ y) (a' : Int) : RBk rb wb wc ws ⟨k, d, a', e⟩ (y.setCell ⟨rb, 2, none⟩ (.int .i64 a')) := by
  unfold RBk at h ⊢
  simp [World.setCell, Array.getElem?_modify, h]
theorem RBk.setE (h : RBk rb wb wc ws ⟨k, d, a, e⟩ y) (e' : Int) : RBk rb wb wc ws ⟨k, d, a, e'⟩ (y.setCell ⟨rb, 3, none⟩ (.int .i64 e')) := by
  unfold RBk at h ⊢
  simp [World.setCell, Array.getElem?_modify, h]
end
/-- The reader stands so. -/
structure RSt (rb wb wc : Nat) (ws : List Wd) (s : PS) (y : World) : Prop where
  w : Wds rb wb wc ws y
  k : s.k < ws.length
  b : RBk rb wb wc ws s y
theorem RSt.g {rb wb wc : Nat} {ws : List Wd} {s : PS} {y z : World} (h : RSt rb wb wc ws s y) (g : G y z) : RSt rb wb wc ws s z := ⟨h.w.gt g.gt, h.k, h.b.g g⟩
theorem wdAt_some {ws : List Wd} {s : PS} (h : s.k < ws.length) : ws[s.k]? = some (wdAt ws s) := by
  unfold wdAt
  rw [List.getD_eq_getElem?_getD, List.getElem?_eq_getElem h]
  rfl
theorem RSt.wd {rb wb wc : Nat} {ws : List Wd} {s : PS} {y : World} (h : RSt rb wb wc ws s y) : y.cell? ⟨wb, s.k * 3, none⟩ = some (.int .i64 ((wdAt ws s).k : Int)) ∧ y.cell? ⟨wb, s.k * 3 + 1, none⟩ = some (.string ⟨(wdAt ws s).x.toArray⟩) ∧ y.cell? ⟨wb, s.k * 3 + 2, none⟩ = some (.int .i64 ((wdAt ws s).o : Int)) := h.w.c _ _ (wdAt_some h.k)
/-- A word that has bytes, or is of a kind, is not the last. -/
theorem RSt.more {rb wb wc : Nat} {ws : List Wd} {s : PS} {y : World} (h : RSt rb wb wc ws s y) (hx : (wdAt ws s).x ≠ [] ∨ (wdAt ws s).k ≠ 0) : s.k + 1 < ws.length := by
  obtain ⟨o, hl⟩ := h.w.last
  have hk := h.k
  by_cases e : s.k + 1 < ws.length
  · exact e
  · have : ws.length - 1 = s.k := by omega
    rw [this, wdAt_some hk] at hl
    cases hl' : wdAt ws s
    rw [hl'] at hl hx
    cases hl
    rcases hx with hx | hx <;> exact absurd rfl hx
set_option maxHeartbeats 2000000 in
theorem word_any {rb wb wc : Nat} {ws : List Wd} {s : PS} {y : World} (h : RSt rb wb wc ws s y) : Calls Tryd.prog 14 #[.pointer (some ⟨rb, 0, none⟩)] y fun e w' => e = .returned (.agg #[.int .i64 ((wdAt ws s).k : Int), .string ⟨(wdAt ws s).x.toArray⟩, .int .i64 ((wdAt ws s).o : Int)]) ∧ G y w' := by
  obtain ⟨q0, q1, q2⟩ := h.wd
  obtain ⟨c0, -, -, -⟩ := h.b.c
  have hk := h.k
  have ga := G.alloc y (.cells #[.int .i64 0, .string ⟨#[]⟩, .int .i64 0] 45)
  have a0 := ga.cell c0
  have b0 := ga.cell q0
  have b1 := ga.cell q1
  have b2 := ga.cell q2
  obtain ⟨N, hN⟩ : ∃ N, N = ws.length - s.k := ⟨_, rfl⟩
  have hlt : (0 : Int) < (N : Int) := by omega
  rw [← hN] at c0 a0
  clear h ga hk hN
  generalize (wdAt ws s).k = wk at *
  generalize (wdAt ws s).o = wo at *
  generalize (wdAt ws s).x = wx at *
  generalize wc - s.k = C at *
  generalize s.k * 3 = K at *
  go_enter Tryd.func14, Tryd.ntmps14
  go_wp2_with fail
  refine bodyPost_ret (by simp [results, Tryd.results14, go_sem]; try rfl) rfl ?_
  exact ⟨rfl, G.alloc _ _⟩
end Go.Proofs.YtablincnlfbjnabDoor
