/- A Queue of package grey in memory, and what a call may turn. -/
import Derived.Test.YtgflkpccddfalaaGreatDoorRows
import Derived.WalkKit
import Derived.WalkSpells
import Derived.WalkLawsBesides
import Derived.Deep.QuietTactic
import Derived.BigQuiet
import Derived.Handy
import Derived.OwnWalk
import Derived.Maps.AppendAt
import Derived.Deep.AppendSrc
import Derived.Deep.DeepAppendRoom
import Derived.Deep.Draws
import Derived.Deep.RegionLaw
import Derived.Deep.RegionWith
import Derived.RegionTactic
import Derived.ChangeAlike
import Derived.Below
import Derived.Carry
import Derived.OpenShut
import Derived.ProofKit
import Derived.Lib.SliceRun
import Derived.Deep.Strs
namespace Go.Proofs.YtgflkpccddfalaaGreatDoor.Gy
set_option maxRecDepth 100000
open Go.RowKit Go.Maps Go.ChangeShapes Go.WideShapes Go.ChangeAt

theorem hide {p : Prop} (h : p) : Hid p := h
theorem unhide {p : Prop} (h : Hid p) : p := h.out

theorem laidOut : laidOutB Tryz.prog = true := by kernel_rfl
theorem own : ownKnob Tryz.prog.godebug = none := by kernel_rfl
theorem ret_int {k : IntKind} {a b : Int} (h : a = b) : Ending.returned (.int k a) = .returned (.int k b) := by rw [h]

/-- What is kept while memory is made. -/
abbrev G (w w' : World) : Prop := Below w.heap.size w w'
theorem G.refl (w : World) : G w w := Below.refl _ w
theorem G.drewN (w : World) (k : Nat) : G w (w.drewN k) := ⟨rfl, rfl, rfl, Nat.le_refl _, fun _ _ => rfl⟩
theorem G.alloc (w : World) (o : Obj) : G w (w.alloc o) := (Below.refl _ _).alloc (Nat.le_refl _) o
theorem G.trans {a b c : World} (h : G a b) (k : G b c) : G a c := Below.trans h (Below.mono k h.size)
theorem G.more {a b : World} (h : G a b) (o : Obj) : G a (b.alloc o) := Below.alloc h h.size o
theorem G.drew {a b : World} (h : G a b) : G a b.drew := ⟨h.os, h.tape, h.output, h.size, h.block⟩
theorem G.cell {w w' : World} (g : G w w') {x : Addr} {v : Value} (h : w.cell? x = some v) : w'.cell? x = some v :=
  (World.cell?_of_block (g.block _ (World.block_lt_of_cell? w _ h))).trans h
theorem cell_other {w : World} {b i b' i' : Nat} (v : Value) (h : b' ≠ b ∨ i' ≠ i) : (w.setCell ⟨b, i, none⟩ v).cell? ⟨b', i', none⟩ = w.cell? ⟨b', i', none⟩ :=
  World.cell?_setCell_other _ _ _ _ (fun e => by injection e with e1 e2; omega)
theorem cell_same {w : World} {b i : Nat} (v : Value) {u : Value} (h : w.cell? ⟨b, i, none⟩ = some u) : (w.setCell ⟨b, i, none⟩ v).cell? ⟨b, i, none⟩ = some v := World.cell?_setCell_same _ _ _ h

/-- A block's address. -/
abbrev bp (b : Nat) : Addr := ⟨b, 0, none⟩

/-- A block of the chain: sixteen numbers, and the next one. -/
structure BlkAt (w : World) (b : Nat) (c : Nat → Int) (nx : Option Nat) : Prop where
  a : ∀ i, i < 16 → w.cell? ⟨b, i, none⟩ = some (.int .i64 (c i))
  nx : w.cell? ⟨b, 16, none⟩ = some (.pointer (nx.map bp))
  fz : ∀ i, w.frozen? ⟨b, i, none⟩ = false
theorem BlkAt.lt {w : World} {b : Nat} {c : Nat → Int} {nx : Option Nat} (h : BlkAt w b c nx) : b < w.heap.size := World.block_lt_of_cell? w _ h.nx
theorem BlkAt.kept {w w' : World} {b : Nat} {c : Nat → Int} {nx : Option Nat} (h : BlkAt w b c nx) (e : w'.heap[b]? = w.heap[b]?) : BlkAt w' b c nx :=
  ⟨fun i hi => (World.cell?_of_block e).trans (h.a i hi), (World.cell?_of_block e).trans h.nx, fun i => (World.frozen?_of_block e).trans (h.fz i)⟩
theorem BlkAt.cong {w : World} {b : Nat} {c c' : Nat → Int} {nx : Option Nat} (h : BlkAt w b c nx) (e : ∀ i, i < 16 → c' i = c i) : BlkAt w b c' nx :=
  ⟨fun i hi => by rw [e i hi]; exact h.a i hi, h.nx, h.fz⟩
theorem BlkAt.set {w : World} {b : Nat} {c : Nat → Int} {nx : Option Nat} (h : BlkAt w b c nx) (i : Nat) (hi : i < 16) (x : Int) : BlkAt (w.setCell ⟨b, i, none⟩ (.int .i64 x)) b (fun j => if j = i then x else c j) nx := by
  refine ⟨fun j hj => ?_, ?_, fun j => by rw [World.frozen?_setCell]; exact h.fz j⟩
  · by_cases e : j = i
    · subst e; simp only [if_pos]; exact cell_same _ (h.a j hj)
    · simp only [if_neg e]; rw [cell_other _ (Or.inr e)]; exact h.a j hj
  · rw [cell_other _ (Or.inr (by omega))]; exact h.nx
theorem BlkAt.link {w : World} {b : Nat} {c : Nat → Int} {nx : Option Nat} (h : BlkAt w b c nx) (n : Nat) : BlkAt (w.setCell ⟨b, 16, none⟩ (.pointer (some ⟨n, 0, none⟩))) b c (some n) := by
  refine ⟨fun j hj => ?_, cell_same _ h.nx, fun j => by rw [World.frozen?_setCell]; exact h.fz j⟩
  rw [cell_other _ (Or.inr (by omega))]; exact h.a j hj
theorem heap_set {w : World} {b : Nat} (x : Addr) (v : Value) (h : b ≠ x.block) : (w.setCell x v).heap[b]? = w.heap[b]? := Below.heap_setCell _ _ _ _ h

/-- The Queue at block q: where the first one stands (f), how many (n), its blocks (bs), what they hold (c). -/
structure QAt (w : World) (q f n : Nat) (bs : List Nat) (c : Nat → Int) : Prop where
  c0 : w.cell? ⟨q, 0, none⟩ = some (.pointer (bs.head?.map bp))
  c1 : w.cell? ⟨q, 1, none⟩ = some (.pointer (bs.getLast?.map bp))
  c2 : w.cell? ⟨q, 2, none⟩ = some (.int .i64 f)
  c3 : w.cell? ⟨q, 3, none⟩ = some (.int .i64 n)
  fq : ∀ i, w.frozen? ⟨q, i, none⟩ = false
  bk : ∀ k b, bs[k]? = some b → BlkAt w b (fun i => c (k * 16 + i)) bs[k + 1]?
  nd : bs.Nodup
  qn : q ∉ bs
  f16 : f < 16
  le : f + n ≤ bs.length * 16
  ge : bs.length * 16 < f + n + 16
  e0 : n = 0 → f = 0

theorem QAt.lt {w : World} {q f n : Nat} {bs : List Nat} {c : Nat → Int} (h : QAt w q f n bs c) : q < w.heap.size := World.block_lt_of_cell? w _ h.c0
theorem QAt.ltb {w : World} {q f n : Nat} {bs : List Nat} {c : Nat → Int} (h : QAt w q f n bs c) : ∀ b ∈ bs, b < w.heap.size := by
  intro b hb
  obtain ⟨k, hk⟩ := List.mem_iff_getElem?.1 hb
  exact (h.bk k b hk).lt
theorem QAt.kept {w w' : World} {q f n : Nat} {bs : List Nat} {c : Nat → Int} (h : QAt w q f n bs c) (e : w'.heap[q]? = w.heap[q]?) (eb : ∀ b ∈ bs, w'.heap[b]? = w.heap[b]?) : QAt w' q f n bs c :=
  ⟨(World.cell?_of_block e).trans h.c0, (World.cell?_of_block e).trans h.c1, (World.cell?_of_block e).trans h.c2, (World.cell?_of_block e).trans h.c3, fun i => (World.frozen?_of_block e).trans (h.fq i),
   fun k b hk => (h.bk k b hk).kept (eb b (List.mem_of_getElem? hk)), h.nd, h.qn, h.f16, h.le, h.ge, h.e0⟩
theorem QAt.grown {w w' : World} {q f n : Nat} {bs : List Nat} {c : Nat → Int} (h : QAt w q f n bs c) (g : G w w') : QAt w' q f n bs c :=
  h.kept (g.block _ h.lt) (fun b hb => g.block _ (h.ltb b hb))

/-- w' is w but for what the queue's blocks hold, and for new blocks. -/
structure Tq (w w' : World) (q : Nat) (bs : List Nat) : Prop where
  os : w'.os = w.os
  tape : w'.tape = w.tape
  output : w'.output = w.output
  size : w.heap.size ≤ w'.heap.size
  block : ∀ k, k < w.heap.size → k ≠ q → k ∉ bs → w'.heap[k]? = w.heap[k]?
theorem Tq.of_G {w w' : World} {q : Nat} {bs : List Nat} (h : G w w') : Tq w w' q bs := ⟨h.os, h.tape, h.output, h.size, fun k hk _ _ => h.block k hk⟩
theorem Tq.g {w w1 w2 : World} {q : Nat} {bs : List Nat} (h : Tq w w1 q bs) (g : G w1 w2) : Tq w w2 q bs :=
  ⟨g.os.trans h.os, g.tape.trans h.tape, g.output.trans h.output, Nat.le_trans h.size g.size, fun k hk h1 h2 => (g.block k (Nat.lt_of_lt_of_le hk h.size)).trans (h.block k hk h1 h2)⟩
theorem Tq.set {w w1 : World} {q : Nat} {bs : List Nat} (h : Tq w w1 q bs) (x : Addr) (v : Value) (hx : x.block = q ∨ x.block ∈ bs ∨ w.heap.size ≤ x.block) : Tq w (w1.setCell x v) q bs := by
  refine ⟨h.os, h.tape, h.output, by rw [World.size_setCell]; exact h.size, fun k hk h1 h2 => ?_⟩
  have hne : k ≠ x.block := by
    rcases hx with e | e | e
    · omega
    · exact fun y => h2 (y ▸ e)
    · omega
  rw [heap_set _ _ hne]
  exact h.block k hk h1 h2
theorem Tq.below {w w' : World} {q B : Nat} {bs : List Nat} (h : Tq w w' q bs) (hB : B ≤ w.heap.size) (h1 : B ≤ q) (h2 : ∀ b ∈ bs, B ≤ b) : Below B w w' :=
  ⟨h.os, h.tape, h.output, h.size, fun k hk => h.block k (by omega) (by omega) (fun hb => by have := h2 k hb; omega)⟩
end Go.Proofs.YtgflkpccddfalaaGreatDoor.Gy
