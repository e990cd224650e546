/- An Arena of the program in memory, and what a call may turn. -/
import Derived.Test.YtgflkpccddfalaaGreatDoorArenaPlain5
import Derived.Test.YtgflkpccddfalaaGreatDoorBitsOnes
import Derived.OwnWalk
import Derived.Maps.AppendAt
import Derived.Deep.Draws
import Derived.Deep.RegionLaw
import Derived.Deep.RegionWith
import Derived.RegionTactic
import Derived.ChangeAlike
import Derived.Below
import Derived.Carry
import Derived.OpenShut
import Derived.ProofKit
import Derived.Lib.SliceRun
namespace Go.Proofs.YtgflkpccddfalaaGreatDoor
set_option maxRecDepth 100000
open Go.RowKit Go.Maps Go.ChangeShapes Go.WideShapes Go.ChangeAt

/-- What is kept while memory is made. -/
abbrev G (w w' : World) : Prop := Below w.heap.size w w'
theorem G.refl (w : World) : G w w := Below.refl _ w
theorem G.drewN (w : World) (k : Nat) : G w (w.drewN k) := ⟨rfl, rfl, rfl, Nat.le_refl _, fun _ _ => rfl⟩
theorem G.alloc (w : World) (o : Obj) : G w (w.alloc o) := (Below.refl _ _).alloc (Nat.le_refl _) o
theorem G.trans {a b c : World} (h : G a b) (k : G b c) : G a c := Below.trans h (Below.mono k h.size)
theorem G.more {a b : World} (h : G a b) (o : Obj) : G a (b.alloc o) := Below.alloc h h.size o
theorem below_drewN {B : Nat} {a w : World} (h : Below B a w) (k : Nat) : Below B a (w.drewN k) := ⟨h.os, h.tape, h.output, h.size, h.block⟩
theorem G.drew {a b : World} (h : G a b) : G a b.drew := ⟨h.os, h.tape, h.output, h.size, h.block⟩
theorem G.cell {w w' : World} (g : G w w') {x : Addr} {v : Value} (h : w.cell? x = some v) : w'.cell? x = some v :=
  (World.cell?_of_block (g.block _ (World.block_lt_of_cell? w _ h))).trans h

/-- Where an Arena lies: its block, its words' block, its spans' block, their rooms. -/
structure Ad where
  ab : Nat
  wb : Nat
  sb : Nat
  cw : Nat
  cs : Nat
def Ad.ptr (d : Ad) : Value := .pointer (some ⟨d.ab, 0, none⟩)

/-- The Arena at d holds a; all of it from block B on. -/
structure AreAt (w : World) (B : Nat) (d : Ad) (a : Ab) : Prop where
  c0 : w.cell? ⟨d.ab, 0, none⟩ = some (.slice (some ⟨d.wb, 0, none⟩) (a.n * 64) d.cw)
  c1 : w.cell? ⟨d.ab, 1, none⟩ = some (.slice (some ⟨d.sb, 0, none⟩) a.n d.cs)
  wd : ∀ i : Nat, i < a.n * 64 → w.cell? ⟨d.wb, i, none⟩ = some (.int .i64 (a.wd i))
  s0 : ∀ s, s < a.n → w.cell? ⟨d.sb, s * 3, none⟩ = some (.int .i64 (a.cls s))
  s1 : ∀ s, s < a.n → w.cell? ⟨d.sb, s * 3 + 1, none⟩ = some (.int .u64 (a.tk s : Int))
  s2 : ∀ s, s < a.n → w.cell? ⟨d.sb, s * 3 + 2, none⟩ = some (.int .u64 (a.mr s : Int))
  fw : ∀ i, w.frozen? ⟨d.wb, i, none⟩ = false
  fs : ∀ i, w.frozen? ⟨d.sb, i, none⟩ = false
  b0 : B ≤ d.ab
  b1 : B ≤ d.wb
  b2 : B ≤ d.sb
  n01 : d.ab ≠ d.wb
  n02 : d.ab ≠ d.sb
  n12 : d.wb ≠ d.sb
  lw : a.n * 64 ≤ d.cw
  ls : a.n ≤ d.cs
  hcw : d.cw ≤ maxLen
  hcs : d.cs ≤ maxLen

theorem AreAt.lt0 {w : World} {B : Nat} {d : Ad} {a : Ab} (h : AreAt w B d a) : d.ab < w.heap.size := World.block_lt_of_cell? w _ h.c0
theorem AreAt.lt1 {w : World} {B : Nat} {d : Ad} {a : Ab} (h : AreAt w B d a) (hn : 8 ≤ a.n) : d.wb < w.heap.size := World.block_lt_of_cell? w _ (h.wd 0 (by omega))
theorem AreAt.lt2 {w : World} {B : Nat} {d : Ad} {a : Ab} (h : AreAt w B d a) (hn : 8 ≤ a.n) : d.sb < w.heap.size := World.block_lt_of_cell? w _ (h.s0 0 (by omega))

theorem AreAt.kept {w w' : World} {B : Nat} {d : Ad} {a : Ab} (h : AreAt w B d a) (h0 : w'.heap[d.ab]? = w.heap[d.ab]?) (h1 : w'.heap[d.wb]? = w.heap[d.wb]?) (h2 : w'.heap[d.sb]? = w.heap[d.sb]?) : AreAt w' B d a :=
  ⟨(World.cell?_of_block h0).trans h.c0, (World.cell?_of_block h0).trans h.c1, fun i hi => (World.cell?_of_block h1).trans (h.wd i hi), fun s hs => (World.cell?_of_block h2).trans (h.s0 s hs),
   fun s hs => (World.cell?_of_block h2).trans (h.s1 s hs), fun s hs => (World.cell?_of_block h2).trans (h.s2 s hs), fun i => (World.frozen?_of_block h1).trans (h.fw i), fun i => (World.frozen?_of_block h2).trans (h.fs i),
   h.b0, h.b1, h.b2, h.n01, h.n02, h.n12, h.lw, h.ls, h.hcw, h.hcs⟩
theorem AreAt.grown {w w' : World} {B : Nat} {d : Ad} {a : Ab} (h : AreAt w B d a) (hn : 8 ≤ a.n) (g : G w w') : AreAt w' B d a :=
  h.kept (g.block _ h.lt0) (g.block _ (h.lt1 hn)) (g.block _ (h.lt2 hn))

/-- w' is w but for what the arena's rows hold, and for new blocks. -/
structure Tn (w w' : World) (d : Ad) : Prop where
  os : w'.os = w.os
  tape : w'.tape = w.tape
  output : w'.output = w.output
  size : w.heap.size ≤ w'.heap.size
  block : ∀ k, k < w.heap.size → k ≠ d.wb → k ≠ d.sb → w'.heap[k]? = w.heap[k]?
theorem Tn.of_G {w w' : World} {d : Ad} (h : G w w') : Tn w w' d := ⟨h.os, h.tape, h.output, h.size, fun k hk _ _ => h.block k hk⟩
theorem Tn.trans {w w1 w2 : World} {d : Ad} (h : Tn w w1 d) (k : Tn w1 w2 d) : Tn w w2 d :=
  ⟨k.os.trans h.os, k.tape.trans h.tape, k.output.trans h.output, Nat.le_trans h.size k.size, fun b hb h1 h2 => (k.block b (Nat.lt_of_lt_of_le hb h.size) h1 h2).trans (h.block b hb h1 h2)⟩
theorem Tn.below {w w' : World} {d : Ad} {B : Nat} (h : Tn w w' d) (hB : B ≤ w.heap.size) (h1 : B ≤ d.wb) (h2 : B ≤ d.sb) : Below B w w' :=
  ⟨h.os, h.tape, h.output, h.size, fun k hk => h.block k (by omega) (by omega) (by omega)⟩
theorem Tn.set {w w1 : World} {d : Ad} (h : Tn w w1 d) (x : Addr) (v : Value) (hx : x.block = d.wb ∨ x.block = d.sb) : Tn w (w1.setCell x v) d := by
  refine ⟨h.os, h.tape, h.output, by rw [World.size_setCell]; exact h.size, fun k hk h1 h2 => ?_⟩
  rw [Below.heap_setCell _ _ _ _ (by rcases hx with e | e <;> omega)]
  exact h.block k hk h1 h2
theorem Tn.draws {w w1 : World} {d : Ad} (h : Tn w w1 d) (k : Nat) : Tn w (w1.drewN k) d := ⟨h.os, h.tape, h.output, h.size, h.block⟩
theorem Tn.drew {w w1 : World} {d : Ad} (h : Tn w w1 d) : Tn w w1.drew d := ⟨h.os, h.tape, h.output, h.size, h.block⟩
theorem Tn.alloc {w w1 : World} {d : Ad} (h : Tn w w1 d) (o : Obj) : Tn w (w1.alloc o) d := h.trans (Tn.of_G (G.alloc w1 o))

theorem Tn.G {w w1 w2 : World} {d : Ad} (h : Tn w w1 d) (g : G w1 w2) : Tn w w2 d := h.trans (Tn.of_G g)

theorem Tab.later {w w' : World} (h : Tab w) (hb : Below w.heap.size w w') : Tab w' := fun k hk => cell_later hb (h k hk)
theorem Tab.pos {w : World} (h : Tab w) : 0 < w.heap.size := World.block_lt_of_cell? w _ (h 0 (by decide))

/-- All that a law knows of one arena on its way: W is the law's first world. -/
structure St (W w : World) (d : Ad) (a : Ab) : Prop where
  at_ : AreAt w W.heap.size d a
  good : a.Good
  below : Below W.heap.size W w
  tab : Tab W

theorem St.tabw {W w : World} {d : Ad} {a : Ab} (h : St W w d a) : Tab w := h.tab.later h.below
theorem St.n8 {W w : World} {d : Ad} {a : Ab} (h : St W w d a) : 8 ≤ a.n := h.good.ok.n0
theorem St.n512 {W w : World} {d : Ad} {a : Ab} (h : St W w d a) : a.n ≤ 512 := h.good.ok.n1
theorem St.G {W w w' : World} {d : Ad} {a : Ab} (h : St W w d a) (g : G w w') : St W w' d a :=
  ⟨h.at_.grown h.n8 g, h.good, h.below.trans (g.mono h.below.size), h.tab⟩
theorem St.turn {W w w' : World} {d : Ad} {a a' : Ab} (h : St W w d a) (k : AreAt w' W.heap.size d a') (g : a'.Good) (t : Tn w w' d) : St W w' d a' :=
  ⟨k, g, h.below.trans (t.below h.below.size h.at_.b1 h.at_.b2), h.tab⟩
end Go.Proofs.YtgflkpccddfalaaGreatDoor
