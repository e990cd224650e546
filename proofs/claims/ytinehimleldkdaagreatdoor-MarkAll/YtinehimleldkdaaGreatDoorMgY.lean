/- Here: the queue of package grey, rows of numbers. -/
import Derived.Test.YtinehimleldkdaaGreatDoorRows
import Derived.WalkKit
import Derived.WalkSpells
import Derived.WalkLawsBesides
import Derived.Deep.QuietTactic
import Derived.BigQuiet
import Derived.Handy
import Derived.OwnWalk
import Derived.Maps.AppendAt
import Derived.Deep.AppendSrc
import Derived.Deep.DeepAppendRoom
import Derived.Deep.Draws
import Derived.Deep.RegionLaw
import Derived.Deep.RegionWith
import Derived.RegionTactic
import Derived.ChangeAlike
import Derived.Below
import Derived.Carry
import Derived.OpenShut
import Derived.ProofKit
import Derived.Lib.SliceRun
import Derived.Deep.Strs
/- A Queue of package grey in memory, and what a call may turn. -/
namespace Go.Proofs.YtinehimleldkdaaGreatDoor.Gy
set_option maxRecDepth 100000
open Go.RowKit Go.Maps Go.ChangeShapes Go.WideShapes Go.ChangeAt

theorem hide {p : Prop} (h : p) : Hid p := h
theorem unhide {p : Prop} (h : Hid p) : p := h.out

theorem laidOut : laidOutB Tryz.prog = true := by kernel_rfl
theorem own : ownKnob Tryz.prog.godebug = none := by kernel_rfl
theorem ret_int {k : IntKind} {a b : Int} (h : a = b) : Ending.returned (.int k a) = .returned (.int k b) := by rw [h]

/-- What is kept while memory is made. -/
abbrev G (w w' : World) : Prop := Below w.heap.size w w'
theorem G.refl (w : World) : G w w := Below.refl _ w
theorem G.drewN (w : World) (k : Nat) : G w (w.drewN k) := ⟨rfl, rfl, rfl, Nat.le_refl _, fun _ _ => rfl⟩
theorem G.alloc (w : World) (o : Obj) : G w (w.alloc o) := (Below.refl _ _).alloc (Nat.le_refl _) o
theorem G.trans {a b c : World} (h : G a b) (k : G b c) : G a c := Below.trans h (Below.mono k h.size)
theorem G.more {a b : World} (h : G a b) (o : Obj) : G a (b.alloc o) := Below.alloc h h.size o
theorem G.drew {a b : World} (h : G a b) : G a b.drew := ⟨h.os, h.tape, h.output, h.size, h.block⟩
theorem G.cell {w w' : World} (g : G w w') {x : Addr} {v : Value} (h : w.cell? x = some v) : w'.cell? x = some v :=
  (World.cell?_of_block (g.block _ (World.block_lt_of_cell? w _ h))).trans h
theorem cell_other {w : World} {b i b' i' : Nat} (v : Value) (h : b' ≠ b ∨ i' ≠ i) : (w.setCell ⟨b, i, none⟩ v).cell? ⟨b', i', none⟩ = w.cell? ⟨b', i', none⟩ :=
  World.cell?_setCell_other _ _ _ _ (fun e => by injection e with e1 e2; omega)
theorem cell_same {w : World} {b i : Nat} (v : Value) {u : Value} (h : w.cell? ⟨b, i, none⟩ = some u) : (w.setCell ⟨b, i, none⟩ v).cell? ⟨b, i, none⟩ = some v := World.cell?_setCell_same _ _ _ h

/-- A block's address. -/
abbrev bp (b : Nat) : Addr := ⟨b, 0, none⟩

/-- A block of the chain: sixteen numbers, and the next one. -/
structure BlkAt (w : World) (b : Nat) (c : Nat → Int) (nx : Option Nat) : Prop where
  a : ∀ i, i < 16 → w.cell? ⟨b, i, none⟩ = some (.int .i64 (c i))
  nx : w.cell? ⟨b, 16, none⟩ = some (.pointer (nx.map bp))
  fz : ∀ i, w.frozen? ⟨b, i, none⟩ = false
theorem BlkAt.lt {w : World} {b : Nat} {c : Nat → Int} {nx : Option Nat} (h : BlkAt w b c nx) : b < w.heap.size := World.block_lt_of_cell? w _ h.nx
theorem BlkAt.kept {w w' : World} {b : Nat} {c : Nat → Int} {nx : Option Nat} (h : BlkAt w b c nx) (e : w'.heap[b]? = w.heap[b]?) : BlkAt w' b c nx :=
  ⟨fun i hi => (World.cell?_of_block e).trans (h.a i hi), (World.cell?_of_block e).trans h.nx, fun i => (World.frozen?_of_block e).trans (h.fz i)⟩
theorem BlkAt.cong {w : World} {b : Nat} {c c' : Nat → Int} {nx : Option Nat} (h : BlkAt w b c nx) (e : ∀ i, i < 16 → c' i = c i) : BlkAt w b c' nx :=
  ⟨fun i hi => by rw [e i hi]; exact h.a i hi, h.nx, h.fz⟩
theorem BlkAt.set {w : World} {b : Nat} {c : Nat → Int} {nx : Option Nat} (h : BlkAt w b c nx) (i : Nat) (hi : i < 16) (x : Int) : BlkAt (w.setCell ⟨b, i, none⟩ (.int .i64 x)) b (fun j => if j = i then x else c j) nx := by
  refine ⟨fun j hj => ?_, ?_, fun j => by rw [World.frozen?_setCell]; exact h.fz j⟩
  · by_cases e : j = i
    · subst e; simp only [if_pos]; exact cell_same _ (h.a j hj)
    · simp only [if_neg e]; rw [cell_other _ (Or.inr e)]; exact h.a j hj
  · rw [cell_other _ (Or.inr (by omega))]; exact h.nx
theorem BlkAt.link {w : World} {b : Nat} {c : Nat → Int} {nx : Option Nat} (h : BlkAt w b c nx) (n : Nat) : BlkAt (w.setCell ⟨b, 16, none⟩ (.pointer (some ⟨n, 0, none⟩))) b c (some n) := by
  refine ⟨fun j hj => ?_, cell_same _ h.nx, fun j => by rw [World.frozen?_setCell]; exact h.fz j⟩
  rw [cell_other _ (Or.inr (by omega))]; exact h.a j hj
theorem heap_set {w : World} {b : Nat} (x : Addr) (v : Value) (h : b ≠ x.block) : (w.setCell x v).heap[b]? = w.heap[b]? := Below.heap_setCell _ _ _ _ h

/-- The Queue at block q: where the first one stands (f), how many (n), its blocks (bs), what they hold (c). -/
structure QAt (w : World) (q f n : Nat) (bs : List Nat) (c : Nat → Int) : Prop where
  c0 : w.cell? ⟨q, 0, none⟩ = some (.pointer (bs.head?.map bp))
  c1 : w.cell? ⟨q, 1, none⟩ = some (.pointer (bs.getLast?.map bp))
  c2 : w.cell? ⟨q, 2, none⟩ = some (.int .i64 f)
  c3 : w.cell? ⟨q, 3, none⟩ = some (.int .i64 n)
  fq : ∀ i, w.frozen? ⟨q, i, none⟩ = false
  bk : ∀ k b, bs[k]? = some b → BlkAt w b (fun i => c (k * 16 + i)) bs[k + 1]?
  nd : bs.Nodup
  qn : q ∉ bs
  f16 : f < 16
  le : f + n ≤ bs.length * 16
  ge : bs.length * 16 < f + n + 16
  e0 : n = 0 → f = 0

theorem QAt.lt {w : World} {q f n : Nat} {bs : List Nat} {c : Nat → Int} (h : QAt w q f n bs c) : q < w.heap.size := World.block_lt_of_cell? w _ h.c0
theorem QAt.ltb {w : World} {q f n : Nat} {bs : List Nat} {c : Nat → Int} (h : QAt w q f n bs c) : ∀ b ∈ bs, b < w.heap.size := by
  intro b hb
  obtain ⟨k, hk⟩ := List.mem_iff_getElem?.1 hb
  exact (h.bk k b hk).lt
theorem QAt.kept {w w' : World} {q f n : Nat} {bs : List Nat} {c : Nat → Int} (h : QAt w q f n bs c) (e : w'.heap[q]? = w.heap[q]?) (eb : ∀ b ∈ bs, w'.heap[b]? = w.heap[b]?) : QAt w' q f n bs c :=
  ⟨(World.cell?_of_block e).trans h.c0, (World.cell?_of_block e).trans h.c1, (World.cell?_of_block e).trans h.c2, (World.cell?_of_block e).trans h.c3, fun i => (World.frozen?_of_block e).trans (h.fq i),
   fun k b hk => (h.bk k b hk).kept (eb b (List.mem_of_getElem? hk)), h.nd, h.qn, h.f16, h.le, h.ge, h.e0⟩
theorem QAt.grown {w w' : World} {q f n : Nat} {bs : List Nat} {c : Nat → Int} (h : QAt w q f n bs c) (g : G w w') : QAt w' q f n bs c :=
  h.kept (g.block _ h.lt) (fun b hb => g.block _ (h.ltb b hb))

/-- w' is w but for what the queue's blocks hold, and for new blocks. -/
structure Tq (w w' : World) (q : Nat) (bs : List Nat) : Prop where
  os : w'.os = w.os
  tape : w'.tape = w.tape
  output : w'.output = w.output
  size : w.heap.size ≤ w'.heap.size
  block : ∀ k, k < w.heap.size → k ≠ q → k ∉ bs → w'.heap[k]? = w.heap[k]?
theorem Tq.of_G {w w' : World} {q : Nat} {bs : List Nat} (h : G w w') : Tq w w' q bs := ⟨h.os, h.tape, h.output, h.size, fun k hk _ _ => h.block k hk⟩
theorem Tq.g {w w1 w2 : World} {q : Nat} {bs : List Nat} (h : Tq w w1 q bs) (g : G w1 w2) : Tq w w2 q bs :=
  ⟨g.os.trans h.os, g.tape.trans h.tape, g.output.trans h.output, Nat.le_trans h.size g.size, fun k hk h1 h2 => (g.block k (Nat.lt_of_lt_of_le hk h.size)).trans (h.block k hk h1 h2)⟩
theorem Tq.set {w w1 : World} {q : Nat} {bs : List Nat} (h : Tq w w1 q bs) (x : Addr) (v : Value) (hx : x.block = q ∨ x.block ∈ bs ∨ w.heap.size ≤ x.block) : Tq w (w1.setCell x v) q bs := by
  refine ⟨h.os, h.tape, h.output, by rw [World.size_setCell]; exact h.size, fun k hk h1 h2 => ?_⟩
  have hne : k ≠ x.block := by
    rcases hx with e | e | e
    · omega
    · exact fun y => h2 (y ▸ e)
    · omega
  rw [heap_set _ _ hne]
  exact h.block k hk h1 h2
theorem Tq.below {w w' : World} {q B : Nat} {bs : List Nat} (h : Tq w w' q bs) (hB : B ≤ w.heap.size) (h1 : B ≤ q) (h2 : ∀ b ∈ bs, B ≤ b) : Below B w w' :=
  ⟨h.os, h.tape, h.output, h.size, fun k hk => h.block k (by omega) (by omega) (fun hb => by have := h2 k hb; omega)⟩
end Go.Proofs.YtinehimleldkdaaGreatDoor.Gy

/- The raw contracts of package grey's calls: which cells are read and set. -/
namespace Go.Proofs.YtinehimleldkdaaGreatDoor.Gy
set_option maxRecDepth 100000
open Go.RowKit Go.Maps Go.ChangeShapes Go.WideShapes Go.ChangeAt

/-- A new block. -/
abbrev newBlk : Obj := .cells #[.int .i64 0, .int .i64 0, .int .i64 0, .int .i64 0, .int .i64 0, .int .i64 0, .int .i64 0, .int .i64 0, .int .i64 0, .int .i64 0, .int .i64 0, .int .i64 0, .int .i64 0, .int .i64 0, .int .i64 0, .int .i64 0, .pointer none] 139

set_option maxHeartbeats 400000 in
theorem new_raw (w : World) :
    Calls Tryz.prog 60 #[] w fun e w' => e = .returned (.pointer (some ⟨w.heap.size, 0, none⟩)) ∧ w' = w.alloc (.cells #[.pointer none, .pointer none, .int .i64 0, .int .i64 0] 136) := by
  go_enter Tryz.func60, Tryz.ntmps60
  go_wp2
  go_ret
  exact ⟨rfl, rfl⟩

set_option maxHeartbeats 400000 in
theorem len_raw (w : World) (q n : Nat) (c3 : w.cell? ⟨q, 3, none⟩ = some (.int .i64 n)) :
    Calls Tryz.prog 46 #[.pointer (some ⟨q, 0, none⟩)] w fun e w' => e = .returned (.int .i64 n) ∧ w' = w := by
  go_enter Tryz.func46, Tryz.ntmps46
  go_wp2
  go_ret
  exact ⟨rfl, rfl⟩

set_option maxHeartbeats 400000 in
theorem grow_first (w : World) (q : Nat) (v : Value) (c0 : w.cell? ⟨q, 0, none⟩ = some (.pointer none)) (c1 : w.cell? ⟨q, 1, none⟩ = some v) (f0 : w.frozen? ⟨q, 0, none⟩ = false) (f1 : w.frozen? ⟨q, 1, none⟩ = false) (hq : q < w.heap.size) :
    Calls Tryz.prog 73 #[.pointer (some ⟨q, 0, none⟩)] w fun e w' => e = .returned (.tuple #[]) ∧ w' = ((w.setCell ⟨q, 0, none⟩ (.pointer (some ⟨w.heap.size, 0, none⟩))).setCell ⟨q, 1, none⟩ (.pointer (some ⟨w.heap.size, 0, none⟩))).alloc newBlk := by
  go_enter Tryz.func73, Tryz.ntmps73
  go_wp2
  go_end0
  exact ⟨rfl, rfl⟩

set_option maxHeartbeats 400000 in
theorem grow_more (w : World) (q b l : Nat) (v : Value) (c0 : w.cell? ⟨q, 0, none⟩ = some (.pointer (some ⟨b, 0, none⟩))) (c1 : w.cell? ⟨q, 1, none⟩ = some (.pointer (some ⟨l, 0, none⟩))) (cl : w.cell? ⟨l, 16, none⟩ = some v)
    (fl : w.frozen? ⟨l, 16, none⟩ = false) (f1 : w.frozen? ⟨q, 1, none⟩ = false) (hq : q < w.heap.size) (hl : l < w.heap.size) :
    Calls Tryz.prog 73 #[.pointer (some ⟨q, 0, none⟩)] w fun e w' => e = .returned (.tuple #[]) ∧ w' = ((w.setCell ⟨l, 16, none⟩ (.pointer (some ⟨w.heap.size, 0, none⟩))).setCell ⟨q, 1, none⟩ (.pointer (some ⟨w.heap.size, 0, none⟩))).alloc newBlk := by
  go_enter Tryz.func73, Tryz.ntmps73
  go_wp2
  go_end0
  exact ⟨rfl, rfl⟩

set_option maxHeartbeats 400000 in
theorem shrink_zero (w : World) (q : Nat) (u0 u1 u2 : Value) (c0 : w.cell? ⟨q, 0, none⟩ = some u0) (c1 : w.cell? ⟨q, 1, none⟩ = some u1) (c2 : w.cell? ⟨q, 2, none⟩ = some u2) (c3 : w.cell? ⟨q, 3, none⟩ = some (.int .i64 0))
    (f0 : w.frozen? ⟨q, 0, none⟩ = false) (f1 : w.frozen? ⟨q, 1, none⟩ = false) (f2 : w.frozen? ⟨q, 2, none⟩ = false) (f3 : w.frozen? ⟨q, 3, none⟩ = false) :
    Calls Tryz.prog 72 #[.pointer (some ⟨q, 0, none⟩)] w fun e w' => e = .returned (.tuple #[]) ∧ w' = (((w.setCell ⟨q, 0, none⟩ (.pointer none)).setCell ⟨q, 1, none⟩ (.pointer none)).setCell ⟨q, 2, none⟩ (.int .i64 0)).setCell ⟨q, 3, none⟩ (.int .i64 0) := by
  go_enter Tryz.func72, Tryz.ntmps72
  go_wp2
  go_end0
  exact ⟨rfl, rfl⟩

set_option maxHeartbeats 400000 in
theorem shrink_full (w : World) (q b : Nat) (n : Int) (o : Option Addr) (c0 : w.cell? ⟨q, 0, none⟩ = some (.pointer (some ⟨b, 0, none⟩))) (c2 : w.cell? ⟨q, 2, none⟩ = some (.int .i64 16)) (c3 : w.cell? ⟨q, 3, none⟩ = some (.int .i64 n)) (hn : (n == 0) = false)
    (cb : w.cell? ⟨b, 16, none⟩ = some (.pointer o)) (f0 : w.frozen? ⟨q, 0, none⟩ = false) (f2 : w.frozen? ⟨q, 2, none⟩ = false) :
    Calls Tryz.prog 72 #[.pointer (some ⟨q, 0, none⟩)] w fun e w' => e = .returned (.tuple #[]) ∧ w' = (w.setCell ⟨q, 0, none⟩ (.pointer o)).setCell ⟨q, 2, none⟩ (.int .i64 0) := by
  go_enter Tryz.func72, Tryz.ntmps72
  go_wp2
  go_end0
  exact ⟨rfl, rfl⟩

set_option maxHeartbeats 400000 in
theorem shrink_none (w : World) (q : Nat) (n f : Int) (c2 : w.cell? ⟨q, 2, none⟩ = some (.int .i64 f)) (c3 : w.cell? ⟨q, 3, none⟩ = some (.int .i64 n)) (hn : (n == 0) = false) (hf : (f == 16) = false) :
    Calls Tryz.prog 72 #[.pointer (some ⟨q, 0, none⟩)] w fun e w' => e = .returned (.tuple #[]) ∧ w' = w := by
  go_enter Tryz.func72, Tryz.ntmps72
  go_wp2
  go_end0
  exact ⟨rfl, rfl⟩

/-! ### Add -/
set_option maxHeartbeats 1000000 in
theorem add_in (w : World) (q l f n : Nat) (x : Int) (at_ : Nat) (u : Value) (hat : (f + n) % 16 = at_) (h0 : ¬ at_ = 0) (hf : f < 16) (hn : n ≤ 1000000) (c1 : w.cell? ⟨q, 1, none⟩ = some (.pointer (some ⟨l, 0, none⟩))) (c2 : w.cell? ⟨q, 2, none⟩ = some (.int .i64 f)) (c3 : w.cell? ⟨q, 3, none⟩ = some (.int .i64 n))
    (cl : w.cell? ⟨l, at_, none⟩ = some u) (fl : w.frozen? ⟨l, at_, none⟩ = false) (f3 : w.frozen? ⟨q, 3, none⟩ = false) (hlq : ¬ l = q) :
    Calls Tryz.prog 40 #[.pointer (some ⟨q, 0, none⟩), .int .i64 x] w fun e w' => e = .returned (.tuple #[]) ∧ ∃ k, w' = ((w.setCell ⟨l, at_, none⟩ (.int .i64 x)).setCell ⟨q, 3, none⟩ (.int .i64 ((n : Int) + 1))).drewN k := by
  have hm : ((f : Int) + (n : Int)) % 16 = (at_ : Int) := by omega
  have ha : at_ < 16 := by omega
  clear hat
  have hz : ((at_ : Int) == 0) = false := by simpa using h0
  go_enter Tryz.func40, Tryz.ntmps40
  go_wp2_with fail
  go_quiet (fail)
  go_wp2_with fail
  go_end0
  exact ⟨rfl, _, rfl⟩

set_option maxHeartbeats 1000000 in
theorem add_grow (w : World) (q f n S : Nat) (x : Int) (R : World → Prop) (hat : (f + n) % 16 = 0) (hf : f < 16) (hn : n ≤ 1000000) (c2 : w.cell? ⟨q, 2, none⟩ = some (.int .i64 f)) (c3 : w.cell? ⟨q, 3, none⟩ = some (.int .i64 n))
    (C : Hid (∀ k, Calls Tryz.prog 73 #[.pointer (some ⟨q, 0, none⟩)] (w.drewN k) fun e w' => e = .returned (.tuple #[]) ∧ R w'))
    (HR : Hid (∀ w1, R w1 → w1.cell? ⟨q, 1, none⟩ = some (.pointer (some ⟨S, 0, none⟩)) ∧ w1.cell? ⟨S, 0, none⟩ = some (.int .i64 0) ∧ w1.cell? ⟨q, 3, none⟩ = some (.int .i64 n) ∧ w1.frozen? ⟨S, 0, none⟩ = false ∧ w1.frozen? ⟨q, 3, none⟩ = false)) :
    Calls Tryz.prog 40 #[.pointer (some ⟨q, 0, none⟩), .int .i64 x] w fun e w' => e = .returned (.tuple #[]) ∧ ∃ w1, R w1 ∧ w' = (w1.setCell ⟨S, 0, none⟩ (.int .i64 x)).setCell ⟨q, 3, none⟩ (.int .i64 ((n : Int) + 1)) := by
  have hm : ((f : Int) + (n : Int)) % 16 = 0 := by omega
  clear hat
  go_enter Tryz.func40, Tryz.ntmps40
  go_wp2_with fail
  go_quiet (fail)
  go_wp2_with fail
  refine (unhide C _).mono ?_
  rintro e w1 ⟨rfl, r⟩
  obtain ⟨d1, d2, d3, d4, d5⟩ := unhide HR w1 r
  replace r := hide r
  clear C HR c2 c3
  go_wp2_with fail
  go_end0
  exact ⟨rfl, w1, unhide r, rfl⟩

/-! ### Next -/
set_option maxHeartbeats 400000 in
theorem next_none (w : World) (q : Nat) (c3 : w.cell? ⟨q, 3, none⟩ = some (.int .i64 0)) :
    Calls Tryz.prog 39 #[.pointer (some ⟨q, 0, none⟩)] w fun e w' => e = .returned (.tuple #[.int .i64 0, .bool false]) ∧ w' = w := by
  go_enter Tryz.func39, Tryz.ntmps39
  go_wp2_with fail
  go_returns
  exact ⟨rfl, rfl⟩

set_option maxHeartbeats 1000000 in
theorem next_some (w : World) (q b f n : Nat) (x : Int) (R : World → Prop) (hf : f < 16) (hn : n ≤ 1000000) (hn0 : ¬ n = 0) (c0 : w.cell? ⟨q, 0, none⟩ = some (.pointer (some ⟨b, 0, none⟩))) (c2 : w.cell? ⟨q, 2, none⟩ = some (.int .i64 f)) (c3 : w.cell? ⟨q, 3, none⟩ = some (.int .i64 n))
    (cb : w.cell? ⟨b, f, none⟩ = some (.int .i64 x)) (f2 : w.frozen? ⟨q, 2, none⟩ = false) (f3 : w.frozen? ⟨q, 3, none⟩ = false)
    (C : Hid (∀ k, Calls Tryz.prog 72 #[.pointer (some ⟨q, 0, none⟩)] (((w.setCell ⟨q, 2, none⟩ (.int .i64 ((f : Int) + 1))).setCell ⟨q, 3, none⟩ (.int .i64 ((n : Int) - 1))).drewN k) fun e w' => e = .returned (.tuple #[]) ∧ R w')) :
    Calls Tryz.prog 39 #[.pointer (some ⟨q, 0, none⟩)] w fun e w' => e = .returned (.tuple #[.int .i64 x, .bool true]) ∧ R w' := by
  have hz : ((n : Int) == 0) = false := by simpa using hn0
  go_enter Tryz.func39, Tryz.ntmps39
  go_wp2_with fail
  go_quiet (fail)
  go_wp2_with fail
  refine (unhide C _).mono ?_
  rintro e w1 ⟨rfl, r⟩
  replace r := hide r
  clear C
  go_wp2_with fail
  go_returns
  exact ⟨rfl, unhide r⟩
end Go.Proofs.YtinehimleldkdaaGreatDoor.Gy

/- The contracts of package grey's calls over the list that a Queue holds. -/
namespace Go.Proofs.YtinehimleldkdaaGreatDoor.Gy
set_option maxRecDepth 100000
open Go.RowKit Go.Maps Go.ChangeShapes Go.WideShapes Go.ChangeAt

/-- The Queue at q holds xs, in the blocks bs. -/
def QL (w : World) (q : Nat) (bs : List Nat) (xs : List Int) : Prop := ∃ f c, QAt w q f xs.length bs c ∧ ∀ i x, xs[i]? = some x → c (f + i) = x
section
variable {w w' : World} {q : Nat} {bs : List Nat} {xs : List Int}
theorem QL.grown (h : QL w q bs xs) (g : G w w') : QL w' q bs xs := by obtain ⟨f, c, h1, h2⟩ := h; exact ⟨f, c, h1.grown g, h2⟩
theorem QL.kept (h : QL w q bs xs) (e : w'.heap[q]? = w.heap[q]?) (eb : ∀ b ∈ bs, w'.heap[b]? = w.heap[b]?) : QL w' q bs xs := by obtain ⟨f, c, h1, h2⟩ := h; exact ⟨f, c, h1.kept e eb, h2⟩
theorem QL.lt (h : QL w q bs xs) : q < w.heap.size := by obtain ⟨f, c, h1, h2⟩ := h; exact h1.lt
theorem QL.ltb (h : QL w q bs xs) : ∀ b ∈ bs, b < w.heap.size := by obtain ⟨f, c, h1, h2⟩ := h; exact h1.ltb

theorem fz_new (w : World) (cs : Array Value) (t : TypeId) (i : Nat) : (w.alloc (.cells cs t)).frozen? ⟨w.heap.size, i, none⟩ = false := by
  have hb := heap_alloc_new w (.cells cs t)
  unfold World.frozen?
  rw [hb]
  simp
theorem blk_new (w : World) : BlkAt (w.alloc newBlk) w.heap.size (fun _ => 0) none := by
  refine ⟨fun i hi => ?_, ?_, fun i => ?_⟩
  · rw [World.cell?_alloc_new]
    match i, hi with
    | 0, _ => rfl
    | 1, _ => rfl
    | 2, _ => rfl
    | 3, _ => rfl
    | 4, _ => rfl
    | 5, _ => rfl
    | 6, _ => rfl
    | 7, _ => rfl
    | 8, _ => rfl
    | 9, _ => rfl
    | 10, _ => rfl
    | 11, _ => rfl
    | 12, _ => rfl
    | 13, _ => rfl
    | 14, _ => rfl
    | 15, _ => rfl
    | (j + 16), h => omega
  · rw [World.cell?_alloc_new]; rfl
  · exact fz_new w _ _ i

theorem queue_new (w : World) : QL (w.alloc (.cells #[.pointer none, .pointer none, .int .i64 0, .int .i64 0] 136)) w.heap.size [] [] := by
  refine ⟨0, fun _ => 0, ⟨?_, ?_, ?_, ?_, fun i => fz_new w _ _ i, fun k b hk => by simp at hk, by simp, by simp, by omega, by simp, by simp, fun _ => rfl⟩, fun i x hx => by simp at hx⟩ <;> (rw [World.cell?_alloc_new]; rfl)

theorem q_new (w : World) : Calls Tryz.prog 60 #[] w fun e w' => ∃ q, e = .returned (.pointer (some ⟨q, 0, none⟩)) ∧ QL w' q [] [] ∧ w.heap.size ≤ q ∧ G w w' := by
  refine (new_raw w).mono ?_
  rintro e w' ⟨rfl, rfl⟩
  exact ⟨_, rfl, queue_new w, Nat.le_refl _, G.alloc _ _⟩

theorem q_len (h : QL w q bs xs) : Calls Tryz.prog 46 #[.pointer (some ⟨q, 0, none⟩)] w fun e w' => e = .returned (.int .i64 (xs.length : Int)) ∧ w' = w := by
  obtain ⟨f, c, h1, h2⟩ := h
  exact len_raw w q _ h1.c3
/-- What a call leaves: the queue's new list and blocks. -/
def Left (w w' : World) (q : Nat) (bs : List Nat) (ys : List Int) : Prop := ∃ bs', QL w' q bs' ys ∧ Tq w w' q bs ∧ ∀ b ∈ bs', b ∈ bs ∨ w.heap.size ≤ b

theorem snoc_get {xs : List Int} {x y : Int} {i : Nat} (h : (xs ++ [x])[i]? = some y) : (i < xs.length ∧ xs[i]? = some y) ∨ (i = xs.length ∧ x = y) := by
  rcases Nat.lt_trichotomy i xs.length with e | e | e
  · rw [List.getElem?_append_left e] at h; exact Or.inl ⟨e, h⟩
  · subst e; simp at h; exact Or.inr ⟨rfl, h⟩
  · rw [List.getElem?_eq_none (by simp; omega)] at h; cases h

theorem add_in_left (hn : xs.length ≤ 900000) (x : Int) {f : Nat} {c : Nat → Int} (h1 : QAt w q f xs.length bs c) (h2 : ∀ i x, xs[i]? = some x → c (f + i) = x) (hat : ¬ (f + xs.length) % 16 = 0) :
    Calls Tryz.prog 40 #[.pointer (some ⟨q, 0, none⟩), .int .i64 x] w fun e w' => e = .returned (.tuple #[]) ∧ Left w w' q bs (xs ++ [x]) := by
  have hle := h1.le
  have hge := h1.ge
  obtain ⟨m, hm⟩ : ∃ m, bs.length = m + 1 := ⟨bs.length - 1, by omega⟩
  obtain ⟨l, hl⟩ : ∃ l, bs[m]? = some l := ⟨bs[m]'(by omega), List.getElem?_eq_getElem (by omega)⟩
  have hlast : bs.getLast? = some l := by rw [List.getLast?_eq_getElem?, hm]; exact hl
  have hB := h1.bk m l hl
  have hlq : ¬ l = q := fun e => h1.qn (e ▸ List.mem_of_getElem? hl)
  have ha : (f + xs.length) % 16 < 16 := Nat.mod_lt _ (by decide)
  have c1 := h1.c1
  rw [hlast] at c1
  refine (add_in w q l f xs.length x _ _ rfl hat h1.f16 (by omega) c1 h1.c2 h1.c3 (hB.a _ ha) (hB.fz _) (h1.fq 3) hlq).mono ?_
  rintro e w' ⟨rfl, k, rfl⟩
  refine ⟨rfl, bs, QL.grown (w := (w.setCell ⟨l, (f + xs.length) % 16, none⟩ (.int .i64 x)).setCell ⟨q, 3, none⟩ (.int .i64 ((xs.length : Int) + 1))) ?_ (G.drewN _ _), ?_, fun b hb => Or.inl hb⟩
  · refine ⟨f, fun p => if p = f + xs.length then x else c p, ⟨?_, ?_, ?_, ?_, ?_, ?_, h1.nd, h1.qn, h1.f16, ?_, ?_, ?_⟩, ?_⟩
    · rw [cell_other _ (by omega), cell_other _ (by omega)]; exact h1.c0
    · rw [cell_other _ (by omega), cell_other _ (by omega)]; exact h1.c1
    · rw [cell_other _ (by omega), cell_other _ (by omega)]; exact h1.c2
    · rw [cell_same _ ((cell_other _ (by omega)).trans h1.c3)]; simp
    · intro i; rw [World.frozen?_setCell, World.frozen?_setCell]; exact h1.fq i
    · intro k b hk
      have hbq : b ≠ q := fun e => h1.qn (e ▸ List.mem_of_getElem? hk)
      refine BlkAt.kept (w := w.setCell ⟨l, (f + xs.length) % 16, none⟩ (.int .i64 x)) ?_ (heap_set _ _ hbq)
      by_cases e : k = m
      · subst e
        obtain rfl : b = l := Option.some.inj (hk.symm.trans hl)
        refine (hB.set _ ha x).cong fun i hi => ?_
        by_cases e : i = (f + xs.length) % 16
        · rw [if_pos (by omega), if_pos e]
        · rw [if_neg (by omega), if_neg e]
      · have hbl : b ≠ l := fun eb => e ((List.getElem?_inj (by have := (List.getElem?_eq_some_iff.1 hk).1; exact this) h1.nd).1 (by rw [hk, hl, eb]))
        refine ((h1.bk k b hk).kept (heap_set _ _ hbl)).cong fun i hi => ?_
        have hkl := (List.getElem?_eq_some_iff.1 hk).1
        rw [if_neg (by omega)]
    · simp; omega
    · simp; omega
    · simp
    · intro i y hy
      have hf := h1.f16
      rcases snoc_get hy with ⟨e, hy⟩ | ⟨e, hy⟩
      · simp only; rw [if_neg (by omega)]; exact h2 i y hy
      · simp only; rw [if_pos (by omega)]; exact hy
  · exact (((Tq.of_G (G.refl w)).set _ _ (Or.inr (Or.inl (List.mem_of_getElem? hl)))).set _ _ (Or.inl rfl)).g (G.drewN _ _)

/-- The new block behind the others. -/
theorem add_grow_left (hn : xs.length ≤ 900000) (x : Int) {f : Nat} {c : Nat → Int} (h1 : QAt w q f xs.length bs c) (h2 : ∀ i x, xs[i]? = some x → c (f + i) = x) (hat : (f + xs.length) % 16 = 0) :
    Calls Tryz.prog 40 #[.pointer (some ⟨q, 0, none⟩), .int .i64 x] w fun e w' => e = .returned (.tuple #[]) ∧ Left w w' q bs (xs ++ [x]) := by
  have hle := h1.le
  have hge := h1.ge
  have hfull : f + xs.length = bs.length * 16 := by omega
  have hf16 := h1.f16
  have hqS : q < w.heap.size := h1.lt
  have hbS := h1.ltb
  let R : World → Prop := fun w1 => ∃ w0, w1 = w0.alloc newBlk ∧ w0.heap.size = w.heap.size ∧ w0.cell? ⟨q, 0, none⟩ = some (.pointer ((bs ++ [w.heap.size]).head?.map bp)) ∧ w0.cell? ⟨q, 1, none⟩ = some (.pointer (some ⟨w.heap.size, 0, none⟩)) ∧ w0.cell? ⟨q, 2, none⟩ = some (.int .i64 f) ∧ w0.cell? ⟨q, 3, none⟩ = some (.int .i64 (xs.length : Int)) ∧
    (∀ i, w0.frozen? ⟨q, i, none⟩ = false) ∧ (∀ k b, bs[k]? = some b → BlkAt w0 b (fun i => c (k * 16 + i)) (bs ++ [w.heap.size])[k + 1]?) ∧ Tq w w0 q bs
  have C : ∀ k, Calls Tryz.prog 73 #[.pointer (some ⟨q, 0, none⟩)] (w.drewN k) fun e w' => e = .returned (.tuple #[]) ∧ R w' := by
    intro k
    have hd := h1.grown (G.drewN w k)
    have hsz : (w.drewN k).heap.size = w.heap.size := rfl
    cases bs with
    | nil =>
      refine (grow_first (w.drewN k) q _ hd.c0 hd.c1 (hd.fq 0) (hd.fq 1) hd.lt).mono ?_
      rintro e w' ⟨rfl, rfl⟩
      refine ⟨rfl, _, rfl, by rw [World.size_setCell, World.size_setCell, hsz], ?_, ?_, ?_, ?_, fun i => by rw [World.frozen?_setCell, World.frozen?_setCell]; exact hd.fq i, fun k b hk => by simp at hk, ?_⟩
      · rw [cell_other _ (by omega), cell_same _ hd.c0]; rfl
      · rw [cell_same _ ((cell_other _ (by omega)).trans hd.c1)]; rfl
      · rw [cell_other _ (by omega), cell_other _ (by omega)]; exact hd.c2
      · rw [cell_other _ (by omega), cell_other _ (by omega)]; exact hd.c3
      · exact ((Tq.of_G (G.drewN w k)).set _ _ (Or.inl rfl)).set _ _ (Or.inl rfl)
    | cons b r =>
      obtain ⟨m, hm⟩ : ∃ m, (b :: r).length = m + 1 := ⟨r.length, rfl⟩
      obtain ⟨l, hl⟩ : ∃ l, (b :: r)[m]? = some l := ⟨(b :: r)[m]'(by omega), List.getElem?_eq_getElem (by omega)⟩
      have hlast : (b :: r).getLast? = some l := by rw [List.getLast?_eq_getElem?, hm]; exact hl
      have hB := hd.bk m l hl
      have hlm := List.mem_of_getElem? hl
      have hlq : l ≠ q := fun e => h1.qn (e ▸ hlm)
      have c1 := hd.c1
      rw [hlast] at c1
      refine (grow_more (w.drewN k) q b l _ hd.c0 c1 hB.nx (hB.fz 16) (hd.fq 1) hd.lt hB.lt).mono ?_
      rintro e w' ⟨rfl, rfl⟩
      refine ⟨rfl, _, rfl, by rw [World.size_setCell, World.size_setCell, hsz], ?_, ?_, ?_, ?_, fun i => by rw [World.frozen?_setCell, World.frozen?_setCell]; exact hd.fq i, ?_, ?_⟩
      · rw [cell_other _ (by omega), cell_other _ (by omega)]; exact hd.c0
      · rw [cell_same _ ((cell_other _ (by omega)).trans hd.c1)]; rfl
      · rw [cell_other _ (by omega), cell_other _ (by omega)]; exact hd.c2
      · rw [cell_other _ (by omega), cell_other _ (by omega)]; exact hd.c3
      · intro k' b' hk
        have hbq : b' ≠ q := fun e => h1.qn (e ▸ List.mem_of_getElem? hk)
        refine BlkAt.kept (w := (w.drewN k).setCell ⟨l, 16, none⟩ (.pointer (some ⟨w.heap.size, 0, none⟩))) ?_ (heap_set _ _ hbq)
        have hkl := (List.getElem?_eq_some_iff.1 hk).1
        by_cases e : k' = m
        · subst e
          obtain rfl : b' = l := Option.some.inj (hk.symm.trans hl)
          have e2 : ((b :: r) ++ [w.heap.size])[k' + 1]? = some w.heap.size := by rw [← hm, List.getElem?_append_right (Nat.le_refl _)]; simp
          rw [e2]
          exact hB.link _
        · have hbl : b' ≠ l := fun eb => e ((List.getElem?_inj hkl h1.nd).1 (by rw [hk, hl, eb]))
          have e2 : ((b :: r) ++ [w.heap.size])[k' + 1]? = (b :: r)[k' + 1]? := List.getElem?_append_left (by omega)
          rw [e2]
          exact (hd.bk k' b' hk).kept (heap_set _ _ hbl)
      · exact ((Tq.of_G (G.drewN w k)).set _ _ (Or.inr (Or.inl hlm))).set _ _ (Or.inl rfl)
  refine (add_grow w q f xs.length w.heap.size x R hat hf16 (by omega) h1.c2 h1.c3 (hide C) (hide ?_)).mono ?_
  · rintro w1 ⟨w0, rfl, hs, _, d1, _, d3, d4, _, _⟩
    have nb := blk_new w0
    rw [hs] at nb
    have g := G.alloc w0 newBlk
    exact ⟨g.cell d1, nb.a 0 (by decide), g.cell d3, nb.fz 0, (World.frozen?_of_block (a := ⟨q, 3, none⟩) (g.block q (by omega))).trans (d4 3)⟩
  · rintro e w' ⟨rfl, w1, ⟨w0, rfl, hs, d0, d1, d2, d3, d4, d5, d6⟩, rfl⟩
    have nb := blk_new w0
    rw [hs] at nb
    have g := G.alloc w0 newBlk
    have hSq : w.heap.size ≠ q := by omega
    refine ⟨rfl, bs ++ [w.heap.size], ⟨f, fun p => if p = f + xs.length then x else if p < bs.length * 16 then c p else 0, ⟨?_, ?_, ?_, ?_, ?_, ?_, ?_, ?_, hf16, ?_, ?_, ?_⟩, ?_⟩, ?_, ?_⟩
    · rw [cell_other _ (by omega), cell_other _ (by omega)]; exact g.cell d0
    · rw [cell_other _ (by omega), cell_other _ (by omega)]; simp; exact g.cell d1
    · rw [cell_other _ (by omega), cell_other _ (by omega)]; exact g.cell d2
    · rw [cell_same _ ((cell_other _ (by omega)).trans (g.cell d3))]; simp
    · intro i; rw [World.frozen?_setCell, World.frozen?_setCell]; exact (World.frozen?_of_block (a := ⟨q, i, none⟩) (g.block q (by omega))).trans (d4 i)
    · intro k b hk
      have hkl := (List.getElem?_eq_some_iff.1 hk).1
      simp at hkl
      by_cases e : k = bs.length
      · subst e
        rw [List.getElem?_append_right (Nat.le_refl _)] at hk
        simp at hk
        subst hk
        have e2 : (bs ++ [w.heap.size])[bs.length + 1]? = none := List.getElem?_eq_none (by simp)
        rw [e2]
        refine ((nb.set 0 (by decide) x).kept (heap_set _ _ hSq)).cong fun i hi => ?_
        by_cases e : i = 0
        · rw [if_pos (by omega), if_pos e]
        · rw [if_neg (by omega), if_neg (by omega), if_neg e]
      · have hkl2 : k < bs.length := by omega
        rw [List.getElem?_append_left hkl2] at hk
        have hbm := List.mem_of_getElem? hk
        have hbq : b ≠ q := fun e => h1.qn (e ▸ hbm)
        have hb1 : b < w.heap.size := hbS b hbm
        refine (((d5 k b hk).kept ((heap_set _ _ hbq).trans ((heap_set _ _ (by show b ≠ w.heap.size; omega)).trans (g.block b (by omega)))))).cong fun i hi => ?_
        rw [if_neg (by omega), if_pos (by omega)]
    · rw [List.nodup_append]
      refine ⟨h1.nd, by simp, ?_⟩
      intro a ha b hb
      simp at hb
      have := hbS a ha
      omega
    · intro hm
      rcases List.mem_append.1 hm with hm | hm
      · exact h1.qn hm
      · simp at hm; omega
    · simp; omega
    · simp; omega
    · simp
    · intro i y hy
      rcases snoc_get hy with ⟨e, hy⟩ | ⟨e, hy⟩
      · simp only; rw [if_neg (by omega), if_pos (by omega)]; exact h2 i y hy
      · simp only; rw [if_pos (by omega)]; exact hy
    · exact ((d6.g g).set _ _ (Or.inr (Or.inr (Nat.le_refl _)))).set _ _ (Or.inl rfl)
    · intro b hb
      rcases List.mem_append.1 hb with hm | hm
      · exact Or.inl hm
      · simp at hm; exact Or.inr (by omega)

theorem q_add (h : QL w q bs xs) (hn : xs.length ≤ 900000) (x : Int) :
    Calls Tryz.prog 40 #[.pointer (some ⟨q, 0, none⟩), .int .i64 x] w fun e w' => e = .returned (.tuple #[]) ∧ Left w w' q bs (xs ++ [x]) := by
  obtain ⟨f, c, h1, h2⟩ := h
  by_cases hat : (f + xs.length) % 16 = 0
  · exact add_grow_left hn x h1 h2 hat
  · exact add_in_left hn x h1 h2 hat

/-! ### Next -/
theorem q_next_none (h : QL w q bs []) : Calls Tryz.prog 39 #[.pointer (some ⟨q, 0, none⟩)] w fun e w' => e = .returned (.tuple #[.int .i64 0, .bool false]) ∧ w' = w := by
  obtain ⟨f, c, h1, h2⟩ := h
  exact next_none w q h1.c3

set_option maxHeartbeats 1000000 in
theorem q_next {x : Int} (h : QL w q bs (x :: xs)) (hn : xs.length ≤ 900000) :
    Calls Tryz.prog 39 #[.pointer (some ⟨q, 0, none⟩)] w fun e w' => e = .returned (.tuple #[.int .i64 x, .bool true]) ∧ Left w w' q bs xs := by
  obtain ⟨f, c, h1, h2⟩ := h
  have hle := h1.le
  have hge := h1.ge
  have hf16 := h1.f16
  rw [List.length_cons] at hle hge
  have hx : c f = x := h2 0 x rfl
  obtain ⟨b, r, rfl⟩ : ∃ b r, bs = b :: r := by
    cases bs with
    | nil => simp at hle
    | cons b r => exact ⟨b, r, rfl⟩
  rw [List.length_cons] at hle hge
  have hB := h1.bk 0 b rfl
  have hbq : b ≠ q := fun e => h1.qn (e ▸ List.mem_cons_self)
  have c3 := h1.c3
  rw [List.length_cons] at c3
  have cb := hB.a f hf16
  rw [Nat.zero_mul, Nat.zero_add, hx] at cb
  -- what shrink meets
  let w1 := (w.setCell ⟨q, 2, none⟩ (.int .i64 ((f : Int) + 1))).setCell ⟨q, 3, none⟩ (.int .i64 (((xs.length + 1 : Nat) : Int) - 1))
  have e0 : w1.cell? ⟨q, 0, none⟩ = some (.pointer (some ⟨b, 0, none⟩)) := by
    show (World.setCell _ _ _).cell? _ = _
    rw [cell_other _ (by omega), cell_other _ (by omega)]; exact h1.c0
  have e1 : w1.cell? ⟨q, 1, none⟩ = some (.pointer ((b :: r).getLast?.map bp)) := by
    show (World.setCell _ _ _).cell? _ = _
    rw [cell_other _ (by omega), cell_other _ (by omega)]; exact h1.c1
  have e2 : w1.cell? ⟨q, 2, none⟩ = some (.int .i64 ((f + 1 : Nat) : Int)) := by
    show (World.setCell _ _ _).cell? _ = _
    rw [cell_other _ (by omega), cell_same _ h1.c2]; simp
  have e3 : w1.cell? ⟨q, 3, none⟩ = some (.int .i64 (xs.length : Int)) := by
    show (World.setCell _ _ _).cell? _ = _
    rw [cell_same _ ((cell_other _ (by omega)).trans c3)]; simp
  have ef : ∀ i, w1.frozen? ⟨q, i, none⟩ = false := by
    intro i
    show (World.setCell _ _ _).frozen? _ = _
    rw [World.frozen?_setCell, World.frozen?_setCell]; exact h1.fq i
  have eb : ∀ k b', (b :: r)[k]? = some b' → BlkAt w1 b' (fun i => c (k * 16 + i)) (b :: r)[k + 1]? := by
    intro k b' hk
    have hbq : b' ≠ q := fun e => h1.qn (e ▸ List.mem_of_getElem? hk)
    exact (h1.bk k b' hk).kept ((heap_set _ _ hbq).trans (heap_set _ _ hbq))
  have et : Tq w w1 q (b :: r) := ((Tq.of_G (G.refl w)).set _ _ (Or.inl rfl)).set _ _ (Or.inl rfl)
  refine next_some w q b f (xs.length + 1) x (fun w' => Left w w' q (b :: r) xs) hf16 (by omega) (by omega) h1.c0 h1.c2 c3 cb (h1.fq 2) (h1.fq 3) (hide ?_)
  intro k
  show Calls Tryz.prog 72 _ (w1.drewN k) _
  have g := G.drewN w1 k
  have gf : ∀ i, (w1.drewN k).frozen? ⟨q, i, none⟩ = false := ef
  clear_value w1
  by_cases hz : xs.length = 0
  · obtain rfl : xs = [] := List.eq_nil_of_length_eq_zero hz
    refine (shrink_zero (w1.drewN k) q _ _ _ (g.cell e0) (g.cell e1) (g.cell e2) (g.cell e3) (gf 0) (gf 1) (gf 2) (gf 3)).mono ?_
    rintro e w' ⟨rfl, rfl⟩
    refine ⟨rfl, [], ⟨0, fun _ => 0, ⟨?_, ?_, ?_, ?_, ?_, fun k b hk => by simp at hk, by simp, by simp, by omega, by simp, by simp, fun _ => rfl⟩, fun i x hx => by simp at hx⟩, ?_, fun b hb => by simp at hb⟩
    · rw [cell_other _ (by omega), cell_other _ (by omega), cell_other _ (by omega), cell_same _ (g.cell e0)]; rfl
    · rw [cell_other _ (by omega), cell_other _ (by omega), cell_same _ ((cell_other _ (by omega)).trans (g.cell e1))]; rfl
    · rw [cell_other _ (by omega), cell_same _ ((cell_other _ (by omega)).trans ((cell_other _ (by omega)).trans (g.cell e2)))]; rfl
    · rw [cell_same _ ((cell_other _ (by omega)).trans ((cell_other _ (by omega)).trans ((cell_other _ (by omega)).trans (g.cell e3))))]; rfl
    · intro i
      rw [World.frozen?_setCell, World.frozen?_setCell, World.frozen?_setCell, World.frozen?_setCell]; exact gf i
    · exact ((((et.g g).set _ _ (Or.inl rfl)).set _ _ (Or.inl rfl)).set _ _ (Or.inl rfl)).set _ _ (Or.inl rfl)
  · have hz' : ((xs.length : Int) == 0) = false := by simpa using hz
    by_cases hf : f + 1 = 16
    · obtain ⟨b2, r2, rfl⟩ : ∃ b2 r2, r = b2 :: r2 := by
        cases r with
        | nil => simp at hle; omega
        | cons b r => exact ⟨b, r, rfl⟩
      have hnx := (eb 0 b rfl).nx
      rw [hf] at e2
      refine (shrink_full (w1.drewN k) q b _ _ (g.cell e0) (g.cell e2) (g.cell e3) hz' (g.cell hnx) (gf 0) (gf 2)).mono ?_
      rintro e w' ⟨rfl, rfl⟩
      refine ⟨rfl, b2 :: r2, ⟨0, fun p => c (p + 16), ⟨?_, ?_, ?_, ?_, ?_, ?_, ?_, ?_, by omega, ?_, ?_, fun _ => rfl⟩, ?_⟩, ?_, ?_⟩
      · rw [cell_other _ (by omega), cell_same _ (g.cell e0)]; rfl
      · rw [cell_other _ (by omega), cell_other _ (by omega)]
        rw [List.getLast?_cons_cons] at e1
        exact g.cell e1
      · rw [cell_same _ ((cell_other _ (by omega)).trans (g.cell e2))]; rfl
      · rw [cell_other _ (by omega), cell_other _ (by omega)]; exact g.cell e3
      · intro i
        rw [World.frozen?_setCell, World.frozen?_setCell]; exact gf i
      · intro k' b' hk
        have hbq : b' ≠ q := fun e => h1.qn (e ▸ List.mem_cons_of_mem _ (List.mem_of_getElem? hk))
        refine ((((eb (k' + 1) b' hk).kept (w' := w1.drewN k) rfl).kept ((heap_set _ _ hbq).trans (heap_set _ _ hbq)))).cong fun i hi => ?_
        congr 1
        omega
      · exact (List.nodup_cons.1 h1.nd).2
      · exact fun hm => h1.qn (List.mem_cons_of_mem _ hm)
      · simp at hle ⊢; omega
      · simp at hge ⊢; omega
      · intro i y hy
        have := h2 (i + 1) y (by simpa using hy)
        rw [← this]
        simp only
        congr 1
        omega
      · exact ((et.g g).set _ _ (Or.inl rfl)).set _ _ (Or.inl rfl)
      · exact fun b' hb => Or.inl (List.mem_cons_of_mem _ hb)
    · have hf' : (((f + 1 : Nat) : Int) == 16) = false := by simp; omega
      refine (shrink_none (w1.drewN k) q _ _ (g.cell e2) (g.cell e3) hz' hf').mono ?_
      rintro e w' ⟨rfl, rfl⟩
      refine ⟨rfl, b :: r, ⟨f + 1, c, ⟨g.cell e0, g.cell e1, g.cell e2, g.cell e3, gf, fun k' b' hk => (eb k' b' hk).kept rfl, h1.nd, h1.qn, by omega, ?_, ?_, fun e => absurd e hz⟩, ?_⟩, et.g g, fun b' hb => Or.inl hb⟩
      · simp; omega
      · simp; omega
      · intro i y hy
        have := h2 (i + 1) y (by simpa using hy)
        rw [← this]
        congr 1
        omega
end
end Go.Proofs.YtinehimleldkdaaGreatDoor.Gy

/- The contract of All. -/
namespace Go.Proofs.YtinehimleldkdaaGreatDoor.Gy
set_option maxRecDepth 100000
open Go.RowKit Go.Maps Go.ChangeShapes Go.WideShapes Go.ChangeAt

theorem info_int64 : (Tryz.prog.info? 2).map (fun i => (i.zero, i.size, i.bytes)) = some (some (.int .i64 0), 1, 8) := by kernel_rfl

/-- The first m of the numbers, as cells. -/
def pre (c : Nat → Int) (f m : Nat) : List Value := (List.range m).map fun i => .int .i64 (c (f + i))
theorem pre_len (c : Nat → Int) (f m : Nat) : (pre c f m).length = m := by simp [pre]
theorem pre_get {c : Nat → Int} {f m i : Nat} (h : i < m) : (pre c f m)[i]? = some (.int .i64 (c (f + i))) := by simp [pre, h]
theorem pre_app (c : Nat → Int) (f m d : Nat) : pre c f m ++ pre c (f + m) d = pre c f (m + d) := by
  apply List.ext_getElem?
  intro i
  rcases Nat.lt_or_ge i m with h | h
  · rw [List.getElem?_append_left (by rw [pre_len]; exact h), pre_get h, pre_get (by omega)]
  · rw [List.getElem?_append_right (by rw [pre_len]; exact h), pre_len]
    rcases Nat.lt_or_ge i (m + d) with h2 | h2
    · rw [pre_get (by omega), pre_get (by omega)]
      congr 3
      omega
    · rw [List.getElem?_eq_none (by rw [pre_len]; omega), List.getElem?_eq_none (by rw [pre_len]; omega)]
theorem pre_one (c : Nat → Int) (f m : Nat) : ∀ u ∈ pre c f m, u.oneCell' = true := by
  intro u hu
  simp [pre] at hu
  obtain ⟨i, _, rfl⟩ := hu
  rfl

def slLen : Value → Nat
  | .slice _ n _ => n
  | _ => 0

/-- While All fills its row. -/
structure AllS (w wr : World) (c : Nat → Int) (f n m : Nat) : Prop where
  row : wr.ownsRow w.heap.size 2 1 (.slice (some ⟨w.heap.size, 0, none⟩) m n) m (pre c f m)
  g : G w wr

theorem grownBy_G {w0 w w' : World} {b : Nat} (g : G w0 w) (h : w.grownBy w' (some b)) (hb : w0.heap.size ≤ b) : G w0 w' :=
  ⟨h.os.trans g.os, h.tape.trans g.tape, h.output.trans g.output, Nat.le_trans g.size h.size, fun k hk => (h.block k (Nat.lt_of_lt_of_le hk g.size) (by simp; omega)).trans (g.block k hk)⟩

theorem mk_all (n : Nat) (hn : n ≤ 1000000) (w : World) : (Instr.makeSlice 26 (.int .i64 0) (.int .i64 (n : Int))).run Tryz.prog w =
    .ok (.slice (some ⟨w.heap.size, 0, none⟩) 0 n) (w.alloc (.cells (madeCells #[.int .i64 0] n) 2)) := by
  obtain ⟨i0, hi0, hz0, hz1, hz2⟩ := info_parts info_int64
  have := run_make (P := Tryz.prog) w 26 2 i0 (.int .i64 0) Tryz.underlying26 hi0 hz0 .i64 .i64 0 (n : Int) (by omega) (by omega) (by rw [hz2]; omega) (by omega)
  rw [this, hz1]
  simp only [Int.toNat_natCast, Nat.mul_one]
  rfl

theorem arr_len : Tryz.prog.arrayLen 137 = 16 := by kernel_rfl
theorem arr_elem : Tryz.prog.elem 137 = 2 := by kernel_rfl
theorem arr_under : Tryz.prog.underlying 137 = some (.array (Tryz.prog.arrayLen 137) (Tryz.prog.elem 137)) := by kernel_rfl
theorem sl_arr (w : World) (b t : Nat) (z : Int) (h0 : t < 16) (h1 : (t : Int) ≤ z) (h2 : z ≤ 16) :
    (Instr.sliceAt 137 (.pointer (some ⟨b, 0, none⟩)) (some (.int .i64 (t : Int))) (some (.int .i64 z)) none).run Tryz.prog w = .ok (.slice (some ⟨b, t, none⟩) (z.toNat - t) (16 - t)) w := by
  obtain ⟨i0, hi0, hz0, hz1, hz2⟩ := info_parts info_int64
  rw [run_sliceAt_array_lh w 137 ⟨b, 0, none⟩ arr_under .i64 .i64 (t : Int) z (by omega) h1 (by rw [arr_len]; omega), arr_elem, arr_len]
  simp [sizeOf, typeInfo, hi0, hz1, Result.andThen, slicedAt]
  rw [if_neg (by omega), Addr.add_lit, Nat.zero_add]

/-- One round of All: a block's numbers behind the others. -/
theorem AllS.app {w wr w' : World} {c : Nat → Int} {f n m d : Nat} (h : AllS w wr c f n m) (hr : w'.ownsRow w.heap.size 2 1 (.slice (some ⟨w.heap.size, 0, none⟩) (m + d) n) (m + d) (pre c f m ++ pre c (f + m) d)) (hg : wr.grownBy w' (some w.heap.size)) : AllS w w' c f n (m + d) :=
  ⟨by rw [pre_app] at hr; exact hr, grownBy_G h.g hg (Nat.le_refl _)⟩

theorem far_cell {w w' : World} {S b i : Nat} (hg : w.grownBy w' (some S)) (h1 : b < S) (h2 : b < w.heap.size) : w'.cell? ⟨b, i, none⟩ = w.cell? ⟨b, i, none⟩ :=
  World.cell?_of_block (hg.block b h2 (by simp; omega))

/-- The numbers xs as cells. -/
def cellsOf (xs : List Int) : List Value := xs.map fun x => .int .i64 x
theorem pre_cells {c : Nat → Int} {f : Nat} {xs : List Int} (h : ∀ i x, xs[i]? = some x → c (f + i) = x) : pre c f xs.length = cellsOf xs := by
  apply List.ext_getElem?
  intro i
  unfold cellsOf
  rw [List.getElem?_map]
  rcases Nat.lt_or_ge i xs.length with e | e
  · rw [pre_get e, List.getElem?_eq_getElem e, h i _ (List.getElem?_eq_getElem e)]; rfl
  · rw [List.getElem?_eq_none (by rw [pre_len]; exact e), List.getElem?_eq_none e]; rfl

end Go.Proofs.YtinehimleldkdaaGreatDoor.Gy

/- What a law knows of one Queue on its way; awake() answers true. -/
namespace Go.Proofs.YtinehimleldkdaaGreatDoor.Gy
set_option maxRecDepth 100000
open Go.RowKit Go.Maps Go.ChangeShapes Go.WideShapes Go.ChangeAt

/-- One Queue, the call's own: W is the law's first world. -/
structure Sq (W w : World) (q : Nat) (bs : List Nat) (xs : List Int) : Prop where
  ql : QL w q bs xs
  bq : W.heap.size ≤ q
  bb : ∀ b ∈ bs, W.heap.size ≤ b
  below : Below W.heap.size W w
section
variable {W w w' : World} {q : Nat} {bs : List Nat} {xs ys : List Int} {x : Int}
theorem Sq.g (h : Sq W w q bs xs) (g : G w w') : Sq W w' q bs xs := ⟨h.ql.grown g, h.bq, h.bb, h.below.trans (g.mono h.below.size)⟩
theorem Sq.left (h : Sq W w q bs xs) (l : Left w w' q bs ys) : ∃ bs', Sq W w' q bs' ys ∧ Tq w w' q bs ∧ ∀ b ∈ bs', b ∈ bs ∨ w.heap.size ≤ b := by
  obtain ⟨bs', h1, h2, h3⟩ := l
  refine ⟨bs', ⟨h1, h.bq, fun b hb => ?_, h.below.trans (h2.below h.below.size h.bq h.bb)⟩, h2, h3⟩
  rcases h3 b hb with e | e
  · exact h.bb b e
  · exact Nat.le_trans h.below.size e

/-- The same, whatever its blocks; the blocks D are none of them. -/
def S2 (W w : World) (q : Nat) (xs : List Int) (D : List Nat) : Prop := ∃ bs, Sq W w q bs xs ∧ ∀ d ∈ D, d < w.heap.size ∧ d ≠ q ∧ d ∉ bs
/-- The blocks D are as they were. -/
def Kp (w w' : World) (D : List Nat) : Prop := ∀ d ∈ D, w'.heap[d]? = w.heap[d]?
variable {D : List Nat}
theorem Kp.cell (h : Kp w w' D) {d i : Nat} (hd : d ∈ D) {v : Value} (hc : w.cell? ⟨d, i, none⟩ = some v) : w'.cell? ⟨d, i, none⟩ = some v := (World.cell?_of_block (h d hd)).trans hc
theorem S2.g (h : S2 W w q xs D) (g : G w w') : S2 W w' q xs D := by
  obtain ⟨bs, h, a⟩ := h
  exact ⟨bs, h.g g, fun d hd => ⟨Nat.lt_of_lt_of_le (a d hd).1 g.size, (a d hd).2⟩⟩
theorem S2.kp (h : S2 W w q xs D) (g : G w w') : Kp w w' D := by
  obtain ⟨bs, h, a⟩ := h
  exact fun d hd => g.block d (a d hd).1
theorem S2.below (h : S2 W w q xs D) : Below W.heap.size W w := by obtain ⟨bs, h, _⟩ := h; exact h.below
theorem S2.sub (h : S2 W w q xs D) {E : List Nat} (e : ∀ d ∈ E, d ∈ D) : S2 W w q xs E := by obtain ⟨bs, h, a⟩ := h; exact ⟨bs, h, fun d hd => a d (e d hd)⟩
theorem s2_left {bs : List Nat} (hs : Sq W w q bs xs) (a : ∀ d ∈ D, d < w.heap.size ∧ d ≠ q ∧ d ∉ bs) (l : Left w w' q bs ys) : S2 W w' q ys D ∧ Kp w w' D := by
  obtain ⟨bs', h1, h2, h3⟩ := hs.left l
  refine ⟨⟨bs', h1, fun d hd => ?_⟩, fun d hd => h2.block d (a d hd).1 (a d hd).2.1 (a d hd).2.2⟩
  refine ⟨Nat.lt_of_lt_of_le (a d hd).1 h2.size, (a d hd).2.1, fun hm => ?_⟩
  rcases h3 d hm with e | e
  · exact (a d hd).2.2 e
  · have := (a d hd).1; omega

theorem s_new (g : Hid (G W w)) : Calls Tryz.prog 60 #[] w fun e w' => ∃ q, e = .returned (.pointer (some ⟨q, 0, none⟩)) ∧ S2 W w' q [] [] := by
  refine (q_new w).mono ?_
  rintro e w' ⟨q, rfl, h1, h2, h3⟩
  exact ⟨q, rfl, [], ⟨h1, Nat.le_trans (unhide g).size h2, (fun b hb => by cases hb), (unhide g).trans h3⟩, fun d hd => by cases hd⟩
theorem s_add (h : Hid (S2 W w q xs D)) (hn : xs.length ≤ 900000) (x : Int) : Calls Tryz.prog 40 #[.pointer (some ⟨q, 0, none⟩), .int .i64 x] w fun e w' => e = .returned (.tuple #[]) ∧ S2 W w' q (xs ++ [x]) D ∧ Kp w w' D := by
  obtain ⟨bs, hs, a⟩ := unhide h
  refine (q_add hs.ql hn x).mono ?_
  rintro e w' ⟨rfl, l⟩
  exact ⟨rfl, s2_left hs a l⟩
theorem s_next (h : Hid (S2 W w q (x :: xs) D)) (hn : xs.length ≤ 900000) : Calls Tryz.prog 39 #[.pointer (some ⟨q, 0, none⟩)] w fun e w' => e = .returned (.tuple #[.int .i64 x, .bool true]) ∧ S2 W w' q xs D ∧ Kp w w' D := by
  obtain ⟨bs, hs, a⟩ := unhide h
  refine (q_next hs.ql hn).mono ?_
  rintro e w' ⟨rfl, l⟩
  exact ⟨rfl, s2_left hs a l⟩
theorem s_next_none (h : Hid (S2 W w q [] D)) : Calls Tryz.prog 39 #[.pointer (some ⟨q, 0, none⟩)] w fun e w' => e = .returned (.tuple #[.int .i64 0, .bool false]) ∧ w' = w := by
  obtain ⟨bs, h, _⟩ := unhide h
  exact q_next_none h.ql
theorem s_len (h : Hid (S2 W w q xs D)) (n : Int) (hn : (xs.length : Int) = n) : Calls Tryz.prog 46 #[.pointer (some ⟨q, 0, none⟩)] w fun e w' => e = .returned (.int .i64 n) ∧ w' = w := by
  subst hn
  obtain ⟨bs, h, _⟩ := unhide h
  exact q_len h.ql
theorem row_cell {B g n cap : Nat} (h : w.ownsRow B 2 1 (.slice (some ⟨g, 0, none⟩) n cap) n (cellsOf xs)) {i : Nat} (hi : xs[i]? = some x) : w.cell? ⟨g, i, none⟩ = some (.int .i64 x) := by
  have := World.ownsRow.cells h (g := g) rfl i (.int .i64 x) (by unfold cellsOf; rw [List.getElem?_map, hi]; rfl)
  rw [Addr.add_lit, Nat.zero_add] at this
  exact this
end

end Go.Proofs.YtinehimleldkdaaGreatDoor.Gy

/- A row of numbers that is cut from the front and grows behind; Nums. -/
namespace Go.Proofs.YtinehimleldkdaaGreatDoor.Gy
set_option maxRecDepth 100000
open Go.RowKit Go.Maps Go.ChangeShapes Go.WideShapes Go.ChangeAt

/-- The block that a slice lies in. -/
def blk : Option Addr → List Nat
  | none => []
  | some a => [a.block]

/-- The numbers ys lie at ao, in room of the call's own. -/
structure RowW (w : World) (B : Nat) (ao : Option Addr) (cap : Nat) (ys : List Int) : Prop where
  le : ys.length ≤ cap
  cm : cap ≤ maxLen
  at_ : (ao = none ∧ ys = [] ∧ cap = 0) ∨ ∃ g off, ao = some ⟨g, off, none⟩ ∧ B ≤ g ∧ g < w.heap.size ∧ (∀ i x, ys[i]? = some x → w.cell? ⟨g, off + i, none⟩ = some (.int .i64 x)) ∧ (∀ j, j < cap → (w.cell? ⟨g, off + j, none⟩).isSome = true) ∧ (∀ j, w.frozen? ⟨g, j, none⟩ = false)
section
variable {W w w' : World} {B cap : Nat} {ao : Option Addr} {ys : List Int}
theorem RowW.nil (w : World) (B : Nat) : RowW w B none 0 [] := ⟨by simp, by unfold maxLen; omega, Or.inl ⟨rfl, rfl, rfl⟩⟩
theorem RowW.kept (h : RowW w B ao cap ys) (k : Kp w w' (blk ao)) : RowW w' B ao cap ys := by
  refine ⟨h.le, h.cm, ?_⟩
  rcases h.at_ with e | ⟨g, off, rfl, h1, h2, h3, h4, h5⟩
  · exact Or.inl e
  · have hk : w'.heap[g]? = w.heap[g]? := k g (by simp [blk])
    have hlt : g < w'.heap.size := by
      have e := hk
      rw [Array.getElem?_eq_getElem h2] at e
      exact (Array.getElem?_eq_some_iff.1 e).1
    exact Or.inr ⟨g, off, rfl, h1, hlt, fun i x hi => (World.cell?_of_block hk).trans (h3 i x hi), fun j hj => by rw [World.cell?_of_block (a := ⟨g, off + j, none⟩) hk]; exact h4 j hj, fun j => (World.frozen?_of_block (a := ⟨g, j, none⟩) hk).trans (h5 j)⟩
theorem RowW.lo (h : RowW w B ao cap ys) : ∀ d ∈ blk ao, B ≤ d ∧ d < w.heap.size := by
  intro d hd
  rcases h.at_ with ⟨rfl, _⟩ | ⟨g, off, rfl, h1, h2, _⟩
  · cases hd
  · simp [blk] at hd
    subst hd
    exact ⟨h1, h2⟩
theorem RowW.tail {y : Int} (h : RowW w B ao cap (y :: ys)) : ∃ g off, ao = some ⟨g, off, none⟩ ∧ w.cell? ⟨g, off, none⟩ = some (.int .i64 y) ∧ 0 < cap ∧
    RowW w B (if cap = 1 then some ⟨g, off, none⟩ else some ⟨g, off + 1, none⟩) (cap - 1) ys := by
  have hle := h.le
  rw [List.length_cons] at hle
  rcases h.at_ with ⟨_, e, _⟩ | ⟨g, off, rfl, h1, h2, h3, h4, h5⟩
  · cases e
  · refine ⟨g, off, rfl, h3 0 y rfl, by omega, by omega, by have := h.cm; omega, Or.inr ?_⟩
    by_cases e : cap = 1
    · have hy : ys = [] := List.eq_nil_of_length_eq_zero (by omega)
      subst hy
      rw [if_pos e]
      exact ⟨g, off, rfl, h1, h2, fun i x hi => by simp at hi, fun j hj => by omega, h5⟩
    · rw [if_neg e]
      refine ⟨g, off + 1, rfl, h1, h2, fun i x hi => ?_, fun j hj => ?_, h5⟩
      · have := h3 (i + 1) x (by simpa using hi)
        rw [show off + 1 + i = off + (i + 1) by omega]; exact this
      · have := h4 (j + 1) (by omega)
        rw [show off + 1 + j = off + (j + 1) by omega]; exact this

/-- w' is w but for one row, and for new blocks. -/
structure Gx (w w' : World) (ao : Option Addr) : Prop where
  os : w'.os = w.os
  tape : w'.tape = w.tape
  output : w'.output = w.output
  size : w.heap.size ≤ w'.heap.size
  block : ∀ k, k < w.heap.size → k ∉ blk ao → w'.heap[k]? = w.heap[k]?
theorem Gx.of_G (h : G w w') : Gx w w' ao := ⟨h.os, h.tape, h.output, h.size, fun k hk _ => h.block k hk⟩

/-- What append leaves of the row. -/
def App (w w' : World) (B : Nat) (ao ao' : Option Addr) (cap' : Nat) (ys' : List Int) : Prop := RowW w' B ao' cap' ys' ∧ (blk ao' = blk ao ∨ blk ao' = [w.heap.size]) ∧ Gx w w' ao

theorem app_new (hB : B ≤ w.heap.size) (v : Int) (cur : Array Value) (hm : cur.size ≤ maxLen) (hl : ys.length + 1 ≤ cur.size) (hc : ∀ (i : Nat) (x : Int), (ys ++ [v])[i]? = some x → cur[i]? = some (Value.int .i64 x)) :
    App w (w.drew.alloc (.cells cur 2)) B ao (some ⟨w.heap.size, 0, none⟩) cur.size (ys ++ [v]) := by
  have hcell : ∀ i, (w.drew.alloc (.cells cur 2)).cell? ⟨w.heap.size, 0 + i, none⟩ = cur[i]? := fun i => by
    rw [Nat.zero_add]
    exact World.cell?_alloc_new w.drew cur 2 i
  refine ⟨⟨by simp; omega, hm, Or.inr ⟨w.heap.size, 0, rfl, hB, by rw [World.size_alloc]; show w.heap.size < w.heap.size + 1; omega, fun i x hi => (hcell i).trans (hc i x hi), fun j hj => ?_, fun j => fz_new w.drew _ _ j⟩⟩, Or.inr rfl, Gx.of_G ((G.refl w).drew.more _)⟩
  rw [hcell, Array.getElem?_eq_getElem hj]
  rfl

/-- append of one number, in whatever world. -/
theorem run_app (ty : TypeId) (hr : RowW w B ao cap ys) (hB : B ≤ w.heap.size) (xb c : Nat) (v : Int) (hx : w.cell? ⟨xb, 0, none⟩ = some (.int .i64 v)) (hn : ys.length ≤ 1000) :
    ∃ ao' cap' w', (Builtin.append_ #[26, 26] ty #[.slice ao ys.length cap, .slice (some ⟨xb, 0, none⟩) 1 c]).run Tryz.prog w = .ok (.slice ao' (ys.length + 1) cap') w' ∧ App w w' B ao ao' cap' (ys ++ [v]) := by
  obtain ⟨i0, hi0, hz0, hz1, hz2⟩ := info_parts info_int64
  have hs : Src Tryz.prog i0.size 26 (.slice (some ⟨xb, 0, none⟩) 1 c) 1 [.int .i64 v] w := Src.ofSlice w Tryz.underlying26 ⟨xb, 0, none⟩ 1 c [.int .i64 v] (by rw [hz1]; rfl) (fun j u hj => by
    match j, hj with
    | 0, hj =>
      simp at hj
      subst hj
      simpa [Addr.add] using hx) (fun u hu => by simp at hu; subst hu; rfl)
  have hgrow : ∀ (base : Option Addr) (sCap : Nat) (olds : List Value), sCap < ys.length + 1 → (Builtin.firstCells i0.size ys.length (.slice base ys.length sCap)).run Tryz.prog w.drew = .ok olds.toArray w.drew → olds = ys.map (fun x => Value.int .i64 x) →
      ∃ ao' cap' w', (Builtin.append_ #[26, 26] ty #[.slice base ys.length sCap, .slice (some ⟨xb, 0, none⟩) 1 c]).run Tryz.prog w = .ok (.slice ao' (ys.length + 1) cap') w' ∧ App w w' B ao ao' cap' (ys ++ [v]) := by
    rintro base sCap olds hc ho rfl
    have hfit : Builtin.nextslicecap (ys.length + 1) sCap * i0.bytes ≤ 281474976710656 := by rw [hz2]; exact growslice_fits hc (by omega)
    have hrun := run_append_grow_src (P := Tryz.prog) w 26 26 ty 2 i0 (.int .i64 0) Tryz.underlying26 hi0 hz0 base ys.length sCap _ ho _ 1 _ hs hc (by omega) hfit
    have hge := grownCap_ge w (ys.length + 1) sCap 2
    have hle := grownCap_le_maxLen w (ys.length + 1) sCap 2 (by unfold maxLen; omega)
    have hsize : ((ys.map (fun x => Value.int .i64 x) ++ [Value.int .i64 v]).toArray ++ Builtin.zeroCells (Value.int .i64 0).cells (grownCap w (ys.length + 1) sCap 2 - (ys.length + 1))).size = grownCap w (ys.length + 1) sCap 2 := by
      rw [Array.size_append, size_zeroCells]
      simp [Value.cells]
      omega
    have A := app_new (w := w) (ao := ao) hB v ((ys.map (fun x => Value.int .i64 x) ++ [Value.int .i64 v]).toArray ++ Builtin.zeroCells (Value.int .i64 0).cells (grownCap w (ys.length + 1) sCap 2 - (ys.length + 1))) (by rw [hsize]; exact hle) (by rw [hsize]; exact hge) (fun i x hi => by
      have hl : i < (ys ++ [v]).length := (List.getElem?_eq_some_iff.1 hi).1
      rw [Array.getElem?_append_left (by simpa using hl)]
      have e : ys.map (fun x => Value.int .i64 x) ++ [Value.int .i64 v] = (ys ++ [v]).map fun x => Value.int .i64 x := by simp
      rw [e, List.getElem?_toArray, List.getElem?_map, hi]
      rfl)
    rw [hsize] at A
    exact ⟨_, _, _, hrun, A⟩
  rcases hr.at_ with ⟨rfl, rfl, rfl⟩ | ⟨g, off, rfl, h1, h2, h3, h4, h5⟩
  · exact hgrow none 0 [] (by simp) (run_firstCells_none _ _ _ _ _) rfl
  · by_cases hroom : ys.length + 1 ≤ cap
    · have hrun := run_append_room_src (P := Tryz.prog) w 26 26 ty 2 i0 Tryz.underlying26 hi0 g off ys.length cap _ 1 _ hs hroom (fun j hj => by
        simp at hj
        subst hj
        rw [hz1, Nat.mul_one, Nat.add_zero]
        exact h4 _ (by omega)) (fun j _ => h5 _)
      rw [hz1, Nat.mul_one] at hrun
      have e0 : w.setCells g (off + ys.length) [.int .i64 v] = w.setCell ⟨g, off + ys.length, none⟩ (.int .i64 v) := rfl
      rw [e0] at hrun
      have hold := h4 ys.length (by omega)
      obtain ⟨u, hu⟩ := Option.isSome_iff_exists.1 hold
      refine ⟨_, _, _, hrun, ⟨by simp; omega, hr.cm, Or.inr ⟨g, off, rfl, h1, by rw [World.size_setCell]; exact h2, fun i x hi => ?_, fun j hj => ?_, fun j => by rw [World.frozen?_setCell]; exact h5 j⟩⟩, Or.inl rfl, ?_⟩
      · rcases snoc_get hi with ⟨e, hi⟩ | ⟨e, rfl⟩
        · rw [cell_other _ (by omega)]; exact h3 i x hi
        · subst e; exact cell_same _ hu
      · by_cases e : j = ys.length
        · subst e; rw [cell_same _ hu]; rfl
        · rw [cell_other _ (by omega)]; exact h4 j hj
      · refine ⟨rfl, rfl, rfl, by rw [World.size_setCell]; exact Nat.le_refl _, fun k hk hb => heap_set _ _ (fun e => hb (by simp [blk]; exact e))⟩
    · refine hgrow (some ⟨g, off, none⟩) cap _ (by omega) (run_firstCells_some w.drew i0.size ys.length ⟨g, off, none⟩ ys.length cap (ys.map fun x => Value.int .i64 x) (by rw [hz1]; simp) (fun j u hj => ?_)) rfl
      rw [List.getElem?_map] at hj
      obtain ⟨x, hx1, rfl⟩ := Option.map_eq_some_iff.1 hj
      rw [Addr.add_lit]
      exact h3 j x hx1

/-- The same, at the operation. -/
theorem wpl_app {ops : Array Oper} {rest : List Oper} {o : Oper} {a : Act} {Q : Exit → Act → World → Prop} (hgd : o.guard = none) (s x : Operand) (ho : o.op = .call { callee := .builtin .append, args := #[s, x], argTypes := #[26, 26] })
    (k m : Nat) (hk : ys.length = k) (hm : k + 1 = m) (hs : a.eval s = .slice ao k cap) (hr : RowW w B ao cap ys) (hB : B ≤ w.heap.size) (xb c : Nat) (v : Int) (hxe : a.eval x = .slice (some ⟨xb, 0, none⟩) 1 c) (hx : w.cell? ⟨xb, 0, none⟩ = some (.int .i64 v)) (hn : ys.length ≤ 1000)
    (h : ∀ ao' cap' w', App w w' B ao ao' cap' (ys ++ [v]) → wpList Tryz.prog ops Q rest (a.put o.dst (.slice ao' m cap')) w') : wpList Tryz.prog ops Q (o :: rest) a w := by
  subst hk
  subst hm
  refine wpList_plain hgd fun K hK => ?_
  obtain ⟨ao', cap', w', hrun, A⟩ := run_app o.type hr hB xb c v hx hn
  unfold Oper.wp execOp
  simp only [ho, resolve, invoke, builtin, Sem.run_bind, Sem.run_pure, Result.andThen_ok, List.map_toArray, List.map_cons, List.map_nil, hs, hxe, hrun]
  exact hK _ _ (h ao' cap' w' A)
end

/-- Numbers that can be read. -/
def IsI (w : World) (ao : Option Addr) (ys : List Int) : Prop := ys = [] ∨ ∃ g off, ao = some ⟨g, off, none⟩ ∧ g < w.heap.size ∧ ∀ i x, ys[i]? = some x → w.cell? ⟨g, off + i, none⟩ = some (.int .i64 x)
theorem IsI.g {w w' : World} {ao : Option Addr} {ys : List Int} (h : IsI w ao ys) (g : G w w') : IsI w' ao ys := by
  rcases h with h | ⟨b, off, h1, h2, h3⟩
  · exact Or.inl h
  · exact Or.inr ⟨b, off, h1, Nat.lt_of_lt_of_le h2 g.size, fun i x hi => g.cell (h3 i x hi)⟩
theorem IsI.at_ {w : World} {ao : Option Addr} {ys : List Int} (h : IsI w ao ys) {i : Nat} (hi : i < ys.length) : ∃ x g off, ys[i]? = some x ∧ ao = some ⟨g, off, none⟩ ∧ w.cell? ⟨g, off + i, none⟩ = some (.int .i64 x) := by
  rcases h with rfl | ⟨b, off, h1, h2, h3⟩
  · simp at hi
  · exact ⟨_, b, off, List.getElem?_eq_getElem hi, h1, h3 i _ (List.getElem?_eq_getElem hi)⟩
theorem RowW.is {w : World} {B cap : Nat} {ao : Option Addr} {ys : List Int} (h : RowW w B ao cap ys) : IsI w ao ys := by
  rcases h.at_ with ⟨_, h, _⟩ | ⟨g, off, h1, h2, h3, h4, _⟩
  · exact Or.inl h
  · exact Or.inr ⟨g, off, h1, h3, h4⟩

set_option maxHeartbeats 1000000 in
theorem nums_true (w : World) (ao bo : Option Addr) (ca cb n : Nat) (ys : List Int) (hl : ys.length = n) (hn : n ≤ 1000) (ha : Hid (IsI w ao ys)) (hb : Hid (IsI w bo ys)) :
    Calls Tryz.prog 17 #[.slice ao n ca, .slice bo n cb] w fun e w' => e = .returned (.bool true) ∧ G w w' := by
  have hnn : ((n : Int) != (n : Int)) = false := by simp
  go_enter Tryz.func17, Tryz.ntmps17
  go_wp2_with fail
  go_loopw [5] (fun c wr => ∃ j : Nat, j ≤ n ∧ c = .int .i64 j ∧ Hid (G w wr)) (fun c _ => n - (intOf c).toNat)
  case atStart => exact ⟨0, Nat.zero_le _, rfl, hide (G.refl _)⟩
  case round =>
    obtain ⟨j, hj, rfl, g⟩ := hrel
    by_cases hjn : j = n
    · subst hjn
      go_wp2_with fail
      go_ret
      exact ⟨rfl, unhide g⟩
    · have hjl : (j : Int) < (n : Int) := by omega
      obtain ⟨x, b1, o1, e1, rfl, y1⟩ := ((unhide ha).g (unhide g)).at_ (i := j) (by omega)
      obtain ⟨x', b2, o2, e2, rfl, y2⟩ := ((unhide hb).g (unhide g)).at_ (i := j) (by omega)
      obtain rfl : x = x' := Option.some.inj (e1.symm.trans e2)
      have hxx : (x != x) = false := by simp
      clear e1 e2
      go_wp2_with fail
      go_quiet (fail)
      go_wp2_with fail
      go_roundw
      case rel => exact ⟨j + 1, by omega, by go_num, hide ((unhide g).trans (G.drewN _ _))⟩
      case measure => simp [intOf]; omega
end Go.Proofs.YtinehimleldkdaaGreatDoor.Gy
