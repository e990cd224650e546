/- Rows of plain things in memory, rows of rows; a module that came in. -/
import Derived.Test.YtnliooflpclcbaaGreatDoorCodeT
import Derived.Test.YtnliooflpclcbaaGreatDoorRows
import Derived.WalkKit
import Derived.WalkSpells
import Derived.WalkLawsBesides
import Derived.Deep.QuietTactic
import Derived.BigQuiet
import Derived.Handy
import Derived.OwnWalk
import Derived.Maps.AppendAt
import Derived.Deep.AppendSrc
import Derived.Deep.DeepAppendRoom
import Derived.Deep.Draws
import Derived.Deep.RegionLaw
import Derived.Deep.RegionWith
import Derived.RegionTactic
import Derived.ChangeAlike
import Derived.Below
import Derived.Carry
import Derived.OpenShut
import Derived.ProofKit
import Derived.Lib.SliceRun
import Derived.Deep.Strs
namespace Go.Proofs.YtnliooflpclcbaaGreatDoor
set_option maxRecDepth 100000
open Go.RowKit Go.Maps Go.ChangeShapes Go.WideShapes Go.ChangeAt Go.Deep

/-- What is kept while memory is made. -/
abbrev G (w w' : World) : Prop := Below w.heap.size w w'
theorem G.refl (w : World) : G w w := Below.refl _ w
theorem G.alloc (w : World) (o : Obj) : G w (w.alloc o) := (Below.refl _ _).alloc (Nat.le_refl _) o
theorem G.trans {a b c : World} (h : G a b) (k : G b c) : G a c := Below.trans h (Below.mono k h.size)
theorem G.more {a b : World} (h : G a b) (o : Obj) : G a (b.alloc o) := Below.alloc h h.size o
theorem G.drew {a b : World} (h : G a b) : G a b.drew := ⟨h.os, h.tape, h.output, h.size, h.block⟩
theorem G.drewN (w : World) (k : Nat) : G w (w.drewN k) := ⟨rfl, rfl, rfl, Nat.le_refl _, fun _ _ => rfl⟩
theorem G.cell {w w' : World} (g : G w w') {x : Addr} {v : Value} (h : w.cell? x = some v) : w'.cell? x = some v :=
  (World.cell?_of_block (g.block _ (World.block_lt_of_cell? w _ h))).trans h

/-- These cells lie one behind the other. -/
def CellsAt (w : World) (b off : Nat) (cs : List Value) : Prop := ∀ j v, cs[j]? = some v → w.cell? ⟨b, off + j, none⟩ = some v
/-- A thing of so many cells. -/
structure El (α : Type) where
  sz : Nat
  cs : World → α → List Value → Prop
structure El.Ok {α : Type} (E : El α) : Prop where
  pos : 0 < E.sz
  len : ∀ w a cs, E.cs w a cs → cs.length = E.sz
  g : ∀ w w' a cs, E.cs w a cs → (∀ b, b < w.heap.size → w'.heap[b]? = w.heap[b]?) → w.heap.size ≤ w'.heap.size → E.cs w' a cs
/-- The things l, one behind the other, at ao. -/
def RowAt {α : Type} (E : El α) (w : World) (ao : Option Addr) (n c : Nat) (l : List α) : Prop :=
  l.length = n ∧ n ≤ maxLen ∧ (ao = none → c = 0) ∧ (n = 0 ∨ ∃ b off, ao = some ⟨b, off, none⟩ ∧ b < w.heap.size ∧ ∀ (i : Nat) (a : α), l[i]? = some a → ∃ cs, E.cs w a cs ∧ CellsAt w b (off + i * E.sz) cs)

theorem CellsAt.kept {w w' : World} {b off : Nat} {cs : List Value} (h : CellsAt w b off cs) (e : w'.heap[b]? = w.heap[b]?) : CellsAt w' b off cs :=
  fun j v hv => (World.cell?_of_block e).trans (h j v hv)
theorem RowAt.kept {α : Type} {E : El α} (ok : E.Ok) {w w' : World} {ao : Option Addr} {n c : Nat} {l : List α} (h : RowAt E w ao n c l) (g : ∀ b, b < w.heap.size → w'.heap[b]? = w.heap[b]?) (hs : w.heap.size ≤ w'.heap.size) : RowAt E w' ao n c l := by
  refine ⟨h.1, h.2.1, h.2.2.1, ?_⟩
  rcases h.2.2.2 with h0 | ⟨b, off, e, hb, hc⟩
  · exact Or.inl h0
  · refine Or.inr ⟨b, off, e, by omega, fun i a hi => ?_⟩
    obtain ⟨cs, h1, h2⟩ := hc i a hi
    exact ⟨cs, ok.g w w' a cs h1 g hs, h2.kept (g b hb)⟩
theorem RowAt.g {α : Type} {E : El α} (ok : E.Ok) {w w' : World} {ao : Option Addr} {n c : Nat} {l : List α} (h : RowAt E w ao n c l) (g : G w w') : RowAt E w' ao n c l :=
  h.kept ok (fun b hb => g.block b hb) g.size
theorem RowAt.nil {α : Type} {E : El α} (w : World) : RowAt E w none 0 0 ([] : List α) := ⟨rfl, Nat.zero_le _, fun _ => rfl, Or.inl rfl⟩

/-- Shapes, bools, numbers, cases, instructions, functions. -/
def elSp : El Sp := ⟨3, fun _ s cs => cs = [.int .i64 s.k, .int .i64 s.f, .int .u64 (s.m : Int)]⟩
def elB : El Bool := ⟨1, fun _ s cs => cs = [.bool s]⟩
def elI : El Int := ⟨1, fun _ s cs => cs = [.int .i64 s]⟩
def elU : El Nat := ⟨1, fun _ s cs => cs = [.int .u64 (s : Int)]⟩
def elCa : El Ca := ⟨4, fun _ s cs => cs = [.int .i64 s.k, .int .i64 s.c, .int .i64 s.v, .int .i64 s.t]⟩
def elIn : El In := ⟨5, fun _ s cs => cs = [.int .i64 s.op, .int .i64 s.a, .int .i64 s.b, .int .i64 s.c, .int .i64 s.d]⟩
/-- A function's seven cells, and what lies behind them. -/
def FnCells (w : World) (f : Fn) (cs : List Value) : Prop := ∃ ko kc io ic mo mc, cs = [.int .i64 f.p, .int .i64 f.c, .int .i64 f.s, .int .i64 f.r, .slice ko f.ks.length kc, .slice io f.is.length ic, .slice mo f.ms.length mc]
  ∧ RowAt elB w ko f.ks.length kc f.ks ∧ RowAt elIn w io f.is.length ic f.is ∧ RowAt elU w mo f.ms.length mc f.ms
def elFn : El Fn := ⟨7, FnCells⟩
theorem okSp : elSp.Ok := ⟨by decide, fun _ _ _ h => by rw [show _ = _ from h]; rfl, fun _ _ _ _ h _ _ => h⟩
theorem okB : elB.Ok := ⟨by decide, fun _ _ _ h => by rw [show _ = _ from h]; rfl, fun _ _ _ _ h _ _ => h⟩
theorem okI : elI.Ok := ⟨by decide, fun _ _ _ h => by rw [show _ = _ from h]; rfl, fun _ _ _ _ h _ _ => h⟩
theorem okU : elU.Ok := ⟨by decide, fun _ _ _ h => by rw [show _ = _ from h]; rfl, fun _ _ _ _ h _ _ => h⟩
theorem okCa : elCa.Ok := ⟨by decide, fun _ _ _ h => by rw [show _ = _ from h]; rfl, fun _ _ _ _ h _ _ => h⟩
theorem okIn : elIn.Ok := ⟨by decide, fun _ _ _ h => by rw [show _ = _ from h]; rfl, fun _ _ _ _ h _ _ => h⟩
theorem okFn : elFn.Ok := by
  refine ⟨by decide, ?_, ?_⟩
  · rintro w a cs ⟨ko, kc, io, ic, mo, mc, e, _⟩
    rw [e]; rfl
  · rintro w w' a cs ⟨ko, kc, io, ic, mo, mc, e, h1, h2, h3⟩ g hs
    exact ⟨ko, kc, io, ic, mo, mc, e, h1.kept okB g hs, h2.kept okIn g hs, h3.kept okU g hs⟩

/-- A module that lies there. -/
def ModAt (w : World) (v : Value) (m : Md) : Prop := ∃ so sc go gc co cc ao ac fo fc, v = .agg #[.slice so m.sh.length sc, .slice go m.gl.length gc, .slice co m.co.length cc, .slice ao m.ca.length ac, .slice fo m.fn.length fc, .int .i64 m.main]
  ∧ RowAt elSp w so m.sh.length sc m.sh ∧ RowAt elB w go m.gl.length gc m.gl ∧ RowAt elI w co m.co.length cc m.co ∧ RowAt elCa w ao m.ca.length ac m.ca ∧ RowAt elFn w fo m.fn.length fc m.fn
theorem ModAt.g {w w' : World} {v : Value} {m : Md} (h : ModAt w v m) (g : G w w') : ModAt w' v m := by
  obtain ⟨so, sc, go, gc, co, cc, ao, ac, fo, fc, e, h1, h2, h3, h4, h5⟩ := h
  exact ⟨so, sc, go, gc, co, cc, ao, ac, fo, fc, e, h1.g okSp g, h2.g okB g, h3.g okI g, h4.g okCa g, h5.g okFn g⟩
end Go.Proofs.YtnliooflpclcbaaGreatDoor
