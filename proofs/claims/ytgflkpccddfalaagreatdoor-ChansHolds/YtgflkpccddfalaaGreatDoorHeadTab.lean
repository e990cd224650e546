/- A Table in memory, and the contracts of its calls. -/
import Derived.Test.YtgflkpccddfalaaGreatDoorHeadKeys
import Derived.Deep.RegionLaw
import Derived.RegionTactic
import Derived.ChangeAlike
namespace Go.Proofs.YtgflkpccddfalaaGreatDoor.Hd
set_option maxRecDepth 100000
open Go.RowKit Go.Maps Go.ChangeShapes Go.WideShapes Go.ChangeAt Go.Deep

/-- The cells of a row of shapes. -/
def rowOf (l : List Shp) : List Value := l.flatMap Shp.cells
theorem rowOf_len : ∀ l : List Shp, (rowOf l).length = l.length * 3
  | [] => rfl
  | s :: r => by
    have := rowOf_len r
    unfold rowOf at *
    simp [Shp.cells, this]
    omega
theorem rowOf_snoc (l : List Shp) (s : Shp) : rowOf (l ++ [s]) = rowOf l ++ s.cells := by simp [rowOf]

/-- Block tb of w is a Table that holds the shapes l by their numbers; its map is block mb, its row at ao with room for cap; all from block B on. -/
structure TabAt (w : World) (B tb mb : Nat) (ao : Option Addr) (cap : Nat) (l : List Shp) : Prop where
  blk : w.heap[tb]? = some (.cells #[.map (some mb), .slice ao l.length cap] 102 (0, 0))
  btb : B ≤ tb
  bmb : B ≤ mb
  row : w.ownsRow B 59 3 (.slice ao l.length cap) l.length (rowOf l)
  map : ∃ D : DataW Unit, w.ownsMap Tryz.prog 59 (plainElem Tryz.prog 3) mb l.length D ∧ (∀ s : Shp, s.Fit → Maps.has D s.key = decide (s ∈ l)) ∧
    (∀ s : Shp, s ∈ l → D.atKey s.key (.lit (.int .i64 0)) = .lit (.int .i64 (l.idxOf s : Int)))
  fit : ∀ s, s ∈ l → s.Fit

/-- w' is w but for what the table's own blocks hold, and for new blocks. -/
structure Turn (w w' : World) (tb mb : Nat) (ao : Option Addr) : Prop where
  os : w'.os = w.os
  tape : w'.tape = w.tape
  output : w'.output = w.output
  size : w.heap.size ≤ w'.heap.size
  block : ∀ k, k < w.heap.size → k ≠ tb → k ≠ mb → (∀ a, ao = some a → k ≠ a.block) → w'.heap[k]? = w.heap[k]?

theorem Turn.of_G {w w' : World} {tb mb : Nat} {ao : Option Addr} (h : G w w') : Turn w w' tb mb ao := ⟨h.os, h.tape, h.output, h.size, fun k hk _ _ _ => h.block k hk⟩
theorem Turn.below {w w' : World} {tb mb B : Nat} {ao : Option Addr} (h : Turn w w' tb mb ao) (hB : B ≤ w.heap.size) (h1 : B ≤ tb) (h2 : B ≤ mb) (h3 : ∀ a, ao = some a → B ≤ a.block) : Below B w w' :=
  ⟨h.os, h.tape, h.output, h.size, fun k hk => h.block k (by omega) (by omega) (by omega) (fun a ha => by have := h3 a ha; omega)⟩

theorem TabAt.aoB {w : World} {B tb mb : Nat} {ao : Option Addr} {cap : Nat} {l : List Shp} (h : TabAt w B tb mb ao cap l) : ∀ a, ao = some a → B ≤ a.block ∧ a.block < w.heap.size := by
  intro a ha
  subst ha
  exact h.row.lt a.block rfl

theorem TabAt.tlt {w : World} {B tb mb : Nat} {ao : Option Addr} {cap : Nat} {l : List Shp} (h : TabAt w B tb mb ao cap l) : tb < w.heap.size := (Array.getElem?_eq_some_iff.1 h.blk).1
theorem TabAt.mlt {w : World} {B tb mb : Nat} {ao : Option Addr} {cap : Nat} {l : List Shp} (h : TabAt w B tb mb ao cap l) : mb < w.heap.size := by
  obtain ⟨D, h1, _⟩ := h.map
  exact h1.lt

/-- The table stays what it is while other blocks are written and new ones are made. -/
theorem TabAt.kept {w w' : World} {B tb mb : Nat} {ao : Option Addr} {cap : Nat} {l : List Shp} (h : TabAt w B tb mb ao cap l)
    (h1 : w'.heap[tb]? = w.heap[tb]?) (h2 : w'.heap[mb]? = w.heap[mb]?) (h3 : ∀ a, ao = some a → w'.heap[a.block]? = w.heap[a.block]?) : TabAt w' B tb mb ao cap l := by
  refine ⟨h1.trans h.blk, h.btb, h.bmb, ?_, ?_, h.fit⟩
  · refine ⟨h.row.1, ?_⟩
    rcases h.row.2 with hn | ⟨g, c, cur, e, hb, hg, rest⟩
    · exact Or.inl hn
    · refine Or.inr ⟨g, c, cur, e, hb, ?_, rest⟩
      have : ao = some ⟨g, 0, none⟩ := by injection e
      exact (h3 _ this).trans hg
  · obtain ⟨D, ⟨es, clock, hb, r⟩, hD⟩ := h.map
    exact ⟨D, ⟨es, clock, h2.trans hb, r⟩, hD⟩

theorem TabAt.grown {w w' : World} {B tb mb : Nat} {ao : Option Addr} {cap : Nat} {l : List Shp} (h : TabAt w B tb mb ao cap l) (g : G w w') : TabAt w' B tb mb ao cap l :=
  h.kept (g.block _ h.tlt) (g.block _ h.mlt) (fun a ha => g.block _ (h.aoB a ha).2)

theorem TabAt.cells {w : World} {B tb mb : Nat} {ao : Option Addr} {cap : Nat} {l : List Shp} (h : TabAt w B tb mb ao cap l) :
    w.cell? ⟨tb, 0, none⟩ = some (.map (some mb)) ∧ w.cell? ⟨tb, 1, none⟩ = some (.slice ao l.length cap) ∧ w.frozen? ⟨tb, 1, none⟩ = false := by
  have hb := h.blk
  simp [World.cell?, World.frozen?, hb]

/-! ### New -/
set_option maxHeartbeats 400000 in
theorem new_any (w : World) :
    Calls Tryz.prog 40 #[] w fun e w' => e = .returned (.pointer (some ⟨w.heap.size + 1, 0, none⟩)) ∧ w' = (w.alloc (.map #[] 0)).alloc (.cells #[.map (some w.heap.size), .slice none 0 0] 102) := by
  have hmm := @run_makeMap Tryz.prog
  go_enter Tryz.func40, Tryz.ntmps40
  go_wp2
  go_ret
  exact ⟨rfl, rfl⟩

theorem tab_new (w : World) (B : Nat) (hB : B ≤ w.heap.size) : TabAt ((w.alloc (.map #[] 0)).alloc (.cells #[.map (some w.heap.size), .slice none 0 0] 102)) B (w.heap.size + 1) w.heap.size none 0 [] where
  blk := by
    have := heap_alloc_new (w.alloc (.map #[] 0)) (.cells #[.map (some w.heap.size), .slice none 0 0] 102)
    rw [World.size_alloc] at this
    exact this
  btb := by omega
  bmb := hB
  row := World.ownsRow_nil _ _ _ _
  map := ⟨.map [], (World.ownsMap_made w _ _ _).alloc _, fun s _ => by simp [Maps.has_eq], fun s hs => by cases hs⟩
  fit := fun s hs => by cases hs

/-! ### Len, Shape -/
end Go.Proofs.YtgflkpccddfalaaGreatDoor.Hd
