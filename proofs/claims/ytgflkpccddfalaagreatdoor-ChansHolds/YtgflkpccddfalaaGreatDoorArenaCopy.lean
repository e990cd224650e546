/- The contract of an Arena's Copy. -/
import Derived.Test.YtgflkpccddfalaaGreatDoorArenaRow
namespace Go.Proofs.YtgflkpccddfalaaGreatDoor
set_option maxRecDepth 100000
open Go.RowKit Go.Maps Go.ChangeShapes Go.WideShapes Go.ChangeAt

/-- Block b of w holds the words of a, in a row with room for c, from block lo on. -/
structure WordsAt (w : World) (lo b c : Nat) (a : Ab) : Prop where
  lo : lo ≤ b
  wd : ∀ i : Nat, i < a.n * 64 → w.cell? ⟨b, i, none⟩ = some (.int .i64 (a.wd i))
  fz : ∀ i, w.frozen? ⟨b, i, none⟩ = false
  le : a.n * 64 ≤ c
  hi : c ≤ maxLen
/-- Block b of w holds the spans of a. -/
structure SpansAt (w : World) (lo b c : Nat) (a : Ab) : Prop where
  lo : lo ≤ b
  s0 : ∀ s, s < a.n → w.cell? ⟨b, s * 3, none⟩ = some (.int .i64 (a.cls s))
  s1 : ∀ s, s < a.n → w.cell? ⟨b, s * 3 + 1, none⟩ = some (.int .u64 (a.tk s : Int))
  s2 : ∀ s, s < a.n → w.cell? ⟨b, s * 3 + 2, none⟩ = some (.int .u64 (a.mr s : Int))
  fz : ∀ i, w.frozen? ⟨b, i, none⟩ = false
  le : a.n ≤ c
  hi : c ≤ maxLen

theorem WordsAt.G {w w' : World} {lo b c : Nat} {a : Ab} (h : WordsAt w lo b c a) (hn : 8 ≤ a.n) (g : G w w') : WordsAt w' lo b c a := by
  have hb := g.block b (World.block_lt_of_cell? w _ (h.wd 0 (by omega)))
  exact ⟨h.lo, fun i hi => (World.cell?_of_block hb).trans (h.wd i hi), fun i => (World.frozen?_of_block (a := ⟨b, i, none⟩) hb).trans (h.fz i), h.le, h.hi⟩
theorem SpansAt.G {w w' : World} {lo b c : Nat} {a : Ab} (h : SpansAt w lo b c a) (hn : 8 ≤ a.n) (g : G w w') : SpansAt w' lo b c a := by
  have hb := g.block b (World.block_lt_of_cell? w _ (h.s0 0 (by omega)))
  exact ⟨h.lo, fun i hi => (World.cell?_of_block hb).trans (h.s0 i hi), fun i hi => (World.cell?_of_block hb).trans (h.s1 i hi), fun i hi => (World.cell?_of_block hb).trans (h.s2 i hi), fun i => (World.frozen?_of_block (a := ⟨b, i, none⟩) hb).trans (h.fz i), h.le, h.hi⟩
theorem WordsAt.lt {w : World} {lo b c : Nat} {a : Ab} (h : WordsAt w lo b c a) (hn : 8 ≤ a.n) : b < w.heap.size := World.block_lt_of_cell? w _ (h.wd 0 (by omega))
theorem SpansAt.lt {w : World} {lo b c : Nat} {a : Ab} (h : SpansAt w lo b c a) (hn : 8 ≤ a.n) : b < w.heap.size := World.block_lt_of_cell? w _ (h.s0 0 (by omega))

/-- A row of the call's own: its cells, its block. -/
theorem row_of {w : World} {B : Nat} {e : TypeId} {size g n cap : Nat} {xs : List Value} (h : w.ownsRow B e size (.slice (some ⟨g, 0, none⟩) n cap) n xs) :
    B ≤ g ∧ (∀ (j : Nat) u, xs[j]? = some u → w.cell? ⟨g, j, none⟩ = some u) ∧ (∀ i, w.frozen? ⟨g, i, none⟩ = false) ∧ n ≤ cap ∧ cap ≤ maxLen := by
  rcases h.2 with ⟨e1, _⟩ | ⟨g', c', cur, e1, hB, hg, h1, h2, h3, h4⟩
  · cases e1
  · injection e1 with e1 _ e3
    injection e1 with e1
    injection e1 with e1
    subst e1
    subst e3
    refine ⟨hB, fun j u hj => ?_, fun i => ?_, h1, h2⟩
    · have := h.cells (g := g) rfl j u hj
      rw [Addr.add_lit, Nat.zero_add] at this
      exact this
    · simp [World.frozen?, hg]

/-- The words and the spans, as lists of cells. -/
def Ab.wordCells (a : Ab) : List Value := (List.range (a.n * 64)).map fun i : Nat => .int .i64 (a.wd i)
def Ab.spanCells (a : Ab) : List Value := (List.range (a.n * 3)).map fun i => if i % 3 = 0 then .int .i64 (a.cls (i / 3)) else if i % 3 = 1 then .int .u64 (a.tk (i / 3) : Int) else .int .u64 (a.mr (i / 3) : Int)
theorem Ab.wordCells_get (a : Ab) {i : Nat} (h : i < a.n * 64) : a.wordCells[i]? = some (.int .i64 (a.wd i)) := by simp [Ab.wordCells, h]
theorem Ab.spanCells_get (a : Ab) {s : Nat} (h : s < a.n) : a.spanCells[s * 3]? = some (.int .i64 (a.cls s)) ∧ a.spanCells[s * 3 + 1]? = some (.int .u64 (a.tk s : Int)) ∧ a.spanCells[s * 3 + 2]? = some (.int .u64 (a.mr s : Int)) := by
  have h0 : s * 3 < a.n * 3 := by omega
  have h1 : s * 3 + 1 < a.n * 3 := by omega
  have h2 : s * 3 + 2 < a.n * 3 := by omega
  have m1 : (s * 3 + 1) % 3 = 1 := by omega
  have m2 : (s * 3 + 2) % 3 = 2 := by omega
  have d0 : s * 3 / 3 = s := by omega
  have d1 : (s * 3 + 1) / 3 = s := by omega
  have d2 : (s * 3 + 2) / 3 = s := by omega
  unfold Ab.spanCells
  refine ⟨?_, ?_, ?_⟩
  · rw [List.getElem?_map, List.getElem?_range h0]; simp
  · rw [List.getElem?_map, List.getElem?_range h1]; simp [m1, d1]
  · rw [List.getElem?_map, List.getElem?_range h2]; simp [m2, d2]

/-- Where Copy has laid the new arena. -/
theorem copied {w w2 : World} {a : Ab} {lo1 lo2 b1 c1 b2 c2 : Nat} (n0 : 8 ≤ a.n) (g : G w w2) (h1 : WordsAt w2 lo1 b1 c1 a) (h2 : SpansAt w2 lo2 b2 c2 a) (hl1 : w.heap.size ≤ lo1) (hl2 : w.heap.size ≤ lo2) (hne : b1 ≠ b2) :
    AreAt (w2.alloc (.cells #[.slice (some ⟨b1, 0, none⟩) (a.n * 64) c1, .slice (some ⟨b2, 0, none⟩) a.n c2] 106)) w.heap.size ⟨w2.heap.size, b1, b2, c1, c2⟩ a ∧
    G w (w2.alloc (.cells #[.slice (some ⟨b1, 0, none⟩) (a.n * 64) c1, .slice (some ⟨b2, 0, none⟩) a.n c2] 106)) := by
  have k1 := h1.G n0 (G.alloc w2 (.cells #[.slice (some ⟨b1, 0, none⟩) (a.n * 64) c1, .slice (some ⟨b2, 0, none⟩) a.n c2] 106))
  have k2 := h2.G n0 (G.alloc w2 (.cells #[.slice (some ⟨b1, 0, none⟩) (a.n * 64) c1, .slice (some ⟨b2, 0, none⟩) a.n c2] 106))
  have l1 := h1.lt n0
  have l2 := h2.lt n0
  have hs := g.size
  have x1 := h1.lo
  have x2 := h2.lo
  refine ⟨⟨?_, ?_, k1.wd, k2.s0, k2.s1, k2.s2, k1.fz, k2.fz, hs, by show w.heap.size ≤ b1; omega, by show w.heap.size ≤ b2; omega, by show w2.heap.size ≠ b1; omega, by show w2.heap.size ≠ b2; omega, hne, k1.le, k2.le, k1.hi, k2.hi⟩, g.more _⟩
  · rw [World.cell?_alloc_new]; rfl
  · rw [World.cell?_alloc_new]; rfl

end Go.Proofs.YtgflkpccddfalaaGreatDoor
