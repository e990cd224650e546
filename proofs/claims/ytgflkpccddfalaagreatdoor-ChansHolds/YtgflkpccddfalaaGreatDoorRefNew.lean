/- The contracts of the document's Arena: NewArena; a class is set. -/
import Derived.Test.YtgflkpccddfalaaGreatDoorRefMark
import Derived.Test.YtgflkpccddfalaaGreatDoorApartRows
namespace Go.Proofs.YtgflkpccddfalaaGreatDoor
set_option maxRecDepth 100000
open Go.ChangeShapes Go.WideShapes Go.ChangeAt Go.RowKit

/-- While NewArena goes on. -/
structure Nw (w wr : World) (rb : Nat) (co : Option Addr) (cc : Nat) (xs : List Int) : Prop where
  c0 : wr.cell? ⟨rb, 0, none⟩ = some (.slice co xs.length cc)
  c1 : wr.cell? ⟨rb, 1, none⟩ = some (.slice none 0 0)
  f0 : ∀ i, wr.frozen? ⟨rb, i, none⟩ = false
  row : RowI 3 wr w.heap.size co cc xs
  off : ∀ a, co = some a → a.block ≠ rb
  b0 : w.heap.size ≤ rb
  g : G w wr
theorem Nw.gr {w wr wr' : World} {rb : Nat} {co : Option Addr} {cc : Nat} {xs : List Int} (h : Nw w wr rb co cc xs) (g : G wr wr') : Nw w wr' rb co cc xs :=
  ⟨g.cell h.c0, g.cell h.c1, fun i => (World.frozen?_of_block (a := ⟨rb, i, none⟩) (g.block rb (World.block_lt_of_cell? _ _ h.c0))).trans (h.f0 i), h.row.grown g, h.off, h.b0, h.g.trans g⟩
theorem Nw.app {w wr w' : World} {rb : Nat} {co : Option Addr} {cc g cap' : Nat} {xs : List Int} {x : Int} (h : Nw w wr rb co cc xs)
    (hr : w'.ownsRow w.heap.size 3 1 (.slice (some ⟨g, 0, none⟩) (xs.length + 1) cap') (xs.length + 1) ((xs.map fun x => .int .i64 x) ++ [.int .i64 x]))
    (hg : wr.grownBy w' (Value.ownBlock (.slice co xs.length cc))) (hat : co = some ⟨g, 0, none⟩ ∨ g = wr.heap.size) :
    w'.cell? ⟨rb, 0, none⟩ = some (.slice co xs.length cc) ∧ w'.frozen? ⟨rb, 0, none⟩ = false ∧ Nw w (w'.setCell ⟨rb, 0, none⟩ (.slice (some ⟨g, 0, none⟩) (xs.length + 1) cap')) rb (some ⟨g, 0, none⟩) cap' (xs ++ [x]) := by
  have lt := World.block_lt_of_cell? _ _ h.c0
  have hgr : g ≠ rb := by
    rcases hat with e | e
    · exact h.off _ e
    · have : rb < wr.heap.size := lt
      omega
  have kb : w'.heap[rb]? = wr.heap[rb]? := hg.block rb lt (fun e => by obtain ⟨y, h1, h2⟩ := own_block e; exact h.off y h1 h2)
  have c0' := (World.cell?_of_block (a := ⟨rb, 0, none⟩) kb).trans h.c0
  have ra : RowI 3 w' w.heap.size (some ⟨g, 0, none⟩) cap' (xs ++ [x]) := row_app hr
  have gg : G w w' := ⟨hg.os.trans h.g.os, hg.tape.trans h.g.tape, hg.output.trans h.g.output, Nat.le_trans h.g.size hg.size, fun k hk => (hg.block k (Nat.lt_of_lt_of_le hk h.g.size) (fun e => by
    obtain ⟨y, h1, h2⟩ := own_block e
    have := (h.row.lt y h1).1
    omega)).trans (h.g.block k hk)⟩
  refine ⟨c0', (World.frozen?_of_block (a := ⟨rb, 0, none⟩) kb).trans (h.f0 0), ?_, ?_, ?_, ?_, ?_, h.b0, gg.set _ _ h.b0⟩
  · rw [cell_same _ c0', List.length_append]; rfl
  · rw [cell_other _ (by omega)]; exact (World.cell?_of_block (a := ⟨rb, 1, none⟩) kb).trans h.c1
  · intro i
    rw [World.frozen?_setCell]
    exact (World.frozen?_of_block (a := ⟨rb, i, none⟩) kb).trans (h.f0 i)
  · refine ra.kept fun y hy => ?_
    injection hy with hy
    subst hy
    exact Below.heap_setCell _ _ _ _ hgr
  · intro y hy
    injection hy with hy
    subst hy
    exact hgr

theorem Nw.done {w wr : World} {rb : Nat} {co : Option Addr} {cc : Nat} {xs : List Int} (h : Nw w wr rb co cc xs) (hx : xs ≠ []) : ∃ cb, RefAt wr w.heap.size ⟨rb, cb, cc, none, 0⟩ xs [] ∧ G w wr := by
  obtain ⟨x, hx0⟩ : ∃ x, xs[0]? = some x := ⟨xs[0]'(List.length_pos_iff.2 hx), List.getElem?_eq_getElem _⟩
  obtain ⟨cb, rfl, _⟩ := h.row.get hx0
  obtain ⟨r1, r2, r3, r4, r5⟩ := row_of h.row
  have l1 := (h.row.lt _ rfl).2
  refine ⟨cb, ⟨h.c0, h.c1, h.f0, fun i z hz => r2 i _ (by rw [List.getElem?_map, hz]; rfl), r3, r4, Nat.zero_le _, Nat.zero_le _, fun i m hm => by simp at hm, (fun a ha => by cases ha), fun _ => ⟨rfl, rfl⟩, (fun m hm => by simp at hm), List.Pairwise.nil, h.b0, r1, World.block_lt_of_cell? _ _ h.c0, l1, fun e => h.off _ rfl e.symm⟩, h.g⟩

end Go.Proofs.YtgflkpccddfalaaGreatDoor
