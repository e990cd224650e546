/- FreshSends: rows of literals; what its module is, plain. -/
import Derived.Test.YtiangegoglfpeaaDoorMfN
namespace Go.Proofs.YtiangegoglfpeaaDoor
set_option maxRecDepth 100000
open Go.RowKit Go.Maps Go.ChangeShapes Go.WideShapes Go.ChangeAt Go.Deep

def allocs (x : World) (l : List Obj) : World := l.foldl World.alloc x
theorem allocs_G : ∀ (l : List Obj) (x : World), G x (allocs x l) ∧ (allocs x l).heap.size = x.heap.size + l.length
  | [], x => ⟨G.refl x, rfl⟩
  | o :: l, x => by
    obtain ⟨h1, h2⟩ := allocs_G l (x.alloc o)
    refine ⟨(G.alloc x o).trans h1, ?_⟩
    show (allocs (x.alloc o) l).heap.size = _
    rw [h2, World.size_alloc, List.length_cons]
    omega
theorem allocs_get : ∀ (l : List Obj) (x : World) (i : Nat) (o : Obj), l[i]? = some o → (allocs x l).heap[x.heap.size + i]? = some o
  | [], x, i, o, h => by simp at h
  | p :: l, x, 0, o, h => by
    simp at h
    subst h
    rw [Nat.add_zero]
    exact ((allocs_G l (x.alloc p)).1.block _ (by rw [World.size_alloc]; omega)).trans (heap_alloc_new x p)
  | p :: l, x, i + 1, o, h => by
    have := allocs_get l (x.alloc p) i o (by simpa using h)
    rw [World.size_alloc] at this
    rw [show x.heap.size + (i + 1) = x.heap.size + 1 + i by omega]
    exact this
theorem row_at {α : Type} {E : El α} (x : World) (b : Nat) (cs : Array Value) (t : TypeId) (hb : x.heap[b]? = some (.cells cs t (0, 0))) (l : List α) (n c : Nat) (hn : l.length = n) (hl : n ≤ 1000) (hc : ∀ i a, l[i]? = some a → ∃ d, E.cs x a d ∧ ∀ q u, d[q]? = some u → cs[i * E.sz + q]? = some u) : RowAt E x (some ⟨b, 0, none⟩) n c l := by
  have hlt : b < x.heap.size := by
    rcases Nat.lt_or_ge b x.heap.size with hh | hh
    · exact hh
    · rw [Array.getElem?_eq_none hh] at hb; cases hb
  refine ⟨hn, by unfold maxLen; omega, (fun e => by cases e), Or.inr ⟨b, 0, rfl, hlt, fun i a hi => ?_⟩⟩
  obtain ⟨d, h1, h2⟩ := hc i a hi
  refine ⟨d, h1, fun q u hq => ?_⟩
  rw [cell_of_row _ _ _ _ _ _ hb, Nat.zero_add]
  exact h2 q u hq
theorem rowIn_at (x : World) (b : Nat) (l : List In) (n c : Nat) (hn : l.length = n) (hl : n ≤ 1000) (hb : x.heap[b]? = some (.cells (insV l).toArray 37 (0, 0))) : RowAt elIn x (some ⟨b, 0, none⟩) n c l :=
  row_at x b _ _ hb l n c hn hl (fun i a hi => ⟨inV a, rfl, fun q u hq => by
    have := insV_get l i a q u hi hq
    simpa [elIn] using this⟩)
theorem rowB_at (x : World) (b : Nat) (l : List Bool) (n c : Nat) (hn : l.length = n) (hl : n ≤ 1000) (hb : x.heap[b]? = some (.cells (l.map Value.bool).toArray 4 (0, 0))) : RowAt elB x (some ⟨b, 0, none⟩) n c l :=
  row_at x b _ _ hb l n c hn hl (fun i a hi => ⟨[.bool a], rfl, fun q u hq => by
    match q, hq with
    | 0, hq =>
      cases hq
      simp [elB, hi]
    | q + 1, hq => simp at hq⟩)
/-- The module and the function of FreshSends. -/
def sdI (sv : Int) : List In := [⟨41, 0, 1, 0, 0⟩, ⟨36, 4, 1, sv, 0⟩, ⟨20, -1, 0, sv, 0⟩, ⟨35, 0, sv, 0, 0⟩, ⟨38, 2, sv, 0, 0⟩, ⟨23, 0, sv, 0, 0⟩]
def sdC (i : In) : List In := [⟨25, 0, 0, 0, 0⟩, i, ⟨25, 1, 0, 0, 0⟩, ⟨28, 0, 0, 1, 0⟩, ⟨22, -1, 0, 0, 0⟩]
def sdF (i : In) : Fn := ⟨0, 0, 5, 0, [true, true, true, true, true], sdC i, []⟩
def sdF0 : Fn := ⟨1, 0, 1, 0, [true], [], []⟩
def sdF1 : Fn := ⟨0, 1, 1, 0, [true], [], []⟩
def sdM (sv : Int) (i : In) : Md := ⟨[⟨0, 1, 1⟩], [true], [], [⟨1, 2, sv, 2⟩], [sdF0, sdF1, sdF i], 0⟩
def sdV (other : Bool) : Int := if other then 3 else 0
theorem sd_q : ∀ (how : Fin 6) (other : Bool), (evS (sdM (sdV other) ((sdI (sdV other)).getD how ⟨0, 0, 0, 0, 0⟩)) (sdF ((sdI (sdV other)).getD how ⟨0, 0, 0, 0, 0⟩)) 30).Q = [] := by decide +kernel
theorem sd_e : ∀ (how : Fin 6) (other : Bool), evP (sdM (sdV other) ((sdI (sdV other)).getD how ⟨0, 0, 0, 0, 0⟩)) (sdF ((sdI (sdV other)).getD how ⟨0, 0, 0, 0, 0⟩)) 30 3 = other := by decide +kernel
theorem sd_sp (how : Nat) (hh : how < 6) (other : Bool) (i : In) (hi : (sdI (sdV other))[how]? = some i) : spP (sdM (sdV other) i) (sdF i) 3 = other := by
  have e : (sdI (sdV other)).getD how ⟨0, 0, 0, 0, 0⟩ = i := by rw [List.getD_eq_getElem?_getD, hi]; rfl
  have h1 := sd_q ⟨how, hh⟩ other
  have h2 := sd_e ⟨how, hh⟩ other
  simp only [e] at h1 h2
  exact spP_ev _ _ 30 (by show (5 : Nat) ≠ 0; decide) h1 3 other h2
end Go.Proofs.YtiangegoglfpeaaDoor
