/- The contracts of a Table's Shape and Number. -/
import Derived.Test.YtgflkpccddfalaaGreatDoorHeadTab
namespace Go.Proofs.YtgflkpccddfalaaGreatDoor.Hd
set_option maxRecDepth 100000
open Go.RowKit Go.Maps Go.ChangeShapes Go.WideShapes Go.ChangeAt Go.Deep

theorem rowOf_get : ∀ (l : List Shp) (i : Nat) (s : Shp), l[i]? = some s → ∀ j, j < 3 → (rowOf l)[i * 3 + j]? = s.cells[j]?
  | [], i, s, h, j, hj => by simp at h
  | t :: r, 0, s, h, j, hj => by
    simp at h
    subst h
    unfold rowOf
    simp only [List.flatMap_cons]
    rw [List.getElem?_append_left (by simp [Shp.cells]; omega)]
    simp
  | t :: r, i + 1, s, h, j, hj => by
    have := rowOf_get r i s (by simpa using h) j hj
    unfold rowOf at *
    simp only [List.flatMap_cons]
    rw [List.getElem?_append_right (by simp [Shp.cells]; omega), ← this]
    congr 1
    simp [Shp.cells]
    omega

/-- The cells of the element i of a row of shapes. -/
theorem row_cells {w : World} {B : Nat} {l : List Shp} {g n cap : Nat} (h : w.ownsRow B 59 3 (.slice (some ⟨g, 0, none⟩) n cap) n (rowOf l)) {i : Nat} {s : Shp} (hi : l[i]? = some s) :
    w.cell? ⟨g, i * 3, none⟩ = some (.int .i64 s.k) ∧ w.cell? ⟨g, i * 3 + 1, none⟩ = some (.int .i64 s.f) ∧ w.cell? ⟨g, i * 3 + 2, none⟩ = some (.int .u64 (s.m : Int)) := by
  have hc := h.cells (g := g) rfl
  have e0 := hc (i * 3 + 0) _ ((rowOf_get l i s hi 0 (by omega)).trans rfl)
  have e1 := hc (i * 3 + 1) _ ((rowOf_get l i s hi 1 (by omega)).trans rfl)
  have e2 := hc (i * 3 + 2) _ ((rowOf_get l i s hi 2 (by omega)).trans rfl)
  rw [Addr.add_lit] at e0 e1 e2
  simp only [Nat.zero_add, Nat.add_zero] at e0 e1 e2
  exact ⟨e0, e1, e2⟩

set_option maxHeartbeats 400000 in
theorem shape_core (w : World) (tb g n cap : Nat) (i : Nat) (s : Shp) (c1 : w.cell? ⟨tb, 1, none⟩ = some (.slice (some ⟨g, 0, none⟩) n cap)) (hi : i < n) (hn : n ≤ maxLen)
    (e0 : w.cell? ⟨g, i * 3, none⟩ = some (.int .i64 s.k)) (e1 : w.cell? ⟨g, i * 3 + 1, none⟩ = some (.int .i64 s.f)) (e2 : w.cell? ⟨g, i * 3 + 2, none⟩ = some (.int .u64 (s.m : Int))) :
    Calls Tryz.prog 46 #[.pointer (some ⟨tb, 0, none⟩), .int .i64 (i : Int)] w fun e w' =>
      e = .returned (.tuple #[.agg #[.int .i64 s.k, .int .i64 s.f, .int .u64 (s.m : Int)], .int .i64 0]) ∧ G w w' := by
  have hin : inB (i : Int) 0 ((n : Int) - 1) = true := inB_iff.2 (by omega)
  have hn' : (n : Int) ≤ 9223372036854775807 := by unfold maxLen at hn; omega
  clear hn
  have htb : tb < w.heap.size := World.block_lt_of_cell? w _ c1
  have hgb : g < w.heap.size := World.block_lt_of_cell? w _ e0
  go_enter Tryz.func46, Tryz.ntmps46
  go_wp2_with (go_at_call 43; refine (within_any _ _ _ _).mono ?_; rintro e w' ⟨rfl, rfl⟩)
  go_returns
  refine ⟨rfl, ?_⟩
  go_grown

set_option maxHeartbeats 400000 in
theorem shape_none (w : World) (tb n cap : Nat) (ao : Option Addr) (i : Int) (c1 : w.cell? ⟨tb, 1, none⟩ = some (.slice ao n cap)) (hi : i < 0 ∨ n ≤ i) (hn : n ≤ maxLen) :
    Calls Tryz.prog 46 #[.pointer (some ⟨tb, 0, none⟩), .int .i64 i] w fun e w' =>
      e = .returned (.tuple #[.agg #[.int .i64 0, .int .i64 0, .int .u64 0], .int .i64 4]) ∧ G w w' := by
  have hin : inB i 0 ((n : Int) - 1) = false := by
    rw [← Bool.not_eq_true, inB_iff]
    omega
  have hn' : (n : Int) ≤ 9223372036854775807 := by unfold maxLen at hn; omega
  clear hn hi
  have htb : tb < w.heap.size := World.block_lt_of_cell? w _ c1
  go_enter Tryz.func46, Tryz.ntmps46
  go_wp2_with (go_at_call 43; refine (within_any _ _ _ _).mono ?_; rintro e w' ⟨rfl, rfl⟩)
  go_returns
  refine ⟨rfl, ?_⟩
  go_grown

theorem TabAt.len_le {w : World} {B tb mb : Nat} {ao : Option Addr} {cap : Nat} {l : List Shp} (h : TabAt w B tb mb ao cap l) : l.length ≤ maxLen := by
  rcases h.row.2 with ⟨_, hn⟩ | ⟨g, c, cur, e, hb, hg, h1, h2, _⟩
  · rw [hn]; exact Nat.zero_le _
  · omega

theorem shape_yes (w : World) (B tb mb : Nat) (ao : Option Addr) (cap : Nat) (l : List Shp) (h : TabAt w B tb mb ao cap l) (i : Nat) (s : Shp) (hi : l[i]? = some s) :
    Calls Tryz.prog 46 #[.pointer (some ⟨tb, 0, none⟩), .int .i64 (i : Int)] w fun e w' =>
      e = .returned (.tuple #[.agg #[.int .i64 s.k, .int .i64 s.f, .int .u64 (s.m : Int)], .int .i64 0]) ∧ G w w' := by
  have hil : i < l.length := (List.getElem?_eq_some_iff.1 hi).1
  have hrow := h.row
  rcases hrow.2 with ⟨_, hn⟩ | ⟨g, c, cur, e, _⟩
  · omega
  · injection e with e1 e2 e3
    subst e1
    obtain ⟨x0, x1, x2⟩ := row_cells hrow hi
    exact shape_core w tb g l.length cap i s h.cells.2.1 hil h.len_le x0 x1 x2

theorem shape_no (w : World) (B tb mb : Nat) (ao : Option Addr) (cap : Nat) (l : List Shp) (h : TabAt w B tb mb ao cap l) (i : Int) (hi : i < 0 ∨ l.length ≤ i) :
    Calls Tryz.prog 46 #[.pointer (some ⟨tb, 0, none⟩), .int .i64 i] w fun e w' =>
      e = .returned (.tuple #[.agg #[.int .i64 0, .int .i64 0, .int .u64 0], .int .i64 4]) ∧ G w w' :=
  shape_none w tb l.length cap ao i h.cells.2.1 hi h.len_le

end Go.Proofs.YtgflkpccddfalaaGreatDoor.Hd
