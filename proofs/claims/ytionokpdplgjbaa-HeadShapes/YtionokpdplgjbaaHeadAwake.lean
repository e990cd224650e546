/- awake() answers true. -/
import Derived.Test.YtionokpdplgjbaaHeadTab4
namespace Go.Proofs.Ytionokpdplgjbaa
open Go.RowKit Go.Maps Go.ChangeShapes Go.WideShapes Go.ChangeAt Go.Deep

def sA : Shp := ⟨1, 0, 0⟩
def sB : Shp := ⟨0, 2, 2⟩
theorem sA_fit : sA.Fit := ⟨by decide, by decide, by decide⟩
theorem sB_fit : sB.Fit := ⟨by decide, by decide, by decide⟩

/-- A block of three cells. -/
def Box3 (w : World) (b : Nat) (x y z : Value) (t : TypeId) : Prop := w.heap[b]? = some (.cells #[x, y, z] t (0, 0))
theorem Box3.cells {w : World} {b : Nat} {x y z : Value} {t : TypeId} (h : Box3 w b x y z t) :
    w.cell? ⟨b, 0, none⟩ = some x ∧ w.cell? ⟨b, 1, none⟩ = some y ∧ w.cell? ⟨b, 2, none⟩ = some z ∧ b < w.heap.size :=
  ⟨by simp [World.cell?, show w.heap[b]? = _ from h], by simp [World.cell?, show w.heap[b]? = _ from h], by simp [World.cell?, show w.heap[b]? = _ from h], (Array.getElem?_eq_some_iff.1 h).1⟩
theorem Box3.below {w w' : World} {b B : Nat} {x y z : Value} {t : TypeId} (h : Box3 w b x y z t) (g : Below B w w') (hb : b < B) : Box3 w' b x y z t := (g.block b hb).trans h
theorem Box3.G {w w' : World} {b : Nat} {x y z : Value} {t : TypeId} (h : Box3 w b x y z t) (g : G w w') : Box3 w' b x y z t := h.below g h.cells.2.2.2

theorem aw_pack (w : World) : Calls Try.prog 9 #[.agg #[.int .i64 2, .int .i64 0, .int .i64 1]] w fun e w' => e = .returned (.tuple #[.int .i64 1026, .int .i64 0]) ∧ w' = w.alloc (.cells #[.int .i64 2, .int .i64 0, .int .i64 1] 27) := pack_any 2 0 1 w
theorem aw_unpack (w : World) : Calls Try.prog 10 #[.int .i64 1026] w fun e w' => e = .returned (.tuple #[.agg #[.int .i64 2, .int .i64 0, .int .i64 1], .int .i64 0]) ∧ G w w' := unpack_any 1026 w

/-- What awake knows of the world from the table's making on: the table, and the two boxes (the head's at b, the shape's at b + 3). -/
structure Aw (w wk : World) (b : Nat) (ao : Option Addr) (cap : Nat) (l : List Shp) : Prop where
  tab : TabAt wk b (b + 1 + 1) (b + 1) ao cap l
  hd : Box3 wk b (.int .i64 2) (.int .i64 0) (.int .i64 1) 27
  sh : Box3 wk (b + 1 + 1 + 1) (.int .i64 0) (.int .i64 2) (.int .u64 2) 32
  apart : ∀ a, ao = some a → a.block ≠ b ∧ a.block ≠ b + 1 + 1 + 1
  le : w.heap.size ≤ b
  below : Below w.heap.size w wk

theorem Aw.facts {w wk : World} {b : Nat} {ao : Option Addr} {cap : Nat} {l : List Shp} (h : Aw w wk b ao cap l) :
    wk.cell? ⟨b, 0, none⟩ = some (.int .i64 2) ∧ wk.cell? ⟨b, 1, none⟩ = some (.int .i64 0) ∧ wk.cell? ⟨b, 2, none⟩ = some (.int .i64 1) ∧
    wk.cell? ⟨b + 1 + 1 + 1, 0, none⟩ = some (.int .i64 0) ∧ wk.cell? ⟨b + 1 + 1 + 1, 1, none⟩ = some (.int .i64 2) ∧ wk.cell? ⟨b + 1 + 1 + 1, 2, none⟩ = some (.int .u64 2) ∧ b + 1 + 1 + 1 < wk.heap.size := by
  obtain ⟨a0, a1, a2, _⟩ := h.hd.cells
  obtain ⟨b0, b1, b2, b3⟩ := h.sh.cells
  exact ⟨a0, a1, a2, b0, b1, b2, b3⟩

theorem Aw.G {w wk wl : World} {b : Nat} {ao : Option Addr} {cap : Nat} {l : List Shp} (h : Aw w wk b ao cap l) (g : G wk wl) : Aw w wl b ao cap l :=
  ⟨h.tab.grown g, h.hd.G g, h.sh.G g, h.apart, h.le, h.below.trans (g.mono h.below.size)⟩

theorem Aw.turn {w wk wl : World} {b : Nat} {ao ao' : Option Addr} {cap cap' : Nat} {l l' : List Shp} (h : Aw w wk b ao cap l) (t : TabAt wl b (b + 1 + 1) (b + 1) ao' cap' l') (u : Turn wk wl (b + 1 + 1) (b + 1) ao)
    (hl : ∀ a, ao' = some a → ao = some a ∨ wk.heap.size ≤ a.block) : Aw w wl b ao' cap' l' := by
  obtain ⟨_, _, _, h3⟩ := h.hd.cells
  obtain ⟨_, _, _, h4⟩ := h.sh.cells
  refine ⟨t, ?_, ?_, ?_, h.le, h.below.trans (u.below h.below.size (by have := h.le; omega) (by have := h.le; omega) (fun a ha => Nat.le_trans h.le (h.tab.aoB a ha).1))⟩
  · exact (u.block b h3 (by omega) (by omega) (fun a ha e => (h.apart a ha).1 e.symm)).trans h.hd
  · exact (u.block _ h4 (by omega) (by omega) (fun a ha e => (h.apart a ha).2 e.symm)).trans h.sh
  · intro a ha
    rcases hl a ha with h1 | h1
    · exact h.apart a h1
    · omega

/-- The start: the table has just been made, and the shape's box behind it. -/
theorem aw_start (w w1 : World) (h : Below w.heap.size w w1) :
    Aw w ((((w1.alloc (.cells #[.int .i64 2, .int .i64 0, .int .i64 1] 27)).alloc (.map #[] 0)).alloc (.cells #[.map (some (w1.heap.size + 1)), .slice none 0 0] 60)).alloc (.cells #[.int .i64 0, .int .i64 2, .int .u64 2] 32)) w1.heap.size none 0 [] := by
  have e0 : (w1.alloc (.cells #[.int .i64 2, .int .i64 0, .int .i64 1] 27)).heap.size = w1.heap.size + 1 := World.size_alloc _ _
  have t := tab_new (w1.alloc (.cells #[.int .i64 2, .int .i64 0, .int .i64 1] 27)) w1.heap.size (by omega)
  rw [e0] at t
  refine ⟨t.grown (G.alloc _ _), ?_, ?_, (fun a ha => by cases ha), h.size, ?_⟩
  · unfold Box3
    rw [_root_.Go.heap_alloc_old _ _ (by simp; omega), _root_.Go.heap_alloc_old _ _ (by simp; omega), _root_.Go.heap_alloc_old _ _ (by simp)]
    exact heap_alloc_new w1 _
  · unfold Box3
    have := heap_alloc_new (((w1.alloc (.cells #[.int .i64 2, .int .i64 0, .int .i64 1] 27)).alloc (.map #[] 0)).alloc (.cells #[.map (some (w1.heap.size + 1)), .slice none 0 0] 60)) (.cells #[.int .i64 0, .int .i64 2, .int .u64 2] 32)
    simp only [World.size_alloc] at this
    exact this
  · have := h.size
    go_grown

theorem aw_num (w wk : World) (b : Nat) (ao : Option Addr) (cap : Nat) (l l' : List Shp) (s : Shp) (q : Int) (h : Aw w wk b ao cap l) (hs : s.Fit) (hl : l.length < 65536) (hq : numV l s = q) (he : numE s = 0) (ha : addS l s = l') :
    Calls Try.prog 13 #[.pointer (some ⟨b + 1 + 1, 0, none⟩), .agg #[.int .i64 s.k, .int .i64 s.f, .int .u64 (s.m : Int)]] wk fun e w' =>
      e = .returned (.tuple #[.int .i64 q, .int .i64 0]) ∧ ∃ ao' cap', Aw w w' b ao' cap' l' := by
  subst hq ha
  have hb : b ≤ wk.heap.size := by have := h.hd.cells.2.2.2; omega
  refine (number_any wk b _ _ ao cap l s h.tab hs hl hb).mono ?_
  rintro e w' ⟨ao', cap', rfl, t, u, hla⟩
  exact ⟨by rw [he], ao', cap', h.turn t u hla⟩

theorem aw_num1 (w wk : World) (b : Nat) (ao : Option Addr) (cap : Nat) (h : Hid (Aw w wk b ao cap [])) :
    Calls Try.prog 13 #[.pointer (some ⟨b + 1 + 1, 0, none⟩), .agg #[.int .i64 1, .int .i64 0, .int .u64 0]] wk fun e w' =>
      e = .returned (.tuple #[.int .i64 0, .int .i64 0]) ∧ ∃ ao' cap', Aw w w' b ao' cap' [sA] :=
  aw_num w wk b ao cap [] [sA] sA 0 (unhide h) sA_fit (by decide) (by decide) (by decide) (by decide)
theorem aw_num2 (w wk : World) (b : Nat) (ao : Option Addr) (cap : Nat) (h : Hid (Aw w wk b ao cap [sA])) :
    Calls Try.prog 13 #[.pointer (some ⟨b + 1 + 1, 0, none⟩), .agg #[.int .i64 0, .int .i64 2, .int .u64 2]] wk fun e w' =>
      e = .returned (.tuple #[.int .i64 1, .int .i64 0]) ∧ ∃ ao' cap', Aw w w' b ao' cap' [sA, sB] :=
  aw_num w wk b ao cap [sA] [sA, sB] sB 1 (unhide h) sB_fit (by decide) (by decide) (by decide) (by decide)
theorem aw_num3 (w wk : World) (b : Nat) (ao : Option Addr) (cap : Nat) (h : Hid (Aw w wk b ao cap [sA, sB])) :
    Calls Try.prog 13 #[.pointer (some ⟨b + 1 + 1, 0, none⟩), .agg #[.int .i64 0, .int .i64 2, .int .u64 2]] wk fun e w' =>
      e = .returned (.tuple #[.int .i64 1, .int .i64 0]) ∧ ∃ ao' cap', Aw w w' b ao' cap' [sA, sB] :=
  aw_num w wk b ao cap [sA, sB] [sA, sB] sB 1 (unhide h) sB_fit (by decide) (by decide) (by decide) (by decide)
theorem aw_shape (w wk : World) (b : Nat) (ao : Option Addr) (cap : Nat) (h : Hid (Aw w wk b ao cap [sA, sB])) :
    Calls Try.prog 12 #[.pointer (some ⟨b + 1 + 1, 0, none⟩), .int .i64 1] wk fun e w' =>
      e = .returned (.tuple #[.agg #[.int .i64 0, .int .i64 2, .int .u64 2], .int .i64 0]) ∧ Aw w w' b ao cap [sA, sB] := by
  refine (shape_yes wk b _ _ ao cap [sA, sB] (unhide h).tab 1 sB rfl).mono ?_
  rintro e w' ⟨rfl, g⟩
  exact ⟨rfl, (unhide h).G g⟩
theorem aw_len (w wk : World) (b : Nat) (ao : Option Addr) (cap : Nat) (h : Hid (Aw w wk b ao cap [sA, sB])) :
    Calls Try.prog 19 #[.pointer (some ⟨b + 1 + 1, 0, none⟩)] wk fun e w' => e = .returned (.int .i64 2) ∧ w' = wk := len_any wk b _ _ ao cap [sA, sB] (unhide h).tab
theorem aw_holds1 (w wk : World) (b : Nat) (ao : Option Addr) (cap : Nat) (h : Hid (Aw w wk b ao cap [sA, sB])) :
    Calls Try.prog 20 #[.agg #[.int .i64 0, .int .i64 2, .int .u64 2], .int .i64 1, .int .i64 3] wk fun e w' => e = .returned (.bool true) ∧ Aw w w' b ao cap [sA, sB] := by
  refine (holds_any 0 2 2 1 3 wk (by omega) (by omega)).mono ?_
  rintro e w' ⟨rfl, g⟩
  exact ⟨rfl, (unhide h).G g⟩
theorem aw_holds0 (w wk : World) (b : Nat) (ao : Option Addr) (cap : Nat) (h : Hid (Aw w wk b ao cap [sA, sB])) :
    Calls Try.prog 20 #[.agg #[.int .i64 0, .int .i64 2, .int .u64 2], .int .i64 0, .int .i64 3] wk fun e w' => e = .returned (.bool false) ∧ Aw w w' b ao cap [sA, sB] := by
  refine (holds_any 0 2 2 0 3 wk (by omega) (by omega)).mono ?_
  rintro e w' ⟨rfl, g⟩
  exact ⟨rfl, (unhide h).G g⟩
theorem aw_good (w wk : World) (b : Nat) (ao : Option Addr) (cap : Nat) (h : Hid (Aw w wk b ao cap [sA, sB])) :
    Calls Try.prog 14 #[.agg #[.int .i64 0, .int .i64 2, .int .u64 2]] wk fun e w' => e = .returned (.bool true) ∧ Aw w w' b ao cap [sA, sB] := by
  refine (good_any 0 2 2 wk).mono ?_
  rintro e w' ⟨rfl, rfl⟩
  exact ⟨rfl, (unhide h).G (G.alloc _ _)⟩

set_option maxHeartbeats 2000000 in
set_option maxRecDepth 100000 in
theorem awake_true (w : World) : Calls Try.prog 8 #[] w fun e w' => e = .returned (.bool true) ∧ G w w' := by
  go_enter Try.func8, Try.ntmps8
  go_wp2_with fail
  refine (aw_pack _).mono ?_
  rintro e w1 ⟨rfl, rfl⟩
  go_wp2_with fail
  refine (aw_unpack _).mono ?_
  rintro e w1 ⟨rfl, g1⟩
  have A0 := hide (aw_start w w1 (G.trans (G.alloc _ _) g1))
  clear g1
  go_wp2_with fail
  refine (new_any _).mono ?_
  rintro e w2 ⟨rfl, rfl⟩
  go_wp2_with fail
  refine (aw_num1 w _ _ _ _ A0).mono ?_
  rintro e w2 ⟨rfl, ao2, cap2, A2⟩
  obtain ⟨x0, x1, x2, y0, y1, y2, hsz⟩ := A2.facts
  replace A2 := hide A2
  clear A0
  go_wp2_with fail
  refine (aw_num2 w _ _ _ _ A2).mono ?_
  rintro e w3 ⟨rfl, ao3, cap3, A3⟩
  clear x0 x1 x2 y0 y1 y2 hsz A2
  obtain ⟨x0, x1, x2, y0, y1, y2, hsz⟩ := A3.facts
  replace A3 := hide A3
  go_wp2_with fail
  refine (aw_num3 w _ _ _ _ A3).mono ?_
  rintro e w4 ⟨rfl, ao4, cap4, A4⟩
  clear x0 x1 x2 y0 y1 y2 hsz A3
  replace A4 := hide A4
  go_wp2_with fail
  refine (aw_shape w _ _ _ _ A4).mono ?_
  rintro e w5 ⟨rfl, A5⟩
  obtain ⟨x0, x1, x2, y0, y1, y2, hsz⟩ := A5.facts
  have hb5 : w1.heap.size < w5.heap.size := by omega
  have A6 := hide (A5.G (G.alloc _ (.cells #[.int .i64 0, .int .i64 2, .int .u64 2] 32)))
  clear A4 A5
  go_wp2_with fail
  refine (aw_len w _ _ _ _ A6).mono ?_
  rintro e w6 ⟨rfl, rfl⟩
  go_wp2_with fail
  refine (aw_holds1 w _ _ _ _ A6).mono ?_
  rintro e w7 ⟨rfl, A7⟩
  clear x0 x1 x2 y0 y1 y2 hsz hb5 A6
  obtain ⟨x0, x1, x2, y0, y1, y2, hsz⟩ := A7.facts
  replace A7 := hide A7
  go_wp2_with fail
  refine (aw_holds0 w _ _ _ _ A7).mono ?_
  rintro e w8 ⟨rfl, A8⟩
  clear x0 x1 x2 y0 y1 y2 hsz A7
  obtain ⟨x0, x1, x2, y0, y1, y2, hsz⟩ := A8.facts
  replace A8 := hide A8
  go_wp2_with fail
  refine (aw_good w _ _ _ _ A8).mono ?_
  rintro e w9 ⟨rfl, A9⟩
  clear x0 x1 x2 y0 y1 y2 hsz A8
  replace A9 := hide A9
  go_wp2_with fail
  go_ret
  exact ⟨rfl, (unhide A9).below⟩
end Go.Proofs.Ytionokpdplgjbaa
