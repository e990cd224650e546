/- A node in a box of the call's own; what is not in a map of bits. -/
import Derived.Test.YtnliooflpclcbaaGreatDoorLiveGx
import Derived.Test.YtnliooflpclcbaaGreatDoorLiveFlw
import Derived.Laws.Bits64
namespace Go.Proofs.YtnliooflpclcbaaGreatDoor
set_option maxRecDepth 100000
open Go.RowKit Go.Maps Go.ChangeShapes Go.WideShapes Go.ChangeAt Go.Deep

/-- All 64 bits; those that x has not. -/
def allU : Nat := 18446744073709551615
def notU (x : Nat) : Nat := 18446744073709551615 - x
theorem notU_lt (x : Nat) : notU x < 18446744073709551616 := by unfold notU; omega
theorem notU_bit (x s : Nat) (h : x < 18446744073709551616) : (notU x).testBit s = (decide (s < 64) && !x.testBit s) := by
  have e : notU x = 2 ^ 64 - (x + 1) := by unfold notU; omega
  rw [e, Nat.testBit_two_pow_sub_succ (show x < 2 ^ 64 from h)]
theorem bit_out {x s : Nat} (h : x < 18446744073709551616) (hs : 64 ≤ s) : x.testBit s = false :=
  Nat.testBit_lt_two_pow (Nat.lt_of_lt_of_le h (show 2 ^ 64 ≤ 2 ^ s from Nat.pow_le_pow_right (by decide) hs))
theorem not_eq (x : Nat) (h : x < 18446744073709551616) : bits .xor .u64 IntKind.u64.max (x : Int) = (notU x : Int) := by
  have e : IntKind.u64.max = ((18446744073709551615 : Nat) : Int) := by decide
  rw [e, bits_xor_u64_nat _ _ (by decide) h]
  congr 1
  refine Nat.eq_of_testBit_eq (fun s => ?_)
  rw [notU_bit x s h, Nat.testBit_xor]
  have e2 : (18446744073709551615 : Nat) = 2 ^ 64 - (0 + 1) := by decide
  rw [e2, Nat.testBit_two_pow_sub_succ (by decide)]
  by_cases hs : s < 64
  · simp [hs]
  · rw [bit_out h (by omega)]
    simp [hs]
theorem isz_mix {W gb : Nat} {y1 y2 y : World} {v : Value} {l : List Int} (h : NwL y1.heap.size y2 v l) (hW : W ≤ y1.heap.size) (g : G y2 y) (ho : gb < y1.heap.size ∨ y2.heap.size ≤ gb) : IsZ (fun b => b < W ∨ b = gb) y v l := fun w' k => by
  refine nwl_isz (P := fun b => b < y1.heap.size) h (fun b hb => hb) w' ⟨Nat.le_trans g.size k.size, fun b h1 h2 => ?_⟩
  refine (k.block b (Nat.lt_of_lt_of_le h1 g.size) (fun hp => ?_)).trans (g.block b h1)
  rcases hp with hp | hp
  · exact h2 (by omega)
  · exact h2 (by omega)
/-- A node in the box gb, made behind W1; its list lies in new memory, not there. -/
structure NdB (W1 : World) (gb a k : Nat) (v : Value) (nx : List Int) (x : World) : Prop where
  g : G W1 x
  lo : W1.heap.size ≤ gb
  lt : gb < x.heap.size
  c0 : x.cell? ⟨gb, 0, none⟩ = some (.int .u64 (a : Int))
  c1 : x.cell? ⟨gb, 1, none⟩ = some (.int .u64 (k : Int))
  c2 : x.cell? ⟨gb, 2, none⟩ = some v
  fz : ∀ i, x.frozen? ⟨gb, i, none⟩ = false
  z : IsZ (fun b => b < W1.heap.size ∨ b = gb) x v nx
  nb : ∀ a n c, v = .slice (some a) n c → W1.heap.size ≤ a.block
theorem nd_leaf {W1 Y y y1 y2 : World} {gb : Nat} {v : Value} {nx : List Int} (a k : Nat) (hg : G W1 y) (hY : gb = Y.heap.size) (hgb : W1.heap.size ≤ gb) (hz : G (Y.alloc (.cells #[.int .u64 0, .int .u64 0, .slice none 0 0] 57)) y)
    (hn : NwL y1.heap.size y2 v nx) (h1 : W1.heap.size ≤ y1.heap.size) (g2 : G y2 y) (ho : gb < y1.heap.size ∨ y2.heap.size ≤ gb) :
    NdB W1 gb a k v nx (setN y gb 0 [.int .u64 (a : Int), .int .u64 (k : Int), v]) := by
  subst hY
  have hlt : Y.heap.size < y.heap.size := by have := hz.size; rw [World.size_alloc] at this; omega
  have hbk := hz.block Y.heap.size (by rw [World.size_alloc]; omega)
  have hnew := heap_alloc_new Y (.cells #[.int .u64 0, .int .u64 0, .slice none 0 0] 57)
  have hcell : ∀ i, i < 3 → (y.cell? ⟨Y.heap.size, 0 + i, none⟩).isSome = true := fun i hi => by
    rw [Nat.zero_add, World.cell?_of_block (a := ⟨Y.heap.size, i, none⟩) hbk, cell_of_row _ _ i _ _ _ hnew]
    match i, hi with
    | 0, _ => rfl
    | 1, _ => rfl
    | 2, _ => rfl
  refine ⟨setN_G _ hgb _ _ _ hg, hgb, by rw [setN_size]; exact hlt, ?_, ?_, ?_, fun i => ?_, ?_, fun a n c e => ?_⟩
  · exact setN_in _ _ _ 0 0 _ rfl hcell
  · exact setN_in _ _ _ 0 1 _ rfl hcell
  · exact setN_in _ _ _ 0 2 _ rfl hcell
  · rw [setN_fro, World.frozen?_of_block (a := ⟨Y.heap.size, i, none⟩) hbk]
    unfold World.frozen?
    rw [hnew]
    simp
  · exact (isz_mix hn h1 g2 ho).move (by rw [setN_size]; exact Nat.le_refl _) (fun b _ h2 => ⟨setN_heap _ _ _ _ _ (fun e => h2 (Or.inr e)), h2⟩)
  · exact Nat.le_trans h1 (hn.2 a n c e)
/-- The same where the box is there before the list. -/
theorem nd_leaf2 {W1 y y1 y2 : World} {gb : Nat} {v : Value} {nx : List Int} (a k : Nat) (hg : G W1 y) (hgb : W1.heap.size ≤ gb) (hlt : gb < y1.heap.size) (hcell : ∀ i, i < 3 → (y.cell? ⟨gb, 0 + i, none⟩).isSome = true) (hf : ∀ i, y.frozen? ⟨gb, i, none⟩ = false)
    (hn : NwL y1.heap.size y2 v nx) (h1 : W1.heap.size ≤ y1.heap.size) (g1 : y1.heap.size ≤ y2.heap.size) (g2 : G y2 y) :
    NdB W1 gb a k v nx (setN y gb 0 [.int .u64 (a : Int), .int .u64 (k : Int), v]) := by
  have := g2.size
  refine ⟨setN_G _ hgb _ _ _ hg, hgb, by rw [setN_size]; omega, ?_, ?_, ?_, fun i => ?_, ?_, fun a n c e => ?_⟩
  · exact setN_in _ _ _ 0 0 _ rfl hcell
  · exact setN_in _ _ _ 0 1 _ rfl hcell
  · exact setN_in _ _ _ 0 2 _ rfl hcell
  · rw [setN_fro]; exact hf i
  · exact (isz_mix hn h1 g2 (Or.inl hlt)).move (by rw [setN_size]; exact Nat.le_refl _) (fun b _ h2 => ⟨setN_heap _ _ _ _ _ (fun e => h2 (Or.inr e)), h2⟩)
  · exact Nat.le_trans h1 (hn.2 a n c e)
theorem NdB.more {W1 : World} {gb a k : Nat} {v : Value} {nx : List Int} {x x' : World} (h : NdB W1 gb a k v nx x) (g : G x x') : NdB W1 gb a k v nx x' :=
  ⟨h.g.trans g, h.lo, Nat.lt_of_lt_of_le h.lt g.size, g.cell h.c0, g.cell h.c1, g.cell h.c2, fun i => (World.frozen?_of_block (a := ⟨gb, i, none⟩) (g.block gb h.lt)).trans (h.fz i), h.z.move g.size (fun b h1 h2 => ⟨g.block b h1, h2⟩), h.nb⟩
theorem NdB.kept {W1 : World} {gb a k : Nat} {v : Value} {nx : List Int} {x : World} (h : NdB W1 gb a k v nx x) (k' : Nat) : NdB W1 gb a k' v nx (x.setCell ⟨gb, 1, none⟩ (.int .u64 (k' : Int))) :=
  ⟨G.set h.g _ _ _ h.lo, h.lo, by rw [World.size_setCell]; exact h.lt, by rw [cell_other _ (Or.inr (by decide))]; exact h.c0, cell_same _ h.c1, by rw [cell_other _ (Or.inr (by decide))]; exact h.c2, fun i => by rw [World.frozen?_setCell]; exact h.fz i, h.z.move (by rw [World.size_setCell]; exact Nat.le_refl _) (fun b _ h2 => ⟨heap_set _ _ (fun e => h2 (Or.inr e)), h2⟩), h.nb⟩
/-- A node that is answered: its list lies in new memory. -/
def NdTo (w : World) (a k : Nat) (nx : List Int) (e : Ending) (w' : World) : Prop := ∃ xo xn xc, e = .returned (.agg #[.int .u64 (a : Int), .int .u64 (k : Int), .slice xo xn xc]) ∧ NwL w.heap.size w' (.slice xo xn xc) nx ∧ G w w'
theorem NdB.out {w W1 : World} {gb a k rb : Nat} {xo : Option Addr} {xn xc : Nat} {nx : List Int} {x : World} (h : NdB W1 gb a k (.slice xo xn xc) nx x) (g : G w W1) (h1 : w.heap.size ≤ rb) (h2 : rb < W1.heap.size) :
    NdTo w a k nx (.returned (.agg #[.int .u64 (a : Int), .int .u64 (k : Int), .slice xo xn xc])) (setN x rb 0 [.int .u64 (a : Int), .int .u64 (k : Int), .slice xo xn xc]) :=
  ⟨xo, xn, xc, rfl, ⟨(h.z.move (P' := fun b => b < W1.heap.size ∨ b = gb) (by rw [setN_size]; exact Nat.le_refl _) (fun b _ hb => ⟨setN_heap _ _ _ _ _ (fun e => hb (Or.inl (by omega))), hb⟩)).isl, fun a n c e => Nat.le_trans g.size (h.nb a n c e)⟩, setN_G _ h1 _ _ _ (g.trans h.g)⟩
end Go.Proofs.YtnliooflpclcbaaGreatDoor
