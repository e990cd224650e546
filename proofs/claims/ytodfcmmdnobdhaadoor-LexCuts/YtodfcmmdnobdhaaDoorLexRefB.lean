/- The document's own Cut (gantlineref19): what it keeps in memory. -/
import Derived.Test.YtodfcmmdnobdhaaDoorLexFits
namespace Go.Proofs.YtodfcmmdnobdhaaDoor
set_option maxRecDepth 100000
open Go.RowKit Go.Maps Go.ChangeShapes Go.WideShapes Go.ChangeAt Go.Deep

def RCutTo (w : World) (R : List Wd × Option Nat) (e : Ending) (w' : World) : Prop :=
  G w w' ∧ ((∃ o : Nat, R.2 = some o ∧ e = .returned (.tuple #[.slice none 0 0, .int .i64 (o : Int)])) ∨
    (R.2 = none ∧ ∃ v, e = .returned (.tuple #[v, .int .i64 (-1)]) ∧ OwW 34 w' w.heap.size v R.1))

/-- What is known at the loop's head. -/
def RCutR (w : World) (L : List UInt8) (R : List Wd × Option Nat) (k : Nat) (v : Value) (wr : World) : Prop :=
  ∃ ws, OwW 34 wr w.heap.size v ws ∧ R = (ws ++ (cutL (L.drop k) k).1, (cutL (L.drop k) k).2) ∧ G w wr ∧ ws.length ≤ k

/-- The box of a word, beside the row of words. -/
structure BxS (w : World) (v : Value) (ws : List Wd) (b : Nat) (k : Int) (x : ByteArray) (o : Int) (wx : World) : Prop where
  own : OwW 34 wx w.heap.size v ws
  ob : ∀ q, v.ownBlock = some q → q ≠ b
  lo : w.heap.size ≤ b
  lt : b < wx.heap.size
  g : G w wx
  c0 : wx.cell? ⟨b, 0, none⟩ = some (.int .i64 k)
  c1 : wx.cell? ⟨b, 1, none⟩ = some (.string x)
  c2 : wx.cell? ⟨b, 2, none⟩ = some (.int .i64 o)
  f0 : wx.frozen? ⟨b, 0, none⟩ = false
  f1 : wx.frozen? ⟨b, 1, none⟩ = false
theorem g_set {wr wx : World} (g : G wr wx) {b i : Nat} (hb : wr.heap.size ≤ b) (v : Value) : G wr (wx.setCell ⟨b, i, none⟩ v) :=
  ⟨g.os, g.tape, g.output, by rw [World.size_setCell]; exact g.size, fun k hk => (Below.heap_setCell _ _ _ _ (by show k ≠ b; omega)).trans (Below.block g k hk)⟩
theorem own_set {ty : Nat} {w : World} {B : Nat} {v : Value} {ws : List Wd} (h : OwW ty w B v ws) {b i : Nat} (u : Value) (hb : ∀ q, v.ownBlock = some q → q ≠ b) : OwW ty (w.setCell ⟨b, i, none⟩ u) B v ws := by
  refine ⟨h.1, ?_⟩
  rcases h.2 with h0 | ⟨g, cap, cur, rfl, h2, h3, h4⟩
  · exact Or.inl h0
  · exact Or.inr ⟨g, cap, cur, rfl, h2, (Below.heap_setCell _ _ _ _ (by show g ≠ b; exact hb g rfl)).trans h3, h4⟩
theorem BxS.set0 {w : World} {v : Value} {ws : List Wd} {b : Nat} {k : Int} {x : ByteArray} {o : Int} {wx : World} (h : BxS w v ws b k x o wx) (k' : Int) : BxS w v ws b k' x o (wx.setCell ⟨b, 0, none⟩ (.int .i64 k')) :=
  ⟨own_set h.own _ h.ob, h.ob, h.lo, by rw [World.size_setCell]; exact h.lt, g_set h.g h.lo _, World.cell?_setCell_same _ _ _ h.c0,
    (World.cell?_setCell_other _ _ _ _ (fun e => by injection e with e1 e2; omega)).trans h.c1, (World.cell?_setCell_other _ _ _ _ (fun e => by injection e with e1 e2; omega)).trans h.c2,
    by rw [World.frozen?_setCell]; exact h.f0, by rw [World.frozen?_setCell]; exact h.f1⟩
theorem BxS.set1 {w : World} {v : Value} {ws : List Wd} {b : Nat} {k : Int} {x : ByteArray} {o : Int} {wx : World} (h : BxS w v ws b k x o wx) (x' : ByteArray) : BxS w v ws b k x' o (wx.setCell ⟨b, 1, none⟩ (.string x')) :=
  ⟨own_set h.own _ h.ob, h.ob, h.lo, by rw [World.size_setCell]; exact h.lt, g_set h.g h.lo _, (World.cell?_setCell_other _ _ _ _ (fun e => by injection e with e1 e2; omega)).trans h.c0,
    World.cell?_setCell_same _ _ _ h.c1, (World.cell?_setCell_other _ _ _ _ (fun e => by injection e with e1 e2; omega)).trans h.c2,
    by rw [World.frozen?_setCell]; exact h.f0, by rw [World.frozen?_setCell]; exact h.f1⟩
theorem BxS.gr {w : World} {v : Value} {ws : List Wd} {b : Nat} {k : Int} {x : ByteArray} {o : Int} {wx wy : World} (h : BxS w v ws b k x o wx) (g : G wx wy) : BxS w v ws b k x o wy :=
  ⟨h.own.g g, h.ob, h.lo, Nat.lt_of_lt_of_le h.lt g.size, G.trans h.g g, (Below.cell g (show (⟨b, 0, none⟩ : Addr).block < wx.heap.size from h.lt)).trans h.c0, (Below.cell g (show (⟨b, 1, none⟩ : Addr).block < wx.heap.size from h.lt)).trans h.c1, (Below.cell g (show (⟨b, 2, none⟩ : Addr).block < wx.heap.size from h.lt)).trans h.c2,
    (World.frozen?_of_block (a := ⟨b, 0, none⟩) (Below.block g b h.lt)).trans h.f0, (World.frozen?_of_block (a := ⟨b, 1, none⟩) (Below.block g b h.lt)).trans h.f1⟩
theorem bxs_new {w wr : World} {v : Value} {ws : List Wd} (h : OwW 34 wr w.heap.size v ws) (g : G w wr) (k : Int) : BxS w v ws wr.heap.size 0 ⟨#[]⟩ k (wr.alloc (.cells #[.int .i64 0, .string ⟨#[]⟩, .int .i64 k] 34)) := by
  have ga : G wr (wr.alloc (.cells #[.int .i64 0, .string ⟨#[]⟩, .int .i64 k] 34)) := (Below.refl _ wr).alloc (Nat.le_refl _) _
  have hg := heap_alloc_new wr (.cells #[.int .i64 0, .string ⟨#[]⟩, .int .i64 k] 34)
  refine ⟨h.g ga, fun q hq => ?_, g.size, by rw [World.size_alloc]; omega, G.trans g ga, (cell_of_row _ _ _ _ _ _ hg).trans rfl, (cell_of_row _ _ _ _ _ _ hg).trans rfl, (cell_of_row _ _ _ _ _ _ hg).trans rfl, ?_, ?_⟩
  · rcases h.2 with ⟨rfl, _⟩ | ⟨g, cap, cur, rfl, h2, h3, h4⟩
    · cases hq
    · cases hq
      have : g < wr.heap.size := by
        rcases Nat.lt_or_ge g wr.heap.size with hh | hh
        · exact hh
        · rw [Array.getElem?_eq_none hh] at h3; cases h3
      show g ≠ wr.heap.size
      omega
  · simp only [World.frozen?]
    rw [hg]
    rfl
  · simp only [World.frozen?]
    rw [hg]
    rfl
/-- A gap's steps. -/
theorem rc_gap {w wr : World} {L : List UInt8} {R : List Wd × Option Nat} {k : Nat} {v : Value} (h : RCutR w L R k v wr) (n : Nat) (hn : n ≤ (L.drop k).length) (hg : gap (L.drop k) = gap ((L.drop k).drop n) + n) : RCutR w L R (k + n) v wr := by
  obtain ⟨ws, h1, h2, h3, h4⟩ := h
  refine ⟨ws, h1, ?_, h3, by omega⟩
  rw [h2, cutL_gap hn hg, List.drop_drop]
/-- A word. -/
theorem rc_word {w wy : World} {L : List UInt8} {R : List Wd × Option Nat} {k n kd b : Nat} {x : ByteArray} {v : Value} {ws : List Wd} (hR : R = (ws ++ (cutL (L.drop k) k).1, (cutL (L.drop k) k).2)) (hwl : ws.length ≤ k) (hk : k < L.length) (hL : L.length ≤ 1000000)
    (hgap : gap (L.drop k) = 0) (hf : firstW (L.drop k) = (kd, n)) (hn : n ≠ 0) (hx : x = ⟨((L.drop k).take n).toArray⟩) (B : BxS w v ws b (kd : Int) x (k : Int) wy) :
    ∃ v' w4, (Builtin.append_ #[29, 29] 29 #[v, .slice (some ⟨wy.heap.size, 0, none⟩) 1 1]).run Tryd.prog (wy.alloc (.cells #[.int .i64 (kd : Int), .string x, .int .i64 (k : Int)] 34)) = .ok v' w4 ∧ RCutR w L R (k + n) v' w4 := by
  obtain ⟨i, hi, hz, hsz, hby⟩ := info_parts info_rword
  obtain ⟨v', w4, r1, r2, r3⟩ := own_word Tryd.underlying29 hi hz hsz hby B.own B.g.size (by omega) kd k x ((L.drop k).take n) hx
  have hlt : gap (L.drop k) < (L.drop k).length := by rw [hgap, List.length_drop]; omega
  have hw := cutL_word (o := k) hlt (by rw [hgap, List.drop_zero, hf]; exact hn)
  rw [hgap, List.drop_zero, hf, Nat.add_zero, List.drop_drop] at hw
  refine ⟨v', w4, r1, _, r2, ?_, Below.trans B.g r3, ?_⟩
  · rw [hR, hw, List.append_assoc]
    rfl
  · rw [List.length_append]
    simp only [List.length_cons, List.length_nil]
    omega
theorem rc_bad {w wr wy : World} {L : List UInt8} {R : List Wd × Option Nat} {k : Nat} {v : Value} (h : RCutR w L R k v wr) (hk : k < L.length) (hgap : gap (L.drop k) = 0) (hf : (firstW (L.drop k)).2 = 0) (g : G w wy) : RCutTo w R (.returned (.tuple #[.slice none 0 0, .int .i64 (k : Int)])) wy := by
  obtain ⟨ws, h1, h2, h3, h4⟩ := h
  have hlt : gap (L.drop k) < (L.drop k).length := by rw [hgap, List.length_drop]; omega
  have hb := cutL_bad (o := k) hlt (by rw [hgap, List.drop_zero]; exact hf)
  refine ⟨g, Or.inl ⟨k, ?_, rfl⟩⟩
  rw [h2, hb, hgap]
  rfl
end Go.Proofs.YtodfcmmdnobdhaaDoor
