/- Package tree: Show of a few kinds. -/
import Derived.Test.YthbpmekfgkagiaaTrK
namespace Go.Proofs.Ythbpmekfgkagiaa
set_option maxRecDepth 100000
open Go.RowKit Go.Maps Go.ChangeShapes Go.WideShapes Go.ChangeAt Go.Deep

/-- A write of nothing. -/
theorem wpost_nil {b : Nat} {v : Value} {bs : List Value} {w w' : World} (h : Bd b v bs w) (g : G w w') : wpost b v bs [] w (.returned (.tuple #[])) w' :=
  ⟨rfl, v, by rw [show bs ++ Lib.byteCells [] = bs from List.append_nil _]; exact h.g g, Kb.of_g g, Or.inl rfl⟩
theorem each_none (w : World) (b : Nat) (above : Int) (ao : Option Addr) (c : Nat) (s1 s2 : ByteArray) : Calls Try.prog 52 #[.agg #[.pointer (some ⟨b, 0, none⟩), .int .i64 above], .slice ao 0 c, .string s1, .string s2] w fun e w' => e = .returned (.tuple #[]) ∧ G w w' := by
  have g := G.alloc w (.cells #[.pointer (some ⟨b, 0, none⟩), .int .i64 above] 44)
  go_enter Try.func52, Try.ntmps52
  go_wp2_with fail
  generalize w.alloc (.cells #[.pointer (some ⟨b, 0, none⟩), .int .i64 above] 44) = W at *
  go_loopw [9, 12] (fun _ i wr => i = .int .i64 0 ∧ wr = W) (fun _ _ _ => 0)
  case atStart => exact ⟨rfl, rfl⟩
  case round =>
    obtain ⟨rfl, rfl⟩ := hrel
    go_wp2_with fail
    go_end0
    exact ⟨rfl, g⟩
set_option maxHeartbeats 2000000 in
theorem many_prog (w : World) (b : Nat) (above : Int) (x : ByteArray) (a : Int) (ao : Option Addr) (c : Nat) : Calls Try.prog 39 #[.agg #[.pointer (some ⟨b, 0, none⟩), .int .i64 above], .agg (ndL kProg x a (.slice ao 0 c))] w fun e w' => e = .returned (.tuple #[]) ∧ G w w' := by
  have g : G w ((w.alloc (.cells #[.pointer (some ⟨b, 0, none⟩), .int .i64 above] 44)).alloc (.cells (ndL kProg x a (.slice ao 0 c)) 26)) := (G.alloc _ _).more _
  have C := hide (each_none ((w.alloc (.cells #[.pointer (some ⟨b, 0, none⟩), .int .i64 above] 44)).alloc (.cells (ndL kProg x a (.slice ao 0 c)) 26)) b above ao c ⟨#[]⟩ ⟨#[10]⟩)
  go_enter Try.func39, Try.ntmps39
  go_wp2_with fail
  refine (unhide C).mono ?_
  rintro e w1 ⟨rfl, g2⟩
  have g3 := g.trans g2
  clear g g2 C
  go_wp2_with fail
  go_end0
  exact ⟨rfl, g3⟩
set_option maxHeartbeats 4000000 in
/-- A node that has too many above it, or does not fit, is not written. -/
theorem node_no (w : World) (b : Nat) (v : Value) (bs : List Value) (above : Int) (k x : ByteArray) (a : Int) (kg : Option Addr) (kn kc : Nat) (hb : Bd b v bs w)
    (H : 199 < above ∨ ∀ y, G w y → Calls Try.prog 20 #[.agg (ndL k x a (.slice kg kn kc))] y fun e w' => e = .returned (.bool false) ∧ G y w') :
    Calls Try.prog 15 #[.agg #[.pointer (some ⟨b, 0, none⟩), .int .i64 above], .agg (ndL k x a (.slice kg kn kc))] w (wpost b v bs [] w) := by
  have g : G w ((w.alloc (.cells #[.pointer (some ⟨b, 0, none⟩), .int .i64 above] 44)).alloc (.cells (ndL k x a (.slice kg kn kc)) 26)) := (G.alloc _ _).more _
  have FIN : Hid (∀ y, G w y → wpost b v bs [] w (.returned (.tuple #[])) y) := hide fun y g => wpost_nil hb g
  by_cases h : 199 < above
  · clear H
    go_enter Try.func15, Try.ntmps15
    go_wp2_with fail
    go_end0
    exact unhide FIN _ g
  · have C := hide (H.resolve_left h _ g)
    clear H
    go_enter Try.func15, Try.ntmps15
    go_wp2_with fail
    refine (unhide C).mono ?_
    rintro e w1 ⟨rfl, g2⟩
    have K := hide (unhide FIN _ (g.trans g2))
    clear FIN g g2 C
    go_wp2_with fail
    go_end0
    exact unhide K
set_option maxHeartbeats 4000000 in
theorem node_of (w : World) (b : Nat) (v : Value) (bs : List Value) (above : Int) (k x : ByteArray) (a : Int) (kg : Option Addr) (kn kc : Nat) (pt : ByteArray) (out : List UInt8) (hb : Bd b v bs w) (ha : above ≤ 199)
    (FT : ∀ y, G w y → Calls Try.prog 20 #[.agg (ndL k x a (.slice kg kn kc))] y fun e w' => e = .returned (.bool true) ∧ G y w')
    (PT : ∀ y, G w y → Calls Try.prog 22 #[.agg (ndL k x a (.slice kg kn kc))] y fun e w' => e = .returned (.string pt) ∧ G y w')
    (FL : ∀ y, G w y → Calls Try.prog 21 #[.agg #[.pointer (some ⟨b, 0, none⟩), .int .i64 above], .agg (ndL k x a (.slice kg kn kc)), .string pt] y (wpost b v bs out y)) :
    Calls Try.prog 15 #[.agg #[.pointer (some ⟨b, 0, none⟩), .int .i64 above], .agg (ndL k x a (.slice kg kn kc))] w (wpost b v bs out w) := by
  have h : ¬ 199 < above := by omega
  obtain ⟨W, hW⟩ : ∃ W, W = (w.alloc (.cells #[.pointer (some ⟨b, 0, none⟩), .int .i64 above] 44)).alloc (.cells (ndL k x a (.slice kg kn kc)) 26) := ⟨_, rfl⟩
  have g : G w W := by rw [hW]; exact (G.alloc _ _).more _
  have zW : W.heap.size = w.heap.size + 2 := by rw [hW, World.size_alloc, World.size_alloc]
  have a0 : ∀ i u, #[Value.pointer (some ⟨b, 0, none⟩), .int .i64 above][i]? = some u → W.cell? ⟨w.heap.size, i, none⟩ = some u := fun i u h => by
    rw [hW, World.cell?_alloc_past _ _ _ (by rw [World.size_alloc]; show w.heap.size < _; omega), World.cell?_alloc_new]; exact h
  have a1 : ∀ i u, (ndL k x a (.slice kg kn kc))[i]? = some u → W.cell? ⟨w.heap.size + 1, i, none⟩ = some u := fun i u h => by
    rw [hW, World.cell?_alloc_at _ _ _ _ (by rw [World.size_alloc])]; exact h
  have KI : Hid (∀ y : World, (∀ q, w.heap.size ≤ q → q < W.heap.size → y.heap[q]? = W.heap[q]?) → y.cell? ⟨w.heap.size, 0, none⟩ = some (.pointer (some ⟨b, 0, none⟩)) ∧ y.cell? ⟨w.heap.size, 1, none⟩ = some (.int .i64 above) ∧ y.cell? ⟨w.heap.size + 1, 0, none⟩ = some (.string k) ∧ y.cell? ⟨w.heap.size + 1, 1, none⟩ = some (.string x) ∧ y.cell? ⟨w.heap.size + 1, 2, none⟩ = some (.int .i64 a) ∧ y.cell? ⟨w.heap.size + 1, 3, none⟩ = some (.slice kg kn kc)) := hide fun y hy => by
    have h1 := hy w.heap.size (Nat.le_refl _) (by omega)
    have h2 := hy (w.heap.size + 1) (by omega) (by omega)
    exact ⟨(World.cell?_of_block (a := ⟨w.heap.size, 0, none⟩) h1).trans (a0 0 _ rfl), (World.cell?_of_block (a := ⟨w.heap.size, 1, none⟩) h1).trans (a0 1 _ rfl), (World.cell?_of_block (a := ⟨w.heap.size + 1, 0, none⟩) h2).trans (a1 0 _ rfl), (World.cell?_of_block (a := ⟨w.heap.size + 1, 1, none⟩) h2).trans (a1 1 _ rfl), (World.cell?_of_block (a := ⟨w.heap.size + 1, 2, none⟩) h2).trans (a1 2 _ rfl), (World.cell?_of_block (a := ⟨w.heap.size + 1, 3, none⟩) h2).trans (a1 3 _ rfl)⟩
  obtain ⟨c0, c1, c2, c3, c4, c5⟩ := unhide KI W (fun _ _ _ => rfl)
  have C := hide (FT W g)
  have PT' : Hid (∀ y, G W y → Calls Try.prog 22 #[.agg (ndL k x a (.slice kg kn kc))] y.drew fun e w' => e = .returned (.string pt) ∧ Hid (G W w') ∧ (w'.cell? ⟨w.heap.size, 0, none⟩ = some (.pointer (some ⟨b, 0, none⟩)) ∧ w'.cell? ⟨w.heap.size, 1, none⟩ = some (.int .i64 above) ∧ w'.cell? ⟨w.heap.size + 1, 0, none⟩ = some (.string k) ∧ w'.cell? ⟨w.heap.size + 1, 1, none⟩ = some (.string x) ∧ w'.cell? ⟨w.heap.size + 1, 2, none⟩ = some (.int .i64 a) ∧ w'.cell? ⟨w.heap.size + 1, 3, none⟩ = some (.slice kg kn kc))) := hide fun y gy => (PT y.drew (g.trans gy.drew)).mono (by
    rintro e w' ⟨rfl, g2⟩
    have g3 := gy.drew.trans g2
    exact ⟨rfl, hide g3, unhide KI w' (fun q _ hq => g3.block q hq)⟩)
  have FL' : Hid (∀ y, Hid (G W y) → Calls Try.prog 21 #[.agg #[.pointer (some ⟨b, 0, none⟩), .int .i64 above], .agg (ndL k x a (.slice kg kn kc)), .string pt] y fun e w' => e = .returned (.tuple #[]) ∧ Hid (wpost b v bs out w (.returned (.tuple #[])) w') ∧ (w'.cell? ⟨w.heap.size, 0, none⟩ = some (.pointer (some ⟨b, 0, none⟩)) ∧ w'.cell? ⟨w.heap.size, 1, none⟩ = some (.int .i64 above) ∧ w'.cell? ⟨w.heap.size + 1, 0, none⟩ = some (.string k) ∧ w'.cell? ⟨w.heap.size + 1, 1, none⟩ = some (.string x) ∧ w'.cell? ⟨w.heap.size + 1, 2, none⟩ = some (.int .i64 a) ∧ w'.cell? ⟨w.heap.size + 1, 3, none⟩ = some (.slice kg kn kc))) := hide fun y gy => (FL y (g.trans (unhide gy))).mono (by
    rintro e w' ⟨rfl, v', h1, h2, h3⟩
    have gwy := g.trans (unhide gy)
    refine ⟨rfl, hide ⟨rfl, v', h1, (Kb.of_g gwy).trans (Or.inl rfl) h2, (show NewRow w v v from Or.inl rfl).trans h3 gwy.size⟩, unhide KI w' (fun q h4 hq => (h2.block q (Nat.lt_of_lt_of_le hq (unhide gy).size) (by have := hb.lt; omega) (fun e => by have := (hb.row q e).1; omega)).trans ((unhide gy).block q hq))⟩)
  clear FT PT FL a0 a1 KI zW g hb
  go_enter Try.func15, Try.ntmps15
  go_upto_region 1 with fail
  rw [← hW]
  clear hW
  go_wp2_with fail
  refine (unhide C).mono ?_
  rintro e w1 ⟨rfl, g2⟩
  have b0 := g2.cell c0
  have b1 := g2.cell c1
  have b2 := g2.cell c2
  have b3 := g2.cell c3
  have b4 := g2.cell c4
  have b5 := g2.cell c5
  have I0 : w1.drew.cell? ⟨w.heap.size, 0, none⟩ = some (.pointer (some ⟨b, 0, none⟩)) ∧ w1.drew.cell? ⟨w.heap.size, 1, none⟩ = some (.int .i64 above) ∧ w1.drew.cell? ⟨w.heap.size + 1, 0, none⟩ = some (.string k) ∧ w1.drew.cell? ⟨w.heap.size + 1, 1, none⟩ = some (.string x) ∧ w1.drew.cell? ⟨w.heap.size + 1, 2, none⟩ = some (.int .i64 a) ∧ w1.drew.cell? ⟨w.heap.size + 1, 3, none⟩ = some (.slice kg kn kc) := ⟨b0, b1, b2, b3, b4, b5⟩
  replace I0 := hide I0
  have P1 := hide (unhide PT' w1 g2)
  clear PT' C c0 c1 c2 c3 c4 c5 g2
  go_wp2_with fail
  go_region_held3 (fun y => y.cell? ⟨w.heap.size, 0, none⟩ = some (.pointer (some ⟨b, 0, none⟩)) ∧ y.cell? ⟨w.heap.size, 1, none⟩ = some (.int .i64 above) ∧ y.cell? ⟨w.heap.size + 1, 0, none⟩ = some (.string k) ∧ y.cell? ⟨w.heap.size + 1, 1, none⟩ = some (.string x) ∧ y.cell? ⟨w.heap.size + 1, 2, none⟩ = some (.int .i64 a) ∧ y.cell? ⟨w.heap.size + 1, 3, none⟩ = some (.slice kg kn kc))
    (first | assumption | exact unhide I0)
    ((first
      | (go_at_call 22; refine (unhide P1).mono ?_; rintro e w6 ⟨rfl, G6, I6⟩)
      | (go_at_call 21; refine (unhide FL' _ (by assumption)).mono ?_; rintro e w7 ⟨rfl, K7, I7⟩)))
  all_goals
    go_wp2_with fail
    go_end0
    exact unhide K7
end Go.Proofs.Ythbpmekfgkagiaa
