/- A field of a box of the call's own that holds a row of the call's own: one more is appended, and the field is written. -/
import Derived.Test.YtnliooflpclcbaaGreatDoorCodeApp
namespace Go.Proofs.YtnliooflpclcbaaGreatDoor
set_option maxRecDepth 100000
open Go.RowKit Go.Maps Go.ChangeShapes Go.WideShapes Go.ChangeAt Go.Deep

/-- The box at gb (made ahead of wc) holds cs, its cell j the row v of k things, whose cells are xs; beside it all that lay in wc is as it was. -/
structure GrL (ty sz : Nat) (wc : World) (gb j : Nat) (cs : List Value) (k : Nat) (xs : List Value) (v : Value) (x : World) : Prop where
  os : x.os = wc.os
  tape : x.tape = wc.tape
  output : x.output = wc.output
  size : wc.heap.size ≤ x.heap.size
  bl : ∀ b, b < wc.heap.size → b ≠ gb → x.heap[b]? = wc.heap[b]?
  cells : CellsAt x gb 0 (cs.set j v)
  fz : ∀ i, i < cs.length → x.frozen? ⟨gb, i, none⟩ = false
  own : x.ownsRow wc.heap.size ty sz v k xs
theorem GrL.g {ty sz : Nat} {wc : World} {gb j : Nat} {cs : List Value} {k : Nat} {xs : List Value} {v : Value} {x W1 : World} (h : GrL ty sz wc gb j cs k xs v x) (hg : G W1 wc) (hgb : W1.heap.size ≤ gb) : G W1 x :=
  ⟨h.os.trans hg.os, h.tape.trans hg.tape, h.output.trans hg.output, Nat.le_trans hg.size h.size, fun b hb => (h.bl b (Nat.lt_of_lt_of_le hb hg.size) (by omega)).trans (hg.block b hb)⟩
theorem own_kept {w w' : World} {B ty sz : Nat} {v : Value} {n : Nat} {xs : List Value} (h : w.ownsRow B ty sz v n xs) (e : ∀ b, B ≤ b → b < w.heap.size → w'.heap[b]? = w.heap[b]?) : w'.ownsRow B ty sz v n xs := by
  refine ⟨h.1, ?_⟩
  rcases h.2 with h0 | ⟨g, cap, cur, h1, h2, h3, h4⟩
  · exact Or.inl h0
  · have hlt : g < w.heap.size := by
      rcases Nat.lt_or_ge g w.heap.size with hh | hh
      · exact hh
      · rw [Array.getElem?_eq_none hh] at h3; cases h3
    exact Or.inr ⟨g, cap, cur, h1, h2, (e g h2 hlt).trans h3, h4⟩
theorem own_blk {w : World} {B ty sz : Nat} {v : Value} {n : Nat} {xs : List Value} (h : w.ownsRow B ty sz v n xs) : ∀ q, v.ownBlock = some q → B ≤ q := by
  intro q hq
  rcases h.2 with ⟨rfl, _⟩ | ⟨g, cap, cur, rfl, h2, _⟩
  · cases hq
  · cases hq; exact h2
theorem gr_start {ty sz : Nat} {wc : World} {gb j : Nat} {cs : List Value} (hc : CellsAt wc gb 0 cs) (hj : cs[j]? = some (.slice none 0 0)) (hf : ∀ i, i < cs.length → wc.frozen? ⟨gb, i, none⟩ = false) : GrL ty sz wc gb j cs 0 [] (.slice none 0 0) wc := by
  have e : cs.set j (.slice none 0 0) = cs := by
    apply List.ext_getElem?
    intro i
    rw [List.getElem?_set]
    split
    · rename_i h
      subst h
      rw [hj]
      have := (List.getElem?_eq_some_iff.1 hj).1
      simp [this]
    · rfl
  exact ⟨rfl, rfl, rfl, Nat.le_refl _, fun _ _ _ => rfl, by rw [e]; exact hc, hf, ⟨by simp, Or.inl ⟨rfl, rfl⟩⟩⟩
theorem gr_app {ty sz bytes t : Nat} {i : TypeInfo} {z : Value} (ht : Tryz.prog.underlying t = some (.slice ty)) (hi : Tryz.prog.info? ty = some i) (hz : i.zero = some z) (hsz : i.size = sz) (hby : i.bytes = bytes) (hzs : z.cells.size = sz) (hp : 0 < sz) (hbb : bytes ≤ 1000)
    {wc : World} {gb j : Nat} {cs : List Value} {k : Nat} {xs : List Value} {v : Value} {wr x2 W1 : World} (h : GrL ty sz wc gb j cs k xs v wr) (hgb : gb < wc.heap.size) (hj : j < cs.length) (g2 : G wr x2) (nb : Nat) (news : List Value) (hl : news.length = sz)
    (hnews : ∀ q u, news[q]? = some u → x2.cell? ((⟨nb, 0, none⟩ : Addr).add q) = some u) (h1 : ∀ u ∈ news, u.oneCell' = true) (hk : k < 10000000) (gW : G W1 wc) (hW : W1.heap.size ≤ gb) :
    ∃ v' x3, (Builtin.append_ #[t, t] t #[v, .slice (some ⟨nb, 0, none⟩) 1 1]).run Tryz.prog x2 = .ok v' x3 ∧ G W1 x3 ∧ x3.cell? ⟨gb, j, none⟩ = some v ∧ x3.frozen? ⟨gb, j, none⟩ = false ∧ GrL ty sz wc gb j cs (k + 1) (xs ++ news) v' (x3.setCell ⟨gb, j, none⟩ v') := by
  have hs2 := g2.size
  have own2 : x2.ownsRow wc.heap.size ty sz v k xs := own_kept h.own (fun b _ hb => g2.block b hb)
  obtain ⟨v', x3, hrun, r1, r2, _, r4⟩ := run_append_own_at (P := Tryz.prog) x2 wc.heap.size t t ty i z sz bytes ht hi hz hsz hby hzs hp v k xs own2 ⟨nb, 0, none⟩ 1 1 news (by rw [hl, Nat.one_mul]) hnews h1 (by unfold maxLen; omega) (Nat.le_trans (Nat.mul_le_mul (show k + 1 ≤ 10000000 by omega) hbb) (by decide)) (Nat.le_trans h.size hs2)
  have hob := own_blk own2
  have hbk : ∀ b, b < wc.heap.size → x3.heap[b]? = wr.heap[b]? := fun b hb => (r2.block b (Nat.lt_of_lt_of_le hb (Nat.le_trans h.size hs2)) (fun e => by have := hob b e.symm; omega)).trans (g2.block b (Nat.lt_of_lt_of_le hb h.size))
  have c3 : CellsAt x3 gb 0 (cs.set j v) := h.cells.kept (hbk gb hgb)
  have hcj : x3.cell? ⟨gb, j, none⟩ = some v := by
    have := c3 j v (by rw [List.getElem?_set_self hj])
    rwa [Nat.zero_add] at this
  have hfz : ∀ i, i < cs.length → x3.frozen? ⟨gb, i, none⟩ = false := fun i hi => (World.frozen?_of_block (a := ⟨gb, i, none⟩) (hbk gb hgb)).trans (h.fz i hi)
  refine ⟨v', x3, hrun, ?_, hcj, hfz j hj, ?_⟩
  · exact Below.grown ((h.g gW hW).trans g2) r2 (Nat.le_trans ((h.g gW hW).size) hs2) (fun q hq => by have := hob q hq; have := gW.size; omega)
  · refine ⟨r2.os.trans (g2.os.trans h.os), r2.tape.trans (g2.tape.trans h.tape), r2.output.trans (g2.output.trans h.output), ?_, fun b hb hne => ?_, fun q u hq => ?_, fun i hi => ?_, ?_⟩
    · rw [World.size_setCell]
      exact Nat.le_trans h.size (Nat.le_trans hs2 r2.size)
    · exact (heap_set _ _ hne).trans ((hbk b hb).trans (h.bl b hb hne))
    · rw [Nat.zero_add]
      by_cases hqj : q = j
      · subst hqj
        rw [List.getElem?_set_self hj] at hq
        cases hq
        exact cell_same _ hcj
      · rw [List.getElem?_set_ne (fun e => hqj e.symm)] at hq
        rw [cell_other _ (Or.inr hqj)]
        have := c3 q u (by rw [List.getElem?_set_ne (fun e => hqj e.symm)]; exact hq)
        rwa [Nat.zero_add] at this
    · rw [World.frozen?_setCell]
      exact hfz i hi
    · exact own_kept r1 (fun b hb _ => heap_set _ _ (by show b ≠ gb; omega))
end Go.Proofs.YtnliooflpclcbaaGreatDoor
