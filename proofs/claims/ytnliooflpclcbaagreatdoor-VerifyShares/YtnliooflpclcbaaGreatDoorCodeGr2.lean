/- A field of a box that holds a row of the call's own, of things that may have rows of their own behind them. -/
import Derived.Test.YtnliooflpclcbaaGreatDoorCodeGr
namespace Go.Proofs.YtnliooflpclcbaaGreatDoor
set_option maxRecDepth 100000
open Go.RowKit Go.Maps Go.ChangeShapes Go.WideShapes Go.ChangeAt Go.Deep

theorem gr_app2 {ty sz bytes t : Nat} {i : TypeInfo} {z : Value} (ht : Tryz.prog.underlying t = some (.slice ty)) (hi : Tryz.prog.info? ty = some i) (hz : i.zero = some z) (hsz : i.size = sz) (hby : i.bytes = bytes) (hzs : z.cells.size = sz) (hp : 0 < sz) (hbb : bytes ≤ 1000)
    {wc : World} {gb j : Nat} {cs : List Value} {k : Nat} {xs : List Value} {v : Value} {wr x2 W1 : World} (h : GrL ty sz wc gb j cs k xs v wr) (hgb : gb < wc.heap.size) (hj : j < cs.length) (g2 : G wr x2) (nb : Nat) (news : List Value) (hl : news.length = sz)
    (hnews : ∀ q u, news[q]? = some u → x2.cell? ((⟨nb, 0, none⟩ : Addr).add q) = some u) (h1 : ∀ u ∈ news, u.oneCell' = true) (hk : k < 10000000) (gW : G W1 wc) (hW : W1.heap.size ≤ gb) :
    ∃ v' x3, (Builtin.append_ #[t, t] t #[v, .slice (some ⟨nb, 0, none⟩) 1 1]).run Tryz.prog x2 = .ok v' x3 ∧ G W1 x3 ∧ x3.cell? ⟨gb, j, none⟩ = some v ∧ x3.frozen? ⟨gb, j, none⟩ = false ∧ GrL ty sz wc gb j cs (k + 1) (xs ++ news) v' (x3.setCell ⟨gb, j, none⟩ v') ∧ x2.grownBy x3 v.ownBlock ∧ (v'.ownBlock = v.ownBlock ∨ v'.ownBlock = some x2.heap.size) := by
  have hs2 := g2.size
  have own2 : x2.ownsRow wc.heap.size ty sz v k xs := own_kept h.own (fun b _ hb => g2.block b hb)
  obtain ⟨v', x3, hrun, r1, r2, _, r4⟩ := run_append_own_at (P := Tryz.prog) x2 wc.heap.size t t ty i z sz bytes ht hi hz hsz hby hzs hp v k xs own2 ⟨nb, 0, none⟩ 1 1 news (by rw [hl, Nat.one_mul]) hnews h1 (by unfold maxLen; omega) (Nat.le_trans (Nat.mul_le_mul (show k + 1 ≤ 10000000 by omega) hbb) (by decide)) (Nat.le_trans h.size hs2)
  have hob := own_blk own2
  have hbk : ∀ b, b < wc.heap.size → x3.heap[b]? = wr.heap[b]? := fun b hb => (r2.block b (Nat.lt_of_lt_of_le hb (Nat.le_trans h.size hs2)) (fun e => by have := hob b e.symm; omega)).trans (g2.block b (Nat.lt_of_lt_of_le hb h.size))
  have c3 : CellsAt x3 gb 0 (cs.set j v) := h.cells.kept (hbk gb hgb)
  have hcj : x3.cell? ⟨gb, j, none⟩ = some v := by
    have := c3 j v (by rw [List.getElem?_set_self hj])
    rwa [Nat.zero_add] at this
  have hfz : ∀ i, i < cs.length → x3.frozen? ⟨gb, i, none⟩ = false := fun i hi => (World.frozen?_of_block (a := ⟨gb, i, none⟩) (hbk gb hgb)).trans (h.fz i hi)
  refine ⟨v', x3, hrun, ?_, hcj, hfz j hj, ?_, r2, r4⟩
  · exact Below.grown ((h.g gW hW).trans g2) r2 (Nat.le_trans ((h.g gW hW).size) hs2) (fun q hq => by have := hob q hq; have := gW.size; omega)
  · refine ⟨r2.os.trans (g2.os.trans h.os), r2.tape.trans (g2.tape.trans h.tape), r2.output.trans (g2.output.trans h.output), ?_, fun b hb hne => ?_, fun q u hq => ?_, fun i hi => ?_, ?_⟩
    · rw [World.size_setCell]
      exact Nat.le_trans h.size (Nat.le_trans hs2 r2.size)
    · exact (heap_set _ _ hne).trans ((hbk b hb).trans (h.bl b hb hne))
    · rw [Nat.zero_add]
      by_cases hqj : q = j
      · subst hqj
        rw [List.getElem?_set_self hj] at hq
        cases hq
        exact cell_same _ hcj
      · rw [List.getElem?_set_ne (fun e => hqj e.symm)] at hq
        rw [cell_other _ (Or.inr hqj)]
        have := c3 q u (by rw [List.getElem?_set_ne (fun e => hqj e.symm)]; exact hq)
        rwa [Nat.zero_add] at this
    · rw [World.frozen?_setCell]
      exact hfz i hi
    · exact own_kept r1 (fun b hb _ => heap_set _ _ (by show b ≠ gb; omega))
/-- Blocks from lo on, but gb and q, are as they were. -/
def Kx (lo gb : Nat) (q : Option Nat) (w w' : World) : Prop := (∀ b, lo ≤ b → b < w.heap.size → b ≠ gb → some b ≠ q → w'.heap[b]? = w.heap[b]?) ∧ w.heap.size ≤ w'.heap.size
theorem Kx.refl (lo gb : Nat) (q : Option Nat) (w : World) : Kx lo gb q w w := ⟨fun _ _ _ _ _ => rfl, Nat.le_refl _⟩
theorem Kx.trans {lo gb : Nat} {w w1 w2 : World} (h : Kx lo gb none w w1) (k : Kx lo gb none w1 w2) : Kx lo gb none w w2 :=
  ⟨fun b h1 h2 h3 h4 => (k.1 b h1 (Nat.lt_of_lt_of_le h2 h.2) h3 h4).trans (h.1 b h1 h2 h3 h4), Nat.le_trans h.2 k.2⟩
theorem Kx.of_none {lo gb : Nat} {q : Option Nat} {w w1 : World} (h : Kx lo gb none w w1) : Kx lo gb q w w1 := ⟨fun b h1 h2 h3 _ => h.1 b h1 h2 h3 (by simp), h.2⟩
/-- Things that lie in blocks from lo on, none of them gb. -/
def RowX {α : Type} (lo gb : Nat) (E : El α) (w : World) (ao : Option Addr) (n c : Nat) (l : List α) : Prop := ∀ w', Kx lo gb none w w' → RowAt E w' ao n c l
theorem RowX.keep {α : Type} {lo gb : Nat} {E : El α} {w w' : World} {ao : Option Addr} {n c : Nat} {l : List α} (h : RowX lo gb E w ao n c l) (k : Kx lo gb none w w') : RowX lo gb E w' ao n c l := fun w2 k2 => h w2 (k.trans k2)
theorem RowX.new {α : Type} {lo gb : Nat} {E : El α} (hE : ∀ w w' a cs, E.cs w a cs → E.cs w' a cs) {w : World} {b n c : Nat} {l : List α} (h : RowAt E w (some ⟨b, 0, none⟩) n c l) (hd : n = 0 ∨ (b ≠ gb ∧ lo ≤ b)) : RowX lo gb E w (some ⟨b, 0, none⟩) n c l := fun w' k => by
  refine ⟨h.1, h.2.1, h.2.2.1, ?_⟩
  rcases hd with hd | ⟨h1, h2⟩
  · exact Or.inl hd
  rcases h.2.2.2 with h0 | ⟨b', off, e, hb, hc⟩
  · exact Or.inl h0
  · cases e
    refine Or.inr ⟨b, 0, rfl, Nat.lt_of_lt_of_le hb k.2, fun i a hi => ?_⟩
    obtain ⟨cs, g1, g2⟩ := hc i a hi
    exact ⟨cs, hE _ _ _ _ g1, g2.kept (k.1 b h2 hb h1 (by simp))⟩

/-- The box's field j holds the row v of the things l. -/
def GrE {α : Type} (E : El α) (ty lo : Nat) (wc : World) (gb j : Nat) (cs : List Value) (l : List α) (v : Value) (x : World) : Prop :=
  ∃ xs, GrL ty E.sz wc gb j cs l.length xs v x ∧ ∀ (i : Nat) (a : α), l[i]? = some a → ∃ c, (∀ w', Kx lo gb v.ownBlock x w' → E.cs w' a c) ∧ ∀ q u, c[q]? = some u → xs[i * E.sz + q]? = some u
theorem gre_start {α : Type} {E : El α} {ty lo : Nat} {wc : World} {gb j : Nat} {cs : List Value} (hc : CellsAt wc gb 0 cs) (hj : cs[j]? = some (.slice none 0 0)) (hf : ∀ i, i < cs.length → wc.frozen? ⟨gb, i, none⟩ = false) : GrE E ty lo wc gb j cs ([] : List α) (.slice none 0 0) wc :=
  ⟨[], gr_start hc hj hf, fun i a h => by simp at h⟩
theorem own_lt {w : World} {B ty sz : Nat} {v : Value} {n : Nat} {xs : List Value} (h : w.ownsRow B ty sz v n xs) : ∀ q, v.ownBlock = some q → q < w.heap.size := by
  intro q hq
  rcases h.2 with ⟨rfl, _⟩ | ⟨g, cap, cur, rfl, h2, h3, _⟩
  · cases hq
  · cases hq
    rcases Nat.lt_or_ge g w.heap.size with hh | hh
    · exact hh
    · rw [Array.getElem?_eq_none hh] at h3; cases h3
theorem gre_app {α : Type} {E : El α} {ty bytes t : Nat} {i : TypeInfo} {z : Value} (ht : Tryz.prog.underlying t = some (.slice ty)) (hi : Tryz.prog.info? ty = some i) (hz : i.zero = some z) (hsz : i.size = E.sz) (hby : i.bytes = bytes) (hzs : z.cells.size = E.sz) (hp : 0 < E.sz) (hbb : bytes ≤ 1000)
    {wc : World} {lo gb j : Nat} {cs : List Value} {l : List α} {v : Value} {wr x2 W1 : World} (h : GrE E ty lo wc gb j cs l v wr) (hlo : lo ≤ gb) (hgb : gb < wc.heap.size) (hj : j < cs.length) (g2 : G wr x2) (nb : Nat) (news : List Value) (a : α) (hl : news.length = E.sz) (hE : ∀ w', KeepFrom wr.heap.size x2 w' → E.cs w' a news)
    (hnews : ∀ q u, news[q]? = some u → x2.cell? ((⟨nb, 0, none⟩ : Addr).add q) = some u) (h1 : ∀ u ∈ news, u.oneCell' = true) (hk : l.length < 10000000) (gW : G W1 wc) (hW : W1.heap.size ≤ gb) :
    ∃ gn cn x3, (Builtin.append_ #[t, t] t #[v, .slice (some ⟨nb, 0, none⟩) 1 1]).run Tryz.prog x2 = .ok (.slice (some ⟨gn, 0, none⟩) (l.length + 1) cn) x3 ∧ G W1 x3 ∧ x3.cell? ⟨gb, j, none⟩ = some v ∧ x3.frozen? ⟨gb, j, none⟩ = false ∧ GrE E ty lo wc gb j cs (l ++ [a]) (.slice (some ⟨gn, 0, none⟩) (l.length + 1) cn) (x3.setCell ⟨gb, j, none⟩ (.slice (some ⟨gn, 0, none⟩) (l.length + 1) cn)) := by
  obtain ⟨xs, hL, hel⟩ := h
  obtain ⟨v', x3, p1, p2, p3, p4, p5, r2, r4⟩ := gr_app2 ht hi hz hsz hby hzs hp hbb hL hgb hj g2 nb news hl hnews h1 hk gW hW
  have hob := own_lt hL.own
  have hv' : ∃ gn cn, v' = .slice (some ⟨gn, 0, none⟩) (l.length + 1) cn := by
    rcases p5.own.2 with ⟨_, h0⟩ | ⟨gn, cn, cur, rfl, _⟩
    · omega
    · exact ⟨gn, cn, rfl⟩
  obtain ⟨gn, cn, rfl⟩ := hv'
  have hs2 := g2.size
  have hs3 := r2.size
  have hwc := hL.size
  have hxl : xs.length = l.length * E.sz := hL.own.1
  refine ⟨gn, cn, x3, p1, p2, p3, p4, xs ++ news, ?_, fun i b hi => ?_⟩
  · rw [List.length_append]
    exact p5
  · by_cases hil : i < l.length
    · rw [List.getElem?_append_left hil] at hi
      obtain ⟨c, c1, c2⟩ := hel i b hi
      refine ⟨c, fun w' k => c1 w' ⟨fun q q1 q2 q3 q4 => ?_, ?_⟩, fun q u hq => ?_⟩
      · have e1 : x3.heap[q]? = wr.heap[q]? := (r2.block q (by omega) q4).trans (g2.block q q2)
        refine (k.1 q q1 (by rw [World.size_setCell]; omega) q3 (fun e => ?_)).trans ((heap_set _ _ q3).trans e1)
        rcases r4 with r4 | r4
        · rw [r4] at e; exact q4 e
        · rw [r4] at e; injection e with e; omega
      · have := k.2
        rw [World.size_setCell] at this
        omega
      · have h5 := c2 q u hq
        have := (List.getElem?_eq_some_iff.1 h5).1
        rw [List.getElem?_append_left this]
        exact h5
    · have hi2 : i < (l ++ [a]).length := (List.getElem?_eq_some_iff.1 hi).1
      simp at hi2
      obtain rfl : i = l.length := by omega
      simp at hi
      subst hi
      refine ⟨news, fun w' k => hE w' ⟨fun q q1 q2 => ?_, ?_⟩, fun q u hq => ?_⟩
      · have hne : some q ≠ v.ownBlock := fun e => by have := hob q e.symm; omega
        refine (k.1 q (by omega) (by rw [World.size_setCell]; omega) (by omega) (fun e => ?_)).trans ((heap_set _ _ (by show q ≠ gb; omega)).trans (r2.block q q2 hne))
        rcases r4 with r4 | r4
        · rw [r4] at e; exact hne e
        · rw [r4] at e; injection e with e; omega
      · have := k.2
        rw [World.size_setCell] at this
        omega
      · rw [List.getElem?_append_right (by omega)]
        rw [hxl, Nat.add_sub_cancel_left]
        exact hq
theorem gre_end {α : Type} {E : El α} {ty lo : Nat} {wc : World} {gb j : Nat} {cs : List Value} {l : List α} {v : Value} {x : World} (h : GrE E ty lo wc gb j cs l v x) (hlo : lo ≤ gb) (hgb : gb < wc.heap.size) :
    ∃ ao c, v = .slice ao l.length c ∧ RowX lo gb E x ao l.length c l ∧ CellsAt x gb 0 (cs.set j v) ∧ (∀ i, i < cs.length → x.frozen? ⟨gb, i, none⟩ = false) ∧ Kx lo gb none wc x ∧ gb < x.heap.size := by
  obtain ⟨xs, hL, hel⟩ := h
  have hsz := hL.size
  have tail : CellsAt x gb 0 (cs.set j v) ∧ (∀ i, i < cs.length → x.frozen? ⟨gb, i, none⟩ = false) ∧ Kx lo gb none wc x ∧ gb < x.heap.size := ⟨hL.cells, hL.fz, ⟨fun b _ h2 h3 _ => hL.bl b h2 h3, hsz⟩, by omega⟩
  rcases hL.own.2 with ⟨e1, e2⟩ | ⟨g, cap, cur, e, h2, h3, h4, h5, h6, h7⟩
  · obtain rfl : l = [] := List.eq_nil_of_length_eq_zero e2
    exact ⟨none, 0, e1, fun w' _ => RowAt.nil w', tail⟩
  · have hlt : g < x.heap.size := by
      rcases Nat.lt_or_ge g x.heap.size with hh | hh
      · exact hh
      · rw [Array.getElem?_eq_none hh] at h3; cases h3
    refine ⟨some ⟨g, 0, none⟩, cap, e, fun w' k => ⟨rfl, Nat.le_trans h4 h5, (fun e => by cases e), Or.inr ⟨g, 0, rfl, Nat.lt_of_lt_of_le hlt k.2, fun i a hi => ?_⟩⟩, tail⟩
    obtain ⟨c, c1, c2⟩ := hel i a hi
    refine ⟨c, c1 w' k.of_none, fun q u hq => ?_⟩
    have h8 := c2 q u hq
    rw [← h7, List.getElem?_take] at h8
    split at h8
    · rw [World.cell?_of_block (a := ⟨g, 0 + i * E.sz + q, none⟩) (k.1 g (by omega) hlt (by omega) (by simp)), cell_of_row _ _ _ _ _ _ h3, Nat.zero_add]
      simpa using h8
    · cases h8
end Go.Proofs.YtnliooflpclcbaaGreatDoor
