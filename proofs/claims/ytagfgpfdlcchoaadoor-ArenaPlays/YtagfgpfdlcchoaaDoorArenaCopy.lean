/- The contract of an Arena's Copy. -/
import Derived.Test.YtagfgpfdlcchoaaDoorArenaRow
namespace Go.Proofs.YtagfgpfdlcchoaaDoor
open Go.RowKit Go.Maps Go.ChangeShapes Go.WideShapes Go.ChangeAt

/-- Block b of w holds the words of a, in a row with room for c, from block lo on. -/
structure WordsAt (w : World) (lo b c : Nat) (a : Ab) : Prop where
  lo : lo ≤ b
  wd : ∀ i : Nat, i < a.n * 64 → w.cell? ⟨b, i, none⟩ = some (.int .i64 (a.wd i))
  fz : ∀ i, w.frozen? ⟨b, i, none⟩ = false
  le : a.n * 64 ≤ c
  hi : c ≤ maxLen
/-- Block b of w holds the spans of a. -/
structure SpansAt (w : World) (lo b c : Nat) (a : Ab) : Prop where
  lo : lo ≤ b
  s0 : ∀ s, s < a.n → w.cell? ⟨b, s * 3, none⟩ = some (.int .i64 (a.cls s))
  s1 : ∀ s, s < a.n → w.cell? ⟨b, s * 3 + 1, none⟩ = some (.int .u64 (a.tk s : Int))
  s2 : ∀ s, s < a.n → w.cell? ⟨b, s * 3 + 2, none⟩ = some (.int .u64 (a.mr s : Int))
  fz : ∀ i, w.frozen? ⟨b, i, none⟩ = false
  le : a.n ≤ c
  hi : c ≤ maxLen

theorem WordsAt.G {w w' : World} {lo b c : Nat} {a : Ab} (h : WordsAt w lo b c a) (hn : 8 ≤ a.n) (g : G w w') : WordsAt w' lo b c a := by
  have hb := g.block b (World.block_lt_of_cell? w _ (h.wd 0 (by omega)))
  exact ⟨h.lo, fun i hi => (World.cell?_of_block hb).trans (h.wd i hi), fun i => (World.frozen?_of_block (a := ⟨b, i, none⟩) hb).trans (h.fz i), h.le, h.hi⟩
theorem SpansAt.G {w w' : World} {lo b c : Nat} {a : Ab} (h : SpansAt w lo b c a) (hn : 8 ≤ a.n) (g : G w w') : SpansAt w' lo b c a := by
  have hb := g.block b (World.block_lt_of_cell? w _ (h.s0 0 (by omega)))
  exact ⟨h.lo, fun i hi => (World.cell?_of_block hb).trans (h.s0 i hi), fun i hi => (World.cell?_of_block hb).trans (h.s1 i hi), fun i hi => (World.cell?_of_block hb).trans (h.s2 i hi), fun i => (World.frozen?_of_block (a := ⟨b, i, none⟩) hb).trans (h.fz i), h.le, h.hi⟩
theorem WordsAt.lt {w : World} {lo b c : Nat} {a : Ab} (h : WordsAt w lo b c a) (hn : 8 ≤ a.n) : b < w.heap.size := World.block_lt_of_cell? w _ (h.wd 0 (by omega))
theorem SpansAt.lt {w : World} {lo b c : Nat} {a : Ab} (h : SpansAt w lo b c a) (hn : 8 ≤ a.n) : b < w.heap.size := World.block_lt_of_cell? w _ (h.s0 0 (by omega))

/-- A row of the call's own: its cells, its block. -/
theorem row_of {w : World} {B : Nat} {e : TypeId} {size g n cap : Nat} {xs : List Value} (h : w.ownsRow B e size (.slice (some ⟨g, 0, none⟩) n cap) n xs) :
    B ≤ g ∧ (∀ (j : Nat) u, xs[j]? = some u → w.cell? ⟨g, j, none⟩ = some u) ∧ (∀ i, w.frozen? ⟨g, i, none⟩ = false) ∧ n ≤ cap ∧ cap ≤ maxLen := by
  rcases h.2 with ⟨e1, _⟩ | ⟨g', c', cur, e1, hB, hg, h1, h2, h3, h4⟩
  · cases e1
  · injection e1 with e1 _ e3
    injection e1 with e1
    injection e1 with e1
    subst e1
    subst e3
    refine ⟨hB, fun j u hj => ?_, fun i => ?_, h1, h2⟩
    · have := h.cells (g := g) rfl j u hj
      rw [Addr.add_lit, Nat.zero_add] at this
      exact this
    · simp [World.frozen?, hg]

/-- The words and the spans, as lists of cells. -/
def Ab.wordCells (a : Ab) : List Value := (List.range (a.n * 64)).map fun i : Nat => .int .i64 (a.wd i)
def Ab.spanCells (a : Ab) : List Value := (List.range (a.n * 3)).map fun i => if i % 3 = 0 then .int .i64 (a.cls (i / 3)) else if i % 3 = 1 then .int .u64 (a.tk (i / 3) : Int) else .int .u64 (a.mr (i / 3) : Int)
theorem Ab.wordCells_get (a : Ab) {i : Nat} (h : i < a.n * 64) : a.wordCells[i]? = some (.int .i64 (a.wd i)) := by simp [Ab.wordCells, h]
theorem Ab.spanCells_get (a : Ab) {s : Nat} (h : s < a.n) : a.spanCells[s * 3]? = some (.int .i64 (a.cls s)) ∧ a.spanCells[s * 3 + 1]? = some (.int .u64 (a.tk s : Int)) ∧ a.spanCells[s * 3 + 2]? = some (.int .u64 (a.mr s : Int)) := by
  have h0 : s * 3 < a.n * 3 := by omega
  have h1 : s * 3 + 1 < a.n * 3 := by omega
  have h2 : s * 3 + 2 < a.n * 3 := by omega
  have m1 : (s * 3 + 1) % 3 = 1 := by omega
  have m2 : (s * 3 + 2) % 3 = 2 := by omega
  have d0 : s * 3 / 3 = s := by omega
  have d1 : (s * 3 + 1) / 3 = s := by omega
  have d2 : (s * 3 + 2) / 3 = s := by omega
  unfold Ab.spanCells
  refine ⟨?_, ?_, ?_⟩
  · rw [List.getElem?_map, List.getElem?_range h0]; simp
  · rw [List.getElem?_map, List.getElem?_range h1]; simp [m1, d1]
  · rw [List.getElem?_map, List.getElem?_range h2]; simp [m2, d2]

theorem cw_at (w : World) (B : Nat) (d : Ad) (a : Ab) (h : AreAt w B d a) (g : a.Good) (w1 : World) (g1 : G w w1) :
    Calls Tryd.prog 84 #[.slice (some ⟨d.wb, 0, none⟩) (a.n * 64) d.cw] w1 fun e w' => ∃ b c, e = .returned (.slice (some ⟨b, 0, none⟩) (a.n * 64) c) ∧ WordsAt w' w1.heap.size b c a ∧ G w1 w' := by
  have k := h.grown g.ok.n0 g1
  have n0 := g.ok.n0
  have n1 := g.ok.n1
  refine (clone_words w1 d.wb (a.n * 64) d.cw a.wordCells (hide (by simp [Ab.wordCells])) (by omega) (by omega) (hide fun j u hj => ?_) (hide fun u hu => ?_)).mono ?_
  · have hl : j < a.n * 64 := by have := (List.getElem?_eq_some_iff.1 hj).1; simpa [Ab.wordCells] using this
    rw [a.wordCells_get hl] at hj
    rw [Addr.add_lit, Nat.zero_add, k.wd j hl]
    exact hj
  · simp [Ab.wordCells] at hu
    obtain ⟨_, _, rfl⟩ := hu
    rfl
  · rintro e w' ⟨b, c, rfl, hr, hg⟩
    obtain ⟨r1, r2, r3, r4, r5⟩ := row_of hr
    exact ⟨b, c, rfl, ⟨r1, fun i hi => r2 i _ (a.wordCells_get hi), r3, r4, r5⟩, hg⟩

theorem csp_at (w : World) (B : Nat) (d : Ad) (a : Ab) (h : AreAt w B d a) (g : a.Good) (w1 : World) (g1 : G w w1) :
    Calls Tryd.prog 85 #[.slice (some ⟨d.sb, 0, none⟩) a.n d.cs] w1 fun e w' => ∃ b c, e = .returned (.slice (some ⟨b, 0, none⟩) a.n c) ∧ SpansAt w' w1.heap.size b c a ∧ G w1 w' := by
  have k := h.grown g.ok.n0 g1
  have n0 := g.ok.n0
  have n1 := g.ok.n1
  refine (clone_spans w1 d.sb a.n d.cs a.spanCells (hide (by simp [Ab.spanCells])) (by omega) (by omega) (hide fun j u hj => ?_) (hide fun u hu => ?_)).mono ?_
  · have hl : j < a.n * 3 := by have := (List.getElem?_eq_some_iff.1 hj).1; simpa [Ab.spanCells] using this
    obtain ⟨s, hs⟩ : ∃ s, s = j / 3 := ⟨_, rfl⟩
    have hsn : s < a.n := by omega
    obtain ⟨e0, e1, e2⟩ := a.spanCells_get hsn
    rw [Addr.add_lit, Nat.zero_add]
    rcases (by omega : j = s * 3 ∨ j = s * 3 + 1 ∨ j = s * 3 + 2) with rfl | rfl | rfl
    · rw [e0] at hj; rw [k.s0 s hsn]; exact hj
    · rw [e1] at hj; rw [k.s1 s hsn]; exact hj
    · rw [e2] at hj; rw [k.s2 s hsn]; exact hj
  · simp [Ab.spanCells] at hu
    obtain ⟨i, _, rfl⟩ := hu
    split
    · rfl
    · split <;> rfl
  · rintro e w' ⟨b, c, rfl, hr, hg⟩
    obtain ⟨r1, r2, r3, r4, r5⟩ := row_of hr
    exact ⟨b, c, rfl, ⟨r1, fun i hi => r2 _ _ (a.spanCells_get hi).1, fun i hi => r2 _ _ (a.spanCells_get hi).2.1, fun i hi => r2 _ _ (a.spanCells_get hi).2.2, r3, r4, r5⟩, hg⟩

/-- Where Copy has laid the new arena. -/
theorem copied {w w2 : World} {a : Ab} {lo1 lo2 b1 c1 b2 c2 : Nat} (n0 : 8 ≤ a.n) (g : G w w2) (h1 : WordsAt w2 lo1 b1 c1 a) (h2 : SpansAt w2 lo2 b2 c2 a) (hl1 : w.heap.size ≤ lo1) (hl2 : w.heap.size ≤ lo2) (hne : b1 ≠ b2) :
    AreAt (w2.alloc (.cells #[.slice (some ⟨b1, 0, none⟩) (a.n * 64) c1, .slice (some ⟨b2, 0, none⟩) a.n c2] 87)) w.heap.size ⟨w2.heap.size, b1, b2, c1, c2⟩ a ∧
    G w (w2.alloc (.cells #[.slice (some ⟨b1, 0, none⟩) (a.n * 64) c1, .slice (some ⟨b2, 0, none⟩) a.n c2] 87)) := by
  have k1 := h1.G n0 (G.alloc w2 (.cells #[.slice (some ⟨b1, 0, none⟩) (a.n * 64) c1, .slice (some ⟨b2, 0, none⟩) a.n c2] 87))
  have k2 := h2.G n0 (G.alloc w2 (.cells #[.slice (some ⟨b1, 0, none⟩) (a.n * 64) c1, .slice (some ⟨b2, 0, none⟩) a.n c2] 87))
  have l1 := h1.lt n0
  have l2 := h2.lt n0
  have hs := g.size
  have x1 := h1.lo
  have x2 := h2.lo
  refine ⟨⟨?_, ?_, k1.wd, k2.s0, k2.s1, k2.s2, k1.fz, k2.fz, hs, by show w.heap.size ≤ b1; omega, by show w.heap.size ≤ b2; omega, by show w2.heap.size ≠ b1; omega, by show w2.heap.size ≠ b2; omega, hne, k1.le, k2.le, k1.hi, k2.hi⟩, g.more _⟩
  · rw [World.cell?_alloc_new]; rfl
  · rw [World.cell?_alloc_new]; rfl

set_option maxHeartbeats 1000000 in
theorem copy_core (w : World) (ab wb sb n cw cs m : Nat) (a : Ab) (n0 : 8 ≤ a.n)
    (c0 : w.cell? ⟨ab, 0, none⟩ = some (.slice (some ⟨wb, 0, none⟩) m cw)) (c1 : w.cell? ⟨ab, 1, none⟩ = some (.slice (some ⟨sb, 0, none⟩) n cs))
    (CW : Hid (∀ w1, G w w1 → Calls Tryd.prog 84 #[.slice (some ⟨wb, 0, none⟩) m cw] w1 fun e w' => ∃ b c, e = .returned (.slice (some ⟨b, 0, none⟩) m c) ∧ WordsAt w' w1.heap.size b c a ∧ G w1 w'))
    (CS : Hid (∀ w1, G w w1 → Calls Tryd.prog 85 #[.slice (some ⟨sb, 0, none⟩) n cs] w1 fun e w' => ∃ b c, e = .returned (.slice (some ⟨b, 0, none⟩) n c) ∧ SpansAt w' w1.heap.size b c a ∧ G w1 w'))
    (hm : Hid (m = a.n * 64)) (hn : Hid (n = a.n)) :
    Calls Tryd.prog 71 #[.pointer (some ⟨ab, 0, none⟩)] w fun e w' => ∃ d : Ad, e = .returned d.ptr ∧ AreAt w' w.heap.size d a ∧ G w w' := by
  have gd : Hid (G w w.drew) := (G.refl w).drew
  have lab : ab < w.heap.size := World.block_lt_of_cell? _ _ c0
  go_enter Tryd.func71, Tryd.ntmps71
  go_wp2_with fail
  go_region_with (first
    | (go_at_call 84; refine (unhide CW _ (unhide gd)).mono ?_; rintro e w2 ⟨b1, x1, rfl, r1, k1⟩; have d1 := G.cell k1 c1; have R1 := hide r1; have K1 := hide k1; have gd1 := hide ((unhide gd).trans k1); clear r1 k1)
    | (go_at_call 85; refine (unhide CS _ (unhide gd1)).mono ?_; rintro e w3 ⟨b2, x2, rfl, r2, k2⟩; have R2 := hide r2; have K2 := hide k2; clear r2 k2))
  all_goals
    go_wp2_with fail
    go_ret
    have hm := unhide hm
    have hn := unhide hn
    subst hm
    subst hn
    have l1 := (unhide R1).lt n0
    have l2 := (unhide R2).lo
    exact ⟨⟨w3.heap.size, b1, b2, x1, x2⟩, rfl, copied n0 ((unhide gd1).trans (unhide K2)) ((unhide R1).G n0 (unhide K2)) (unhide R2) (Nat.le_refl _) (unhide gd1).size (by omega)⟩

theorem copy_at (w : World) (B : Nat) (d : Ad) (a : Ab) (h : AreAt w B d a) (g : a.Good) :
    Calls Tryd.prog 71 #[d.ptr] w fun e w' => ∃ d2 : Ad, e = .returned d2.ptr ∧ AreAt w' w.heap.size d2 a ∧ G w w' :=
  copy_core w d.ab d.wb d.sb a.n d.cw d.cs (a.n * 64) a g.ok.n0 h.c0 h.c1 (hide fun w1 g1 => cw_at w B d a h g w1 g1) (hide fun w1 g1 => csp_at w B d a h g w1 g1) (hide rfl) (hide rfl)
end Go.Proofs.YtagfgpfdlcchoaaDoor
