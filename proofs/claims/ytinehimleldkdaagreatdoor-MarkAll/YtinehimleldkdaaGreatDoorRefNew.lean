/- The contracts of the document's Arena: NewArena; a class is set. -/
import Derived.Test.YtinehimleldkdaaGreatDoorRefMark
import Derived.Test.YtinehimleldkdaaGreatDoorApartRows
namespace Go.Proofs.YtinehimleldkdaaGreatDoor
set_option maxRecDepth 100000
open Go.ChangeShapes Go.WideShapes Go.ChangeAt Go.RowKit

/-- While NewArena goes on. -/
structure Nw (w wr : World) (rb : Nat) (co : Option Addr) (cc : Nat) (xs : List Int) : Prop where
  c0 : wr.cell? ⟨rb, 0, none⟩ = some (.slice co xs.length cc)
  c1 : wr.cell? ⟨rb, 1, none⟩ = some (.slice none 0 0)
  f0 : ∀ i, wr.frozen? ⟨rb, i, none⟩ = false
  row : RowI 3 wr w.heap.size co cc xs
  off : ∀ a, co = some a → a.block ≠ rb
  b0 : w.heap.size ≤ rb
  g : G w wr
theorem Nw.gr {w wr wr' : World} {rb : Nat} {co : Option Addr} {cc : Nat} {xs : List Int} (h : Nw w wr rb co cc xs) (g : G wr wr') : Nw w wr' rb co cc xs :=
  ⟨g.cell h.c0, g.cell h.c1, fun i => (World.frozen?_of_block (a := ⟨rb, i, none⟩) (g.block rb (World.block_lt_of_cell? _ _ h.c0))).trans (h.f0 i), h.row.grown g, h.off, h.b0, h.g.trans g⟩
theorem Nw.app {w wr w' : World} {rb : Nat} {co : Option Addr} {cc g cap' : Nat} {xs : List Int} {x : Int} (h : Nw w wr rb co cc xs)
    (hr : w'.ownsRow w.heap.size 3 1 (.slice (some ⟨g, 0, none⟩) (xs.length + 1) cap') (xs.length + 1) ((xs.map fun x => .int .i64 x) ++ [.int .i64 x]))
    (hg : wr.grownBy w' (Value.ownBlock (.slice co xs.length cc))) (hat : co = some ⟨g, 0, none⟩ ∨ g = wr.heap.size) :
    w'.cell? ⟨rb, 0, none⟩ = some (.slice co xs.length cc) ∧ w'.frozen? ⟨rb, 0, none⟩ = false ∧ Nw w (w'.setCell ⟨rb, 0, none⟩ (.slice (some ⟨g, 0, none⟩) (xs.length + 1) cap')) rb (some ⟨g, 0, none⟩) cap' (xs ++ [x]) := by
  have lt := World.block_lt_of_cell? _ _ h.c0
  have hgr : g ≠ rb := by
    rcases hat with e | e
    · exact h.off _ e
    · have : rb < wr.heap.size := lt
      omega
  have kb : w'.heap[rb]? = wr.heap[rb]? := hg.block rb lt (fun e => by obtain ⟨y, h1, h2⟩ := own_block e; exact h.off y h1 h2)
  have c0' := (World.cell?_of_block (a := ⟨rb, 0, none⟩) kb).trans h.c0
  have ra : RowI 3 w' w.heap.size (some ⟨g, 0, none⟩) cap' (xs ++ [x]) := row_app hr
  have gg : G w w' := ⟨hg.os.trans h.g.os, hg.tape.trans h.g.tape, hg.output.trans h.g.output, Nat.le_trans h.g.size hg.size, fun k hk => (hg.block k (Nat.lt_of_lt_of_le hk h.g.size) (fun e => by
    obtain ⟨y, h1, h2⟩ := own_block e
    have := (h.row.lt y h1).1
    omega)).trans (h.g.block k hk)⟩
  refine ⟨c0', (World.frozen?_of_block (a := ⟨rb, 0, none⟩) kb).trans (h.f0 0), ?_, ?_, ?_, ?_, ?_, h.b0, gg.set _ _ h.b0⟩
  · rw [cell_same _ c0', List.length_append]; rfl
  · rw [cell_other _ (by omega)]; exact (World.cell?_of_block (a := ⟨rb, 1, none⟩) kb).trans h.c1
  · intro i
    rw [World.frozen?_setCell]
    exact (World.frozen?_of_block (a := ⟨rb, i, none⟩) kb).trans (h.f0 i)
  · refine ra.kept fun y hy => ?_
    injection hy with hy
    subst hy
    exact Below.heap_setCell _ _ _ _ hgr
  · intro y hy
    injection hy with hy
    subst hy
    exact hgr

theorem Nw.done {w wr : World} {rb : Nat} {co : Option Addr} {cc : Nat} {xs : List Int} (h : Nw w wr rb co cc xs) (hx : xs ≠ []) : ∃ cb, RefAt wr w.heap.size ⟨rb, cb, cc, none, 0⟩ xs [] ∧ G w wr := by
  obtain ⟨x, hx0⟩ : ∃ x, xs[0]? = some x := ⟨xs[0]'(List.length_pos_iff.2 hx), List.getElem?_eq_getElem _⟩
  obtain ⟨cb, rfl, _⟩ := h.row.get hx0
  obtain ⟨r1, r2, r3, r4, r5⟩ := row_of h.row
  have l1 := (h.row.lt _ rfl).2
  refine ⟨cb, ⟨h.c0, h.c1, h.f0, fun i z hz => r2 i _ (by rw [List.getElem?_map, hz]; rfl), r3, r4, Nat.zero_le _, Nat.zero_le _, fun i m hm => by simp at hm, (fun a ha => by cases ha), fun _ => ⟨rfl, rfl⟩, (fun m hm => by simp at hm), List.Pairwise.nil, h.b0, r1, World.block_lt_of_cell? _ _ h.c0, l1, fun e => h.off _ rfl e.symm⟩, h.g⟩

set_option maxHeartbeats 1000000 in
theorem rnew_at (w : World) (n : Nat) (h0 : 1 ≤ n) (hn : n ≤ 512) :
    Calls Tryz.prog 30 #[.int .i64 (n : Int)] w fun e w' => ∃ r : Rd, e = .returned (.pointer (some ⟨r.rb, 0, none⟩)) ∧ RefAt w' w.heap.size r (List.replicate n (-1)) [] ∧ G w w' ∧ r.lo = none := by
  obtain ⟨i1, hj0, hy0, hy1, hy2⟩ := info_parts info_int
  have R0 : Hid (Nw w (w.alloc (.cells #[.slice none 0 0, .slice none 0 0] 99)) w.heap.size none 0 []) := by
    have hb := heap_alloc_new w (.cells #[.slice none 0 0, .slice none 0 0] 99)
    exact hide ⟨by rw [World.cell?_alloc_new]; rfl, by rw [World.cell?_alloc_new]; rfl, fun i => by simp only [World.frozen?, hb]; simp, RowI.nil _ _ _, (fun a ha => by cases ha), Nat.le_refl _, G.alloc _ _⟩
  go_enter Tryz.func30, Tryz.ntmps30
  go_wp2_with fail
  go_loopw [4] (fun c wr => ∃ (j : Nat) (co : Option Addr) (cc : Nat), j ≤ n ∧ c = .int .i64 j ∧ Hid (Nw w wr w.heap.size co cc (List.replicate j (-1)))) (fun c _ => n - (intOf c).toNat)
  case atStart => exact ⟨0, none, 0, Nat.zero_le _, rfl, R0⟩
  case round =>
    obtain ⟨j, co, cc, hj, rfl, R⟩ := hrel
    clear R0
    by_cases hjn : j = n
    · subst hjn
      go_wp2_with fail
      go_ret
      obtain ⟨cb, q1, q2⟩ := (unhide R).done (by intro e; have := congrArg List.length e; simp at this; omega)
      exact ⟨_, rfl, q1, q2, rfl⟩
    · have hjl : (j : Int) < (n : Int) := by omega
      have c0 : wr.cell? ⟨w.heap.size, 0, none⟩ = some (.slice co j cc) := by have := (unhide R).c0; rw [List.length_replicate] at this; exact this
      have lt : w.heap.size < wr.heap.size := World.block_lt_of_cell? _ _ c0
      have R1 := hide ((unhide R).gr (G.alloc wr (.cells #[.int .i64 (-1)] 3)))
      have HO : Hid ((wr.alloc (.cells #[.int .i64 (-1)] 3)).ownsRow w.heap.size 3 1 (.slice co j cc) j ((List.replicate j (-1)).map fun x => .int .i64 x)) := by
        have := (unhide R1).row
        unfold RowI at this
        rw [List.length_replicate] at this
        exact hide this
      have HS : Hid (w.heap.size ≤ (wr.alloc (.cells #[.int .i64 (-1)] 3)).heap.size) := hide (by rw [World.size_alloc]; omega)
      have HN : Hid (∀ (i : Nat) u, [Value.int .i64 (-1)][i]? = some u → (wr.alloc (.cells #[.int .i64 (-1)] 3)).cell? ((⟨wr.heap.size, 0, none⟩ : Addr).add i) = some u) := hide fun i u hi => by
        rw [Addr.add_lit, Nat.zero_add, World.cell?_alloc_new]
        simpa using hi
      have H1 : Hid (∀ u ∈ [Value.int .i64 (-1)], u.oneCell' = true) := hide fun u hu => by
        simp at hu
        rw [hu]
        rfl
      clear R
      go_wp2_with (at_builtin; refine wpl_append_at rfl (.tmp 16) (.tmp 17) 34 rfl w.heap.size 3 i1 (.int .i64 0) 1 8 Tryz.underlying34 hj0 hy0 hy1 hy2 rfl (by decide) co j cc ((List.replicate j (-1)).map fun x => .int .i64 x) rfl (unhide HO) ⟨wr.heap.size, 0, none⟩ 1 1 [.int .i64 (-1)] rfl rfl (unhide HN) (unhide H1) (by decide) (by unfold maxLen; omega) (by omega) (unhide HS) ?_; intro g cap8 w7 hr8 hg8 hat8; obtain ⟨d0, e0, R7⟩ := (unhide R1).app (x := -1) (g := g) (cap' := cap8) (w' := w7) (by rw [List.length_replicate]; exact hr8) (by rw [List.length_replicate]; exact hg8) hat8; rw [List.length_replicate] at d0 R7; rw [← List.replicate_succ'] at R7; replace R7 := hide R7; clear hr8 hg8 hat8 HO HS HN H1 R1)
      go_roundw
      case rel => exact ⟨j + 1, some ⟨g, 0, none⟩, cap8, by omega, by go_num, R7⟩
      case measure => simp [intOf]; omega
end Go.Proofs.YtinehimleldkdaaGreatDoor
