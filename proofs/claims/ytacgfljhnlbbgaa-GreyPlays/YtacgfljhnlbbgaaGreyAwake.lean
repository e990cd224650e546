/- What a law knows of one Queue on its way; awake() answers true. -/
import Derived.Test.YtacgfljhnlbbgaaGreyAll
namespace Go.Proofs.Ytacgfljhnlbbgaa
open Go.RowKit Go.Maps Go.ChangeShapes Go.WideShapes Go.ChangeAt

/-- One Queue, the call's own: W is the law's first world. -/
structure Sq (W w : World) (q : Nat) (bs : List Nat) (xs : List Int) : Prop where
  ql : QL w q bs xs
  bq : W.heap.size ≤ q
  bb : ∀ b ∈ bs, W.heap.size ≤ b
  below : Below W.heap.size W w
section
variable {W w w' : World} {q : Nat} {bs : List Nat} {xs ys : List Int} {x : Int}
theorem Sq.g (h : Sq W w q bs xs) (g : G w w') : Sq W w' q bs xs := ⟨h.ql.grown g, h.bq, h.bb, h.below.trans (g.mono h.below.size)⟩
theorem Sq.left (h : Sq W w q bs xs) (l : Left w w' q bs ys) : ∃ bs', Sq W w' q bs' ys ∧ Tq w w' q bs ∧ ∀ b ∈ bs', b ∈ bs ∨ w.heap.size ≤ b := by
  obtain ⟨bs', h1, h2, h3⟩ := l
  refine ⟨bs', ⟨h1, h.bq, fun b hb => ?_, h.below.trans (h2.below h.below.size h.bq h.bb)⟩, h2, h3⟩
  rcases h3 b hb with e | e
  · exact h.bb b e
  · exact Nat.le_trans h.below.size e

/-- The same, whatever its blocks; the blocks D are none of them. -/
def S2 (W w : World) (q : Nat) (xs : List Int) (D : List Nat) : Prop := ∃ bs, Sq W w q bs xs ∧ ∀ d ∈ D, d < w.heap.size ∧ d ≠ q ∧ d ∉ bs
/-- The blocks D are as they were. -/
def Kp (w w' : World) (D : List Nat) : Prop := ∀ d ∈ D, w'.heap[d]? = w.heap[d]?
variable {D : List Nat}
theorem Kp.cell (h : Kp w w' D) {d i : Nat} (hd : d ∈ D) {v : Value} (hc : w.cell? ⟨d, i, none⟩ = some v) : w'.cell? ⟨d, i, none⟩ = some v := (World.cell?_of_block (h d hd)).trans hc
theorem S2.g (h : S2 W w q xs D) (g : G w w') : S2 W w' q xs D := by
  obtain ⟨bs, h, a⟩ := h
  exact ⟨bs, h.g g, fun d hd => ⟨Nat.lt_of_lt_of_le (a d hd).1 g.size, (a d hd).2⟩⟩
theorem S2.kp (h : S2 W w q xs D) (g : G w w') : Kp w w' D := by
  obtain ⟨bs, h, a⟩ := h
  exact fun d hd => g.block d (a d hd).1
theorem S2.below (h : S2 W w q xs D) : Below W.heap.size W w := by obtain ⟨bs, h, _⟩ := h; exact h.below
theorem S2.sub (h : S2 W w q xs D) {E : List Nat} (e : ∀ d ∈ E, d ∈ D) : S2 W w q xs E := by obtain ⟨bs, h, a⟩ := h; exact ⟨bs, h, fun d hd => a d (e d hd)⟩
theorem s2_left {bs : List Nat} (hs : Sq W w q bs xs) (a : ∀ d ∈ D, d < w.heap.size ∧ d ≠ q ∧ d ∉ bs) (l : Left w w' q bs ys) : S2 W w' q ys D ∧ Kp w w' D := by
  obtain ⟨bs', h1, h2, h3⟩ := hs.left l
  refine ⟨⟨bs', h1, fun d hd => ?_⟩, fun d hd => h2.block d (a d hd).1 (a d hd).2.1 (a d hd).2.2⟩
  refine ⟨Nat.lt_of_lt_of_le (a d hd).1 h2.size, (a d hd).2.1, fun hm => ?_⟩
  rcases h3 d hm with e | e
  · exact (a d hd).2.2 e
  · have := (a d hd).1; omega

theorem s_new (g : Hid (G W w)) : Calls Try.prog 7 #[] w fun e w' => ∃ q, e = .returned (.pointer (some ⟨q, 0, none⟩)) ∧ S2 W w' q [] [] := by
  refine (q_new w).mono ?_
  rintro e w' ⟨q, rfl, h1, h2, h3⟩
  exact ⟨q, rfl, [], ⟨h1, Nat.le_trans (unhide g).size h2, (fun b hb => by cases hb), (unhide g).trans h3⟩, fun d hd => by cases hd⟩
theorem s_add (h : Hid (S2 W w q xs D)) (hn : xs.length ≤ 900000) (x : Int) : Calls Try.prog 12 #[.pointer (some ⟨q, 0, none⟩), .int .i64 x] w fun e w' => e = .returned (.tuple #[]) ∧ S2 W w' q (xs ++ [x]) D ∧ Kp w w' D := by
  obtain ⟨bs, hs, a⟩ := unhide h
  refine (q_add hs.ql hn x).mono ?_
  rintro e w' ⟨rfl, l⟩
  exact ⟨rfl, s2_left hs a l⟩
theorem s_next (h : Hid (S2 W w q (x :: xs) D)) (hn : xs.length ≤ 900000) : Calls Try.prog 8 #[.pointer (some ⟨q, 0, none⟩)] w fun e w' => e = .returned (.tuple #[.int .i64 x, .bool true]) ∧ S2 W w' q xs D ∧ Kp w w' D := by
  obtain ⟨bs, hs, a⟩ := unhide h
  refine (q_next hs.ql hn).mono ?_
  rintro e w' ⟨rfl, l⟩
  exact ⟨rfl, s2_left hs a l⟩
theorem s_next_none (h : Hid (S2 W w q [] D)) : Calls Try.prog 8 #[.pointer (some ⟨q, 0, none⟩)] w fun e w' => e = .returned (.tuple #[.int .i64 0, .bool false]) ∧ w' = w := by
  obtain ⟨bs, h, _⟩ := unhide h
  exact q_next_none h.ql
theorem s_len (h : Hid (S2 W w q xs D)) (n : Int) (hn : (xs.length : Int) = n) : Calls Try.prog 9 #[.pointer (some ⟨q, 0, none⟩)] w fun e w' => e = .returned (.int .i64 n) ∧ w' = w := by
  subst hn
  obtain ⟨bs, h, _⟩ := unhide h
  exact q_len h.ql
theorem s_blocks (h : Hid (S2 W w q xs D)) (hl : xs.length ≤ 1000000) (n : Int) (hn : (((xs.length + 15) / 16 : Nat) : Int) = n) : Calls Try.prog 10 #[.pointer (some ⟨q, 0, none⟩)] w fun e w' => e = .returned (.int .i64 n) ∧ w' = w := by
  subst hn
  obtain ⟨bs, h, _⟩ := unhide h
  exact q_blocks h.ql hl
theorem s_all (h : Hid (S2 W w q xs D)) (hl : xs.length ≤ 1000000) : Calls Try.prog 11 #[.pointer (some ⟨q, 0, none⟩)] w fun e w' => ∃ g, e = .returned (.slice (some ⟨g, 0, none⟩) xs.length xs.length) ∧ w'.ownsRow w.heap.size 2 1 (.slice (some ⟨g, 0, none⟩) xs.length xs.length) xs.length (cellsOf xs) ∧ S2 W w' q xs (g :: D) ∧ Kp w w' D := by
  have h0 := unhide h
  obtain ⟨bs, h, a⟩ := h0
  refine (q_all h.ql hl).mono ?_
  rintro e w' ⟨g, rfl, h1, h2⟩
  obtain ⟨l1, l2⟩ := World.ownsRow.lt h1 g rfl
  refine ⟨g, rfl, h1, ⟨bs, h.g h2, fun d hd => ?_⟩, fun d hd => h2.block d (a d hd).1⟩
  rcases List.mem_cons.1 hd with rfl | hd
  · have := h.ql.lt
    exact ⟨l2, by omega, fun hm => by have := h.ql.ltb _ hm; omega⟩
  · exact ⟨Nat.lt_of_lt_of_le (a d hd).1 h2.size, (a d hd).2⟩
theorem row_cell {B g n cap : Nat} (h : w.ownsRow B 2 1 (.slice (some ⟨g, 0, none⟩) n cap) n (cellsOf xs)) {i : Nat} (hi : xs[i]? = some x) : w.cell? ⟨g, i, none⟩ = some (.int .i64 x) := by
  have := World.ownsRow.cells h (g := g) rfl i (.int .i64 x) (by unfold cellsOf; rw [List.getElem?_map, hi]; rfl)
  rw [Addr.add_lit, Nat.zero_add] at this
  exact this
end

set_option maxHeartbeats 1000000 in
theorem awake_true (w : World) : Calls Try.prog 6 #[] w fun e w' => e = .returned (.bool true) ∧ G w w' := by
  go_enter Try.func6, Try.ntmps6
  go_wp2_with fail
  refine (s_new (hide (G.refl w))).mono ?_
  rintro e w1 ⟨q, rfl, R1⟩
  replace R1 := hide R1
  go_wp2_with fail
  refine (s_add R1 (by simp) 5).mono ?_
  rintro e w2 ⟨rfl, R2, _⟩
  replace R2 := hide R2
  clear R1
  go_wp2_with fail
  refine (s_add R2 (by simp) 7).mono ?_
  rintro e w3 ⟨rfl, R3, _⟩
  replace R3 := hide R3
  clear R2
  go_wp2_with fail
  refine (s_len R3 2 (by simp)).mono ?_
  rintro e w4 ⟨rfl, rfl⟩
  go_wp2_with fail
  refine (s_blocks R3 (by simp) 1 (by simp)).mono ?_
  rintro e w5 ⟨rfl, rfl⟩
  go_wp2_with fail
  refine (s_all R3 (by simp)).mono ?_
  rintro e w6 ⟨g, rfl, row, R6, _⟩
  have y1 := row_cell row (i := 1) (x := 7) rfl
  clear row
  simp only [List.nil_append, List.cons_append, List.length_cons, List.length_nil, Nat.zero_add, Nat.reduceAdd] at *
  replace R6 := hide R6
  clear R3
  go_wp2_with fail
  refine (s_next (x := 5) (xs := [7]) R6 (by simp)).mono ?_
  rintro e w7 ⟨rfl, R7, k7⟩
  replace y1 := k7.cell (by simp) y1
  replace R7 := hide R7
  clear R6 k7
  go_wp2_with fail
  refine (s_len R7 1 (by simp)).mono ?_
  rintro e w8 ⟨rfl, rfl⟩
  go_wp2_with fail
  go_ret
  exact ⟨rfl, (unhide R7).below⟩
end Go.Proofs.Ytacgfljhnlbbgaa
