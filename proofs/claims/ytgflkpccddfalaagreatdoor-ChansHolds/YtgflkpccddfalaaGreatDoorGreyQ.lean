/- The contracts of package grey's calls over the list that a Queue holds. -/
import Derived.Test.YtgflkpccddfalaaGreatDoorGreyCalls
namespace Go.Proofs.YtgflkpccddfalaaGreatDoor.Gy
set_option maxRecDepth 100000
open Go.RowKit Go.Maps Go.ChangeShapes Go.WideShapes Go.ChangeAt

/-- The Queue at q holds xs, in the blocks bs. -/
def QL (w : World) (q : Nat) (bs : List Nat) (xs : List Int) : Prop := ∃ f c, QAt w q f xs.length bs c ∧ ∀ i x, xs[i]? = some x → c (f + i) = x
section
variable {w w' : World} {q : Nat} {bs : List Nat} {xs : List Int}
theorem QL.grown (h : QL w q bs xs) (g : G w w') : QL w' q bs xs := by obtain ⟨f, c, h1, h2⟩ := h; exact ⟨f, c, h1.grown g, h2⟩
theorem QL.kept (h : QL w q bs xs) (e : w'.heap[q]? = w.heap[q]?) (eb : ∀ b ∈ bs, w'.heap[b]? = w.heap[b]?) : QL w' q bs xs := by obtain ⟨f, c, h1, h2⟩ := h; exact ⟨f, c, h1.kept e eb, h2⟩
theorem QL.lt (h : QL w q bs xs) : q < w.heap.size := by obtain ⟨f, c, h1, h2⟩ := h; exact h1.lt
theorem QL.ltb (h : QL w q bs xs) : ∀ b ∈ bs, b < w.heap.size := by obtain ⟨f, c, h1, h2⟩ := h; exact h1.ltb

theorem fz_new (w : World) (cs : Array Value) (t : TypeId) (i : Nat) : (w.alloc (.cells cs t)).frozen? ⟨w.heap.size, i, none⟩ = false := by
  have hb := heap_alloc_new w (.cells cs t)
  unfold World.frozen?
  rw [hb]
  simp
theorem blk_new (w : World) : BlkAt (w.alloc newBlk) w.heap.size (fun _ => 0) none := by
  refine ⟨fun i hi => ?_, ?_, fun i => ?_⟩
  · rw [World.cell?_alloc_new]
    match i, hi with
    | 0, _ => rfl
    | 1, _ => rfl
    | 2, _ => rfl
    | 3, _ => rfl
    | 4, _ => rfl
    | 5, _ => rfl
    | 6, _ => rfl
    | 7, _ => rfl
    | 8, _ => rfl
    | 9, _ => rfl
    | 10, _ => rfl
    | 11, _ => rfl
    | 12, _ => rfl
    | 13, _ => rfl
    | 14, _ => rfl
    | 15, _ => rfl
    | (j + 16), h => omega
  · rw [World.cell?_alloc_new]; rfl
  · exact fz_new w _ _ i

theorem queue_new (w : World) : QL (w.alloc (.cells #[.pointer none, .pointer none, .int .i64 0, .int .i64 0] 137)) w.heap.size [] [] := by
  refine ⟨0, fun _ => 0, ⟨?_, ?_, ?_, ?_, fun i => fz_new w _ _ i, fun k b hk => by simp at hk, by simp, by simp, by omega, by simp, by simp, fun _ => rfl⟩, fun i x hx => by simp at hx⟩ <;> (rw [World.cell?_alloc_new]; rfl)

theorem q_new (w : World) : Calls Tryz.prog 61 #[] w fun e w' => ∃ q, e = .returned (.pointer (some ⟨q, 0, none⟩)) ∧ QL w' q [] [] ∧ w.heap.size ≤ q ∧ G w w' := by
  refine (new_raw w).mono ?_
  rintro e w' ⟨rfl, rfl⟩
  exact ⟨_, rfl, queue_new w, Nat.le_refl _, G.alloc _ _⟩

/-- What a call leaves: the queue's new list and blocks. -/
def Left (w w' : World) (q : Nat) (bs : List Nat) (ys : List Int) : Prop := ∃ bs', QL w' q bs' ys ∧ Tq w w' q bs ∧ ∀ b ∈ bs', b ∈ bs ∨ w.heap.size ≤ b

theorem snoc_get {xs : List Int} {x y : Int} {i : Nat} (h : (xs ++ [x])[i]? = some y) : (i < xs.length ∧ xs[i]? = some y) ∨ (i = xs.length ∧ x = y) := by
  rcases Nat.lt_trichotomy i xs.length with e | e | e
  · rw [List.getElem?_append_left e] at h; exact Or.inl ⟨e, h⟩
  · subst e; simp at h; exact Or.inr ⟨rfl, h⟩
  · rw [List.getElem?_eq_none (by simp; omega)] at h; cases h

theorem add_in_left (hn : xs.length ≤ 900000) (x : Int) {f : Nat} {c : Nat → Int} (h1 : QAt w q f xs.length bs c) (h2 : ∀ i x, xs[i]? = some x → c (f + i) = x) (hat : ¬ (f + xs.length) % 16 = 0) :
    Calls Tryz.prog 84 #[.pointer (some ⟨q, 0, none⟩), .int .i64 x] w fun e w' => e = .returned (.tuple #[]) ∧ Left w w' q bs (xs ++ [x]) := by
  have hle := h1.le
  have hge := h1.ge
  obtain ⟨m, hm⟩ : ∃ m, bs.length = m + 1 := ⟨bs.length - 1, by omega⟩
  obtain ⟨l, hl⟩ : ∃ l, bs[m]? = some l := ⟨bs[m]'(by omega), List.getElem?_eq_getElem (by omega)⟩
  have hlast : bs.getLast? = some l := by rw [List.getLast?_eq_getElem?, hm]; exact hl
  have hB := h1.bk m l hl
  have hlq : ¬ l = q := fun e => h1.qn (e ▸ List.mem_of_getElem? hl)
  have ha : (f + xs.length) % 16 < 16 := Nat.mod_lt _ (by decide)
  have c1 := h1.c1
  rw [hlast] at c1
  refine (add_in w q l f xs.length x _ _ rfl hat h1.f16 (by omega) c1 h1.c2 h1.c3 (hB.a _ ha) (hB.fz _) (h1.fq 3) hlq).mono ?_
  rintro e w' ⟨rfl, k, rfl⟩
  refine ⟨rfl, bs, QL.grown (w := (w.setCell ⟨l, (f + xs.length) % 16, none⟩ (.int .i64 x)).setCell ⟨q, 3, none⟩ (.int .i64 ((xs.length : Int) + 1))) ?_ (G.drewN _ _), ?_, fun b hb => Or.inl hb⟩
  · refine ⟨f, fun p => if p = f + xs.length then x else c p, ⟨?_, ?_, ?_, ?_, ?_, ?_, h1.nd, h1.qn, h1.f16, ?_, ?_, ?_⟩, ?_⟩
    · rw [cell_other _ (by omega), cell_other _ (by omega)]; exact h1.c0
    · rw [cell_other _ (by omega), cell_other _ (by omega)]; exact h1.c1
    · rw [cell_other _ (by omega), cell_other _ (by omega)]; exact h1.c2
    · rw [cell_same _ ((cell_other _ (by omega)).trans h1.c3)]; simp
    · intro i; rw [World.frozen?_setCell, World.frozen?_setCell]; exact h1.fq i
    · intro k b hk
      have hbq : b ≠ q := fun e => h1.qn (e ▸ List.mem_of_getElem? hk)
      refine BlkAt.kept (w := w.setCell ⟨l, (f + xs.length) % 16, none⟩ (.int .i64 x)) ?_ (heap_set _ _ hbq)
      by_cases e : k = m
      · subst e
        obtain rfl : b = l := Option.some.inj (hk.symm.trans hl)
        refine (hB.set _ ha x).cong fun i hi => ?_
        by_cases e : i = (f + xs.length) % 16
        · rw [if_pos (by omega), if_pos e]
        · rw [if_neg (by omega), if_neg e]
      · have hbl : b ≠ l := fun eb => e ((List.getElem?_inj (by have := (List.getElem?_eq_some_iff.1 hk).1; exact this) h1.nd).1 (by rw [hk, hl, eb]))
        refine ((h1.bk k b hk).kept (heap_set _ _ hbl)).cong fun i hi => ?_
        have hkl := (List.getElem?_eq_some_iff.1 hk).1
        rw [if_neg (by omega)]
    · simp; omega
    · simp; omega
    · simp
    · intro i y hy
      have hf := h1.f16
      rcases snoc_get hy with ⟨e, hy⟩ | ⟨e, hy⟩
      · simp only; rw [if_neg (by omega)]; exact h2 i y hy
      · simp only; rw [if_pos (by omega)]; exact hy
  · exact (((Tq.of_G (G.refl w)).set _ _ (Or.inr (Or.inl (List.mem_of_getElem? hl)))).set _ _ (Or.inl rfl)).g (G.drewN _ _)

/-- The new block behind the others. -/
theorem add_grow_left (hn : xs.length ≤ 900000) (x : Int) {f : Nat} {c : Nat → Int} (h1 : QAt w q f xs.length bs c) (h2 : ∀ i x, xs[i]? = some x → c (f + i) = x) (hat : (f + xs.length) % 16 = 0) :
    Calls Tryz.prog 84 #[.pointer (some ⟨q, 0, none⟩), .int .i64 x] w fun e w' => e = .returned (.tuple #[]) ∧ Left w w' q bs (xs ++ [x]) := by
  have hle := h1.le
  have hge := h1.ge
  have hfull : f + xs.length = bs.length * 16 := by omega
  have hf16 := h1.f16
  have hqS : q < w.heap.size := h1.lt
  have hbS := h1.ltb
  let R : World → Prop := fun w1 => ∃ w0, w1 = w0.alloc newBlk ∧ w0.heap.size = w.heap.size ∧ w0.cell? ⟨q, 0, none⟩ = some (.pointer ((bs ++ [w.heap.size]).head?.map bp)) ∧ w0.cell? ⟨q, 1, none⟩ = some (.pointer (some ⟨w.heap.size, 0, none⟩)) ∧ w0.cell? ⟨q, 2, none⟩ = some (.int .i64 f) ∧ w0.cell? ⟨q, 3, none⟩ = some (.int .i64 (xs.length : Int)) ∧
    (∀ i, w0.frozen? ⟨q, i, none⟩ = false) ∧ (∀ k b, bs[k]? = some b → BlkAt w0 b (fun i => c (k * 16 + i)) (bs ++ [w.heap.size])[k + 1]?) ∧ Tq w w0 q bs
  have C : ∀ k, Calls Tryz.prog 95 #[.pointer (some ⟨q, 0, none⟩)] (w.drewN k) fun e w' => e = .returned (.tuple #[]) ∧ R w' := by
    intro k
    have hd := h1.grown (G.drewN w k)
    have hsz : (w.drewN k).heap.size = w.heap.size := rfl
    cases bs with
    | nil =>
      refine (grow_first (w.drewN k) q _ hd.c0 hd.c1 (hd.fq 0) (hd.fq 1) hd.lt).mono ?_
      rintro e w' ⟨rfl, rfl⟩
      refine ⟨rfl, _, rfl, by rw [World.size_setCell, World.size_setCell, hsz], ?_, ?_, ?_, ?_, fun i => by rw [World.frozen?_setCell, World.frozen?_setCell]; exact hd.fq i, fun k b hk => by simp at hk, ?_⟩
      · rw [cell_other _ (by omega), cell_same _ hd.c0]; rfl
      · rw [cell_same _ ((cell_other _ (by omega)).trans hd.c1)]; rfl
      · rw [cell_other _ (by omega), cell_other _ (by omega)]; exact hd.c2
      · rw [cell_other _ (by omega), cell_other _ (by omega)]; exact hd.c3
      · exact ((Tq.of_G (G.drewN w k)).set _ _ (Or.inl rfl)).set _ _ (Or.inl rfl)
    | cons b r =>
      obtain ⟨m, hm⟩ : ∃ m, (b :: r).length = m + 1 := ⟨r.length, rfl⟩
      obtain ⟨l, hl⟩ : ∃ l, (b :: r)[m]? = some l := ⟨(b :: r)[m]'(by omega), List.getElem?_eq_getElem (by omega)⟩
      have hlast : (b :: r).getLast? = some l := by rw [List.getLast?_eq_getElem?, hm]; exact hl
      have hB := hd.bk m l hl
      have hlm := List.mem_of_getElem? hl
      have hlq : l ≠ q := fun e => h1.qn (e ▸ hlm)
      have c1 := hd.c1
      rw [hlast] at c1
      refine (grow_more (w.drewN k) q b l _ hd.c0 c1 hB.nx (hB.fz 16) (hd.fq 1) hd.lt hB.lt).mono ?_
      rintro e w' ⟨rfl, rfl⟩
      refine ⟨rfl, _, rfl, by rw [World.size_setCell, World.size_setCell, hsz], ?_, ?_, ?_, ?_, fun i => by rw [World.frozen?_setCell, World.frozen?_setCell]; exact hd.fq i, ?_, ?_⟩
      · rw [cell_other _ (by omega), cell_other _ (by omega)]; exact hd.c0
      · rw [cell_same _ ((cell_other _ (by omega)).trans hd.c1)]; rfl
      · rw [cell_other _ (by omega), cell_other _ (by omega)]; exact hd.c2
      · rw [cell_other _ (by omega), cell_other _ (by omega)]; exact hd.c3
      · intro k' b' hk
        have hbq : b' ≠ q := fun e => h1.qn (e ▸ List.mem_of_getElem? hk)
        refine BlkAt.kept (w := (w.drewN k).setCell ⟨l, 16, none⟩ (.pointer (some ⟨w.heap.size, 0, none⟩))) ?_ (heap_set _ _ hbq)
        have hkl := (List.getElem?_eq_some_iff.1 hk).1
        by_cases e : k' = m
        · subst e
          obtain rfl : b' = l := Option.some.inj (hk.symm.trans hl)
          have e2 : ((b :: r) ++ [w.heap.size])[k' + 1]? = some w.heap.size := by rw [← hm, List.getElem?_append_right (Nat.le_refl _)]; simp
          rw [e2]
          exact hB.link _
        · have hbl : b' ≠ l := fun eb => e ((List.getElem?_inj hkl h1.nd).1 (by rw [hk, hl, eb]))
          have e2 : ((b :: r) ++ [w.heap.size])[k' + 1]? = (b :: r)[k' + 1]? := List.getElem?_append_left (by omega)
          rw [e2]
          exact (hd.bk k' b' hk).kept (heap_set _ _ hbl)
      · exact ((Tq.of_G (G.drewN w k)).set _ _ (Or.inr (Or.inl hlm))).set _ _ (Or.inl rfl)
  refine (add_grow w q f xs.length w.heap.size x R hat hf16 (by omega) h1.c2 h1.c3 (hide C) (hide ?_)).mono ?_
  · rintro w1 ⟨w0, rfl, hs, _, d1, _, d3, d4, _, _⟩
    have nb := blk_new w0
    rw [hs] at nb
    have g := G.alloc w0 newBlk
    exact ⟨g.cell d1, nb.a 0 (by decide), g.cell d3, nb.fz 0, (World.frozen?_of_block (a := ⟨q, 3, none⟩) (g.block q (by omega))).trans (d4 3)⟩
  · rintro e w' ⟨rfl, w1, ⟨w0, rfl, hs, d0, d1, d2, d3, d4, d5, d6⟩, rfl⟩
    have nb := blk_new w0
    rw [hs] at nb
    have g := G.alloc w0 newBlk
    have hSq : w.heap.size ≠ q := by omega
    refine ⟨rfl, bs ++ [w.heap.size], ⟨f, fun p => if p = f + xs.length then x else if p < bs.length * 16 then c p else 0, ⟨?_, ?_, ?_, ?_, ?_, ?_, ?_, ?_, hf16, ?_, ?_, ?_⟩, ?_⟩, ?_, ?_⟩
    · rw [cell_other _ (by omega), cell_other _ (by omega)]; exact g.cell d0
    · rw [cell_other _ (by omega), cell_other _ (by omega)]; simp; exact g.cell d1
    · rw [cell_other _ (by omega), cell_other _ (by omega)]; exact g.cell d2
    · rw [cell_same _ ((cell_other _ (by omega)).trans (g.cell d3))]; simp
    · intro i; rw [World.frozen?_setCell, World.frozen?_setCell]; exact (World.frozen?_of_block (a := ⟨q, i, none⟩) (g.block q (by omega))).trans (d4 i)
    · intro k b hk
      have hkl := (List.getElem?_eq_some_iff.1 hk).1
      simp at hkl
      by_cases e : k = bs.length
      · subst e
        rw [List.getElem?_append_right (Nat.le_refl _)] at hk
        simp at hk
        subst hk
        have e2 : (bs ++ [w.heap.size])[bs.length + 1]? = none := List.getElem?_eq_none (by simp)
        rw [e2]
        refine ((nb.set 0 (by decide) x).kept (heap_set _ _ hSq)).cong fun i hi => ?_
        by_cases e : i = 0
        · rw [if_pos (by omega), if_pos e]
        · rw [if_neg (by omega), if_neg (by omega), if_neg e]
      · have hkl2 : k < bs.length := by omega
        rw [List.getElem?_append_left hkl2] at hk
        have hbm := List.mem_of_getElem? hk
        have hbq : b ≠ q := fun e => h1.qn (e ▸ hbm)
        have hb1 : b < w.heap.size := hbS b hbm
        refine (((d5 k b hk).kept ((heap_set _ _ hbq).trans ((heap_set _ _ (by show b ≠ w.heap.size; omega)).trans (g.block b (by omega)))))).cong fun i hi => ?_
        rw [if_neg (by omega), if_pos (by omega)]
    · rw [List.nodup_append]
      refine ⟨h1.nd, by simp, ?_⟩
      intro a ha b hb
      simp at hb
      have := hbS a ha
      omega
    · intro hm
      rcases List.mem_append.1 hm with hm | hm
      · exact h1.qn hm
      · simp at hm; omega
    · simp; omega
    · simp; omega
    · simp
    · intro i y hy
      rcases snoc_get hy with ⟨e, hy⟩ | ⟨e, hy⟩
      · simp only; rw [if_neg (by omega), if_pos (by omega)]; exact h2 i y hy
      · simp only; rw [if_pos (by omega)]; exact hy
    · exact ((d6.g g).set _ _ (Or.inr (Or.inr (Nat.le_refl _)))).set _ _ (Or.inl rfl)
    · intro b hb
      rcases List.mem_append.1 hb with hm | hm
      · exact Or.inl hm
      · simp at hm; exact Or.inr (by omega)

theorem q_add (h : QL w q bs xs) (hn : xs.length ≤ 900000) (x : Int) :
    Calls Tryz.prog 84 #[.pointer (some ⟨q, 0, none⟩), .int .i64 x] w fun e w' => e = .returned (.tuple #[]) ∧ Left w w' q bs (xs ++ [x]) := by
  obtain ⟨f, c, h1, h2⟩ := h
  by_cases hat : (f + xs.length) % 16 = 0
  · exact add_grow_left hn x h1 h2 hat
  · exact add_in_left hn x h1 h2 hat

/-! ### Next -/
theorem q_next_none (h : QL w q bs []) : Calls Tryz.prog 96 #[.pointer (some ⟨q, 0, none⟩)] w fun e w' => e = .returned (.tuple #[.int .i64 0, .bool false]) ∧ w' = w := by
  obtain ⟨f, c, h1, h2⟩ := h
  exact next_none w q h1.c3

set_option maxHeartbeats 1000000 in
theorem q_next {x : Int} (h : QL w q bs (x :: xs)) (hn : xs.length ≤ 900000) :
    Calls Tryz.prog 96 #[.pointer (some ⟨q, 0, none⟩)] w fun e w' => e = .returned (.tuple #[.int .i64 x, .bool true]) ∧ Left w w' q bs xs := by
  obtain ⟨f, c, h1, h2⟩ := h
  have hle := h1.le
  have hge := h1.ge
  have hf16 := h1.f16
  rw [List.length_cons] at hle hge
  have hx : c f = x := h2 0 x rfl
  obtain ⟨b, r, rfl⟩ : ∃ b r, bs = b :: r := by
    cases bs with
    | nil => simp at hle
    | cons b r => exact ⟨b, r, rfl⟩
  rw [List.length_cons] at hle hge
  have hB := h1.bk 0 b rfl
  have hbq : b ≠ q := fun e => h1.qn (e ▸ List.mem_cons_self)
  have c3 := h1.c3
  rw [List.length_cons] at c3
  have cb := hB.a f hf16
  rw [Nat.zero_mul, Nat.zero_add, hx] at cb
  -- what shrink meets
  let w1 := (w.setCell ⟨q, 2, none⟩ (.int .i64 ((f : Int) + 1))).setCell ⟨q, 3, none⟩ (.int .i64 (((xs.length + 1 : Nat) : Int) - 1))
  have e0 : w1.cell? ⟨q, 0, none⟩ = some (.pointer (some ⟨b, 0, none⟩)) := by
    show (World.setCell _ _ _).cell? _ = _
    rw [cell_other _ (by omega), cell_other _ (by omega)]; exact h1.c0
  have e1 : w1.cell? ⟨q, 1, none⟩ = some (.pointer ((b :: r).getLast?.map bp)) := by
    show (World.setCell _ _ _).cell? _ = _
    rw [cell_other _ (by omega), cell_other _ (by omega)]; exact h1.c1
  have e2 : w1.cell? ⟨q, 2, none⟩ = some (.int .i64 ((f + 1 : Nat) : Int)) := by
    show (World.setCell _ _ _).cell? _ = _
    rw [cell_other _ (by omega), cell_same _ h1.c2]; simp
  have e3 : w1.cell? ⟨q, 3, none⟩ = some (.int .i64 (xs.length : Int)) := by
    show (World.setCell _ _ _).cell? _ = _
    rw [cell_same _ ((cell_other _ (by omega)).trans c3)]; simp
  have ef : ∀ i, w1.frozen? ⟨q, i, none⟩ = false := by
    intro i
    show (World.setCell _ _ _).frozen? _ = _
    rw [World.frozen?_setCell, World.frozen?_setCell]; exact h1.fq i
  have eb : ∀ k b', (b :: r)[k]? = some b' → BlkAt w1 b' (fun i => c (k * 16 + i)) (b :: r)[k + 1]? := by
    intro k b' hk
    have hbq : b' ≠ q := fun e => h1.qn (e ▸ List.mem_of_getElem? hk)
    exact (h1.bk k b' hk).kept ((heap_set _ _ hbq).trans (heap_set _ _ hbq))
  have et : Tq w w1 q (b :: r) := ((Tq.of_G (G.refl w)).set _ _ (Or.inl rfl)).set _ _ (Or.inl rfl)
  refine next_some w q b f (xs.length + 1) x (fun w' => Left w w' q (b :: r) xs) hf16 (by omega) (by omega) h1.c0 h1.c2 c3 cb (h1.fq 2) (h1.fq 3) (hide ?_)
  intro k
  show Calls Tryz.prog 105 _ (w1.drewN k) _
  have g := G.drewN w1 k
  have gf : ∀ i, (w1.drewN k).frozen? ⟨q, i, none⟩ = false := ef
  clear_value w1
  by_cases hz : xs.length = 0
  · obtain rfl : xs = [] := List.eq_nil_of_length_eq_zero hz
    refine (shrink_zero (w1.drewN k) q _ _ _ (g.cell e0) (g.cell e1) (g.cell e2) (g.cell e3) (gf 0) (gf 1) (gf 2) (gf 3)).mono ?_
    rintro e w' ⟨rfl, rfl⟩
    refine ⟨rfl, [], ⟨0, fun _ => 0, ⟨?_, ?_, ?_, ?_, ?_, fun k b hk => by simp at hk, by simp, by simp, by omega, by simp, by simp, fun _ => rfl⟩, fun i x hx => by simp at hx⟩, ?_, fun b hb => by simp at hb⟩
    · rw [cell_other _ (by omega), cell_other _ (by omega), cell_other _ (by omega), cell_same _ (g.cell e0)]; rfl
    · rw [cell_other _ (by omega), cell_other _ (by omega), cell_same _ ((cell_other _ (by omega)).trans (g.cell e1))]; rfl
    · rw [cell_other _ (by omega), cell_same _ ((cell_other _ (by omega)).trans ((cell_other _ (by omega)).trans (g.cell e2)))]; rfl
    · rw [cell_same _ ((cell_other _ (by omega)).trans ((cell_other _ (by omega)).trans ((cell_other _ (by omega)).trans (g.cell e3))))]; rfl
    · intro i
      rw [World.frozen?_setCell, World.frozen?_setCell, World.frozen?_setCell, World.frozen?_setCell]; exact gf i
    · exact ((((et.g g).set _ _ (Or.inl rfl)).set _ _ (Or.inl rfl)).set _ _ (Or.inl rfl)).set _ _ (Or.inl rfl)
  · have hz' : ((xs.length : Int) == 0) = false := by simpa using hz
    by_cases hf : f + 1 = 16
    · obtain ⟨b2, r2, rfl⟩ : ∃ b2 r2, r = b2 :: r2 := by
        cases r with
        | nil => simp at hle; omega
        | cons b r => exact ⟨b, r, rfl⟩
      have hnx := (eb 0 b rfl).nx
      rw [hf] at e2
      refine (shrink_full (w1.drewN k) q b _ _ (g.cell e0) (g.cell e2) (g.cell e3) hz' (g.cell hnx) (gf 0) (gf 2)).mono ?_
      rintro e w' ⟨rfl, rfl⟩
      refine ⟨rfl, b2 :: r2, ⟨0, fun p => c (p + 16), ⟨?_, ?_, ?_, ?_, ?_, ?_, ?_, ?_, by omega, ?_, ?_, fun _ => rfl⟩, ?_⟩, ?_, ?_⟩
      · rw [cell_other _ (by omega), cell_same _ (g.cell e0)]; rfl
      · rw [cell_other _ (by omega), cell_other _ (by omega)]
        rw [List.getLast?_cons_cons] at e1
        exact g.cell e1
      · rw [cell_same _ ((cell_other _ (by omega)).trans (g.cell e2))]; rfl
      · rw [cell_other _ (by omega), cell_other _ (by omega)]; exact g.cell e3
      · intro i
        rw [World.frozen?_setCell, World.frozen?_setCell]; exact gf i
      · intro k' b' hk
        have hbq : b' ≠ q := fun e => h1.qn (e ▸ List.mem_cons_of_mem _ (List.mem_of_getElem? hk))
        refine ((((eb (k' + 1) b' hk).kept (w' := w1.drewN k) rfl).kept ((heap_set _ _ hbq).trans (heap_set _ _ hbq)))).cong fun i hi => ?_
        congr 1
        omega
      · exact (List.nodup_cons.1 h1.nd).2
      · exact fun hm => h1.qn (List.mem_cons_of_mem _ hm)
      · simp at hle ⊢; omega
      · simp at hge ⊢; omega
      · intro i y hy
        have := h2 (i + 1) y (by simpa using hy)
        rw [← this]
        simp only
        congr 1
        omega
      · exact ((et.g g).set _ _ (Or.inl rfl)).set _ _ (Or.inl rfl)
      · exact fun b' hb => Or.inl (List.mem_cons_of_mem _ hb)
    · have hf' : (((f + 1 : Nat) : Int) == 16) = false := by simp; omega
      refine (shrink_none (w1.drewN k) q _ _ (g.cell e2) (g.cell e3) hz' hf').mono ?_
      rintro e w' ⟨rfl, rfl⟩
      refine ⟨rfl, b :: r, ⟨f + 1, c, ⟨g.cell e0, g.cell e1, g.cell e2, g.cell e3, gf, fun k' b' hk => (eb k' b' hk).kept rfl, h1.nd, h1.qn, by omega, ?_, ?_, fun e => absurd e hz⟩, ?_⟩, et.g g, fun b' hb => Or.inl hb⟩
      · simp; omega
      · simp; omega
      · intro i y hy
        have := h2 (i + 1) y (by simpa using hy)
        rw [← this]
        congr 1
        omega
end
end Go.Proofs.YtgflkpccddfalaaGreatDoor.Gy
