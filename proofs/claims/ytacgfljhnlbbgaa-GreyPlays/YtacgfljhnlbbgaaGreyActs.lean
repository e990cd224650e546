/- A list of calls that came in; a Queue beside a row. -/
import Derived.Test.YtacgfljhnlbbgaaGreyRow
namespace Go.Proofs.Ytacgfljhnlbbgaa
open Go.RowKit Go.Maps Go.ChangeShapes Go.WideShapes Go.ChangeAt Go.Deep

/-- A call: Next, or an Add of an address. -/
structure Ga where
  nx : Bool
  ad : Int
def Ga.cells (s : Ga) : List Value := [.bool s.nx, .int .i64 s.ad]
theorem cells_gact : Try.prog.cellsOf 32 = 2 := by kernel_rfl
theorem cells_gbool : Try.prog.cellsOf 4 = 1 := by kernel_rfl
theorem cells_gi64 : Try.prog.cellsOf 2 = 1 := by kernel_rfl

theorem gact_of_cells {H : Type} {enc : TypeId × Value → H} {w : World} {base : Nat} {spare : Nat → Bool} {held : Bool} {fuel : Nat} {cs : List Value} {x : DataW H × List MemPlace}
    (hf : DataW.trod enc Try.prog w base spare held fuel 32 cs = some x) : ∃ s : Ga, cs = s.cells := by
  obtain ⟨y0, y1, n, _, hl, t0, t1⟩ := trod_struct2 Try.underlying32 hf
  rw [cells_gact] at hl
  match cs, hl with
  | [x0, x1], _ =>
    simp only [cells_gbool, cells_gi64, List.take, List.drop] at t0 t1
    obtain ⟨a0, e0, _⟩ := DataW.trod_bool Try.underlying4 t0
    obtain ⟨a1, e1, _⟩ := DataW.trod_int Try.underlying2 t1
    simp at e0 e1
    subst e0 e1
    exact ⟨⟨a0, a1⟩, rfl⟩

/-- The calls l lie at ao in w. -/
def IsGa (w : World) (ao : Option Addr) (n : Nat) (l : List Ga) : Prop :=
  l.length = n ∧ n ≤ maxLen ∧ (n = 0 ∨ ∃ b off, ao = some ⟨b, off, none⟩ ∧ b < w.heap.size ∧ ∀ i s, l[i]? = some s → w.cell? ⟨b, off + i * 2, none⟩ = some (.bool s.nx) ∧ w.cell? ⟨b, off + i * 2 + 1, none⟩ = some (.int .i64 s.ad))

theorem spot_none {w : World} {a : Addr} {v : Value} (h : w.cell? a = some v) : a = ⟨a.block, a.off, none⟩ := by
  obtain ⟨b, o, sp⟩ := a
  cases sp with
  | none => rfl
  | some x =>
    unfold World.cell? at h
    split at h <;> simp at h

theorem open_gacts {H : Type} {enc : TypeId × Value → H} {w : World} {base b0 : Nat} {spare : Nat → Bool} {held : Bool} {r : Reach} {v : Value} {d : DataW H} {ps : List MemPlace}
    (hval : Value.okWide Try.prog w r b0 30 v) (hd : DataW.Trod enc Try.prog w base spare held 30 v d ps) :
    ∃ ao n c l, v = .slice ao n c ∧ IsGa w ao n l := by
  obtain ⟨ao, len, cap, rfl⟩ := okWide_slice Try.underlying30 hval
  obtain ⟨fuel, hf⟩ := hd
  rcases open_slice Try.underlying30 hf with ⟨hcs, _⟩ | ⟨a, len', cap', m, n, D, Pl, hcs, _, hl, hm, em, _, hel⟩
  · simp [Value.cells] at hcs
    obtain ⟨rfl, rfl, rfl⟩ := hcs
    exact ⟨none, 0, 0, [], rfl, rfl, Nat.zero_le _, Or.inl rfl⟩
  · simp [Value.cells] at hcs
    obtain ⟨rfl, rfl, rfl⟩ := hcs
    have hlm : len ≤ m := by rw [em]; split <;> omega
    have hs : ∀ i, i < len → ∃ s : Ga, w.cells? base (a.add (i * 2)) 2 = some s.cells := by
      intro i hi
      obtain ⟨cs', h1, h2⟩ := hel i (by omega)
      rw [cells_gact] at h1
      obtain ⟨s, rfl⟩ := gact_of_cells h2
      exact ⟨s, h1⟩
    have : Inhabited Ga := ⟨⟨false, 0⟩⟩
    obtain ⟨S, hS⟩ := choose_lt hs
    refine ⟨some a, len, cap, (List.range len).map S, rfl, by simp, by omega, ?_⟩
    by_cases h0 : len = 0
    · exact Or.inl h0
    right
    have hc : ∀ i, i < len → ∀ j, j < 2 → w.cell? ((a.add (i * 2)).add j) = (S i).cells[j]? := fun i hi j hj => (World.cells?_some (hS i hi)).2.2 j hj
    have hz := hc 0 (by omega) 0 (by omega)
    simp [Ga.cells, Addr.add] at hz
    have ea := spot_none hz
    obtain ⟨ab, aoff, asp⟩ := a
    simp at ea
    subst ea
    refine ⟨ab, aoff, rfl, World.block_lt_of_cell? w _ hz, ?_⟩
    intro i s hi
    have hil : i < len := by
      have := (List.getElem?_eq_some_iff.1 hi).1
      simpa using this
    obtain rfl : S i = s := by simpa [hil] using hi
    have c0 := hc i hil 0 (by omega)
    have c1 := hc i hil 1 (by omega)
    rw [Addr.add_lit, Addr.add_lit] at c0 c1
    exact ⟨c0, c1⟩

theorem IsGa.at_ {W : World} {ao : Option Addr} {n : Nat} {l : List Ga} (h : IsGa W ao n l) {i : Nat} (hi : i < n) : ∃ s b off, ao = some ⟨b, off, none⟩ ∧ b < W.heap.size ∧ W.cell? ⟨b, off + i * 2, none⟩ = some (.bool (Ga.nx s)) ∧ W.cell? ⟨b, off + i * 2 + 1, none⟩ = some (.int .i64 s.ad) := by
  obtain ⟨h1, _, h3⟩ := h
  rcases h3 with h3 | ⟨b, off, rfl, hlt, h3⟩
  · omega
  · obtain ⟨s, hs⟩ : ∃ s, l[i]? = some s := ⟨l[i]'(by omega), List.getElem?_eq_getElem (by omega)⟩
    obtain ⟨c0, c1⟩ := h3 i s hs
    exact ⟨s, b, off, rfl, hlt, c0, c1⟩
theorem old_cell {W w : World} {b o : Nat} {v : Value} (hb : Below W.heap.size W w) (hlt : b < W.heap.size) (hc : W.cell? ⟨b, o, none⟩ = some v) : w.cell? ⟨b, o, none⟩ = some v := (World.cell?_of_block (hb.block b hlt)).trans hc

/-- A Queue that holds xs, and beside it a row of ys. -/
structure Pm (W w : World) (q : Nat) (xs : List Int) (ao : Option Addr) (cap : Nat) (ys : List Int) : Prop where
  s : S2 W w q xs (blk ao)
  r : RowW w W.heap.size ao cap ys
section
variable {W w w' : World} {q : Nat} {xs ys : List Int} {ao : Option Addr} {cap : Nat} {x : Int}
theorem Pm.g (h : Pm W w q xs ao cap ys) (g : G w w') : Pm W w' q xs ao cap ys := ⟨h.s.g g, h.r.kept (h.s.kp g)⟩
theorem Pm.below (h : Pm W w q xs ao cap ys) : Below W.heap.size W w := h.s.below

theorem p_new (g : Hid (G W w)) : Calls Try.prog 7 #[] w fun e w' => ∃ q, e = .returned (.pointer (some ⟨q, 0, none⟩)) ∧ Pm W w' q [] none 0 [] := by
  refine (s_new g).mono ?_
  rintro e w' ⟨q, rfl, h⟩
  exact ⟨q, rfl, h, RowW.nil _ _⟩
theorem p_add (h : Hid (Pm W w q xs ao cap ys)) (hn : xs.length ≤ 1000) (x : Int) : Calls Try.prog 12 #[.pointer (some ⟨q, 0, none⟩), .int .i64 x] w fun e w' => e = .returned (.tuple #[]) ∧ Pm W w' q (xs ++ [x]) ao cap ys := by
  refine (s_add (hide (unhide h).s) (by omega) x).mono ?_
  rintro e w' ⟨rfl, h1, h2⟩
  exact ⟨rfl, h1, (unhide h).r.kept h2⟩
theorem p_next (h : Hid (Pm W w q (x :: xs) ao cap ys)) (hn : xs.length ≤ 1000) : Calls Try.prog 8 #[.pointer (some ⟨q, 0, none⟩)] w fun e w' => e = .returned (.tuple #[.int .i64 x, .bool true]) ∧ Pm W w' q xs ao cap ys := by
  refine (s_next (hide (unhide h).s) (by omega)).mono ?_
  rintro e w' ⟨rfl, h1, h2⟩
  exact ⟨rfl, h1, (unhide h).r.kept h2⟩
theorem p_next_none (h : Hid (Pm W w q [] ao cap ys)) : Calls Try.prog 8 #[.pointer (some ⟨q, 0, none⟩)] w fun e w' => e = .returned (.tuple #[.int .i64 0, .bool false]) ∧ w' = w := s_next_none (hide (unhide h).s)
theorem p_len {k : Nat} (hk : Hid (xs.length = k)) (h : Hid (Pm W w q xs ao cap ys)) : Calls Try.prog 9 #[.pointer (some ⟨q, 0, none⟩)] w fun e w' => e = .returned (.int .i64 (k : Int)) ∧ w' = w := s_len (hide (unhide h).s) _ (by rw [unhide hk])
theorem p_blocks {k b : Nat} (hk : Hid (xs.length = k)) (hb : Hid ((k + 15) / 16 = b)) (h : Hid (Pm W w q xs ao cap ys)) (hn : k ≤ 1000) : Calls Try.prog 10 #[.pointer (some ⟨q, 0, none⟩)] w fun e w' => e = .returned (.int .i64 (b : Int)) ∧ w' = w := s_blocks (hide (unhide h).s) (by have := unhide hk; omega) _ (by rw [unhide hk, unhide hb])

/-- Beside them what All answered: its block g. -/
structure Pg (W w : World) (q : Nat) (xs : List Int) (ao : Option Addr) (cap : Nat) (ys : List Int) (g : Nat) : Prop where
  p : Pm W w q xs ao cap ys
  s : S2 W w q xs (g :: blk ao)
  lo : W.heap.size ≤ g
  ap : g ∉ blk ao
  fz : ∀ i, w.frozen? ⟨g, i, none⟩ = false
  cs : ∀ i, i < xs.length → (w.cell? ⟨g, i, none⟩).isSome = true
theorem p_all {k : Nat} (hk : Hid (xs.length = k)) (h : Hid (Pm W w q xs ao cap ys)) (hn : k ≤ 1000) : Calls Try.prog 11 #[.pointer (some ⟨q, 0, none⟩)] w fun e w' => ∃ g, e = .returned (.slice (some ⟨g, 0, none⟩) k k) ∧ IsI w' (some ⟨g, 0, none⟩) xs ∧ Pg W w' q xs ao cap ys g := by
  obtain rfl := unhide hk
  refine (s_all (hide (unhide h).s) (by omega)).mono ?_
  rintro e w' ⟨g, rfl, row, h1, h2⟩
  have hp := unhide h
  obtain ⟨l1, l2⟩ := World.ownsRow.lt row g rfl
  have hfz : ∀ i, w'.frozen? ⟨g, i, none⟩ = false := by
    intro i
    rcases row.2 with ⟨e, _⟩ | ⟨g', c, cur, e, _, hg, _⟩
    · cases e
    · injection e with e1
      obtain rfl : g = g' := by injection e1 with e1; injection e1
      simp [World.frozen?, hg]
  have hrc : ∀ i x, xs[i]? = some x → w'.cell? ⟨g, i, none⟩ = some (.int .i64 x) := fun i x hi => row_cell row hi
  refine ⟨g, rfl, Or.inr ⟨g, 0, rfl, l2, fun i x hi => by rw [Nat.zero_add]; exact hrc i x hi⟩, ⟨h1.sub fun d hd => List.mem_cons_of_mem _ hd, hp.r.kept h2⟩, h1, Nat.le_trans hp.below.size l1, fun hm => ?_, hfz, fun i hi => ?_⟩
  · have := (hp.r.lo g hm).2
    omega
  · rw [hrc i _ (List.getElem?_eq_getElem hi)]; rfl
theorem Pg.set {g i : Nat} (h : Pg W w q xs ao cap ys g) (v : Value) (hi : i < xs.length) : Pg W (w.setCell ⟨g, i, none⟩ v) q xs ao cap ys g := by
  have hk : ∀ k, k ≠ g → (w.setCell ⟨g, i, none⟩ v).heap[k]? = w.heap[k]? := fun k hk => heap_set _ _ hk
  obtain ⟨bs, hs, a⟩ := h.s
  have ag := a g List.mem_cons_self
  have hS : S2 W (w.setCell ⟨g, i, none⟩ v) q xs (g :: blk ao) := by
    refine ⟨bs, ⟨hs.ql.kept (hk q (fun e => ag.2.1 e.symm)) (fun b hb => hk b (fun e => ag.2.2 (e ▸ hb))), hs.bq, hs.bb, ?_⟩, fun d hd => by rw [World.size_setCell]; exact a d hd⟩
    exact ⟨hs.below.os, hs.below.tape, hs.below.output, by rw [World.size_setCell]; exact hs.below.size, fun k hkl => (hk k (by have := h.lo; omega)).trans (hs.below.block k hkl)⟩
  refine ⟨⟨hS.sub fun d hd => List.mem_cons_of_mem _ hd, h.p.r.kept fun d hd => hk d (fun e => h.ap (e ▸ hd))⟩, hS, h.lo, h.ap, fun j => by rw [World.frozen?_setCell]; exact h.fz j, fun j hj => ?_⟩
  obtain ⟨u, hu⟩ := Option.isSome_iff_exists.1 (h.cs i hi)
  by_cases e : j = i
  · subst e; rw [cell_same _ hu]; rfl
  · rw [cell_other _ (Or.inr e)]; exact h.cs j hj

/-- What append onto the row leaves. -/
theorem Pm.app {ao' : Option Addr} {cap' : Nat} {ys' : List Int} (h : Pm W w q xs ao cap ys) (A : App w w' W.heap.size ao ao' cap' ys') : Pm W w' q xs ao' cap' ys' := by
  obtain ⟨A1, A2, A3⟩ := A
  obtain ⟨bs, hs, a⟩ := h.s
  have hlo := h.r.lo
  have hq : q ∉ blk ao := fun hm => (a q hm).2.1 rfl
  have hb : ∀ b ∈ bs, b ∉ blk ao := fun b hb hm => (a b hm).2.2 hb
  refine ⟨⟨bs, ⟨hs.ql.kept (A3.block q hs.ql.lt hq) (fun b hbm => A3.block b (hs.ql.ltb b hbm) (hb b hbm)), hs.bq, hs.bb, ?_⟩, ?_⟩, A1⟩
  · refine ⟨A3.os.trans hs.below.os, A3.tape.trans hs.below.tape, A3.output.trans hs.below.output, Nat.le_trans hs.below.size A3.size, fun k hk => ?_⟩
    exact (A3.block k (Nat.lt_of_lt_of_le hk hs.below.size) (fun hm => by have := (hlo k hm).1; omega)).trans (hs.below.block k hk)
  · intro d hd
    refine ⟨(A1.lo d hd).2, ?_⟩
    rcases A2 with e | e
    · rw [e] at hd; exact (a d hd).2
    · rw [e] at hd
      simp at hd
      subst hd
      have := hs.ql.lt
      exact ⟨by omega, fun hm => by have := hs.ql.ltb _ hm; omega⟩
/-- What cutting the first one off leaves. -/
theorem Pm.tail {y : Int} (h : Pm W w q xs ao cap (y :: ys)) : ∃ g off, ao = some ⟨g, off, none⟩ ∧ w.cell? ⟨g, off, none⟩ = some (.int .i64 y) ∧ 0 < cap ∧ Pm W w q xs (if cap = 1 then some ⟨g, off, none⟩ else some ⟨g, off + 1, none⟩) (cap - 1) ys := by
  obtain ⟨g, off, rfl, h1, h2, h3⟩ := h.r.tail
  refine ⟨g, off, rfl, h1, h2, ?_, h3⟩
  refine h.s.sub fun d hd => ?_
  split at hd <;> exact hd
end
end Go.Proofs.Ytacgfljhnlbbgaa
