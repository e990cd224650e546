/- One row of addresses beside an Alloc; a list of bools that came in. -/
import Derived.Test.YtbgmaifllndpfaaDoorAllocAwake
import Derived.Test.YtbgmaifllndpfaaDoorAllocKeepP
import Derived.Deep.Grids
namespace Go.Proofs.YtbgmaifllndpfaaDoor
open Go.ChangeShapes Go.WideShapes Go.ChangeAt Go.RowKit Go.Deep

/-- The bools zs lie at ao in w. -/
def IsBools (w : World) (ao : Option Addr) (n : Nat) (zs : Nat → Bool) : Prop :=
  n = 0 ∨ ∃ b off, ao = some ⟨b, off, none⟩ ∧ b < w.heap.size ∧ ∀ i : Nat, i < n → w.cell? ⟨b, off + i, none⟩ = some (.bool (zs i))
theorem cells_bool : Tryd.prog.cellsOf 4 = 1 := by kernel_rfl
theorem open_boolrow {H : Type} {enc : TypeId × Value → H} {w : World} {base b0 : Nat} {held : Bool} {r : Reach} {v : Value} {d : DataW H} {ps : List MemPlace}
    (hval : Value.okWide Tryd.prog w r b0 33 v) (hd : DataW.Trod enc Tryd.prog w base (fun _ => true) held 33 v d ps) :
    ∃ ao n c zs, v = .slice ao n c ∧ IsBools w ao n zs := by
  obtain ⟨ao, len, cap, rfl⟩ := okWide_slice Tryd.underlying33 hval
  obtain ⟨fuel, hf⟩ := hd
  rcases open_bools Tryd.underlying33 Tryd.underlying4 cells_bool hf with ⟨hcs, _⟩ | ⟨a, l, c, B, hcs, _, hl, hm, _, hcell⟩
  · simp [Value.cells] at hcs
    obtain ⟨rfl, rfl, rfl⟩ := hcs
    exact ⟨none, 0, 0, fun _ => false, rfl, Or.inl rfl⟩
  · simp [Value.cells] at hcs
    obtain ⟨rfl, rfl, rfl⟩ := hcs
    refine ⟨some a, len, cap, B, rfl, ?_⟩
    rcases Nat.eq_zero_or_pos len with h0 | h0
    · exact Or.inl h0
    · have hz := hcell 0 (by omega)
      obtain ⟨b, off, spot⟩ := a
      have hspot : spot = none := by simpa [Addr.add] using World.cell?_spot hz
      subst hspot
      rw [Addr.add_lit] at hz
      refine Or.inr ⟨b, off, rfl, World.block_lt_of_cell? w _ hz, fun i hi => ?_⟩
      have := hcell i (by omega)
      rw [Addr.add_lit] at this
      exact this
theorem IsBools.at_ {W w : World} {ao : Option Addr} {n : Nat} {zs : Nat → Bool} (h : IsBools W ao n zs) (hb : Below W.heap.size W w) {i : Nat} (hi : i < n) : ∃ b off, ao = some ⟨b, off, none⟩ ∧ b < w.heap.size ∧ w.cell? ⟨b, off + i, none⟩ = some (.bool (zs i)) := by
  rcases h with h3 | ⟨b, off, rfl, hlt, h3⟩
  · omega
  · exact ⟨b, off, rfl, Nat.lt_of_lt_of_le hlt hb.size, (World.cell?_of_block (hb.block b hlt)).trans (h3 i hi)⟩

/-- A row does not lie in an allocator's blocks. -/
def OffL (ao : Option Addr) (x : Ld) : Prop := ∀ a, ao = some a → (a.block ≠ x.lb ∧ a.block ≠ x.ub) ∧ a.block ≠ x.d.ab ∧ a.block ≠ x.d.wb ∧ a.block ≠ x.d.sb
/-- One allocator and one row of addresses. -/
structure Kr (W w : World) (x : Ld) (l : Al) (ao : Option Addr) (cap : Nat) (xs : List Int) : Prop where
  st : StL W w x l
  row : RowI 2 w W.heap.size ao cap xs
  off : OffL ao x
section
variable {W w w' : World} {x : Ld} {l l' : Al} {ao : Option Addr} {cap : Nat} {xs : List Int}
theorem Kr.tn (h : Kr W w x l ao cap xs) (s : StL W w' x l') (t : TnL w w' x) : Kr W w' x l' ao cap xs :=
  ⟨s, h.row.kept fun y hy => t.block _ (h.row.lt y hy).2 (h.off y hy).2.2.1 (h.off y hy).2.2.2 (h.off y hy).1.2, h.off⟩
theorem Kr.gr (h : Kr W w x l ao cap xs) (g : G w w') : Kr W w' x l ao cap xs := ⟨h.st.G g, h.row.grown g, h.off⟩
theorem Kr.mk0 (h : StL W w x l) : Kr W w x l none 0 [] := ⟨h, RowI.nil _ _ _, fun y hy => by cases hy⟩
theorem Kr.append {y : Int} {g cap' : Nat} (h : Kr W w x l ao cap xs)
    (hr : w'.ownsRow W.heap.size 2 1 (.slice (some ⟨g, 0, none⟩) (xs.length + 1) cap') (xs.length + 1) ((xs.map fun x => .int .i64 x) ++ [.int .i64 y]))
    (hg : w.grownBy w' (Value.ownBlock (.slice ao xs.length cap))) (hat : ao = some ⟨g, 0, none⟩ ∨ g = w.heap.size) : Kr W w' x l (some ⟨g, 0, none⟩) cap' (xs ++ [y]) := by
  have keep : ∀ k, k < w.heap.size → (∀ y, ao = some y → y.block ≠ k) → w'.heap[k]? = w.heap[k]? := fun k hk hn => hg.block k hk (fun e => by obtain ⟨y, h1, h2⟩ := own_block e; exact hn y h1 h2)
  have kl := keep x.lb h.st.lt0 fun y hy => (h.off y hy).1.1
  have ku := keep x.ub h.st.lt1 fun y hy => (h.off y hy).1.2
  have l0 := h.st.lt0
  have l1 := h.st.lt1
  have l2 := h.st.st.at_.lt0
  have l3 := h.st.st.at_.lt1 h.st.st.n8
  have l4 := h.st.st.at_.lt2 h.st.st.n8
  refine ⟨⟨h.st.st.appended (fun y hy => (h.off y hy).2) (fun y hy => (h.row.lt y hy).1) hg, (World.cell?_of_block (a := ⟨x.lb, 0, none⟩) kl).trans h.st.c0, (World.cell?_of_block (a := ⟨x.lb, 1, none⟩) kl).trans h.st.c1,
    fun s hs => (World.cell?_of_block (a := ⟨x.ub, s, none⟩) ku).trans (h.st.us s hs), fun i => (World.frozen?_of_block (a := ⟨x.ub, i, none⟩) ku).trans (h.st.fu i), h.st.b0, h.st.b1, h.st.n0, h.st.n1, h.st.n2⟩, row_app hr, ?_⟩
  intro y hy
  injection hy with hy
  subst hy
  rcases hat with e | e
  · exact h.off _ e
  · refine ⟨⟨?_, ?_⟩, ?_, ?_, ?_⟩ <;> (show g ≠ _; omega)
end

theorem is_bound {a : Ab} (g : a.Good) {x : Int} (h : a.is x = true) : 0 < x ∧ x < 32768 := by
  obtain ⟨s, p, h1, h2, h3, h4, _, rfl⟩ := (Ab.is_iff g.ok x).1 h
  have n1 := g.ok.n1
  obtain ⟨e, _, _, e2⟩ := ga_at (s := s) (p := p) h1 (by omega) h3 (g.ok.cr s).2 h4
  have hr := place_room (p := (p : Int)) (c := a.cls s) (by omega) h4
  have hg : 2 ≤ gw (a.cls s) := by rcases gw_gp (a.cls s) with ⟨_, z⟩ | ⟨_, z, _⟩ <;> omega
  exact ⟨e2, by omega⟩

/-! ### what AllocKeeps knows -/
def Bd (ks : List Int) : Prop := ∀ y ∈ ks, 0 < y ∧ y < 32768
def K1 (W w : World) (x : Ld) (ao : Option Addr) (ca : Nat) (ks : List Int) : Prop := ∃ l : Al, Kr W w x l ao ca ks ∧ Kps l.a ks ∧ Bd ks
def K1v (W w : World) (x : Ld) (ao : Option Addr) (ca : Nat) (ks : List Int) (v : Int) : Prop := ∃ l : Al, Kr W w x l ao ca ks ∧ Kps l.a ks ∧ Bd ks ∧ l.a.is v = true ∧ ∀ y ∈ ks, y ≠ v
def K1m (W w : World) (x : Ld) (ao : Option Addr) (ca : Nat) (ks : List Int) (v : Int) : Prop := ∃ l : Al, Kr W w x ⟨l.a.markA v, l.u⟩ ao ca ks ∧ Kps l.a ks ∧ Bd ks ∧ l.a.is v = true ∧ (∀ y ∈ ks, y ≠ v) ∧ l.a.Good
def K1w (W w : World) (x : Ld) (ao : Option Addr) (ca : Nat) (ks : List Int) (v : Int) : Prop := ∃ l : Al, Kr W w x l ao ca ks ∧ Kps l.a (ks ++ [v]) ∧ Bd (ks ++ [v])
section
variable {W w w' : World} {x : Ld} {ao : Option Addr} {ca : Nat} {ks : List Int} {v : Int}
theorem K1v.down (h : K1v W w x ao ca ks v) : K1 W w x ao ca ks := by obtain ⟨l, h1, h2, h3, _⟩ := h; exact ⟨l, h1, h2, h3⟩
theorem K1v.bound (h : K1v W w x ao ca ks v) : 0 < v ∧ v < 32768 := by obtain ⟨l, h1, _, _, h4, _⟩ := h; exact is_bound h1.st.st.good h4
theorem K1.below (h : K1 W w x ao ca ks) : Below W.heap.size W w := by obtain ⟨l, h1, _⟩ := h; exact h1.st.below
theorem K1.get (h : K1 W w x ao ca ks) {i : Nat} {y : Int} (hi : ks[i]? = some y) : ∃ g, ao = some ⟨g, 0, none⟩ ∧ w.cell? ⟨g, i, none⟩ = some (.int .i64 y) := by obtain ⟨l, h1, _⟩ := h; exact h1.row.get hi
theorem kl_take (h : Hid (K1 W w x ao ca ks)) (m : Int) :
    Calls Tryd.prog 9 #[.pointer (some ⟨x.lb, 0, none⟩), .int .i64 m] w fun r w' => ∃ v e, r = .returned (.tuple #[.int .i64 v, .int .i64 e]) ∧ ((¬ e = 0 ∧ K1 W w' x ao ca ks) ∨ (e = 0 ∧ K1v W w' x ao ca ks v)) := by
  obtain ⟨l, h1, h2, h3⟩ := unhide h
  refine (l_take (hide h1.st) m).mono ?_
  rintro r w' ⟨rfl, s, t⟩
  refine ⟨_, _, rfl, ?_⟩
  obtain ⟨k1, k2⟩ := Kps.takes h1.st.st.good h2 m
  by_cases he : (l.take m).2.2 = 0
  · obtain ⟨q1, _, q3⟩ := k2 he
    exact Or.inr ⟨he, _, h1.tn s t, k1, h3, q1, q3⟩
  · exact Or.inl ⟨he, _, h1.tn s t, k1, h3⟩
theorem kl_mark (h : Hid (K1v W w x ao ca ks v)) :
    Calls Tryd.prog 12 #[.pointer (some ⟨x.d.ab, 0, none⟩), .int .i64 v] w fun r w' => ∃ b, r = .returned (.bool b) ∧ K1m W w' x ao ca ks v := by
  obtain ⟨l, h1, h2, h3, h4, h5⟩ := unhide h
  refine (ls_mark (hide h1.st) v).mono ?_
  rintro r w' ⟨rfl, s, t⟩
  exact ⟨_, rfl, l, h1.tn s t, h2, h3, h4, h5, h1.st.st.good⟩
theorem kl_write (h : Hid (K1m W w x ao ca ks v)) :
    Calls Tryd.prog 13 #[.pointer (some ⟨x.d.ab, 0, none⟩), .int .i64 v, .int .i64 0, .int .i64 (1000 + v)] w fun r w' => ∃ b, r = .returned (.int .i64 b) ∧ K1w W w' x ao ca ks v := by
  obtain ⟨l, h1, h2, h3, h4, h5, h6⟩ := unhide h
  refine (ls_write (hide h1.st) v 0 (1000 + v)).mono ?_
  rintro r w' ⟨rfl, s, t⟩
  obtain ⟨_, _, k3⟩ := Kps.keep h6 h2 h4 h5
  refine ⟨_, rfl, _, h1.tn s t, k3, ?_⟩
  intro y hy
  rcases List.mem_append.1 hy with hy | hy
  · exact h3 y hy
  · obtain rfl : y = v := by simpa using hy
    exact is_bound h6 h4
theorem K1w.row (h : K1w W w x ao ca ks v) (o : Obj) : (w.alloc o).ownsRow W.heap.size 2 1 (.slice ao ks.length ca) ks.length (ks.map fun x => .int .i64 x) ∧ K1w W (w.alloc o) x ao ca ks v ∧ W.heap.size ≤ (w.alloc o).heap.size := by
  obtain ⟨l, h1, h2, h3⟩ := h
  have h4 := h1.gr (G.alloc w o)
  exact ⟨h4.row, ⟨l, h4, h2, h3⟩, h4.st.below.size⟩
theorem K1w.append {g cap' : Nat} (h : K1w W w x ao ca ks v)
    (hr : w'.ownsRow W.heap.size 2 1 (.slice (some ⟨g, 0, none⟩) (ks.length + 1) cap') (ks.length + 1) ((ks.map fun x => .int .i64 x) ++ [.int .i64 v]))
    (hg : w.grownBy w' (Value.ownBlock (.slice ao ks.length ca))) (hat : ao = some ⟨g, 0, none⟩ ∨ g = w.heap.size) : K1 W w' x (some ⟨g, 0, none⟩) cap' (ks ++ [v]) := by
  obtain ⟨l, h1, h2, h3⟩ := h
  exact ⟨l, h1.append hr hg hat, h2, h3⟩
theorem kl_stale (h : Hid (K1 W w x ao ca ks)) :
    Calls Tryd.prog 14 #[.pointer (some ⟨x.lb, 0, none⟩)] w fun r w' => r = .returned (.tuple #[]) ∧ K1 W w' x ao ca ks := by
  obtain ⟨l, h1, h2, h3⟩ := unhide h
  refine (l_stale (hide h1.st)).mono ?_
  rintro r w' ⟨rfl, s, t⟩
  exact ⟨rfl, _, h1.tn s t, h2, h3⟩

/-- Is a flag set? -/
def setB : Option Value → Bool
  | some (.bool true) => true
  | _ => false
/-- How many flags are set in memory. -/
def flagN (x : Ld) (n : Nat) (w : World) : Nat := unsN (fun s => setB (w.cell? ⟨x.ub, s, none⟩)) n
theorem unsN_cong {u v : Nat → Bool} : ∀ k, (∀ s, s < k → u s = v s) → unsN u k = unsN v k
  | 0, _ => rfl
  | k + 1, h => by unfold unsN; rw [unsN_cong k fun s hs => h s (by omega), h k (by omega)]
theorem flagN_eq {l : Al} (h : StL W w x l) : flagN x l.a.n w = unsN l.u l.a.n := by
  unfold flagN
  refine unsN_cong _ fun s hs => ?_
  rw [h.us s hs]
  cases l.u s <;> rfl
/-- Nothing but the flags of the allocator's own spans counts. -/
def K2 (W w : World) (x : Ld) (ao : Option Addr) (ca : Nat) (ks : List Int) (N q : Nat) : Prop := ∃ l : Al, Kr W w x l ao ca ks ∧ Kps l.a ks ∧ Bd ks ∧ unsN l.u l.a.n = q ∧ l.a.n = N
theorem K1.two (h : K1 W w x ao ca ks) : ∃ N q, K2 W w x ao ca ks N q := by obtain ⟨l, h1, h2, h3⟩ := h; exact ⟨_, _, l, h1, h2, h3, rfl, rfl⟩
theorem K2.flag {N q : Nat} (h : K2 W w x ao ca ks N q) : flagN x N w = q := by obtain ⟨l, h1, _, _, h4, rfl⟩ := h; rw [flagN_eq h1.st, h4]
theorem kl_sweepOne {N q : Nat} (h : Hid (K2 W w x ao ca ks N q)) :
    Calls Tryd.prog 10 #[.pointer (some ⟨x.lb, 0, none⟩)] w fun r w' => (r = .returned (.bool false) ∧ q = 0 ∧ K2 W w' x ao ca ks N 0) ∨ (∃ p, r = .returned (.bool true) ∧ q = p + 1 ∧ K2 W w' x ao ca ks N p) := by
  obtain ⟨l, h1, h2, h3, h4, hN⟩ := unhide h
  refine (l_sweepOne (hide h1.st)).mono ?_
  rintro r w' ⟨rfl, s, t⟩
  cases ho : leastU l.u l.a.n 0 with
  | none =>
    have hz := unsN_zero l.u l.a.n fun t ht => leastU_none l.u l.a.n 0 ho t (by omega) (by omega)
    have e : l.sweepOne = l := by unfold Al.sweepOne; rw [ho]
    rw [e] at s
    exact Or.inl ⟨rfl, by omega, l, h1.tn s t, h2, h3, hz, hN⟩
  | some j =>
    obtain ⟨_, j2, j3, _⟩ := leastU_some l.u l.a.n 0 j ho
    have e : l.sweepOne = l.sweep j := by unfold Al.sweepOne; rw [ho]
    rw [e] at s
    have hz := unsN_upd l.u j3 l.a.n
    rw [if_pos (by omega)] at hz
    refine Or.inr ⟨unsN (upd l.u j false) l.a.n, rfl, by omega, l.sweep j, h1.tn s t, fun y hy => (h2 y hy).sweep j, h3, ?_, (Ab.sweepA_n _ _).trans hN⟩
    show unsN (upd l.u j false) (l.a.sweepA j).n = _
    rw [Ab.sweepA_n]
theorem kl_read {N q i : Nat} {y : Int} (h : Hid (K2 W w x ao ca ks N q)) (hi : ks[i]? = some y) :
    Calls Tryd.prog 15 #[.pointer (some ⟨x.d.ab, 0, none⟩), .int .i64 y, .int .i64 0] w fun r w' => r = .returned (.tuple #[.int .i64 (1000 + y), .int .i64 0]) ∧ K2 W w' x ao ca ks N q := by
  obtain ⟨l, h1, h2, h3, h4, hN⟩ := unhide h
  obtain ⟨e1, e2⟩ := h2.read h1.st.st.good (List.mem_of_getElem? hi)
  refine (ls_read (hide h1.st) y 0).mono ?_
  rw [e1, e2]
  rintro r w' ⟨rfl, s, g⟩
  exact ⟨rfl, l, h1.gr g, h2, h3, h4, hN⟩
theorem kl_left {N q : Nat} (h : Hid (K2 W w x ao ca ks N q)) :
    Calls Tryd.prog 16 #[.pointer (some ⟨x.lb, 0, none⟩)] w fun r w' => r = .returned (.int .i64 (q : Int)) ∧ w' = w := by
  obtain ⟨l, h1, h2, h3, h4, hN⟩ := unhide h
  refine (l_left (hide h1.st)).mono ?_
  rw [h4]
  exact fun _ _ hh => hh
theorem K2.get {N q : Nat} (h : K2 W w x ao ca ks N q) {i : Nat} {y : Int} (hi : ks[i]? = some y) : (∃ g, ao = some ⟨g, 0, none⟩ ∧ w.cell? ⟨g, i, none⟩ = some (.int .i64 y)) ∧ 0 < y ∧ y < 32768 := by
  obtain ⟨l, h1, h2, h3, _⟩ := h
  exact ⟨h1.row.get hi, h3 y (List.mem_of_getElem? hi)⟩
theorem K2.below {N q : Nat} (h : K2 W w x ao ca ks N q) : Below W.heap.size W w := by obtain ⟨l, h1, _⟩ := h; exact h1.st.below
end
end Go.Proofs.YtbgmaifllndpfaaDoor
