/- A list of shapes that came in; a table beside a row of shapes, both the call's own. -/
import Derived.Test.YtionokpdplgjbaaHeadBase
namespace Go.Proofs.Ytionokpdplgjbaa
open Go.RowKit Go.Maps Go.ChangeShapes Go.WideShapes Go.ChangeAt Go.Deep

/-- The shapes l lie at ao in w. -/
def IsShapes (w : World) (ao : Option Addr) (n : Nat) (l : List Shp) : Prop :=
  l.length = n ∧ n ≤ maxLen ∧ (∀ s, s ∈ l → s.Fit) ∧ (n = 0 ∨ ∃ b off, ao = some ⟨b, off, none⟩ ∧ b < w.heap.size ∧ ∀ i s, l[i]? = some s →
    w.cell? ⟨b, off + i * 3, none⟩ = some (.int .i64 s.k) ∧ w.cell? ⟨b, off + i * 3 + 1, none⟩ = some (.int .i64 s.f) ∧ w.cell? ⟨b, off + i * 3 + 2, none⟩ = some (.int .u64 (s.m : Int)))

theorem spot_none {w : World} {a : Addr} {v : Value} (h : w.cell? a = some v) : a = ⟨a.block, a.off, none⟩ := by
  obtain ⟨b, o, sp⟩ := a
  cases sp with
  | none => rfl
  | some x =>
    unfold World.cell? at h
    split at h <;> simp at h

theorem open_shapes {H : Type} {enc : TypeId × Value → H} {w : World} {base b0 : Nat} {spare : Nat → Bool} {held : Bool} {r : Reach} {v : Value} {d : DataW H} {ps : List MemPlace}
    (hval : Value.okWide Try.prog w r b0 45 v) (hd : DataW.Trod enc Try.prog w base spare held 45 v d ps) :
    ∃ ao n c l, v = .slice ao n c ∧ IsShapes w ao n l := by
  obtain ⟨ao, len, cap, rfl⟩ := okWide_slice Try.underlying45 hval
  obtain ⟨fuel, hf⟩ := hd
  rcases open_slice Try.underlying45 hf with ⟨hcs, _⟩ | ⟨a, len', cap', m, n, D, Pl, hcs, _, hl, hm, em, _, hel⟩
  · simp [Value.cells] at hcs
    obtain ⟨rfl, rfl, rfl⟩ := hcs
    exact ⟨none, 0, 0, [], rfl, rfl, Nat.zero_le _, (fun s hs => by cases hs), Or.inl rfl⟩
  · simp [Value.cells] at hcs
    obtain ⟨rfl, rfl, rfl⟩ := hcs
    have hlm : len ≤ m := by rw [em]; split <;> omega
    have hs : ∀ i, i < len → ∃ s : Shp, s.Fit ∧ w.cells? base (a.add (i * 3)) 3 = some s.cells := by
      intro i hi
      obtain ⟨cs', h1, h2⟩ := hel i (by omega)
      rw [cells_shape] at h1
      obtain ⟨s, rfl, hs⟩ := shp_of_cells h2
      exact ⟨s, hs, h1⟩
    have : Inhabited Shp := ⟨⟨0, 0, 0⟩⟩
    obtain ⟨S, hS⟩ := choose_lt hs
    refine ⟨some a, len, cap, (List.range len).map S, rfl, by simp, by omega, ?_, ?_⟩
    · intro s hs
      simp at hs
      obtain ⟨i, hi, rfl⟩ := hs
      exact (hS i hi).1
    · by_cases h0 : len = 0
      · exact Or.inl h0
      right
      have hc : ∀ i, i < len → ∀ j, j < 3 → w.cell? ((a.add (i * 3)).add j) = (S i).cells[j]? := fun i hi j hj => (World.cells?_some (hS i hi).2).2.2 j hj
      have hz := hc 0 (by omega) 0 (by omega)
      simp [Shp.cells, Addr.add] at hz
      have ea := spot_none hz
      obtain ⟨ab, aoff, asp⟩ := a
      simp at ea
      subst ea
      refine ⟨ab, aoff, rfl, World.block_lt_of_cell? w _ hz, ?_⟩
      intro i s hi
      have hil : i < len := by
        have := (List.getElem?_eq_some_iff.1 hi).1
        simpa using this
      obtain rfl : S i = s := by simpa [hil] using hi
      have c0 := hc i hil 0 (by omega)
      have c1 := hc i hil 1 (by omega)
      have c2 := hc i hil 2 (by omega)
      rw [Addr.add_lit, Addr.add_lit] at c0 c1 c2
      exact ⟨c0, c1, c2⟩

/-- append onto a row of the call's own, at the operation. -/
theorem wpl_append_at {P : Program} {ops : Array Oper} {rest : List Oper} {o : Oper} {a : Act} {w : World} {Q : Exit → Act → World → Prop}
    (hgd : o.guard = none) (s x : Operand) (t : TypeId) (ho : o.op = .call { callee := .builtin .append, args := #[s, x], argTypes := #[t, t] })
    (base : Nat) (e : TypeId) (i : TypeInfo) (z : Value) (size bytes : Nat) (h1 : P.underlying t = some (.slice e)) (h2 : P.info? e = some i) (h3 : i.zero = some z) (h4 : i.size = size) (h5 : i.bytes = bytes) (h6 : z.cells.size = size) (h7 : 0 < size)
    (ao : Option Addr) (n cap : Nat) (xs : List Value) (hs : a.eval s = .slice ao n cap) (hown : w.ownsRow base e size (.slice ao n cap) n xs)
    (ad : Addr) (m c : Nat) (news : List Value) (hx : a.eval x = .slice (some ad) m c) (hn : news.length = m * size) (hc : ∀ j u, news[j]? = some u → w.cell? (ad.add j) = some u) (h1c : ∀ u ∈ news, u.oneCell' = true)
    (hm : 0 < m) (b1 : n + m ≤ maxLen) (b2 : (n + m) * bytes ≤ 140737488355328) (hbase : base ≤ w.heap.size)
    (hK : ∀ g cap' w', w'.ownsRow base e size (.slice (some ⟨g, 0, none⟩) (n + m) cap') (n + m) (xs ++ news) → w.grownBy w' (Value.ownBlock (.slice ao n cap)) → (ao = some ⟨g, 0, none⟩ ∨ g = w.heap.size) →
      wpList P ops Q rest (a.put o.dst (.slice (some ⟨g, 0, none⟩) (n + m) cap')) w') :
    wpList P ops Q (o :: rest) a w := by
  refine wpList_append_own_at w hgd s x t ho base e i z size bytes h1 h2 h3 h4 h5 h6 h7 (.slice ao n cap) n xs hs hown ad m c news hx hn hc h1c b1 b2 hbase ?_
  intro v' w' r1 r2 _ r4
  rcases r1.2 with ⟨_, h0⟩ | ⟨g, cap', cur, rfl, _⟩
  · omega
  · refine hK g cap' w' r1 r2 ?_
    rcases r4 with r4 | r4
    · left
      rcases hown.2 with ⟨e1, _⟩ | ⟨g0, c0, cur0, e1, _⟩
      · injection e1 with e1
        subst e1
        simp [Value.ownBlock] at r4
      · injection e1 with e1
        subst e1
        simp [Value.ownBlock] at r4
        rw [r4]
    · right
      simpa [Value.ownBlock] using r4

/-- The round's state: a table with the shapes lt, and a row of the shapes lk beside it, both made behind w. -/
structure Rnd (w wk : World) (tb mb : Nat) (ao : Option Addr) (cap : Nat) (lt : List Shp) (ak : Option Addr) (ck : Nat) (lk : List Shp) : Prop where
  tab : TabAt wk w.heap.size tb mb ao cap lt
  row : wk.ownsRow w.heap.size 32 3 (.slice ak lk.length ck) lk.length (rowOf lk)
  apart : ∀ a a', ak = some a → ao = some a' → a.block ≠ a'.block
  below : Below w.heap.size w wk

section
variable {w wk wl : World} {tb mb : Nat} {ao : Option Addr} {cap : Nat} {lt : List Shp} {ak : Option Addr} {ck : Nat} {lk : List Shp}

theorem Rnd.akB (h : Rnd w wk tb mb ao cap lt ak ck lk) : ∀ a, ak = some a → w.heap.size ≤ a.block ∧ a.block < wk.heap.size := by
  intro a ha
  subst ha
  exact h.row.lt a.block rfl

theorem row_same {w wl : World} {B n cap : Nat} {ao : Option Addr} {xs : List Value} (h : w.ownsRow B 32 3 (.slice ao n cap) n xs) (h3 : ∀ a, ao = some a → wl.heap[a.block]? = w.heap[a.block]?) :
    wl.ownsRow B 32 3 (.slice ao n cap) n xs := by
  refine ⟨h.1, ?_⟩
  rcases h.2 with hn | ⟨g, c, cur, e, hb, hg, rest⟩
  · exact Or.inl hn
  · refine Or.inr ⟨g, c, cur, e, hb, ?_, rest⟩
    have : ao = some ⟨g, 0, none⟩ := by injection e
    exact (h3 _ this).trans hg

theorem Rnd.G (h : Rnd w wk tb mb ao cap lt ak ck lk) (g : G wk wl) : Rnd w wl tb mb ao cap lt ak ck lk :=
  ⟨h.tab.grown g, row_same h.row (fun a ha => g.block _ (h.akB a ha).2), h.apart, h.below.trans (g.mono h.below.size)⟩

/-- The row's block is none of the table's two. -/
theorem Rnd.akne (h : Rnd w wk tb mb ao cap lt ak ck lk) : (∀ a, ak = some a → a.block ≠ mb) ∧ (∀ a, ak = some a → a.block ≠ tb) := by
  obtain ⟨D, ⟨es, clock, hm, _⟩, _⟩ := h.tab.map
  have hrow := h.row
  refine ⟨?_, ?_⟩
  · rintro a rfl rfl
    rcases hrow.2 with ⟨e, _⟩ | ⟨g, c, cur, e, _, hg, _⟩
    · cases e
    · injection e with e
      injection e with e
      subst e
      rw [hm] at hg
      cases hg
  · rintro a rfl rfl
    rcases hrow.2 with ⟨e, _⟩ | ⟨g, c, cur, e, _, hg, _⟩
    · cases e
    · injection e with e
      injection e with e
      subst e
      have h1 := h.tab.blk
      rw [hg] at h1
      cases h1

theorem Rnd.number {ao' : Option Addr} {cap' : Nat} {lt' : List Shp} (h : Rnd w wk tb mb ao cap lt ak ck lk) (t : TabAt wl w.heap.size tb mb ao' cap' lt') (u : Turn wk wl tb mb ao)
    (hl : ∀ a, ao' = some a → ao = some a ∨ wk.heap.size ≤ a.block) : Rnd w wl tb mb ao' cap' lt' ak ck lk := by
  refine ⟨t, row_same h.row ?_, ?_, h.below.trans (u.below h.below.size h.tab.btb h.tab.bmb (fun a ha => (h.tab.aoB a ha).1))⟩
  · intro a ha
    exact u.block _ (h.akB a ha).2 (h.akne.2 a ha) (h.akne.1 a ha) (fun a' ha' => h.apart a a' ha ha')
  · intro a a' ha ha'
    rcases hl a' ha' with h1 | h1
    · exact h.apart a a' ha h1
    · have := (h.akB a ha).2
      omega

theorem Rnd.append {g cap' n : Nat} {s : Shp} (h : Rnd w wk tb mb ao cap lt ak ck lk) (hn : lk.length = n) (hr : wl.ownsRow w.heap.size 32 3 (.slice (some ⟨g, 0, none⟩) (n + 1) cap') (n + 1) (rowOf lk ++ s.cells))
    (hg : wk.grownBy wl (Value.ownBlock (.slice ak n ck))) (hat : ak = some ⟨g, 0, none⟩ ∨ g = wk.heap.size) : Rnd w wl tb mb ao cap lt (some ⟨g, 0, none⟩) cap' (lk ++ [s]) := by
  subst hn
  have ob : ∀ b, some b = Value.ownBlock (.slice ak lk.length ck) → ∃ a, ak = some a ∧ a.block = b := by
    intro b hb
    cases ak with
    | none => simp [Value.ownBlock] at hb
    | some a => exact ⟨a, rfl, by simpa [Value.ownBlock] using hb.symm⟩
  have hle : (lk ++ [s]).length = lk.length + 1 := by simp
  refine ⟨h.tab.kept ?_ ?_ ?_, by rw [hle, rowOf_snoc]; exact hr, ?_, ?_⟩
  · exact hg.block _ h.tab.tlt (fun e => by obtain ⟨a, h1, h2⟩ := ob _ e; exact h.akne.2 a h1 h2)
  · exact hg.block _ h.tab.mlt (fun e => by obtain ⟨a, h1, h2⟩ := ob _ e; exact h.akne.1 a h1 h2)
  · intro a' ha'
    exact hg.block _ (h.tab.aoB a' ha').2 (fun e => by obtain ⟨a, h1, h2⟩ := ob _ e; exact h.apart a a' h1 ha' h2)
  · intro a a' ha ha'
    injection ha with ha
    subst ha
    rcases hat with h1 | h1
    · exact h.apart _ a' h1 ha'
    · have := (h.tab.aoB a' ha').2
      show g ≠ a'.block
      omega
  · exact h.below.grown hg h.below.size (fun k hk => by obtain ⟨a, h1, h2⟩ := ob _ hk.symm; have := (h.akB a h1).1; omega)
end
end Go.Proofs.Ytionokpdplgjbaa
