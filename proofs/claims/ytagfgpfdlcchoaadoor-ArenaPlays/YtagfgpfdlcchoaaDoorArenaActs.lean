/- A list of calls that came in; played() of package gantlinelaw4. -/
import Derived.Test.YtagfgpfdlcchoaaDoorArenaBase
import Derived.Deep.Strs
namespace Go.Proofs.YtagfgpfdlcchoaaDoor
open Go.ChangeShapes Go.WideShapes Go.ChangeAt Go.RowKit Go.Deep

/-- A call. -/
structure Ac where
  op : Int
  sp : Int
  cl : Int
  at_ : Int
  ad : Int
  v : Int
def Ac.cells (s : Ac) : List Value := [.int .i64 s.op, .int .i64 s.sp, .int .i64 s.cl, .int .i64 s.at_, .int .i64 s.ad, .int .i64 s.v]
def Ac.obj (s : Ac) : Obj := .cells #[.int .i64 s.op, .int .i64 s.sp, .int .i64 s.cl, .int .i64 s.at_, .int .i64 s.ad, .int .i64 s.v] 60

theorem cells_act : Tryd.prog.cellsOf 60 = 6 := by kernel_rfl
theorem cells_int : Tryd.prog.cellsOf 3 = 1 := by kernel_rfl
theorem cells_i64 : Tryd.prog.cellsOf 2 = 1 := by kernel_rfl

theorem trod_struct6 {P : Program} {H : Type} {enc : TypeId × Value → H} {w : World} {base : Nat} {spare : Nat → Bool} {held : Bool} {t : TypeId} {f0 f1 f2 f3 f4 f5 : Field} {fuel : Nat} {cs : List Value} {x : DataW H × List MemPlace} (ht : P.underlying t = some (.struct #[f0, f1, f2, f3, f4, f5])) (h : DataW.trod enc P w base spare held fuel t cs = some x) :
    ∃ y0 y1 y2 y3 y4 y5 n, cs.length = P.cellsOf t ∧ DataW.trod enc P w base spare held n f0.type ((cs.drop f0.offset).take (P.cellsOf f0.type)) = some y0 ∧ DataW.trod enc P w base spare held n f1.type ((cs.drop f1.offset).take (P.cellsOf f1.type)) = some y1 ∧ DataW.trod enc P w base spare held n f2.type ((cs.drop f2.offset).take (P.cellsOf f2.type)) = some y2 ∧ DataW.trod enc P w base spare held n f3.type ((cs.drop f3.offset).take (P.cellsOf f3.type)) = some y3 ∧ DataW.trod enc P w base spare held n f4.type ((cs.drop f4.offset).take (P.cellsOf f4.type)) = some y4 ∧ DataW.trod enc P w base spare held n f5.type ((cs.drop f5.offset).take (P.cellsOf f5.type)) = some y5 := by
  obtain ⟨xs, n, _, rfl, hl, hlen, hf⟩ := DataW.trod_struct ht h
  match xs, hlen with
  | [y0, y1, y2, y3, y4, y5], _ => exact ⟨y0, y1, y2, y3, y4, y5, n, hl, by simpa using hf 0 f0 rfl, by simpa using hf 1 f1 rfl, by simpa using hf 2 f2 rfl, by simpa using hf 3 f3 rfl, by simpa using hf 4 f4 rfl, by simpa using hf 5 f5 rfl⟩

theorem act_of_cells {H : Type} {enc : TypeId × Value → H} {w : World} {base : Nat} {spare : Nat → Bool} {held : Bool} {fuel : Nat} {cs : List Value} {x : DataW H × List MemPlace}
    (hf : DataW.trod enc Tryd.prog w base spare held fuel 60 cs = some x) : ∃ s : Ac, cs = s.cells := by
  obtain ⟨y0, y1, y2, y3, y4, y5, n, hl, t0, t1, t2, t3, t4, t5⟩ := trod_struct6 Tryd.underlying60 hf
  rw [cells_act] at hl
  match cs, hl with
  | [x0, x1, x2, x3, x4, x5], _ =>
    simp only [cells_int, cells_i64, List.take, List.drop] at t0 t1 t2 t3 t4 t5
    obtain ⟨a0, e0, _⟩ := DataW.trod_int Tryd.underlying3 t0
    obtain ⟨a1, e1, _⟩ := DataW.trod_int Tryd.underlying3 t1
    obtain ⟨a2, e2, _⟩ := DataW.trod_int Tryd.underlying3 t2
    obtain ⟨a3, e3, _⟩ := DataW.trod_int Tryd.underlying3 t3
    obtain ⟨a4, e4, _⟩ := DataW.trod_int Tryd.underlying2 t4
    obtain ⟨a5, e5, _⟩ := DataW.trod_int Tryd.underlying2 t5
    simp at e0 e1 e2 e3 e4 e5
    subst e0 e1 e2 e3 e4 e5
    exact ⟨⟨a0, a1, a2, a3, a4, a5⟩, rfl⟩

/-- The six cells of a call at an address. -/
def ActAt (w : World) (b o : Nat) (s : Ac) : Prop :=
  w.cell? ⟨b, o, none⟩ = some (.int .i64 s.op) ∧ w.cell? ⟨b, o + 1, none⟩ = some (.int .i64 s.sp) ∧ w.cell? ⟨b, o + 2, none⟩ = some (.int .i64 s.cl) ∧ w.cell? ⟨b, o + 3, none⟩ = some (.int .i64 s.at_) ∧
  w.cell? ⟨b, o + 4, none⟩ = some (.int .i64 s.ad) ∧ w.cell? ⟨b, o + 5, none⟩ = some (.int .i64 s.v)

/-- The calls l lie at ao in w. -/
def IsActs (w : World) (ao : Option Addr) (n : Nat) (l : List Ac) : Prop :=
  l.length = n ∧ n ≤ maxLen ∧ (n = 0 ∨ ∃ b off, ao = some ⟨b, off, none⟩ ∧ b < w.heap.size ∧ ∀ i s, l[i]? = some s → ActAt w b (off + i * 6) s)

theorem spot_none {w : World} {a : Addr} {v : Value} (h : w.cell? a = some v) : a = ⟨a.block, a.off, none⟩ := by
  obtain ⟨b, o, sp⟩ := a
  cases sp with
  | none => rfl
  | some x =>
    unfold World.cell? at h
    split at h <;> simp at h

theorem open_acts {H : Type} {enc : TypeId × Value → H} {w : World} {base b0 : Nat} {spare : Nat → Bool} {held : Bool} {r : Reach} {v : Value} {d : DataW H} {ps : List MemPlace}
    (hval : Value.okWide Tryd.prog w r b0 55 v) (hd : DataW.Trod enc Tryd.prog w base spare held 55 v d ps) :
    ∃ ao n c l, v = .slice ao n c ∧ IsActs w ao n l := by
  obtain ⟨ao, len, cap, rfl⟩ := okWide_slice Tryd.underlying55 hval
  obtain ⟨fuel, hf⟩ := hd
  rcases open_slice Tryd.underlying55 hf with ⟨hcs, _⟩ | ⟨a, len', cap', m, n, D, Pl, hcs, _, hl, hm, em, _, hel⟩
  · simp [Value.cells] at hcs
    obtain ⟨rfl, rfl, rfl⟩ := hcs
    exact ⟨none, 0, 0, [], rfl, rfl, Nat.zero_le _, Or.inl rfl⟩
  · simp [Value.cells] at hcs
    obtain ⟨rfl, rfl, rfl⟩ := hcs
    have hlm : len ≤ m := by rw [em]; split <;> omega
    have hs : ∀ i, i < len → ∃ s : Ac, w.cells? base (a.add (i * 6)) 6 = some s.cells := by
      intro i hi
      obtain ⟨cs', h1, h2⟩ := hel i (by omega)
      rw [cells_act] at h1
      obtain ⟨s, rfl⟩ := act_of_cells h2
      exact ⟨s, h1⟩
    have : Inhabited Ac := ⟨⟨0, 0, 0, 0, 0, 0⟩⟩
    obtain ⟨S, hS⟩ := choose_lt hs
    refine ⟨some a, len, cap, (List.range len).map S, rfl, by simp, by omega, ?_⟩
    by_cases h0 : len = 0
    · exact Or.inl h0
    right
    have hc : ∀ i, i < len → ∀ j, j < 6 → w.cell? ((a.add (i * 6)).add j) = (S i).cells[j]? := fun i hi j hj => (World.cells?_some (hS i hi)).2.2 j hj
    have hz := hc 0 (by omega) 0 (by omega)
    simp [Ac.cells, Addr.add] at hz
    have ea := spot_none hz
    obtain ⟨ab, aoff, asp⟩ := a
    simp at ea
    subst ea
    refine ⟨ab, aoff, rfl, World.block_lt_of_cell? w _ hz, ?_⟩
    intro i s hi
    have hil : i < len := by
      have := (List.getElem?_eq_some_iff.1 hi).1
      simpa using this
    obtain rfl : S i = s := by simpa [hil] using hi
    have c0 := hc i hil 0 (by omega)
    have c1 := hc i hil 1 (by omega)
    have c2 := hc i hil 2 (by omega)
    have c3 := hc i hil 3 (by omega)
    have c4 := hc i hil 4 (by omega)
    have c5 := hc i hil 5 (by omega)
    rw [Addr.add_lit, Addr.add_lit] at c0 c1 c2 c3 c4 c5
    exact ⟨c0, c1, c2, c3, c4, c5⟩

theorem IsActs.at_ {W w : World} {ao : Option Addr} {n : Nat} {l : List Ac} (h : IsActs W ao n l) (hb : Below W.heap.size W w) {i : Nat} (hi : i < n) : ∃ s b off, l[i]? = some s ∧ ao = some ⟨b, off, none⟩ ∧ b < w.heap.size ∧ ActAt w b (off + i * 6) s := by
  obtain ⟨h1, _, h3⟩ := h
  rcases h3 with h3 | ⟨b, off, rfl, hlt, h3⟩
  · omega
  · obtain ⟨s, hs⟩ : ∃ s, l[i]? = some s := ⟨l[i]'(by omega), List.getElem?_eq_getElem (by omega)⟩
    obtain ⟨c0, c1, c2, c3, c4, c5⟩ := h3 i s hs
    have e : ∀ o, w.cell? ⟨b, o, none⟩ = W.cell? ⟨b, o, none⟩ := fun o => World.cell?_of_block (hb.block b hlt)
    exact ⟨s, b, off, hs, rfl, Nat.lt_of_lt_of_le hlt hb.size, (e _).trans c0, (e _).trans c1, (e _).trans c2, (e _).trans c3, (e _).trans c4, (e _).trans c5⟩

/-- What played knows in a round. -/
def Pl (W w0 w : World) (d : Ad) : Prop := ∃ a, St W w d a ∧ Tn w0 w d
theorem Pl.g {W w0 w w' : World} {d : Ad} (h : Pl W w0 w d) (g : G w w') : Pl W w0 w' d := by
  obtain ⟨a, s, t⟩ := h
  exact ⟨a, s.G g, t.G g⟩

theorem pl_set {W w0 w : World} {d : Ad} (h : Hid (Pl W w0 w d)) (s c : Int) :
    Calls Tryd.prog 40 #[.pointer (some ⟨d.ab, 0, none⟩), .int .i64 s, .int .i64 c] w fun e w' => (∃ r, e = .returned (.int .i64 r)) ∧ Pl W w0 w' d := by
  obtain ⟨a, s0, t0⟩ := unhide h
  refine (st_set (hide s0) s c).mono ?_
  rintro e w' ⟨rfl, s', t'⟩
  exact ⟨⟨_, rfl⟩, _, s', t0.trans t'⟩
theorem pl_take {W w0 w : World} {d : Ad} (h : Hid (Pl W w0 w d)) (s : Int) :
    Calls Tryd.prog 41 #[.pointer (some ⟨d.ab, 0, none⟩), .int .i64 s] w fun e w' => (∃ r q, e = .returned (.tuple #[.int .i64 r, .int .i64 q])) ∧ Pl W w0 w' d := by
  obtain ⟨a, s0, t0⟩ := unhide h
  refine (st_take (hide s0) s).mono ?_
  rintro e w' ⟨rfl, s', t'⟩
  exact ⟨⟨_, _, rfl⟩, _, s', t0.trans t'⟩
theorem pl_mark {W w0 w : World} {d : Ad} (h : Hid (Pl W w0 w d)) (s : Int) :
    Calls Tryd.prog 19 #[.pointer (some ⟨d.ab, 0, none⟩), .int .i64 s] w fun e w' => (∃ r, e = .returned (.bool r)) ∧ Pl W w0 w' d := by
  obtain ⟨a, s0, t0⟩ := unhide h
  refine (st_mark (hide s0) s).mono ?_
  rintro e w' ⟨rfl, s', t'⟩
  exact ⟨⟨_, rfl⟩, _, s', t0.trans t'⟩
theorem pl_sweep {W w0 w : World} {d : Ad} (h : Hid (Pl W w0 w d)) (s : Int) :
    Calls Tryd.prog 22 #[.pointer (some ⟨d.ab, 0, none⟩), .int .i64 s] w fun e w' => (∃ r, e = .returned (.int .i64 r)) ∧ Pl W w0 w' d := by
  obtain ⟨a, s0, t0⟩ := unhide h
  refine (st_sweep (hide s0) s).mono ?_
  rintro e w' ⟨rfl, s', t'⟩
  exact ⟨⟨_, rfl⟩, _, s', t0.trans t'⟩
theorem pl_write {W w0 w : World} {d : Ad} (h : Hid (Pl W w0 w d)) (s c v : Int) :
    Calls Tryd.prog 30 #[.pointer (some ⟨d.ab, 0, none⟩), .int .i64 s, .int .i64 c, .int .i64 v] w fun e w' => (∃ r, e = .returned (.int .i64 r)) ∧ Pl W w0 w' d := by
  obtain ⟨a, s0, t0⟩ := unhide h
  refine (st_write (hide s0) s c v).mono ?_
  rintro e w' ⟨rfl, s', t'⟩
  exact ⟨⟨_, rfl⟩, _, s', t0.trans t'⟩
theorem pl_clear {W w0 w : World} {d : Ad} (h : Hid (Pl W w0 w d)) :
    Calls Tryd.prog 23 #[.pointer (some ⟨d.ab, 0, none⟩)] w fun e w' => (e = .returned (.tuple #[])) ∧ Pl W w0 w' d := by
  obtain ⟨a, s0, t0⟩ := unhide h
  refine (st_clear (hide s0)).mono ?_
  rintro e w' ⟨rfl, s', t'⟩
  exact ⟨rfl, _, s', t0.trans t'⟩

end Go.Proofs.YtagfgpfdlcchoaaDoor
