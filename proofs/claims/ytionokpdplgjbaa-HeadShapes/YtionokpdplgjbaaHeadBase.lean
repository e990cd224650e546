/- What every law's frame of this seat shares. -/
import Derived.Test.YtionokpdplgjbaaHeadAwake
import Derived.Carry
namespace Go.Proofs.Ytionokpdplgjbaa
open Go.RowKit Go.Maps Go.ChangeShapes Go.WideShapes Go.ChangeAt Go.Deep

theorem cells_head : Try.prog.cellsOf 27 = 3 := by kernel_rfl

theorem open_head {H : Type} {enc : TypeId × Value → H} {w : World} {base b0 : Nat} {spare : Nat → Bool} {held : Bool} {r : Reach} {v : Value} {d : DataW H} {ps : List MemPlace}
    (hval : Value.okWide Try.prog w r b0 27 v) (hd : DataW.Trod enc Try.prog w base spare held 27 v d ps) :
    ∃ a b c, v = .agg #[.int .i64 a, .int .i64 b, .int .i64 c] ∧ (Lit.int .i64 a).wf = true ∧ (Lit.int .i64 b).wf = true ∧ (Lit.int .i64 c).wf = true := by
  obtain ⟨cs, rfl, hsz⟩ := okWide_struct Try.underlying27 hval
  rw [cells_head] at hsz
  obtain ⟨fuel, hf⟩ := hd
  obtain ⟨y0, y1, y2, n, _, _, t0, t1, t2⟩ := trod_struct3 Try.underlying27 hf
  obtain ⟨l⟩ := cs
  match l, hsz with
  | [x0, x1, x2], _ =>
    simp only [Value.cells, cells_int, List.take, List.drop] at t0 t1 t2
    obtain ⟨a, e0, _, w0⟩ := DataW.trod_int Try.underlying3 t0
    obtain ⟨b, e1, _, w1⟩ := DataW.trod_int Try.underlying3 t1
    obtain ⟨c, e2, _, w2⟩ := DataW.trod_int Try.underlying3 t2
    simp at e0 e1 e2
    subst e0 e1 e2
    exact ⟨a, b, c, rfl, w0, w1, w2⟩

theorem shp_of_cells {H : Type} {enc : TypeId × Value → H} {w : World} {base : Nat} {spare : Nat → Bool} {held : Bool} {fuel : Nat} {cs : List Value} {x : DataW H × List MemPlace}
    (hf : DataW.trod enc Try.prog w base spare held fuel 32 cs = some x) : ∃ s : Shp, cs = s.cells ∧ s.Fit := by
  obtain ⟨y0, y1, y2, n, _, hl, t0, t1, t2⟩ := trod_struct3 Try.underlying32 hf
  rw [cells_shape] at hl
  match cs, hl with
  | [x0, x1, x2], _ =>
    simp only [cells_int, cells_u64, List.take, List.drop] at t0 t1 t2
    obtain ⟨a, e0, _, w0⟩ := DataW.trod_int Try.underlying3 t0
    obtain ⟨b, e1, _, w1⟩ := DataW.trod_int Try.underlying3 t1
    obtain ⟨c, e2, _, w2⟩ := DataW.trod_int Try.underlying30 t2
    simp at e0 e1 e2
    subst e0 e1 e2
    have hb := bounds_u64 w2
    obtain ⟨m, rfl⟩ := Int.eq_ofNat_of_zero_le hb.1
    exact ⟨⟨a, b, m⟩, rfl, w0, w1, by show m < _; omega⟩

theorem open_shape {H : Type} {enc : TypeId × Value → H} {w : World} {base b0 : Nat} {spare : Nat → Bool} {held : Bool} {r : Reach} {v : Value} {d : DataW H} {ps : List MemPlace}
    (hval : Value.okWide Try.prog w r b0 32 v) (hd : DataW.Trod enc Try.prog w base spare held 32 v d ps) :
    ∃ s : Shp, v = .agg #[.int .i64 s.k, .int .i64 s.f, .int .u64 (s.m : Int)] ∧ s.Fit := by
  obtain ⟨cs, rfl, _⟩ := okWide_struct Try.underlying32 hval
  obtain ⟨fuel, hf⟩ := hd
  obtain ⟨s, e, hs⟩ := shp_of_cells hf
  refine ⟨s, ?_, hs⟩
  simp only [Value.cells] at e
  obtain ⟨l⟩ := cs
  simp at e
  rw [e]
  rfl
end Go.Proofs.Ytionokpdplgjbaa
