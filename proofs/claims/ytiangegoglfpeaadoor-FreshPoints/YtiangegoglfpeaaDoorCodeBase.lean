/- The table of instructions as it is laid; the witness's world. -/
import Derived.Test.YtiangegoglfpeaaDoorCodeMem
import Derived.Test.YtiangegoglfpeaaDoorRows
import Derived.Test.YtiangegoglfpeaaDoorTie
import Derived.Test.YtiangegoglfpeaaDoorCards
import Derived.LaidMore
import Derived.Stop.Joined
import Derived.Stop.LaidErr
import Derived.SevenTiedAt
import Derived.Lib.LaidTab
import Derived.Lib.TrailingZeros
namespace Go.Proofs.YtiangegoglfpeaaDoor
set_option maxRecDepth 100000
open Go.RowKit Go.Maps Go.ChangeShapes Go.WideShapes Go.ChangeAt Go.Deep

theorem own : ownKnob Tryd.prog.godebug = none := by kernel_rfl
theorem laidOut : laidOutB Tryd.prog = true := by kernel_rfl
def laid9 {H : Type} : List (String × DataW H) := [("math/bits.deBruijn64tab", Rows.laid_math_bits_deBruijn64tab), ("gantline/code.rows", Rows.laid_gantline_code_rows)]
theorem door_met (os : Os) (args : Array Value) : laidMetH Tryd.prog laid9 ((World.doorLaid Tryd.prog 400 os).forCall (fun _ _ => 0) ⟨#[], args, []⟩).memory :=
  laidMetH_of_parts3 (fuel := 8) (laidMet_of_run' 8 (by kernel_rfl) (by kernel_rfl)) (by kernel_rfl) (by kernel_rfl)

/-- A row of the table: its name, how many operands, is it a point, is it a maker. -/
structure Rw where
  nm : List UInt8
  ops : Nat
  pt : Bool
  mkr : Bool
def rowsP : List Rw := [⟨[99, 111, 110, 115, 116], 2, false, false⟩, ⟨[109, 111, 118, 101], 2, false, false⟩, ⟨[110, 105, 108], 1, false, false⟩, ⟨[97, 100, 100], 3, false, false⟩, ⟨[115, 117, 98], 3, false, false⟩, ⟨[109, 117, 108], 3, false, false⟩, ⟨[100, 105, 118], 3, false, false⟩, ⟨[109, 111, 100], 3, false, false⟩,
  ⟨[97, 110, 100], 3, false, false⟩, ⟨[111, 114], 3, false, false⟩, ⟨[120, 111, 114], 3, false, false⟩, ⟨[115, 104, 108], 3, false, false⟩, ⟨[115, 104, 114], 3, false, false⟩, ⟨[108, 116], 3, false, false⟩, ⟨[108, 101], 3, false, false⟩, ⟨[101, 113], 3, false, false⟩, ⟨[115, 97, 109, 101], 3, false, false⟩, ⟨[110, 111, 116], 2, false, false⟩,
  ⟨[106, 117, 109, 112], 1, false, false⟩, ⟨[105, 102], 2, false, false⟩, ⟨[99, 97, 108, 108], 3, true, false⟩, ⟨[99, 97, 108, 108, 99], 4, true, false⟩, ⟨[114, 101, 116, 117, 114, 110], 1, false, false⟩, ⟨[103, 111], 2, true, false⟩, ⟨[103, 111, 99], 3, true, false⟩, ⟨[110, 101, 119], 2, true, true⟩, ⟨[97, 114, 114, 97, 121], 3, true, true⟩,
  ⟨[103, 101, 116], 3, false, false⟩, ⟨[115, 101, 116], 3, false, false⟩, ⟨[115, 101, 116, 110], 3, false, false⟩, ⟨[97, 116], 3, false, false⟩, ⟨[112, 117, 116], 3, false, false⟩, ⟨[112, 117, 116, 110], 3, false, false⟩, ⟨[108, 101, 110], 2, false, false⟩, ⟨[108, 111, 97, 100], 2, false, false⟩, ⟨[115, 116, 111, 114, 101], 2, false, false⟩,
  ⟨[99, 108, 111, 115, 117, 114, 101], 3, true, true⟩, ⟨[99, 104, 97, 110], 3, true, true⟩, ⟨[115, 101, 110, 100], 2, true, false⟩, ⟨[114, 101, 99, 118], 3, true, false⟩, ⟨[99, 108, 111, 115, 101], 1, false, false⟩, ⟨[115, 101, 108, 101, 99, 116], 2, true, false⟩, ⟨[112, 114, 105, 110, 116], 1, false, false⟩, ⟨[112, 111, 108, 108], 0, true, false⟩, ⟨[116, 114, 97, 112], 1, false, false⟩]
def Rw.dat {H : Type} (r : Rw) : DataW H := .agg [.lit (.string r.nm), .lit (.int .i64 (r.ops : Int)), .lit (.bool r.pt), .lit (.bool r.mkr)]
theorem laid_rows : (Rows.laid_gantline_code_rows : DataW Unit) = .agg (rowsP.map Rw.dat) := rfl
/-- The table lies there. -/
def RowsAt (w : World) : Prop := ∀ (i : Nat) (r : Rw), rowsP[i]? = some r → w.cell? ⟨0, i * 4, none⟩ = some (.string ⟨r.nm.toArray⟩) ∧ w.cell? ⟨0, i * 4 + 1, none⟩ = some (.int .i64 (r.ops : Int)) ∧ w.cell? ⟨0, i * 4 + 2, none⟩ = some (.bool r.pt) ∧ w.cell? ⟨0, i * 4 + 3, none⟩ = some (.bool r.mkr)
theorem RowsAt.g {w w' : World} (h : RowsAt w) (g : G w w') : RowsAt w' := fun i r hr => ⟨g.cell (h i r hr).1, g.cell (h i r hr).2.1, g.cell (h i r hr).2.2.1, g.cell (h i r hr).2.2.2⟩

theorem cells_row : Tryd.prog.cellsOf 93 = 4 := by kernel_rfl
theorem cells_str : Tryd.prog.cellsOf 9 = 1 := by kernel_rfl
theorem cells_rint : Tryd.prog.cellsOf 3 = 1 := by kernel_rfl
theorem cells_rbool : Tryd.prog.cellsOf 4 = 1 := by kernel_rfl
theorem row_cells {w : World} {base fuel : Nat} {sp : Nat → Bool} {held : Bool} {enc : TypeId × Value → Unit} {cs : List Value} {p : List MemPlace} {r : Rw} (h : DataW.trod enc Tryd.prog w base sp held fuel 93 cs = some (r.dat, p)) :
    cs = [.string ⟨r.nm.toArray⟩, .int .i64 (r.ops : Int), .bool r.pt, .bool r.mkr] := by
  obtain ⟨xs, n, _, hx, hl, hlen, hf⟩ := DataW.trod_struct Tryd.underlying93 h
  rw [cells_row] at hl
  have hd : xs.map (·.1) = [.lit (.string r.nm), .lit (.int .i64 (r.ops : Int)), .lit (.bool r.pt), .lit (.bool r.mkr)] := by
    have := congrArg Prod.fst hx
    unfold Rw.dat at this
    simpa using this.symm
  match cs, hl, xs, hlen, hd, hf with
  | [c0, c1, c2, c3], _, [x0, x1, x2, x3], _, hd, hf =>
    have t0 := hf 0 _ rfl
    have t1 := hf 1 _ rfl
    have t2 := hf 2 _ rfl
    have t3 := hf 3 _ rfl
    simp only [List.map_cons, List.map_nil, List.cons.injEq, and_true] at hd
    obtain ⟨d0, d1, d2, d3⟩ := hd
    have t0 : DataW.trod enc Tryd.prog w base sp held n 9 [c0] = some x0 := t0
    have t1 : DataW.trod enc Tryd.prog w base sp held n 3 [c1] = some x1 := t1
    have t2 : DataW.trod enc Tryd.prog w base sp held n 4 [c2] = some x2 := t2
    have t3 : DataW.trod enc Tryd.prog w base sp held n 4 [c3] = some x3 := t3
    obtain ⟨s, e0, y0, _⟩ := DataW.trod_string Tryd.underlying9 t0
    obtain ⟨z, e1, y1, _⟩ := DataW.trod_int Tryd.underlying3 t1
    obtain ⟨a, e2, y2⟩ := DataW.trod_bool Tryd.underlying4 t2
    obtain ⟨b, e3, y3⟩ := DataW.trod_bool Tryd.underlying4 t3
    rw [y0] at d0
    rw [y1] at d1
    rw [y2] at d2
    rw [y3] at d3
    simp at d0 d1 d2 d3 e0 e1 e2 e3
    subst e0 e1 e2 e3 d1 d2 d3
    rw [← d0]

theorem rows_of_laid {W : World} (h : laidMetH Tryd.prog laid9 W) : RowsAt W := by
  rw [MakeChecks.laidMetH_plain _ _ _ (by kernel_rfl)] at h
  have h4 := h.tail
  obtain ⟨ps, ⟨g', t', cs, fuel, p, q, hg', ht', hvar, hd, _, _⟩, _⟩ := h4
  have hg : Tryd.prog.globalNamed "gantline/code.rows" = some 0 := by kernel_rfl
  have hty : (Tryd.prog.globals[0]?).map (·.type) = some 119 := by kernel_rfl
  obtain rfl := Option.some.inj (hg.symm.trans hg')
  obtain rfl := Option.some.inj (hty.symm.trans ht')
  rw [laid_rows] at hd
  obtain ⟨xs, m, _, hx, hl, hlen, hf⟩ := DataW.trod_array Tryd.underlying119 hd
  rw [cells_row] at hf
  have hdx : xs.map (·.1) = rowsP.map Rw.dat := by
    have := congrArg Prod.fst hx
    simpa using this.symm
  intro i r hr
  have hi : i < 45 := by
    have := (List.getElem?_eq_some_iff.1 hr).1
    exact this
  have hxi := hf i hi
  have hil : i < xs.length := by rw [hlen]; exact hi
  rw [List.getElem?_eq_getElem hil] at hxi
  have hdat : (xs[i]).1 = r.dat := by
    have h1 := congrArg (·[i]?) hdx
    simp only [List.getElem?_map, hr, List.getElem?_eq_getElem hil, Option.map_some] at h1
    exact Option.some.inj h1
  obtain ⟨d, pl, hdp⟩ : ∃ d pl, xs[i] = (d, pl) := ⟨_, _, rfl⟩
  rw [hdp] at hdat hxi
  simp only at hdat
  subst hdat
  have hcs := row_cells hxi
  have hget : ∀ j v, ([.string ⟨r.nm.toArray⟩, .int .i64 (r.ops : Int), .bool r.pt, .bool r.mkr] : List Value)[j]? = some v → W.cell? ⟨0, i * 4 + j, none⟩ = some v := fun j v hj => by
    rw [← hcs] at hj
    have hj4 : j < 4 := by
      have := (List.getElem?_eq_some_iff.1 hj).1
      simp at this
      omega
    rw [List.getElem?_take, if_pos hj4, List.getElem?_drop] at hj
    have := World.var?_cell hg hvar (i * 4 + j)
    rw [this]
    simpa using hj
  exact ⟨hget 0 _ rfl, hget 1 _ rfl, hget 2 _ rfl, hget 3 _ rfl⟩
def tabInts : List Int := Lib.deBruijn64tab.map fun n : Nat => (n : Int)
theorem tab_at : ∀ k : Fin 64, tabInts.getD (2 ^ k.val * 285870213051353865 % 18446744073709551616 / 288230376151711744) 0 = (k.val : Int) ∧ 2 ^ k.val * 285870213051353865 % 18446744073709551616 / 288230376151711744 < tabInts.length := by decide +kernel
/-- math/bits' table lies there, as its text lays it. -/
def TabZ (w : World) : Prop := ∀ k : Nat, k < 64 → w.cell? ⟨1, 2 ^ k * 285870213051353865 % 18446744073709551616 / 288230376151711744, none⟩ = some (.int .u8 (k : Int))
theorem TabZ.g {w w' : World} (h : TabZ w) (g : G w w') : TabZ w' := fun k hk => g.cell (h k hk)
theorem tabz_of_laid {W : World} (h : laidMetH Tryd.prog laid9 W) : TabZ W := by
  rw [MakeChecks.laidMetH_plain _ _ _ (by kernel_rfl)] at h
  have hg : Tryd.prog.globalNamed "math/bits.deBruijn64tab" = some 1 := by kernel_rfl
  have hi : Lib.TabIs Tryd.prog W "math/bits.deBruijn64tab" .u8 tabInts :=
    Lib.tabIs_of_head (g := 1) (t := 148) (e := 5) (n := 64) hg (by kernel_rfl) Tryd.underlying148 Tryd.underlying5 (by kernel_rfl) (by kernel_rfl) h
  intro k hk
  have hk2 := tab_at ⟨k, hk⟩
  have := hi.cell hg _ hk2.2
  rw [hk2.1] at this
  exact this
end Go.Proofs.YtiangegoglfpeaaDoor
