/- Shapes as values, as data, as a map's keys. -/
import Derived.Test.YtgflkpccddfalaaGreatDoorHeadLeaf4
import Derived.DeepKeys4
import Derived.MapViews
import Derived.Maps.OwnSet
import Derived.Deep.Strs
import Derived.ProofKit
import Derived.OpenShut
namespace Go.Proofs.YtgflkpccddfalaaGreatDoor.Hd
set_option maxRecDepth 100000
open Go.RowKit Go.Maps Go.ChangeShapes Go.WideShapes Go.ChangeAt Go.Deep

theorem own : ownKnob Tryz.prog.godebug = none := by kernel_rfl
theorem laidOut : laidOutB Tryz.prog = true := by kernel_rfl

/-- A shape: its kind, its fields, its map. -/
abbrev Shp : Type := Int × Int × Nat
def Shp.k (s : Shp) : Int := s.1
def Shp.f (s : Shp) : Int := s.2.1
def Shp.m (s : Shp) : Nat := s.2.2
theorem shp_ext {s t : Shp} (h0 : s.k = t.k) (h1 : s.f = t.f) (h2 : s.m = t.m) : s = t := Prod.ext h0 (Prod.ext h1 h2)

def Shp.cells (s : Shp) : List Value := [.int .i64 s.k, .int .i64 s.f, .int .u64 (s.m : Int)]
def Shp.val (s : Shp) : Value := .agg #[.int .i64 s.k, .int .i64 s.f, .int .u64 (s.m : Int)]
structure Shp.Fit (s : Shp) : Prop where
  k0 : (Lit.int .i64 s.k).wf = true
  f0 : (Lit.int .i64 s.f).wf = true
  m0 : s.m < 18446744073709551616

theorem wfm {m : Nat} (h : m < 18446744073709551616) : (Lit.int .u64 (m : Int)).wf = true := WalkArith.wf_u64 ⟨by omega, by omega⟩

theorem cells_shape : Tryz.prog.cellsOf 59 = 3 := by kernel_rfl
theorem cells_int : Tryz.prog.cellsOf 3 = 1 := by kernel_rfl
theorem cells_u64 : Tryz.prog.cellsOf 47 = 1 := by kernel_rfl
theorem row_shape : (59 : TypeId) < Tryz.prog.types.size := of_decide_eq_true (by kernel_rfl)
theorem deep_shape : Tryz.prog.keyTypeAt (Tryz.prog.types.size + 1) 59 = true := by kernel_rfl
theorem wide_shape : (match Tryz.prog.underlying 59 with | some (.array _ _) | some (.struct _) => true | _ => false) = true := by kernel_rfl
theorem keyed : Keyed Tryz.prog 59 := Keyed.of_law (deep_law_laid laidOut (m := 3) (by omega) row_shape (by kernel_rfl) wide_shape)

theorem trod_shp {H : Type} {enc : TypeId × Value → H} {w : World} {base : Nat} {spare : Nat → Bool} {held : Bool} (s : Shp) (h : s.Fit) :
    DataW.trod enc Tryz.prog w base spare held 2 59 s.cells = some (.agg [.lit (.int .i64 s.k), .lit (.int .i64 s.f), .lit (.int .u64 (s.m : Int))], []) := by
  have := trod_struct3_mk (enc := enc) (w := w) (base := base) (spare := spare) (held := held) (n := 1) (cs := s.cells) (y0 := (.lit (.int .i64 s.k), [])) (y1 := (.lit (.int .i64 s.f), [])) (y2 := (.lit (.int .u64 (s.m : Int)), []))
    Tryz.underlying59 (by rw [cells_shape]; rfl)
    (by simpa [cells_int, Shp.cells] using trod_int_mk 0 Tryz.underlying3 h.k0)
    (by simpa [cells_int, Shp.cells] using trod_int_mk 0 Tryz.underlying3 h.f0)
    (by simpa [cells_u64, Shp.cells] using trod_int_mk 0 Tryz.underlying47 (wfm h.m0))
  simpa using this

theorem Trod_shp {H : Type} {enc : TypeId × Value → H} {w : World} {base : Nat} {spare : Nat → Bool} {held : Bool} (s : Shp) (h : s.Fit) :
    DataW.Trod enc Tryz.prog w base spare held 59 s.val (.agg [.lit (.int .i64 s.k), .lit (.int .i64 s.f), .lit (.int .u64 (s.m : Int))]) [] :=
  ⟨2, by simpa [Shp.val, Value.cells, Shp.cells] using trod_shp s h⟩

/-- The key that a shape is. -/
def Shp.key (s : Shp) : Lit := (DataW.agg (H := Unit) [.lit (.int .i64 s.k), .lit (.int .i64 s.f), .lit (.int .u64 (s.m : Int))]).asKey

theorem formed_shp (s : Shp) : s.val.formed Tryz.prog 59 = true := by
  simp [Shp.val, Value.formed, Tryz.underlying59, cells_shape]

theorem keyOf_shp (s : Shp) (h : s.Fit) (w : World) : keyOf Tryz.prog 59 s.val = some s.key :=
  (keyOf_asKey deep_shape wide_shape (formed_shp s) (Trod_shp (enc := fun _ => ()) (w := w) (base := 0) (spare := fun _ => false) (held := false) s h)).1

theorem val_inj {s t : Shp} (h : s.val = t.val) : s = t := by
  simp [Shp.val] at h
  obtain ⟨h1, h2, h3⟩ := h
  exact shp_ext h1 h2 (by omega)

theorem key_inj {s t : Shp} (hs : s.Fit) (ht : t.Fit) (w : World) (h : s.key = t.key) : s = t :=
  val_inj (keyed.inj (keyOf_shp s hs w) (by rw [h]; exact keyOf_shp t ht w))
end Go.Proofs.YtgflkpccddfalaaGreatDoor.Hd
