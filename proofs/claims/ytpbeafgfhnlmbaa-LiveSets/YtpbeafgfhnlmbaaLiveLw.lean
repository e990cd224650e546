/- What the laws of gantlinelaw10 share: a function is set in front, the module is not great. -/
import Derived.Test.YtpbeafgfhnlmbaaLiveApp
import Derived.Test.YtpbeafgfhnlmbaaLiveAwake
import Derived.Test.YtpbeafgfhnlmbaaLiveOpen
import Derived.Test.YtpbeafgfhnlmbaaCodeBig
import Derived.Laws.BitsAllLaws
namespace Go.Proofs.Ytpbeafgfhnlmbaa
set_option maxRecDepth 100000
open Go.RowKit Go.Maps Go.ChangeShapes Go.WideShapes Go.ChangeAt Go.Deep

/-- The module with that function in front. -/
def md2 (m : Md) (f : Fn) : Md := ⟨m.sh, m.gl, m.co, m.ca, f :: m.fn, m.main⟩
/-- The law's two boxes and all that lies behind them. -/
structure LwI (w W0 X : World) (m : Md) (so : Option Addr) (sc : Nat) (go : Option Addr) (gc : Nat) (co : Option Addr) (cc : Nat) (ao : Option Addr) (ac : Nat) (f : Fn) (ko : Option Addr) (kc : Nat) (io : Option Addr) (ic : Nat) (mo : Option Addr) (mc : Nat) (b c' : Nat) : Prop where
  g : G w X
  box : ∀ x, G X x → x.cell? ⟨w.heap.size, 0, none⟩ = some (.slice so m.sh.length sc) ∧ x.cell? ⟨w.heap.size, 1, none⟩ = some (.slice go m.gl.length gc) ∧ x.cell? ⟨w.heap.size, 2, none⟩ = some (.slice co m.co.length cc) ∧ x.cell? ⟨w.heap.size, 3, none⟩ = some (.slice ao m.ca.length ac) ∧ x.cell? ⟨w.heap.size, 4, none⟩ = some (.slice (some ⟨b, 0, none⟩) (m.fn.length + 1) c') ∧ x.cell? ⟨w.heap.size, 5, none⟩ = some (.int .i64 m.main) ∧ x.cell? ⟨w.heap.size + 1, 0, none⟩ = some (.int .i64 f.p) ∧ x.cell? ⟨w.heap.size + 1, 1, none⟩ = some (.int .i64 f.c) ∧ x.cell? ⟨w.heap.size + 1, 2, none⟩ = some (.int .i64 f.s) ∧ x.cell? ⟨w.heap.size + 1, 3, none⟩ = some (.int .i64 f.r) ∧ x.cell? ⟨w.heap.size + 1, 4, none⟩ = some (.slice ko f.ks.length kc) ∧ x.cell? ⟨w.heap.size + 1, 5, none⟩ = some (.slice io f.is.length ic) ∧ x.cell? ⟨w.heap.size + 1, 6, none⟩ = some (.slice mo f.ms.length mc)
  mr : ModR X (md2 m f) so sc go gc co cc ao ac (some ⟨b, 0, none⟩) c'
  rk : RowAt elB X ko f.ks.length kc f.ks
  ri : RowAt elIn X io f.is.length ic f.is
  rm : RowAt elU X mo f.ms.length mc f.ms
  old : ∀ k, k < W0.heap.size → k ≠ w.heap.size → X.heap[k]? = W0.heap[k]?
  siz : W0.heap.size ≤ X.heap.size
theorem law_pre (w W0 : World) (m : Md) (so : Option Addr) (sc : Nat) (go : Option Addr) (gc : Nat) (co : Option Addr) (cc : Nat) (ao : Option Addr) (ac : Nat) (fo : Option Addr) (fc : Nat) (f : Fn) (ko : Option Addr) (kc : Nat) (io : Option Addr) (ic : Nat) (mo : Option Addr) (mc : Nat) (hm : ModR w m so sc go gc co cc ao ac fo fc) (rk : RowAt elB w ko f.ks.length kc f.ks) (ri : RowAt elIn w io f.is.length ic f.is) (rm : RowAt elU w mo f.ms.length mc f.ms) (hlen : m.fn.length * 104 ≤ reachBytes) (g0 : G w W0) (m0 : W0.cell? ⟨w.heap.size, 0, none⟩ = some (.slice so m.sh.length sc)) (m1 : W0.cell? ⟨w.heap.size, 1, none⟩ = some (.slice go m.gl.length gc)) (m2 : W0.cell? ⟨w.heap.size, 2, none⟩ = some (.slice co m.co.length cc)) (m3 : W0.cell? ⟨w.heap.size, 3, none⟩ = some (.slice ao m.ca.length ac)) (m4 : W0.cell? ⟨w.heap.size, 4, none⟩ = some (.slice fo m.fn.length fc)) (m5 : W0.cell? ⟨w.heap.size, 5, none⟩ = some (.int .i64 m.main)) (f0 : W0.cell? ⟨w.heap.size + 1, 0, none⟩ = some (.int .i64 f.p)) (f1 : W0.cell? ⟨w.heap.size + 1, 1, none⟩ = some (.int .i64 f.c)) (f2 : W0.cell? ⟨w.heap.size + 1, 2, none⟩ = some (.int .i64 f.s)) (f3 : W0.cell? ⟨w.heap.size + 1, 3, none⟩ = some (.int .i64 f.r)) (f4 : W0.cell? ⟨w.heap.size + 1, 4, none⟩ = some (.slice ko f.ks.length kc)) (f5 : W0.cell? ⟨w.heap.size + 1, 5, none⟩ = some (.slice io f.is.length ic)) (f6 : W0.cell? ⟨w.heap.size + 1, 6, none⟩ = some (.slice mo f.ms.length mc)) (fz : W0.frozen? ⟨w.heap.size, 4, none⟩ = false) (x1 : World) (g1 : G W0 x1) :
    ∃ b c' x2, (Builtin.append_ #[29, 29] 29 #[.slice (some ⟨x1.heap.size, 0, none⟩) 1 1, .slice fo m.fn.length fc]).run Try.prog (x1.alloc (.cells #[.int .i64 f.p, .int .i64 f.c, .int .i64 f.s, .int .i64 f.r, .slice ko f.ks.length kc, .slice io f.is.length ic, .slice mo f.ms.length mc] 42)) = .ok (.slice (some ⟨b, 0, none⟩) (m.fn.length + 1) c') x2 ∧ x2.cell? ⟨w.heap.size, 4, none⟩ = some (.slice fo m.fn.length fc) ∧ x2.frozen? ⟨w.heap.size, 4, none⟩ = false ∧ LwI w W0 (x2.setCell ⟨w.heap.size, 4, none⟩ (.slice (some ⟨b, 0, none⟩) (m.fn.length + 1) c')) m so sc go gc co cc ao ac f ko kc io ic mo mc b c' := by
  have g01 := g0.trans g1
  have hb0 : w.heap.size < W0.heap.size := World.block_lt_of_cell? W0 _ m0
  have hb1 : w.heap.size + 1 < W0.heap.size := World.block_lt_of_cell? W0 _ f0
  have hFn : FnCells w f [.int .i64 f.p, .int .i64 f.c, .int .i64 f.s, .int .i64 f.r, .slice ko f.ks.length kc, .slice io f.is.length ic, .slice mo f.ms.length mc] := ⟨ko, kc, io, ic, mo, mc, rfl, rk, ri, rm⟩
  obtain ⟨b, c', x2, hrun, g12, hbb, hbl, hrow⟩ := app_front g01 hFn hm.r5 (by unfold reachBytes at hlen; omega)
  have gx2 := g01.trans g12
  have gW := g1.trans g12
  have hs1 := g1.size
  obtain ⟨X, hX⟩ : ∃ X, X = x2.setCell ⟨w.heap.size, 4, none⟩ (.slice (some ⟨b, 0, none⟩) (m.fn.length + 1) c') := ⟨_, rfl⟩
  have hgX : G w X := by rw [hX]; exact G.set gx2 _ _ _ (Nat.le_refl _)
  have hne : ∀ k, k ≠ w.heap.size → X.heap[k]? = x2.heap[k]? := fun k hk => by rw [hX]; exact heap_set _ _ hk
  have hsz : X.heap.size = x2.heap.size := by rw [hX]; exact World.size_setCell _ _ _
  have c4 := gW.cell m4
  have cm : ∀ i v, i ≠ 4 → W0.cell? ⟨w.heap.size, i, none⟩ = some v → X.cell? ⟨w.heap.size, i, none⟩ = some v := fun i v hi hv => by rw [hX, cell_other _ (Or.inr hi)]; exact gW.cell hv
  have c4' : X.cell? ⟨w.heap.size, 4, none⟩ = some (.slice (some ⟨b, 0, none⟩) (m.fn.length + 1) c') := by rw [hX]; exact cell_same _ c4
  have cf : ∀ i v, W0.cell? ⟨w.heap.size + 1, i, none⟩ = some v → X.cell? ⟨w.heap.size + 1, i, none⟩ = some v := fun i v hv => by rw [hX, cell_other _ (Or.inl (by omega))]; exact gW.cell hv
  have hrow2 := hrow X hgX (hne b (by omega)) (by omega)
  refine ⟨b, c', x2, hrun, c4, (World.frozen?_of_block (a := ⟨w.heap.size, 4, none⟩) (gW.block _ hb0)).trans fz, ?_⟩
  rw [← hX]
  refine ⟨hgX, fun x g => ⟨g.cell (cm 0 _ (by decide) m0), g.cell (cm 1 _ (by decide) m1), g.cell (cm 2 _ (by decide) m2), g.cell (cm 3 _ (by decide) m3), g.cell c4', g.cell (cm 5 _ (by decide) m5), g.cell (cf 0 _ f0), g.cell (cf 1 _ f1), g.cell (cf 2 _ f2), g.cell (cf 3 _ f3), g.cell (cf 4 _ f4), g.cell (cf 5 _ f5), g.cell (cf 6 _ f6)⟩, ⟨hm.r1.g okSp hgX, hm.r2.g okB hgX, hm.r3.g okI hgX, hm.r4.g okCa hgX, hrow2, hm.cap⟩, rk.g okB hgX, ri.g okIn hgX, rm.g okU hgX, fun k hk hkn => (hne k hkn).trans (gW.block k hk), by have := gW.size; omega⟩
/-- What a module that is not great allows. -/
theorem sm_bounds {m : Md} {f : Fn} (h : smMd (md2 m f)) : f.is.length * (4 * m.ca.length) + f.is.length ≤ 100000 ∧ m.ca.length ≤ 60 ∧ f.ks.length ≤ 1000000 ∧ f.is.length ≤ 200 := by
  obtain ⟨_, _, _, h4, _, h6⟩ := h
  obtain ⟨f1, f2, f3⟩ := h6 f (by simp [md2])
  replace h4 : m.ca.length ≤ 60 := h4
  have h7 : f.is.length * (4 * m.ca.length) ≤ 200 * 240 := Nat.mul_le_mul (by omega) (by omega)
  exact ⟨by omega, h4, by omega, by omega⟩
theorem oM_ca {m : Md} {f : Fn} (h : oMd m) : ∀ s ∈ (md2 m f).ca, oCa s := h.2.2.2.1.2
theorem oF_is {f : Fn} (h : oFn f) : ∀ i ∈ f.is, oIn i := h.2.2.2.2.2.1.2
section
variable {w W0 X : World} {m : Md} {so : Option Addr} {sc : Nat} {go : Option Addr} {gc : Nat} {co : Option Addr} {cc : Nat} {ao : Option Addr} {ac : Nat} {f : Fn} {ko : Option Addr} {kc : Nat} {io : Option Addr} {ic : Nat} {mo : Option Addr} {mc b c' : Nat}
theorem lw_sets (h : LwI w W0 X m so sc go gc co cc ao ac f ko kc io ic mo mc b c') (oM : oMd m) (oF : oFn f) (hs : smMd (md2 m f)) {x : World} (g : G X x) : Calls Try.prog 12 #[.agg #[.slice so m.sh.length sc, .slice go m.gl.length gc, .slice co m.co.length cc, .slice ao m.ca.length ac, .slice (some ⟨b, 0, none⟩) (m.fn.length + 1) c', .int .i64 m.main], .agg #[.int .i64 f.p, .int .i64 f.c, .int .i64 f.s, .int .i64 f.r, .slice ko f.ks.length kc, .slice io f.is.length ic, .slice mo f.ms.length mc]] x (SetTo x (md2 m f) f) := by
  obtain ⟨s1, s2, s3, s4⟩ := sm_bounds hs
  exact sets_any x (md2 m f) so sc go gc co cc ao ac (some ⟨b, 0, none⟩) c' f ko kc io ic mo mc (h.mr.g g) (h.ri.g okIn g) (oF_is oF) (oM_ca oM) s1 (by show m.ca.length ≤ 100000; omega)
theorem lw_maps (h : LwI w W0 X m so sc go gc co cc ao ac f ko kc io ic mo mc b c') (oM : oMd m) (oF : oFn f) (hs : smMd (md2 m f)) {x : World} (g : G X x) : Calls Try.prog 23 #[.agg #[.slice so m.sh.length sc, .slice go m.gl.length gc, .slice co m.co.length cc, .slice ao m.ca.length ac, .slice (some ⟨b, 0, none⟩) (m.fn.length + 1) c', .int .i64 m.main], .agg #[.int .i64 f.p, .int .i64 f.c, .int .i64 f.s, .int .i64 f.r, .slice ko f.ks.length kc, .slice io f.is.length ic, .slice mo f.ms.length mc]] x (MapTo x (md2 m f) f) := by
  obtain ⟨s1, s2, s3, s4⟩ := sm_bounds hs
  exact maps_any x (md2 m f) so sc go gc co cc ao ac (some ⟨b, 0, none⟩) c' f ko kc io ic mo mc (h.mr.g g) (h.rk.g okB g) (h.ri.g okIn g) (oF_is oF) (oM_ca oM) s1 (by show m.ca.length ≤ 100000; omega) s3
theorem lw_reads (h : LwI w W0 X m so sc go gc co cc ao ac f ko kc io ic mo mc b c') (hs : m.ca.length ≤ 1000000) {x : World} (g : G X x) (op A B C D : Int) (oA : oI A) : Calls Try.prog 9 #[.agg #[.slice so m.sh.length sc, .slice go m.gl.length gc, .slice co m.co.length cc, .slice ao m.ca.length ac, .slice (some ⟨b, 0, none⟩) (m.fn.length + 1) c', .int .i64 m.main], .agg #[.int .i64 op, .int .i64 A, .int .i64 B, .int .i64 C, .int .i64 D]] x (LTo x (rdP (md2 m f) ⟨op, A, B, C, D⟩)) :=
  reads_any x (md2 m f) so sc go gc co cc ao ac (some ⟨b, 0, none⟩) c' (h.mr.g g) ⟨op, A, B, C, D⟩ oA hs
theorem lw_follows (h : LwI w W0 X m so sc go gc co cc ao ac f ko kc io ic mo mc b c') (oF : oFn f) (hs : m.ca.length ≤ 1000000) {x : World} (g : G X x) (pc : Int) : Calls Try.prog 19 #[.agg #[.slice so m.sh.length sc, .slice go m.gl.length gc, .slice co m.co.length cc, .slice ao m.ca.length ac, .slice (some ⟨b, 0, none⟩) (m.fn.length + 1) c', .int .i64 m.main], .agg #[.int .i64 f.p, .int .i64 f.c, .int .i64 f.s, .int .i64 f.r, .slice ko f.ks.length kc, .slice io f.is.length ic, .slice mo f.ms.length mc], .int .i64 pc] x (LTo x (flP (md2 m f) f pc)) :=
  (follows_any x (md2 m f) so sc go gc co cc ao ac (some ⟨b, 0, none⟩) c' (h.mr.g g) f ko kc io ic mo mc (h.ri.g okIn g) (oF_is oF) hs pc).mono (fun _ _ h => h.lto)
theorem lw_big (h : LwI w W0 X m so sc go gc co cc ao ac f ko kc io ic mo mc b c') : Calls Try.prog 13 #[.agg #[.slice so m.sh.length sc, .slice go m.gl.length gc, .slice co m.co.length cc, .slice ao m.ca.length ac, .slice (some ⟨b, 0, none⟩) (m.fn.length + 1) c', .int .i64 m.main]] X fun e w' => BigTo (md2 m f) X w' e :=
  big_raw X (md2 m f) so sc go gc co cc ao ac (some ⟨b, 0, none⟩) c' h.mr.r5
end
end Go.Proofs.Ytpbeafgfhnlmbaa
