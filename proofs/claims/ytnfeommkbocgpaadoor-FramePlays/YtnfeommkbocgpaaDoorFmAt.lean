/- At, Point of package frame. -/
import Derived.Test.YtnfeommkbocgpaaDoorFmTop
namespace Go.Proofs.YtnfeommkbocgpaaDoor
open Go.RowKit Go.Maps Go.ChangeShapes Go.WideShapes Go.ChangeAt Go.Deep

/-- The instruction where a frame stands. -/
def noIm : In := ⟨0, 0, 0, 0, 0⟩
def atP (m : Md) (f : Fr) : Option In := if f.pc < 0 then none else ((fmAt m f.fn).getD noFm).is[f.pc.toNat]?
abbrev agIm (i : In) : Value := .agg #[.int .i64 i.op, .int .i64 i.a, .int .i64 i.b, .int .i64 i.c, .int .i64 i.d]
theorem set5_G {w x : World} (b : Nat) (hb : w.heap.size ≤ b) (g : G w x) (v0 v1 v2 v3 v4 : Value) : G w (((((x.setCell ⟨b, 0, none⟩ v0).setCell ⟨b, 1, none⟩ v1).setCell ⟨b, 2, none⟩ v2).setCell ⟨b, 3, none⟩ v3).setCell ⟨b, 4, none⟩ v4) :=
  setN_G (w := w) b hb [v0, v1, v2, v3, v4] x 0 g
/-- Behind funcOf: where the function's box lies, the answer's box still nought. -/
structure AtM (w wx : World) (bx : Nat) (io : Option Addr) (ic N : Nat) (is : List In) : Prop where
  g : G w wx
  c5 : wx.cell? ⟨bx, 5, none⟩ = some (.slice io N ic)
  r : ∀ j, j < 5 → wx.cell? ⟨w.heap.size + 1, j, none⟩ = some (.int .i64 0)
  fz : ∀ j, wx.frozen? ⟨w.heap.size + 1, j, none⟩ = false
  row : RowAt elIn w io N ic is
abbrev atX (w : World) (o : Obj) (k : Nat) : World := ((w.alloc o).alloc (.cells #[.int .i64 0, .int .i64 0, .int .i64 0, .int .i64 0, .int .i64 0] 60)).drewN k
abbrev zFu : Obj := .cells #[.int .i64 0, .int .i64 0, .int .i64 0, .int .i64 0, .slice none 0 0, .slice none 0 0, .slice none 0 0] 43
theorem atX_g (w : World) (o : Obj) (k : Nat) : G w (atX w o k) := ((G.alloc _ _).more _).trans (G.drewN _ k)
theorem atX_size (w : World) (o : Obj) (k : Nat) : (atX w o k).heap.size = w.heap.size + 2 := by show ((w.alloc o).alloc _).heap.size = _; rw [World.size_alloc, World.size_alloc]
theorem atX_blk (w : World) (o : Obj) (k : Nat) : (atX w o k).heap[w.heap.size + 1]? = some (.cells #[.int .i64 0, .int .i64 0, .int .i64 0, .int .i64 0, .int .i64 0] 60) := by
  have := heap_alloc_new (w.alloc o) (.cells #[.int .i64 0, .int .i64 0, .int .i64 0, .int .i64 0, .int .i64 0] 60)
  rw [World.size_alloc] at this
  exact this
theorem atM_blk {w wx : World} (h : wx.heap[w.heap.size + 1]? = some (.cells #[.int .i64 0, .int .i64 0, .int .i64 0, .int .i64 0, .int .i64 0] 60)) : (∀ j, j < 5 → wx.cell? ⟨w.heap.size + 1, j, none⟩ = some (.int .i64 0)) ∧ ∀ j, wx.frozen? ⟨w.heap.size + 1, j, none⟩ = false := by
  refine ⟨fun j hj => ?_, fun j => frozen_of_row _ _ _ _ _ h⟩
  rw [cell_of_row _ _ _ _ _ _ h]
  match j, hj with
  | 0, _ => rfl
  | 1, _ => rfl
  | 2, _ => rfl
  | 3, _ => rfl
  | 4, _ => rfl
theorem at_w1 {w w2 : World} {o : Obj} {k : Nat} (g : G (atX w o k) w2) {io : Option Addr} {ic N : Nat} {is : List In} (hr : RowAt elIn w io N ic is) (a b c d e f : Value) : AtM w (w2.alloc (.cells #[a, b, c, d, e, .slice io N ic, f] 43)) w2.heap.size io ic N is := by
  have gw := (atX_g w o k).trans g
  have hb := atM_blk (w := w) (wx := w2.alloc (.cells #[a, b, c, d, e, .slice io N ic, f] 43)) (((G.alloc w2 _).block _ (by have := g.size; rw [atX_size] at this; omega)).trans ((g.block _ (by rw [atX_size]; omega)).trans (atX_blk w o k)))
  refine ⟨gw.more _, ?_, hb.1, hb.2, hr⟩
  rw [cell_of_row _ _ _ _ _ _ (heap_alloc_new w2 _)]
  rfl
theorem at_z {w w2 : World} {o : Obj} {k : Nat} (g : G ((atX w o k).alloc zFu) w2) : w2.heap[w.heap.size + 1 + 1]? = some zFu := by
  have := heap_alloc_new (atX w o k) zFu
  rw [atX_size] at this
  exact (g.block _ (by rw [World.size_alloc, atX_size]; omega)).trans this
theorem at_w2 {w w2 : World} {o : Obj} {k : Nat} (g : G ((atX w o k).alloc zFu) w2) {io : Option Addr} {ic N : Nat} {is : List In} (hr : RowAt elIn w io N ic is) (a b c d e f : Value) :
    AtM w (((((((w2.setCell ⟨w.heap.size + 1 + 1, 0, none⟩ a).setCell ⟨w.heap.size + 1 + 1, 1, none⟩ b).setCell ⟨w.heap.size + 1 + 1, 2, none⟩ c).setCell ⟨w.heap.size + 1 + 1, 3, none⟩ d).setCell ⟨w.heap.size + 1 + 1, 4, none⟩ e).setCell ⟨w.heap.size + 1 + 1, 5, none⟩ (.slice io N ic)).setCell ⟨w.heap.size + 1 + 1, 6, none⟩ f) (w.heap.size + 1 + 1) io ic N is := by
  have gw := ((atX_g w o k).more zFu).trans g
  have hne : w.heap.size + 1 ≠ w.heap.size + 1 + 1 := by omega
  have hz := at_z g
  have hb := atM_blk (w := w) (wx := ((((((w2.setCell ⟨w.heap.size + 1 + 1, 0, none⟩ a).setCell ⟨w.heap.size + 1 + 1, 1, none⟩ b).setCell ⟨w.heap.size + 1 + 1, 2, none⟩ c).setCell ⟨w.heap.size + 1 + 1, 3, none⟩ d).setCell ⟨w.heap.size + 1 + 1, 4, none⟩ e).setCell ⟨w.heap.size + 1 + 1, 5, none⟩ (.slice io N ic)).setCell ⟨w.heap.size + 1 + 1, 6, none⟩ f) (by
    rw [heap_set _ _ hne, heap_set _ _ hne, heap_set _ _ hne, heap_set _ _ hne, heap_set _ _ hne, heap_set _ _ hne, heap_set _ _ hne]
    exact (g.block _ (by rw [World.size_alloc, atX_size]; omega)).trans (((G.alloc _ _).block _ (by rw [atX_size]; omega)).trans (atX_blk w o k)))
  refine ⟨g_fn (w.heap.size + 1 + 1) (by omega) gw _ _ _ _ _ _ _, ?_, hb.1, hb.2, hr⟩
  · rw [cell_other _ (Or.inr (by decide))]
    refine cell_same _ (u := .slice none 0 0) ?_
    rw [cell_other _ (Or.inr (by decide)), cell_other _ (Or.inr (by decide)), cell_other _ (Or.inr (by decide)), cell_other _ (Or.inr (by decide)), cell_other _ (Or.inr (by decide)), cell_of_row _ _ _ _ _ _ hz]
    rfl
set_option maxHeartbeats 2000000 in
theorem at_core (w : World) (s kb q : Nat) (mv : Value) (fn pc : Int) (F : Fn) (ok : Bool) (o : Option In)
    (TP : Hid (∀ x, G w x → Calls Tryd.prog 28 #[.pointer (some ⟨s, 0, none⟩)] x fun e w' => e = .returned (.pointer (some ⟨kb, q, none⟩)) ∧ ∃ k, w' = x.drewN k))
    (d0 : w.cell? ⟨kb, q, none⟩ = some (.int .i64 fn)) (d1 : w.cell? ⟨kb, q + 1, none⟩ = some (.int .i64 pc))
    (hmv : ∃ (v0 v1 v2 v3 : Option Addr × Nat × Nat) (so : Option Addr) (sl sc : Nat) (n : Int), mv = .agg #[.slice v0.1 v0.2.1 v0.2.2, .slice v1.1 v1.2.1 v1.2.2, .slice v2.1 v2.2.1 v2.2.2, .slice v3.1 v3.2.1 v3.2.2, .slice so sl sc, .int .i64 n])
    (CF : Hid (∀ x, G w x → Calls Tryd.prog 25 #[mv, .int .i64 fn] x fun e w' => ∃ (ko : Option Addr) (kc : Nat) (io : Option Addr) (ic : Nat) (mo : Option Addr) (mc : Nat), e = .returned (.tuple #[agF F ko kc io ic mo mc, .bool ok]) ∧ RowAt elIn w io F.is.length ic F.is ∧ G x w'))
    (ho : o = if pc < 0 then none else F.is[pc.toNat]?) :
    Calls Tryd.prog 22 #[.pointer (some ⟨s, 0, none⟩), mv] w fun e w' => e = .returned (.tuple #[agIm (o.getD noIm), .bool o.isSome]) ∧ G w w' := by
  obtain ⟨⟨v0a, v0b, v0c⟩, ⟨v1a, v1b, v1c⟩, ⟨v2a, v2b, v2c⟩, ⟨v3a, v3b, v3c⟩, so, sl, sc, n, rfl⟩ := hmv
  simp only at CF ⊢
  obtain ⟨fp, fc, fs, fr, ks, is, ms⟩ := F
  unfold agF at CF
  simp only at CF ho
  have hkb : kb < w.heap.size := World.block_lt_of_cell? w _ d0
  have NO : Hid (o = none → ∀ w', G w w' → (Ending.returned (.tuple #[.agg #[.int .i64 0, .int .i64 0, .int .i64 0, .int .i64 0, .int .i64 0], .bool false]) = .returned (.tuple #[agIm (o.getD noIm), .bool o.isSome]) ∧ G w w')) := hide fun e w' g => by rw [e]; exact ⟨rfl, g⟩
  have YS : Hid (∀ i, o = some i → ∀ w', G w w' → (Ending.returned (.tuple #[agIm i, .bool true]) = .returned (.tuple #[agIm (o.getD noIm), .bool o.isSome]) ∧ G w w')) := hide fun i e w' g => by rw [e]; exact ⟨rfl, g⟩
  obtain ⟨N, hN⟩ : ∃ N, N = is.length := ⟨_, rfl⟩
  have H3 : Hid (pc < 0 ∨ (N : Int) ≤ pc → o = none) := hide fun h => by
    rw [ho]
    split
    · rfl
    · exact List.getElem?_eq_none (by omega)
  have H4 : Hid (¬ pc < 0 → ¬ (N : Int) ≤ pc → ∃ (j : Nat) (i : In), pc = j ∧ is[j]? = some i ∧ o = some i ∧ (j : Int) < (N : Int)) := hide fun h1 h2 => by
    have hj : pc.toNat < is.length := by omega
    refine ⟨pc.toNat, is[pc.toNat], by omega, List.getElem?_eq_getElem hj, ?_, by omega⟩
    rw [ho, if_neg h1, List.getElem?_eq_getElem hj]
  rw [← hN] at CF
  clear ho hN
  have CF1 : Hid (∀ (o : Obj) (k : Nat), Calls Tryd.prog 25 #[.agg #[.slice v0a v0b v0c, .slice v1a v1b v1c, .slice v2a v2b v2c, .slice v3a v3b v3c, .slice so sl sc, .int .i64 n], .int .i64 fn] (atX w o k) fun e w' => ∃ (ko : Option Addr) (kc : Nat) (io : Option Addr) (ic : Nat) (mo : Option Addr) (mc : Nat), e = .returned (.tuple #[.agg #[.int .i64 fp, .int .i64 fc, .int .i64 fs, .int .i64 fr, .slice ko ks.length kc, .slice io N ic, .slice mo ms.length mc], .bool ok]) ∧
      Hid (AtM w (w'.alloc (.cells #[.int .i64 fp, .int .i64 fc, .int .i64 fs, .int .i64 fr, .slice ko ks.length kc, .slice io N ic, .slice mo ms.length mc] 43)) w'.heap.size io ic N is)) := hide fun o k => (unhide CF _ (atX_g w o k)).mono (by
    rintro e w' ⟨ko, kc, io, ic, mo, mc, rfl, hr, g2⟩
    exact ⟨ko, kc, io, ic, mo, mc, rfl, hide (at_w1 g2 hr _ _ _ _ _ _)⟩)
  have CF2 : Hid (∀ (o : Obj) (k : Nat), Calls Tryd.prog 25 #[.agg #[.slice v0a v0b v0c, .slice v1a v1b v1c, .slice v2a v2b v2c, .slice v3a v3b v3c, .slice so sl sc, .int .i64 n], .int .i64 fn] ((atX w o k).alloc zFu) fun e w' => ∃ (ko : Option Addr) (kc : Nat) (io : Option Addr) (ic : Nat) (mo : Option Addr) (mc : Nat), e = .returned (.tuple #[.agg #[.int .i64 fp, .int .i64 fc, .int .i64 fs, .int .i64 fr, .slice ko ks.length kc, .slice io N ic, .slice mo ms.length mc], .bool ok]) ∧
      w'.cell? ⟨w.heap.size + 1 + 1, 0, none⟩ = some (.int .i64 0) ∧ w'.cell? ⟨w.heap.size + 1 + 1, 1, none⟩ = some (.int .i64 0) ∧ w'.cell? ⟨w.heap.size + 1 + 1, 2, none⟩ = some (.int .i64 0) ∧ w'.cell? ⟨w.heap.size + 1 + 1, 3, none⟩ = some (.int .i64 0) ∧ w'.cell? ⟨w.heap.size + 1 + 1, 4, none⟩ = some (.slice none 0 0) ∧ w'.cell? ⟨w.heap.size + 1 + 1, 5, none⟩ = some (.slice none 0 0) ∧ w'.cell? ⟨w.heap.size + 1 + 1, 6, none⟩ = some (.slice none 0 0) ∧
      w'.frozen? ⟨w.heap.size + 1 + 1, 0, none⟩ = false ∧ w'.frozen? ⟨w.heap.size + 1 + 1, 1, none⟩ = false ∧ w'.frozen? ⟨w.heap.size + 1 + 1, 2, none⟩ = false ∧ w'.frozen? ⟨w.heap.size + 1 + 1, 3, none⟩ = false ∧ w'.frozen? ⟨w.heap.size + 1 + 1, 4, none⟩ = false ∧ w'.frozen? ⟨w.heap.size + 1 + 1, 5, none⟩ = false ∧ w'.frozen? ⟨w.heap.size + 1 + 1, 6, none⟩ = false ∧
      Hid (AtM w (((((((w'.setCell ⟨w.heap.size + 1 + 1, 0, none⟩ (.int .i64 fp)).setCell ⟨w.heap.size + 1 + 1, 1, none⟩ (.int .i64 fc)).setCell ⟨w.heap.size + 1 + 1, 2, none⟩ (.int .i64 fs)).setCell ⟨w.heap.size + 1 + 1, 3, none⟩ (.int .i64 fr)).setCell ⟨w.heap.size + 1 + 1, 4, none⟩ (.slice ko ks.length kc)).setCell ⟨w.heap.size + 1 + 1, 5, none⟩ (.slice io N ic)).setCell ⟨w.heap.size + 1 + 1, 6, none⟩ (.slice mo ms.length mc)) (w.heap.size + 1 + 1) io ic N is)) := hide fun o k => (unhide CF _ ((atX_g w o k).more zFu)).mono (by
    rintro e w' ⟨ko, kc, io, ic, mo, mc, rfl, hr, g2⟩
    have hz := at_z g2
    exact ⟨ko, kc, io, ic, mo, mc, rfl, cell_of_row _ _ _ _ _ _ hz, cell_of_row _ _ _ _ _ _ hz, cell_of_row _ _ _ _ _ _ hz, cell_of_row _ _ _ _ _ _ hz, cell_of_row _ _ _ _ _ _ hz, cell_of_row _ _ _ _ _ _ hz, cell_of_row _ _ _ _ _ _ hz, frozen_of_row _ _ _ _ _ hz, frozen_of_row _ _ _ _ _ hz, frozen_of_row _ _ _ _ _ hz, frozen_of_row _ _ _ _ _ hz, frozen_of_row _ _ _ _ _ hz, frozen_of_row _ _ _ _ _ hz, frozen_of_row _ _ _ _ _ hz, hide (at_w2 g2 hr _ _ _ _ _ _)⟩)
  clear CF
  have PC : Hid (∀ x, G w x → x.cell? ⟨kb, q + 1, none⟩ = some (.int .i64 pc) ∧ kb < x.heap.size) := hide fun x g => ⟨g.cell d1, World.block_lt_of_cell? x _ (g.cell d1)⟩
  go_enter Tryd.func22, Tryd.ntmps22
  go_wp2_with fail
  refine (unhide TP _ ((G.alloc _ _).more _)).mono ?_
  rintro e w1 ⟨rfl, k, rfl⟩
  clear TP
  have dZ : ∀ o1 o2 j o3, ((((w.alloc o1).alloc o2).drewN j).alloc o3).cell? ⟨kb, q, none⟩ = some (.int .i64 fn) := fun o1 o2 j o3 => ((((G.alloc w o1).more o2).trans (G.drewN _ j)).more o3).cell d0
  go_upto_region 4 with fail
  go_cut [7] (fun p wx => ∃ bx io ic, p = .pointer (some ⟨bx, 0, none⟩) ∧ Hid (AtM w wx bx io ic N is))
  case first =>
    go_region_with (first
      | (go_at_call 25; refine (unhide CF1 _ _).mono ?_; rintro e w2 ⟨ko, kc, io, ic, mo, mc, rfl, Y⟩)
      | (go_at_call 25; refine (unhide CF2 _ _).mono ?_; rintro e w2 ⟨ko, kc, io, ic, mo, mc, rfl, z0, z1, z2, z3, z4, z5, z6, f0, f1, f2, f3, f4, f5, f6, Y⟩))
    all_goals
      go_wp2_with fail
      go_meet
      case rel => exact ⟨_, _, _, rfl, Y⟩
  case rest =>
    obtain ⟨bx, io, ic, rfl, Y⟩ := hcut
    clear CF1 CF2 d0 d1 hkb dZ
    obtain ⟨y1, y2⟩ := unhide PC wc (unhide Y).g
    have y5 := (unhide Y).c5
    have r0 := (unhide Y).r 0 (by decide)
    have r1 := (unhide Y).r 1 (by decide)
    have r2 := (unhide Y).r 2 (by decide)
    have r3 := (unhide Y).r 3 (by decide)
    have r4 := (unhide Y).r 4 (by decide)
    have f0 := (unhide Y).fz 0
    have f1 := (unhide Y).fz 1
    have f2 := (unhide Y).fz 2
    have f3 := (unhide Y).fz 3
    have f4 := (unhide Y).fz 4
    have KG : Hid (∀ k v0 v1 v2 v3 v4, G w ((((((wc.drewN k).setCell ⟨w.heap.size + 1, 0, none⟩ v0).setCell ⟨w.heap.size + 1, 1, none⟩ v1).setCell ⟨w.heap.size + 1, 2, none⟩ v2).setCell ⟨w.heap.size + 1, 3, none⟩ v3).setCell ⟨w.heap.size + 1, 4, none⟩ v4)) := hide fun k v0 v1 v2 v3 v4 => set5_G (w.heap.size + 1) (by omega) ((unhide Y).g.trans (G.drewN _ k)) _ _ _ _ _
    by_cases h1 : pc < 0
    · have E := hide (unhide NO (unhide H3 (Or.inl h1)))
      clear H3 H4 NO YS PC Y
      go_wp2_with fail
      go_quiet (fail)
      go_wp2_with fail
      refine bodyPost_ret (by simp [results, Tryd.results22, go_sem, r0, r1, r2, r3, r4]; try rfl) rfl ?_
      exact unhide E _ (unhide KG _ _ _ _ _ _)
    · by_cases h2 : (N : Int) ≤ pc
      · have E := hide (unhide NO (unhide H3 (Or.inr h2)))
        clear H3 H4 NO YS PC Y
        go_wp2_with fail
        go_quiet (fail)
        go_wp2_with fail
        refine bodyPost_ret (by simp [results, Tryd.results22, go_sem, r0, r1, r2, r3, r4]; try rfl) rfl ?_
        exact unhide E _ (unhide KG _ _ _ _ _ _)
      · obtain ⟨j, i, rfl, hi, ho, hj⟩ := unhide H4 (by omega) (by omega)
        have E := hide (unhide YS i ho)
        obtain ⟨b, off, a, cs, rfl, ha, ecs, hcs⟩ := row_get (unhide Y).row (show j < N by omega)
        obtain rfl : a = i := Option.some.inj (ha.symm.trans hi)
        have ecs : cs = [.int .i64 a.op, .int .i64 a.a, .int .i64 a.b, .int .i64 a.c, .int .i64 a.d] := ecs
        subst ecs
        have hx := hcs wc (unhide Y).g
        have c0 := hx 0 _ rfl
        have c1 := hx 1 _ rfl
        have c2 := hx 2 _ rfl
        have c3 := hx 3 _ rfl
        have c4 := hx 4 _ rfl
        change wc.cell? ⟨b, off + j * 5, none⟩ = _ at c0
        change wc.cell? ⟨b, off + j * 5 + 1, none⟩ = _ at c1
        change wc.cell? ⟨b, off + j * 5 + 2, none⟩ = _ at c2
        change wc.cell? ⟨b, off + j * 5 + 3, none⟩ = _ at c3
        change wc.cell? ⟨b, off + j * 5 + 4, none⟩ = _ at c4
        obtain ⟨p0, p1, p2, p3, p4⟩ := a
        simp only at c0 c1 c2 c3 c4
        clear H3 H4 NO YS PC Y ho ha hi hcs hx
        go_wp2_with fail
        go_quiet (fail)
        go_wp2_with fail
        go_region
        go_wp2_with fail
        refine bodyPost_ret (by simp [results, Tryd.results22, go_sem, r0, r1, r2, r3, r4]; try rfl) rfl ?_
        exact unhide E _ (unhide KG _ _ _ _ _ _)
theorem mod_form {w : World} {mv : Value} {m : Md} (h : ModAt w mv m) : ∃ (v0 v1 v2 v3 : Option Addr × Nat × Nat) (so : Option Addr) (sl sc : Nat) (n : Int), mv = .agg #[.slice v0.1 v0.2.1 v0.2.2, .slice v1.1 v1.2.1 v1.2.2, .slice v2.1 v2.2.1 v2.2.2, .slice v3.1 v3.2.1 v3.2.2, .slice so sl sc, .int .i64 n] := by
  obtain ⟨so, sc, go, gc, co, cc, mo_, mc_, fo, fc, rfl, _⟩ := h
  exact ⟨⟨so, _, sc⟩, ⟨go, _, gc⟩, ⟨co, _, cc⟩, ⟨mo_, _, mc_⟩, fo, _, fc, m.main, rfl⟩
theorem s_at {w : World} {B s : Nat} {v : Value} {L : List Fr} {f : Fr} (h : SK w B s v (L ++ [f])) (hl : L.length ≤ 1000) {mv : Value} {m : Md} (hm : ModAt w mv m) :
    Calls Tryd.prog 22 #[.pointer (some ⟨s, 0, none⟩), mv] w fun e w' => e = .returned (.tuple #[agIm ((atP m f).getD noIm), .bool (atP m f).isSome]) ∧ G w w' := by
  obtain ⟨kb, c, rfl, _⟩ := h.ntop hl
  have hg := h.rk.get (last_get L f)
  refine at_core w s kb (L.length * 3) mv f.fn f.pc ((fmAt m f.fn).getD noFm) (fmAt m f.fn).isSome (atP m f) (hide fun x g => ?_) hg.1 hg.2.1 (mod_form hm) (hide fun x g => ?_) rfl
  · obtain ⟨kb', c', e, T⟩ := (h.g g).ntop hl
    cases e
    exact T
  · refine (fu_any w x g mv m hm f.fn).mono ?_
    rintro e w' ⟨ko, kc, io, ic, mo, mc, rfl, h1, _, h2⟩
    exact ⟨ko, kc, io, ic, mo, mc, rfl, h1, h2⟩
set_option maxHeartbeats 1000000 in
theorem s_at_none {w : World} {B s : Nat} {v : Value} (h : SK w B s v []) {mv : Value} {m : Md} (hm : ModAt w mv m) :
    Calls Tryd.prog 22 #[.pointer (some ⟨s, 0, none⟩), mv] w fun e w' => e = .returned (.tuple #[agIm noIm, .bool false]) ∧ G w w' := by
  have TP : Hid (∀ x, G w x → Calls Tryd.prog 28 #[.pointer (some ⟨s, 0, none⟩)] x fun e w' => e = .returned (.pointer none) ∧ w' = x) := hide fun x g => (h.g g).notop
  obtain ⟨so, sc, go, gc, co, cc, mo_, mc_, fo, fc, rfl, _⟩ := hm
  clear h
  unfold agIm noIm
  go_enter Tryd.func22, Tryd.ntmps22
  go_wp2_with fail
  refine (unhide TP _ ((G.alloc _ _).more _)).mono ?_
  rintro e w1 ⟨rfl, rfl⟩
  clear TP
  go_wp2_with fail
  refine bodyPost_ret (by simp [results, Tryd.results22, go_sem]; try rfl) rfl ?_
  refine ⟨rfl, ?_⟩
  first | exact (G.alloc _ _).more _ | exact set5_G (w.heap.size + 1) (by omega) ((G.alloc _ _).more _) _ _ _ _ _
/-- Is it a point? -/
def ptP (o : Option In) : Bool := match o with
  | none => false
  | some i => (rwOf i.op).pt
set_option maxHeartbeats 1000000 in
theorem point_core (w : World) (s : Nat) (mv : Value) (o : Option In) (hT : RowsAt w)
    (hmv : ∃ (v0 v1 v2 v3 : Option Addr × Nat × Nat) (so : Option Addr) (sl sc : Nat) (n : Int), mv = .agg #[.slice v0.1 v0.2.1 v0.2.2, .slice v1.1 v1.2.1 v1.2.2, .slice v2.1 v2.2.1 v2.2.2, .slice v3.1 v3.2.1 v3.2.2, .slice so sl sc, .int .i64 n])
    (CA : Hid (∀ x, G w x → Calls Tryd.prog 22 #[.pointer (some ⟨s, 0, none⟩), mv] x fun e w' => e = .returned (.tuple #[agIm (o.getD noIm), .bool o.isSome]) ∧ G x w')) :
    Calls Tryd.prog 24 #[.pointer (some ⟨s, 0, none⟩), mv] w fun e w' => e = .returned (.bool (ptP o)) ∧ G w w' := by
  have CP : Hid (∀ x op, G w x → Calls Tryd.prog 31 #[.int .i64 op] x fun e w' => e = .returned (.bool (rwOf op).pt) ∧ G x w') := hide fun x op g => point_any x op (hT.g g)
  obtain ⟨⟨v0a, v0b, v0c⟩, ⟨v1a, v1b, v1c⟩, ⟨v2a, v2b, v2c⟩, ⟨v3a, v3b, v3c⟩, so, sl, sc, n, rfl⟩ := hmv
  simp only at CA ⊢
  clear hT
  cases o with
  | none =>
    unfold agIm noIm at CA
    simp only [Option.getD_none, Option.isSome_none] at CA
    unfold ptP
    simp only
    go_enter Tryd.func24, Tryd.ntmps24
    go_wp2_with fail
    refine (unhide CA _ (G.alloc _ _)).mono ?_
    rintro e w1 ⟨rfl, g1⟩
    have G1 := hide ((G.alloc w _).trans g1)
    clear CA CP g1
    go_wp2_with fail
    go_ret
    exact ⟨rfl, (unhide G1).more _⟩
  | some i =>
    obtain ⟨p0, p1, p2, p3, p4⟩ := i
    unfold agIm at CA
    simp only [Option.getD_some, Option.isSome_some] at CA
    unfold ptP
    simp only
    generalize hb : (rwOf p0).pt = pt
    have CQ : Hid (∀ x, G w x → Calls Tryd.prog 31 #[.int .i64 p0] x fun e w' => e = .returned (.bool pt) ∧ G x w') := hide fun x g => by rw [← hb]; exact unhide CP x p0 g
    clear CP hb
    go_enter Tryd.func24, Tryd.ntmps24
    go_wp2_with fail
    refine (unhide CA _ (G.alloc _ _)).mono ?_
    rintro e w1 ⟨rfl, g1⟩
    have G1 := hide ((G.alloc w _).trans g1)
    clear CA g1
    go_wp2_with fail
    refine (unhide CQ _ ((unhide G1).more _)).mono ?_
    rintro e w2 ⟨rfl, g2⟩
    have G2 := hide (((unhide G1).more _).trans g2)
    clear CQ g2 G1
    go_wp2_with fail
    go_ret
    exact ⟨rfl, unhide G2⟩
theorem s_point {w : World} {B s : Nat} {v : Value} {L : List Fr} {f : Fr} (h : SK w B s v (L ++ [f])) (hl : L.length ≤ 1000) {mv : Value} {m : Md} (hm : ModAt w mv m) (hT : RowsAt w) :
    Calls Tryd.prog 24 #[.pointer (some ⟨s, 0, none⟩), mv] w fun e w' => e = .returned (.bool (ptP (atP m f))) ∧ G w w' :=
  point_core w s mv (atP m f) hT (mod_form hm) (hide fun _ g => s_at (h.g g) hl (hm.g g))
end Go.Proofs.YtnfeommkbocgpaaDoor
