/- held of gantlinelaw13: what it asks of each frame. -/
import Derived.Test.YtnfeommkbocgpaaDoorFmPl2
namespace Go.Proofs.YtnfeommkbocgpaaDoor
open Go.RowKit Go.Maps Go.ChangeShapes Go.WideShapes Go.ChangeAt Go.Deep

theorem rtK_zero (sl : List Int) : ∀ k, rtK 0 sl k = []
  | 0 => rfl
  | k + 1 => by rw [rtK, rtK_zero sl k, rt1, if_neg (by simp)]; rfl
theorem RoI.row {w x : World} {l : List Int} {v : Value} (h : RoI w l v x) : ∃ ao c, v = .slice ao l.length c ∧ RowAt elI x ao l.length c l := by
  rcases h.1.2 with ⟨rfl, h0⟩ | ⟨g, cap, cur, rfl, hb, hg, h4, h5, _⟩
  · obtain rfl : l = [] := List.eq_nil_of_length_eq_zero h0
    exact ⟨none, 0, rfl, RowAt.nil x⟩
  · refine ⟨_, cap, rfl, rfl, by omega, (fun e => by cases e), Or.inr ⟨g, 0, rfl, (Array.getElem?_eq_some_iff.1 hg).1, fun i a hi => ⟨[.int .i64 a], rfl, fun q u hq => ?_⟩⟩⟩
    match q, hq with
    | 0, hq =>
      simp at hq
      subst hq
      have hi2 := (List.getElem?_eq_some_iff.1 hi).1
      have := World.ownsRow.cellAt h.1 i (by omega)
      rw [List.getElem?_map, hi] at this
      simpa [elI] using this
    | q + 1, hq => simp at hq
/-- Two tellings of the same frames. -/
theorem pf_eq {L L' : List Fr} (h : L'.map pf = L.map pf) {k : Nat} {f : Fr} (hf : L[k]? = some f) : ∃ f', L'[k]? = some f' ∧ f'.fn = f.fn ∧ f'.pc = f.pc ∧ f'.sl = f.sl := by
  have := congrArg (·[k]?) h
  simp only [List.getElem?_map, hf, Option.map_some] at this
  cases hq : L'[k]? with
  | none => rw [hq] at this; cases this
  | some f' =>
    rw [hq] at this
    have h2 : pf f' = pf f := Option.some.inj this
    unfold pf at h2
    simp only [Prod.mk.injEq] at h2
    exact ⟨f', rfl, h2.1, h2.2.1, h2.2.2⟩
theorem rk_row0 {w : World} {B : Nat} {v : Value} {L : List Fr} (h : RK w B v L) {f : Fr} (hf : f ∈ L) (hn : f.sl.length ≤ 1000) : RowAt elI w (some ⟨f.sb, 0, none⟩) f.sl.length f.sc f.sl := h.row hf (by unfold maxLen; omega)
/-- What is there of the k-th frame in both tellings, and of its function: the seven cells. -/
structure HdK (kb1 kb2 k j fb fo : Nat) (pc : Int) (sb1 sc1 sb2 sc2 N : Nat) (F : Fn) (ko : Option Addr) (kc : Nat) (io : Option Addr) (ic : Nat) (mo : Option Addr) (mc : Nat) (sl : List Int) (y : World) : Prop where
  a0 : y.cell? ⟨kb1, k * 3, none⟩ = some (.int .i64 (j : Int))
  a1 : y.cell? ⟨kb1, k * 3 + 1, none⟩ = some (.int .i64 pc)
  a2 : y.cell? ⟨kb1, k * 3 + 2, none⟩ = some (.slice (some ⟨sb1, 0, none⟩) N sc1)
  b0 : y.cell? ⟨kb2, k * 3, none⟩ = some (.int .i64 (j : Int))
  b1 : y.cell? ⟨kb2, k * 3 + 1, none⟩ = some (.int .i64 pc)
  b2 : y.cell? ⟨kb2, k * 3 + 2, none⟩ = some (.slice (some ⟨sb2, 0, none⟩) N sc2)
  c0 : y.cell? ⟨fb, fo + j * 7, none⟩ = some (.int .i64 F.p)
  c1 : y.cell? ⟨fb, fo + j * 7 + 1, none⟩ = some (.int .i64 F.c)
  c2 : y.cell? ⟨fb, fo + j * 7 + 2, none⟩ = some (.int .i64 F.s)
  c3 : y.cell? ⟨fb, fo + j * 7 + 3, none⟩ = some (.int .i64 F.r)
  c4 : y.cell? ⟨fb, fo + j * 7 + 4, none⟩ = some (.slice ko F.ks.length kc)
  c5 : y.cell? ⟨fb, fo + j * 7 + 5, none⟩ = some (.slice io F.is.length ic)
  c6 : y.cell? ⟨fb, fo + j * 7 + 6, none⟩ = some (.slice mo F.ms.length mc)
  s2 : ∀ t x, sl[t]? = some x → y.cell? ⟨sb2, t, none⟩ = some (.int .i64 x)
  nm : ∀ q, Calls Tryd.prog 29 #[.slice (some ⟨sb1, 0, none⟩) N sc1, .slice (some ⟨sb2, 0, none⟩) N sc2] (y.drewN q) fun e w' => e = .returned (.bool true) ∧ ∃ m, w' = (y.drewN q).drewN m
theorem hd_at {w x : World} {kb1 n1 c1 B1 kb2 n2 c2 B2 : Nat} {L1 L2 : List Fr} (h1 : RK x B1 (.slice (some ⟨kb1, 0, none⟩) n1 c1) L1) (h2 : RK x B2 (.slice (some ⟨kb2, 0, none⟩) n2 c2) L2) (hp : L1.map pf = L2.map pf) {fo : Option Addr} {fc : Nat} {m : Md} (r5 : RowAt elFn w fo m.fn.length fc m.fn) (g : G w x)
    {k : Nat} {f : Fr} (hf : L2[k]? = some f) {F : Fn} (hF : fmAt m f.fn = some F) (hs : f.sl.length ≤ 64) : ∃ (j fb foff sb1 sc1 : Nat) (ko : Option Addr) (kc : Nat) (io : Option Addr) (ic : Nat) (mo : Option Addr) (mc : Nat), f.fn = (j : Int) ∧ (j : Int) < (m.fn.length : Int) ∧ fo = some ⟨fb, foff, none⟩ ∧ RowAt elIn w io F.is.length ic F.is ∧ RowAt elU w mo F.ms.length mc F.ms ∧ ∀ y, G x y → HdK kb1 kb2 k j fb foff f.pc sb1 sc1 f.sb f.sc f.sl.length F ko kc io ic mo mc f.sl y := by
  obtain ⟨j, hj, hjf⟩ := fmAt_in hF
  have hjl := (List.getElem?_eq_some_iff.1 hjf).1
  obtain ⟨b, off, a, cs, rfl, ha, ecs, hcs⟩ := row_get r5 hjl
  obtain rfl : a = F := Option.some.inj (ha.symm.trans hjf)
  obtain ⟨ko, kc, io, ic, mo, mc, rfl, _, ri, rm⟩ := ecs
  obtain ⟨f1, hf1, e1, e2, e3⟩ := pf_eq hp hf
  have hm1 : f1 ∈ L1 := List.mem_of_getElem? hf1
  have hm2 : f ∈ L2 := List.mem_of_getElem? hf
  refine ⟨j, b, off, f1.sb, f1.sc, ko, kc, io, ic, mo, mc, hj, by omega, rfl, ri, rm, fun y gy => ?_⟩
  have q1 := (h1.g gy).get hf1
  have q2 := (h2.g gy).get hf
  rw [e1, e2, e3, hj] at q1
  rw [hj] at q2
  have hx := hcs y (g.trans gy)
  exact ⟨q1.1, q1.2.1, q1.2.2, q2.1, q2.2.1, q2.2.2, hx 0 _ rfl, hx 1 _ rfl, hx 2 _ rfl, hx 3 _ rfl, hx 4 _ rfl, hx 5 _ rfl, hx 6 _ rfl, fun t z hz => (h2.g gy).slot hm2 hz, fun q => by
    have r1 := rk_row0 ((h1.g gy).g (G.drewN y q)) hm1 (by rw [e3]; omega)
    have r2 := rk_row0 ((h2.g gy).g (G.drewN y q)) hm2 (by omega)
    rw [e3] at r1
    exact nums_eq _ f.sl _ _ _ _ _ r1 r2 (by omega)⟩
/-- The roots in the making, beside a box whose cell 6 is kept. -/
def RoB (w : World) (bx : Nat) (u : Value) (l : List Int) (v : Value) (x : World) : Prop := RoI w l v x ∧ x.cell? ⟨bx, 6, none⟩ = some u ∧ ∀ q, v.ownBlock = some q → q ≠ bx
theorem roB_app {w wr : World} {bx : Nat} {u : Value} {l : List Int} {v : Value} (h : RoB w bx u l v wr) (a : Int) (hn : l.length < 10000000) :
    ∃ v' w', (Builtin.append_ #[29, 29] 29 #[v, .slice (some ⟨wr.heap.size, 0, none⟩) 1 1]).run Tryd.prog (wr.alloc (.cells #[.int .i64 a] 2)) = .ok v' w' ∧ RoB w bx u (l ++ [a]) v' w' := by
  obtain ⟨i, hi, hz, hs, hb⟩ := info_parts info_int64
  have ga := G.alloc wr (.cells #[.int .i64 a] 2)
  have h2 : Ow64 (wr.alloc (.cells #[.int .i64 a] 2)) w.heap.size v l := own_kept h.1.1 (fun b _ hb => ga.block b hb)
  have hB := h.1.2.size
  obtain ⟨v', w', hrun, r1, r2, _, r4⟩ := run_append_own_at (P := Tryd.prog) (wr.alloc (.cells #[.int .i64 a] 2)) w.heap.size 29 29 2 i _ 1 8 Tryd.underlying29 hi hz hs hb rfl (by decide) v l.length _ h2 ⟨wr.heap.size, 0, none⟩ 1 1 [.int .i64 a] rfl (fun j u hj => by
      rw [Addr.add_lit, cell_of_row _ _ _ _ _ _ (heap_alloc_new wr _), Nat.zero_add]
      simpa using hj) (fun u hu => by simp at hu; subst hu; rfl) (by unfold maxLen; omega) (by omega) (Nat.le_trans hB ga.size)
  have hbo := own_blk h2
  have gB : Below w.heap.size wr w' := Below.grown (Below.mono ga hB) r2 (Nat.le_trans hB ga.size) (fun q hq => hbo q hq)
  have hc := ga.cell h.2.1
  have hlt := World.block_lt_of_cell? _ _ hc
  have hlt0 := World.block_lt_of_cell? _ _ h.2.1
  refine ⟨v', w', hrun, ⟨?_, ⟨gB.os.trans h.1.2.os, gB.tape.trans h.1.2.tape, gB.output.trans h.1.2.output, Nat.le_trans hB gB.size, fun b hb => (gB.block b hb).trans (h.1.2.block b hb)⟩⟩, ?_, fun q hq => ?_⟩
  · show w'.ownsRow w.heap.size 2 1 v' (l ++ [a]).length ((l ++ [a]).map (Value.int .i64))
    rw [List.length_append, List.map_append]
    exact r1
  · exact (World.cell?_of_block (a := ⟨bx, 6, none⟩) (r2.block bx hlt (fun e => h.2.2 bx e.symm rfl))).trans hc
  · rcases r4 with r4 | r4
    · rw [r4] at hq; exact h.2.2 q hq
    · rw [r4] at hq
      cases hq
      show (wr.alloc _).heap.size ≠ bx
      rw [World.size_alloc]
      have hlt0' : bx < wr.heap.size := hlt0
      omega
theorem RoB.g {w x y : World} {bx : Nat} {u : Value} {l : List Int} {v : Value} (h : RoB w bx u l v x) (g : G x y) : RoB w bx u l v y := ⟨h.1.g g, g.cell h.2.1, h.2.2⟩
theorem RoI.old {w x : World} {l : List Int} {v : Value} (h : RoI w l v x) : ∀ q, v.ownBlock = some q → q < x.heap.size := fun q hq => by
  rcases h.1.2 with ⟨rfl, _⟩ | ⟨g, cap, cur, rfl, hb, hg, _⟩
  · cases hq
  · cases hq
    exact (Array.getElem?_eq_some_iff.1 hg).1
/-- One slot more of a frame. -/
theorem rt_step {w x : World} {bx : Nat} {u : Value} {l0 : List Int} {M : Nat} {sl : List Int} {t : Nat} {v : Value} (h : RoB w bx u (l0 ++ rtK M sl t) v x) {y : Int} (hy : sl[t]? = some y) (hl : l0.length ≤ 1000000) (ht : t ≤ 64) :
    (M.testBit t = true ∧ (y != 0) = true ∧ ∃ v' x', (Builtin.append_ #[29, 29] 29 #[v, .slice (some ⟨x.heap.size, 0, none⟩) 1 1]).run Tryd.prog (x.alloc (.cells #[.int .i64 y] 2)) = .ok v' x' ∧ Hid (RoB w bx u (l0 ++ rtK M sl (t + 1)) v' x')) ∨ ((M.testBit t = false ∨ (y != 0) = false) ∧ Hid (RoB w bx u (l0 ++ rtK M sl (t + 1)) v x)) := by
  have hrt : rtK M sl (t + 1) = rtK M sl t ++ rt1 M t y := by rw [rtK, hy]; rfl
  have hl2 := rtK_len M sl t
  cases hb : M.testBit t
  · refine Or.inr ⟨Or.inl rfl, hide ?_⟩
    rw [hrt, rt1, if_neg (by rw [hb]; simp), List.append_nil]
    exact h
  · by_cases hy0 : y = 0
    · refine Or.inr ⟨Or.inr (by simp [hy0]), hide ?_⟩
      rw [hrt, rt1, if_neg (by simp [hy0]), List.append_nil]
      exact h
    · obtain ⟨v', x', q1, q2⟩ := roB_app h y (by rw [List.length_append]; omega)
      refine Or.inl ⟨rfl, by simpa using hy0, v', x', q1, hide ?_⟩
      rw [hrt, rt1, if_pos ⟨hb, hy0⟩, ← List.append_assoc]
      exact q2
end Go.Proofs.YtnfeommkbocgpaaDoor
