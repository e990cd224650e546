/- The program's parser: what a call that tells a node leaves; deeper, until, list. -/
import Derived.Test.YtablincnlfbjnabDoorPaN
namespace Go.Proofs.YtablincnlfbjnabDoor
set_option maxRecDepth 100000
open Go.RowKit Go.Maps Go.ChangeShapes Go.WideShapes Go.ChangeAt Go.Deep

/-- What a call that tells a node leaves. -/
def NTo (rb wb wc : Nat) (ws : List Wd) (r : Tt × PS) (y : World) (e : Ending) (w' : World) : Prop := ∃ kv, e = .returned (.agg (ndT r.1.k r.1.x r.1.a kv)) ∧ OwK w' y.heap.size kv r.1.ks ∧ RSt rb wb wc ws r.2 w' ∧ Gt rb y w'
/-- .. a row of nodes. -/
def LTo (rb wb wc : Nat) (ws : List Wd) (r : List Tt × PS) (y : World) (e : Ending) (w' : World) : Prop := ∃ kv, e = .returned kv ∧ OwK w' y.heap.size kv r.1 ∧ RSt rb wb wc ws r.2 w' ∧ Gt rb y w'
/-- F tells what P tells, from s on. -/
def Ok (rb wb wc : Nat) (ws : List Wd) (F : Nat) (P : PS → Tt × PS) (s : PS) : Prop := ∀ y, RSt rb wb wc ws s y → Calls Tryd.prog F #[.pointer (some ⟨rb, 0, none⟩)] y (NTo rb wb wc ws (P s) y)
/-- F can be entered. -/
abbrev Ent (F : Nat) : Prop := ∀ (args : Array Value) (w : World), (callFunc F args).run Tryd.prog w = .ok (.enter F args) w
abbrev zBox : Array Value := #[.string ⟨#[]⟩, .string ⟨#[]⟩, .int .i64 0, .slice none 0 0]
/-- A box of a node. -/
def BoxT (b : Nat) (k x : List UInt8) (a : Int) (kv : Value) (w : World) : Prop := w.heap[b]? = some (.cells (ndT k x a kv) 27 (0, 0))
section
variable {b : Nat} {k x : List UInt8} {a : Int} {kv : Value} {w : World}
theorem BoxT.new (w : World) (k x : List UInt8) (a : Int) (kv : Value) : BoxT w.heap.size k x a kv (w.alloc (.cells (ndT k x a kv) 27)) := heap_alloc_new w _
theorem BoxT.zero (w : World) : BoxT w.heap.size [] [] 0 (.slice none 0 0) (w.alloc (.cells zBox 27)) := heap_alloc_new w _
theorem BoxT.lt (h : BoxT b k x a kv w) : b < w.heap.size := by
  rcases Nat.lt_or_ge b w.heap.size with h' | h'
  · exact h'
  · unfold BoxT at h; rw [Array.getElem?_eq_none h'] at h; cases h
theorem BoxT.keep {S : Nat → Prop} {w' : World} (h : BoxT b k x a kv w) (g : Gs S w w') (hn : ¬ S b) : BoxT b k x a kv w' := (g.block b h.lt hn).trans h
theorem BoxT.g {w' : World} (h : BoxT b k x a kv w) (g : G w w') : BoxT b k x a kv w' := (g.block b h.lt).trans h
theorem BoxT.c (h : BoxT b k x a kv w) : w.cell? ⟨b, 0, none⟩ = some (.string ⟨k.toArray⟩) ∧ w.cell? ⟨b, 1, none⟩ = some (.string ⟨x.toArray⟩) ∧ w.cell? ⟨b, 2, none⟩ = some (.int .i64 a) ∧ w.cell? ⟨b, 3, none⟩ = some kv :=
  ⟨by rw [Lib.cell_of_heap h]; rfl, by rw [Lib.cell_of_heap h]; rfl, by rw [Lib.cell_of_heap h]; rfl, by rw [Lib.cell_of_heap h]; rfl⟩
theorem BoxT.f (h : BoxT b k x a kv w) (j : Nat) : w.frozen? ⟨b, j, none⟩ = false := Lib.frozen_of_heap h j
theorem BoxT.ff (h : BoxT b k x a kv w) : w.frozen? ⟨b, 0, none⟩ = false ∧ w.frozen? ⟨b, 1, none⟩ = false ∧ w.frozen? ⟨b, 2, none⟩ = false ∧ w.frozen? ⟨b, 3, none⟩ = false := ⟨h.f 0, h.f 1, h.f 2, h.f 3⟩
theorem BoxT.set1 (h : BoxT b k x a kv w) (x' : List UInt8) : BoxT b k x' a kv (w.setCell ⟨b, 1, none⟩ (.string ⟨x'.toArray⟩)) := by
  unfold BoxT at h ⊢
  simp [World.setCell, Array.getElem?_modify, h, ndT]
theorem BoxT.set2 (h : BoxT b k x a kv w) (a' : Int) : BoxT b k x a' kv (w.setCell ⟨b, 2, none⟩ (.int .i64 a')) := by
  unfold BoxT at h ⊢
  simp [World.setCell, Array.getElem?_modify, h, ndT]
theorem BoxT.set3 (h : BoxT b k x a kv w) (kv' : Value) : BoxT b k x a kv' (w.setCell ⟨b, 3, none⟩ kv') := by
  unfold BoxT at h ⊢
  simp [World.setCell, Array.getElem?_modify, h, ndT]
end
abbrev put4 (w : World) (b : Nat) (k x : List UInt8) (a : Int) (kv : Value) : World := (((w.setCell ⟨b, 0, none⟩ (.string ⟨k.toArray⟩)).setCell ⟨b, 1, none⟩ (.string ⟨x.toArray⟩)).setCell ⟨b, 2, none⟩ (.int .i64 a)).setCell ⟨b, 3, none⟩ kv
theorem BoxT.put {b : Nat} {k x k' x' : List UInt8} {a a' : Int} {kv kv' : Value} {w : World} (h : BoxT b k x a kv w) : BoxT b k' x' a' kv' (put4 w b k' x' a' kv') := by
  unfold BoxT at h ⊢
  simp [World.setCell, Array.getElem?_modify, h, ndT]
theorem gs_put (b : Nat) (k x : List UInt8) (a : Int) (kv : Value) (w : World) : Gs (fun q => q = b) w (put4 w b k x a kv) := (((gt_set _ _ _ _).trans (gt_set _ _ _ _)).trans (gt_set _ _ _ _)).trans (gt_set _ _ _ _)
section
variable {rb wb wc : Nat} {ws : List Wd} {y w : World}
/-- A change of the call's own blocks. -/
theorem RSt.own {s : PS} {S : Nat → Prop} {w' : World} (h : RSt rb wb wc ws s w) (hy1 : rb < y.heap.size) (hy2 : wb < y.heap.size) (g : Gs S w w') (hS : ∀ q, S q → y.heap.size ≤ q) : RSt rb wb wc ws s w' := by
  have e1 := g.block rb h.b.lt (fun e => by have := hS _ e; omega)
  have e2 := g.block wb h.w.lt (fun e => by have := hS _ e; omega)
  have hgl := h.w.gl
  have e3 := g.block 0 (by have := h.b.lt; omega) (fun e => by have := hS _ e; omega)
  refine ⟨⟨h.w.ne, Nat.lt_of_lt_of_le h.w.lt g.size, h.w.len, h.w.cap, fun i wd hi => ?_, h.w.good, h.w.last, fun c hc => (World.cell?_of_block (a := ⟨0, c, none⟩) e3).trans (h.w.sp c hc), hgl⟩, h.k, e1.trans h.b⟩
  obtain ⟨q0, q1, q2⟩ := h.w.c i wd hi
  exact ⟨(World.cell?_of_block (a := ⟨wb, i * 3, none⟩) e2).trans q0, (World.cell?_of_block (a := ⟨wb, i * 3 + 1, none⟩) e2).trans q1, (World.cell?_of_block (a := ⟨wb, i * 3 + 2, none⟩) e2).trans q2⟩
theorem Gt.own {S : Nat → Prop} {w' : World} (h : Gt rb y w) (g : Gs S w w') (hS : ∀ q, S q → y.heap.size ≤ q) : Gt rb y w' :=
  ⟨g.os.trans h.os, g.tape.trans h.tape, g.output.trans h.output, Nat.le_trans h.size g.size, fun q hq hn => (g.block q (Nat.lt_of_lt_of_le hq h.size) (fun e => by have := hS q e; omega)).trans (h.block q hq hn)⟩
/-- A walk's state. -/
structure Pn (rb wb wc : Nat) (ws : List Wd) (s : PS) (y w : World) : Prop where
  st : RSt rb wb wc ws s w
  gt : Gt rb y w
  rl : rb < y.heap.size
  wl : wb < y.heap.size
variable {s : PS}
theorem Pn.new (h : RSt rb wb wc ws s y) : Pn rb wb wc ws s y y := ⟨h, Gs.refl _ _, h.b.lt, h.w.lt⟩
theorem Pn.g {w' : World} (h : Pn rb wb wc ws s y w) (g : G w w') : Pn rb wb wc ws s y w' := ⟨h.st.g g, h.gt.trans g.gt, h.rl, h.wl⟩
theorem Pn.al (h : Pn rb wb wc ws s y w) (o : Obj) : Pn rb wb wc ws s y (w.alloc o) := h.g (G.alloc w o)
theorem Pn.dr (h : Pn rb wb wc ws s y w) : Pn rb wb wc ws s y w.drew := h.g (G.refl _).drew
theorem Pn.own {S : Nat → Prop} {w' : World} (h : Pn rb wb wc ws s y w) (g : Gs S w w') (hS : ∀ q, S q → y.heap.size ≤ q) : Pn rb wb wc ws s y w' := ⟨h.st.own h.rl h.wl g hS, h.gt.own g hS, h.rl, h.wl⟩
theorem Pn.to {s' : PS} {w' : World} (h : Pn rb wb wc ws s y w) (hs : RSt rb wb wc ws s' w') (g : Gt rb w w') : Pn rb wb wc ws s' y w' := ⟨hs, h.gt.trans g, h.rl, h.wl⟩
/-- The end of a call: a node is laid into the box of the answer. -/
theorem fin_any {r : Tt × PS} {k0 x0 : List UInt8} {a0 : Int} {v0 kv : Value} (h : Pn rb wb wc ws r.2 y w) (hb : BoxT y.heap.size k0 x0 a0 v0 w) (ho : OwK w (y.heap.size + 1) kv r.1.ks) :
    (∃ u0 u1 u2 u3, w.cell? ⟨y.heap.size, 0, none⟩ = some u0 ∧ w.cell? ⟨y.heap.size, 1, none⟩ = some u1 ∧ w.cell? ⟨y.heap.size, 2, none⟩ = some u2 ∧ w.cell? ⟨y.heap.size, 3, none⟩ = some u3) ∧ (w.frozen? ⟨y.heap.size, 0, none⟩ = false ∧ w.frozen? ⟨y.heap.size, 1, none⟩ = false ∧ w.frozen? ⟨y.heap.size, 2, none⟩ = false ∧ w.frozen? ⟨y.heap.size, 3, none⟩ = false) ∧
    Hid (NTo rb wb wc ws r y (.returned (.agg (ndT r.1.k r.1.x r.1.a kv))) (put4 w y.heap.size r.1.k r.1.x r.1.a kv) ∧ ((put4 w y.heap.size r.1.k r.1.x r.1.a kv).cell? ⟨y.heap.size, 0, none⟩ = some (.string ⟨r.1.k.toArray⟩) ∧ (put4 w y.heap.size r.1.k r.1.x r.1.a kv).cell? ⟨y.heap.size, 1, none⟩ = some (.string ⟨r.1.x.toArray⟩) ∧ (put4 w y.heap.size r.1.k r.1.x r.1.a kv).cell? ⟨y.heap.size, 2, none⟩ = some (.int .i64 r.1.a) ∧ (put4 w y.heap.size r.1.k r.1.x r.1.a kv).cell? ⟨y.heap.size, 3, none⟩ = some kv)) := by
  have g := gs_put y.heap.size r.1.k r.1.x r.1.a kv w
  have hp := h.own g (fun q e => by omega)
  obtain ⟨c0, c1, c2, c3⟩ := hb.c
  exact ⟨⟨_, _, _, _, c0, c1, c2, c3⟩, hb.ff, hide ⟨⟨kv, rfl, OwA.mono (OwA.keep ho g.size (fun q (q1 : y.heap.size + 1 ≤ q) q2 => g.block q q2 (by show ¬ q = y.heap.size; omega))) (Nat.le_succ _), hp.st, hp.gt⟩, (hb.put (k' := r.1.k) (x' := r.1.x) (a' := r.1.a) (kv' := kv)).c⟩⟩
end
theorem NTo.open {rb wb wc : Nat} {ws : List Wd} {r : Tt × PS} {y : World} {e : Ending} {w' : World} (h : NTo rb wb wc ws r y e w') : ∃ ao n c, e = .returned (.agg #[.string ⟨r.1.k.toArray⟩, .string ⟨r.1.x.toArray⟩, .int .i64 r.1.a, .slice ao n c]) ∧ OwK w' y.heap.size (.slice ao n c) r.1.ks ∧ RSt rb wb wc ws r.2 w' ∧ Gt rb y w' := by
  obtain ⟨kv, e1, h1, h2⟩ := h
  obtain ⟨ao, c, rfl⟩ := h1.sl
  exact ⟨_, _, _, e1, h1, h2⟩
set_option maxHeartbeats 2000000 in
theorem deeper_any {rb wb wc : Nat} {ws : List Wd} {s : PS} {y : World} (h : RSt rb wb wc ws s y) (F : Nat) (P : PS → Tt × PS) (hF : Ent F) (hp : Ok rb wb wc ws F P (pUp s)) : Calls Tryd.prog 45 #[.pointer (some ⟨rb, 0, none⟩), .func (.func F) #[.pointer (some ⟨rb, 0, none⟩)] #[]] y (NTo rb wb wc ws (pDeeper P s) y) := by
  obtain ⟨-, c1, -, -⟩ := h.b.c
  obtain ⟨k, d, a, er⟩ := s
  dsimp only at c1
  have ga := G.alloc y (.cells zBox 27)
  have d1 := ga.cell c1
  have f1 : (y.alloc (.cells zBox 27)).frozen? ⟨rb, 1, none⟩ = false := (h.g ga).b.f 1
  have gs := gt_set rb 1 (.int .i64 (wrap64 (d + 1))) (y.alloc (.cells zBox 27))
  have hrl := h.b.lt
  have hup : Pn rb wb wc ws (pUp ⟨k, d, a, er⟩) y ((y.alloc (.cells zBox 27)).setCell ⟨rb, 1, none⟩ (.int .i64 (wrap64 (d + 1)))) := ⟨⟨(h.g ga).w.gt gs, h.k, (h.g ga).b.setD _⟩, ga.gt.trans gs, h.b.lt, h.w.lt⟩
  have hbx : BoxT y.heap.size [] [] 0 (.slice none 0 0) ((y.alloc (.cells zBox 27)).setCell ⟨rb, 1, none⟩ (.int .i64 (wrap64 (d + 1)))) := (BoxT.zero y).keep gs (by show ¬ y.heap.size = rb; omega)
  have hsz : ((y.alloc (.cells zBox 27)).setCell ⟨rb, 1, none⟩ (.int .i64 (wrap64 (d + 1)))).heap.size = y.heap.size + 1 := by rw [World.size_setCell, World.size_alloc]
  have C := hide (hp _ hup.st)
  have FIN : Hid (∀ w1 ao n c, OwK w1 ((y.alloc (.cells zBox 27)).setCell ⟨rb, 1, none⟩ (.int .i64 (wrap64 (d + 1)))).heap.size (.slice ao n c) (P (pUp ⟨k, d, a, er⟩)).1.ks → RSt rb wb wc ws (P (pUp ⟨k, d, a, er⟩)).2 w1 → Gt rb ((y.alloc (.cells zBox 27)).setCell ⟨rb, 1, none⟩ (.int .i64 (wrap64 (d + 1)))) w1 → ∀ wz, wz = w1.alloc (.cells #[.string ⟨(P (pUp ⟨k, d, a, er⟩)).1.k.toArray⟩, .string ⟨(P (pUp ⟨k, d, a, er⟩)).1.x.toArray⟩, .int .i64 (P (pUp ⟨k, d, a, er⟩)).1.a, .slice ao n c] 27) → ∀ z, z = wz.setCell ⟨rb, 1, none⟩ (.int .i64 (wrap64 ((P (pUp ⟨k, d, a, er⟩)).2.d - 1))) →
      Pn rb wb wc ws (pDown (P (pUp ⟨k, d, a, er⟩)).2) y z ∧ BoxT y.heap.size [] [] 0 (.slice none 0 0) z ∧ OwK z (y.heap.size + 1) (.slice ao n c) (P (pUp ⟨k, d, a, er⟩)).1.ks ∧ BoxT w1.heap.size (P (pUp ⟨k, d, a, er⟩)).1.k (P (pUp ⟨k, d, a, er⟩)).1.x (P (pUp ⟨k, d, a, er⟩)).1.a (.slice ao n c) z ∧ wz.cell? ⟨rb, 1, none⟩ = some (.int .i64 (P (pUp ⟨k, d, a, er⟩)).2.d) ∧ wz.frozen? ⟨rb, 1, none⟩ = false) := hide fun w1 ao n c ho hs hg wz hwz z hz => by
    subst hwz
    have g1 := G.alloc w1 (.cells #[.string ⟨(P (pUp ⟨k, d, a, er⟩)).1.k.toArray⟩, .string ⟨(P (pUp ⟨k, d, a, er⟩)).1.x.toArray⟩, .int .i64 (P (pUp ⟨k, d, a, er⟩)).1.a, .slice ao n c] 27)
    have s1 := hs.g g1
    have g2 := gt_set rb 1 (.int .i64 (wrap64 ((P (pUp ⟨k, d, a, er⟩)).2.d - 1))) (w1.alloc (.cells #[.string ⟨(P (pUp ⟨k, d, a, er⟩)).1.k.toArray⟩, .string ⟨(P (pUp ⟨k, d, a, er⟩)).1.x.toArray⟩, .int .i64 (P (pUp ⟨k, d, a, er⟩)).1.a, .slice ao n c] 27))
    rw [← hz] at g2
    have p1 := ((hup.to hs hg).g g1)
    have hlt := hs.b.lt
    refine ⟨p1.to ⟨s1.w.gt g2, s1.k, ?_⟩ g2, ((hbx.keep hg (by show ¬ y.heap.size = rb; omega)).g g1).keep g2 (by show ¬ y.heap.size = rb; omega), ?_, (BoxT.new w1 _ _ _ _).keep g2 (by show ¬ w1.heap.size = rb; omega), s1.b.c.2.1, s1.b.f 1⟩
    · rw [hz]; exact s1.b.setD _
    · rw [hsz] at ho
      exact OwA.gt (OwA.g ho g1) (by omega) g2
  have hD : pDeeper P ⟨k, d, a, er⟩ = ((P (pUp ⟨k, d, a, er⟩)).1, pDown (P (pUp ⟨k, d, a, er⟩)).2) := rfl
  rw [hD]
  clear hup hbx hsz gs ga hp c1 h hrl hD
  generalize P (pUp ⟨k, d, a, er⟩) = pr at *
  go_enter Tryd.func45, Tryd.ntmps45
  go_wp2_with fail
  refine (unhide C).mono ?_
  rintro e w1 hn
  obtain ⟨ao, n, c, rfl, ho, hs, hg⟩ := hn.open
  obtain ⟨p2, b2, o2, b3, c1, f1⟩ := unhide FIN w1 ao n c ho hs hg _ rfl _ rfl
  obtain ⟨e0, e1, e2, e3⟩ := b3.c
  obtain ⟨⟨u0, u1, u2, u3, q0, q1, q2, q3⟩, ⟨z0, z1, z2, z3⟩, K⟩ := fin_any (r := (pr.1, pDown pr.2)) p2 b2 o2
  clear FIN C hn ho hs hg p2 b2 o2 b3
  go_wp2_with fail
  obtain ⟨K1, d0, d1, d2, d3⟩ := unhide K
  refine bodyPost_ret (by simp [results, Tryd.results45, go_sem, d0, d1, d2, d3]; try rfl) rfl ?_
  exact K1
end Go.Proofs.YtablincnlfbjnabDoor
