/- The program's parser: a node in a box that is built on. -/
import Derived.Test.YtablincnlfbjnabDoorPaB5
namespace Go.Proofs.YtablincnlfbjnabDoor
set_option maxRecDepth 100000
open Go.RowKit Go.Maps Go.ChangeShapes Go.WideShapes Go.ChangeAt Go.Deep

/-- A node in a box m of the call's own. -/
structure PT (rb wb wc : Nat) (ws : List Wd) (y : World) (m : Nat) (r : Tt × PS) (kv : Value) (w : World) : Prop where
  p : Pn rb wb wc ws r.2 y w
  b : BoxT y.heap.size [] [] 0 (.slice none 0 0) w
  bm : BoxT m r.1.k r.1.x r.1.a kv w
  hm : y.heap.size < m
  ow : OwA w (fun g => y.heap.size < g ∧ g ≠ m) kv r.1.ks
section
variable {rb wb wc : Nat} {ws : List Wd} {R : Nt → PS → Tt × PS} {M : Nat} {s s' : PS} {y w w' : World} {m : Nat} {r : Tt × PS} {kv : Value}
theorem PT.to (h : PT rb wb wc ws y m r kv w) (hs : RSt rb wb wc ws s' w') (g : Gt rb w w') : PT rb wb wc ws y m (r.1, s') kv w' := by
  have hrl := h.p.rl
  have hm := h.hm
  exact ⟨h.p.to hs g, h.b.keep g (by show ¬ y.heap.size = rb; omega), h.bm.keep g (by show ¬ m = rb; omega), hm, OwA.gs h.ow g (fun q hq => by show ¬ q = rb; omega)⟩
theorem PT.g (h : PT rb wb wc ws y m r kv w) (g : G w w') : PT rb wb wc ws y m r kv w' := h.to (h.p.st.g g) g.gt
theorem PT.dr (h : PT rb wb wc ws y m r kv w) : PT rb wb wc ws y m r kv w.drew := h.g (G.refl _).drew
/-- A call's node is laid into a new box. -/
theorem PT.new {s : PS} {w1 w2 : World} {o0 : Option Addr} {n0 c0 : Nat} (p : Pn rb wb wc ws s y w1) (b : BoxT y.heap.size [] [] 0 (.slice none 0 0) w1) (ho : OwK w2 w1.heap.size (.slice o0 n0 c0) r.1.ks) (h2 : RSt rb wb wc ws r.2 w2) (g2 : Gt rb w1 w2) : PT rb wb wc ws y w2.heap.size r (.slice o0 n0 c0) (w2.alloc (.cells #[.string ⟨r.1.k.toArray⟩, .string ⟨r.1.x.toArray⟩, .int .i64 r.1.a, .slice o0 n0 c0] 27)) := by
  have ga := G.alloc w2 (.cells #[.string ⟨r.1.k.toArray⟩, .string ⟨r.1.x.toArray⟩, .int .i64 r.1.a, .slice o0 n0 c0] 27)
  have hrl := p.rl
  have hb := b.lt
  have z2 := g2.size
  exact ⟨(p.to h2 g2).g ga, (b.keep g2 (by show ¬ y.heap.size = rb; omega)).g ga, BoxT.new w2 _ _ _ _, by omega, OwA.monoG ho (fun q hq (q1 : w1.heap.size ≤ q) => ⟨by omega, by omega⟩) ga⟩
/-- It is answered. -/
theorem PT.fin (h : PT rb wb wc ws y m r kv w) : ∃ ao n c, kv = .slice ao n c ∧ (w.cell? ⟨m, 0, none⟩ = some (.string ⟨r.1.k.toArray⟩) ∧ w.cell? ⟨m, 1, none⟩ = some (.string ⟨r.1.x.toArray⟩) ∧ w.cell? ⟨m, 2, none⟩ = some (.int .i64 r.1.a) ∧ w.cell? ⟨m, 3, none⟩ = some kv) ∧ (∃ u0 u1 u2 u3, w.cell? ⟨y.heap.size, 0, none⟩ = some u0 ∧ w.cell? ⟨y.heap.size, 1, none⟩ = some u1 ∧ w.cell? ⟨y.heap.size, 2, none⟩ = some u2 ∧ w.cell? ⟨y.heap.size, 3, none⟩ = some u3) ∧ (w.frozen? ⟨y.heap.size, 0, none⟩ = false ∧ w.frozen? ⟨y.heap.size, 1, none⟩ = false ∧ w.frozen? ⟨y.heap.size, 2, none⟩ = false ∧ w.frozen? ⟨y.heap.size, 3, none⟩ = false) ∧
    Hid (NTo rb wb wc ws r y (.returned (.agg (ndT r.1.k r.1.x r.1.a kv))) (put4 w y.heap.size r.1.k r.1.x r.1.a kv) ∧ ((put4 w y.heap.size r.1.k r.1.x r.1.a kv).cell? ⟨y.heap.size, 0, none⟩ = some (.string ⟨r.1.k.toArray⟩) ∧ (put4 w y.heap.size r.1.k r.1.x r.1.a kv).cell? ⟨y.heap.size, 1, none⟩ = some (.string ⟨r.1.x.toArray⟩) ∧ (put4 w y.heap.size r.1.k r.1.x r.1.a kv).cell? ⟨y.heap.size, 2, none⟩ = some (.int .i64 r.1.a) ∧ (put4 w y.heap.size r.1.k r.1.x r.1.a kv).cell? ⟨y.heap.size, 3, none⟩ = some kv)) := by
  obtain ⟨ao, c, e⟩ := h.ow.sl
  obtain ⟨q1, q2, q3⟩ := fin_any h.p h.b (h.ow.monoS (fun q _ hq => by show y.heap.size + 1 ≤ q; omega))
  exact ⟨ao, _, c, e, h.bm.c, q1, q2, q3⟩
/-- A change of its box, and of its kids' row. -/
theorem PT.put {T : Nat → Prop} {s1 : PS} {r' : Tt × PS} {kv' : Value} (h : PT rb wb wc ws y m (r.1, s1) kv w) (g : Gs (fun b => b = rb ∨ T b) w w') (hT : ∀ q, T q → y.heap.size < q ∧ q ≠ m) (hs : RSt rb wb wc ws r'.2 w') (ho : OwA w' (fun g => y.heap.size < g ∧ g ≠ m) kv' r'.1.ks) :
    (∃ u0 u1 u2 u3, w'.cell? ⟨m, 0, none⟩ = some u0 ∧ w'.cell? ⟨m, 1, none⟩ = some u1 ∧ w'.cell? ⟨m, 2, none⟩ = some u2 ∧ w'.cell? ⟨m, 3, none⟩ = some u3) ∧ (w'.frozen? ⟨m, 0, none⟩ = false ∧ w'.frozen? ⟨m, 1, none⟩ = false ∧ w'.frozen? ⟨m, 2, none⟩ = false ∧ w'.frozen? ⟨m, 3, none⟩ = false) ∧ PT rb wb wc ws y m r' kv' (put4 w' m r'.1.k r'.1.x r'.1.a kv') := by
  have hrl := h.p.rl
  have hwl := h.p.wl
  have hm := h.hm
  have bm := h.bm.keep g (fun e => by rcases e with e | e; omega; exact (hT _ e).2 rfl)
  obtain ⟨c0, c1, c2, c3⟩ := bm.c
  have g2 := gs_put m r'.1.k r'.1.x r'.1.a kv' w'
  refine ⟨⟨_, _, _, _, c0, c1, c2, c3⟩, bm.ff, ⟨hs.own hrl hwl g2 (fun q (e : q = m) => by omega), ?_, hrl, hwl⟩, (h.b.keep g (fun e => by rcases e with e | e; omega; exact absurd (hT _ e).1 (by omega))).keep g2 (by show ¬ y.heap.size = m; omega), bm.put, hm, OwA.gs ho g2 (fun q hq => by show ¬ q = m; exact hq.2)⟩
  have hg := h.p.gt
  exact ⟨g2.os.trans (g.os.trans hg.os), g2.tape.trans (g.tape.trans hg.tape), g2.output.trans (g.output.trans hg.output), Nat.le_trans hg.size (Nat.le_trans g.size g2.size), fun b hb hn => (g2.block b (Nat.lt_of_lt_of_le hb (Nat.le_trans hg.size g.size)) (by show ¬ b = m; omega)).trans ((g.block b (Nat.lt_of_lt_of_le hb hg.size) (fun e => by rcases e with e | e; exact hn e; have := (hT _ e).1; omega)).trans (hg.block b hb hn))⟩
/-- A row over the node in the box, laid into the box. -/
theorem PT.row {T : Nt → PS → Tt × PS} (h : PT rb wb wc ws y m r kv w) (kd : List UInt8) {fs : List Fd} {wr : ByteArray} (rc : RowC wr fs) (hro : RowOk rb wb wc ws T fs r.2) {q : Tt × PS} (hq : q = pRow ws T kd fs [r.1] r.2) :
    Calls Tryd.prog 13 #[.pointer (some ⟨rb, 0, none⟩), .string ⟨kd.toArray⟩, .string wr, .slice (some ⟨w.heap.size, 0, none⟩) 1 1] (w.alloc (.cells #[.string ⟨r.1.k.toArray⟩, .string ⟨r.1.x.toArray⟩, .int .i64 r.1.a, kv] 27)) fun e w' => ∃ vo vn vc, e = .returned (.agg #[.string ⟨q.1.k.toArray⟩, .string ⟨q.1.x.toArray⟩, .int .i64 q.1.a, .slice vo vn vc]) ∧ (∃ u0 u1 u2 u3, w'.cell? ⟨m, 0, none⟩ = some u0 ∧ w'.cell? ⟨m, 1, none⟩ = some u1 ∧ w'.cell? ⟨m, 2, none⟩ = some u2 ∧ w'.cell? ⟨m, 3, none⟩ = some u3) ∧ (w'.frozen? ⟨m, 0, none⟩ = false ∧ w'.frozen? ⟨m, 1, none⟩ = false ∧ w'.frozen? ⟨m, 2, none⟩ = false ∧ w'.frozen? ⟨m, 3, none⟩ = false) ∧ Hid (PT rb wb wc ws y m q (.slice vo vn vc) (put4 w' m q.1.k q.1.x q.1.a (.slice vo vn vc))) := by
  subst hq
  have hrl := h.p.rl
  have hwl := h.p.wl
  have hm := h.hm
  have hgl := h.p.st.w.gl
  have hml := h.bm.lt
  have ga := G.alloc w (.cells #[.string ⟨r.1.k.toArray⟩, .string ⟨r.1.x.toArray⟩, .int .i64 r.1.a, kv] 27)
  have h1 := h.g ga
  have hlit := OwA.litS (S := fun g => y.heap.size < g ∧ g ≠ m) (w := w) (t := r.1) ⟨by omega, by omega⟩ h.ow
  refine (row_any' h1.p.st kd rc hro hlit (by simp) ⟨fun e => by omega, fun e => by omega, fun e => by omega⟩).mono ?_
  rintro e w' ⟨kv', e1, o1, s1, g1⟩
  have hz := ga.size
  have hz1 := g1.size
  obtain ⟨ao, c, e2⟩ := o1.sl
  have q3 := PT.put (r := r) (s1 := r.2) h1 g1 (fun q hq => hq) s1 (o1.monoS (fun q _ hq => by rcases hq with hq | hq; exact hq.1; exact ⟨by omega, by omega⟩))
  subst e2
  exact ⟨_, _, _, e1, q3.1, q3.2.1, hide q3.2.2⟩
end
end Go.Proofs.YtablincnlfbjnabDoor
