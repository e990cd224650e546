/- The program's parser: row. -/
import Derived.Test.YtablincnlfbjnabDoorPaV
namespace Go.Proofs.YtablincnlfbjnabDoor
set_option maxRecDepth 100000
open Go.RowKit Go.Maps Go.ChangeShapes Go.WideShapes Go.ChangeAt Go.Deep

theorem step_apN {ops : Array Oper} {o : Oper} {a : Act} {w : World} {K : Act → World → Prop} {Q : Exit → Act → World → Prop} {E : Prop} (hg : o.guard = none) (s x : Operand) (t : TypeId) (hop : o.op = Op.call { callee := Callee.builtin Builtin.append, args := #[s, x], argTypes := #[t, t] }) (vs vx : Value) (hs : a.eval s = vs) (hx : a.eval x = vx) (v' : Value) (w' : World)
    (hrun : (Builtin.append_ #[t, t] o.type #[vs, vx]).run Tryd.prog w = .ok v' w') (hK : K (a.put o.dst v') w') : if Region.wanted o (yielded ops a.tmps) = true then Oper.wp Tryd.prog o a w K Q else E := by
  have hw : Region.wanted o (yielded ops a.tmps) = true := by simp [Region.wanted, hg]
  rw [if_pos hw]
  unfold Oper.wp
  simp [execOp, hop, resolve, invoke, builtin, hs, hx, hrun, Result.andThen]
  exact hK
/-- What row leaves. -/
def RTo (rb wb wc : Nat) (ws : List Wd) (S : Nat → Prop) (r : Tt × PS) (y : World) (e : Ending) (w' : World) : Prop := ∃ kv, e = .returned (.agg (ndT r.1.k r.1.x r.1.a kv)) ∧ OwA w' (fun g => (S g ∧ g < y.heap.size) ∨ y.heap.size ≤ g) kv r.1.ks ∧ RSt rb wb wc ws r.2 w' ∧ Gs (fun b => b = rb ∨ S b) y w'
/-- All that is known at the loop's head. -/
structure HR (rb wb wc : Nat) (ws : List Wd) (R : Nt → PS → Tt × PS) (S : Nat → Prop) (y : World) (nb fb : Nat) (kd : List UInt8) (ao : Int) (fs : List Fd) (Rf : (List UInt8 × List Tt) × PS) (j : Nat) (x : List UInt8) (ks : List Tt) (s : PS) (kv : Value) (w : World) : Prop where
  m : HM rb wb wc ws S y nb fb kd ao fs x ks s kv w
  ok : RowOk rb wb wc ws R (fs.drop j) s
  eq : Rf = fdRun ws R (fs.drop j) ((x, ks), s)
  ln : ks.length ≤ 1000 + j * 20002
section
variable {rb wb wc : Nat} {ws : List Wd} {R : Nt → PS → Tt × PS} {S : Nat → Prop} {y w : World} {nb fb : Nat} {kd : List UInt8} {ao : Int} {fs : List Fd} {Rf : (List UInt8 × List Tt) × PS} {j : Nat} {x : List UInt8} {ks : List Tt} {s : PS} {kv : Value} {f : Fd}
theorem HR.pre (h : HR rb wb wc ws R S y nb fb kd ao fs Rf j x ks s kv w) (hf : fs[j]? = some f) : FdPre rb wb wc ws R f s := by
  have := h.ok
  rw [List.drop_eq_getElem_cons (lt_of_get hf)] at this
  have e : fs[j]'(lt_of_get hf) = f := by rw [List.getElem?_eq_getElem (lt_of_get hf)] at hf; injection hf
  rw [e] at this
  exact this.1
/-- A field is done. -/
theorem HR.next (h : HR rb wb wc ws R S y nb fb kd ao fs Rf j x ks s kv w) (hf : fs[j]? = some f) {x' : List UInt8} {ks' : List Tt} {s' : PS} {kv' : Value} {w' : World} (hs : fdStep ws R f ((x, ks), s) = ((x', ks'), s')) (hm : HM rb wb wc ws S y nb fb kd ao fs x' ks' s' kv' w') (hl : ks'.length ≤ ks.length + 20002) : HR rb wb wc ws R S y nb fb kd ao fs Rf (j + 1) x' ks' s' kv' w' := by
  have hd : fs.drop j = f :: fs.drop (j + 1) := by
    rw [List.drop_eq_getElem_cons (lt_of_get hf)]
    have e : fs[j]'(lt_of_get hf) = f := by rw [List.getElem?_eq_getElem (lt_of_get hf)] at hf; injection hf
    rw [e]
  have h1 := h.ok
  have h2 := h.eq
  have h3 := h.ln
  rw [hd] at h1 h2
  refine ⟨hm, ?_, ?_, by omega⟩
  · have := h1.2
    rw [← fdStep_st (r := ((x, ks), s)), hs] at this
    exact this
  · rw [h2]
    show fdRun ws R (fs.drop (j + 1)) (fdStep ws R f ((x, ks), s)) = _
    rw [hs]
/-- The end of the loop. -/
theorem HR.fin (h : HR rb wb wc ws R S y nb fb kd ao fs Rf fs.length x ks s kv w) {P : Tt × PS} (hP : P = (.mk kd Rf.1.1 ao Rf.1.2, Rf.2)) :
    (w.cell? ⟨nb, 0, none⟩ = some (.string ⟨kd.toArray⟩) ∧ w.cell? ⟨nb, 1, none⟩ = some (.string ⟨x.toArray⟩) ∧ w.cell? ⟨nb, 2, none⟩ = some (.int .i64 ao) ∧ w.cell? ⟨nb, 3, none⟩ = some kv) ∧ (∃ o n c, kv = .slice o n c) ∧ (∃ u0 u1 u2 u3, w.cell? ⟨y.heap.size, 0, none⟩ = some u0 ∧ w.cell? ⟨y.heap.size, 1, none⟩ = some u1 ∧ w.cell? ⟨y.heap.size, 2, none⟩ = some u2 ∧ w.cell? ⟨y.heap.size, 3, none⟩ = some u3) ∧ (w.frozen? ⟨y.heap.size, 0, none⟩ = false ∧ w.frozen? ⟨y.heap.size, 1, none⟩ = false ∧ w.frozen? ⟨y.heap.size, 2, none⟩ = false ∧ w.frozen? ⟨y.heap.size, 3, none⟩ = false) ∧
    Hid (RTo rb wb wc ws S P y (.returned (.agg (ndT kd x ao kv))) (put4 w y.heap.size kd x ao kv) ∧ ((put4 w y.heap.size kd x ao kv).cell? ⟨y.heap.size, 0, none⟩ = some (.string ⟨kd.toArray⟩) ∧ (put4 w y.heap.size kd x ao kv).cell? ⟨y.heap.size, 1, none⟩ = some (.string ⟨x.toArray⟩) ∧ (put4 w y.heap.size kd x ao kv).cell? ⟨y.heap.size, 2, none⟩ = some (.int .i64 ao) ∧ (put4 w y.heap.size kd x ao kv).cell? ⟨y.heap.size, 3, none⟩ = some kv)) := by
  have h2 := h.eq
  rw [List.drop_length] at h2
  have h2' : Rf = ((x, ks), s) := h2
  subst h2'
  subst hP
  obtain ⟨o, c, e⟩ := h.m.ow.sl
  obtain ⟨c0, c1, c2, c3⟩ := h.m.res.c
  have g := gs_put y.heap.size kd x ao kv w
  have l1 := h.m.l1
  have hrl := h.m.rl
  have hwl := h.m.wl
  have hst := h.m.st.own hrl hwl g (fun q (hq : q = y.heap.size) => by omega)
  refine ⟨h.m.box.c, ⟨o, _, c, e⟩, ⟨_, _, _, _, c0, c1, c2, c3⟩, h.m.res.ff, hide ⟨⟨kv, rfl, (OwA.gs h.m.ow g (fun q hq => ?_)).monoS (fun q _ hq => ?_), hst, ?_⟩, (h.m.res.put (k' := kd) (x' := x) (a' := ao) (kv' := kv)).c⟩⟩
  · show ¬ q = y.heap.size
    rcases hq with hq | hq <;> omega
  · rcases hq with hq | hq
    · exact Or.inl hq
    · exact Or.inr (by omega)
  · have hg := h.m.gt
    exact ⟨g.os.trans hg.os, g.tape.trans hg.tape, g.output.trans hg.output, Nat.le_trans hg.size g.size, fun b hb hn => (g.block b (Nat.lt_of_lt_of_le hb hg.size) (by show ¬ b = y.heap.size; omega)).trans (hg.block b hb hn)⟩
/-- A text was read. -/
theorem HR.txt (h : HR rb wb wc ws R S y nb fb kd ao fs Rf j x ks s kv w) (hf : fs[j]? = some f) {r : List UInt8 × PS} (hs : fdStep ws R f ((x, ks), s) = ((r.1, ks), r.2)) {w2 : World} (hw : RSt rb wb wc ws r.2 w2) (g : Gt rb w w2) : (∃ u, w2.cell? ⟨nb, 1, none⟩ = some u) ∧ w2.frozen? ⟨nb, 1, none⟩ = false ∧ Hid (HR rb wb wc ws R S y nb fb kd ao fs Rf (j + 1) r.1 ks r.2 kv (w2.setCell ⟨nb, 1, none⟩ (.string ⟨r.1.toArray⟩))) := by
  have hm := h.m.to hw g
  exact ⟨⟨_, hm.box.c.2.1⟩, hm.box.f 1, hide (h.next hf hs (hm.setX r.1) (by omega))⟩
/-- A node was read. -/
theorem HR.nod (h : HR rb wb wc ws R S y nb fb kd ao fs Rf j x ks s kv w) (hj : j ≤ 20) (hf : fs[j]? = some f) {r : Tt × PS} (hs : fdStep ws R f ((x, ks), s) = ((x, ks ++ [r.1]), r.2)) {w1 w2 : World} {k1 : Value} (g0 : G w w1) (ho : OwK w2 w1.heap.size k1 r.1.ks) (hw : RSt rb wb wc ws r.2 w2) (g : Gt rb w1 w2) :
    w2.cell? ⟨nb, 3, none⟩ = some kv ∧ (w2.alloc (.cells #[.string ⟨r.1.k.toArray⟩, .string ⟨r.1.x.toArray⟩, .int .i64 r.1.a, k1] 27)).cell? ⟨nb, 3, none⟩ = some kv ∧ ∃ vo vn vc w', (Builtin.append_ #[25, 25] 25 #[kv, .slice (some ⟨w2.heap.size, 0, none⟩) 1 1]).run Tryd.prog (w2.alloc (.cells #[.string ⟨r.1.k.toArray⟩, .string ⟨r.1.x.toArray⟩, .int .i64 r.1.a, k1] 27)) = .ok (.slice vo vn vc) w' ∧ w'.cell? ⟨nb, 3, none⟩ = some kv ∧ w'.frozen? ⟨nb, 3, none⟩ = false ∧ Hid (HR rb wb wc ws R S y nb fb kd ao fs Rf (j + 1) x (ks ++ [r.1]) r.2 (.slice vo vn vc) (w'.setCell ⟨nb, 3, none⟩ (.slice vo vn vc))) := by
  have hm := (h.m.g g0).to hw g
  have l2 := h.m.l2
  have l3 := h.m.l3
  have hz := g0.size
  have hz2 := g.size
  have hlt := h.m.ow.lt
  have hln := h.ln
  obtain ⟨v', w', r1, r2, r3⟩ := hm.ow.appS ho (fun q hq => Or.inr (by omega)) (fun q (hq : w1.heap.size ≤ q) => ⟨Or.inr (by omega), fun e => by have := (hlt q e).2; omega⟩) (by omega)
  obtain ⟨vo, vc, rfl⟩ := r2.sl
  obtain ⟨q1, q2⟩ := hm.setK r3 r2
  have c3 := hm.box.c.2.2.2
  exact ⟨c3, (G.alloc w2 _).cell c3, _, _, _, w', r1, q2.c.2.2.2, q2.f 3, hide (h.next hf hs q1 (by rw [List.length_append, List.length_singleton]; omega))⟩
/-- A row of nodes was read. -/
theorem HR.nods (h : HR rb wb wc ws R S y nb fb kd ao fs Rf j x ks s kv w) (hj : j ≤ 20) (hf : fs[j]? = some f) {r : List Tt × PS} (hs : fdStep ws R f ((x, ks), s) = ((x, ks ++ r.1), r.2)) (hrl : r.1.length ≤ 20002) {w1 w2 : World} {k1 : Value} (g0 : G w w1) (ho : OwK w2 w1.heap.size k1 r.1) (hw : RSt rb wb wc ws r.2 w2) (g : Gt rb w1 w2) :
    w2.cell? ⟨nb, 3, none⟩ = some kv ∧ ∃ vo vn vc w', (Builtin.append_ #[25, 25] 25 #[kv, k1]).run Tryd.prog w2 = .ok (.slice vo vn vc) w' ∧ w'.cell? ⟨nb, 3, none⟩ = some kv ∧ w'.frozen? ⟨nb, 3, none⟩ = false ∧ Hid (HR rb wb wc ws R S y nb fb kd ao fs Rf (j + 1) x (ks ++ r.1) r.2 (.slice vo vn vc) (w'.setCell ⟨nb, 3, none⟩ (.slice vo vn vc))) := by
  have hm := (h.m.g g0).to hw g
  have l2 := h.m.l2
  have l3 := h.m.l3
  have hz := g0.size
  have hz2 := g.size
  have hlt := h.m.ow.lt
  have hln := h.ln
  obtain ⟨v', w', r1, r2, r3⟩ := hm.ow.apps ho (Or.inr (by omega)) (fun q _ (hq : w1.heap.size ≤ q) => ⟨fun _ => Or.inr (by omega), fun e => by have := (hlt q e).2; omega⟩) (by omega)
  obtain ⟨vo, vc, rfl⟩ := r2.sl
  obtain ⟨q1, q2⟩ := hm.setK r3 r2
  exact ⟨hm.box.c.2.2.2, _, _, _, w', r1, q2.c.2.2.2, q2.f 3, hide (h.next hf hs q1 (by rw [List.length_append]; omega))⟩
end
end Go.Proofs.YtablincnlfbjnabDoor
