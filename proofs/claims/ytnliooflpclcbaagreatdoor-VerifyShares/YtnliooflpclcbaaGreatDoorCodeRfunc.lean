/- gantlineref17.Func: a function told as the document's own. -/
import Derived.Test.YtnliooflpclcbaaGreatDoorCodeGr
import Derived.Test.YtnliooflpclcbaaGreatDoorCodeRinstr
import Derived.Deep.DeepCutAuto
namespace Go.Proofs.YtnliooflpclcbaaGreatDoor
set_option maxRecDepth 100000
open Go.RowKit Go.Maps Go.ChangeShapes Go.WideShapes Go.ChangeAt Go.Deep

theorem step_app {ops : Array Oper} {o : Oper} {a : Act} {w : World} {K : Act → World → Prop} {Q : Exit → Act → World → Prop} {E : Prop} (hg : o.guard = none) (s x : Operand) (t : TypeId) (hop : o.op = Op.call { callee := Callee.builtin Builtin.append, args := #[s, x], argTypes := #[t, t] }) (vs vx : Value) (hs : a.eval s = vs) (hx : a.eval x = vx) (v' : Value) (w' : World)
    (hrun : (Builtin.append_ #[t, t] o.type #[vs, vx]).run Tryz.prog w = .ok v' w') (hK : K (a.put o.dst v') w') : if Region.wanted o (yielded ops a.tmps) = true then Oper.wp Tryz.prog o a w K Q else E := by
  have hw : Region.wanted o (yielded ops a.tmps) = true := by simp [Region.wanted, hg]
  rw [if_pos hw]
  unfold Oper.wp
  simp [execOp, hop, resolve, invoke, builtin, hs, hx, hrun, Result.andThen]
  exact hK
theorem app_bool {x : World} {ao : Option Addr} {n c : Nat} {l : List Bool} (hr : RowAt elB x ao n c l) (hn : n ≤ 10000000) (eb : Nat) :
    ∃ b c' x', (Builtin.append_ #[28, 28] 28 #[.slice (some ⟨eb, 0, none⟩) 0 0, .slice ao n c]).run Tryz.prog x = .ok (.slice (some ⟨b, 0, none⟩) n c') x' ∧ G x x' ∧ RowAt elB x' (some ⟨b, 0, none⟩) n c' l ∧ (n = 0 ∨ (b = x.heap.size ∧ b < x'.heap.size)) := by
  obtain ⟨i, hi, hz, hs, hb⟩ := info_parts info_bool
  exact app_new Value.bool (fun _ => rfl) 28 4 i _ Tryz.underlying28 hi hz hs (by rw [hb]; decide) hr hn eb _
theorem app_u64 {x : World} {ao : Option Addr} {n c : Nat} {l : List Nat} (hr : RowAt elU x ao n c l) (hn : n ≤ 10000000) (eb : Nat) :
    ∃ b c' x', (Builtin.append_ #[37, 37] 37 #[.slice (some ⟨eb, 0, none⟩) 0 0, .slice ao n c]).run Tryz.prog x = .ok (.slice (some ⟨b, 0, none⟩) n c') x' ∧ G x x' ∧ RowAt elU x' (some ⟨b, 0, none⟩) n c' l ∧ (n = 0 ∨ (b = x.heap.size ∧ b < x'.heap.size)) := by
  obtain ⟨i, hi, hz, hs, hb⟩ := info_parts info_uint64
  exact app_new (fun u : Nat => Value.int .u64 (u : Int)) (fun _ => rfl) 37 35 i _ Tryz.underlying37 hi hz hs (by rw [hb]; decide) hr hn eb _
theorem row_own {α : Type} {E : El α} (hE : ∀ w w' a cs, E.cs w a cs → E.cs w' a cs) {w w' : World} {b n c : Nat} {l : List α} (h : RowAt E w (some ⟨b, 0, none⟩) n c l) (hd : n = 0 ∨ w'.heap[b]? = w.heap[b]?) (hs : w.heap.size ≤ w'.heap.size) : RowAt E w' (some ⟨b, 0, none⟩) n c l := by
  refine ⟨h.1, h.2.1, h.2.2.1, ?_⟩
  rcases hd with hd | hd
  · exact Or.inl hd
  rcases h.2.2.2 with h0 | ⟨b', off, e, hb, hc⟩
  · exact Or.inl h0
  · cases e
    refine Or.inr ⟨b, 0, rfl, by omega, fun i a hi => ?_⟩
    obtain ⟨cs, h1, h2⟩ := hc i a hi
    exact ⟨cs, hE _ _ _ _ h1, h2.kept hd⟩
/-- The document's function, its code still to come. -/
structure FnG (W1 : World) (a : Fn) (gb b1 c1 b2 c2 : Nat) (x : World) : Prop where
  lo : W1.heap.size ≤ gb
  lt : gb < x.heap.size
  cs : CellsAt x gb 0 [.int .i64 a.p, .int .i64 a.c, .int .i64 a.s, .int .i64 a.r, .slice (some ⟨b1, 0, none⟩) a.ks.length c1, .slice none 0 0, .slice (some ⟨b2, 0, none⟩) a.ms.length c2]
  fz : ∀ j, j < 7 → x.frozen? ⟨gb, j, none⟩ = false
  r1 : RowAt elB x (some ⟨b1, 0, none⟩) a.ks.length c1 a.ks
  r2 : RowAt elU x (some ⟨b2, 0, none⟩) a.ms.length c2 a.ms
  d1 : a.ks.length = 0 ∨ (b1 ≠ gb ∧ W1.heap.size ≤ b1)
  d2 : a.ms.length = 0 ∨ (b2 ≠ gb ∧ W1.heap.size ≤ b2)
  g : G W1 x
theorem setN_G {w : World} (b : Nat) (hb : w.heap.size ≤ b) : ∀ (vs : List Value) (W : World) (off : Nat), G w W → G w (setN W b off vs)
  | [], _, _, h => h
  | v :: vs, _, off, h => setN_G b hb vs _ (off + 1) (G.set h b off v hb)
/-- An instruction's cells. -/
abbrev flI (i : In) : List Value := [.int .i64 i.op, .int .i64 i.a, .int .i64 i.b, .int .i64 i.c, .int .i64 i.d]
theorem flI_at : ∀ (l : List In) (i : Nat) (a : In), l[i]? = some a → ∀ j v, (flI a)[j]? = some v → (l.flatMap flI)[i * 5 + j]? = some v
  | [], _, _, h, _, _, _ => by simp at h
  | x :: l, 0, a, h, j, v, hv => by
    simp at h
    subst h
    have hj := (List.getElem?_eq_some_iff.1 hv).1
    rw [Nat.zero_mul, Nat.zero_add, List.flatMap_cons, List.getElem?_append_left hj]
    exact hv
  | x :: l, i + 1, a, h, j, v, hv => by
    have h2 : l[i]? = some a := by simpa using h
    have := flI_at l i a h2 j v hv
    rw [List.flatMap_cons, List.getElem?_append_right (by simp; omega)]
    have e : (i + 1) * 5 + j - (flI x).length = i * 5 + j := by simp; omega
    rw [e]
    exact this
theorem row_blk {α : Type} {E : El α} (hE : ∀ w w' a cs, E.cs w a cs → E.cs w' a cs) {w w' : World} {ao : Option Addr} {n c : Nat} {l : List α} (h : RowAt E w ao n c l) (hd : n = 0 ∨ ∃ b, ao = some ⟨b, 0, none⟩ ∧ w'.heap[b]? = w.heap[b]?) (hs : w.heap.size ≤ w'.heap.size) : RowAt E w' ao n c l := by
  rcases hd with hd | ⟨b, rfl, hd⟩
  · exact ⟨h.1, h.2.1, h.2.2.1, Or.inl hd⟩
  · exact row_own hE h (Or.inr hd) hs
end Go.Proofs.YtnliooflpclcbaaGreatDoor
