/- The graph in memory, and what a call may turn of it. -/
import Derived.Test.YtiangegoglfpeaaDoorFrHeap2
import Derived.Test.YtiangegoglfpeaaDoorFrMeet
namespace Go.Proofs.YtiangegoglfpeaaDoor
set_option maxRecDepth 100000
open Go.RowKit Go.Maps Go.ChangeShapes Go.WideShapes Go.ChangeAt Go.Deep

/-- The graph lies at gB; M: the blocks that may be turned; P: where what is known ahead of a node lies. -/
structure GI (W0 : World) (M : Nat → Prop) (B gB ab wb N : Nat) (C : List Value) (w : World) (s : FSt) (P : Nat → Nat) (qv : Value) : Prop where
  g : G W0 w
  up : ∀ k, M k → W0.heap.size ≤ k
  mg : M gB
  ma : M ab
  mw : M wb
  lb : ab < B
  lw : wb < B
  gab : gB ≠ ab
  gwb : gB ≠ wb
  awb : ab ≠ wb
  bs : B ≤ w.heap.size
  q : QAt C w gB B qv s.Q
  mq : ∀ k, qv.ownBlock = some k → M k
  fa : ∀ n, n < N → w.frozen? ⟨ab, n, none⟩ = false
  a0 : ∀ n, n < N → s.A.getD n none = none → w.cell? ⟨ab, n, none⟩ = some (.pointer none)
  a1 : ∀ n k, n < N → s.A.getD n none = some k → w.cell? ⟨ab, n, none⟩ = some (.pointer (some ⟨P n, 0, none⟩)) ∧ KnAt w (P n) k ∧ B ≤ P n ∧ M (P n) ∧ qv.ownBlock ≠ some (P n)
  inj : ∀ n n' k k', n < N → n' < N → n ≠ n' → s.A.getD n none = some k → s.A.getD n' none = some k' → P n ≠ P n'
  wt : ∀ n, n < N → w.cell? ⟨wb, n, none⟩ = some (.bool (s.W.getD n false)) ∧ w.frozen? ⟨wb, n, none⟩ = false
theorem GI.own {W0 : World} {M : Nat → Prop} {B gB ab wb N : Nat} {C : List Value} {w : World} {s : FSt} {P : Nat → Nat} {qv : Value} (h : GI W0 M B gB ab wb N C w s P qv) : ∀ k, qv.ownBlock = some k → B ≤ k := fun k hk => own_blk h.q.own k hk
/-- Behind a call that leaves the graph's own blocks. -/
theorem GI.keep {W0 : World} {M : Nat → Prop} {B gB ab wb N : Nat} {C : List Value} {w w' : World} {s : FSt} {P : Nat → Nat} {qv : Value} (h : GI W0 M B gB ab wb N C w s P qv) (gw : G w w') : GI W0 M B gB ab wb N C w' s P qv := by
  have e := fun x (hx : x < w.heap.size) => gw.block x hx
  have la : ab < w.heap.size := Nat.lt_of_lt_of_le h.lb h.bs
  have lw : wb < w.heap.size := Nat.lt_of_lt_of_le h.lw h.bs
  refine ⟨h.g.trans gw, h.up, h.mg, h.ma, h.mw, h.lb, h.lw, h.gab, h.gwb, h.awb, Nat.le_trans h.bs gw.size, h.q.g gw, h.mq, fun n hn => ?_, fun n hn ha => gw.cell (h.a0 n hn ha), fun n k hn ha => ?_, h.inj, fun n hn => ?_⟩
  · rw [fro_of_block (x := ⟨ab, n, none⟩) (e ab la)]; exact h.fa n hn
  · obtain ⟨h1, h2, h3⟩ := h.a1 n k hn ha
    exact ⟨gw.cell h1, h2.g gw, h3⟩
  · obtain ⟨h1, h2⟩ := h.wt n hn
    exact ⟨gw.cell h1, by rw [fro_of_block (x := ⟨wb, n, none⟩) (e wb lw)]; exact h2⟩
theorem getD_set {α : Type} (l : List α) (n i : Nat) (x d : α) (hn : n < l.length) : (l.set n x).getD i d = if n = i then x else l.getD i d := by
  rw [List.getD_eq_getElem?_getD, List.getD_eq_getElem?_getD, List.getElem?_set]
  by_cases e : n = i
  · subst e; simp [hn]
  · simp [e]
/-- What is known ahead of node n is laid anew. -/
theorem GI.meet {W0 : World} {M : Nat → Prop} {B gB ab wb N : Nat} {C : List Value} {w w' : World} {s : FSt} {P : Nat → Nat} {qv : Value} (h : GI W0 M B gB ab wb N C w s P qv) (n : Nat) (k k' : Kn) (hn : n < N) (hl : s.A.length = N) (ha : s.A.getD n none = some k) (t : TrD w w' (· = P n)) (hk : KnAt w' (P n) k') : GI W0 M B gB ab wb N C w' ⟨s.A.set n (some k'), s.W, s.Q⟩ P qv := by
  obtain ⟨h1, h2, h3, h4, h5⟩ := h.a1 n k hn ha
  have nab : ¬ ab = P n := by have := h.lb; omega
  have nwb : ¬ wb = P n := by have := h.lw; omega
  have la : ab < w.heap.size := Nat.lt_of_lt_of_le h.lb h.bs
  have lw : wb < w.heap.size := Nat.lt_of_lt_of_le h.lw h.bs
  have hA : ∀ i, (s.A.set n (some k')).getD i none = if n = i then some k' else s.A.getD i none := fun i => getD_set _ _ _ _ _ (by rw [hl]; exact hn)
  have hP := h.up _ h4
  have gq : QAt C w' gB B qv s.Q := by
    have own : OwnL w' B qv s.Q := by
      have : ∀ b, B ≤ b → b < w.heap.size → qv.ownBlock = some b → w'.heap[b]? = w.heap[b]? := fun b _ hb e => t.block b hb (fun e2 => h5 (e2 ▸ e))
      rcases h.q.own.2 with h0 | ⟨g, cap, cur, e1, e2, e3, e4⟩
      · exact ⟨h.q.own.1, Or.inl h0⟩
      · refine ⟨h.q.own.1, Or.inr ⟨g, cap, cur, e1, e2, ?_, e4⟩⟩
        have hlt : g < w.heap.size := by
          rcases Nat.lt_or_ge g w.heap.size with hh | hh
          · exact hh
          · rw [Array.getElem?_eq_none hh] at e3; cases e3
        rw [this g e2 hlt (by rw [e1]; rfl)]
        exact e3
    have hgb := World.block_lt_of_cell? w _ h.q.c
    have hne : ¬ gB = P n := by have := h.q.lt; omega
    exact ⟨t.cell h.q.c hne, by rw [fro_of_block (x := ⟨gB, 18, none⟩) (t.block gB hgb hne)]; exact h.q.f, own, h.q.lt, fun j v hv => t.cell (h.q.s j v hv) hne, h.q.cl⟩
  refine ⟨⟨t.os.trans h.g.os, t.tape.trans h.g.tape, t.output.trans h.g.output, Nat.le_trans h.g.size t.size, fun b hb => (t.block b (Nat.lt_of_lt_of_le hb h.g.size) (by omega)).trans (h.g.block b hb)⟩, h.up, h.mg, h.ma, h.mw, h.lb, h.lw, h.gab, h.gwb, h.awb, Nat.le_trans h.bs t.size, gq, h.mq, fun i hi => ?_, fun i hi he => ?_, fun i kk hi he => ?_, fun i i' x x' hi hi' hne he he' => ?_, fun i hi => ?_⟩
  · rw [fro_of_block (x := ⟨ab, i, none⟩) (t.block ab la nab)]; exact h.fa i hi
  · rw [hA] at he
    split at he
    · cases he
    · exact t.cell (h.a0 i hi he) nab
  · rw [hA] at he
    split at he
    · rename_i e
      subst e
      cases he
      exact ⟨t.cell h1 nab, hk, h3, h4, h5⟩
    · rename_i e
      obtain ⟨g1, g2, g3, g4, g5⟩ := h.a1 i kk hi he
      exact ⟨t.cell g1 nab, g2.tr t (h.inj i n _ _ hi hn (fun e2 => e e2.symm) he ha), g3, g4, g5⟩
  · have f : ∀ j y, j < N → (s.A.set n (some k')).getD j none = some y → ∃ y', s.A.getD j none = some y' := fun j y hj hy => by
      rw [hA] at hy
      split at hy
      · rename_i e; subst e; exact ⟨k, ha⟩
      · exact ⟨y, hy⟩
    obtain ⟨y, hy⟩ := f i x hi he
    obtain ⟨y', hy'⟩ := f i' x' hi' he'
    exact h.inj i i' y y' hi hi' hne hy hy'
  · obtain ⟨g1, g2⟩ := h.wt i hi
    exact ⟨t.cell g1 nwb, by rw [fro_of_block (x := ⟨wb, i, none⟩) (t.block wb lw nwb)]; exact g2⟩
def updN (P : Nat → Nat) (n b : Nat) : Nat → Nat := fun i => if i = n then b else P i
/-- Something is known ahead of node n, of which nothing was known. -/
theorem GI.first {W0 : World} {M : Nat → Prop} {B gB ab wb N : Nat} {C : List Value} {w : World} {s : FSt} {P : Nat → Nat} {qv : Value} (h : GI W0 M B gB ab wb N C w s P qv) (n b : Nat) (k : Kn) (hn : n < N) (hl : s.A.length = N) (hk : KnAt w b k) (hB : B ≤ b) (hM : M b) (hq : qv.ownBlock ≠ some b) (hf : ∀ i k', i < N → s.A.getD i none = some k' → P i ≠ b) (ha : s.A.getD n none = none) :
    GI W0 M B gB ab wb N C (w.setCell ⟨ab, n, none⟩ (.pointer (some ⟨b, 0, none⟩))) ⟨s.A.set n (some k), s.W, s.Q⟩ (updN P n b) qv := by
  have hA : ∀ i, (s.A.set n (some k)).getD i none = if n = i then some k else s.A.getD i none := fun i => getD_set _ _ _ _ _ (by rw [hl]; exact hn)
  have t : TrD w (w.setCell ⟨ab, n, none⟩ (.pointer (some ⟨b, 0, none⟩))) (· = ab) := (TrD.refl w (· = ab)).set ab n _ (Or.inl rfl)
  have cab : ∀ i, i ≠ n → ∀ v, w.cell? ⟨ab, i, none⟩ = some v → (w.setCell ⟨ab, n, none⟩ (.pointer (some ⟨b, 0, none⟩))).cell? ⟨ab, i, none⟩ = some v := fun i hi v hv => by rw [cell_other _ (Or.inr hi)]; exact hv
  have hP := h.up _ h.ma
  have ob := h.own
  have nab : ∀ x, B ≤ x → ¬ x = ab := fun x hx e => by have := h.lb; omega
  have gq : QAt C (w.setCell ⟨ab, n, none⟩ (.pointer (some ⟨b, 0, none⟩))) gB B qv s.Q := ⟨t.cell h.q.c h.gab, by rw [World.frozen?_setCell]; exact h.q.f, own_kept h.q.own (fun x hx _ => heap_set _ _ (nab x hx)), h.q.lt, fun j v hv => t.cell (h.q.s j v hv) h.gab, h.q.cl⟩
  refine ⟨⟨t.os.trans h.g.os, t.tape.trans h.g.tape, t.output.trans h.g.output, Nat.le_trans h.g.size t.size, fun b hb => (t.block b (Nat.lt_of_lt_of_le hb h.g.size) (by omega)).trans (h.g.block b hb)⟩, h.up, h.mg, h.ma, h.mw, h.lb, h.lw, h.gab, h.gwb, h.awb, Nat.le_trans h.bs t.size, gq, h.mq, fun i hi => by rw [World.frozen?_setCell]; exact h.fa i hi, fun i hi he => ?_, fun i kk hi he => ?_, fun i i' x x' hi hi' hne he he' => ?_, fun i hi => ?_⟩
  · rw [hA] at he
    split at he
    · cases he
    · rename_i e
      exact cab i (fun e2 => e e2.symm) _ (h.a0 i hi he)
  · rw [hA] at he
    unfold updN
    split at he
    · rename_i e
      subst e
      cases he
      rw [if_pos rfl]
      exact ⟨cell_same _ (h.a0 n hi ha), hk.tr t (nab b hB), hB, hM, hq⟩
    · rename_i e
      obtain ⟨g1, g2, g3, g4, g5⟩ := h.a1 i kk hi he
      rw [if_neg (fun e2 => e e2.symm)]
      exact ⟨cab i (fun e2 => e e2.symm) _ g1, g2.tr t (nab _ g3), g3, g4, g5⟩
  · rw [hA] at he he'
    unfold updN
    split at he
    · rename_i e
      subst e
      split at he'
      · rename_i e2; exact absurd e2 hne
      · rename_i e2
        rw [if_pos rfl, if_neg (fun e3 => e2 e3.symm)]
        exact fun e3 => hf i' x' hi' he' e3.symm
    · rename_i e
      split at he'
      · rename_i e2
        subst e2
        rw [if_pos rfl, if_neg (fun e3 => e e3.symm)]
        exact hf i x hi he
      · rename_i e2
        rw [if_neg (fun e3 => e e3.symm), if_neg (fun e3 => e2 e3.symm)]
        exact h.inj i i' x x' hi hi' hne he he'
  · obtain ⟨g1, g2⟩ := h.wt i hi
    exact ⟨t.cell g1 (fun e => h.awb e.symm), by rw [World.frozen?_setCell]; exact g2⟩
/-- A node waits, or waits no more. -/
theorem GI.wait {W0 : World} {M : Nat → Prop} {B gB ab wb N : Nat} {C : List Value} {w : World} {s : FSt} {P : Nat → Nat} {qv : Value} (h : GI W0 M B gB ab wb N C w s P qv) (n : Nat) (v : Bool) (hn : n < N) (hl : s.W.length = N) :
    GI W0 M B gB ab wb N C (w.setCell ⟨wb, n, none⟩ (.bool v)) ⟨s.A, s.W.set n v, s.Q⟩ P qv := by
  have t : TrD w (w.setCell ⟨wb, n, none⟩ (.bool v)) (· = wb) := (TrD.refl w (· = wb)).set wb n _ (Or.inl rfl)
  have hP := h.up _ h.mw
  have nwb : ∀ x, B ≤ x → ¬ x = wb := fun x hx e => by have := h.lw; omega
  have gq : QAt C (w.setCell ⟨wb, n, none⟩ (.bool v)) gB B qv s.Q := ⟨t.cell h.q.c h.gwb, by rw [World.frozen?_setCell]; exact h.q.f, own_kept h.q.own (fun x hx _ => heap_set _ _ (nwb x hx)), h.q.lt, fun j v hv => t.cell (h.q.s j v hv) h.gwb, h.q.cl⟩
  refine ⟨⟨t.os.trans h.g.os, t.tape.trans h.g.tape, t.output.trans h.g.output, Nat.le_trans h.g.size t.size, fun b hb => (t.block b (Nat.lt_of_lt_of_le hb h.g.size) (by omega)).trans (h.g.block b hb)⟩, h.up, h.mg, h.ma, h.mw, h.lb, h.lw, h.gab, h.gwb, h.awb, Nat.le_trans h.bs t.size, gq, h.mq, fun i hi => by rw [World.frozen?_setCell]; exact h.fa i hi, fun i hi he => t.cell (h.a0 i hi he) h.awb, fun i kk hi he => ?_, h.inj, fun i hi => ?_⟩
  · obtain ⟨g1, g2, g3, g4, g5⟩ := h.a1 i kk hi he
    exact ⟨t.cell g1 h.awb, g2.tr t (nwb _ g3), g3, g4, g5⟩
  · obtain ⟨g1, g2⟩ := h.wt i hi
    refine ⟨?_, by rw [World.frozen?_setCell]; exact g2⟩
    show _ = some (Value.bool ((s.W.set n v).getD i false))
    rw [getD_set _ _ _ _ _ (by rw [hl]; exact hn)]
    by_cases e : n = i
    · subst e; rw [if_pos rfl]; exact cell_same _ g1
    · rw [if_neg e, cell_other _ (Or.inr (fun e2 => e e2.symm))]; exact g1
/-- Behind a call of the queue's. -/
theorem GI.queue {W0 : World} {M : Nat → Prop} {B gB ab wb N : Nat} {C : List Value} {w w' : World} {s : FSt} {P : Nat → Nat} {qv qv' : Value} {l : List Int} (h : GI W0 M B gB ab wb N C w s P qv) (t : TrD w w' (QD gB qv)) (hq : QAt C w' gB B qv' l) (ho : qv'.ownBlock = qv.ownBlock ∨ ∃ b, qv'.ownBlock = some b ∧ w.heap.size ≤ b) (hM : ∀ k, w.heap.size ≤ k → M k) : GI W0 M B gB ab wb N C w' ⟨s.A, s.W, l⟩ P qv' := by
  have la : ab < w.heap.size := Nat.lt_of_lt_of_le h.lb h.bs
  have lw : wb < w.heap.size := Nat.lt_of_lt_of_le h.lw h.bs
  have nq : ∀ x, x < B → x ≠ gB → ¬ QD gB qv x := fun x hx hg e => by
    rcases e with e | e
    · exact hg e
    · have := h.own x e; omega
  have nab := nq ab h.lb (fun e => h.gab e.symm)
  have nwb := nq wb h.lw (fun e => h.gwb e.symm)
  have gg := h.up _ h.mg
  refine ⟨⟨t.os.trans h.g.os, t.tape.trans h.g.tape, t.output.trans h.g.output, Nat.le_trans h.g.size t.size, fun b hb => (t.block b (Nat.lt_of_lt_of_le hb h.g.size) (fun e => ?_)).trans (h.g.block b hb)⟩, h.up, h.mg, h.ma, h.mw, h.lb, h.lw, h.gab, h.gwb, h.awb, Nat.le_trans h.bs t.size, hq, fun k hk => ?_, fun i hi => ?_, fun i hi he => t.cell (h.a0 i hi he) nab, fun i kk hi he => ?_, h.inj, fun i hi => ?_⟩
  · rcases e with e | e
    · omega
    · have := h.up _ (h.mq b e); omega
  · rcases ho with ho | ⟨b, hb, hlt⟩
    · exact h.mq k (ho ▸ hk)
    · rw [hb] at hk
      have : b = k := Option.some.inj hk
      subst this
      exact hM b hlt
  · rw [fro_of_block (x := ⟨ab, i, none⟩) (t.block ab la nab)]; exact h.fa i hi
  · obtain ⟨g1, g2, g3, g4, g5⟩ := h.a1 i kk hi he
    have np : ¬ QD gB qv (P i) := fun e => by
      rcases e with e | e
      · have := h.q.lt; omega
      · exact g5 e
    refine ⟨t.cell g1 nab, g2.tr t np, g3, g4, fun e => ?_⟩
    rcases ho with ho | ⟨b, hb, hlt⟩
    · exact g5 (ho ▸ e)
    · rw [hb] at e
      have e : b = P i := Option.some.inj e
      have := g2.lt
      omega
  · obtain ⟨g1, g2⟩ := h.wt i hi
    exact ⟨t.cell g1 nwb, by rw [fro_of_block (x := ⟨wb, i, none⟩) (t.block wb lw nwb)]; exact g2⟩
end Go.Proofs.YtiangegoglfpeaaDoor
