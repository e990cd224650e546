/- The program's parser: what is known at the head of row's loop. -/
import Derived.Test.YtablincnlfbjnabDoorPaR
import Derived.Deep.RegionLaw
namespace Go.Proofs.YtablincnlfbjnabDoor
set_option maxRecDepth 100000
open Go.RowKit Go.Maps Go.ChangeShapes Go.WideShapes Go.ChangeAt Go.Deep

def fdStr : Fd → List UInt8
  | .name => [78, 65, 77, 69]
  | .number => [78, 85, 77, 66, 69, 82]
  | .sign => [83, 73, 71, 78]
  | .args => [97, 114, 103, 115]
  | .part n => ntStr n
  | .word t => t
/-- A row's field as rows have them. -/
def FdOk : Fd → Prop
  | .part n => isPart n = true
  | .word t => t ≠ [] ∧ noPart t ∧ (t == [78, 65, 77, 69]) = false ∧ (t == [78, 85, 77, 66, 69, 82]) = false ∧ (t == [83, 73, 71, 78]) = false ∧ (t == [97, 114, 103, 115]) = false
  | _ => True
section
variable (rb wb wc : Nat) (ws : List Wd) (R : Nt → PS → Tt × PS)
def fdSt (f : Fd) (s : PS) : PS := (fdStep ws R f (([], []), s)).2
theorem fdStep_st (f : Fd) (r : (List UInt8 × List Tt) × PS) : (fdStep ws R f r).2 = fdSt ws R f r.2 := by cases f <;> rfl
/-- What the calls of a field ask. -/
def FdPre (f : Fd) (s : PS) : Prop :=
  match f with
  | .sign => s.k + 1 < ws.length
  | .args => (∀ s', s.k ≤ s'.k → Ok rb wb wc ws 31 (R .inside) s') ∧ ∀ s', s'.k < ws.length → s'.k ≤ (R .inside s').2.k
  | .part n => Ok rb wb wc ws (ntF n) (R n) s
  | _ => True
def RowOk : List Fd → PS → Prop
  | [], _ => True
  | f :: fs, s => FdPre rb wb wc ws R f s ∧ RowOk fs (fdSt ws R f s)
end
/-- Blocks of row's kids. -/
abbrev KB (S : Nat → Prop) (Y nb fb : Nat) : Nat → Prop := fun g => (S g ∧ g < Y) ∨ (nb < g ∧ g ≠ fb)
/-- What lies in memory at the loop's head. -/
structure HM (rb wb wc : Nat) (ws : List Wd) (S : Nat → Prop) (y : World) (nb fb : Nat) (kd : List UInt8) (ao : Int) (fs : List Fd) (x : List UInt8) (ks : List Tt) (s : PS) (kv : Value) (w : World) : Prop where
  st : RSt rb wb wc ws s w
  gt : Gs (fun b => b = rb ∨ S b) y w
  res : BoxT y.heap.size [] [] 0 (.slice none 0 0) w
  box : BoxT nb kd x ao kv w
  ow : OwA w (KB S y.heap.size nb fb) kv ks
  cl : ∀ i f, fs[i]? = some f → w.cell? ⟨fb, i, none⟩ = some (.string ⟨(fdStr f).toArray⟩)
  rl : rb < y.heap.size
  wl : wb < y.heap.size
  l1 : y.heap.size < nb
  l2 : nb < fb
  l3 : fb < w.heap.size
  sn : ¬ S rb ∧ ¬ S wb ∧ ¬ S 0
section
variable {rb wb wc : Nat} {ws : List Wd} {S : Nat → Prop} {y w w' : World} {nb fb : Nat} {kd : List UInt8} {ao : Int} {fs : List Fd} {x : List UInt8} {ks : List Tt} {s : PS} {kv : Value}
theorem HM.to {s' : PS} (h : HM rb wb wc ws S y nb fb kd ao fs x ks s kv w) (hs : RSt rb wb wc ws s' w') (g : Gt rb w w') : HM rb wb wc ws S y nb fb kd ao fs x ks s' kv w' := by
  have hrl := h.rl; have h1 := h.l1; have h2 := h.l2
  exact ⟨hs, h.gt.trans (g.mono (fun q _ hq => Or.inl hq)), h.res.keep g (by show ¬ y.heap.size = rb; omega), h.box.keep g (by show ¬ nb = rb; omega), OwA.gs h.ow g (fun q hq => by
    show ¬ q = rb
    rcases hq with hq | hq
    · intro e; subst e; exact h.sn.1 hq.1
    · omega), fun i f hf => g.cell (by show ¬ fb = rb; omega) (h.cl i f hf), h.rl, h.wl, h.l1, h.l2, Nat.lt_of_lt_of_le h.l3 g.size, h.sn⟩
theorem HM.g (h : HM rb wb wc ws S y nb fb kd ao fs x ks s kv w) (g : G w w') : HM rb wb wc ws S y nb fb kd ao fs x ks s kv w' := h.to (h.st.g g) g.gt
/-- A change in blocks of the call's own, or of the kids. -/
theorem HM.own {T : Nat → Prop} (h : HM rb wb wc ws S y nb fb kd ao fs x ks s kv w) (g : Gs T w w') (hT : ∀ q, T q → (S q ∧ q < y.heap.size) ∨ (nb ≤ q ∧ q ≠ fb)) : RSt rb wb wc ws s w' ∧ Gs (fun b => b = rb ∨ S b) y w' ∧ BoxT y.heap.size [] [] 0 (.slice none 0 0) w' ∧ (∀ i f, fs[i]? = some f → w'.cell? ⟨fb, i, none⟩ = some (.string ⟨(fdStr f).toArray⟩)) ∧ fb < w'.heap.size := by
  have hrl := h.rl; have h1 := h.l1; have h2 := h.l2; have hwl := h.wl; have hgl := h.st.w.gl
  have n1 : ¬ T rb := fun e => by rcases hT _ e with q | q; exact h.sn.1 q.1; omega
  have n2 : ¬ T wb := fun e => by rcases hT _ e with q | q; exact h.sn.2.1 q.1; omega
  have n3 : ¬ T 0 := fun e => by rcases hT _ e with q | q; exact h.sn.2.2 q.1; omega
  have n4 : ¬ T y.heap.size := fun e => by rcases hT _ e with q | q <;> omega
  have n5 : ¬ T fb := fun e => by rcases hT _ e with q | q <;> omega
  have e1 := g.block rb h.st.b.lt n1
  have hs := h.st
  refine ⟨⟨⟨hs.w.ne, Nat.lt_of_lt_of_le hs.w.lt g.size, hs.w.len, hs.w.cap, fun i wd hi => ?_, hs.w.good, hs.w.last, fun c hc => g.cell n3 (hs.w.sp c hc), hgl⟩, hs.k, e1.trans hs.b⟩, ⟨g.os.trans h.gt.os, g.tape.trans h.gt.tape, g.output.trans h.gt.output, Nat.le_trans h.gt.size g.size, fun b hb hn => ?_⟩, h.res.keep g n4, fun i f hf => g.cell n5 (h.cl i f hf), Nat.lt_of_lt_of_le h.l3 g.size⟩
  · obtain ⟨q0, q1, q2⟩ := hs.w.c i wd hi
    exact ⟨g.cell n2 q0, g.cell n2 q1, g.cell n2 q2⟩
  · refine (g.block b (Nat.lt_of_lt_of_le hb h.gt.size) (fun e => ?_)).trans (h.gt.block b hb hn)
    rcases hT _ e with q | q
    · exact hn (Or.inr q.1)
    · omega
theorem HM.setX (h : HM rb wb wc ws S y nb fb kd ao fs x ks s kv w) (x' : List UInt8) : HM rb wb wc ws S y nb fb kd ao fs x' ks s kv (w.setCell ⟨nb, 1, none⟩ (.string ⟨x'.toArray⟩)) := by
  have g := gt_set nb 1 (.string ⟨x'.toArray⟩) w
  have h1 := h.l1; have h2 := h.l2
  obtain ⟨a, b, c, d, e⟩ := h.own g (fun q (hq : q = nb) => Or.inr (by omega))
  exact ⟨a, b, c, h.box.set1 x', OwA.gs h.ow g (fun q hq => by
    show ¬ q = nb
    rcases hq with hq | hq <;> omega), d, h.rl, h.wl, h1, h2, e, h.sn⟩
theorem HM.setK {v' : Value} {ks' : List Tt} (h : HM rb wb wc ws S y nb fb kd ao fs x ks s kv w) (g : Gs (fun b => kv.ownBlock = some b) w w') (ho : OwA w' (KB S y.heap.size nb fb) v' ks') : HM rb wb wc ws S y nb fb kd ao fs x ks' s v' (w'.setCell ⟨nb, 3, none⟩ v') ∧ BoxT nb kd x ao kv w' := by
  have h1 := h.l1; have h2 := h.l2
  have hlt := h.ow.lt
  have gs := gt_set nb 3 v' w'
  have hb : BoxT nb kd x ao kv w' := h.box.keep g (fun e => by rcases (hlt _ e).1 with q | q <;> omega)
  have hT : ∀ q, kv.ownBlock = some q → (S q ∧ q < y.heap.size) ∨ (nb ≤ q ∧ q ≠ fb) := fun q e => by
    rcases (hlt _ e).1 with q1 | q1
    · exact Or.inl q1
    · exact Or.inr ⟨Nat.le_of_lt q1.1, q1.2⟩
  have g2 : Gs (fun b => kv.ownBlock = some b ∨ b = nb) w (w'.setCell ⟨nb, 3, none⟩ v') := (g.mono (fun q _ e => Or.inl e)).trans (gs.mono (fun q _ e => Or.inr e))
  obtain ⟨a, b, c, d, e⟩ := h.own g2 (fun q hq => by
    rcases hq with hq | hq
    · exact hT q hq
    · exact Or.inr (by omega))
  exact ⟨⟨a, b, c, hb.set3 v', OwA.gs ho gs (fun q hq => by
    show ¬ q = nb
    rcases hq with hq | hq <;> omega), d, h.rl, h.wl, h1, h2, e, h.sn⟩, hb⟩
end
theorem pMore_len {ws : List Wd} {P : PS → Tt × PS} : ∀ (f : Nat) (s : PS), (pMore ws P f s).1.length ≤ f := fun f => by
  induction f with
  | zero => intro s; exact Nat.le_refl _
  | succ f ih =>
    intro s
    rw [pMore]
    split
    · exact Nat.succ_le_succ (ih _)
    · exact Nat.zero_le _
theorem pList_len {ws : List Wd} {P : PS → Tt × PS} (s : PS) : (pList ws P s).1.length ≤ ws.length + 1 := by
  unfold pList
  split
  · exact Nat.zero_le _
  · exact Nat.succ_le_succ (pMore_len _ _)
end Go.Proofs.YtablincnlfbjnabDoor
