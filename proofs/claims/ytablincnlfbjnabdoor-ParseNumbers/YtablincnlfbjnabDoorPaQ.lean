/- The program's parser, plain: what each call does to the reader's place. -/
import Derived.Test.YtablincnlfbjnabDoorPaG
namespace Go.Proofs.YtablincnlfbjnabDoor
set_option maxRecDepth 100000
open Go.RowKit

/-- The last word is the text's end. -/
def WsOk (ws : List Wd) : Prop := ∃ o, ws[ws.length - 1]? = some ⟨0, [], o⟩
/-- Not back, and no fault is forgotten. -/
structure Le (ws : List Wd) (s s' : PS) : Prop where
  k : s.k ≤ s'.k
  l : s'.k < ws.length
  e : s.e ≠ 0 → s'.e ≠ 0
  f : (s.e ≠ 0 → s.k = ws.length - 1) → (s'.e ≠ 0 → s'.k = ws.length - 1)
/-- .. and on, or with a fault. -/
structure Lt (ws : List Wd) (s s' : PS) : Prop where
  le : Le ws s s'
  on : s'.e = 0 → s.k < s'.k
section
variable {ws : List Wd} {s a b c : PS}
theorem Le.refl (h : s.k < ws.length) : Le ws s s := ⟨Nat.le_refl _, h, id, id⟩
theorem Le.trans (h : Le ws a b) (k : Le ws b c) : Le ws a c := ⟨Nat.le_trans h.k k.k, k.l, fun e => k.e (h.e e), fun f => k.f (h.f f)⟩
theorem Lt.thn (h : Lt ws a b) (k : Le ws b c) : Lt ws a c := ⟨h.le.trans k, fun e => by
  have : b.e = 0 := Classical.byContradiction fun e2 => k.e e2 e
  have := h.on this
  have := k.k
  omega⟩
theorem Le.thn (h : Le ws a b) (k : Lt ws b c) : Lt ws a c := ⟨h.trans k.le, fun e => by
  have := k.on e
  have := h.k
  omega⟩
theorem wsOk_more (hw : WsOk ws) (h : s.k < ws.length) (hx : (wdAt ws s).x ≠ [] ∨ (wdAt ws s).k ≠ 0) : s.k + 1 < ws.length := by
  obtain ⟨o, hl⟩ := hw
  by_cases e : s.k + 1 < ws.length
  · exact e
  · have : ws.length - 1 = s.k := by omega
    have hd : wdAt ws s = ⟨0, [], o⟩ := by
      unfold wdAt
      rw [List.getD_eq_getElem?_getD, ← this, hl]
      rfl
    rw [hd] at hx
    rcases hx with hx | hx <;> exact absurd rfl hx
theorem fault_lt (h : s.k < ws.length) (er : Int) (he : er ≠ 0) : Lt ws s (pFault ws er s) := by
  have hne : (pFault ws er s).e ≠ 0 := by
    show (if s.e = 0 then er else s.e) ≠ 0
    split
    · exact he
    · assumption
  exact ⟨⟨by show s.k ≤ ws.length - 1; omega, by show ws.length - 1 < ws.length; omega, fun _ => hne, fun _ _ => rfl⟩, fun e => absurd e hne⟩
theorem pass_le (h : s.k < ws.length) : Le ws s (pPass ws s) := by
  unfold pPass
  split
  · exact (fault_lt h 2 (by decide)).le
  · exact ⟨by show s.k ≤ min (s.k + 1) (ws.length - 1); omega, by show min (s.k + 1) (ws.length - 1) < ws.length; omega, id, fun f e => by have := f e; show min (s.k + 1) (ws.length - 1) = ws.length - 1; omega⟩
theorem pass_on (h : s.k + 1 < ws.length) : s.k < (pPass ws s).k := by
  unfold pPass
  split
  · show s.k < ws.length - 1; omega
  · show s.k < min (s.k + 1) (ws.length - 1); omega
theorem pass_lt (h : s.k + 1 < ws.length) : Lt ws s (pPass ws s) := ⟨pass_le (by omega), fun _ => pass_on h⟩
theorem is_more (hw : WsOk ws) (h : s.k < ws.length) {t : List UInt8} (ht : t ≠ []) (hi : pIs ws t s = true) : s.k + 1 < ws.length :=
  wsOk_more hw h (Or.inl (by have := of_decide_eq_true hi; rw [this]; exact ht))
theorem x_more (hw : WsOk ws) (h : s.k < ws.length) {t : List UInt8} (ht : t ≠ []) (hi : (wdAt ws s).x = t) : s.k + 1 < ws.length := wsOk_more hw h (Or.inl (by rw [hi]; exact ht))
theorem need_lt (hw : WsOk ws) (h : s.k < ws.length) {t : List UInt8} (ht : t ≠ []) : Lt ws s (pNeed ws t s) := by
  unfold pNeed
  split
  · exact pass_lt (is_more hw h ht (by assumption))
  · exact fault_lt h 6 (by decide)
theorem text_lt (hw : WsOk ws) (h : s.k < ws.length) {kd : Nat} (hk : kd ≠ 0) : Lt ws s (pText ws kd s).2 := by
  unfold pText
  split
  · exact pass_lt (wsOk_more hw h (Or.inr (by rename_i q; rw [q]; exact hk)))
  · exact fault_lt h 6 (by decide)
theorem deeper_le {f : PS → Tt × PS} (hf : Le ws (pUp s) (f (pUp s)).2) : Le ws s (pDeeper f s).2 := ⟨hf.k, hf.l, hf.e, hf.f⟩
theorem deeper_lt {f : PS → Tt × PS} (hf : Lt ws (pUp s) (f (pUp s)).2) : Lt ws s (pDeeper f s).2 := ⟨⟨hf.le.k, hf.le.l, hf.le.e, hf.le.f⟩, hf.on⟩
theorem until_le {t : List UInt8} {f : PS → Tt × PS} (hf : ∀ s, s.k < ws.length → Le ws s (f s).2) : ∀ (n : Nat) (s : PS), s.k < ws.length → Le ws s (pUntil ws t f n s).2 := fun n => by
  induction n with
  | zero => intro s h; exact Le.refl h
  | succ n ih =>
    intro s h
    rw [pUntil]
    split
    · split
      · exact pass_le h
      · exact (hf s h).trans (ih _ (hf s h).l)
    · exact Le.refl h
theorem more_le {f : PS → Tt × PS} (hf : ∀ s, s.k < ws.length → Le ws s (f s).2) : ∀ (n : Nat) (s : PS), s.k < ws.length → Le ws s (pMore ws f n s).2 := fun n => by
  induction n with
  | zero => intro s h; exact Le.refl h
  | succ n ih =>
    intro s h
    rw [pMore]
    split
    · have h1 := pass_le h
      have h2 := hf _ h1.l
      exact (h1.trans h2).trans (ih _ h2.l)
    · exact Le.refl h
theorem list_le {f : PS → Tt × PS} (hf : ∀ s, s.k < ws.length → Le ws s (f s).2) (h : s.k < ws.length) : Le ws s (pList ws f s).2 := by
  unfold pList
  split
  · exact Le.refl h
  · exact (hf s h).trans (more_le hf _ _ (hf s h).l)
/-- Fields that surely read something. -/
def FdEats : Fd → Bool
  | .name => true
  | .number => true
  | .word t => !t.isEmpty
  | _ => false
variable {R : Nt → PS → Tt × PS}
theorem step_le (hR : ∀ n s, s.k < ws.length → Le ws s (R n s).2) (f : Fd) (r : (List UInt8 × List Tt) × PS) (h : r.2.k < ws.length) : Le ws r.2 (fdStep ws R f r).2 := by
  cases f with
  | name =>
    show Le ws r.2 (pText ws 1 r.2).2
    unfold pText; split
    · exact pass_le h
    · exact (fault_lt h 6 (by decide)).le
  | number =>
    show Le ws r.2 (pText ws 3 r.2).2
    unfold pText; split
    · exact pass_le h
    · exact (fault_lt h 6 (by decide)).le
  | sign => exact pass_le h
  | args => exact list_le (hR .inside) h
  | part n => exact hR n _ h
  | word t =>
    show Le ws r.2 (pNeed ws t r.2)
    unfold pNeed; split
    · exact pass_le h
    · exact (fault_lt h 6 (by decide)).le
theorem step_lt (hw : WsOk ws) (f : Fd) (hf : FdEats f = true) (r : (List UInt8 × List Tt) × PS) (h : r.2.k < ws.length) : Lt ws r.2 (fdStep ws R f r).2 := by
  cases f with
  | name => exact text_lt hw h (by decide)
  | number => exact text_lt hw h (by decide)
  | sign => exact absurd hf (by simp [FdEats])
  | args => exact absurd hf (by simp [FdEats])
  | part n => exact absurd hf (by simp [FdEats])
  | word t => exact need_lt hw h (by simpa [FdEats] using hf)
theorem run_le (hR : ∀ n s, s.k < ws.length → Le ws s (R n s).2) : ∀ (fs : List Fd) (r : (List UInt8 × List Tt) × PS), r.2.k < ws.length → Le ws r.2 (fdRun ws R fs r).2 := fun fs => by
  induction fs with
  | nil => intro r h; exact Le.refl h
  | cons f fs ih => intro r h; exact (step_le hR f r h).trans (ih _ (step_le hR f r h).l)
theorem row_le (hR : ∀ n s, s.k < ws.length → Le ws s (R n s).2) (kd : List UInt8) (fs : List Fd) (ks : List Tt) (h : s.k < ws.length) : Le ws s (pRow ws R kd fs ks s).2 := run_le hR fs (([], ks), s) h
theorem row_lt (hw : WsOk ws) (hR : ∀ n s, s.k < ws.length → Le ws s (R n s).2) (kd : List UInt8) (f : Fd) (fs : List Fd) (hf : FdEats f = true) (ks : List Tt) (h : s.k < ws.length) : Lt ws s (pRow ws R kd (f :: fs) ks s).2 :=
  have h1 := step_lt hw f hf (([], ks), s) h
  h1.thn (run_le hR fs _ h1.le.l)
theorem row_sign (hR : ∀ n s, s.k < ws.length → Le ws s (R n s).2) (kd : List UInt8) (fs : List Fd) (ks : List Tt) (h : s.k + 1 < ws.length) : s.k < (pRow ws R kd (.sign :: fs) ks s).2.k ∧ Le ws s (pRow ws R kd (.sign :: fs) ks s).2 := by
  have h1 := pass_on h
  have h2 := pass_le (ws := ws) (s := s) (by omega)
  have h3 := run_le hR fs (((pSign ws s).1, ks), (pSign ws s).2) h2.l
  exact ⟨Nat.lt_of_lt_of_le h1 h3.k, h2.trans h3⟩
end
end Go.Proofs.YtablincnlfbjnabDoor
