/- PLAIN: what is known ahead of the instructions of straight code. -/
import Derived.Test.YtiangegoglfpeaaDoorMfM
namespace Go.Proofs.YtiangegoglfpeaaDoor
set_option maxRecDepth 100000
open Go.RowKit Go.Maps Go.ChangeShapes Go.WideShapes Go.ChangeAt Go.Deep

theorem anN_0 (s : Nat) : anN 0 s = 0 := by simp [anN]
theorem point_o (k : Kn) (op : Int) : (k.point op).o = k.o := by unfold Kn.point; split <;> rfl
theorem point_y0 {k : Kn} (h : k.y = 0) (op : Int) : (k.point op).y = 0 := by unfold Kn.point; split <;> simp [h]
theorem write_y (k : Kn) (a : Int) (f : Nat) : (k.write a f).y = k.y := by unfold Kn.write; split <;> rfl
theorem write_o (k : Kn) (a : Int) (f : Nat) : (k.write a f).o = k.o := by unfold Kn.write; split <;> rfl
theorem begin_y0 {k : Kn} (h : k.y = 0) (a : Int) (yg : Bool) : (k.begin a yg).y = if yg then bitP a else 0 := by
  unfold Kn.begin
  cases yg <;> simp [Kn.forget, h, anN_0]
theorem begin_o0 {k : Kn} (h : k.o = 0) (a : Int) (yg : Bool) : (k.begin a yg).o = 0 := by
  unfold Kn.begin
  cases yg <;> simp [Kn.forget, h, anN_0]
theorem pass_y (k : Kn) (m : Md) (i : In) (h : (k.point i.op).y = 0) : (k.pass m i).y = if i.op = 25 ∨ i.op = 26 ∨ i.op = 37 ∨ i.op = 36 then bitP i.a else 0 := by
  unfold Kn.pass
  by_cases h1 : i.op = 25 ∨ i.op = 26 ∨ i.op = 37
  · rw [if_pos h1, if_pos (by omega)]
    simp only [begin_y0 h, if_true]
  · rw [if_neg h1]
    by_cases h2 : i.op = 36
    · rw [if_pos h2, if_pos (by omega)]
      simp only [Kn.hand, begin_y0 h, if_true]
    · rw [if_neg h2, if_neg (show ¬ (i.op = 25 ∨ i.op = 26 ∨ i.op = 37 ∨ i.op = 36) by omega)]
      split
      · simp [Kn.hand, begin_y0 h, h]
      · split
        · simp [Kn.hand, write_y, h]
        · split
          · simp [Kn.hand, h]
          · split
            · simp [Kn.forget, Kn.hand, h, anN_0]
            · simp [Kn.forget, h, anN_0]
theorem pass_o (k : Kn) (m : Md) (i : In) (hn : ¬ (i.op = 25 ∨ i.op = 26 ∨ i.op = 37 ∨ i.op = 36)) (h : k.o = 0) : (k.pass m i).o = 0 := by
  have ho : (k.point i.op).o = 0 := by rw [point_o, h]
  unfold Kn.pass
  rw [if_neg (by omega), if_neg (by omega)]
  split
  · simp [Kn.hand, begin_o0 ho, anN_0]
  · split
    · simp [Kn.hand, write_o, ho, anN_0]
    · split
      · simp [Kn.hand, ho, anN_0]
      · split
        · simp [Kn.forget, Kn.hand, ho, anN_0]
        · simp [Kn.forget, ho, anN_0]
theorem mk_yes {op : Int} (h : op = 25 ∨ op = 26 ∨ op = 37 ∨ op = 36) : (rwOf op).mkr = true := by
  rcases h with rfl | rfl | rfl | rfl <;> rfl
theorem bit_at (a : Int) (b : Nat) (h : (bitP a).testBit b = true) : a = (b : Int) := by
  unfold bitP at h
  split at h
  · rw [Nat.testBit_two_pow] at h
    have := of_decide_eq_true h
    omega
  · simp at h
/-- No jump, no branch, no select. -/
def Strt (f : Fn) : Prop := ∀ i ∈ f.is, i.op ≠ 18 ∧ i.op ≠ 19 ∧ i.op ≠ 41
structure PtJ (f : Fn) (s : FSt) : Prop where
  l : f.is.length ≤ s.A.length
  a : ∀ (n : Nat) (k : Kn), s.A.getD n none = some k → n < f.is.length
  z : ∀ k : Kn, s.A.getD 0 none = some k → k.y = 0 ∧ k.o = 0
  nm : (∀ i ∈ f.is, (rwOf i.op).mkr = false) → ∀ (n : Nat) (k : Kn), s.A.getD n none = some k → k.y = 0 ∧ k.o = 0
  pt : ∀ (n : Nat) (i : In) (k : Kn), f.is[n]? = some i → (rwOf i.op).pt = true → s.A.getD (n + 1) none = some k → ∀ b, k.y.testBit b = true → (rwOf i.op).mkr = true ∧ i.a = (b : Int)
theorem push_A (n : Nat) (s : FSt) : (pushS n s).A = s.A := by unfold pushS; split <;> rfl
theorem PtJ.same {f : Fn} {s s' : FSt} (h : PtJ f s) (e : s'.A = s.A) : PtJ f s' := by
  refine ⟨?_, ?_, ?_, ?_, ?_⟩ <;> rw [e]
  · exact h.l
  · exact h.a
  · exact h.z
  · exact h.nm
  · exact h.pt
theorem PtJ.put {f : Fn} {s s' : FSt} (h : PtJ f s) (n : Nat) (k : Kn) (h0 : 0 < n) (hn : n < f.is.length) (hm : (∀ i ∈ f.is, (rwOf i.op).mkr = false) → k.y = 0 ∧ k.o = 0)
    (hp : ∀ i, f.is[n - 1]? = some i → (rwOf i.op).pt = true → ∀ b, k.y.testBit b = true → (rwOf i.op).mkr = true ∧ i.a = (b : Int)) (e : s'.A = s.A.set n (some k)) : PtJ f s' := by
  have hl := h.l
  have key : ∀ (j : Nat) (q : Kn), s'.A.getD j none = some q → (j = n ∧ q = k) ∨ (j ≠ n ∧ s.A.getD j none = some q) := fun j q hq => by
    rw [e, getD_set _ _ _ _ _ (by omega)] at hq
    by_cases ej : n = j
    · rw [if_pos ej] at hq
      exact Or.inl ⟨ej.symm, (Option.some.inj hq).symm⟩
    · rw [if_neg ej] at hq
      exact Or.inr ⟨fun x => ej x.symm, hq⟩
  refine ⟨by rw [e, List.length_set]; exact hl, fun j q hq => ?_, fun q hq => ?_, fun hM j q hq => ?_, fun j i q hi hpt hq b hb => ?_⟩
  · rcases key j q hq with ⟨rfl, _⟩ | ⟨_, hq⟩
    · exact hn
    · exact h.a j q hq
  · rcases key 0 q hq with ⟨e0, _⟩ | ⟨_, hq⟩
    · omega
    · exact h.z q hq
  · rcases key j q hq with ⟨_, rfl⟩ | ⟨_, hq⟩
    · exact hm hM
    · exact h.nm hM j q hq
  · rcases key (j + 1) q hq with ⟨ej, rfl⟩ | ⟨_, hq⟩
    · exact hp i (by rw [← ej]; exact hi) hpt b hb
    · exact h.pt j i q hi hpt hq b hb
theorem PtJ.come {f : Fn} {s : FSt} (h : PtJ f s) (n : Nat) (k : Kn) (h0 : 0 < n) (hn : n < f.is.length) (hm : (∀ i ∈ f.is, (rwOf i.op).mkr = false) → k.y = 0 ∧ k.o = 0)
    (hp : ∀ i, f.is[n - 1]? = some i → (rwOf i.op).pt = true → ∀ b, k.y.testBit b = true → (rwOf i.op).mkr = true ∧ i.a = (b : Int)) : PtJ f (comeS k n s) := by
  unfold comeS
  split
  · exact h.put n k h0 hn hm hp (push_A _ _)
  · rename_i j hj
    split
    · exact h
    · refine h.put n (j.meet k) h0 hn (fun hM => ?_) (fun i hi hpt b hb => ?_) (push_A _ _)
      · obtain ⟨h1, h2⟩ := hm hM
        simp [Kn.meet, h1, h2]
      · refine hp i hi hpt b ?_
        simp only [Kn.meet, Nat.testBit_and, Bool.and_eq_true] at hb
        exact hb.2
theorem PtJ.comes {f : Fn} (k : Kn) (n : Nat) (h0 : 0 < n) (hn : n < f.is.length) (hm : (∀ i ∈ f.is, (rwOf i.op).mkr = false) → k.y = 0 ∧ k.o = 0)
    (hp : ∀ i, f.is[n - 1]? = some i → (rwOf i.op).pt = true → ∀ b, k.y.testBit b = true → (rwOf i.op).mkr = true ∧ i.a = (b : Int)) : ∀ (l : List Int) (s : FSt), PtJ f s → (∀ x ∈ l, x.toNat = n) → PtJ f (comesS k l s)
  | [], _, h, _ => h
  | x :: l, s, h, hx => by
    have : comesS k (x :: l) s = comesS k l (comeS k x.toNat s) := rfl
    rw [this, hx x List.mem_cons_self]
    exact PtJ.comes k n h0 hn hm hp l _ (h.come n k h0 hn hm hp) (fun y hy => hx y (List.mem_cons_of_mem _ hy))
theorem flG_strt (m : Md) (f : Fn) (hs : Strt f) (t : Nat) (i : In) (hi : f.is[t]? = some i) : ∀ x ∈ flG m f t, x.toNat = t + 1 ∧ t + 1 < f.is.length := by
  obtain ⟨h1, h2, h3⟩ := hs i (List.mem_of_getElem? hi)
  intro x hx
  unfold flG at hx
  rw [hi] at hx
  simp only [if_neg h3] at hx
  unfold flP at hx
  rw [if_neg (by omega), Int.toNat_natCast, hi] at hx
  obtain ⟨h4, h5, h6⟩ := (plP_mem _ _ _).1 hx
  unfold folT at h4
  rw [if_neg h1, if_neg h2] at h4
  by_cases h7 : i.op = 22
  · rw [if_pos h7] at h4; simp at h4
  · rw [if_neg h7] at h4
    by_cases h8 : i.op = 44
    · rw [if_pos h8] at h4; simp at h4
    · rw [if_neg h8, if_neg h3] at h4
      simp at h4
      omega
theorem ptj_step (m : Md) (f : Fn) (S R : List Nat) (hs : Strt f) {N : Nat} (s : FSt) (ok : FOk N s) (hq : s.Q ≠ []) (h : PtJ f s) : PtJ f (stepS (bhP m f S R) (flG m f) s) := by
  obtain ⟨_, _, _, _, h5, _, _⟩ := took_ok ok hq
  have hA := getD_of (d := none) h5
  have ht := h.a _ _ hA
  obtain ⟨i, hi⟩ : ∃ i, f.is[topS s]? = some i := ⟨_, List.getElem?_eq_getElem ht⟩
  have hfl := flG_strt m f hs _ i hi
  have hT : PtJ f (tookS s) := h.same rfl
  unfold stepS
  have hb : bhP m f S R (topS s) (kAt s (topS s)) = (kAt s (topS s)).pass m i := by
    unfold bhP
    rw [hi]
    simp only [if_neg (hs i (List.mem_of_getElem? hi)).2.2]
  rw [hb]
  by_cases hlt : topS s + 1 < f.is.length
  · refine PtJ.comes _ (topS s + 1) (by omega) hlt (fun hM => ?_) (fun j hj hpt b hbt => ?_) _ _ hT (fun x hx => (hfl x hx).1)
    · obtain ⟨h1, h2⟩ := h.nm hM _ _ hA
      have hno : ¬ (i.op = 25 ∨ i.op = 26 ∨ i.op = 37 ∨ i.op = 36) := fun hc => by
        have := hM i (List.mem_of_getElem? hi)
        rw [mk_yes hc] at this
        cases this
      exact ⟨by rw [pass_y _ _ _ (point_y0 h1 _), if_neg hno], pass_o _ _ _ hno h2⟩
    · have e : topS s + 1 - 1 = topS s := by omega
      rw [e, hi] at hj
      cases hj
      have hy : ((kAt s (topS s)).point i.op).y = 0 := by unfold Kn.point; rw [if_pos hpt]
      rw [pass_y _ _ _ hy] at hbt
      by_cases hc : i.op = 25 ∨ i.op = 26 ∨ i.op = 37 ∨ i.op = 36
      · rw [if_pos hc] at hbt
        exact ⟨mk_yes hc, bit_at _ _ hbt⟩
      · rw [if_neg hc] at hbt
        simp at hbt
  · have e : flG m f (topS s) = [] := by
      cases hh : flG m f (topS s) with
      | nil => rfl
      | cons x l => exact absurd (hfl x (by rw [hh]; exact List.mem_cons_self)).2 hlt
    rw [e]
    exact hT
theorem st0_none (N n : Nat) : (st0 N).A.getD n none = none := by
  unfold st0
  rw [List.getD_eq_getElem?_getD, List.getElem?_replicate]
  split <;> rfl
theorem ptj_end (m : Md) (f : Fn) (S R : List Nat) (hs : Strt f) : PtJ f (setP m f S R) := by
  have hb := fun n k (hk : k.Ok) => bh_ok m f S R n k hk
  have hfl : ∀ n, n < f.is.length + 2 * m.ca.length → ∀ x ∈ flG m f n, 0 ≤ x ∧ x < ((f.is.length + 2 * m.ca.length : Nat) : Int) := fun n _ x hx => flG_mem m f n x hx
  unfold setP
  by_cases h0 : f.is.length = 0
  · rw [if_pos h0]
    exact ⟨by rw [h0]; omega, (fun n k hk => by rw [st0_none] at hk; cases hk), (fun k hk => by rw [st0_none] at hk; cases hk), (fun _ n k hk => by rw [st0_none] at hk; cases hk), (fun n i k _ _ hk => by rw [st0_none] at hk; cases hk)⟩
  · rw [if_neg h0]
    generalize hN : f.is.length + 2 * m.ca.length = N at hfl
    have hNp : 0 < N := by omega
    have ok := (come_ok (st0_ok N) Kn.zero_ok hNp).1
    refine run_keeps hb hfl (PtJ f) (fun s ok hq h => ptj_step m f S R hs s ok hq h) _ _ ok ?_
    have eA : (comeS Kn.zero 0 (st0 N)).A = (st0 N).A.set 0 (some Kn.zero) := by
      unfold comeS
      rw [st0_none]
      exact push_A _ _
    have hlen : (st0 N).A.length = N := by simp [st0]
    have key : ∀ (j : Nat) (q : Kn), (comeS Kn.zero 0 (st0 N)).A.getD j none = some q → j = 0 ∧ q = Kn.zero := fun j q hq => by
      rw [eA, getD_set _ _ _ _ _ (by omega), st0_none] at hq
      by_cases e : 0 = j
      · rw [if_pos e] at hq
        exact ⟨e.symm, (Option.some.inj hq).symm⟩
      · rw [if_neg e] at hq
        cases hq
    refine ⟨by rw [eA, List.length_set, hlen]; omega, fun n k hk => by rw [(key n k hk).1]; omega, fun k hk => by rw [(key 0 k hk).2]; exact ⟨rfl, rfl⟩, fun _ n k hk => by rw [(key n k hk).2]; exact ⟨rfl, rfl⟩, fun n i k _ _ hk => ?_⟩
    have := (key (n + 1) k hk).1
    omega
end Go.Proofs.YtiangegoglfpeaaDoor
