/- PLAIN: what is known of a graph's nodes in the end is the least that fits the code. -/
import Derived.Test.YtnliooflpclcbaaGreatDoorLiveStP
import Derived.Test.YtnliooflpclcbaaGreatDoorLiveSetP
import Derived.Test.YtnliooflpclcbaaGreatDoorLiveReads1
namespace Go.Proofs.YtnliooflpclcbaaGreatDoor
set_option maxRecDepth 100000
open Go.RowKit

theorem bitP_bit (a : Int) (s : Nat) : (bitP a).testBit s = true ↔ (s : Int) = a ∧ s < 64 := by
  unfold bitP
  by_cases h : 0 ≤ a ∧ a < 64
  · rw [if_pos h, Nat.testBit_two_pow]
    simp only [decide_eq_true_eq]
    omega
  · rw [if_neg h, Nat.zero_testBit]
    constructor
    · intro h; cases h
    · intro h; omega
theorem msk_bit' : ∀ (l : List Int) (a s : Nat), (l.foldl (fun a s => a ||| bitP s) a).testBit s = true ↔ a.testBit s = true ∨ (s < 64 ∧ (s : Int) ∈ l)
  | [], a, s => by simp
  | x :: l, a, s => by
    rw [List.foldl_cons, msk_bit' l, Nat.testBit_or, Bool.or_eq_true, bitP_bit, List.mem_cons]
    constructor
    · rintro ((h | h) | h)
      · exact Or.inl h
      · exact Or.inr ⟨h.2, Or.inl h.1⟩
      · exact Or.inr ⟨h.1, Or.inr h.2⟩
    · rintro (h | ⟨h, h1 | h1⟩)
      · exact Or.inl (Or.inl h)
      · exact Or.inl (Or.inr ⟨h1, h⟩)
      · exact Or.inr ⟨h, h1⟩
theorem msk_bit (l : List Int) (s : Nat) : (mskP l).testBit s = true ↔ s < 64 ∧ (s : Int) ∈ l := by
  unfold mskP
  rw [msk_bit']
  simp
theorem allU_bit (s : Nat) : allU.testBit s = true ↔ s < 64 := by
  have := notU_bit 0 s (by decide)
  have e : notU 0 = allU := rfl
  rw [e] at this
  rw [this]
  simp
theorem notM_bit (l : List Int) (s : Nat) : (notU (mskP l)).testBit s = true ↔ s < 64 ∧ (s : Int) ∉ l := by
  rw [notU_bit _ _ (msk_lt l)]
  have h := msk_bit l s
  simp only [Bool.and_eq_true, decide_eq_true_eq, Bool.not_eq_true']
  constructor
  · rintro ⟨h1, h2⟩
    refine ⟨h1, fun hm => ?_⟩
    rw [h.2 ⟨h1, hm⟩] at h2
    cases h2
  · rintro ⟨h1, h2⟩
    refine ⟨h1, ?_⟩
    cases e : (mskP l).testBit s
    · rfl
    · exact absurd (h.1 e).2 h2
theorem kpC_bit (c : Ca) (s : Nat) : (kpC c).testBit s = true ↔ s < 64 ∧ ¬ (c.k = 0 ∧ c.v = (s : Int)) := by
  unfold kpC
  by_cases h : c.k = 0
  · rw [if_pos h, notM_bit]
    simp only [List.mem_singleton]
    constructor
    · rintro ⟨h1, h2⟩; exact ⟨h1, fun h3 => h2 h3.2.symm⟩
    · rintro ⟨h1, h2⟩; exact ⟨h1, fun h3 => h2 ⟨h, h3.symm⟩⟩
  · rw [if_neg h, allU_bit]
    constructor
    · intro h1; exact ⟨h1, fun h3 => h h3.1⟩
    · rintro ⟨h1, _⟩; exact h1
def ndAt (ns : List Nd) (k : Nat) : Nd := (ns[k]?).getD (0, 0, [])
theorem ndAt_eq {ns : List Nd} {k : Nat} {n : Nd} (h : ns[k]? = some n) : ndAt ns k = n := by unfold ndAt; rw [h]; rfl
/-- An instruction's node. -/
def InsNd (m : Md) (f : Fn) (l : List Sc) (pc : Nat) (i : In) (n : Nd) : Prop :=
  (i.op = 41 ∧ ((casesP m i.a i.b = [] ∧ n = (0, allU, [])) ∨ (∃ a c q : Nat, 1 ≤ c ∧ a + c ≤ m.ca.length ∧ casesP m i.a i.b = (m.ca.drop a).take c ∧ l[q]? = some (a, c) ∧ n = (0, allU, [((f.is.length + q : Nat) : Int)])))) ∨
  (i.op ≠ 41 ∧ n = (mskP (rdP m i), notU (mskP (wrP i)), flP m f (pc : Int)))
/-- The whole graph. -/
structure GOK (m : Md) (f : Fn) (ns : List Nd) (l : List Sc) : Prop where
  st : StOK m f.is.length ns l
  ins : ∀ (pc : Nat) (i : In), f.is[pc]? = some i → ∃ n, ns[pc]? = some n ∧ InsNd m f l pc i n
/-- X holds what is read, and goes along the ways against their direction. -/
structure ClD (m : Md) (f : Fn) (X : Nat → Nat → Prop) : Prop where
  rd : ∀ (pc : Nat) (i : In) (s : Nat), f.is[pc]? = some i → s < 64 → (s : Int) ∈ rdP m i → X pc s
  go : ∀ (pc : Nat) (i : In) (q s : Nat), f.is[pc]? = some i → i.op ≠ 41 → (q : Int) ∈ flP m f (pc : Int) → X q s → s < 64 → (s : Int) ∉ wrP i → X pc s
  se : ∀ (pc : Nat) (i : In) (c : Ca) (q s : Nat), f.is[pc]? = some i → i.op = 41 → c ∈ casesP m i.a i.b → c.t = (q : Int) → q < f.is.length → X q s → s < 64 → ¬ (c.k = 0 ∧ c.v = (s : Int)) → X pc s
theorem flP_lt (m : Md) (f : Fn) (pc : Int) (q : Int) (h : q ∈ flP m f pc) : 0 ≤ q ∧ q < (f.is.length : Int) := by
  unfold flP at h
  split at h
  · cases h
  · split at h
    · cases h
    · exact ((plP_mem _ _ _).1 h).2
theorem rdP_41 (m : Md) (i : In) (h : i.op = 41) : rdP m i = (casesP m i.a i.b).flatMap crP := by
  unfold rdP
  rw [h]
  rfl
theorem take_mem {α : Type} {l : List α} {a c : Nat} {x : α} (h : x ∈ (l.drop a).take c) : ∃ k, a ≤ k ∧ k < a + c ∧ l[k]? = some x := by
  obtain ⟨j, hj⟩ := List.mem_iff_getElem?.1 h
  rw [List.getElem?_take] at hj
  split at hj
  · rw [List.getElem?_drop] at hj
    exact ⟨a + j, by omega, by omega, hj⟩
  · cases hj
theorem mem_take {α : Type} {l : List α} {a c k : Nat} {x : α} (h1 : a ≤ k) (h2 : k < a + c) (h : l[k]? = some x) : x ∈ (l.drop a).take c := by
  refine List.mem_iff_getElem?.2 ⟨k - a, ?_⟩
  rw [List.getElem?_take, if_pos (by omega), List.getElem?_drop, show a + (k - a) = k by omega]
  exact h
section
variable {m : Md} {f : Fn} {ns : List Nd} {l : List Sc} {st : Nat → Nat}
/-- What a stretch's cases read, and what they hand on, is known of its node. -/
theorem st_up (h : GOK m f ns l) (P : PI (fun k => (ndAt ns k).2.2) (fun k => (ndAt ns k).2.1) ns.length (fun k => (ndAt ns k).1) st []) (b : Nat) :
    ∀ q, q < b → ∀ s : Sc, l[q]? = some s → ∀ (k : Nat) (c : Ca) (x : Nat), s.1 ≤ k → k < s.1 + s.2 → m.ca[k]? = some c → x < 64 → ((x : Int) ∈ crP c ∨ ∃ t : Nat, c.t = (t : Int) ∧ t < f.is.length ∧ (st t).testBit x = true ∧ ¬ (c.k = 0 ∧ c.v = (x : Int))) → (st (f.is.length + q)).testBit x = true := by
  induction b with
  | zero => intro q hq; omega
  | succ b ih =>
    intro q hq s hs k c x k1 k2 hc hx hor
    obtain ⟨n, hn, g1, g2, hnd⟩ := h.st.nd q s hs
    have hqN : f.is.length + q < ns.length := (List.getElem?_eq_some_iff.1 hn).1
    have hat := ndAt_eq hn
    rcases hnd with ⟨e1, c', hc', rfl⟩ | ⟨e2, p, q1, q2, a1, a2, a3, a4, a5, a6, rfl⟩
    · obtain rfl : k = s.1 := by omega
      rw [hc] at hc'
      cases hc'
      rcases hor with hr | ⟨t, ht, htl, hb, hk⟩
      · refine P.lo _ x hqN ?_
        show (ndAt ns (f.is.length + q)).1.testBit x = true
        rw [hat]
        exact (msk_bit _ _).2 ⟨hx, hr⟩
      · refine P.ed t _ x (by have := h.st.len; omega) (by simp) hqN ?_ hb ?_
        · show (t : Int) ∈ (ndAt ns (f.is.length + q)).2.2
          rw [hat]
          exact (plP_mem _ _ _).2 ⟨by simp [ht], by omega, by omega⟩
        · show (ndAt ns (f.is.length + q)).2.1.testBit x = true
          rw [hat]
          exact (kpC_bit _ _).2 ⟨hx, hk⟩
    · have hsub : (st (f.is.length + q1)).testBit x = true ∨ (st (f.is.length + q2)).testBit x = true := by
        by_cases hk : k < s.1 + p
        · exact Or.inl (ih q1 (by omega) _ a5 k c x k1 hk hc hx hor)
        · refine Or.inr (ih q2 (by omega) _ a6 k c x ?_ ?_ hc hx hor)
          · show s.1 + s.2 - p ≤ k
            omega
          · show k < s.1 + s.2 - p + p
            omega
      have key : ∀ qq, qq < q → (qq = q1 ∨ qq = q2) → (st (f.is.length + qq)).testBit x = true → (st (f.is.length + q)).testBit x = true := fun qq hqq hor2 hb => by
        refine P.ed (f.is.length + qq) _ x (by omega) (by simp) hqN ?_ hb ?_
        · show ((f.is.length + qq : Nat) : Int) ∈ (ndAt ns (f.is.length + q)).2.2
          rw [hat]
          rcases hor2 with rfl | rfl <;> simp
        · show (ndAt ns (f.is.length + q)).2.1.testBit x = true
          rw [hat]
          exact (allU_bit x).2 hx
      rcases hsub with hb | hb
      · exact key q1 a3 (Or.inl rfl) hb
      · exact key q2 a4 (Or.inr rfl) hb
theorem gok_up (h : GOK m f ns l) (P : PI (fun k => (ndAt ns k).2.2) (fun k => (ndAt ns k).2.1) ns.length (fun k => (ndAt ns k).1) st []) : ClD m f (fun pc s => (st pc).testBit s = true) := by
  have sel : ∀ (pc : Nat) (i : In) (c : Ca) (x : Nat), f.is[pc]? = some i → i.op = 41 → c ∈ casesP m i.a i.b → x < 64 → ((x : Int) ∈ crP c ∨ ∃ t : Nat, c.t = (t : Int) ∧ t < f.is.length ∧ (st t).testBit x = true ∧ ¬ (c.k = 0 ∧ c.v = (x : Int))) → (st pc).testBit x = true := fun pc i c x hi h41 hc hx hor => by
    obtain ⟨n, hn, hin⟩ := h.ins pc i hi
    have hat := ndAt_eq hn
    have hpN : pc < ns.length := (List.getElem?_eq_some_iff.1 hn).1
    rcases hin with ⟨_, ⟨he, _⟩ | ⟨a, d, q, d1, d2, he, hq, rfl⟩⟩ | ⟨hne, _⟩
    · rw [he] at hc; cases hc
    · rw [he] at hc
      obtain ⟨k, k1, k2, hk⟩ := take_mem hc
      have hb := st_up h P (q + 1) q (by omega) (a, d) hq k c x k1 k2 hk hx hor
      obtain ⟨n2, hn2, _⟩ := h.st.nd q _ hq
      refine P.ed (f.is.length + q) pc x (List.getElem?_eq_some_iff.1 hn2).1 (by simp) hpN ?_ hb ?_
      · show ((f.is.length + q : Nat) : Int) ∈ (ndAt ns pc).2.2
        rw [hat]
        simp
      · show (ndAt ns pc).2.1.testBit x = true
        rw [hat]
        exact (allU_bit x).2 hx
    · exact absurd h41 hne
  refine ⟨fun pc i s hi hs hr => ?_, fun pc i q s hi hne hq hb hs hw => ?_, fun pc i c q s hi h41 hc ht hq hb hs hk => sel pc i c s hi h41 hc hs (Or.inr ⟨q, ht, hq, hb, hk⟩)⟩
  · by_cases h41 : i.op = 41
    · rw [rdP_41 m i h41, List.mem_flatMap] at hr
      obtain ⟨c, hc, hr⟩ := hr
      exact sel pc i c s hi h41 hc hs (Or.inl hr)
    · obtain ⟨n, hn, hin⟩ := h.ins pc i hi
      have hat := ndAt_eq hn
      rcases hin with ⟨e, _⟩ | ⟨_, rfl⟩
      · exact absurd e h41
      · refine P.lo pc s (List.getElem?_eq_some_iff.1 hn).1 ?_
        show (ndAt ns pc).1.testBit s = true
        rw [hat]
        exact (msk_bit _ _).2 ⟨hs, hr⟩
  · obtain ⟨n, hn, hin⟩ := h.ins pc i hi
    have hat := ndAt_eq hn
    have hfl := flP_lt m f _ _ hq
    rcases hin with ⟨e, _⟩ | ⟨_, rfl⟩
    · exact absurd e hne
    · refine P.ed q pc s (by have := h.st.len; omega) (by simp) (List.getElem?_eq_some_iff.1 hn).1 ?_ hb ?_
      · show (q : Int) ∈ (ndAt ns pc).2.2
        rw [hat]
        exact hq
      · show (ndAt ns pc).2.1.testBit s = true
        rw [hat]
        exact (notM_bit _ _).2 ⟨hs, hw⟩
/-- What any X that fits the code holds of a case. -/
def CaX (f : Fn) (X : Nat → Nat → Prop) (c : Ca) (x : Nat) : Prop := x < 64 ∧ ((x : Int) ∈ crP c ∨ ∃ t : Nat, c.t = (t : Int) ∧ t < f.is.length ∧ X t x ∧ ¬ (c.k = 0 ∧ c.v = (x : Int)))
theorem gok_lo (h : GOK m f ns l) (P : PI (fun k => (ndAt ns k).2.2) (fun k => (ndAt ns k).2.1) ns.length (fun k => (ndAt ns k).1) st []) (X : Nat → Nat → Prop) (hX : ClD m f X) (pc s : Nat) (hp : pc < f.is.length) (hb : (st pc).testBit s = true) : X pc s := by
  have hlen := h.st.len
  have hcl : ClG (fun k => (ndAt ns k).2.2) (fun k => (ndAt ns k).2.1) ns.length (fun k => (ndAt ns k).1) (fun k x => (k < f.is.length → X k x) ∧ (f.is.length ≤ k → ∃ s : Sc, l[k - f.is.length]? = some s ∧ ∃ (j : Nat) (c : Ca), s.1 ≤ j ∧ j < s.1 + s.2 ∧ m.ca[j]? = some c ∧ CaX f X c x)) := by
    refine ⟨fun k x hk hx => ⟨fun hkf => ?_, fun hkf => ?_⟩, fun a q x ha hq hqa hXq hka => ⟨fun haf => ?_, fun haf => ?_⟩⟩
    · obtain ⟨i, hi⟩ : ∃ i, f.is[k]? = some i := ⟨f.is[k], List.getElem?_eq_getElem _⟩
      obtain ⟨n, hn, hin⟩ := h.ins k i hi
      replace hx : (ndAt ns k).1.testBit x = true := hx
      rw [ndAt_eq hn] at hx
      rcases hin with ⟨_, ⟨_, rfl⟩ | ⟨_, _, _, _, _, _, _, rfl⟩⟩ | ⟨hne, rfl⟩
      · simp at hx
      · simp at hx
      · obtain ⟨h1, h2⟩ := (msk_bit _ _).1 hx
        exact hX.rd k i x hi h1 h2
    · obtain ⟨s, hs⟩ : ∃ s, l[k - f.is.length]? = some s := ⟨l[k - f.is.length]'(by omega), List.getElem?_eq_getElem _⟩
      refine ⟨s, hs, ?_⟩
      obtain ⟨n, hn, g1, g2, hnd⟩ := h.st.nd _ s hs
      rw [show f.is.length + (k - f.is.length) = k by omega] at hn
      replace hx : (ndAt ns k).1.testBit x = true := hx
      rw [ndAt_eq hn] at hx
      rcases hnd with ⟨e1, c', hc', rfl⟩ | ⟨_, _, _, _, _, _, _, _, _, _, rfl⟩
      · obtain ⟨h1, h2⟩ := (msk_bit _ _).1 hx
        exact ⟨s.1, c', Nat.le_refl _, by omega, hc', h1, Or.inl h2⟩
      · simp at hx
    · obtain ⟨i, hi⟩ : ∃ i, f.is[a]? = some i := ⟨f.is[a], List.getElem?_eq_getElem _⟩
      obtain ⟨n, hn, hin⟩ := h.ins a i hi
      replace hka : (ndAt ns a).2.1.testBit x = true := hka
      replace hqa : (q : Int) ∈ (ndAt ns a).2.2 := hqa
      rw [ndAt_eq hn] at hka hqa
      rcases hin with ⟨h41, ⟨_, rfl⟩ | ⟨a', d, q', d1, d2, he, hq', rfl⟩⟩ | ⟨hne, rfl⟩
      · simp at hqa
      · have hqq : q = f.is.length + q' := by simp at hqa; omega
        obtain ⟨s, hs, j, c, j1, j2, hc, hx64, hor⟩ := hXq.2 (by omega)
        rw [hqq, Nat.add_sub_cancel_left, hq'] at hs
        cases hs
        have hmem : c ∈ casesP m i.a i.b := by rw [he]; exact mem_take j1 j2 hc
        rcases hor with hr | ⟨t, ht, htl, hXt, hk⟩
        · refine hX.rd a i x hi hx64 ?_
          rw [rdP_41 m i h41, List.mem_flatMap]
          exact ⟨c, hmem, hr⟩
        · exact hX.se a i c t x hi h41 hmem ht htl hXt hx64 hk
      · obtain ⟨h1, h2⟩ := (notM_bit _ _).1 hka
        replace hqa : (q : Int) ∈ flP m f (a : Int) := hqa
        have hfl := flP_lt m f _ _ hqa
        exact hX.go a i q x hi hne hqa (hXq.1 (by omega)) h1 h2
    · obtain ⟨s, hs⟩ : ∃ s, l[a - f.is.length]? = some s := ⟨l[a - f.is.length]'(by omega), List.getElem?_eq_getElem _⟩
      refine ⟨s, hs, ?_⟩
      obtain ⟨n, hn, g1, g2, hnd⟩ := h.st.nd _ s hs
      rw [show f.is.length + (a - f.is.length) = a by omega] at hn
      replace hka : (ndAt ns a).2.1.testBit x = true := hka
      replace hqa : (q : Int) ∈ (ndAt ns a).2.2 := hqa
      rw [ndAt_eq hn] at hka hqa
      rcases hnd with ⟨e1, c', hc', rfl⟩ | ⟨e2, p, q1, q2, a1, a2, a3, a4, a5, a6, rfl⟩
      · obtain ⟨h1, h2⟩ := (kpC_bit _ _).1 hka
        obtain ⟨m1, m2, m3⟩ := (plP_mem _ _ _).1 hqa
        simp at m1
        exact ⟨s.1, c', Nat.le_refl _, by omega, hc', h1, Or.inr ⟨q, m1.symm, by omega, hXq.1 (by omega), h2⟩⟩
      · have hqq : q = f.is.length + q1 ∨ q = f.is.length + q2 := by simp at hqa; omega
        obtain ⟨s', hs', j, c, j1, j2, hc, hcx⟩ := hXq.2 (by omega)
        rcases hqq with hqq | hqq
        · rw [hqq, Nat.add_sub_cancel_left, a5] at hs'
          cases hs'
          exact ⟨j, c, j1, by simp at j2; omega, hc, hcx⟩
        · rw [hqq, Nat.add_sub_cancel_left, a6] at hs'
          cases hs'
          exact ⟨j, c, by simp at j1; omega, by simp at j2; omega, hc, hcx⟩
  exact (P.up _ hcl pc s (by omega) hb).1 hp
end
end Go.Proofs.YtnliooflpclcbaaGreatDoor
