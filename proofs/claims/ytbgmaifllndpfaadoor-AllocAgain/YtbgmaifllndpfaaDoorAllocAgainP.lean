/- PLAIN: a heap that is filled by one class, made stale, filled again; no Go in it. -/
import Derived.Test.YtbgmaifllndpfaaDoorAllocFullP
namespace Go.Proofs.YtbgmaifllndpfaaDoor

/-- Spans 1 to q are full of the class c, span q + 1 holds r places of it (none: it has no class), the others have no class. -/
structure Fill (c : Int) (q r : Nat) (l : Al) : Prop where
  good : l.a.Good
  calm : l.Calm
  cls : ∀ s, 1 ≤ s → s < l.a.n → l.a.cls s = if s ≤ q ∨ s = q + 1 ∧ 0 < r then c else -1
  tk : ∀ s p, 1 ≤ s → s < l.a.n → (l.a.tk s).testBit p = (decide ((p : Int) < gp c) && (decide (s ≤ q) || decide (s = q + 1) && decide (p < r)))
  mr : ∀ s, s < l.a.n → l.a.mr s = 0
/-- The same, but span q + 1 has the class. -/
structure Fill1 (c : Int) (q r : Nat) (a : Ab) : Prop where
  good : a.Good
  cls : ∀ s, 1 ≤ s → s < a.n → a.cls s = if s ≤ q + 1 then c else -1
  tk : ∀ s p, 1 ≤ s → s < a.n → (a.tk s).testBit p = (decide ((p : Int) < gp c) && (decide (s ≤ q) || decide (s = q + 1) && decide (p < r)))
  mr : ∀ s, s < a.n → a.mr s = 0

section
variable {c : Int} {q r : Nat} {l : Al} {n : Int}
theorem full_of_bits {m : Nat} (h0 : 0 ≤ c) (h5 : c ≤ 5) : (m : Int) = gf c ↔ ∀ p, m.testBit p = decide ((p : Int) < gp c) := by
  obtain ⟨q, hq, hf⟩ := gf_two h0 h5
  constructor
  · intro h p
    have : m = 2 ^ q - 1 := by omega
    rw [this, Nat.testBit_two_pow_sub_one, hq]
    simp
  · intro h
    have : m = 2 ^ q - 1 := by
      refine Nat.eq_of_testBit_eq fun p => ?_
      rw [h p, Nat.testBit_two_pow_sub_one, hq]
      simp
    rw [this]; exact hf
theorem al0_fill {m : Nat} (h8 : 8 ≤ m) (h512 : m ≤ 512) : Fill c 0 0 (al0 m) := by
  refine ⟨ab0_good h8 h512, fun _ => rfl, fun s h1 _ => ?_, fun s p h1 _ => ?_, fun _ _ => rfl⟩
  · rw [if_neg (by omega)]; rfl
  · show (0 : Nat).testBit p = _
    simp
    omega
theorem Fill.full (h : Fill c q r l) (h0 : 0 ≤ c) (h5 : c ≤ 5) {t : Nat} (h1 : 1 ≤ t) (h2 : t < l.a.n) (ht : t ≤ q) : l.a.cls t = c ∧ ¬ l.a.takeE t = 0 := by
  have hc : l.a.cls t = c := by rw [h.cls t h1 h2, if_pos (Or.inl ht)]
  refine ⟨hc, ?_⟩
  rw [takeE0 h1 h2, hc]
  rintro ⟨_, hne⟩
  exact hne ((full_of_bits h0 h5).2 fun p => by rw [h.tk t p h1 h2]; simp [ht])
theorem Fill.next (h : Fill c q r l) (hn : gc n = c) (h0 : 0 ≤ c) (h5 : c ≤ 5) (hq : q + 1 < l.a.n) (hr : (r : Int) < gp c) :
    ∃ b u, Fill1 c q r b ∧ b.n = l.a.n ∧ (∀ s, u s = false) ∧ b.takeE ((q + 1 : Nat) : Int) = 0 ∧ l.take n = (⟨b.takeA ((q + 1 : Nat) : Int), u⟩, b.takeV ((q + 1 : Nat) : Int), 0) := by
  have hcq := h.cls (q + 1) (by omega) hq
  rcases take_ways h.calm (n := n) (by omega) with ⟨j, j1, j2, j3, j4, e⟩ | ⟨hno, hw⟩
  · rw [l.a.clsI_at j1 j2, hn] at j3
    have hj : j = q + 1 ∧ 0 < r := by
      by_cases hjq : j ≤ q
      · exact absurd j4 (h.full h0 h5 j1 j2 hjq).2
      · rw [h.cls j j1 j2] at j3
        split at j3
        · omega
        · omega
    obtain ⟨rfl, hr0⟩ := hj
    refine ⟨l.a, l.u, ⟨h.good, fun s s1 s2 => ?_, h.tk, h.mr⟩, rfl, h.calm, j4, e⟩
    rw [h.cls s s1 s2]
    by_cases hs : s ≤ q + 1
    · rw [if_pos (by omega), if_pos hs]
    · rw [if_neg (by omega), if_neg hs]
  · have hr0 : r = 0 := by
      apply Classical.byContradiction
      intro hr0
      rw [if_pos (by omega)] at hcq
      refine hno (q + 1) (by omega) hq (by rw [l.a.clsI_at (by omega) hq, hn]; exact hcq) ?_
      rw [takeE0 (by omega) hq, hcq]
      refine ⟨h0, fun hf => ?_⟩
      have := (full_of_bits h0 h5).1 hf r
      rw [h.tk (q + 1) r (by omega) hq] at this
      simp [hr] at this
      omega
    subst hr0
    rw [if_neg (by omega)] at hcq
    rcases hw with ⟨j, j1, j2, j3, jl, e⟩ | ⟨ha, _⟩
    · have hj : j = q + 1 := by
        have h1 : ¬ j ≤ q := fun hjq => by have := (h.full h0 h5 j1 j2 hjq).1; omega
        have h2 : ¬ q + 1 < j := fun hjq => by have := jl (q + 1) (by omega) hjq; omega
        omega
      subst hj
      rw [hn] at e
      have hok := first_ok (l := l) (c := c) j1 j2 j3 h0 h5
      refine ⟨l.a.set (q + 1) c, upd l.u (q + 1) false, ⟨h.good.set (by omega) h0 h5, fun s s1 s2 => ?_, fun s p s1 s2 => ?_, fun s hs => ?_⟩, rfl, calm_upd h.calm _, hok.2.1, e⟩
      · show upd l.a.cls (q + 1) c s = _
        by_cases es : s = q + 1
        · subst es; rw [upd_same, if_pos (Nat.le_refl _)]
        · rw [upd_other _ _ es, h.cls s s1 s2]
          by_cases hs : s ≤ q
          · rw [if_pos (Or.inl hs), if_pos (by omega)]
          · rw [if_neg (by omega), if_neg (by omega)]
      · show (upd l.a.tk (q + 1) 0 s).testBit p = _
        by_cases es : s = q + 1
        · subst es; rw [upd_same]; simp
        · rw [upd_other _ _ es]; exact h.tk s p s1 s2
      · show upd l.a.mr (q + 1) 0 s = 0
        by_cases es : s = q + 1
        · subst es; exact upd_same _ _ _
        · rw [upd_other _ _ es]; exact h.mr s hs
    · have := ha (q + 1) (by omega) hq
      omega
theorem Fill1.took {b : Ab} (h : Fill1 c q r b) (hr : (r : Int) < gp c) (he : b.takeE ((q + 1 : Nat) : Int) = 0) {u : Nat → Bool} (hu : ∀ s, u s = false) :
    ((r : Int) + 1 < gp c → Fill c q (r + 1) ⟨b.takeA ((q + 1 : Nat) : Int), u⟩) ∧ ((r : Int) + 1 = gp c → Fill c (q + 1) 0 ⟨b.takeA ((q + 1 : Nat) : Int), u⟩) := by
  have hg := h.good.takeA ((q + 1 : Nat) : Int)
  obtain ⟨t, p, et, ef, h1, h2, h3, h4, h5', h6, h7, h8, _⟩ := h.good.free he
  obtain rfl : t = q + 1 := by omega
  have hc : b.cls (q + 1) = c := by rw [h.cls (q + 1) h1 h2, if_pos (Nat.le_refl _)]
  have hp : p = r := by
    have k1 : ¬ p < r := fun hlt => by
      rw [h.tk (q + 1) p h1 h2] at h7
      rw [hc] at h6
      simp [h6, hlt] at h7
    have k2 : ¬ r < p := fun hlt => by
      have := h8 r hlt
      rw [h.tk (q + 1) r h1 h2] at this
      simp at this
      omega
    omega
  subst hp
  have eA : b.takeA ((q + 1 : Nat) : Int) = b.take (q + 1) p := by unfold Ab.takeA; rw [if_pos he, ef]; simp
  rw [eA] at hg ⊢
  have htk : ∀ s x, 1 ≤ s → s < b.n → ((b.take (q + 1) p).tk s).testBit x = (decide ((x : Int) < gp c) && (decide (s ≤ q) || decide (s = q + 1) && decide (x < p + 1))) := by
    intro s x s1 s2
    show (upd b.tk (q + 1) (b.tk (q + 1) ||| 2 ^ p) s).testBit x = _
    by_cases es : s = q + 1
    · subst es
      rw [upd_same, testBit_or_pow, h.tk (q + 1) x s1 s2]
      by_cases e : p = x
      · subst e; simp [hr]
      · have : decide (x < p + 1) = decide (x < p) := by simp; omega
        rw [this]; simp [e]
    · rw [upd_other _ _ es, h.tk s x s1 s2]
      simp [es]
  constructor
  · intro _
    refine ⟨hg, hu, fun s s1 s2 => ?_, htk, h.mr⟩
    show b.cls s = _
    rw [h.cls s s1 s2]
    by_cases hs : s ≤ q + 1
    · rw [if_pos hs, if_pos (by omega)]
    · rw [if_neg hs, if_neg (by omega)]
  · intro hrp
    refine ⟨hg, hu, fun s s1 s2 => ?_, fun s x s1 s2 => ?_, h.mr⟩
    · show b.cls s = _
      rw [h.cls s s1 s2]
      by_cases hs : s ≤ q + 1
      · rw [if_pos hs, if_pos (by omega)]
      · rw [if_neg hs, if_neg (by omega)]
    · show ((b.take (q + 1) p).tk s).testBit x = _
      rw [htk s x s1 s2]
      by_cases hx : (x : Int) < gp c
      · have : x < p + 1 := by omega
        simp only [hx, this, decide_true, Bool.true_and, Bool.and_true]
        by_cases hs : s ≤ q
        · simp [hs, show s ≤ q + 1 by omega]
        · by_cases hs2 : s = q + 1
          · simp [hs2]
          · simp [hs, hs2, show ¬ s ≤ q + 1 by omega]
      · simp [hx]
/-- Another one goes in. -/
theorem Fill.step (h : Fill c q r l) (hn : gc n = c) (h0 : 0 ≤ c) (h5 : c ≤ 5) (hq : q + 1 < l.a.n) (hr : (r : Int) < gp c) :
    (l.take n).2.2 = 0 ∧ ((r : Int) + 1 < gp c → Fill c q (r + 1) (l.take n).1) ∧ ((r : Int) + 1 = gp c → Fill c (q + 1) 0 (l.take n).1) := by
  obtain ⟨b, u, hb, bn, hu, he, e⟩ := h.next hn h0 h5 hq hr
  rw [e]
  exact ⟨rfl, hb.took hr he hu⟩
/-- No more goes in. -/
theorem Fill.stop (h : Fill c q 0 l) (hn : gc n = c) (h0 : 0 ≤ c) (h5 : c ≤ 5) (hq : q + 1 = l.a.n) : l.take n = (l, 0, 5) := by
  rcases take_ways h.calm (n := n) (by omega) with ⟨j, j1, j2, j3, j4, _⟩ | ⟨_, ⟨j, j1, j2, j3, _, _⟩ | ⟨_, e⟩⟩
  · exact absurd j4 (h.full h0 h5 j1 j2 (by omega)).2
  · have := (h.full h0 h5 j1 j2 (by omega)).1
    omega
  · exact e
/-- All that was full is swept away by the first taking. -/
theorem stale_toc (h0 : 0 ≤ c) (m : Nat) : ∀ (k s : Nat) (l : Al), 1 ≤ s → s + k = m → l.a.n = m → l.a.Good → (∀ t, t < m → l.a.mr t = 0) → (∀ t, 1 ≤ t → t < s → l.a.cls t = -1) → (∀ t, s ≤ t → t < m → l.a.cls t = c) → (∀ t, l.u t = (decide (s ≤ t) && decide (t < m))) →
    ∃ l2, Al.toc c k s l = (l2, 0, false) ∧ Fill c 0 0 l2 ∧ l2.a.n = m
  | 0, s, l, h1, hk, hn, hg, hm, hlo, hhi, hu => by
    refine ⟨l, rfl, ⟨hg, fun t => ?_, fun t t1 t2 => ?_, fun t p t1 t2 => ?_, fun t ht => hm t (by omega)⟩, hn⟩
    · rw [hu t]; simp; omega
    · rw [hlo t t1 (by omega), if_neg (by omega)]
    · rw [(hg.z t (by rw [hlo t t1 (by omega)]; decide)).1]
      simp; omega
  | k + 1, s, l, h1, hk, hn, hg, hm, hlo, hhi, hu => by
    have hcs := hhi s (Nat.le_refl _) (by omega)
    have hci : l.a.clsI s = c := by rw [l.a.clsI_at h1 (by omega)]; exact hcs
    have hus : l.u s = true := by rw [hu s]; simp; omega
    have es : l.swp s = l.sweep s := by unfold Al.swp; rw [if_pos hus]
    have ek : l.a.kept s = 0 := by unfold Ab.kept; rw [hm s (by omega)]; simp
    have ea : l.a.sweepA s = l.a.sweep s := by unfold Ab.sweepA; rw [hci, if_pos h0]; rfl
    have ec : ∀ t, (l.a.sweep s).cls t = upd l.a.cls s (-1) t := fun t => by show (if l.a.kept s = 0 then upd l.a.cls s (-1) else l.a.cls) t = _; rw [if_pos ek]
    have em : ∀ t, (l.a.sweep s).mr t = upd l.a.mr s 0 t := fun t => by show (if l.a.kept s = 0 then upd l.a.mr s 0 else l.a.mr) t = _; rw [if_pos ek]
    have e2 : (l.sweep s).a = l.a.sweep s := ea
    have eT : ¬ (l.sweep s).a.takeE s = 0 := by
      rw [e2, takeE0 h1 (by show s < l.a.n; omega), ec, upd_same]
      omega
    obtain ⟨l2, k1, k2, k3⟩ := stale_toc h0 m k (s + 1) (l.sweep s) (by omega) (by omega) (by rw [e2]; exact hn) (by rw [e2]; exact hg.sweep s)
      (fun t ht => by
        rw [e2, em]
        by_cases e : t = s
        · subst e; exact upd_same _ _ _
        · rw [upd_other _ _ e]; exact hm t ht)
      (fun t t1 t2 => by
        rw [e2, ec]
        by_cases e : t = s
        · subst e; exact upd_same _ _ _
        · rw [upd_other _ _ e]; exact hlo t t1 (by omega))
      (fun t t1 t2 => by rw [e2, ec, upd_other _ _ (by omega)]; exact hhi t (by omega) t2)
      (fun t => by
        show upd l.u s false t = _
        by_cases e : t = s
        · subst e; rw [upd_same]; simp; omega
        · rw [upd_other _ _ e, hu t]
          have : decide (s ≤ t) = decide (s + 1 ≤ t) := by simp; omega
          rw [this])
    refine ⟨l2, ?_, k2, k3⟩
    unfold Al.toc
    rw [if_pos hci, es, if_neg eT]
    exact k1
theorem Fill.stale (h : Fill c q 0 l) (hn : gc n = c) (h0 : 0 ≤ c) (h5 : c ≤ 5) (hq : q + 1 = l.a.n) : ∃ l2, Fill c 0 0 l2 ∧ l2.a.n = l.a.n ∧ l.stale.take n = l2.take n := by
  have g := h.good
  have n8 := g.ok.n0
  obtain ⟨l2, e1, e2, e3⟩ := stale_toc h0 l.a.n (l.a.n - 1) 1 l.stale (Nat.le_refl _) (by omega) rfl g h.mr (fun t t1 t2 => by omega) (fun t t1 t2 => (h.full h0 h5 t1 t2 (by omega)).1) (fun t => by
    show (decide (0 ≤ l.a.clsI t) || l.u t) = _
    rw [h.calm t, Bool.or_false]
    by_cases ht : 1 ≤ t ∧ t < l.a.n
    · rw [l.a.clsI_at ht.1 ht.2, (h.full h0 h5 ht.1 ht.2 (by omega)).1]; simp [h0, ht.1, ht.2]
    · rw [(l.a.I_no (s := t) (by omega)).1]
      simp; omega)
  refine ⟨l2, e2, e3, ?_⟩
  have t2 := toc_none e2.calm (c := c) (l2.a.n - 1) 1 fun t t1 t2 t3 _ => by
    rw [l2.a.clsI_at t1 (by omega), e2.cls t t1 (by omega), if_neg (by omega)] at t3
    omega
  have en : l.stale.a.n = l.a.n := rfl
  unfold Al.take
  rw [hn, if_neg (by omega), if_neg (by omega)]
  unfold Al.takeC
  rw [t2, en, e1]
theorem Fill.at64 (h : Fill c q 0 l) (h0 : 0 ≤ c) (h5 : c ≤ 5) (hq : 1 ≤ q) : l.a.is 64 = true := by
  have n8 := h.good.ok.n0
  have hc : l.a.cls 1 = c := by rw [h.cls 1 (Nat.le_refl _) (by omega), if_pos (by omega)]
  have hp := gp_pos h0 h5
  refine (Ab.is_iff h.good.ok 64).2 ⟨1, 0, Nat.le_refl _, by omega, by omega, by rw [hc]; simp; omega, ?_, ?_⟩
  · rw [h.tk 1 0 (Nat.le_refl _) (by omega)]
    simp; omega
  · rw [(ga_at (s := 1) (p := 0) (Nat.le_refl _) (by omega) (by omega) (h.good.ok.cr 1).2 (by rw [hc]; simp; omega)).1]
    simp
end
/-! ### counted -/
structure Ag (c : Int) (N P q r : Nat) (l : Al) : Prop where
  fill : Fill c q r l
  hn : l.a.n = N
  hq : q + 1 ≤ N
  hr : r < P
  he : q + 1 = N → r = 0
section
variable {c m : Int} {N P q r : Nat} {l : Al}
theorem Ag.start (hP : gp c = P) (h0 : 0 ≤ c) (h5 : c ≤ 5) (h : Fill c 0 0 l) (hn : l.a.n = N) (h8 : 8 ≤ N) : Ag c N P 0 0 l :=
  ⟨h, hn, by omega, by have := gp_pos h0 h5; omega, fun _ => rfl⟩
theorem Ag.step (h : Ag c N P q r l) (hP : gp c = P) (hm : gc m = c) (h0 : 0 ≤ c) (h5 : c ≤ 5) (hlt : q + 1 < N) : (l.take m).2.2 = 0 ∧ ∃ q' r', Ag c N P q' r' (l.take m).1 ∧ q' * P + r' = q * P + r + 1 := by
  have hr := h.hr
  have hn := h.hn
  obtain ⟨e, k1, k2⟩ := h.fill.step hm h0 h5 (by omega) (by omega)
  refine ⟨e, ?_⟩
  by_cases hc : r + 1 < P
  · exact ⟨q, r + 1, ⟨k1 (by omega), by rw [Al.take_n]; exact hn, by omega, hc, fun _ => by omega⟩, by omega⟩
  · refine ⟨q + 1, 0, ⟨k2 (by omega), by rw [Al.take_n]; exact hn, by omega, by omega, fun _ => rfl⟩, ?_⟩
    rw [Nat.succ_mul]
    omega
theorem Ag.bound (h : Ag c N P q r l) : q * P + r ≤ (N - 1) * P := by
  have hr := h.hr
  have hq := h.hq
  by_cases hc : q + 1 = N
  · rw [h.he hc, show q = N - 1 by omega]
    omega
  · have h1 : (q + 1) * P ≤ (N - 1) * P := Nat.mul_le_mul (by omega) (Nat.le_refl _)
    rw [Nat.succ_mul] at h1
    omega
theorem Ag.stop (h : Ag c N P q r l) (hm : gc m = c) (h0 : 0 ≤ c) (h5 : c ≤ 5) (hc : q + 1 = N) : l.take m = (l, 0, 5) ∧ q * P + r = (N - 1) * P := by
  have hf := h.fill
  have hn := h.hn
  rw [h.he hc] at hf ⊢
  exact ⟨hf.stop hm h0 h5 (by omega), by rw [show q = N - 1 by omega]; omega⟩
theorem Ag.again (h : Ag c N P q r l) (hP : gp c = P) (hm : gc m = c) (h0 : 0 ≤ c) (h5 : c ≤ 5) (h8 : 8 ≤ N) (hc : q + 1 = N) : ∃ l2, Ag c N P 0 0 l2 ∧ l.stale.take m = l2.take m := by
  have hf := h.fill
  have hn := h.hn
  rw [h.he hc] at hf
  obtain ⟨l2, k1, k2, k3⟩ := hf.stale hm h0 h5 (by omega)
  exact ⟨l2, Ag.start hP h0 h5 k1 (by omega) h8, k3⟩
theorem Ag.last (h : Ag c N P q r l) (h0 : 0 ≤ c) (h5 : c ≤ 5) (h8 : 8 ≤ N) (hc : q + 1 = N) : unsN l.u l.a.n = 0 ∧ l.a.is 64 = true := by
  have hf := h.fill
  rw [h.he hc] at hf
  exact ⟨unsN_zero _ _ fun t _ => hf.calm t, hf.at64 h0 h5 (by omega)⟩
end
end Go.Proofs.YtbgmaifllndpfaaDoor
