/- PLAIN: what is marked is there behind any sweeping and taking; no Go in it. -/
import Derived.Test.YtbgmaifllndpfaaDoorAllocPlain
import Derived.Test.YtbgmaifllndpfaaDoorApartPlain
namespace Go.Proofs.YtbgmaifllndpfaaDoor

/-- A place that is taken and marked begins at x; its first word is v. -/
def Kp (a : Ab) (x v : Int) : Prop :=
  ∃ s p : Nat, 1 ≤ s ∧ s < a.n ∧ 0 ≤ a.cls s ∧ (p : Int) < gp (a.cls s) ∧ (a.tk s).testBit p = true ∧ (a.mr s).testBit p = true ∧ x = ga s p (a.cls s) ∧ a.wd x = v

theorem Kp.is {a : Ab} (g : a.Good) {x v : Int} (h : Kp a x v) : a.is x = true := by
  obtain ⟨s, p, h1, h2, h3, h4, h5, _, h7, _⟩ := h
  exact (Ab.is_iff g.ok x).2 ⟨s, p, h1, h2, h3, h4, h5, h7⟩

theorem Kp.sweep {a : Ab} {x v : Int} (h : Kp a x v) (t : Int) : Kp (a.sweepA t) x v := by
  unfold Ab.sweepA
  split
  · obtain ⟨s, p, h1, h2, h3, h4, h5, h6, h7, h8⟩ := h
    refine ⟨s, p, h1, h2, ?_⟩
    show 0 ≤ (if a.kept t.toNat = 0 then upd a.cls t.toNat (-1) else a.cls) s ∧ (p : Int) < gp ((if a.kept t.toNat = 0 then upd a.cls t.toNat (-1) else a.cls) s) ∧ (upd a.tk t.toNat (a.kept t.toNat) s).testBit p = true ∧
      ((if a.kept t.toNat = 0 then upd a.mr t.toNat 0 else a.mr) s).testBit p = true ∧ x = ga s p ((if a.kept t.toNat = 0 then upd a.cls t.toNat (-1) else a.cls) s) ∧ a.wd x = v
    by_cases e : s = t.toNat
    · subst e
      have hb : (a.kept t.toNat).testBit p = true := by rw [kept_bit, h5, h6]; rfl
      have hz : ¬ a.kept t.toNat = 0 := by intro hz; rw [hz] at hb; simp at hb
      rw [if_neg hz, if_neg hz, upd_same]
      exact ⟨h3, h4, hb, h6, h7, h8⟩
    · have e1 : (if a.kept t.toNat = 0 then upd a.cls t.toNat (-1) else a.cls) s = a.cls s := by split; exact upd_other _ _ e; rfl
      have e2 : (if a.kept t.toNat = 0 then upd a.mr t.toNat 0 else a.mr) s = a.mr s := by split; exact upd_other _ _ e; rfl
      rw [e1, e2, upd_other _ _ e]
      exact ⟨h3, h4, h5, h6, h7, h8⟩
  · exact h
theorem Kp.set {a : Ab} {x v : Int} (h : Kp a x v) (t c : Int) : Kp (a.setA t c) x v := by
  unfold Ab.setA
  split
  · rename_i e
    obtain ⟨s, p, h1, h2, h3, h4, h5, h6, h7, h8⟩ := h
    have es : s ≠ t.toNat := by
      intro es
      unfold Ab.setE at e
      split at e
      · omega
      · rename_i hh
        have et : t = (s : Int) := by omega
        rw [et, a.clsI_at h1 h2, if_pos h3] at e
        omega
    refine ⟨s, p, h1, h2, ?_⟩
    show 0 ≤ upd a.cls t.toNat c s ∧ (p : Int) < gp (upd a.cls t.toNat c s) ∧ (upd a.tk t.toNat 0 s).testBit p = true ∧ (upd a.mr t.toNat 0 s).testBit p = true ∧ x = ga s p (upd a.cls t.toNat c s) ∧ a.wd x = v
    rw [upd_other _ _ es, upd_other _ _ es, upd_other _ _ es]
    exact ⟨h3, h4, h5, h6, h7, h8⟩
  · exact h

/-- A place that is taken anew was not taken. -/
theorem took_new {b : Ab} (g : b.Good) {s : Int} (e : b.takeE s = 0) : b.is (b.takeV s) = false := by
  obtain ⟨t, p, rfl, ef, h1, h2, h3, h4, h5, h6, h7, h8, _⟩ := g.free e
  have eV : b.takeV t = ga t p (b.cls t) := by unfold Ab.takeV; rw [if_pos e, ef, h4]
  rw [← Bool.not_eq_true, eV, Ab.is_iff g.ok]
  rintro ⟨s', p', k1, k2, k3, k4, k5, k6⟩
  obtain ⟨rfl, rfl⟩ := ga_inj g.ok h1 h2 h3 h6 k1 k2 k3 k4 k6
  rw [h7] at k5
  cases k5
theorem Kp.take {a : Ab} (g : a.Good) {x v : Int} (h : Kp a x v) {t : Int} (e : a.takeE t = 0) : Kp (a.takeA t) x v := by
  obtain ⟨u, q, rfl, ef, k1, k2, k3, k4, k5, k6, k7, k8, _⟩ := g.free e
  have eA : a.takeA u = a.take u q := by unfold Ab.takeA; rw [if_pos e, ef]; rfl
  rw [eA]
  obtain ⟨s, p, h1, h2, h3, h4, h5, h6, h7, h8⟩ := h
  refine ⟨s, p, h1, h2, h3, h4, ?_, h6, h7, ?_⟩
  · show (upd a.tk u (a.tk u ||| 2 ^ q) s).testBit p = true
    by_cases es : s = u
    · subst es; rw [upd_same, testBit_or_pow, h5]; rfl
    · rw [upd_other _ _ es]; exact h5
  · show (if ga u q (a.cls u) ≤ x ∧ x < ga u q (a.cls u) + gw (a.cls u) then 0 else a.wd x) = v
    rw [if_neg ?_]
    · exact h8
    · intro hx
      have hg : 2 ≤ gw (a.cls s) := by rcases gw_gp (a.cls s) with ⟨_, y⟩ | ⟨_, y, _⟩ <;> omega
      refine places_apart g.ok h1 h2 h3 h4 k1 k2 k3 k6 ?_ (x := x) (by rw [h7]; omega) hx
      rintro ⟨rfl, rfl⟩
      rw [k7] at h5
      cases h5
theorem Kp.mark {a : Ab} {x v : Int} (h : Kp a x v) (y : Int) : Kp (a.markA y) x v := by
  unfold Ab.markA
  split
  · obtain ⟨s, p, h1, h2, h3, h4, h5, h6, h7, h8⟩ := h
    refine ⟨s, p, h1, h2, h3, h4, h5, ?_, h7, h8⟩
    show (upd a.mr (gs y).toNat (a.mr (gs y).toNat ||| 2 ^ (a.pl y).toNat) s).testBit p = true
    by_cases es : s = (gs y).toNat
    · subst es; rw [upd_same, testBit_or_pow, h6]; rfl
    · rw [upd_other _ _ es]; exact h6
  · exact h
theorem Kp.write {a : Ab} (g : a.Good) {x v y k u : Int} (h : Kp a x v) (hw : a.inW y k = true) (hne : x ≠ y) : Kp (a.writeA y k u) x v := by
  have hx := h.is g
  unfold Ab.writeA
  rw [if_pos hw]
  unfold Ab.inW at hw
  simp only [Bool.and_eq_true, decide_eq_true_eq] at hw
  obtain ⟨s, p, h1, h2, h3, h4, h5, h6, h7, h8⟩ := h
  refine ⟨s, p, h1, h2, h3, h4, h5, h6, h7, ?_⟩
  show (if x = y + k then u else a.wd x) = v
  rw [if_neg ?_]
  · exact h8
  · have n1 := g.ok.n1
    have hgs : gs x = s := by rw [h7]; exact (ga_at (s := s) (p := p) h1 (by omega) h3 (g.ok.cr s).2 h4).2.1
    have hg : 2 ≤ gw (a.cls s) := by rcases gw_gp (a.cls s) with ⟨_, z⟩ | ⟨_, z, _⟩ <;> omega
    have := g.disj hx hw.1.1 hne (j := 0) (k := k) ⟨by omega, by rw [hgs, a.clsI_at h1 h2]; omega⟩ ⟨hw.1.2, hw.2⟩
    omega

/-- All of a list, each with 1000 and its address as its word. -/
def Kps (a : Ab) (ks : List Int) : Prop := ∀ x ∈ ks, Kp a x (1000 + x)
/-- What is taken is none of them. -/
theorem Kps.takes {l : Al} {ks : List Int} (g : l.a.Good) (h : Kps l.a ks) (n : Int) :
    Kps (l.take n).1.a ks ∧ ((l.take n).2.2 = 0 → (l.take n).1.a.is (l.take n).2.1 = true ∧ 0 < (l.take n).2.1 ∧ ∀ x ∈ ks, x ≠ (l.take n).2.1) := by
  rcases Al.take_ind (P := fun b => b.Good ∧ Kps b ks) (fun _ s h => ⟨h.1.sweepA' s, fun x hx => (h.2 x hx).sweep s⟩) (fun _ s c h => ⟨h.1.setA' s c, fun x hx => (h.2 x hx).set s c⟩) n ⟨g, h⟩ with ⟨e, _, k⟩ | ⟨e, b, t, ⟨gb, kb⟩, hb, ea, ev⟩
  · exact ⟨k, fun h0 => absurd h0 e⟩
  · rw [ea, ev]
    refine ⟨fun x hx => (kb x hx).take gb hb, fun _ => ?_⟩
    obtain ⟨t0, t1⟩ := took_is gb hb
    refine ⟨t1, t0, fun x hx hxe => ?_⟩
    have h1 := (kb x hx).is gb
    rw [hxe, took_new gb hb] at h1
    cases h1
/-- One more: marked, and written. -/
theorem Kps.keep {a : Ab} {ks : List Int} (g : a.Good) (h : Kps a ks) {x : Int} (hx : a.is x = true) (hne : ∀ y ∈ ks, y ≠ x) : (a.markA x).Good ∧ ((a.markA x).writeA x 0 (1000 + x)).Good ∧ Kps ((a.markA x).writeA x 0 (1000 + x)) (ks ++ [x]) := by
  obtain ⟨s, p, h1, h2, h3, h4, h5, h6⟩ := (Ab.is_iff g.ok x).1 hx
  have n1 := g.ok.n1
  obtain ⟨_, e1, e2, _⟩ := ga_at (s := s) (p := p) h1 (by omega) h3 (g.ok.cr s).2 h4
  rw [← h6] at e1 e2
  have epl : a.pl x = p := by unfold Ab.pl; rw [e1, a.clsI_at h1 h2, e2]
  have gm : (a.markA x).Good := by
    unfold Ab.markA; split
    · rw [e1, epl]; exact g.mark (by simpa using h5)
    · exact g
  have hm : (a.markA x).n = a.n ∧ (a.markA x).cls = a.cls ∧ (a.markA x).tk = a.tk ∧ ((a.markA x).mr s).testBit p = true := by
    unfold Ab.markA; split
    · refine ⟨rfl, rfl, rfl, ?_⟩
      rw [e1, epl]
      show (upd a.mr ((s : Int)).toNat _ s).testBit p = true
      simp only [Int.toNat_natCast]
      rw [upd_same, testBit_or_pow]; simp
    · rename_i hb
      refine ⟨rfl, rfl, rfl, ?_⟩
      unfold Ab.markB at hb
      rw [hx] at hb
      have : a.isM x = true := by simpa using hb
      unfold Ab.isM at this
      rw [e1, epl, (a.I_at h1 h2).2.2] at this
      simpa using this
  have his : (a.markA x).is x = true := (Ab.is_iff gm.ok x).2 ⟨s, p, h1, by rw [hm.1]; exact h2, by rw [hm.2.1]; exact h3, by rw [hm.2.1]; exact h4, by rw [hm.2.2.1]; exact h5, by rw [hm.2.1]; exact h6⟩
  have hg : 2 ≤ gw (a.cls s) := by rcases gw_gp (a.cls s) with ⟨_, z⟩ | ⟨_, z, _⟩ <;> omega
  have hin : (a.markA x).inW x 0 = true := by
    unfold Ab.inW
    rw [his, e1, (a.markA x).clsI_at h1 (by rw [hm.1]; exact h2), hm.2.1]
    simp
    omega
  refine ⟨gm, ?_, ?_⟩
  · unfold Ab.writeA; rw [if_pos hin]; exact gm.write _ _
  · intro y hy
    rcases List.mem_append.1 hy with hy | hy
    · exact ((h y hy).mark x).write gm hin (hne y hy)
    · obtain rfl : y = x := by simpa using hy
      unfold Ab.writeA
      rw [if_pos hin]
      refine ⟨s, p, h1, by show s < (a.markA y).n; rw [hm.1]; exact h2, by show 0 ≤ (a.markA y).cls s; rw [hm.2.1]; exact h3, by show (p : Int) < gp ((a.markA y).cls s); rw [hm.2.1]; exact h4, by show ((a.markA y).tk s).testBit p = true; rw [hm.2.2.1]; exact h5, hm.2.2.2, by show y = ga s p ((a.markA y).cls s); rw [hm.2.1]; exact h6, ?_⟩
      show (if y = y + 0 then 1000 + y else (a.markA y).wd y) = 1000 + y
      rw [if_pos (by omega)]
theorem Kps.read {a : Ab} {ks : List Int} (g : a.Good) (h : Kps a ks) {x : Int} (hx : x ∈ ks) : a.readE x 0 = 0 ∧ a.readV x 0 = 1000 + x := by
  have hk := h x hx
  have hi := hk.is g
  obtain ⟨s, p, h1, h2, h3, h4, h5, _, h6, h8⟩ := hk
  have n1 := g.ok.n1
  obtain ⟨_, e1, e2, _⟩ := ga_at (s := s) (p := p) h1 (by omega) h3 (g.ok.cr s).2 h4
  rw [← h6] at e1 e2
  have hg : 2 ≤ gw (a.cls s) := by rcases gw_gp (a.cls s) with ⟨_, z⟩ | ⟨_, z, _⟩ <;> omega
  have hin : a.inW x 0 = true := by
    unfold Ab.inW
    rw [hi, e1, a.clsI_at h1 h2]
    simp
    omega
  unfold Ab.readE Ab.readV
  rw [if_pos hin, if_pos hin, Int.add_zero]
  exact ⟨rfl, h8⟩

/-! ### how many are unswept -/
theorem unsN_le (u : Nat → Bool) : ∀ k, unsN u k ≤ k
  | 0 => Nat.le_refl _
  | k + 1 => by have := unsN_le u k; unfold unsN; split <;> omega
theorem leastU_none (u : Nat → Bool) : ∀ (k s : Nat), leastU u k s = none → ∀ t, s ≤ t → t < s + k → u t = false
  | 0, _, _, t, h1, h2 => by omega
  | k + 1, s, h, t, h1, h2 => by
    unfold leastU at h
    split at h
    · cases h
    · rename_i hu
      by_cases e : t = s
      · subst e; simpa using hu
      · exact leastU_none u k (s + 1) h t (by omega) (by omega)
theorem leastU_some (u : Nat → Bool) : ∀ (k s t : Nat), leastU u k s = some t → s ≤ t ∧ t < s + k ∧ u t = true ∧ ∀ r, s ≤ r → r < t → u r = false
  | 0, _, _, h => by cases h
  | k + 1, s, t, h => by
    unfold leastU at h
    split at h
    · rename_i hu
      injection h with h
      subst h
      exact ⟨Nat.le_refl _, by omega, hu, fun r h1 h2 => by omega⟩
    · rename_i hu
      obtain ⟨h1, h2, h3, h4⟩ := leastU_some u k (s + 1) t h
      refine ⟨by omega, by omega, h3, fun r r1 r2 => ?_⟩
      by_cases e : r = s
      · subst e; simpa using hu
      · exact h4 r (by omega) r2
theorem unsN_zero (u : Nat → Bool) : ∀ k, (∀ t, t < k → u t = false) → unsN u k = 0
  | 0, _ => rfl
  | k + 1, h => by unfold unsN; rw [unsN_zero u k (fun t ht => h t (by omega)), h k (by omega)]; rfl
theorem unsN_upd (u : Nat → Bool) {s : Nat} (hu : u s = true) : ∀ k, unsN (upd u s false) k + (if s < k then 1 else 0) = unsN u k
  | 0 => rfl
  | k + 1 => by
    have := unsN_upd u hu k
    show unsN (upd u s false) k + (if upd u s false k = true then 1 else 0) + (if s < k + 1 then 1 else 0) = unsN u k + if u k = true then 1 else 0
    by_cases e : k = s
    · subst e
      rw [if_neg (Nat.lt_irrefl _)] at this
      rw [upd_same, hu]
      simp
      omega
    · rw [upd_other _ _ e]
      by_cases h : s < k
      · rw [if_pos h] at this
        rw [if_pos (show s < k + 1 by omega)]
        omega
      · rw [if_neg h] at this
        rw [if_neg (show ¬ s < k + 1 by omega)]
        omega
end Go.Proofs.YtbgmaifllndpfaaDoor
