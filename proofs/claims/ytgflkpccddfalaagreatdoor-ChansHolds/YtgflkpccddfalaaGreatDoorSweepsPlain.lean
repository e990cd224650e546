/- PLAIN: what ArenaSweeps does to one span; no Go in it. -/
import Derived.Test.YtgflkpccddfalaaGreatDoorArenaBase
namespace Go.Proofs.YtgflkpccddfalaaGreatDoor
set_option maxRecDepth 100000

/-- What is written into the place p. -/
def vx (v : Int) (p : Nat) : Int := bits .xor .i64 v (p : Int)

/-- Span 1 has the class c, its first k places are taken, of these the first q are marked where marks says so; the first word of each is told. -/
structure Sw (a : Ab) (c : Int) (k : Nat) (v : Int) (q marks : Nat) : Prop where
  n : a.n = 8
  cls : a.cls 1 = c
  tk : ∀ p, (a.tk 1).testBit p = decide (p < k)
  mr : ∀ p, (a.mr 1).testBit p = (decide (p < q) && marks.testBit p)
  wd : ∀ p : Nat, p < k → a.wd (64 + p * gw c) = vx v p

def keptN (marks q : Nat) : Nat := ((List.range q).filter fun p => marks.testBit p).length
theorem keptN_succ (marks q : Nat) : keptN marks (q + 1) = keptN marks q + if marks.testBit q = true then 1 else 0 := by
  unfold keptN
  rw [List.range_succ, List.filter_append, List.length_append]
  congr 1
  by_cases h : marks.testBit q = true <;> simp [h]
theorem keptN_le (marks q : Nat) : keptN marks q ≤ q := by
  unfold keptN
  have := List.length_filter_le (fun p => marks.testBit p) (List.range q)
  simpa using this
theorem keptN_zero (marks : Nat) : ∀ q, keptN marks q = 0 ↔ ∀ p, p < q → marks.testBit p = false
  | 0 => by simp [keptN]
  | q + 1 => by
    rw [keptN_succ, Nat.add_eq_zero_iff, keptN_zero marks q]
    constructor
    · rintro ⟨h1, h2⟩ p hp
      by_cases e : p = q
      · subst e
        by_cases h : marks.testBit p = true
        · rw [if_pos h] at h2; omega
        · simpa using h
      · exact h1 p (by omega)
    · intro h
      refine ⟨fun p hp => h p (by omega), ?_⟩
      rw [if_neg (by rw [h q (by omega)]; decide)]
theorem keptN_all (marks : Nat) : ∀ q, (∀ p, p < q → marks.testBit p = true) → keptN marks q = q
  | 0, _ => rfl
  | q + 1, h => by rw [keptN_succ, keptN_all marks q (fun p hp => h p (by omega)), if_pos (h q (by omega))]

theorem range_part (k : Nat) (g : Nat → Bool) : ∀ m, k ≤ m → ((List.range m).filter fun p => decide (p < k) && g p) = (List.range k).filter g
  | 0, h => by obtain rfl : k = 0 := by omega
               rfl
  | m + 1, h => by
    by_cases e : k = m + 1
    · subst e
      refine List.filter_congr fun p hp => ?_
      have : p < m + 1 := by simpa using hp
      simp [this]
    · rw [List.range_succ, List.filter_append, range_part k g m (by omega)]
      simp [show ¬ m < k by omega]
theorem notkept (marks : Nat) : ∀ k, ((List.range k).filter fun p => !marks.testBit p).length + keptN marks k = k
  | 0 => rfl
  | k + 1 => by
    have := notkept marks k
    rw [keptN_succ, List.range_succ, List.filter_append, List.length_append]
    by_cases h : marks.testBit k = true
    · simp [h]; omega
    · simp [h]; omega

theorem gp_pos {c : Int} (h0 : 0 ≤ c) (h5 : c ≤ 5) : 2 ≤ gw c ∧ 1 ≤ gp c ∧ gp c ≤ 32 ∧ gw c ≤ 64 := by
  rcases cls c with h | h | h | h | h | h | h | h
  · omega
  · omega
  all_goals (subst h; decide)
theorem gf_two {c : Int} (h0 : 0 ≤ c) (h5 : c ≤ 5) : ∃ g : Nat, gp c = g ∧ ((2 ^ g - 1 : Nat) : Int) = gf c := by
  rcases cls c with h | h | h | h | h | h | h | h
  · omega
  · omega
  all_goals (subst h; exact ⟨_, rfl, by decide⟩)

theorem sw_start {c : Int} (h0 : 0 ≤ c) (h5 : c ≤ 5) (v : Int) (marks : Nat) : (ab0 8).setE 1 c = 0 ∧ Sw ((ab0 8).setA 1 c) c 0 v 0 marks := by
  have e : (ab0 8).setE 1 c = 0 := by
    unfold Ab.setE
    rw [if_neg (by show ¬ (¬ ((1 : Int) ≤ 1 ∧ (1 : Int) < ((8 : Nat) : Int)) ∨ c < 0 ∨ 5 < c); omega), if_neg (by decide +kernel)]
  refine ⟨e, ?_⟩
  unfold Ab.setA
  rw [if_pos e]
  exact ⟨rfl, by show upd (fun _ => (-1 : Int)) 1 c 1 = c; exact upd_same _ _ _, fun p => by show (upd (fun _ => 0) 1 0 1 : Nat).testBit p = _; rw [upd_same]; simp, fun p => by show (upd (fun _ => 0) 1 0 1 : Nat).testBit p = _; rw [upd_same]; simp, fun p hp => by omega⟩

section
variable {a : Ab} {c v : Int} {k q marks : Nat}

theorem Sw.I (h : Sw a c k v q marks) : a.clsI 1 = c ∧ a.tkI 1 = a.tk 1 ∧ a.mrI 1 = a.mr 1 := by
  obtain ⟨e0, e1, e2⟩ := a.I_at (s := 1) (by omega) (by rw [h.n]; omega)
  exact ⟨e0.trans h.cls, e1, e2⟩
theorem Sw.addr (h0 : 0 ≤ c) (h5 : c ≤ 5) {p : Nat} (hp : (p : Int) < gp c) : ga (1 : Nat) p c = 64 + p * gw c := by
  rw [(ga_at (s := 1) (p := p) (by omega) (by omega) h0 h5 hp).1]; simp
theorem Sw.full (h : Sw a c k v q marks) (h0 : 0 ≤ c) (h5 : c ≤ 5) (hk : (k : Int) = gp c) : a.takeE 1 = 5 ∧ a.takeV 1 = 0 ∧ a.takeA 1 = a := by
  obtain ⟨i0, i1, _⟩ := h.I
  obtain ⟨g, hg, hgf⟩ := gf_two h0 h5
  have e : a.tk 1 = 2 ^ k - 1 := Nat.eq_of_testBit_eq fun p => by rw [h.tk p, Nat.testBit_two_pow_sub_one]
  have e5 : a.takeE 1 = 5 := by
    unfold Ab.takeE
    rw [i0, i1, if_neg (by omega), if_pos]
    rw [e, ← hgf]
    congr 3
    omega
  refine ⟨e5, ?_, ?_⟩
  · unfold Ab.takeV; rw [e5]; rfl
  · unfold Ab.takeA; rw [e5]; rfl
theorem Sw.take (h : Sw a c k v 0 marks) (g : a.Good) (h0 : 0 ≤ c) (h5 : c ≤ 5) (hk : (k : Int) < gp c) :
    a.takeE 1 = 0 ∧ a.takeV 1 = 64 + k * gw c ∧ Sw ((a.takeA 1).writeA (64 + k * gw c) 0 (vx v k)) c (k + 1) v 0 marks := by
  obtain ⟨i0, i1, i2⟩ := h.I
  obtain ⟨gg, hg, hgf⟩ := gf_two h0 h5
  have hne : ¬ (a.tk 1 : Int) = gf c := by
    intro e
    have e2 : a.tk 1 = 2 ^ gg - 1 := by omega
    have := h.tk k
    rw [e2, Nat.testBit_two_pow_sub_one] at this
    simp at this
    omega
  have e0 : a.takeE 1 = 0 := by
    unfold Ab.takeE
    rw [i0, i1, if_neg (by omega), if_neg hne]
  obtain ⟨s, p, es, ef, h1, h2, h3, h4, h5', h6, h7, h8, _⟩ := g.free e0
  obtain rfl : s = 1 := by omega
  have hpk : p = k := by
    rw [h.tk p] at h7
    have h7 : ¬ p < k := by simpa using h7
    rcases Nat.lt_or_ge k p with hlt | hge
    · have := h8 k hlt
      rw [h.tk k] at this
      simp at this
    · omega
  subst hpk
  have eA : a.takeA 1 = a.take 1 p := by unfold Ab.takeA; rw [if_pos e0, ef]; rfl
  have ad := Sw.addr h0 h5 hk
  have ad' : ga (1 : Int) p c = 64 + p * gw c := ad
  have eV : a.takeV 1 = 64 + p * gw c := by unfold Ab.takeV; rw [if_pos e0, ef, i0]; exact ad'
  refine ⟨e0, eV, ?_⟩
  have gA : (a.take 1 p).Good := by rw [← eA]; exact g.takeA 1
  have hgw := gp_pos h0 h5
  have hcls : (a.take 1 p).cls 1 = c := h.cls
  have htk : ∀ r, ((a.take 1 p).tk 1).testBit r = decide (r < p + 1) := by
    intro r
    show (upd a.tk 1 (a.tk 1 ||| 2 ^ p) 1).testBit r = _
    rw [upd_same, testBit_or_pow, h.tk r]
    by_cases e : p = r
    · subst e; simp
    · simp [e]; omega
  have his : (a.take 1 p).is (64 + p * gw c) = true := by
    rw [Ab.is_iff gA.ok]
    exact ⟨1, p, by omega, by show 1 < a.n; rw [h.n]; omega, by rw [hcls]; exact h0, by rw [hcls]; exact hk, by rw [htk]; simp, by rw [hcls]; exact ad.symm⟩
  have hgs : gs (64 + p * gw c) = 1 := by
    have := (ga_at (s := 1) (p := p) (by omega) (by omega) h0 h5 hk).2.1
    rw [ad] at this
    simpa using this
  have hin : (a.take 1 p).inW (64 + p * gw c) 0 = true := by
    unfold Ab.inW
    rw [his, hgs]
    have : (a.take 1 p).clsI 1 = c := (Ab.I_at (a.take 1 p) (s := 1) (by omega) (by show 1 < a.n; rw [h.n]; omega)).1.trans hcls
    rw [this]
    simp
    omega
  rw [eA]
  unfold Ab.writeA
  rw [if_pos hin]
  refine ⟨h.n, hcls, htk, h.mr, ?_⟩
  intro r hr
  show (if 64 + (r : Int) * gw c = 64 + p * gw c + 0 then vx v p else (a.take 1 p).wd (64 + r * gw c)) = vx v r
  by_cases e : r = p
  · subst e
    rw [if_pos (by omega)]
  · have hrp : r < p := by omega
    have hlt : (r : Int) * gw c + gw c ≤ p * gw c := by
      have : ((r : Int) + 1) * gw c ≤ p * gw c := Int.mul_le_mul_of_nonneg_right (by omega) (by omega)
      rw [Int.add_mul] at this
      omega
    rw [if_neg (by omega)]
    show (if ga (1 : Nat) p (a.cls 1) ≤ 64 + (r : Int) * gw c ∧ 64 + (r : Int) * gw c < ga (1 : Nat) p (a.cls 1) + gw (a.cls 1) then 0 else a.wd (64 + r * gw c)) = vx v r
    rw [h.cls, ad, if_neg (by omega)]
    exact h.wd r hrp

theorem Sw.at_ (h : Sw a c k v q marks) (g : a.Good) (h0 : 0 ≤ c) (h5 : c ≤ 5) (hk : (k : Int) ≤ gp c) {p : Nat} (hp : p < k) :
    gs (64 + p * gw c) = 1 ∧ a.pl (64 + p * gw c) = p ∧ a.is (64 + p * gw c) = true ∧ a.isM (64 + p * gw c) = (decide (p < q) && marks.testBit p) := by
  have hpg : (p : Int) < gp c := by omega
  obtain ⟨g0, g1, g2, g3⟩ := ga_at (s := 1) (p := p) (by omega) (by omega) h0 h5 hpg
  have ad := Sw.addr h0 h5 hpg
  rw [ad] at g1 g2
  have g1 : gs (64 + p * gw c) = 1 := by simpa using g1
  obtain ⟨i0, i1, i2⟩ := h.I
  have epl : a.pl (64 + p * gw c) = p := by unfold Ab.pl; rw [g1, i0, g2]
  refine ⟨g1, epl, ?_, ?_⟩
  · rw [Ab.is_iff g.ok]
    exact ⟨1, p, by omega, by rw [h.n]; omega, by rw [h.cls]; exact h0, by rw [h.cls]; exact hpg, by rw [h.tk]; simpa using hp, by rw [h.cls]; exact ad.symm⟩
  · unfold Ab.isM
    rw [epl, g1, i2]
    simpa using h.mr p

theorem Sw.mark (h : Sw a c k v q marks) (g : a.Good) (h0 : 0 ≤ c) (h5 : c ≤ 5) (hk : (k : Int) ≤ gp c) (hq : q < k) (hm : marks.testBit q = true) : Sw (a.markA (64 + q * gw c)) c k v (q + 1) marks := by
  obtain ⟨e1, e2, e3, e4⟩ := h.at_ g h0 h5 hk hq
  have hb : a.markB (64 + q * gw c) = true := by unfold Ab.markB; rw [e3, e4]; simp
  unfold Ab.markA
  rw [if_pos hb, e1, e2]
  refine ⟨h.n, h.cls, h.tk, ?_, h.wd⟩
  intro p
  show (upd a.mr (1 : Int).toNat (a.mr (1 : Int).toNat ||| 2 ^ (q : Int).toNat) 1).testBit p = _
  have t1 : (1 : Int).toNat = 1 := rfl
  rw [t1, Int.toNat_natCast, upd_same, testBit_or_pow, h.mr p]
  by_cases e : q = p
  · subst e; simp [hm]
  · by_cases hlt : p < q
    · simp [hlt, e, show p < q + 1 by omega]
    · simp [hlt, e, show ¬ p < q + 1 by omega]
theorem Sw.skip (h : Sw a c k v q marks) (hm : marks.testBit q = false) : Sw a c k v (q + 1) marks := by
  refine ⟨h.n, h.cls, h.tk, ?_, h.wd⟩
  intro p
  rw [h.mr p]
  by_cases e : p = q
  · subst e; simp [hm]
  · by_cases hlt : p < q
    · simp [hlt, show p < q + 1 by omega]
    · simp [hlt, show ¬ p < q + 1 by omega]

theorem Sw.swept (h : Sw a c k v k marks) (g : a.Good) (h0 : 0 ≤ c) : a.sweepA 1 = a.sweep 1 ∧ (a.kept 1 = 0 ↔ keptN marks k = 0) ∧ ∀ p, (a.kept 1).testBit p = (decide (p < k) && marks.testBit p) := by
  obtain ⟨i0, i1, i2⟩ := h.I
  have hb : ∀ p, (a.kept 1).testBit p = (decide (p < k) && marks.testBit p) := fun p => by rw [g.kept, h.mr p]
  refine ⟨by unfold Ab.sweepA; rw [if_pos (by omega)]; rfl, ?_, hb⟩
  rw [keptN_zero]
  constructor
  · intro e p hp
    have := hb p
    rw [e] at this
    simpa [hp] using this
  · intro e
    refine Nat.eq_of_testBit_eq fun p => ?_
    rw [hb p]
    by_cases hp : p < k
    · simp [hp, e p hp]
    · simp [hp]
theorem Sw.count (h : Sw a c k v k marks) (hk : k ≤ 64) : a.sweepN 1 + keptN marks k = k := by
  obtain ⟨i0, i1, i2⟩ := h.I
  have : a.sweepN 1 = ((List.range k).filter fun p => !marks.testBit p).length := by
    unfold Ab.sweepN cnt
    rw [← range_part k (fun p => !marks.testBit p) 64 hk]
    congr 1
    refine List.filter_congr fun p _ => ?_
    rw [i1, i2, h.tk p, h.mr p]
    cases decide (p < k) <;> simp
  rw [this]
  exact notkept marks k
theorem Sw.class (h : Sw a c k v k marks) (g : a.Good) (h0 : 0 ≤ c) : (a.sweepA 1).clsI 1 = if keptN marks k = 0 then -1 else c := by
  obtain ⟨e1, e2, e3⟩ := h.swept g h0
  have i : (a.sweep 1).clsI 1 = (a.sweep 1).cls 1 := (Ab.I_at (a.sweep 1) (s := 1) (by omega) (by show 1 < a.n; rw [h.n]; omega)).1
  rw [e1, i]
  show (if a.kept 1 = 0 then upd a.cls 1 (-1) else a.cls) 1 = _
  by_cases hz : a.kept 1 = 0
  · rw [if_pos hz, if_pos (e2.1 hz), upd_same]
  · rw [if_neg hz, if_neg (fun x => hz (e2.2 x)), h.cls]
theorem Sw.read (h : Sw a c k v k marks) (g : a.Good) (h0 : 0 ≤ c) (h5 : c ≤ 5) (hk : (k : Int) ≤ gp c) {p : Nat} (hp : p < k) :
    (a.sweepA 1).readE (64 + p * gw c) 0 = (if marks.testBit p = true then 0 else 1) ∧ (marks.testBit p = true → (a.sweepA 1).readV (64 + p * gw c) 0 = vx v p) := by
  have gA := g.sweepA 1
  have hcl := h.class g h0
  obtain ⟨e1, e2, e3⟩ := h.swept g h0
  obtain ⟨f1, f2, f3, f4⟩ := h.at_ g h0 h5 hk hp
  have hgw := gp_pos h0 h5
  have hpg : (p : Int) < gp c := by omega
  have his : (a.sweepA 1).is (64 + p * gw c) = marks.testBit p := by
    unfold Ab.is
    rw [f1, hcl]
    by_cases hz : keptN marks k = 0
    · rw [if_pos hz]
      have := (keptN_zero marks k).1 hz p hp
      rw [this]
      rfl
    · rw [if_neg hz]
      have hpl : gpl (64 + p * gw c) c = p := by
        have := (ga_at (s := 1) (p := p) (by omega) (by omega) h0 h5 hpg).2.2.1
        rw [Sw.addr h0 h5 hpg] at this
        exact this
      rw [hpl, e1]
      show (decide (0 ≤ c) && decide (0 ≤ (p : Int)) && (upd a.tk 1 (a.kept 1) (1 : Int).toNat).testBit (p : Int).toNat) = marks.testBit p
      have t1 : (1 : Int).toNat = 1 := rfl
      rw [t1, upd_same, Int.toNat_natCast, e3 p]
      simp [h0, hp]
  unfold Ab.readE Ab.readV Ab.inW
  rw [his, f1, hcl]
  by_cases hm : marks.testBit p = true
  · have hz : ¬ keptN marks k = 0 := fun hz => by
      have := (keptN_zero marks k).1 hz p hp
      rw [hm] at this
      cases this
    rw [if_neg hz, hm]
    have hlt : decide ((0 : Int) < gw c) = true := by simp; omega
    rw [hlt]
    refine ⟨rfl, fun _ => ?_⟩
    show (a.sweepA 1).wd (64 + p * gw c + 0) = vx v p
    rw [e1, Int.add_zero]
    exact h.wd p hp
  · simp only [Bool.not_eq_true] at hm
    rw [hm]
    exact ⟨rfl, fun h => by cases h⟩
theorem took_is {b : Ab} (g : b.Good) {s : Int} (e : b.takeE s = 0) : 0 < b.takeV s ∧ (b.takeA s).is (b.takeV s) = true := by
  obtain ⟨t, p, rfl, ef, h1, h2, h3, h4, h5, h6, h7, h8, _⟩ := g.free e
  have n1 := g.ok.n1
  obtain ⟨g0, g1, g2, g3⟩ := ga_at (s := t) (p := p) h1 (by omega) h3 (g.ok.cr t).2 h6
  have eV : b.takeV t = ga t p (b.cls t) := by unfold Ab.takeV; rw [if_pos e, ef, h4]
  refine ⟨by rw [eV]; exact g3, ?_⟩
  have eA : b.takeA t = b.take t p := by unfold Ab.takeA; rw [if_pos e, ef]; rfl
  have gA := g.takeA t
  rw [Ab.is_iff gA.ok, eV, eA]
  exact ⟨t, p, h1, h2, h3, h6, by show (upd b.tk t (b.tk t ||| 2 ^ p) t).testBit p = true; rw [upd_same, testBit_or_pow]; simp, rfl⟩
theorem Sw.last (h : Sw a c k v k marks) (g : a.Good) (h0 : 0 ≤ c) (h5 : c ≤ 5) (hk : (k : Int) ≤ gp c) (hz : ¬ keptN marks k = 0) (hk2 : ¬ keptN marks k = k) : (a.sweepA 1).takeE 1 = 0 := by
  have hcl := h.class g h0
  obtain ⟨e1, e2, e3⟩ := h.swept g h0
  rw [if_neg hz] at hcl
  obtain ⟨gg, hg, hgf⟩ := gf_two h0 h5
  have etk : (a.sweepA 1).tkI 1 = a.kept 1 := by
    have i : (a.sweep 1).tkI 1 = (a.sweep 1).tk 1 := (Ab.I_at (a.sweep 1) (s := 1) (by omega) (by show 1 < a.n; rw [h.n]; omega)).2.1
    rw [e1, i]
    show upd a.tk 1 (a.kept 1) 1 = a.kept 1
    exact upd_same _ _ _
  unfold Ab.takeE
  rw [hcl, etk, if_neg (by omega), if_neg]
  intro e
  have e4 : a.kept 1 = 2 ^ gg - 1 := by omega
  apply hk2
  refine keptN_all marks k fun p hp => ?_
  have := e3 p
  rw [e4, Nat.testBit_two_pow_sub_one, show decide (p < gg) = true by simp; omega, show decide (p < k) = true by simpa using hp, Bool.true_and] at this
  exact this.symm
end
end Go.Proofs.YtgflkpccddfalaaGreatDoor
