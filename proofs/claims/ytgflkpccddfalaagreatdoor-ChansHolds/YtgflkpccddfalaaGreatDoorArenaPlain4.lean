/- PLAIN: Sweep of chapter 4, how many it gives back, and the two maps of a span, on an arena and on the list of things beside it; no Go in it. -/
import Derived.Test.YtgflkpccddfalaaGreatDoorArenaPlain3
namespace Go.Proofs.YtgflkpccddfalaaGreatDoor
set_option maxRecDepth 100000

/-! ### Sweep -/
def Ab.kept (a : Ab) (s : Nat) : Nat := a.tk s &&& a.mr s
def Ab.sweep (a : Ab) (s : Nat) : Ab :=
  { a with cls := if a.kept s = 0 then upd a.cls s (-1) else a.cls, tk := upd a.tk s (a.kept s), mr := if a.kept s = 0 then upd a.mr s 0 else a.mr }

theorem kept_bit (a : Ab) (s p : Nat) : (a.kept s).testBit p = ((a.tk s).testBit p && (a.mr s).testBit p) := by
  unfold Ab.kept
  rw [Nat.testBit_and]

theorem Ab.Ok.sweep {a : Ab} (h : a.Ok) (s : Nat) : (a.sweep s).Ok := by
  by_cases hz : a.kept s = 0
  · refine ⟨h.n0, h.n1, ?_, ?_, ?_, ?_⟩
    · show (if a.kept s = 0 then upd a.cls s (-1) else a.cls) 0 = -1
      rw [if_pos hz]
      by_cases e : 0 = s
      · rw [← e, upd_same]
      · rw [upd_other _ _ e]; exact h.c0
    · intro t
      show -1 ≤ (if a.kept s = 0 then upd a.cls s (-1) else a.cls) t ∧ (if a.kept s = 0 then upd a.cls s (-1) else a.cls) t ≤ 5
      rw [if_pos hz]
      by_cases e : t = s
      · subst e; rw [upd_same]; omega
      · rw [upd_other _ _ e]; exact h.cr t
    · intro t
      show 0 ≤ (if a.kept s = 0 then upd a.cls s (-1) else a.cls) t → ∀ p, (upd a.tk s (a.kept s) t).testBit p = true → (p : Int) < gp ((if a.kept s = 0 then upd a.cls s (-1) else a.cls) t)
      rw [if_pos hz]
      by_cases e : t = s
      · subst e; rw [upd_same]; intro hc; omega
      · rw [upd_other _ _ e, upd_other _ _ e]; exact h.tb t
    · intro t
      show 0 ≤ (if a.kept s = 0 then upd a.cls s (-1) else a.cls) t → ∀ p, ((if a.kept s = 0 then upd a.mr s 0 else a.mr) t).testBit p = true → (upd a.tk s (a.kept s) t).testBit p = true
      rw [if_pos hz, if_pos hz]
      by_cases e : t = s
      · subst e; rw [upd_same]; intro hc; omega
      · rw [upd_other _ _ e, upd_other _ _ e, upd_other _ _ e]; exact h.mb t
  · refine ⟨h.n0, h.n1, ?_, ?_, ?_, ?_⟩
    · show (if a.kept s = 0 then upd a.cls s (-1) else a.cls) 0 = -1
      rw [if_neg hz]; exact h.c0
    · intro t
      show -1 ≤ (if a.kept s = 0 then upd a.cls s (-1) else a.cls) t ∧ (if a.kept s = 0 then upd a.cls s (-1) else a.cls) t ≤ 5
      rw [if_neg hz]; exact h.cr t
    · intro t
      show 0 ≤ (if a.kept s = 0 then upd a.cls s (-1) else a.cls) t → ∀ p, (upd a.tk s (a.kept s) t).testBit p = true → (p : Int) < gp ((if a.kept s = 0 then upd a.cls s (-1) else a.cls) t)
      rw [if_neg hz]
      intro hc p
      by_cases e : t = s
      · subst e
        rw [upd_same, kept_bit, Bool.and_eq_true]
        exact fun hp => h.tb t hc p hp.1
      · rw [upd_other _ _ e]; exact h.tb t hc p
    · intro t
      show 0 ≤ (if a.kept s = 0 then upd a.cls s (-1) else a.cls) t → ∀ p, ((if a.kept s = 0 then upd a.mr s 0 else a.mr) t).testBit p = true → (upd a.tk s (a.kept s) t).testBit p = true
      rw [if_neg hz, if_neg hz]
      intro hc p hp
      have := h.mb t hc p hp
      by_cases e : t = s
      · subst e
        rw [upd_same, kept_bit, this, hp]; rfl
      · rw [upd_other _ _ e]; exact this

/-- The thing goes at a sweep of the span s. -/
def goes (s : Nat) (t : Thg) : Bool := decide (gs t.addr = s) && !t.mr
def swept (l : List Thg) (s : Nat) : List Thg := l.filter fun t => !goes s t

/-- A thing's span and place are those of its address. -/
theorem Rel.at {a : Ab} {l : List Thg} (h : a.Ok) (r : Rel a l) {t : Thg} (ht : t ∈ l) {s : Nat} (hs : gs t.addr = s) :
    1 ≤ s ∧ s < a.n ∧ 0 ≤ a.cls s ∧ ∃ p : Nat, gpl t.addr (a.cls s) = p ∧ (p : Int) < gp (a.cls s) ∧ (a.tk s).testBit p = true ∧ t.addr = ga s p (a.cls s) ∧ t.mr = (a.mr s).testBit p := by
  obtain ⟨s', p, h1, h2, h3, h4, h5, h6, h7, _⟩ := r.isT t ht
  have n1 := h.n1
  obtain ⟨_, g1, g2, _⟩ := ga_at (s := s') (p := p) h1 (by omega) h3 (h.cr s').2 h4
  rw [← h6] at g1 g2
  obtain rfl : s' = s := by omega
  exact ⟨h1, h2, h3, p, g2, h4, h5, h6, h7⟩

theorem Rel.sweep {a : Ab} {l : List Thg} (h : a.Ok) (r : Rel a l) (s : Nat) : Rel (a.sweep s) (swept l s) := by
  refine ⟨r.up.sublist List.filter_sublist, ?_, ?_⟩
  · intro t ht
    obtain ⟨ht, hg⟩ := List.mem_filter.1 ht
    obtain ⟨s', p, h1, h2, h3, h4, h5, h6, h7, h8, h9⟩ := r.isT t ht
    refine ⟨s', p, h1, h2, ?_⟩
    show 0 ≤ (if a.kept s = 0 then upd a.cls s (-1) else a.cls) s' ∧ (p : Int) < gp ((if a.kept s = 0 then upd a.cls s (-1) else a.cls) s') ∧ (upd a.tk s (a.kept s) s').testBit p = true ∧
      t.addr = ga s' p ((if a.kept s = 0 then upd a.cls s (-1) else a.cls) s') ∧ t.mr = ((if a.kept s = 0 then upd a.mr s 0 else a.mr) s').testBit p ∧ (t.ws.length : Int) = gw ((if a.kept s = 0 then upd a.cls s (-1) else a.cls) s') ∧ _
    by_cases e : s' = s
    · subst e
      have n1 := h.n1
      obtain ⟨_, g1, _, _⟩ := ga_at (s := s') (p := p) h1 (by omega) h3 (h.cr s').2 h4
      rw [← h6] at g1
      have hm : t.mr = true := by
        simp [goes, g1] at hg
        exact hg
      have hb : (a.kept s').testBit p = true := by rw [kept_bit, h5, ← h7, hm]; rfl
      have hz : ¬ a.kept s' = 0 := by
        intro e0
        rw [e0] at hb
        simp at hb
      rw [if_neg hz, if_neg hz, upd_same]
      exact ⟨h3, h4, hb, h6, h7, h8, h9⟩
    · rw [upd_other _ _ e]
      by_cases hz : a.kept s = 0
      · rw [if_pos hz, if_pos hz, upd_other _ _ e, upd_other _ _ e]
        exact ⟨h3, h4, h5, h6, h7, h8, h9⟩
      · rw [if_neg hz, if_neg hz]
        exact ⟨h3, h4, h5, h6, h7, h8, h9⟩
  · intro s' p h1 h2
    replace h2 : s' < a.n := h2
    show 0 ≤ (if a.kept s = 0 then upd a.cls s (-1) else a.cls) s' → (upd a.tk s (a.kept s) s').testBit p = true → (p : Int) < gp ((if a.kept s = 0 then upd a.cls s (-1) else a.cls) s') →
      ∃ t, t ∈ swept l s ∧ t.addr = ga s' p ((if a.kept s = 0 then upd a.cls s (-1) else a.cls) s')
    by_cases e : s' = s
    · subst e
      by_cases hz : a.kept s' = 0
      · rw [if_pos hz, upd_same]; intro hc; omega
      · rw [if_neg hz, upd_same, kept_bit, Bool.and_eq_true]
        intro hc hp hg
        obtain ⟨t, ht, et⟩ := r.inL s' p h1 h2 hc hp.1 hg
        refine ⟨t, List.mem_filter.2 ⟨ht, ?_⟩, et⟩
        have n1 := h.n1
        obtain ⟨_, g1, g2, _⟩ := ga_at (s := s') (p := p) h1 (by omega) hc (h.cr s').2 hg
        rw [← et] at g1 g2
        obtain ⟨_, _, _, q, q1, _, _, _, q5⟩ := r.at h ht g1
        obtain rfl : q = p := by omega
        simp [goes, q5, hp.2]
    · rw [upd_other _ _ e]
      have keep : ∀ t : Thg, gs t.addr = s' → (!goes s t) = true := by
        intro t ht
        have : ¬ gs t.addr = (s : Int) := by rw [ht]; omega
        simp [goes, this]
      have key : 0 ≤ a.cls s' → (a.tk s').testBit p = true → (p : Int) < gp (a.cls s') → ∃ t, t ∈ swept l s ∧ t.addr = ga s' p (a.cls s') := by
        intro hc hp hg
        obtain ⟨t, ht, et⟩ := r.inL s' p h1 h2 hc hp hg
        have n1 := h.n1
        obtain ⟨_, g1, _, _⟩ := ga_at (s := s') (p := p) h1 (by omega) hc (h.cr s').2 hg
        rw [← et] at g1
        exact ⟨t, List.mem_filter.2 ⟨ht, keep t g1⟩, et⟩
      by_cases hz : a.kept s = 0
      · rw [if_pos hz, upd_other _ _ e]; exact key
      · rw [if_neg hz]; exact key

/-! ### How many -/
theorem len_le_of_mem {α : Type} [DecidableEq α] : ∀ {l m : List α}, l.Nodup → (∀ x, x ∈ l → x ∈ m) → l.length ≤ m.length
  | [], _, _, _ => Nat.zero_le _
  | x :: r, m, hd, hm => by
    obtain ⟨h1, h2⟩ := List.nodup_cons.1 hd
    have hx : x ∈ m := hm x List.mem_cons_self
    have := len_le_of_mem (l := r) (m := m.erase x) h2 (fun y hy => (List.mem_erase_of_ne (by rintro rfl; exact h1 hy)).2 (hm y (List.mem_cons_of_mem _ hy)))
    rw [List.length_erase_of_mem hx] at this
    have hpos : 0 < m.length := List.length_pos_of_mem hx
    simp
    omega

/-- How many places of the span's maps a test picks. -/
def cnt (f : Nat → Bool) : Nat := ((List.range 64).filter f).length

/-- The things of a span that a test on marks picks are as many as the places that it picks. -/
theorem Rel.count {a : Ab} {l : List Thg} (h : a.Ok) (r : Rel a l) {s : Nat} (h1 : 1 ≤ s) (h2 : s < a.n) (h3 : 0 ≤ a.cls s) (g : Bool → Bool) :
    (l.filter fun t => decide (gs t.addr = s) && g t.mr).length = cnt fun p => (a.tk s).testBit p && g ((a.mr s).testBit p) := by
  have hp64 : gp (a.cls s) ≤ 64 := by rcases gw_gp (a.cls s) with ⟨_, e⟩ | ⟨_, _, _, _, e, _⟩ <;> omega
  have n1 := h.n1
  have nd : ((l.filter fun t => decide (gs t.addr = s) && g t.mr).map fun t => (gpl t.addr (a.cls s)).toNat).Nodup := by
    unfold List.Nodup
    rw [List.pairwise_map]
    refine List.Pairwise.imp_of_mem ?_ (r.up.sublist List.filter_sublist)
    intro x y hx hy hxy e
    obtain ⟨hx, ex⟩ := List.mem_filter.1 hx
    obtain ⟨hy, ey⟩ := List.mem_filter.1 hy
    simp at ex ey
    obtain ⟨_, _, _, p, q1, _, _, q4, _⟩ := r.at h hx ex.1
    obtain ⟨_, _, _, p', q1', _, _, q4', _⟩ := r.at h hy ey.1
    rw [q1, q1'] at e
    simp at e
    subst e
    rw [q4, q4'] at hxy
    omega
  have e1 : ∀ q, q ∈ ((l.filter fun t => decide (gs t.addr = s) && g t.mr).map fun t => (gpl t.addr (a.cls s)).toNat) ↔ q ∈ (List.range 64).filter (fun p => (a.tk s).testBit p && g ((a.mr s).testBit p)) := by
    intro q
    rw [List.mem_map, List.mem_filter]
    constructor
    · rintro ⟨t, ht, rfl⟩
      obtain ⟨ht, et⟩ := List.mem_filter.1 ht
      simp at et
      obtain ⟨_, _, _, p, q1, q2, q3, _, q5⟩ := r.at h ht et.1
      rw [q1]
      simp only [Int.toNat_natCast]
      rw [q3, ← q5, et.2]
      exact ⟨by simp; omega, rfl⟩
    · rintro ⟨_, hq⟩
      rw [Bool.and_eq_true] at hq
      have hqp := h.tb s h3 q hq.1
      obtain ⟨t, ht, et⟩ := r.inL s q h1 h2 h3 hq.1 hqp
      obtain ⟨_, g1, g2, _⟩ := ga_at (s := s) (p := q) h1 (by omega) h3 (h.cr s).2 hqp
      rw [← et] at g1 g2
      obtain ⟨_, _, _, p, q1, _, _, _, q5⟩ := r.at h ht g1
      obtain rfl : p = q := by omega
      refine ⟨t, List.mem_filter.2 ⟨ht, ?_⟩, by rw [g2]; simp⟩
      rw [q5, hq.2]
      simp [g1]
  have l1 := len_le_of_mem nd (fun x hx => (e1 x).1 hx)
  have l2 := len_le_of_mem ((List.nodup_range (n := 64)).sublist (List.filter_sublist (p := fun p => (a.tk s).testBit p && g ((a.mr s).testBit p)))) (fun x hx => (e1 x).2 hx)
  rw [List.length_map] at l1 l2
  unfold cnt
  omega

/-! ### The maps -/
def mapsT (l : List Thg) (s : Nat) (c : Int) (g : Bool → Bool) (m0 : Nat) : Nat := l.foldl (fun m t => if gs t.addr = s ∧ g t.mr = true then m ||| 2 ^ (gpl t.addr c).toNat else m) m0
theorem mapsT_bit (s : Nat) (c : Int) (g : Bool → Bool) (q : Nat) : ∀ (l : List Thg) (m0 : Nat), (mapsT l s c g m0).testBit q = true ↔ m0.testBit q = true ∨ ∃ t, t ∈ l ∧ gs t.addr = s ∧ g t.mr = true ∧ (gpl t.addr c).toNat = q
  | [], m0 => by simp [mapsT]
  | t :: r, m0 => by
    have ih := mapsT_bit s c g q r (if gs t.addr = s ∧ g t.mr = true then m0 ||| 2 ^ (gpl t.addr c).toNat else m0)
    show (mapsT r s c g _).testBit q = true ↔ _
    rw [ih]
    by_cases hc : gs t.addr = s ∧ g t.mr = true
    · rw [if_pos hc, testBit_or_pow]
      constructor
      · rintro (h | ⟨u, hu, h⟩)
        · rw [Bool.or_eq_true] at h
          rcases h with h | h
          · exact Or.inl h
          · exact Or.inr ⟨t, List.mem_cons_self, hc.1, hc.2, by simpa using h⟩
        · exact Or.inr ⟨u, List.mem_cons_of_mem _ hu, h⟩
      · rintro (h | ⟨u, hu, h⟩)
        · exact Or.inl (by rw [h]; rfl)
        · rcases List.mem_cons.1 hu with rfl | hu
          · exact Or.inl (by simp [h.2.2])
          · exact Or.inr ⟨u, hu, h⟩
    · rw [if_neg hc]
      constructor
      · rintro (h | ⟨u, hu, h⟩)
        · exact Or.inl h
        · exact Or.inr ⟨u, List.mem_cons_of_mem _ hu, h⟩
      · rintro (h | ⟨u, hu, h⟩)
        · exact Or.inl h
        · rcases List.mem_cons.1 hu with rfl | hu
          · exact absurd ⟨h.1, h.2.1⟩ hc
          · exact Or.inr ⟨u, hu, h⟩

theorem Rel.taken {a : Ab} {l : List Thg} (h : a.Ok) (r : Rel a l) {s : Nat} (h1 : 1 ≤ s) (h2 : s < a.n) (h3 : 0 ≤ a.cls s) (g : Bool → Bool) (m : Nat)
    (hm : ∀ q, m.testBit q = ((a.tk s).testBit q && g ((a.mr s).testBit q))) : mapsT l s (a.cls s) g 0 = m := by
  have n1 := h.n1
  refine Nat.eq_of_testBit_eq fun q => ?_
  rw [Bool.eq_iff_iff, mapsT_bit, hm q, Bool.and_eq_true]
  constructor
  · rintro (h0 | ⟨t, ht, e1, e2, e3⟩)
    · simp at h0
    · obtain ⟨_, _, _, p, q1, _, q3, _, q5⟩ := r.at h ht e1
      rw [q1] at e3
      simp at e3
      subst e3
      exact ⟨q3, by rw [← q5]; exact e2⟩
  · rintro ⟨hq, hg⟩
    right
    have hqp := h.tb s h3 q hq
    obtain ⟨t, ht, et⟩ := r.inL s q h1 h2 h3 hq hqp
    obtain ⟨_, g1, g2, _⟩ := ga_at (s := s) (p := q) h1 (by omega) h3 (h.cr s).2 hqp
    rw [← et] at g1 g2
    obtain ⟨_, _, _, p, q1, _, _, _, q5⟩ := r.at h ht g1
    obtain rfl : p = q := by omega
    exact ⟨t, ht, g1, by rw [q5]; exact hg, by rw [g2]; simp⟩

/-- A span with no class has no things. -/
theorem Rel.none {a : Ab} {l : List Thg} (h : a.Ok) (r : Rel a l) {s : Nat} (h3 : a.cls s < 0) : ∀ t, t ∈ l → gs t.addr ≠ s := by
  intro t ht e
  obtain ⟨_, _, h4, _⟩ := r.at h ht e
  omega
end Go.Proofs.YtgflkpccddfalaaGreatDoor
