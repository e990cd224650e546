/- PLAIN: an arena as chapter 4 tells of it, and a heap as a list of things by rising addresses; no Go in it. -/
import Derived.Test.YtgflkpccddfalaaGreatDoorGeomPlain
namespace Go.Proofs.YtgflkpccddfalaaGreatDoor
set_option maxRecDepth 100000

/-- f, but v at k. -/
def upd {α : Type} (f : Nat → α) (k : Nat) (v : α) : Nat → α := fun i => if i = k then v else f i
theorem upd_same {α : Type} (f : Nat → α) (k : Nat) (v : α) : upd f k v k = v := by simp [upd]
theorem upd_other {α : Type} (f : Nat → α) {k i : Nat} (v : α) (h : i ≠ k) : upd f k v i = f i := by simp [upd, h]

/-- An arena: how many spans, their classes (-1: none), which places are taken, which are marked, the words. -/
structure Ab where
  n : Nat
  cls : Nat → Int
  tk : Nat → Nat
  mr : Nat → Nat
  wd : Int → Int

/-- A span's class, whatever the number. -/
def Ab.clsI (a : Ab) (s : Int) : Int := if 1 ≤ s ∧ s < a.n then a.cls s.toNat else -1
/-- The least place that is not taken. -/
def freeP (m n : Nat) : Option Nat := (List.range n).find? (fun p => !m.testBit p)
/-- Does a place that is taken begin there? -/
def Ab.is (a : Ab) (x : Int) : Bool := decide (0 ≤ a.clsI (gs x)) && decide (0 ≤ gpl x (a.clsI (gs x))) && (a.tk (gs x).toNat).testBit (gpl x (a.clsI (gs x))).toNat
/-- What holds of every arena that the calls make. -/
structure Ab.Ok (a : Ab) : Prop where
  n0 : 8 ≤ a.n
  n1 : a.n ≤ 512
  c0 : a.cls 0 = -1
  cr : ∀ s, -1 ≤ a.cls s ∧ a.cls s ≤ 5
  tb : ∀ s, 0 ≤ a.cls s → ∀ p, (a.tk s).testBit p = true → (p : Int) < gp (a.cls s)
  mb : ∀ s, 0 ≤ a.cls s → ∀ p, (a.mr s).testBit p = true → (a.tk s).testBit p = true

/-- A place that is taken, as the document's own answer keeps it. -/
structure Thg where
  addr : Int
  ws : List Int
  mr : Bool

/-- The arena and the list say the same. -/
structure Rel (a : Ab) (l : List Thg) : Prop where
  up : l.Pairwise (fun x y => x.addr < y.addr)
  isT : ∀ t, t ∈ l → ∃ s p : Nat, 1 ≤ s ∧ s < a.n ∧ 0 ≤ a.cls s ∧ (p : Int) < gp (a.cls s) ∧ (a.tk s).testBit p = true ∧ t.addr = ga s p (a.cls s) ∧
    t.mr = (a.mr s).testBit p ∧ (t.ws.length : Int) = gw (a.cls s) ∧ ∀ (k : Nat) v, t.ws[k]? = some v → v = a.wd (t.addr + k)
  inL : ∀ s p : Nat, 1 ≤ s → s < a.n → 0 ≤ a.cls s → (a.tk s).testBit p = true → (p : Int) < gp (a.cls s) → ∃ t, t ∈ l ∧ t.addr = ga s p (a.cls s)

/-! ### addresses, and back -/
theorem ga_at {s p : Nat} {c : Int} (h1 : 1 ≤ s) (h2 : s < 512) (hc : 0 ≤ c) (hc5 : c ≤ 5) (hp : (p : Int) < gp c) :
    ga s p c = 64 * s + p * gw c ∧ gs (ga s p c) = s ∧ gpl (ga s p c) c = p ∧ 0 < ga s p c := by
  have hg : (gw c = 2 ∧ gp c = 32) ∨ (gw c = 4 ∧ gp c = 16) ∨ (gw c = 8 ∧ gp c = 8) ∨ (gw c = 16 ∧ gp c = 4) ∨ (gw c = 32 ∧ gp c = 2) ∨ (gw c = 64 ∧ gp c = 1) := by
    rcases cls c with h | h | h | h | h | h | h | h
    · omega
    · omega
    all_goals (subst h; decide)
  have e : ga s p c = 64 * s + p * gw c := by
    unfold ga
    repeat rw [if_neg (by omega)]
  rw [e]
  refine ⟨rfl, ?_, ?_, ?_⟩
  · rw [gs_in (by rcases hg with ⟨e1, e2⟩ | ⟨e1, e2⟩ | ⟨e1, e2⟩ | ⟨e1, e2⟩ | ⟨e1, e2⟩ | ⟨e1, e2⟩ <;> rw [e1] <;> omega) (by rcases hg with ⟨e1, e2⟩ | ⟨e1, e2⟩ | ⟨e1, e2⟩ | ⟨e1, e2⟩ | ⟨e1, e2⟩ | ⟨e1, e2⟩ <;> rw [e1] <;> omega)]
    rcases hg with ⟨e1, e2⟩ | ⟨e1, e2⟩ | ⟨e1, e2⟩ | ⟨e1, e2⟩ | ⟨e1, e2⟩ | ⟨e1, e2⟩ <;> rw [e1] <;> omega
  · rw [gpl_in (by omega) (by rcases hg with ⟨e1, e2⟩ | ⟨e1, e2⟩ | ⟨e1, e2⟩ | ⟨e1, e2⟩ | ⟨e1, e2⟩ | ⟨e1, e2⟩ <;> rw [e1] <;> omega) (by rcases hg with ⟨e1, e2⟩ | ⟨e1, e2⟩ | ⟨e1, e2⟩ | ⟨e1, e2⟩ | ⟨e1, e2⟩ | ⟨e1, e2⟩ <;> rw [e1] <;> omega)
      (by rcases hg with ⟨e1, e2⟩ | ⟨e1, e2⟩ | ⟨e1, e2⟩ | ⟨e1, e2⟩ | ⟨e1, e2⟩ | ⟨e1, e2⟩ <;> rw [e1] <;> omega)]
    rcases hg with ⟨e1, e2⟩ | ⟨e1, e2⟩ | ⟨e1, e2⟩ | ⟨e1, e2⟩ | ⟨e1, e2⟩ | ⟨e1, e2⟩ <;> rw [e1] <;> omega
  · rcases hg with ⟨e1, e2⟩ | ⟨e1, e2⟩ | ⟨e1, e2⟩ | ⟨e1, e2⟩ | ⟨e1, e2⟩ | ⟨e1, e2⟩ <;> rw [e1] <;> omega

/-- An address at which a place of the class begins. -/
theorem ga_of {x c : Int} {s p : Nat} (hs : gs x = s) (hp : gpl x c = p) : (p : Int) < gp c ∧ x = 64 * s + p * gw c ∧ (s : Int) < 512 ∧ 0 ≤ c ∧ c ≤ 5 := by
  have hg : (gw c = 0) ∨ (gw c = 2 ∧ gp c = 32 ∧ c = 0) ∨ (gw c = 4 ∧ gp c = 16 ∧ c = 1) ∨ (gw c = 8 ∧ gp c = 8 ∧ c = 2) ∨ (gw c = 16 ∧ gp c = 4 ∧ c = 3) ∨ (gw c = 32 ∧ gp c = 2 ∧ c = 4) ∨ (gw c = 64 ∧ gp c = 1 ∧ c = 5) := by
    rcases cls c with h | h | h | h | h | h | h | h
    · exact Or.inl (gw_lo h)
    · exact Or.inl (gw_hi h)
    all_goals (subst h; decide)
  by_cases h0 : gw c = 0
  · rw [gpl_no h0] at hp; omega
  by_cases h1 : x < 0
  · rw [gs_lo h1] at hs; omega
  by_cases h2 : 32768 ≤ x
  · rw [gs_hi h2] at hs; omega
  by_cases h3 : x % 64 % gw c = 0
  · rw [gpl_in h0 (by omega) (by omega) h3] at hp
    rw [gs_in (by omega) (by omega)] at hs
    rcases hg with e | ⟨e1, e2, e3⟩ | ⟨e1, e2, e3⟩ | ⟨e1, e2, e3⟩ | ⟨e1, e2, e3⟩ | ⟨e1, e2, e3⟩ | ⟨e1, e2, e3⟩
    · omega
    all_goals
      rw [e1] at h3 hp
      rw [e1, e2]
      omega
  · rw [gpl_off h3] at hp; omega

theorem Ab.clsI_at (a : Ab) {s : Nat} (h1 : 1 ≤ s) (h2 : s < a.n) : a.clsI s = a.cls s := by
  unfold Ab.clsI
  rw [if_pos (by omega)]
  simp

/-- Where a place that is taken begins. -/
theorem Ab.is_iff {a : Ab} (h : a.Ok) (x : Int) : a.is x = true ↔ ∃ s p : Nat, 1 ≤ s ∧ s < a.n ∧ 0 ≤ a.cls s ∧ (p : Int) < gp (a.cls s) ∧ (a.tk s).testBit p = true ∧ x = ga s p (a.cls s) := by
  constructor
  · intro hx
    unfold Ab.is at hx
    simp only [Bool.and_eq_true, decide_eq_true_eq] at hx
    obtain ⟨⟨h1, h2⟩, h3⟩ := hx
    have hs : 1 ≤ gs x ∧ gs x < a.n := by
      by_cases hc : 1 ≤ gs x ∧ gs x < a.n
      · exact hc
      · unfold Ab.clsI at h1
        rw [if_neg hc] at h1
        omega
    obtain ⟨s, es⟩ := Int.eq_ofNat_of_zero_le (show 0 ≤ gs x by omega)
    have ec : a.clsI (gs x) = a.cls s := by rw [es]; exact a.clsI_at (by omega) (by omega)
    rw [ec] at h1 h2 h3
    obtain ⟨p, ep⟩ := Int.eq_ofNat_of_zero_le h2
    obtain ⟨g1, g2, _, _, _⟩ := ga_of es ep
    have n1 := h.n1
    refine ⟨s, p, by omega, by omega, h1, g1, ?_, ?_⟩
    · rw [es, ep] at h3
      simpa using h3
    · rw [(ga_at (s := s) (p := p) (by omega) (by omega) h1 (h.cr s).2 g1).1]
      exact g2
  · rintro ⟨s, p, h1, h2, h3, h4, h5, rfl⟩
    have n1 := h.n1
    obtain ⟨_, g1, g2, _⟩ := ga_at (s := s) (p := p) h1 (by omega) h3 (h.cr s).2 h4
    unfold Ab.is
    rw [g1, a.clsI_at h1 h2, g2]
    simp [h3, h5]

/-- The list has a thing at an address just where a place that is taken begins. -/
theorem Rel.mem {a : Ab} {l : List Thg} (h : a.Ok) (r : Rel a l) (x : Int) : a.is x = true ↔ ∃ t, t ∈ l ∧ t.addr = x := by
  rw [Ab.is_iff h]
  constructor
  · rintro ⟨s, p, h1, h2, h3, h4, h5, rfl⟩
    exact r.inL s p h1 h2 h3 h5 h4
  · rintro ⟨t, ht, rfl⟩
    obtain ⟨s, p, h1, h2, h3, h4, h5, h6, _⟩ := r.isT t ht
    exact ⟨s, p, h1, h2, h3, h4, h5, h6⟩

/-- Two places at one address are one. -/
theorem ga_inj {a : Ab} (h : a.Ok) {s p s' p' : Nat} (h1 : 1 ≤ s) (h2 : s < a.n) (h3 : 0 ≤ a.cls s) (h4 : (p : Int) < gp (a.cls s)) (h1' : 1 ≤ s') (h2' : s' < a.n) (h3' : 0 ≤ a.cls s') (h4' : (p' : Int) < gp (a.cls s'))
    (e : ga s p (a.cls s) = ga s' p' (a.cls s')) : s = s' ∧ p = p' := by
  have n1 := h.n1
  obtain ⟨_, g1, g2, _⟩ := ga_at (s := s) (p := p) h1 (by omega) h3 (h.cr s).2 h4
  obtain ⟨_, g1', g2', _⟩ := ga_at (s := s') (p := p') h1' (by omega) h3' (h.cr s').2 h4'
  rw [e, g1'] at g1
  obtain rfl : s = s' := by omega
  rw [e, g2'] at g2
  exact ⟨rfl, by omega⟩

end Go.Proofs.YtgflkpccddfalaaGreatDoor
