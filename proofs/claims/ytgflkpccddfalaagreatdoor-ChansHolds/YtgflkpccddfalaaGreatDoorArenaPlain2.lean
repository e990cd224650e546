/- PLAIN: the calls of chapter 4 on an arena, and on the list of things beside it; no Go in it. -/
import Derived.Test.YtgflkpccddfalaaGreatDoorArenaPlain
namespace Go.Proofs.YtgflkpccddfalaaGreatDoor
set_option maxRecDepth 100000

/-! ### Set -/
def Ab.set (a : Ab) (s : Nat) (c : Int) : Ab := { a with cls := upd a.cls s c, tk := upd a.tk s 0, mr := upd a.mr s 0 }

theorem Ab.Ok.set {a : Ab} (h : a.Ok) {s : Nat} {c : Int} (h1 : 1 ≤ s) (hc : 0 ≤ c) (hc5 : c ≤ 5) : (a.set s c).Ok := by
  refine ⟨h.n0, h.n1, ?_, ?_, ?_, ?_⟩
  · show upd a.cls s c 0 = -1
    rw [upd_other _ _ (by omega)]; exact h.c0
  · intro t
    show -1 ≤ upd a.cls s c t ∧ upd a.cls s c t ≤ 5
    by_cases e : t = s
    · subst e; rw [upd_same]; omega
    · rw [upd_other _ _ e]; exact h.cr t
  · intro t
    show 0 ≤ upd a.cls s c t → ∀ p, (upd a.tk s 0 t).testBit p = true → (p : Int) < gp (upd a.cls s c t)
    by_cases e : t = s
    · subst e; rw [upd_same, upd_same]; simp
    · rw [upd_other _ _ e, upd_other _ _ e]; exact h.tb t
  · intro t
    show 0 ≤ upd a.cls s c t → ∀ p, (upd a.mr s 0 t).testBit p = true → (upd a.tk s 0 t).testBit p = true
    by_cases e : t = s
    · subst e; rw [upd_same, upd_same, upd_same]; simp
    · rw [upd_other _ _ e, upd_other _ _ e, upd_other _ _ e]; exact h.mb t

theorem Rel.set {a : Ab} {l : List Thg} (r : Rel a l) {s : Nat} {c : Int} (hs : a.cls s < 0) : Rel (a.set s c) l := by
  refine ⟨r.up, ?_, ?_⟩
  · intro t ht
    obtain ⟨s', p, h1, h2, h3, h4, h5, h6, h7, h8, h9⟩ := r.isT t ht
    have e : s' ≠ s := by rintro rfl; omega
    refine ⟨s', p, h1, h2, ?_⟩
    show 0 ≤ upd a.cls s c s' ∧ (p : Int) < gp (upd a.cls s c s') ∧ (upd a.tk s 0 s').testBit p = true ∧ t.addr = ga s' p (upd a.cls s c s') ∧ t.mr = (upd a.mr s 0 s').testBit p ∧ (t.ws.length : Int) = gw (upd a.cls s c s') ∧ _
    rw [upd_other _ _ e, upd_other _ _ e, upd_other _ _ e]
    exact ⟨h3, h4, h5, h6, h7, h8, h9⟩
  · intro s' p h1 h2
    show 0 ≤ upd a.cls s c s' → (upd a.tk s 0 s').testBit p = true → (p : Int) < gp (upd a.cls s c s') → ∃ t, t ∈ l ∧ t.addr = ga s' p (upd a.cls s c s')
    by_cases e : s' = s
    · subst e; rw [upd_same, upd_same]; simp
    · rw [upd_other _ _ e, upd_other _ _ e]; exact r.inL s' p h1 h2

/-! ### Clear, Mark -/
def Ab.clear (a : Ab) : Ab := { a with mr := fun _ => 0 }
theorem Ab.Ok.clear {a : Ab} (h : a.Ok) : a.clear.Ok := ⟨h.n0, h.n1, h.c0, h.cr, h.tb, fun s _ p hp => by simp [Ab.clear] at hp⟩
def unmark (l : List Thg) : List Thg := l.map fun t => { t with mr := false }
theorem Rel.clear {a : Ab} {l : List Thg} (r : Rel a l) : Rel a.clear (unmark l) := by
  refine ⟨?_, ?_, ?_⟩
  · exact List.pairwise_map.2 r.up
  · intro t ht
    obtain ⟨u, hu, rfl⟩ := List.mem_map.1 ht
    obtain ⟨s, p, h1, h2, h3, h4, h5, h6, _, h8, h9⟩ := r.isT u hu
    exact ⟨s, p, h1, h2, h3, h4, h5, h6, by simp [Ab.clear], h8, h9⟩
  · intro s p h1 h2 h3 h4 h5
    obtain ⟨t, ht, e⟩ := r.inL s p h1 h2 h3 h4 h5
    exact ⟨_, List.mem_map.2 ⟨t, ht, rfl⟩, e⟩

theorem testBit_or_pow (m p q : Nat) : (m ||| 2 ^ p).testBit q = (m.testBit q || decide (p = q)) := by
  rw [Nat.testBit_or, Nat.testBit_two_pow]

def Ab.mark (a : Ab) (s p : Nat) : Ab := { a with mr := upd a.mr s (a.mr s ||| 2 ^ p) }
theorem Ab.Ok.mark {a : Ab} (h : a.Ok) {s p : Nat} (ht : (a.tk s).testBit p = true) : (a.mark s p).Ok := by
  refine ⟨h.n0, h.n1, h.c0, h.cr, h.tb, ?_⟩
  intro t hc q
  show (upd a.mr s (a.mr s ||| 2 ^ p) t).testBit q = true → (a.tk t).testBit q = true
  by_cases e : t = s
  · subst e
    rw [upd_same, testBit_or_pow]
    intro hq
    by_cases e2 : p = q
    · subst e2; exact ht
    · simp [e2] at hq; exact h.mb t hc q hq
  · rw [upd_other _ _ e]; exact h.mb t hc q
def markAt (l : List Thg) (x : Int) : List Thg := l.map fun t => if t.addr = x then { t with mr := true } else t
theorem markAt_addr (x : Int) (t : Thg) : (if t.addr = x then { t with mr := true } else t).addr = t.addr := by split <;> rfl
theorem Rel.mark {a : Ab} {l : List Thg} (h : a.Ok) (r : Rel a l) {s p : Nat} (h1 : 1 ≤ s) (h2 : s < a.n) (h3 : 0 ≤ a.cls s) (h4 : (p : Int) < gp (a.cls s)) : Rel (a.mark s p) (markAt l (ga s p (a.cls s))) := by
  refine ⟨?_, ?_, ?_⟩
  · refine List.pairwise_map.2 (r.up.imp ?_)
    intro x y hxy
    rw [markAt_addr, markAt_addr]; exact hxy
  · intro t ht
    obtain ⟨u, hu, rfl⟩ := List.mem_map.1 ht
    obtain ⟨s', p', g1, g2, g3, g4, g5, g6, g7, g8, g9⟩ := r.isT u hu
    refine ⟨s', p', g1, g2, g3, g4, g5, by rw [markAt_addr]; exact g6, ?_, by split <;> exact g8, ?_⟩
    · show _ = (upd a.mr s (a.mr s ||| 2 ^ p) s').testBit p'
      by_cases e : u.addr = ga s p (a.cls s)
      · obtain ⟨rfl, rfl⟩ := ga_inj h g1 g2 g3 g4 h1 h2 h3 h4 (g6.symm.trans e)
        rw [if_pos e, upd_same, testBit_or_pow]
        simp
      · rw [if_neg e, g7]
        by_cases e2 : s' = s
        · subst e2
          rw [upd_same, testBit_or_pow]
          have : p ≠ p' := by rintro rfl; exact e g6
          simp [this]
        · rw [upd_other _ _ e2]
    · intro k v hk
      rw [markAt_addr]
      refine g9 k v ?_
      revert hk
      split <;> exact id
  · intro s' p' g1 g2 g3 g4 g5
    obtain ⟨t, ht, e⟩ := r.inL s' p' g1 g2 g3 g4 g5
    exact ⟨_, List.mem_map.2 ⟨t, ht, rfl⟩, by rw [markAt_addr]; exact e⟩

/-! ### Take, Write: where places lie -/
/-- Two places do not overlap. -/
theorem places_apart {a : Ab} (h : a.Ok) {s p s' p' : Nat} (h1 : 1 ≤ s) (h2 : s < a.n) (h3 : 0 ≤ a.cls s) (h4 : (p : Int) < gp (a.cls s)) (h1' : 1 ≤ s') (h2' : s' < a.n) (h3' : 0 ≤ a.cls s') (h4' : (p' : Int) < gp (a.cls s'))
    (hne : ¬ (s = s' ∧ p = p')) {x : Int} (hx : ga s p (a.cls s) ≤ x ∧ x < ga s p (a.cls s) + gw (a.cls s)) (hx' : ga s' p' (a.cls s') ≤ x ∧ x < ga s' p' (a.cls s') + gw (a.cls s')) : False := by
  have n1 := h.n1
  rw [(ga_at (s := s) (p := p) h1 (by omega) h3 (h.cr s).2 h4).1] at hx
  rw [(ga_at (s := s') (p := p') h1' (by omega) h3' (h.cr s').2 h4').1] at hx'
  have hg : ∀ c : Int, 0 ≤ c → c ≤ 5 → (gw c = 2 ∧ gp c = 32) ∨ (gw c = 4 ∧ gp c = 16) ∨ (gw c = 8 ∧ gp c = 8) ∨ (gw c = 16 ∧ gp c = 4) ∨ (gw c = 32 ∧ gp c = 2) ∨ (gw c = 64 ∧ gp c = 1) := by
    intro c c0 c5
    rcases cls c with h | h | h | h | h | h | h | h
    · omega
    · omega
    all_goals (subst h; decide)
  by_cases e : s = s'
  · subst e
    rcases hg _ h3 (h.cr s).2 with ⟨e1, e2⟩ | ⟨e1, e2⟩ | ⟨e1, e2⟩ | ⟨e1, e2⟩ | ⟨e1, e2⟩ | ⟨e1, e2⟩ <;> rw [e1] at hx hx' <;> omega
  · have b1 : (p : Int) * gw (a.cls s) + gw (a.cls s) ≤ 64 := by
      rcases hg _ h3 (h.cr s).2 with ⟨e1, e2⟩ | ⟨e1, e2⟩ | ⟨e1, e2⟩ | ⟨e1, e2⟩ | ⟨e1, e2⟩ | ⟨e1, e2⟩ <;> rw [e1] <;> rw [e2] at h4 <;> omega
    have b2 : (p' : Int) * gw (a.cls s') + gw (a.cls s') ≤ 64 := by
      rcases hg _ h3' (h.cr s').2 with ⟨e1, e2⟩ | ⟨e1, e2⟩ | ⟨e1, e2⟩ | ⟨e1, e2⟩ | ⟨e1, e2⟩ | ⟨e1, e2⟩ <;> rw [e1] <;> rw [e2] at h4' <;> omega
    have b3 : 0 ≤ (p : Int) * gw (a.cls s) := by
      rcases hg _ h3 (h.cr s).2 with ⟨e1, e2⟩ | ⟨e1, e2⟩ | ⟨e1, e2⟩ | ⟨e1, e2⟩ | ⟨e1, e2⟩ | ⟨e1, e2⟩ <;> rw [e1] <;> omega
    have b4 : 0 ≤ (p' : Int) * gw (a.cls s') := by
      rcases hg _ h3' (h.cr s').2 with ⟨e1, e2⟩ | ⟨e1, e2⟩ | ⟨e1, e2⟩ | ⟨e1, e2⟩ | ⟨e1, e2⟩ | ⟨e1, e2⟩ <;> rw [e1] <;> omega
    omega
end Go.Proofs.YtgflkpccddfalaaGreatDoor
