/- PLAIN: taking where nothing is unswept; no Go in it. -/
import Derived.Test.YtbgmaifllndpfaaDoorAllocKeepP
namespace Go.Proofs.YtbgmaifllndpfaaDoor

def Al.Calm (l : Al) : Prop := ∀ s, l.u s = false
theorem least_of {P : Nat → Prop} (n : Nat) : P n → ∃ j, P j ∧ j ≤ n ∧ ∀ t, t < j → ¬ P t := by
  induction n using Nat.strongRecOn with
  | _ n ih =>
    intro h
    by_cases hh : ∃ m, m < n ∧ P m
    · obtain ⟨m, h1, h2⟩ := hh
      obtain ⟨j, j1, j2, j3⟩ := ih m h1 h2
      exact ⟨j, j1, by omega, j3⟩
    · exact ⟨n, h, Nat.le_refl _, fun t ht hp => hh ⟨t, ht, hp⟩⟩

section
variable {l : Al} {c : Int}
theorem Al.Calm.swp (h : l.Calm) (s : Nat) : l.swp s = l := by unfold Al.swp; rw [if_neg (by rw [h s]; decide)]
theorem toc_none (h : l.Calm) : ∀ k s, (∀ t : Nat, s ≤ t → t < s + k → l.a.clsI t = c → ¬ l.a.takeE t = 0) → Al.toc c k s l = (l, 0, false)
  | 0, _, _ => rfl
  | k + 1, s, H => by
    unfold Al.toc
    rw [h.swp s]
    split
    · rename_i hc
      rw [if_neg (H s (Nat.le_refl _) (by omega) hc)]
      exact toc_none h k (s + 1) fun t t1 t2 => H t (by omega) (by omega)
    · exact toc_none h k (s + 1) fun t t1 t2 => H t (by omega) (by omega)
theorem toc_some (h : l.Calm) {j : Nat} (hc : l.a.clsI j = c) (he : l.a.takeE j = 0) : ∀ k s, s ≤ j → j < s + k → (∀ t : Nat, s ≤ t → t < j → l.a.clsI t = c → ¬ l.a.takeE t = 0) → Al.toc c k s l = (⟨l.a.takeA j, l.u⟩, l.a.takeV j, true)
  | 0, _, h1, h2, _ => by omega
  | k + 1, s, h1, h2, H => by
    unfold Al.toc
    rw [h.swp s]
    by_cases e : s = j
    · subst e
      rw [if_pos hc, if_pos he]
    · split
      · rename_i hs
        rw [if_neg (H s (Nat.le_refl _) (by omega) hs)]
        exact toc_some h hc he k (s + 1) (by omega) (by omega) fun t t1 t2 => H t (by omega) t2
      · exact toc_some h hc he k (s + 1) (by omega) (by omega) fun t t1 t2 => H t (by omega) t2
theorem wo_none {a : Ab} : ∀ k s, (∀ t : Nat, s ≤ t → t < s + k → 0 ≤ a.clsI t) → a.wo k s = none
  | 0, _, _ => rfl
  | k + 1, s, H => by
    unfold Ab.wo
    rw [if_pos (H s (Nat.le_refl _) (by omega))]
    exact wo_none k (s + 1) fun t t1 t2 => H t (by omega) (by omega)
theorem wo_some {a : Ab} {j : Nat} (hj : ¬ 0 ≤ a.clsI j) : ∀ k s, s ≤ j → j < s + k → (∀ t : Nat, s ≤ t → t < j → 0 ≤ a.clsI t) → a.wo k s = some j
  | 0, _, h1, h2, _ => by omega
  | k + 1, s, h1, h2, H => by
    unfold Ab.wo
    by_cases e : s = j
    · subst e; rw [if_neg hj]
    · rw [if_pos (H s (Nat.le_refl _) (by omega))]
      exact wo_some hj k (s + 1) (by omega) (by omega) fun t t1 t2 => H t (by omega) t2
theorem sof_calm (h : l.Calm) : ∀ k s, Al.sof k s l = (l, none)
  | 0, _ => rfl
  | k + 1, s => by
    unfold Al.sof
    rw [if_neg (by rw [h s]; decide)]
    exact sof_calm h k (s + 1)
theorem take3_calm (h : l.Calm) : l.take3 c = (l, 0, 5) := by
  unfold Al.take3
  rw [sof_calm h]
theorem calm_upd {u : Nat → Bool} (h : ∀ s, u s = false) (s : Nat) : ∀ t, upd u s false t = false := by
  intro t
  by_cases e : t = s
  · subst e; exact upd_same _ _ _
  · rw [upd_other _ _ e]; exact h t

theorem takeE0 {a : Ab} {t : Nat} (h1 : 1 ≤ t) (h2 : t < a.n) : a.takeE t = 0 ↔ 0 ≤ a.cls t ∧ (a.tk t : Int) ≠ gf (a.cls t) := by
  unfold Ab.takeE
  rw [(a.I_at h1 h2).1, (a.I_at h1 h2).2.1]
  by_cases h : a.cls t < 0
  · rw [if_pos h]; omega
  · rw [if_neg h]
    by_cases e : (a.tk t : Int) = gf (a.cls t)
    · rw [if_pos e]; simp [e]
    · rw [if_neg e]; simp only [true_iff]; exact ⟨by omega, e⟩
theorem gf_pos {c : Int} (h0 : 0 ≤ c) (h5 : c ≤ 5) : 0 < gf c := by
  rcases cls c with h | h | h | h | h | h | h | h
  · omega
  · omega
  all_goals (subst h; decide)

/-- A span without a class gets one: its first place. -/
theorem first_ok {s : Nat} (h1 : 1 ≤ s) (h2 : s < l.a.n) (hs : l.a.cls s < 0) (h0 : 0 ≤ c) (h5 : c ≤ 5) :
    l.a.setA s c = l.a.set s c ∧ (l.a.set s c).takeE s = 0 ∧ l.first s c = (⟨(l.a.set s c).takeA s, upd l.u s false⟩, (l.a.set s c).takeV s, 0) := by
  have hE : l.a.setE s c = 0 := by
    unfold Ab.setE
    rw [if_neg (by omega), l.a.clsI_at h1 h2, if_neg (by omega)]
  have eA : l.a.setA s c = l.a.set s c := by unfold Ab.setA; rw [if_pos hE]; rfl
  have eT : (l.a.set s c).takeE s = 0 := by
    rw [takeE0 h1 (by exact h2)]
    show 0 ≤ upd l.a.cls s c s ∧ ((upd l.a.tk s 0 s : Nat) : Int) ≠ gf (upd l.a.cls s c s)
    rw [upd_same, upd_same]
    have := gf_pos h0 h5
    exact ⟨h0, by simp; omega⟩
  refine ⟨eA, eT, ?_⟩
  unfold Al.first
  rw [if_pos hE, eA, eT]

theorem gc_r (n : Int) : -1 ≤ gc n ∧ gc n ≤ 5 := by
  unfold gc
  repeat' split
  all_goals omega

/-- The way that a taking goes where nothing is unswept. -/
theorem take_ways (h : l.Calm) {n : Int} (hc : 0 ≤ gc n) :
    (∃ j : Nat, 1 ≤ j ∧ j < l.a.n ∧ l.a.clsI j = gc n ∧ l.a.takeE j = 0 ∧ l.take n = (⟨l.a.takeA j, l.u⟩, l.a.takeV j, 0)) ∨
    ((∀ t : Nat, 1 ≤ t → t < l.a.n → l.a.clsI t = gc n → ¬ l.a.takeE t = 0) ∧
      ((∃ j : Nat, 1 ≤ j ∧ j < l.a.n ∧ l.a.cls j < 0 ∧ (∀ t : Nat, 1 ≤ t → t < j → 0 ≤ l.a.cls t) ∧ l.take n = (⟨(l.a.set j (gc n)).takeA j, upd l.u j false⟩, (l.a.set j (gc n)).takeV j, 0)) ∨
       ((∀ t : Nat, 1 ≤ t → t < l.a.n → 0 ≤ l.a.cls t) ∧ l.take n = (l, 0, 5)))) := by
  have e0 : l.take n = l.takeC (gc n) := by unfold Al.take; rw [if_neg (by omega)]
  by_cases hh : ∃ j : Nat, 1 ≤ j ∧ j < l.a.n ∧ l.a.clsI j = gc n ∧ l.a.takeE j = 0
  · obtain ⟨j0, hj0⟩ := hh
    obtain ⟨j, ⟨j1, j2, j3, j4⟩, _, jl⟩ := least_of (P := fun j : Nat => 1 ≤ j ∧ j < l.a.n ∧ l.a.clsI j = gc n ∧ l.a.takeE j = 0) j0 hj0
    have ht := toc_some h j3 j4 (l.a.n - 1) 1 j1 (by omega) fun t t1 t2 t3 t4 => jl t t2 ⟨t1, by omega, t3, t4⟩
    refine Or.inl ⟨j, j1, j2, j3, j4, ?_⟩
    rw [e0]
    unfold Al.takeC
    rw [ht, if_pos rfl]
  · have ht := toc_none h (c := gc n) (l.a.n - 1) 1 fun t t1 t2 t3 t4 => hh ⟨t, t1, by omega, t3, t4⟩
    refine Or.inr ⟨fun t t1 t2 t3 t4 => hh ⟨t, t1, t2, t3, t4⟩, ?_⟩
    have e1 : l.take n = l.take2 (gc n) := by
      rw [e0]
      unfold Al.takeC
      rw [ht, if_neg (show ¬ (false : Bool) = true by decide)]
    by_cases hw : ∃ j : Nat, 1 ≤ j ∧ j < l.a.n ∧ l.a.cls j < 0
    · obtain ⟨j0, hj0⟩ := hw
      obtain ⟨j, ⟨j1, j2, j3⟩, _, jl⟩ := least_of (P := fun j : Nat => 1 ≤ j ∧ j < l.a.n ∧ l.a.cls j < 0) j0 hj0
      have hl : ∀ t : Nat, 1 ≤ t → t < j → 0 ≤ l.a.cls t := fun t t1 t2 => by
        have := jl t t2
        omega
      refine Or.inl ⟨j, j1, j2, j3, hl, ?_⟩
      have hw2 := wo_some (a := l.a) (j := j) (by rw [l.a.clsI_at j1 j2]; omega) (l.a.n - 1) 1 j1 (by omega) fun t t1 t2 => by rw [l.a.clsI_at t1 (by omega)]; exact hl t t1 t2
      rw [e1]
      unfold Al.take2
      rw [hw2]
      exact (first_ok j1 j2 j3 hc (gc_r n).2).2.2
    · have hl : ∀ t : Nat, 1 ≤ t → t < l.a.n → 0 ≤ l.a.cls t := fun t t1 t2 => by
        have : ¬ l.a.cls t < 0 := fun h => hw ⟨t, t1, t2, h⟩
        omega
      refine Or.inr ⟨hl, ?_⟩
      rw [e1]
      unfold Al.take2
      rw [wo_none (a := l.a) (l.a.n - 1) 1 fun t t1 t2 => by rw [l.a.clsI_at t1 (by omega)]; exact hl t t1 (by omega)]
      exact take3_calm h
theorem take_calm (h : l.Calm) (n : Int) : (l.take n).1.Calm := by
  by_cases hc : 0 ≤ gc n
  · rcases take_ways h hc with ⟨j, _, _, _, _, e⟩ | ⟨_, ⟨j, _, _, _, _, e⟩ | ⟨_, e⟩⟩
    · rw [e]; exact h
    · rw [e]; exact calm_upd h j
    · rw [e]; exact h
  · unfold Al.take; rw [if_pos (by omega)]; exact h

/-- A span is not full just if fewer of its places are taken than there are. -/
theorem full_pop {a : Ab} (g : a.Good) {t : Nat} (h0 : 0 ≤ a.cls t) : (a.tk t : Int) ≠ gf (a.cls t) ↔ (popF 64 (a.tk t) : Int) < gp (a.cls t) := by
  obtain ⟨q, hq, hf⟩ := gf_two h0 (g.ok.cr t).2
  have hq64 : q ≤ 64 := by have := gp_pos h0 (g.ok.cr t).2; omega
  rw [popF_cnt, hq]
  constructor
  · intro hne
    obtain ⟨f1, f2, _⟩ := free_spec (g.ok.tb t h0) h0 (g.ok.cr t).2 hne
    have hle := len_le_of_mem (l := (List.range 64).filter fun p => (a.tk t).testBit p) (m := (List.range q).erase (freeN (a.tk t))) (List.Nodup.sublist List.filter_sublist List.nodup_range) (fun x hx => by
      have hx2 := (List.mem_filter.1 hx).2
      have := g.ok.tb t h0 x hx2
      refine (List.mem_erase_of_ne ?_).2 (by rw [List.mem_range]; omega)
      rintro rfl
      rw [f2] at hx2
      cases hx2)
    rw [List.length_erase_of_mem (by rw [List.mem_range]; omega), List.length_range] at hle
    have : 0 < q := by omega
    omega
  · intro hlt he
    have e1 : a.tk t = 2 ^ q - 1 := by omega
    rw [e1] at hlt
    have e2 : ((List.range 64).filter fun p => (2 ^ q - 1).testBit p) = (List.range q).filter fun _ => true := by
      rw [← range_part q (fun _ => true) 64 hq64]
      refine List.filter_congr fun p _ => ?_
      rw [Nat.testBit_two_pow_sub_one]; simp
    rw [e2, List.filter_eq_self.2 (fun _ _ => rfl), List.length_range] at hlt
    omega
theorem take_room (g : l.a.Good) (h : l.Calm) {n : Int} (hc : 0 ≤ gc n) :
    (l.take n).2.2 = 0 ↔ ∃ s : Nat, 1 ≤ s ∧ s < l.a.n ∧ (l.a.cls s < 0 ∨ l.a.cls s = gc n ∧ (popF 64 (l.a.tk s) : Int) < gp (gc n)) := by
  rcases take_ways h hc with ⟨j, j1, j2, j3, j4, e⟩ | ⟨hn, ⟨j, j1, j2, j3, _, e⟩ | ⟨ha, e⟩⟩
  · rw [e]
    refine ⟨fun _ => ⟨j, j1, j2, Or.inr ?_⟩, fun _ => rfl⟩
    rw [l.a.clsI_at j1 j2] at j3
    obtain ⟨k1, k2⟩ := (takeE0 j1 j2).1 j4
    have := (full_pop g k1).1 k2
    rw [j3] at this
    exact ⟨j3, this⟩
  · rw [e]
    exact ⟨fun _ => ⟨j, j1, j2, Or.inl j3⟩, fun _ => rfl⟩
  · rw [e]
    refine ⟨fun h => absurd h (show ¬ (5 : Int) = 0 by decide), ?_⟩
    rintro ⟨s, s1, s2, s3 | ⟨s3, s4⟩⟩
    · have := ha s s1 s2
      omega
    · exact absurd ((takeE0 s1 s2).2 ⟨ha s s1 s2, (full_pop g (ha s s1 s2)).2 (by rw [s3]; exact s4)⟩) (hn s s1 s2 (by rw [l.a.clsI_at s1 s2]; exact s3))
end
end Go.Proofs.YtbgmaifllndpfaaDoor
