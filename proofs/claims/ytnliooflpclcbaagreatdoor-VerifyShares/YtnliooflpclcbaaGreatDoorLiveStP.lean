/- PLAIN: the nodes of stretches of cases. -/
import Derived.Test.YtnliooflpclcbaaGreatDoorLiveKp
namespace Go.Proofs.YtnliooflpclcbaaGreatDoor
set_option maxRecDepth 100000
open Go.RowKit

/-- How many nodes a stretch of c may want. -/
def ndN (c : Nat) : Nat := if c ≤ 1 then 1 else 4 * 2 ^ Nat.log2 (c - 1) - 1
theorem ndN_half {c p k : Nat} (h1 : p < c) (h2 : c ≤ 2 * p) (e : p = 2 ^ k) : ndN c = 1 + 2 * ndN p := by
  have hp : 0 < p := by omega
  have hl : Nat.log2 (c - 1) = k := (Nat.log2_eq_iff (by omega)).2 ⟨by omega, by rw [Nat.pow_succ]; omega⟩
  unfold ndN
  rw [if_neg (by omega), hl, ← e]
  cases k with
  | zero =>
    have : p = 1 := by simpa using e
    subst this
    simp
  | succ j =>
    have hj : 0 < 2 ^ j := Nat.two_pow_pos j
    have e2 : p = 2 * 2 ^ j := by rw [e, Nat.pow_succ]; omega
    have hl2 : Nat.log2 (p - 1) = j := (Nat.log2_eq_iff (by omega)).2 ⟨by omega, by rw [Nat.pow_succ]; omega⟩
    rw [if_neg (by omega), hl2]
    omega
theorem ndN_pos (c : Nat) : 1 ≤ ndN c := by
  unfold ndN
  split
  · exact Nat.le_refl _
  · have := Nat.two_pow_pos (Nat.log2 (c - 1)); omega
theorem ndN_le (c : Nat) (h : 1 ≤ c) : ndN c ≤ 4 * c := by
  unfold ndN
  split
  · omega
  · have := Nat.log2_self_le (n := c - 1) (by omega)
    omega
/-- A case's node. -/
def caseNd (n0 : Nat) (c : Ca) : Nd := (mskP (crP c), kpC c, plP n0 [c.t])
/-- The node n of the stretch s, made behind q others. -/
def StNd (m : Md) (n0 : Nat) (l : List Sc) (q : Nat) (s : Sc) (n : Nd) : Prop :=
  1 ≤ s.2 ∧ s.1 + s.2 ≤ m.ca.length ∧ ((s.2 = 1 ∧ ∃ c, m.ca[s.1]? = some c ∧ n = caseNd n0 c) ∨ (2 ≤ s.2 ∧ ∃ p q1 q2, p < s.2 ∧ s.2 ≤ 2 * p ∧ q1 < q ∧ q2 < q ∧ l[q1]? = some (s.1, p) ∧ l[q2]? = some (s.1 + s.2 - p, p) ∧ n = (0, allU, [((n0 + q1 : Nat) : Int), ((n0 + q2 : Nat) : Int)])))
structure StOK (m : Md) (n0 : Nat) (ns : List Nd) (l : List Sc) : Prop where
  len : ns.length = n0 + l.length
  nd : ∀ q s, l[q]? = some s → ∃ n, ns[n0 + q]? = some n ∧ StNd m n0 l q s n
def StMore (c : Nat) (ns : List Nd) (l : List Sc) (ns' : List Nd) (l' : List Sc) : Prop := ∃ mn ml, ns' = ns ++ mn ∧ l' = l ++ ml ∧ ∀ s ∈ ml, s.2 ≤ c
theorem get_more {α : Type} {l m : List α} {q : Nat} {s : α} (h : l[q]? = some s) : (l ++ m)[q]? = some s := by
  rw [List.getElem?_append_left (List.getElem?_eq_some_iff.1 h).1]
  exact h
theorem StNd.more {m : Md} {n0 : Nat} {l : List Sc} {q : Nat} {s : Sc} {n : Nd} (h : StNd m n0 l q s n) (x : List Sc) : StNd m n0 (l ++ x) q s n := by
  refine ⟨h.1, h.2.1, h.2.2.imp id ?_⟩
  rintro ⟨h2, p, q1, q2, a1, a2, a3, a4, a5, a6, a7⟩
  exact ⟨h2, p, q1, q2, a1, a2, a3, a4, get_more a5, get_more a6, a7⟩
theorem StOK.add {m : Md} {n0 : Nat} {ns : List Nd} {l : List Sc} {s : Sc} {n : Nd} (h : StOK m n0 ns l) (hn : StNd m n0 l l.length s n) : StOK m n0 (ns ++ [n]) (l ++ [s]) := by
  refine ⟨by rw [List.length_append, List.length_append, h.len]; simp; omega, fun q t hq => ?_⟩
  by_cases hql : q < l.length
  · rw [List.getElem?_append_left hql] at hq
    obtain ⟨x, h1, h2⟩ := h.nd q t hq
    exact ⟨x, get_more h1, h2.more _⟩
  · have hq2 : q < (l ++ [s]).length := (List.getElem?_eq_some_iff.1 hq).1
    simp at hq2
    obtain rfl : q = l.length := by omega
    simp at hq
    subst hq
    refine ⟨n, ?_, hn.more _⟩
    rw [← h.len]
    simp
theorem StMore.refl (c : Nat) (ns : List Nd) (l : List Sc) : StMore c ns l ns l := ⟨[], [], by simp, by simp, fun s h => by cases h⟩
theorem StMore.trans {c : Nat} {ns ns1 ns2 : List Nd} {l l1 l2 : List Sc} (h : StMore c ns l ns1 l1) (k : StMore c ns1 l1 ns2 l2) : StMore c ns l ns2 l2 := by
  obtain ⟨a, b, rfl, rfl, h3⟩ := h
  obtain ⟨a', b', rfl, rfl, k3⟩ := k
  refine ⟨a ++ a', b ++ b', by simp, by simp, fun s hs => ?_⟩
  rcases List.mem_append.1 hs with hs | hs
  · exact h3 s hs
  · exact k3 s hs
theorem StMore.mono {c c' : Nat} {ns ns1 : List Nd} {l l1 : List Sc} (h : StMore c ns l ns1 l1) (hc : c ≤ c') : StMore c' ns l ns1 l1 := by
  obtain ⟨a, b, e1, e2, h3⟩ := h
  exact ⟨a, b, e1, e2, fun s hs => Nat.le_trans (h3 s hs) hc⟩
theorem StMore.one (c : Nat) (ns : List Nd) (l : List Sc) (n : Nd) (s : Sc) (h : s.2 ≤ c) : StMore c ns l (ns ++ [n]) (l ++ [s]) := ⟨[n], [s], rfl, rfl, fun t ht => by simp at ht; rw [ht]; exact h⟩
theorem StMore.get {c : Nat} {ns ns1 : List Nd} {l l1 : List Sc} (h : StMore c ns l ns1 l1) {q : Nat} {s : Sc} (hq : l[q]? = some s) : l1[q]? = some s := by
  obtain ⟨a, b, e1, rfl, h3⟩ := h
  exact get_more hq
theorem StMore.notin {c : Nat} {ns ns1 : List Nd} {l l1 : List Sc} (h : StMore c ns l ns1 l1) {s : Sc} (hs : s ∉ l) (hc : c < s.2) : s ∉ l1 := by
  obtain ⟨a, b, e1, rfl, h3⟩ := h
  intro hm
  rcases List.mem_append.1 hm with hm | hm
  · exact hs hm
  · have := h3 s hm; omega
theorem StMore.len {c : Nat} {ns ns1 : List Nd} {l l1 : List Sc} (h : StMore c ns l ns1 l1) : l.length ≤ l1.length := by
  obtain ⟨a, b, e1, rfl, h3⟩ := h
  rw [List.length_append]; omega
end Go.Proofs.YtnliooflpclcbaaGreatDoor
