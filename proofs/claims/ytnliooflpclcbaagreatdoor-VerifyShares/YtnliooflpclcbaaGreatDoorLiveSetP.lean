/- PLAIN: sets of a graph grow till nothing more is known. -/
import Derived.Test.YtnliooflpclcbaaGreatDoorLiveAhd
namespace Go.Proofs.YtnliooflpclcbaaGreatDoor
set_option maxRecDepth 100000
open Go.RowKit

/-- X holds what is known at first, and goes along the ways against their direction. -/
def ClG (nx : Nat → List Int) (kp : Nat → Nat) (N : Nat) (st0 : Nat → Nat) (X : Nat → Nat → Prop) : Prop :=
  (∀ k s, k < N → (st0 k).testBit s = true → X k s) ∧ ∀ a q s, a < N → q < N → (q : Int) ∈ nx a → X q s → (kp a).testBit s = true → X a s
/-- What is known: at least st0, at most what any such X holds; of what has no work left all has gone along. -/
structure PI (nx : Nat → List Int) (kp : Nat → Nat) (N : Nat) (st0 st : Nat → Nat) (wk : List Int) : Prop where
  lo : ∀ k s, k < N → (st0 k).testBit s = true → (st k).testBit s = true
  up : ∀ X, ClG nx kp N st0 X → ∀ k s, k < N → (st k).testBit s = true → X k s
  ed : ∀ q a s, q < N → (q : Int) ∉ wk → a < N → (q : Int) ∈ nx a → (st q).testBit s = true → (kp a).testBit s = true → (st a).testBit s = true
  bd : ∀ k, k < N → st k < 18446744073709551616
  wb : ∀ q ∈ wk, 0 ≤ q ∧ q < (N : Int)
/-- The same while one node's ways are gone along: those to d are done. -/
structure PJ (nx : Nat → List Int) (kp : Nat → Nat) (N : Nat) (st0 st : Nat → Nat) (wk : List Int) (f : Nat) (d : List Int) : Prop where
  lo : ∀ k s, k < N → (st0 k).testBit s = true → (st k).testBit s = true
  up : ∀ X, ClG nx kp N st0 X → ∀ k s, k < N → (st k).testBit s = true → X k s
  ed : ∀ q a s, q < N → (q : Int) ∉ wk → q ≠ f → a < N → (q : Int) ∈ nx a → (st q).testBit s = true → (kp a).testBit s = true → (st a).testBit s = true
  ef : ∀ a s, a < N → (a : Int) ∈ d → (st f).testBit s = true → (kp a).testBit s = true → (st a).testBit s = true
  bd : ∀ k, k < N → st k < 18446744073709551616
  wb : ∀ q ∈ wk, 0 ≤ q ∧ q < (N : Int)
theorem PI.pop {nx : Nat → List Int} {kp : Nat → Nat} {N : Nat} {st0 st : Nat → Nat} {wk : List Int} {f : Nat} (h : PI nx kp N st0 st (wk ++ [(f : Int)])) : PJ nx kp N st0 st wk f [] :=
  ⟨h.lo, h.up, fun q a s h1 h2 h3 h4 h5 h6 h7 => h.ed q a s h1 (fun hm => by
    rcases List.mem_append.1 hm with hm | hm
    · exact h2 hm
    · simp at hm; omega) h4 h5 h6 h7, fun a s _ h => by simp at h, h.bd, fun q hq => h.wb q (List.mem_append.2 (Or.inl hq))⟩
def upd (st : Nat → Nat) (a v : Nat) : Nat → Nat := fun k => if k = a then v else st k
theorem upd_self (st : Nat → Nat) (a v : Nat) : upd st a v a = v := by simp [upd]
theorem upd_ne (st : Nat → Nat) {a k : Nat} (v : Nat) (h : k ≠ a) : upd st a v k = st k := by simp [upd, h]
theorem upd_same (st : Nat → Nat) (a : Nat) : upd st a (st a) = st := by
  funext k
  unfold upd
  split
  · rename_i h; rw [h]
  · rfl
theorem upd_up {st : Nat → Nat} {a v : Nat} (hv : ∀ s, (st a).testBit s = true → v.testBit s = true) (k s : Nat) (h : (st k).testBit s = true) : (upd st a v k).testBit s = true := by
  by_cases e : k = a
  · subst e; rw [upd_self]; exact hv s h
  · rw [upd_ne st v e]; exact h
/-- One way is gone along. -/
theorem PJ.step {nx : Nat → List Int} {kp : Nat → Nat} {N : Nat} {st0 st : Nat → Nat} {wk d : List Int} {f a : Nat} (h : PJ nx kp N st0 st wk f d) (hf : f < N) (ha : a < N) (hfa : (f : Int) ∈ nx a) :
    PJ nx kp N st0 (upd st a (st a ||| (st f &&& kp a))) (if st a ||| (st f &&& kp a) = st a then wk else wk ++ [(a : Int)]) f (d ++ [(a : Int)]) := by
  have hv : ∀ s, (st a).testBit s = true → (st a ||| (st f &&& kp a)).testBit s = true := fun s hs => by rw [Nat.testBit_or, hs]; rfl
  have hstf : ∀ s, (upd st a (st a ||| (st f &&& kp a)) f).testBit s = (st f).testBit s := fun s => by
    by_cases e : f = a
    · subst e
      rw [upd_self, Nat.testBit_or, Nat.testBit_and]
      cases (st f).testBit s <;> simp
    · rw [upd_ne st _ e]
  have hwb : ∀ q ∈ (if st a ||| (st f &&& kp a) = st a then wk else wk ++ [(a : Int)]), 0 ≤ q ∧ q < (N : Int) := by
    split
    · exact h.wb
    · intro q hq
      rcases List.mem_append.1 hq with hq | hq
      · exact h.wb q hq
      · simp at hq; omega
  refine ⟨fun k s hk hs => upd_up hv k s (h.lo k s hk hs), fun X hX k s hk hs => ?_, fun q a' s h1 h2 h3 h4 h5 h6 h7 => ?_, fun a' s h1 h2 h3 h4 => ?_, fun k hk => ?_, hwb⟩
  · by_cases e : k = a
    · subst e
      rw [upd_self, Nat.testBit_or, Nat.testBit_and] at hs
      cases h1 : (st k).testBit s with
      | true => exact h.up X hX k s hk h1
      | false =>
        rw [h1] at hs
        simp at hs
        exact hX.2 k f s hk hf hfa (h.up X hX f s hf hs.1) hs.2
    · rw [upd_ne st _ e] at hs
      exact h.up X hX k s hk hs
  · have hq : (q : Int) ∉ wk := fun hm => h2 (by split; exact hm; exact List.mem_append.2 (Or.inl hm))
    have hqa : q = a → (upd st a (st a ||| (st f &&& kp a)) q) = st q := fun e => by
      subst e
      rw [upd_self]
      by_cases e2 : st q ||| (st f &&& kp q) = st q
      · exact e2
      · rw [if_neg e2] at h2
        exact absurd (List.mem_append.2 (Or.inr (by simp))) h2
    have h6' : (st q).testBit s = true := by
      by_cases e : q = a
      · rw [hqa e] at h6; exact h6
      · rw [upd_ne st _ e] at h6; exact h6
    exact upd_up hv a' s (h.ed q a' s h1 hq h3 h4 h5 h6' h7)
  · rw [hstf s] at h3
    rcases List.mem_append.1 h2 with h2 | h2
    · exact upd_up hv a' s (h.ef a' s h1 h2 h3 h4)
    · simp at h2
      obtain rfl : a' = a := by omega
      rw [upd_self, Nat.testBit_or, Nat.testBit_and, h3, h4]
      simp
  · by_cases e : k = a
    · subst e
      rw [upd_self]
      exact or_lt (h.bd k hk) (Nat.lt_of_le_of_lt Nat.and_le_left (h.bd f hf))
    · rw [upd_ne st _ e]
      exact h.bd k hk
theorem PJ.done {nx : Nat → List Int} {kp : Nat → Nat} {N : Nat} {st0 st : Nat → Nat} {wk d : List Int} {f : Nat} (h : PJ nx kp N st0 st wk f d) (hd : ∀ a, a < N → (f : Int) ∈ nx a → (a : Int) ∈ d) : PI nx kp N st0 st wk :=
  ⟨h.lo, h.up, fun q a s h1 h2 h3 h4 h5 h6 => by
    by_cases e : q = f
    · subst e
      exact h.ef a s h3 (hd a h3 h4) h5 h6
    · exact h.ed q a s h1 h2 e h3 h4 h5 h6, h.bd, h.wb⟩
theorem pi_start (nx : Nat → List Int) (kp : Nat → Nat) (N : Nat) (st0 : Nat → Nat) (hb : ∀ k, k < N → st0 k < 18446744073709551616) (wk : List Int) (hw : ∀ q, q < N → (q : Int) ∈ wk) (hw2 : ∀ q ∈ wk, 0 ≤ q ∧ q < (N : Int)) : PI nx kp N st0 st0 wk :=
  ⟨fun _ _ _ h => h, fun _ hX k s hk h => hX.1 k s hk h, fun q _ _ h1 h2 => absurd (hw q h1) h2, hb, hw2⟩
/-- How many bits are not set. -/
def zc (x : Nat) : Nat := (List.range 64).countP (fun s => !x.testBit s)
theorem countP_less {α : Type} (p q : α → Bool) : ∀ (l : List α), (∀ a ∈ l, p a = true → q a = true) → l.countP p ≤ l.countP q ∧ ((∃ a ∈ l, p a = false ∧ q a = true) → l.countP p < l.countP q)
  | [], _ => ⟨Nat.le_refl _, fun ⟨a, h, _⟩ => by cases h⟩
  | x :: l, h => by
    obtain ⟨h1, h2⟩ := countP_less p q l (fun a ha => h a (List.mem_cons_of_mem _ ha))
    have hx := h x (by simp)
    rw [List.countP_cons, List.countP_cons]
    refine ⟨?_, ?_⟩
    · cases hp : p x
      · cases hq : q x <;> simp <;> omega
      · rw [hx hp]; simp; omega
    · rintro ⟨a, ha, pa, qa⟩
      rcases List.mem_cons.1 ha with rfl | ha
      · rw [pa, qa]; simp; omega
      · have h3 := h2 ⟨a, ha, pa, qa⟩
        cases hp : p x
        · cases hq : q x <;> simp <;> omega
        · rw [hx hp]; simp; omega
theorem zc_lt {x y : Nat} (hx : x < 18446744073709551616) (hy : y < 18446744073709551616) (h : ¬ x ||| y = x) : zc (x ||| y) < zc x := by
  refine (countP_less _ _ (List.range 64) (fun s _ hs => ?_)).2 ?_
  · simp at hs ⊢
    exact hs.1
  · have hne : ∃ s, (x ||| y).testBit s ≠ x.testBit s := by
      refine Classical.byContradiction (fun hn => h (Nat.eq_of_testBit_eq (fun s => ?_)))
      exact Classical.byContradiction (fun hs => hn ⟨s, hs⟩)
    obtain ⟨s, hs⟩ := hne
    have h64 : s < 64 := by
      refine Classical.byContradiction (fun hge => hs ?_)
      have e1 : (x ||| y).testBit s = false := Nat.testBit_lt_two_pow (Nat.lt_of_lt_of_le (or_lt hx hy) (show 2 ^ 64 ≤ 2 ^ s from Nat.pow_le_pow_right (by decide) (by omega)))
      have e2 : x.testBit s = false := Nat.testBit_lt_two_pow (Nat.lt_of_lt_of_le hx (show 2 ^ 64 ≤ 2 ^ s from Nat.pow_le_pow_right (by decide) (by omega)))
      rw [e1, e2]
    refine ⟨s, List.mem_range.2 h64, ?_⟩
    rw [Nat.testBit_or] at hs ⊢
    cases h1 : x.testBit s
    · rw [h1] at hs
      simp at hs
      simp [hs]
    · rw [h1] at hs
      simp at hs
theorem zc_le (x : Nat) : zc x ≤ 64 := by
  have := List.countP_le_length (p := fun s => !x.testBit s) (l := List.range 64)
  simpa [zc] using this
/-- How much more could be known. -/
def muP (st : Nat → Nat) : Nat → Nat
  | 0 => 0
  | n + 1 => muP st n + zc (st n)
theorem mu_le (st : Nat → Nat) : ∀ n, muP st n ≤ 64 * n
  | 0 => Nat.le_refl _
  | n + 1 => by
    have h1 := mu_le st n
    have h2 := zc_le (st n)
    show muP st n + zc (st n) ≤ 64 * (n + 1)
    omega
theorem mu_same {st st' : Nat → Nat} : ∀ n, (∀ k, k < n → st' k = st k) → muP st' n = muP st n
  | 0, _ => rfl
  | n + 1, h => by
    show muP st' n + zc (st' n) = muP st n + zc (st n)
    rw [mu_same n (fun k hk => h k (by omega)), h n (by omega)]
theorem mu_upd (st : Nat → Nat) (a v : Nat) (hv : zc v < zc (st a)) : ∀ n, a < n → muP (upd st a v) n < muP st n
  | 0, h => by omega
  | n + 1, h => by
    show muP (upd st a v) n + zc (upd st a v n) < muP st n + zc (st n)
    by_cases e : a = n
    · subst e
      rw [mu_same (st := st) (st' := upd st a v) a (fun k hk => upd_ne st v (by omega)), upd_self]
      omega
    · rw [upd_ne st v (fun h => e h.symm)]
      have := mu_upd st a v hv n (by omega)
      omega
end Go.Proofs.YtnliooflpclcbaaGreatDoor
