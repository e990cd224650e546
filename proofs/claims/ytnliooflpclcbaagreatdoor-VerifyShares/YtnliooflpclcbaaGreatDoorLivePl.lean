/- PLAIN: a sorted list with each thing once; the places of a code. -/
import Derived.Test.YtnliooflpclcbaaGreatDoorLiveRow
import Derived.Lib.SlicesCompact
namespace Go.Proofs.YtnliooflpclcbaaGreatDoor
set_option maxRecDepth 100000
open Go.RowKit

abbrev srtL (l : List Int) : List Int := l.mergeSort fun x y => decide (x ≤ y)
theorem srtL_pair (l : List Int) : (srtL l).Pairwise (· ≤ ·) := by
  have h1 : (srtL l).Pairwise fun x y => decide (x ≤ y) = true := List.pairwise_mergeSort (fun a b c h1 h2 => by simp at *; omega) (fun a b => by simp; omega) l
  exact h1.imp (fun h => by simpa using h)
theorem srtL_mem (l : List Int) (y : Int) : y ∈ srtL l ↔ y ∈ l := List.mem_mergeSort
theorem srtL_len (l : List Int) : (srtL l).length = l.length := List.length_mergeSort _
/-- Of a rising row the first m, each once. -/
theorem comp_up (zs : List Int) (hs : zs.Pairwise (· ≤ ·)) : ∀ m, m ≤ zs.length → (Lib.compactUpTo zs.toArray m).Pairwise (· < ·) ∧ (∀ y, y ∈ Lib.compactUpTo zs.toArray m ↔ ∃ j, j < m ∧ zs[j]? = some y)
  | 0, _ => by
    refine ⟨by simp [Lib.compactUpTo], fun y => ?_⟩
    simp [Lib.compactUpTo]
  | m + 1, hm => by
    obtain ⟨h1, h2⟩ := comp_up zs hs m (by omega)
    have hget : ∀ j, j < zs.length → zs.toArray[j]! = (zs[j]?).getD 0 := fun j hj => by simp [hj]
    obtain ⟨x, hx⟩ : ∃ x, zs[m]? = some x := ⟨zs[m]'(by omega), List.getElem?_eq_getElem _⟩
    have hxm : zs.toArray[m]! = x := by rw [hget m (by omega), hx]; rfl
    have hle : ∀ j y, j < m → zs[j]? = some y → y ≤ x := fun j y hj hy => by
      have := List.pairwise_iff_getElem.1 hs j m (List.getElem?_eq_some_iff.1 hy).1 (by omega) hj
      rw [(List.getElem?_eq_some_iff.1 hy).2, (List.getElem?_eq_some_iff.1 hx).2] at this
      exact this
    rw [Lib.compactUpTo_succ, hxm]
    by_cases hk : Lib.keeps zs.toArray m = true
    · rw [if_pos hk]
      refine ⟨?_, fun y => ?_⟩
      · refine List.pairwise_append.2 ⟨h1, by simp, fun a ha b hb => ?_⟩
        simp at hb
        subst hb
        obtain ⟨j, hj, hy⟩ := (h2 a).1 ha
        have h3 := hle j a hj hy
        rcases Int.lt_or_eq_of_le h3 with h4 | h4
        · exact h4
        · exfalso
          subst h4
          have hm0 : m ≠ 0 := by omega
          have hj2 : j ≤ m - 1 := by omega
          obtain ⟨z, hz⟩ : ∃ z, zs[m - 1]? = some z := ⟨zs[m - 1]'(by omega), List.getElem?_eq_getElem _⟩
          have hzx : z ≤ a := hle (m - 1) z (by omega) hz
          have haz : a ≤ z := by
            rcases Nat.lt_or_eq_of_le hj2 with h5 | h5
            · have := List.pairwise_iff_getElem.1 hs j (m - 1) (List.getElem?_eq_some_iff.1 hy).1 (by omega) h5
              rw [(List.getElem?_eq_some_iff.1 hy).2, (List.getElem?_eq_some_iff.1 hz).2] at this
              exact this
            · subst h5
              rw [hy] at hz
              exact Int.le_of_eq (Option.some.inj hz)
          have hzz : zs.toArray[m - 1]! = a := by rw [hget (m - 1) (by omega), hz]; simp; omega
          unfold Lib.keeps at hk
          simp [hm0, hxm, hzz] at hk
      · rw [List.mem_append, h2]
        constructor
        · rintro (⟨j, hj, hy⟩ | hy)
          · exact ⟨j, by omega, hy⟩
          · simp at hy
            subst hy
            exact ⟨m, by omega, hx⟩
        · rintro ⟨j, hj, hy⟩
          by_cases hjm : j = m
          · subst hjm
            rw [hx] at hy
            cases hy
            exact Or.inr (by simp)
          · exact Or.inl ⟨j, by omega, hy⟩
    · rw [if_neg hk, List.append_nil]
      refine ⟨h1, fun y => ?_⟩
      rw [h2]
      constructor
      · rintro ⟨j, hj, hy⟩
        exact ⟨j, by omega, hy⟩
      · rintro ⟨j, hj, hy⟩
        by_cases hjm : j = m
        · subst hjm
          rw [hx] at hy
          cases hy
          have hm0 : j ≠ 0 := by
            intro e
            subst e
            apply hk
            unfold Lib.keeps
            simp
          obtain ⟨z, hz⟩ : ∃ z, zs[j - 1]? = some z := ⟨zs[j - 1]'(by omega), List.getElem?_eq_getElem _⟩
          have hzz : zs.toArray[j - 1]! = z := by rw [hget (j - 1) (by omega), hz]; rfl
          have : z = x := by
            unfold Lib.keeps at hk
            simp [hm0, hxm, hzz] at hk
            omega
          subst this
          exact ⟨j - 1, by omega, hz⟩
        · exact ⟨j, by omega, hy⟩
theorem comp_len (zs : List Int) : (Lib.compact zs).length ≤ zs.length := by
  unfold Lib.compact Lib.compactUpTo
  rw [List.length_map]
  have := List.length_filter_le (Lib.keeps zs.toArray) (List.range zs.length)
  simpa using this
/-- Rising lists with the same members are one. -/
theorem asc_ext : ∀ (a b : List Int), a.Pairwise (· < ·) → b.Pairwise (· < ·) → (∀ y, y ∈ a ↔ y ∈ b) → a = b
  | [], [], _, _, _ => rfl
  | [], y :: b, _, _, h => absurd ((h y).2 (by simp)) (by simp)
  | x :: a, [], _, _, h => absurd ((h x).1 (by simp)) (by simp)
  | x :: a, y :: b, ha, hb, h => by
    obtain ⟨ha1, ha2⟩ := List.pairwise_cons.1 ha
    obtain ⟨hb1, hb2⟩ := List.pairwise_cons.1 hb
    have e : x = y := by
      have h1 := (h x).1 (by simp)
      have h2 := (h y).2 (by simp)
      rcases List.mem_cons.1 h1 with h1 | h1
      · exact h1
      · rcases List.mem_cons.1 h2 with h2 | h2
        · exact h2.symm
        · have := hb1 x h1
          have := ha1 y h2
          omega
    subst e
    congr 1
    refine asc_ext a b ha2 hb2 (fun z => ?_)
    have hz := h z
    simp only [List.mem_cons] at hz
    constructor
    · intro hza
      rcases hz.1 (Or.inr hza) with rfl | hzb
      · exact absurd (ha1 z hza) (by omega)
      · exact hzb
    · intro hzb
      rcases hz.2 (Or.inr hzb) with rfl | hza
      · exact absurd (hb1 z hzb) (by omega)
      · exact hza
/-- Those of the places that a code of n has, rising, each once. -/
def plP (n : Nat) (l : List Int) : List Int := ((List.range n).filter (fun (k : Nat) => decide ((k : Int) ∈ l))).map Int.ofNat
def inC (n : Nat) (s : Int) : Bool := decide (0 ≤ s) && decide (s < (n : Int))
theorem plP_mem (n : Nat) (l : List Int) (y : Int) : y ∈ plP n l ↔ y ∈ l ∧ 0 ≤ y ∧ y < (n : Int) := by
  unfold plP
  simp only [List.mem_map, List.mem_filter, List.mem_range, decide_eq_true_eq]
  constructor
  · rintro ⟨k, ⟨h1, h2⟩, rfl⟩
    exact ⟨h2, by simp, by simp; omega⟩
  · rintro ⟨h1, h2, h3⟩
    refine ⟨y.toNat, ⟨by omega, ?_⟩, ?_⟩
    · rw [Int.toNat_of_nonneg h2]; exact h1
    · exact Int.toNat_of_nonneg h2
theorem plP_asc (n : Nat) (l : List Int) : (plP n l).Pairwise (· < ·) := by
  unfold plP
  rw [List.pairwise_map]
  refine (List.Pairwise.filter _ List.pairwise_lt_range).imp ?_
  intro a b h
  simp
  exact h
theorem places_eq (n : Nat) (l : List Int) : Lib.compact (srtL (l.filter (inC n))) = plP n l := by
  have h := comp_up (srtL (l.filter (inC n))) (srtL_pair _) _ (Nat.le_refl _)
  refine asc_ext _ _ h.1 (plP_asc n l) (fun y => ?_)
  unfold Lib.compact
  rw [h.2, plP_mem]
  have h3 : (∃ j, j < (srtL (l.filter (inC n))).length ∧ (srtL (l.filter (inC n)))[j]? = some y) ↔ y ∈ srtL (l.filter (inC n)) := by
    rw [List.mem_iff_getElem?]
    constructor
    · rintro ⟨j, _, h⟩
      exact ⟨j, h⟩
    · rintro ⟨j, h⟩
      exact ⟨j, (List.getElem?_eq_some_iff.1 h).1, h⟩
  rw [h3, srtL_mem, List.mem_filter]
  unfold inC
  simp
end Go.Proofs.YtnliooflpclcbaaGreatDoor
