/- PLAIN: the document's list, as its Arena keeps it, against the arena. -/
import Derived.Test.YtinehimleldkdaaGreatDoorRefApp
namespace Go.Proofs.YtinehimleldkdaaGreatDoor
set_option maxRecDepth 100000

theorem things_len (l : List Mt) : (things l).length = l.length := by simp [things]

/-- Of things by rising addresses, one alone has an address. -/
theorem Rel.one {a : Ab} {l : List Thg} (r : Rel a l) {i j : Nat} {t u : Thg} (hi : l[i]? = some t) (hj : l[j]? = some u) (h : t.addr = u.addr) : i = j := by
  obtain ⟨hil, rfl⟩ := List.getElem?_eq_some_iff.1 hi
  obtain ⟨hjl, rfl⟩ := List.getElem?_eq_some_iff.1 hj
  rcases Nat.lt_trichotomy i j with h1 | h1 | h1
  · have := (List.pairwise_iff_getElem.1 r.up) i j hil hjl h1
    omega
  · exact h1
  · have := (List.pairwise_iff_getElem.1 r.up) j i hjl hil h1
    omega

theorem markI_things {a : Ab} {l : List Mt} (r : Rel a (things l)) {i : Nat} {m : Mt} (hm : l[i]? = some m) : things (markI l i true) = markAt (things l) m.t.addr := by
  refine List.ext_getElem? fun j => ?_
  unfold things markAt
  rw [List.getElem?_map, markI_get, List.getElem?_map, List.getElem?_map]
  cases hj : l[j]? with
  | none => rfl
  | some n =>
    simp only [Option.map_some, Option.some.injEq]
    by_cases e : i = j
    · subst e
      rw [hm] at hj
      rw [← Option.some.inj hj]
      simp
    · rw [if_neg e, if_neg]
      intro ha
      exact e (r.one (things_get hm) (things_get hj) ha.symm)

theorem goneN_count {a : Ab} {l : List Mt} (g : a.Good) (r : Rel a (things l)) {s : Nat} (h1 : 1 ≤ s) (h2 : s < a.n) (h3 : 0 ≤ a.cls s) : goneN l s l.length = a.sweepN s := by
  have := r.count g.ok h1 h2 h3 (fun b => !b)
  unfold Ab.sweepN
  obtain ⟨_, i1, i2⟩ := a.I_at h1 h2
  rw [i1, i2, ← this]
  unfold goneN things
  rw [List.take_length, List.filter_map, List.length_map]
  rfl
theorem cnt_zero (f : Nat → Bool) : cnt f = 0 ↔ ∀ p, p < 64 → f p = false := by
  unfold cnt
  rw [List.length_eq_zero_iff, List.filter_eq_nil_iff]
  simp
theorem leftN_zero {a : Ab} {l : List Mt} (g : a.Good) (r : Rel a (things l)) {s : Nat} (h1 : 1 ≤ s) (h2 : s < a.n) (h3 : 0 ≤ a.cls s) : leftN l s l.length = 0 ↔ a.kept s = 0 := by
  have hcount := r.count g.ok h1 h2 h3 (fun b => b)
  have e : leftN l s l.length = cnt fun p => (a.tk s).testBit p && (a.mr s).testBit p := by
    rw [← hcount]
    unfold leftN things
    rw [List.take_length, List.filter_map, List.length_map]
    rfl
  rw [e, cnt_zero]
  constructor
  · intro h
    refine Nat.eq_of_testBit_eq fun p => ?_
    rw [kept_bit]
    by_cases hp : p < 64
    · rw [h p hp]; simp
    · have : (a.tk s).testBit p = false := Nat.testBit_lt_two_pow (Nat.lt_of_lt_of_le (show a.tk s < 2 ^ 32 from g.tkb s) (Nat.pow_le_pow_right (by decide) (by omega)))
      rw [this]; simp
  · intro h p _
    rw [← kept_bit, h]
    simp

theorem maps_at {a : Ab} {l : List Mt} (g : a.Good) (r : Rel a (things l)) {s : Nat} (h1 : 1 ≤ s) (h2 : s < a.n) : tkM l s (a.cls s) l.length = a.tk s ∧ mrM l s (a.cls s) l.length = a.mr s := by
  unfold tkM mrM
  rw [← things_len l, List.take_length]
  by_cases h3 : 0 ≤ a.cls s
  · refine ⟨r.taken g.ok h1 h2 h3 (fun _ => true) _ (fun q => by simp), r.taken g.ok h1 h2 h3 (fun b => b) _ (fun q => ?_)⟩
    by_cases hq : (a.mr s).testBit q = true
    · rw [hq, g.ok.mb s h3 q hq]; rfl
    · simp only [Bool.not_eq_true] at hq; rw [hq]; simp
  · obtain ⟨z1, z2⟩ := g.z s (by omega)
    have hn := r.none g.ok (s := s) (by omega)
    have e : ∀ f : Bool → Bool, mapsT (things l) s (a.cls s) f 0 = 0 := by
      intro f
      refine Nat.eq_of_testBit_eq fun q => ?_
      rw [Bool.eq_iff_iff, mapsT_bit]
      constructor
      · rintro (h | ⟨t, ht, e1, _⟩)
        · exact h
        · exact absurd e1 (hn t ht)
      · exact fun h => Or.inl h
    rw [z1, z2]
    exact ⟨e _, e _⟩
end Go.Proofs.YtinehimleldkdaaGreatDoor
