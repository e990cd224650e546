/- PLAIN: what is known of slots, and how it goes along the ways of a code, as the program reckons it. -/
import Derived.Test.YtiangegoglfpeaaDoorLiveMap
namespace Go.Proofs.YtiangegoglfpeaaDoor
set_option maxRecDepth 100000

/-- What is known of the slots: which are young, which own, of each the fields that were written. -/
structure Kn where
  y : Nat
  o : Nat
  ws : List Nat
def W64 : Nat := 18446744073709551616
structure Kn.Ok (k : Kn) : Prop where
  y : k.y < 18446744073709551616
  o : k.o < 18446744073709551616
  n : k.ws.length = 64
  w : ∀ x ∈ k.ws, x < 18446744073709551616
def anN (a b : Nat) : Nat := a &&& (18446744073709551615 - b)
def Kn.zero : Kn := ⟨0, 0, List.replicate 64 0⟩
def Kn.hand (k : Kn) (s : Nat) : Kn := ⟨k.y, anN k.o s, k.ws⟩
def clrW (s : Nat) (ws : List Nat) : List Nat := ws.mapIdx fun i x => if s.testBit i then 0 else x
def Kn.forget (k : Kn) (s : Nat) : Kn := ⟨anN k.y s, anN k.o s, clrW s k.ws⟩
def Kn.begin (k : Kn) (a : Int) (yg : Bool) : Kn := if yg then ⟨(k.forget (bitP a)).y ||| bitP a, (k.forget (bitP a)).o, (k.forget (bitP a)).ws⟩ else k.forget (bitP a)
def Kn.write (k : Kn) (a : Int) (f : Nat) : Kn := if bitP a = 0 then k else ⟨k.y, k.o, k.ws.set a.toNat (k.ws.getD a.toNat 0 ||| f)⟩
def Kn.meet (k j : Kn) : Kn := ⟨k.y &&& j.y, k.o &&& j.o, List.zipWith (fun a b => a ||| b) k.ws j.ws⟩
def Kn.eq (k j : Kn) : Bool := k.y == j.y && (k.o == j.o && k.ws == j.ws)
theorem Kn.eq_iff (k j : Kn) : k.eq j = true ↔ k = j := by
  obtain ⟨a, b, c⟩ := k
  obtain ⟨a', b', c'⟩ := j
  simp [Kn.eq]
theorem anN_lt (a b : Nat) (h : a < 18446744073709551616) : anN a b < 18446744073709551616 := Nat.lt_of_le_of_lt Nat.and_le_left h
theorem anN_bit (a b : Nat) (ha : a < 18446744073709551616) (hb : b < 18446744073709551616) (p : Nat) : (anN a b).testBit p = (a.testBit p && !b.testBit p) := by
  unfold anN
  have h64 : 18446744073709551615 - b = 2 ^ 64 - (b + 1) := by omega
  rw [Nat.testBit_and, h64, Nat.testBit_two_pow_sub_succ (show b < 2 ^ 64 from hb)]
  by_cases hp : p < 64
  · simp [hp]
  · have : a.testBit p = false := Nat.testBit_lt_two_pow (Nat.lt_of_lt_of_le (show a < 2 ^ 64 from ha) (Nat.pow_le_pow_right (by decide) (by omega)))
    simp [this]
theorem clr_len (s : Nat) (ws : List Nat) : (clrW s ws).length = ws.length := by simp [clrW]
theorem clr_get (s : Nat) (ws : List Nat) (i : Nat) : (clrW s ws)[i]? = (ws[i]?).map fun x => if s.testBit i then 0 else x := by simp [clrW]
theorem clr_mem {s : Nat} {ws : List Nat} {x : Nat} (h : x ∈ clrW s ws) : x = 0 ∨ x ∈ ws := by
  obtain ⟨i, hi⟩ := List.getElem?_of_mem h
  rw [clr_get] at hi
  obtain ⟨z, hz, e⟩ := Option.map_eq_some_iff.1 hi
  split at e
  · exact Or.inl e.symm
  · subst e; exact Or.inr (List.mem_of_getElem? hz)
theorem Kn.zero_ok : Kn.zero.Ok := ⟨by decide, by decide, by simp [Kn.zero], fun x hx => by have := List.eq_of_mem_replicate hx; subst this; decide⟩
theorem Kn.Ok.hand {k : Kn} (h : k.Ok) (s : Nat) : (k.hand s).Ok := ⟨h.y, anN_lt _ _ h.o, h.n, h.w⟩
theorem Kn.Ok.forget {k : Kn} (h : k.Ok) (s : Nat) : (k.forget s).Ok := ⟨anN_lt _ _ h.y, anN_lt _ _ h.o, (clr_len _ _).trans h.n, fun x hx => by
  rcases clr_mem hx with rfl | hx
  · decide
  · exact h.w x hx⟩
theorem Kn.Ok.begin {k : Kn} (h : k.Ok) (a : Int) (yg : Bool) : (k.begin a yg).Ok := by
  have hf := h.forget (bitP a)
  unfold Kn.begin
  split
  · exact ⟨or_lt hf.y (bitP_lt a), hf.o, hf.n, hf.w⟩
  · exact hf
theorem Kn.Ok.write {k : Kn} (h : k.Ok) (a : Int) (f : Nat) (hf : f < 18446744073709551616) : (k.write a f).Ok := by
  unfold Kn.write
  split
  · exact h
  · refine ⟨h.y, h.o, by simp [h.n], fun x hx => ?_⟩
    rcases List.mem_or_eq_of_mem_set hx with hx | rfl
    · exact h.w x hx
    · refine or_lt ?_ hf
      rw [List.getD_eq_getElem?_getD]
      cases e : k.ws[a.toNat]? with
      | none => decide
      | some z => exact h.w z (List.mem_of_getElem? e)
theorem Kn.Ok.meet {k j : Kn} (h : k.Ok) (g : j.Ok) : (k.meet j).Ok := ⟨Nat.lt_of_le_of_lt Nat.and_le_left h.y, Nat.lt_of_le_of_lt Nat.and_le_left h.o, by simp [Kn.meet, h.n, g.n], fun x hx => by
  obtain ⟨i, hi⟩ := List.getElem?_of_mem hx
  simp only [Kn.meet, List.getElem?_zipWith] at hi
  split at hi
  · rename_i a b ha hb
    cases hi
    exact or_lt (h.w a (List.mem_of_getElem? ha)) (g.w b (List.mem_of_getElem? hb))
  · cases hi⟩

/-- How much may still be lost. -/
def Kn.rk (k : Kn) : Nat := k.y + k.o + (k.ws.map fun x => 18446744073709551616 - x).sum
theorem and_lt_of_ne {a b : Nat} (h : a &&& b ≠ a) : a &&& b < a := by
  have := @Nat.and_le_left a b
  omega
theorem or_ge (a b : Nat) : a ≤ a ||| b := Nat.left_le_or
theorem zip_sum : ∀ (k j : List Nat), k.length = j.length → (∀ x ∈ k, x < 18446744073709551616) → (∀ x ∈ j, x < 18446744073709551616) →
    ((List.zipWith (fun a b => a ||| b) k j).map fun x => 18446744073709551616 - x).sum ≤ (k.map fun x => 18446744073709551616 - x).sum ∧
    (List.zipWith (fun a b => a ||| b) k j ≠ k → ((List.zipWith (fun a b => a ||| b) k j).map fun x => 18446744073709551616 - x).sum < (k.map fun x => 18446744073709551616 - x).sum)
  | [], [], _, _, _ => by simp
  | a :: k, b :: j, hl, hk, hj => by
    obtain ⟨h1, h2⟩ := zip_sum k j (by simpa using hl) (fun x hx => hk x (List.mem_cons_of_mem _ hx)) (fun x hx => hj x (List.mem_cons_of_mem _ hx))
    have ha := hk a List.mem_cons_self
    have hb := hj b List.mem_cons_self
    have hor := or_lt ha hb
    have hge := or_ge a b
    simp only [List.zipWith_cons_cons, List.map_cons, List.sum_cons]
    refine ⟨by omega, fun hne => ?_⟩
    by_cases e : a ||| b = a
    · have : List.zipWith (fun a b => a ||| b) k j ≠ k := fun h => hne (by rw [h, e])
      have := h2 this
      omega
    · omega
theorem rk_meet {k j : Kn} (h : k.Ok) (g : j.Ok) (hne : (k.meet j).eq k = false) : (k.meet j).rk < k.rk := by
  have hne : k.meet j ≠ k := fun e => by rw [(Kn.eq_iff _ _).2 e] at hne; cases hne
  obtain ⟨h1, h2⟩ := zip_sum k.ws j.ws (h.n.trans g.n.symm) h.w g.w
  have h3 := @Nat.and_le_left k.y j.y
  have h4 := @Nat.and_le_left k.o j.o
  have e : (k.meet j).rk = (k.y &&& j.y) + (k.o &&& j.o) + ((List.zipWith (fun a b => a ||| b) k.ws j.ws).map fun x => 18446744073709551616 - x).sum := rfl
  have e2 : k.rk = k.y + k.o + (k.ws.map fun x => 18446744073709551616 - x).sum := rfl
  rw [e, e2]
  by_cases e3 : k.y &&& j.y = k.y
  · by_cases e4 : k.o &&& j.o = k.o
    · by_cases e5 : List.zipWith (fun a b => a ||| b) k.ws j.ws = k.ws
      · exfalso
        apply hne
        obtain ⟨a, b, c⟩ := k
        simp only [Kn.meet] at *
        rw [e3, e4, e5]
      · have := h2 e5
        omega
    · omega
  · omega
theorem sum_le : ∀ (l : List Nat), (l.map fun x => 18446744073709551616 - x).sum ≤ l.length * 18446744073709551616
  | [] => by simp
  | a :: l => by
    have := sum_le l
    simp only [List.map_cons, List.sum_cons, List.length_cons]
    omega
theorem rk_le {k : Kn} (h : k.Ok) : k.rk < 66 * 18446744073709551616 := by
  have := sum_le k.ws
  have h1 := h.y
  have h2 := h.o
  rw [h.n] at this
  unfold Kn.rk
  omega

/-! The queue: a row that container/heap keeps. -/
def swpL (l : List Int) (i j : Nat) : List Int := (l.set i (l.getD j 0)).set j (l.getD i 0)
def upL : Nat → List Int → Nat → List Int
  | 0, l, _ => l
  | n + 1, l, j => if (j - 1) / 2 = j then l else if l.getD j 0 < l.getD ((j - 1) / 2) 0 then upL n (swpL l ((j - 1) / 2) j) ((j - 1) / 2) else l
/-- Which child is asked. -/
def kidL (l : List Int) (i n : Nat) : Nat := if 2 * i + 2 < n ∧ l.getD (2 * i + 2) 0 < l.getD (2 * i + 1) 0 then 2 * i + 2 else 2 * i + 1
def dnL : Nat → List Int → Nat → Nat → List Int
  | 0, l, _, _ => l
  | k + 1, l, i, n => if n ≤ 2 * i + 1 then l else if l.getD (kidL l i n) 0 < l.getD i 0 then dnL k (swpL l i (kidL l i n)) (kidL l i n) n else l
def pshL (l : List Int) (x : Int) : List Int := upL (l.length + 1) (l ++ [x]) l.length
def popL (l : List Int) : List Int := dnL (l.length + 1) (swpL l 0 (l.length - 1)) 0 (l.length - 1)
theorem swp_len (l : List Int) (i j : Nat) : (swpL l i j).length = l.length := by simp [swpL]
theorem getD_lt {l : List Int} {i : Nat} (h : i < l.length) : l[i]? = some (l.getD i 0) := by
  rw [List.getD_eq_getElem?_getD, List.getElem?_eq_getElem h]; rfl
theorem swp_perm (l : List Int) (i j : Nat) (hi : i < l.length) (hj : j < l.length) : (swpL l i j).Perm l := by
  rw [List.perm_iff_count]
  intro a
  unfold swpL
  have e1 : l.getD j 0 = l[j] := by rw [List.getD_eq_getElem?_getD, List.getElem?_eq_getElem hj]; rfl
  have e2 : l.getD i 0 = l[i] := by rw [List.getD_eq_getElem?_getD, List.getElem?_eq_getElem hi]; rfl
  rw [e1, e2, List.count_set (by simpa using hj), List.count_set hi, List.getElem_set]
  have c1 : l[i] = a → 0 < l.count a := fun h => List.count_pos_iff.2 (h ▸ List.getElem_mem _)
  have c2 : l[j] = a → 0 < l.count a := fun h => List.count_pos_iff.2 (h ▸ List.getElem_mem _)
  by_cases hij : i = j
  · subst hij
    simp
    split
    · have := c1 (by assumption); omega
    · omega
  · simp only [hij, if_false, beq_iff_eq]
    by_cases h1 : l[i] = a
    · by_cases h2 : l[j] = a
      · have := c1 h1
        simp [h1, h2]
        omega
      · have := c1 h1
        simp [h1, h2]
        omega
    · by_cases h2 : l[j] = a
      · have := c2 h2
        simp [h1, h2]
      · simp [h1, h2]
theorem up_perm : ∀ (n : Nat) (l : List Int) (j : Nat), j < l.length → (upL n l j).Perm l
  | 0, l, _, _ => List.Perm.refl l
  | n + 1, l, j, hj => by
    unfold upL
    split
    · exact List.Perm.refl l
    · split
      · exact (up_perm n _ _ (by rw [swp_len]; omega)).trans (swp_perm l _ _ (by omega) hj)
      · exact List.Perm.refl l
theorem kid_lt {l : List Int} {i n : Nat} (h : ¬ n ≤ 2 * i + 1) : kidL l i n < n := by
  unfold kidL
  split <;> omega
theorem dn_perm : ∀ (k : Nat) (l : List Int) (i n : Nat), n ≤ l.length → i < l.length → (dnL k l i n).Perm l
  | 0, l, _, _, _, _ => List.Perm.refl l
  | k + 1, l, i, n, hn, hi => by
    unfold dnL
    split
    · exact List.Perm.refl l
    · rename_i h
      have := kid_lt (l := l) h
      split
      · exact (dn_perm k _ _ n (by rw [swp_len]; exact hn) (by rw [swp_len]; omega)).trans (swp_perm l _ _ hi (by omega))
      · exact List.Perm.refl l
theorem psh_perm (l : List Int) (x : Int) : (pshL l x).Perm (l ++ [x]) := up_perm _ _ _ (by simp)
theorem pop_perm (l : List Int) (h : l ≠ []) : (popL l).Perm l := by
  have : 0 < l.length := List.length_pos_iff.2 h
  exact (dn_perm _ _ _ _ (by rw [swp_len]; omega) (by rw [swp_len]; omega)).trans (swp_perm l _ _ (by omega) (by omega))
theorem pop_len (l : List Int) : (popL l).length = l.length := by
  cases l with
  | nil => rfl
  | cons a l => exact (pop_perm (a :: l) (by simp)).length_eq
end Go.Proofs.YtiangegoglfpeaaDoor
