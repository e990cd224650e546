/- PLAIN: a text cut into words (chapter 19). -/
import Derived.WalkKit
namespace Go.Proofs.YtablincnlfbjnabDoor
set_option maxRecDepth 100000

/-- A word: its kind, its bytes, where it begins. -/
structure Wd where
  k : Nat
  x : List UInt8
  o : Nat

def blankN (n : Nat) : Bool := n == 32 || n == 9 || n == 10 || n == 13
def letN (n : Nat) : Bool := (decide (97 ≤ n) && decide (n ≤ 122)) || (decide (65 ≤ n) && decide (n ≤ 90)) || n == 95
def digN (n : Nat) : Bool := decide (48 ≤ n) && decide (n ≤ 57)
def nmN (n : Nat) : Bool := letN n || digN n
def lineN (n : Nat) : Bool := n != 10

def keptL : List (List UInt8) :=
  [[115, 116, 114, 117, 99, 116],
   [118, 97, 114],
   [102, 117, 110, 99],
   [105, 110, 116],
   [98, 111, 111, 108],
   [99, 104, 97, 110],
   [105, 102],
   [101, 108, 115, 101],
   [119, 104, 105, 108, 101],
   [114, 101, 116, 117, 114, 110],
   [112, 114, 105, 110, 116],
   [103, 111],
   [115, 101, 110, 100],
   [99, 108, 111, 115, 101],
   [115, 101, 108, 101, 99, 116],
   [99, 97, 115, 101],
   [100, 101, 102, 97, 117, 108, 116],
   [114, 101, 99, 118],
   [116, 114, 117, 101],
   [102, 97, 108, 115, 101],
   [110, 105, 108],
   [110, 101, 119],
   [109, 97, 107, 101],
   [108, 101, 110]]
def keptP (x : List UInt8) : Bool := keptL.contains x

def twoL : List (List UInt8) := [[61, 61], [33, 61], [60, 61], [62, 61], [60, 60], [62, 62], [38, 38], [124, 124]]
def oneL : List UInt8 := [40, 41, 123, 125, 91, 93, 44, 59, 46, 61, 60, 62, 43, 45, 42, 47, 37, 38, 124, 94, 33, 58]

/-- How many bytes of a sort a text begins with. -/
def leadW (p : Nat → Bool) : List UInt8 → Nat
  | [] => 0
  | c :: l => if p c.toNat then leadW p l + 1 else 0

theorem leadW_le (p : Nat → Bool) : ∀ l, leadW p l ≤ l.length
  | [] => Nat.le_refl _
  | c :: l => by
    have h := leadW_le p l
    by_cases hc : p c.toNat = true
    · simp only [leadW, hc, if_true, List.length_cons]; omega
    · simp only [leadW, hc, List.length_cons]; simp

/-- What the loop goes by. -/
theorem leadW_hit {p : Nat → Bool} {l : List UInt8} {k : Nat} (hk : k < l.length) (h : p (l[k]).toNat = true) : leadW p (l.drop k) = leadW p (l.drop (k + 1)) + 1 := by
  rw [List.drop_eq_getElem_cons hk]
  simp [leadW, h]
theorem leadW_miss {p : Nat → Bool} {l : List UInt8} {k : Nat} (hk : k < l.length) (h : p (l[k]).toNat = false) : leadW p (l.drop k) = 0 := by
  rw [List.drop_eq_getElem_cons hk]
  simp [leadW, h]
theorem leadW_nil (p : Nat → Bool) : leadW p [] = 0 := rfl

theorem leadW_all {p : Nat → Bool} : ∀ {l : List UInt8}, ∀ c ∈ l.take (leadW p l), p c.toNat = true
  | [], c, h => by simp at h
  | d :: l, c, h => by
    by_cases hd : p d.toNat = true
    · simp only [leadW, hd, if_true, List.take_succ_cons, List.mem_cons] at h
      rcases h with rfl | h
      · exact hd
      · exact leadW_all c h
    · simp only [leadW, hd] at h; simp at h

/-- All of x are of the sort, what stands behind is not: so many. -/
theorem leadW_app {p : Nat → Bool} : ∀ {x : List UInt8} {l : List UInt8}, (∀ c ∈ x, p c.toNat = true) → leadW p l = 0 → leadW p (x ++ l) = x.length
  | [], l, _, h => by simpa using h
  | c :: x, l, hx, h => by
    have hc := hx c (by simp)
    have := leadW_app (x := x) (l := l) (fun d hd => hx d (by simp [hd])) h
    simp only [List.cons_append, leadW, hc, if_true, this, List.length_cons]

/-- What lies between words, ahead of the first. -/
def gap (l : List UInt8) : Nat :=
  match l with
  | [] => 0
  | c :: r =>
    if blankN c.toNat = true then gap r + 1
    else if c = 47 ∧ r.head? = some 47 then gap ((c :: r).drop (leadW lineN (c :: r))) + leadW lineN (c :: r)
    else 0
  termination_by l.length
  decreasing_by
    all_goals simp_wf
    rename_i h
    obtain ⟨h1, -⟩ := h
    subst h1
    have : leadW lineN (47 :: r) = leadW lineN r + 1 := rfl
    rw [this]
    omega

theorem gap_nil : gap [] = 0 := by rw [gap]
theorem gap_blank {c : UInt8} {r : List UInt8} (h : blankN c.toNat = true) : gap (c :: r) = gap r + 1 := by rw [gap, if_pos h]
theorem not_blank47 : blankN (47 : UInt8).toNat = false := by decide
theorem gap_remark {r : List UInt8} (h : r.head? = some 47) : gap (47 :: r) = gap ((47 :: r).drop (leadW lineN (47 :: r))) + leadW lineN (47 :: r) := by
  rw [gap, if_neg (by rw [not_blank47]; simp), if_pos ⟨rfl, h⟩]
theorem gap_none {c : UInt8} {r : List UInt8} (h : blankN c.toNat = false) (g : ¬ (c = 47 ∧ r.head? = some 47)) : gap (c :: r) = 0 := by
  rw [gap, if_neg (by rw [h]; simp), if_neg g]

/-- A text's head goes with a row of blanks. -/
theorem gap_blanks : ∀ l : List UInt8, gap l = gap (l.drop (leadW blankN l)) + leadW blankN l
  | [] => by simp [leadW]
  | c :: l => by
    by_cases h : blankN c.toNat = true
    · rw [gap_blank h, gap_blanks l]
      simp only [leadW, h, if_true, List.drop_succ_cons]
      omega
    · simp only [leadW, h]; simp
/-- Two slashes ahead? -/
def slash2 (l : List UInt8) : Bool := [47, 47].isPrefixOf l
theorem slash2_iff : ∀ l : List UInt8, slash2 l = true ↔ ∃ r, l = 47 :: 47 :: r
  | [] => by simp [slash2, List.isPrefixOf]
  | [c] => by simp [slash2, List.isPrefixOf]
  | c :: d :: r => by
    simp only [slash2, List.isPrefixOf, Bool.and_eq_true, beq_iff_eq, Bool.and_true, List.cons.injEq]
    constructor
    · rintro ⟨h1, h2⟩; exact ⟨r, h1.symm, h2.symm, rfl⟩
    · rintro ⟨r', h1, h2, -⟩; exact ⟨h1.symm, h2.symm⟩
theorem gap_slash2 {l : List UInt8} (h : slash2 l = true) : gap l = gap (l.drop (leadW lineN l)) + leadW lineN l := by
  obtain ⟨r, rfl⟩ := (slash2_iff l).1 h
  exact gap_remark rfl
theorem gap_end {l : List UInt8} (h : leadW blankN l = 0) (g : slash2 l = false) : gap l = 0 := by
  cases l with
  | nil => exact gap_nil
  | cons c r =>
    have hc : blankN c.toNat = false := by
      cases hb : blankN c.toNat with
      | false => rfl
      | true => simp [leadW, hb] at h
    refine gap_none hc ?_
    rintro ⟨rfl, h2⟩
    cases r with
    | nil => simp at h2
    | cons d r =>
      simp only [List.head?_cons, Option.some.injEq] at h2
      subst h2
      have := (slash2_iff (47 :: 47 :: r)).2 ⟨r, rfl⟩
      rw [g] at this
      cases this
theorem lead_of_slash {l : List UInt8} (h : slash2 l = true) : 2 ≤ leadW lineN l := by
  obtain ⟨r, rfl⟩ := (slash2_iff l).1 h
  have : leadW lineN (47 :: 47 :: r) = leadW lineN r + 1 + 1 := rfl
  omega
theorem leadW_idem {p : Nat → Bool} : ∀ l : List UInt8, leadW p (l.drop (leadW p l)) = 0
  | [] => rfl
  | c :: l => by
    by_cases h : p c.toNat = true
    · simp only [leadW, h, if_true, List.drop_succ_cons]; exact leadW_idem l
    · simp only [leadW, h]; simp [leadW, h]

theorem gap_le (l : List UInt8) : gap l ≤ l.length := by
  induction hn : l.length using Nat.strongRecOn generalizing l with
  | _ n ih =>
    subst hn
    cases l with
    | nil => rw [gap_nil]; exact Nat.zero_le _
    | cons c r =>
      by_cases h : blankN c.toNat = true
      · rw [gap_blank h]
        have := ih r.length (by simp) r rfl
        simp only [List.length_cons]; omega
      · by_cases g : c = 47 ∧ r.head? = some 47
        · obtain ⟨rfl, g2⟩ := g
          rw [gap_remark g2]
          have h2 : 0 < leadW lineN (47 :: r) := by
            have : leadW lineN (47 :: r) = leadW lineN r + 1 := rfl
            omega
          have h3 := leadW_le lineN (47 :: r)
          have := ih ((47 :: r).drop (leadW lineN (47 :: r))).length (by rw [List.length_drop]; omega) _ rfl
          rw [List.length_drop] at this
          omega
        · rw [gap_none (by simpa using h) g]; exact Nat.zero_le _

/-- A number that may be. -/
def valF (x : List UInt8) (a : Nat) : Nat := x.foldl (fun a c => a * 10 + (c.toNat - 48)) a
def fitsP (x : List UInt8) : Bool := decide (valF x 0 ≤ 4611686018427387903)

def twoP (l : List UInt8) : Bool := decide (2 ≤ l.length) && twoL.contains (l.take 2)
def oneP (c : UInt8) : Bool := oneL.contains c
def headP : List UInt8 → Bool
  | [] => false
  | c :: _ => oneP c
theorem headP_get : ∀ {l : List UInt8} (h : 0 < l.length), headP l = oneP (l[0]'h)
  | [], h => by simp at h
  | _ :: _, _ => rfl
def signM (two : Bool) (one : Bool) : Nat := if two = true then 2 else if one = true then 1 else 0
def signN (l : List UInt8) : Nat := signM (twoP l) (headP l)

def nameW (x : List UInt8) : Nat × Nat := if 64 < x.length then (0, 0) else if keptP x = true then (2, x.length) else (1, x.length)
def numW (x : List UInt8) : Nat × Nat := if fitsP x = true then (3, x.length) else (0, 0)
/-- The first word's kind and length; 0: there is none. -/
def firstW (l : List UInt8) : Nat × Nat :=
  match l with
  | [] => (4, 0)
  | c :: _ => if letN c.toNat = true then nameW (l.take (leadW nmN l)) else if digN c.toNat = true then numW (l.take (leadW digN l)) else (4, signN l)

/-- The words of what is left of a text, from its o-th byte on; where it fails. -/
def cutL (l : List UInt8) (o : Nat) : List Wd × Option Nat :=
  if _h : gap l < l.length then
    if _h2 : (firstW (l.drop (gap l))).2 = 0 then ([], some (o + gap l))
    else
      let r := l.drop (gap l)
      let q := cutL (r.drop (firstW r).2) (o + gap l + (firstW r).2)
      (⟨(firstW r).1, r.take (firstW r).2, o + gap l⟩ :: q.1, q.2)
  else ([⟨0, [], o + l.length⟩], none)
  termination_by l.length
  decreasing_by
    simp_wf
    omega

theorem cutL_end {l : List UInt8} {o : Nat} (h : gap l = l.length) : cutL l o = ([⟨0, [], o + l.length⟩], none) := by
  rw [cutL, dif_neg (by omega)]
theorem cutL_bad {l : List UInt8} {o : Nat} (h : gap l < l.length) (h2 : (firstW (l.drop (gap l))).2 = 0) : cutL l o = ([], some (o + gap l)) := by
  rw [cutL, dif_pos h, dif_pos h2]
theorem cutL_word {l : List UInt8} {o : Nat} (h : gap l < l.length) (h2 : (firstW (l.drop (gap l))).2 ≠ 0) :
    cutL l o = (⟨(firstW (l.drop (gap l))).1, (l.drop (gap l)).take (firstW (l.drop (gap l))).2, o + gap l⟩ :: (cutL ((l.drop (gap l)).drop (firstW (l.drop (gap l))).2) (o + gap l + (firstW (l.drop (gap l))).2)).1,
      (cutL ((l.drop (gap l)).drop (firstW (l.drop (gap l))).2) (o + gap l + (firstW (l.drop (gap l))).2)).2) := by
  rw [cutL, dif_pos h, dif_neg h2]

/-- A head that lies between words may be struck. -/
theorem cutL_gap {l : List UInt8} {o g : Nat} (hg : g ≤ l.length) (h : gap l = gap (l.drop g) + g) : cutL l o = cutL (l.drop g) (o + g) := by
  have hl : (l.drop g).length = l.length - g := List.length_drop ..
  have hd : l.drop (gap l) = (l.drop g).drop (gap (l.drop g)) := by rw [List.drop_drop, h, Nat.add_comm]
  have ho : o + gap l = o + g + gap (l.drop g) := by omega
  by_cases h1 : gap l < l.length
  · have h1' : gap (l.drop g) < (l.drop g).length := by omega
    by_cases h2 : (firstW (l.drop (gap l))).2 = 0
    · rw [cutL_bad h1 h2, cutL_bad h1' (by rw [← hd]; exact h2), ho]
    · rw [cutL_word h1 h2, cutL_word h1' (by rw [← hd]; exact h2), ho, hd]
  · have := gap_le l
    have := gap_le (l.drop g)
    rw [cutL_end (by omega), cutL_end (l := l.drop g) (by omega), hl, show o + l.length = o + g + (l.length - g) by omega]

end Go.Proofs.YtablincnlfbjnabDoor
