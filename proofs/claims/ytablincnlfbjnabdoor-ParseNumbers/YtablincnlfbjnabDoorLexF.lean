/- PLAIN: the cut, reckoned with fuel. -/
import Derived.Test.YtablincnlfbjnabDoorLexRow
import Derived.KernelRfl
namespace Go.Proofs.YtablincnlfbjnabDoor
set_option maxRecDepth 100000
open Go.RowKit Go.Maps Go.ChangeShapes Go.WideShapes Go.ChangeAt

def gapF : Nat → List UInt8 → Nat
  | 0, _ => 0
  | _ + 1, [] => 0
  | n + 1, c :: r =>
    if blankN c.toNat = true then gapF n r + 1
    else if c = 47 ∧ r.head? = some 47 then gapF n ((c :: r).drop (leadW lineN (c :: r))) + leadW lineN (c :: r)
    else 0
theorem gapF_eq : ∀ (n : Nat) (l : List UInt8), l.length ≤ n → gapF n l = gap l
  | 0, [], _ => gap_nil.symm
  | 0, _ :: _, h => by simp at h
  | n + 1, [], _ => gap_nil.symm
  | n + 1, c :: r, h => by
    have hr : r.length ≤ n := by simpa using h
    by_cases h1 : blankN c.toNat = true
    · rw [gap_blank h1, ← gapF_eq n r hr]
      simp only [gapF, h1, if_true]
    · by_cases h2 : c = 47 ∧ r.head? = some 47
      · obtain ⟨rfl, h3⟩ := h2
        have h4 : 0 < leadW lineN (47 :: r) := by
          have : leadW lineN (47 :: r) = leadW lineN r + 1 := rfl
          omega
        rw [gap_remark h3, ← gapF_eq n _ (by rw [List.length_drop]; simp only [List.length_cons]; omega)]
        rw [gapF, if_neg h1, if_pos ⟨rfl, h3⟩]
      · rw [gap_none (by simpa using h1) h2, gapF, if_neg h1, if_neg h2]
def cutF : Nat → List UInt8 → Nat → List Wd × Option Nat
  | 0, _, _ => ([], none)
  | n + 1, l, o =>
    let g := gapF l.length l
    if g < l.length then
      let r := l.drop g
      let f := firstW r
      if f.2 = 0 then ([], some (o + g))
      else
        let q := cutF n (r.drop f.2) (o + g + f.2)
        (⟨f.1, r.take f.2, o + g⟩ :: q.1, q.2)
    else ([⟨0, [], o + l.length⟩], none)
theorem cutF_eq : ∀ (n : Nat) (l : List UInt8) (o : Nat), l.length < n → cutF n l o = cutL l o
  | 0, _, _, h => by omega
  | n + 1, l, o, h => by
    have hg := gap_le l
    by_cases h1 : gap l < l.length
    · by_cases h2 : (firstW (l.drop (gap l))).2 = 0
      · rw [cutL_bad h1 h2]
        simp only [cutF, gapF_eq l.length l (Nat.le_refl _), h1, h2, if_true]
      · rw [cutL_word h1 h2, ← cutF_eq n _ _ (by rw [List.length_drop, List.length_drop]; omega)]
        simp only [cutF, gapF_eq l.length l (Nat.le_refl _), h1, h2, if_true, if_false]
    · rw [cutL_end (by omega)]
      simp only [cutF, gapF_eq l.length l (Nat.le_refl _), h1, if_false]

theorem cut_x12 : cutL [120, 61, 49, 50] 0 = ([⟨1, [120], 0⟩, ⟨4, [61], 1⟩, ⟨3, [49, 50], 2⟩, ⟨0, [], 4⟩], none) := by
  rw [← cutF_eq 5 _ _ (by simp)]
  kernel_rfl
theorem cut_sharp : cutL [35] 0 = ([], some 0) := by
  rw [← cutF_eq 2 _ _ (by simp)]
  kernel_rfl
theorem cut_great : cutL [32, 52, 54, 49, 49, 54, 56, 54, 48, 49, 56, 52, 50, 55, 51, 56, 55, 57, 48, 52] 0 = ([], some 1) := by
  rw [← cutF_eq 21 _ _ (by simp)]
  kernel_rfl
theorem cut_most : cutL [52, 54, 49, 49, 54, 56, 54, 48, 49, 56, 52, 50, 55, 51, 56, 55, 57, 48, 51, 32, 47, 47, 32, 120] 0 = ([⟨3, [52, 54, 49, 49, 54, 56, 54, 48, 49, 56, 52, 50, 55, 51, 56, 55, 57, 48, 51], 0⟩, ⟨0, [], 24⟩], none) := by
  rw [← cutF_eq 25 _ _ (by simp)]
  kernel_rfl
theorem kept_func : keptP [102, 117, 110, 99] = true := by kernel_rfl
theorem kept_x : keptP [120] = false := by kernel_rfl
theorem kept_nil : keptP [] = false := by kernel_rfl

/-- What lies in a row of words, read. -/
theorem OwW.get {ty : Nat} {w : World} {B : Nat} {v : Value} {ws : List Wd} (h : OwW ty w B v ws) (h0 : ws ≠ []) :
    ∃ g cap, v = .slice (some ⟨g, 0, none⟩) ws.length cap ∧ B ≤ g ∧ g < w.heap.size ∧ ws.length ≤ cap ∧ ∀ x, G w x → ∀ k a, ws[k]? = some a →
      x.cell? ⟨g, k * 3, none⟩ = some (.int .i64 (a.k : Nat)) ∧ x.cell? ⟨g, k * 3 + 1, none⟩ = some (.string ⟨a.x.toArray⟩) ∧ x.cell? ⟨g, k * 3 + 2, none⟩ = some (.int .i64 (a.o : Nat)) := by
  rcases h.2 with ⟨_, hz⟩ | ⟨g, cap, cur, rfl, h2, h3, h4, h5, h6, h7⟩
  · exact absurd (List.eq_nil_of_length_eq_zero hz) h0
  · have hlt : g < w.heap.size := by
      rcases Nat.lt_or_ge g w.heap.size with hh | hh
      · exact hh
      · rw [Array.getElem?_eq_none hh] at h3; cases h3
    refine ⟨g, cap, rfl, h2, hlt, h4, fun x gx k a hk => ?_⟩
    have hx : x.heap[g]? = some (.cells cur ty (0, 0)) := (Below.block gx g hlt).trans h3
    have hfm : ∀ (l : List Wd) (k : Nat) (a : Wd), l[k]? = some a → ∀ j u, (wcs a)[j]? = some u → (l.flatMap wcs)[k * 3 + j]? = some u := by
      intro l
      induction l with
      | nil => intro k a hk; simp at hk
      | cons b l ih =>
        intro k a hk j u hj
        have hb : (wcs b).length = 3 := rfl
        cases k with
        | zero =>
          simp at hk
          subst hk
          rw [List.flatMap_cons, Nat.zero_mul, Nat.zero_add, List.getElem?_append_left (by rw [hb]; have := (List.getElem?_eq_some_iff.1 hj).1; exact this)]
          exact hj
        | succ k =>
          have hk2 : l[k]? = some a := by simpa using hk
          rw [List.flatMap_cons, List.getElem?_append_right (by rw [hb]; omega), hb, show (k + 1) * 3 + j - 3 = k * 3 + j by omega]
          exact ih k a hk2 j u hj
    have hkl : k < ws.length := (List.getElem?_eq_some_iff.1 hk).1
    have hc : ∀ j u, (wcs a)[j]? = some u → x.cell? ⟨g, k * 3 + j, none⟩ = some u := by
      intro j u hj
      have hj3 : j < 3 := (List.getElem?_eq_some_iff.1 hj).1
      have h8 := hfm ws k a hk j u hj
      rw [← h7, List.getElem?_take, if_pos (by omega)] at h8
      refine (cell_of_row _ _ _ _ _ _ hx).trans ?_
      simpa using h8
    exact ⟨hc 0 _ rfl, hc 1 _ rfl, hc 2 _ rfl⟩
end Go.Proofs.YtablincnlfbjnabDoor
