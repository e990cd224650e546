/- The contract of the document's own Put (gantlineref1.Put); 'append' of any bytes onto a row of the call's own. -/
import Derived.Test.YtfbochlohalimabDoorTakeLaw
import Derived.Laws.BytesArg
import Derived.Laws.AppendOwnNone
namespace Go.Proofs.YtfbochlohalimabDoor
set_option maxRecDepth 100000
open Go.RowKit

/-- 'append(v, x...)', v a row of the call's own, x any bytes, nil too. -/
theorem wpl_append_row {w : World} {ops : Array Oper} {rest : List Oper} {o : Oper} {a : Act} {Q : Exit → Act → World → Prop} (hgd : o.guard = none) (s x : Operand)
    (ho : o.op = .call { callee := .builtin .append, args := #[s, x], argTypes := #[28, 28] })
    (base : Nat) (v : Value) (n : Nat) (xs : List Value) (hs : a.eval s = v) (hown : w.ownsRow base 5 1 v n xs) (ao : Option Addr) (m c : Nat) (ms : List Int) (hx : a.eval x = .slice ao m c)
    (hnil : ao = none → c = 0) (hrow : Row w ao m ms) (hnm : n + m ≤ 30000000) (hbase : base ≤ w.heap.size)
    (h : ∀ v' w', w'.ownsRow base 5 1 v' (n + m) (xs ++ ms.map (Value.int .u8)) → w.grownBy w' v.ownBlock → (v ≠ .slice none 0 0 → v' ≠ .slice none 0 0) → wpList Tryd.prog ops Q rest (a.put o.dst v') w') :
    wpList Tryd.prog ops Q (o :: rest) a w := by
  obtain ⟨i0, hi, hz0, hz1, hz2⟩ := info_parts u8info
  cases ao with
  | none =>
    have hm : m = 0 := by
      rcases hrow.2.2 with h | ⟨b, off, e, _⟩
      · exact h
      · cases e
    subst hm
    have hms : ms = [] := List.eq_nil_of_length_eq_zero hrow.1
    subst hms
    have hc0 := hnil rfl
    subst hc0
    refine wpList_append_own_none hgd s x 28 ho base 5 i0 1 Tryd.underlying28 hi v n xs hs hown hx ?_
    exact h v w (by simpa using hown) (World.grownBy.refl _ _) (fun e => e)
  | some ad =>
    have hsrc := hrow.src
    refine wpList_append_own w hgd s x 28 ho base 5 i0 (.int .u8 0) 1 1 Tryd.underlying28 hi hz0 hz1 hz2 rfl (by decide) v n xs hs hown ad m c (ms.map (Value.int .u8)) hx (by simp [hrow.1]) ?_ (ints_oneCell _ _) (by unfold maxLen; omega) (by omega) hbase ?_
    · intro j u hj
      have hm : 0 < m := by
        rcases Nat.eq_zero_or_pos m with h0 | h0
        · have : ms = [] := List.eq_nil_of_length_eq_zero (by rw [hrow.1, h0])
          simp [this] at hj
        · exact h0
      obtain ⟨ad', e, hc⟩ := hsrc.2 hm
      cases e
      exact hc j u hj
    · intro v' w' h1 h2 h3
      exact h v' w' h1 h2 (fun hv e => hv (h3.1 e).1)

theorem own_empty (w : World) (B : Nat) (hB : B ≤ w.heap.size) : (w.alloc (.cells #[] 5)).ownsRow B 5 1 (.slice (some ⟨w.heap.size, 0, none⟩) 0 0) 0 [] :=
  ⟨rfl, Or.inr ⟨w.heap.size, 0, #[], rfl, hB, heap_alloc_new w _, Nat.le_refl _, Nat.zero_le _, rfl, rfl⟩⟩

theorem own_form {w : World} {B n : Nat} {v : Value} {zs : List Int} (h : w.ownsRow B 5 1 v n (zs.map (Value.int .u8))) (hv : v ≠ .slice none 0 0) :
    ∃ g cap, v = .slice (some ⟨g, 0, none⟩) n cap ∧ B ≤ g ∧ zs.length = n ∧ n ≤ cap ∧ ∀ i, i < n → w.cell? ⟨g, i, none⟩ = some (.int .u8 (zs.getD i 0)) := by
  obtain ⟨hl, h⟩ := h
  have hz : zs.length = n := by simpa using hl
  rcases h with ⟨e, _⟩ | ⟨g, cap, cur, e, hB, hh, hle, _, _, ht⟩
  · exact absurd e hv
  · refine ⟨g, cap, e, hB, hz, hle, fun i hi => ?_⟩
    have e2 : cur.toList[i]? = some (Value.int .u8 (zs.getD i 0)) := by
      have := congrArg (·[i]?) ht
      simp only [Nat.mul_one, List.getElem?_take, hi, if_true, List.getElem?_map] at this
      rw [this, List.getElem?_eq_getElem (by omega)]
      simp [List.getD, List.getElem?_eq_getElem (show i < zs.length by omega)]
    simp [World.cell?, hh]
    simpa using e2

theorem own_block {w : World} {B n : Nat} {v : Value} {xs : List Value} (h : w.ownsRow B 5 1 v n xs) : ∀ q, v.ownBlock = some q → B ≤ q := by
  intro q hq
  rcases h.2 with ⟨e, _⟩ | ⟨g, cap, cur, e, hB, _⟩
  · subst e; simp [Value.ownBlock] at hq
  · subst e; simp [Value.ownBlock] at hq; omega

/-- What holds at each round's head of gantlineref1.Put. -/
def RPutAt (B n u : Nat) (zs : List Int) (k uu : Nat) (v : Value) (wr : World) : Prop :=
  ∃ pre : List Int, pre.length = k ∧ pre ++ encF (9 - k) uu = encF 9 u ∧ wr.ownsRow B 5 1 v (n + k) ((zs ++ pre).map (Value.int .u8))

/-- One byte, in the block that was laid for it. -/
theorem one_row (w : World) (x : Int) (h0 : 0 ≤ x) (h1 : x ≤ 255) : Row (w.alloc (.cells #[.int .u8 x] 5)) (some ⟨w.heap.size, 0, none⟩) 1 [x] := by
  refine ⟨rfl, by simp; omega, Or.inr ⟨w.heap.size, 0, rfl, fun i hi => ?_⟩⟩
  obtain rfl : i = 0 := by omega
  simp [go_sem]

end Go.Proofs.YtfbochlohalimabDoor
