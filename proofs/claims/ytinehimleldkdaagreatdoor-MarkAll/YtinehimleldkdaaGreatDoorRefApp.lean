/- append of any slice of things onto a row of the call's own. -/
import Derived.Test.YtinehimleldkdaaGreatDoorRefMaps4
import Derived.Laws.AppendOwnNone
namespace Go.Proofs.YtinehimleldkdaaGreatDoor
set_option maxRecDepth 100000
open Go.ChangeShapes Go.WideShapes Go.ChangeAt Go.RowKit

theorem flatM_one (l : List Mt) : ∀ u ∈ flatM l, u.oneCell' = true := by
  intro u hu
  unfold flatM at hu
  rw [List.mem_flatMap] at hu
  obtain ⟨m, _, hm⟩ := hu
  simp [Mt.cells] at hm
  rcases hm with rfl | rfl | rfl <;> rfl

/-- append(v, x...) where v is the call's own row of things and x any slice of things, nil or not. -/
theorem wpl_append_things {w : World} {ops : Array Oper} {rest : List Oper} {o : Oper} {a : Act} {Q : Exit → Act → World → Prop} (hgd : o.guard = none) (s x : Operand)
    (ho : o.op = .call { callee := .builtin .append, args := #[s, x], argTypes := #[97, 97] })
    (base : Nat) (v : Value) (n : Nat) (xs : List Value) (hs : a.eval s = v) (hown : w.ownsRow base 96 3 v n xs) (ao : Option Addr) (m c : Nat) (ml : List Mt) (hx : a.eval x = .slice ao m c)
    (hnil : ao = none → m = 0 ∧ c = 0) (hlen : ml.length = m) (hc : ∀ ad, ao = some ad → ∀ (j : Nat) u, (flatM ml)[j]? = some u → w.cell? (ad.add j) = some u) (hnm : n + m ≤ 3000) (hbase : base ≤ w.heap.size)
    (h : ∀ v' w', w'.ownsRow base 96 3 v' (n + m) (xs ++ flatM ml) → w.grownBy w' v.ownBlock → (v ≠ .slice none 0 0 → v' ≠ .slice none 0 0) → wpList Tryz.prog ops Q rest (a.put o.dst v') w') :
    wpList Tryz.prog ops Q (o :: rest) a w := by
  obtain ⟨i0, hi, hz0, hz1, hz2⟩ := info_parts info_thing
  cases ao with
  | none =>
    obtain ⟨rfl, rfl⟩ := hnil rfl
    have hms : ml = [] := List.eq_nil_of_length_eq_zero hlen
    subst hms
    refine wpList_append_own_none hgd s x 97 ho base 96 i0 3 Tryz.underlying97 hi v n xs hs hown hx ?_
    exact h v w (by simpa [flatM] using hown) (World.grownBy.refl _ _) (fun e => e)
  | some ad =>
    refine wpList_append_own w hgd s x 97 ho base 96 i0 (.agg #[.int .i64 0, .slice none 0 0, .bool false]) 3 40 Tryz.underlying97 hi hz0 hz1 hz2 rfl (by decide) v n xs hs hown ad m c (flatM ml) hx (by rw [flatM_len, hlen]) (hc ad rfl) (flatM_one ml) (by unfold maxLen; omega) (by omega) hbase ?_
    intro v' w' h1 h2 h3
    exact h v' w' h1 h2 (fun hv e => hv (h3.1 e).1)
end Go.Proofs.YtinehimleldkdaaGreatDoor
