/- The contract of a Table's Number, in one. -/
import Derived.Test.YtionokpdplgjbaaHeadTab3
namespace Go.Proofs.Ytionokpdplgjbaa
open Go.RowKit Go.Maps Go.ChangeShapes Go.WideShapes Go.ChangeAt Go.Deep

/-- A shape that may be. -/
def Shp.good (s : Shp) : Bool := goodB s.k s.f s.m
/-- The shapes of a table behind Number. -/
def addS (l : List Shp) (s : Shp) : List Shp := if s.good = true ∧ s ∉ l then l ++ [s] else l
/-- What Number answers. -/
def numV (l : List Shp) (s : Shp) : Int := if s.good = true then (l.idxOf s : Int) else 0
def numE (s : Shp) : Int := if s.good = true then 0 else 1

theorem TabAt.ne {w : World} {B tb mb : Nat} {ao : Option Addr} {cap : Nat} {l : List Shp} (h : TabAt w B tb mb ao cap l) : tb ≠ mb ∧ (∀ a, ao = some a → a.block ≠ mb) ∧ (∀ a, ao = some a → a.block ≠ tb) := by
  obtain ⟨D, ⟨es, clock, hm, _⟩, _⟩ := h.map
  have hrow := h.row
  refine ⟨?_, ?_, ?_⟩
  · rintro rfl
    have := h.blk
    rw [hm] at this
    cases this
  · rintro a rfl rfl
    rcases hrow.2 with ⟨e, _⟩ | ⟨g, c, cur, e, _, hg, _⟩
    · cases e
    · injection e with e
      injection e with e
      subst e
      rw [hm] at hg
      cases hg
  · rintro a rfl rfl
    rcases hrow.2 with ⟨e, _⟩ | ⟨g, c, cur, e, _, hg, _⟩
    · cases e
    · injection e with e
      injection e with e
      subst e
      have h1 := h.blk
      rw [hg] at h1
      cases h1

theorem tab_add {w w' : World} {B tb mb : Nat} {ao : Option Addr} {cap g cap' : Nat} {l : List Shp} {D : DataW Unit} {s : Shp} (h : TabAt w B tb mb ao cap l) (hs : s.Fit) (hn : s ∉ l)
    (hown : w.ownsMap Try.prog 32 (plainElem Try.prog 3) mb l.length D) (hhas : ∀ s : Shp, s.Fit → Maps.has D s.key = decide (s ∈ l))
    (hat : ∀ s : Shp, s ∈ l → D.atKey s.key (.lit (.int .i64 0)) = .lit (.int .i64 (l.idxOf s : Int)))
    (E : NumEnd w w' B tb mb ao g cap' l.length (rowOf l ++ s.cells) (D.put s.key (.lit (.int .i64 (l.length : Int))))) : TabAt w' B tb mb (some ⟨g, 0, none⟩) cap' (l ++ [s]) := by
  have hl : (l ++ [s]).length = l.length + 1 := by simp
  have hk : WideAt.IsKeyLit s.key := keyed.key (keyOf_shp s hs w)
  refine ⟨by rw [hl]; exact E.blk, h.btb, h.bmb, by rw [hl, rowOf_snoc]; exact E.row, ⟨_, by rw [hl]; exact E.map, ?_, ?_⟩, ?_⟩
  · intro t ht
    by_cases e : t = s
    · subst e
      rw [has_put_same hown.isMap hk]
      simp
    · rw [has_put_other (fun e2 => e (key_inj ht hs w e2)), hhas t ht]
      simp [e]
  · intro t ht
    by_cases e : t = s
    · subst e
      rw [atKey_put_same hown.isMap hk, List.idxOf_append, if_neg hn]
      simp
    · have ht' : t ∈ l := by simpa [e] using ht
      rw [atKey_put_other (fun e2 => e (key_inj (h.fit t ht') hs w e2)), hat t ht', List.idxOf_append, if_pos ht']
  · intro t ht
    rcases List.mem_append.1 ht with h1 | h1
    · exact h.fit t h1
    · simp at h1
      subst h1
      exact hs

theorem number_any (w : World) (B tb mb : Nat) (ao : Option Addr) (cap : Nat) (l : List Shp) (s : Shp) (h : TabAt w B tb mb ao cap l) (hs : s.Fit) (hlen : l.length < 65536) (hB : B ≤ w.heap.size) :
    Calls Try.prog 13 #[.pointer (some ⟨tb, 0, none⟩), .agg #[.int .i64 s.k, .int .i64 s.f, .int .u64 (s.m : Int)]] w fun e w' =>
      ∃ ao' cap', e = .returned (.tuple #[.int .i64 (numV l s), .int .i64 (numE s)]) ∧ TabAt w' B tb mb ao' cap' (addS l s) ∧ Turn w w' tb mb ao ∧ (∀ a, ao' = some a → ao = some a ∨ w.heap.size ≤ a.block) := by
  by_cases hg : s.good = true
  · unfold numV numE addS
    simp only [hg, if_true, true_and]
    have hl := fun k => look_at (h.grown (boxed_G w s k)) s hs
    by_cases hm : s ∈ l
    · simp only [hm, if_true, decide_true] at hl
      rw [if_neg (by simpa using hm)]
      refine (number_old w tb mb s _ hg h.cells.1 hl).mono ?_
      rintro e w' ⟨rfl, hG⟩
      exact ⟨ao, cap, rfl, h.grown hG, Turn.of_G hG, fun a ha => Or.inl ha⟩
    · simp only [hm, if_false, decide_false] at hl
      rw [if_pos hm, List.idxOf_eq_length hm]
      obtain ⟨D, hown, hhas, hat⟩ := h.map
      obtain ⟨n1, n2, n3⟩ := h.ne
      refine (number_new w B tb mb l.length cap ao (rowOf l) D s hg hs hB hlen (hide h.blk) h.cells.1 h.cells.2.1 h.cells.2.2 n1 h.mlt (hide h.row) (hide n2) (hide n3) (hide hown) hl).mono ?_
      rintro e w' ⟨g, cap', rfl, E⟩
      refine ⟨_, cap', rfl, tab_add h hs hm hown hhas hat E, E.turn, ?_⟩
      intro a ha
      injection ha with ha
      subst ha
      exact E.lies
  · have hg' : goodB s.k s.f s.m = false := by
      have : s.good = false := by simpa using hg
      exact this
    unfold numV numE addS
    rw [if_neg hg, if_neg hg, if_neg (fun h => hg h.1)]
    refine (number_bad w tb s hg').mono ?_
    rintro e w' ⟨rfl, hG⟩
    exact ⟨ao, cap, rfl, h.grown hG, Turn.of_G hG, fun a ha => Or.inl ha⟩
end Go.Proofs.Ytionokpdplgjbaa
