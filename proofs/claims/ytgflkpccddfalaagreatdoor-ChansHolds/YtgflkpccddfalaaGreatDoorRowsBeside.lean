/- Rows of numbers beside an arena, all the call's own. -/
import Derived.Test.YtgflkpccddfalaaGreatDoorSweepsPlain
namespace Go.Proofs.YtgflkpccddfalaaGreatDoor
set_option maxRecDepth 100000
open Go.ChangeShapes Go.WideShapes Go.ChangeAt Go.RowKit

/-- A row of numbers, the call's own. -/
def RowI (e : TypeId) (w : World) (B : Nat) (ao : Option Addr) (cap : Nat) (xs : List Int) : Prop := w.ownsRow B e 1 (.slice ao xs.length cap) xs.length (xs.map fun x => .int .i64 x)

theorem RowI.kept {e : TypeId} {w w' : World} {B : Nat} {ao : Option Addr} {cap : Nat} {xs : List Int} (h : RowI e w B ao cap xs) (h3 : ∀ a, ao = some a → w'.heap[a.block]? = w.heap[a.block]?) : RowI e w' B ao cap xs := by
  refine ⟨h.1, ?_⟩
  rcases h.2 with hn | ⟨g, c, cur, e1, hb, hg, rest⟩
  · exact Or.inl hn
  · refine Or.inr ⟨g, c, cur, e1, hb, ?_, rest⟩
    have : ao = some ⟨g, 0, none⟩ := by injection e1
    exact (h3 _ this).trans hg
theorem RowI.lt {e : TypeId} {w : World} {B : Nat} {ao : Option Addr} {cap : Nat} {xs : List Int} (h : RowI e w B ao cap xs) : ∀ a, ao = some a → B ≤ a.block ∧ a.block < w.heap.size := by
  rintro a rfl
  exact World.ownsRow.lt h a.block rfl
theorem RowI.grown {e : TypeId} {w w' : World} {B : Nat} {ao : Option Addr} {cap : Nat} {xs : List Int} (h : RowI e w B ao cap xs) (g : G w w') : RowI e w' B ao cap xs := h.kept fun a ha => g.block _ (h.lt a ha).2
theorem RowI.get {e : TypeId} {w : World} {B : Nat} {ao : Option Addr} {cap : Nat} {xs : List Int} (h : RowI e w B ao cap xs) {i : Nat} {x : Int} (hi : xs[i]? = some x) : ∃ g, ao = some ⟨g, 0, none⟩ ∧ w.cell? ⟨g, i, none⟩ = some (.int .i64 x) := by
  rcases h.2 with ⟨_, h0⟩ | ⟨g, c, cur, e1, _⟩
  · have := (List.getElem?_eq_some_iff.1 hi).1; omega
  · have hao : ao = some ⟨g, 0, none⟩ := by injection e1
    subst hao
    refine ⟨g, rfl, ?_⟩
    have := World.ownsRow.cells h (g := g) rfl i (.int .i64 x) (by rw [List.getElem?_map, hi]; rfl)
    rw [Addr.add_lit, Nat.zero_add] at this
    exact this
theorem RowI.nil (e : TypeId) (w : World) (B : Nat) : RowI e w B none 0 [] := ⟨rfl, Or.inl ⟨rfl, rfl⟩⟩

/-- A row does not lie in an arena's blocks. -/
def Off (ao : Option Addr) (d : Ad) : Prop := ∀ a, ao = some a → a.block ≠ d.ab ∧ a.block ≠ d.wb ∧ a.block ≠ d.sb

/-- One arena and one row of addresses. -/
structure Sr (W w : World) (d : Ad) (a : Ab) (ao : Option Addr) (cap : Nat) (xs : List Int) : Prop where
  st : St W w d a
  row : RowI 2 w W.heap.size ao cap xs
  off : Off ao d
theorem Sr.tn {W w w' : World} {d : Ad} {a a' : Ab} {ao : Option Addr} {cap : Nat} {xs : List Int} (h : Sr W w d a ao cap xs) (s : St W w' d a') (t : Tn w w' d) : Sr W w' d a' ao cap xs :=
  ⟨s, h.row.kept fun x hx => t.block _ (h.row.lt x hx).2 (h.off x hx).2.1 (h.off x hx).2.2, h.off⟩
theorem Sr.g {W w w' : World} {d : Ad} {a : Ab} {ao : Option Addr} {cap : Nat} {xs : List Int} (h : Sr W w d a ao cap xs) (g : G w w') : Sr W w' d a ao cap xs := ⟨h.st.G g, h.row.grown g, h.off⟩

/-- What append onto the row leaves. -/
theorem Sr.append {W w w' : World} {d : Ad} {a : Ab} {ao : Option Addr} {cap : Nat} {xs : List Int} {x : Int} {g cap' : Nat} (h : Sr W w d a ao cap xs)
    (hr : w'.ownsRow W.heap.size 2 1 (.slice (some ⟨g, 0, none⟩) (xs.length + 1) cap') (xs.length + 1) ((xs.map fun x => .int .i64 x) ++ [.int .i64 x]))
    (hg : w.grownBy w' (Value.ownBlock (.slice ao xs.length cap))) (hat : ao = some ⟨g, 0, none⟩ ∨ g = w.heap.size) : Sr W w' d a (some ⟨g, 0, none⟩) cap' (xs ++ [x]) := by
  have hob : ∀ b, some b = Value.ownBlock (.slice ao xs.length cap) → ∃ y, ao = some y ∧ y.block = b := by
    intro b hb
    cases ao with
    | none => simp [Value.ownBlock] at hb
    | some y => exact ⟨y, rfl, by simpa [Value.ownBlock] using hb.symm⟩
  have l0 := h.st.at_.lt0
  have l1 := h.st.at_.lt1 h.st.n8
  have l2 := h.st.at_.lt2 h.st.n8
  have keep : ∀ k, k < w.heap.size → (∀ y, ao = some y → y.block ≠ k) → w'.heap[k]? = w.heap[k]? := fun k hk hn => hg.block k hk (fun e => by obtain ⟨y, h1, h2⟩ := hob k e; exact hn y h1 h2)
  refine ⟨⟨h.st.at_.kept (keep _ l0 fun y hy => (h.off y hy).1) (keep _ l1 fun y hy => (h.off y hy).2.1) (keep _ l2 fun y hy => (h.off y hy).2.2), h.st.good, ?_, h.st.tab⟩, ?_, ?_⟩
  · refine ⟨hg.os.trans h.st.below.os, hg.tape.trans h.st.below.tape, hg.output.trans h.st.below.output, Nat.le_trans h.st.below.size hg.size, fun k hk => ?_⟩
    refine (keep k (Nat.lt_of_lt_of_le hk h.st.below.size) fun y hy => ?_).trans (h.st.below.block k hk)
    have := (h.row.lt y hy).1
    omega
  · have : RowI 2 w' W.heap.size (some ⟨g, 0, none⟩) cap' (xs ++ [x]) := by
      unfold RowI
      rw [List.map_append, List.length_append]
      exact hr
    exact this
  · intro y hy
    injection hy with hy
    subst hy
    rcases hat with e | e
    · exact h.off _ e
    · refine ⟨?_, ?_, ?_⟩ <;> (show g ≠ _; omega)
theorem Sr.mk0 {W w : World} {d : Ad} {a : Ab} (h : St W w d a) : Sr W w d a none 0 [] := ⟨h, RowI.nil _ _ _, fun x hx => by cases hx⟩
end Go.Proofs.YtgflkpccddfalaaGreatDoor
