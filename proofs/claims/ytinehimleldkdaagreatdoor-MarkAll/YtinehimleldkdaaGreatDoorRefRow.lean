/- The contract of the document's Arena: Sweep. -/
import Derived.Test.YtinehimleldkdaaGreatDoorRefGeom
namespace Go.Proofs.YtinehimleldkdaaGreatDoor
set_option maxRecDepth 100000
open Go.ChangeShapes Go.WideShapes Go.ChangeAt Go.RowKit

def Mt.cells (m : Mt) : List Value := [.int .i64 m.t.addr, .slice (some ⟨m.wb, 0, none⟩) m.t.ws.length m.wc, .bool m.t.mr]
def flatM (l : List Mt) : List Value := l.flatMap Mt.cells
theorem flatM_len : ∀ l : List Mt, (flatM l).length = l.length * 3
  | [] => rfl
  | m :: r => by
    have := flatM_len r
    unfold flatM at *
    simp [Mt.cells, this]
    omega
theorem flatM_snoc (l : List Mt) (m : Mt) : flatM (l ++ [m]) = flatM l ++ m.cells := by simp [flatM]
theorem flatM_get : ∀ (l : List Mt) (i : Nat) (m : Mt), l[i]? = some m → ∀ j, j < 3 → (flatM l)[i * 3 + j]? = m.cells[j]?
  | [], i, s, h, j, hj => by simp at h
  | t :: r, 0, s, h, j, hj => by
    simp at h
    subst h
    unfold flatM
    simp only [List.flatMap_cons]
    rw [List.getElem?_append_left (by simp [Mt.cells]; omega)]
    simp
  | t :: r, i + 1, s, h, j, hj => by
    have := flatM_get r i s (by simpa using h) j hj
    unfold flatM at *
    simp only [List.flatMap_cons]
    rw [List.getElem?_append_right (by simp [Mt.cells]; omega), ← this]
    congr 1
    simp [Mt.cells]
    omega
theorem info_thing : (Tryz.prog.info? 96).map (fun i => (i.zero, i.size, i.bytes)) = some (some (.agg #[.int .i64 0, .slice none 0 0, .bool false]), 3, 40) := by kernel_rfl

/-- A row of things, the call's own. -/
def RowM (w : World) (B : Nat) (ao : Option Addr) (cap : Nat) (l : List Mt) : Prop := w.ownsRow B 96 3 (.slice ao l.length cap) l.length (flatM l)
theorem RowM.lt {w : World} {B : Nat} {ao : Option Addr} {cap : Nat} {l : List Mt} (h : RowM w B ao cap l) : ∀ a, ao = some a → B ≤ a.block ∧ a.block < w.heap.size := by
  rintro a rfl
  exact World.ownsRow.lt h a.block rfl
theorem RowM.grown {w w' : World} {B : Nat} {ao : Option Addr} {cap : Nat} {l : List Mt} (h : RowM w B ao cap l) (g : G w w') : RowM w' B ao cap l := by
  have h3 : ∀ a, ao = some a → w'.heap[a.block]? = w.heap[a.block]? := fun a ha => g.block _ (h.lt a ha).2
  refine ⟨h.1, ?_⟩
  rcases h.2 with hn | ⟨b, c, cur, e1, hb, hg, rest⟩
  · exact Or.inl hn
  · exact Or.inr ⟨b, c, cur, e1, hb, (h3 _ (by injection e1)).trans hg, rest⟩
theorem RowM.nil (w : World) (B : Nat) : RowM w B none 0 [] := ⟨rfl, Or.inl ⟨rfl, rfl⟩⟩

/-- The new row takes the old one's place; nothing else is turned. -/
theorem RefAt.newRow {w w1 : World} {B : Nat} {r : Rd} {cl : List Int} {l l' : List Mt} {ao : Option Addr} {cap : Nat} (h : RefAt w1 B r cl l) (hB : B ≤ w.heap.size) (hr0 : r.rb < w.heap.size) (hc0 : r.cb < w.heap.size)
    (hrow : RowM w1 w.heap.size ao cap l') (hnil : ao = none → l' = [] ∧ cap = 0)
    (hl' : ∀ m, m ∈ l' → WdAt w1 B m ∧ m.wb ≠ r.rb ∧ m.wb ≠ r.cb ∧ ∀ a, ao = some a → m.wb ≠ a.block) (hap : l'.Pairwise fun x y => x.wb ≠ y.wb) :
    RefAt (w1.setCell ⟨r.rb, 1, none⟩ (.slice ao l'.length cap)) B ⟨r.rb, r.cb, r.cc, ao, cap⟩ cl l' := by
  have o : ∀ k j, k ≠ r.rb → (w1.setCell ⟨r.rb, 1, none⟩ (.slice ao l'.length cap)).cell? ⟨k, j, none⟩ = w1.cell? ⟨k, j, none⟩ := fun k j hk => cell_other _ (Or.inl hk)
  have fz : ∀ a, (w1.setCell ⟨r.rb, 1, none⟩ (.slice ao l'.length cap)).frozen? a = w1.frozen? a := fun a => World.frozen?_setCell _ _ _ _
  have hlen : l'.length ≤ cap ∧ cap ≤ maxLen := by
    rcases hrow.2 with ⟨e, h0⟩ | ⟨g, c, cur, e, _, _, h1, h2, _⟩
    · injection e with _ _ e3
      rw [h0, e3]
      exact ⟨Nat.le_refl _, Nat.zero_le _⟩
    · injection e with _ _ e3
      rw [e3]
      exact ⟨h1, h2⟩
  refine ⟨(cell_other _ (Or.inr (by omega))).trans h.c0, cell_same _ h.c1, fun i => (fz _).trans (h.f0 i), fun i z hz => (o _ _ (Ne.symm h.ne)).trans (h.cv i z hz), fun i => (fz _).trans (h.cf i), h.cle, hlen.1, hlen.2, ?_, ?_, hnil, ?_, hap, h.b0, h.b1, by rw [World.size_setCell]; exact h.h0, by rw [World.size_setCell]; exact h.h1, h.ne⟩
  · intro i m hm
    rcases hrow.2 with ⟨_, h0⟩ | ⟨g, c, cur, e, hb, _⟩
    · have := (List.getElem?_eq_some_iff.1 hm).1; omega
    · have hao : ao = some ⟨g, 0, none⟩ := by injection e
      subst hao
      obtain ⟨_, r2, _⟩ := row_of hrow
      have hne : g ≠ r.rb := by omega
      refine ⟨g, rfl, ?_, ?_, ?_⟩
      · rw [o _ _ hne]; exact r2 (i * 3) _ ((flatM_get l' i m hm 0 (by omega)).trans rfl)
      · rw [o _ _ hne]; exact r2 (i * 3 + 1) _ ((flatM_get l' i m hm 1 (by omega)).trans rfl)
      · rw [o _ _ hne]; exact r2 (i * 3 + 2) _ ((flatM_get l' i m hm 2 (by omega)).trans rfl)
  · intro a ha
    have ha' : ao = some a := ha
    obtain ⟨y1, y2⟩ := hrow.lt a ha'
    rcases hrow.2 with ⟨e, _⟩ | ⟨g, c, cur, e, hb, _⟩
    · rw [ha'] at e; cases e
    · have hao : ao = some ⟨g, 0, none⟩ := by injection e
      have hag : a = ⟨g, 0, none⟩ := by rw [ha'] at hao; exact Option.some.inj hao
      subst hag
      rw [hao] at hrow
      obtain ⟨_, _, r3, _⟩ := row_of hrow
      exact ⟨rfl, Nat.le_trans hB y1, by rw [World.size_setCell]; exact y2, fun i => (fz _).trans (r3 i), by show g ≠ r.rb; omega, by show g ≠ r.cb; omega⟩
  · intro m hm
    obtain ⟨q0, q1, q2, q3⟩ := hl' m hm
    exact ⟨q0.kept (Below.heap_setCell _ _ _ _ q1) (by rw [World.size_setCell]; exact Nat.le_refl _), q1, q2, q3⟩
end Go.Proofs.YtinehimleldkdaaGreatDoor
