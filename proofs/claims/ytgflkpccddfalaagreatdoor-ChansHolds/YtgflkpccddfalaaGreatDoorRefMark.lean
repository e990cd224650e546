/- The contracts of the document's Arena: Mark and Clear. -/
import Derived.Test.YtgflkpccddfalaaGreatDoorRefMem
namespace Go.Proofs.YtgflkpccddfalaaGreatDoor
set_option maxRecDepth 100000
open Go.ChangeShapes Go.WideShapes Go.ChangeAt Go.RowKit
/-- Found, or not. -/
theorem findI_cases (l : List Thg) (x : Int) : findI l x = -1 ∧ (∀ t, t ∈ l → t.addr ≠ x) ∨ ∃ i t, findI l x = (i : Nat) ∧ l[i]? = some t ∧ t.addr = x := by
  unfold findI
  cases hf : l.findIdx? (fun t => t.addr == x) with
  | none =>
    left
    rw [List.findIdx?_eq_none_iff] at hf
    exact ⟨rfl, fun t ht => by simpa using hf t ht⟩
  | some i =>
    right
    rw [List.findIdx?_eq_some_iff_getElem] at hf
    obtain ⟨h1, h2, _⟩ := hf
    exact ⟨i, _, rfl, List.getElem?_eq_getElem h1, by simpa using h2⟩

/-! ### Clear -/
/-- The first k marks forgotten. -/
def clrM : List Mt → Nat → List Mt
  | [], _ => []
  | m :: r, 0 => m :: r
  | m :: r, k + 1 => { m with t := { m.t with mr := false } } :: clrM r k
theorem clrM_zero (l : List Mt) : clrM l 0 = l := by cases l <;> rfl
theorem clrM_succ : ∀ (l : List Mt) (k : Nat), clrM l (k + 1) = markI (clrM l k) k false
  | [], k => by simp [clrM, markI]
  | m :: r, 0 => by simp [clrM, markI, clrM_zero]
  | m :: r, k + 1 => by
    have := clrM_succ r k
    unfold markI at *
    rw [clrM, clrM, this]
    rfl
theorem clrM_len : ∀ (l : List Mt) (k : Nat), (clrM l k).length = l.length
  | [], _ => rfl
  | m :: r, 0 => rfl
  | m :: r, k + 1 => by simp [clrM, clrM_len r k]
theorem clrM_all : ∀ (l : List Mt), things (clrM l l.length) = unmark (things l)
  | [] => rfl
  | m :: r => by
    have := clrM_all r
    unfold things unmark at *
    simp only [List.length_cons, clrM, List.map_cons, List.cons.injEq, true_and]
    exact this
theorem Rn.wb {w w' : World} {r : Rd} {l l' : List Mt} (h : Rn w w' r l) (hw : ∀ m, m ∈ l → ∃ m', m' ∈ l' ∧ m.wb = m'.wb) : Rn w w' r l' :=
  ⟨h.os, h.tape, h.output, h.size, fun k hk k0 k1 k2 k3 => h.block k hk k0 k1 k2 fun m hm => by obtain ⟨m', h1, h2⟩ := hw m hm; rw [h2]; exact k3 m' h1⟩
theorem Rn.trans {w w1 w2 : World} {r : Rd} {l : List Mt} (h : Rn w w1 r l) (k : Rn w1 w2 r l) : Rn w w2 r l :=
  ⟨k.os.trans h.os, k.tape.trans h.tape, k.output.trans h.output, Nat.le_trans h.size k.size, fun b hb h1 h2 h3 h4 => (k.block b (Nat.lt_of_lt_of_le hb h.size) h1 h2 h3 h4).trans (h.block b hb h1 h2 h3 h4)⟩
theorem clrM_wb : ∀ (l : List Mt) (k : Nat), ∀ m, m ∈ clrM l k → ∃ m', m' ∈ l ∧ m.wb = m'.wb
  | [], _, m, hm => by simp [clrM] at hm
  | a :: r, 0, m, hm => ⟨m, hm, rfl⟩
  | a :: r, k + 1, m, hm => by
    rcases List.mem_cons.1 hm with rfl | hm
    · exact ⟨a, by simp, rfl⟩
    · obtain ⟨m', h1, h2⟩ := clrM_wb r k m hm
      exact ⟨m', List.mem_cons_of_mem _ h1, h2⟩

end Go.Proofs.YtgflkpccddfalaaGreatDoor
