/- append([]T{}, x...): the things anew, in a row of their own. -/
import Derived.Test.YtnliooflpclcbaaGreatDoorCodeLay
import Derived.Deep.AppendSrc
namespace Go.Proofs.YtnliooflpclcbaaGreatDoor
set_option maxRecDepth 100000
open Go.RowKit Go.Maps Go.ChangeShapes Go.WideShapes Go.ChangeAt Go.Deep

theorem app_new {α : Type} (f : α → Value) (hf1 : ∀ a, (f a).oneCell' = true) (t e : TypeId) (i : TypeInfo) (z : Value) (ht : Tryz.prog.underlying t = some (.slice e)) (hi : Tryz.prog.info? e = some i) (hz : i.zero = some z) (hs1 : i.size = 1) (hb : i.bytes ≤ 8)
    {x : World} {ao : Option Addr} {n c : Nat} {l : List α} (hr : RowAt ⟨1, fun _ a cs => cs = [f a]⟩ x ao n c l) (hn : n ≤ 10000000) (eb : Nat) (ty : TypeId) :
    ∃ b c' x', (Builtin.append_ #[t, t] ty #[.slice (some ⟨eb, 0, none⟩) 0 0, .slice ao n c]).run Tryz.prog x = .ok (.slice (some ⟨b, 0, none⟩) n c') x' ∧ G x x' ∧ RowAt ⟨1, fun _ a cs => cs = [f a]⟩ x' (some ⟨b, 0, none⟩) n c' l ∧ (n = 0 ∨ (b = x.heap.size ∧ b < x'.heap.size)) := by
  have hln := hr.1
  by_cases h0 : n = 0
  · subst h0
    obtain rfl : l = [] := List.eq_nil_of_length_eq_zero hln
    have hsrc : _root_.Go.Src Tryz.prog i.size t (.slice ao 0 c) 0 [] x := by
      cases ao with
      | none => exact _root_.Go.Src.ofNil x ht c
      | some ad => exact _root_.Go.Src.ofSlice x ht ad 0 c [] (by simp) (fun j u h => by simp at h) (fun u h => by cases h)
    have := run_append_room_src (P := Tryz.prog) x t t ty e i ht hi eb 0 0 0 (.slice ao 0 c) 0 [] hsrc (Nat.le_refl _) (fun j h => by simp at h) (fun j h => by simp at h)
    exact ⟨eb, 0, x, this, G.refl x, ⟨rfl, Nat.zero_le _, (fun h => by cases h), Or.inl rfl⟩, Or.inl rfl⟩
  · rcases hr.2.2.2 with hz0 | ⟨b, off, rfl, hbl, hc⟩
    · exact absurd hz0 h0
    have hsrc : _root_.Go.Src Tryz.prog i.size t (.slice (some ⟨b, off, none⟩) n c) n (l.map f) x := by
      refine _root_.Go.Src.ofSlice x ht _ n c (l.map f) (by rw [hs1]; simp [hln]) (fun j u h => ?_) (fun u h => ?_)
      · rw [List.getElem?_map] at h
        cases hj : l[j]? with
        | none => rw [hj] at h; simp at h
        | some a =>
          rw [hj] at h
          simp at h
          subst h
          obtain ⟨cs, ecs, hcs⟩ := hc j a hj
          have ecs : cs = [f a] := ecs
          subst ecs
          have h4 := hcs 0 _ rfl
          rw [Addr.add_lit]
          simpa using h4
      · obtain ⟨a, _, rfl⟩ := List.mem_map.1 h
        exact hf1 a
    have := run_append_grow_src (P := Tryz.prog) x t t ty e i z ht hi hz (some ⟨eb, 0, none⟩) 0 0 [] (run_firstCells_some x.drew _ 0 _ 0 0 [] (by simp) (fun j v h => by simp at h)) (.slice (some ⟨b, off, none⟩) n c) n (l.map f) hsrc (by omega) (by omega) (by rw [Nat.zero_add, nextslicecap_zero (by omega)]; exact Nat.le_trans (Nat.mul_le_mul hn hb) (by decide))
    rw [Nat.zero_add] at this
    refine ⟨x.heap.size, _, _, this, ((G.refl x).drew).more _, ⟨hln, hr.2.1, (fun h => by cases h), Or.inr ⟨x.heap.size, 0, rfl, ?_, fun j a hj => ⟨[f a], rfl, fun q v hv => ?_⟩⟩⟩, Or.inr ⟨rfl, ?_⟩⟩
    · rw [World.size_alloc]; exact Nat.lt_succ_self _
    · match q, hv with
      | 0, hv =>
        simp at hv
        subst hv
        refine (cell_of_row _ _ _ _ _ _ (heap_alloc_new x.drew _)).trans ?_
        have hjl : j < (l.map f).length := by rw [List.length_map]; exact (List.getElem?_eq_some_iff.1 hj).1
        simp only [List.nil_append, Nat.zero_add, Nat.add_zero, Nat.mul_one]
        rw [Array.getElem?_append_left (by simpa using hjl)]
        simp [hj]
      | q + 1, hv => simp at hv
    · rw [World.size_alloc]; exact Nat.lt_succ_self _
end Go.Proofs.YtnliooflpclcbaaGreatDoor
