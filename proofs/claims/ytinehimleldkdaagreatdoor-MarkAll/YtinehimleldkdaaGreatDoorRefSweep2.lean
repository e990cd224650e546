/- The contract of the document's Arena: Sweep, whole. -/
import Derived.Test.YtinehimleldkdaaGreatDoorRefSweep
namespace Go.Proofs.YtinehimleldkdaaGreatDoor
set_option maxRecDepth 100000
open Go.ChangeShapes Go.WideShapes Go.ChangeAt Go.RowKit

set_option maxHeartbeats 400000 in
theorem rsweep_none (w : World) (rb cb nc cc s : Nat) (c : Int) (hs : s < nc) (c0 : w.cell? ⟨rb, 0, none⟩ = some (.slice (some ⟨cb, 0, none⟩) nc cc)) (cv : w.cell? ⟨cb, s, none⟩ = some (.int .i64 c)) (hc : decide (c < 0) = true) :
    Calls Tryz.prog 94 #[.pointer (some ⟨rb, 0, none⟩), .int .i64 (s : Int)] w fun e w' => e = .returned (.int .i64 0) ∧ w' = w := by
  go_enter Tryz.func94, Tryz.ntmps94
  go_wp2_with fail
  go_ret
  exact ⟨rfl, rfl⟩

theorem keptM_mem {l : List Mt} {s j : Nat} : ∀ m, m ∈ keptM l s j → m ∈ l := fun _ hm => List.mem_of_mem_take (List.mem_filter.1 hm).1
theorem keptM_things (l : List Mt) (s : Nat) : things (keptM l s l.length) = swept (things l) s := by
  unfold keptM things swept
  rw [List.take_length, List.filter_map]
  rfl

/-- What the document's Sweep leaves, where the span has a class. -/
theorem rsweep_at {w : World} {B : Nat} {r : Rd} {cl : List Int} {l : List Mt} (h : RefAt w B r cl l) (hB : B ≤ w.heap.size) (hl : l.length ≤ 100000) {s : Nat} {c : Int} (hc : cl[s]? = some c) (hc0 : 0 ≤ c) :
    Calls Tryz.prog 94 #[.pointer (some ⟨r.rb, 0, none⟩), .int .i64 (s : Int)] w fun e w' => e = .returned (.int .i64 (goneN l s l.length : Int)) ∧
      ∃ ao ca, RefAt w' B ⟨r.rb, r.cb, r.cc, ao, ca⟩ (if leftN l s l.length = 0 then cl.set s (-1) else cl) (keptM l s l.length) ∧ Rn w w' r l ∧ (∀ a, ao = some a → w.heap.size ≤ a.block) := by
  have hs : s < cl.length := (List.getElem?_eq_some_iff.1 hc).1
  refine (rsweep_core w B r cl l s l.length (hide rfl) hl (hide h) cl.length (hide rfl) hs c (hide hc) (by simpa using hc0)).mono ?_
  rintro e w' ⟨p, k, ao, ca, wr, H, rfl, hw⟩
  obtain ⟨hp, hk, S⟩ := unhide H
  subst hp
  have hmem : ∀ m, m ∈ keptM l s l.length → WdAt wr B m ∧ m.wb ≠ r.rb ∧ m.wb ≠ r.cb ∧ ∀ a, ao = some a → m.wb ≠ a.block := by
    intro m hm
    obtain ⟨q0, q1, q2, _⟩ := S.ref.wd m (keptM_mem m hm)
    refine ⟨q0, q1, q2, fun a ha => ?_⟩
    have h1 := (h.wd m (keptM_mem m hm)).1.hi
    have h2 := (S.row.lt a ha).1
    omega
  have hap : (keptM l s l.length).Pairwise fun x y => x.wb ≠ y.wb := (h.ap.sublist (List.take_sublist _ _)).filter _
  have N := S.ref.newRow (w := w) hB h.h0 h.h1 S.row S.nil hmem hap
  rw [← hk] at N
  have T1 : Rn w (wr.setCell ⟨r.rb, 1, none⟩ (.slice ao k ca)) r l :=
    ⟨S.g.os, S.g.tape, S.g.output, by rw [World.size_setCell]; exact S.g.size, fun b hb b0 b1 b2 b3 => (Below.heap_setCell _ _ _ _ b0).trans (S.g.block b hb)⟩
  rcases hw with ⟨h0, rfl⟩ | ⟨h0, rfl⟩
  · rw [if_pos (unhide h0)]
    obtain ⟨M1, M2⟩ := N.setCls hs (-1)
    refine ⟨rfl, ao, ca, M1, ⟨T1.os, T1.tape, T1.output, by rw [World.size_setCell]; exact T1.size, fun b hb b0 b1 b2 b3 => (Below.heap_setCell _ _ _ _ b1).trans (T1.block b hb b0 b1 b2 b3)⟩, fun a ha => (S.row.lt a ha).1⟩
  · rw [if_neg (unhide h0)]
    exact ⟨rfl, ao, ca, N, T1, fun a ha => (S.row.lt a ha).1⟩
end Go.Proofs.YtinehimleldkdaaGreatDoor
