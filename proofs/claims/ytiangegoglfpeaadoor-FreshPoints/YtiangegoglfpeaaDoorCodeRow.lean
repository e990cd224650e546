/- rowOf, Name, Point, Maker of package code. -/
import Derived.Test.YtiangegoglfpeaaDoorCodeBase
namespace Go.Proofs.YtiangegoglfpeaaDoor
set_option maxRecDepth 100000
open Go.RowKit Go.Maps Go.ChangeShapes Go.WideShapes Go.ChangeAt Go.Deep

/-- The row that an Op has; none: one that says nothing. -/
def noRw : Rw := ⟨[], 0, false, false⟩
def rwOf (op : Int) : Rw := if 0 ≤ op then rowsP.getD op.toNat noRw else noRw

set_option maxHeartbeats 1000000 in
theorem rowOf_in (w : World) (i : Nat) (r : Rw) (hr : rowsP[i]? = some r) (ht : RowsAt w) :
    Calls Tryd.prog 31 #[.int .i64 (i : Int)] w fun e w' => e = .returned (.agg #[.string ⟨r.nm.toArray⟩, .int .i64 (r.ops : Int), .bool r.pt, .bool r.mkr]) ∧ G w w' := by
  obtain ⟨c0, c1, c2, c3⟩ := ht i r hr
  have d0 := fun o => (G.alloc w o).cell c0
  have d1 := fun o => (G.alloc w o).cell c1
  have d2 := fun o => (G.alloc w o).cell c2
  have d3 := fun o => (G.alloc w o).cell c3
  have hi : i < 45 := (List.getElem?_eq_some_iff.1 hr).1
  have h0 : ¬ (i : Int) < 0 := by omega
  have h45 : ¬ (45 : Int) ≤ (i : Int) := by omega
  clear hr ht
  go_enter Tryd.func31, Tryd.ntmps31
  go_wp2_with fail
  refine bodyPost_ret (by simp [results, Tryd.results31, go_sem]; try rfl) rfl ?_
  exact ⟨rfl, (G.refl w).more _⟩
set_option maxHeartbeats 1000000 in
theorem rowOf_low (w : World) (op : Int) (h : op < 0) :
    Calls Tryd.prog 31 #[.int .i64 op] w fun e w' => e = .returned (.agg #[.string ⟨noRw.nm.toArray⟩, .int .i64 (noRw.ops : Int), .bool noRw.pt, .bool noRw.mkr]) ∧ G w w' := by
  go_enter Tryd.func31, Tryd.ntmps31
  go_wp2_with fail
  refine bodyPost_ret (by simp [results, Tryd.results31, go_sem]; try rfl) rfl ?_
  exact ⟨rfl, (G.refl w).more _⟩
set_option maxHeartbeats 1000000 in
theorem rowOf_high (w : World) (op : Int) (h0 : ¬ op < 0) (h : 45 ≤ op) :
    Calls Tryd.prog 31 #[.int .i64 op] w fun e w' => e = .returned (.agg #[.string ⟨noRw.nm.toArray⟩, .int .i64 (noRw.ops : Int), .bool noRw.pt, .bool noRw.mkr]) ∧ G w w' := by
  go_enter Tryd.func31, Tryd.ntmps31
  go_wp2_with fail
  refine bodyPost_ret (by simp [results, Tryd.results31, go_sem]; try rfl) rfl ?_
  exact ⟨rfl, (G.refl w).more _⟩
theorem rowOf_any (w : World) (op : Int) (ht : RowsAt w) : Calls Tryd.prog 31 #[.int .i64 op] w fun e w' => e = .returned (.agg #[.string ⟨(rwOf op).nm.toArray⟩, .int .i64 ((rwOf op).ops : Int), .bool (rwOf op).pt, .bool (rwOf op).mkr]) ∧ G w w' := by
  by_cases h0 : op < 0
  · have e : rwOf op = noRw := by unfold rwOf; rw [if_neg (by omega)]
    rw [e]; exact rowOf_low w op h0
  · obtain ⟨i, rfl⟩ := Int.eq_ofNat_of_zero_le (show 0 ≤ op by omega)
    by_cases h : i < 45
    · have hr : rowsP[i]? = some (rwOf (i : Int)) := by
        unfold rwOf
        rw [if_pos (by omega), Int.toNat_natCast, List.getD_eq_getElem?_getD, List.getElem?_eq_getElem h]
        rfl
      exact rowOf_in w i _ hr ht
    · have e : rwOf (i : Int) = noRw := by
        unfold rwOf
        rw [if_pos (by omega), Int.toNat_natCast, List.getD_eq_getElem?_getD, List.getElem?_eq_none (show 45 ≤ i by omega)]
        rfl
      rw [e]; exact rowOf_high w _ h0 (by omega)

theorem field0 (a b c d : Value) (w : World) : (Instr.field 93 (.agg #[a, b, c, d]) 0).run Tryd.prog w = .ok a w := by kernel_rfl
theorem field2 (a b c d : Value) (w : World) : (Instr.field 93 (.agg #[a, b, c, d]) 2).run Tryd.prog w = .ok c w := by kernel_rfl
theorem field3 (a b c d : Value) (w : World) : (Instr.field 93 (.agg #[a, b, c, d]) 3).run Tryd.prog w = .ok d w := by kernel_rfl
set_option maxHeartbeats 400000 in
theorem point_any (w : World) (op : Int) (ht : RowsAt w) : Calls Tryd.prog 17 #[.int .i64 op] w fun e w' => e = .returned (.bool (rwOf op).pt) ∧ G w w' := by
  have C := hide (rowOf_any w op ht)
  generalize rwOf op = r at C ⊢
  clear ht
  have hfl := field2
  go_enter Tryd.func17, Tryd.ntmps17
  go_wp2_with fail
  refine (unhide C).mono ?_
  rintro e w1 ⟨rfl, hg⟩
  replace hg := hide hg
  clear C
  go_wp2_with fail
  go_ret
  exact ⟨rfl, unhide hg⟩
set_option maxHeartbeats 400000 in
theorem maker_any (w : World) (op : Int) (ht : RowsAt w) : Calls Tryd.prog 16 #[.int .i64 op] w fun e w' => e = .returned (.bool (rwOf op).mkr) ∧ G w w' := by
  have C := hide (rowOf_any w op ht)
  generalize rwOf op = r at C ⊢
  clear ht
  have hfl := field3
  go_enter Tryd.func16, Tryd.ntmps16
  go_wp2_with fail
  refine (unhide C).mono ?_
  rintro e w1 ⟨rfl, hg⟩
  replace hg := hide hg
  clear C
  go_wp2_with fail
  go_ret
  exact ⟨rfl, unhide hg⟩
end Go.Proofs.YtiangegoglfpeaaDoor
