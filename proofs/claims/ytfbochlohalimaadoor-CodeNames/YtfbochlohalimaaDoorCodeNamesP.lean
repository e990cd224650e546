/- The document's own Name, Point, Maker (gantlineref9), Instr (gantlineref17). -/
import Derived.Test.YtfbochlohalimaaDoorCodeNamesR
namespace Go.Proofs.YtfbochlohalimaaDoor
set_option maxRecDepth 100000
open Go.RowKit Go.Maps Go.ChangeShapes Go.WideShapes Go.ChangeAt Go.Deep

theorem rows_get (op : Int) (h0 : 0 ≤ op) (h1 : op ≤ 44) : rowsP[op.toNat]? = some (rwOf op) := by
  unfold rwOf
  rw [if_pos h0, List.getD_eq_getElem?_getD, List.getElem?_eq_getElem (show op.toNat < rowsP.length by show op.toNat < 45; omega)]
  rfl
theorem rows_out (op : Int) (h : op < 0 ∨ 44 < op) : rwOf op = noRw := by
  unfold rwOf
  by_cases h0 : 0 ≤ op
  · rw [if_pos h0, List.getD_eq_getElem?_getD, List.getElem?_eq_none (show rowsP.length ≤ op.toNat by show 45 ≤ op.toNat; omega)]
    rfl
  · rw [if_neg h0]
set_option maxHeartbeats 1000000 in
theorem rname_any (w : World) (op : Int) : Calls Tryd.prog 15 #[.int .i64 op] w fun e w' => e = .returned (.string ⟨(rwOf op).nm.toArray⟩) ∧ G w w' := by
  by_cases hl : op < 0
  · have e : (rwOf op).nm = [] := by rw [rows_out op (Or.inl hl)]; rfl
    rw [e]
    go_enter Tryd.func15, Tryd.ntmps15
    go_wp2_with fail
    go_ret
    exact ⟨rfl, G.refl w⟩
  · by_cases hh : 44 < op
    · have e : (rwOf op).nm = [] := by rw [rows_out op (Or.inr hh)]; rfl
      rw [e]
      go_enter Tryd.func15, Tryd.ntmps15
      go_wp2_with fail
      go_ret
      exact ⟨rfl, G.refl w⟩
    · obtain ⟨i, rfl⟩ := Int.eq_ofNat_of_zero_le (show 0 ≤ op by omega)
      have hi : i < 45 := by omega
      have hr := rows_get (i : Int) (by omega) (by omega)
      rw [Int.toNat_natCast] at hr
      have R := hide (rrows_any w)
      generalize rwOf (i : Int) = r at *
      go_enter Tryd.func15, Tryd.ntmps15
      go_wp2_with fail
      refine (unhide R).mono ?_
      rintro e w1 ⟨rfl, hR, hg⟩
      obtain ⟨c0, c1⟩ := hR i r hr
      replace hg := hide hg
      clear R hR hr
      go_wp2_with fail
      go_ret
      exact ⟨rfl, unhide hg⟩
/-- Makers and points, as the document spells them. -/
theorem mk_fin : ∀ k : Fin 45, (rowsP.getD k.val noRw).mkr = (k.val == 25 || (k.val == 26 || (k.val == 36 || k.val == 37))) := by decide
theorem pt_fin : ∀ k : Fin 45, (rowsP.getD k.val noRw).pt = ((rowsP.getD k.val noRw).mkr || (k.val == 20 || (k.val == 21 || (k.val == 23 || (k.val == 24 || (k.val == 38 || (k.val == 39 || (k.val == 41 || k.val == 43)))))))) := by decide
theorem cast_beq (i k : Nat) : ((i : Int) == (k : Int)) = (i == k) := by
  by_cases h : i = k
  · subst h; simp
  · rw [beq_eq_false_iff_ne.2 h, beq_eq_false_iff_ne.2 (by omega)]
theorem mk_eq (op : Int) : (rwOf op).mkr = (op == 25 || (op == 26 || (op == 36 || op == 37))) := by
  by_cases h : 0 ≤ op ∧ op ≤ 44
  · obtain ⟨i, rfl⟩ := Int.eq_ofNat_of_zero_le h.1
    have h1 := mk_fin ⟨i, by omega⟩
    unfold rwOf
    rw [if_pos h.1, Int.toNat_natCast, h1]
    have c25 : ((i : Int) == 25) = (i == 25) := cast_beq i 25
    have c26 : ((i : Int) == 26) = (i == 26) := cast_beq i 26
    have c36 : ((i : Int) == 36) = (i == 36) := cast_beq i 36
    have c37 : ((i : Int) == 37) = (i == 37) := cast_beq i 37
    rw [c25, c26, c36, c37]
  · rw [rows_out op (by omega), beq_eq_false_iff_ne.2 (show op ≠ 25 by omega), beq_eq_false_iff_ne.2 (show op ≠ 26 by omega), beq_eq_false_iff_ne.2 (show op ≠ 36 by omega), beq_eq_false_iff_ne.2 (show op ≠ 37 by omega)]
    rfl
theorem pt_eq (op : Int) : (rwOf op).pt = ((rwOf op).mkr || (op == 20 || (op == 21 || (op == 23 || (op == 24 || (op == 38 || (op == 39 || (op == 41 || op == 43)))))))) := by
  by_cases h : 0 ≤ op ∧ op ≤ 44
  · obtain ⟨i, rfl⟩ := Int.eq_ofNat_of_zero_le h.1
    have h1 := pt_fin ⟨i, by omega⟩
    unfold rwOf
    rw [if_pos h.1, Int.toNat_natCast, h1]
    have c20 : ((i : Int) == 20) = (i == 20) := cast_beq i 20
    have c21 : ((i : Int) == 21) = (i == 21) := cast_beq i 21
    have c23 : ((i : Int) == 23) = (i == 23) := cast_beq i 23
    have c24 : ((i : Int) == 24) = (i == 24) := cast_beq i 24
    have c38 : ((i : Int) == 38) = (i == 38) := cast_beq i 38
    have c39 : ((i : Int) == 39) = (i == 39) := cast_beq i 39
    have c41 : ((i : Int) == 41) = (i == 41) := cast_beq i 41
    have c43 : ((i : Int) == 43) = (i == 43) := cast_beq i 43
    rw [c20, c21, c23, c24, c38, c39, c41, c43]
  · rw [rows_out op (by omega), beq_eq_false_iff_ne.2 (show op ≠ 20 by omega), beq_eq_false_iff_ne.2 (show op ≠ 21 by omega), beq_eq_false_iff_ne.2 (show op ≠ 23 by omega), beq_eq_false_iff_ne.2 (show op ≠ 24 by omega), beq_eq_false_iff_ne.2 (show op ≠ 38 by omega), beq_eq_false_iff_ne.2 (show op ≠ 39 by omega), beq_eq_false_iff_ne.2 (show op ≠ 41 by omega), beq_eq_false_iff_ne.2 (show op ≠ 43 by omega)]
    rfl

set_option maxHeartbeats 1000000 in
theorem rmaker_any (w : World) (op : Int) : Calls Tryd.prog 19 #[.int .i64 op] w fun e w' => e = .returned (.bool (rwOf op).mkr) ∧ w' = w := by
  rw [mk_eq]
  by_cases h25 : op = 25
  · subst h25
    go_enter Tryd.func19, Tryd.ntmps19
    go_wp2_with fail
    go_ret
    exact ⟨rfl, rfl⟩
  by_cases h26 : op = 26
  · subst h26
    go_enter Tryd.func19, Tryd.ntmps19
    go_wp2_with fail
    go_ret
    exact ⟨rfl, rfl⟩
  by_cases h36 : op = 36
  · subst h36
    go_enter Tryd.func19, Tryd.ntmps19
    go_wp2_with fail
    go_ret
    exact ⟨rfl, rfl⟩
  have b25 : (op == 25) = false := beq_eq_false_iff_ne.2 h25
  have b26 : (op == 26) = false := beq_eq_false_iff_ne.2 h26
  have b36 : (op == 36) = false := beq_eq_false_iff_ne.2 h36
  rw [b25, b26, b36]
  go_enter Tryd.func19, Tryd.ntmps19
  go_wp2_with fail
  go_ret
  exact ⟨rfl, rfl⟩
set_option maxHeartbeats 1000000 in
theorem rpoint_any (w : World) (op : Int) : Calls Tryd.prog 17 #[.int .i64 op] w fun e w' => e = .returned (.bool (rwOf op).pt) ∧ w' = w := by
  have M := rmaker_any w op
  rw [pt_eq]
  cases hm : (rwOf op).mkr with
  | true =>
    rw [hm] at M
    replace M := hide M
    clear hm
    go_enter Tryd.func17, Tryd.ntmps17
    go_wp2_with fail
    refine (unhide M).mono ?_
    rintro e w1 ⟨rfl, rfl⟩
    clear M
    go_wp2_with fail
    go_ret
    exact ⟨rfl, rfl⟩
  | false =>
    rw [hm] at M
    replace M := hide M
    clear hm
    by_cases h20 : op = 20
    · subst h20
      go_enter Tryd.func17, Tryd.ntmps17
      go_wp2_with fail
      refine (unhide M).mono ?_
      rintro e w1 ⟨rfl, rfl⟩
      clear M
      go_wp2_with fail
      go_ret
      exact ⟨rfl, rfl⟩
    have b20 : (op == 20) = false := beq_eq_false_iff_ne.2 h20
    by_cases h21 : op = 21
    · subst h21
      go_enter Tryd.func17, Tryd.ntmps17
      go_wp2_with fail
      refine (unhide M).mono ?_
      rintro e w1 ⟨rfl, rfl⟩
      clear M
      go_wp2_with fail
      go_ret
      exact ⟨rfl, rfl⟩
    have b21 : (op == 21) = false := beq_eq_false_iff_ne.2 h21
    by_cases h23 : op = 23
    · subst h23
      go_enter Tryd.func17, Tryd.ntmps17
      go_wp2_with fail
      refine (unhide M).mono ?_
      rintro e w1 ⟨rfl, rfl⟩
      clear M
      go_wp2_with fail
      go_ret
      exact ⟨rfl, rfl⟩
    have b23 : (op == 23) = false := beq_eq_false_iff_ne.2 h23
    by_cases h24 : op = 24
    · subst h24
      go_enter Tryd.func17, Tryd.ntmps17
      go_wp2_with fail
      refine (unhide M).mono ?_
      rintro e w1 ⟨rfl, rfl⟩
      clear M
      go_wp2_with fail
      go_ret
      exact ⟨rfl, rfl⟩
    have b24 : (op == 24) = false := beq_eq_false_iff_ne.2 h24
    by_cases h38 : op = 38
    · subst h38
      go_enter Tryd.func17, Tryd.ntmps17
      go_wp2_with fail
      refine (unhide M).mono ?_
      rintro e w1 ⟨rfl, rfl⟩
      clear M
      go_wp2_with fail
      go_ret
      exact ⟨rfl, rfl⟩
    have b38 : (op == 38) = false := beq_eq_false_iff_ne.2 h38
    by_cases h39 : op = 39
    · subst h39
      go_enter Tryd.func17, Tryd.ntmps17
      go_wp2_with fail
      refine (unhide M).mono ?_
      rintro e w1 ⟨rfl, rfl⟩
      clear M
      go_wp2_with fail
      go_ret
      exact ⟨rfl, rfl⟩
    have b39 : (op == 39) = false := beq_eq_false_iff_ne.2 h39
    by_cases h41 : op = 41
    · subst h41
      go_enter Tryd.func17, Tryd.ntmps17
      go_wp2_with fail
      refine (unhide M).mono ?_
      rintro e w1 ⟨rfl, rfl⟩
      clear M
      go_wp2_with fail
      go_ret
      exact ⟨rfl, rfl⟩
    have b41 : (op == 41) = false := beq_eq_false_iff_ne.2 h41
    rw [b20, b21, b23, b24, b38, b39, b41]
    simp only [Bool.false_or]
    go_enter Tryd.func17, Tryd.ntmps17
    go_wp2_with fail
    refine (unhide M).mono ?_
    rintro e w1 ⟨rfl, rfl⟩
    clear M
    go_wp2_with fail
    go_ret
    exact ⟨rfl, rfl⟩
set_option maxHeartbeats 1000000 in
theorem rinstr_any (w : World) (i : In) : Calls Tryd.prog 21 #[.agg #[.int .i64 i.op, .int .i64 i.a, .int .i64 i.b, .int .i64 i.c, .int .i64 i.d]] w fun e w' => e = .returned (.agg #[.int .i64 i.op, .int .i64 i.a, .int .i64 i.b, .int .i64 i.c, .int .i64 i.d]) ∧ G w w' := by
  go_enter Tryd.func21, Tryd.ntmps21
  go_wp2_with fail
  refine bodyPost_ret (by simp [results, Tryd.results21, go_sem]; try rfl) rfl ?_
  exact ⟨rfl, ((G.refl w).more _).more _⟩
end Go.Proofs.YtfbochlohalimaaDoor
