/- HeadKnown answers true. -/
import Derived.Test.YtionokpdplgjbaaHeadBase
namespace Go.Proofs.Ytionokpdplgjbaa
open Go.RowKit Go.Maps Go.ChangeShapes Go.WideShapes Go.ChangeAt Go.Deep

theorem kn_pack (w : World) : Calls Try.prog 9 #[.agg #[.int .i64 0, .int .i64 0, .int .i64 0]] w fun e w' => e = .returned (.tuple #[.int .i64 0, .int .i64 1]) ∧ w' = w.alloc (.cells #[.int .i64 0, .int .i64 0, .int .i64 0] 27) := pack_any 0 0 0 w
theorem kn_unpack (w : World) : Calls Try.prog 10 #[.int .i64 0] w fun e w' => e = .returned (.tuple #[.agg #[.int .i64 0, .int .i64 0, .int .i64 0], .int .i64 3]) ∧ G w w' := unpack_any 0 w
theorem kn_shape (w : World) (t m : Nat) (ht : t = w.heap.size + 1) (hm : m = w.heap.size) : Calls Try.prog 12 #[.pointer (some ⟨t, 0, none⟩), .int .i64 0] ((w.alloc (.map #[] 0)).alloc (.cells #[.map (some m), .slice none 0 0] 60)) fun e w' =>
    e = .returned (.tuple #[.agg #[.int .i64 0, .int .i64 0, .int .u64 0], .int .i64 4]) ∧ G w w' := by
  subst ht hm
  refine (shape_no _ w.heap.size _ _ none 0 [] (tab_new w w.heap.size (Nat.le_refl _)) 0 (by simp)).mono ?_
  rintro e w' ⟨rfl, g⟩
  exact ⟨rfl, G.trans (by go_grown) g⟩
theorem kn_number (w : World) (t m : Nat) (ht : t = w.heap.size + 1) (hm : m = w.heap.size) : Calls Try.prog 13 #[.pointer (some ⟨t, 0, none⟩), .agg #[.int .i64 4, .int .i64 0, .int .u64 0]] ((w.alloc (.map #[] 0)).alloc (.cells #[.map (some m), .slice none 0 0] 60)) fun e w' =>
    e = .returned (.tuple #[.int .i64 0, .int .i64 1]) ∧ G w w' := by
  subst ht hm
  refine (number_bad _ _ ⟨4, 0, 0⟩ rfl).mono ?_
  rintro e w' ⟨rfl, g⟩
  exact ⟨rfl, G.trans (by go_grown) g⟩
theorem kn_good1 (w : World) : Calls Try.prog 14 #[.agg #[.int .i64 0, .int .i64 1, .int .u64 2]] w fun e w' => e = .returned (.bool false) ∧ G w w' := by
  refine (good_any 0 1 2 w).mono ?_
  rintro e w' ⟨rfl, rfl⟩
  exact ⟨rfl, G.alloc _ _⟩
theorem kn_good2 (w : World) : Calls Try.prog 14 #[.agg #[.int .i64 1, .int .i64 1, .int .u64 0]] w fun e w' => e = .returned (.bool false) ∧ G w w' := by
  refine (good_any 1 1 0 w).mono ?_
  rintro e w' ⟨rfl, rfl⟩
  exact ⟨rfl, G.alloc _ _⟩

set_option maxHeartbeats 1000000 in
theorem walk_HeadKnown (w : World) : Calls Try.prog 3 #[] w fun e w' => e = .returned (.bool true) ∧ G w w' := by
  go_enter Try.func3, Try.ntmps3
  go_wp2_with fail
  refine (awake_true _).mono ?_
  rintro e w1 ⟨rfl, g1⟩
  replace g1 := hide g1
  go_wp2_with fail
  refine (kn_pack _).mono ?_
  rintro e w2 ⟨rfl, rfl⟩
  go_wp2_with fail
  refine (kn_unpack _).mono ?_
  rintro e w2 ⟨rfl, g2⟩
  have g3 := hide (((unhide g1).more _).trans g2)
  clear g1 g2
  go_wp2_with fail
  refine (new_any _).mono ?_
  rintro e w3 ⟨rfl, rfl⟩
  go_wp2_with fail
  refine (kn_shape _ _ _ (by simp) (by simp)).mono ?_
  rintro e w3 ⟨rfl, g4⟩
  have g5 := hide (((unhide g3).more _).trans g4)
  clear g3 g4
  go_wp2_with fail
  refine (new_any _).mono ?_
  rintro e w4 ⟨rfl, rfl⟩
  go_wp2_with fail
  refine (kn_number _ _ _ (by simp) (by simp)).mono ?_
  rintro e w4 ⟨rfl, g6⟩
  have g7 := hide (((unhide g5).more _).trans g6)
  clear g5 g6
  go_wp2_with fail
  refine (kn_good1 _).mono ?_
  rintro e w5 ⟨rfl, g8⟩
  have g9 := hide ((unhide g7).trans g8)
  clear g7 g8
  go_wp2_with fail
  refine (kn_good2 _).mono ?_
  rintro e w6 ⟨rfl, gA⟩
  have gB := hide ((unhide g9).trans gA)
  clear g9 gA
  go_wp2_with fail
  go_ret
  exact ⟨rfl, unhide gB⟩

set_option maxRecDepth 100000 in
theorem lifted_HeadKnown (os : Os) (started : os.Started) (H : Type) (enc : TypeId × Value → H) :
    ReturnsInHanded {} Try.checked os 3 .any (Rows.headKnownSpec.pre6 enc Try.prog Try.f3 Rows.headKnownRow.domain false) (Rows.headKnownSpec.post enc Try.prog Try.f3 false true false false) := by
  refine returnsInHanded_of_change (C := Try.checked) own started (by kernel_rfl) Try.func3
    (ChangeSpec.witness6 (enc := enc) (C := Try.checked) false ⟨#[], #[], []⟩ 8 (by kernel_rfl) (by kernel_rfl) (by kernel_rfl) (by kernel_rfl)) ?_
  intro W base args ds gs before hval0 hW _ _
  have hval : ∀ (j : Nat) t v, Try.f3.params[j]? = some t → args[j]? = some v → Value.okWide Try.prog W .any base t v := hval0
  have hW' := hW
  obtain ⟨p, q, hA0, hV, rfl, hfz, hnd⟩ := hW
  have hA : DataW.TrodAll enc Try.prog W 0 (fun _ => true) true Try.f3.params.toList args.toList ds p := hA0
  rw [Try.params3] at hA hval
  obtain ⟨rfl, rfl, rfl⟩ := trodAll_none hA
  obtain ⟨rfl, rfl⟩ := trodVars_none hV
  clear hA0 hval0
  refine (walk_HeadKnown  W).mono fun e W' ⟨he, hg⟩ => ?_
  subst he
  exact ⟨_, rfl, _, _, _, [], _, [], hW', trodAll_mk1 (shut_bool Try.underlying4 _), trodAll_mk0, rfl, hg.frame _, fun h => by cases h⟩

/-- THE STATEMENT. -/
theorem said_HeadKnown : Rows.HeadKnownSaid :=
  OpenClaim.holds_of_wide 3 Try.f3 rfl rfl rfl rfl rfl rfl rfl ⟨rfl, rfl, rfl, rfl, rfl⟩ rfl rfl rfl rfl rfl (by kernel_rfl) Try.func3 (by kernel_rfl)
    (of_decide_eq_true (by kernel_rfl)) (by unfold Func.isWrapper; first | (rw [if_pos (by decide +kernel)]; kernel_rfl) | (rw [if_neg (by decide +kernel)]; exact ⟨rfl, rfl⟩))
    (fun os started H enc _ => lifted_HeadKnown os started H enc)
#print axioms said_HeadKnown
end Go.Proofs.Ytionokpdplgjbaa
