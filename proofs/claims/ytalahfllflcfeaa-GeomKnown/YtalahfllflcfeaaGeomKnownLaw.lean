/- Statement GeomKnown: the examples of chapter 2 answer as they are told. No condition. -/
import Derived.Test.YtalahfllflcfeaaGeomBase
namespace Go.Proofs.Ytalahfllflcfeaa
open Go.ChangeShapes Go.WideShapes Go.ChangeAt Go.RowKit

theorem kn_place (w : World) : Calls Try.prog 9 #[.int .i64 141, .int .i64 1] w fun e w' => e = .returned (.int .i64 (-1)) ∧ w' = w := calls_as (by kernel_rfl) (place_any 141 1 w)
theorem kn_class0 (w : World) : Calls Try.prog 10 #[.int .i64 0] w fun e w' => e = .returned (.int .i64 (-1)) ∧ w' = w := calls_as (by kernel_rfl) (class_any 0 w)
theorem kn_class65 (w : World) : Calls Try.prog 10 #[.int .i64 65] w fun e w' => e = .returned (.int .i64 (-1)) ∧ w' = w := calls_as (by kernel_rfl) (class_any 65 w)
theorem kn_words (w : World) : Calls Try.prog 11 #[.int .i64 6] w fun e w' => e = .returned (.int .i64 0) ∧ w' = w := calls_as (by kernel_rfl) (words_any 6 w)
theorem kn_places (w : World) : Calls Try.prog 12 #[.int .i64 (-1)] w fun e w' => e = .returned (.int .i64 0) ∧ w' = w := calls_as (by kernel_rfl) (places_any (-1) w)
theorem kn_span (w : World) : Calls Try.prog 13 #[.int .i64 (-1)] w fun e w' => e = .returned (.int .i64 (-1)) ∧ w' = w := calls_as (by kernel_rfl) (span_any (-1) w)
theorem kn_addr0 (w : World) : Calls Try.prog 14 #[.int .i64 0, .int .i64 0, .int .i64 0] w fun e w' => e = .returned (.int .i64 0) ∧ w' = w := calls_as (by kernel_rfl) (addr_any 0 0 0 w)
theorem kn_addr512 (w : World) : Calls Try.prog 14 #[.int .i64 512, .int .i64 0, .int .i64 0] w fun e w' => e = .returned (.int .i64 0) ∧ w' = w := calls_as (by kernel_rfl) (addr_any 512 0 0 w)
theorem kn_full0 (w : World) : Calls Try.prog 15 #[.int .i64 0] w fun e w' => e = .returned (.int .u64 4294967295) ∧ w' = w := calls_as (by kernel_rfl) (full_any 0 w)
theorem kn_full9 (w : World) : Calls Try.prog 15 #[.int .i64 9] w fun e w' => e = .returned (.int .u64 0) ∧ w' = w := calls_as (by kernel_rfl) (full_any 9 w)

set_option maxHeartbeats 400000 in
theorem walk_GeomKnown (w : World) :
    Calls Try.prog 3 #[] w fun e w' => e = .returned (.bool true) ∧ Grown w w' := by
  go_enter Try.func3, Try.ntmps3
  go_wp2_with fail
  refine (awake_any _).mono ?_
  rintro e w' ⟨rfl, rfl⟩
  go_wp2_with fail
  refine (kn_place _).mono ?_
  rintro e w' ⟨rfl, rfl⟩
  go_wp2_with fail
  refine (kn_class0 _).mono ?_
  rintro e w' ⟨rfl, rfl⟩
  go_wp2_with fail
  refine (kn_class65 _).mono ?_
  rintro e w' ⟨rfl, rfl⟩
  go_wp2_with fail
  refine (kn_words _).mono ?_
  rintro e w' ⟨rfl, rfl⟩
  go_wp2_with fail
  refine (kn_places _).mono ?_
  rintro e w' ⟨rfl, rfl⟩
  go_wp2_with fail
  refine (kn_span _).mono ?_
  rintro e w' ⟨rfl, rfl⟩
  go_wp2_with fail
  refine (kn_addr0 _).mono ?_
  rintro e w' ⟨rfl, rfl⟩
  go_wp2_with fail
  refine (kn_addr512 _).mono ?_
  rintro e w' ⟨rfl, rfl⟩
  go_wp2_with fail
  refine (kn_full0 _).mono ?_
  rintro e w' ⟨rfl, rfl⟩
  go_wp2_with fail
  refine (kn_full9 _).mono ?_
  rintro e w' ⟨rfl, rfl⟩
  go_wp2_with fail
  go_ret
  exact ⟨rfl, Grown.refl _⟩

set_option maxRecDepth 100000 in
theorem lifted_GeomKnown (os : Os) (started : os.Started) (H : Type) (enc : TypeId × Value → H) :
    ReturnsInHanded {} Try.checked os 3 .any (Rows.geomKnownSpec.pre6 enc Try.prog Try.f3 Rows.geomKnownRow.domain false) (Rows.geomKnownSpec.post enc Try.prog Try.f3 false true false false) := by
  refine returnsInHanded_of_change (C := Try.checked) own started (by kernel_rfl) Try.func3
    (ChangeSpec.witness6 (enc := enc) (C := Try.checked) false ⟨#[], #[], []⟩ 8 (by kernel_rfl) (by kernel_rfl) (by kernel_rfl) (by kernel_rfl)) ?_
  intro W base args ds gs before hval0 hW _ _
  have hval : ∀ (j : Nat) t v, Try.f3.params[j]? = some t → args[j]? = some v → Value.okWide Try.prog W .any base t v := hval0
  have hW' := hW
  obtain ⟨p, q, hA0, hV, rfl, hfz, hnd⟩ := hW
  have hA : DataW.TrodAll enc Try.prog W 0 (fun _ => true) true Try.f3.params.toList args.toList ds p := hA0
  rw [Try.params3] at hA hval
  obtain ⟨rfl, rfl, rfl⟩ := trodAll_none hA
  obtain ⟨rfl, rfl⟩ := trodVars_none hV
  clear hA0 hval0
  simp only [List.append_nil] at hW'
  refine (walk_GeomKnown W).mono fun e W' ⟨he, hg⟩ => ?_
  subst he
  exact ⟨_, rfl, post_of_same (pa := []) (pv := []) hW' (fun _ _ _ => trodAll_mk1 (shut_bool Try.underlying4 _)) (fun sp _ => trodAll_mk0) (fun _ _ => rfl) rfl (hg.frame _) hg.2.1 (ok_one (by kernel_rfl) rfl (okWide_bool_mk Try.underlying4 _))⟩

/-- THE STATEMENT. -/
theorem said_GeomKnown : Rows.GeomKnownSaid :=
  OpenClaim.holds_of_wide 3 Try.f3 rfl rfl rfl rfl rfl rfl rfl ⟨rfl, rfl, rfl, rfl, rfl⟩ rfl rfl rfl rfl rfl (by kernel_rfl) Try.func3 (by kernel_rfl)
    (of_decide_eq_true (by kernel_rfl)) (by unfold Func.isWrapper; first | (rw [if_pos (by decide +kernel)]; kernel_rfl) | (rw [if_neg (by decide +kernel)]; exact ⟨rfl, rfl⟩))
    (fun os started H enc _ => lifted_GeomKnown os started H enc)
#print axioms said_GeomKnown
end Go.Proofs.Ytalahfllflcfeaa
