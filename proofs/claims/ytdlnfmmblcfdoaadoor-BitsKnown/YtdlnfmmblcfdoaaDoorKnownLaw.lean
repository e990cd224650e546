/- BitsKnown of package gantlinelaw1: the closed law answers true; nothing that was there is turned. -/
import Derived.Test.YtdlnfmmblcfdoaaDoorBase
namespace Go.Proofs.YtdlnfmmblcfdoaaDoor
open Go.ChangeShapes Go.WideShapes Go.ChangeAt Go.RowKit

theorem kn_div0 (w : World) : Calls Tryd.prog 10 #[.int .i64 1, .int .i64 0] w fun e w' => e = .returned (.tuple #[.int .i64 0, .bool false]) ∧ w' = w := div_zero _ _ w (by decide)
theorem kn_mod0 (w : World) : Calls Tryd.prog 11 #[.int .i64 1, .int .i64 (-9223372036854775808)] w fun e w' => e = .returned (.tuple #[.int .i64 0, .bool false]) ∧ w' = w := mod_zero _ _ w (by decide)
theorem kn_div1 (w : World) : Calls Tryd.prog 10 #[.int .i64 (-4611686018427387904), .int .i64 (-1)] w fun e w' => e = .returned (.tuple #[.int .i64 (-4611686018427387904), .bool true]) ∧ w' = w :=
  calls_as (by kernel_rfl) (div_any _ _ w (by decide))
theorem kn_shr1 (w : World) : Calls Tryd.prog 13 #[.int .i64 (-5), .int .i64 63] w fun e w' => e = .returned (.int .i64 (-1)) ∧ w' = w :=
  calls_as (by kernel_rfl) (shr_out _ _ w (by decide))
theorem kn_shr2 (w : World) : Calls Tryd.prog 13 #[.int .i64 5, .int .i64 (-1)] w fun e w' => e = .returned (.int .i64 0) ∧ w' = w :=
  calls_as (by kernel_rfl) (shr_out _ _ w (by decide))
theorem kn_shl (w : World) : Calls Tryd.prog 14 #[.int .i64 1, .int .i64 63] w fun e w' => e = .returned (.int .i64 0) ∧ w' = w := shl_out _ _ w (by decide)
theorem kn_first (w : World) (ht : Tab w) : Calls Tryd.prog 15 #[.int .u64 18446744073709551615] w fun e w' => e = .returned (.int .i64 64) ∧ w' = w :=
  calls_as (by kernel_rfl) (first_any 18446744073709551615 w (by decide) ht)
theorem kn_next (w : World) (ht : Tab w) : Calls Tryd.prog 16 #[.int .u64 0, .int .i64 0] w fun e w' => e = .returned (.int .i64 64) ∧ w' = w :=
  calls_as (by kernel_rfl) (next_any 0 0 w (by decide) ht)
theorem kn_field (w : World) : Calls Tryd.prog 17 #[.int .u64 1, .int .i64 (-1), .int .i64 5] w fun e w' => e = .returned (.int .u64 0) ∧ w' = w := field_out _ _ _ w (by decide) (by decide)
theorem kn_with (w : World) : Calls Tryd.prog 18 #[.int .u64 7, .int .i64 60, .int .i64 5, .int .u64 9] w fun e w' => e = .returned (.int .u64 7) ∧ w' = w := with_out _ _ _ _ w (by decide) (by decide)

set_option maxHeartbeats 400000 in
set_option maxRecDepth 100000 in
theorem take_bad (b : Nat) (w : World) (h0 : w.cell? ⟨b, 0, none⟩ = some (.int .u8 128)) (h1 : w.cell? ⟨b, 1, none⟩ = some (.int .u8 0)) :
    Calls Tryd.prog 12 #[.slice (some ⟨b, 0, none⟩) 2 2] w fun e w' => e = .returned (.tuple #[.int .u64 0, .int .i64 0]) ∧ w' = w := by
  have e1 : bits .andNot .u8 128 128 = 0 := by decide
  have e2 : bits .andNot .u8 0 128 = 0 := by decide
  have e3 : bits .or .u64 0 0 = 0 := by decide
  go_enter Tryd.func12, Tryd.ntmps12
  go_wp2
  refine wp_loop_rounds 3 ?_
  rw [rounds_succ]
  go_wp2
  rw [rounds_succ]
  go_wp2
  go_ret2
  exact ⟨rfl, rfl⟩

set_option maxHeartbeats 400000 in
theorem take_nil (w : World) : Calls Tryd.prog 12 #[.slice none 0 0] w fun e w' => e = .returned (.tuple #[.int .u64 0, .int .i64 0]) ∧ w' = w := by
  go_enter Tryd.func12, Tryd.ntmps12
  go_wp2
  refine wp_loop_rounds 1 ?_
  rw [rounds_succ]
  go_wp2
  go_ret2
  exact ⟨rfl, rfl⟩

set_option maxHeartbeats 1000000 in
set_option maxRecDepth 100000 in
theorem walk_BitsKnown (w : World) (ht : Tab w) :
    Calls Tryd.prog 3 #[] w fun e w' => e = .returned (.bool true) ∧ Grown w w' := by
  have C := hide (awake_any w ht)
  have HT := hide ht
  clear ht
  go_enter Tryd.func3, Tryd.ntmps3
  go_wp2_with fail
  refine (unhide C).mono ?_
  rintro e w1 ⟨rfl, hg, hb⟩
  have HT1 := hide ((unhide HT).later hb)
  have HG := hide hg
  clear hg hb C HT
  go_wp2_with fail
  refine (kn_div0 _).mono ?_
  rintro e w' ⟨rfl, rfl⟩
  go_wp2_with fail
  refine (kn_mod0 _).mono ?_
  rintro e w' ⟨rfl, rfl⟩
  go_wp2_with fail
  refine (kn_div1 _).mono ?_
  rintro e w' ⟨rfl, rfl⟩
  go_wp2_with fail
  refine (take_bad _ _ (by simp [go_sem]) (by simp [go_sem])).mono ?_
  rintro e w2 ⟨rfl, hw2⟩
  have HG2 : Hid (Grown w w2) := by rw [hw2]; exact (unhide HG).alloc _ _
  have HT2 : Hid (Tab w2) := by rw [hw2]; exact (unhide HT1).later ((Below.refl _ _).alloc (Nat.le_refl _) _)
  clear hw2 HG HT1
  go_wp2_with fail
  refine (take_nil _).mono ?_
  rintro e w' ⟨rfl, rfl⟩
  go_wp2_with fail
  refine (kn_shr1 _).mono ?_
  rintro e w' ⟨rfl, rfl⟩
  go_wp2_with fail
  refine (kn_shr2 _).mono ?_
  rintro e w' ⟨rfl, rfl⟩
  go_wp2_with (first
    | (go_at_call 14; refine (kn_shl _).mono ?_; rintro e w' ⟨rfl, rfl⟩)
    | (go_at_call 15; refine (kn_first _ (by exact unhide HT2)).mono ?_; rintro e w' ⟨rfl, rfl⟩)
    | (go_at_call 16; refine (kn_next _ (by exact unhide HT2)).mono ?_; rintro e w' ⟨rfl, rfl⟩)
    | (go_at_call 17; refine (kn_field _).mono ?_; rintro e w' ⟨rfl, rfl⟩)
    | (go_at_call 18; refine (kn_with _).mono ?_; rintro e w' ⟨rfl, rfl⟩))
  go_ret
  exact ⟨rfl, unhide HG2⟩

set_option maxRecDepth 100000 in
theorem lifted_BitsKnown (os : Os) (started : os.Started) (H : Type) (enc : TypeId × Value → H) :
    ReturnsInHanded {} Tryd.checked os 3 .any (fun w args => (Rows.bitsKnownSpec.pre enc Tryd.prog Tryd.f3 [] false w args ∧ laidMetH Tryd.prog laidTab w) ∧ sizedMet enc Tryd.prog Tryd.f3 (OpenSpec.ofChange Rows.bitsKnownSpec) false w args)
      (Rows.bitsKnownSpec.post enc Tryd.prog Tryd.f3 false true false false) := by
  refine returnsInHanded_of_change_and (C := Tryd.checked) (X := fun w _ => laidMetH Tryd.prog laidTab w) (fun _ _ _ hh h => h.of_heap hh) own started (by kernel_rfl) Tryd.func3
    (ChangeSpec.witness_shaped (enc := enc) (C := Tryd.checked) (os := os) (X := fun w _ => laidMetH Tryd.prog laidTab w) false (World.doorLaid Tryd.prog 400 os) #[] 8 rfl (World.shaped_of_RefB (by kernel_rfl) (by kernel_rfl)) (by kernel_rfl) (by kernel_rfl) (by kernel_rfl) (door_met os _)) ?_
  intro W base args ds gs before hval0 hW _ _ hL _
  have hval : ∀ (j : Nat) t v, Tryd.f3.params[j]? = some t → args[j]? = some v → Value.okWide Tryd.prog W .any base t v := hval0
  have hW' := hW
  obtain ⟨p, q, hA0, hV, rfl, hfz, hnd⟩ := hW
  have hA : DataW.TrodAll enc Tryd.prog W 0 (fun _ => true) true Tryd.f3.params.toList args.toList ds p := hA0
  rw [Tryd.params3] at hA hval
  obtain ⟨rfl, rfl, rfl⟩ := trodAll_none hA
  obtain ⟨rfl, rfl⟩ := trodVars_none hV
  clear hA0 hval0
  simp only [List.append_nil] at hW'
  refine (walk_BitsKnown W (tab_of_laid hL)).mono fun e W' ⟨he, hg⟩ => ?_
  subst he
  exact ⟨_, rfl, post_of_same (pa := []) (pv := []) hW' (fun _ _ _ => trodAll_mk1 (shut_bool Tryd.underlying4 _)) (fun sp _ => trodAll_mk0) (fun _ _ => rfl) rfl (hg.frame _) hg.2.1 (ok_one (by kernel_rfl) rfl (okWide_bool_mk Tryd.underlying4 _))⟩

theorem row_BitsKnown : Rows.BitsKnownSaid :=
  OpenClaim.holds_of_wide 3 Tryd.f3 rfl rfl rfl rfl rfl rfl rfl ⟨rfl, rfl, rfl, rfl, rfl⟩ rfl rfl rfl rfl rfl (by kernel_rfl) Tryd.func3 (by kernel_rfl)
    (of_decide_eq_true (by kernel_rfl)) (by unfold Func.isWrapper; first | (rw [if_pos (by decide +kernel)]; kernel_rfl) | (rw [if_neg (by decide +kernel)]; exact ⟨rfl, rfl⟩))
    (fun os started H enc _ => lifted_BitsKnown os started H enc)

/-- THE STATEMENT. -/
theorem card_BitsKnown : Rows.BitsKnownCardSaid :=
  Claim7.holds_tied_plain_at .later [] [.data] true (true, "90ed200b407e4f485d80c22479b6c205794185d05fc6b5f6f246b5c2b83577b9") false
    row_BitsKnown (fun _ h => by cases h) (by kernel_rfl) (fun _ h => by cases h) bitsKnown_row_tie rfl ⟨rfl, rfl⟩ (by kernel_rfl) rfl
    (fun f fn hf hfn => by
      obtain rfl : f = 3 := Option.some.inj ((show Tryd.prog.funcNamed "gantline/gantlinelaw1.BitsKnown" = some 3 by kernel_rfl).symm.trans hf) |>.symm
      obtain rfl : fn = Tryd.f3 := (Option.some.inj (Tryd.func3.symm.trans hfn)).symm
      exact ⟨by kernel_rfl, fun j t ht => by
        rw [Tryd.params3] at ht
        simp at ht⟩)
    (by kernel_rfl)
#print axioms card_BitsKnown
end Go.Proofs.YtdlnfmmblcfdoaaDoor
