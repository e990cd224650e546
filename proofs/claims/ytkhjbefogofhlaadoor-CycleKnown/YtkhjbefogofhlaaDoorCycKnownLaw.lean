/- CycleKnown of package gantlinelaw8: the law answers true; nothing that was there is turned. -/
import Derived.Test.YtkhjbefogofhlaaDoorCycAwake
import Derived.Test.YtkhjbefogofhlaaDoorArenaBase
namespace Go.Proofs.YtkhjbefogofhlaaDoor
set_option maxRecDepth 100000
open Go.ChangeShapes Go.WideShapes Go.ChangeAt Go.RowKit Go.Maps

set_option maxHeartbeats 2000000 in
theorem known8_core (w : World) (ht : Hid (Tab w)) (l1 : Al) (e1 : Hid ((⟨(al0 8).a.clear, (al0 8).u⟩ : Al).take 65 = (l1, 0, 1))) : Calls Tryd.prog 3 #[] w fun e w' => e = .returned (.bool true) ∧ G w w' := by
  go_enter Tryd.func3, Tryd.ntmps3
  go_wp2_with fail
  refine (awake8 w (unhide ht)).mono ?_
  rintro r w1 ⟨rfl, g1⟩
  have hb : Hid (Below w.heap.size w w1) := hide g1
  clear g1
  go_wp2_with fail
  refine (k_new7 _).mono ?_
  rintro r w2 ⟨rfl, hw⟩
  subst hw
  go_wp2_with fail
  refine (k_new hb ht).mono ?_
  rintro r w3 ⟨xl, b, rfl, X⟩
  have Y := hide (kh_new X)
  obtain ⟨hb0, hhb⟩ : ∃ hb0, w3.heap.size = hb0 := ⟨_, rfl⟩
  rw [hhb] at Y
  unfold hObj at Y
  have C1 : Hid (Calls Tryd.prog 6 #[.pointer (some ⟨b.cb, 0, none⟩), .iface 27 (.pointer (some ⟨hb0, 0, none⟩))] _ fun e w' => e = .returned (.bool false) ∧ KH w w' xl b hb0 ⟨al0 8, 0, 64, 0⟩) := hide (k_step Y (show (0 : Int) ≤ 0 ∧ (0 : Int) ≤ 1000000 from ⟨by decide, by decide⟩) (Or.inl rfl))
  clear X
  go_wp2_with fail
  refine (unhide C1).mono ?_
  rintro r w4 ⟨rfl, Y4⟩
  have Y4' := hide Y4
  have C2 := hide (k_start0 Y4' rfl)
  clear C1 Y4 Y
  go_wp2_with fail
  refine (unhide C2).mono ?_
  rintro r w5 ⟨rfl, Y5⟩
  have Y5' := hide Y5
  have C3 := hide (k_start1 Y5' rfl (.iface 27 (.pointer (some ⟨hb0, 0, none⟩))))
  have C4 := hide (k_take_no Y5' 65 0 1 l1 e1 rfl)
  clear C2 Y5 Y4'
  go_wp2_with fail
  refine (unhide C3).mono ?_
  rintro r w6 ⟨rfl, hw⟩
  subst hw
  clear C3
  go_wp2_with fail
  refine (unhide C4).mono ?_
  rintro r w7 ⟨rfl, Y7⟩
  have g7 := hide Y7.ks.st.below
  clear C4 Y7
  go_wp2_with fail
  go_ret
  exact ⟨rfl, unhide g7⟩
theorem walk_CycleKnown (w : World) (ht : Tab w) : Calls Tryd.prog 3 #[] w fun e w' => e = .returned (.bool true) ∧ Below w.heap.size w w' :=
  known8_core w (hide ht) _ (hide (pair_ofK (by decide +kernel)))


set_option maxRecDepth 100000 in
theorem lifted_CycleKnown (os : Os) (started : os.Started) (H : Type) (enc : TypeId × Value → H) :
    ReturnsInHanded {} Tryd.checked os 3 .any (fun w args => (Rows.cycleKnownSpec.pre enc Tryd.prog Tryd.f3 [] false w args ∧ laidMetH Tryd.prog laidTab w) ∧ sizedMet enc Tryd.prog Tryd.f3 (OpenSpec.ofChange Rows.cycleKnownSpec) false w args)
      (Rows.cycleKnownSpec.post enc Tryd.prog Tryd.f3 false true false false) := by
  refine returnsInHanded_of_change_and (C := Tryd.checked) (X := fun w _ => laidMetH Tryd.prog laidTab w) (fun _ _ _ hh h => h.of_heap hh) own started (by kernel_rfl) Tryd.func3
    (ChangeSpec.witness_shaped (enc := enc) (C := Tryd.checked) (os := os) (X := fun w _ => laidMetH Tryd.prog laidTab w) false (World.doorLaid Tryd.prog 400 os) #[] 8 rfl (World.shaped_of_RefB (by kernel_rfl) (by kernel_rfl)) (by kernel_rfl) (by kernel_rfl) (by kernel_rfl) (door_met os _)) ?_
  intro W base args ds gs before hval0 hW _ _ hL _
  have hval : ∀ (j : Nat) t v, Tryd.f3.params[j]? = some t → args[j]? = some v → Value.okWide Tryd.prog W .any base t v := hval0
  have hW' := hW
  obtain ⟨p, q, hA0, hV, rfl, hfz, hnd⟩ := hW
  have hA : DataW.TrodAll enc Tryd.prog W 0 (fun _ => true) true Tryd.f3.params.toList args.toList ds p := hA0
  rw [Tryd.params3] at hA hval
  obtain ⟨rfl, rfl, rfl⟩ := trodAll_none hA
  obtain ⟨rfl, rfl⟩ := trodVars_none hV
  clear hA0 hval0
  refine (walk_CycleKnown W (tab_of_laid hL)).mono fun e W' ⟨he, hg⟩ => ?_
  subst he
  exact ⟨_, rfl, _, _, _, [], [], [], hW', trodAll_mk1 (shut_bool Tryd.underlying4 _), trodAll_mk0, rfl, hg.frame _, fun h => by cases h⟩

theorem row_CycleKnown : Rows.CycleKnownSaid :=
  OpenClaim.holds_of_wide 3 Tryd.f3 rfl rfl rfl rfl rfl rfl rfl ⟨rfl, rfl, rfl, rfl, rfl⟩ rfl rfl rfl rfl rfl (by kernel_rfl) Tryd.func3 (by kernel_rfl)
    (of_decide_eq_true (by kernel_rfl)) (by unfold Func.isWrapper; first | (rw [if_pos (by decide +kernel)]; kernel_rfl) | (rw [if_neg (by decide +kernel)]; exact ⟨rfl, rfl⟩))
    (fun os started H enc _ => lifted_CycleKnown os started H enc)

/-- THE STATEMENT. -/
theorem card_CycleKnown : Rows.CycleKnownCardSaid :=
  Claim7.holds_tied_plain_at .later [] [.data] true (true, "64da8835e41c3da46dc3f8a071225b6591600db85dc81136c12daeca177ab207") false
    row_CycleKnown (fun _ h => by cases h) (by kernel_rfl) (fun _ h => by cases h) cycleKnown_row_tie rfl ⟨rfl, rfl⟩ (by kernel_rfl) rfl
    (fun f fn hf hfn => by
      obtain rfl : f = 3 := Option.some.inj ((show Tryd.prog.funcNamed "gantline/gantlinelaw8.CycleKnown" = some 3 by kernel_rfl).symm.trans hf) |>.symm
      obtain rfl : fn = Tryd.f3 := (Option.some.inj (Tryd.func3.symm.trans hfn)).symm
      exact ⟨by kernel_rfl, fun j t ht => by
        rw [Tryd.params3] at ht
        simp at ht⟩)
    (by kernel_rfl)
#print axioms card_CycleKnown
end Go.Proofs.YtkhjbefogofhlaaDoor
