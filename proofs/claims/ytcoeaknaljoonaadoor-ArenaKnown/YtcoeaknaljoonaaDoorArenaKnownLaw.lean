/- ArenaKnown of package gantlinelaw4: the law answers true; nothing that was there is turned. -/
import Derived.Test.YtcoeaknaljoonaaDoorArenaBase
namespace Go.Proofs.YtcoeaknaljoonaaDoor
open Go.ChangeShapes Go.WideShapes Go.ChangeAt Go.RowKit

theorem new7 (w : World) : Calls Tryd.prog 9 #[.int .i64 7] w fun e w' => e = .returned (.tuple #[.pointer none, .int .i64 1]) ∧ w' = w := new_no w 7 (Or.inl (by decide))
theorem new513 (w : World) : Calls Tryd.prog 9 #[.int .i64 513] w fun e w' => e = .returned (.tuple #[.pointer none, .int .i64 1]) ∧ w' = w := new_no w 513 (Or.inr (by decide))

set_option maxHeartbeats 2000000 in
set_option maxRecDepth 100000 in
theorem known_core (w : World) (ht : Hid (Tab w)) (a1 a2 : Ab)
    (e0 : (ab0 8).takeE 1 = 4) (e0' : (ab0 8).takeA 1 = ab0 8) (e1 : (ab0 8).setE 0 0 = 1) (e1' : (ab0 8).setA 0 0 = ab0 8) (e2 : (ab0 8).setE 1 6 = 1) (e2' : (ab0 8).setA 1 6 = ab0 8) (e3 : (ab0 8).setA 1 5 = a1)
    (e4 : a1.setE 1 5 = 5) (e4' : a1.setA 1 5 = a1) (e5 : a1.takeA 1 = a2) (e6 : a2.takeE 1 = 5) (e6' : a2.takeA 1 = a2) (e7 : a2.readE 65 0 = 1) (e8 : a2.readE 64 64 = 1) (e8' : a2.writeA 64 64 1 = a2) (e9 : a2.clsI 99 = -1)
    (e10 : a2.markB 1 = false) (e10' : a2.markA 1 = a2) (e11 : (a2.sweepN 7 : Int) = 0) :
    Calls Tryd.prog 3 #[] w fun e w' => e = .returned (.bool true) ∧ Below w.heap.size w w' := by
  have C := hide (awake_true w (unhide ht))
  go_enter Tryd.func3, Tryd.ntmps3
  go_wp2_with fail
  refine (unhide C).mono ?_
  rintro e w1 ⟨rfl, g⟩
  have hb : Hid (Below w.heap.size w w1) := g
  clear g C
  go_wp2_with fail
  refine (new7 _).mono ?_
  rintro e w0 ⟨rfl, rfl⟩
  go_wp2_with fail
  refine (new513 _).mono ?_
  rintro e w1 ⟨rfl, rfl⟩
  go_wp2_with fail
  refine (st_make8 hb ht).mono ?_
  rintro e w1 ⟨d, rfl, S, _, _, _, _⟩
  replace S := hide S
  clear hb
  go_wp2_with fail
  refine (st_take S 1).mono ?_
  rw [e0, e0']
  rintro e wn ⟨rfl, S2, _⟩
  clear S
  have S := hide S2
  clear S2
  go_wp2_with fail
  refine (st_set S 0 0).mono ?_
  rw [e1, e1']
  rintro e wn ⟨rfl, S2, _⟩
  clear S
  have S := hide S2
  clear S2
  go_wp2_with fail
  refine (st_set S 1 6).mono ?_
  rw [e2, e2']
  rintro e wn ⟨rfl, S2, _⟩
  clear S
  have S := hide S2
  clear S2
  go_wp2_with fail
  refine (st_set S 1 5).mono ?_
  rw [e3]
  rintro e wn ⟨rfl, S2, _⟩
  clear S
  have S := hide S2
  clear S2
  go_wp2_with fail
  refine (st_set S 1 5).mono ?_
  rw [e4, e4']
  rintro e wn ⟨rfl, S2, _⟩
  clear S
  have S := hide S2
  clear S2
  go_wp2_with fail
  refine (st_take S 1).mono ?_
  rw [e5]
  rintro e wn ⟨rfl, S2, _⟩
  clear S
  have S := hide S2
  clear S2
  go_wp2_with fail
  refine (st_take S 1).mono ?_
  rw [e6, e6']
  rintro e wn ⟨rfl, S2, _⟩
  clear S
  have S := hide S2
  clear S2
  go_wp2_with fail
  refine (st_read S 65 0).mono ?_
  rw [e7]
  rintro e wn ⟨rfl, S2, _⟩
  clear S
  have S := hide S2
  clear S2
  go_wp2_with fail
  refine (st_write S 64 64 1).mono ?_
  rw [e8, e8']
  rintro e wn ⟨rfl, S2, _⟩
  clear S
  have S := hide S2
  clear S2
  go_wp2_with fail
  refine (st_cls S 99).mono ?_
  rw [e9]
  rintro e wn ⟨rfl, S2, _⟩
  clear S
  have S := hide S2
  clear S2
  go_wp2_with fail
  refine (st_mark S 1).mono ?_
  rw [e10, e10']
  rintro e wn ⟨rfl, S2, _⟩
  clear S
  have S := hide S2
  clear S2
  go_wp2_with fail
  refine (st_sweep S 7).mono ?_
  rw [e11]
  rintro e wn ⟨rfl, S2, _⟩
  clear S
  have S := hide S2
  clear S2
  go_wp2_with fail
  go_ret
  exact ⟨rfl, (unhide S).below⟩

theorem walk_ArenaKnown (w : World) (ht : Tab w) : Calls Tryd.prog 3 #[] w fun e w' => e = .returned (.bool true) ∧ Below w.heap.size w w' :=
  known_core w (hide ht) _ _ (by decide +kernel) rfl (by decide +kernel) rfl (by decide +kernel) rfl rfl (by decide +kernel) rfl rfl (by decide +kernel) rfl (by decide +kernel) (by decide +kernel) rfl (by decide +kernel) (by decide +kernel) rfl (by decide +kernel)

set_option maxRecDepth 100000 in
theorem lifted_ArenaKnown (os : Os) (started : os.Started) (H : Type) (enc : TypeId × Value → H) :
    ReturnsInHanded {} Tryd.checked os 3 .any (fun w args => (Rows.arenaKnownSpec.pre enc Tryd.prog Tryd.f3 [] false w args ∧ laidMetH Tryd.prog laidTab w) ∧ sizedMet enc Tryd.prog Tryd.f3 (OpenSpec.ofChange Rows.arenaKnownSpec) false w args)
      (Rows.arenaKnownSpec.post enc Tryd.prog Tryd.f3 false true false false) := by
  refine returnsInHanded_of_change_and (C := Tryd.checked) (X := fun w _ => laidMetH Tryd.prog laidTab w) (fun _ _ _ hh h => h.of_heap hh) own started (by kernel_rfl) Tryd.func3
    (ChangeSpec.witness_shaped (enc := enc) (C := Tryd.checked) (os := os) (X := fun w _ => laidMetH Tryd.prog laidTab w) false (World.doorLaid Tryd.prog 400 os) #[] 8 rfl (World.shaped_of_RefB (by kernel_rfl) (by kernel_rfl)) (by kernel_rfl) (by kernel_rfl) (by kernel_rfl) (door_met os _)) ?_
  intro W base args ds gs before hval0 hW _ _ hL _
  have hval : ∀ (j : Nat) t v, Tryd.f3.params[j]? = some t → args[j]? = some v → Value.okWide Tryd.prog W .any base t v := hval0
  have hW' := hW
  obtain ⟨p, q, hA0, hV, rfl, hfz, hnd⟩ := hW
  have hA : DataW.TrodAll enc Tryd.prog W 0 (fun _ => true) true Tryd.f3.params.toList args.toList ds p := hA0
  rw [Tryd.params3] at hA hval
  obtain ⟨rfl, rfl, rfl⟩ := trodAll_none hA
  obtain ⟨rfl, rfl⟩ := trodVars_none hV
  clear hA0 hval0
  refine (walk_ArenaKnown W (tab_of_laid hL)).mono fun e W' ⟨he, hg⟩ => ?_
  subst he
  exact ⟨_, rfl, _, _, _, [], [], [], hW', trodAll_mk1 (shut_bool Tryd.underlying4 _), trodAll_mk0, rfl, hg.frame _, fun h => by cases h⟩

theorem row_ArenaKnown : Rows.ArenaKnownSaid :=
  OpenClaim.holds_of_wide 3 Tryd.f3 rfl rfl rfl rfl rfl rfl rfl ⟨rfl, rfl, rfl, rfl, rfl⟩ rfl rfl rfl rfl rfl (by kernel_rfl) Tryd.func3 (by kernel_rfl)
    (of_decide_eq_true (by kernel_rfl)) (by unfold Func.isWrapper; first | (rw [if_pos (by decide +kernel)]; kernel_rfl) | (rw [if_neg (by decide +kernel)]; exact ⟨rfl, rfl⟩))
    (fun os started H enc _ => lifted_ArenaKnown os started H enc)

/-- THE STATEMENT. -/
theorem card_ArenaKnown : Rows.ArenaKnownCardSaid :=
  Claim7.holds_tied_plain_at .later [] [.data] true (true, "64ae28b82ac9bc8bf812a8ed8e489dbeb6ade7eb6e30482be111075a2889555d") false
    row_ArenaKnown (fun _ h => by cases h) (by kernel_rfl) (fun _ h => by cases h) arenaKnown_row_tie rfl ⟨rfl, rfl⟩ (by kernel_rfl) rfl
    (fun f fn hf hfn => by
      obtain rfl : f = 3 := Option.some.inj ((show Tryd.prog.funcNamed "gantline/gantlinelaw4.ArenaKnown" = some 3 by kernel_rfl).symm.trans hf) |>.symm
      obtain rfl : fn = Tryd.f3 := (Option.some.inj (Tryd.func3.symm.trans hfn)).symm
      exact ⟨by kernel_rfl, fun j t ht => by
        rw [Tryd.params3] at ht
        simp at ht⟩)
    (by kernel_rfl)
#print axioms card_ArenaKnown
end Go.Proofs.YtcoeaknaljoonaaDoor
