/- AllocKnown of package gantlinelaw5: the law answers true; nothing that was there is turned. -/
import Derived.Test.YtbgmaifllndpfaaDoorAllocAwake
namespace Go.Proofs.YtbgmaifllndpfaaDoor
open Go.ChangeShapes Go.WideShapes Go.ChangeAt Go.RowKit

def itT : Nat → Al
  | 0 => al0 8
  | j + 1 => ((itT j).take 64).1

set_option maxHeartbeats 2000000 in
set_option maxRecDepth 100000 in
theorem known5_core (w : World) (ht : Hid (Tab w)) (T : Nat → Al) (l0 l7 l8 l9 : Al) (e0 : l0.take 0 = (l0, 0, 1)) (e1 : l0.take 65 = (l0, 0, 1)) (T0 : T 0 = l0) (TS : Hid (∀ j, T (j + 1) = ((T j).take 64).1)) (T7 : Hid (T 7 = l7)) (h0 : Hid (l0 = al0 8))
    (e2 : l7.take 1 = (l8, 0, 5)) (e3 : (leastU l8.u l8.a.n 0).isSome = false) (e3' : l8.sweepOne = l9) (e4 : l9.a.used l9.a.n = 448) :
    Calls Tryd.prog 3 #[] w fun e w' => e = .returned (.bool true) ∧ Below w.heap.size w w' := by
  have C := hide (awake5 w (unhide ht))
  go_enter Tryd.func3, Tryd.ntmps3
  go_wp2_with fail
  refine (unhide C).mono ?_
  rintro e w1 ⟨rfl, g⟩
  have hb : Hid (Below w.heap.size w w1) := g
  clear g C
  go_wp2_with fail
  refine (made8 hb ht).mono ?_
  rw [← unhide h0]
  rintro e w2 ⟨x, b, rfl, S⟩
  replace S := hide S
  clear hb
  go_wp2_with fail
  refine (l_take_as S e0).mono ?_
  rintro e w3 ⟨rfl, S2⟩
  clear S
  replace S := hide S2
  clear S2
  go_wp2_with fail
  refine (l_take_as S e1).mono ?_
  rintro e w4 ⟨rfl, S2⟩
  clear S
  have S : Hid (StL w w4 x (T 0)) := hide (by rw [T0]; exact S2)
  clear S2
  go_wp2_with fail
  go_loopw [8] (fun c wr => ∃ j : Nat, j ≤ 7 ∧ c = .int .i64 j ∧ Hid (StL w wr x (T j))) (fun c _ => 7 - (intOf c).toNat)
  case atStart => exact ⟨0, Nat.zero_le _, rfl, S⟩
  case round =>
    obtain ⟨j, hj, rfl, R⟩ := hrel
    clear S
    by_cases hj7 : j = 7
    · subst hj7
      have S : Hid (StL w wr x l7) := hide (by rw [← unhide T7]; exact unhide R)
      clear R
      go_wp2_with fail
      refine (l_take_as S e2).mono ?_
      rintro e w5 ⟨rfl, S2⟩
      clear S
      have S := hide S2
      clear S2
      go_wp2_with fail
      refine (l_sweepOne S).mono ?_
      rw [e3, e3']
      rintro e w6 ⟨rfl, S2, _⟩
      clear S
      have S := hide S2
      clear S2
      go_wp2_with fail
      refine (l_used S).mono ?_
      rw [e4]
      rintro e w7 ⟨rfl, S2, _⟩
      clear S
      have S := hide S2
      clear S2
      go_wp2_with fail
      go_ret
      exact ⟨rfl, (unhide S).below⟩
    · have hjl : (j : Int) < 7 := by omega
      go_wp2_with fail
      refine (l_take R 64).mono ?_
      rintro e w5 ⟨rfl, S2, _⟩
      have RR : Hid (StL w w5 x (T (j + 1))) := hide (by rw [unhide TS]; exact S2)
      clear R S2
      go_wp2_with fail
      go_roundw
      case rel => exact ⟨j + 1, by omega, by go_num, RR⟩
      case measure => simp [intOf]; omega

theorem walk_AllocKnown (w : World) (ht : Tab w) : Calls Tryd.prog 3 #[] w fun e w' => e = .returned (.bool true) ∧ Below w.heap.size w w' :=
  known5_core w (hide ht) itT (al0 8) _ _ _ rfl rfl rfl (hide fun _ => rfl) (hide rfl) (hide rfl) (pair_of (by decide +kernel)) (by decide +kernel) rfl (by decide +kernel)

set_option maxRecDepth 100000 in
theorem lifted_AllocKnown (os : Os) (started : os.Started) (H : Type) (enc : TypeId × Value → H) :
    ReturnsInHanded {} Tryd.checked os 3 .any (fun w args => (Rows.allocKnownSpec.pre enc Tryd.prog Tryd.f3 [] false w args ∧ laidMetH Tryd.prog laidTab w) ∧ sizedMet enc Tryd.prog Tryd.f3 (OpenSpec.ofChange Rows.allocKnownSpec) false w args)
      (Rows.allocKnownSpec.post enc Tryd.prog Tryd.f3 false true false false) := by
  refine returnsInHanded_of_change_and (C := Tryd.checked) (X := fun w _ => laidMetH Tryd.prog laidTab w) (fun _ _ _ hh h => h.of_heap hh) own started (by kernel_rfl) Tryd.func3
    (ChangeSpec.witness_shaped (enc := enc) (C := Tryd.checked) (os := os) (X := fun w _ => laidMetH Tryd.prog laidTab w) false (World.doorLaid Tryd.prog 400 os) #[] 8 rfl (World.shaped_of_RefB (by kernel_rfl) (by kernel_rfl)) (by kernel_rfl) (by kernel_rfl) (by kernel_rfl) (door_met os _)) ?_
  intro W base args ds gs before hval0 hW _ _ hL _
  have hval : ∀ (j : Nat) t v, Tryd.f3.params[j]? = some t → args[j]? = some v → Value.okWide Tryd.prog W .any base t v := hval0
  have hW' := hW
  obtain ⟨p, q, hA0, hV, rfl, hfz, hnd⟩ := hW
  have hA : DataW.TrodAll enc Tryd.prog W 0 (fun _ => true) true Tryd.f3.params.toList args.toList ds p := hA0
  rw [Tryd.params3] at hA hval
  obtain ⟨rfl, rfl, rfl⟩ := trodAll_none hA
  obtain ⟨rfl, rfl⟩ := trodVars_none hV
  clear hA0 hval0
  refine (walk_AllocKnown W (tab_of_laid hL)).mono fun e W' ⟨he, hg⟩ => ?_
  subst he
  exact ⟨_, rfl, _, _, _, [], [], [], hW', trodAll_mk1 (shut_bool Tryd.underlying4 _), trodAll_mk0, rfl, hg.frame _, fun h => by cases h⟩

theorem row_AllocKnown : Rows.AllocKnownSaid :=
  OpenClaim.holds_of_wide 3 Tryd.f3 rfl rfl rfl rfl rfl rfl rfl ⟨rfl, rfl, rfl, rfl, rfl⟩ rfl rfl rfl rfl rfl (by kernel_rfl) Tryd.func3 (by kernel_rfl)
    (of_decide_eq_true (by kernel_rfl)) (by unfold Func.isWrapper; first | (rw [if_pos (by decide +kernel)]; kernel_rfl) | (rw [if_neg (by decide +kernel)]; exact ⟨rfl, rfl⟩))
    (fun os started H enc _ => lifted_AllocKnown os started H enc)

/-- THE STATEMENT. -/
theorem card_AllocKnown : Rows.AllocKnownCardSaid :=
  Claim7.holds_tied_plain_at .later [] [.data] true (true, "df9a269f688f74646f8c72add8e7c773f49d00f2df2c27a20a52acf29d990246") false
    row_AllocKnown (fun _ h => by cases h) (by kernel_rfl) (fun _ h => by cases h) allocKnown_row_tie rfl ⟨rfl, rfl⟩ (by kernel_rfl) rfl
    (fun f fn hf hfn => by
      obtain rfl : f = 3 := Option.some.inj ((show Tryd.prog.funcNamed "gantline/gantlinelaw5.AllocKnown" = some 3 by kernel_rfl).symm.trans hf) |>.symm
      obtain rfl : fn = Tryd.f3 := (Option.some.inj (Tryd.func3.symm.trans hfn)).symm
      exact ⟨by kernel_rfl, fun j t ht => by
        rw [Tryd.params3] at ht
        simp at ht⟩)
    (by kernel_rfl)
#print axioms card_AllocKnown
end Go.Proofs.YtbgmaifllndpfaaDoor
