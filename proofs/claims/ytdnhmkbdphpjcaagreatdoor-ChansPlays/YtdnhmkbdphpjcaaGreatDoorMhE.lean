/- Here, one behind the other: CzAwake, CpLaw. -/
import Derived.Test.YtdnhmkbdphpjcaaGreatDoorMhX
import Derived.Test.YtdnhmkbdphpjcaaGreatDoorMhP
import Derived.Test.YtdnhmkbdphpjcaaGreatDoorArenaBase
/- awake() of package gantlinelaw15 answers true. -/
namespace Go.Proofs.YtdnhmkbdphpjcaaGreatDoor
set_option maxRecDepth 100000
open Go.ChangeShapes Go.WideShapes Go.ChangeAt Go.RowKit Go.Maps Go.Deep

set_option maxHeartbeats 4000000 in
set_option maxRecDepth 100000 in
theorem awake15 (w : World) (ht : Tab w) : Calls Tryz.prog 8 #[] w fun e w' => e = .returned (.bool true) ∧ G w w' := by
  replace ht := hide ht
  go_enter Tryz.func8, Tryz.ntmps8
  go_wp2_with fail
  refine (shapes15 _).mono ?_
  rintro e w1 ⟨rfl, hw1⟩
  have CN := hide (new15 8 (by decide) (by decide) w w1 hw1 (unhide ht))
  have g1 : Hid (G w w1) := hide (by rw [hw1]; exact G.alloc _ _)
  clear hw1
  go_wp2_with fail
  refine (unhide CN).mono ?_
  rintro e w2 ⟨x, rfl, ao, cap, nv, c, S0⟩
  have S1 := hide (S0.gr (G.alloc w2 (.cells #[.slice none 0 0] 35)))
  have C1 := hide (s_make S1 1 (by decide))
  clear S0 CN
  go_wp2_with fail
  refine (unhide C1 _).mono ?_
  rintro e w3 ⟨rfl, S3, _⟩
  replace S3 := hide S3
  have C2 := hide (s_push S3 (by decide) 7 1)
  clear C1 S1
  go_wp2_with fail
  refine (unhide C2).mono ?_
  rintro e w4 ⟨rfl, S4, _⟩
  replace S4 := hide S4
  have C3 := hide (s_push_full S4 (Or.inr (by decide)) 8 1)
  clear C2 S3
  go_wp2_with fail
  refine (unhide C3).mono ?_
  rintro e w5 ⟨rfl, g5⟩
  have S5 := hide ((unhide S4).gr g5)
  have C4 := hide (s_count S5)
  clear C3 S4 g5
  go_wp2_with fail
  refine (unhide C4).mono ?_
  rintro e w6 ⟨rfl, g6⟩
  have S6 := hide ((unhide S5).gr g6)
  have C5 := hide (s_pop S6)
  clear C4 S5 g6
  go_wp2_with fail
  refine (unhide C5).mono ?_
  rintro e w7 ⟨rfl, S7, _⟩
  replace S7 := hide S7
  have C6 := hide (s_close S7)
  clear C5 S6
  go_wp2_with fail
  refine (unhide C6).mono ?_
  rintro e w8 ⟨rfl, S8, _⟩
  replace S8 := hide S8
  have C7 := hide (s_closed S8)
  clear C6 S7
  go_wp2_with fail
  refine (unhide C7).mono ?_
  rintro e w9 ⟨rfl, g9⟩
  have S9 := hide ((unhide S8).gr g9)
  have C8 := hide (s_close_shut S9)
  clear C7 S8 g9
  go_wp2_with fail
  refine (unhide C8).mono ?_
  rintro e w10 ⟨rfl, g10⟩
  have S10 := hide ((unhide S9).gr g10)
  have C9 := hide (s_room S10)
  clear C8 S9 g10
  go_wp2_with fail
  refine (unhide C9).mono ?_
  rintro e w11 ⟨rfl, g11⟩
  have S11 := hide ((unhide S10).gr g11)
  have C10 := hide (s_is S11 false)
  clear C9 S10 g11
  go_wp2_with fail
  refine (unhide C10).mono ?_
  rintro e w12 ⟨rfl, g12⟩
  have S12 := hide ((unhide S11).gr g12)
  have C11 := hide (s_is S12 true)
  clear C10 S11 g12
  go_wp2_with fail
  refine (unhide C11).mono ?_
  rintro e w13 ⟨rfl, g13⟩
  have FIN := hide (Below.trans (unhide g1) (((unhide S12).gr g13).below.mono (unhide g1).size))
  clear C11 S12 g13
  go_wp2_with fail
  go_ret
  exact ⟨rfl, unhide FIN⟩
end Go.Proofs.YtdnhmkbdphpjcaaGreatDoor

/- ChansPlays of package gantlinelaw15: for every row of rooms and every list of calls the law answers true; nothing that was there is turned. -/
namespace Go.Proofs.YtdnhmkbdphpjcaaGreatDoor
set_option maxRecDepth 100000
open Go.ChangeShapes Go.WideShapes Go.ChangeAt Go.RowKit Go.Maps Go.Deep

set_option maxHeartbeats 1000000 in
set_option maxRecDepth 100000 in
theorem plays15_none (w : World) (a0 : Option Addr) (c0 : Nat) (v1 : Value) (CA : Hid (Calls Tryz.prog 8 #[] w fun e w' => e = .returned (.bool true) ∧ G w w')) :
    Calls Tryz.prog 4 #[.slice a0 0 c0, v1] w fun e w' => e = .returned (.bool true) ∧ G w w' := by
  go_enter Tryz.func4, Tryz.ntmps4
  go_wp2_with fail
  refine (unhide CA).mono ?_
  rintro e w0 ⟨rfl, g0⟩
  replace g0 := hide g0
  clear CA
  go_wp2_with fail
  go_ret
  exact ⟨rfl, unhide g0⟩
set_option maxHeartbeats 1000000 in
set_option maxRecDepth 100000 in
theorem plays15_more (w : World) (a0 : Option Addr) (N c0 : Nat) (hN : 8 < N) (v1 : Value) (CA : Hid (Calls Tryz.prog 8 #[] w fun e w' => e = .returned (.bool true) ∧ G w w')) :
    Calls Tryz.prog 4 #[.slice a0 N c0, v1] w fun e w' => e = .returned (.bool true) ∧ G w w' := by
  have d8 : decide ((8 : Int) < (N : Int)) = true := by simp; omega
  have d8' : decide (8 < N) = true := by simp; omega
  replace hN := hide hN
  go_enter Tryz.func4, Tryz.ntmps4
  go_wp2_with fail
  refine (unhide CA).mono ?_
  rintro e w0 ⟨rfl, g0⟩
  replace g0 := hide g0
  clear CA
  go_wp2_with fail
  go_ret
  exact ⟨rfl, unhide g0⟩
set_option maxHeartbeats 1000000 in
set_option maxRecDepth 100000 in
theorem plays15_long (w : World) (a0 a1 : Option Addr) (N c0 M c1 : Nat) (hN1 : 1 ≤ N) (hN8 : N ≤ 8) (hM : 150 < M) (CA : Hid (Calls Tryz.prog 8 #[] w fun e w' => e = .returned (.bool true) ∧ G w w')) :
    Calls Tryz.prog 4 #[.slice a0 N c0, .slice a1 M c1] w fun e w' => e = .returned (.bool true) ∧ G w w' := by
  have d8 : decide ((8 : Int) < (N : Int)) = false := by simp; omega
  have d8' : decide (8 < N) = false := by simp; omega
  have d0 : ((N : Int) == 0) = false := by simp; omega
  have d0' : (N == 0) = false := by simp; omega
  have d15 : decide ((150 : Int) < (M : Int)) = true := by simp; omega
  have d15' : decide (150 < M) = true := by simp; omega
  replace hN1 := hide hN1
  replace hN8 := hide hN8
  replace hM := hide hM
  go_enter Tryz.func4, Tryz.ntmps4
  go_wp2_with fail
  refine (unhide CA).mono ?_
  rintro e w0 ⟨rfl, g0⟩
  replace g0 := hide g0
  clear CA
  go_wp2_with fail
  go_ret
  exact ⟨rfl, unhide g0⟩

theorem walk_ChansPlays (a0 : Option Addr) (n0 c0 : Nat) (l0 : List Int) (a1 : Option Addr) (n1 c1 : Nat) (l1 : List Ac) (w : World) (hR : IsR w a0 n0 l0) (hA : IsActs w a1 n1 l1) (ht : Tab w) : Calls Tryz.prog 4 #[.slice a0 n0 c0, .slice a1 n1 c1] w fun e w' => e = .returned (.bool true) ∧ Below w.heap.size w w' := by
  by_cases h0 : n0 = 0
  · subst h0
    exact plays15_none w a0 c0 _ (hide (awake15 w ht))
  by_cases h8 : 8 < n0
  · exact plays15_more w a0 n0 c0 h8 _ (hide (awake15 w ht))
  by_cases h15 : 150 < n1
  · exact plays15_long w a0 a1 n0 c0 n1 c1 (by omega) (by omega) h15 (hide (awake15 w ht))
  obtain ⟨hl, _, hr⟩ := hR
  rcases hr with hr | ⟨b, off, rfl, _, hr⟩
  · exact absurd hr h0
  exact plays15 w ht b off n0 c0 l0 hl (by omega) (by omega) hr a1 n1 c1 l1 hA (by omega) (hide (awake15 w ht))


set_option maxRecDepth 100000 in
theorem lifted_ChansPlays (os : Os) (started : os.Started) (H : Type) (enc : TypeId × Value → H) :
    ReturnsInHanded {} Tryz.checked os 4 .any (fun w args => (Rows.chansPlaysSpec.pre enc Tryz.prog Tryz.f4 [] false w args ∧ laidMetH Tryz.prog laidTab w) ∧ sizedMet enc Tryz.prog Tryz.f4 (OpenSpec.ofChange Rows.chansPlaysSpec) false w args)
      (Rows.chansPlaysSpec.post enc Tryz.prog Tryz.f4 false true false false) := by
  refine returnsInHanded_of_change_and (C := Tryz.checked) (X := fun w _ => laidMetH Tryz.prog laidTab w) (fun _ _ _ hh h => h.of_heap hh) own started (by kernel_rfl) Tryz.func4
    (ChangeSpec.witness_shaped (enc := enc) (C := Tryz.checked) (os := os) (X := fun w _ => laidMetH Tryz.prog laidTab w) false (World.doorLaid Tryz.prog 400 os) #[.slice none 0 0, .slice none 0 0] 8 rfl (World.shaped_of_RefB (by kernel_rfl) (by kernel_rfl)) (by kernel_rfl) (by kernel_rfl) (by kernel_rfl) (door_met os _)) ?_
  intro W base args ds gs before hval0 hW _ _ hL _
  have hval : ∀ (j : Nat) t v, Tryz.f4.params[j]? = some t → args[j]? = some v → Value.okWide Tryz.prog W .any base t v := hval0
  have hW' := hW
  obtain ⟨p, q, hA0, hV, rfl, hfz, hnd⟩ := hW
  have hA : DataW.TrodAll enc Tryz.prog W 0 (fun _ => true) true Tryz.f4.params.toList args.toList ds p := hA0
  rw [Tryz.params4] at hA hval
  obtain ⟨v0, vs0, d0, ds0, p0, q0, hargs, rfl, rfl, h0, r0⟩ := trodAll_cons hA
  obtain ⟨v1, vs1, d1, ds1, p1, q1, rfl, rfl, rfl, h1, r1⟩ := trodAll_cons r0
  obtain ⟨rfl, rfl, rfl⟩ := trodAll_nil r1
  obtain rfl : args = #[v0, v1] := by cases args; simp_all
  obtain ⟨rfl, rfl⟩ := trodVars_none hV
  have k0 := h0
  have lt0 : ∀ x ∈ p0, x.block < W.heap.size := by obtain ⟨m, hm⟩ := k0; exact DataW.trod_lt m _ _ _ hm
  obtain ⟨a0, n0, c0, l0, rfl, w0⟩ := open_i64r (hval 0 33 v0 rfl rfl) h0
  have k1 := h1
  have lt1 : ∀ x ∈ p1, x.block < W.heap.size := by obtain ⟨m, hm⟩ := k1; exact DataW.trod_lt m _ _ _ hm
  obtain ⟨a1, n1, c1, l1, rfl, w1⟩ := open_acts (hval 1 42 v1 rfl rfl) h1
  clear hA0 hval0
  refine (walk_ChansPlays a0 n0 c0 l0 a1 n1 c1 l1 W w0 w1 (tab_of_laid hL)).mono fun e W' ⟨he, hg⟩ => ?_
  subst he
  exact ⟨_, rfl, _, _, _, [], _, [], hW', trodAll_mk1 (shut_bool Tryz.underlying4 _), (trodAll_cons_mk (Below.trod laidOut (by kernel_rfl) (of_decide_eq_true (by kernel_rfl)) k0 hg lt0) (trodAll_cons_mk (Below.trod laidOut (by kernel_rfl) (of_decide_eq_true (by kernel_rfl)) k1 hg lt1) trodAll_mk0)), rfl, hg.frame _, fun h => by cases h⟩

theorem row_ChansPlays : Rows.ChansPlaysSaid :=
  OpenClaim.holds_of_wide 4 Tryz.f4 rfl rfl rfl rfl rfl rfl rfl ⟨rfl, rfl, rfl, rfl, rfl⟩ rfl rfl rfl rfl rfl (by kernel_rfl) Tryz.func4 (by kernel_rfl)
    (of_decide_eq_true (by kernel_rfl)) (by unfold Func.isWrapper; first | (rw [if_pos (by decide +kernel)]; kernel_rfl) | (rw [if_neg (by decide +kernel)]; exact ⟨rfl, rfl⟩))
    (fun os started H enc _ => lifted_ChansPlays os started H enc)

/-- THE STATEMENT. -/
theorem card_ChansPlays : Rows.ChansPlaysCardSaid :=
  Claim7.holds_tied_plain_at .later [] [.data] true (true, "368da1e00eac6e8e0aa7ff665da126c835f5eab69b056edefd9d7854840e21d8") false
    row_ChansPlays (fun _ h => by cases h) (by kernel_rfl) (fun _ h => by cases h) chansPlays_row_tie rfl ⟨rfl, rfl⟩ (by kernel_rfl) rfl
    (fun f fn hf hfn => by
      obtain rfl : f = 4 := Option.some.inj ((show Tryz.prog.funcNamed "gantline/gantlinelaw15.ChansPlays" = some 4 by kernel_rfl).symm.trans hf) |>.symm
      obtain rfl : fn = Tryz.f4 := (Option.some.inj (Tryz.func4.symm.trans hfn)).symm
      exact ⟨by kernel_rfl, fun j t ht => by
        rw [Tryz.params4] at ht
        have hm : t ∈ [33, 42] := by simpa using Array.mem_of_getElem? ht
        have hall : ([33, 42].all fun u => !Tryz.prog.wantsStandIn u) = true := by kernel_rfl
        exact (show Tryz.prog.wantsStandIn t = false by simpa using List.all_eq_true.1 hall t hm)⟩)
    (by kernel_rfl)
#print axioms card_ChansPlays
end Go.Proofs.YtdnhmkbdphpjcaaGreatDoor
