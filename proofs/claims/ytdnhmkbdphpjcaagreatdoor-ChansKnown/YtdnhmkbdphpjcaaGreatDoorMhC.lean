/- Here, one behind the other: CzAwake, CzKnown, CzKnownLaw. -/
import Derived.Test.YtdnhmkbdphpjcaaGreatDoorMhB
import Derived.Test.YtdnhmkbdphpjcaaGreatDoorArenaBase
/- awake() of package gantlinelaw15 answers true. -/
namespace Go.Proofs.YtdnhmkbdphpjcaaGreatDoor
set_option maxRecDepth 100000
open Go.ChangeShapes Go.WideShapes Go.ChangeAt Go.RowKit Go.Maps Go.Deep

set_option maxHeartbeats 4000000 in
set_option maxRecDepth 100000 in
theorem awake15 (w : World) (ht : Tab w) : Calls Tryz.prog 8 #[] w fun e w' => e = .returned (.bool true) ∧ G w w' := by
  replace ht := hide ht
  go_enter Tryz.func8, Tryz.ntmps8
  go_wp2_with fail
  refine (shapes15 _).mono ?_
  rintro e w1 ⟨rfl, hw1⟩
  have CN := hide (new15 8 (by decide) (by decide) w w1 hw1 (unhide ht))
  have g1 : Hid (G w w1) := hide (by rw [hw1]; exact G.alloc _ _)
  clear hw1
  go_wp2_with fail
  refine (unhide CN).mono ?_
  rintro e w2 ⟨x, rfl, ao, cap, nv, c, S0⟩
  have S1 := hide (S0.gr (G.alloc w2 (.cells #[.slice none 0 0] 35)))
  have C1 := hide (s_make S1 1 (by decide))
  clear S0 CN
  go_wp2_with fail
  refine (unhide C1 _).mono ?_
  rintro e w3 ⟨rfl, S3, _⟩
  replace S3 := hide S3
  have C2 := hide (s_push S3 (by decide) 7 1)
  clear C1 S1
  go_wp2_with fail
  refine (unhide C2).mono ?_
  rintro e w4 ⟨rfl, S4, _⟩
  replace S4 := hide S4
  have C3 := hide (s_push_full S4 (Or.inr (by decide)) 8 1)
  clear C2 S3
  go_wp2_with fail
  refine (unhide C3).mono ?_
  rintro e w5 ⟨rfl, g5⟩
  have S5 := hide ((unhide S4).gr g5)
  have C4 := hide (s_count S5)
  clear C3 S4 g5
  go_wp2_with fail
  refine (unhide C4).mono ?_
  rintro e w6 ⟨rfl, g6⟩
  have S6 := hide ((unhide S5).gr g6)
  have C5 := hide (s_pop S6)
  clear C4 S5 g6
  go_wp2_with fail
  refine (unhide C5).mono ?_
  rintro e w7 ⟨rfl, S7, _⟩
  replace S7 := hide S7
  have C6 := hide (s_close S7)
  clear C5 S6
  go_wp2_with fail
  refine (unhide C6).mono ?_
  rintro e w8 ⟨rfl, S8, _⟩
  replace S8 := hide S8
  have C7 := hide (s_closed S8)
  clear C6 S7
  go_wp2_with fail
  refine (unhide C7).mono ?_
  rintro e w9 ⟨rfl, g9⟩
  have S9 := hide ((unhide S8).gr g9)
  have C8 := hide (s_close_shut S9)
  clear C7 S8 g9
  go_wp2_with fail
  refine (unhide C8).mono ?_
  rintro e w10 ⟨rfl, g10⟩
  have S10 := hide ((unhide S9).gr g10)
  have C9 := hide (s_room S10)
  clear C8 S9 g10
  go_wp2_with fail
  refine (unhide C9).mono ?_
  rintro e w11 ⟨rfl, g11⟩
  have S11 := hide ((unhide S10).gr g11)
  have C10 := hide (s_is S11 false)
  clear C9 S10 g11
  go_wp2_with fail
  refine (unhide C10).mono ?_
  rintro e w12 ⟨rfl, g12⟩
  have S12 := hide ((unhide S11).gr g12)
  have C11 := hide (s_is S12 true)
  clear C10 S11 g12
  go_wp2_with fail
  refine (unhide C11).mono ?_
  rintro e w13 ⟨rfl, g13⟩
  have FIN := hide (Below.trans (unhide g1) (((unhide S12).gr g13).below.mono (unhide g1).size))
  clear C11 S12 g13
  go_wp2_with fail
  go_ret
  exact ⟨rfl, unhide FIN⟩
end Go.Proofs.YtdnhmkbdphpjcaaGreatDoor

/- ChansKnown of package gantlinelaw15 answers true. -/
namespace Go.Proofs.YtdnhmkbdphpjcaaGreatDoor
set_option maxRecDepth 100000
open Go.ChangeShapes Go.WideShapes Go.ChangeAt Go.RowKit Go.Maps Go.Deep

theorem of0 (N : Nat) (a : Int) (_h : a = 0 ∨ a = 64) (_h8 : 8 ≤ N) : ofP (al0 N) ls5 a = none := by
  have hi : (al0 N).a.inW a 0 = false := by
    have : (al0 N).a.clsI (gs a) = -1 := by
      show (ab0 N).clsI (gs a) = -1
      unfold Ab.clsI
      split <;> rfl
    unfold Ab.inW Ab.is
    rw [this]
    rfl
  unfold ofP Ab.readE
  rw [hi]
  rfl
section
variable {W w : World} {x : Hx} {n : Nat} {ao : Option Addr} {cap : Nat} {nv : Value} {c : Nat → Nat}
abbrev HS8 (W : World) (x : Hx) (ao : Option Addr) (cap : Nat) (nv : Value) (c : Nat → Nat) (w : World) : Prop := HS W w x (al0 8) ls5 3 ao cap nv c
theorem n_pop (h : Hid (HS8 W x ao cap nv c w)) : Calls Tryz.prog 12 #[.pointer (some ⟨x.hb, 0, none⟩), .int .i64 0] w fun e w' => e = .returned (.tuple #[.int .i64 0, .bool false]) ∧ HS8 W x ao cap nv c w' :=
  (c_pop_no (hide (hv_hs W x ls5 3 ao cap nv c ls5_m)) (g := ()) h (of0 8 0 (Or.inl rfl) (by decide))).mono fun _ _ hh => ⟨hh.1, (unhide h).gr hh.2⟩
theorem n_push (h : Hid (HS8 W x ao cap nv c w)) : Calls Tryz.prog 13 #[.pointer (some ⟨x.hb, 0, none⟩), .int .i64 0, .int .i64 1, .int .i64 1] w fun e w' => e = .returned (.bool false) ∧ HS8 W x ao cap nv c w' :=
  (c_push_no (hide (hv_hs W x ls5 3 ao cap nv c ls5_m)) (g := ()) h (of0 8 0 (Or.inl rfl) (by decide)) 1 1).mono fun _ _ hh => ⟨hh.1, (unhide h).gr hh.2⟩
theorem n_close (h : Hid (HS8 W x ao cap nv c w)) : Calls Tryz.prog 14 #[.pointer (some ⟨x.hb, 0, none⟩), .int .i64 0] w fun e w' => e = .returned (.bool false) ∧ HS8 W x ao cap nv c w' :=
  (c_close_no (hide (hv_hs W x ls5 3 ao cap nv c ls5_m)) (g := ()) h (of0 8 0 (Or.inl rfl) (by decide))).mono fun _ _ hh => ⟨hh.1, (unhide h).gr hh.2⟩
theorem n_closed (h : Hid (HS8 W x ao cap nv c w)) : Calls Tryz.prog 15 #[.pointer (some ⟨x.hb, 0, none⟩), .int .i64 0] w fun e w' => e = .returned (.bool true) ∧ HS8 W x ao cap nv c w' :=
  (c_shut_no (hide (hv_hs W x ls5 3 ao cap nv c ls5_m)) (g := ()) h (of0 8 0 (Or.inl rfl) (by decide))).mono fun _ _ hh => ⟨hh.1, (unhide h).gr hh.2⟩
theorem n_room (h : Hid (HS8 W x ao cap nv c w)) : Calls Tryz.prog 16 #[.pointer (some ⟨x.hb, 0, none⟩), .int .i64 0] w fun e w' => e = .returned (.int .i64 0) ∧ HS8 W x ao cap nv c w' :=
  (c_room_no (hide (hv_hs W x ls5 3 ao cap nv c ls5_m)) (g := ()) h (of0 8 0 (Or.inl rfl) (by decide))).mono fun _ _ hh => ⟨hh.1, (unhide h).gr hh.2⟩
theorem n_count (h : Hid (HS8 W x ao cap nv c w)) : Calls Tryz.prog 17 #[.pointer (some ⟨x.hb, 0, none⟩), .int .i64 64] w fun e w' => e = .returned (.int .i64 0) ∧ HS8 W x ao cap nv c w' :=
  (c_count_no (hide (hv_hs W x ls5 3 ao cap nv c ls5_m)) (g := ()) h (of0 8 64 (Or.inr rfl) (by decide))).mono fun _ _ hh => ⟨hh.1, (unhide h).gr hh.2⟩
theorem n_is (h : Hid (HS8 W x ao cap nv c w)) : Calls Tryz.prog 18 #[.pointer (some ⟨x.hb, 0, none⟩), .int .i64 0, .bool false] w fun e w' => e = .returned (.bool false) ∧ HS8 W x ao cap nv c w' :=
  (c_is_no (hide (hv_hs W x ls5 3 ao cap nv c ls5_m)) (g := ()) h (of0 8 0 (Or.inl rfl) (by decide)) false).mono fun _ _ hh => ⟨hh.1, (unhide h).gr hh.2⟩
end
set_option maxHeartbeats 4000000 in
set_option maxRecDepth 100000 in
theorem known15 (w : World) (ht : Tab w) (CA : Hid (Calls Tryz.prog 8 #[] w fun e w' => e = .returned (.bool true) ∧ G w w')) : Calls Tryz.prog 3 #[] w fun e w' => e = .returned (.bool true) ∧ G w w' := by
  replace ht := hide ht
  go_enter Tryz.func3, Tryz.ntmps3
  go_wp2_with fail
  refine (unhide CA).mono ?_
  rintro e w0 ⟨rfl, g0⟩
  replace g0 := hide g0
  clear CA
  go_wp2_with fail
  refine (shapes15 _).mono ?_
  rintro e w1 ⟨rfl, hw1⟩
  have CN := hide (new15 8 (by decide) (by decide) w0 w1 hw1 (Tab.later (unhide ht) (unhide g0)))
  have g1 : Hid (G w w1) := hide ((unhide g0).trans (by rw [hw1]; exact G.alloc _ _))
  clear hw1 g0 ht
  go_wp2_with fail
  refine (unhide CN).mono ?_
  rintro e w2 ⟨x, rfl, ao, cap, nv, c, S0⟩
  have S1 : Hid (HS8 w1 x ao cap nv c _) := hide (S0.gr (G.alloc w2 (.cells #[.slice none 0 0] 35)))
  clear S0 CN
  go_wp2_with fail
  refine (c_make_size _ _ _ _ _ (Or.inl (by decide))).mono ?_
  rintro e w3 ⟨rfl, hw⟩
  rw [← hw] at S1
  clear hw
  have S2 : Hid (HS8 w1 x ao cap nv c _) := hide ((unhide S1).gr (G.alloc w3 (.cells #[.slice none 0 0] 35)))
  clear S1
  go_wp2_with fail
  refine (c_make_size _ _ _ _ _ (Or.inr (by decide))).mono ?_
  rintro e w4 ⟨rfl, hw⟩
  rw [← hw] at S2
  clear hw
  have S3 : Hid (HS8 w1 x ao cap nv c _) := hide ((unhide S2).gr (G.alloc w4 (.cells #[.slice none 0 0] 35)))
  have C := hide (c_make_bad S3 9 1 (Or.inr (by decide)) (by decide) (by decide))
  clear S2
  go_wp2_with fail
  refine (unhide C _).mono ?_
  rintro e w5 ⟨rfl, hw⟩
  rw [← hw] at S3
  clear hw C
  have C := hide (n_pop S3)
  go_wp2_with fail
  refine (unhide C).mono ?_
  rintro e w6 ⟨rfl, S6⟩
  replace S6 := hide S6
  clear C S3
  have C := hide (n_push S6)
  go_wp2_with fail
  refine (unhide C).mono ?_
  rintro e w7 ⟨rfl, S7⟩
  replace S7 := hide S7
  clear C S6
  have C := hide (n_close S7)
  go_wp2_with fail
  refine (unhide C).mono ?_
  rintro e w8 ⟨rfl, S8⟩
  replace S8 := hide S8
  clear C S7
  have C := hide (n_closed S8)
  go_wp2_with fail
  refine (unhide C).mono ?_
  rintro e w9 ⟨rfl, S9⟩
  replace S9 := hide S9
  clear C S8
  have C := hide (n_room S9)
  go_wp2_with fail
  refine (unhide C).mono ?_
  rintro e w10 ⟨rfl, S10⟩
  replace S10 := hide S10
  clear C S9
  have C := hide (n_count S10)
  go_wp2_with fail
  refine (unhide C).mono ?_
  rintro e w11 ⟨rfl, S11⟩
  replace S11 := hide S11
  clear C S10
  have C := hide (n_is S11)
  go_wp2_with fail
  refine (unhide C).mono ?_
  rintro e w12 ⟨rfl, S12⟩
  have FIN : Hid (G w w12) := hide (Below.trans (unhide g1) (S12.ks.st.below.mono (unhide g1).size))
  clear C S11 S12
  go_wp2_with fail
  go_ret
  exact ⟨rfl, unhide FIN⟩
end Go.Proofs.YtdnhmkbdphpjcaaGreatDoor

/- ChansKnown of package gantlinelaw15: the law answers true; nothing that was there is turned. -/
namespace Go.Proofs.YtdnhmkbdphpjcaaGreatDoor
set_option maxRecDepth 100000
open Go.ChangeShapes Go.WideShapes Go.ChangeAt Go.RowKit Go.Maps

theorem walk_ChansKnown (w : World) (ht : Tab w) : Calls Tryz.prog 3 #[] w fun e w' => e = .returned (.bool true) ∧ Below w.heap.size w w' :=
  known15 w ht (hide (awake15 w ht))


set_option maxRecDepth 100000 in
theorem lifted_ChansKnown (os : Os) (started : os.Started) (H : Type) (enc : TypeId × Value → H) :
    ReturnsInHanded {} Tryz.checked os 3 .any (fun w args => (Rows.chansKnownSpec.pre enc Tryz.prog Tryz.f3 [] false w args ∧ laidMetH Tryz.prog laidTab w) ∧ sizedMet enc Tryz.prog Tryz.f3 (OpenSpec.ofChange Rows.chansKnownSpec) false w args)
      (Rows.chansKnownSpec.post enc Tryz.prog Tryz.f3 false true false false) := by
  refine returnsInHanded_of_change_and (C := Tryz.checked) (X := fun w _ => laidMetH Tryz.prog laidTab w) (fun _ _ _ hh h => h.of_heap hh) own started (by kernel_rfl) Tryz.func3
    (ChangeSpec.witness_shaped (enc := enc) (C := Tryz.checked) (os := os) (X := fun w _ => laidMetH Tryz.prog laidTab w) false (World.doorLaid Tryz.prog 400 os) #[] 8 rfl (World.shaped_of_RefB (by kernel_rfl) (by kernel_rfl)) (by kernel_rfl) (by kernel_rfl) (by kernel_rfl) (door_met os _)) ?_
  intro W base args ds gs before hval0 hW _ _ hL _
  have hval : ∀ (j : Nat) t v, Tryz.f3.params[j]? = some t → args[j]? = some v → Value.okWide Tryz.prog W .any base t v := hval0
  have hW' := hW
  obtain ⟨p, q, hA0, hV, rfl, hfz, hnd⟩ := hW
  have hA : DataW.TrodAll enc Tryz.prog W 0 (fun _ => true) true Tryz.f3.params.toList args.toList ds p := hA0
  rw [Tryz.params3] at hA hval
  obtain ⟨rfl, rfl, rfl⟩ := trodAll_none hA
  obtain ⟨rfl, rfl⟩ := trodVars_none hV
  clear hA0 hval0
  refine (walk_ChansKnown W (tab_of_laid hL)).mono fun e W' ⟨he, hg⟩ => ?_
  subst he
  exact ⟨_, rfl, _, _, _, [], [], [], hW', trodAll_mk1 (shut_bool Tryz.underlying4 _), trodAll_mk0, rfl, hg.frame _, fun h => by cases h⟩

theorem row_ChansKnown : Rows.ChansKnownSaid :=
  OpenClaim.holds_of_wide 3 Tryz.f3 rfl rfl rfl rfl rfl rfl rfl ⟨rfl, rfl, rfl, rfl, rfl⟩ rfl rfl rfl rfl rfl (by kernel_rfl) Tryz.func3 (by kernel_rfl)
    (of_decide_eq_true (by kernel_rfl)) (by unfold Func.isWrapper; first | (rw [if_pos (by decide +kernel)]; kernel_rfl) | (rw [if_neg (by decide +kernel)]; exact ⟨rfl, rfl⟩))
    (fun os started H enc _ => lifted_ChansKnown os started H enc)

/-- THE STATEMENT. -/
theorem card_ChansKnown : Rows.ChansKnownCardSaid :=
  Claim7.holds_tied_plain_at .later [] [.data] true (true, "368da1e00eac6e8e0aa7ff665da126c835f5eab69b056edefd9d7854840e21d8") false
    row_ChansKnown (fun _ h => by cases h) (by kernel_rfl) (fun _ h => by cases h) chansKnown_row_tie rfl ⟨rfl, rfl⟩ (by kernel_rfl) rfl
    (fun f fn hf hfn => by
      obtain rfl : f = 3 := Option.some.inj ((show Tryz.prog.funcNamed "gantline/gantlinelaw15.ChansKnown" = some 3 by kernel_rfl).symm.trans hf) |>.symm
      obtain rfl : fn = Tryz.f3 := (Option.some.inj (Tryz.func3.symm.trans hfn)).symm
      exact ⟨by kernel_rfl, fun j t ht => by
        rw [Tryz.params3] at ht
        simp at ht⟩)
    (by kernel_rfl)
#print axioms card_ChansKnown
end Go.Proofs.YtdnhmkbdphpjcaaGreatDoor
