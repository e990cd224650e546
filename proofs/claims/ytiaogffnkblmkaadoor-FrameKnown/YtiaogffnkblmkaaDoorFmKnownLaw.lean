/- FrameKnown: what chapter 13 says of its bounds. No condition. -/
import Derived.Test.YtiaogffnkblmkaaDoorFmAwake2
import Derived.Test.YtiaogffnkblmkaaDoorCodeOpen
namespace Go.Proofs.YtiaogffnkblmkaaDoor
open Go.RowKit Go.Maps Go.ChangeShapes Go.WideShapes Go.ChangeAt Go.Deep

theorem a_newbad {w : World} {fb : Nat} (hm : ModAt w (agTwo fb) twoM) (k : Int) (hb : refP twoM k 0) :
    Calls Tryd.prog 8 #[agTwo fb, .int .i64 k, .slice none 0 0] w fun e w' => e = .returned (.tuple #[.pointer none, .int .i64 1]) ∧ G w w' :=
  new_bad hm k none 0 0 (by decide) hb (fun f hf => by
    unfold fmAt at hf
    split at hf
    · cases hf
    · have := List.mem_of_getElem? hf
      simp [twoM] at this
      subst this
      exact two_op)
theorem ref1 : refP twoM 1 0 := fun f hf => by cases hf
theorem ref0 : refP twoM 0 0 := fun f hf => by
  have : f = twoF := (Option.some.inj (two_at0.symm.trans hf)).symm
  subst this
  decide
/-- So many calls of two. -/
def KnI (W wr : World) (B s k : Nat) : Prop := ∃ v L, AwS W wr B s v L [] ∧ L.length = k + 1 ∧ ∀ f ∈ L, f.sl.length = 2
theorem kn_get {W wr : World} {B s : Nat} (h : KnI W wr B s 255) (j : Int) (hj : j < 0 ∨ 2 ≤ j) : Calls Tryd.prog 12 #[.pointer (some ⟨s, 0, none⟩), .int .i64 j] wr fun e w' => e = .returned (.int .i64 0) ∧ KnI W w' B s 255 := by
  obtain ⟨v, L, h1, h2, h3⟩ := h
  refine (a_get h1 (by omega) j 0 ?_).mono ?_
  · unfold getP
    cases hq : L.getLast? with
    | none => rfl
    | some f =>
      simp only
      split
      · rfl
      · rw [List.getElem?_eq_none (by have := h3 f (List.mem_of_getLast? hq); omega)]
        rfl
  · rintro e w' ⟨rfl, h⟩
    exact ⟨rfl, v, L, h, h2, h3⟩
set_option maxHeartbeats 4000000 in
theorem walk_FrameKnown (W : World) (hL : laidMetH Tryd.prog laid9 W) : Calls Tryd.prog 3 #[] W fun e w' => e = .returned (.bool true) ∧ G W w' := by
  have AW := hide (awake13 W (rows_of_laid hL))
  have TW := hide two_g
  have CB : Hid (∀ wr B s k fb, k < 255 → KnI W wr B s k → ModAt wr (agTwo fb) twoM → ∀ ab, ab = wr.heap.size → Calls Tryd.prog 10 #[.pointer (some ⟨s, 0, none⟩), agTwo fb, .int .i64 0, .slice (some ⟨ab, 0, none⟩) 1 1] (wr.alloc (.cells #[.int .i64 1] 2)) fun e w' => e = .returned (.int .i64 0) ∧ Hid (KnI W w' B s (k + 1))) := hide fun wr B s k fb hk h hm ab hab => by
    obtain ⟨v, L, h1, h2, h3⟩ := h
    refine (a_call h1 (by omega) hm 1 ab hab).mono ?_
    rintro e w' ⟨rfl, v', sb, h4⟩
    refine ⟨rfl, hide ⟨v', _, h4, by simp [h2], fun f hf => ?_⟩⟩
    rcases List.mem_append.1 hf with hf | hf
    · exact h3 f hf
    · simp at hf
      subst hf
      rfl
  have CE : Hid (∀ wr B s fb, KnI W wr B s 255 → ModAt wr (agTwo fb) twoM → ∀ ab, Calls Tryd.prog 10 #[.pointer (some ⟨s, 0, none⟩), agTwo fb, .int .i64 0, .slice (some ⟨ab, 0, none⟩) 1 1] (wr.alloc (.cells #[.int .i64 1] 2)) fun e w' => e = .returned (.int .i64 2) ∧ KnI W w' B s 255) := hide fun wr B s fb h hm ab => by
    obtain ⟨v, L, h1, h2, h3⟩ := h
    refine (a_callfull h1 (by omega) hm 1 ab).mono ?_
    rintro e w' ⟨rfl, h4⟩
    exact ⟨rfl, v, L, h4, h2, h3⟩
  have KG : Hid (∀ wr w' B s k, KnI W wr B s k → G wr w' → KnI W w' B s k) := hide fun wr w' B s k ⟨v, L, h1, h2, h3⟩ g => ⟨v, L, h1.gr g, h2, h3⟩
  have CD : Hid (∀ wr B s, KnI W wr B s 255 → Calls Tryd.prog 11 #[.pointer (some ⟨s, 0, none⟩)] wr fun e w' => e = .returned (.int .i64 256) ∧ KnI W w' B s 255) := hide fun wr B s ⟨v, L, h1, h2, h3⟩ => (a_depth h1 256 (by omega)).mono (by
    rintro e w' ⟨rfl, h⟩
    exact ⟨rfl, v, L, h, h2, h3⟩)
  clear hL
  go_enter Tryd.func3, Tryd.ntmps3
  go_wp2_with fail
  refine (unhide AW).mono ?_
  rintro e w1 ⟨rfl, g1⟩
  have G1 := hide g1
  clear g1 AW
  go_wp2_with fail
  refine (unhide TW _).mono ?_
  rintro e w2 ⟨fb2, rfl, m2, g2⟩
  have G2 := hide ((unhide G1).trans g2)
  replace m2 := hide m2
  clear g2 G1
  unfold agTwo
  go_wp2_with fail
  refine (a_newbad (unhide m2) 1 ref1).mono ?_
  rintro e w3 ⟨rfl, g3⟩
  have G3 := hide ((unhide G2).trans g3)
  clear g3 G2 m2
  go_wp2_with fail
  refine (unhide TW _).mono ?_
  rintro e w4 ⟨fb4, rfl, m4, g4⟩
  have G4 := hide ((unhide G3).trans g4)
  replace m4 := hide m4
  clear g4 G3
  unfold agTwo
  go_wp2_with fail
  refine (a_newbad (unhide m4) 0 ref0).mono ?_
  rintro e w5 ⟨rfl, g5⟩
  have G5 := hide ((unhide G4).trans g5)
  clear g5 G4 m4
  go_wp2_with fail
  refine (unhide TW _).mono ?_
  rintro e w6 ⟨fb6, rfl, m6, g6⟩
  have G6 := hide ((unhide G5).trans g6)
  replace m6 := hide m6
  clear g6 G5
  unfold agTwo
  go_wp2_with fail
  refine (a_new (unhide G6) (unhide m6) 1 _ rfl).mono ?_
  rintro e w7 ⟨s, v7, sb, rfl, X7, _⟩
  have K7 : Hid (KnI W w7 (w6.heap.size + 1) s 0) := hide ⟨v7, _, X7, rfl, fun f hf => by simp at hf; subst hf; rfl⟩
  obtain ⟨B, hB⟩ : ∃ B, B = w6.heap.size + 1 := ⟨_, rfl⟩
  rw [← hB] at K7
  clear X7 m6 G6 hB
  go_wp2_with fail
  go_loopw [7] (fun i wr => ∃ k : Nat, k ≤ 255 ∧ i = .int .i64 k ∧ Hid (KnI W wr B s k)) (fun i _ => 255 - (intOf i).toNat)
  case atStart => exact ⟨0, Nat.zero_le _, rfl, K7⟩
  case round =>
    obtain ⟨k, hk, rfl, HW⟩ := hrel
    by_cases hlt : k < 255
    · have hli : (k : Int) < 255 := by omega
      replace hlt := hide hlt
      replace hk := hide hk
      clear K7 CE CD
      go_wp2_with fail
      refine (unhide TW _).mono ?_
      rintro e w8 ⟨fb8, rfl, m8, g8⟩
      have K8 := hide (unhide KG _ _ _ _ _ (unhide HW) g8)
      replace m8 := hide m8
      clear g8 HW KG
      unfold agTwo
      go_wp2_with fail
      refine (unhide CB _ _ _ _ _ (unhide hlt) (unhide K8) (unhide m8) _ rfl).mono ?_
      rintro e w9 ⟨rfl, K9⟩
      clear CB m8 K8 TW
      go_wp2_with fail
      go_roundw
      case rel => exact ⟨k + 1, unhide hlt, by go_num, K9⟩
      case measure => have := unhide hlt; simp [intOf]; omega
    · obtain rfl : k = 255 := by omega
      clear K7 CB
      go_wp2_with fail
      refine (unhide CD _ _ _ (unhide HW)).mono ?_
      rintro e w8 ⟨rfl, K8⟩
      replace K8 := hide K8
      clear HW CD
      go_wp2_with fail
      refine (unhide TW _).mono ?_
      rintro e w9 ⟨fb9, rfl, m9, g9⟩
      have K9 := hide (unhide KG _ _ _ _ _ (unhide K8) g9)
      replace m9 := hide m9
      clear g9 K8 KG TW
      unfold agTwo
      go_wp2_with fail
      refine (unhide CE _ _ _ _ (unhide K9) (unhide m9) _).mono ?_
      rintro e w10 ⟨rfl, K10⟩
      replace K10 := hide K10
      clear K9 m9 CE
      go_wp2_with fail
      refine (kn_get (unhide K10) 2 (by omega)).mono ?_
      rintro e w11 ⟨rfl, K11⟩
      replace K11 := hide K11
      clear K10
      go_wp2_with fail
      refine (kn_get (unhide K11) (-1) (by omega)).mono ?_
      rintro e w12 ⟨rfl, K12⟩
      have G12 := hide K12.choose_spec.choose_spec.1.g
      clear K11 K12
      go_wp2_with fail
      go_ret
      exact ⟨rfl, unhide G12⟩

set_option maxRecDepth 100000 in
theorem lifted_FrameKnown (os : Os) (started : os.Started) (H : Type) (enc : TypeId × Value → H) :
    ReturnsInHanded {} Tryd.checked os 3 .any (fun w args => (Rows.frameKnownSpec.pre enc Tryd.prog Tryd.f3 [] false w args ∧ laidMetH Tryd.prog laid9 w) ∧ sizedMet enc Tryd.prog Tryd.f3 (OpenSpec.ofChange Rows.frameKnownSpec) false w args)
      (Rows.frameKnownSpec.post enc Tryd.prog Tryd.f3 false true false false) := by
  refine returnsInHanded_of_change_and (C := Tryd.checked) (X := fun w _ => laidMetH Tryd.prog laid9 w) (fun _ _ _ hh h => h.of_heap hh) own started (by kernel_rfl) Tryd.func3
    (ChangeSpec.witness_shaped (enc := enc) (C := Tryd.checked) (os := os) (X := fun w _ => laidMetH Tryd.prog laid9 w) false (World.doorLaid Tryd.prog 400 os) #[] 8 rfl (World.shaped_of_RefB (by kernel_rfl) (by kernel_rfl)) (by kernel_rfl) (by kernel_rfl) (by kernel_rfl) (door_met os _)) ?_
  intro W base args ds gs before hval0 hW _ _ hL _
  have hval : ∀ (j : Nat) t v, Tryd.f3.params[j]? = some t → args[j]? = some v → Value.okWide Tryd.prog W .any base t v := hval0
  have hW' := hW
  obtain ⟨p, q, hA0, hV, rfl, hfz, hnd⟩ := hW
  have hA : DataW.TrodAll enc Tryd.prog W 0 (fun _ => true) true Tryd.f3.params.toList args.toList ds p := hA0
  rw [Tryd.params3] at hA hval
  obtain ⟨rfl, rfl, rfl⟩ := trodAll_none hA
  obtain ⟨rfl, rfl⟩ := trodVars_none hV
  clear hA0 hval0
  refine (walk_FrameKnown  W hL ).mono fun e W' ⟨he, hg⟩ => ?_
  subst he
  exact ⟨_, rfl, _, _, _, [], [], [], hW', trodAll_mk1 (shut_bool Tryd.underlying4 _), trodAll_mk0, rfl, hg.frame _, fun h => by cases h⟩

theorem row_FrameKnown : Rows.FrameKnownSaid :=
  OpenClaim.holds_of_wide 3 Tryd.f3 rfl rfl rfl rfl rfl rfl rfl ⟨rfl, rfl, rfl, rfl, rfl⟩ rfl rfl rfl rfl rfl (by kernel_rfl) Tryd.func3 (by kernel_rfl)
    (of_decide_eq_true (by kernel_rfl)) (by unfold Func.isWrapper; first | (rw [if_pos (by decide +kernel)]; kernel_rfl) | (rw [if_neg (by decide +kernel)]; exact ⟨rfl, rfl⟩))
    (fun os started H enc _ => lifted_FrameKnown os started H enc)

/-- THE STATEMENT. -/
theorem card_FrameKnown : Rows.FrameKnownCardSaid :=
  Claim7.holds_tied_plain_at .later [] [.data] true (true, "8ddf49a22e35645a40b29dea95ad2e9610f848324a67b63f58e7a1b6c512da97") false
    row_FrameKnown (fun _ h => by cases h) (by kernel_rfl) (fun _ h => by cases h) frameKnown_row_tie rfl ⟨rfl, rfl⟩ (by kernel_rfl) rfl
    (fun f fn hf hfn => by
      obtain rfl : f = 3 := Option.some.inj ((show Tryd.prog.funcNamed "gantline/gantlinelaw13.FrameKnown" = some 3 by kernel_rfl).symm.trans hf) |>.symm
      obtain rfl : fn = Tryd.f3 := (Option.some.inj (Tryd.func3.symm.trans hfn)).symm
      exact ⟨by kernel_rfl, fun j t ht => by
        rw [Tryd.params3] at ht
        simp at ht⟩)
    (by kernel_rfl)
#print axioms card_FrameKnown
end Go.Proofs.YtiaogffnkblmkaaDoor
