/- ParseNests of gantlinelaw21: a program may be just so deep, and no deeper: brackets, blocks, unary signs, types; for every n and how. -/
import Derived.Test.YtablincnlfbjnaaDoorMnS
namespace Go.Proofs.YtablincnlfbjnaaDoor
set_option maxRecDepth 100000
open Go.RowKit Go.Maps Go.ChangeShapes Go.WideShapes Go.ChangeAt Go.Deep

abbrev oI (k : Int) : Prop := -9223372036854775808 ≤ k ∧ k ≤ 9223372036854775807
theorem oI_wf {k : Int} (h : (Lit.int .i64 k).wf = true) : oI k := bounds_i64 h
set_option maxHeartbeats 4000000 in
theorem nests_out1 (n how : Int) (h1 : n < 1) (W : World) (hE : EvAt W) (hT : SpAt W) : Calls Tryd.prog 4 #[.int .i64 n, .int .i64 how] W fun e w' => e = .returned (.bool true) ∧ G W w' := by
  have AW := hide (awake_any W hE hT)
  clear hE hT
  go_enter Tryd.func4, Tryd.ntmps4
  go_wp2_with fail
  refine (unhide AW).mono ?_
  rintro e wz ⟨rfl, g1⟩
  have hG := hide g1
  clear AW g1
  go_wp2_with fail
  go_ret
  exact ⟨rfl, unhide hG⟩
set_option maxHeartbeats 4000000 in
theorem nests_out2 (n how : Int) (h1 : ¬ n < 1) (h80 : 80 < n) (W : World) (hE : EvAt W) (hT : SpAt W) : Calls Tryd.prog 4 #[.int .i64 n, .int .i64 how] W fun e w' => e = .returned (.bool true) ∧ G W w' := by
  have AW := hide (awake_any W hE hT)
  clear hE hT
  go_enter Tryd.func4, Tryd.ntmps4
  go_wp2_with fail
  refine (unhide AW).mono ?_
  rintro e wz ⟨rfl, g1⟩
  have hG := hide g1
  clear AW g1
  go_wp2_with fail
  go_ret
  exact ⟨rfl, unhide hG⟩
theorem walk_ParseNests (n how : Int) (W : World) (hL : laidMetH Tryd.prog laid9 W) (_ : oI n) (_ : oI how) : Calls Tryd.prog 4 #[.int .i64 n, .int .i64 how] W fun e w' => e = .returned (.bool true) ∧ G W w' := by
  have hE := ev_of_laid hL
  have hT := sp_of_laid hL
  by_cases h1 : n < 1
  · exact nests_out1 n how h1 W hE hT
  by_cases h80 : 80 < n
  · exact nests_out2 n how h1 h80 W hE hT
  obtain ⟨N, rfl⟩ : ∃ N : Nat, n = (N : Int) := ⟨n.toNat, by omega⟩
  have a1 : 1 ≤ N := by omega
  have a2 : N ≤ 80 := by omega
  have hr : N ≤ 59 ∨ N = 60 ∨ 60 < N := by omega
  by_cases b1 : bits .and .i64 how 3 = 1
  · rcases hr with hr | hr | hr
    · exact nests_1_0 N how a1 a2 b1 hr W hE hT
    · exact nests_1_1 N how a1 a2 b1 hr W hE hT
    · exact nests_1_2 N how a1 a2 b1 hr W hE hT
  by_cases b2 : bits .and .i64 how 3 = 2
  · rcases hr with hr | hr | hr
    · exact nests_2_0 N how a1 a2 b2 hr W hE hT
    · exact nests_2_1 N how a1 a2 b2 hr W hE hT
    · exact nests_2_2 N how a1 a2 b2 hr W hE hT
  by_cases b3 : bits .and .i64 how 3 = 3
  · rcases hr with hr | hr | hr
    · exact nests_3_0 N how a1 a2 b3 hr W hE hT
    · exact nests_3_1 N how a1 a2 b3 hr W hE hT
    · exact nests_3_2 N how a1 a2 b3 hr W hE hT
  rcases hr with hr | hr | hr
  · exact nests_0_0 N how a1 a2 b1 b2 b3 hr W hE hT
  · exact nests_0_1 N how a1 a2 b1 b2 b3 hr W hE hT
  · exact nests_0_2 N how a1 a2 b1 b2 b3 hr W hE hT

set_option maxRecDepth 100000 in
theorem lifted_ParseNests (os : Os) (started : os.Started) (H : Type) (enc : TypeId × Value → H) :
    ReturnsInHanded {} Tryd.checked os 4 .any (fun w args => (Rows.parseNestsSpec.pre enc Tryd.prog Tryd.f4 [] false w args ∧ laidMetH Tryd.prog laid9 w) ∧ sizedMet enc Tryd.prog Tryd.f4 (OpenSpec.ofChange Rows.parseNestsSpec) false w args)
      (Rows.parseNestsSpec.post enc Tryd.prog Tryd.f4 false true false false) := by
  refine returnsInHanded_of_change_and (C := Tryd.checked) (X := fun w _ => laidMetH Tryd.prog laid9 w) (fun _ _ _ hh h => h.of_heap hh) own started (by kernel_rfl) Tryd.func4
    (ChangeSpec.witness_shaped (enc := enc) (C := Tryd.checked) (os := os) (X := fun w _ => laidMetH Tryd.prog laid9 w) false (World.doorLaid Tryd.prog 400 os) #[.int .i64 0, .int .i64 0] 8 rfl (World.shaped_of_RefB (by kernel_rfl) (by kernel_rfl)) (by kernel_rfl) (by kernel_rfl) (by kernel_rfl) (door_met os _)) ?_
  intro W base args ds gs before hval0 hW _ _ hL _
  have hval : ∀ (j : Nat) t v, Tryd.f4.params[j]? = some t → args[j]? = some v → Value.okWide Tryd.prog W .any base t v := hval0
  have hW' := hW
  obtain ⟨p, q, hA0, hV, rfl, hfz, hnd⟩ := hW
  have hA : DataW.TrodAll enc Tryd.prog W 0 (fun _ => true) true Tryd.f4.params.toList args.toList ds p := hA0
  rw [Tryd.params4] at hA hval
  obtain ⟨v0, vs0, d0, ds0, p0, q0, hargs, rfl, rfl, h0, r0⟩ := trodAll_cons hA
  obtain ⟨v1, vs1, d1, ds1, p1, q1, rfl, rfl, rfl, h1, r1⟩ := trodAll_cons r0
  obtain ⟨rfl, rfl, rfl⟩ := trodAll_nil r1
  obtain rfl : args = #[v0, v1] := by cases args; simp_all
  obtain ⟨rfl, rfl⟩ := trodVars_none hV
  have k0 := h0
  have lt0 : ∀ x ∈ p0, x.block < W.heap.size := by obtain ⟨m, hm⟩ := k0; exact DataW.trod_lt m _ _ _ hm
  obtain ⟨a0, rfl, rfl, rfl, w0⟩ := open_int Tryd.underlying3 (hval 0 3 v0 rfl rfl) h0
  have k1 := h1
  have lt1 : ∀ x ∈ p1, x.block < W.heap.size := by obtain ⟨m, hm⟩ := k1; exact DataW.trod_lt m _ _ _ hm
  obtain ⟨a1, rfl, rfl, rfl, w1⟩ := open_int Tryd.underlying3 (hval 1 3 v1 rfl rfl) h1
  clear hA0 hval0
  refine (walk_ParseNests a0 a1 W hL (oI_wf w0) (oI_wf w1)).mono fun e W' ⟨he, hg⟩ => ?_
  subst he
  exact ⟨_, rfl, _, _, _, [], _, [], hW', trodAll_mk1 (shut_bool Tryd.underlying4 _), (trodAll_cons_mk (Below.trod laidOut (by kernel_rfl) (of_decide_eq_true (by kernel_rfl)) k0 hg lt0) (trodAll_cons_mk (Below.trod laidOut (by kernel_rfl) (of_decide_eq_true (by kernel_rfl)) k1 hg lt1) trodAll_mk0)), rfl, hg.frame _, fun h => by cases h⟩

theorem row_ParseNests : Rows.ParseNestsSaid :=
  OpenClaim.holds_of_wide 4 Tryd.f4 rfl rfl rfl rfl rfl rfl rfl ⟨rfl, rfl, rfl, rfl, rfl⟩ rfl rfl rfl rfl rfl (by kernel_rfl) Tryd.func4 (by kernel_rfl)
    (of_decide_eq_true (by kernel_rfl)) (by unfold Func.isWrapper; first | (rw [if_pos (by decide +kernel)]; kernel_rfl) | (rw [if_neg (by decide +kernel)]; exact ⟨rfl, rfl⟩))
    (fun os started H enc _ => lifted_ParseNests os started H enc)

/-- THE STATEMENT. -/
theorem card_ParseNests : Rows.ParseNestsCardSaid :=
  Claim7.holds_tied_plain_at .later [] [.data, .data, .data, .sentinel, .sentinel, .listed, .data] true (true, "70806c1634f55d19f44d90ba1804d07757bd89cef0b34686aecef34f076c68df") true
    row_ParseNests (fun _ h => by cases h) (by kernel_rfl) (fun _ h => by cases h) parseNests_row_tie rfl ⟨rfl, rfl⟩ (by kernel_rfl) rfl
    (fun f fn hf hfn => by
      obtain rfl : f = 4 := Option.some.inj ((show Tryd.prog.funcNamed "gantline/gantlinelaw21.ParseNests" = some 4 by kernel_rfl).symm.trans hf) |>.symm
      obtain rfl : fn = Tryd.f4 := (Option.some.inj (Tryd.func4.symm.trans hfn)).symm
      exact ⟨by kernel_rfl, fun j t ht => by
        rw [Tryd.params4] at ht
        have hm : t ∈ [3, 3] := by simpa using Array.mem_of_getElem? ht
        have hall : ([3, 3].all fun u => !Tryd.prog.wantsStandIn u) = true := by kernel_rfl
        exact (show Tryd.prog.wantsStandIn t = false by simpa using List.all_eq_true.1 hall t hm)⟩)
    (by kernel_rfl)
#print axioms card_ParseNests
end Go.Proofs.YtablincnlfbjnaaDoor
