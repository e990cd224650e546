/- BitsNumbers of package gantlinelaw1: for all int64 a, b, n the law answers true; nothing that was there is turned. -/
import Derived.Test.YtdlnfmmblcfdoaaDoorBase
import Derived.Test.YtdlnfmmblcfdoaaDoorRefNums2
namespace Go.Proofs.YtdlnfmmblcfdoaaDoor
open Go.ChangeShapes Go.WideShapes Go.ChangeAt Go.RowKit

/-- A call answers v, whatever the world, and leaves it as it was. -/
def Gives (f : FuncId) (args : Array Value) (v : Value) : Prop := ∀ w, Calls Tryd.prog f args w fun e w' => e = .returned v ∧ w' = w

set_option maxHeartbeats 1000000 in
set_option maxRecDepth 100000 in
theorem numbers_walk (a b n q r s d : Int) (o : Bool) (w : World) (ht : Tab w)
    (D1 : Gives 10 #[.int .i64 a, .int .i64 b] (.tuple #[.int .i64 q, .bool o])) (D2 : Gives 19 #[.int .i64 a, .int .i64 b] (.tuple #[.int .i64 q, .bool o]))
    (M1 : Gives 11 #[.int .i64 a, .int .i64 b] (.tuple #[.int .i64 r, .bool o])) (M2 : Gives 20 #[.int .i64 a, .int .i64 b] (.tuple #[.int .i64 r, .bool o]))
    (S1 : Gives 14 #[.int .i64 a, .int .i64 n] (.int .i64 s)) (S2 : Gives 29 #[.int .i64 a, .int .i64 n] (.int .i64 s))
    (R1 : Gives 13 #[.int .i64 a, .int .i64 n] (.int .i64 d)) (R2 : Gives 30 #[.int .i64 a, .int .i64 n] (.int .i64 d)) :
    Calls Tryd.prog 4 #[.int .i64 a, .int .i64 b, .int .i64 n] w fun e w' => e = .returned (.bool true) ∧ Grown w w' := by
  have C := hide (awake_any w ht)
  clear ht
  go_enter Tryd.func4, Tryd.ntmps4
  go_wp2_with fail
  refine (unhide C).mono ?_
  rintro e w1 ⟨rfl, hg, _⟩
  have HG := hide hg
  clear hg C
  go_wp2_with (first
    | (go_at_call 10; refine (D1 _).mono ?_; rintro e w' ⟨rfl, rfl⟩)
    | (go_at_call 11; refine (M1 _).mono ?_; rintro e w' ⟨rfl, rfl⟩)
    | (go_at_call 19; refine (D2 _).mono ?_; rintro e w' ⟨rfl, rfl⟩)
    | (go_at_call 20; refine (M2 _).mono ?_; rintro e w' ⟨rfl, rfl⟩)
    | (go_at_call 21; refine (wrap_any _ _).mono ?_; rintro e w' ⟨rfl, rfl⟩)
    | (go_at_call 22; refine (rwrap_any _ _).mono ?_; rintro e w' ⟨rfl, rfl⟩)
    | (go_at_call 23; refine (add_any _ _ _).mono ?_; rintro e w' ⟨rfl, rfl⟩)
    | (go_at_call 24; refine (radd_any _ _ _).mono ?_; rintro e w' ⟨rfl, rfl⟩)
    | (go_at_call 25; refine (sub_any _ _ _).mono ?_; rintro e w' ⟨rfl, rfl⟩)
    | (go_at_call 26; refine (rsub_any _ _ _).mono ?_; rintro e w' ⟨rfl, rfl⟩)
    | (go_at_call 27; refine (mul_any _ _ _).mono ?_; rintro e w' ⟨rfl, rfl⟩)
    | (go_at_call 28; refine (rmul_any _ _ _).mono ?_; rintro e w' ⟨rfl, rfl⟩)
    | (go_at_call 14; refine (S1 _).mono ?_; rintro e w' ⟨rfl, rfl⟩)
    | (go_at_call 29; refine (S2 _).mono ?_; rintro e w' ⟨rfl, rfl⟩)
    | (go_at_call 13; refine (R1 _).mono ?_; rintro e w' ⟨rfl, rfl⟩)
    | (go_at_call 30; refine (R2 _).mono ?_; rintro e w' ⟨rfl, rfl⟩))
  go_ret
  exact ⟨by simp, unhide HG⟩

theorem div_both (a b : Int) : ∃ q r o, Gives 10 #[.int .i64 a, .int .i64 b] (.tuple #[.int .i64 q, .bool o]) ∧ Gives 19 #[.int .i64 a, .int .i64 b] (.tuple #[.int .i64 q, .bool o])
    ∧ Gives 11 #[.int .i64 a, .int .i64 b] (.tuple #[.int .i64 r, .bool o]) ∧ Gives 20 #[.int .i64 a, .int .i64 b] (.tuple #[.int .i64 r, .bool o]) := by
  by_cases h : w63 b = 0
  · exact ⟨0, 0, false, fun w => div_zero a b w h, fun w => rdiv_zero a b w h, fun w => mod_zero a b w h, fun w => rmod_zero a b w h⟩
  · exact ⟨_, _, true, fun w => div_any a b w h, fun w => rdiv_any a b w h, fun w => mod_any a b w h, fun w => rmod_any a b w h⟩

theorem shift_both (a n : Int) : ∃ s d, Gives 14 #[.int .i64 a, .int .i64 n] (.int .i64 s) ∧ Gives 29 #[.int .i64 a, .int .i64 n] (.int .i64 s)
    ∧ Gives 13 #[.int .i64 a, .int .i64 n] (.int .i64 d) ∧ Gives 30 #[.int .i64 a, .int .i64 n] (.int .i64 d) := by
  by_cases h : n < 0 ∨ 62 < n
  · refine ⟨0, dnK a 62, fun w => shl_out a n w h, fun w => rshl_out a n w h, fun w => ?_, fun w => rshr_out a n w h⟩
    have e : dnK a 62 = w63 a / 4611686018427387904 := by unfold dnK; rw [show (2 : Int) ^ 62 = 4611686018427387904 from rfl]
    rw [e]; exact shr_out a n w h
  · obtain ⟨m, rfl⟩ := Int.eq_ofNat_of_zero_le (show 0 ≤ n by omega)
    exact ⟨upK a m, dnK a m, fun w => shl_any a m w (by omega) (by omega), fun w => rshl_any a m w (by omega), fun w => shr_any a m w (by omega) (by omega), fun w => rshr_any a m w (by omega)⟩

theorem walk_BitsNumbers (a0 a1 a2 : Int) (_w0 : (Lit.int .i64 a0).wf = true) (_w1 : (Lit.int .i64 a1).wf = true) (_w2 : (Lit.int .i64 a2).wf = true) (w : World) (ht : Tab w) :
    Calls Tryd.prog 4 #[.int .i64 a0, .int .i64 a1, .int .i64 a2] w fun e w' => e = .returned (.bool true) ∧ Grown w w' := by
  obtain ⟨q, r, o, d1, d2, m1, m2⟩ := div_both a0 a1
  obtain ⟨s, d, s1, s2, r1, r2⟩ := shift_both a0 a2
  exact numbers_walk a0 a1 a2 q r s d o w ht d1 d2 m1 m2 s1 s2 r1 r2

set_option maxRecDepth 100000 in
theorem lifted_BitsNumbers (os : Os) (started : os.Started) (H : Type) (enc : TypeId × Value → H) :
    ReturnsInHanded {} Tryd.checked os 4 .any (fun w args => (Rows.bitsNumbersSpec.pre enc Tryd.prog Tryd.f4 [] false w args ∧ laidMetH Tryd.prog laidTab w) ∧ sizedMet enc Tryd.prog Tryd.f4 (OpenSpec.ofChange Rows.bitsNumbersSpec) false w args)
      (Rows.bitsNumbersSpec.post enc Tryd.prog Tryd.f4 false true false false) := by
  refine returnsInHanded_of_change_and (C := Tryd.checked) (X := fun w _ => laidMetH Tryd.prog laidTab w) (fun _ _ _ hh h => h.of_heap hh) own started (by kernel_rfl) Tryd.func4
    (ChangeSpec.witness_shaped (enc := enc) (C := Tryd.checked) (os := os) (X := fun w _ => laidMetH Tryd.prog laidTab w) false (World.doorLaid Tryd.prog 400 os) #[.int .i64 0, .int .i64 0, .int .i64 0] 8 rfl (World.shaped_of_RefB (by kernel_rfl) (by kernel_rfl)) (by kernel_rfl) (by kernel_rfl) (by kernel_rfl) (door_met os _)) ?_
  intro W base args ds gs before hval0 hW _ _ hL _
  have hval : ∀ (j : Nat) t v, Tryd.f4.params[j]? = some t → args[j]? = some v → Value.okWide Tryd.prog W .any base t v := hval0
  have hW' := hW
  obtain ⟨p, q, hA0, hV, rfl, hfz, hnd⟩ := hW
  have hA : DataW.TrodAll enc Tryd.prog W 0 (fun _ => true) true Tryd.f4.params.toList args.toList ds p := hA0
  rw [Tryd.params4] at hA hval
  obtain ⟨v0, vs0, d0, ds0, p0, q0, hargs, rfl, rfl, h0, r0⟩ := trodAll_cons hA
  obtain ⟨v1, vs1, d1, ds1, p1, q1, rfl, rfl, rfl, h1, r1⟩ := trodAll_cons r0
  obtain ⟨v2, vs2, d2, ds2, p2, q2, rfl, rfl, rfl, h2, r2⟩ := trodAll_cons r1
  obtain ⟨rfl, rfl, rfl⟩ := trodAll_nil r2
  obtain rfl : args = #[v0, v1, v2] := by cases args; simp_all
  obtain ⟨rfl, rfl⟩ := trodVars_none hV
  obtain ⟨a0, rfl, rfl, rfl, w0⟩ := open_int Tryd.underlying2 (hval 0 2 v0 rfl rfl) h0
  obtain ⟨a1, rfl, rfl, rfl, w1⟩ := open_int Tryd.underlying2 (hval 1 2 v1 rfl rfl) h1
  obtain ⟨a2, rfl, rfl, rfl, w2⟩ := open_int Tryd.underlying2 (hval 2 2 v2 rfl rfl) h2
  clear hA0 hval0
  simp only [List.append_nil] at hW'
  refine (walk_BitsNumbers a0 a1 a2 w0 w1 w2 W (tab_of_laid hL)).mono fun e W' ⟨he, hg⟩ => ?_
  subst he
  exact ⟨_, rfl, post_of_same (pa := []) (pv := []) hW' (fun _ _ _ => trodAll_mk1 (shut_bool Tryd.underlying4 _)) (fun sp _ => (trodAll_cons_mk (shut_int Tryd.underlying2 w0) (trodAll_cons_mk (shut_int Tryd.underlying2 w1) (trodAll_cons_mk (shut_int Tryd.underlying2 w2) trodAll_mk0)))) (fun _ _ => rfl) rfl (hg.frame _) hg.2.1 (ok_one (by kernel_rfl) rfl (okWide_bool_mk Tryd.underlying4 _))⟩

theorem row_BitsNumbers : Rows.BitsNumbersSaid :=
  OpenClaim.holds_of_wide 4 Tryd.f4 rfl rfl rfl rfl rfl rfl rfl ⟨rfl, rfl, rfl, rfl, rfl⟩ rfl rfl rfl rfl rfl (by kernel_rfl) Tryd.func4 (by kernel_rfl)
    (of_decide_eq_true (by kernel_rfl)) (by unfold Func.isWrapper; first | (rw [if_pos (by decide +kernel)]; kernel_rfl) | (rw [if_neg (by decide +kernel)]; exact ⟨rfl, rfl⟩))
    (fun os started H enc _ => lifted_BitsNumbers os started H enc)

/-- THE STATEMENT. -/
theorem card_BitsNumbers : Rows.BitsNumbersCardSaid :=
  Claim7.holds_tied_plain_at .later [] [.data] true (true, "90ed200b407e4f485d80c22479b6c205794185d05fc6b5f6f246b5c2b83577b9") false
    row_BitsNumbers (fun _ h => by cases h) (by kernel_rfl) (fun _ h => by cases h) bitsNumbers_row_tie rfl ⟨rfl, rfl⟩ (by kernel_rfl) rfl
    (fun f fn hf hfn => by
      obtain rfl : f = 4 := Option.some.inj ((show Tryd.prog.funcNamed "gantline/gantlinelaw1.BitsNumbers" = some 4 by kernel_rfl).symm.trans hf) |>.symm
      obtain rfl : fn = Tryd.f4 := (Option.some.inj (Tryd.func4.symm.trans hfn)).symm
      exact ⟨by kernel_rfl, fun j t ht => by
        rw [Tryd.params4] at ht
        have hm : t ∈ [2, 2, 2] := by simpa using Array.mem_of_getElem? ht
        have hall : ([2, 2, 2].all fun u => !Tryd.prog.wantsStandIn u) = true := by kernel_rfl
        exact (show Tryd.prog.wantsStandIn t = false by simpa using List.all_eq_true.1 hall t hm)⟩)
    (by kernel_rfl)
#print axioms card_BitsNumbers
end Go.Proofs.YtdlnfmmblcfdoaaDoor
