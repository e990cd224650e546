/- BitsRing of package gantlinelaw1: for all int64 a, b, c the law answers true; nothing that was there is turned. -/
import Derived.Test.YtdlnfmmblcfdoaaDoorBase
namespace Go.Proofs.YtdlnfmmblcfdoaaDoor
open Go.ChangeShapes Go.WideShapes Go.ChangeAt Go.RowKit

theorem w63_add_l (x y : Int) : w63 (w63 x + y) = w63 (x + y) := by unfold w63; omega
theorem w63_add_r (x y : Int) : w63 (x + w63 y) = w63 (x + y) := by unfold w63; omega
theorem w63_mul_l (x y : Int) : w63 (w63 x * y) = w63 (x * y) := by
  obtain ⟨k, hk⟩ := w63_form x
  exact w63_dvd ⟨k * y, by rw [hk, Int.add_mul, Int.mul_assoc]⟩
theorem w63_mul_r (x y : Int) : w63 (x * w63 y) = w63 (x * y) := by rw [Int.mul_comm, w63_mul_l, Int.mul_comm]
theorem w63_idem (x : Int) : w63 (w63 x) = w63 x := by unfold w63; omega

theorem ring1 (a b c : Int) : w63 (w63 (a + b) + c) = w63 (a + w63 (b + c)) := by rw [w63_add_l, w63_add_r, Int.add_assoc]
theorem ring2 (a b c : Int) : w63 (w63 (a * b) * c) = w63 (a * w63 (b * c)) := by rw [w63_mul_l, w63_mul_r, Int.mul_assoc]
theorem ring3 (a b c : Int) : w63 (a * w63 (b + c)) = w63 (w63 (a * b) + w63 (a * c)) := by rw [w63_mul_r, w63_add_l, w63_add_r, Int.mul_add]
theorem ring4 (a b : Int) : w63 (w63 (a - b) + b) = w63 a := by rw [w63_add_l, Int.sub_add_cancel]
theorem ring6 (a b : Int) : w63 (w63 (w63 ((w63 a).tdiv (w63 b)) * b) + (w63 a).tmod (w63 b)) = w63 a := by
  have e : w63 (w63 ((w63 a).tdiv (w63 b)) * b) = w63 ((w63 a).tdiv (w63 b) * w63 b) := by rw [w63_mul_l, w63_mul_r]
  rw [e, w63_add_l, Int.mul_comm, Int.mul_tdiv_add_tmod, w63_idem]

theorem bne_f {x y : Int} (h : x = y) : (x != y) = false := by rw [h]; simp
theorem beq_t {x y : Int} (h : x = y) : (x == y) = true := by rw [h]; simp

set_option maxHeartbeats 1000000 in
set_option maxRecDepth 100000 in
theorem ring_walk (a b c : Int) (w : World) (ht : Tab w) :
    Calls Tryd.prog 7 #[.int .i64 a, .int .i64 b, .int .i64 c] w fun e w' => e = .returned (.bool true) ∧ Grown w w' := by
  have r1 := bne_f (ring1 a b c)
  have r2 := bne_f (ring2 a b c)
  have r3 := bne_f (ring3 a b c)
  have r4 := bne_f (ring4 a b)
  have r5 := bne_f (congrArg w63 (Int.mul_comm a b))
  have r6 := beq_t (ring6 a b)
  have C := hide (awake_any w ht)
  clear ht
  by_cases hb : w63 b = 0
  · clear r6
    go_enter Tryd.func7, Tryd.ntmps7
    go_wp2_with fail
    refine (unhide C).mono ?_
    rintro e w1 ⟨rfl, hg, _⟩
    have HG := hide hg
    clear hg C
    go_wp2_with (first
      | (go_at_call 23; refine (add_any _ _ _).mono ?_; rintro e w' ⟨rfl, rfl⟩)
      | (go_at_call 27; refine (mul_any _ _ _).mono ?_; rintro e w' ⟨rfl, rfl⟩)
      | (go_at_call 25; refine (sub_any _ _ _).mono ?_; rintro e w' ⟨rfl, rfl⟩)
      | (go_at_call 21; refine (wrap_any _ _).mono ?_; rintro e w' ⟨rfl, rfl⟩)
      | (go_at_call 10; refine (div_zero _ _ _ hb).mono ?_; rintro e w' ⟨rfl, rfl⟩)
      | (go_at_call 11; refine (mod_zero _ _ _ hb).mono ?_; rintro e w' ⟨rfl, rfl⟩))
    go_ret
    exact ⟨rfl, unhide HG⟩
  · have hb0 : (w63 b != 0) = true := by simpa using hb
    go_enter Tryd.func7, Tryd.ntmps7
    go_wp2_with fail
    refine (unhide C).mono ?_
    rintro e w1 ⟨rfl, hg, _⟩
    have HG := hide hg
    clear hg C
    go_wp2_with (first
      | (go_at_call 23; refine (add_any _ _ _).mono ?_; rintro e w' ⟨rfl, rfl⟩)
      | (go_at_call 27; refine (mul_any _ _ _).mono ?_; rintro e w' ⟨rfl, rfl⟩)
      | (go_at_call 25; refine (sub_any _ _ _).mono ?_; rintro e w' ⟨rfl, rfl⟩)
      | (go_at_call 21; refine (wrap_any _ _).mono ?_; rintro e w' ⟨rfl, rfl⟩)
      | (go_at_call 10; refine (div_any _ _ _ hb).mono ?_; rintro e w' ⟨rfl, rfl⟩)
      | (go_at_call 11; refine (mod_any _ _ _ hb).mono ?_; rintro e w' ⟨rfl, rfl⟩))
    go_ret
    exact ⟨rfl, unhide HG⟩

theorem walk_BitsRing (a0 a1 a2 : Int) (_w0 : (Lit.int .i64 a0).wf = true) (_w1 : (Lit.int .i64 a1).wf = true) (_w2 : (Lit.int .i64 a2).wf = true) (w : World) (ht : Tab w) :
    Calls Tryd.prog 7 #[.int .i64 a0, .int .i64 a1, .int .i64 a2] w fun e w' => e = .returned (.bool true) ∧ Grown w w' := ring_walk a0 a1 a2 w ht

set_option maxRecDepth 100000 in
theorem lifted_BitsRing (os : Os) (started : os.Started) (H : Type) (enc : TypeId × Value → H) :
    ReturnsInHanded {} Tryd.checked os 7 .any (fun w args => (Rows.bitsRingSpec.pre enc Tryd.prog Tryd.f7 [] false w args ∧ laidMetH Tryd.prog laidTab w) ∧ sizedMet enc Tryd.prog Tryd.f7 (OpenSpec.ofChange Rows.bitsRingSpec) false w args)
      (Rows.bitsRingSpec.post enc Tryd.prog Tryd.f7 false true false false) := by
  refine returnsInHanded_of_change_and (C := Tryd.checked) (X := fun w _ => laidMetH Tryd.prog laidTab w) (fun _ _ _ hh h => h.of_heap hh) own started (by kernel_rfl) Tryd.func7
    (ChangeSpec.witness_shaped (enc := enc) (C := Tryd.checked) (os := os) (X := fun w _ => laidMetH Tryd.prog laidTab w) false (World.doorLaid Tryd.prog 400 os) #[.int .i64 0, .int .i64 0, .int .i64 0] 8 rfl (World.shaped_of_RefB (by kernel_rfl) (by kernel_rfl)) (by kernel_rfl) (by kernel_rfl) (by kernel_rfl) (door_met os _)) ?_
  intro W base args ds gs before hval0 hW _ _ hL _
  have hval : ∀ (j : Nat) t v, Tryd.f7.params[j]? = some t → args[j]? = some v → Value.okWide Tryd.prog W .any base t v := hval0
  have hW' := hW
  obtain ⟨p, q, hA0, hV, rfl, hfz, hnd⟩ := hW
  have hA : DataW.TrodAll enc Tryd.prog W 0 (fun _ => true) true Tryd.f7.params.toList args.toList ds p := hA0
  rw [Tryd.params7] at hA hval
  obtain ⟨v0, vs0, d0, ds0, p0, q0, hargs, rfl, rfl, h0, r0⟩ := trodAll_cons hA
  obtain ⟨v1, vs1, d1, ds1, p1, q1, rfl, rfl, rfl, h1, r1⟩ := trodAll_cons r0
  obtain ⟨v2, vs2, d2, ds2, p2, q2, rfl, rfl, rfl, h2, r2⟩ := trodAll_cons r1
  obtain ⟨rfl, rfl, rfl⟩ := trodAll_nil r2
  obtain rfl : args = #[v0, v1, v2] := by cases args; simp_all
  obtain ⟨rfl, rfl⟩ := trodVars_none hV
  obtain ⟨a0, rfl, rfl, rfl, w0⟩ := open_int Tryd.underlying2 (hval 0 2 v0 rfl rfl) h0
  obtain ⟨a1, rfl, rfl, rfl, w1⟩ := open_int Tryd.underlying2 (hval 1 2 v1 rfl rfl) h1
  obtain ⟨a2, rfl, rfl, rfl, w2⟩ := open_int Tryd.underlying2 (hval 2 2 v2 rfl rfl) h2
  clear hA0 hval0
  simp only [List.append_nil] at hW'
  refine (walk_BitsRing a0 a1 a2 w0 w1 w2 W (tab_of_laid hL)).mono fun e W' ⟨he, hg⟩ => ?_
  subst he
  exact ⟨_, rfl, post_of_same (pa := []) (pv := []) hW' (fun _ _ _ => trodAll_mk1 (shut_bool Tryd.underlying4 _)) (fun sp _ => (trodAll_cons_mk (shut_int Tryd.underlying2 w0) (trodAll_cons_mk (shut_int Tryd.underlying2 w1) (trodAll_cons_mk (shut_int Tryd.underlying2 w2) trodAll_mk0)))) (fun _ _ => rfl) rfl (hg.frame _) hg.2.1 (ok_one (by kernel_rfl) rfl (okWide_bool_mk Tryd.underlying4 _))⟩

theorem row_BitsRing : Rows.BitsRingSaid :=
  OpenClaim.holds_of_wide 7 Tryd.f7 rfl rfl rfl rfl rfl rfl rfl ⟨rfl, rfl, rfl, rfl, rfl⟩ rfl rfl rfl rfl rfl (by kernel_rfl) Tryd.func7 (by kernel_rfl)
    (of_decide_eq_true (by kernel_rfl)) (by unfold Func.isWrapper; first | (rw [if_pos (by decide +kernel)]; kernel_rfl) | (rw [if_neg (by decide +kernel)]; exact ⟨rfl, rfl⟩))
    (fun os started H enc _ => lifted_BitsRing os started H enc)

/-- THE STATEMENT. -/
theorem card_BitsRing : Rows.BitsRingCardSaid :=
  Claim7.holds_tied_plain_at .later [] [.data] true (true, "90ed200b407e4f485d80c22479b6c205794185d05fc6b5f6f246b5c2b83577b9") false
    row_BitsRing (fun _ h => by cases h) (by kernel_rfl) (fun _ h => by cases h) bitsRing_row_tie rfl ⟨rfl, rfl⟩ (by kernel_rfl) rfl
    (fun f fn hf hfn => by
      obtain rfl : f = 7 := Option.some.inj ((show Tryd.prog.funcNamed "gantline/gantlinelaw1.BitsRing" = some 7 by kernel_rfl).symm.trans hf) |>.symm
      obtain rfl : fn = Tryd.f7 := (Option.some.inj (Tryd.func7.symm.trans hfn)).symm
      exact ⟨by kernel_rfl, fun j t ht => by
        rw [Tryd.params7] at ht
        have hm : t ∈ [2] := by have := Array.mem_of_getElem? ht; simp at this; simp; omega
        have hall : ([2].all fun u => !Tryd.prog.wantsStandIn u) = true := by kernel_rfl
        exact (show Tryd.prog.wantsStandIn t = false by simpa using List.all_eq_true.1 hall t hm)⟩)
    (by kernel_rfl)
#print axioms card_BitsRing
end Go.Proofs.YtdlnfmmblcfdoaaDoor
