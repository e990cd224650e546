/- Statement GeomBack: an address tells its span and place, and these the address; places of a span are apart, and fill it. No condition. -/
import Derived.Test.YtalahfllflcfeaaGeomBase
namespace Go.Proofs.Ytalahfllflcfeaa
open Go.ChangeShapes Go.WideShapes Go.ChangeAt Go.RowKit

/-- Of a place that there is: its address is no 0, and tells its span and its place. -/
theorem back_in (s p c : Int) (h0 : 1 ≤ s) (h1 : s ≤ 511) (h2 : 0 ≤ p) (h3 : p < gp c) :
    64 ≤ ga s p c ∧ ga s p c < 32768 ∧ gs (ga s p c) = s ∧ gpl (ga s p c) c = p ∧ ga s p c + gw c ≤ 64 * s + 64 := by
  have e := ga_in (s := s) h0 h1 h2 h3
  have hr := place_room h2 h3
  have hw : 2 ≤ gw c := by have := gw_gp c; omega
  have h4 : ga s p c / 64 = s := by omega
  have h5 : ga s p c % 64 = p * gw c := by omega
  have h6 : p * gw c % gw c = 0 := by simp
  refine ⟨by omega, by omega, ?_, ?_, by omega⟩
  · rw [gs_in (by omega) (by omega)]; exact h4
  · rw [gpl_in (by omega) (by omega) (by omega) (by rw [h5]; exact h6), h5]
    exact Int.mul_ediv_cancel p (by omega)

set_option maxHeartbeats 400000 in
theorem back_out (s p c m : Int) (w : World) (CA : Hid (∀ w, Calls Try.prog 14 #[.int .i64 s, .int .i64 p, .int .i64 c] w fun e w' => e = .returned (.int .i64 0) ∧ w' = w))
    (CM : Hid (∀ w, Calls Try.prog 12 #[.int .i64 c] w fun e w' => e = .returned (.int .i64 m) ∧ w' = w)) (h0 : ¬ s < 1) (h1 : ¬ 511 < s) (h2 : ¬ p < 0) (h3 : m ≤ p) :
    Calls Try.prog 5 #[.int .i64 s, .int .i64 p, .int .i64 c] w fun e w' => e = .returned (.bool true) ∧ Grown w w' := by
  go_enter Try.func5, Try.ntmps5
  go_wp2_with fail
  refine (awake_any _).mono ?_
  rintro e w' ⟨rfl, rfl⟩
  go_wp2_with fail
  refine (unhide CA _).mono ?_
  rintro e w' ⟨rfl, rfl⟩
  go_wp2_with fail
  refine (unhide CM _).mono ?_
  rintro e w' ⟨rfl, rfl⟩
  go_wp2_with fail
  go_ret
  exact ⟨b_true (by simp), Grown.refl _⟩

set_option maxHeartbeats 400000 in
theorem back_out1 (s p c : Int) (w : World) (CA : Hid (∀ w, Calls Try.prog 14 #[.int .i64 s, .int .i64 p, .int .i64 c] w fun e w' => e = .returned (.int .i64 0) ∧ w' = w))
    (h0 : s < 1) :
    Calls Try.prog 5 #[.int .i64 s, .int .i64 p, .int .i64 c] w fun e w' => e = .returned (.bool true) ∧ Grown w w' := by
  go_enter Try.func5, Try.ntmps5
  go_wp2_with fail
  refine (awake_any _).mono ?_
  rintro e w' ⟨rfl, rfl⟩
  go_wp2_with fail
  refine (unhide CA _).mono ?_
  rintro e w' ⟨rfl, rfl⟩
  go_wp2_with fail
  go_ret
  exact ⟨rfl, Grown.refl _⟩

set_option maxHeartbeats 400000 in
theorem back_out2 (s p c : Int) (w : World) (CA : Hid (∀ w, Calls Try.prog 14 #[.int .i64 s, .int .i64 p, .int .i64 c] w fun e w' => e = .returned (.int .i64 0) ∧ w' = w))
    (h0 : ¬ s < 1) (h1 : 511 < s) :
    Calls Try.prog 5 #[.int .i64 s, .int .i64 p, .int .i64 c] w fun e w' => e = .returned (.bool true) ∧ Grown w w' := by
  go_enter Try.func5, Try.ntmps5
  go_wp2_with fail
  refine (awake_any _).mono ?_
  rintro e w' ⟨rfl, rfl⟩
  go_wp2_with fail
  refine (unhide CA _).mono ?_
  rintro e w' ⟨rfl, rfl⟩
  go_wp2_with fail
  go_ret
  exact ⟨rfl, Grown.refl _⟩

set_option maxHeartbeats 400000 in
theorem back_out3 (s p c : Int) (w : World) (CA : Hid (∀ w, Calls Try.prog 14 #[.int .i64 s, .int .i64 p, .int .i64 c] w fun e w' => e = .returned (.int .i64 0) ∧ w' = w))
    (h0 : ¬ s < 1) (h1 : ¬ 511 < s) (h2 : p < 0) :
    Calls Try.prog 5 #[.int .i64 s, .int .i64 p, .int .i64 c] w fun e w' => e = .returned (.bool true) ∧ Grown w w' := by
  go_enter Try.func5, Try.ntmps5
  go_wp2_with fail
  refine (awake_any _).mono ?_
  rintro e w' ⟨rfl, rfl⟩
  go_wp2_with fail
  refine (unhide CA _).mono ?_
  rintro e w' ⟨rfl, rfl⟩
  go_wp2_with fail
  go_ret
  exact ⟨rfl, Grown.refl _⟩

set_option maxHeartbeats 400000 in
theorem back_next (s p c a g m : Int) (w : World) (CA : Hid (∀ w, Calls Try.prog 14 #[.int .i64 s, .int .i64 p, .int .i64 c] w fun e w' => e = .returned (.int .i64 a) ∧ w' = w))
    (CN : Hid (∀ w, Calls Try.prog 14 #[.int .i64 s, .int .i64 (p + 1), .int .i64 c] w fun e w' => e = .returned (.int .i64 (a + g)) ∧ w' = w))
    (CM : Hid (∀ w, Calls Try.prog 12 #[.int .i64 c] w fun e w' => e = .returned (.int .i64 m) ∧ w' = w))
    (CW : Hid (∀ w, Calls Try.prog 11 #[.int .i64 c] w fun e w' => e = .returned (.int .i64 g) ∧ w' = w))
    (CS : Hid (∀ w, Calls Try.prog 13 #[.int .i64 a] w fun e w' => e = .returned (.int .i64 s) ∧ w' = w))
    (CP : Hid (∀ w, Calls Try.prog 9 #[.int .i64 a, .int .i64 c] w fun e w' => e = .returned (.int .i64 p) ∧ w' = w))
    (hp0 : 0 ≤ p) (hp : p < 32) (ha : 64 ≤ a) (ha2 : a < 32768) (hg0 : 2 ≤ g) (hg : g ≤ 64) (hm : g * m = 64) :
    Calls Try.prog 5 #[.int .i64 s, .int .i64 p, .int .i64 c] w fun e w' => e = .returned (.bool true) ∧ Grown w w' := by
  have ha0 : (a == 0) = false := by simp; omega
  have hn0 : (a + g == 0) = false := by simp; omega
  go_enter Try.func5, Try.ntmps5
  go_wp2_with fail
  refine (awake_any _).mono ?_
  rintro e w' ⟨rfl, rfl⟩
  go_wp2_with fail
  refine (unhide CA _).mono ?_
  rintro e w' ⟨rfl, rfl⟩
  go_wp2_with fail
  refine (unhide CN _).mono ?_
  rintro e w' ⟨rfl, rfl⟩
  go_wp2_with fail
  refine (unhide CS _).mono ?_
  rintro e w' ⟨rfl, rfl⟩
  go_wp2_with fail
  refine (unhide CP _).mono ?_
  rintro e w' ⟨rfl, rfl⟩
  go_wp2_with fail
  refine (unhide CW _).mono ?_
  rintro e w' ⟨rfl, rfl⟩
  go_wp2_with fail
  refine (unhide CM _).mono ?_
  rintro e w' ⟨rfl, rfl⟩
  go_wp2_with fail
  refine (unhide CW _).mono ?_
  rintro e w' ⟨rfl, rfl⟩
  go_wp2_with fail
  go_ret
  exact ⟨b_true (by simp), Grown.refl _⟩

set_option maxHeartbeats 400000 in
theorem back_last (s p c a g m : Int) (w : World) (CA : Hid (∀ w, Calls Try.prog 14 #[.int .i64 s, .int .i64 p, .int .i64 c] w fun e w' => e = .returned (.int .i64 a) ∧ w' = w))
    (CN : Hid (∀ w, Calls Try.prog 14 #[.int .i64 s, .int .i64 (p + 1), .int .i64 c] w fun e w' => e = .returned (.int .i64 0) ∧ w' = w))
    (CM : Hid (∀ w, Calls Try.prog 12 #[.int .i64 c] w fun e w' => e = .returned (.int .i64 m) ∧ w' = w))
    (CW : Hid (∀ w, Calls Try.prog 11 #[.int .i64 c] w fun e w' => e = .returned (.int .i64 g) ∧ w' = w))
    (CS : Hid (∀ w, Calls Try.prog 13 #[.int .i64 a] w fun e w' => e = .returned (.int .i64 s) ∧ w' = w))
    (CP : Hid (∀ w, Calls Try.prog 9 #[.int .i64 a, .int .i64 c] w fun e w' => e = .returned (.int .i64 p) ∧ w' = w))
    (hp0 : 0 ≤ p) (hp : p < 32) (ha : 64 ≤ a) (ha2 : a < 32768) (_hg0 : 2 ≤ g) (_hg : g ≤ 64) (hm : g * m = 64) :
    Calls Try.prog 5 #[.int .i64 s, .int .i64 p, .int .i64 c] w fun e w' => e = .returned (.bool true) ∧ Grown w w' := by
  have ha0 : (a == 0) = false := by simp; omega
  go_enter Try.func5, Try.ntmps5
  go_wp2_with fail
  refine (awake_any _).mono ?_
  rintro e w' ⟨rfl, rfl⟩
  go_wp2_with fail
  refine (unhide CA _).mono ?_
  rintro e w' ⟨rfl, rfl⟩
  go_wp2_with fail
  refine (unhide CN _).mono ?_
  rintro e w' ⟨rfl, rfl⟩
  go_wp2_with fail
  refine (unhide CS _).mono ?_
  rintro e w' ⟨rfl, rfl⟩
  go_wp2_with fail
  refine (unhide CP _).mono ?_
  rintro e w' ⟨rfl, rfl⟩
  go_wp2_with fail
  refine (unhide CW _).mono ?_
  rintro e w' ⟨rfl, rfl⟩
  go_wp2_with fail
  refine (unhide CM _).mono ?_
  rintro e w' ⟨rfl, rfl⟩
  go_wp2_with fail
  go_ret
  exact ⟨rfl, Grown.refl _⟩

theorem as_int {f : FuncId} {args : Array Value} {a b : Int} (h : a = b) (C : ∀ w, Calls Try.prog f args w fun e w' => e = .returned (.int .i64 a) ∧ w' = w) :
    Hid (∀ w, Calls Try.prog f args w fun e w' => e = .returned (.int .i64 b) ∧ w' = w) := by rw [← h]; exact C

theorem walk_GeomBack (a0 a1 a2 : Int) (_w0 : (Lit.int .i64 a0).wf = true) (_w1 : (Lit.int .i64 a1).wf = true) (_w2 : (Lit.int .i64 a2).wf = true) (w : World) :
    Calls Try.prog 5 #[.int .i64 a0, .int .i64 a1, .int .i64 a2] w fun e w' => e = .returned (.bool true) ∧ Grown w w' := by
  have CA := addr_any a0 a1 a2
  have CM := places_any a2
  by_cases h0 : a0 < 1
  · exact back_out1 a0 a1 a2 w (as_int (ga_s0 h0) CA) h0
  by_cases h1 : 511 < a0
  · exact back_out2 a0 a1 a2 w (as_int (ga_s1 h1) CA) h0 h1
  by_cases h2 : a1 < 0
  · exact back_out3 a0 a1 a2 w (as_int (ga_p0 h2) CA) h0 h1 h2
  by_cases h3 : gp a2 ≤ a1
  · exact back_out a0 a1 a2 (gp a2) w (as_int (ga_p1 h3) CA) (hide CM) h0 h1 h2 h3
  obtain ⟨b0, b1, b2, b3, b4⟩ := back_in a0 a1 a2 (by omega) (by omega) (by omega) (by omega)
  have hg := gw_gp a2
  by_cases h4 : a1 + 1 < gp a2
  · have e : ga a0 (a1 + 1) a2 = ga a0 a1 a2 + gw a2 := by
      rw [ga_in (by omega) (by omega) (by omega) h4, ga_in (by omega) (by omega) (by omega) (by omega), Int.add_mul]; omega
    exact back_next a0 a1 a2 _ (gw a2) (gp a2) w (hide CA) (as_int e (addr_any a0 (a1 + 1) a2)) (hide CM) (hide (words_any a2)) (as_int b2 (span_any _)) (as_int b3 (place_any _ a2)) (by omega) (by omega) b0 b1 (by omega) (by omega) (by omega)
  · exact back_last a0 a1 a2 _ (gw a2) (gp a2) w (hide CA) (as_int (ga_p1 (by omega)) (addr_any a0 (a1 + 1) a2)) (hide CM) (hide (words_any a2)) (as_int b2 (span_any _)) (as_int b3 (place_any _ a2)) (by omega) (by omega) b0 b1 (by omega) (by omega) (by omega)

set_option maxRecDepth 100000 in
theorem lifted_GeomBack (os : Os) (started : os.Started) (H : Type) (enc : TypeId × Value → H) :
    ReturnsInHanded {} Try.checked os 5 .any (Rows.geomBackSpec.pre6 enc Try.prog Try.f5 Rows.geomBackRow.domain false) (Rows.geomBackSpec.post enc Try.prog Try.f5 false true false false) := by
  refine returnsInHanded_of_change (C := Try.checked) own started (by kernel_rfl) Try.func5
    (ChangeSpec.witness6 (enc := enc) (C := Try.checked) false ⟨#[], #[.int .i64 0, .int .i64 0, .int .i64 0], []⟩ 8 (by kernel_rfl) (by kernel_rfl) (by kernel_rfl) (by kernel_rfl)) ?_
  intro W base args ds gs before hval0 hW _ _
  have hval : ∀ (j : Nat) t v, Try.f5.params[j]? = some t → args[j]? = some v → Value.okWide Try.prog W .any base t v := hval0
  have hW' := hW
  obtain ⟨p, q, hA0, hV, rfl, hfz, hnd⟩ := hW
  have hA : DataW.TrodAll enc Try.prog W 0 (fun _ => true) true Try.f5.params.toList args.toList ds p := hA0
  rw [Try.params5] at hA hval
  obtain ⟨v0, vs0, d0, ds0, p0, q0, hargs, rfl, rfl, h0, r0⟩ := trodAll_cons hA
  obtain ⟨v1, vs1, d1, ds1, p1, q1, rfl, rfl, rfl, h1, r1⟩ := trodAll_cons r0
  obtain ⟨v2, vs2, d2, ds2, p2, q2, rfl, rfl, rfl, h2, r2⟩ := trodAll_cons r1
  obtain ⟨rfl, rfl, rfl⟩ := trodAll_nil r2
  obtain rfl : args = #[v0, v1, v2] := by cases args; simp_all
  obtain ⟨rfl, rfl⟩ := trodVars_none hV
  obtain ⟨a0, rfl, rfl, rfl, w0⟩ := open_int Try.underlying3 (hval 0 3 v0 rfl rfl) h0
  obtain ⟨a1, rfl, rfl, rfl, w1⟩ := open_int Try.underlying3 (hval 1 3 v1 rfl rfl) h1
  obtain ⟨a2, rfl, rfl, rfl, w2⟩ := open_int Try.underlying3 (hval 2 3 v2 rfl rfl) h2
  clear hA0 hval0
  simp only [List.append_nil] at hW'
  refine (walk_GeomBack a0 a1 a2 w0 w1 w2 W).mono fun e W' ⟨he, hg⟩ => ?_
  subst he
  exact ⟨_, rfl, post_of_same (pa := []) (pv := []) hW' (fun _ _ _ => trodAll_mk1 (shut_bool Try.underlying4 _)) (fun sp _ => (trodAll_cons_mk (shut_int Try.underlying3 w0) (trodAll_cons_mk (shut_int Try.underlying3 w1) (trodAll_cons_mk (shut_int Try.underlying3 w2) trodAll_mk0)))) (fun _ _ => rfl) rfl (hg.frame _) hg.2.1 (ok_one (by kernel_rfl) rfl (okWide_bool_mk Try.underlying4 _))⟩

/-- THE STATEMENT. -/
theorem said_GeomBack : Rows.GeomBackSaid :=
  OpenClaim.holds_of_wide 5 Try.f5 rfl rfl rfl rfl rfl rfl rfl ⟨rfl, rfl, rfl, rfl, rfl⟩ rfl rfl rfl rfl rfl (by kernel_rfl) Try.func5 (by kernel_rfl)
    (of_decide_eq_true (by kernel_rfl)) (by unfold Func.isWrapper; first | (rw [if_pos (by decide +kernel)]; kernel_rfl) | (rw [if_neg (by decide +kernel)]; exact ⟨rfl, rfl⟩))
    (fun os started H enc _ => lifted_GeomBack os started H enc)
#print axioms said_GeomBack
end Go.Proofs.Ytalahfllflcfeaa
