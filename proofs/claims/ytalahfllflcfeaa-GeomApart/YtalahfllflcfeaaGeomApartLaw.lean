/- Statement GeomApart: two places that do not begin alike do not overlap, if they are of one class, or stand in unlike spans. No condition. -/
import Derived.Test.YtalahfllflcfeaaGeomBase
namespace Go.Proofs.Ytalahfllflcfeaa
open Go.ChangeShapes Go.WideShapes Go.ChangeAt Go.RowKit

/-- An address that is not 0 is a place's that there is. -/
theorem ga_where (s p c : Int) (h : ¬ ga s p c = 0) : 1 ≤ s ∧ s ≤ 511 ∧ 0 ≤ p ∧ p < gp c := by
  refine ⟨?_, ?_, ?_, ?_⟩
  · by_cases h1 : s < 1
    · exact absurd (ga_s0 h1) h
    · omega
  · by_cases h1 : 511 < s
    · exact absurd (ga_s1 h1) h
    · omega
  · by_cases h1 : p < 0
    · exact absurd (ga_p0 h1) h
    · omega
  · by_cases h1 : gp c ≤ p
    · exact absurd (ga_p1 h1) h
    · omega

/-- An address lies in its span, with its words. -/
theorem ga_room (s p c : Int) : (ga s p c = 0 ∨ (64 * s ≤ ga s p c ∧ ga s p c + gw c ≤ 64 * s + 64 ∧ 1 ≤ s ∧ s ≤ 511)) ∧ 0 ≤ gw c ∧ gw c ≤ 64 := by
  have hw : 0 ≤ gw c ∧ gw c ≤ 64 := by have := gw_gp c; omega
  refine ⟨?_, hw⟩
  by_cases h : ga s p c = 0
  · exact Or.inl h
  obtain ⟨h0, h1, h2, h3⟩ := ga_where s p c h
  have e := ga_in (s := s) h0 h1 h2 h3
  have := place_room h2 h3
  omega

/-- Two of one class in one span: the next begins where the one ends, at the earliest. -/
theorem ga_step (s p q c : Int) (ha : ¬ ga s p c = 0) (hb : ¬ ga s q c = 0) (h : p < q) : ga s p c + gw c ≤ ga s q c := by
  obtain ⟨h0, h1, h2, h3⟩ := ga_where s p c ha
  obtain ⟨_, _, h4, h5⟩ := ga_where s q c hb
  rw [ga_in h0 h1 h2 h3, ga_in h0 h1 h4 h5]
  have hw : 0 ≤ gw c := by have := gw_gp c; omega
  have e : p * gw c + gw c = (p + 1) * gw c := by rw [Int.add_mul]; simp
  have := Int.mul_le_mul_of_nonneg_right (show p + 1 ≤ q by omega) hw
  omega

theorem apart (s p c t q d : Int) (ha : ¬ ga s p c = 0) (hb : ¬ ga t q d = 0) (hn : ¬ ga s p c = ga t q d) (hc : ¬ (s = t ∧ c ≠ d)) :
    ga s p c + gw c ≤ ga t q d ∨ ga t q d + gw d ≤ ga s p c := by
  by_cases hs : s = t
  · subst hs
    have hd : c = d := by by_cases h : c = d; exact h; exact absurd ⟨rfl, h⟩ hc
    subst hd
    by_cases h : p < q
    · exact Or.inl (ga_step s p q c ha hb h)
    by_cases h' : q < p
    · exact Or.inr (ga_step s q p c hb ha h')
    · obtain rfl : p = q := by omega
      exact absurd rfl hn
  · have r1 := ga_room s p c
    have r2 := ga_room t q d
    omega

set_option maxHeartbeats 400000 in
theorem apart_skip (s p c t q d a b : Int) (w : World)
    (CA : Hid (∀ w, Calls Try.prog 14 #[.int .i64 s, .int .i64 p, .int .i64 c] w fun e w' => e = .returned (.int .i64 a) ∧ w' = w))
    (CB : Hid (∀ w, Calls Try.prog 14 #[.int .i64 t, .int .i64 q, .int .i64 d] w fun e w' => e = .returned (.int .i64 b) ∧ w' = w))
    (h : (a == 0) = true ∨ ((a == 0) = false ∧ (b == 0) = true) ∨ ((a == 0) = false ∧ (b == 0) = false ∧ (a == b) = true) ∨ ((a == 0) = false ∧ (b == 0) = false ∧ (a == b) = false ∧ (s == t) = true ∧ (c == d) = false)) :
    Calls Try.prog 7 #[.int .i64 s, .int .i64 p, .int .i64 c, .int .i64 t, .int .i64 q, .int .i64 d] w fun e w' => e = .returned (.bool true) ∧ Grown w w' := by
  rcases h with h | ⟨h, h1⟩ | ⟨h, h1, h2⟩ | ⟨h, h1, h2, h3, h4⟩
  all_goals
    go_enter Try.func7, Try.ntmps7
    go_wp2_with fail
    refine (awake_any _).mono ?_
    rintro e w' ⟨rfl, rfl⟩
    go_wp2_with fail
    refine (unhide CA _).mono ?_
    rintro e w' ⟨rfl, rfl⟩
    go_wp2_with fail
    refine (unhide CB _).mono ?_
    rintro e w' ⟨rfl, rfl⟩
    go_wp2_with fail
    go_ret
    exact ⟨rfl, Grown.refl _⟩

set_option maxHeartbeats 400000 in
theorem apart_go (s p c t q d a b g k : Int) (w : World)
    (CA : Hid (∀ w, Calls Try.prog 14 #[.int .i64 s, .int .i64 p, .int .i64 c] w fun e w' => e = .returned (.int .i64 a) ∧ w' = w))
    (CB : Hid (∀ w, Calls Try.prog 14 #[.int .i64 t, .int .i64 q, .int .i64 d] w fun e w' => e = .returned (.int .i64 b) ∧ w' = w))
    (CG : Hid (∀ w, Calls Try.prog 11 #[.int .i64 c] w fun e w' => e = .returned (.int .i64 g) ∧ w' = w))
    (CK : Hid (∀ w, Calls Try.prog 11 #[.int .i64 d] w fun e w' => e = .returned (.int .i64 k) ∧ w' = w))
    (h0 : (a == 0) = false) (h1 : (b == 0) = false) (h2 : (a == b) = false) (h3 : (s == t) = false ∨ ((s == t) = true ∧ (c == d) = true))
    (a0 : 0 ≤ a) (a1 : a ≤ 40000) (b0 : 0 ≤ b) (b1 : b ≤ 40000) (g0 : 0 ≤ g) (g1 : g ≤ 64) (k0 : 0 ≤ k) (k1 : k ≤ 64) (hr : a + g ≤ b ∨ (b < a + g ∧ b + k ≤ a)) :
    Calls Try.prog 7 #[.int .i64 s, .int .i64 p, .int .i64 c, .int .i64 t, .int .i64 q, .int .i64 d] w fun e w' => e = .returned (.bool true) ∧ Grown w w' := by
  rcases h3 with h3 | ⟨h3, h4⟩
  all_goals
    rcases hr with hr | ⟨hr, hr2⟩
  all_goals
    go_enter Try.func7, Try.ntmps7
    go_wp2_with fail
    refine (awake_any _).mono ?_
    rintro e w' ⟨rfl, rfl⟩
    go_wp2_with fail
    refine (unhide CA _).mono ?_
    rintro e w' ⟨rfl, rfl⟩
    go_wp2_with fail
    refine (unhide CB _).mono ?_
    rintro e w' ⟨rfl, rfl⟩
    go_wp2_with fail
    refine (unhide CG _).mono ?_
    rintro e w' ⟨rfl, rfl⟩
    go_wp2_with fail
    first
      | (go_ret; exact ⟨b_true (by simp), Grown.refl _⟩)
      | (refine (unhide CK _).mono ?_
         rintro e w' ⟨rfl, rfl⟩
         go_wp2_with fail
         go_ret
         exact ⟨b_true (by simp), Grown.refl _⟩)

theorem walk_GeomApart (a0 a1 a2 a3 a4 a5 : Int) (_w0 : (Lit.int .i64 a0).wf = true) (_w1 : (Lit.int .i64 a1).wf = true) (_w2 : (Lit.int .i64 a2).wf = true) (_w3 : (Lit.int .i64 a3).wf = true) (_w4 : (Lit.int .i64 a4).wf = true) (_w5 : (Lit.int .i64 a5).wf = true) (w : World) :
    Calls Try.prog 7 #[.int .i64 a0, .int .i64 a1, .int .i64 a2, .int .i64 a3, .int .i64 a4, .int .i64 a5] w fun e w' => e = .returned (.bool true) ∧ Grown w w' := by
  have CA := addr_any a0 a1 a2
  have CB := addr_any a3 a4 a5
  by_cases h0 : ga a0 a1 a2 = 0
  · exact apart_skip _ _ _ _ _ _ _ _ w (hide CA) (hide CB) (Or.inl (by simpa using h0))
  have h0' : (ga a0 a1 a2 == 0) = false := by simpa using h0
  by_cases h1 : ga a3 a4 a5 = 0
  · exact apart_skip _ _ _ _ _ _ _ _ w (hide CA) (hide CB) (Or.inr (Or.inl ⟨h0', by simpa using h1⟩))
  have h1' : (ga a3 a4 a5 == 0) = false := by simpa using h1
  by_cases h2 : ga a0 a1 a2 = ga a3 a4 a5
  · exact apart_skip _ _ _ _ _ _ _ _ w (hide CA) (hide CB) (Or.inr (Or.inr (Or.inl ⟨h0', h1', by simpa using h2⟩)))
  have h2' : (ga a0 a1 a2 == ga a3 a4 a5) = false := by simpa using h2
  by_cases h3 : a0 = a3 ∧ a2 ≠ a5
  · exact apart_skip _ _ _ _ _ _ _ _ w (hide CA) (hide CB) (Or.inr (Or.inr (Or.inr ⟨h0', h1', h2', by simpa using h3.1, by simpa using h3.2⟩)))
  have hr := apart a0 a1 a2 a3 a4 a5 h0 h1 h2 h3
  have r1 := ga_room a0 a1 a2
  have r2 := ga_room a3 a4 a5
  refine apart_go _ _ _ _ _ _ _ _ _ _ w (hide CA) (hide CB) (hide (words_any a2)) (hide (words_any a5)) h0' h1' h2' ?_ (by omega) (by omega) (by omega) (by omega) (by omega) (by omega) (by omega) (by omega) (by omega)
  by_cases h4 : a0 = a3
  · refine Or.inr ⟨by simpa using h4, ?_⟩
    by_cases h5 : a2 = a5
    · simpa using h5
    · exact absurd ⟨h4, h5⟩ h3
  · exact Or.inl (by simpa using h4)

set_option maxRecDepth 100000 in
theorem lifted_GeomApart (os : Os) (started : os.Started) (H : Type) (enc : TypeId × Value → H) :
    ReturnsInHanded {} Try.checked os 7 .any (Rows.geomApartSpec.pre6 enc Try.prog Try.f7 Rows.geomApartRow.domain false) (Rows.geomApartSpec.post enc Try.prog Try.f7 false true false false) := by
  refine returnsInHanded_of_change (C := Try.checked) own started (by kernel_rfl) Try.func7
    (ChangeSpec.witness6 (enc := enc) (C := Try.checked) false ⟨#[], #[.int .i64 0, .int .i64 0, .int .i64 0, .int .i64 0, .int .i64 0, .int .i64 0], []⟩ 8 (by kernel_rfl) (by kernel_rfl) (by kernel_rfl) (by kernel_rfl)) ?_
  intro W base args ds gs before hval0 hW _ _
  have hval : ∀ (j : Nat) t v, Try.f7.params[j]? = some t → args[j]? = some v → Value.okWide Try.prog W .any base t v := hval0
  have hW' := hW
  obtain ⟨p, q, hA0, hV, rfl, hfz, hnd⟩ := hW
  have hA : DataW.TrodAll enc Try.prog W 0 (fun _ => true) true Try.f7.params.toList args.toList ds p := hA0
  rw [Try.params7] at hA hval
  obtain ⟨v0, vs0, d0, ds0, p0, q0, hargs, rfl, rfl, h0, r0⟩ := trodAll_cons hA
  obtain ⟨v1, vs1, d1, ds1, p1, q1, rfl, rfl, rfl, h1, r1⟩ := trodAll_cons r0
  obtain ⟨v2, vs2, d2, ds2, p2, q2, rfl, rfl, rfl, h2, r2⟩ := trodAll_cons r1
  obtain ⟨v3, vs3, d3, ds3, p3, q3, rfl, rfl, rfl, h3, r3⟩ := trodAll_cons r2
  obtain ⟨v4, vs4, d4, ds4, p4, q4, rfl, rfl, rfl, h4, r4⟩ := trodAll_cons r3
  obtain ⟨v5, vs5, d5, ds5, p5, q5, rfl, rfl, rfl, h5, r5⟩ := trodAll_cons r4
  obtain ⟨rfl, rfl, rfl⟩ := trodAll_nil r5
  obtain rfl : args = #[v0, v1, v2, v3, v4, v5] := by cases args; simp_all
  obtain ⟨rfl, rfl⟩ := trodVars_none hV
  obtain ⟨a0, rfl, rfl, rfl, w0⟩ := open_int Try.underlying3 (hval 0 3 v0 rfl rfl) h0
  obtain ⟨a1, rfl, rfl, rfl, w1⟩ := open_int Try.underlying3 (hval 1 3 v1 rfl rfl) h1
  obtain ⟨a2, rfl, rfl, rfl, w2⟩ := open_int Try.underlying3 (hval 2 3 v2 rfl rfl) h2
  obtain ⟨a3, rfl, rfl, rfl, w3⟩ := open_int Try.underlying3 (hval 3 3 v3 rfl rfl) h3
  obtain ⟨a4, rfl, rfl, rfl, w4⟩ := open_int Try.underlying3 (hval 4 3 v4 rfl rfl) h4
  obtain ⟨a5, rfl, rfl, rfl, w5⟩ := open_int Try.underlying3 (hval 5 3 v5 rfl rfl) h5
  clear hA0 hval0
  simp only [List.append_nil] at hW'
  refine (walk_GeomApart a0 a1 a2 a3 a4 a5 w0 w1 w2 w3 w4 w5 W).mono fun e W' ⟨he, hg⟩ => ?_
  subst he
  exact ⟨_, rfl, post_of_same (pa := []) (pv := []) hW' (fun _ _ _ => trodAll_mk1 (shut_bool Try.underlying4 _)) (fun sp _ => (trodAll_cons_mk (shut_int Try.underlying3 w0) (trodAll_cons_mk (shut_int Try.underlying3 w1) (trodAll_cons_mk (shut_int Try.underlying3 w2) (trodAll_cons_mk (shut_int Try.underlying3 w3) (trodAll_cons_mk (shut_int Try.underlying3 w4) (trodAll_cons_mk (shut_int Try.underlying3 w5) trodAll_mk0))))))) (fun _ _ => rfl) rfl (hg.frame _) hg.2.1 (ok_one (by kernel_rfl) rfl (okWide_bool_mk Try.underlying4 _))⟩

/-- THE STATEMENT. -/
theorem said_GeomApart : Rows.GeomApartSaid :=
  OpenClaim.holds_of_wide 7 Try.f7 rfl rfl rfl rfl rfl rfl rfl ⟨rfl, rfl, rfl, rfl, rfl⟩ rfl rfl rfl rfl rfl (by kernel_rfl) Try.func7 (by kernel_rfl)
    (of_decide_eq_true (by kernel_rfl)) (by unfold Func.isWrapper; first | (rw [if_pos (by decide +kernel)]; kernel_rfl) | (rw [if_neg (by decide +kernel)]; exact ⟨rfl, rfl⟩))
    (fun os started H enc _ => lifted_GeomApart os started H enc)
#print axioms said_GeomApart
end Go.Proofs.Ytalahfllflcfeaa
