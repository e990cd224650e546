/- Statement GeomSays: classes, spans, places, addresses of any numbers are what the document says (P2.1). No condition. -/
import Derived.Test.YtalahfllflcfeaaGeomRef
namespace Go.Proofs.Ytalahfllflcfeaa
open Go.ChangeShapes Go.WideShapes Go.ChangeAt Go.RowKit

/-- The word whose lowest k bits are 1. -/
def lowN (k : Nat) : Nat := 2 ^ k - 1
theorem lowN_bd (k : Nat) (h : k ≤ 32) : lowN k < 18446744073709551616 := by
  have : 2 ^ k ≤ 2 ^ 32 := Nat.pow_le_pow_right (by decide) h
  unfold lowN; omega
theorem lowN_step (k : Nat) (h : k < 32) : bits .or .u64 (lowN k : Int) (IntKind.u64.wrap (2 ^ k)) = (lowN (k + 1) : Int) := by
  have H : ∀ k : Fin 32, bits .or .u64 (lowN k.val : Int) (IntKind.u64.wrap (2 ^ k.val)) = (lowN (k.val + 1) : Int) := by decide +kernel
  exact H ⟨k, h⟩
theorem lowN_full (c : Int) (k : Nat) (h : (k : Int) = gp c) : gf c = (lowN k : Int) := by
  rcases cls c with h1 | h1 | h1 | h1 | h1 | h1 | h1 | h1
  · rw [gp_lo h1] at h; obtain rfl : k = 0 := by omega
    rw [gf_lo h1]; rfl
  · rw [gp_hi h1] at h; obtain rfl : k = 0 := by omega
    rw [gf_hi h1]; rfl
  · subst h1; obtain rfl : k = 32 := by simp [gp] at h; omega
    rfl
  · subst h1; obtain rfl : k = 16 := by simp [gp] at h; omega
    rfl
  · subst h1; obtain rfl : k = 8 := by simp [gp] at h; omega
    rfl
  · subst h1; obtain rfl : k = 4 := by simp [gp] at h; omega
    rfl
  · subst h1; obtain rfl : k = 2 := by simp [gp] at h; omega
    rfl
  · subst h1; obtain rfl : k = 1 := by simp [gp] at h; omega
    rfl

/-- 'Returns v, and lays at most new blocks', whatever the world. -/
def Says (f : FuncId) (args : Array Value) (v : Value) : Prop := ∀ w, Calls Try.prog f args w fun e w' => e = .returned v ∧ Grown w w'
theorem Says.of_same {f : FuncId} {args : Array Value} {v : Value} (h : ∀ w, Calls Try.prog f args w fun e w' => e = .returned v ∧ w' = w) : Says f args v :=
  fun w => (h w).mono fun _ _ ⟨a, b⟩ => ⟨a, by rw [b]; exact Grown.refl _⟩

set_option maxHeartbeats 1000000 in
theorem says_walk (words class_ addr span place vc vw vs vpl va vf : Int) (n : Nat) (hn : n ≤ 32) (w : World)
    (C1 : Hid (Says 10 #[.int .i64 words] (.int .i64 vc))) (D1 : Hid (Says 17 #[.int .i64 words] (.int .i64 vc)))
    (C2 : Hid (Says 11 #[.int .i64 class_] (.int .i64 vw))) (D2 : Hid (Says 18 #[.int .i64 class_] (.int .i64 vw)))
    (C3 : Hid (Says 12 #[.int .i64 class_] (.int .i64 (n : Int)))) (D3 : Hid (Says 16 #[.int .i64 class_] (.int .i64 (n : Int))))
    (C4 : Hid (Says 13 #[.int .i64 addr] (.int .i64 vs))) (D4 : Hid (Says 19 #[.int .i64 addr] (.int .i64 vs)))
    (C5 : Hid (Says 9 #[.int .i64 addr, .int .i64 class_] (.int .i64 vpl))) (D5 : Hid (Says 20 #[.int .i64 addr, .int .i64 class_] (.int .i64 vpl)))
    (C6 : Hid (Says 14 #[.int .i64 span, .int .i64 place, .int .i64 class_] (.int .i64 va))) (D6 : Hid (Says 21 #[.int .i64 span, .int .i64 place, .int .i64 class_] (.int .i64 va)))
    (C7 : Hid (Says 15 #[.int .i64 class_] (.int .u64 vf))) (hf : Hid (vf = (lowN n : Int))) :
    Calls Try.prog 4 #[.int .i64 words, .int .i64 class_, .int .i64 addr, .int .i64 span, .int .i64 place] w fun e w' => e = .returned (.bool true) ∧ Grown w w' := by
  go_enter Try.func4, Try.ntmps4
  go_wp2_with fail
  refine (Says.of_same awake_any _).mono ?_
  rintro e w0 ⟨rfl, hg⟩
  have HG0 := hide hg
  clear hg
  go_wp2_with fail
  go_loopw [11, 12] (fun full i wr => ∃ k : Nat, k ≤ n ∧ i = .int .i64 k ∧ full = .int .u64 (lowN k : Int) ∧ Hid (Grown w wr)) (fun _ i _ => n - (intOf i).toNat)
  case atStart => exact ⟨0, Nat.zero_le _, rfl, rfl, HG0⟩
  case round =>
    obtain ⟨k, hk, rfl, rfl, HG⟩ := hrel
    clear HG0
    have hb := lowN_bd k (by omega)
    by_cases hlt : k < n
    · have HS := hide (lowN_step k (by omega))
      have hb2 := lowN_bd (k + 1) (by omega)
      go_wp2_with fail
      refine (unhide D3 _).mono ?_
      rintro e w1 ⟨rfl, hg⟩
      have HG1 := hide (grown_trans (unhide HG) hg)
      clear hg HG
      go_wp2_with fail
      go_roundw
      case rel => exact ⟨k + 1, by omega, by go_num, by (refine congrArg (Value.int IntKind.u64) ?_; exact unhide HS), HG1⟩
      case measure => simp [intOf]; omega
    · obtain rfl : k = n := by omega
      have hff := unhide hf
      subst hff
      generalize (lowN k : Int) = vf at *
      go_wp2_with fail
      refine (unhide D3 _).mono ?_
      rintro e w1 ⟨rfl, hg⟩
      have HG1 := hide (grown_trans (unhide HG) hg)
      clear hg HG
      go_wp2_with fail
      refine (unhide C1 _).mono ?_
      rintro e w2 ⟨rfl, hg⟩
      have HG2 := hide (grown_trans (unhide HG1) hg)
      clear hg HG1
      go_wp2_with fail
      refine (unhide D1 _).mono ?_
      rintro e w3 ⟨rfl, hg⟩
      have HG3 := hide (grown_trans (unhide HG2) hg)
      clear hg HG2
      go_wp2_with fail
      refine (unhide C2 _).mono ?_
      rintro e w4 ⟨rfl, hg⟩
      have HG4 := hide (grown_trans (unhide HG3) hg)
      clear hg HG3
      go_wp2_with fail
      refine (unhide D2 _).mono ?_
      rintro e w5 ⟨rfl, hg⟩
      have HG5 := hide (grown_trans (unhide HG4) hg)
      clear hg HG4
      go_wp2_with fail
      refine (unhide C3 _).mono ?_
      rintro e w6 ⟨rfl, hg⟩
      have HG6 := hide (grown_trans (unhide HG5) hg)
      clear hg HG5
      go_wp2_with fail
      refine (unhide D3 _).mono ?_
      rintro e w7 ⟨rfl, hg⟩
      have HG7 := hide (grown_trans (unhide HG6) hg)
      clear hg HG6
      go_wp2_with fail
      refine (unhide C4 _).mono ?_
      rintro e w8 ⟨rfl, hg⟩
      have HG8 := hide (grown_trans (unhide HG7) hg)
      clear hg HG7
      go_wp2_with fail
      refine (unhide D4 _).mono ?_
      rintro e w9 ⟨rfl, hg⟩
      have HG9 := hide (grown_trans (unhide HG8) hg)
      clear hg HG8
      go_wp2_with fail
      refine (unhide C5 _).mono ?_
      rintro e w10 ⟨rfl, hg⟩
      have HG10 := hide (grown_trans (unhide HG9) hg)
      clear hg HG9
      go_wp2_with fail
      refine (unhide D5 _).mono ?_
      rintro e w11 ⟨rfl, hg⟩
      have HG11 := hide (grown_trans (unhide HG10) hg)
      clear hg HG10
      go_wp2_with fail
      refine (unhide C6 _).mono ?_
      rintro e w12 ⟨rfl, hg⟩
      have HG12 := hide (grown_trans (unhide HG11) hg)
      clear hg HG11
      go_wp2_with fail
      refine (unhide D6 _).mono ?_
      rintro e w13 ⟨rfl, hg⟩
      have HG13 := hide (grown_trans (unhide HG12) hg)
      clear hg HG12
      go_wp2_with fail
      refine (unhide C7 _).mono ?_
      rintro e w14 ⟨rfl, hg⟩
      have HG14 := hide (grown_trans (unhide HG13) hg)
      clear hg HG13
      go_wp2_with fail
      go_ret
      exact ⟨rfl, unhide HG14⟩

theorem walk_GeomSays (a0 a1 a2 a3 a4 : Int) (_w0 : (Lit.int .i64 a0).wf = true) (_w1 : (Lit.int .i64 a1).wf = true) (_w2 : (Lit.int .i64 a2).wf = true) (_w3 : (Lit.int .i64 a3).wf = true) (_w4 : (Lit.int .i64 a4).wf = true) (w : World) :
    Calls Try.prog 4 #[.int .i64 a0, .int .i64 a1, .int .i64 a2, .int .i64 a3, .int .i64 a4] w fun e w' => e = .returned (.bool true) ∧ Grown w w' := by
  have hp : 0 ≤ gp a1 ∧ gp a1 ≤ 32 := by have := gw_gp a1; omega
  obtain ⟨n, hn⟩ := Int.eq_ofNat_of_zero_le hp.1
  have C3 := Says.of_same (places_any a1)
  have D3 : Says 16 #[.int .i64 a1] (.int .i64 (gp a1)) := rplaces_any a1
  have hf := lowN_full a1 n hn.symm
  rw [hn] at C3 D3 hp
  exact says_walk a0 a1 a2 a3 a4 _ _ _ _ _ _ n (by omega) w (Says.of_same (class_any a0)) (rclass_any a0) (Says.of_same (words_any a1)) (rwords_any a1) C3 D3
    (Says.of_same (span_any a2)) (Says.of_same (rspan_any a2)) (Says.of_same (place_any a2 a1)) (rplace_any a2 a1) (Says.of_same (addr_any a3 a4 a1)) (raddr_any a3 a4 a1) (Says.of_same (full_any a1)) hf

set_option maxRecDepth 100000 in
theorem lifted_GeomSays (os : Os) (started : os.Started) (H : Type) (enc : TypeId × Value → H) :
    ReturnsInHanded {} Try.checked os 4 .any (Rows.geomSaysSpec.pre6 enc Try.prog Try.f4 Rows.geomSaysRow.domain false) (Rows.geomSaysSpec.post enc Try.prog Try.f4 false true false false) := by
  refine returnsInHanded_of_change (C := Try.checked) own started (by kernel_rfl) Try.func4
    (ChangeSpec.witness6 (enc := enc) (C := Try.checked) false ⟨#[], #[.int .i64 0, .int .i64 0, .int .i64 0, .int .i64 0, .int .i64 0], []⟩ 8 (by kernel_rfl) (by kernel_rfl) (by kernel_rfl) (by kernel_rfl)) ?_
  intro W base args ds gs before hval0 hW _ _
  have hval : ∀ (j : Nat) t v, Try.f4.params[j]? = some t → args[j]? = some v → Value.okWide Try.prog W .any base t v := hval0
  have hW' := hW
  obtain ⟨p, q, hA0, hV, rfl, hfz, hnd⟩ := hW
  have hA : DataW.TrodAll enc Try.prog W 0 (fun _ => true) true Try.f4.params.toList args.toList ds p := hA0
  rw [Try.params4] at hA hval
  obtain ⟨v0, vs0, d0, ds0, p0, q0, hargs, rfl, rfl, h0, r0⟩ := trodAll_cons hA
  obtain ⟨v1, vs1, d1, ds1, p1, q1, rfl, rfl, rfl, h1, r1⟩ := trodAll_cons r0
  obtain ⟨v2, vs2, d2, ds2, p2, q2, rfl, rfl, rfl, h2, r2⟩ := trodAll_cons r1
  obtain ⟨v3, vs3, d3, ds3, p3, q3, rfl, rfl, rfl, h3, r3⟩ := trodAll_cons r2
  obtain ⟨v4, vs4, d4, ds4, p4, q4, rfl, rfl, rfl, h4, r4⟩ := trodAll_cons r3
  obtain ⟨rfl, rfl, rfl⟩ := trodAll_nil r4
  obtain rfl : args = #[v0, v1, v2, v3, v4] := by cases args; simp_all
  obtain ⟨rfl, rfl⟩ := trodVars_none hV
  obtain ⟨a0, rfl, rfl, rfl, w0⟩ := open_int Try.underlying3 (hval 0 3 v0 rfl rfl) h0
  obtain ⟨a1, rfl, rfl, rfl, w1⟩ := open_int Try.underlying3 (hval 1 3 v1 rfl rfl) h1
  obtain ⟨a2, rfl, rfl, rfl, w2⟩ := open_int Try.underlying2 (hval 2 2 v2 rfl rfl) h2
  obtain ⟨a3, rfl, rfl, rfl, w3⟩ := open_int Try.underlying3 (hval 3 3 v3 rfl rfl) h3
  obtain ⟨a4, rfl, rfl, rfl, w4⟩ := open_int Try.underlying3 (hval 4 3 v4 rfl rfl) h4
  clear hA0 hval0
  simp only [List.append_nil] at hW'
  refine (walk_GeomSays a0 a1 a2 a3 a4 w0 w1 w2 w3 w4 W).mono fun e W' ⟨he, hg⟩ => ?_
  subst he
  exact ⟨_, rfl, post_of_same (pa := []) (pv := []) hW' (fun _ _ _ => trodAll_mk1 (shut_bool Try.underlying4 _)) (fun sp _ => (trodAll_cons_mk (shut_int Try.underlying3 w0) (trodAll_cons_mk (shut_int Try.underlying3 w1) (trodAll_cons_mk (shut_int Try.underlying2 w2) (trodAll_cons_mk (shut_int Try.underlying3 w3) (trodAll_cons_mk (shut_int Try.underlying3 w4) trodAll_mk0)))))) (fun _ _ => rfl) rfl (hg.frame _) hg.2.1 (ok_one (by kernel_rfl) rfl (okWide_bool_mk Try.underlying4 _))⟩

/-- THE STATEMENT. -/
theorem said_GeomSays : Rows.GeomSaysSaid :=
  OpenClaim.holds_of_wide 4 Try.f4 rfl rfl rfl rfl rfl rfl rfl ⟨rfl, rfl, rfl, rfl, rfl⟩ rfl rfl rfl rfl rfl (by kernel_rfl) Try.func4 (by kernel_rfl)
    (of_decide_eq_true (by kernel_rfl)) (by unfold Func.isWrapper; first | (rw [if_pos (by decide +kernel)]; kernel_rfl) | (rw [if_neg (by decide +kernel)]; exact ⟨rfl, rfl⟩))
    (fun os started H enc _ => lifted_GeomSays os started H enc)
#print axioms said_GeomSays
end Go.Proofs.Ytalahfllflcfeaa
