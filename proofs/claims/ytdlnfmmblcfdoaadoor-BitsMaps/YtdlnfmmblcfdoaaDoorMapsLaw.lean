/- BitsMaps of package gantlinelaw1: for all uint64 w, v and int at, n the law answers true; nothing that was there is turned. -/
import Derived.Test.YtdlnfmmblcfdoaaDoorBase
import Derived.Test.YtdlnfmmblcfdoaaDoorRefMaps
import Derived.Test.YtdlnfmmblcfdoaaDoorNextLem
namespace Go.Proofs.YtdlnfmmblcfdoaaDoor
open Go.ChangeShapes Go.WideShapes Go.ChangeAt Go.RowKit

set_option maxHeartbeats 400000 in
theorem rnext_any (x : Nat) (f : Int) (w : World) (hx : x < 18446744073709551616) :
    Calls Tryd.prog 35 #[.int .u64 (x : Int), .int .i64 f] w fun e w' => e = .returned (.int .i64 (nextN x f.toNat : Int)) ∧ w' = w := by
  go_enter Tryd.func35, Tryd.ntmps35
  go_wp2
  go_loop [5] (fun i => ∃ k : Nat, k ≤ 64 ∧ i = .int .i64 k ∧ Hid (∀ j, f.toNat ≤ j → j < k → x.testBit j = false)) (fun i => 64 - (intOf i).toNat)
  case atStart => exact ⟨0, Nat.zero_le _, rfl, hide fun j _ h => absurd h (Nat.not_lt_zero j)⟩
  case round =>
    obtain ⟨k, hk, rfl, HJ⟩ := hrel
    by_cases hlt : k < 64
    · by_cases hf : f ≤ (k : Int)
      · cases hb : bitB x k
        · have HJ2 : Hid (∀ j, f.toNat ≤ j → j < k + 1 → x.testBit j = false) := hide fun j h1 h2 => by
            by_cases e : j = k
            · subst e; exact hb
            · exact unhide HJ j h1 (by omega)
          go_wp2_with (go_at_call 47; refine (bit_any _ _ _ hx (by omega)).mono ?_; rintro e w' ⟨rfl, rfl⟩)
          go_round
          case rel => exact ⟨k + 1, by omega, by go_num, HJ2⟩
          case measure => simp [intOf]; omega
        · have HN := hide (next_hit x f.toNat k hx (by omega) hb (unhide HJ))
          go_wp2_with (go_at_call 47; refine (bit_any _ _ _ hx (by omega)).mono ?_; rintro e w' ⟨rfl, rfl⟩)
          go_ret
          exact ⟨ret_int (by rw [unhide HN]), rfl⟩
      · have HJ2 : Hid (∀ j, f.toNat ≤ j → j < k + 1 → x.testBit j = false) := hide fun j h1 h2 => by
          exact unhide HJ j h1 (by omega)
        go_wp2
        go_round
        case rel => exact ⟨k + 1, by omega, by go_num, HJ2⟩
        case measure => simp [intOf]; omega
    · obtain rfl : k = 64 := by omega
      have HN := hide (next_miss x f.toNat hx (unhide HJ))
      go_wp2
      go_ret
      exact ⟨ret_int (by rw [unhide HN]; rfl), rfl⟩

theorem next_zero (y : Nat) : Lib.ctz 64 y = nextN y 0 := by unfold nextN; simp

theorem first_next (x : Nat) (w : World) (hx : x < 18446744073709551616) (ht : Tab w) :
    Calls Tryd.prog 15 #[.int .u64 (x : Int)] w fun e w' => e = .returned (.int .i64 (nextN (18446744073709551615 - x) 0 : Int)) ∧ w' = w := by
  rw [← next_zero]; exact first_any x w hx ht
theorem rnext_zero (y : Nat) (w : World) (hy : y < 18446744073709551616) :
    Calls Tryd.prog 35 #[.int .u64 (y : Int), .int .i64 0] w fun e w' => e = .returned (.int .i64 (nextN y 0 : Int)) ∧ w' = w := rnext_any y 0 w hy

set_option maxHeartbeats 400000 in
set_option maxRecDepth 100000 in
theorem maps_in (x a n v : Nat) (w : World) (ht : Tab w) (hx : x < 18446744073709551616) (hv : v < 18446744073709551616) (h : a + n ≤ 64) :
    Calls Tryd.prog 5 #[.int .u64 (x : Int), .int .i64 (a : Int), .int .i64 (n : Int), .int .u64 (v : Int)] w fun e w' => e = .returned (.bool true) ∧ Grown w w' := by
  have C := hide (awake_any w ht)
  have HT := hide ht
  have hs : IntKind.u64.signed = false := rfl
  have en := not_eq x hx
  have CF := hide (fun w ht => first_next x w hx ht)
  have hy : 18446744073709551615 - x < 18446744073709551616 := by omega
  clear ht
  generalize 18446744073709551615 - x = y at *
  go_enter Tryd.func5, Tryd.ntmps5
  go_wp2_with fail
  refine (unhide C).mono ?_
  rintro e w1 ⟨rfl, hg, hb⟩
  have HG := hide hg
  have HT1 := hide ((unhide HT).later hb)
  clear hg hb C HT
  go_wp2_with fail
  refine (field_any _ _ _ _ hx h).mono ?_
  rintro e w2 ⟨rfl, k2, rfl⟩
  have HT2 := hide ((unhide HT1).draws k2)
  have HG2 := hide (grown_draws (unhide HG) k2)
  clear HT1 HG
  generalize w1.drewN k2 = w2 at *
  go_wp2_with (first
    | (go_at_call 31; refine (rfield_any _ _ _ _ hx h).mono ?_; rintro e w' ⟨rfl, rfl⟩)
    | (go_at_call 18; refine (with_any _ _ _ _ _ hx h).mono ?_; rintro e w' ⟨rfl, rfl⟩)
    | (go_at_call 32; refine (rwith_any _ _ _ _ _ hx hv h).mono ?_; rintro e w' ⟨rfl, rfl⟩)
    | (go_at_call 33; refine (ones_any _ _ hx).mono ?_; rintro e w' ⟨rfl, rfl⟩)
    | (go_at_call 34; refine (rones_any _ _ hx).mono ?_; rintro e w' ⟨rfl, rfl⟩)
    | (go_at_call 15; refine (unhide CF _ (unhide HT2)).mono ?_; rintro e w' ⟨rfl, rfl⟩))
  refine (rnext_zero _ _ hy).mono ?_
  rintro e w' ⟨rfl, rfl⟩
  go_wp2_with (go_at_call 16; refine (next_any _ _ _ hx (unhide HT2)).mono ?_; rintro e w' ⟨rfl, rfl⟩)
  refine (rnext_any _ _ _ hx).mono ?_
  rintro e w' ⟨rfl, rfl⟩
  go_wp2_with fail
  go_ret
  exact ⟨by simp, unhide HG2⟩

set_option maxHeartbeats 400000 in
set_option maxRecDepth 100000 in
theorem maps_out (x v : Nat) (a n : Int) (w : World) (ht : Tab w) (hx : x < 18446744073709551616) (ha : a ≤ 9223372036854775807) (hn : n ≤ 9223372036854775807) (h : a < 0 ∨ n < 0 ∨ 64 < a + n) :
    Calls Tryd.prog 5 #[.int .u64 (x : Int), .int .i64 a, .int .i64 n, .int .u64 (v : Int)] w fun e w' => e = .returned (.bool true) ∧ Grown w w' := by
  have C := hide (awake_any w ht)
  have HT := hide ht
  have H := hide h
  have hs : IntKind.u64.signed = false := rfl
  have en := not_eq x hx
  have CF := hide (fun w ht => first_next x w hx ht)
  have hy : 18446744073709551615 - x < 18446744073709551616 := by omega
  clear ht h
  generalize 18446744073709551615 - x = y at *
  go_enter Tryd.func5, Tryd.ntmps5
  go_wp2_with fail
  refine (unhide C).mono ?_
  rintro e w2 ⟨rfl, hg, hb⟩
  have HG2 := hide hg
  have HT2 := hide ((unhide HT).later hb)
  clear hg hb C HT
  go_wp2_with (first
    | (go_at_call 17; refine (field_out _ _ _ _ hn (unhide H)).mono ?_; rintro e w' ⟨rfl, rfl⟩)
    | (go_at_call 31; refine (rfield_out _ _ _ _ ha (unhide H)).mono ?_; rintro e w' ⟨rfl, rfl⟩)
    | (go_at_call 18; refine (with_out _ _ _ _ _ hn (unhide H)).mono ?_; rintro e w' ⟨rfl, rfl⟩)
    | (go_at_call 32; refine (rwith_out _ _ _ _ _ ha (unhide H)).mono ?_; rintro e w' ⟨rfl, rfl⟩)
    | (go_at_call 33; refine (ones_any _ _ hx).mono ?_; rintro e w' ⟨rfl, rfl⟩)
    | (go_at_call 34; refine (rones_any _ _ hx).mono ?_; rintro e w' ⟨rfl, rfl⟩)
    | (go_at_call 15; refine (unhide CF _ (unhide HT2)).mono ?_; rintro e w' ⟨rfl, rfl⟩))
  refine (rnext_zero _ _ hy).mono ?_
  rintro e w' ⟨rfl, rfl⟩
  go_wp2_with (go_at_call 16; refine (next_any _ _ _ hx (unhide HT2)).mono ?_; rintro e w' ⟨rfl, rfl⟩)
  refine (rnext_any _ _ _ hx).mono ?_
  rintro e w' ⟨rfl, rfl⟩
  go_wp2_with fail
  go_ret
  exact ⟨by simp, unhide HG2⟩

theorem walk_BitsMaps (a0 a1 a2 a3 : Int) (w0 : (Lit.int .u64 a0).wf = true) (w1 : (Lit.int .i64 a1).wf = true) (w2 : (Lit.int .i64 a2).wf = true) (w3 : (Lit.int .u64 a3).wf = true) (w : World) (ht : Tab w) :
    Calls Tryd.prog 5 #[.int .u64 a0, .int .i64 a1, .int .i64 a2, .int .u64 a3] w fun e w' => e = .returned (.bool true) ∧ Grown w w' := by
  have b0 := bounds_u64 w0
  have b1 := bounds_i64 w1
  have b2 := bounds_i64 w2
  have b3 := bounds_u64 w3
  obtain ⟨x, rfl⟩ := Int.eq_ofNat_of_zero_le b0.1
  obtain ⟨v, rfl⟩ := Int.eq_ofNat_of_zero_le b3.1
  by_cases h : a1 < 0 ∨ a2 < 0 ∨ 64 < a1 + a2
  · exact maps_out x v a1 a2 w ht (by omega) b1.2 b2.2 h
  · obtain ⟨a, rfl⟩ := Int.eq_ofNat_of_zero_le (by omega : 0 ≤ a1)
    obtain ⟨n, rfl⟩ := Int.eq_ofNat_of_zero_le (by omega : 0 ≤ a2)
    exact maps_in x a n v w ht (by omega) (by omega) (by omega)

set_option maxRecDepth 100000 in
theorem lifted_BitsMaps (os : Os) (started : os.Started) (H : Type) (enc : TypeId × Value → H) :
    ReturnsInHanded {} Tryd.checked os 5 .any (fun w args => (Rows.bitsMapsSpec.pre enc Tryd.prog Tryd.f5 [] false w args ∧ laidMetH Tryd.prog laidTab w) ∧ sizedMet enc Tryd.prog Tryd.f5 (OpenSpec.ofChange Rows.bitsMapsSpec) false w args)
      (Rows.bitsMapsSpec.post enc Tryd.prog Tryd.f5 false true false false) := by
  refine returnsInHanded_of_change_and (C := Tryd.checked) (X := fun w _ => laidMetH Tryd.prog laidTab w) (fun _ _ _ hh h => h.of_heap hh) own started (by kernel_rfl) Tryd.func5
    (ChangeSpec.witness_shaped (enc := enc) (C := Tryd.checked) (os := os) (X := fun w _ => laidMetH Tryd.prog laidTab w) false (World.doorLaid Tryd.prog 400 os) #[.int .u64 0, .int .i64 0, .int .i64 0, .int .u64 0] 8 rfl (World.shaped_of_RefB (by kernel_rfl) (by kernel_rfl)) (by kernel_rfl) (by kernel_rfl) (by kernel_rfl) (door_met os _)) ?_
  intro W base args ds gs before hval0 hW _ _ hL _
  have hval : ∀ (j : Nat) t v, Tryd.f5.params[j]? = some t → args[j]? = some v → Value.okWide Tryd.prog W .any base t v := hval0
  have hW' := hW
  obtain ⟨p, q, hA0, hV, rfl, hfz, hnd⟩ := hW
  have hA : DataW.TrodAll enc Tryd.prog W 0 (fun _ => true) true Tryd.f5.params.toList args.toList ds p := hA0
  rw [Tryd.params5] at hA hval
  obtain ⟨v0, vs0, d0, ds0, p0, q0, hargs, rfl, rfl, h0, r0⟩ := trodAll_cons hA
  obtain ⟨v1, vs1, d1, ds1, p1, q1, rfl, rfl, rfl, h1, r1⟩ := trodAll_cons r0
  obtain ⟨v2, vs2, d2, ds2, p2, q2, rfl, rfl, rfl, h2, r2⟩ := trodAll_cons r1
  obtain ⟨v3, vs3, d3, ds3, p3, q3, rfl, rfl, rfl, h3, r3⟩ := trodAll_cons r2
  obtain ⟨rfl, rfl, rfl⟩ := trodAll_nil r3
  obtain rfl : args = #[v0, v1, v2, v3] := by cases args; simp_all
  obtain ⟨rfl, rfl⟩ := trodVars_none hV
  obtain ⟨a0, rfl, rfl, rfl, w0⟩ := open_int Tryd.underlying25 (hval 0 25 v0 rfl rfl) h0
  obtain ⟨a1, rfl, rfl, rfl, w1⟩ := open_int Tryd.underlying3 (hval 1 3 v1 rfl rfl) h1
  obtain ⟨a2, rfl, rfl, rfl, w2⟩ := open_int Tryd.underlying3 (hval 2 3 v2 rfl rfl) h2
  obtain ⟨a3, rfl, rfl, rfl, w3⟩ := open_int Tryd.underlying25 (hval 3 25 v3 rfl rfl) h3
  clear hA0 hval0
  simp only [List.append_nil] at hW'
  refine (walk_BitsMaps a0 a1 a2 a3 w0 w1 w2 w3 W (tab_of_laid hL)).mono fun e W' ⟨he, hg⟩ => ?_
  subst he
  exact ⟨_, rfl, post_of_same (pa := []) (pv := []) hW' (fun _ _ _ => trodAll_mk1 (shut_bool Tryd.underlying4 _)) (fun sp _ => (trodAll_cons_mk (shut_int Tryd.underlying25 w0) (trodAll_cons_mk (shut_int Tryd.underlying3 w1) (trodAll_cons_mk (shut_int Tryd.underlying3 w2) (trodAll_cons_mk (shut_int Tryd.underlying25 w3) trodAll_mk0))))) (fun _ _ => rfl) rfl (hg.frame _) hg.2.1 (ok_one (by kernel_rfl) rfl (okWide_bool_mk Tryd.underlying4 _))⟩

theorem row_BitsMaps : Rows.BitsMapsSaid :=
  OpenClaim.holds_of_wide 5 Tryd.f5 rfl rfl rfl rfl rfl rfl rfl ⟨rfl, rfl, rfl, rfl, rfl⟩ rfl rfl rfl rfl rfl (by kernel_rfl) Tryd.func5 (by kernel_rfl)
    (of_decide_eq_true (by kernel_rfl)) (by unfold Func.isWrapper; first | (rw [if_pos (by decide +kernel)]; kernel_rfl) | (rw [if_neg (by decide +kernel)]; exact ⟨rfl, rfl⟩))
    (fun os started H enc _ => lifted_BitsMaps os started H enc)

/-- THE STATEMENT. -/
theorem card_BitsMaps : Rows.BitsMapsCardSaid :=
  Claim7.holds_tied_plain_at .later [] [.data] true (true, "90ed200b407e4f485d80c22479b6c205794185d05fc6b5f6f246b5c2b83577b9") false
    row_BitsMaps (fun _ h => by cases h) (by kernel_rfl) (fun _ h => by cases h) bitsMaps_row_tie rfl ⟨rfl, rfl⟩ (by kernel_rfl) rfl
    (fun f fn hf hfn => by
      obtain rfl : f = 5 := Option.some.inj ((show Tryd.prog.funcNamed "gantline/gantlinelaw1.BitsMaps" = some 5 by kernel_rfl).symm.trans hf) |>.symm
      obtain rfl : fn = Tryd.f5 := (Option.some.inj (Tryd.func5.symm.trans hfn)).symm
      exact ⟨by kernel_rfl, fun j t ht => by
        rw [Tryd.params5] at ht
        have hm : t ∈ [25, 3, 3, 25] := by simpa using Array.mem_of_getElem? ht
        have hall : ([25, 3, 3, 25].all fun u => !Tryd.prog.wantsStandIn u) = true := by kernel_rfl
        exact (show Tryd.prog.wantsStandIn t = false by simpa using List.all_eq_true.1 hall t hm)⟩)
    (by kernel_rfl)
#print axioms card_BitsMaps
end Go.Proofs.YtdlnfmmblcfdoaaDoor
