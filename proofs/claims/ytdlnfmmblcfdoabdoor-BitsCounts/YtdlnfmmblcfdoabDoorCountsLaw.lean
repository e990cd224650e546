/- BitsCounts of package gantlinelaw1: for every uint64 w the law answers true; nothing that was there is turned. -/
import Derived.Test.YtdlnfmmblcfdoabDoorBase
import Derived.Test.YtdlnfmmblcfdoabDoorOnes
import Derived.Test.YtdlnfmmblcfdoabDoorNextLem
namespace Go.Proofs.YtdlnfmmblcfdoabDoor
open Go.ChangeShapes Go.WideShapes Go.ChangeAt Go.RowKit

theorem pop_tb (k x : Nat) : popF (k + 1) x = popF k x + if x.testBit k then 1 else 0 := by
  rw [popF_succ, Nat.testBit_eq_decide_div_mod_eq]
  have : x / 2 ^ k % 2 < 2 := Nat.mod_lt _ (by decide)
  by_cases h : x / 2 ^ k % 2 = 1
  · simp [h]
  · simp [h]; omega

theorem pop_flat (x f : Nat) : ∀ d, (∀ j, f ≤ j → j < f + d → x.testBit j = false) → popF (f + d) x = popF f x
  | 0, _ => rfl
  | d + 1, h => by
    rw [← Nat.add_assoc, pop_tb, pop_flat x f d (fun j h1 h2 => h j h1 (by omega)), h (f + d) (by omega) (by omega)]; simp

/-- Where the rounds stand: at the next bit from some f on, with the bits below f counted. -/
def CountAt (x k c : Nat) : Prop := ∃ f, f ≤ 64 ∧ k = nextN x f ∧ c = popF f x

theorem count_step (x k c : Nat) (hx : x < 18446744073709551616) (h : CountAt x k c) (hk : k < 64) : x.testBit k = true ∧ c + 1 ≤ 64 ∧ CountAt x (nextN x (k + 1)) (c + 1) ∧ k < nextN x (k + 1) ∧ nextN x (k + 1) ≤ 64 := by
  obtain ⟨f, hf, rfl, rfl⟩ := h
  rcases next_spec x f hx with ⟨h64, _⟩ | ⟨_, hle, hb, hl⟩
  · omega
  · obtain ⟨d, hd⟩ : ∃ d, nextN x f = f + d := ⟨nextN x f - f, by omega⟩
    have hp : popF (nextN x f + 1) x = popF f x + 1 := by
      rw [pop_tb, hb, hd, pop_flat x f d (fun j h1 h2 => hl j h1 (by omega))]; simp
    have h4 := popF_le (nextN x f + 1) x
    refine ⟨hb, by omega, ⟨nextN x f + 1, by omega, rfl, hp.symm⟩, ?_⟩
    rcases next_spec x (nextN x f + 1) hx with ⟨e, _⟩ | ⟨e1, e2, _, _⟩ <;> omega

theorem count_end (x c : Nat) (hx : x < 18446744073709551616) (h : CountAt x 64 c) : c = popF 64 x := by
  obtain ⟨f, hf, hk, rfl⟩ := h
  rcases next_spec x f hx with ⟨_, hl⟩ | ⟨h64, _⟩
  · have := pop_flat x f (64 - f) (fun j h1 _ => hl j h1)
    rw [show f + (64 - f) = 64 by omega] at this
    exact this.symm
  · omega

theorem field_bit1 (x k : Nat) (h : x.testBit k = true) : ((fieldN x k 1 : Int) != 1) = false := by
  rw [Nat.testBit_eq_decide_div_mod_eq] at h
  have h1 : x / 2 ^ k % 2 = 1 := by simpa using h
  have : fieldN x k 1 = 1 := by unfold fieldN; simpa using h1
  rw [this]; simp

theorem field_one (x p : Nat) (w : World) (hx : x < 18446744073709551616) (h : p ≤ 63) :
    Calls Tryd.prog 8 #[.int .u64 (x : Int), .int .i64 (p : Int), .int .i64 1] w fun e w' => e = .returned (.int .u64 (fieldN x p 1 : Int)) ∧ ∃ k, w' = w.drewN k := field_any x p 1 w hx (by omega)
theorem next_zero0 (x : Nat) (w : World) (hx : x < 18446744073709551616) (ht : Tab w) :
    Calls Tryd.prog 9 #[.int .u64 (x : Int), .int .i64 0] w fun e w' => e = .returned (.int .i64 (nextN x 0 : Int)) ∧ w' = w := next_any x 0 w hx ht
theorem next_succ (x k : Nat) (w : World) (hx : x < 18446744073709551616) (ht : Tab w) :
    Calls Tryd.prog 9 #[.int .u64 (x : Int), .int .i64 ((k : Int) + 1)] w fun e w' => e = .returned (.int .i64 (nextN x (k + 1) : Int)) ∧ w' = w := by
  have := next_any x ((k : Int) + 1) w hx ht
  rw [show ((k : Int) + 1).toNat = k + 1 by omega] at this
  exact this
theorem ctz_next (y : Nat) : Lib.ctz 64 y = nextN y 0 := by unfold nextN; simp
theorem first_next (x : Nat) (w : World) (hx : x < 18446744073709551616) (ht : Tab w) :
    Calls Tryd.prog 11 #[.int .u64 (x : Int)] w fun e w' => e = .returned (.int .i64 (nextN (18446744073709551615 - x) 0 : Int)) ∧ w' = w := by
  rw [← ctz_next]; exact first_any x w hx ht

theorem next_le (x f : Nat) (hx : x < 18446744073709551616) : nextN x f ≤ 64 := by
  rcases next_spec x f hx with ⟨e, _⟩ | ⟨e1, _⟩ <;> omega

theorem counts_end (x y c : Nat) (hx : x < 18446744073709551616) (hy : y < 18446744073709551616) (hyx : x + y + 1 = 2 ^ 64) (h : CountAt x 64 c) :
    ∃ q : Nat, q ≤ 64 ∧ c + q = 64 ∧ Hid (∀ w, Calls Tryd.prog 10 #[.int .u64 (x : Int)] w fun e w' => e = .returned (.int .i64 (c : Int)) ∧ w' = w)
      ∧ Hid (∀ w, Calls Tryd.prog 10 #[.int .u64 (y : Int)] w fun e w' => e = .returned (.int .i64 (q : Int)) ∧ w' = w) := by
  have e := count_end x c hx h
  refine ⟨popF 64 y, popF_le 64 y, ?_, fun w => ?_, fun w => ones_any y w hy⟩
  · rw [e]; exact popF_not 64 x y hyx
  · rw [e]; exact ones_any x w hx

set_option maxHeartbeats 600000 in
set_option maxRecDepth 100000 in
theorem counts_walk (x : Nat) (w : World) (ht : Tab w) (hx : x < 18446744073709551616) :
    Calls Tryd.prog 4 #[.int .u64 (x : Int)] w fun e w' => e = .returned (.bool true) ∧ Grown w w' := by
  have C := hide (awake_any w ht)
  have HT := hide ht
  have hs : IntKind.u64.signed = false := rfl
  have en := not_eq x hx
  have CF := hide (fun w ht => first_next x w hx ht)
  have hy : 18446744073709551615 - x < 18446744073709551616 := by omega
  have hyx : x + (18446744073709551615 - x) + 1 = 2 ^ 64 := by omega
  clear ht
  generalize 18446744073709551615 - x = y at *
  have HYX := hide hyx
  clear hyx
  go_enter Tryd.func4, Tryd.ntmps4
  go_wp2_with fail
  refine (unhide C).mono ?_
  rintro e w1 ⟨rfl, hg, hb⟩
  have HG := hide hg
  have HT1 := hide ((unhide HT).later hb)
  clear hg hb C HT
  go_wp2_with fail
  refine (next_zero0 _ _ hx (unhide HT1)).mono ?_
  rintro e w' ⟨rfl, rfl⟩
  go_wp2_with fail
  go_loopw [3, 4] (fun n i wr => ∃ k c : Nat, k ≤ 64 ∧ c ≤ 64 ∧ i = .int .i64 k ∧ n = .int .i64 c ∧ Hid (CountAt x k c) ∧ Hid (Grown w wr) ∧ Hid (Tab wr)) (fun _ i _ => 64 - (intOf i).toNat)
  case atStart => exact ⟨_, 0, next_le x 0 hx, by omega, rfl, rfl, ⟨0, by omega, rfl, rfl⟩, HG, HT1⟩
  case round =>
    obtain ⟨k, c, hk, hc, rfl, rfl, HC, HGr, HTr⟩ := hrel
    by_cases hlt : k < 64
    · have st := count_step x k c hx (unhide HC) hlt
      have hc1 : ¬ (64 : Int) < (c : Int) + 1 := by omega
      have f1 := field_bit1 x k st.1
      have HC2 := hide st.2.2.1
      have HL2 := hide st.2.2.2
      clear HC st HT1 HG CF HYX
      go_wp2_with fail
      refine (field_one _ _ _ hx (by omega)).mono ?_
      rintro e w2 ⟨rfl, k2, rfl⟩
      go_wp2_with fail
      refine (next_succ _ _ _ hx ((unhide HTr).draws k2)).mono ?_
      rintro e w' ⟨rfl, hw'⟩
      have HG2 : Hid (Grown w w') := by rw [hw']; exact grown_draws (unhide HGr) k2
      have HT2 : Hid (Tab w') := by rw [hw']; exact (unhide HTr).draws k2
      clear hw'
      go_wp2_with fail
      go_roundw
      case rel => exact ⟨nextN x (k + 1), c + 1, (unhide HL2).2, by omega, by go_num, by go_num, HC2, HG2, HT2⟩
      case measure => have hl := unhide HL2; simp [intOf]; omega
    · obtain rfl : k = 64 := by omega
      obtain ⟨q, hq, hpq, C1, C2⟩ := counts_end x y c hx hy (unhide HYX) (unhide HC)
      clear HC HT1 HG HYX
      have s1 : ((c : Int) + (q : Int) == 64) = true := by simp; omega
      clear hpq
      go_wp2_with fail
      refine (unhide C1 _).mono ?_
      rintro e w' ⟨rfl, rfl⟩
      go_wp2_with fail
      refine (unhide C1 _).mono ?_
      rintro e w' ⟨rfl, rfl⟩
      go_wp2_with fail
      refine (unhide C2 _).mono ?_
      rintro e w' ⟨rfl, rfl⟩
      go_wp2_with fail
      refine (unhide CF _ (unhide HTr)).mono ?_
      rintro e w' ⟨rfl, rfl⟩
      go_wp2_with fail
      refine (next_zero0 _ _ hy (unhide HTr)).mono ?_
      rintro e w' ⟨rfl, rfl⟩
      go_wp2_with fail
      go_ret
      exact ⟨by simp, unhide HGr⟩

theorem walk_BitsCounts (a0 : Int) (w0 : (Lit.int .u64 a0).wf = true) (w : World) (ht : Tab w) :
    Calls Tryd.prog 4 #[.int .u64 a0] w fun e w' => e = .returned (.bool true) ∧ Grown w w' := by
  have b0 := bounds_u64 w0
  obtain ⟨x, rfl⟩ := Int.eq_ofNat_of_zero_le b0.1
  exact counts_walk x w ht (by omega)

set_option maxRecDepth 100000 in
theorem lifted_BitsCounts (os : Os) (started : os.Started) (H : Type) (enc : TypeId × Value → H) :
    ReturnsInHanded {} Tryd.checked os 4 .any (fun w args => (Rows.bitsCountsSpec.pre enc Tryd.prog Tryd.f4 [] false w args ∧ laidMetH Tryd.prog laidTab w) ∧ sizedMet enc Tryd.prog Tryd.f4 (OpenSpec.ofChange Rows.bitsCountsSpec) false w args)
      (Rows.bitsCountsSpec.post enc Tryd.prog Tryd.f4 false true false false) := by
  refine returnsInHanded_of_change_and (C := Tryd.checked) (X := fun w _ => laidMetH Tryd.prog laidTab w) (fun _ _ _ hh h => h.of_heap hh) own started (by kernel_rfl) Tryd.func4
    (ChangeSpec.witness_shaped (enc := enc) (C := Tryd.checked) (os := os) (X := fun w _ => laidMetH Tryd.prog laidTab w) false (World.doorLaid Tryd.prog 400 os) #[.int .u64 0] 8 rfl (World.shaped_of_RefB (by kernel_rfl) (by kernel_rfl)) (by kernel_rfl) (by kernel_rfl) (by kernel_rfl) (door_met os _)) ?_
  intro W base args ds gs before hval0 hW _ _ hL _
  have hval : ∀ (j : Nat) t v, Tryd.f4.params[j]? = some t → args[j]? = some v → Value.okWide Tryd.prog W .any base t v := hval0
  have hW' := hW
  obtain ⟨p, q, hA0, hV, rfl, hfz, hnd⟩ := hW
  have hA : DataW.TrodAll enc Tryd.prog W 0 (fun _ => true) true Tryd.f4.params.toList args.toList ds p := hA0
  rw [Tryd.params4] at hA hval
  obtain ⟨v0, vs0, d0, ds0, p0, q0, hargs, rfl, rfl, h0, r0⟩ := trodAll_cons hA
  obtain ⟨rfl, rfl, rfl⟩ := trodAll_nil r0
  obtain rfl : args = #[v0] := by cases args; simp_all
  obtain ⟨rfl, rfl⟩ := trodVars_none hV
  obtain ⟨a0, rfl, rfl, rfl, w0⟩ := open_int Tryd.underlying22 (hval 0 22 v0 rfl rfl) h0
  clear hA0 hval0
  simp only [List.append_nil] at hW'
  refine (walk_BitsCounts a0 w0 W (tab_of_laid hL)).mono fun e W' ⟨he, hg⟩ => ?_
  subst he
  exact ⟨_, rfl, post_of_same (pa := []) (pv := []) hW' (fun _ _ _ => trodAll_mk1 (shut_bool Tryd.underlying4 _)) (fun sp _ => (trodAll_cons_mk (shut_int Tryd.underlying22 w0) trodAll_mk0)) (fun _ _ => rfl) rfl (hg.frame _) hg.2.1 (ok_one (by kernel_rfl) rfl (okWide_bool_mk Tryd.underlying4 _))⟩

theorem row_BitsCounts : Rows.BitsCountsSaid :=
  OpenClaim.holds_of_wide 4 Tryd.f4 rfl rfl rfl rfl rfl rfl rfl ⟨rfl, rfl, rfl, rfl, rfl⟩ rfl rfl rfl rfl rfl (by kernel_rfl) Tryd.func4 (by kernel_rfl)
    (of_decide_eq_true (by kernel_rfl)) (by unfold Func.isWrapper; first | (rw [if_pos (by decide +kernel)]; kernel_rfl) | (rw [if_neg (by decide +kernel)]; exact ⟨rfl, rfl⟩))
    (fun os started H enc _ => lifted_BitsCounts os started H enc)

/-- THE STATEMENT. -/
theorem card_BitsCounts : Rows.BitsCountsCardSaid :=
  Claim7.holds_tied_plain_at .later [] [.data] true (true, "f039b18ea7795c9193c642325158515576d5d28e75834aa4ebfd5f8a0cc8d799") false
    row_BitsCounts (fun _ h => by cases h) (by kernel_rfl) (fun _ h => by cases h) bitsCounts_row_tie rfl ⟨rfl, rfl⟩ (by kernel_rfl) rfl
    (fun f fn hf hfn => by
      obtain rfl : f = 4 := Option.some.inj ((show Tryd.prog.funcNamed "gantline/gantlinelaw1.BitsCounts" = some 4 by kernel_rfl).symm.trans hf) |>.symm
      obtain rfl : fn = Tryd.f4 := (Option.some.inj (Tryd.func4.symm.trans hfn)).symm
      exact ⟨by kernel_rfl, fun j t ht => by
        rw [Tryd.params4] at ht
        have hm : t ∈ [22] := by simpa using Array.mem_of_getElem? ht
        have hall : ([22].all fun u => !Tryd.prog.wantsStandIn u) = true := by kernel_rfl
        exact (show Tryd.prog.wantsStandIn t = false by simpa using List.all_eq_true.1 hall t hm)⟩)
    (by kernel_rfl)
#print axioms card_BitsCounts
end Go.Proofs.YtdlnfmmblcfdoabDoor
