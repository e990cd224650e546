/- ArenaCopies of package gantlinelaw4: for every two lists of calls the law answers true; nothing that was there is turned. -/
import Derived.Test.YtcoeaknaljoonaaDoorArenaActs
namespace Go.Proofs.YtcoeaknaljoonaaDoor
open Go.ChangeShapes Go.WideShapes Go.ChangeAt Go.RowKit

/-- Two arenas that hold the same. -/
def Same (W w : World) (d d2 : Ad) : Prop := ∃ a, St W w d a ∧ St W w d2 a
theorem Same.g {W w w' : World} {d d2 : Ad} (h : Same W w d d2) (g : G w w') : Same W w' d d2 := by
  obtain ⟨a, s, t⟩ := h
  exact ⟨a, s.G g, t.G g⟩

/-- One call, asked of the first and of the second. -/
theorem sm_read {W w : World} {d d2 : Ad} (h : Hid (Same W w d d2)) (x i : Int) :
    Calls Tryd.prog 12 #[.pointer (some ⟨d.ab, 0, none⟩), .int .i64 x, .int .i64 i] w fun e w' => ∃ v q, e = .returned (.tuple #[.int .i64 v, .int .i64 q]) ∧ Same W w' d d2 ∧
      Hid (∀ w1, G w' w1 → Calls Tryd.prog 12 #[.pointer (some ⟨d2.ab, 0, none⟩), .int .i64 x, .int .i64 i] w1 fun e w2 => e = .returned (.tuple #[.int .i64 v, .int .i64 q]) ∧ Same W w2 d d2) := by
  obtain ⟨a, s, t⟩ := unhide h
  refine (st_read (hide s) x i).mono ?_
  rintro e w' ⟨rfl, s', g⟩
  refine ⟨_, _, rfl, ⟨a, s', t.G g⟩, hide fun w1 g1 => ?_⟩
  refine (st_read (hide ((t.G g).G g1)) x i).mono ?_
  rintro e w2 ⟨rfl, t2, g2⟩
  exact ⟨rfl, a, (s'.G g1).G g2, t2⟩
theorem sm_cls {W w : World} {d d2 : Ad} (h : Hid (Same W w d d2)) (s : Int) :
    Calls Tryd.prog 14 #[.pointer (some ⟨d.ab, 0, none⟩), .int .i64 s] w fun e w' => ∃ v, e = .returned (.int .i64 v) ∧ Same W w' d d2 ∧
      Hid (∀ w1, G w' w1 → Calls Tryd.prog 14 #[.pointer (some ⟨d2.ab, 0, none⟩), .int .i64 s] w1 fun e w2 => e = .returned (.int .i64 v) ∧ Same W w2 d d2) := by
  obtain ⟨a, s0, t⟩ := unhide h
  refine (st_cls (hide s0) s).mono ?_
  rintro e w' ⟨rfl, s', g⟩
  refine ⟨_, rfl, ⟨a, s', t.G g⟩, hide fun w1 g1 => ?_⟩
  refine (st_cls (hide ((t.G g).G g1)) s).mono ?_
  rintro e w2 ⟨rfl, t2, g2⟩
  exact ⟨rfl, a, (s'.G g1).G g2, t2⟩
theorem sm_taken {W w : World} {d d2 : Ad} (h : Hid (Same W w d d2)) (s : Int) :
    Calls Tryd.prog 29 #[.pointer (some ⟨d.ab, 0, none⟩), .int .i64 s] w fun e w' => ∃ v, e = .returned (.int .u64 v) ∧ Same W w' d d2 ∧
      Hid (∀ w1, G w' w1 → Calls Tryd.prog 29 #[.pointer (some ⟨d2.ab, 0, none⟩), .int .i64 s] w1 fun e w2 => e = .returned (.int .u64 v) ∧ Same W w2 d d2) := by
  obtain ⟨a, s0, t⟩ := unhide h
  refine (st_taken (hide s0) s).mono ?_
  rintro e w' ⟨rfl, s', g⟩
  refine ⟨_, rfl, ⟨a, s', t.G g⟩, hide fun w1 g1 => ?_⟩
  refine (st_taken (hide ((t.G g).G g1)) s).mono ?_
  rintro e w2 ⟨rfl, t2, g2⟩
  exact ⟨rfl, a, (s'.G g1).G g2, t2⟩
theorem sm_marked {W w : World} {d d2 : Ad} (h : Hid (Same W w d d2)) (s : Int) :
    Calls Tryd.prog 30 #[.pointer (some ⟨d.ab, 0, none⟩), .int .i64 s] w fun e w' => ∃ v, e = .returned (.int .u64 v) ∧ Same W w' d d2 ∧
      Hid (∀ w1, G w' w1 → Calls Tryd.prog 30 #[.pointer (some ⟨d2.ab, 0, none⟩), .int .i64 s] w1 fun e w2 => e = .returned (.int .u64 v) ∧ Same W w2 d d2) := by
  obtain ⟨a, s0, t⟩ := unhide h
  refine (st_marked (hide s0) s).mono ?_
  rintro e w' ⟨rfl, s', g⟩
  refine ⟨_, rfl, ⟨a, s', t.G g⟩, hide fun w1 g1 => ?_⟩
  refine (st_marked (hide ((t.G g).G g1)) s).mono ?_
  rintro e w2 ⟨rfl, t2, g2⟩
  exact ⟨rfl, a, (s'.G g1).G g2, t2⟩

set_option maxHeartbeats 1000000 in
set_option maxRecDepth 100000 in
theorem copies_out (w : World) (ht : Hid (Tab w)) (ao bo : Option Addr) (n m ca cb : Nat) (b1 b2 : Bool) (h1 : decide (40 < (n : Int)) = b1) (h2 : decide (40 < (m : Int)) = b2) (h : b1 = true ∨ b1 = false ∧ b2 = true) :
    Calls Tryd.prog 7 #[.slice ao n ca, .slice bo m cb] w fun e w' => e = .returned (.bool true) ∧ Below w.heap.size w w' := by
  have C := hide (awake_true w (unhide ht))
  rcases h with rfl | ⟨rfl, rfl⟩
  all_goals
    go_enter Tryd.func7, Tryd.ntmps7
    go_wp2_with fail
    refine (unhide C).mono ?_
    rintro e w1 ⟨rfl, g⟩
    have hb : Hid (Below w.heap.size w w1) := g
    clear g C
    go_wp2_with fail
    go_ret
    exact ⟨rfl, unhide hb⟩

set_option maxHeartbeats 1000000 in
set_option maxRecDepth 100000 in
theorem copies_walk (w : World) (ht : Hid (Tab w)) (ao bo : Option Addr) (n m ca cb : Nat) (l1 l2 : List Ac) (hn : n ≤ 40) (hm : m ≤ 40) (A1 : Hid (IsActs w ao n l1)) (A2 : Hid (IsActs w bo m l2)) :
    Calls Tryd.prog 7 #[.slice ao n ca, .slice bo m cb] w fun e w' => e = .returned (.bool true) ∧ Below w.heap.size w w' := by
  have C := hide (awake_true w (unhide ht))
  have h1 : decide (40 < (n : Int)) = false := by simp; omega
  have h2 : decide (40 < (m : Int)) = false := by simp; omega
  go_enter Tryd.func7, Tryd.ntmps7
  go_wp2_with fail
  refine (unhide C).mono ?_
  rintro e w1 ⟨rfl, g⟩
  have hb : Hid (Below w.heap.size w w1) := g
  clear g C
  go_wp2_with fail
  refine (st_make8 hb ht).mono ?_
  rintro e w1 ⟨d, rfl, S, _, _, _, _⟩
  have P0 : Hid (Pl w w1 w1 d) := hide ⟨_, S, Tn.of_G (G.refl _)⟩
  clear hb S
  go_wp2_with fail
  refine (played_at ao n ca l1 hn A1 P0).mono ?_
  rintro e w2 ⟨rfl, a, S, _⟩
  replace S := hide S
  clear P0
  go_wp2_with fail
  refine (st_copy S).mono ?_
  rintro e w3 ⟨d2, rfl, S2, B, _, x0, x1, x2⟩
  have X1 := hide ((unhide S).apart x0 x1 x2).1
  clear S x0 x1 x2
  replace S := hide S2
  replace B := hide B
  clear S2
  go_wp2_with fail
  refine (st_copy S).mono ?_
  rintro e w4 ⟨d3, rfl, S2, D, g, x0, x1, x2⟩
  have X2 := hide ((unhide B).apart x0 x1 x2).2
  have P1 : Hid (Pl w w4 w4 d2) := hide ⟨_, (unhide B).G g, Tn.of_G (G.refl _)⟩
  have M0 : Hid (Same w w4 d d3) := hide ⟨_, S2, D⟩
  clear S S2 D B x0 x1 x2 g
  go_wp2_with fail
  refine (played_at bo m cb l2 hm A2 P1).mono ?_
  rintro e w5 ⟨rfl, b, SB, tb⟩
  have M : Hid (Same w w5 d d3) := by
    obtain ⟨a0, s1, s2⟩ := unhide M0
    exact hide ⟨a0, (unhide X1).keeps s1 SB tb, (unhide X2).keeps s2 SB tb⟩
  clear P1 M0 SB tb X1 X2
  go_wp2_with fail
  go_loopw [9] (fun c wr => ∃ j : Nat, j ≤ 8 ∧ c = .int .i64 j ∧ Hid (Same w wr d d3)) (fun c _ => 8 - (intOf c).toNat)
  case atStart => exact ⟨0, Nat.zero_le _, rfl, M⟩
  case round =>
    obtain ⟨j, hj, rfl, R⟩ := hrel
    clear M
    by_cases hj8 : j = 8
    · subst hj8
      go_wp2_with fail
      go_ret
      obtain ⟨a0, s1, _⟩ := unhide R
      exact ⟨rfl, s1.below⟩
    · have hjl : (j : Int) < 8 := by omega
      go_wp2_with fail
      refine (sm_cls R _).mono ?_
      rintro e w6 ⟨v1, rfl, R6, C6⟩
      replace R6 := hide R6
      clear R
      go_wp2_with fail
      refine (unhide C6 _ (G.refl _)).mono ?_
      rintro e w7 ⟨rfl, R7⟩
      replace R7 := hide R7
      clear R6 C6
      have hv1 : (v1 != v1) = false := by simp
      go_wp2_with fail
      refine (sm_taken R7 _).mono ?_
      rintro e w8 ⟨v2, rfl, R8, C8⟩
      replace R8 := hide R8
      clear R7
      go_wp2_with fail
      refine (unhide C8 _ (G.refl _)).mono ?_
      rintro e w9 ⟨rfl, R9⟩
      replace R9 := hide R9
      clear R8 C8
      have hv2 : (v2 != v2) = false := by simp
      go_wp2_with fail
      refine (sm_marked R9 _).mono ?_
      rintro e w10 ⟨v3, rfl, R10, C10⟩
      replace R10 := hide R10
      clear R9
      go_wp2_with fail
      refine (unhide C10 _ (G.refl _)).mono ?_
      rintro e w11 ⟨rfl, R11⟩
      replace R11 := hide R11
      clear R10 C10
      have hv3 : (v3 != v3) = false := by simp
      go_wp2_with fail
      go_loopw [10] (fun c wr => ∃ k : Nat, k ≤ 64 ∧ c = .int .i64 (64 * (j : Int) + k) ∧ Hid (Same w wr d d3)) (fun c _ => 64 * j + 64 - (intOf c).toNat)
      case atStart => exact ⟨0, Nat.zero_le _, by simp, R11⟩
      case round =>
        obtain ⟨k, hk, rfl, R⟩ := hrel
        clear R11
        by_cases hk64 : k = 64
        · subst hk64
          go_wp2_with fail
          go_roundw
          case rel => exact ⟨j + 1, by omega, by go_num, R⟩
          case measure => simp [intOf]; omega
        · have hkl : 64 * (j : Int) + k < 64 * (j : Int) + 64 := by omega
          go_wp2_with fail
          refine (sm_read R _ _).mono ?_
          rintro e w12 ⟨r, q, rfl, R12, C12⟩
          replace R12 := hide R12
          clear R
          go_wp2_with fail
          refine (unhide C12 _ (G.refl _)).mono ?_
          rintro e w13 ⟨rfl, R13⟩
          replace R13 := hide R13
          clear R12 C12
          have hr : (r != r) = false := by simp
          have hq : (q != q) = false := by simp
          go_wp2_with fail
          go_roundw
          case rel => exact ⟨k + 1, by omega, by go_num, R13⟩
          case measure => simp [intOf]; omega

theorem walk_ArenaCopies (a0 : Option Addr) (n0 c0 : Nat) (l0 : List Ac) (a1 : Option Addr) (n1 c1 : Nat) (l1 : List Ac) (W : World) (w0 : IsActs W a0 n0 l0) (w1 : IsActs W a1 n1 l1) (ht : Tab W) :
    Calls Tryd.prog 7 #[.slice a0 n0 c0, .slice a1 n1 c1] W fun e w' => e = .returned (.bool true) ∧ Below W.heap.size W w' := by
  by_cases h : n0 ≤ 40 ∧ n1 ≤ 40
  · exact copies_walk W (hide ht) a0 a1 n0 n1 c0 c1 l0 l1 h.1 h.2 (hide w0) (hide w1)
  · refine copies_out W (hide ht) a0 a1 n0 n1 c0 c1 _ _ rfl rfl ?_
    simp only [decide_eq_true_eq, decide_eq_false_iff_not]
    omega

set_option maxRecDepth 100000 in
theorem lifted_ArenaCopies (os : Os) (started : os.Started) (H : Type) (enc : TypeId × Value → H) :
    ReturnsInHanded {} Tryd.checked os 7 .any (fun w args => (Rows.arenaCopiesSpec.pre enc Tryd.prog Tryd.f7 [] false w args ∧ laidMetH Tryd.prog laidTab w) ∧ sizedMet enc Tryd.prog Tryd.f7 (OpenSpec.ofChange Rows.arenaCopiesSpec) false w args)
      (Rows.arenaCopiesSpec.post enc Tryd.prog Tryd.f7 false true false false) := by
  refine returnsInHanded_of_change_and (C := Tryd.checked) (X := fun w _ => laidMetH Tryd.prog laidTab w) (fun _ _ _ hh h => h.of_heap hh) own started (by kernel_rfl) Tryd.func7
    (ChangeSpec.witness_shaped (enc := enc) (C := Tryd.checked) (os := os) (X := fun w _ => laidMetH Tryd.prog laidTab w) false (World.doorLaid Tryd.prog 400 os) #[.slice none 0 0, .slice none 0 0] 8 rfl (World.shaped_of_RefB (by kernel_rfl) (by kernel_rfl)) (by kernel_rfl) (by kernel_rfl) (by kernel_rfl) (door_met os _)) ?_
  intro W base args ds gs before hval0 hW _ _ hL _
  have hval : ∀ (j : Nat) t v, Tryd.f7.params[j]? = some t → args[j]? = some v → Value.okWide Tryd.prog W .any base t v := hval0
  have hW' := hW
  obtain ⟨p, q, hA0, hV, rfl, hfz, hnd⟩ := hW
  have hA : DataW.TrodAll enc Tryd.prog W 0 (fun _ => true) true Tryd.f7.params.toList args.toList ds p := hA0
  rw [Tryd.params7] at hA hval
  obtain ⟨v0, vs0, d0, ds0, p0, q0, hargs, rfl, rfl, h0, r0⟩ := trodAll_cons hA
  obtain ⟨v1, vs1, d1, ds1, p1, q1, rfl, rfl, rfl, h1, r1⟩ := trodAll_cons r0
  obtain ⟨rfl, rfl, rfl⟩ := trodAll_nil r1
  obtain rfl : args = #[v0, v1] := by cases args; simp_all
  obtain ⟨rfl, rfl⟩ := trodVars_none hV
  have k0 := h0
  have lt0 : ∀ x ∈ p0, x.block < W.heap.size := by obtain ⟨m, hm⟩ := k0; exact DataW.trod_lt m _ _ _ hm
  obtain ⟨a0, n0, c0, l0, rfl, w0⟩ := open_acts (hval 0 34 v0 rfl rfl) h0
  have k1 := h1
  have lt1 : ∀ x ∈ p1, x.block < W.heap.size := by obtain ⟨m, hm⟩ := k1; exact DataW.trod_lt m _ _ _ hm
  obtain ⟨a1, n1, c1, l1, rfl, w1⟩ := open_acts (hval 1 34 v1 rfl rfl) h1
  clear hA0 hval0
  refine (walk_ArenaCopies a0 n0 c0 l0 a1 n1 c1 l1 W w0 w1 (tab_of_laid hL)).mono fun e W' ⟨he, hg⟩ => ?_
  subst he
  exact ⟨_, rfl, _, _, _, [], _, [], hW', trodAll_mk1 (shut_bool Tryd.underlying4 _), (trodAll_cons_mk (Below.trod laidOut (by kernel_rfl) (of_decide_eq_true (by kernel_rfl)) k0 hg lt0) (trodAll_cons_mk (Below.trod laidOut (by kernel_rfl) (of_decide_eq_true (by kernel_rfl)) k1 hg lt1) trodAll_mk0)), rfl, hg.frame _, fun h => by cases h⟩

theorem row_ArenaCopies : Rows.ArenaCopiesSaid :=
  OpenClaim.holds_of_wide 7 Tryd.f7 rfl rfl rfl rfl rfl rfl rfl ⟨rfl, rfl, rfl, rfl, rfl⟩ rfl rfl rfl rfl rfl (by kernel_rfl) Tryd.func7 (by kernel_rfl)
    (of_decide_eq_true (by kernel_rfl)) (by unfold Func.isWrapper; first | (rw [if_pos (by decide +kernel)]; kernel_rfl) | (rw [if_neg (by decide +kernel)]; exact ⟨rfl, rfl⟩))
    (fun os started H enc _ => lifted_ArenaCopies os started H enc)

/-- THE STATEMENT. -/
theorem card_ArenaCopies : Rows.ArenaCopiesCardSaid :=
  Claim7.holds_tied_plain_at .later [] [.data] true (true, "64ae28b82ac9bc8bf812a8ed8e489dbeb6ade7eb6e30482be111075a2889555d") false
    row_ArenaCopies (fun _ h => by cases h) (by kernel_rfl) (fun _ h => by cases h) arenaCopies_row_tie rfl ⟨rfl, rfl⟩ (by kernel_rfl) rfl
    (fun f fn hf hfn => by
      obtain rfl : f = 7 := Option.some.inj ((show Tryd.prog.funcNamed "gantline/gantlinelaw4.ArenaCopies" = some 7 by kernel_rfl).symm.trans hf) |>.symm
      obtain rfl : fn = Tryd.f7 := (Option.some.inj (Tryd.func7.symm.trans hfn)).symm
      exact ⟨by kernel_rfl, fun j t ht => by
        rw [Tryd.params7] at ht
        have hm : t ∈ [34, 34] := by simpa using Array.mem_of_getElem? ht
        have hall : ([34, 34].all fun u => !Tryd.prog.wantsStandIn u) = true := by kernel_rfl
        exact (show Tryd.prog.wantsStandIn t = false by simpa using List.all_eq_true.1 hall t hm)⟩)
    (by kernel_rfl)
#print axioms card_ArenaCopies
end Go.Proofs.YtcoeaknaljoonaaDoor
