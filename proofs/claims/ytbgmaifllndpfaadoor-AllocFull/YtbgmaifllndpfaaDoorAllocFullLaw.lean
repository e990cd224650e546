/- AllocFull of package gantlinelaw5: for every number of spans, list of words and n the law answers true; nothing that was there is turned. -/
import Derived.Test.YtbgmaifllndpfaaDoorAllocAwake
import Derived.Test.YtbgmaifllndpfaaDoorAllocFullP
import Derived.Test.YtbgmaifllndpfaaDoorRefClass
namespace Go.Proofs.YtbgmaifllndpfaaDoor
open Go.ChangeShapes Go.WideShapes Go.ChangeAt Go.RowKit

set_option maxHeartbeats 1000000 in
set_option maxRecDepth 100000 in
theorem full_out (w : World) (ht : Hid (Tab w)) (n m : Int) (ao : Option Addr) (k ca : Nat) (b1 b2 b3 : Bool) (h1 : decide (n < 8) = b1) (h2 : decide (12 < n) = b2) (h3 : decide (120 < (k : Int)) = b3)
    (h : b1 = true ∨ (b1 = false ∧ b2 = true) ∨ (b1 = false ∧ b2 = false ∧ b3 = true)) :
    Calls Tryd.prog 5 #[.int .i64 n, .slice ao k ca, .int .i64 m] w fun e w' => e = .returned (.bool true) ∧ Below w.heap.size w w' := by
  have C := hide (awake5 w (unhide ht))
  rcases h with rfl | ⟨rfl, rfl⟩ | ⟨rfl, rfl, rfl⟩
  all_goals
    go_enter Tryd.func5, Tryd.ntmps5
    go_wp2_with fail
    refine (unhide C).mono ?_
    rintro e w1 ⟨rfl, g⟩
    have hb : Hid (Below w.heap.size w w1) := g
    clear g C
    go_wp2_with fail
    go_ret
    exact ⟨rfl, unhide hb⟩

/-- In the first loop. -/
def Fu (W wr : World) (x : Ld) (N : Nat) : Prop := ∃ l : Al, StL W wr x l ∧ l.Calm ∧ l.a.n = N
/-- Is there room in a span before j? -/
def Rm (l : Al) (c : Int) (j : Nat) : Prop := ∃ s : Nat, 1 ≤ s ∧ s < j ∧ (l.a.cls s < 0 ∨ l.a.cls s = c ∧ (popF 64 (l.a.tk s) : Int) < gp c)
theorem Rm.step {l : Al} {c : Int} {j : Nat} {b b2 : Bool} (h1 : 1 ≤ j) (h : b = true ↔ Rm l c j) (h2 : b2 = true ↔ (b = true ∨ l.a.cls j < 0 ∨ l.a.cls j = c ∧ (popF 64 (l.a.tk j) : Int) < gp c)) : b2 = true ↔ Rm l c (j + 1) := by
  rw [h2, h]
  constructor
  · rintro (⟨s, s1, s2, s3⟩ | h | h)
    · exact ⟨s, s1, by omega, s3⟩
    · exact ⟨j, h1, by omega, Or.inl h⟩
    · exact ⟨j, h1, by omega, Or.inr h⟩
  · rintro ⟨s, s1, s2, s3⟩
    by_cases e : s = j
    · subst e; exact Or.inr s3
    · exact Or.inl ⟨s, s1, by omega, s3⟩

set_option maxHeartbeats 2000000 in
set_option maxRecDepth 100000 in
theorem full_walk (w : World) (ht : Hid (Tab w)) (N : Nat) (m c : Int) (ao : Option Addr) (k ca : Nat) (zs : List Int) (HA : Hid (IsInts w ao k zs)) (hN8 : 8 ≤ N) (hN12 : N ≤ 12) (hk : k ≤ 120) (hm : Hid (gc m = c)) :
    Calls Tryd.prog 5 #[.int .i64 (N : Int), .slice ao k ca, .int .i64 m] w fun e w' => e = .returned (.bool true) ∧ Below w.heap.size w w' := by
  have C := hide (awake5 w (unhide ht))
  have d1 : decide ((N : Int) < 8) = false := by simp; omega
  have d2 : decide (12 < (N : Int)) = false := by simp; omega
  have d3 : decide (120 < (k : Int)) = false := by simp; omega
  go_enter Tryd.func5, Tryd.ntmps5
  go_wp2_with fail
  refine (unhide C).mono ?_
  rintro e w1 ⟨rfl, g⟩
  have hb : Hid (Below w.heap.size w w1) := g
  clear g C
  go_wp2_with fail
  refine (made_any N hN8 (by omega) hb ht).mono ?_
  rintro e w2 ⟨x, b, rfl, S⟩
  have R0 : Hid (Fu w w2 x N) := hide ⟨_, S, fun _ => rfl, rfl⟩
  clear hb S d1 d2 d3
  go_wp2_with fail
  go_loopw [10] (fun i wr => ∃ j : Nat, j ≤ k ∧ i = .int .i64 j ∧ Hid (Fu w wr x N)) (fun i _ => k - (intOf i).toNat)
  case atStart => exact ⟨0, Nat.zero_le _, rfl, R0⟩
  case round =>
    obtain ⟨j, hj, rfl, R⟩ := hrel
    clear R0
    obtain ⟨l, S, hca, hn⟩ := unhide R
    clear R
    replace S := hide S
    replace hca := hide hca
    replace hn := hide hn
    by_cases hjk : j = k
    · subst hjk
      go_wp2_with fail
      refine (rclass_any _ _).mono ?_
      rw [unhide hm]
      rintro e w3 ⟨rfl, g⟩
      replace S := hide ((unhide S).G g)
      clear g
      by_cases hc : 0 ≤ c
      · have hT := hide (take_room (unhide S).st.good (unhide hca) (n := m) (by rw [unhide hm]; exact hc))
        rw [unhide hm, unhide hn] at hT
        have hd : decide (0 ≤ c) = true := by simpa using hc
        have hd2 : decide (c < 0) = false := by simp; omega
        go_wp2_with fail
        go_loopw [12, 13] (fun r i wr => ∃ (q : Nat) (b : Bool), 1 ≤ q ∧ q ≤ N ∧ r = .bool b ∧ i = .int .i64 q ∧ Hid (b = true ↔ Rm l c q) ∧ Hid (StL w wr x l)) (fun _ i _ => N - (intOf i).toNat)
        case atStart => exact ⟨1, false, Nat.le_refl _, by omega, rfl, rfl, hide (by constructor; (intro h; cases h); (rintro ⟨s, s1, s2, _⟩; omega)), S⟩
        case round =>
          obtain ⟨q, b, hq1, hq, rfl, rfl, HB, S'⟩ := hrel
          clear S
          by_cases hqN : q = N
          · subst hqN
            have hT2 : Hid ((l.take m).2.2 = 0 ↔ b = true) := hide ((unhide hT).trans (unhide HB).symm)
            clear hT HB
            go_wp2_with fail
            refine (l_take S' m).mono ?_
            rintro e w4 ⟨rfl, S2, _⟩
            replace S2 := hide S2
            clear S'
            generalize (l.take m).2.1 = v at *
            generalize (l.take m).2.2 = e at *
            have he : (e == 0) = b := by
              have := unhide hT2
              cases b
              · simpa using this
              · simpa using this
            have hbb : (b == b) = true := by simp
            clear hT2
            go_wp2_with fail
            go_ret
            exact ⟨rfl, (unhide S2).below⟩
          · have hql : (q : Int) < (N : Int) := by omega
            have hqn : q < l.a.n := by rw [unhide hn]; omega
            obtain ⟨i0, i1, _⟩ := l.a.I_at hq1 hqn
            have htk := (unhide S').st.good.tkb q
            cases b with
            | true =>
              have HB2 : Hid (true = true ↔ Rm l c (q + 1)) := hide (Rm.step hq1 (unhide HB) (by simp))
              clear HB
              go_wp2_with fail
              go_roundw
              case rel => exact ⟨q + 1, true, by omega, by omega, rfl, by go_num, HB2, S'⟩
              case measure => simp [intOf]; omega
            | false =>
              have CC := hide (fun (wr : World) (S : Hid (StL w wr x l)) => ls_cls S (q : Int))
              have CT := hide (fun (wr : World) (S : Hid (StL w wr x l)) => ls_taken S (q : Int))
              rw [i0] at CC
              rw [i1] at CT
              have CO := hide (fun wr => rones_any (l.a.tk q) wr (by omega))
              have CP := hide (fun wr => rplaces_any c wr)
              have ST := hide (fun b2 (h2 : b2 = true ↔ (false = true ∨ l.a.cls q < 0 ∨ l.a.cls q = c ∧ (popF 64 (l.a.tk q) : Int) < gp c)) => Rm.step (b := false) (b2 := b2) hq1 (unhide HB) h2)
              generalize l.a.cls q = cc at CC ST
              generalize popF 64 (l.a.tk q) = p at CO ST
              generalize gp c = gg at CP ST
              generalize l.a.tk q = tk at CT CO
              clear HB i0 i1 htk
              by_cases h1 : cc < 0
              · have HB2 : Hid (true = true ↔ Rm l c (q + 1)) := hide (unhide ST true (by simp [h1]))
                clear ST
                go_wp2_with fail
                refine (unhide CC _ S').mono ?_
                rintro e w4 ⟨rfl, S2, _⟩
                have S3 := hide S2
                clear S' S2
                go_wp2_with fail
                go_roundw
                case rel => exact ⟨q + 1, true, by omega, by omega, rfl, by go_num, hide (by simpa using unhide HB2), S3⟩
                case measure => simp [intOf]; omega
              · have h1' : decide (cc < 0) = false := by simpa using h1
                by_cases h2 : cc = c
                · subst h2
                  have h2' : (cc == cc) = true := by simp
                  have HB2 : Hid (decide ((p : Int) < gg) = true ↔ Rm l cc (q + 1)) := hide (unhide ST _ (by simp; omega))
                  clear ST
                  generalize hb2 : decide ((p : Int) < gg) = b2 at HB2
                  go_wp2_with fail
                  refine (unhide CC _ S').mono ?_
                  rintro e w4 ⟨rfl, S2, _⟩
                  have S3 := hide S2
                  clear S' S2
                  go_wp2_with fail
                  refine (unhide CC _ S3).mono ?_
                  rintro e w5 ⟨rfl, S2, _⟩
                  have S4 := hide S2
                  clear S3 S2
                  go_wp2_with fail
                  refine (unhide CT _ S4).mono ?_
                  rintro e w6 ⟨rfl, S2, _⟩
                  have S5 := hide S2
                  clear S4 S2
                  go_wp2_with fail
                  refine (unhide CO _).mono ?_
                  rintro e w7 ⟨rfl, hw⟩
                  subst hw
                  go_wp2_with fail
                  refine (unhide CP _).mono ?_
                  rintro e w8 ⟨rfl, g⟩
                  have S6 := hide ((unhide S5).G g)
                  clear S5 g
                  go_wp2_with fail
                  go_roundw
                  case rel => exact ⟨q + 1, b2, by omega, by omega, by first | rfl | simp [hb2], by go_num, HB2, S6⟩
                  case measure => simp [intOf]; omega
                · have h2' : (cc == c) = false := by simpa using h2
                  have HB2 : Hid (false = true ↔ Rm l c (q + 1)) := hide (unhide ST false (by simp [h2]; omega))
                  clear ST
                  go_wp2_with fail
                  refine (unhide CC _ S').mono ?_
                  rintro e w4 ⟨rfl, S2, _⟩
                  have S3 := hide S2
                  clear S' S2
                  go_wp2_with fail
                  refine (unhide CC _ S3).mono ?_
                  rintro e w5 ⟨rfl, S2, _⟩
                  have S4 := hide S2
                  clear S3 S2
                  go_wp2_with fail
                  go_roundw
                  case rel => exact ⟨q + 1, false, by omega, by omega, rfl, by go_num, HB2, S4⟩
                  case measure => simp [intOf]; omega
      · have hT : l.take m = (l, 0, 1) := by unfold Al.take; rw [unhide hm, if_pos (by omega)]
        replace hT := hide hT
        have hd : decide (0 ≤ c) = false := by simpa using hc
        have hd2 : decide (c < 0) = true := by simp; omega
        have hN1 : (1 : Int) < (N : Int) := by omega
        go_wp2_with fail
        go_loopw [13] (fun i wr => i = .int .i64 1 ∧ Hid (StL w wr x l)) (fun _ _ => 0)
        case atStart => exact ⟨rfl, S⟩
        case round =>
          obtain ⟨rfl, S'⟩ := hrel
          clear S
          go_wp2_with fail
          refine (l_take_as S' (unhide hT)).mono ?_
          rintro e w4 ⟨rfl, S2⟩
          replace S2 := hide S2
          clear S'
          go_wp2_with fail
          go_ret
          exact ⟨rfl, (unhide S2).below⟩
    · have hjl : (j : Int) < (k : Int) := by omega
      obtain ⟨z, b, off, rfl, hbk, cz⟩ := (unhide HA).at_ (unhide S).below (show j < k by omega)
      go_wp2_with fail
      refine (l_take S z).mono ?_
      rintro e w3 ⟨rfl, S2, _⟩
      have RR : Hid (Fu w w3 x N) := hide ⟨_, S2, take_calm (unhide hca) z, by rw [Al.take_n]; exact unhide hn⟩
      clear S S2 hca hn
      go_wp2_with fail
      go_roundw
      case rel => exact ⟨j + 1, by omega, by go_num, RR⟩
      case measure => simp [intOf]; omega

theorem walk_AllocFull (n : Int) (ao : Option Addr) (k ca : Nat) (zs : List Int) (m : Int) (W : World) (w1 : IsInts W ao k zs) (ht : Tab W) :
    Calls Tryd.prog 5 #[.int .i64 n, .slice ao k ca, .int .i64 m] W fun e w' => e = .returned (.bool true) ∧ Below W.heap.size W w' := by
  by_cases h : 8 ≤ n ∧ n ≤ 12 ∧ k ≤ 120
  · obtain ⟨N, rfl⟩ := Int.eq_ofNat_of_zero_le (show 0 ≤ n by omega)
    exact full_walk W (hide ht) N m (gc m) ao k ca zs (hide w1) (by omega) (by omega) (by omega) (hide rfl)
  · refine full_out W (hide ht) n m ao k ca _ _ _ rfl rfl rfl ?_
    simp only [decide_eq_true_eq, decide_eq_false_iff_not]
    omega

set_option maxRecDepth 100000 in
theorem lifted_AllocFull (os : Os) (started : os.Started) (H : Type) (enc : TypeId × Value → H) :
    ReturnsInHanded {} Tryd.checked os 5 .any (fun w args => (Rows.allocFullSpec.pre enc Tryd.prog Tryd.f5 [] false w args ∧ laidMetH Tryd.prog laidTab w) ∧ sizedMet enc Tryd.prog Tryd.f5 (OpenSpec.ofChange Rows.allocFullSpec) false w args)
      (Rows.allocFullSpec.post enc Tryd.prog Tryd.f5 false true false false) := by
  refine returnsInHanded_of_change_and (C := Tryd.checked) (X := fun w _ => laidMetH Tryd.prog laidTab w) (fun _ _ _ hh h => h.of_heap hh) own started (by kernel_rfl) Tryd.func5
    (ChangeSpec.witness_shaped (enc := enc) (C := Tryd.checked) (os := os) (X := fun w _ => laidMetH Tryd.prog laidTab w) false (World.doorLaid Tryd.prog 400 os) #[.int .i64 0, .slice none 0 0, .int .i64 0] 8 rfl (World.shaped_of_RefB (by kernel_rfl) (by kernel_rfl)) (by kernel_rfl) (by kernel_rfl) (by kernel_rfl) (door_met os _)) ?_
  intro W base args ds gs before hval0 hW _ _ hL _
  have hval : ∀ (j : Nat) t v, Tryd.f5.params[j]? = some t → args[j]? = some v → Value.okWide Tryd.prog W .any base t v := hval0
  have hW' := hW
  obtain ⟨p, q, hA0, hV, rfl, hfz, hnd⟩ := hW
  have hA : DataW.TrodAll enc Tryd.prog W 0 (fun _ => true) true Tryd.f5.params.toList args.toList ds p := hA0
  rw [Tryd.params5] at hA hval
  obtain ⟨v0, vs0, d0, ds0, p0, q0, hargs, rfl, rfl, h0, r0⟩ := trodAll_cons hA
  obtain ⟨v1, vs1, d1, ds1, p1, q1, rfl, rfl, rfl, h1, r1⟩ := trodAll_cons r0
  obtain ⟨v2, vs2, d2, ds2, p2, q2, rfl, rfl, rfl, h2, r2⟩ := trodAll_cons r1
  obtain ⟨rfl, rfl, rfl⟩ := trodAll_nil r2
  obtain rfl : args = #[v0, v1, v2] := by cases args; simp_all
  obtain ⟨rfl, rfl⟩ := trodVars_none hV
  have k0 := h0
  have lt0 : ∀ x ∈ p0, x.block < W.heap.size := by obtain ⟨m, hm⟩ := k0; exact DataW.trod_lt m _ _ _ hm
  obtain ⟨a0, rfl, rfl, rfl, w0⟩ := open_int Tryd.underlying3 (hval 0 3 v0 rfl rfl) h0
  have k1 := h1
  have lt1 : ∀ x ∈ p1, x.block < W.heap.size := by obtain ⟨m, hm⟩ := k1; exact DataW.trod_lt m _ _ _ hm
  obtain ⟨a1, n1, c1, l1, rfl, w1⟩ := open_introw (hval 1 32 v1 rfl rfl) h1
  have k2 := h2
  have lt2 : ∀ x ∈ p2, x.block < W.heap.size := by obtain ⟨m, hm⟩ := k2; exact DataW.trod_lt m _ _ _ hm
  obtain ⟨a2, rfl, rfl, rfl, w2⟩ := open_int Tryd.underlying3 (hval 2 3 v2 rfl rfl) h2
  clear hA0 hval0
  refine (walk_AllocFull a0 a1 n1 c1 l1 a2 W w1 (tab_of_laid hL)).mono fun e W' ⟨he, hg⟩ => ?_
  subst he
  exact ⟨_, rfl, _, _, _, [], _, [], hW', trodAll_mk1 (shut_bool Tryd.underlying4 _), (trodAll_cons_mk (Below.trod laidOut (by kernel_rfl) (of_decide_eq_true (by kernel_rfl)) k0 hg lt0) (trodAll_cons_mk (Below.trod laidOut (by kernel_rfl) (of_decide_eq_true (by kernel_rfl)) k1 hg lt1) (trodAll_cons_mk (Below.trod laidOut (by kernel_rfl) (of_decide_eq_true (by kernel_rfl)) k2 hg lt2) trodAll_mk0))), rfl, hg.frame _, fun h => by cases h⟩

theorem row_AllocFull : Rows.AllocFullSaid :=
  OpenClaim.holds_of_wide 5 Tryd.f5 rfl rfl rfl rfl rfl rfl rfl ⟨rfl, rfl, rfl, rfl, rfl⟩ rfl rfl rfl rfl rfl (by kernel_rfl) Tryd.func5 (by kernel_rfl)
    (of_decide_eq_true (by kernel_rfl)) (by unfold Func.isWrapper; first | (rw [if_pos (by decide +kernel)]; kernel_rfl) | (rw [if_neg (by decide +kernel)]; exact ⟨rfl, rfl⟩))
    (fun os started H enc _ => lifted_AllocFull os started H enc)

/-- THE STATEMENT. -/
theorem card_AllocFull : Rows.AllocFullCardSaid :=
  Claim7.holds_tied_plain_at .later [] [.data] true (true, "df9a269f688f74646f8c72add8e7c773f49d00f2df2c27a20a52acf29d990246") false
    row_AllocFull (fun _ h => by cases h) (by kernel_rfl) (fun _ h => by cases h) allocFull_row_tie rfl ⟨rfl, rfl⟩ (by kernel_rfl) rfl
    (fun f fn hf hfn => by
      obtain rfl : f = 5 := Option.some.inj ((show Tryd.prog.funcNamed "gantline/gantlinelaw5.AllocFull" = some 5 by kernel_rfl).symm.trans hf) |>.symm
      obtain rfl : fn = Tryd.f5 := (Option.some.inj (Tryd.func5.symm.trans hfn)).symm
      exact ⟨by kernel_rfl, fun j t ht => by
        rw [Tryd.params5] at ht
        have hm : t ∈ [3, 32, 3] := by simpa using Array.mem_of_getElem? ht
        have hall : ([3, 32, 3].all fun u => !Tryd.prog.wantsStandIn u) = true := by kernel_rfl
        exact (show Tryd.prog.wantsStandIn t = false by simpa using List.all_eq_true.1 hall t hm)⟩)
    (by kernel_rfl)
#print axioms card_AllocFull
end Go.Proofs.YtbgmaifllndpfaaDoor
