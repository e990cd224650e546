/- AllocKeeps of package gantlinelaw5: for every number of spans and every three lists the law answers true; nothing that was there is turned. -/
import Derived.Test.YtbgmaifllndpfaaDoorAllocRows
namespace Go.Proofs.YtbgmaifllndpfaaDoor
open Go.ChangeShapes Go.WideShapes Go.ChangeAt Go.RowKit

set_option maxHeartbeats 1000000 in
set_option maxRecDepth 100000 in
theorem keeps_out (w : World) (ht : Hid (Tab w)) (n : Int) (ao bo co : Option Addr) (k1 k2 k3 ca cb cc : Nat) (b1 b2 b3 b4 b5 : Bool) (h1 : decide (n < 8) = b1) (h2 : decide (16 < n) = b2) (h3 : decide (60 < (k1 : Int)) = b3) (h4 : decide (60 < (k3 : Int)) = b4) (h5 : decide (100 < (k2 : Int)) = b5)
    (h : b1 = true ∨ (b1 = false ∧ b2 = true) ∨ (b1 = false ∧ b2 = false ∧ b3 = true) ∨ (b1 = false ∧ b2 = false ∧ b3 = false ∧ b4 = true) ∨ (b1 = false ∧ b2 = false ∧ b3 = false ∧ b4 = false ∧ b5 = true)) :
    Calls Tryd.prog 4 #[.int .i64 n, .slice ao k1 ca, .slice bo k2 cb, .slice co k3 cc] w fun e w' => e = .returned (.bool true) ∧ Below w.heap.size w w' := by
  have C := hide (awake5 w (unhide ht))
  rcases h with rfl | ⟨rfl, rfl⟩ | ⟨rfl, rfl, rfl⟩ | ⟨rfl, rfl, rfl, rfl⟩ | ⟨rfl, rfl, rfl, rfl, rfl⟩
  all_goals
    go_enter Tryd.func4, Tryd.ntmps4
    go_wp2_with fail
    refine (unhide C).mono ?_
    rintro e w1 ⟨rfl, g⟩
    have hb : Hid (Below w.heap.size w w1) := g
    clear g C
    go_wp2_with fail
    go_ret
    exact ⟨rfl, unhide hb⟩

set_option maxHeartbeats 4000000 in
set_option maxRecDepth 100000 in
theorem keeps_walk (w : World) (ht : Hid (Tab w)) (N : Nat) (ao bo co : Option Addr) (k1 k2 k3 ca cb cc : Nat) (zs ys : List Int) (bs : Nat → Bool) (HA : Hid (IsInts w ao k1 zs)) (HB : Hid (IsBools w bo k2 bs)) (HC : Hid (IsInts w co k3 ys))
    (hN8 : 8 ≤ N) (hN16 : N ≤ 16) (hk1 : k1 ≤ 60) (hk3 : k3 ≤ 60) (hk2 : k2 ≤ 100) :
    Calls Tryd.prog 4 #[.int .i64 (N : Int), .slice ao k1 ca, .slice bo k2 cb, .slice co k3 cc] w fun e w' => e = .returned (.bool true) ∧ Below w.heap.size w w' := by
  have C := hide (awake5 w (unhide ht))
  have d1 : decide ((N : Int) < 8) = false := by simp; omega
  have d2 : decide (16 < (N : Int)) = false := by simp; omega
  have d3 : decide (60 < (k1 : Int)) = false := by simp; omega
  have d4 : decide (60 < (k3 : Int)) = false := by simp; omega
  have d5 : decide (100 < (k2 : Int)) = false := by simp; omega
  obtain ⟨i0, hi0, hz0, hz1, hz2⟩ := info_parts info_int64
  go_enter Tryd.func4, Tryd.ntmps4
  go_wp2_with fail
  refine (unhide C).mono ?_
  rintro e w1 ⟨rfl, g⟩
  have hb : Hid (Below w.heap.size w w1) := g
  clear g C
  go_wp2_with fail
  refine (made_any N hN8 (by omega) hb ht).mono ?_
  rintro e w2 ⟨x, b, rfl, S⟩
  have R0 : Hid (K1 w w2 x none 0 []) := hide ⟨_, Kr.mk0 S, fun _ h => (by cases h), fun _ h => (by cases h)⟩
  clear hb S d1 d2 d3 d4 d5
  go_wp2_with fail
  go_loopw [12, 13] (fun u i wr => ∃ (j m : Nat) (ko : Option Addr) (kc : Nat) (ks : List Int), j ≤ k1 ∧ m ≤ j ∧ u = .slice ko m kc ∧ i = .int .i64 j ∧ Hid (ks.length = m) ∧ Hid (K1 w wr x ko kc ks)) (fun _ i _ => k1 - (intOf i).toNat)
  case atStart => exact ⟨0, 0, none, 0, [], Nat.zero_le _, Nat.le_refl _, rfl, rfl, hide rfl, R0⟩
  case round =>
    obtain ⟨j, m, ko, kc, ks, hj, hm, rfl, rfl, HL, R⟩ := hrel
    clear R0
    by_cases hjk : j = k1
    · subst hjk
      have hm60 : m ≤ 60 := by omega
      go_wp2_with fail
      refine (kl_stale R).mono ?_
      rintro e w3 ⟨rfl, R3⟩
      have R1 := hide R3
      clear R R3
      go_wp2_with fail
      go_loopw [16] (fun i wr => ∃ (q : Nat), q ≤ k3 ∧ i = .int .i64 q ∧ Hid (K1 w wr x ko kc ks)) (fun i _ => k3 - (intOf i).toNat)
      case atStart => exact ⟨0, Nat.zero_le _, rfl, R1⟩
      case round =>
        obtain ⟨q, hq, rfl, R⟩ := hrel
        clear R1
        by_cases hqk : q = k3
        · subst hqk
          obtain ⟨NN, f0, R0⟩ := (unhide R).two
          replace R0 := hide R0
          clear R
          go_wp2_with fail
          go_loopw [] (fun wr => ∃ f, Hid (K2 w wr x ko kc ks NN f)) (fun wr => flagN x NN wr)
          case atStart => exact ⟨f0, R0⟩
          case round =>
            obtain ⟨f, R⟩ := hrel
            clear R0
            have hfl := hide (unhide R).flag
            go_wp2_with fail
            refine (kl_sweepOne R).mono ?_
            rintro e w4 (⟨rfl, hf0, R4⟩ | ⟨p, rfl, hfp, R4⟩)
            · replace R4 := hide R4
              clear R hf0 hfl
              go_wp2_with fail
              go_loopw [20] (fun i wr => ∃ (t : Nat), t ≤ m ∧ i = .int .i64 t ∧ Hid (K2 w wr x ko kc ks NN 0)) (fun i _ => m - (intOf i).toNat)
              case atStart => exact ⟨0, Nat.zero_le _, rfl, R4⟩
              case round =>
                obtain ⟨t, htm, rfl, R⟩ := hrel
                clear R4
                by_cases htk : t = m
                · subst htk
                  go_wp2_with fail
                  refine (kl_left R).mono ?_
                  rintro e w5 ⟨rfl, hw⟩
                  subst hw
                  go_wp2_with fail
                  go_ret
                  exact ⟨rfl, (unhide R).below⟩
                · have htl : (t : Int) < (m : Int) := by omega
                  obtain ⟨y, hy⟩ : ∃ y, ks[t]? = some y := ⟨ks[t]'(by rw [unhide HL]; omega), List.getElem?_eq_getElem _⟩
                  obtain ⟨⟨g, rfl, cg⟩, y0, y1⟩ := (unhide R).get hy
                  replace hy := hide hy
                  go_wp2_with fail
                  refine (kl_read R (unhide hy)).mono ?_
                  rintro e w5 ⟨rfl, R5⟩
                  obtain ⟨⟨g2, hg2, cg2⟩, _, _⟩ := R5.get (unhide hy)
                  injection hg2 with hg2
                  injection hg2 with hg2
                  subst hg2
                  replace R5 := hide R5
                  clear R cg
                  have hne : (1000 + y != 1000 + y) = false := by simp
                  go_wp2_with fail
                  go_roundw
                  case rel => exact ⟨t + 1, by omega, by go_num, R5⟩
                  case measure => simp [intOf]; omega
            · have hf4 := R4.flag
              have hlt : Hid (flagN x NN w4 < flagN x NN wr) := hide (by rw [hf4, unhide hfl]; omega)
              replace R4 := hide R4
              clear R hfp hfl hf4
              go_wp2_with fail
              go_roundw
              case rel => exact ⟨p, R4⟩
              case measure => exact unhide hlt
        · have hql : (q : Int) < (k3 : Int) := by omega
          obtain ⟨z, b, off, rfl, hbk, cz⟩ := (unhide HC).at_ (unhide R).below (show q < k3 by omega)
          go_wp2_with fail
          refine (kl_take R z).mono ?_
          rintro e w4 ⟨v, e, rfl, ⟨he, R4⟩ | ⟨rfl, R4⟩⟩
          · replace R4 := hide R4
            clear R cz
            have he' : (e == 0) = false := by simpa using he
            go_wp2_with fail
            go_loopw [19] (fun i wr => i = .int .i64 0 ∧ Hid (K1 w wr x ko kc ks)) (fun _ _ => 0)
            case atStart => exact ⟨rfl, R4⟩
            case round =>
              obtain ⟨rfl, R⟩ := hrel
              clear R4
              by_cases hm0 : m = 0
              · have hd : decide ((0 : Int) < (m : Int)) = false := by simp; omega
                go_wp2_with fail
                go_roundw
                case rel => exact ⟨q + 1, by omega, by go_num, R⟩
                case measure => simp [intOf]; omega
              · have hd : decide ((0 : Int) < (m : Int)) = true := by simp; omega
                go_wp2_with fail
                go_roundw
                case rel => exact ⟨q + 1, by omega, by go_num, R⟩
                case measure => simp [intOf]; omega
          · replace R4 := hide R4
            clear R cz
            go_wp2_with fail
            go_loopw [19] (fun i wr => ∃ (t : Nat), t ≤ m ∧ i = .int .i64 t ∧ Hid (K1v w wr x ko kc ks v)) (fun i _ => m - (intOf i).toNat)
            case atStart => exact ⟨0, Nat.zero_le _, rfl, R4⟩
            case round =>
              obtain ⟨t, htm, rfl, R⟩ := hrel
              clear R4
              by_cases htk : t = m
              · subst htk
                have R5 := hide (unhide R).down
                clear R
                go_wp2_with fail
                go_roundw
                case rel => exact ⟨q + 1, by omega, by go_num, R5⟩
                case measure => simp [intOf]; omega
              · have htl : (t : Int) < (m : Int) := by omega
                obtain ⟨y, hy⟩ : ∃ y, ks[t]? = some y := ⟨ks[t]'(by rw [unhide HL]; omega), List.getElem?_eq_getElem _⟩
                obtain ⟨g, hg, cg⟩ := (unhide R).down.get hy
                have hyv : (y == v) = false := by
                  obtain ⟨l, _, _, _, _, h5⟩ := unhide R
                  simpa using h5 y (List.mem_of_getElem? hy)
                subst hg
                replace hy := hide hy
                go_wp2_with fail
                go_roundw
                case rel => exact ⟨t + 1, by omega, by go_num, R⟩
                case measure => simp [intOf]; omega
    · have hjl : (j : Int) < (k1 : Int) := by omega
      obtain ⟨z, b, off, rfl, hbk, cz⟩ := (unhide HA).at_ (unhide R).below (show j < k1 by omega)
      go_wp2_with fail
      refine (kl_take R z).mono ?_
      rintro e w4 ⟨v, e, rfl, ⟨he, R4⟩ | ⟨rfl, R4⟩⟩
      · replace R4 := hide R4
        clear R cz
        have he' : (e == 0) = false := by simpa using he
        go_wp2_with fail
        go_roundw
        case rel => exact ⟨j + 1, m, ko, kc, ks, by omega, by omega, rfl, by go_num, HL, R4⟩
        case measure => simp [intOf]; omega
      · clear R cz
        by_cases hjb : j < k2
        · have hd : decide ((j : Int) < (k2 : Int)) = true := by simp; omega
          obtain ⟨bb, boff, rfl, hbbk, cb0⟩ := (unhide HB).at_ R4.down.below hjb
          by_cases hkeep : bs j = true
          · rw [hkeep] at cb0
            obtain ⟨v0, v1⟩ := R4.bound
            replace R4 := hide R4
            go_wp2_with fail
            refine (kl_mark R4).mono ?_
            rintro e w5 ⟨r, rfl, R5⟩
            replace R5 := hide R5
            clear R4 cb0
            go_wp2_with fail
            refine (kl_write R5).mono ?_
            rintro e w6 ⟨r2, rfl, R6⟩
            clear R5
            obtain ⟨q1, q2, q3⟩ := K1w.row R6 (.cells #[.int .i64 v] 2)
            rw [unhide HL] at q1
            have HO := hide q1
            have HR := hide q2
            have HS := hide q3
            clear q1 q2 q3 R6
            have HN : Hid (∀ (i : Nat) u, [Value.int .i64 v][i]? = some u → (w6.alloc (.cells #[.int .i64 v] 2)).cell? ((⟨w6.heap.size, 0, none⟩ : Addr).add i) = some u) := hide fun i u hi => by
              rw [Addr.add_lit, Nat.zero_add, World.cell?_alloc_new]
              simpa using hi
            have H1 : Hid (∀ u ∈ [Value.int .i64 v], u.oneCell' = true) := hide fun u hu => by
              simp at hu
              rw [hu]
              rfl
            go_wp2_with (at_builtin; refine wpl_append_at rfl (.tmp 91) (.tmp 93) 34 rfl w.heap.size 2 i0 (.int .i64 0) 1 8 Tryd.underlying34 hi0 hz0 hz1 hz2 rfl (by decide) ko m kc (ks.map fun x => .int .i64 x) rfl (unhide HO) ⟨w6.heap.size, 0, none⟩ 1 1 [.int .i64 v] rfl rfl (unhide HN) (unhide H1) (by decide) (by unfold maxLen; omega) (by omega) (unhide HS) ?_; intro g cap8 w7 hr8 hg8 hat8)
            have R7 : Hid (K1 w w7 x (some ⟨g, 0, none⟩) cap8 (ks ++ [v])) := hide (K1w.append (unhide HR) (by rw [unhide HL]; exact hr8) (by rw [unhide HL]; exact hg8) hat8)
            have HL2 : Hid ((ks ++ [v]).length = m + 1) := hide (by rw [List.length_append, unhide HL]; rfl)
            clear hr8 hg8 hat8 HO HR HS HN H1
            go_wp2_with fail
            go_roundw
            case rel => exact ⟨j + 1, m + 1, some ⟨g, 0, none⟩, cap8, ks ++ [v], by omega, by omega, rfl, by go_num, HL2, R7⟩
            case measure => simp [intOf]; omega
          · have hk' : bs j = false := by simpa using hkeep
            rw [hk'] at cb0
            have R5 := hide R4.down
            clear R4
            go_wp2_with fail
            go_roundw
            case rel => exact ⟨j + 1, m, ko, kc, ks, by omega, by omega, rfl, by go_num, HL, R5⟩
            case measure => simp [intOf]; omega
        · have hd : decide ((j : Int) < (k2 : Int)) = false := by simp; omega
          have R5 := hide R4.down
          clear R4
          go_wp2_with fail
          go_roundw
          case rel => exact ⟨j + 1, m, ko, kc, ks, by omega, by omega, rfl, by go_num, HL, R5⟩
          case measure => simp [intOf]; omega

theorem walk_AllocKeeps (n : Int) (ao : Option Addr) (k1 ca : Nat) (zs : List Int) (bo : Option Addr) (k2 cb : Nat) (bs : Nat → Bool) (co : Option Addr) (k3 cc : Nat) (ys : List Int) (W : World) (w1 : IsInts W ao k1 zs) (w2 : IsBools W bo k2 bs) (w3 : IsInts W co k3 ys) (ht : Tab W) :
    Calls Tryd.prog 4 #[.int .i64 n, .slice ao k1 ca, .slice bo k2 cb, .slice co k3 cc] W fun e w' => e = .returned (.bool true) ∧ Below W.heap.size W w' := by
  by_cases h : 8 ≤ n ∧ n ≤ 16 ∧ k1 ≤ 60 ∧ k3 ≤ 60 ∧ k2 ≤ 100
  · obtain ⟨N, rfl⟩ := Int.eq_ofNat_of_zero_le (show 0 ≤ n by omega)
    exact keeps_walk W (hide ht) N ao bo co k1 k2 k3 ca cb cc zs ys bs (hide w1) (hide w2) (hide w3) (by omega) (by omega) (by omega) (by omega) (by omega)
  · refine keeps_out W (hide ht) n ao bo co k1 k2 k3 ca cb cc _ _ _ _ _ rfl rfl rfl rfl rfl ?_
    simp only [decide_eq_true_eq, decide_eq_false_iff_not]
    omega

set_option maxRecDepth 100000 in
theorem lifted_AllocKeeps (os : Os) (started : os.Started) (H : Type) (enc : TypeId × Value → H) :
    ReturnsInHanded {} Tryd.checked os 4 .any (fun w args => (Rows.allocKeepsSpec.pre enc Tryd.prog Tryd.f4 [] false w args ∧ laidMetH Tryd.prog laidTab w) ∧ sizedMet enc Tryd.prog Tryd.f4 (OpenSpec.ofChange Rows.allocKeepsSpec) false w args)
      (Rows.allocKeepsSpec.post enc Tryd.prog Tryd.f4 false true false false) := by
  refine returnsInHanded_of_change_and (C := Tryd.checked) (X := fun w _ => laidMetH Tryd.prog laidTab w) (fun _ _ _ hh h => h.of_heap hh) own started (by kernel_rfl) Tryd.func4
    (ChangeSpec.witness_shaped (enc := enc) (C := Tryd.checked) (os := os) (X := fun w _ => laidMetH Tryd.prog laidTab w) false (World.doorLaid Tryd.prog 400 os) #[.int .i64 0, .slice none 0 0, .slice none 0 0, .slice none 0 0] 8 rfl (World.shaped_of_RefB (by kernel_rfl) (by kernel_rfl)) (by kernel_rfl) (by kernel_rfl) (by kernel_rfl) (door_met os _)) ?_
  intro W base args ds gs before hval0 hW _ _ hL _
  have hval : ∀ (j : Nat) t v, Tryd.f4.params[j]? = some t → args[j]? = some v → Value.okWide Tryd.prog W .any base t v := hval0
  have hW' := hW
  obtain ⟨p, q, hA0, hV, rfl, hfz, hnd⟩ := hW
  have hA : DataW.TrodAll enc Tryd.prog W 0 (fun _ => true) true Tryd.f4.params.toList args.toList ds p := hA0
  rw [Tryd.params4] at hA hval
  obtain ⟨v0, vs0, d0, ds0, p0, q0, hargs, rfl, rfl, h0, r0⟩ := trodAll_cons hA
  obtain ⟨v1, vs1, d1, ds1, p1, q1, rfl, rfl, rfl, h1, r1⟩ := trodAll_cons r0
  obtain ⟨v2, vs2, d2, ds2, p2, q2, rfl, rfl, rfl, h2, r2⟩ := trodAll_cons r1
  obtain ⟨v3, vs3, d3, ds3, p3, q3, rfl, rfl, rfl, h3, r3⟩ := trodAll_cons r2
  obtain ⟨rfl, rfl, rfl⟩ := trodAll_nil r3
  obtain rfl : args = #[v0, v1, v2, v3] := by cases args; simp_all
  obtain ⟨rfl, rfl⟩ := trodVars_none hV
  have k0 := h0
  have lt0 : ∀ x ∈ p0, x.block < W.heap.size := by obtain ⟨m, hm⟩ := k0; exact DataW.trod_lt m _ _ _ hm
  obtain ⟨a0, rfl, rfl, rfl, w0⟩ := open_int Tryd.underlying3 (hval 0 3 v0 rfl rfl) h0
  have k1 := h1
  have lt1 : ∀ x ∈ p1, x.block < W.heap.size := by obtain ⟨m, hm⟩ := k1; exact DataW.trod_lt m _ _ _ hm
  obtain ⟨a1, n1, c1, l1, rfl, w1⟩ := open_introw (hval 1 32 v1 rfl rfl) h1
  have k2 := h2
  have lt2 : ∀ x ∈ p2, x.block < W.heap.size := by obtain ⟨m, hm⟩ := k2; exact DataW.trod_lt m _ _ _ hm
  obtain ⟨a2, n2, c2, l2, rfl, w2⟩ := open_boolrow (hval 2 33 v2 rfl rfl) h2
  have k3 := h3
  have lt3 : ∀ x ∈ p3, x.block < W.heap.size := by obtain ⟨m, hm⟩ := k3; exact DataW.trod_lt m _ _ _ hm
  obtain ⟨a3, n3, c3, l3, rfl, w3⟩ := open_introw (hval 3 32 v3 rfl rfl) h3
  clear hA0 hval0
  refine (walk_AllocKeeps a0 a1 n1 c1 l1 a2 n2 c2 l2 a3 n3 c3 l3 W w1 w2 w3 (tab_of_laid hL)).mono fun e W' ⟨he, hg⟩ => ?_
  subst he
  exact ⟨_, rfl, _, _, _, [], _, [], hW', trodAll_mk1 (shut_bool Tryd.underlying4 _), (trodAll_cons_mk (Below.trod laidOut (by kernel_rfl) (of_decide_eq_true (by kernel_rfl)) k0 hg lt0) (trodAll_cons_mk (Below.trod laidOut (by kernel_rfl) (of_decide_eq_true (by kernel_rfl)) k1 hg lt1) (trodAll_cons_mk (Below.trod laidOut (by kernel_rfl) (of_decide_eq_true (by kernel_rfl)) k2 hg lt2) (trodAll_cons_mk (Below.trod laidOut (by kernel_rfl) (of_decide_eq_true (by kernel_rfl)) k3 hg lt3) trodAll_mk0)))), rfl, hg.frame _, fun h => by cases h⟩

theorem row_AllocKeeps : Rows.AllocKeepsSaid :=
  OpenClaim.holds_of_wide 4 Tryd.f4 rfl rfl rfl rfl rfl rfl rfl ⟨rfl, rfl, rfl, rfl, rfl⟩ rfl rfl rfl rfl rfl (by kernel_rfl) Tryd.func4 (by kernel_rfl)
    (of_decide_eq_true (by kernel_rfl)) (by unfold Func.isWrapper; first | (rw [if_pos (by decide +kernel)]; kernel_rfl) | (rw [if_neg (by decide +kernel)]; exact ⟨rfl, rfl⟩))
    (fun os started H enc _ => lifted_AllocKeeps os started H enc)

/-- THE STATEMENT. -/
theorem card_AllocKeeps : Rows.AllocKeepsCardSaid :=
  Claim7.holds_tied_plain_at .later [] [.data] true (true, "df9a269f688f74646f8c72add8e7c773f49d00f2df2c27a20a52acf29d990246") false
    row_AllocKeeps (fun _ h => by cases h) (by kernel_rfl) (fun _ h => by cases h) allocKeeps_row_tie rfl ⟨rfl, rfl⟩ (by kernel_rfl) rfl
    (fun f fn hf hfn => by
      obtain rfl : f = 4 := Option.some.inj ((show Tryd.prog.funcNamed "gantline/gantlinelaw5.AllocKeeps" = some 4 by kernel_rfl).symm.trans hf) |>.symm
      obtain rfl : fn = Tryd.f4 := (Option.some.inj (Tryd.func4.symm.trans hfn)).symm
      exact ⟨by kernel_rfl, fun j t ht => by
        rw [Tryd.params4] at ht
        have hm : t ∈ [3, 32, 33, 32] := by simpa using Array.mem_of_getElem? ht
        have hall : ([3, 32, 33, 32].all fun u => !Tryd.prog.wantsStandIn u) = true := by kernel_rfl
        exact (show Tryd.prog.wantsStandIn t = false by simpa using List.all_eq_true.1 hall t hm)⟩)
    (by kernel_rfl)
#print axioms card_AllocKeeps
end Go.Proofs.YtbgmaifllndpfaaDoor
