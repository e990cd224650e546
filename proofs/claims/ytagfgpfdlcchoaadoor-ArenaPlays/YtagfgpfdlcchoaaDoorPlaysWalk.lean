/- The walk of ArenaPlays through any calls. -/
import Derived.Test.YtagfgpfdlcchoaaDoorPlaysFew
import Derived.Deep.DeepCutAuto
import Derived.BigQuiet
namespace Go.Proofs.YtagfgpfdlcchoaaDoor
open Go.ChangeShapes Go.WideShapes Go.ChangeAt Go.RowKit Go.Maps

set_option maxHeartbeats 4000000 in
set_option maxRecDepth 100000 in
theorem plays_walk (w : World) (ht : Hid (Tab w)) (N : Nat) (ao : Option Addr) (n ca : Nat) (al : List Ac) (HA : Hid (IsActs w ao n al)) (hN8 : 8 ≤ N) (hN20 : N ≤ 20) (hn : n ≤ 80) :
    Calls Tryd.prog 8 #[.int .i64 (N : Int), .slice ao n ca] w fun e w' => e = .returned (.bool true) ∧ Below w.heap.size w w' := by
  have C := hide (awake_true w (unhide ht))
  have d1 : decide ((N : Int) < 8) = false := by simp; omega
  have d2 : decide (512 < (N : Int)) = false := by simp; omega
  have d3 : decide (80 < (n : Int)) = false := by simp; omega
  have d4 : decide (20 < (N : Int)) = false := by simp; omega
  go_enter Tryd.func8, Tryd.ntmps8
  go_wp2_with fail
  refine (unhide C).mono ?_
  rintro e w1 ⟨rfl, g⟩
  have hb : Hid (Below w.heap.size w w1) := g
  clear g C
  go_wp2_with fail
  refine (st_make N hN8 (by omega) hb ht).mono ?_
  rintro e w2 ⟨d, rfl, S, _⟩
  have S := hide S
  clear hb
  go_wp2_with fail
  refine (rnew_at _ N (by omega) (by omega)).mono ?_
  rintro e w3 ⟨r0, rfl, RA, g, rlo⟩
  have I0 : Hid (Inv w w3 d r0.rb N 0) := hide (by
    have S' := (unhide S)
    have l0 := S'.at_.lt0
    have l1 := S'.at_.lt1 S'.n8
    have l2 := S'.at_.lt2 S'.n8
    have b0 := RA.b0
    have b1 := RA.b1
    refine ⟨ab0 N, r0, _, [], ⟨S'.G g, ⟨RA.c0, RA.c1, RA.f0, RA.cv, RA.cf, RA.cle, RA.lle, RA.lmx, RA.row, (fun a ha => by rw [rlo] at ha; cases ha), RA.nil, (fun m hm => by cases hm), RA.ap, Nat.le_trans S'.below.size b0, Nat.le_trans S'.below.size b1, RA.h0, RA.h1, RA.ne⟩,
      ⟨⟨by omega, by omega, by omega⟩, ⟨by omega, by omega, by omega⟩, (fun a ha => by rw [rlo] at ha; cases ha), (fun m hm => by cases hm)⟩⟩, rl_new N, rfl, rfl, Nat.le_refl _⟩)
  generalize r0.rb = rb at I0
  clear S RA g rlo d1 d2 d3 d4
  go_wp2_with fail
  go_loopw [8] (fun i wr => ∃ j : Nat, j ≤ n ∧ i = .int .i64 j ∧ Hid (Inv w wr d rb N j)) (fun i _ => n - (intOf i).toNat)
  case atStart => exact ⟨0, Nat.zero_le _, rfl, I0⟩
  case round =>
    obtain ⟨j, hj, rfl, I⟩ := hrel
    clear I0
    by_cases hjn : j = n
    · subst hjn
      obtain ⟨a, r, cl, l, B, R, hr, hN, hl⟩ := unhide I
      have CA := hide (alike_core (W := w) (w := wr) (d := d) (a := a) (r := r) (cl := cl) (l := l) a.n l.length (hide rfl) (by omega) (hide rfl) (by omega) (hide ⟨B, R, by omega⟩))
      rw [hr] at CA
      have HB := hide B.st.below
      clear B R hr hN hl I
      go_wp2_with fail
      refine (unhide CA).mono ?_
      rintro e w5 ⟨rfl, g⟩
      have HB2 : Hid (Below w.heap.size w w5) := hide ((unhide HB).trans (g.mono (unhide HB).size))
      clear g HB CA
      go_wp2_with fail
      go_ret
      exact ⟨rfl, unhide HB2⟩
    · have hjl : (j : Int) < (n : Int) := by omega
      obtain ⟨a, r, cl, l, B, R, hr, hN, hl⟩ := unhide I
      obtain ⟨s, b, off, _, rfl, hbk, c0, c1, c2, c3, c4, c5⟩ := (unhide HA).at_ B.st.below (show j < n by omega)
      have hl2 : Hid (l.length ≤ 2000) := hide (by omega)
      have B1 := hide (B.lay s)
      have good := hide B.st.good
      obtain ⟨op, sp, cc, at_, ad, v⟩ := s
      simp only at c0 c1 c2 c3 c4 c5
      replace R := hide R
      replace hr := hide hr
      replace hN := hide hN
      replace hl := hide hl
      clear B I
      obtain ⟨inb, hin⟩ : ∃ b, (decide (1 ≤ sp) && decide (sp < (N : Int))) = b := ⟨_, rfl⟩
      unfold Ac.obj at B1
      simp only at B1
      go_upto_region 13 with fail
      go_cut [10] (fun s10 wx => s10 = .bool inb ∧ wx = wr.alloc (.cells #[.int .i64 op, .int .i64 sp, .int .i64 cc, .int .i64 at_, .int .i64 ad, .int .i64 v] 60))
      case first =>
        by_cases h1 : 1 ≤ sp
        · have e1 : decide (1 ≤ sp) = true := by simpa using h1
          rw [e1, Bool.true_and] at hin
          go_wp2_with fail
          go_meet
          case rel => exact ⟨by first | rfl | (rw [hin]), rfl⟩
        · have e1 : decide (1 ≤ sp) = false := by simpa using h1
          rw [e1, Bool.false_and] at hin
          subst hin
          go_wp2_with fail
          go_meet
          case rel => exact ⟨rfl, rfl⟩
      case rest =>
        obtain ⟨rfl, rfl⟩ := hcut
        replace hin := hide hin
        by_cases o0 : op = 0
        · subst o0
          go_wp2_with fail
          refine (bx_set B1 sp cc).mono ?_
          rintro e w4 ⟨rfl, B4⟩
          clear B1 c0 c1 c2 c3 c4 c5
          obtain ⟨x0, x1, x2, x3, x4, x5⟩ := B4.cells
          simp only at x0 x1 x2 x3 x4 x5
          have KC : Hid (∀ w1, Bx w w1 d (a.setA sp cc) r cl l wr.heap.size ⟨0, sp, cc, at_, ad, v⟩ → w1.cell? ⟨rb, 0, none⟩ = some (.slice (some ⟨r.cb, 0, none⟩) N r.cc)) := hide fun w1 B => by have := B.bn.ref.c0; rw [(unhide R).len, unhide hN, unhide hr] at this; exact this
          cases inb with
          | false => as_aux_lemma =>
              have hE : a.setE sp cc = 1 ∧ a.setA sp cc = a := by
                have hn : ¬ (1 ≤ sp ∧ sp < a.n) := by
                  have := unhide hin
                  rw [unhide hN]
                  simpa using this
                have e : a.setE sp cc = 1 := by unfold Ab.setE; rw [if_pos (Or.inl hn)]
                exact ⟨e, by unfold Ab.setA; rw [if_neg (by rw [e]; decide)]⟩
              rw [hE.2] at B4 KC
              rw [hE.1]
              have I4 : Hid (Inv w w4 d rb N (j + 1)) := hide (Inv.of B4 (unhide R) (unhide hr) (unhide hN) (by have := unhide hl; omega))
              clear B4 KC hE
              go_wp2_with fail
              go_roundw
              case rel => exact ⟨j + 1, by omega, by go_num, I4⟩
              case measure => simp [intOf]; omega
          | true =>
            have hs : 1 ≤ sp ∧ sp < N := by have := unhide hin; simpa using this
            obtain ⟨q, rfl⟩ := Int.eq_ofNat_of_zero_le (show 0 ≤ sp by omega)
            have hq1 : 1 ≤ q := by omega
            have hqn : q < N := by omega
            by_cases hc : cc < 0 ∨ 5 < cc
            · as_aux_lemma =>
                have hE : a.setE q cc = 1 ∧ a.setA q cc = a := by
                  have e : a.setE q cc = 1 := by unfold Ab.setE; rw [if_pos (Or.inr hc)]
                  exact ⟨e, by unfold Ab.setA; rw [if_neg (by rw [e]; decide)]⟩
                rw [hE.2] at B4 KC
                rw [hE.1]
                have I4 : Hid (Inv w w4 d rb N (j + 1)) := hide (Inv.of B4 (unhide R) (unhide hr) (unhide hN) (by have := unhide hl; omega))
                clear B4 KC hE
                by_cases hc0 : cc < 0
                · go_wp2_with fail
                  go_roundw
                  case rel => exact ⟨j + 1, by omega, by go_num, I4⟩
                  case measure => simp [intOf]; omega
                · have hc0' : decide (cc < 0) = false := by simpa using hc0
                  have hc5 : 5 < cc := by omega
                  clear hc
                  go_wp2_with fail
                  go_roundw
                  case rel => exact ⟨j + 1, by omega, by go_num, I4⟩
                  case measure => simp [intOf]; omega
            · have hc0' : decide (cc < 0) = false := by simp; omega
              have hc5' : decide (5 < cc) = false := by simp; omega
              have k0 := unhide KC _ B4
              have v0 : w4.cell? ⟨r.cb, q, none⟩ = some (.int .i64 (a.cls q)) := B4.bn.ref.cv q _ ((unhide R).get (by rw [unhide hN]; exact hqn))
              have f0 : w4.frozen? ⟨r.cb, q, none⟩ = false := B4.bn.ref.cf q
              by_cases hcl : 0 ≤ a.cls q
              · as_aux_lemma =>
                  have hE : a.setE q cc = 5 ∧ a.setA q cc = a := by
                    have e : a.setE q cc = 5 := by unfold Ab.setE; rw [if_neg (by rw [unhide hN]; omega), a.clsI_at hq1 (by rw [unhide hN]; exact hqn), if_pos hcl]
                    exact ⟨e, by unfold Ab.setA; rw [if_neg (by rw [e]; decide)]⟩
                  rw [hE.2] at B4
                  rw [hE.1]
                  have I4 : Hid (∀ w1, G w4 w1 → Inv w w1 d rb N (j + 1)) := hide fun w1 g1 => Inv.of (B4.gr g1) (unhide R) (unhide hr) (unhide hN) (by have := unhide hl; omega)
                  clear B4 KC hE
                  generalize a.cls q = cq at v0 hcl
                  go_wp2_with fail
                  go_quiet (fail)
                  go_wp2_with fail
                  go_roundw
                  case rel => exact ⟨j + 1, by omega, by go_num, hide (unhide I4 _ (by first | exact G.drewN _ _ | exact G.refl _))⟩
                  case measure => simp [intOf]; omega
              · as_aux_lemma =>
                  have hE : a.setE q cc = 0 ∧ a.setA q cc = a.set q cc := by
                    have e : a.setE q cc = 0 := by unfold Ab.setE; rw [if_neg (by rw [unhide hN]; omega), a.clsI_at hq1 (by rw [unhide hN]; exact hqn), if_neg hcl]
                    exact ⟨e, by unfold Ab.setA; rw [if_pos e]; rfl⟩
                  rw [hE.2] at B4
                  rw [hE.1]
                  have I4 : Hid (∀ w1, G w4 w1 → Inv w (w1.setCell ⟨r.cb, q, none⟩ (.int .i64 cc)) d rb N (j + 1)) := hide fun w1 g1 => Inv.of ((B4.gr g1).setCls (by rw [(unhide R).len, unhide hN]; exact hqn) cc) ((unhide R).set (by rw [unhide hN]; exact hqn) (by omega)) (unhide hr) (unhide hN) (by have := unhide hl; omega)
                  clear B4 KC hE
                  have hcd : decide (0 ≤ a.cls q) = false := by simpa using hcl
                  generalize a.cls q = cq at v0 hcd
                  clear hcl
                  go_wp2_with fail
                  go_quiet (fail)
                  go_wp2_with fail
                  go_region
                  go_wp2_with fail
                  go_roundw
                  case rel => exact ⟨j + 1, by omega, by go_num, hide (unhide I4 _ (by first | exact G.drewN _ _ | exact G.refl _))⟩
                  case measure => simp [intOf]; omega
        by_cases o1 : op = 1
        · subst o1
          obtain ⟨V, eV⟩ : ∃ x, a.takeV sp = x := ⟨_, rfl⟩
          obtain ⟨E, eE⟩ : ∃ x, a.takeE sp = x := ⟨_, rfl⟩
          have CT := hide (bx_take B1 sp)
          rw [eV, eE] at CT
          replace eV := hide eV
          replace eE := hide eE
          go_wp2_with fail
          refine (unhide CT).mono ?_
          rintro e w4 ⟨rfl, B4⟩
          clear B1 c0 c1 c2 c3 c4 c5 CT
          obtain ⟨x0, x1, x2, x3, x4, x5⟩ := B4.cells
          simp only at x0 x1 x2 x3 x4 x5
          have k0 : w4.cell? ⟨rb, 0, none⟩ = some (.slice (some ⟨r.cb, 0, none⟩) N r.cc) := by have := B4.bn.ref.c0; rw [(unhide R).len, unhide hN, unhide hr] at this; exact this
          cases inb with
          | false => as_aux_lemma =>
              have hE : E = 4 ∧ V = 0 ∧ a.takeA sp = a := by
                have hn : ¬ (1 ≤ sp ∧ sp < a.n) := by
                  have := unhide hin
                  rw [unhide hN]
                  simpa using this
                have e : a.takeE sp = 4 := by unfold Ab.takeE; rw [(a.I_no hn).1, if_pos (by decide)]
                exact ⟨(unhide eE).symm.trans e, by rw [← unhide eV]; unfold Ab.takeV; rw [if_neg (by omega)], by unfold Ab.takeA; rw [if_neg (by omega)]⟩
              obtain ⟨rfl, rfl, e3⟩ := hE
              rw [e3] at B4
              have I4 : Hid (∀ w1, G w4 w1 → Inv w w1 d rb N (j + 1)) := hide fun w1 g1 => Inv.of (B4.gr g1) (unhide R) (unhide hr) (unhide hN) (by have := unhide hl; omega)
              clear B4 e3
              go_wp2_with fail
              go_quiet (fail)
              go_wp2_with fail
              go_roundw
              case rel => exact ⟨j + 1, by omega, by go_num, hide (unhide I4 _ (by first | exact G.drewN _ _ | exact G.refl _))⟩
              case measure => simp [intOf]; omega
          | true =>
            have hs : 1 ≤ sp ∧ sp < N := by have := unhide hin; simpa using this
            obtain ⟨q, rfl⟩ := Int.eq_ofNat_of_zero_le (show 0 ≤ sp by omega)
            have hq1 : 1 ≤ q := by omega
            have hqn : q < N := by omega
            have v0 : w4.cell? ⟨r.cb, q, none⟩ = some (.int .i64 (a.cls q)) := B4.bn.ref.cv q _ ((unhide R).get (by rw [unhide hN]; exact hqn))
            by_cases hcl : a.cls q < 0
            · as_aux_lemma =>
                have hE : E = 4 ∧ V = 0 ∧ a.takeA q = a := by
                  have e : a.takeE q = 4 := by unfold Ab.takeE; rw [a.clsI_at hq1 (by rw [unhide hN]; exact hqn), if_pos hcl]
                  exact ⟨(unhide eE).symm.trans e, by rw [← unhide eV]; unfold Ab.takeV; rw [if_neg (by omega)], by unfold Ab.takeA; rw [if_neg (by omega)]⟩
                obtain ⟨rfl, rfl, e3⟩ := hE
                rw [e3] at B4
                have I4 : Hid (∀ w1, G w4 w1 → Inv w w1 d rb N (j + 1)) := hide fun w1 g1 => Inv.of (B4.gr g1) (unhide R) (unhide hr) (unhide hN) (by have := unhide hl; omega)
                clear B4 e3
                generalize a.cls q = cq at v0 hcl
                go_wp2_with fail
                go_quiet (fail)
                go_wp2_with fail
                go_roundw
                case rel => exact ⟨j + 1, by omega, by go_num, hide (unhide I4 _ (by first | exact G.drewN _ _ | exact G.refl _))⟩
                case measure => simp [intOf]; omega
            · as_aux_lemma =>
                have CU : Hid (∀ w1, G w4 w1 → Calls Tryd.prog 42 #[.pointer (some ⟨rb, 0, none⟩), .int .i64 (q : Int)] w1 fun e w' => (E = 5 ∧ V = 0 ∧ e = .returned (.int .i64 0) ∧ Inv w w' d rb N (j + 1)) ∨ (E = 0 ∧ 0 < V ∧ e = .returned (.int .i64 V) ∧ Inv w w' d rb N (j + 1))) := hide fun w1 g1 => by
                  have := br_take (hide (B4.gr g1)) (unhide R) (unhide good) (unhide hl2) hq1 (by rw [unhide hN]; exact hqn) (by omega)
                  rw [unhide hr] at this
                  refine this.mono ?_
                  rintro e w' (⟨e1, e2, e3, e4, B5⟩ | ⟨r', l', e1, e2, e3, R', B5, hr', hl'⟩)
                  · rw [e3] at B5
                    exact Or.inl ⟨(unhide eE).symm.trans e1, (unhide eV).symm.trans e2, e4, Inv.of B5 (unhide R) (unhide hr) (unhide hN) (by have := unhide hl; omega)⟩
                  · exact Or.inr ⟨(unhide eE).symm.trans e1, by rw [← unhide eV]; exact e2, by rw [← unhide eV]; exact e3, Inv.of B5 R' hr' (by rw [Ab.takeA_n']; exact unhide hN) (by have := unhide hl; omega)⟩
                clear B4
                have hcd : decide (a.cls q < 0) = false := by simpa using hcl
                generalize a.cls q = cq at v0 hcd
                clear hcl
                go_wp2_with fail
                go_quiet (fail)
                go_wp2_with fail
                refine (unhide CU _ (by first | exact G.drewN _ _ | exact G.refl _)).mono ?_
                rintro e w6 (⟨rfl, rfl, rfl, I6⟩ | ⟨rfl, hV, rfl, I6⟩)
                · replace I6 := hide I6
                  go_wp2_with fail
                  go_roundw
                  case rel => exact ⟨j + 1, by omega, by go_num, I6⟩
                  case measure => simp [intOf]; omega
                · replace I6 := hide I6
                  have h1 : (V != V) = false := by simp
                  have h2 : (V != 0) = true := by simp; omega
                  have h3 : (V == 0) = false := by simp; omega
                  go_wp2_with fail
                  go_roundw
                  case rel => exact ⟨j + 1, by omega, by go_num, I6⟩
                  case measure => simp [intOf]; omega
        by_cases o2 : op = 2
        · subst o2
          as_aux_lemma =>
            have hmm : (a.markB ad != a.markB ad) = false := by simp
            have B := B1
            have x4 := (unhide B).cells.2.2.2.2.1
            simp only at x4
            clear c0 c1 c2 c3 c4 c5
            go_wp2_with fail
            go_region_with (first
              | (go_at_call 19; refine (bx_mark (hide (by first | exact (unhide B).gr (G.refl _).drew | exact unhide B)) ad).mono ?_; rintro e w5 ⟨rfl, B5⟩; clear B; have B := hide B5; clear B5; have x4 := (unhide B).cells.2.2.2.2.1; simp only at x4)
              | (go_at_call 20; refine (br_mark2 (hr := hr) (R := R) (good := good) (hl2 := hl2) (hide (by first | exact (unhide B).gr (G.refl _).drew | exact unhide B)) ad).mono ?_; rintro e w5 ⟨rfl, l', R', B5, hl'⟩; clear B; have B := hide B5; have R' := hide R'; have hl' := hide hl'; clear B5; have x4 := (unhide B).cells.2.2.2.2.1; simp only at x4))
            all_goals
              have I6 := hide (Inv.of (N := N) (i := j + 1) (unhide B) (unhide R') (unhide hr) (by rw [Ab.markA_n']; exact unhide hN) (by have := unhide hl; have := unhide hl'; omega))
              clear B R' hl' B1
              go_wp2_with fail
              go_roundw
              case rel => exact ⟨j + 1, by omega, by go_num, I6⟩
              case measure => simp [intOf]; omega
        by_cases o3 : op = 3
        · subst o3
          as_aux_lemma =>
            clear c0 c1 c2 c3 c4 c5
            go_wp2_with fail
            refine (bx_clear B1).mono ?_
            rintro e w4 ⟨rfl, B4⟩
            have CU := hide (br_clear (hide B4) (unhide R) (unhide hl2))
            rw [unhide hr] at CU
            clear B1 B4
            go_wp2_with fail
            refine (unhide CU).mono ?_
            rintro e w5 ⟨rfl, l', R', B5, hl'⟩
            have I6 := hide (Inv.of (i := j + 1) B5 R' (unhide hr) (unhide hN) (by have := unhide hl; omega))
            clear B5 R' hl' CU
            go_wp2_with fail
            go_roundw
            case rel => exact ⟨j + 1, by omega, by go_num, I6⟩
            case measure => simp [intOf]; omega
        by_cases o4 : op = 4
        · subst o4
          clear c0 c1 c2 c3 c4 c5
          cases inb with
          | false => as_aux_lemma =>
              have hE : a.sweepN sp = 0 ∧ a.sweepA sp = a := by
                have hn : ¬ (1 ≤ sp ∧ sp < a.n) := by
                  have := unhide hin
                  rw [unhide hN]
                  simpa using this
                exact sweep_out (unhide good) (by rw [(a.I_no hn).1]; decide)
              have CS := hide (bx_sweep B1 sp)
              rw [hE.1, hE.2] at CS
              go_wp2_with fail
              refine (unhide CS).mono ?_
              rintro e w4 ⟨rfl, B4⟩
              have I6 := hide (Inv.of (i := j + 1) B4 (unhide R) (unhide hr) (unhide hN) (by have := unhide hl; omega))
              clear B4 B1 CS hE
              go_wp2_with fail
              go_roundw
              case rel => exact ⟨j + 1, by omega, by go_num, I6⟩
              case measure => simp [intOf]; omega
          | true => as_aux_lemma =>
              have hs : 1 ≤ sp ∧ sp < N := by have := unhide hin; simpa using this
              obtain ⟨q, rfl⟩ := Int.eq_ofNat_of_zero_le (show 0 ≤ sp by omega)
              have hq1 : 1 ≤ q := by omega
              have hqn : q < N := by omega
              have CU := hide (br_sweep B1 (unhide R) (unhide good) (unhide hl2) hq1 (by rw [unhide hN]; exact hqn))
              rw [unhide hr] at CU
              go_wp2_with fail
              refine (unhide CU).mono ?_
              rintro e w4 ⟨rfl, r', cl', l', R', B4, hr', hl'⟩
              have x1 := B4.cells.2.1
              simp only at x1
              have CS := hide (bx_sweep (hide B4) (q : Int))
              have I7 : Hid (∀ w1, Bx w w1 d (a.sweepA q) r' cl' l' wr.heap.size ⟨4, q, cc, at_, ad, v⟩ → Inv w w1 d rb N (j + 1)) := hide fun w1 B => Inv.of B R' hr' (by rw [Ab.sweepA_n']; exact unhide hN) (by have := unhide hl; omega)
              clear B4 B1 R' hr' hl' CU
              generalize a.sweepN q = sn at CS
              have hss : ((sn : Int) != (sn : Int)) = false := by simp
              go_wp2_with fail
              refine (unhide CS).mono ?_
              rintro e w5 ⟨rfl, B5⟩
              have I6 := hide (unhide I7 _ B5)
              clear B5 CS I7
              go_wp2_with fail
              go_roundw
              case rel => exact ⟨j + 1, by omega, by go_num, I6⟩
              case measure => simp [intOf]; omega
        have g0 : (op == 0) = false := by simpa using o0
        have g1 : (op == 1) = false := by simpa using o1
        have g2 : (op == 2) = false := by simpa using o2
        have g3 : (op == 3) = false := by simpa using o3
        have g4 : (op == 4) = false := by simpa using o4
        clear o0 o1 o2 o3 o4 c0 c1 c2 c3 c4 c5
        generalize wr.alloc (.cells #[.int .i64 op, .int .i64 sp, .int .i64 cc, .int .i64 at_, .int .i64 ad, .int .i64 v] 60) = w5 at B1 ⊢
        obtain ⟨x0, x1, x2, x3, x4, x5⟩ := (unhide B1).cells
        simp only at x0 x1 x2 x3 x4 x5
        have CF := hide (br_find B1 (unhide hl2) ad)
        rw [unhide hr] at CF
        have FI := findI_cases (things l) ad
        generalize findI (things l) ad = fi at CF FI
        obtain ⟨th, eth⟩ : ∃ x, a.inW ad at_ = x := ⟨_, rfl⟩
        have FJ : Hid (th = true → ∃ (i k : Nat) (m : Mt), fi = i ∧ at_ = k ∧ l[i]? = some m ∧ m.t.addr = ad ∧ k < m.t.ws.length) := hide fun h => by
          rcases FI with ⟨_, hn⟩ | ⟨i, t, e, hi, ha⟩
          · have := (unhide R).out (unhide good) hn at_
            rw [eth, h] at this
            cases this
          · unfold things at hi
            rw [List.getElem?_map] at hi
            obtain ⟨m, hm, rfl⟩ := Option.map_eq_some_iff.1 hi
            have := (unhide R).in_ (unhide good) hm ha at_
            rw [eth, h] at this
            have h2 : 0 ≤ at_ ∧ at_ < m.t.ws.length := by simpa using this.symm
            obtain ⟨k, rfl⟩ := Int.eq_ofNat_of_zero_le h2.1
            exact ⟨i, k, m, e, rfl, hm, ha, by omega⟩
        have FC : Hid ((fi = -1 ∧ th = false) ∨ ∃ (i n1 lb wb nw wc : Nat), fi = i ∧ i < n1 ∧ w5.cell? ⟨rb, 1, none⟩ = some (.slice (some ⟨lb, 0, none⟩) n1 r.lc) ∧ w5.cell? ⟨lb, i * 3 + 1, none⟩ = some (.slice (some ⟨wb, 0, none⟩) nw wc) ∧ th = (decide (0 ≤ at_) && decide (at_ < nw))) := hide (by
          rcases FI with ⟨e, hn⟩ | ⟨i, t, e, hi, ha⟩
          · exact Or.inl ⟨e, by rw [← eth]; exact (unhide R).out (unhide good) hn at_⟩
          · unfold things at hi
            rw [List.getElem?_map] at hi
            obtain ⟨m, hm, rfl⟩ := Option.map_eq_some_iff.1 hi
            obtain ⟨lb, hlb, _, y1, _⟩ := (unhide B1).bn.ref.row i m hm
            have cl1 := (unhide B1).bn.ref.c1
            rw [hlb, unhide hr] at cl1
            exact Or.inr ⟨i, l.length, lb, m.wb, m.t.ws.length, m.wc, e, (List.getElem?_eq_some_iff.1 hm).1, cl1, y1, by rw [← eth]; exact (unhide R).in_ (unhide good) hm ha at_⟩)
        replace eth := hide eth
        clear FI
        go_wp2_with fail
        refine (unhide CF).mono ?_
        rintro e w6 ⟨rfl, hw⟩
        subst hw
        clear CF
        go_upto_region 16 with fail
        go_cut [18] (fun s18 wx => s18 = .bool th ∧ Hid (Bx w wx d a r cl l wr.heap.size ⟨op, sp, cc, at_, ad, v⟩))
        case first =>
          rcases unhide FC with ⟨rfl, rfl⟩ | ⟨i, n1, lb, wb, nw, wcc, rfl, hin1, y0, y1, hth⟩
          · as_aux_lemma =>
              clear FC FJ
              go_quiet (fail)
              go_wp2_with fail
              go_meet
              case rel => exact ⟨rfl, hide ((unhide B1).gr (G.drewN _ _))⟩
          · have hi0 : (0 : Int) ≤ (i : Int) := by omega
            have hi1 : (i : Int) < (n1 : Int) := by omega
            clear FC FJ
            by_cases ha0 : 0 ≤ at_
            · as_aux_lemma =>
                have e1 : decide (0 ≤ at_) = true := by simpa using ha0
                rw [e1, Bool.true_and] at hth
                subst hth
                generalize hq : decide (at_ < (nw : Int)) = bb
                go_quiet (fail)
                go_wp2_with fail
                go_meet
                case rel => exact ⟨by first | rfl | (rw [hq]), hide ((unhide B1).gr (G.drewN _ _))⟩
            · as_aux_lemma =>
                have e1 : decide (0 ≤ at_) = false := by simpa using ha0
                rw [e1, Bool.false_and] at hth
                subst hth
                go_quiet (fail)
                go_wp2_with fail
                go_meet
                case rel => exact ⟨rfl, hide ((unhide B1).gr (G.drewN _ _))⟩
        case rest =>
          obtain ⟨rfl, B2⟩ := hcut
          clear B1 x0 x1 x2 x3 x4 x5 FC
          obtain ⟨x0, x1, x2, x3, x4, x5⟩ := (unhide B2).cells
          simp only at x0 x1 x2 x3 x4 x5
          by_cases o5 : op = 5
          · subst o5
            cases th with
            | false => as_aux_lemma =>
                obtain ⟨q1, q2, q3⟩ := read_out (unhide eth)
                have CW := hide (bx_write B2 ad at_ v)
                rw [q1, q3 v] at CW
                clear FJ
                go_wp2_with fail
                refine (unhide CW).mono ?_
                rintro e w7 ⟨rfl, B7⟩
                have I6 := hide (Inv.of (i := j + 1) B7 (unhide R) (unhide hr) (unhide hN) (by have := unhide hl; omega))
                clear B7 B2 CW q1 q2 q3
                go_wp2_with fail
                go_roundw
                case rel => exact ⟨j + 1, by omega, by go_num, I6⟩
                case measure => simp [intOf]; omega
            | true => as_aux_lemma =>
                obtain ⟨i, k, m, rfl, rfl, hm, ha, hk⟩ := unhide FJ rfl
                have q1 : a.readE ad k = 0 := by unfold Ab.readE; rw [if_pos (unhide eth)]
                have CW := hide (bx_write B2 ad (k : Int) v)
                rw [q1] at CW
                clear FJ q1
                have hil : (i : Int) < (l.length : Int) := by have := (List.getElem?_eq_some_iff.1 hm).1; omega
                have FZ : Hid (∀ w1, Bx w w1 d (a.writeA ad k v) r cl l wr.heap.size ⟨5, sp, cc, k, ad, v⟩ → ∃ lb old, w1.cell? ⟨rb, 1, none⟩ = some (.slice (some ⟨lb, 0, none⟩) l.length r.lc) ∧ w1.cell? ⟨lb, i * 3 + 1, none⟩ = some (.slice (some ⟨m.wb, 0, none⟩) m.t.ws.length m.wc) ∧ w1.cell? ⟨m.wb, k, none⟩ = some (.int .i64 old) ∧ w1.frozen? ⟨m.wb, k, none⟩ = false) := hide fun w1 B => by
                  obtain ⟨lb, hlb, _, y1, _⟩ := B.bn.ref.row i m hm
                  have cl1 := B.bn.ref.c1
                  rw [hlb, unhide hr] at cl1
                  have W0 := (B.bn.ref.wd m (List.mem_of_getElem? hm)).1
                  exact ⟨lb, _, cl1, y1, W0.v k _ (List.getElem?_eq_getElem hk), W0.f k⟩
                have I5 : Hid (∀ w1, Bx w w1 d (a.writeA ad k v) r cl l wr.heap.size ⟨5, sp, cc, k, ad, v⟩ → Inv w (w1.setCell ⟨m.wb, k, none⟩ (.int .i64 v)) d rb N (j + 1)) := hide fun w1 B =>
                  Inv.of (B.setWord hm hk v) ((unhide R).write (unhide good) hm ha hk v) (unhide hr) (by rw [Ab.writeA_n']; exact unhide hN) (by rw [wordI_len]; have := unhide hl; omega)
                have hkl : (k : Int) < (m.t.ws.length : Int) := by omega
                generalize m.t.ws.length = nw at FZ hkl
                generalize m.wb = wb at FZ I5
                generalize m.wc = wcc at FZ
                generalize l.length = n1 at FZ hil
                clear hm ha hk
                go_wp2_with fail
                refine (unhide CW).mono ?_
                rintro e w7 ⟨rfl, B7⟩
                obtain ⟨lb, old, y0, y1, y2, y3⟩ := unhide FZ _ B7
                clear x0 x1 x2 x3 x4 x5
                obtain ⟨x0, x1, x2, x3, x4, x5⟩ := B7.cells
                simp only at x0 x1 x2 x3 x4 x5
                have I6 : Hid (∀ w1, G w7 w1 → Inv w (w1.setCell ⟨wb, k, none⟩ (.int .i64 v)) d rb N (j + 1)) := hide fun w1 g1 => unhide I5 _ (B7.gr g1)
                clear B7 B2 CW FZ I5
                go_wp2_with fail
                go_region
                go_wp2_with fail
                go_roundw
                case rel => exact ⟨j + 1, by omega, by go_num, hide ((unhide I6 _ (G.refl _)).gr (G.refl _).drew)⟩
                case measure => simp [intOf]; omega
          · have g5 : (op == 5) = false := by simpa using o5
            clear o5
            cases th with
            | false => as_aux_lemma =>
                obtain ⟨q1, q2, q3⟩ := read_out (unhide eth)
                have CW := hide (bx_read B2 ad at_)
                rw [q1, q2] at CW
                clear FJ
                go_wp2_with fail
                refine (unhide CW).mono ?_
                rintro e w7 ⟨rfl, B7⟩
                have I6 : Hid (∀ w1, G w7 w1 → Inv w w1 d rb N (j + 1)) := hide fun w1 g1 => Inv.of (B7.gr g1) (unhide R) (unhide hr) (unhide hN) (by have := unhide hl; omega)
                clear B7 B2 CW q1 q2 q3
                go_wp2_with fail
                go_quiet (fail)
                go_wp2_with fail
                go_roundw
                case rel => exact ⟨j + 1, by omega, by go_num, hide (unhide I6 _ (by first | exact G.drewN _ _ | exact G.refl _))⟩
                case measure => simp [intOf]; omega
            | true => as_aux_lemma =>
                obtain ⟨i, k, m, rfl, rfl, hm, ha, hk⟩ := unhide FJ rfl
                obtain ⟨val, hval⟩ : ∃ x, m.t.ws[k]? = some x := ⟨_, List.getElem?_eq_getElem hk⟩
                obtain ⟨q1, q2⟩ := (unhide R).read (unhide good) hm ha hval
                have CW := hide (bx_read B2 ad (k : Int))
                rw [q1, q2] at CW
                clear FJ q1 q2
                have hil : (i : Int) < (l.length : Int) := by have := (List.getElem?_eq_some_iff.1 hm).1; omega
                have FZ : Hid (∀ w1, Bx w w1 d a r cl l wr.heap.size ⟨op, sp, cc, k, ad, v⟩ → ∃ lb, w1.cell? ⟨rb, 1, none⟩ = some (.slice (some ⟨lb, 0, none⟩) l.length r.lc) ∧ w1.cell? ⟨lb, i * 3 + 1, none⟩ = some (.slice (some ⟨m.wb, 0, none⟩) m.t.ws.length m.wc) ∧ w1.cell? ⟨m.wb, k, none⟩ = some (.int .i64 val)) := hide fun w1 B => by
                  obtain ⟨lb, hlb, _, y1, _⟩ := B.bn.ref.row i m hm
                  have cl1 := B.bn.ref.c1
                  rw [hlb, unhide hr] at cl1
                  exact ⟨lb, cl1, y1, (B.bn.ref.wd m (List.mem_of_getElem? hm)).1.v k _ hval⟩
                have hkl : (k : Int) < (m.t.ws.length : Int) := by omega
                generalize m.t.ws.length = nw at FZ hkl
                generalize m.wb = wb at FZ
                generalize m.wc = wcc at FZ
                obtain ⟨n1, en1⟩ : ∃ x, l.length = x := ⟨_, rfl⟩
                rw [en1] at FZ hil
                replace en1 := hide en1
                have hvv : (val != val) = false := by simp
                clear hm ha hk hval
                go_wp2_with fail
                refine (unhide CW).mono ?_
                rintro e w7 ⟨rfl, B7⟩
                obtain ⟨lb, y0, y1, y2⟩ := unhide FZ _ B7
                clear x0 x1 x2 x3 x4 x5
                obtain ⟨x0, x1, x2, x3, x4, x5⟩ := B7.cells
                simp only at x0 x1 x2 x3 x4 x5
                have I6 : Hid (∀ w1, G w7 w1 → Inv w w1 d rb N (j + 1)) := hide fun w1 g1 => Inv.of (B7.gr g1) (unhide R) (unhide hr) (unhide hN) (by have := unhide hl; omega)
                clear B7 B2 CW FZ
                go_wp2_with fail
                go_quiet (fail)
                go_wp2_with fail
                go_roundw
                case rel => exact ⟨j + 1, by omega, by go_num, hide (unhide I6 _ (by first | exact G.drewN _ _ | exact G.refl _))⟩
                case measure => simp [intOf]; omega
end Go.Proofs.YtagfgpfdlcchoaaDoor
