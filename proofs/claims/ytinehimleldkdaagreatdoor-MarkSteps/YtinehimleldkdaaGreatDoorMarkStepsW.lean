/- MarkSteps of package gantlinelaw7: its walk. -/
import Derived.Test.YtinehimleldkdaaGreatDoorMarkAwake
import Derived.Test.YtinehimleldkdaaGreatDoorMgD
namespace Go.Proofs.YtinehimleldkdaaGreatDoor
set_option maxRecDepth 100000
open Go.ChangeShapes Go.WideShapes Go.ChangeAt Go.RowKit Go.Maps Go.Deep

theorem kinds_ok : ∀ s ∈ kinds, (s.k = 0 ∨ s.k = 1 ∨ s.k = 2 ∨ s.k = 3) ∧ s.m < 18446744073709551616 := by decide
theorem MS.rk2 {W w : World} {L : Lc} {M1 M2 : Ms} {N : Nat} {E : List Nat} (h : MS W w L M1 M2 N E) : ∃ go gc, w.cell? ⟨L.rk, 2, none⟩ = some (.slice go M2.g.length gc) := by
  obtain ⟨e, h⟩ := h
  exact ⟨_, _, h.dm.c2⟩
theorem lit_row (w : World) (x : Int) : Gy.IsI (w.alloc (.cells #[.int .i64 x] 2)) (some ⟨w.heap.size, 0, none⟩) [x] := Or.inr ⟨w.heap.size, 0, rfl, by rw [World.size_alloc]; omega, fun i y hi => by
  match i, hi with
  | 0, hi => cases hi; exact World.cell?_alloc_new _ _ _ 0
  | i + 1, hi => simp at hi⟩

section
variable {W : World} {L : Lc} {M : Ms} {N : Nat} {E : List Nat}
/-- Both Steps. -/
theorem both_step (hN : N ≤ 512) (hT : M.T = kinds) (hg : M.g.length ≤ 900) : ∃ (b : Bool) (M' : Ms), M' = M.step ∧
    (∀ w, MS W w L M M N E → Calls Tryz.prog 10 #[.pointer (some ⟨L.kb, 0, none⟩)] w (fun r w' => r = .returned (.bool b) ∧ MS W w' L M' M N E)) ∧
    ∀ w1, MS W w1 L M' M N E → Calls Tryz.prog 20 #[.pointer (some ⟨L.rk, 0, none⟩)] w1 (fun r w' => r = .returned (.bool b) ∧ MS W w' L M' M' N E) := by
  cases h0 : M.g with
  | nil =>
    have e : M.step = M := by unfold Ms.step; rw [h0]
    exact ⟨false, M, e.symm, fun w h => (m_step_none (hide h) h0).mono fun _ _ hh => ⟨hh.1, by rw [hh.2]; exact h⟩, fun w1 h1 => (d_step_none (hide h1) h0).mono fun _ _ hh => ⟨hh.1, by rw [hh.2]; exact h1⟩⟩
  | cons x r =>
    rw [h0] at hg
    simp at hg
    exact ⟨true, M.step, rfl, fun w h => (m_step_some (hide h) (hide h0) (by omega)).mono fun _ _ hh => ⟨hh.1, hh.2.1⟩, fun w1 h1 => (d_step_some (hide h1) (by omega) (hide (by rw [hT]; exact kinds_ok)) (hide h0) (by omega)).mono fun _ _ hh => ⟨hh.1, hh.2.1⟩⟩
end

set_option maxHeartbeats 16000000 in
theorem steps_core (world_any : WorldC) (ao ro so : Option Addr) (ca cr cs k m n : Nat) (st : Int) (l : List Th) (rs ws : List Int) (hl : Hid (l.length = k)) (hm : Hid (rs.length = m)) (hn : Hid (ws.length = n)) (w : World) (ht : Hid (Tab w)) (HT : Hid (ThsAt w ao l)) (HR : Hid (Gy.IsI w ro rs)) (HW : Hid (Gy.IsI w so ws)) (hrw : Hid (∀ z ∈ rs, wfI z)) (hww : Hid (∀ z ∈ ws, wfI z)) (ok : Hid (WOk 10 l)) :
    Calls Tryz.prog 4 #[.slice ao k ca, .slice ro m cr, .slice so n cs, .int .i64 st] w fun e w' => e = .returned (.bool true) ∧ G w w' := by
  by_cases hlim : 30 < k ∨ 20 < m ∨ 20 < n ∨ st < 0 ∨ 60 < st
  · --<Z
    by_cases h1 : 30 < k
    · go_enter Tryz.func4, Tryz.ntmps4
      go_wp2_with fail
      refine (awake7 world_any w (unhide ht)).mono ?_
      rintro r w1 ⟨rfl, g1⟩
      go_wp2_with fail
      go_ret
      exact ⟨rfl, g1⟩
    by_cases h2 : 20 < m
    · go_enter Tryz.func4, Tryz.ntmps4
      go_wp2_with fail
      refine (awake7 world_any w (unhide ht)).mono ?_
      rintro r w1 ⟨rfl, g1⟩
      go_wp2_with fail
      go_ret
      exact ⟨rfl, g1⟩
    by_cases h3 : 20 < n
    · go_enter Tryz.func4, Tryz.ntmps4
      go_wp2_with fail
      refine (awake7 world_any w (unhide ht)).mono ?_
      rintro r w1 ⟨rfl, g1⟩
      go_wp2_with fail
      go_ret
      exact ⟨rfl, g1⟩
    by_cases h4 : st < 0
    · go_enter Tryz.func4, Tryz.ntmps4
      go_wp2_with fail
      refine (awake7 world_any w (unhide ht)).mono ?_
      rintro r w1 ⟨rfl, g1⟩
      go_wp2_with fail
      go_ret
      exact ⟨rfl, g1⟩
    have h5 : 60 < st := by omega
    clear hlim
    go_enter Tryz.func4, Tryz.ntmps4
    go_wp2_with fail
    refine (awake7 world_any w (unhide ht)).mono ?_
    rintro r w1 ⟨rfl, g1⟩
    go_wp2_with fail
    go_ret
    exact ⟨rfl, g1⟩
    --Z>
  obtain ⟨sn, rfl⟩ : ∃ sn : Nat, st = (sn : Int) := ⟨st.toNat, by omega⟩
  have hk30 : (k : Int) ≤ 30 := by omega
  have hm20 : (m : Int) ≤ 20 := by omega
  have hn20 : (n : Int) ≤ 20 := by omega
  have hs60 : (sn : Int) ≤ 60 := by omega
  clear hlim
  go_enter Tryz.func4, Tryz.ntmps4
  go_wp2_with fail
  refine (awake7 world_any w (unhide ht)).mono ?_
  rintro r w1 ⟨rfl, g1⟩
  have CW := hide (world_any w1 (hide ((unhide ht).later g1)) 10 (by decide) (by decide) ao ca k l hl (by omega) (hide ((unhide HT).g g1)))
  have HR1 := hide ((unhide HR).g g1)
  have HW1 := hide ((unhide HW).g g1)
  replace g1 := hide g1
  obtain ⟨al, hal⟩ : ∃ al, (wld 10 l).1 = al := ⟨_, rfl⟩
  obtain ⟨at_, hat⟩ : ∃ at_, (wld 10 l).2 = at_ := ⟨_, rfl⟩
  have O : Hid (TkO al ∧ al.a.n = 10) := hide (by rw [← hal]; exact ⟨(unhide ok).o, wld_n 10 l⟩)
  have hlen : Hid (at_.length = k) := hide (by rw [← hat]; exact (unhide ok).len.trans (unhide hl))
  have hwf : Hid (∀ x ∈ at_, wfI x) := hide (by rw [← hat]; exact (unhide ok).wf)
  rw [hal, hat] at CW
  clear hal hat ok HT HR HW
  go_wp2_with fail
  refine (unhide CW).mono ?_
  rintro r w2 ⟨L, bo, cb, rfl, X, R⟩
  have IR := hide R.is
  have X0 := hide X
  clear CW X R
  go_wp2_with fail
  go_loopw [13] (fun c wr => ∃ (j : Nat) (al : Al), c = .int .i64 (j : Int) ∧ j ≤ n ∧ Hid (MS w1 wr L ⟨al, kinds, []⟩ ⟨al, kinds, []⟩ k (Gy.blk bo)) ∧ Hid (TkO al ∧ al.a.n = 10) ∧ Hid (Kd w2 wr (Gy.blk bo))) (fun c _ => n - (intOf c).toNat)
  case atStart => exact ⟨0, al, rfl, Nat.zero_le _, X0, O, hide (Kd.refl _ _)⟩
  case round =>
    obtain ⟨j, al2, rfl, hj, X, O2, K⟩ := hrel
    clear X0 O
    by_cases hlt : j < n
    · --<A
      by_cases hk0 : k = 0
      · subst hk0
        go_wp2_with fail
        go_roundw
        case rel => exact ⟨j + 1, al2, by go_num, by omega, X, O2, K⟩
        case measure => simp [intOf]; omega
      · obtain ⟨v, gv, ov, hv, rfl, cv0⟩ := (unhide HW1).at_ (i := j) (by have := unhide hn; omega)
        have cvl := World.block_lt_of_cell? _ _ cv0
        have cv := ((unhide X).below.cell (p := ⟨gv, ov + j, none⟩) cvl).trans cv0
        have hvw : Hid (wfI v) := hide (unhide hww v (List.mem_of_getElem? hv))
        obtain ⟨r, hr⟩ : ∃ r, j % k = r := ⟨_, rfl⟩
        have hrk : r < k := by rw [← hr]; exact Nat.mod_lt _ (by omega)
        have hrem : Int.tmod (j : Int) (k : Int) = (r : Int) := by rw [← hr]; exact (Int.ofNat_tmod j k).symm
        obtain ⟨x, ga, oa, hx, rfl, cx⟩ := (IsI_kept2 (unhide IR) (unhide K) fun d hd => (unhide X).lt d hd).at_ (i := r) (by have := unhide hlen; omega)
        have hkp : (0 : Int) < (k : Int) := by omega
        have hkn : ((k : Int) == 0) = false := by simp; omega
        clear hv cv0 hx hr
        by_cases hx0 : x = 0
        · subst hx0
          go_wp2_with fail
          go_roundw
          case rel => exact ⟨j + 1, al2, by go_num, by omega, X, O2, K⟩
          case measure => simp [intOf]; omega
        · have hxb : (x != 0) = true := by simpa using hx0
          have rk0 := (unhide X).rk0
          have lrk := World.block_lt_of_cell? _ _ rk0
          have lga := World.block_lt_of_cell? _ _ cx
          have lgv := World.block_lt_of_cell? _ _ cv
          have S0 := And.intro rk0 (And.intro cx cv)
          have hin : Hid (∀ (_ : al2.a.is x = true), ((0 : Nat) : Int) < gw (al2.a.clsI (gs x))) := hide fun h => by have := (is_gw (unhide O2).1.good h).1; omega
          have O3 : Hid (TkO (wrA al2 x ((0 : Nat) : Int) v) ∧ (wrA al2 x ((0 : Nat) : Int) v).a.n = 10) := hide ⟨wrA_o (unhide O2).1 (unhide hvw), (Ab.writeA_n _ _ _ _).trans (unhide O2).2⟩
          have hjn : (j : Int) < (n : Int) := by omega
          have hrki : (r : Int) < (k : Int) := by omega
          clear rk0 cx cv
          go_wp2_with fail
          go_region_held3 (fun wx => wx.cell? ⟨L.rk, 0, none⟩ = some (.pointer (some ⟨L.x.rb, 0, none⟩)) ∧ wx.cell? ⟨ga, oa + r, none⟩ = some (.int .i64 x) ∧ wx.cell? ⟨gv, ov + j, none⟩ = some (.int .i64 v)) (first | assumption | go_keep) ((go_at_call 15; refine (b_put (hide (by first | exact unhide X | exact (unhide X).gr (G.drew (G.refl _)))) (by omega) x v 0 hin).mono ?_; rintro r2 w5 ⟨rfl, X5, K5⟩; have S5 : w5.cell? ⟨L.rk, 0, none⟩ = some (.pointer (some ⟨L.x.rb, 0, none⟩)) ∧ w5.cell? ⟨ga, oa + r, none⟩ = some (.int .i64 x) ∧ w5.cell? ⟨gv, ov + j, none⟩ = some (.int .i64 v) := ⟨X5.rk0, (World.cell?_of_block (a := ⟨ga, oa + r, none⟩) (K5 ga (by simp [Gy.blk]))).trans S0.2.1, (X5.below.cell (p := ⟨gv, ov + j, none⟩) cvl).trans (((unhide X).below.cell (p := ⟨gv, ov + j, none⟩) cvl).symm.trans S0.2.2)⟩; have Y5 := hide X5; have K6 := hide (show Kd w2 w5 (Gy.blk (some ⟨ga, oa, none⟩)) from fun d hd => (K5 d hd).trans (unhide K d hd))))
          all_goals
            go_wp2_with fail
            go_roundw
            case rel => exact ⟨j + 1, _, by go_num, by omega, Y5, O3, K6⟩
            case measure => simp [intOf]; omega
      --A>
    · obtain rfl : j = n := by omega
      obtain ⟨M0, hM0⟩ : ∃ M0 : Ms, ⟨al2, kinds, []⟩ = M0 := ⟨_, rfl⟩
      have hM0' := hide hM0
      have IR2 := hide (IsI_kept2 (unhide IR) (unhide K) fun d hd => (unhide X).lt d hd)
      rw [hM0] at X
      have X0 : Hid (MS w1 wr L (M0.shades []) (M0.shades []) k (Gy.blk bo)) := X
      obtain ⟨A, hA1, hA2⟩ := (unhide X).few
      have hMA : Hid (∀ y, al2.a.is y = true → y ∈ A) := hide (by rw [← hM0] at hA2; exact hA2)
      have h0g : Hid (M0.g = []) := hide (by rw [← hM0])
      clear X K IR hA2 hM0
      go_wp2_with fail
      go_loopw [14] (fun c wx => ∃ (j : Nat) (S : List Int), c = .int .i64 (j : Int) ∧ j ≤ m ∧ Hid (S.length = j) ∧ Hid (MS w1 wx L (M0.shades S) (M0.shades S) k (Gy.blk bo)) ∧ Hid (Kd wr wx (Gy.blk bo))) (fun c _ => m - (intOf c).toNat)
      case atStart => exact ⟨0, [], rfl, Nat.zero_le _, hide rfl, X0, hide (Kd.refl _ _)⟩
      case round =>
        obtain ⟨j, S, rfl, hj, hS, X, K⟩ := hrel
        clear X0
        by_cases hlt : j < m
        · --<B
          obtain ⟨z, gr, offr, hz, rfl, cz0⟩ := (unhide HR1).at_ (i := j) (by have := unhide hm; omega)
          have czl := World.block_lt_of_cell? _ _ cz0
          have cz := ((unhide X).below.cell (p := ⟨gr, offr + j, none⟩) czl).trans cz0
          have hzw : Hid (wfI z) := hide (unhide hrw z (List.mem_of_getElem? hz))
          have ix := hide (IsI_kept2 (unhide IR2) (unhide K) fun d hd => (unhide X).lt d hd)
          clear hz cz0
          go_upto_region 17 with fail
          go_cut [111] (fun v wx => v = .bool (decide (0 ≤ z ∧ z < (k : Int))) ∧ wx = wr)
          case first =>
            by_cases hz0 : 0 ≤ z
            · by_cases hzj : z < (k : Int)
              · have hd : decide (0 ≤ z ∧ z < (k : Int)) = true := by simp [hz0, hzj]
                go_wp2_with fail
                go_meet
                case rel => exact ⟨by rw [hd], rfl⟩
              · have hd : decide (0 ≤ z ∧ z < (k : Int)) = false := by simp [hzj]
                go_wp2_with fail
                go_meet
                case rel => exact ⟨by rw [hd], rfl⟩
            · have hd : decide (0 ≤ z ∧ z < (k : Int)) = false := by simp [hz0]
              go_wp2_with fail
              go_meet
              case rel => exact ⟨by rw [hd], rfl⟩
          case rest =>
            obtain ⟨rfl, rfl⟩ := hcut
            go_upto_if 111 with fail
            go_cut [15] (fun v wx => v = .int .i64 (fval at_ z) ∧ wx = wc)
            case first =>
              by_cases hzj : 0 ≤ z ∧ z < (k : Int)
              · obtain ⟨zz, rfl⟩ := Int.eq_ofNat_of_zero_le hzj.1
                have hzj2 : zz < k := by omega
                obtain ⟨y, g2, o2, hy, rfl, cy⟩ := (unhide ix).at_ (i := zz) (by have := unhide hlen; omega)
                have hfv : fval at_ (zz : Int) = y := by unfold fval; rw [if_pos ⟨by omega, by have := unhide hlen; omega⟩, List.getD_eq_getElem?_getD, Int.toNat_natCast, hy]; rfl
                have hd : decide (0 ≤ (zz : Int) ∧ (zz : Int) < (k : Int)) = true := by simpa using hzj
                clear hy hzj
                go_wp2_with fail
                go_meet
                case rel => exact ⟨by rw [hfv], rfl⟩
              · have hfv : fval at_ z = z := by unfold fval; rw [if_neg (by rw [unhide hlen]; exact hzj)]
                have hd : decide (0 ≤ z ∧ z < (k : Int)) = false := by simpa using hzj
                go_wp2_with fail
                go_meet
                case rel => exact ⟨by rw [hfv], rfl⟩
            case rest =>
              obtain ⟨rfl, rfl⟩ := hcut
              obtain ⟨x, hx⟩ : ∃ x, fval at_ z = x := ⟨_, rfl⟩
              have hxw : Hid (∀ y ∈ [x], wfI y) := hide fun y hy => by simp at hy; rw [hy, ← hx]; exact fval_wf (unhide hwf) (unhide hzw)
              rw [hx]
              have hg := hide (Ms.shades_g S M0)
              have hglen : (M0.shades S).g.length ≤ 20 := by have := unhide hg; rw [unhide h0g, unhide hS] at this; simp at this; omega
              obtain ⟨M, hM⟩ : ∃ M, M0.shades S = M := ⟨_, rfl⟩
              have eM : Hid (M0.shades (S ++ [x]) = M.shade x) := hide (by rw [Ms.shades_snoc, hM])
              rw [hM] at X hglen
              have sm : Hid (((M.shade x).al.a.n = al2.a.n ∧ (M.shade x).al.a.cls = al2.a.cls ∧ (M.shade x).al.a.tk = al2.a.tk ∧ (M.shade x).al.a.wd = al2.a.wd ∧ (M.shade x).T = kinds)) := hide (by rw [← unhide eM, ← unhide hM0']; exact Ms.shades_same _ ⟨al2, kinds, []⟩)
              have CS1 := hide (m_shade X (by omega) x)
              obtain ⟨sb, hsb⟩ : ∃ sb, M.al.a.markB x = sb := ⟨_, rfl⟩
              rw [hsb] at CS1
              have hsb' := hide hsb
              have hbb : (sb != sb) = false := by simp
              clear hx cz hg hM hsb hzw
              go_wp2_with fail
              refine (unhide CS1).mono ?_
              rintro r2 w3 ⟨rfl, X3, K3⟩
              have X3' := hide X3
              have CS2 := hide (d_shade X3' (by omega) (by omega) x)
              rw [unhide hsb'] at CS2
              clear CS1 X3
              go_wp2_with fail
              refine (unhide CS2).mono ?_
              rintro r2 w4 ⟨rfl, X4, K4⟩
              have K4' : Hid (Kd wr w4 (Gy.blk bo)) := hide fun d hd => ((K4 d hd).trans (K3 d hd)).trans (unhide K d hd)
              have X4' := hide X4
              obtain ⟨M', hM'⟩ : ∃ M', M.shade x = M' := ⟨_, rfl⟩
              rw [hM'] at X4' sm eM
              clear CS2 X4 X3' K3 K4 K hM' X hsb'
              have CF1 := hide (m_fields X4' x)
              obtain ⟨fl, hfl⟩ : ∃ fl, (M'.flds x).length = fl := ⟨_, rfl⟩
              have hfl2 : fl ≤ 63 := by rw [← hfl]; exact M'.flds_len x
              rw [hfl] at CF1
              have hfl' := hide hfl
              clear hfl
              go_wp2_with fail
              refine (unhide CF1).mono ?_
              rintro r2 w5 ⟨f1, c1, rfl, R5, g5⟩
              have I5 := hide R5.is
              have X5 := hide ((unhide X4').gr g5)
              have CF2 := hide (d_fields X5 (by omega) (by rw [(unhide sm).2.2.2.2]; exact kinds_ok) x)
              rw [unhide hfl'] at CF2
              have g45 := hide g5
              clear CF1 R5 g5
              go_wp2_with fail
              refine (unhide CF2).mono ?_
              rintro r2 w6 ⟨f2, c2, rfl, R6, g6⟩
              have I6 := hide R6.is
              have I6' := hide ((unhide I5).g g6)
              have CN := hide (Gy.nums_true w6 f1 f2 c1 c2 fl (M'.flds x) (unhide hfl') (by omega) I6' I6)
              have g46 := hide ((unhide g45).trans g6)
              clear CF2 R6 g6 g45 X5 I5
              go_wp2_with fail
              refine (unhide CN).mono ?_
              rintro r2 w7 ⟨rfl, g7⟩
              have g47 := hide ((unhide g46).trans g7)
              have X7 := hide ((unhide X4').gr ((unhide g47).trans (G.alloc w7 (.cells #[.int .i64 x] 2))))
              have hMA' : Hid (∀ y, M'.al.a.is y = true → y ∈ A) := hide fun y hy => unhide hMA y (by rw [← is_same (unhide sm).1 (unhide sm).2.1 (unhide sm).2.2.1 y]; exact hy)
              have hMw : Hid (∀ y, wfI (M'.al.a.wd y)) := hide fun y => by rw [(unhide sm).2.2.2.1]; exact (unhide O2).1.wf y
              have CR1 := hide (m_reach X7 (bo := some ⟨w7.heap.size, 0, none⟩) (cb := 1) (n := 1) (ys := [x]) (A := A) rfl (by decide) hMw hxw (hide (lit_row w7 x)) (hide fun d hd => by simp [Gy.blk] at hd; subst hd; rw [World.size_alloc]; omega) hMA' (by omega))
              clear CN g7 g46 I6 I6'
              go_wp2_with fail
              refine (unhide CR1).mono ?_
              rintro r2 w8 ⟨q1, d1, fnd, rfl, R8, g8, a8, m8⟩
              have I8 := hide R8.is
              have A8 := hide a8
              have m8' := hide m8
              have hfn : fnd.length ≤ 30 := by
                have := nodup_sub a8.nodup fun y hy => unhide hMA' y ((m8 y).1 hy).taken
                omega
              have g48 := hide (((unhide g47).trans (G.alloc w7 (.cells #[.int .i64 x] 2))).trans g8)
              have X8 := hide ((unhide X4').gr ((unhide g48).trans (G.alloc w8 (.cells #[.int .i64 x] 2))))
              have CR2 := hide (d_reach X8 (by omega) (by rw [(unhide sm).2.2.2.2]; exact kinds_ok) (bo := some ⟨w8.heap.size, 0, none⟩) (cb := 1) (m := 1) (ys := [x]) rfl (by decide) (hide (lit_row w8 x)))
              obtain ⟨nl, hnl⟩ : ∃ nl, fnd.length = nl := ⟨_, rfl⟩
              have hnl' := hide hnl
              rw [hnl] at hfn
              rw [hnl]
              clear CR1 R8 g8 a8 m8 g47 X7 hnl
              go_wp2_with fail
              refine (unhide CR2).mono ?_
              rintro r2 w9 ⟨q2, d2, fnd2, rfl, R9, g9, a9, m9⟩
              obtain rfl : fnd2 = fnd := Asc.ext a9 (unhide A8) fun y => (m9 y).trans (unhide m8' y).symm
              have I9 := hide R9.is
              have I9' := hide (((unhide I8).g (G.alloc w8 (.cells #[.int .i64 x] 2))).g g9)
              have CN := hide (Gy.nums_true w9 q1 q2 d1 d2 nl fnd2 (unhide hnl') (by omega) I9' I9)
              have g49 := hide (((unhide g48).trans (G.alloc w8 (.cells #[.int .i64 x] 2))).trans g9)
              rw [unhide hnl']
              clear CR2 R9 g9 a9 m9 g48 X8 I8
              go_wp2_with fail
              refine (unhide CN).mono ?_
              rintro r2 w10 ⟨rfl, g10⟩
              have gz := hide ((unhide g49).trans g10)
              clear CN g10
              go_wp2_with fail
              go_roundw
              case rel => exact ⟨j + 1, S ++ [x], by go_num, by omega, hide (by rw [List.length_append, unhide hS]; rfl), hide (by rw [unhide eM]; exact (unhide X4').gr (unhide gz)), hide (fun d hd => ((unhide X4').kd (unhide gz) d hd).trans (unhide K4' d hd))⟩
              case measure => simp [intOf]; omega
          --B>
        · obtain rfl : j = m := by omega
          have I0 := hide (alli_start (unhide O2).1 kinds S)
          rw [unhide hM0'] at I0
          obtain ⟨M1, hM1⟩ : ∃ M1, M0.shades S = M1 := ⟨_, rfl⟩
          rw [hM1] at I0 X
          clear hM1
          go_wp2_with fail
          go_loopw [16] (fun c wx => ∃ (j q : Nat) (M : Ms) (kk : Mk), c = .int .i64 (j : Int) ∧ j ≤ sn ∧ Hid (MS w1 wx L M M k (Gy.blk bo)) ∧ Hid (AllI al2 kinds S M kk q)) (fun c _ => sn - (intOf c).toNat)
          case atStart => exact ⟨0, 0, M1, _, rfl, Nat.zero_le _, X, I0⟩
          case round =>
            obtain ⟨j, q, M, kk, rfl, hj, X2, I2⟩ := hrel
            clear X I0
            by_cases hlt : j < sn
            · --<C
              have few := (unhide I2).few (unhide hMA)
              obtain ⟨b, M', eM, C1, C2⟩ := both_step (W := w1) (L := L) (M := M) (N := k) (E := Gy.blk bo) (by omega) (unhide I2).same.2.2.2.2 (by omega)
              have hI3 : Hid (∃ q' kk', AllI al2 kinds S M' kk' q') := hide (by
                rw [eM]
                cases h0 : M.g with
                | nil => exact ⟨q, kk, by have e : M.step = M := by unfold Ms.step; rw [h0]
                                          rw [e]; exact unhide I2⟩
                | cons x r => obtain ⟨k', h⟩ := (unhide I2).step h0; exact ⟨_, k', h⟩)
              obtain ⟨gl, hgl⟩ : ∃ gl, M'.g.length = gl := ⟨_, rfl⟩
              have hgl' := hide hgl
              have C1' := hide C1
              have C2' : Hid (∀ wx, MS w1 wx L M' M k (Gy.blk bo) → Calls Tryz.prog 20 #[.pointer (some ⟨L.rk, 0, none⟩)] wx fun r w' => r = .returned (.bool b) ∧ MS w1 w' L M' M' k (Gy.blk bo) ∧ ∃ go gc, w'.cell? ⟨L.rk, 2, none⟩ = some (.slice go gl gc)) := hide fun wx h => (C2 wx h).mono fun _ _ hh => ⟨hh.1, hh.2, by rw [← hgl]; exact hh.2.rk2⟩
              have C3 : Hid (∀ wx, MS w1 wx L M' M' k (Gy.blk bo) → Calls Tryz.prog 14 #[.pointer (some ⟨L.kb, 0, none⟩)] wx fun r w' => r = .returned (.int .i64 (gl : Int)) ∧ w' = wx) := hide fun wx h => by have := m_left (hide h); rw [unhide hgl'] at this; exact this
              have hbb : (b != b) = false := by simp
              have hgg : ((gl : Int) != (gl : Int)) = false := by simp
              clear few C1 C2 eM hgl I2
              go_upto_region 24 with fail
              go_cut [167] (fun v wx => v = .bool false ∧ Hid (MS w1 wx L M' M' k (Gy.blk bo)))
              case first =>
                go_region_with (first
                  | (go_at_call 10; refine (unhide C1' _ (by first | exact unhide X2 | exact (unhide X2).gr (G.drew (G.refl _)))).mono ?_; rintro r2 w5 ⟨rfl, X5⟩)
                  | (go_at_call 20; refine (unhide C2' _ (by first | exact X5 | exact X5.gr (G.drew (G.refl _)))).mono ?_; rintro r2 w6 ⟨rfl, X6, go6, gc6, c6⟩)
                  | (go_at_call 14; refine (unhide C3 _ (by first | exact X6 | exact X6.gr (G.drew (G.refl _)))).mono ?_; rintro r2 w7 ⟨rfl, rfl⟩))
                all_goals
                  go_wp2_with fail
                  go_meet
                  case rel => exact ⟨rfl, by first | exact hide X6 | exact hide (X6.gr (G.drew (G.refl _)))⟩
              case rest =>
                obtain ⟨rfl, X6⟩ := hcut
                obtain ⟨q', kk', I3⟩ := unhide hI3
                go_wp2_with fail
                go_roundw
                case rel => exact ⟨j + 1, q', M', kk', by go_num, by omega, X6, hide I3⟩
                case measure => simp [intOf]; omega
              --C>
            · obtain rfl : j = sn := by omega
              have hMn : Hid (M.al.a.n = 10) := hide ((unhide I2).same.1.trans (unhide O2).2)
              go_wp2_with fail
              go_loopw [17] (fun c wx => ∃ s : Nat, c = .int .i64 (s : Int) ∧ 1 ≤ s ∧ s ≤ 10 ∧ Hid (MS w1 wx L M M k (Gy.blk bo))) (fun c _ => 10 - (intOf c).toNat)
              case atStart => exact ⟨1, rfl, Nat.le_refl _, by omega, X2⟩
              case round =>
                obtain ⟨s, rfl, hs1, hs2, X6⟩ := hrel
                by_cases hlt3 : s < 10
                · --<D
                  have rk0 := (unhide X6).rk0
                  have hs10 : (s : Int) < 10 := by omega
                  have hs10' : decide ((s : Int) < 10) = true := by simpa using hs10
                  have CA := hide (s_maps X6 (by omega) (s := s) (by rw [unhide hMn]; omega))
                  obtain ⟨mv, hmv⟩ : ∃ mv, M.al.a.mrI (s : Int) = mv := ⟨_, rfl⟩
                  obtain ⟨tv, htv⟩ : ∃ tv, M.al.a.tkI (s : Int) = tv := ⟨_, rfl⟩
                  rw [hmv, htv] at CA
                  have hmv' := hide hmv
                  have hmm : ((mv : Int) != (mv : Int)) = false := by simp
                  have hlt4 := hide hlt3
                  clear hmv htv hlt3
                  go_wp2_with fail
                  refine (unhide CA).mono ?_
                  rintro r2 w7 ⟨rfl, X7, _⟩
                  have CB := hide (s_marked (hide X7) (s : Int))
                  rw [unhide hmv'] at CB
                  clear CA X7 rk0
                  go_wp2_with fail
                  refine (unhide CB).mono ?_
                  rintro r2 w8 ⟨rfl, X8, _⟩
                  have X8' := hide X8
                  clear CB X8
                  go_wp2_with fail
                  go_roundw
                  case rel => exact ⟨s + 1, by go_num, by omega, by have := unhide hlt4; omega, X8'⟩
                  case measure => have := unhide hlt4; simp [intOf]; omega
                  --D>
                · obtain rfl : s = 10 := by omega
                  go_wp2_with fail
                  go_ret
                  exact ⟨rfl, (unhide g1).trans (unhide X6).below⟩
theorem walkC_MarkSteps (world_any : WorldC) (a0 : Option Addr) (n0 c0 : Nat) (l0 : List Th) (a1 : Option Addr) (n1 c1 : Nat) (l1 : List Int) (a2 : Option Addr) (n2 c2 : Nat) (l2 : List Int) (a3 : Int) (W : World) (w0 : IsThs W a0 n0 l0) (w1 : IsIn W a1 n1 l1) (w2 : IsIn W a2 n2 l2) (ht : Tab W) : Calls Tryz.prog 4 #[.slice a0 n0 c0, .slice a1 n1 c1, .slice a2 n2 c2, .int .i64 a3] W fun e w' => e = .returned (.bool true) ∧ Below W.heap.size W w' :=
  steps_core world_any a0 a1 a2 c0 c1 c2 n0 n1 n2 a3 l0 l1 l2 (hide w0.1) (hide w1.1) (hide w2.1) W (hide ht) (hide w0.2.2.1) (hide w1.2.2.1) (hide w2.2.2.1) (hide w1.2.2.2) (hide w2.2.2.2) (hide (wld_ok (by decide) (by decide) w0.2.2.2))
end Go.Proofs.YtinehimleldkdaaGreatDoor
