/- MarkAll of package gantlinelaw7: its walk. -/
import Derived.Test.YtinehimleldkdaaGreatDoorMarkAwake
import Derived.Test.YtinehimleldkdaaGreatDoorMgP
import Derived.Deep.RegionHeld3
namespace Go.Proofs.YtinehimleldkdaaGreatDoor
set_option maxRecDepth 100000
open Go.ChangeShapes Go.WideShapes Go.ChangeAt Go.RowKit Go.Maps Go.Deep

theorem mrI_lt {a : Ab} (g : a.Good) (s : Int) : a.mrI s < 18446744073709551616 := by have := g.mrIb s; omega
theorem sumM_le (a : Ab) : ∀ s, sumM a s ≤ 64 * s
  | 0 => Nat.zero_le _
  | s + 1 => by
    have ih := sumM_le a s
    unfold sumM
    split
    · have := popF_le 64 (a.mrI (s : Int)); omega
    · omega
theorem markA_no {a : Ab} {x : Int} (h : a.markB x = false) : a.markA x = a := by unfold Ab.markA; rw [if_neg (by rw [h]; simp)]

set_option maxHeartbeats 16000000 in
theorem mall_core (world_any : WorldC) (ao ro : Option Addr) (ca cr k m : Nat) (l : List Th) (rs : List Int) (hl : Hid (l.length = k)) (hm : Hid (rs.length = m)) (w : World) (ht : Hid (Tab w)) (HT : Hid (ThsAt w ao l)) (HR : Hid (Gy.IsI w ro rs)) (ok : Hid (WOk 10 l)) :
    Calls Tryz.prog 5 #[.slice ao k ca, .slice ro m cr] w fun e w' => e = .returned (.bool true) ∧ G w w' := by
  by_cases hk : 30 < k
  · go_enter Tryz.func5, Tryz.ntmps5
    go_wp2_with fail
    refine (awake7 world_any w (unhide ht)).mono ?_
    rintro r w1 ⟨rfl, g1⟩
    go_wp2_with fail
    go_ret
    exact ⟨rfl, g1⟩
  by_cases hm2 : 20 < m
  · go_enter Tryz.func5, Tryz.ntmps5
    go_wp2_with fail
    refine (awake7 world_any w (unhide ht)).mono ?_
    rintro r w1 ⟨rfl, g1⟩
    go_wp2_with fail
    go_ret
    exact ⟨rfl, g1⟩
  have hk30 : (k : Int) ≤ 30 := by omega
  have hm20 : (m : Int) ≤ 20 := by omega
  go_enter Tryz.func5, Tryz.ntmps5
  go_wp2_with fail
  refine (awake7 world_any w (unhide ht)).mono ?_
  rintro r w1 ⟨rfl, g1⟩
  have CW := hide (world_any w1 (hide ((unhide ht).later g1)) 10 (by decide) (by decide) ao ca k l hl (by omega) (hide ((unhide HT).g g1)))
  have HR1 := hide ((unhide HR).g g1)
  replace g1 := hide g1
  obtain ⟨al, hal⟩ : ∃ al, (wld 10 l).1 = al := ⟨_, rfl⟩
  obtain ⟨at_, hat⟩ : ∃ at_, (wld 10 l).2 = at_ := ⟨_, rfl⟩
  have O : Hid (TkO al) := hide (by rw [← hal]; exact (unhide ok).o)
  have hn : Hid (al.a.n = 10) := hide (by rw [← hal]; exact wld_n 10 l)
  have hlen : Hid (at_.length = k) := hide (by rw [← hat]; exact (unhide ok).len.trans (unhide hl))
  have hwf : Hid (∀ x ∈ at_, wfI x) := hide (by rw [← hat]; exact (unhide ok).wf)
  rw [hal, hat] at CW
  clear hal hat ok HT HR
  go_wp2_with fail
  refine (unhide CW).mono ?_
  rintro r w2 ⟨L, bo, cb, rfl, X, R⟩
  obtain ⟨A, hA1, hA2⟩ := X.few
  obtain ⟨lt, hrel, hgood⟩ := X.rel
  have hA2 := hide hA2
  have hgood := hide hgood
  have hREL := hide hrel
  clear hrel
  simp only at hREL hgood hA2
  obtain ⟨M0, hM0⟩ : ∃ M0 : Ms, ⟨al, kinds, []⟩ = M0 := ⟨_, rfl⟩
  have hM0' := hide hM0
  rw [hM0] at X
  have IR := hide R.is
  have X0 : Hid (MS w1 w2 L (M0.shades (rsel at_ (rs.take 0))) M0 k (Gy.blk none ++ Gy.blk bo)) := hide X
  have hM0g : Hid (M0.g = []) := hide (by rw [← hM0])
  clear CW hM0 X R
  go_wp2_with fail
  go_loopw [9, 10] (fun v i wr => ∃ (j p c' : Nat) (rb : Option Addr), v = .slice rb p c' ∧ i = .int .i64 (j : Int) ∧ j ≤ m ∧ Hid ((rsel at_ (rs.take j)).length = p) ∧ Hid (MS w1 wr L (M0.shades (rsel at_ (rs.take j))) M0 k (Gy.blk rb ++ Gy.blk bo)) ∧ Hid (Gy.RowW wr w1.heap.size rb c' (rsel at_ (rs.take j))) ∧ Hid (Ds (Gy.blk rb) (Gy.blk bo)) ∧ Hid (Kd w2 wr (Gy.blk bo)))
    (fun _ i _ => m - (intOf i).toNat)
  case atStart => exact ⟨0, 0, 0, none, rfl, rfl, Nat.zero_le _, hide rfl, X0, hide (Gy.RowW.nil _ _), hide (fun _ hd => by cases hd), hide (Kd.refl _ _)⟩
  case round =>
    obtain ⟨j, p, c', rb, rfl, rfl, hj, hp, X, R, D, K⟩ := hrel
    clear X0
    have hp2 : p ≤ j := by
      have h1 := rsel_len at_ (rs.take j)
      have h2 := unhide hp
      have h3 : (rs.take j).length ≤ j := by simp; omega
      omega
    by_cases hlt : j < m
    · --<A
      obtain ⟨z, gr, offr, hz, rfl, cz0⟩ := (unhide HR1).at_ (i := j) (by have := unhide hm; omega)
      have czl := World.block_lt_of_cell? _ _ cz0
      have cz := ((unhide X).below.cell (p := ⟨gr, offr + j, none⟩) czl).trans cz0
      have cz0' := hide cz0
      have eT := hide (take_snocI hz)
      clear hz cz0
      by_cases hzk : 0 ≤ z ∧ z < (k : Int)
      · obtain ⟨zz, rfl⟩ := Int.eq_ofNat_of_zero_le hzk.1
        have hzz : zz < k := by omega
        obtain ⟨y, ga, oa, hy, rfl, cy⟩ := (IsI_kept2 (unhide IR) (unhide K) fun d hd => (unhide X).lt d (List.mem_append.2 (Or.inr hd))).at_ (i := zz) (by have := unhide hlen; omega)
        have eS : Hid (rsel at_ (rs.take (j + 1)) = rsel at_ (rs.take j) ++ [y]) := hide (by
          rw [unhide eT, rsel_yes ⟨by omega, by have := unhide hlen; omega⟩, List.getD_eq_getElem?_getD, Int.toNat_natCast, hy]
          rfl)
        have X3 := hide ((unhide X).gr (G.alloc wr (.cells #[.int .i64 y] 2)))
        have R3 := hide ((unhide R).kept fun d hd => (G.alloc wr (.cells #[.int .i64 y] 2)).block d ((unhide R).lo d hd).2)
        have K3 := hide ((unhide X).kd (G.alloc wr (.cells #[.int .i64 y] 2)))
        have cy3 := hide (G.cell (G.alloc wr (.cells #[.int .i64 y] 2)) cy)
        have hx : Hid ((wr.alloc (.cells #[.int .i64 y] 2)).cell? ⟨wr.heap.size, 0, none⟩ = some (.int .i64 y)) := hide (World.cell?_alloc_new _ _ _ 0)
        clear hy eT hzk
        go_wp2_with (at_builtin; refine Gy.wpl_app rfl _ _ rfl p (p + 1) (unhide hp) rfl rfl (unhide R3) (unhide X3).below.size wr.heap.size 1 y rfl (unhide hx) (by have := unhide hp; omega) ?_; intro rb7 c7 w7 AP; have Y := (unhide X3).app (unhide D) AP; have R7 := hide AP.1; have X7 := hide Y.1; have K7 := hide Y.2.1; have D7 := hide Y.2.2; have cz7 := ((unhide X7).below.cell (p := ⟨gr, offr + j, none⟩) czl).trans (unhide cz0'); have cy7 := (World.cell?_of_block (a := ⟨ga, oa + zz, none⟩) ((unhide K7) ga (by simp [Gy.blk]))).trans (unhide cy3); clear AP Y X3 R3 hx cz cy cy3)
        have CS := hide (m_shade X7 (by have := Ms.shades_g (rsel at_ (rs.take j)) M0; have h2 := unhide hp; rw [unhide hM0g] at this; simp at this; omega) y)
        refine (unhide CS).mono ?_
        rintro r w8 ⟨rfl, X8, K8⟩
        have R8 := hide ((unhide R7).kept fun d hd => K8 d (List.mem_append.2 (Or.inl hd)))
        have K9 := hide (fun d hd => (K8 d (List.mem_append.2 (Or.inr hd))).trans ((unhide K7 d hd).trans ((unhide K3 d (List.mem_append.2 (Or.inr hd))).trans (unhide K d hd))) : Kd w2 w8 (Gy.blk (some ⟨ga, oa, none⟩)))
        have X9 := hide X8
        clear K8 X8 CS X7 R7 K7 K3 cz7 cy7
        go_wp2_with fail
        go_roundw
        case rel => exact ⟨j + 1, p + 1, c7, rb7, rfl, by go_num, by omega, hide (by rw [unhide eS, List.length_append, unhide hp]; rfl), hide (by rw [unhide eS, Ms.shades_snoc]; exact unhide X9), hide (by rw [unhide eS]; exact unhide R8), D7, K9⟩
        case measure => simp [intOf]; omega
      · have eS : Hid (rsel at_ (rs.take (j + 1)) = rsel at_ (rs.take j)) := hide (by
          rw [unhide eT]
          exact rsel_no (by rw [unhide hlen]; exact hzk))
        by_cases hz0 : 0 ≤ z
        · have hz1 : ¬ z < (k : Int) := fun h => hzk ⟨hz0, h⟩
          clear eT hzk
          go_wp2_with fail
          go_roundw
          case rel => exact ⟨j + 1, p, c', rb, rfl, by go_num, by omega, hide (by rw [unhide eS]; exact unhide hp), hide (by rw [unhide eS]; exact unhide X), hide (by rw [unhide eS]; exact unhide R), D, K⟩
          case measure => simp [intOf]; omega
        · clear eT hzk
          go_wp2_with fail
          go_roundw
          case rel => exact ⟨j + 1, p, c', rb, rfl, by go_num, by omega, hide (by rw [unhide eS]; exact unhide hp), hide (by rw [unhide eS]; exact unhide X), hide (by rw [unhide eS]; exact unhide R), D, K⟩
          case measure => simp [intOf]; omega
      --A>
    · obtain rfl : j = m := by omega
      have e0 : rs.take j = rs := List.take_of_length_le (by have := unhide hm; omega)
      rw [e0] at X R hp
      obtain ⟨S, hS⟩ : ∃ S, rsel at_ rs = S := ⟨_, rfl⟩
      have hSw : Hid (∀ y ∈ S, wfI y) := hide fun y hy => unhide hwf y (rsel_mem y (by rw [hS]; exact hy))
      rw [hS] at X R hp
      have I0 := hide (alli_start (unhide O) kinds S)
      rw [unhide hM0'] at I0
      obtain ⟨M1, hM1⟩ : ∃ M1, M0.shades S = M1 := ⟨_, rfl⟩
      rw [hM1] at I0 X
      have hs := (unhide I0).same
      have his : Hid (∀ y, M1.al.a.is y = al.a.is y) := hide fun y => is_same hs.1 hs.2.1 hs.2.2.1 y
      have CR := hide (m_reach X (bo := rb) (cb := c') (n := p) (ys := S) (A := A) (unhide hp) (by omega) (hide fun y => by rw [hs.2.2.2.1]; exact (unhide O).wf y) hSw (hide (unhide R).is) (hide fun d hd => ((unhide R).lo d hd).2) (hide fun y hy => unhide hA2 y (by rw [← unhide his y]; exact hy)) (by omega))
      clear hs e0 hM1 hS
      go_wp2_with fail
      refine (unhide CR).mono ?_
      rintro r w3 ⟨fo, cf, fnd, rfl, RF, g3, ha, hmem⟩
      have NR := (unhide X).newRow g3 RF
      have X3 := hide (NR.1.sub (E' := Gy.blk fo) fun d hd => List.mem_append.2 (Or.inl hd))
      have IF := hide RF.is
      have hF : Hid (∀ y, y ∈ fnd ↔ Rch al.a.is (fun x => al.a.flds (tabOf kinds) x) S y) := hide fun y => by
        rw [hmem y]
        rw [show M1.al.a.is = al.a.is from funext (unhide his), show M1.flds = (fun x => al.a.flds (tabOf kinds) x) from funext fun x => (unhide I0).sim.fl x]
      have hasc := hide ha
      obtain ⟨fl, hfl⟩ : ∃ fl, fnd.length = fl := ⟨_, rfl⟩
      have hfl' := hide hfl
      rw [hfl]
      clear CR NR RF hmem ha hfl X R D K g3
      go_wp2_with fail
      go_loopw [12] (fun c wr => ∃ (q : Nat) (M : Ms) (kk : Mk), c = .int .i64 (q : Int) ∧ q ≤ 30 ∧ Hid (MS w1 wr L M M0 k (Gy.blk fo)) ∧ Hid (AllI al kinds S M kk q) ∧ Hid (Kd w3 wr (Gy.blk fo)))
        (fun c _ => 31 - (intOf c).toNat)
      case atStart => exact ⟨0, M1, _, rfl, by omega, X3, I0, hide (Kd.refl _ _)⟩
      case round =>
        obtain ⟨q, M, kk, rfl, hq, X, I, K⟩ := hrel
        clear X3 I0
        have few := (unhide I).few (unhide hA2)
        cases hg : M.g with
        | cons x r =>
          --<B
          rw [hg] at few
          have hg' := hide hg
          have CT := hide (m_step_some X (x := x) (rs := r) hg' (by simp at few; omega))
          clear hg
          go_wp2_with fail
          refine (unhide CT).mono ?_
          rintro r2 w4 ⟨rfl, X4, K4⟩
          obtain ⟨k', I4⟩ := (unhide I).step (unhide hg')
          have q30 : q + 1 ≤ 30 := by simp at few; omega
          clear CT few
          go_wp2_with fail
          go_roundw
          case rel => exact ⟨q + 1, M.step, k', by go_num, q30, hide X4, hide I4, hide (fun d hd => (K4 d hd).trans (unhide K d hd))⟩
          case measure => simp [intOf]; omega
          --B>
        | nil =>
          obtain ⟨d1, d2, d3⟩ := (unhide I).done hg (unhide hasc) (unhide hF) (unhide hREL) (unhide hgood)
          have sm := (unhide I).same
          have hMn : Hid (M.al.a.n = 10) := hide (sm.1.trans (unhide hn))
          have hMg : Hid M.al.a.Good := hide (unhide I).sim.good
          rw [unhide hfl'] at d1 d2
          rw [unhide hMn] at d2
          subst d1
          have d2' := hide d2
          have d3' := hide d3
          have CT := hide (m_step_none X hg)
          have IF3 := hide (IsI_kept2 (unhide IF) (unhide K) fun d hd => (unhide X).lt d hd)
          clear sm hg few d2 d3
          go_wp2_with fail
          refine (unhide CT).mono ?_
          rintro r2 w4 ⟨rfl, hw4⟩
          subst hw4
          clear CT
          go_wp2_with fail
          go_loopw [13] (fun c wr => ∃ j : Nat, c = .int .i64 (j : Int) ∧ j ≤ q ∧ Hid (MS w1 wr L M M0 k (Gy.blk fo)) ∧ Hid (Kd w4 wr (Gy.blk fo)))
            (fun c _ => q - (intOf c).toNat)
          case atStart => exact ⟨0, rfl, Nat.zero_le _, X, hide (Kd.refl _ _)⟩
          case round =>
            obtain ⟨i, rfl, hi, X5, K5⟩ := hrel
            by_cases hlt2 : i < q
            · --<C
              obtain ⟨y, gf, of, hy, rfl, cy⟩ := (IsI_kept2 (unhide IF3) (unhide K5) fun d hd => (unhide X5).lt d hd).at_ (i := i) (by have := unhide hfl'; omega)
              obtain ⟨m1, m2⟩ := unhide d3' y (List.mem_of_getElem? hy)
              have CK : Hid (∀ wx, MS w1 wx L M M0 k (Gy.blk (some ⟨gf, of, none⟩)) → Calls Tryz.prog 23 #[.pointer (some ⟨L.xl.d.ab, 0, none⟩), .int .i64 y] wx fun r w' => r = .returned (.bool false) ∧ MS w1 w' L M M0 k (Gy.blk (some ⟨gf, of, none⟩)) ∧ w'.heap[gf]? = wx.heap[gf]?) := hide fun wx h => (s_mark (hide h) y).mono fun _ _ hh => ⟨by rw [hh.1, m1], by have := hh.2.1; rw [markA_no m1] at this; exact this, hh.2.2 gf (by simp [Gy.blk])⟩
              have CI : Hid (∀ wx, MS w1 wx L M M0 k (Gy.blk (some ⟨gf, of, none⟩)) → Calls Tryz.prog 24 #[.pointer (some ⟨L.xl.d.ab, 0, none⟩), .int .i64 y] wx fun r w' => r = .returned (.bool true) ∧ MS w1 w' L M M0 k (Gy.blk (some ⟨gf, of, none⟩)) ∧ w'.heap[gf]? = wx.heap[gf]?) := hide fun wx h => (s_is (hide h) y).mono fun _ _ hh => ⟨by rw [hh.1, m2], hh.2.1, hh.2.2 gf (by simp [Gy.blk])⟩
              have hiq : (i : Int) < (q : Int) := by omega
              have hiq' : decide ((i : Int) < (q : Int)) = true := by simpa using hiq
              have hlt4 := hide hlt2
              clear hlt2
              rcases Nat.eq_zero_or_pos i with h0 | h0
              · have hd0 : decide (0 < i) = false := by simp; omega
                have hd2 : ¬ 0 < i := by omega
                clear hy m1 m2 h0
                go_wp2_with fail
                refine wp_region_noPanic ?_
                refine wp_region_held_drew (S := fun wx => wx.cell? ⟨gf, of + i, none⟩ = some (.int .i64 y)) (by kernel_rfl) (by first | exact cy | (dsimp only; go_keep)) (fun hHeld => ?_)
                refine wpAnyH_take (i := 0) (v := .pointer (some ⟨L.xl.d.ab, 0, none⟩)) rfl (by kernel_rfl) (by kernel_rfl) (by kernel_rfl) (fun _ _ _ h => h) (Or.inl ⟨by rfl, fun w hSw => by dsimp only at hSw; go_simp⟩) (by assumption) ?_
                try simp only [Act.put, List.getElem_toArray, List.getElem_cons_zero, List.setIfInBounds_toArray, List.set_cons_zero, List.set_cons_succ]
                refine wpAnyH_take (i := 1) (v := .slice (some ⟨gf, of, none⟩) q cf) rfl (by kernel_rfl) (by kernel_rfl) (by kernel_rfl) (fun _ _ _ h => h) (Or.inl ⟨by rfl, fun w hSw => by dsimp only at hSw; go_simp⟩) (by assumption) ?_
                try simp only [Act.put, List.getElem_toArray, List.getElem_cons_succ, List.getElem_cons_zero, List.setIfInBounds_toArray, List.set_cons_zero, List.set_cons_succ]
                refine wpAnyH_take (i := 2) (v := .int .i64 (i : Int)) rfl (by kernel_rfl) (by kernel_rfl) (by kernel_rfl) (fun _ _ _ h => h) (Or.inl ⟨by rfl, fun w hSw => by dsimp only at hSw; go_simp⟩) (by assumption) ?_
                try simp only [Act.put, List.getElem_toArray, List.getElem_cons_succ, List.getElem_cons_zero, List.setIfInBounds_toArray, List.set_cons_zero, List.set_cons_succ]
                refine wpAnyH_take (i := 3) (v := .pointer (some ⟨gf, of + i, none⟩)) rfl (by kernel_rfl) (by kernel_rfl) (by kernel_rfl) (fun _ _ _ h => h) (Or.inl ⟨by rfl, fun w hSw => by dsimp only at hSw; go_simp⟩) (by assumption) ?_
                try simp only [Act.put, List.getElem_toArray, List.getElem_cons_succ, List.getElem_cons_zero, List.setIfInBounds_toArray, List.set_cons_zero, List.set_cons_succ]
                refine wpAnyH_take (i := 4) (v := .int .i64 y) rfl (by kernel_rfl) (by kernel_rfl) (by kernel_rfl) (fun _ _ _ h => h) (Or.inl ⟨by rfl, fun w hSw => by dsimp only at hSw; go_simp⟩) (by assumption) ?_
                try simp only [Act.put, List.getElem_toArray, List.getElem_cons_succ, List.getElem_cons_zero, List.setIfInBounds_toArray, List.set_cons_zero, List.set_cons_succ]
                refine wpAnyH_ready (rs := [5]) (by kernel_rfl) (by simp) ?_
                refine AllReadyH.cons rfl (fun K hK => ?_) AllReadyH.nil
                go_simp
                refine (unhide CK _ (by first | exact unhide X5 | exact (unhide X5).gr (G.drew (G.refl _)))).mono ?_
                rintro r2 w7 ⟨rfl, X7, k7⟩
                have s7 : w7.cell? ⟨gf, of + i, none⟩ = some (.int .i64 y) := (World.cell?_of_block (a := ⟨gf, of + i, none⟩) k7).trans cy
                go_wp2_with fail
                refine hK.out _ _ s7 (fun hHeld => ?_)
                clear hK K
                try simp only [Act.put, List.getElem_toArray, List.getElem_cons_succ, List.getElem_cons_zero, List.setIfInBounds_toArray, List.set_cons_zero, List.set_cons_succ]
                refine wpAnyH_take (i := 6) (v := .bool false) rfl (by kernel_rfl) (by kernel_rfl) (by kernel_rfl) (fun _ _ _ h => h) (Or.inl ⟨by rfl, fun w hSw => by dsimp only at hSw; go_simp⟩) (by assumption) ?_
                try simp only [Act.put, List.getElem_toArray, List.getElem_cons_succ, List.getElem_cons_zero, List.setIfInBounds_toArray, List.set_cons_zero, List.set_cons_succ]
                refine wpAnyH_take (i := 7) (v := .pointer (some ⟨L.xl.d.ab, 0, none⟩)) rfl (by kernel_rfl) (by kernel_rfl) (by kernel_rfl) (fun _ _ _ h => h) (Or.inl ⟨by rfl, fun w hSw => by dsimp only at hSw; go_simp⟩) (by assumption) ?_
                try simp only [Act.put, List.getElem_toArray, List.getElem_cons_succ, List.getElem_cons_zero, List.setIfInBounds_toArray, List.set_cons_zero, List.set_cons_succ]
                refine wpAnyH_take (i := 8) (v := .slice (some ⟨gf, of, none⟩) q cf) rfl (by kernel_rfl) (by kernel_rfl) (by kernel_rfl) (fun _ _ _ h => h) (Or.inl ⟨by rfl, fun w hSw => by dsimp only at hSw; go_simp⟩) (by assumption) ?_
                try simp only [Act.put, List.getElem_toArray, List.getElem_cons_succ, List.getElem_cons_zero, List.setIfInBounds_toArray, List.set_cons_zero, List.set_cons_succ]
                refine wpAnyH_take (i := 9) (v := .int .i64 (i : Int)) rfl (by kernel_rfl) (by kernel_rfl) (by kernel_rfl) (fun _ _ _ h => h) (Or.inl ⟨by rfl, fun w hSw => by dsimp only at hSw; go_simp⟩) (by assumption) ?_
                try simp only [Act.put, List.getElem_toArray, List.getElem_cons_succ, List.getElem_cons_zero, List.setIfInBounds_toArray, List.set_cons_zero, List.set_cons_succ]
                refine wpAnyH_take (i := 10) (v := .pointer (some ⟨gf, of + i, none⟩)) rfl (by kernel_rfl) (by kernel_rfl) (by kernel_rfl) (fun _ _ _ h => h) (Or.inl ⟨by rfl, fun w hSw => by dsimp only at hSw; go_simp⟩) (by assumption) ?_
                try simp only [Act.put, List.getElem_toArray, List.getElem_cons_succ, List.getElem_cons_zero, List.setIfInBounds_toArray, List.set_cons_zero, List.set_cons_succ]
                refine wpAnyH_take (i := 11) (v := .int .i64 y) rfl (by kernel_rfl) (by kernel_rfl) (by kernel_rfl) (fun _ _ _ h => h) (Or.inl ⟨by rfl, fun w hSw => by dsimp only at hSw; go_simp⟩) (by assumption) ?_
                try simp only [Act.put, List.getElem_toArray, List.getElem_cons_succ, List.getElem_cons_zero, List.setIfInBounds_toArray, List.set_cons_zero, List.set_cons_succ]
                refine wpAnyH_ready (rs := [12]) (by kernel_rfl) (by simp) ?_
                refine AllReadyH.cons rfl (fun K hK => ?_) AllReadyH.nil
                go_simp
                refine (unhide CI _ (by first | exact X7 | exact X7.gr (G.drew (G.refl _)))).mono ?_
                rintro r2 w8 ⟨rfl, X8, k8⟩
                have s8 : w8.cell? ⟨gf, of + i, none⟩ = some (.int .i64 y) := (World.cell?_of_block (a := ⟨gf, of + i, none⟩) k8).trans s7
                go_wp2_with fail
                refine hK.out _ _ s8 (fun hHeld => ?_)
                clear hK K
                try simp only [Act.put, List.getElem_toArray, List.getElem_cons_succ, List.getElem_cons_zero, List.setIfInBounds_toArray, List.set_cons_zero, List.set_cons_succ]
                refine wpAnyH_take (i := 13) (v := .bool false) rfl (by kernel_rfl) (by kernel_rfl) (by kernel_rfl) (fun _ _ _ h => h) (Or.inl ⟨by rfl, fun w hSw => by dsimp only at hSw; go_simp⟩) (by assumption) ?_
                try simp only [Act.put, List.getElem_toArray, List.getElem_cons_succ, List.getElem_cons_zero, List.setIfInBounds_toArray, List.set_cons_zero, List.set_cons_succ]
                refine wpAnyH_take (i := 14) (v := .bool false) rfl (by kernel_rfl) (by kernel_rfl) (by kernel_rfl) (fun _ _ _ h => h) (Or.inl ⟨by rfl, fun w hSw => by dsimp only at hSw; go_simp⟩) (by assumption) ?_
                try simp only [Act.put, List.getElem_toArray, List.getElem_cons_succ, List.getElem_cons_zero, List.setIfInBounds_toArray, List.set_cons_zero, List.set_cons_succ]
                refine wpAnyH_take (i := 15) (v := .bool false) rfl (by kernel_rfl) (by kernel_rfl) (by kernel_rfl) (fun _ _ _ h => h) (Or.inl ⟨by rfl, fun w hSw => by dsimp only at hSw; go_simp⟩) (by assumption) ?_
                try simp only [Act.put, List.getElem_toArray, List.getElem_cons_succ, List.getElem_cons_zero, List.setIfInBounds_toArray, List.set_cons_zero, List.set_cons_succ]
                refine wpAnyH_take (i := 16) (v := .int .i64 (i : Int)) rfl (by kernel_rfl) (by kernel_rfl) (by kernel_rfl) (fun _ _ _ h => h) (Or.inl ⟨by rfl, fun w hSw => by dsimp only at hSw; go_simp⟩) (by assumption) ?_
                try simp only [Act.put, List.getElem_toArray, List.getElem_cons_succ, List.getElem_cons_zero, List.setIfInBounds_toArray, List.set_cons_zero, List.set_cons_succ]
                refine wpAnyH_take (i := 17) (v := .bool false) rfl (by kernel_rfl) (by kernel_rfl) (by kernel_rfl) (fun _ _ _ h => h) (Or.inl ⟨by rfl, fun w hSw => by dsimp only at hSw; go_simp⟩) (by assumption) ?_
                try simp only [Act.put, List.getElem_toArray, List.getElem_cons_succ, List.getElem_cons_zero, List.setIfInBounds_toArray, List.set_cons_zero, List.set_cons_succ]
                refine wpAnyH_take (i := 18) (v := .bool false) rfl (by kernel_rfl) (by kernel_rfl) (by kernel_rfl) (fun _ _ _ h => h) (Or.inl ⟨by rfl, fun w hSw => by dsimp only at hSw; go_simp⟩) (by assumption) ?_
                try simp only [Act.put, List.getElem_toArray, List.getElem_cons_succ, List.getElem_cons_zero, List.setIfInBounds_toArray, List.set_cons_zero, List.set_cons_succ]
                refine wpAnyH_take (i := 19) (v := undef) rfl (by kernel_rfl) (by kernel_rfl) (by kernel_rfl) (fun _ _ _ h => h) (Or.inr ⟨by rfl, rfl⟩) (by assumption) ?_
                try simp only [Act.put, List.getElem_toArray, List.getElem_cons_succ, List.getElem_cons_zero, List.setIfInBounds_toArray, List.set_cons_zero, List.set_cons_succ]
                refine wpAnyH_take (i := 20) (v := undef) rfl (by kernel_rfl) (by kernel_rfl) (by kernel_rfl) (fun _ _ _ h => h) (Or.inr ⟨by rfl, rfl⟩) (by assumption) ?_
                try simp only [Act.put, List.getElem_toArray, List.getElem_cons_succ, List.getElem_cons_zero, List.setIfInBounds_toArray, List.set_cons_zero, List.set_cons_succ]
                refine wpAnyH_take (i := 21) (v := undef) rfl (by kernel_rfl) (by kernel_rfl) (by kernel_rfl) (fun _ _ _ h => h) (Or.inr ⟨by rfl, rfl⟩) (by assumption) ?_
                try simp only [Act.put, List.getElem_toArray, List.getElem_cons_succ, List.getElem_cons_zero, List.setIfInBounds_toArray, List.set_cons_zero, List.set_cons_succ]
                refine wpAnyH_take (i := 22) (v := undef) rfl (by kernel_rfl) (by kernel_rfl) (by kernel_rfl) (fun _ _ _ h => h) (Or.inr ⟨by rfl, rfl⟩) (by assumption) ?_
                try simp only [Act.put, List.getElem_toArray, List.getElem_cons_succ, List.getElem_cons_zero, List.setIfInBounds_toArray, List.set_cons_zero, List.set_cons_succ]
                refine wpAnyH_take (i := 23) (v := undef) rfl (by kernel_rfl) (by kernel_rfl) (by kernel_rfl) (fun _ _ _ h => h) (Or.inr ⟨by rfl, rfl⟩) (by assumption) ?_
                try simp only [Act.put, List.getElem_toArray, List.getElem_cons_succ, List.getElem_cons_zero, List.setIfInBounds_toArray, List.set_cons_zero, List.set_cons_succ]
                refine wpAnyH_take (i := 24) (v := undef) rfl (by kernel_rfl) (by kernel_rfl) (by kernel_rfl) (fun _ _ _ h => h) (Or.inr ⟨by rfl, rfl⟩) (by assumption) ?_
                try simp only [Act.put, List.getElem_toArray, List.getElem_cons_succ, List.getElem_cons_zero, List.setIfInBounds_toArray, List.set_cons_zero, List.set_cons_succ]
                refine wpAnyH_take (i := 25) (v := undef) rfl (by kernel_rfl) (by kernel_rfl) (by kernel_rfl) (fun _ _ _ h => h) (Or.inr ⟨by rfl, rfl⟩) (by assumption) ?_
                try simp only [Act.put, List.getElem_toArray, List.getElem_cons_succ, List.getElem_cons_zero, List.setIfInBounds_toArray, List.set_cons_zero, List.set_cons_succ]
                refine wpAnyH_take (i := 26) (v := undef) rfl (by kernel_rfl) (by kernel_rfl) (by kernel_rfl) (fun _ _ _ h => h) (Or.inr ⟨by rfl, rfl⟩) (by assumption) ?_
                try simp only [Act.put, List.getElem_toArray, List.getElem_cons_succ, List.getElem_cons_zero, List.setIfInBounds_toArray, List.set_cons_zero, List.set_cons_succ]
                refine wpAnyH_take (i := 27) (v := undef) rfl (by kernel_rfl) (by kernel_rfl) (by kernel_rfl) (fun _ _ _ h => h) (Or.inr ⟨by rfl, rfl⟩) (by assumption) ?_
                try simp only [Act.put, List.getElem_toArray, List.getElem_cons_succ, List.getElem_cons_zero, List.setIfInBounds_toArray, List.set_cons_zero, List.set_cons_succ]
                refine wpAnyH_take (i := 28) (v := undef) rfl (by kernel_rfl) (by kernel_rfl) (by kernel_rfl) (fun _ _ _ h => h) (Or.inr ⟨by rfl, rfl⟩) (by assumption) ?_
                try simp only [Act.put, List.getElem_toArray, List.getElem_cons_succ, List.getElem_cons_zero, List.setIfInBounds_toArray, List.set_cons_zero, List.set_cons_succ]
                refine wpAnyH_take (i := 29) (v := .bool false) rfl (by kernel_rfl) (by kernel_rfl) (by kernel_rfl) (fun _ _ _ h => h) (Or.inl ⟨by rfl, fun w hSw => by dsimp only at hSw; go_simp⟩) (by assumption) ?_
                try simp only [Act.put, List.getElem_toArray, List.getElem_cons_succ, List.getElem_cons_zero, List.setIfInBounds_toArray, List.set_cons_zero, List.set_cons_succ]
                refine wpAnyH_take (i := 30) (v := .bool false) rfl (by kernel_rfl) (by kernel_rfl) (by kernel_rfl) (fun _ _ _ h => h) (Or.inl ⟨by rfl, fun w hSw => by dsimp only at hSw; go_simp⟩) (by assumption) ?_
                try simp only [Act.put, List.getElem_toArray, List.getElem_cons_succ, List.getElem_cons_zero, List.setIfInBounds_toArray, List.set_cons_zero, List.set_cons_succ]
                refine wpAnyH_done (by kernel_rfl) ?_ _
                refine NoPanic.normal ?_
                all_goals
                  go_wp2_with fail
                  go_roundw
                  case rel => exact ⟨i + 1, by go_num, by have := unhide hlt4; omega, hide X8, hide (fun d hd => by simp [Gy.blk] at hd; rw [hd]; exact k8.trans (k7.trans (unhide K5 gf (by simp [Gy.blk]))))⟩
                  case measure => have := unhide hlt4; simp [intOf]; omega
              · obtain ⟨i', hi'⟩ : ∃ i', i = i' + 1 := ⟨i - 1, by omega⟩
                obtain ⟨y', gf2, of2, hy', he2, cy'⟩ := (IsI_kept2 (unhide IF3) (unhide K5) fun d hd => (unhide X5).lt d hd).at_ (i := i') (by have := unhide hfl'; omega)
                obtain ⟨eg1, eg2⟩ : gf = gf2 ∧ of = of2 := by injection he2 with he2; injection he2 with e1 e2; exact ⟨e1, e2⟩
                rw [← eg1, ← eg2] at cy'
                have hyy : y' < y := by
                  obtain ⟨q1, e1⟩ := List.getElem?_eq_some_iff.1 hy'
                  obtain ⟨q2, e2⟩ := List.getElem?_eq_some_iff.1 hy
                  rw [← e1, ← e2]
                  exact List.pairwise_iff_getElem.1 (unhide hasc) i' i q1 q2 (by omega)
                have hd0 : decide ((0 : Int) < (i : Int)) = true := decide_eq_true (by omega)
                have hdp : (0 : Int) < (i : Int) := by omega
                have hsub : (i : Int) - 1 = (i' : Int) := by omega
                have hsw : IntKind.i64.wrap (i' : Int) = (i' : Int) := by rw [IntKind.wrap_i64]; omega
                have hiq2 : (i' : Int) < (q : Int) := by omega
                have hd1 : decide (y ≤ y') = false := by simp; omega
                have SS := And.intro cy cy'
                clear hy hy' he2 m1 m2 cy cy' hyy hi' hd0 hdp eg1 eg2
                go_wp2_with fail
                go_region_held3 (fun wx => wx.cell? ⟨gf, of + i, none⟩ = some (.int .i64 y) ∧ wx.cell? ⟨gf, of + i', none⟩ = some (.int .i64 y')) (first | assumption | go_keep)
                 ((first
                  | (go_at_call 23; refine (unhide CK _ (by first | exact unhide X5 | exact (unhide X5).gr (G.drew (G.refl _)))).mono ?_; rintro r2 w7 ⟨rfl, X7, k7⟩; have s7 : w7.cell? ⟨gf, of + i, none⟩ = some (.int .i64 y) ∧ w7.cell? ⟨gf, of + i', none⟩ = some (.int .i64 y') := ⟨(World.cell?_of_block (a := ⟨gf, of + i, none⟩) k7).trans SS.1, (World.cell?_of_block (a := ⟨gf, of + i', none⟩) k7).trans SS.2⟩)
                  | (go_at_call 24; refine (unhide CI _ (by first | exact X7 | exact X7.gr (G.drew (G.refl _)))).mono ?_; rintro r2 w8 ⟨rfl, X8, k8⟩; have s8 : w8.cell? ⟨gf, of + i, none⟩ = some (.int .i64 y) ∧ w8.cell? ⟨gf, of + i', none⟩ = some (.int .i64 y') := ⟨(World.cell?_of_block (a := ⟨gf, of + i, none⟩) k8).trans s7.1, (World.cell?_of_block (a := ⟨gf, of + i', none⟩) k8).trans s7.2⟩)))
                all_goals
                  go_wp2_with fail
                  go_roundw
                  case rel => exact ⟨i + 1, by go_num, by have := unhide hlt4; omega, hide X8, hide (fun d hd => by simp [Gy.blk] at hd; rw [hd]; exact k8.trans (k7.trans (unhide K5 gf (by simp [Gy.blk]))))⟩
                  case measure => have := unhide hlt4; simp [intOf]; omega
              --C>
            · obtain rfl : i = q := by omega
              go_wp2_with fail
              go_loopw [14, 15] (fun acc c wr => ∃ s : Nat, c = .int .i64 (s : Int) ∧ 1 ≤ s ∧ s ≤ 10 ∧ acc = .int .i64 (sumM M.al.a s : Int) ∧ Hid (MS w1 wr L M M0 k (Gy.blk fo)))
                (fun _ c _ => 10 - (intOf c).toNat)
              case atStart => exact ⟨1, rfl, Nat.le_refl _, by omega, rfl, X5⟩
              case round =>
                obtain ⟨s, rfl, hs1, hs2, rfl, X6⟩ := hrel
                by_cases hlt3 : s < 10
                · --<D
                  obtain ⟨mr, hmr⟩ : ∃ mr, M.al.a.mrI (s : Int) = mr := ⟨_, rfl⟩
                  have hmr2 : Hid (mr < 18446744073709551616) := hide (by rw [← hmr]; exact mrI_lt (unhide hMg) _)
                  obtain ⟨pv, hpv⟩ : ∃ pv, popF 64 mr = pv := ⟨_, rfl⟩
                  obtain ⟨sv, hsv⟩ : ∃ sv, sumM M.al.a s = sv := ⟨_, rfl⟩
                  have eS : Hid (sumM M.al.a (s + 1) = sv + pv) := hide (by rw [sumM, if_pos hs1, hmr, hpv, hsv])
                  have CM := hide (s_marked X6 (s : Int))
                  rw [hmr] at CM
                  have hpl : pv ≤ 64 := by rw [← hpv]; exact popF_le 64 mr
                  have hsl : sv ≤ 64 * s := by rw [← hsv]; exact sumM_le M.al.a s
                  have CO : Hid (∀ wx, Calls Tryz.prog 25 #[.int .u64 (mr : Int)] wx fun e w' => e = .returned (.int .i64 (pv : Int)) ∧ w' = wx) := hide fun wx => by rw [← hpv]; exact rones_any mr wx (unhide hmr2)
                  have hs10 : (s : Int) < 10 := by omega
                  have hs10' : decide ((s : Int) < 10) = true := by simpa using hs10
                  have hbd : Hid ((sv : Int) + (pv : Int) ≤ 704) := hide (by omega)
                  have hlt4 := hide hlt3
                  rw [hsv]
                  clear hmr hpv hsv hlt3 hpl hsl
                  go_wp2_with fail
                  refine (unhide CM).mono ?_
                  rintro r2 w7 ⟨rfl, X7, _⟩
                  have X7' := hide X7
                  clear CM X7
                  go_wp2_with fail
                  refine (unhide CO w7).mono ?_
                  rintro r2 w8 ⟨rfl, hw8⟩
                  subst hw8
                  have hbd2 := unhide hbd
                  go_wp2_with fail
                  go_roundw
                  case rel => exact ⟨s + 1, by go_num, by omega, by have := unhide hlt4; omega, by rw [unhide eS]; go_num, X7'⟩
                  case measure => have := unhide hlt4; simp [intOf]; omega
                  --D>
                · obtain rfl : s = 10 := by omega
                  rw [unhide d2']
                  go_wp2_with fail
                  go_ret
                  exact ⟨by simp, (unhide g1).trans (unhide X6).below⟩
theorem walkC_MarkAll (world_any : WorldC) (a0 : Option Addr) (n0 c0 : Nat) (l0 : List Th) (a1 : Option Addr) (n1 c1 : Nat) (l1 : List Int) (W : World) (w0 : IsThs W a0 n0 l0) (w1 : IsIn W a1 n1 l1) (ht : Tab W) : Calls Tryz.prog 5 #[.slice a0 n0 c0, .slice a1 n1 c1] W fun e w' => e = .returned (.bool true) ∧ Below W.heap.size W w' :=
  mall_core world_any a0 a1 c0 c1 n0 n1 l0 l1 (hide w0.1) (hide w1.1) W (hide ht) (hide w0.2.2.1) (hide w1.2.2.1) (hide (wld_ok (by decide) (by decide) w0.2.2.2))
end Go.Proofs.YtinehimleldkdaaGreatDoor
