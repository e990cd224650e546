/- MarkMore of package gantlinelaw7: its walk. -/
import Derived.Test.YtinehimleldkdaaGreatDoorMarkAwake
import Derived.Test.YtinehimleldkdaaGreatDoorMgP
namespace Go.Proofs.YtinehimleldkdaaGreatDoor
set_option maxRecDepth 100000
open Go.ChangeShapes Go.WideShapes Go.ChangeAt Go.RowKit Go.Maps Go.Deep

theorem rsel_memI {at_ rs : List Int} {P : Int → Prop} (h : ∀ x ∈ at_, P x) : ∀ y ∈ rsel at_ rs, P y := fun y hy => h y (rsel_mem y hy)
theorem take_len_le (l : List Int) (j : Nat) : (l.take j).length ≤ j := by simp; omega

set_option maxHeartbeats 16000000 in
theorem more_core (world_any : WorldC) (ao ro so : Option Addr) (ca cr cs k m n : Nat) (l : List Th) (rs ss : List Int) (hl : Hid (l.length = k)) (hm : Hid (rs.length = m)) (hns : Hid (ss.length = n)) (w : World) (ht : Hid (Tab w)) (HT : Hid (ThsAt w ao l)) (HR : Hid (Gy.IsI w ro rs)) (HS : Hid (Gy.IsI w so ss)) (ok : Hid (WOk 10 l)) :
    Calls Tryz.prog 6 #[.slice ao k ca, .slice ro m cr, .slice so n cs] w fun e w' => e = .returned (.bool true) ∧ G w w' := by
  by_cases hk : 30 < k
  · go_enter Tryz.func6, Tryz.ntmps6
    go_wp2_with fail
    refine (awake7 world_any w (unhide ht)).mono ?_
    rintro r w1 ⟨rfl, g1⟩
    go_wp2_with fail
    go_ret
    exact ⟨rfl, g1⟩
  by_cases hm2 : 10 < m
  · go_enter Tryz.func6, Tryz.ntmps6
    go_wp2_with fail
    refine (awake7 world_any w (unhide ht)).mono ?_
    rintro r w1 ⟨rfl, g1⟩
    go_wp2_with fail
    go_ret
    exact ⟨rfl, g1⟩
  by_cases hn2 : 10 < n
  · go_enter Tryz.func6, Tryz.ntmps6
    go_wp2_with fail
    refine (awake7 world_any w (unhide ht)).mono ?_
    rintro r w1 ⟨rfl, g1⟩
    go_wp2_with fail
    go_ret
    exact ⟨rfl, g1⟩
  have hk30 : (k : Int) ≤ 30 := by omega
  have hm10 : (m : Int) ≤ 10 := by omega
  have hn10 : (n : Int) ≤ 10 := by omega
  go_enter Tryz.func6, Tryz.ntmps6
  go_wp2_with fail
  refine (awake7 world_any w (unhide ht)).mono ?_
  rintro r w1 ⟨rfl, g1⟩
  have CW := hide (world_any w1 (hide ((unhide ht).later g1)) 10 (by decide) (by decide) ao ca k l hl (by omega) (hide ((unhide HT).g g1)))
  have HR1 := hide ((unhide HR).g g1)
  have HS1 := hide ((unhide HS).g g1)
  replace g1 := hide g1
  obtain ⟨al, hal⟩ : ∃ al, (wld 10 l).1 = al := ⟨_, rfl⟩
  obtain ⟨at_, hat⟩ : ∃ at_, (wld 10 l).2 = at_ := ⟨_, rfl⟩
  have O : Hid (TkO al) := hide (by rw [← hal]; exact (unhide ok).o)
  have hlen : Hid (at_.length = k) := hide (by rw [← hat]; exact (unhide ok).len.trans (unhide hl))
  have hwf : Hid (∀ x ∈ at_, wfI x) := hide (by rw [← hat]; exact (unhide ok).wf)
  rw [hal, hat] at CW
  clear hal hat ok HT HR HS
  go_wp2_with fail
  refine (unhide CW).mono ?_
  rintro r w2 ⟨L, bo, cb, rfl, X, R⟩
  obtain ⟨A, hA1, hA2⟩ := X.few
  have hA2 := hide hA2
  simp only at hA2
  obtain ⟨M, hM⟩ : ∃ M : Ms, ⟨al, kinds, []⟩ = M := ⟨_, rfl⟩
  have hMw : Hid (∀ y, wfI (M.al.a.wd y)) := hide (by rw [← hM]; exact (unhide O).wf)
  have hMA : Hid (∀ y, M.al.a.is y = true → y ∈ A) := hide (by rw [← hM]; exact unhide hA2)
  rw [hM] at X
  have IR := hide R.is
  have X0 : Hid (MS w1 w2 L M M k (Gy.blk none ++ Gy.blk bo)) := hide X
  clear CW hM X R hA2 O
  go_wp2_with fail
  go_loopw [11, 12] (fun v i wr => ∃ (j p0 c' : Nat) (rb : Option Addr), v = .slice rb p0 c' ∧ i = .int .i64 (j : Int) ∧ j ≤ m ∧ Hid ((rsel at_ (rs.take j)).length = p0) ∧ Hid (MS w1 wr L M M k (Gy.blk rb ++ (Gy.blk bo))) ∧ Hid (Gy.RowW wr w1.heap.size rb c' (rsel at_ (rs.take j))) ∧ Hid (Ds (Gy.blk rb) (Gy.blk bo)) ∧ Hid (Kd w2 wr (Gy.blk bo)))
    (fun _ i _ => m - (intOf i).toNat)
  case atStart => exact ⟨0, 0, 0, none, rfl, rfl, Nat.zero_le _, hide rfl, X0, hide (Gy.RowW.nil _ _), hide (fun _ hd => by cases hd), hide (Kd.refl _ _)⟩
  case round =>
    obtain ⟨j, p0, c', rb, rfl, rfl, hj, hp, X, R, D, K⟩ := hrel
    clear X0
    have hp2 : p0 ≤ j := by
      have h1 := rsel_len at_ (rs.take j)
      have h2 := unhide hp
      have h3 := take_len_le rs j
      omega
    by_cases hlt : j < m
    · --<A
      obtain ⟨z, gr, offr, hz, rfl, cz0⟩ := (unhide HR1).at_ (i := j) (by have := unhide hm; omega)
      have czl := World.block_lt_of_cell? _ _ cz0
      have cz := ((unhide X).below.cell (p := ⟨gr, offr + j, none⟩) czl).trans cz0
      have eT := hide (take_snocI hz)
      clear hz cz0
      by_cases hzk : 0 ≤ z ∧ z < (k : Int)
      · obtain ⟨zz, rfl⟩ := Int.eq_ofNat_of_zero_le hzk.1
        have hzz : zz < k := by omega
        obtain ⟨y, ga, oa, hy, rfl, cy⟩ := (IsI_kept2 (unhide IR) (fun d hd => unhide K d (by simp [hd])) fun d hd => (unhide X).lt d (by simp [hd])).at_ (i := zz) (by have := unhide hlen; omega)
        have eS : Hid (rsel at_ (rs.take (j + 1)) = (rsel at_ (rs.take j)) ++ [y]) := hide (by
          rw [unhide eT, rsel_yes ⟨by omega, by have := unhide hlen; omega⟩, List.getD_eq_getElem?_getD, Int.toNat_natCast, hy]
          rfl)
        have X3 := hide ((unhide X).gr (G.alloc wr (.cells #[.int .i64 y] 2)))
        have R3 := hide ((unhide R).kept fun d hd => (G.alloc wr (.cells #[.int .i64 y] 2)).block d ((unhide R).lo d hd).2)
        have K3 := hide ((unhide X).kd (G.alloc wr (.cells #[.int .i64 y] 2)))
        have hx : Hid ((wr.alloc (.cells #[.int .i64 y] 2)).cell? ⟨wr.heap.size, 0, none⟩ = some (.int .i64 y)) := hide (World.cell?_alloc_new _ _ _ 0)
        clear hy eT hzk
        go_wp2_with (at_builtin; refine Gy.wpl_app rfl _ _ rfl p0 (p0 + 1) (unhide hp) rfl rfl (unhide R3) (unhide X3).below.size wr.heap.size 1 y rfl (unhide hx) (by have := unhide hp; omega) ?_; intro rb7 c7 w7 AP; have Y := (unhide X3).app (unhide D) AP; have R7 := hide AP.1; have X7 := hide Y.1; have K7 := hide Y.2.1; have D7 := hide Y.2.2; clear AP Y X3 R3 hx cz cy)
        go_roundw
        case rel => exact ⟨j + 1, p0 + 1, c7, rb7, rfl, by go_num, by omega, hide (by rw [unhide eS, List.length_append, unhide hp]; rfl), X7, hide (by rw [unhide eS]; exact unhide R7), D7, hide (fun d hd => ((unhide K7 d hd).trans (unhide K3 d (List.mem_append.2 (Or.inr hd)))).trans (unhide K d hd))⟩
        case measure => simp [intOf]; omega
      · have eS : Hid (rsel at_ (rs.take (j + 1)) = rsel at_ (rs.take j)) := hide (by
          rw [unhide eT, rsel_no (by rw [unhide hlen]; exact hzk)])
        by_cases hz0 : 0 ≤ z
        · have hz1 : ¬ z < (k : Int) := fun h => hzk ⟨hz0, h⟩
          clear eT hzk
          go_wp2_with fail
          go_roundw
          case rel => exact ⟨j + 1, p0, c', rb, rfl, by go_num, by omega, hide (by rw [unhide eS]; exact unhide hp), X, hide (by rw [unhide eS]; exact unhide R), D, K⟩
          case measure => simp [intOf]; omega
        · clear eT hzk
          go_wp2_with fail
          go_roundw
          case rel => exact ⟨j + 1, p0, c', rb, rfl, by go_num, by omega, hide (by rw [unhide eS]; exact unhide hp), X, hide (by rw [unhide eS]; exact unhide R), D, K⟩
          case measure => simp [intOf]; omega
      --A>
    · skip
      obtain rfl : j = m := by omega
      have e0 : rs.take j = rs := List.take_of_length_le (by have := unhide hm; omega)
      rw [e0] at R hp
      obtain ⟨S, hS⟩ : ∃ S, rsel at_ rs = S := ⟨_, rfl⟩
      have hSw : Hid (∀ y ∈ S, wfI y) := hide fun y hy => rsel_memI (unhide hwf) y (by rw [hS]; exact hy)
      rw [hS] at R hp
      have hp0 : p0 ≤ 10 := by omega
      have hpS := hp
      have CR := hide (m_reach X (bo := rb) (cb := c') (n := p0) (ys := S) (A := A) (unhide hp) (by omega) hMw hSw (hide (unhide R).is) (hide fun d hd => ((unhide R).lo d hd).2) hMA (by omega))
      clear e0 hS
      go_wp2_with fail
      refine (unhide CR).mono ?_
      rintro r w3 ⟨xo, cx, x, rfl, RX, g3, xa, xm⟩
      have NR := (unhide X).newRow g3 RX
      have X3 := hide NR.1
      have D3 := hide NR.2
      have IX := hide RX.is
      have R3 := hide ((unhide R).kept fun d hd => g3.block d ((unhide R).lo d hd).2)
      have hxl : x.length ≤ 30 := by
        have := nodup_sub xa.nodup fun y hy => unhide hMA y ((xm y).1 hy).taken
        omega
      have hxw : Hid (∀ y ∈ x, wfI y) := hide fun y hy => by
        have : ∀ y, Rch M.al.a.is M.flds S y → wfI y := fun y h => h.least (P := wfI) (fun y h1 _ => unhide hSw y h1) (fun x y _ h1 _ => by obtain ⟨i, rfl⟩ := M.flds_wd _ _ h1; exact unhide hMw i)
        exact this y ((xm y).1 hy)
      have xb : Hid (∀ d ∈ Gy.blk xo, d < w3.heap.size) := hide fun d hd => (RX.lo d hd).2
      have K3 : Hid (Kd w2 w3 (Gy.blk bo)) := hide fun d hd => (g3.block d ((unhide X).lt d (List.mem_append.2 (Or.inr hd)))).trans (unhide K d hd)
      have XA := hide xa
      have XM := hide xm
      obtain ⟨xl, hxl2⟩ : ∃ xl, x.length = xl := ⟨_, rfl⟩
      have hxl' := hide hxl2
      have CR2 := hide (m_reach X3 (bo := xo) (cb := cx) (n := xl) (ys := x) (A := A) (unhide hxl') (by omega) hMw hxw IX xb hMA (by omega))
      rw [hxl2] at hxl
      rw [hxl2]
      clear CR NR RX g3 xa xm hxl2 X R K
      go_wp2_with fail
      refine (unhide CR2).mono ?_
      rintro r w4 ⟨go, cg, ag, rfl, RG, g4, aa, am⟩
      obtain rfl := reach_again (unhide XA) (unhide XM) aa am
      have NR := (unhide X3).newRow g4 RG
      have R4 := hide ((unhide R3).kept fun d hd => g4.block d ((unhide R3).lo d hd).2)
      have X4 : Hid (MS w1 w4 L M M k (Gy.blk rb ++ (Gy.blk bo ++ (Gy.blk xo ++ Gy.blk go)))) := hide (NR.1.sub fun d hd => by
        simp only [List.mem_append] at hd ⊢
        rcases hd with h | h | h | h <;> simp [h])
      have D4 : Hid (Ds (Gy.blk rb) (Gy.blk bo ++ (Gy.blk xo ++ Gy.blk go))) := hide fun d hd hd2 => by
        rcases List.mem_append.1 hd2 with e | e
        · exact unhide D d hd e
        · rcases List.mem_append.1 e with e | e
          · exact unhide D3 d e (List.mem_append.2 (Or.inl hd))
          · exact NR.2 d e (List.mem_append.2 (Or.inr (List.mem_append.2 (Or.inl hd))))
      have IX4 := hide ((unhide IX).g g4)
      have IG := hide RG.is
      have IR4 : Hid (Gy.IsI w4 bo at_) := hide (IsI_kept2 (unhide IR) (fun d hd => (g4.block d ((unhide X3).lt d (by simp [hd]))).trans (unhide K3 d hd)) fun d hd => (unhide X4).lt d (by simp [hd]))
      rw [unhide hxl']
      clear CR2 NR RG g4 aa am X3 R3 K3 IX IR D D3
      go_wp2_with fail
      go_loopw [11, 15] (fun v i wr => ∃ (j p c' : Nat) (rb : Option Addr), v = .slice rb p c' ∧ i = .int .i64 (j : Int) ∧ j ≤ n ∧ Hid ((S ++ rsel at_ (ss.take j)).length = p) ∧ Hid (MS w1 wr L M M k (Gy.blk rb ++ (Gy.blk bo ++ (Gy.blk xo ++ Gy.blk go)))) ∧ Hid (Gy.RowW wr w1.heap.size rb c' (S ++ rsel at_ (ss.take j))) ∧ Hid (Ds (Gy.blk rb) (Gy.blk bo ++ (Gy.blk xo ++ Gy.blk go))) ∧ Hid (Kd w4 wr (Gy.blk bo ++ (Gy.blk xo ++ Gy.blk go))))
        (fun _ i _ => n - (intOf i).toNat)
      case atStart => exact ⟨0, p0, c', rb, rfl, rfl, Nat.zero_le _, hide (by simp [rsel]; exact unhide hpS), X4, hide (by simp only [List.take_zero, rsel, List.filterMap_nil, List.append_nil]; exact unhide R4), D4, hide (Kd.refl _ _)⟩
      case round =>
        obtain ⟨j, p, c', rb, rfl, rfl, hj, hp, X, R, D, K⟩ := hrel
        clear X4 R4 D4
        have hp2 : p ≤ p0 + j := by
          have h1 := rsel_len at_ (ss.take j)
          have h2 := unhide hp
          have h3 := take_len_le ss j
          rw [List.length_append, unhide hpS] at h2
          omega
        by_cases hlt : j < n
        · --<B
          obtain ⟨z, gr, offr, hz, rfl, cz0⟩ := (unhide HS1).at_ (i := j) (by have := unhide hns; omega)
          have czl := World.block_lt_of_cell? _ _ cz0
          have cz := ((unhide X).below.cell (p := ⟨gr, offr + j, none⟩) czl).trans cz0
          have eT := hide (take_snocI hz)
          clear hz cz0
          by_cases hzk : 0 ≤ z ∧ z < (k : Int)
          · obtain ⟨zz, rfl⟩ := Int.eq_ofNat_of_zero_le hzk.1
            have hzz : zz < k := by omega
            obtain ⟨y, ga, oa, hy, rfl, cy⟩ := (IsI_kept2 (unhide IR4) (fun d hd => unhide K d (by simp [hd])) fun d hd => (unhide X).lt d (by simp [hd])).at_ (i := zz) (by have := unhide hlen; omega)
            have eS : Hid (S ++ rsel at_ (ss.take (j + 1)) = (S ++ rsel at_ (ss.take j)) ++ [y]) := hide (by
              rw [unhide eT, rsel_yes ⟨by omega, by have := unhide hlen; omega⟩, List.getD_eq_getElem?_getD, Int.toNat_natCast, hy]
              rw [List.append_assoc]; rfl)
            have X3 := hide ((unhide X).gr (G.alloc wr (.cells #[.int .i64 y] 2)))
            have R3 := hide ((unhide R).kept fun d hd => (G.alloc wr (.cells #[.int .i64 y] 2)).block d ((unhide R).lo d hd).2)
            have K3 := hide ((unhide X).kd (G.alloc wr (.cells #[.int .i64 y] 2)))
            have hx : Hid ((wr.alloc (.cells #[.int .i64 y] 2)).cell? ⟨wr.heap.size, 0, none⟩ = some (.int .i64 y)) := hide (World.cell?_alloc_new _ _ _ 0)
            clear hy eT hzk
            go_wp2_with (at_builtin; refine Gy.wpl_app rfl _ _ rfl p (p + 1) (unhide hp) rfl rfl (unhide R3) (unhide X3).below.size wr.heap.size 1 y rfl (unhide hx) (by have := unhide hp; omega) ?_; intro rb7 c7 w7 AP; have Y := (unhide X3).app (unhide D) AP; have R7 := hide AP.1; have X7 := hide Y.1; have K7 := hide Y.2.1; have D7 := hide Y.2.2; clear AP Y X3 R3 hx cz cy)
            go_roundw
            case rel => exact ⟨j + 1, p + 1, c7, rb7, rfl, by go_num, by omega, hide (by rw [unhide eS, List.length_append, unhide hp]; rfl), X7, hide (by rw [unhide eS]; exact unhide R7), D7, hide (fun d hd => ((unhide K7 d hd).trans (unhide K3 d (List.mem_append.2 (Or.inr hd)))).trans (unhide K d hd))⟩
            case measure => simp [intOf]; omega
          · have eS : Hid (S ++ rsel at_ (ss.take (j + 1)) = S ++ rsel at_ (ss.take j)) := hide (by
              rw [unhide eT, rsel_no (by rw [unhide hlen]; exact hzk)])
            by_cases hz0 : 0 ≤ z
            · have hz1 : ¬ z < (k : Int) := fun h => hzk ⟨hz0, h⟩
              clear eT hzk
              go_wp2_with fail
              go_roundw
              case rel => exact ⟨j + 1, p, c', rb, rfl, by go_num, by omega, hide (by rw [unhide eS]; exact unhide hp), X, hide (by rw [unhide eS]; exact unhide R), D, K⟩
              case measure => simp [intOf]; omega
            · clear eT hzk
              go_wp2_with fail
              go_roundw
              case rel => exact ⟨j + 1, p, c', rb, rfl, by go_num, by omega, hide (by rw [unhide eS]; exact unhide hp), X, hide (by rw [unhide eS]; exact unhide R), D, K⟩
              case measure => simp [intOf]; omega
          --B>
        · skip
          obtain rfl : j = n := by omega
          have e0 : ss.take j = ss := List.take_of_length_le (by have := unhide hns; omega)
          rw [e0] at R hp
          obtain ⟨S2, hS⟩ : ∃ S2, rsel at_ ss = S2 := ⟨_, rfl⟩
          have hSw2 : Hid (∀ y ∈ S ++ S2, wfI y) := hide fun y hy => by
            rcases List.mem_append.1 hy with e | e
            · exact unhide hSw y e
            · exact rsel_memI (unhide hwf) y (by rw [hS]; exact e)
          rw [hS] at R hp
          have CR := hide (m_reach X (bo := rb) (cb := c') (n := p) (ys := S ++ S2) (A := A) (unhide hp) (by omega) hMw hSw2 (hide (unhide R).is) (hide fun d hd => ((unhide R).lo d hd).2) hMA (by omega))
          clear e0 hS
          go_wp2_with fail
          refine (unhide CR).mono ?_
          rintro r w5 ⟨yo, cy, y, rfl, RY, g5, ya, ym⟩
          have NR := (unhide X).newRow g5 RY
          have X5 := hide NR.1
          have IY := hide RY.is
          have IX5 : Hid (Gy.IsI w5 xo ag) := hide (IsI_kept2 (unhide IX4) (fun d hd => (g5.block d ((unhide X).lt d (by simp [hd]))).trans (unhide K d (by simp [hd]))) fun d hd => (unhide X5).lt d (by simp [hd]))
          have IG5 : Hid (Gy.IsI w5 go ag) := hide (IsI_kept2 (unhide IG) (fun d hd => (g5.block d ((unhide X).lt d (by simp [hd]))).trans (unhide K d (by simp [hd]))) fun d hd => (unhide X5).lt d (by simp [hd]))
          have IS5 : Hid (Gy.IsI w5 rb (S ++ S2)) := hide (((unhide R).is).g g5)
          obtain ⟨pos, hpos, hmono⟩ := pos_of (unhide XA) ya (reach_more (unhide XM) ym)
          have hpos := hide hpos
          have hyis : Hid (∀ z ∈ S ++ S2, M.al.a.is z = decide (z ∈ y)) := hide fun z hz => by
            cases hi : M.al.a.is z
            · symm
              rw [decide_eq_false_iff_not]
              intro h
              have := ((ym z).1 h).taken
              rw [hi] at this
              cases this
            · symm
              rw [decide_eq_true_iff]
              exact (ym z).2 (.root hz hi)
          have hyl : y.length ≤ 30 := by
            have := nodup_sub ya.nodup fun z hz => unhide hMA z ((ym z).1 hz).taken
            omega
          have YA := hide ya
          obtain ⟨yl, hyl2⟩ : ∃ yl, y.length = yl := ⟨_, rfl⟩
          have hyl' := hide hyl2
          rw [hyl2] at hyl
          rw [hyl2]
          have hxx : ((xl : Int) != (xl : Int)) = false := by simp
          clear CR NR RY g5 ya ym hyl2 X R D K
          go_wp2_with fail
          go_loopw [17, 18] (fun c d wr => ∃ (i κ : Nat), c = .int .i64 (κ : Int) ∧ d = .int .i64 (i : Int) ∧ i ≤ xl ∧ κ ≤ yl ∧ (i < xl → κ ≤ pos i) ∧ Hid (G w5 wr))
            (fun _ d _ => xl - (intOf d).toNat)
          case atStart => exact ⟨0, 0, rfl, rfl, Nat.zero_le _, Nat.zero_le _, fun _ => Nat.zero_le _, hide (G.refl _)⟩
          case round =>
            obtain ⟨i, κ, rfl, rfl, hi, hκ, hκp, g⟩ := hrel
            by_cases hlt : i < xl
            · --<C
              obtain ⟨xi, gx, ox, hxi, rfl, cxi⟩ := ((unhide IX5).g (unhide g)).at_ (i := i) (by have := unhide hxl'; omega)
              have hpi := unhide hpos i xi hxi
              have hpl : pos i < yl := by have := (List.getElem?_eq_some_iff.1 hpi).1; have := unhide hyl'; omega
              have hκ1 := hκp hlt
              have cxi' := hide cxi
              have lx := World.block_lt_of_cell? _ _ cxi
              go_wp2_with fail
              go_loopw [17] (fun c wr2 => ∃ κ : Nat, c = .int .i64 (κ : Int) ∧ κ ≤ pos i ∧ Hid (G wr wr2)) (fun c _ => pos i - (intOf c).toNat)
              case atStart => exact ⟨κ, rfl, hκ1, hide (G.refl _)⟩
              case round =>
                obtain ⟨κ2, rfl, hκ2, g2⟩ := hrel
                have cx2 := G.cell (unhide g2) cxi
                have g52 := hide ((unhide g).trans (unhide g2))
                obtain ⟨yv, gy, oy, hyv, rfl, cyv⟩ := ((unhide IY).g (unhide g52)).at_ (i := κ2) (by have := unhide hyl'; omega)
                have hκl : (κ2 : Int) < (yl : Int) := by omega
                have ly := World.block_lt_of_cell? _ _ cyv
                by_cases hlt2 : κ2 < pos i
                · have hv : yv < xi := asc_lt (unhide YA) hyv hpi hlt2
                  clear hyv
                  go_wp2_with fail
                  go_quiet (fail)
                  go_wp2_with fail
                  go_roundw
                  case rel => exact ⟨κ2 + 1, by go_num, by omega, hide ((unhide g2).trans (G.drewN _ _))⟩
                  case measure => simp [intOf]; omega
                · obtain rfl : κ2 = pos i := by omega
                  obtain rfl : yv = xi := by rw [hpi] at hyv; injection hyv with hyv; exact hyv.symm
                  obtain ⟨gv, gg, og, hgv, rfl, cgv⟩ := ((unhide IG5).g (unhide g52)).at_ (i := i) (by have := unhide hxl'; omega)
                  obtain rfl : gv = yv := by rw [hxi] at hgv; injection hgv with hgv; exact hgv.symm
                  have hd0 : decide (gv < gv) = false := by simp
                  have hne : (gv != gv) = false := by simp
                  have hke : ((pos i : Int) == (yl : Int)) = false := by simp; omega
                  have lg := World.block_lt_of_cell? _ _ cgv
                  clear hyv hgv hxi hpi cxi
                  go_wp2_with fail
                  go_quiet (fail)
                  go_wp2_with fail
                  go_quiet (fail)
                  go_wp2_with fail
                  go_roundw
                  case rel => exact ⟨i + 1, pos i, rfl, by go_num, by omega, by omega, fun h => hmono i (by have := unhide hxl'; omega), hide ((unhide g52).trans (G.drewN _ _))⟩
                  case measure => simp [intOf]; omega
              --C>
            · obtain rfl : i = xl := by omega
              have X6 := hide ((unhide X5).gr (unhide g))
              have K6 : Hid (Kd w5 wr (Gy.blk yo ++ (Gy.blk rb ++ (Gy.blk bo ++ (Gy.blk xo ++ Gy.blk go))))) := hide ((unhide X5).kd (unhide g))
              go_wp2_with fail
              go_loopw [19] (fun c wr2 => ∃ q : Nat, c = .int .i64 (q : Int) ∧ q ≤ p ∧ Hid (MS w1 wr2 L M M k (Gy.blk yo ++ (Gy.blk rb ++ (Gy.blk bo ++ (Gy.blk xo ++ Gy.blk go))))) ∧ Hid (Kd w5 wr2 (Gy.blk yo ++ (Gy.blk rb ++ (Gy.blk bo ++ (Gy.blk xo ++ Gy.blk go))))))
                (fun c _ => p - (intOf c).toNat)
              case atStart => exact ⟨0, rfl, Nat.zero_le _, X6, K6⟩
              case round =>
                obtain ⟨q, rfl, hq, X7, K7⟩ := hrel
                clear X6 K6
                by_cases hlt2 : q < p
                · --<D
                  have IS7 := hide (IsI_kept2 (unhide IS5) (fun d hd => unhide K7 d (by simp [hd])) fun d hd => (unhide X7).lt d (by simp [hd]))
                  have IY7 := hide (IsI_kept2 (unhide IY) (fun d hd => unhide K7 d (by simp [hd])) fun d hd => (unhide X7).lt d (by simp [hd]))
                  obtain ⟨ri, gr2, or2, hri, rfl, cri⟩ := (unhide IS7).at_ (i := q) (by have := unhide hp; omega)
                  have his := unhide hyis ri (List.mem_of_getElem? hri)
                  have lr := World.block_lt_of_cell? _ _ cri
                  clear hri
                  go_wp2_with fail
                  go_loopw [20, 21] (fun b c wr3 => ∃ z : Nat, c = .int .i64 (z : Int) ∧ z ≤ yl ∧ b = .bool (decide (ri ∈ y.take z)) ∧ Hid (G wr wr3)) (fun _ c _ => yl - (intOf c).toNat)
                  case atStart => exact ⟨0, rfl, Nat.zero_le _, by simp, hide (G.refl _)⟩
                  case round =>
                    obtain ⟨z, rfl, hz, rfl, g3⟩ := hrel
                    have cr3 := G.cell (unhide g3) cri
                    by_cases hlt3 : z < yl
                    · obtain ⟨v, gy, oy, hv, rfl, cv⟩ := ((unhide IY7).g (unhide g3)).at_ (i := z) (by have := unhide hyl'; omega)
                      have ly := World.block_lt_of_cell? _ _ cv
                      have hms := mem_take_snocI (q := ri) hv
                      clear hv
                      cases hb : decide (ri ∈ y.take z)
                      · rw [hb] at hms
                        rw [Bool.false_or] at hms
                        have hms' := hide hms
                        clear hms hb
                        go_wp2_with fail
                        go_quiet (fail)
                        go_wp2_with fail
                        go_roundw
                        case rel => exact ⟨z + 1, by go_num, by omega, by rw [← unhide hms'], hide ((unhide g3).trans (G.drewN _ _))⟩
                        case measure => simp [intOf]; omega
                      · rw [hb] at hms
                        rw [Bool.true_or] at hms
                        have hms' := hide hms
                        clear hms hb
                        go_wp2_with fail
                        go_quiet (fail)
                        go_wp2_with fail
                        go_roundw
                        case rel => exact ⟨z + 1, by go_num, by omega, by rw [← unhide hms'], hide ((unhide g3).trans (G.drewN _ _))⟩
                        case measure => simp [intOf]; omega
                    · obtain rfl : z = yl := by omega
                      have e0 : y.take z = y := List.take_of_length_le (by have := unhide hyl'; omega)
                      rw [e0, ← his]
                      have X8 := hide ((unhide X7).gr (unhide g3))
                      have CI := hide (s_is X8 ri)
                      obtain ⟨ib, hib⟩ : ∃ ib, M.al.a.is ri = ib := ⟨_, rfl⟩
                      rw [hib] at CI
                      rw [hib]
                      have hbb : (ib != ib) = false := by simp
                      clear hib his
                      go_wp2_with fail
                      refine (unhide CI).mono ?_
                      rintro r w9 ⟨rfl, X9, K9⟩
                      have X9' := hide X9
                      have K9' : Hid (Kd w5 w9 (Gy.blk yo ++ (Gy.blk (some ⟨gr2, or2, none⟩) ++ (Gy.blk bo ++ (Gy.blk xo ++ Gy.blk go))))) := hide fun d hd => ((K9 d hd).trans ((unhide X7).kd (unhide g3) d hd)).trans (unhide K7 d hd)
                      clear CI X9 K9 X8
                      go_wp2_with fail
                      go_roundw
                      case rel => exact ⟨q + 1, by go_num, by omega, X9', K9'⟩
                      case measure => simp [intOf]; omega
                  --D>
                · obtain rfl : q = p := by omega
                  go_wp2_with fail
                  go_ret
                  exact ⟨rfl, (unhide g1).trans (unhide X7).below⟩
theorem walkC_MarkMore (world_any : WorldC) (a0 : Option Addr) (n0 c0 : Nat) (l0 : List Th) (a1 : Option Addr) (n1 c1 : Nat) (l1 : List Int) (a2 : Option Addr) (n2 c2 : Nat) (l2 : List Int) (W : World) (w0 : IsThs W a0 n0 l0) (w1 : IsIn W a1 n1 l1) (w2 : IsIn W a2 n2 l2) (ht : Tab W) : Calls Tryz.prog 6 #[.slice a0 n0 c0, .slice a1 n1 c1, .slice a2 n2 c2] W fun e w' => e = .returned (.bool true) ∧ Below W.heap.size W w' :=
  more_core world_any a0 a1 a2 c0 c1 c2 n0 n1 n2 l0 l1 l2 (hide w0.1) (hide w1.1) (hide w2.1) W (hide ht) (hide w0.2.2.1) (hide w1.2.2.1) (hide w2.2.2.1) (hide (wld_ok (by decide) (by decide) w0.2.2.2))
end Go.Proofs.YtinehimleldkdaaGreatDoor
