/- held of gantlinelaw13: it answers true. -/
import Derived.Test.YtnfeommkbocgpaaDoorFmHeld
namespace Go.Proofs.YtnfeommkbocgpaaDoor
open Go.RowKit Go.Maps Go.ChangeShapes Go.WideShapes Go.ChangeAt Go.Deep

set_option maxRecDepth 100000 in
set_option maxHeartbeats 8000000 in
theorem held_some (w W1 : World) (mv : Value) (m : Md) (s n c2 kb2 : Nat)
    (v0a : Option Addr) (v0b v0c : Nat) (v1a : Option Addr) (v1b v1c : Nat) (v2a : Option Addr) (v2b v2c : Nat) (v3a : Option Addr) (v3b v3c : Nat) (fo : Option Addr) (fc FN : Nat) (mn : Int)
    (hmv : mv = .agg #[.slice v0a v0b v0c, .slice v1a v1b v1c, .slice v2a v2b v2c, .slice v3a v3b v3c, .slice fo FN fc, .int .i64 mn])
    (hW1 : W1 = w.alloc (.cells #[.slice v0a v0b v0c, .slice v1a v1b v1c, .slice v2a v2b v2c, .slice v3a v3b v3c, .slice fo FN fc, .int .i64 mn] 33))
    (hn : 0 < n) (hn2 : n ≤ 1000) (P : List (Int × Int × List Int)) (tfn tpc : Int) (tN : Nat) (tsl : List Int) (o : Option In)
    (hrl : Hid (∀ k, k ≤ 1000 → (rtL m P k).length ≤ 1000000))
    (FR : Hid (Calls Tryd.prog 21 #[.pointer (some ⟨s, 0, none⟩)] W1 fun e w' => ∃ kb1 c1, e = .returned (.slice (some ⟨kb1, 0, none⟩) n c1) ∧ G W1 w' ∧
      Hid (∀ (k : Nat), k < n → ∃ (j fb foff sb1 sc1 sb2 sc2 N : Nat) (pc : Int) (F : Fn) (ko : Option Addr) (kc : Nat) (io : Option Addr) (ic : Nat) (mo : Option Addr) (mc : Nat) (sl : List Int), (j : Int) < (FN : Int) ∧ fo = some ⟨fb, foff, none⟩ ∧ N ≤ 64 ∧ sl.length = N ∧ P[k]? = some ((j : Int), pc, sl) ∧ mpP m (j : Int) pc = (if 0 ≤ pc then (F.ms[pc.toNat]?).getD 0 else 0) ∧ mpP m (j : Int) pc < 18446744073709551616 ∧ RowAt elU w mo F.ms.length mc F.ms ∧ (k + 1 = n → tpc = pc ∧ tsl = sl ∧ o = if pc < 0 then none else F.is[pc.toNat]?) ∧ RowAt elIn w io F.is.length ic F.is ∧ ∀ y, G w' y → HdK kb1 kb2 k j fb foff pc sb1 sc1 sb2 sc2 N F ko kc io ic mo mc sl y)))
    (TP : Hid (∀ x, G W1 x → Calls Tryd.prog 20 #[.pointer (some ⟨s, 0, none⟩)] x fun e w' => ∃ b c, e = .returned (.tuple #[.agg #[.int .i64 tfn, .int .i64 tpc, .slice (some ⟨b, 0, none⟩) tN c], .bool true]) ∧ G x w'))
    (CR : Hid (∀ x3 x b, G W1 x3 → RoI x3 (rtL m P n) b x → Calls Tryd.prog 23 #[.pointer (some ⟨s, 0, none⟩), mv] x fun e w' => ∃ v', e = .returned v' ∧ G x w' ∧ Hid (Calls Tryd.prog 29 #[v', b] w' fun e w2 => e = .returned (.bool true) ∧ G w' w2)))
    (AT : Hid (∀ x, G W1 x → Calls Tryd.prog 22 #[.pointer (some ⟨s, 0, none⟩), mv] x fun e w' => e = .returned (.tuple #[agIm (o.getD noIm), .bool o.isSome]) ∧ G x w'))
    (PT : Hid (∀ x, G W1 x → Calls Tryd.prog 24 #[.pointer (some ⟨s, 0, none⟩), mv] x fun e w' => e = .returned (.bool (ptP o)) ∧ G x w'))
    (CPt : Hid (∀ x op, G W1 x → Calls Tryd.prog 31 #[.int .i64 op] x fun e w' => e = .returned (.bool (rwOf op).pt) ∧ G x w'))
    (GT : Hid (∀ x (k : Int), G W1 x → Calls Tryd.prog 12 #[.pointer (some ⟨s, 0, none⟩), .int .i64 k] x fun e w' => e = .returned (.int .i64 (if k < 0 then 0 else (tsl[k.toNat]?).getD 0)) ∧ G x w'))
    (DP : Hid (∀ x, G W1 x → Calls Tryd.prog 11 #[.pointer (some ⟨s, 0, none⟩)] x fun e w' => e = .returned (.int .i64 (n : Int)) ∧ w' = x)) :
    Calls Tryd.prog 19 #[mv, .pointer (some ⟨s, 0, none⟩), .slice (some ⟨kb2, 0, none⟩) n c2] w fun e w' => e = .returned (.bool true) ∧ G w w' := by
  subst hmv
  have b0 : Hid (∀ x, G W1 x → x.cell? ⟨w.heap.size, 0, none⟩ = some (.slice v0a v0b v0c) ∧ x.cell? ⟨w.heap.size, 1, none⟩ = some (.slice v1a v1b v1c) ∧ x.cell? ⟨w.heap.size, 2, none⟩ = some (.slice v2a v2b v2c) ∧ x.cell? ⟨w.heap.size, 3, none⟩ = some (.slice v3a v3b v3c) ∧ x.cell? ⟨w.heap.size, 4, none⟩ = some (.slice fo FN fc) ∧ x.cell? ⟨w.heap.size, 5, none⟩ = some (.int .i64 mn)) := hide fun x g => by
    have e : ∀ i v, W1.cell? ⟨w.heap.size, i, none⟩ = some v → x.cell? ⟨w.heap.size, i, none⟩ = some v := fun i v hv => g.cell hv
    refine ⟨e 0 _ ?_, e 1 _ ?_, e 2 _ ?_, e 3 _ ?_, e 4 _ ?_, e 5 _ ?_⟩
    all_goals (rw [hW1, cell_of_row _ _ _ _ _ _ (heap_alloc_new w _)]; rfl)
  have hni : (0 : Int) < (n : Int) := by omega
  have GW : Hid (G w W1) := hide (by rw [hW1]; exact G.alloc w _)
  replace hn2 := hide hn2
  go_enter Tryd.func19, Tryd.ntmps19
  go_upto_region 1 with fail
  rw [← hW1]
  clear hW1
  go_wp2_with fail
  refine (unhide FR).mono ?_
  rintro e x1 ⟨kb1, c1, rfl, g1, KD⟩
  have G1 := hide g1
  clear g1 FR
  go_wp2_with fail
  refine (unhide TP _ (unhide G1)).mono ?_
  rintro e x2 ⟨tb, tc, rfl, g2⟩
  have GX := hide (show G x1 (x2.alloc (.cells #[.int .i64 tfn, .int .i64 tpc, .slice (some ⟨tb, 0, none⟩) tN tc] 46)) from g2.more _)
  have tbx : (x2.alloc (.cells #[.int .i64 tfn, .int .i64 tpc, .slice (some ⟨tb, 0, none⟩) tN tc] 46)).cell? ⟨x2.heap.size, 1, none⟩ = some (.int .i64 tpc) := by simp [go_sem]
  obtain ⟨X, hX⟩ : ∃ X, X = x2.alloc (.cells #[.int .i64 tfn, .int .i64 tpc, .slice (some ⟨tb, 0, none⟩) tN tc] 46) := ⟨_, rfl⟩
  rw [← hX] at GX tbx
  clear g2 TP
  go_upto_region 3 with fail
  rw [← hX]
  clear hX
  go_wp2_with fail
  refine (unhide DP _ ((unhide G1).trans (unhide GX))).mono ?_
  rintro e x3 ⟨rfl, rfl⟩
  go_wp2_with fail
  have ST : Hid (RoI x3 (rtL m P 0) (.slice none 0 0) x3) := hide ⟨⟨rfl, Or.inl ⟨rfl, rfl⟩⟩, G.refl x3⟩
  go_loopw [10, 11] (fun b i wr => ∃ k : Nat, k ≤ n ∧ i = .int .i64 k ∧ Hid (RoI x3 (rtL m P k) b wr)) (fun _ i _ => n - (intOf i).toNat)
  case atStart => exact ⟨0, Nat.zero_le _, rfl, ST⟩
  case round =>
    obtain ⟨k, hk, rfl, HW⟩ := hrel
    by_cases hlt : k < n
    · as_aux_lemma =>
      obtain ⟨j, fb, foff, sb1, sc1, sb2, sc2, N, pc, F, ko, kc, io, ic, mo, mc, sl, hj, rfl, hN, hsl, hP, hM, hMb, hmr, _, _, HD⟩ := unhide KD k hlt
      have D := HD wr ((unhide GX).trans (unhide HW).2)
      obtain ⟨_, _, _, _, m4, _⟩ := unhide b0 wr ((unhide G1).trans ((unhide GX).trans (unhide HW).2))
      have a0 := D.a0
      have a1 := D.a1
      have a2 := D.a2
      have e0 := D.b0
      have e1 := D.b1
      have e2 := D.b2
      have CN := hide D.nm
      have HDH := hide HD
      replace hmr := hide hmr
      replace hM := hide hM
      replace hMb := hide hMb
      replace hP := hide hP
      replace hsl := hide hsl
      have HC := hide D
      clear D HD ST KD DP
      go_wp2_with fail
      go_quiet ((go_at_call 29; exact Calls.quiet_of (unhide CN _)))
      obtain ⟨Fp, Fc, Fs, Fr_, Fks, Fis, Fms⟩ := F
      have q0 := (unhide HC).c0
      have q1 := (unhide HC).c1
      have q2 := (unhide HC).c2
      have q3 := (unhide HC).c3
      have q4 := (unhide HC).c4
      have q5 := (unhide HC).c5
      have q6 := (unhide HC).c6
      simp only at q0 q1 q2 q3 q4 q5 q6 hmr hM
      obtain ⟨ML, hML⟩ : ∃ ML, ML = Fms.length := ⟨_, rfl⟩
      rw [← hML] at q6 hmr
      replace hML := hide hML
      clear a0 a1 a2 CN
      obtain ⟨wq, hwq⟩ : ∃ wq, wq = wr.drewN nq := ⟨_, rfl⟩
      have gq : G wr wq := by rw [hwq]; exact G.drewN wr nq
      replace q0 := gq.cell q0
      replace q1 := gq.cell q1
      replace q2 := gq.cell q2
      replace q3 := gq.cell q3
      replace q4 := gq.cell q4
      replace q5 := gq.cell q5
      replace q6 := gq.cell q6
      replace e0 := gq.cell e0
      replace m4 := gq.cell m4
      have hfb : fb < wq.heap.size := World.block_lt_of_cell? wq _ q0
      have hkb : kb2 < wq.heap.size := World.block_lt_of_cell? wq _ e0
      have hmb : w.heap.size < wq.heap.size := World.block_lt_of_cell? wq _ m4
      have hszq : wr.heap.size ≤ wq.heap.size := gq.size
      replace gq := hide gq
      go_upto_region 11 with fail
      rw [← hwq]
      clear hwq
      go_cut [12] (fun p wx => ∃ bx, p = .pointer (some ⟨bx, 0, none⟩) ∧ wr.heap.size ≤ bx ∧ wx.cell? ⟨bx, 6, none⟩ = some (.slice mo ML mc) ∧ Hid (G wq wx))
      case first =>
        go_region
        all_goals
          go_wp2_with fail
          go_meet
          case rel => exact ⟨_, rfl, hszq, by simp [go_sem], hide ((G.refl _).drew.more _)⟩
      case rest =>
        obtain ⟨bx, rfl, hbx, y6, HGc⟩ := hcut
        replace HGc := hide ((unhide gq).trans (unhide HGc))
        clear q0 q1 q2 q3 q4 q5 q6 m4 e0 e1 e2 hfb hkb hmb hszq gq
        have RB := hide (show RoB x3 bx (.slice mo ML mc) (rtL m P k) u10 wc from ⟨(unhide HW).g (unhide HGc), y6, fun q hq => by have := (unhide HW).old q hq; omega⟩)
        have YD : Hid (∀ y, G x3 y → y.cell? ⟨kb2, k * 3 + 1, none⟩ = some (.int .i64 pc) ∧ y.cell? ⟨kb2, k * 3 + 2, none⟩ = some (.slice (some ⟨sb2, 0, none⟩) N sc2) ∧ ∀ t x, sl[t]? = some x → y.cell? ⟨sb2, t, none⟩ = some (.int .i64 x)) := hide fun y g => by
          have := unhide HDH y ((unhide GX).trans g)
          exact ⟨this.b1, this.b2, this.s2⟩
        have hwk : wrap64 ((k : Int) + 1) = ((k + 1 : Nat) : Int) := by have := unhide hn2; unfold wrap64; omega
        have RLk : Hid ((rtL m P k).length ≤ 1000000) := hide (unhide hrl k (by have := unhide hn2; omega))
        have RS : Hid (∀ l b x, RoB x3 bx (.slice mo ML mc) l b x → l = rtL m P (k + 1) → RoI x3 (rtL m P (k + 1)) b x) := hide fun l b x h e => by rw [← e]; exact h.1
        have RE : Hid (rtL m P (k + 1) = rtL m P k ++ rtK (mpP m (j : Int) pc) sl N) := hide (by rw [rtL, unhide hP]; simp only; rw [unhide hsl])
        clear HC HDH HW HGc hbx y6
        by_cases hin : 0 ≤ pc ∧ pc < (ML : Int)
        · obtain ⟨t0, rfl⟩ : ∃ t0 : Nat, pc = t0 := ⟨pc.toNat, by omega⟩
          have ht0 : (t0 : Int) < (ML : Int) := hin.2
          obtain ⟨mb, moff, M0, cs, rfl, ha, ecs, hcs⟩ := row_get (unhide hmr) (show t0 < ML by omega)
          have ecs : cs = [.int .u64 (M0 : Int)] := ecs
          subst ecs
          have eM : mpP m (j : Int) (t0 : Int) = M0 := by rw [unhide hM, if_pos (by omega), Int.toNat_natCast, ha]; rfl
          rw [eM] at RE hMb
          have MC : Hid (∀ y, G x3 y → y.cell? ⟨mb, moff + t0, none⟩ = some (.int .u64 (M0 : Int))) := hide fun y g => by
            have := hcs y ((unhide GW).trans ((unhide G1).trans ((unhide GX).trans g))) 0 _ rfl
            simpa [elU] using this
          have S0 : Hid (RoB x3 bx (.slice (some ⟨mb, moff, none⟩) ML mc) (rtL m P k ++ rtK M0 sl 0) u10 wc) := hide (by rw [rtK, List.append_nil]; exact unhide RB)
          have hNi : (N : Int) ≤ 64 := by omega
          clear hin eM ha hcs hM hmr hML RB hP
          go_wp2_with fail
          go_loopw [10, 13] (fun b i wr => ∃ t : Nat, t ≤ N ∧ i = .int .i64 t ∧ Hid (RoB x3 bx (.slice (some ⟨mb, moff, none⟩) ML mc) (rtL m P k ++ rtK M0 sl t) b wr)) (fun _ i _ => N - (intOf i).toNat)
          case atStart => exact ⟨0, Nat.zero_le _, rfl, S0⟩
          case round =>
            obtain ⟨t, ht, rfl, HT⟩ := hrel
            have d6 := (unhide HT).2.1
            obtain ⟨d1, d2, d3⟩ := unhide YD wr (unhide HT).1.2
            by_cases htl : t < N
            · have hti : (t : Int) < (N : Int) := by omega
              obtain ⟨y, hy⟩ : ∃ y, sl[t]? = some y := ⟨_, List.getElem?_eq_getElem (by rw [unhide hsl]; exact htl)⟩
              have dy := d3 t y hy
              have dm := unhide MC wr (unhide HT).1.2
              have STP := hide (fun x (h : RoB x3 bx (.slice (some ⟨mb, moff, none⟩) ML mc) (rtL m P k ++ rtK M0 sl t) u10 x) => rt_step h hy (unhide RLk) (by omega))
              have CB : Hid (∀ x, Calls Tryd.prog 30 #[.int .u64 (M0 : Int), .int .i64 (t : Int)] x fun e w' => e = .returned (.bool (M0.testBit t)) ∧ w' = x) := hide fun x => rb_any M0 t x (unhide hMb) (by omega)
              generalize hbt : M0.testBit t = bt at CB
              replace hbt := hide hbt
              have KY : Hid (∀ x, wr.cell? ⟨kb2, k * 3 + 2, none⟩ = some (.slice (some ⟨sb2, 0, none⟩) N sc2) → G wr x → x.cell? ⟨kb2, k * 3 + 2, none⟩ = some (.slice (some ⟨sb2, 0, none⟩) N sc2) ∧ x.cell? ⟨sb2, t, none⟩ = some (.int .i64 y)) := hide fun x h g => ⟨g.cell h, g.cell dy⟩
              have D2 := hide d2
              clear S0 MC YD d3 hy
              go_wp2_with fail
              go_quiet (fail)
              go_upto_region 15 with fail
              obtain ⟨wq, hwq⟩ : ∃ wq, wq = wr.drewN nq := ⟨_, rfl⟩
              have gq : G wr wq := by rw [hwq]; exact G.drewN wr nq
              replace d1 := gq.cell d1
              replace d2 := gq.cell d2
              replace d6 := gq.cell d6
              replace dy := gq.cell dy
              replace dm := gq.cell dm
              replace gq := hide gq
              rw [← hwq]
              clear hwq
              cases bt
              · have HX : Hid (∀ x, G wr x → RoB x3 bx (.slice (some ⟨mb, moff, none⟩) ML mc) (rtL m P k ++ rtK M0 sl (t + 1)) u10 x) := hide fun x g => by
                  rcases unhide STP x ((unhide HT).g g) with ⟨h1, _⟩ | ⟨_, h2⟩
                  · rw [unhide hbt] at h1; cases h1
                  · exact unhide h2
                clear STP hbt HT KY D2
                go_quiet ((go_at_call 30; exact Calls.quiet_of_same (unhide CB _)))
                go_wp2_with fail
                go_roundw
                case rel => exact ⟨t + 1, by omega, by go_num, hide (unhide HX _ ((unhide gq).trans (G.drewN _ _)))⟩
                case measure => simp [intOf]; omega
              · cases hyz : (y != 0)
                · have HX : Hid (∀ x, G wr x → RoB x3 bx (.slice (some ⟨mb, moff, none⟩) ML mc) (rtL m P k ++ rtK M0 sl (t + 1)) u10 x) := hide fun x g => by
                    rcases unhide STP x ((unhide HT).g g) with ⟨_, h1, _⟩ | ⟨_, h2⟩
                    · rw [hyz] at h1; cases h1
                    · exact unhide h2
                  clear STP hbt HT KY D2
                  go_quiet ((go_at_call 30; exact Calls.quiet_of_same (unhide CB _)))
                  go_wp2_with fail
                  go_roundw
                  case rel => exact ⟨t + 1, by omega, by go_num, hide (unhide HX _ ((unhide gq).trans (G.drewN _ _)))⟩
                  case measure => simp [intOf]; omega
                · have HX : Hid (∀ x, G wr x → x.cell? ⟨kb2, k * 3 + 2, none⟩ = some (.slice (some ⟨sb2, 0, none⟩) N sc2) ∧ x.cell? ⟨sb2, t, none⟩ = some (.int .i64 y) ∧ ∃ v' x', (Builtin.append_ #[29, 29] 29 #[u10, .slice (some ⟨x.heap.size, 0, none⟩) 1 1]).run Tryd.prog (x.alloc (.cells #[.int .i64 y] 2)) = .ok v' x' ∧ Hid (RoB x3 bx (.slice (some ⟨mb, moff, none⟩) ML mc) (rtL m P k ++ rtK M0 sl (t + 1)) v' x')) := hide fun x g => by
                    have h0 := unhide KY x (unhide D2) g
                    rcases unhide STP x ((unhide HT).g g) with ⟨_, _, h1⟩ | ⟨h1, _⟩
                    · exact ⟨h0.1, h0.2, h1⟩
                    · rcases h1 with h1 | h1
                      · rw [unhide hbt] at h1; cases h1
                      · rw [hyz] at h1; cases h1
                  clear STP hbt HT KY D2
                  go_quiet ((go_at_call 30; exact Calls.quiet_of_same (unhide CB _)))
                  go_upto_region 16 with fail
                  obtain ⟨wz, hwz⟩ : ∃ wz, wz = wq.drewN nq := ⟨_, rfl⟩
                  have gz : G wr wz := by rw [hwz]; exact (unhide gq).trans (G.drewN wq nq)
                  obtain ⟨p2, py, v', x', hrun, HB⟩ := unhide HX wz gz
                  rw [← hwz]
                  clear hwz gz HX d1 d2 d6 dy dm gq CB
                  go_wp2_with (at_builtin; refine wpl_apr rfl (.tmp 151) (.tmp 160) 29 rfl _ _ rfl rfl _ _ hrun ?_)
                  go_roundw
                  case rel => exact ⟨t + 1, by omega, by go_num, HB⟩
                  case measure => simp [intOf]; omega
            · obtain rfl : t = N := by omega
              have HX : Hid (∀ x, G wr x → RoI x3 (rtL m P (k + 1)) u10 x) := hide fun x g => unhide RS _ _ _ ((unhide HT).g g) (unhide RE).symm
              clear S0 MC YD d3 HT RS RE
              go_wp2_with fail
              go_quiet (fail)
              go_wp2_with fail
              go_roundw
              case rel => exact ⟨k + 1, by omega, by rw [hwk], hide (unhide HX _ (G.drewN _ _))⟩
              case measure => rw [hwk]; simp only [intOf]; omega
        · have E0 : mpP m (j : Int) pc = 0 := by
            rw [unhide hM]
            split
            · rw [List.getElem?_eq_none (by have := unhide hML; omega)]; rfl
            · rfl
          have HX : Hid (∀ x, G wc x → RoI x3 (rtL m P (k + 1)) u10 x) := hide fun x g => unhide RS _ _ _ ((unhide RB).g g) (by rw [unhide RE, E0, rtK_zero, List.append_nil])
          obtain ⟨d1, d2, _⟩ := unhide YD wc (unhide RB).1.2
          have d6 := (unhide RB).2.1
          have S0 : Hid (∃ q, wc = wc.drewN q) := hide ⟨0, rfl⟩
          have KK : Hid (∀ x, (∃ q, x = wc.drewN q) → x.cell? ⟨kb2, k * 3 + 1, none⟩ = some (.int .i64 pc) ∧ x.cell? ⟨kb2, k * 3 + 2, none⟩ = some (.slice (some ⟨sb2, 0, none⟩) N sc2) ∧ x.cell? ⟨bx, 6, none⟩ = some (.slice mo ML mc) ∧ G wc x) := hide fun x ⟨q, hq⟩ => by
            subst hq
            exact ⟨(G.drewN wc q).cell d1, (G.drewN wc q).cell d2, (G.drewN wc q).cell d6, G.drewN wc q⟩
          clear RS RE RB E0 hM hML hmr hP hMb hsl YD RLk d1 d2 d6
          go_wp2_with fail
          go_loopw [10, 13] (fun b i wr => b = u10 ∧ i = .int .i64 0 ∧ Hid (∃ q, wr = wc.drewN q)) (fun _ _ _ => 0)
          case atStart => exact ⟨rfl, rfl, S0⟩
          case round =>
            obtain ⟨rfl, rfl, HT⟩ := hrel
            obtain ⟨d1, d2, d6, gd⟩ := unhide KK wr (unhide HT)
            replace gd := hide gd
            clear S0 KK HT
            by_cases hN0 : N = 0
            · subst hN0
              clear hin
              go_wp2_with fail
              go_quiet (fail)
              go_wp2_with fail
              go_roundw
              case rel => exact ⟨k + 1, by omega, by rw [hwk], hide (unhide HX _ ((unhide gd).trans (G.drewN _ _)))⟩
              case measure => rw [hwk]; simp only [intOf]; omega
            · have hN1 : (0 : Int) < (N : Int) := by omega
              have hN2 : decide (0 < N) = true := by simp; omega
              by_cases hp0 : pc < 0
              · have hp1 : decide (0 ≤ pc) = false := by simp; omega
                clear hin
                go_wp2_with fail
                go_quiet (fail)
                go_wp2_with fail
                go_roundw
                case rel => exact ⟨k + 1, by omega, by rw [hwk], hide (unhide HX _ ((unhide gd).trans (G.drewN _ _)))⟩
                case measure => rw [hwk]; simp only [intOf]; omega
              · have hp1 : decide (0 ≤ pc) = true := by simp; omega
                have hp2 : decide (pc < (ML : Int)) = false := by simp; omega
                clear hin
                go_wp2_with fail
                go_quiet (fail)
                go_wp2_with fail
                go_roundw
                case rel => exact ⟨k + 1, by omega, by rw [hwk], hide (unhide HX _ ((unhide gd).trans (G.drewN _ _)))⟩
                case measure => rw [hwk]; simp only [intOf]; omega
    · as_aux_lemma =>
      obtain rfl : k = n := by omega
      obtain ⟨_, _, _, _, m4, _⟩ := unhide b0 wr ((unhide G1).trans ((unhide GX).trans (unhide HW).2))
      have MB := hide (unhide b0 wr ((unhide G1).trans ((unhide GX).trans (unhide HW).2)))
      have CRX := hide (unhide CR x3 wr u10 ((unhide G1).trans (unhide GX)) (unhide HW))
      have GWR := hide ((unhide GX).trans (unhide HW).2)
      have GWRX := hide (unhide HW).2
      obtain ⟨n', rfl⟩ : ∃ n', k = n' + 1 := ⟨k - 1, by omega⟩
      obtain ⟨j, fb, foff, sb1, sc1, sb2, sc2, N, pc, F, ko, kc, io, ic, mo, mc, sl, hj, rfl, hN, hsl, _, _, _, _, htop, hir, HD⟩ := unhide KD n' (by omega)
      obtain ⟨rfl, rfl, ho⟩ := htop rfl
      clear htop
      have hwn : wrap64 (n' : Int) = (n' : Int) := by have := unhide hn2; unfold wrap64; omega
      replace hsl := hide hsl
      replace hir := hide hir
      replace HD := hide HD
      obtain ⟨Fp, Fc, Fs, Fr_, Fks, Fis, Fms⟩ := F
      simp only at hir ho
      replace ho := hide ho
      clear KD ST HW CR hrl DP m4 hk hlt
      obtain ⟨g0, g1, g2, g3, g4, g5⟩ := unhide MB
      clear MB
      go_wp2_with fail
      refine (unhide CRX).mono ?_
      rintro e y1 ⟨v', rfl, gy1, CNM⟩
      replace gy1 := hide gy1
      clear CRX g0 g1 g2 g3 g4 g5
      go_wp2_with fail
      refine (unhide CNM).mono ?_
      rintro e y2 ⟨rfl, gy2⟩
      have GY2 := hide ((unhide GWR).trans ((unhide gy1).trans gy2))
      have GYX := hide ((unhide GWRX).trans ((unhide gy1).trans gy2))
      clear CNM gy2 gy1
      have D := unhide HD y2 (unhide GY2)
      have e0 := D.b0
      have e1 := D.b1
      have e2 := D.b2
      have q0 := D.c0
      have q1 := D.c1
      have q2 := D.c2
      have q3 := D.c3
      have q4 := D.c4
      have q5 := D.c5
      have q6 := D.c6
      simp only at q0 q1 q2 q3 q4 q5 q6
      obtain ⟨_, _, _, _, m4, _⟩ := unhide b0 y2 ((unhide G1).trans (unhide GY2))
      have hfb : fb < y2.heap.size := World.block_lt_of_cell? y2 _ q0
      have hkb : kb2 < y2.heap.size := World.block_lt_of_cell? y2 _ e0
      have hmb : w.heap.size < y2.heap.size := World.block_lt_of_cell? y2 _ m4
      obtain ⟨IL, hIL⟩ : ∃ IL, IL = Fis.length := ⟨_, rfl⟩
      rw [← hIL] at q5 hir
      replace hIL := hide hIL
      clear D
      obtain ⟨Z, hZ⟩ : ∃ Z, Z = (y2.alloc (.cells #[.int .i64 (j : Int), .int .i64 tpc, .slice (some ⟨sb2, 0, none⟩) N sc2] 46)).alloc (.cells #[.int .i64 Fp, .int .i64 Fc, .int .i64 Fs, .int .i64 Fr_, .slice ko Fks.length kc, .slice io IL ic, .slice mo Fms.length mc] 43) := ⟨_, rfl⟩
      have gZ : Hid (G y2 Z) := hide (by rw [hZ]; exact (G.alloc _ _).more _)
      have FB : Hid (∀ z, G Z z → z.cell? ⟨y2.heap.size, 1, none⟩ = some (.int .i64 tpc) ∧ z.cell? ⟨y2.heap.size, 2, none⟩ = some (.slice (some ⟨sb2, 0, none⟩) N sc2) ∧ z.cell? ⟨y2.heap.size + 1, 5, none⟩ = some (.slice io IL ic) ∧ z.cell? ⟨x2.heap.size, 1, none⟩ = some (.int .i64 tpc) ∧
          z.cell? ⟨w.heap.size, 0, none⟩ = some (.slice v0a v0b v0c) ∧ z.cell? ⟨w.heap.size, 1, none⟩ = some (.slice v1a v1b v1c) ∧ z.cell? ⟨w.heap.size, 2, none⟩ = some (.slice v2a v2b v2c) ∧ z.cell? ⟨w.heap.size, 3, none⟩ = some (.slice v3a v3b v3c) ∧ z.cell? ⟨w.heap.size, 4, none⟩ = some (.slice (some ⟨fb, foff, none⟩) FN fc) ∧ z.cell? ⟨w.heap.size, 5, none⟩ = some (.int .i64 mn) ∧
          ∀ t x, tsl[t]? = some x → z.cell? ⟨sb2, t, none⟩ = some (.int .i64 x)) := hide fun z g => by
        have g2 := (unhide gZ).trans g
        obtain ⟨h0, h1, h2, h3, h4, h5⟩ := unhide b0 z ((unhide G1).trans ((unhide GY2).trans g2))
        refine ⟨g.cell (by rw [hZ]; simp [go_sem]), g.cell (by rw [hZ]; simp [go_sem]), g.cell (by rw [hZ]; simp [go_sem]), ?_, h0, h1, h2, h3, h4, h5, (unhide HD z ((unhide GY2).trans g2)).s2⟩
        exact ((unhide GYX).trans g2).cell tbx
      have hNi : (N : Int) ≤ 64 := by omega
      go_upto_region 23 with fail
      rw [← hZ]
      clear hZ e0 e1 q5 m4 hfb hkb hmb e2 q0 q1 q2 q3 q4 q6
      obtain ⟨t1, t2, f5, tb1, m0, m1, m2, m3, m4, m5, _⟩ := unhide FB Z (G.refl Z)
      by_cases hin : 0 ≤ tpc ∧ tpc < (IL : Int)
      · as_aux_lemma =>
        obtain ⟨t0, rfl⟩ : ∃ t0 : Nat, tpc = t0 := ⟨tpc.toNat, by omega⟩
        have ht0 : (t0 : Int) < (IL : Int) := hin.2
        obtain ⟨ib, ioff, i, cs, rfl, ha, ecs, hcs⟩ := row_get (unhide hir) (show t0 < IL by omega)
        have ecs : cs = [.int .i64 i.op, .int .i64 i.a, .int .i64 i.b, .int .i64 i.c, .int .i64 i.d] := ecs
        subst ecs
        obtain rfl : o = some i := by rw [unhide ho, if_neg (by omega), Int.toNat_natCast]; exact ha
        obtain ⟨p0, p1, p2, p3, p4⟩ := i
        unfold agIm at AT
        simp only [Option.getD_some, Option.isSome_some] at AT
        obtain ⟨pt, hpt⟩ : ∃ pt, pt = (rwOf p0).pt := ⟨_, rfl⟩
        have PT2 : Hid (∀ x, G W1 x → Calls Tryd.prog 24 #[.pointer (some ⟨s, 0, none⟩), .agg #[.slice v0a v0b v0c, .slice v1a v1b v1c, .slice v2a v2b v2c, .slice v3a v3b v3c, .slice (some ⟨fb, foff, none⟩) FN fc, .int .i64 mn]] x fun e w' => e = .returned (.bool pt) ∧ G x w') := hide (by rw [hpt]; exact unhide PT)
        have CP2 : Hid (∀ x, G W1 x → Calls Tryd.prog 31 #[.int .i64 p0] x fun e w' => e = .returned (.bool pt) ∧ G x w') := hide (by rw [hpt]; exact fun x g => unhide CPt x p0 g)
        have IC : Hid (∀ z, G Z z → z.cell? ⟨ib, ioff + t0 * 5, none⟩ = some (.int .i64 p0) ∧ z.cell? ⟨ib, ioff + t0 * 5 + 1, none⟩ = some (.int .i64 p1) ∧ z.cell? ⟨ib, ioff + t0 * 5 + 2, none⟩ = some (.int .i64 p2) ∧ z.cell? ⟨ib, ioff + t0 * 5 + 3, none⟩ = some (.int .i64 p3) ∧ z.cell? ⟨ib, ioff + t0 * 5 + 4, none⟩ = some (.int .i64 p4)) := hide fun z g => by
          have hx := hcs z ((unhide GW).trans ((unhide G1).trans ((unhide GY2).trans ((unhide gZ).trans g))))
          exact ⟨hx 0 _ rfl, hx 1 _ rfl, hx 2 _ rfl, hx 3 _ rfl, hx 4 _ rfl⟩
        have GWZ : Hid (∀ z, G Z z → G W1 z) := hide fun z g => (unhide G1).trans ((unhide GY2).trans ((unhide gZ).trans g))
        clear hin ha hcs ho hir hIL hpt PT CPt
        go_wp2_with fail
        refine (unhide AT _ (unhide GWZ _ (G.refl Z))).mono ?_
        rintro e y3 ⟨rfl, gy3⟩
        obtain ⟨Y, hY⟩ : ∃ Y, Y = y3.alloc (.cells #[.int .i64 p0, .int .i64 p1, .int .i64 p2, .int .i64 p3, .int .i64 p4] 60) := ⟨_, rfl⟩
        have gZY : Hid (G Z Y) := hide (by rw [hY]; exact gy3.more _)
        have IB : Hid (∀ z, G Y z → z.cell? ⟨y3.heap.size, 0, none⟩ = some (.int .i64 p0) ∧ z.cell? ⟨y3.heap.size, 1, none⟩ = some (.int .i64 p1) ∧ z.cell? ⟨y3.heap.size, 2, none⟩ = some (.int .i64 p2) ∧ z.cell? ⟨y3.heap.size, 3, none⟩ = some (.int .i64 p3) ∧ z.cell? ⟨y3.heap.size, 4, none⟩ = some (.int .i64 p4)) := hide fun z g => by
          refine ⟨g.cell ?_, g.cell ?_, g.cell ?_, g.cell ?_, g.cell ?_⟩
          all_goals (rw [hY]; simp [go_sem])
        clear AT gy3 t1 t2 f5 tb1 m0 m1 m2 m3 m4 m5
        go_upto_region 25 with fail
        rw [← hY]
        clear hY
        have F5Y : Hid (∀ z, G Y z → z.cell? ⟨y2.heap.size + 1, 5, none⟩ = some (.slice (some ⟨ib, ioff, none⟩) IL ic)) := hide fun z g => (unhide FB z ((unhide gZY).trans g)).2.2.1
        have T1Y : Hid (∀ z, G Y z → z.cell? ⟨y2.heap.size, 1, none⟩ = some (.int .i64 (t0 : Int))) := hide fun z g => (unhide FB z ((unhide gZY).trans g)).1
        have TBY : Hid (∀ z, G Y z → z.cell? ⟨x2.heap.size, 1, none⟩ = some (.int .i64 (t0 : Int))) := hide fun z g => (unhide FB z ((unhide gZY).trans g)).2.2.2.1
        have MBY : Hid (∀ z, G Y z → z.cell? ⟨w.heap.size, 0, none⟩ = some (.slice v0a v0b v0c) ∧ z.cell? ⟨w.heap.size, 1, none⟩ = some (.slice v1a v1b v1c) ∧ z.cell? ⟨w.heap.size, 2, none⟩ = some (.slice v2a v2b v2c) ∧ z.cell? ⟨w.heap.size, 3, none⟩ = some (.slice v3a v3b v3c) ∧ z.cell? ⟨w.heap.size, 4, none⟩ = some (.slice (some ⟨fb, foff, none⟩) FN fc) ∧ z.cell? ⟨w.heap.size, 5, none⟩ = some (.int .i64 mn)) := hide fun z g => by
          obtain ⟨_, _, _, _, h0, h1, h2, h3, h4, h5, _⟩ := unhide FB z ((unhide gZY).trans g)
          exact ⟨h0, h1, h2, h3, h4, h5⟩
        have GYW : Hid (∀ z, G Y z → G W1 z) := hide fun z g => unhide GWZ z ((unhide gZY).trans g)
        have ICY : Hid (∀ z, G Y z → z.cell? ⟨ib, ioff + t0 * 5, none⟩ = some (.int .i64 p0) ∧ z.cell? ⟨ib, ioff + t0 * 5 + 1, none⟩ = some (.int .i64 p1) ∧ z.cell? ⟨ib, ioff + t0 * 5 + 2, none⟩ = some (.int .i64 p2) ∧ z.cell? ⟨ib, ioff + t0 * 5 + 3, none⟩ = some (.int .i64 p3) ∧ z.cell? ⟨ib, ioff + t0 * 5 + 4, none⟩ = some (.int .i64 p4)) := hide fun z g => unhide IC z ((unhide gZY).trans g)
        clear IC
        go_cut [234] (fun p wx => p = .bool false ∧ Hid (G Z wx))
        case first =>
          as_aux_lemma =>
          refine wp_region_noPanic ?_
          refine wp_region_held_drew (S := fun x => G Y x) (by kernel_rfl) (G.drewN Y 1) (fun hHeld => ?_)
          obtain ⟨y4, hy4⟩ : ∃ y, y = Y.drew := ⟨_, rfl⟩
          rw [← hy4] at hHeld ⊢
          clear hy4
          refine wpAnyH_take (i := 0) (v := .bool true) rfl (by kernel_rfl) (by kernel_rfl) (by kernel_rfl) (fun _ _ _ h => h) (Or.inl ⟨by rfl, fun w hSw => by go_simp⟩) (by assumption) ?_
          try simp only [Act.put, List.getElem_toArray, List.getElem_cons_zero, List.setIfInBounds_toArray, List.set_cons_zero, List.set_cons_succ]
          refine wpAnyH_take (i := 1) (v := .bool true) rfl (by kernel_rfl) (by kernel_rfl) (by kernel_rfl) (fun _ _ _ h => h) (Or.inl ⟨by rfl, fun w hSw => by go_simp⟩) (by assumption) ?_
          try simp only [Act.put, List.getElem_toArray, List.getElem_cons_succ, List.getElem_cons_zero, List.setIfInBounds_toArray, List.set_cons_zero, List.set_cons_succ]
          refine wpAnyH_take (i := 2) (v := .bool false) rfl (by kernel_rfl) (by kernel_rfl) (by kernel_rfl) (fun _ _ _ h => h) (Or.inl ⟨by rfl, fun w hSw => by go_simp⟩) (by assumption) ?_
          try simp only [Act.put, List.getElem_toArray, List.getElem_cons_succ, List.getElem_cons_zero, List.setIfInBounds_toArray, List.set_cons_zero, List.set_cons_succ]
          refine wpAnyH_take (i := 3) (v := .bool false) rfl (by kernel_rfl) (by kernel_rfl) (by kernel_rfl) (fun _ _ _ h => h) (Or.inl ⟨by rfl, fun w hSw => by go_simp⟩) (by assumption) ?_
          try simp only [Act.put, List.getElem_toArray, List.getElem_cons_succ, List.getElem_cons_zero, List.setIfInBounds_toArray, List.set_cons_zero, List.set_cons_succ]
          refine wpAnyH_take (i := 4) (v := .bool true) rfl (by kernel_rfl) (by kernel_rfl) (by kernel_rfl) (fun _ _ _ h => h) (Or.inl ⟨by rfl, fun w hSw => by go_simp⟩) (by assumption) ?_
          try simp only [Act.put, List.getElem_toArray, List.getElem_cons_succ, List.getElem_cons_zero, List.setIfInBounds_toArray, List.set_cons_zero, List.set_cons_succ]
          refine wpAnyH_take (i := 5) (v := .bool true) rfl (by kernel_rfl) (by kernel_rfl) (by kernel_rfl) (fun _ _ _ h => h) (Or.inl ⟨by rfl, fun w hSw => by go_simp⟩) (by assumption) ?_
          try simp only [Act.put, List.getElem_toArray, List.getElem_cons_succ, List.getElem_cons_zero, List.setIfInBounds_toArray, List.set_cons_zero, List.set_cons_succ]
          refine wpAnyH_take (i := 6) (v := .agg #[.int .i64 p0, .int .i64 p1, .int .i64 p2, .int .i64 p3, .int .i64 p4]) rfl (by kernel_rfl) (by kernel_rfl) (by kernel_rfl) (fun _ _ _ h => h) (Or.inl ⟨by rfl, fun w hSw => by obtain ⟨c0, c1, c2, c3, c4⟩ := unhide IB w hSw; go_simp⟩) (by assumption) ?_
          try simp only [Act.put, List.getElem_toArray, List.getElem_cons_succ, List.getElem_cons_zero, List.setIfInBounds_toArray, List.set_cons_zero, List.set_cons_succ]
          refine wpAnyH_take (i := 7) (v := .pointer (some ⟨y2.heap.size + 1, 5, none⟩)) rfl (by kernel_rfl) (by kernel_rfl) (by kernel_rfl) (fun _ _ _ h => h) (Or.inl ⟨by rfl, fun w hSw => by go_simp⟩) (by assumption) ?_
          try simp only [Act.put, List.getElem_toArray, List.getElem_cons_succ, List.getElem_cons_zero, List.setIfInBounds_toArray, List.set_cons_zero, List.set_cons_succ]
          refine wpAnyH_take (i := 8) (v := .slice (some ⟨ib, ioff, none⟩) IL ic) rfl (by kernel_rfl) (by kernel_rfl) (by kernel_rfl) (fun _ _ _ h => h) (Or.inl ⟨by rfl, fun w hSw => by have c0 := unhide F5Y w hSw; go_simp⟩) (by assumption) ?_
          try simp only [Act.put, List.getElem_toArray, List.getElem_cons_succ, List.getElem_cons_zero, List.setIfInBounds_toArray, List.set_cons_zero, List.set_cons_succ]
          refine wpAnyH_take (i := 9) (v := .pointer (some ⟨y2.heap.size, 1, none⟩)) rfl (by kernel_rfl) (by kernel_rfl) (by kernel_rfl) (fun _ _ _ h => h) (Or.inl ⟨by rfl, fun w hSw => by go_simp⟩) (by assumption) ?_
          try simp only [Act.put, List.getElem_toArray, List.getElem_cons_succ, List.getElem_cons_zero, List.setIfInBounds_toArray, List.set_cons_zero, List.set_cons_succ]
          refine wpAnyH_take (i := 10) (v := .int .i64 (t0 : Int)) rfl (by kernel_rfl) (by kernel_rfl) (by kernel_rfl) (fun _ _ _ h => h) (Or.inl ⟨by rfl, fun w hSw => by have c0 := unhide T1Y w hSw; go_simp⟩) (by assumption) ?_
          try simp only [Act.put, List.getElem_toArray, List.getElem_cons_succ, List.getElem_cons_zero, List.setIfInBounds_toArray, List.set_cons_zero, List.set_cons_succ]
          refine wpAnyH_take (i := 11) (v := .pointer (some ⟨ib, ioff + t0 * 5, none⟩)) rfl (by kernel_rfl) (by kernel_rfl) (by kernel_rfl) (fun _ _ _ h => h) (Or.inl ⟨by rfl, fun w hSw => by go_simp⟩) (by assumption) ?_
          try simp only [Act.put, List.getElem_toArray, List.getElem_cons_succ, List.getElem_cons_zero, List.setIfInBounds_toArray, List.set_cons_zero, List.set_cons_succ]
          refine wpAnyH_take (i := 12) (v := .agg #[.int .i64 p0, .int .i64 p1, .int .i64 p2, .int .i64 p3, .int .i64 p4]) rfl (by kernel_rfl) (by kernel_rfl) (by kernel_rfl) (fun _ _ _ h => h) (Or.inl ⟨by rfl, fun w hSw => by obtain ⟨c0, c1, c2, c3, c4⟩ := unhide ICY w hSw; go_simp⟩) (by assumption) ?_
          try simp only [Act.put, List.getElem_toArray, List.getElem_cons_succ, List.getElem_cons_zero, List.setIfInBounds_toArray, List.set_cons_zero, List.set_cons_succ]
          refine wpAnyH_take (i := 13) (v := .bool false) rfl (by kernel_rfl) (by kernel_rfl) (by kernel_rfl) (fun _ _ _ h => h) (Or.inl ⟨by rfl, fun w hSw => by go_simp⟩) (by assumption) ?_
          try simp only [Act.put, List.getElem_toArray, List.getElem_cons_succ, List.getElem_cons_zero, List.setIfInBounds_toArray, List.set_cons_zero, List.set_cons_succ]
          refine wpAnyH_take (i := 14) (v := .bool false) rfl (by kernel_rfl) (by kernel_rfl) (by kernel_rfl) (fun _ _ _ h => h) (Or.inl ⟨by rfl, fun w hSw => by go_simp⟩) (by assumption) ?_
          try simp only [Act.put, List.getElem_toArray, List.getElem_cons_succ, List.getElem_cons_zero, List.setIfInBounds_toArray, List.set_cons_zero, List.set_cons_succ]
          refine wpAnyH_take (i := 15) (v := .bool false) rfl (by kernel_rfl) (by kernel_rfl) (by kernel_rfl) (fun _ _ _ h => h) (Or.inl ⟨by rfl, fun w hSw => by go_simp⟩) (by assumption) ?_
          try simp only [Act.put, List.getElem_toArray, List.getElem_cons_succ, List.getElem_cons_zero, List.setIfInBounds_toArray, List.set_cons_zero, List.set_cons_succ]
          refine wpAnyH_take (i := 16) (v := .bool false) rfl (by kernel_rfl) (by kernel_rfl) (by kernel_rfl) (fun _ _ _ h => h) (Or.inl ⟨by rfl, fun w hSw => by go_simp⟩) (by assumption) ?_
          try simp only [Act.put, List.getElem_toArray, List.getElem_cons_succ, List.getElem_cons_zero, List.setIfInBounds_toArray, List.set_cons_zero, List.set_cons_succ]
          refine wpAnyH_take (i := 17) (v := .pointer (some ⟨s, 0, none⟩)) rfl (by kernel_rfl) (by kernel_rfl) (by kernel_rfl) (fun _ _ _ h => h) (Or.inl ⟨by rfl, fun w hSw => by go_simp⟩) (by assumption) ?_
          try simp only [Act.put, List.getElem_toArray, List.getElem_cons_succ, List.getElem_cons_zero, List.setIfInBounds_toArray, List.set_cons_zero, List.set_cons_succ]
          refine wpAnyH_take (i := 18) (v := .agg #[.slice v0a v0b v0c, .slice v1a v1b v1c, .slice v2a v2b v2c, .slice v3a v3b v3c, .slice (some ⟨fb, foff, none⟩) FN fc, .int .i64 mn]) rfl (by kernel_rfl) (by kernel_rfl) (by kernel_rfl) (fun _ _ _ h => h) (Or.inl ⟨by rfl, fun w hSw => by obtain ⟨c0, c1, c2, c3, c4, c5⟩ := unhide MBY w hSw; go_simp⟩) (by assumption) ?_
          try simp only [Act.put, List.getElem_toArray, List.getElem_cons_succ, List.getElem_cons_zero, List.setIfInBounds_toArray, List.set_cons_zero, List.set_cons_succ]
          refine wpAnyH_take (i := 20) (v := .bool true) rfl (by kernel_rfl) (by kernel_rfl) (by kernel_rfl) (fun _ _ _ h => h) (Or.inl ⟨by rfl, fun w hSw => by go_simp⟩) (by assumption) ?_
          try simp only [Act.put, List.getElem_toArray, List.getElem_cons_succ, List.getElem_cons_zero, List.setIfInBounds_toArray, List.set_cons_zero, List.set_cons_succ]
          refine wpAnyH_ready (rs := [19]) (by kernel_rfl) (by simp) ?_
          refine AllReadyH.cons rfl (fun K hK => ?_) AllReadyH.nil
          go_simp
          refine (unhide PT2 y4 (unhide GYW y4 hHeld)).mono ?_
          rintro e y5 ⟨rfl, gy5⟩
          go_wp2_with fail
          have hgy5 := hHeld.trans gy5
          refine hK.out _ _ hgy5 (fun hHy5 => ?_)
          clear hK K
          try simp only [Act.put, List.getElem_toArray, List.getElem_cons_succ, List.getElem_cons_zero, List.setIfInBounds_toArray, List.set_cons_zero, List.set_cons_succ]
          refine wpAnyH_take (i := 21) (v := .bool true) rfl (by kernel_rfl) (by kernel_rfl) (by kernel_rfl) (fun _ _ _ h => h) (Or.inl ⟨by rfl, fun w hSw => by go_simp⟩) (by assumption) ?_
          try simp only [Act.put, List.getElem_toArray, List.getElem_cons_succ, List.getElem_cons_zero, List.setIfInBounds_toArray, List.set_cons_zero, List.set_cons_succ]
          refine wpAnyH_take (i := 22) (v := .pointer (some ⟨y3.heap.size, 0, none⟩)) rfl (by kernel_rfl) (by kernel_rfl) (by kernel_rfl) (fun _ _ _ h => h) (Or.inl ⟨by rfl, fun w hSw => by go_simp⟩) (by assumption) ?_
          try simp only [Act.put, List.getElem_toArray, List.getElem_cons_succ, List.getElem_cons_zero, List.setIfInBounds_toArray, List.set_cons_zero, List.set_cons_succ]
          refine wpAnyH_take (i := 23) (v := .int .i64 p0) rfl (by kernel_rfl) (by kernel_rfl) (by kernel_rfl) (fun _ _ _ h => h) (Or.inl ⟨by rfl, fun w hSw => by have c0 := (unhide IB w hSw).1; go_simp⟩) (by assumption) ?_
          try simp only [Act.put, List.getElem_toArray, List.getElem_cons_succ, List.getElem_cons_zero, List.setIfInBounds_toArray, List.set_cons_zero, List.set_cons_succ]
          refine wpAnyH_ready (rs := [24]) (by kernel_rfl) (by simp) ?_
          refine AllReadyH.cons rfl (fun K hK => ?_) AllReadyH.nil
          go_simp
          refine (unhide CP2 y5 (unhide GYW y5 hgy5)).mono ?_
          rintro e y6 ⟨rfl, gy6⟩
          go_wp2_with fail
          have hgy6 := hgy5.trans gy6
          refine hK.out _ _ hgy6 (fun hHy6 => ?_)
          clear hK K
          try simp only [Act.put, List.getElem_toArray, List.getElem_cons_succ, List.getElem_cons_zero, List.setIfInBounds_toArray, List.set_cons_zero, List.set_cons_succ]
          refine wpAnyH_take (i := 25) (v := .bool pt) rfl (by kernel_rfl) (by kernel_rfl) (by kernel_rfl) (fun _ _ _ h => h) (Or.inl ⟨by rfl, fun w hSw => by go_simp⟩) (by assumption) ?_
          try simp only [Act.put, List.getElem_toArray, List.getElem_cons_succ, List.getElem_cons_zero, List.setIfInBounds_toArray, List.set_cons_zero, List.set_cons_succ]
          refine wpAnyH_take (i := 26) (v := .bool false) rfl (by kernel_rfl) (by kernel_rfl) (by kernel_rfl) (fun _ _ _ h => h) (Or.inl ⟨by rfl, fun w hSw => by go_simp⟩) (by assumption) ?_
          try simp only [Act.put, List.getElem_toArray, List.getElem_cons_succ, List.getElem_cons_zero, List.setIfInBounds_toArray, List.set_cons_zero, List.set_cons_succ]
          refine wpAnyH_take (i := 27) (v := .bool false) rfl (by kernel_rfl) (by kernel_rfl) (by kernel_rfl) (fun _ _ _ h => h) (Or.inl ⟨by rfl, fun w hSw => by go_simp⟩) (by assumption) ?_
          try simp only [Act.put, List.getElem_toArray, List.getElem_cons_succ, List.getElem_cons_zero, List.setIfInBounds_toArray, List.set_cons_zero, List.set_cons_succ]
          refine wpAnyH_take (i := 28) (v := .bool false) rfl (by kernel_rfl) (by kernel_rfl) (by kernel_rfl) (fun _ _ _ h => h) (Or.inl ⟨by rfl, fun w hSw => by go_simp⟩) (by assumption) ?_
          try simp only [Act.put, List.getElem_toArray, List.getElem_cons_succ, List.getElem_cons_zero, List.setIfInBounds_toArray, List.set_cons_zero, List.set_cons_succ]
          refine wpAnyH_take (i := 29) (v := .pointer (some ⟨x2.heap.size, 1, none⟩)) rfl (by kernel_rfl) (by kernel_rfl) (by kernel_rfl) (fun _ _ _ h => h) (Or.inl ⟨by rfl, fun w hSw => by go_simp⟩) (by assumption) ?_
          try simp only [Act.put, List.getElem_toArray, List.getElem_cons_succ, List.getElem_cons_zero, List.setIfInBounds_toArray, List.set_cons_zero, List.set_cons_succ]
          refine wpAnyH_take (i := 30) (v := .int .i64 (t0 : Int)) rfl (by kernel_rfl) (by kernel_rfl) (by kernel_rfl) (fun _ _ _ h => h) (Or.inl ⟨by rfl, fun w hSw => by have c0 := unhide TBY w hSw; go_simp⟩) (by assumption) ?_
          try simp only [Act.put, List.getElem_toArray, List.getElem_cons_succ, List.getElem_cons_zero, List.setIfInBounds_toArray, List.set_cons_zero, List.set_cons_succ]
          refine wpAnyH_take (i := 31) (v := .pointer (some ⟨y2.heap.size, 1, none⟩)) rfl (by kernel_rfl) (by kernel_rfl) (by kernel_rfl) (fun _ _ _ h => h) (Or.inl ⟨by rfl, fun w hSw => by go_simp⟩) (by assumption) ?_
          try simp only [Act.put, List.getElem_toArray, List.getElem_cons_succ, List.getElem_cons_zero, List.setIfInBounds_toArray, List.set_cons_zero, List.set_cons_succ]
          refine wpAnyH_take (i := 32) (v := .int .i64 (t0 : Int)) rfl (by kernel_rfl) (by kernel_rfl) (by kernel_rfl) (fun _ _ _ h => h) (Or.inl ⟨by rfl, fun w hSw => by have c0 := unhide T1Y w hSw; go_simp⟩) (by assumption) ?_
          try simp only [Act.put, List.getElem_toArray, List.getElem_cons_succ, List.getElem_cons_zero, List.setIfInBounds_toArray, List.set_cons_zero, List.set_cons_succ]
          refine wpAnyH_take (i := 33) (v := .bool false) rfl (by kernel_rfl) (by kernel_rfl) (by kernel_rfl) (fun _ _ _ h => h) (Or.inl ⟨by rfl, fun w hSw => by go_simp⟩) (by assumption) ?_
          try simp only [Act.put, List.getElem_toArray, List.getElem_cons_succ, List.getElem_cons_zero, List.setIfInBounds_toArray, List.set_cons_zero, List.set_cons_succ]
          refine wpAnyH_take (i := 34) (v := .bool false) rfl (by kernel_rfl) (by kernel_rfl) (by kernel_rfl) (fun _ _ _ h => h) (Or.inl ⟨by rfl, fun w hSw => by go_simp⟩) (by assumption) ?_
          try simp only [Act.put, List.getElem_toArray, List.getElem_cons_succ, List.getElem_cons_zero, List.setIfInBounds_toArray, List.set_cons_zero, List.set_cons_succ]
          refine wpAnyH_done (by kernel_rfl) (NoPanic.normal ?_) _
          go_wp2_with fail
          go_meet
          case rel => exact ⟨rfl, hide ((unhide gZY).trans hgy6)⟩
        case rest =>
          obtain ⟨rfl, HZc⟩ := hcut
          clear IB ICY PT2 CP2 F5Y T1Y MBY TBY
          as_aux_lemma =>
          obtain ⟨E, hE⟩ : ∃ E : Int, E = (N : Int) + 1 := ⟨_, rfl⟩
          have hNw : wrap64 ((N : Int) + 1) = E := by rw [hE]; unfold wrap64; omega
          have HB := hide (show (N : Int) ≤ 64 ∧ E = (N : Int) + 1 from ⟨by omega, hE⟩)
          clear hE hN hNi hj hwn hni hn ht0
          go_wp2_with fail
          go_loopw [19, 20] (fun i _ wr => ∃ z : Int, i = .int .i64 z ∧ Hid ((-1 ≤ z ∧ z ≤ E) ∧ G Z wr)) (fun i _ _ => (E - intOf i).toNat)
          case atStart => exact ⟨-1, rfl, hide ⟨by have := unhide HB; omega, unhide HZc⟩⟩
          case round =>
            obtain ⟨z, rfl, HZ⟩ := hrel
            obtain ⟨_, t2, _, _, _, _, _, _, _, _, hslot⟩ := unhide FB wr (unhide HZ).2
            replace hslot := hide hslot
            have GWX := hide ((unhide G1).trans ((unhide GY2).trans ((unhide gZ).trans (unhide HZ).2)))
            by_cases hzl : z < E
            · have hc1 : decide (z < E) = true := by simpa using hzl
              by_cases hza : z < 0
              · as_aux_lemma =>
                obtain rfl : z = -1 := by have := unhide HZ; omega
                have GA : Hid (Calls Tryd.prog 12 #[.pointer (some ⟨s, 0, none⟩), .int .i64 (-1)] wr fun e w' => e = .returned (.int .i64 0) ∧ G wr w') := hide (unhide GT wr (-1) (unhide GWX))
                have hzl' := hide hzl
                clear hslot GT FB hzl hza
                go_wp2_with fail
                refine (unhide GA).mono ?_
                rintro e w9 ⟨rfl, g9⟩
                have G9 := hide ((unhide HZ).2.trans g9)
                clear GA g9
                go_wp2_with fail
                go_roundw
                case rel => exact ⟨0, rfl, hide ⟨by have := unhide HB; omega, unhide G9⟩⟩
                case measure => simp only [intOf]; have := unhide hzl'; omega
              · obtain ⟨q, rfl⟩ : ∃ q : Nat, z = q := ⟨z.toNat, by omega⟩
                have hzw : wrap64 ((q : Int) + 1) = ((q + 1 : Nat) : Int) := by have := unhide HB; have := unhide HZ; unfold wrap64; omega
                by_cases hzb : q < N
                · as_aux_lemma =>
                  obtain ⟨y, hy⟩ : ∃ y, tsl[q]? = some y := ⟨_, List.getElem?_eq_getElem (by rw [unhide hsl]; exact hzb)⟩
                  have dy := unhide hslot q y hy
                  have GA : Hid (Calls Tryd.prog 12 #[.pointer (some ⟨s, 0, none⟩), .int .i64 (q : Int)] wr fun e w' => e = .returned (.int .i64 y) ∧ G wr w') := hide ((unhide GT wr (q : Int) (unhide GWX)).mono (by
                    rintro e w' ⟨rfl, g⟩
                    rw [if_neg hza, Int.toNat_natCast, hy]
                    exact ⟨rfl, g⟩))
                  have hd2 : (q : Int) < (N : Int) := by omega
                  have hzl' := hide (show (q : Int) < E from hzl)
                  clear hslot GT FB hy hzl hza
                  go_wp2_with fail
                  refine (unhide GA).mono ?_
                  rintro e w9 ⟨rfl, g9⟩
                  have G9 := hide ((unhide HZ).2.trans g9)
                  clear GA g9
                  go_wp2_with fail
                  go_roundw
                  case rel => exact ⟨((q + 1 : Nat) : Int), by rw [hzw], hide ⟨by have := unhide hzl'; omega, unhide G9⟩⟩
                  case measure => rw [hzw]; simp only [intOf]; have := unhide hzl'; omega
                · as_aux_lemma =>
                  have GA : Hid (Calls Tryd.prog 12 #[.pointer (some ⟨s, 0, none⟩), .int .i64 (q : Int)] wr fun e w' => e = .returned (.int .i64 0) ∧ G wr w') := hide ((unhide GT wr (q : Int) (unhide GWX)).mono (by
                    rintro e w' ⟨rfl, g⟩
                    rw [if_neg hza, Int.toNat_natCast, List.getElem?_eq_none (by rw [unhide hsl]; exact Nat.le_of_not_lt hzb)]
                    exact ⟨rfl, g⟩))
                  have hd2 : decide ((q : Int) < (N : Int)) = false := by simp; exact Nat.le_of_not_lt hzb
                  have hd3 : decide (q < N) = false := by simpa using hzb
                  have hzl' := hide (show (q : Int) < E from hzl)
                  clear hslot GT FB hzl hza hzb
                  go_wp2_with fail
                  refine (unhide GA).mono ?_
                  rintro e w9 ⟨rfl, g9⟩
                  have G9 := hide ((unhide HZ).2.trans g9)
                  clear GA g9
                  go_wp2_with fail
                  go_roundw
                  case rel => exact ⟨((q + 1 : Nat) : Int), by rw [hzw], hide ⟨by have := unhide hzl'; omega, unhide G9⟩⟩
                  case measure => rw [hzw]; simp only [intOf]; have := unhide hzl'; omega
            · have hc1 : decide (z < E) = false := by simpa using hzl
              have GE := hide ((unhide GW).trans (unhide GWX))
              clear hslot GT FB hzl
              go_wp2_with fail
              go_ret
              exact ⟨rfl, unhide GE⟩
      · as_aux_lemma =>
        have ho2 : o = none := by
          rw [unhide ho]
          split
          · rfl
          · exact List.getElem?_eq_none (by have := unhide hIL; omega)
        subst ho2
        unfold agIm noIm at AT
        simp only [Option.getD_none, Option.isSome_none] at AT
        have PT2 : Hid (∀ x, G W1 x → Calls Tryd.prog 24 #[.pointer (some ⟨s, 0, none⟩), .agg #[.slice v0a v0b v0c, .slice v1a v1b v1c, .slice v2a v2b v2c, .slice v3a v3b v3c, .slice (some ⟨fb, foff, none⟩) FN fc, .int .i64 mn]] x fun e w' => e = .returned (.bool false) ∧ G x w') := PT
        have GWZ : Hid (∀ z, G Z z → G W1 z) := hide fun z g => (unhide G1).trans ((unhide GY2).trans ((unhide gZ).trans g))
        have THR : Hid (decide (0 ≤ tpc) = false ∨ (decide (0 ≤ tpc) = true ∧ decide (tpc < (IL : Int)) = false)) := hide (by
          by_cases h : 0 ≤ tpc
          · exact Or.inr ⟨by simpa using h, by simp; omega⟩
          · exact Or.inl (by simpa using h))
        clear hin ho hir hIL PT CPt
        go_cut [16] (fun p wx => p = .bool false ∧ wx = Z)
        case first =>
          rcases unhide THR with h1 | ⟨h1, h2⟩
          · go_wp2_with fail
            go_meet
            case rel => exact ⟨rfl, rfl⟩
          · go_wp2_with fail
            go_meet
            case rel => exact ⟨rfl, rfl⟩
        case rest =>
        obtain ⟨rfl, hwc⟩ := hcut
        rw [hwc]
        clear THR hwc
        go_wp2_with fail
        refine (unhide AT _ (unhide GWZ _ (G.refl _))).mono ?_
        rintro e y3 ⟨rfl, gy3⟩
        obtain ⟨Y, hY⟩ : ∃ Y, Y = y3.alloc (.cells #[.int .i64 0, .int .i64 0, .int .i64 0, .int .i64 0, .int .i64 0] 60) := ⟨_, rfl⟩
        have gZY : Hid (G Z Y) := hide (by rw [hY]; exact gy3.more _)
        have IB : Hid (G Z Y) := gZY
        clear AT gy3 t1 t2 f5 tb1 m0 m1 m2 m3 m4 m5
        go_upto_region 25 with fail
        rw [← hY]
        clear hY
        have F5Y : Hid (∀ z, G Y z → z.cell? ⟨y2.heap.size + 1, 5, none⟩ = some (.slice io IL ic)) := hide fun z g => (unhide FB z ((unhide gZY).trans g)).2.2.1
        have T1Y : Hid (∀ z, G Y z → z.cell? ⟨y2.heap.size, 1, none⟩ = some (.int .i64 tpc)) := hide fun z g => (unhide FB z ((unhide gZY).trans g)).1
        have TBY : Hid (∀ z, G Y z → z.cell? ⟨x2.heap.size, 1, none⟩ = some (.int .i64 tpc)) := hide fun z g => (unhide FB z ((unhide gZY).trans g)).2.2.2.1
        have MBY : Hid (∀ z, G Y z → z.cell? ⟨w.heap.size, 0, none⟩ = some (.slice v0a v0b v0c) ∧ z.cell? ⟨w.heap.size, 1, none⟩ = some (.slice v1a v1b v1c) ∧ z.cell? ⟨w.heap.size, 2, none⟩ = some (.slice v2a v2b v2c) ∧ z.cell? ⟨w.heap.size, 3, none⟩ = some (.slice v3a v3b v3c) ∧ z.cell? ⟨w.heap.size, 4, none⟩ = some (.slice (some ⟨fb, foff, none⟩) FN fc) ∧ z.cell? ⟨w.heap.size, 5, none⟩ = some (.int .i64 mn)) := hide fun z g => by
          obtain ⟨_, _, _, _, h0, h1, h2, h3, h4, h5, _⟩ := unhide FB z ((unhide gZY).trans g)
          exact ⟨h0, h1, h2, h3, h4, h5⟩
        have GYW : Hid (∀ z, G Y z → G W1 z) := hide fun z g => unhide GWZ z ((unhide gZY).trans g)
        go_cut [234] (fun p wx => p = .bool false ∧ Hid (G Z wx))
        case first =>
          as_aux_lemma =>
          refine wp_region_noPanic ?_
          refine wp_region_held_drew (S := fun x => G Y x) (by kernel_rfl) (G.drewN Y 1) (fun hHeld => ?_)
          obtain ⟨y4, hy4⟩ : ∃ y, y = Y.drew := ⟨_, rfl⟩
          rw [← hy4] at hHeld ⊢
          clear hy4
          refine wpAnyH_take (i := 0) (v := .bool false) rfl (by kernel_rfl) (by kernel_rfl) (by kernel_rfl) (fun _ _ _ h => h) (Or.inl ⟨by rfl, fun w hSw => by go_simp⟩) (by assumption) ?_
          try simp only [Act.put, List.getElem_toArray, List.getElem_cons_zero, List.setIfInBounds_toArray, List.set_cons_zero, List.set_cons_succ]
          refine wpAnyH_take (i := 1) (v := .bool false) rfl (by kernel_rfl) (by kernel_rfl) (by kernel_rfl) (fun _ _ _ h => h) (Or.inl ⟨by rfl, fun w hSw => by go_simp⟩) (by assumption) ?_
          try simp only [Act.put, List.getElem_toArray, List.getElem_cons_succ, List.getElem_cons_zero, List.setIfInBounds_toArray, List.set_cons_zero, List.set_cons_succ]
          refine wpAnyH_take (i := 2) (v := .bool false) rfl (by kernel_rfl) (by kernel_rfl) (by kernel_rfl) (fun _ _ _ h => h) (Or.inl ⟨by rfl, fun w hSw => by go_simp⟩) (by assumption) ?_
          try simp only [Act.put, List.getElem_toArray, List.getElem_cons_succ, List.getElem_cons_zero, List.setIfInBounds_toArray, List.set_cons_zero, List.set_cons_succ]
          refine wpAnyH_take (i := 3) (v := .bool false) rfl (by kernel_rfl) (by kernel_rfl) (by kernel_rfl) (fun _ _ _ h => h) (Or.inl ⟨by rfl, fun w hSw => by go_simp⟩) (by assumption) ?_
          try simp only [Act.put, List.getElem_toArray, List.getElem_cons_succ, List.getElem_cons_zero, List.setIfInBounds_toArray, List.set_cons_zero, List.set_cons_succ]
          refine wpAnyH_take (i := 4) (v := .bool false) rfl (by kernel_rfl) (by kernel_rfl) (by kernel_rfl) (fun _ _ _ h => h) (Or.inl ⟨by rfl, fun w hSw => by go_simp⟩) (by assumption) ?_
          try simp only [Act.put, List.getElem_toArray, List.getElem_cons_succ, List.getElem_cons_zero, List.setIfInBounds_toArray, List.set_cons_zero, List.set_cons_succ]
          refine wpAnyH_take (i := 5) (v := .bool false) rfl (by kernel_rfl) (by kernel_rfl) (by kernel_rfl) (fun _ _ _ h => h) (Or.inl ⟨by rfl, fun w hSw => by go_simp⟩) (by assumption) ?_
          try simp only [Act.put, List.getElem_toArray, List.getElem_cons_succ, List.getElem_cons_zero, List.setIfInBounds_toArray, List.set_cons_zero, List.set_cons_succ]
          refine wpAnyH_take (i := 6) (v := undef) rfl (by kernel_rfl) (by kernel_rfl) (by kernel_rfl) (fun _ _ _ h => h) (Or.inr ⟨by rfl, rfl⟩) (by assumption) ?_
          try simp only [Act.put, List.getElem_toArray, List.getElem_cons_succ, List.getElem_cons_zero, List.setIfInBounds_toArray, List.set_cons_zero, List.set_cons_succ]
          refine wpAnyH_take (i := 7) (v := undef) rfl (by kernel_rfl) (by kernel_rfl) (by kernel_rfl) (fun _ _ _ h => h) (Or.inr ⟨by rfl, rfl⟩) (by assumption) ?_
          try simp only [Act.put, List.getElem_toArray, List.getElem_cons_succ, List.getElem_cons_zero, List.setIfInBounds_toArray, List.set_cons_zero, List.set_cons_succ]
          refine wpAnyH_take (i := 8) (v := undef) rfl (by kernel_rfl) (by kernel_rfl) (by kernel_rfl) (fun _ _ _ h => h) (Or.inr ⟨by rfl, rfl⟩) (by assumption) ?_
          try simp only [Act.put, List.getElem_toArray, List.getElem_cons_succ, List.getElem_cons_zero, List.setIfInBounds_toArray, List.set_cons_zero, List.set_cons_succ]
          refine wpAnyH_take (i := 9) (v := undef) rfl (by kernel_rfl) (by kernel_rfl) (by kernel_rfl) (fun _ _ _ h => h) (Or.inr ⟨by rfl, rfl⟩) (by assumption) ?_
          try simp only [Act.put, List.getElem_toArray, List.getElem_cons_succ, List.getElem_cons_zero, List.setIfInBounds_toArray, List.set_cons_zero, List.set_cons_succ]
          refine wpAnyH_take (i := 10) (v := undef) rfl (by kernel_rfl) (by kernel_rfl) (by kernel_rfl) (fun _ _ _ h => h) (Or.inr ⟨by rfl, rfl⟩) (by assumption) ?_
          try simp only [Act.put, List.getElem_toArray, List.getElem_cons_succ, List.getElem_cons_zero, List.setIfInBounds_toArray, List.set_cons_zero, List.set_cons_succ]
          refine wpAnyH_take (i := 11) (v := undef) rfl (by kernel_rfl) (by kernel_rfl) (by kernel_rfl) (fun _ _ _ h => h) (Or.inr ⟨by rfl, rfl⟩) (by assumption) ?_
          try simp only [Act.put, List.getElem_toArray, List.getElem_cons_succ, List.getElem_cons_zero, List.setIfInBounds_toArray, List.set_cons_zero, List.set_cons_succ]
          refine wpAnyH_take (i := 12) (v := undef) rfl (by kernel_rfl) (by kernel_rfl) (by kernel_rfl) (fun _ _ _ h => h) (Or.inr ⟨by rfl, rfl⟩) (by assumption) ?_
          try simp only [Act.put, List.getElem_toArray, List.getElem_cons_succ, List.getElem_cons_zero, List.setIfInBounds_toArray, List.set_cons_zero, List.set_cons_succ]
          refine wpAnyH_take (i := 13) (v := undef) rfl (by kernel_rfl) (by kernel_rfl) (by kernel_rfl) (fun _ _ _ h => h) (Or.inr ⟨by rfl, rfl⟩) (by assumption) ?_
          try simp only [Act.put, List.getElem_toArray, List.getElem_cons_succ, List.getElem_cons_zero, List.setIfInBounds_toArray, List.set_cons_zero, List.set_cons_succ]
          refine wpAnyH_take (i := 14) (v := .bool false) rfl (by kernel_rfl) (by kernel_rfl) (by kernel_rfl) (fun _ _ _ h => h) (Or.inl ⟨by rfl, fun w hSw => by go_simp⟩) (by assumption) ?_
          try simp only [Act.put, List.getElem_toArray, List.getElem_cons_succ, List.getElem_cons_zero, List.setIfInBounds_toArray, List.set_cons_zero, List.set_cons_succ]
          refine wpAnyH_take (i := 15) (v := .bool false) rfl (by kernel_rfl) (by kernel_rfl) (by kernel_rfl) (fun _ _ _ h => h) (Or.inl ⟨by rfl, fun w hSw => by go_simp⟩) (by assumption) ?_
          try simp only [Act.put, List.getElem_toArray, List.getElem_cons_succ, List.getElem_cons_zero, List.setIfInBounds_toArray, List.set_cons_zero, List.set_cons_succ]
          refine wpAnyH_take (i := 16) (v := .bool false) rfl (by kernel_rfl) (by kernel_rfl) (by kernel_rfl) (fun _ _ _ h => h) (Or.inl ⟨by rfl, fun w hSw => by go_simp⟩) (by assumption) ?_
          try simp only [Act.put, List.getElem_toArray, List.getElem_cons_succ, List.getElem_cons_zero, List.setIfInBounds_toArray, List.set_cons_zero, List.set_cons_succ]
          refine wpAnyH_take (i := 17) (v := .pointer (some ⟨s, 0, none⟩)) rfl (by kernel_rfl) (by kernel_rfl) (by kernel_rfl) (fun _ _ _ h => h) (Or.inl ⟨by rfl, fun w hSw => by go_simp⟩) (by assumption) ?_
          try simp only [Act.put, List.getElem_toArray, List.getElem_cons_succ, List.getElem_cons_zero, List.setIfInBounds_toArray, List.set_cons_zero, List.set_cons_succ]
          refine wpAnyH_take (i := 18) (v := .agg #[.slice v0a v0b v0c, .slice v1a v1b v1c, .slice v2a v2b v2c, .slice v3a v3b v3c, .slice (some ⟨fb, foff, none⟩) FN fc, .int .i64 mn]) rfl (by kernel_rfl) (by kernel_rfl) (by kernel_rfl) (fun _ _ _ h => h) (Or.inl ⟨by rfl, fun w hSw => by obtain ⟨c0, c1, c2, c3, c4, c5⟩ := unhide MBY w hSw; go_simp⟩) (by assumption) ?_
          try simp only [Act.put, List.getElem_toArray, List.getElem_cons_succ, List.getElem_cons_zero, List.setIfInBounds_toArray, List.set_cons_zero, List.set_cons_succ]
          refine wpAnyH_take (i := 20) (v := .bool false) rfl (by kernel_rfl) (by kernel_rfl) (by kernel_rfl) (fun _ _ _ h => h) (Or.inl ⟨by rfl, fun w hSw => by go_simp⟩) (by assumption) ?_
          try simp only [Act.put, List.getElem_toArray, List.getElem_cons_succ, List.getElem_cons_zero, List.setIfInBounds_toArray, List.set_cons_zero, List.set_cons_succ]
          refine wpAnyH_ready (rs := [19]) (by kernel_rfl) (by simp) ?_
          refine AllReadyH.cons rfl (fun K hK => ?_) AllReadyH.nil
          go_simp
          refine (unhide PT2 y4 (unhide GYW y4 hHeld)).mono ?_
          rintro e y5 ⟨rfl, gy5⟩
          go_wp2_with fail
          have hgy5 := hHeld.trans gy5
          refine hK.out _ _ hgy5 (fun hHy5 => ?_)
          clear hK K
          try simp only [Act.put, List.getElem_toArray, List.getElem_cons_succ, List.getElem_cons_zero, List.setIfInBounds_toArray, List.set_cons_zero, List.set_cons_succ]
          refine wpAnyH_take (i := 21) (v := .bool false) rfl (by kernel_rfl) (by kernel_rfl) (by kernel_rfl) (fun _ _ _ h => h) (Or.inl ⟨by rfl, fun w hSw => by go_simp⟩) (by assumption) ?_
          try simp only [Act.put, List.getElem_toArray, List.getElem_cons_succ, List.getElem_cons_zero, List.setIfInBounds_toArray, List.set_cons_zero, List.set_cons_succ]
          refine wpAnyH_take (i := 22) (v := undef) rfl (by kernel_rfl) (by kernel_rfl) (by kernel_rfl) (fun _ _ _ h => h) (Or.inr ⟨by rfl, rfl⟩) (by assumption) ?_
          try simp only [Act.put, List.getElem_toArray, List.getElem_cons_succ, List.getElem_cons_zero, List.setIfInBounds_toArray, List.set_cons_zero, List.set_cons_succ]
          refine wpAnyH_take (i := 23) (v := undef) rfl (by kernel_rfl) (by kernel_rfl) (by kernel_rfl) (fun _ _ _ h => h) (Or.inr ⟨by rfl, rfl⟩) (by assumption) ?_
          try simp only [Act.put, List.getElem_toArray, List.getElem_cons_succ, List.getElem_cons_zero, List.setIfInBounds_toArray, List.set_cons_zero, List.set_cons_succ]
          refine wpAnyH_take (i := 24) (v := undef) rfl (by kernel_rfl) (by kernel_rfl) (by kernel_rfl) (fun _ _ _ h => h) (Or.inr ⟨by rfl, rfl⟩) (by assumption) ?_
          try simp only [Act.put, List.getElem_toArray, List.getElem_cons_succ, List.getElem_cons_zero, List.setIfInBounds_toArray, List.set_cons_zero, List.set_cons_succ]
          refine wpAnyH_take (i := 25) (v := .bool false) rfl (by kernel_rfl) (by kernel_rfl) (by kernel_rfl) (fun _ _ _ h => h) (Or.inl ⟨by rfl, fun w hSw => by go_simp⟩) (by assumption) ?_
          try simp only [Act.put, List.getElem_toArray, List.getElem_cons_succ, List.getElem_cons_zero, List.setIfInBounds_toArray, List.set_cons_zero, List.set_cons_succ]
          refine wpAnyH_take (i := 26) (v := .bool false) rfl (by kernel_rfl) (by kernel_rfl) (by kernel_rfl) (fun _ _ _ h => h) (Or.inl ⟨by rfl, fun w hSw => by go_simp⟩) (by assumption) ?_
          try simp only [Act.put, List.getElem_toArray, List.getElem_cons_succ, List.getElem_cons_zero, List.setIfInBounds_toArray, List.set_cons_zero, List.set_cons_succ]
          refine wpAnyH_take (i := 27) (v := .bool false) rfl (by kernel_rfl) (by kernel_rfl) (by kernel_rfl) (fun _ _ _ h => h) (Or.inl ⟨by rfl, fun w hSw => by go_simp⟩) (by assumption) ?_
          try simp only [Act.put, List.getElem_toArray, List.getElem_cons_succ, List.getElem_cons_zero, List.setIfInBounds_toArray, List.set_cons_zero, List.set_cons_succ]
          refine wpAnyH_take (i := 28) (v := .bool false) rfl (by kernel_rfl) (by kernel_rfl) (by kernel_rfl) (fun _ _ _ h => h) (Or.inl ⟨by rfl, fun w hSw => by go_simp⟩) (by assumption) ?_
          try simp only [Act.put, List.getElem_toArray, List.getElem_cons_succ, List.getElem_cons_zero, List.setIfInBounds_toArray, List.set_cons_zero, List.set_cons_succ]
          refine wpAnyH_take (i := 29) (v := .pointer (some ⟨x2.heap.size, 1, none⟩)) rfl (by kernel_rfl) (by kernel_rfl) (by kernel_rfl) (fun _ _ _ h => h) (Or.inl ⟨by rfl, fun w hSw => by go_simp⟩) (by assumption) ?_
          try simp only [Act.put, List.getElem_toArray, List.getElem_cons_succ, List.getElem_cons_zero, List.setIfInBounds_toArray, List.set_cons_zero, List.set_cons_succ]
          refine wpAnyH_take (i := 30) (v := .int .i64 tpc) rfl (by kernel_rfl) (by kernel_rfl) (by kernel_rfl) (fun _ _ _ h => h) (Or.inl ⟨by rfl, fun w hSw => by have c0 := unhide TBY w hSw; go_simp⟩) (by assumption) ?_
          try simp only [Act.put, List.getElem_toArray, List.getElem_cons_succ, List.getElem_cons_zero, List.setIfInBounds_toArray, List.set_cons_zero, List.set_cons_succ]
          refine wpAnyH_take (i := 31) (v := .pointer (some ⟨y2.heap.size, 1, none⟩)) rfl (by kernel_rfl) (by kernel_rfl) (by kernel_rfl) (fun _ _ _ h => h) (Or.inl ⟨by rfl, fun w hSw => by go_simp⟩) (by assumption) ?_
          try simp only [Act.put, List.getElem_toArray, List.getElem_cons_succ, List.getElem_cons_zero, List.setIfInBounds_toArray, List.set_cons_zero, List.set_cons_succ]
          refine wpAnyH_take (i := 32) (v := .int .i64 tpc) rfl (by kernel_rfl) (by kernel_rfl) (by kernel_rfl) (fun _ _ _ h => h) (Or.inl ⟨by rfl, fun w hSw => by have c0 := unhide T1Y w hSw; go_simp⟩) (by assumption) ?_
          try simp only [Act.put, List.getElem_toArray, List.getElem_cons_succ, List.getElem_cons_zero, List.setIfInBounds_toArray, List.set_cons_zero, List.set_cons_succ]
          refine wpAnyH_take (i := 33) (v := .bool false) rfl (by kernel_rfl) (by kernel_rfl) (by kernel_rfl) (fun _ _ _ h => h) (Or.inl ⟨by rfl, fun w hSw => by go_simp⟩) (by assumption) ?_
          try simp only [Act.put, List.getElem_toArray, List.getElem_cons_succ, List.getElem_cons_zero, List.setIfInBounds_toArray, List.set_cons_zero, List.set_cons_succ]
          refine wpAnyH_take (i := 34) (v := .bool false) rfl (by kernel_rfl) (by kernel_rfl) (by kernel_rfl) (fun _ _ _ h => h) (Or.inl ⟨by rfl, fun w hSw => by go_simp⟩) (by assumption) ?_
          try simp only [Act.put, List.getElem_toArray, List.getElem_cons_succ, List.getElem_cons_zero, List.setIfInBounds_toArray, List.set_cons_zero, List.set_cons_succ]
          refine wpAnyH_done (by kernel_rfl) (NoPanic.normal ?_) _
          go_wp2_with fail
          go_meet
          case rel => exact ⟨rfl, hide ((unhide gZY).trans hgy5)⟩
        case rest =>
          obtain ⟨rfl, HZc⟩ := hcut
          clear IB PT2 F5Y T1Y MBY TBY
          as_aux_lemma =>
          obtain ⟨E, hE⟩ : ∃ E : Int, E = (N : Int) + 1 := ⟨_, rfl⟩
          have hNw : wrap64 ((N : Int) + 1) = E := by rw [hE]; unfold wrap64; omega
          have HB := hide (show (N : Int) ≤ 64 ∧ E = (N : Int) + 1 from ⟨by omega, hE⟩)
          clear hE hN hNi hj hwn hni hn 
          go_wp2_with fail
          go_loopw [19, 20] (fun i _ wr => ∃ z : Int, i = .int .i64 z ∧ Hid ((-1 ≤ z ∧ z ≤ E) ∧ G Z wr)) (fun i _ _ => (E - intOf i).toNat)
          case atStart => exact ⟨-1, rfl, hide ⟨by have := unhide HB; omega, unhide HZc⟩⟩
          case round =>
            obtain ⟨z, rfl, HZ⟩ := hrel
            obtain ⟨_, t2, _, _, _, _, _, _, _, _, hslot⟩ := unhide FB wr (unhide HZ).2
            replace hslot := hide hslot
            have GWX := hide ((unhide G1).trans ((unhide GY2).trans ((unhide gZ).trans (unhide HZ).2)))
            by_cases hzl : z < E
            · have hc1 : decide (z < E) = true := by simpa using hzl
              by_cases hza : z < 0
              · as_aux_lemma =>
                obtain rfl : z = -1 := by have := unhide HZ; omega
                have GA : Hid (Calls Tryd.prog 12 #[.pointer (some ⟨s, 0, none⟩), .int .i64 (-1)] wr fun e w' => e = .returned (.int .i64 0) ∧ G wr w') := hide (unhide GT wr (-1) (unhide GWX))
                have hzl' := hide hzl
                clear hslot GT FB hzl hza
                go_wp2_with fail
                refine (unhide GA).mono ?_
                rintro e w9 ⟨rfl, g9⟩
                have G9 := hide ((unhide HZ).2.trans g9)
                clear GA g9
                go_wp2_with fail
                go_roundw
                case rel => exact ⟨0, rfl, hide ⟨by have := unhide HB; omega, unhide G9⟩⟩
                case measure => simp only [intOf]; have := unhide hzl'; omega
              · obtain ⟨q, rfl⟩ : ∃ q : Nat, z = q := ⟨z.toNat, by omega⟩
                have hzw : wrap64 ((q : Int) + 1) = ((q + 1 : Nat) : Int) := by have := unhide HB; have := unhide HZ; unfold wrap64; omega
                by_cases hzb : q < N
                · as_aux_lemma =>
                  obtain ⟨y, hy⟩ : ∃ y, tsl[q]? = some y := ⟨_, List.getElem?_eq_getElem (by rw [unhide hsl]; exact hzb)⟩
                  have dy := unhide hslot q y hy
                  have GA : Hid (Calls Tryd.prog 12 #[.pointer (some ⟨s, 0, none⟩), .int .i64 (q : Int)] wr fun e w' => e = .returned (.int .i64 y) ∧ G wr w') := hide ((unhide GT wr (q : Int) (unhide GWX)).mono (by
                    rintro e w' ⟨rfl, g⟩
                    rw [if_neg hza, Int.toNat_natCast, hy]
                    exact ⟨rfl, g⟩))
                  have hd2 : (q : Int) < (N : Int) := by omega
                  have hzl' := hide (show (q : Int) < E from hzl)
                  clear hslot GT FB hy hzl hza
                  go_wp2_with fail
                  refine (unhide GA).mono ?_
                  rintro e w9 ⟨rfl, g9⟩
                  have G9 := hide ((unhide HZ).2.trans g9)
                  clear GA g9
                  go_wp2_with fail
                  go_roundw
                  case rel => exact ⟨((q + 1 : Nat) : Int), by rw [hzw], hide ⟨by have := unhide hzl'; omega, unhide G9⟩⟩
                  case measure => rw [hzw]; simp only [intOf]; have := unhide hzl'; omega
                · as_aux_lemma =>
                  have GA : Hid (Calls Tryd.prog 12 #[.pointer (some ⟨s, 0, none⟩), .int .i64 (q : Int)] wr fun e w' => e = .returned (.int .i64 0) ∧ G wr w') := hide ((unhide GT wr (q : Int) (unhide GWX)).mono (by
                    rintro e w' ⟨rfl, g⟩
                    rw [if_neg hza, Int.toNat_natCast, List.getElem?_eq_none (by rw [unhide hsl]; exact Nat.le_of_not_lt hzb)]
                    exact ⟨rfl, g⟩))
                  have hd2 : decide ((q : Int) < (N : Int)) = false := by simp; exact Nat.le_of_not_lt hzb
                  have hd3 : decide (q < N) = false := by simpa using hzb
                  have hzl' := hide (show (q : Int) < E from hzl)
                  clear hslot GT FB hzl hza hzb
                  go_wp2_with fail
                  refine (unhide GA).mono ?_
                  rintro e w9 ⟨rfl, g9⟩
                  have G9 := hide ((unhide HZ).2.trans g9)
                  clear GA g9
                  go_wp2_with fail
                  go_roundw
                  case rel => exact ⟨((q + 1 : Nat) : Int), by rw [hzw], hide ⟨by have := unhide hzl'; omega, unhide G9⟩⟩
                  case measure => rw [hzw]; simp only [intOf]; have := unhide hzl'; omega
            · have hc1 : decide (z < E) = false := by simpa using hzl
              have GE := hide ((unhide GW).trans (unhide GWX))
              clear hslot GT FB hzl
              go_wp2_with fail
              go_ret
              exact ⟨rfl, unhide GE⟩
end Go.Proofs.YtnfeommkbocgpaaDoor
