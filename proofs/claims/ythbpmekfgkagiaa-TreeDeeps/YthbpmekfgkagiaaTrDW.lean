/- Package gantlinelaw20: TreeDeeps answers true. -/
import Derived.Test.YthbpmekfgkagiaaTrD
namespace Go.Proofs.Ythbpmekfgkagiaa
set_option maxRecDepth 100000
open Go.RowKit Go.Maps Go.ChangeShapes Go.WideShapes Go.ChangeAt Go.Deep

theorem cat5 (sg s : ByteArray) : ((((ByteArray.mk #[40] ++ sg) ++ ByteArray.mk #[32]) ++ s) ++ ByteArray.mk #[41]).data.toList = wrapL sg.data.toList s.data.toList := by
  simp [wrapL, ByteArray.data_append]
set_option maxHeartbeats 8000000 in
theorem deeps20 (w : World) (a : Int) (sg : ByteArray) (_oa : -9223372036854775808 ≤ a ∧ a ≤ 9223372036854775807) : Calls Try.prog 5 #[.int .i64 a, .string sg] w fun e w' => e = .returned (.bool true) ∧ G w w' := by
  have CA := hide awake20
  by_cases hr : a < 0 ∨ 400 < a ∨ 5 < sg.size
  · by_cases h0 : a < 0
    · clear hr
      go_enter Try.func5, Try.ntmps5
      go_wp2_with fail
      refine (unhide CA _).mono ?_
      rintro e w1 ⟨rfl, g1⟩
      replace g1 := hide g1
      go_wp2_with fail
      go_ret
      exact ⟨rfl, unhide g1⟩
    · by_cases h1 : 400 < a
      · clear hr
        go_enter Try.func5, Try.ntmps5
        go_wp2_with fail
        refine (unhide CA _).mono ?_
        rintro e w1 ⟨rfl, g1⟩
        replace g1 := hide g1
        go_wp2_with fail
        go_ret
        exact ⟨rfl, unhide g1⟩
      · have h2 : 5 < sg.size := by omega
        have h2' : (5 : Int) < (sg.size : Int) := by omega
        clear hr
        go_enter Try.func5, Try.ntmps5
        go_wp2_with fail
        refine (unhide CA _).mono ?_
        rintro e w1 ⟨rfl, g1⟩
        replace g1 := hide g1
        go_wp2_with fail
        go_ret
        exact ⟨rfl, unhide g1⟩
  · obtain ⟨n, rfl⟩ : ∃ n : Nat, a = (n : Int) := ⟨a.toNat, by omega⟩
    have hn : n ≤ 400 := by omega
    have hsg : sg.size ≤ 5 := by omega
    have d0 : ¬ ((n : Int) < 0) := by omega
    have d1 : ¬ (400 < (n : Int)) := by omega
    have d2 : ¬ ((5 : Int) < (sg.size : Int)) := by omega
    have d3 : ¬ (5 < sg.size) := by omega
    clear hr
    have b1 := bn_1
    have bc := bn_c sg
    replace hsg := hide hsg
    go_enter Try.func5, Try.ntmps5
    go_wp2_with fail
    refine (unhide CA _).mono ?_
    rintro e w1 ⟨rfl, g1⟩
    clear CA
    go_upto_region 6 with fail
    obtain ⟨W1, hW1⟩ : ∃ W, W = w1.alloc (.cells #[.string kNum, .string sOne, .int .i64 0, .slice none 0 0] 26) := ⟨_, rfl⟩
    have st : Hid (DL w w1.heap.size sg 0 W1) := hide ⟨by rw [hW1]; exact g1.more _, g1.size, .slice none 0 0, by rw [hW1]; exact heap_alloc_new w1 _, none, 0, rfl⟩
    rw [← hW1]
    clear hW1 g1 d0 d1 d2 d3
    generalize w1.heap.size = tb at *
    go_wp2_with fail
    go_loopw [6] (fun i wr => ∃ q : Nat, q ≤ n ∧ i = .int .i64 (q : Int) ∧ Hid (DL w tb sg q wr)) (fun i _ => n - (intOf i).toNat)
    case atStart => exact ⟨0, Nat.zero_le _, rfl, st⟩
    case round =>
      obtain ⟨q, hq, rfl, hh⟩ := hrel
      clear st
      by_cases hlt : q < n
      · obtain ⟨-, -, kv, hb, hc⟩ := unhide hh
        have S := hide (dl_step (unhide hh) hb hc)
        obtain ⟨ao, m, c, rfl⟩ := hc.sl
        have c0 : wr.cell? ⟨tb, 0, none⟩ = some (.string (chainT sg q).k) := by rw [Lib.cell_of_heap hb]; rfl
        have c1 : wr.cell? ⟨tb, 1, none⟩ = some (.string (chainT sg q).x) := by rw [Lib.cell_of_heap hb]; rfl
        have c2 : wr.cell? ⟨tb, 2, none⟩ = some (.int .i64 (chainT sg q).a) := by rw [Lib.cell_of_heap hb]; rfl
        have c3 : wr.cell? ⟨tb, 3, none⟩ = some (.slice ao m c) := by rw [Lib.cell_of_heap hb]; rfl
        have ga := G.alloc wr (.cells (ndL (chainT sg q).k (chainT sg q).x (chainT sg q).a (.slice ao m c)) 26)
        have f : ∀ j, (wr.alloc (.cells (ndL (chainT sg q).k (chainT sg q).x (chainT sg q).a (.slice ao m c)) 26)).frozen? ⟨tb, j, none⟩ = false := fun j => Lib.frozen_of_heap ((ga.block tb (unhide hh).lt).trans hb) j
        have f0 := f 0
        have f1 := f 1
        have f2 := f 2
        have f3 := f 3
        have e0 := ga.cell c0
        have e1 := ga.cell c1
        have e2 := ga.cell c2
        have e3 := ga.cell c3
        clear hb hc ga f hh
        generalize (chainT sg q).k = ck at *
        generalize (chainT sg q).x = cx at *
        generalize (chainT sg q).a = ca at *
        go_wp2_with fail
        go_roundw
        case rel => exact ⟨q + 1, by omega, by go_num, S⟩
        case measure => simp [intOf]; omega
      · obtain rfl : q = n := by omega
        obtain ⟨hg, -, kv, hb, hc⟩ := unhide hh
        have T := hc.tat
        have hlen : (shP 0 (chainT sg q)).length ≤ 140737488355328 := by
          rw [chain_sh sg q 0 (by omega), wrapN_len]
          have h5 : sg.data.toList.length ≤ 5 := by have := unhide hsg; exact this
          have hm : min q (200 - 0) ≤ 200 := by omega
          have hmul : min q (200 - 0) * (sg.data.toList.length + 3) ≤ 200 * 8 := Nat.mul_le_mul hm (by omega)
          have h1 : (if 200 - 0 ≤ q then ([] : List UInt8) else [49]).length ≤ 1 := by split <;> simp
          omega
        have SH := hide (show_any (chainT sg q) wr kv (chain_ok sg q) T hlen)
        have SZ : Hid (∀ y, G wr y → Calls Try.prog 8 #[.agg (ndL (chainT sg q).k (chainT sg q).x (chainT sg q).a kv)] y fun e w' => e = .returned (.int .i64 ((q : Int) + 1)) ∧ G y w') := hide fun y gy => by
          have := size_any (chainT sg q) y kv (TAt.gg T gy) (by rw [chain_sz]; omega)
          rw [chain_sz] at this
          exact this
        have SD : Hid (∀ y, G wr y → Calls Try.prog 9 #[.agg (ndL (chainT sg q).k (chainT sg q).x (chainT sg q).a kv)] y fun e w' => e = .returned (.int .i64 ((q : Int) + 1)) ∧ G y w') := hide fun y gy => by
          have := deep_any (chainT sg q) y kv (TAt.gg T gy) (by rw [chain_sz]; omega)
          rw [chain_dp] at this
          exact this
        obtain ⟨ao, m, c, rfl⟩ := hc.sl
        have c0 : wr.cell? ⟨tb, 0, none⟩ = some (.string (chainT sg q).k) := by rw [Lib.cell_of_heap hb]; rfl
        have c1 : wr.cell? ⟨tb, 1, none⟩ = some (.string (chainT sg q).x) := by rw [Lib.cell_of_heap hb]; rfl
        have c2 : wr.cell? ⟨tb, 2, none⟩ = some (.int .i64 (chainT sg q).a) := by rw [Lib.cell_of_heap hb]; rfl
        have c3 : wr.cell? ⟨tb, 3, none⟩ = some (.slice ao m c) := by rw [Lib.cell_of_heap hb]; rfl
        replace hg := hide hg
        replace SH := unhide SH
        clear hb hc T hh b1 bc hlen
        by_cases h200 : 200 ≤ q
        · have h200' : (200 : Int) ≤ (q : Int) := by omega
          have e2 : shP 0 (chainT sg q) = wrapN sg.data.toList [] 200 := by rw [chain_sh sg q 0 (by omega)]; rw [if_pos (by omega), show min q (200 - 0) = 200 by omega]
          rw [e2] at SH
          replace SH := hide SH
          clear e2
          generalize (chainT sg q).k = ck at *
          generalize (chainT sg q).x = cx at *
          generalize (chainT sg q).a = ca at *
          go_wp2_with fail
          go_loopw [7, 9] (fun z i y => ∃ (j : Nat) (s : ByteArray), j ≤ 200 ∧ i = .int .i64 (j : Int) ∧ z = .string s ∧ Hid (s.data.toList = wrapN sg.data.toList [] j) ∧ y = wr) (fun _ i _ => 200 - (intOf i).toNat)
          case atStart => exact ⟨0, ⟨#[]⟩, Nat.zero_le _, rfl, rfl, hide rfl, rfl⟩
          case round =>
            obtain ⟨j, s, hj, rfl, rfl, hs, rfl⟩ := hrel
            by_cases hlt : j < 200
            · have hsz : s.size ≤ 5000 := by
                have e3 : s.size = s.data.toList.length := Array.length_toList.symm
                have h5 : sg.data.toList.length ≤ 5 := by have := unhide hsg; exact this
                have hmul : j * (sg.data.toList.length + 3) ≤ 400 * 8 := Nat.mul_le_mul (by omega) (by omega)
                have h1 : ([] : List UInt8).length ≤ 1 := by simp
                rw [e3, unhide hs, wrapN_len]
                omega
              have h5' := unhide hsg
              have z1 : ¬ 9223372036854775807 < 1 + sg.size + 1 + s.size := by omega
              have z2 : ¬ 9223372036854775807 < 1 + sg.size + 1 + s.size + 1 := by omega
              clear SH SZ SD hsz h5'
              go_wp2_with fail
              go_roundw
              case rel => exact ⟨j + 1, _, by omega, by go_num, rfl, hide (by rw [cat5, unhide hs]; rfl), by first | trivial | rfl⟩
              case measure => simp [intOf]; omega
            · obtain rfl : j = 200 := by omega
              have hs2 : s = ⟨(wrapN sg.data.toList [] 200).toArray⟩ := by
                apply ByteArray.ext
                apply Array.ext'
                exact unhide hs
              subst hs2
              clear hs hlt
              generalize (ByteArray.mk (wrapN sg.data.toList [] 200).toArray) = sb at *
              have w1' : wrap64 ((q : Int) + 1) = (q : Int) + 1 := by unfold wrap64; omega
              go_wp2_with fail
              refine (unhide SH).mono ?_
              rintro e y1 ⟨rfl, g1⟩
              have c0' := g1.cell c0
              have c1' := g1.cell c1
              have c2' := g1.cell c2
              have c3' := g1.cell c3
              have hg1 := hide g1
              clear g1 SH c0 c1 c2 c3
              go_wp2_with fail
              refine (unhide SD _ (unhide hg1)).mono ?_
              rintro e y2 ⟨rfl, g2⟩
              have c0 := g2.cell c0'
              have c1 := g2.cell c1'
              have c2 := g2.cell c2'
              have c3 := g2.cell c3'
              have hg2 := hide ((unhide hg1).trans g2)
              clear g2 hg1 SD c0' c1' c2' c3'
              go_wp2_with fail
              refine (unhide SZ _ (unhide hg2)).mono ?_
              rintro e y3 ⟨rfl, g3⟩
              have hg3 := hide ((unhide hg).trans ((unhide hg2).trans g3))
              clear g3 hg2 SZ c0 c1 c2 c3 hg
              go_wp2_with fail
              go_ret
              exact ⟨rfl, unhide hg3⟩
        · have h200' : ¬ (200 : Int) ≤ (q : Int) := by omega
          have e2 : shP 0 (chainT sg q) = wrapN sg.data.toList [49] q := by rw [chain_sh sg q 0 (by omega)]; rw [if_neg (by omega), show min q (200 - 0) = q by omega]
          rw [e2] at SH
          replace SH := hide SH
          clear e2
          generalize (chainT sg q).k = ck at *
          generalize (chainT sg q).x = cx at *
          generalize (chainT sg q).a = ca at *
          go_wp2_with fail
          go_loopw [7, 9] (fun z i y => ∃ (j : Nat) (s : ByteArray), j ≤ q ∧ i = .int .i64 (j : Int) ∧ z = .string s ∧ Hid (s.data.toList = wrapN sg.data.toList [49] j) ∧ y = wr) (fun _ i _ => q - (intOf i).toNat)
          case atStart => exact ⟨0, ⟨#[49]⟩, Nat.zero_le _, rfl, rfl, hide rfl, rfl⟩
          case round =>
            obtain ⟨j, s, hj, rfl, rfl, hs, rfl⟩ := hrel
            by_cases hlt : j < q
            · have hsz : s.size ≤ 5000 := by
                have e3 : s.size = s.data.toList.length := Array.length_toList.symm
                have h5 : sg.data.toList.length ≤ 5 := by have := unhide hsg; exact this
                have hmul : j * (sg.data.toList.length + 3) ≤ 400 * 8 := Nat.mul_le_mul (by omega) (by omega)
                have h1 : ([49] : List UInt8).length ≤ 1 := by simp
                rw [e3, unhide hs, wrapN_len]
                omega
              have h5' := unhide hsg
              have z1 : ¬ 9223372036854775807 < 1 + sg.size + 1 + s.size := by omega
              have z2 : ¬ 9223372036854775807 < 1 + sg.size + 1 + s.size + 1 := by omega
              clear SH SZ SD hsz h5'
              go_wp2_with fail
              go_roundw
              case rel => exact ⟨j + 1, _, by omega, by go_num, rfl, hide (by rw [cat5, unhide hs]; rfl), by first | trivial | rfl⟩
              case measure => simp [intOf]; omega
            · obtain rfl : j = q := by omega
              have hs2 : s = ⟨(wrapN sg.data.toList [49] j).toArray⟩ := by
                apply ByteArray.ext
                apply Array.ext'
                exact unhide hs
              subst hs2
              clear hs hlt
              generalize (ByteArray.mk (wrapN sg.data.toList [49] j).toArray) = sb at *
              have w1' : wrap64 ((j : Int) + 1) = (j : Int) + 1 := by unfold wrap64; omega
              go_wp2_with fail
              refine (unhide SH).mono ?_
              rintro e y1 ⟨rfl, g1⟩
              have c0' := g1.cell c0
              have c1' := g1.cell c1
              have c2' := g1.cell c2
              have c3' := g1.cell c3
              have hg1 := hide g1
              clear g1 SH c0 c1 c2 c3
              go_wp2_with fail
              refine (unhide SD _ (unhide hg1)).mono ?_
              rintro e y2 ⟨rfl, g2⟩
              have c0 := g2.cell c0'
              have c1 := g2.cell c1'
              have c2 := g2.cell c2'
              have c3 := g2.cell c3'
              have hg2 := hide ((unhide hg1).trans g2)
              clear g2 hg1 SD c0' c1' c2' c3'
              go_wp2_with fail
              refine (unhide SZ _ (unhide hg2)).mono ?_
              rintro e y3 ⟨rfl, g3⟩
              have hg3 := hide ((unhide hg).trans ((unhide hg2).trans g3))
              clear g3 hg2 SZ c0 c1 c2 c3 hg
              go_wp2_with fail
              go_ret
              exact ⟨rfl, unhide hg3⟩
end Go.Proofs.Ythbpmekfgkagiaa
