/- ArenaApart of package gantlinelaw4: for every list of numbers and every v the law answers true; nothing that was there is turned. -/
import Derived.Test.YtcoeaknaljoonaaDoorApartRows
import Derived.Deep.Cut
namespace Go.Proofs.YtcoeaknaljoonaaDoor
open Go.ChangeShapes Go.WideShapes Go.ChangeAt Go.RowKit

set_option maxHeartbeats 1000000 in
set_option maxRecDepth 100000 in
theorem apart_out (w : World) (ht : Hid (Tab w)) (lo : Option Addr) (n cl : Nat) (v : Int) (h : decide (100 < (n : Int)) = true) :
    Calls Tryd.prog 5 #[.slice lo n cl, .int .i64 v] w fun e w' => e = .returned (.bool true) ∧ Below w.heap.size w w' := by
  have C := hide (awake_true w (unhide ht))
  go_enter Tryd.func5, Tryd.ntmps5
  go_wp2_with fail
  refine (unhide C).mono ?_
  rintro e w1 ⟨rfl, g⟩
  have hb : Hid (Below w.heap.size w w1) := g
  clear g C
  go_wp2_with fail
  go_ret
  exact ⟨rfl, unhide hb⟩

set_option maxHeartbeats 1000000 in
set_option maxRecDepth 100000 in
theorem apart_walk (w : World) (ht : Hid (Tab w)) (lo : Option Addr) (n cl : Nat) (zs : List Int) (v : Int) (hn : n ≤ 100) (A1 : Hid (IsInts w lo n zs)) :
    Calls Tryd.prog 5 #[.slice lo n cl, .int .i64 v] w fun e w' => e = .returned (.bool true) ∧ Below w.heap.size w w' := by
  have C := hide (awake_true w (unhide ht))
  have h1 : decide (100 < (n : Int)) = false := by simp; omega
  obtain ⟨i0, hi0, hz0, hz1, hz2⟩ := info_parts info_int64
  obtain ⟨i1, hj0, hy0, hy1, hy2⟩ := info_parts info_int
  go_enter Tryd.func5, Tryd.ntmps5
  go_wp2_with fail
  refine (unhide C).mono ?_
  rintro e w1 ⟨rfl, g⟩
  have hb : Hid (Below w.heap.size w w1) := g
  clear g C
  go_wp2_with fail
  refine (st_make8 hb ht).mono ?_
  rintro e w1 ⟨d, rfl, S, _, _, _, _⟩
  have R0 : Hid (Q1 w w1 d v none 0 [] none 0 []) := hide ⟨_, ⟨S, RowI.nil _ _ _, RowI.nil _ _ _, (fun x hx => by cases hx), (fun x hx => by cases hx), (fun x y hx => by cases hx)⟩, ap_nil _ v⟩
  clear hb S
  go_wp2_with fail
  go_loopw [7, 8, 9] (fun u t i wr => ∃ (j : Nat) (ao : Option Addr) (ca : Nat) (xs : List Int) (bo : Option Addr) (cb : Nat) (ys : List Int) (m m2 : Nat), j ≤ n ∧ m ≤ j ∧ u = .slice ao m ca ∧ t = .slice bo m2 cb ∧ i = .int .i64 j ∧ Hid (m = xs.length ∧ m2 = ys.length ∧ Q1 w wr d v ao ca xs bo cb ys)) (fun _ _ i _ => n - (intOf i).toNat)
  case atStart => exact ⟨0, none, 0, [], none, 0, [], 0, 0, Nat.zero_le _, Nat.le_refl _, rfl, rfl, rfl, hide ⟨rfl, rfl, unhide R0⟩⟩
  case round =>
    obtain ⟨j, ao, ca, xs, bo, cb, ys, m, m2, hj, hmj, rfl, rfl, rfl, R⟩ := hrel
    clear R0
    by_cases hjn : j = n
    · subst hjn
      obtain ⟨hm, hm2, q⟩ := unhide R
      have hmm : m2 = m := by obtain ⟨a, _, p⟩ := q; have := p.len; omega
      subst hmm
      have R1 := hide q
      replace hm := hide hm
      clear q R hm2
      go_wp2_with fail
      go_loopw [18] (fun i wr => ∃ k : Nat, k ≤ m2 ∧ i = .int .i64 k ∧ Hid (Q1 w wr d v ao ca xs bo cb ys)) (fun i _ => m2 - (intOf i).toNat)
      case atStart => exact ⟨0, Nat.zero_le _, rfl, R1⟩
      case round =>
        obtain ⟨k, hk, rfl, R⟩ := hrel
        clear R1
        by_cases hkm : k = m2
        · subst hkm
          go_wp2_with fail
          go_ret
          exact ⟨rfl, Q1.below (unhide R)⟩
        · have hkl : (k : Int) < (m2 : Int) := by omega
          obtain ⟨x, nn, g, g2, hx, hnn, n64, n0, rfl, rfl, _, _⟩ := Q1.get (unhide R) (show k < xs.length by have := unhide hm; omega)
          obtain ⟨p, rfl⟩ := Int.eq_ofNat_of_zero_le n0
          replace hx := hide hx
          replace hnn := hide hnn
          obtain ⟨y, hy⟩ : ∃ y, bits .xor .i64 (k : Int) v = y := ⟨_, rfl⟩
          have hyv : Hid (xv v k = y) := hy
          go_wp2_with fail
          go_loopw [19] (fun i wr => ∃ q : Nat, q ≤ p ∧ i = .int .i64 q ∧ Hid (Q1 w wr d v (some ⟨g, 0, none⟩) ca xs (some ⟨g2, 0, none⟩) cb ys)) (fun i _ => p - (intOf i).toNat)
          case atStart => exact ⟨0, Nat.zero_le _, rfl, R⟩
          case round =>
            obtain ⟨q, hq, rfl, R2⟩ := hrel
            clear R
            obtain ⟨x', nn', g', g2', hx', hnn', _, _, eg, eg2, c1, c2⟩ := Q1.get (unhide R2) (show k < xs.length by have := unhide hm; omega)
            have e1 : x' = x := by rw [unhide hx] at hx'; exact (Option.some.inj hx').symm
            have e2 : nn' = (p : Int) := by rw [unhide hnn] at hnn'; exact (Option.some.inj hnn').symm
            have e3 : g' = g := by injection eg with eg; injection eg with eg; exact eg.symm
            have e4 : g2' = g2 := by injection eg2 with eg; injection eg with eg; exact eg.symm
            subst e1 e2 e3 e4
            clear hx' hnn' eg eg2
            by_cases hqp : q = p
            · subst hqp
              go_wp2_with fail
              go_roundw
              case rel => exact ⟨k + 1, by omega, by go_num, R2⟩
              case measure => simp [intOf]; omega
            · have hql : (q : Int) < (p : Int) := by omega
              have CR := hide (q_last R2 (unhide hx) (unhide hnn) hql)
              rw [unhide hyv] at CR
              clear R2
              have hyy : (y != y) = false := by simp
              go_wp2_with fail
              refine (unhide CR).mono ?_
              rintro e w5 ⟨rfl, R5⟩
              replace R5 := hide R5
              clear CR
              go_wp2_with fail
              go_roundw
              case rel => exact ⟨q + 1, by omega, by go_num, R5⟩
              case measure => simp [intOf]; omega
    · have hjl : (j : Int) < (n : Int) := by omega
      have hjn' : j < n := by omega
      obtain ⟨hm, hm2, q⟩ := unhide R
      have R1 := hide q
      obtain ⟨z, b, off, rfl, hbk, c0⟩ := (unhide A1).at_ (Q1.below q) hjn'
      replace hm := hide hm
      replace hm2 := hide hm2
      clear q R
      obtain ⟨r, hr, hr0, hr7⟩ : ∃ r : Int, bits .and .i64 z 7 = r ∧ 0 ≤ r ∧ r ≤ 7 := ⟨_, and7 z, by omega, by omega⟩
      obtain ⟨t, htt, ht0, ht7⟩ : ∃ t : Int, bits .and .i64 (z / 8) 7 = t ∧ 0 ≤ t ∧ t ≤ 7 := ⟨_, and7 (z / 8), by omega, by omega⟩
      by_cases hs : 7 < 1 + r
      · have hd : decide (7 < 1 + r) = true := by simpa using hs
        go_wp2_with fail
        go_roundw
        case rel => exact ⟨j + 1, ao, ca, xs, bo, cb, ys, m, m2, by omega, by omega, rfl, rfl, by go_num, hide ⟨unhide hm, unhide hm2, unhide R1⟩⟩
        case measure => simp [intOf]; omega
      have hd : decide (7 < 1 + r) = false := by simpa using hs
      by_cases hc : 5 < t
      · have hd2 : decide (5 < t) = true := by simpa using hc
        go_wp2_with fail
        go_roundw
        case rel => exact ⟨j + 1, ao, ca, xs, bo, cb, ys, m, m2, by omega, by omega, rfl, rfl, by go_num, hide ⟨unhide hm, unhide hm2, unhide R1⟩⟩
        case measure => simp [intOf]; omega
      have hd2 : decide (5 < t) = false := by simpa using hc
      go_wp2_with fail
      refine (q_set R1 (1 + r) t).mono ?_
      rintro e w2 ⟨rs, rfl, R2⟩
      replace R2 := hide R2
      clear R1
      go_wp2_with fail
      refine (q_take R2 (1 + r)).mono ?_
      rintro e w3 ⟨x, qq, rfl, hq⟩
      clear R2
      rcases hq with ⟨hq1, R3⟩ | ⟨rfl, c, nn, hgw, hn64, R3, CC⟩
      · replace R3 := hide R3
        go_wp2_with fail
        go_roundw
        case rel => exact ⟨j + 1, ao, ca, xs, bo, cb, ys, m, m2, by omega, by omega, rfl, rfl, by go_num, hide ⟨unhide hm, unhide hm2, unhide R3⟩⟩
        case measure => simp [intOf]; omega
      · replace CC := hide (CC _ (G.refl _))
        have CW := hide (fun w1 => rwords_any c w1)
        rw [hgw] at CW
        replace hgw := hide hgw
        clear R3
        go_wp2_with fail
        refine (unhide CC).mono ?_
        rintro e w4 ⟨rfl, R4⟩
        replace R4 := hide R4
        clear CC
        go_wp2_with fail
        refine (unhide CW _).mono ?_
        rintro e w5 ⟨rfl, g5⟩
        have R5 : Hid (Q2 w w5 d v ao ca xs bo cb ys x nn 0) := by
          obtain ⟨a, y1, y2⟩ := unhide R4
          exact hide ⟨a, y1.gr g5, y2⟩
        clear R4 g5 CW
        obtain ⟨y, hy⟩ : ∃ y, bits .xor .i64 (m : Int) v = y := ⟨_, rfl⟩
        have hyv : Hid (xv v xs.length = y) := by rw [← unhide hm]; exact hy
        go_wp2_with fail
        go_loopw [15] (fun i wr => ∃ k : Nat, k ≤ nn ∧ i = .int .i64 k ∧ Hid (Q2 w wr d v ao ca xs bo cb ys x nn k)) (fun i _ => nn - (intOf i).toNat)
        case atStart => exact ⟨0, Nat.zero_le _, rfl, R5⟩
        case round =>
          obtain ⟨k, hk, rfl, R⟩ := hrel
          clear R5
          by_cases hkn : k = nn
          · subst hkn
            obtain ⟨o1, o2, o3, o4⟩ := Q2.rows (unhide R) (.cells #[.int .i64 x] 2)
            have HO : Hid ((wr.alloc (.cells #[.int .i64 x] 2)).ownsRow w.heap.size 2 1 (.slice ao m ca) m (xs.map fun x => .int .i64 x)) := by rw [unhide hm]; exact hide o1
            have HQ := hide o2
            have HS := hide o3
            clear o1 o2 o3 R
            have HN : Hid (∀ (i : Nat) u, [Value.int .i64 x][i]? = some u → (wr.alloc (.cells #[.int .i64 x] 2)).cell? ((⟨wr.heap.size, 0, none⟩ : Addr).add i) = some u) := hide fun i u hi => by
              rw [Addr.add_lit, Nat.zero_add, World.cell?_alloc_new]
              simpa using hi
            have H1 : Hid (∀ u ∈ [Value.int .i64 x], u.oneCell' = true) := hide fun u hu => by
              simp at hu
              rw [hu]
              rfl
            go_upto_region 27 with (at_builtin; refine wpl_append_at rfl (.tmp 102) (.tmp 104) 45 rfl w.heap.size 2 i0 (.int .i64 0) 1 8 Tryd.underlying45 hi0 hz0 hz1 hz2 rfl (by decide) ao m ca (xs.map fun x => .int .i64 x) rfl (unhide HO) ⟨wr.heap.size, 0, none⟩ 1 1 [.int .i64 x] rfl rfl (unhide HN) (unhide H1) (by decide) (by unfold maxLen; omega) (by omega) (unhide HS) ?_; intro g cap8 w7 hr8 hg8 hat8)
            have R7 : Hid (Q3 w w7 d v (some ⟨g, 0, none⟩) cap8 xs bo cb ys x (k : Int)) := by
              rw [unhide hm] at hr8 hg8
              exact hide (Q2.app (unhide HQ) hr8 hg8 hat8)
            clear hr8 hg8 hat8 HO HQ HS HN H1
            obtain ⟨o1, o2, o3⟩ := Q3.rows (unhide R7) (.cells #[.int .i64 (k : Int)] 3)
            have hmm : m2 = m := by have := unhide hm; have := unhide hm2; omega
            have HO : Hid ((w7.alloc (.cells #[.int .i64 (k : Int)] 3)).ownsRow w.heap.size 3 1 (.slice bo m2 cb) m2 (ys.map fun x => .int .i64 x)) := by rw [unhide hm2]; exact hide o1
            have HQ := hide o2
            have HS := hide o3
            clear o1 o2 o3 R7
            have HN : Hid (∀ (i : Nat) u, [Value.int .i64 (k : Int)][i]? = some u → (w7.alloc (.cells #[.int .i64 (k : Int)] 3)).cell? ((⟨w7.heap.size, 0, none⟩ : Addr).add i) = some u) := hide fun i u hi => by
              rw [Addr.add_lit, Nat.zero_add, World.cell?_alloc_new]
              simpa using hi
            have H1 : Hid (∀ u ∈ [Value.int .i64 (k : Int)], u.oneCell' = true) := hide fun u hu => by
              simp at hu
              rw [hu]
              rfl
            have hm2j : m2 ≤ 100 := by omega
            replace hmm := hide hmm
            go_wp2_with (at_builtin; refine wpl_append_at rfl (.tmp 106) (.tmp 108) 39 rfl w.heap.size 3 i1 (.int .i64 0) 1 8 Tryd.underlying39 hj0 hy0 hy1 hy2 rfl (by decide) bo m2 cb (ys.map fun x => .int .i64 x) rfl (unhide HO) ⟨w7.heap.size, 0, none⟩ 1 1 [.int .i64 (k : Int)] rfl rfl (unhide HN) (unhide H1) (by decide) (by unfold maxLen; omega) (by omega) (unhide HS) ?_; intro g9 cap9 w9 hr9 hg9 hat9)
            have R9 : Hid (Q1 w w9 d v (some ⟨g, 0, none⟩) cap8 (xs ++ [x]) (some ⟨g9, 0, none⟩) cap9 (ys ++ [(k : Int)])) := by
              rw [unhide hm2] at hr9 hg9
              exact hide (Q3.app (unhide HQ) hr9 hg9 hat9)
            clear hr9 hg9 hat9 HO HQ HS HN H1
            go_wp2_with fail
            go_roundw
            case rel => exact ⟨j + 1, some ⟨g, 0, none⟩, cap8, xs ++ [x], some ⟨g9, 0, none⟩, cap9, ys ++ [(k : Int)], m + 1, m2 + 1, by omega, by omega, rfl, rfl, by go_num, hide ⟨by rw [List.length_append, ← unhide hm]; rfl, by rw [List.length_append, ← unhide hm2]; rfl, unhide R9⟩⟩
            case measure => simp [intOf]; omega
          · have hkl : (k : Int) < (nn : Int) := by omega
            have hkn' : k < nn := by omega
            go_wp2_with fail
            refine (q_read R hkn').mono ?_
            rintro e w6 ⟨rfl, R6⟩
            have CQ := hide (q_write (y := y) (hide R6) hkn' (unhide hyv))
            clear R R6
            go_wp2_with fail
            refine (unhide CQ).mono ?_
            rintro e w7 ⟨rfl, R7⟩
            replace R7 := hide R7
            clear CQ
            go_wp2_with fail
            go_roundw
            case rel => exact ⟨k + 1, by omega, by go_num, R7⟩
            case measure => simp [intOf]; omega
end Go.Proofs.YtcoeaknaljoonaaDoor
