/- ArenaSweeps of package gantlinelaw4: for every class, n, marks and v the law answers true; nothing that was there is turned. -/
import Derived.Test.YtcoeaknaljoonaaDoorRowsBeside
namespace Go.Proofs.YtcoeaknaljoonaaDoor
open Go.ChangeShapes Go.WideShapes Go.ChangeAt Go.RowKit

/-- A list of the first k addresses. -/
def atL (c : Int) (k : Nat) : List Int := (List.range k).map fun p : Nat => 64 + (p : Int) * gw c
theorem atL_len (c : Int) (k : Nat) : (atL c k).length = k := by simp [atL]
theorem atL_succ (c : Int) (k : Nat) : atL c (k + 1) = atL c k ++ [64 + (k : Int) * gw c] := by simp [atL, List.range_succ]
theorem atL_get (c : Int) {k p : Nat} (h : p < k) : (atL c k)[p]? = some (64 + (p : Int) * gw c) := by simp [atL, h]

theorem bit_and (marks q : Nat) (hm : marks < 18446744073709551616) : bits .and .u64 ((marks : Int) / 2 ^ q) 1 = if marks.testBit q = true then 1 else 0 := by
  have e : (marks : Int) / 2 ^ q = ((marks / 2 ^ q : Nat) : Int) := by simp
  have h3 := Nat.div_le_self marks (2 ^ q)
  have := u64_and_nat (marks / 2 ^ q) 1 (by omega) (by decide)
  rw [e, show ((1 : Int)) = ((1 : Nat) : Int) from rfl, this, Nat.and_one_is_mod]
  rw [Nat.testBit_eq_decide_div_mod_eq]
  by_cases h : marks / 2 ^ q % 2 = 1
  · rw [if_pos (by simpa using h), h]
  · rw [if_neg (by simpa using h)]; omega

/-- The first loop's state: i rounds are done. -/
def L1 (W w : World) (d : Ad) (c v : Int) (marks k : Nat) (ao : Option Addr) (cap : Nat) : Prop := ∃ a, Sr W w d a ao cap (atL c k) ∧ Sw a c k v 0 marks
/-- The second loop's state. -/
def L2 (W w : World) (d : Ad) (c v : Int) (marks k q : Nat) (ao : Option Addr) (cap : Nat) : Prop := ∃ a, Sr W w d a ao cap (atL c k) ∧ Sw a c k v q marks
/-- The third loop's state. -/
def L3 (W w : World) (d : Ad) (c v : Int) (marks k : Nat) (ao : Option Addr) (cap : Nat) : Prop := ∃ a, Sr W w d (a.sweepA 1) ao cap (atL c k) ∧ Sw a c k v k marks ∧ a.Good

theorem l1_take {W w : World} {d : Ad} {c v : Int} {marks k : Nat} {ao : Option Addr} {cap : Nat} (h0 : 0 ≤ c) (h5 : c ≤ 5) (hk : (k : Int) < gp c) (h : Hid (L1 W w d c v marks k ao cap)) :
    Calls Tryd.prog 10 #[.pointer (some ⟨d.ab, 0, none⟩), .int .i64 1] w fun e w' => e = .returned (.tuple #[.int .i64 (64 + k * gw c), .int .i64 0]) ∧ ∃ a, Sr W w' d (a.takeA 1) ao cap (atL c k) ∧ Sw a c k v 0 marks ∧ a.Good := by
  obtain ⟨a, h1, h2⟩ := unhide h
  obtain ⟨e1, e2, e3⟩ := h2.take h1.st.good h0 h5 hk
  refine (st_take (hide h1.st) 1).mono ?_
  rw [e1, e2]
  rintro e w' ⟨rfl, s, t⟩
  exact ⟨rfl, a, h1.tn s t, h2, h1.st.good⟩
theorem l1_write {W w : World} {d : Ad} {c v x : Int} {marks k : Nat} {ao : Option Addr} {cap : Nat} (h0 : 0 ≤ c) (h5 : c ≤ 5) (hk : (k : Int) < gp c) (hx : vx v k = x) (h : Hid (∃ a, Sr W w d (a.takeA 1) ao cap (atL c k) ∧ Sw a c k v 0 marks ∧ a.Good)) :
    Calls Tryd.prog 13 #[.pointer (some ⟨d.ab, 0, none⟩), .int .i64 (64 + k * gw c), .int .i64 0, .int .i64 x] w fun e w' => ∃ r, e = .returned (.int .i64 r) ∧ ∃ a, Sr W w' d a ao cap (atL c k) ∧ Sw a c (k + 1) v 0 marks := by
  subst hx
  obtain ⟨a, h1, h2, h3⟩ := unhide h
  obtain ⟨e1, e2, e3⟩ := h2.take h3 h0 h5 hk
  refine (st_write (hide h1.st) (64 + k * gw c) 0 (vx v k)).mono ?_
  rintro e w' ⟨rfl, s, t⟩
  exact ⟨_, rfl, _, h1.tn s t, e3⟩
theorem l1_full {W w : World} {d : Ad} {c v : Int} {marks k : Nat} {ao : Option Addr} {cap : Nat} (h0 : 0 ≤ c) (h5 : c ≤ 5) (hk : (k : Int) = gp c) (h : Hid (L1 W w d c v marks k ao cap)) :
    Calls Tryd.prog 10 #[.pointer (some ⟨d.ab, 0, none⟩), .int .i64 1] w fun e w' => e = .returned (.tuple #[.int .i64 0, .int .i64 5]) ∧ L1 W w' d c v marks k ao cap := by
  obtain ⟨a, h1, h2⟩ := unhide h
  obtain ⟨e1, e2, e3⟩ := h2.full h0 h5 hk
  refine (st_take (hide h1.st) 1).mono ?_
  rw [e1, e2, e3]
  rintro e w' ⟨rfl, s, t⟩
  exact ⟨rfl, a, h1.tn s t, h2⟩
theorem l2_mark {W w : World} {d : Ad} {c v : Int} {marks k q : Nat} {ao : Option Addr} {cap : Nat} (h0 : 0 ≤ c) (h5 : c ≤ 5) (hk : (k : Int) ≤ gp c) (hq : q < k) (hm : marks.testBit q = true) (h : Hid (L2 W w d c v marks k q ao cap)) :
    Calls Tryd.prog 15 #[.pointer (some ⟨d.ab, 0, none⟩), .int .i64 (64 + q * gw c)] w fun e w' => ∃ r, e = .returned (.bool r) ∧ L2 W w' d c v marks k (q + 1) ao cap := by
  obtain ⟨a, h1, h2⟩ := unhide h
  refine (st_mark (hide h1.st) (64 + q * gw c)).mono ?_
  rintro e w' ⟨rfl, s, t⟩
  exact ⟨_, rfl, _, h1.tn s t, h2.mark h1.st.good h0 h5 hk hq hm⟩
theorem l2_sweep {W w : World} {d : Ad} {c v : Int} {marks k : Nat} {ao : Option Addr} {cap : Nat} (hk : k ≤ 32) (h : Hid (L2 W w d c v marks k k ao cap)) :
    Calls Tryd.prog 16 #[.pointer (some ⟨d.ab, 0, none⟩), .int .i64 1] w fun e w' => e = .returned (.int .i64 ((k : Int) - (keptN marks k : Int))) ∧ L3 W w' d c v marks k ao cap := by
  obtain ⟨a, h1, h2⟩ := unhide h
  have hc := h2.count (by omega)
  have he : (a.sweepN 1 : Int) = (k : Int) - (keptN marks k : Int) := by omega
  refine (st_sweep (hide h1.st) 1).mono ?_
  rw [he]
  rintro e w' ⟨rfl, s, t⟩
  exact ⟨rfl, a, h1.tn s t, h2, h1.st.good⟩
theorem l3_class {W w : World} {d : Ad} {c v : Int} {marks k : Nat} {ao : Option Addr} {cap : Nat} (h0 : 0 ≤ c) (h : Hid (L3 W w d c v marks k ao cap)) :
    Calls Tryd.prog 14 #[.pointer (some ⟨d.ab, 0, none⟩), .int .i64 1] w fun e w' => e = .returned (.int .i64 (if keptN marks k = 0 then -1 else c)) ∧ L3 W w' d c v marks k ao cap := by
  obtain ⟨a, h1, h2, h3⟩ := unhide h
  refine (st_cls (hide h1.st) 1).mono ?_
  rw [h2.class h3 h0]
  rintro e w' ⟨rfl, s, g⟩
  exact ⟨rfl, a, h1.g g, h2, h3⟩
theorem l3_read {W w : World} {d : Ad} {c v : Int} {marks k q : Nat} {ao : Option Addr} {cap : Nat} (h0 : 0 ≤ c) (h5 : c ≤ 5) (hk : (k : Int) ≤ gp c) (hq : q < k) (h : Hid (L3 W w d c v marks k ao cap)) :
    Calls Tryd.prog 12 #[.pointer (some ⟨d.ab, 0, none⟩), .int .i64 (64 + q * gw c), .int .i64 0] w fun e w' => ∃ r, e = .returned (.tuple #[.int .i64 r, .int .i64 (if marks.testBit q = true then 0 else 1)]) ∧ (marks.testBit q = true → r = vx v q) ∧ L3 W w' d c v marks k ao cap := by
  obtain ⟨a, h1, h2, h3⟩ := unhide h
  obtain ⟨e1, e2⟩ := h2.read h3 h0 h5 hk hq
  refine (st_read (hide h1.st) (64 + q * gw c) 0).mono ?_
  rw [e1]
  rintro e w' ⟨rfl, s, g⟩
  exact ⟨_, rfl, e2, a, h1.g g, h2, h3⟩
theorem l3_take {W w : World} {d : Ad} {c v : Int} {marks k : Nat} {ao : Option Addr} {cap : Nat} (h0 : 0 ≤ c) (h5 : c ≤ 5) (hk : (k : Int) ≤ gp c) (hz : ¬ keptN marks k = 0) (hk2 : ¬ keptN marks k = k) (h : Hid (L3 W w d c v marks k ao cap)) :
    Calls Tryd.prog 10 #[.pointer (some ⟨d.ab, 0, none⟩), .int .i64 1] w fun e w' => ∃ x b, e = .returned (.tuple #[.int .i64 x, .int .i64 0]) ∧ 0 < x ∧ b.is x = true ∧ St W w' d b := by
  obtain ⟨a, h1, h2, h3⟩ := unhide h
  have e1 := h2.last h3 h0 h5 hk hz hk2
  obtain ⟨e2, e3⟩ := took_is h1.st.good e1
  refine (st_take (hide h1.st) 1).mono ?_
  rw [e1]
  rintro e w' ⟨rfl, s, t⟩
  exact ⟨_, _, rfl, e2, e3, s⟩
theorem L1.append {W w w' : World} {d : Ad} {c v : Int} {marks k : Nat} {ao : Option Addr} {cap g cap' : Nat} (h : ∃ a, Sr W w d a ao cap (atL c k) ∧ Sw a c (k + 1) v 0 marks)
    (hr : w'.ownsRow W.heap.size 2 1 (.slice (some ⟨g, 0, none⟩) (k + 1) cap') (k + 1) (((atL c k).map fun x => .int .i64 x) ++ [.int .i64 (64 + k * gw c)]))
    (hg : w.grownBy w' (Value.ownBlock (.slice ao k cap))) (hat : ao = some ⟨g, 0, none⟩ ∨ g = w.heap.size) : L1 W w' d c v marks (k + 1) (some ⟨g, 0, none⟩) cap' := by
  obtain ⟨a, h1, h2⟩ := h
  have := h1.append (x := 64 + k * gw c) (g := g) (cap' := cap') (w' := w') (by rw [atL_len]; exact hr) (by rw [atL_len]; exact hg) hat
  rw [← atL_succ] at this
  exact ⟨a, this, h2⟩
theorem L1.row {W w : World} {d : Ad} {c v : Int} {marks k : Nat} {ao : Option Addr} {cap : Nat} (h : ∃ a, Sr W w d a ao cap (atL c k) ∧ Sw a c (k + 1) v 0 marks) (o : Obj) :
    (w.alloc o).ownsRow W.heap.size 2 1 (.slice ao k cap) k ((atL c k).map fun x => .int .i64 x) ∧ (∃ a, Sr W (w.alloc o) d a ao cap (atL c k) ∧ Sw a c (k + 1) v 0 marks) ∧ W.heap.size ≤ (w.alloc o).heap.size := by
  obtain ⟨a, h1, h2⟩ := h
  have h3 := h1.g (G.alloc w o)
  have := h3.row
  unfold RowI at this
  rw [atL_len] at this
  exact ⟨this, ⟨a, h3, h2⟩, h3.st.below.size⟩
theorem L2.cell {W w : World} {d : Ad} {c v : Int} {marks k q : Nat} {ao : Option Addr} {cap : Nat} (h : L2 W w d c v marks k q ao cap) {p : Nat} (hp : p < k) : ∃ g, ao = some ⟨g, 0, none⟩ ∧ w.cell? ⟨g, p, none⟩ = some (.int .i64 (64 + p * gw c)) := by
  obtain ⟨a, h1, h2⟩ := h
  exact h1.row.get (atL_get c hp)
theorem L3.cell {W w : World} {d : Ad} {c v : Int} {marks k : Nat} {ao : Option Addr} {cap : Nat} (h : L3 W w d c v marks k ao cap) {p : Nat} (hp : p < k) : ∃ g, ao = some ⟨g, 0, none⟩ ∧ w.cell? ⟨g, p, none⟩ = some (.int .i64 (64 + p * gw c)) := by
  obtain ⟨a, h1, h2⟩ := h
  exact h1.row.get (atL_get c hp)
theorem L3.below {W w : World} {d : Ad} {c v : Int} {marks k : Nat} {ao : Option Addr} {cap : Nat} (h : L3 W w d c v marks k ao cap) : Below W.heap.size W w := by
  obtain ⟨a, h1, h2⟩ := h
  exact h1.st.below

set_option maxHeartbeats 1000000 in
set_option maxRecDepth 100000 in
theorem sweeps_walk (w : World) (ht : Hid (Tab w)) (c v : Int) (n marks : Nat) (h0 : 0 ≤ c) (h5 : c ≤ 5) (hn0 : 1 ≤ n) (hn1 : n ≤ 32) (hm : Hid (marks < 18446744073709551616)) :
    Calls Tryd.prog 6 #[.int .i64 c, .int .i64 (n : Int), .int .u64 (marks : Int), .int .i64 v] w fun e w' => e = .returned (.bool true) ∧ Below w.heap.size w w' := by
  have C := hide (awake_true w (unhide ht))
  have g32 := gp_pos h0 h5
  obtain ⟨gpn, hgp⟩ : ∃ g : Nat, gp c = g := ⟨(gp c).toNat, by omega⟩
  rw [hgp] at g32
  obtain ⟨e0, sw0⟩ := sw_start h0 h5 v marks
  have SW0 := hide sw0
  clear sw0
  have hd1 : decide (c < 0) = false := by simp; omega
  have hd2 : decide (5 < c) = false := by simp; omega
  have hd3 : decide ((n : Int) < 1) = false := by simp; omega
  have hd4 : decide (32 < (n : Int)) = false := by simp; omega
  obtain ⟨i0, hi0, hz0, hz1, hz2⟩ := info_parts info_int64
  go_enter Tryd.func6, Tryd.ntmps6
  go_wp2_with fail
  refine (unhide C).mono ?_
  rintro e w1 ⟨rfl, g⟩
  have hb : Hid (Below w.heap.size w w1) := g
  clear g C
  go_wp2_with fail
  refine (st_make8 hb ht).mono ?_
  rintro e w1 ⟨d, rfl, S, _, _, _, _⟩
  replace S := hide S
  clear hb
  go_wp2_with fail
  refine (st_set S 1 c).mono ?_
  rw [e0]
  rintro e w2 ⟨rfl, S2, _⟩
  have R0 : Hid (L1 w w2 d c v marks 0 none 0) := hide ⟨_, Sr.mk0 S2, unhide SW0⟩
  clear S S2
  go_wp2_with fail
  go_loopw [11, 12] (fun u i wr => ∃ (j k : Nat) (ao : Option Addr) (cap : Nat), j ≤ n ∧ k = min j gpn ∧ u = .slice ao k cap ∧ i = .int .i64 j ∧ Hid (L1 w wr d c v marks k ao cap)) (fun _ i _ => n - (intOf i).toNat)
  case atStart => exact ⟨0, 0, none, 0, Nat.zero_le _, by omega, rfl, rfl, R0⟩
  case round =>
    obtain ⟨j, k, ao, cap, hj, hk, rfl, rfl, R⟩ := hrel
    clear R0
    by_cases hjn : j = n
    · subst hjn
      have hkg : k ≤ gpn := by omega
      have hk32 : k ≤ 32 := by omega
      have hkI : (k : Int) ≤ gp c := by omega
      clear hk
      have R1 : Hid (L2 w wr d c v marks k 0 ao cap) := R
      clear R
      go_wp2_with fail
      go_loopw [15, 16] (fun x i wq => ∃ q : Nat, q ≤ k ∧ x = .int .i64 (keptN marks q) ∧ i = .int .i64 q ∧ Hid (L2 w wq d c v marks k q ao cap)) (fun _ i _ => k - (intOf i).toNat)
      case atStart => exact ⟨0, Nat.zero_le _, rfl, rfl, R1⟩
      case round =>
        obtain ⟨q, hq, rfl, rfl, R⟩ := hrel
        clear R1
        by_cases hqk : q = k
        · subst hqk
          have hkl := keptN_le marks q
          obtain ⟨z, hz⟩ : ∃ z, keptN marks q = z := ⟨_, rfl⟩
          rw [hz] at hkl
          obtain ⟨cl, hcl⟩ : ∃ cl : Int, cl = if keptN marks q = 0 then -1 else c := ⟨_, rfl⟩
          have hclz : (cl == -1) = ((z : Int) == 0) := by
            rw [hcl, hz]
            by_cases h : z = 0
            · subst h; rfl
            · rw [if_neg h]
              have h1 : (c == -1) = false := by simp; omega
              have h2 : ((z : Int) == 0) = false := by simp; omega
              rw [h1, h2]
          have CS := hide (l2_sweep hk32 R)
          have CC := hide (fun w1 (h : Hid (L3 w w1 d c v marks q ao cap)) => l3_class h0 h)
          rw [hz] at CS
          rw [hz]
          rw [← hcl] at CC
          replace hz := hide hz
          clear hcl R
          have hzz : (((z : Int) == 0) != ((z : Int) == 0)) = false := by simp
          go_wp2_with fail
          refine (unhide CS).mono ?_
          rintro e w3 ⟨rfl, R3⟩
          replace R3 := hide R3
          clear CS
          go_wp2_with fail
          refine (unhide CC _ R3).mono ?_
          rintro e w4 ⟨rfl, R4⟩
          replace R4 := hide R4
          clear R3 CC
          go_wp2_with fail
          go_loopw [17] (fun i wq => ∃ p : Nat, p ≤ q ∧ i = .int .i64 p ∧ Hid (L3 w wq d c v marks q ao cap)) (fun i _ => q - (intOf i).toNat)
          case atStart => exact ⟨0, Nat.zero_le _, rfl, R4⟩
          case round =>
            obtain ⟨p, hp, rfl, R⟩ := hrel
            clear R4
            by_cases hpq : p = q
            · subst hpq
              by_cases hz0 : (z : Int) = 0
              · have hz1 : ((z : Int) == 0) = true := by simp; omega
                go_wp2_with fail
                go_ret
                exact ⟨rfl, L3.below (unhide R)⟩
              · have hz1 : ((z : Int) == 0) = false := by simp; omega
                by_cases hzp : (z : Int) = (p : Int)
                · have hz2 : ((z : Int) == (p : Int)) = true := by simp; omega
                  go_wp2_with fail
                  go_ret
                  exact ⟨rfl, L3.below (unhide R)⟩
                · have hz2 : ((z : Int) == (p : Int)) = false := by simp; omega
                  have CT := hide (l3_take h0 h5 hkI (by rw [unhide hz]; omega) (by rw [unhide hz]; omega) R)
                  clear R
                  go_wp2_with fail
                  refine (unhide CT).mono ?_
                  rintro e w5 ⟨x, b, rfl, hx0, hbx, S5⟩
                  replace S5 := hide S5
                  clear CT
                  have hx1 : decide (0 < x) = true := by simpa using hx0
                  go_wp2_with fail
                  refine (st_is S5 x).mono ?_
                  rw [hbx]
                  rintro e w6 ⟨rfl, S6, _⟩
                  replace S6 := hide S6
                  clear S5
                  go_wp2_with fail
                  go_ret
                  exact ⟨rfl, (unhide S6).below⟩
            · have hpl : p < q := by omega
              have hpI : (p : Int) < (q : Int) := by omega
              obtain ⟨g, rfl, cg⟩ := L3.cell (unhide R) hpl
              have CR := hide (l3_read h0 h5 hkI hpl R)
              have hand := bit_and marks p (unhide hm)
              obtain ⟨y, hy⟩ : ∃ y, bits .xor .i64 v (p : Int) = y := ⟨_, rfl⟩
              have hyv : Hid (vx v p = y) := hy
              clear R
              by_cases hb : marks.testBit p = true
              · rw [if_pos hb] at hand CR
                go_wp2_with fail
                refine (unhide CR).mono ?_
                rintro e w5 ⟨r, rfl, hr, R5⟩
                have hr' : r = y := (hr hb).trans (unhide hyv)
                subst hr'
                replace R5 := hide R5
                clear CR hr
                go_wp2_with fail
                go_roundw
                case rel => exact ⟨p + 1, by omega, by go_num, R5⟩
                case measure => simp [intOf]; omega
              · rw [if_neg hb] at hand CR
                go_wp2_with fail
                refine (unhide CR).mono ?_
                rintro e w5 ⟨r, rfl, hr, R5⟩
                replace R5 := hide R5
                clear CR hr
                go_wp2_with fail
                go_roundw
                case rel => exact ⟨p + 1, by omega, by go_num, R5⟩
                case measure => simp [intOf]; omega
        · have hqk' : q < k := by omega
          have hqI : (q : Int) < (k : Int) := by omega
          obtain ⟨g, rfl, cg⟩ := L2.cell (unhide R) hqk'
          have hand := bit_and marks q (unhide hm)
          have hkl := keptN_le marks q
          by_cases hb : marks.testBit q = true
          · rw [if_pos hb] at hand
            have hks := keptN_succ marks q
            rw [if_pos hb] at hks
            replace hb := hide hb
            go_wp2_with fail
            refine (l2_mark h0 h5 hkI hqk' (unhide hb) R).mono ?_
            rintro e w3 ⟨r, rfl, R3⟩
            replace R3 := hide R3
            clear R
            go_wp2_with fail
            go_roundw
            case rel => exact ⟨q + 1, by omega, by rw [hks]; go_num, by go_num, R3⟩
            case measure => simp [intOf]; omega
          · simp only [Bool.not_eq_true] at hb
            rw [hb] at hand
            have hks := keptN_succ marks q
            rw [hb] at hks
            have R3 : Hid (L2 w wr d c v marks k (q + 1) (some ⟨g, 0, none⟩) cap) := by
              obtain ⟨a, x1, x2⟩ := unhide R
              exact hide ⟨a, x1, x2.skip hb⟩
            clear R
            replace hb := hide hb
            simp at hand hks
            go_wp2_with fail
            go_roundw
            case rel => exact ⟨q + 1, by omega, by rw [hks], by go_num, R3⟩
            case measure => simp [intOf]; omega
    · have hjl : (j : Int) < (n : Int) := by omega
      by_cases hfull : j < gpn
      · obtain rfl : k = j := by omega
        have hkI : (k : Int) < gp c := by omega
        clear hk
        go_wp2_with fail
        refine (l1_take h0 h5 hkI R).mono ?_
        rintro e w3 ⟨rfl, R3⟩
        replace R3 := hide R3
        clear R
        obtain ⟨x, hx⟩ : ∃ x, x = 64 + (k : Int) * gw c := ⟨_, rfl⟩
        obtain ⟨y, hy⟩ : ∃ y, vx v k = y := ⟨_, rfl⟩
        rw [← hx]
        have hy' : bits .xor .i64 v (k : Int) = y := hy
        have CW := hide (l1_write (x := y) h0 h5 hkI hy R3)
        rw [← hx] at CW
        replace hx := hide hx
        clear hy R3
        go_wp2_with fail
        refine (unhide CW).mono ?_
        rintro e w4 ⟨r, rfl, R4⟩
        obtain ⟨q1, q2, q3⟩ := L1.row R4 (.cells #[.int .i64 x] 2)
        have HO := hide q1
        have HR := hide q2
        have HS := hide q3
        clear q1 q2 q3 R4 CW
        have HN : Hid (∀ (i : Nat) u, [Value.int .i64 x][i]? = some u → (w4.alloc (.cells #[.int .i64 x] 2)).cell? ((⟨w4.heap.size, 0, none⟩ : Addr).add i) = some u) := hide fun i u hi => by
          rw [Addr.add_lit, Nat.zero_add, World.cell?_alloc_new]
          simpa using hi
        have H1 : Hid (∀ u ∈ [Value.int .i64 x], u.oneCell' = true) := hide fun u hu => by
          simp at hu
          rw [hu]
          rfl
        go_wp2_with (at_builtin; refine wpl_append_at rfl (.tmp 67) (.tmp 69) 45 rfl w.heap.size 2 i0 (.int .i64 0) 1 8 Tryd.underlying45 hi0 hz0 hz1 hz2 rfl (by decide) ao k cap ((atL c k).map fun x => .int .i64 x) rfl (unhide HO) ⟨w4.heap.size, 0, none⟩ 1 1 [.int .i64 x] rfl rfl (unhide HN) (unhide H1) (by decide) (by unfold maxLen; omega) (by omega) (unhide HS) ?_; intro g cap8 w7 hr8 hg8 hat8)
        have R5 : Hid (L1 w w7 d c v marks (k + 1) (some ⟨g, 0, none⟩) cap8) := hide (L1.append (unhide HR) (by rw [← unhide hx]; exact hr8) hg8 hat8)
        clear hr8 hg8 hat8 HO HR HS HN H1
        go_wp2_with fail
        go_roundw
        case rel => exact ⟨k + 1, k + 1, some ⟨g, 0, none⟩, cap8, by omega, by omega, rfl, by go_num, R5⟩
        case measure => simp [intOf]; omega
      · have hkI : (k : Int) = gp c := by omega
        have hk1 : Hid (k = min (j + 1) gpn) := hide (by omega)
        clear hk
        go_wp2_with fail
        refine (l1_full h0 h5 hkI R).mono ?_
        rintro e w3 ⟨rfl, R3⟩
        replace R3 := hide R3
        clear R
        go_wp2_with fail
        go_roundw
        case rel => exact ⟨j + 1, k, ao, cap, by omega, unhide hk1, rfl, by go_num, R3⟩
        case measure => simp [intOf]; omega

set_option maxHeartbeats 1000000 in
set_option maxRecDepth 100000 in
theorem sweeps_out (w : World) (ht : Hid (Tab w)) (c n v : Int) (marks : Int) (b1 b2 b3 b4 : Bool) (h1 : decide (c < 0) = b1) (h2 : decide (5 < c) = b2) (h3 : decide (n < 1) = b3) (h4 : decide (32 < n) = b4) (h : b1 = true ∨ b1 = false ∧ b2 = true ∨ b1 = false ∧ b2 = false ∧ b3 = true ∨ b1 = false ∧ b2 = false ∧ b3 = false ∧ b4 = true) :
    Calls Tryd.prog 6 #[.int .i64 c, .int .i64 n, .int .u64 marks, .int .i64 v] w fun e w' => e = .returned (.bool true) ∧ Below w.heap.size w w' := by
  have C := hide (awake_true w (unhide ht))
  rcases h with rfl | ⟨rfl, rfl⟩ | ⟨rfl, rfl, rfl⟩ | ⟨rfl, rfl, rfl, rfl⟩
  all_goals
    go_enter Tryd.func6, Tryd.ntmps6
    go_wp2_with fail
    refine (unhide C).mono ?_
    rintro e w1 ⟨rfl, g⟩
    have hb : Hid (Below w.heap.size w w1) := g
    clear g C
    go_wp2_with fail
    go_ret
    exact ⟨rfl, unhide hb⟩

theorem walk_ArenaSweeps (a0 a1 a2 a3 : Int) (_w0 : (Lit.int .i64 a0).wf = true) (_w1 : (Lit.int .i64 a1).wf = true) (w2 : (Lit.int .u64 a2).wf = true) (_w3 : (Lit.int .i64 a3).wf = true) (w : World) (ht : Tab w) :
    Calls Tryd.prog 6 #[.int .i64 a0, .int .i64 a1, .int .u64 a2, .int .i64 a3] w fun e w' => e = .returned (.bool true) ∧ Below w.heap.size w w' := by
  by_cases h : 0 ≤ a0 ∧ a0 ≤ 5 ∧ 1 ≤ a1 ∧ a1 ≤ 32
  · obtain ⟨h0, h5, h1, h32⟩ := h
    obtain ⟨n, rfl⟩ := Int.eq_ofNat_of_zero_le (show 0 ≤ a1 by omega)
    have hm := bounds_u64 w2
    obtain ⟨m, rfl⟩ := Int.eq_ofNat_of_zero_le hm.1
    exact sweeps_walk w (hide ht) a0 a3 n m h0 h5 (by omega) (by omega) (hide (by omega))
  · refine sweeps_out w (hide ht) a0 a1 a3 a2 _ _ _ _ rfl rfl rfl rfl ?_
    simp only [decide_eq_true_eq, decide_eq_false_iff_not]
    omega

set_option maxRecDepth 100000 in
theorem lifted_ArenaSweeps (os : Os) (started : os.Started) (H : Type) (enc : TypeId × Value → H) :
    ReturnsInHanded {} Tryd.checked os 6 .any (fun w args => (Rows.arenaSweepsSpec.pre enc Tryd.prog Tryd.f6 [] false w args ∧ laidMetH Tryd.prog laidTab w) ∧ sizedMet enc Tryd.prog Tryd.f6 (OpenSpec.ofChange Rows.arenaSweepsSpec) false w args)
      (Rows.arenaSweepsSpec.post enc Tryd.prog Tryd.f6 false true false false) := by
  refine returnsInHanded_of_change_and (C := Tryd.checked) (X := fun w _ => laidMetH Tryd.prog laidTab w) (fun _ _ _ hh h => h.of_heap hh) own started (by kernel_rfl) Tryd.func6
    (ChangeSpec.witness_shaped (enc := enc) (C := Tryd.checked) (os := os) (X := fun w _ => laidMetH Tryd.prog laidTab w) false (World.doorLaid Tryd.prog 400 os) #[.int .i64 0, .int .i64 0, .int .u64 0, .int .i64 0] 8 rfl (World.shaped_of_RefB (by kernel_rfl) (by kernel_rfl)) (by kernel_rfl) (by kernel_rfl) (by kernel_rfl) (door_met os _)) ?_
  intro W base args ds gs before hval0 hW _ _ hL _
  have hval : ∀ (j : Nat) t v, Tryd.f6.params[j]? = some t → args[j]? = some v → Value.okWide Tryd.prog W .any base t v := hval0
  have hW' := hW
  obtain ⟨p, q, hA0, hV, rfl, hfz, hnd⟩ := hW
  have hA : DataW.TrodAll enc Tryd.prog W 0 (fun _ => true) true Tryd.f6.params.toList args.toList ds p := hA0
  rw [Tryd.params6] at hA hval
  obtain ⟨v0, vs0, d0, ds0, p0, q0, hargs, rfl, rfl, h0, r0⟩ := trodAll_cons hA
  obtain ⟨v1, vs1, d1, ds1, p1, q1, rfl, rfl, rfl, h1, r1⟩ := trodAll_cons r0
  obtain ⟨v2, vs2, d2, ds2, p2, q2, rfl, rfl, rfl, h2, r2⟩ := trodAll_cons r1
  obtain ⟨v3, vs3, d3, ds3, p3, q3, rfl, rfl, rfl, h3, r3⟩ := trodAll_cons r2
  obtain ⟨rfl, rfl, rfl⟩ := trodAll_nil r3
  obtain rfl : args = #[v0, v1, v2, v3] := by cases args; simp_all
  obtain ⟨rfl, rfl⟩ := trodVars_none hV
  have k0 := h0
  have lt0 : ∀ x ∈ p0, x.block < W.heap.size := by obtain ⟨m, hm⟩ := k0; exact DataW.trod_lt m _ _ _ hm
  obtain ⟨a0, rfl, rfl, rfl, w0⟩ := open_int Tryd.underlying3 (hval 0 3 v0 rfl rfl) h0
  have k1 := h1
  have lt1 : ∀ x ∈ p1, x.block < W.heap.size := by obtain ⟨m, hm⟩ := k1; exact DataW.trod_lt m _ _ _ hm
  obtain ⟨a1, rfl, rfl, rfl, w1⟩ := open_int Tryd.underlying3 (hval 1 3 v1 rfl rfl) h1
  have k2 := h2
  have lt2 : ∀ x ∈ p2, x.block < W.heap.size := by obtain ⟨m, hm⟩ := k2; exact DataW.trod_lt m _ _ _ hm
  obtain ⟨a2, rfl, rfl, rfl, w2⟩ := open_int Tryd.underlying52 (hval 2 52 v2 rfl rfl) h2
  have k3 := h3
  have lt3 : ∀ x ∈ p3, x.block < W.heap.size := by obtain ⟨m, hm⟩ := k3; exact DataW.trod_lt m _ _ _ hm
  obtain ⟨a3, rfl, rfl, rfl, w3⟩ := open_int Tryd.underlying2 (hval 3 2 v3 rfl rfl) h3
  clear hA0 hval0
  refine (walk_ArenaSweeps a0 a1 a2 a3 w0 w1 w2 w3 W (tab_of_laid hL)).mono fun e W' ⟨he, hg⟩ => ?_
  subst he
  exact ⟨_, rfl, _, _, _, [], _, [], hW', trodAll_mk1 (shut_bool Tryd.underlying4 _), (trodAll_cons_mk (Below.trod laidOut (by kernel_rfl) (of_decide_eq_true (by kernel_rfl)) k0 hg lt0) (trodAll_cons_mk (Below.trod laidOut (by kernel_rfl) (of_decide_eq_true (by kernel_rfl)) k1 hg lt1) (trodAll_cons_mk (Below.trod laidOut (by kernel_rfl) (of_decide_eq_true (by kernel_rfl)) k2 hg lt2) (trodAll_cons_mk (Below.trod laidOut (by kernel_rfl) (of_decide_eq_true (by kernel_rfl)) k3 hg lt3) trodAll_mk0)))), rfl, hg.frame _, fun h => by cases h⟩

theorem row_ArenaSweeps : Rows.ArenaSweepsSaid :=
  OpenClaim.holds_of_wide 6 Tryd.f6 rfl rfl rfl rfl rfl rfl rfl ⟨rfl, rfl, rfl, rfl, rfl⟩ rfl rfl rfl rfl rfl (by kernel_rfl) Tryd.func6 (by kernel_rfl)
    (of_decide_eq_true (by kernel_rfl)) (by unfold Func.isWrapper; first | (rw [if_pos (by decide +kernel)]; kernel_rfl) | (rw [if_neg (by decide +kernel)]; exact ⟨rfl, rfl⟩))
    (fun os started H enc _ => lifted_ArenaSweeps os started H enc)

/-- THE STATEMENT. -/
theorem card_ArenaSweeps : Rows.ArenaSweepsCardSaid :=
  Claim7.holds_tied_plain_at .later [] [.data] true (true, "64ae28b82ac9bc8bf812a8ed8e489dbeb6ade7eb6e30482be111075a2889555d") false
    row_ArenaSweeps (fun _ h => by cases h) (by kernel_rfl) (fun _ h => by cases h) arenaSweeps_row_tie rfl ⟨rfl, rfl⟩ (by kernel_rfl) rfl
    (fun f fn hf hfn => by
      obtain rfl : f = 6 := Option.some.inj ((show Tryd.prog.funcNamed "gantline/gantlinelaw4.ArenaSweeps" = some 6 by kernel_rfl).symm.trans hf) |>.symm
      obtain rfl : fn = Tryd.f6 := (Option.some.inj (Tryd.func6.symm.trans hfn)).symm
      exact ⟨by kernel_rfl, fun j t ht => by
        rw [Tryd.params6] at ht
        have hm : t ∈ [3, 3, 52, 2] := by simpa using Array.mem_of_getElem? ht
        have hall : ([3, 3, 52, 2].all fun u => !Tryd.prog.wantsStandIn u) = true := by kernel_rfl
        exact (show Tryd.prog.wantsStandIn t = false by simpa using List.all_eq_true.1 hall t hm)⟩)
    (by kernel_rfl)
#print axioms card_ArenaSweeps
end Go.Proofs.YtcoeaknaljoonaaDoor
