/- The contracts of an Arena's Sweep and Clear. -/
import Derived.Test.YtgflkpccddfalaaGreatDoorArenaMark
namespace Go.Proofs.YtgflkpccddfalaaGreatDoor
set_option maxRecDepth 100000
open Go.RowKit Go.Maps Go.ChangeShapes Go.WideShapes Go.ChangeAt

theorem popF_cnt (x : Nat) : ∀ k, popF k x = ((List.range k).filter fun p => x.testBit p).length
  | 0 => rfl
  | k + 1 => by
    rw [popF_succ, popF_cnt x k, List.range_succ, List.filter_append, List.length_append]
    congr 1
    have : x.testBit k = decide (x / 2 ^ k % 2 = 1) := Nat.testBit_eq_decide_div_mod_eq
    by_cases h : x / 2 ^ k % 2 = 1
    · simp [this, h]
    · simp [this, h]; omega

theorem ones_cnt (x : Nat) (w : World) (hx : x < 18446744073709551616) :
    Calls Tryz.prog 108 #[.int .u64 (x : Int)] w fun e w' => e = .returned (.int .i64 ((cnt fun p => x.testBit p : Nat) : Int)) ∧ w' = w := by
  have := ones_any x w hx
  rw [popF_cnt x 64] at this
  exact this

theorem andNot_bit (t m : Nat) (ht : t < 18446744073709551616) (hm : m < 18446744073709551616) (p : Nat) : (t &&& (18446744073709551615 - m)).testBit p = (t.testBit p && !m.testBit p) := by
  have e3 : 18446744073709551615 - m = 2 ^ 64 - (m + 1) := by omega
  rw [e3, Nat.testBit_and, Nat.testBit_two_pow_sub_succ (show m < 2 ^ 64 from hm)]
  by_cases hi : p < 64
  · simp [hi]
  · have : t.testBit p = false := Nat.testBit_lt_two_pow (Nat.lt_of_lt_of_le (show t < 2 ^ 64 from ht) (Nat.pow_le_pow_right (by decide) (by omega)))
    simp [this]

set_option maxHeartbeats 400000 in
theorem sweep_none (w : World) (p : Value) (s t m : Int)
    (C : Hid (Calls Tryz.prog 37 #[p, .int .i64 s] w fun e w' => e = .returned (.agg #[.int .i64 (-1), .int .u64 t, .int .u64 m]) ∧ G w w')) :
    Calls Tryz.prog 100 #[p, .int .i64 s] w fun e w' => e = .returned (.int .i64 0) ∧ G w w' := by
  go_enter Tryz.func100, Tryz.ntmps100
  go_wp2_with fail
  refine (unhide C).mono ?_
  rintro e w1 ⟨rfl, g⟩
  replace g := hide g
  go_wp2_with fail
  go_ret
  exact ⟨rfl, (unhide g).more _⟩

set_option maxHeartbeats 1000000 in
theorem sweep_kept (w : World) (ab sb n cs s : Nat) (c q : Int) (t m y : Nat) (hs : s < n) (hc : (c == -1) = false) (hm : ((m : Int) == 0) = false) (hy : bits .andNot .u64 (t : Int) (m : Int) = (y : Int))
    (c1 : Hid (w.cell? ⟨ab, 1, none⟩ = some (.slice (some ⟨sb, 0, none⟩) n cs))) (e1 : Hid (w.cell? ⟨sb, s * 3 + 1, none⟩ = some (.int .u64 (t : Int)))) (f : Hid (w.frozen? ⟨sb, s * 3 + 1, none⟩ = false))
    (C : Hid (Calls Tryz.prog 37 #[.pointer (some ⟨ab, 0, none⟩), .int .i64 (s : Int)] w fun e w' => e = .returned (.agg #[.int .i64 c, .int .u64 t, .int .u64 m]) ∧ G w w'))
    (O : Hid (∀ w, Calls Tryz.prog 108 #[.int .u64 (y : Int)] w fun e w' => e = .returned (.int .i64 q) ∧ w' = w)) :
    Calls Tryz.prog 100 #[.pointer (some ⟨ab, 0, none⟩), .int .i64 (s : Int)] w fun e w' => e = .returned (.int .i64 q) ∧ ∃ w1, G w w1 ∧ G (w1.setCell ⟨sb, s * 3 + 1, none⟩ (.int .u64 (m : Int))) w' := by
  go_enter Tryz.func100, Tryz.ntmps100
  go_wp2_with fail
  refine (unhide C).mono ?_
  rintro e w1 ⟨rfl, g⟩
  have d1 := G.cell g (unhide c1)
  have x1 := G.cell g (unhide e1)
  have f1 := (World.frozen?_of_block (a := ⟨sb, s * 3 + 1, none⟩) (g.block sb (World.block_lt_of_cell? _ _ (unhide e1)))).trans (unhide f)
  have l1 := World.block_lt_of_cell? _ _ d1
  have l2 := World.block_lt_of_cell? _ _ x1
  replace g := hide g
  go_wp2_with fail
  go_region
  go_wp2_with fail
  refine (unhide O _).mono ?_
  rintro e w2 ⟨rfl, rfl⟩
  go_wp2_with fail
  go_ret
  exact ⟨rfl, w1, unhide g, (G.alloc _ _).drew⟩

set_option maxHeartbeats 1000000 in
theorem sweep_gone (w : World) (ab sb n cs s : Nat) (c q : Int) (t y : Nat) (hs : s < n) (hc : (c == -1) = false) (hy : bits .andNot .u64 (t : Int) 0 = (y : Int))
    (c1 : Hid (w.cell? ⟨ab, 1, none⟩ = some (.slice (some ⟨sb, 0, none⟩) n cs))) (e1 : Hid (w.cell? ⟨sb, s * 3 + 1, none⟩ = some (.int .u64 (t : Int)))) (f : Hid (∀ i, w.frozen? ⟨sb, i, none⟩ = false))
    (e0 : Hid (w.cell? ⟨sb, s * 3, none⟩ = some (.int .i64 c)))
    (C : Hid (Calls Tryz.prog 37 #[.pointer (some ⟨ab, 0, none⟩), .int .i64 (s : Int)] w fun e w' => e = .returned (.agg #[.int .i64 c, .int .u64 t, .int .u64 0]) ∧ G w w'))
    (O : Hid (∀ w, Calls Tryz.prog 108 #[.int .u64 (y : Int)] w fun e w' => e = .returned (.int .i64 q) ∧ w' = w)) (hab : ab ≠ sb) :
    Calls Tryz.prog 100 #[.pointer (some ⟨ab, 0, none⟩), .int .i64 (s : Int)] w fun e w' => e = .returned (.int .i64 q) ∧ ∃ w1, G w w1 ∧ G ((w1.setCell ⟨sb, s * 3 + 1, none⟩ (.int .u64 0)).setCell ⟨sb, s * 3, none⟩ (.int .i64 (-1))) w' := by
  go_enter Tryz.func100, Tryz.ntmps100
  go_wp2_with fail
  refine (unhide C).mono ?_
  rintro e w1 ⟨rfl, g⟩
  have d1 := G.cell g (unhide c1)
  have x1 := G.cell g (unhide e1)
  have x0 := G.cell g (unhide e0)
  have fz : ∀ i, w1.frozen? ⟨sb, i, none⟩ = false := fun i => (World.frozen?_of_block (a := ⟨sb, i, none⟩) (g.block sb (World.block_lt_of_cell? _ _ (unhide e0)))).trans (unhide f i)
  have f1 := fz (s * 3 + 1)
  have f0 := fz (s * 3)
  clear fz
  have l1 := World.block_lt_of_cell? _ _ d1
  have l2 := World.block_lt_of_cell? _ _ x1
  replace g := hide g
  go_wp2_with fail
  go_region
  go_wp2_with fail
  refine (unhide O _).mono ?_
  rintro e w2 ⟨rfl, rfl⟩
  go_wp2_with fail
  go_ret
  exact ⟨rfl, w1, unhide g, (G.alloc _ _).drew⟩

theorem sweep_at (w : World) (B : Nat) (d : Ad) (a : Ab) (h : AreAt w B d a) (g : a.Good) (s : Int) :
    Calls Tryz.prog 100 #[d.ptr, .int .i64 s] w fun e w' => e = .returned (.int .i64 (a.sweepN s : Int)) ∧ AreAt w' B d (a.sweepA s) ∧ Tn w w' d := by
  have C := look_any w B d a h s
  have hr := g.clsI_r s
  unfold Ab.sweepA
  by_cases hc : 0 ≤ a.clsI s
  · have hs : 1 ≤ s ∧ s < a.n := by
      by_cases hs : 1 ≤ s ∧ s < a.n
      · exact hs
      · rw [(a.I_no hs).1] at hc; omega
    obtain ⟨k, rfl⟩ := Int.eq_ofNat_of_zero_le (show 0 ≤ s by omega)
    obtain ⟨i0, i1, i2⟩ := a.I_at (s := k) (by omega) (by omega)
    have hkn : k < a.n := by omega
    rw [if_pos hc]
    have hcnt : a.sweepN k = cnt fun p => (a.tk k &&& (18446744073709551615 - a.mr k)).testBit p := by
      unfold Ab.sweepN
      rw [i1, i2]
      congr 1
      funext p
      rw [andNot_bit _ _ (by have := g.tkb k; omega) (by have := g.mrb k; omega)]
    rw [i0, i1, i2] at C
    rw [i0] at hc
    have ht : a.tk k < 18446744073709551616 := by have := g.tkb k; omega
    have hm : a.mr k < 18446744073709551616 := by have := g.mrb k; omega
    have O : ∀ w, Calls Tryz.prog 108 #[.int .u64 ((a.tk k &&& (18446744073709551615 - a.mr k) : Nat) : Int)] w fun e w' => e = .returned (.int .i64 (a.sweepN k : Int)) ∧ w' = w := by
      intro w
      rw [hcnt]
      exact ones_cnt _ w (Nat.lt_of_le_of_lt Nat.and_le_left ht)
    have hy : bits .andNot .u64 (a.tk k : Int) (a.mr k : Int) = ((a.tk k &&& (18446744073709551615 - a.mr k) : Nat) : Int) := u64_andNot_nat _ _ ht hm
    simp only [Int.toNat_natCast]
    by_cases hz : a.mr k = 0
    · have hk : a.kept k = 0 := by rw [g.kept]; exact hz
      rw [hz] at C hy O
      refine (sweep_gone w d.ab d.sb a.n d.cs k (a.cls k) _ (a.tk k) _ hkn (by simp; omega) hy (hide h.c1) (hide (h.s1 k hkn)) (hide h.fs) (hide (h.s0 k hkn)) (hide C) (hide O) h.n02).mono ?_
      rintro e w' ⟨rfl, w1, g1, g2⟩
      have k1 := h.grown g.ok.n0 g1
      refine ⟨rfl, ?_, ((((Tn.of_G g1).set _ _ (Or.inr rfl)).set _ _ (Or.inr rfl)).G g2)⟩
      refine AreAt.grown ?_ g.ok.n0 g2
      refine k1.span (a' := a.sweep k) (s := k) rfl rfl ?_ ?_ ?_ ?_ ?_ ?_
      · intro t ht
        unfold Ab.sweep
        simp only [hk, if_pos]
        exact ⟨upd_other _ _ ht, upd_other _ _ ht, upd_other _ _ ht⟩
      · intro b i hb
        rw [cell_other _ (by omega), cell_other _ (by omega)]
      · intro b i
        rw [World.frozen?_setCell, World.frozen?_setCell]
      · rw [cell_same _ ((cell_other _ (by omega)).trans (k1.s0 k hkn))]
        simp [Ab.sweep, hk, upd]
      · rw [cell_other _ (by omega), cell_same _ (k1.s1 k hkn)]
        simp [Ab.sweep, hk, upd]
      · rw [cell_other _ (by omega), cell_other _ (by omega), k1.s2 k hkn, hz]
        simp [Ab.sweep, hk, upd]
    · have hk : ¬ a.kept k = 0 := by rw [g.kept]; exact hz
      refine (sweep_kept w d.ab d.sb a.n d.cs k (a.cls k) _ (a.tk k) (a.mr k) _ hkn (by simp; omega) (by simp; omega) hy (hide h.c1) (hide (h.s1 k hkn)) (hide (h.fs _)) (hide C) (hide O)).mono ?_
      rintro e w' ⟨rfl, w1, g1, g2⟩
      have k1 := h.grown g.ok.n0 g1
      refine ⟨rfl, ?_, (((Tn.of_G g1).set _ _ (Or.inr rfl)).G g2)⟩
      refine AreAt.grown ?_ g.ok.n0 g2
      refine k1.span (a' := a.sweep k) (s := k) rfl rfl ?_ ?_ ?_ ?_ ?_ ?_
      · intro t ht
        unfold Ab.sweep
        simp only [hk, if_false]
        exact ⟨trivial, upd_other _ _ ht, trivial⟩
      · intro b i hb
        rw [cell_other _ (by omega)]
      · intro b i
        rw [World.frozen?_setCell]
      · rw [cell_other _ (by omega), k1.s0 k hkn]
        simp [Ab.sweep, hk]
      · rw [cell_same _ (k1.s1 k hkn)]
        simp [Ab.sweep, upd, g.kept]
      · rw [cell_other _ (by omega), k1.s2 k hkn]
        simp [Ab.sweep, hk]
  · have ec : a.clsI s = -1 := by omega
    rw [ec] at C
    rw [if_neg hc]
    have e0 : a.sweepN s = 0 := by
      have : a.tkI s = 0 := by
        by_cases hs : 1 ≤ s ∧ s < a.n
        · unfold Ab.clsI at ec
          rw [if_pos hs] at ec
          unfold Ab.tkI
          rw [if_pos hs]
          exact (g.z _ (by omega)).1
        · exact (a.I_no hs).2.1
      unfold Ab.sweepN
      rw [this]
      simp [cnt]
    rw [e0]
    refine (sweep_none w _ s _ _ (hide C)).mono ?_
    rintro e w' ⟨rfl, g1⟩
    exact ⟨rfl, h.grown g.ok.n0 g1, Tn.of_G g1⟩

/-! ### Clear -/
/-- The arena with the marks of the first k spans forgotten. -/
def Ab.clr (a : Ab) (k : Nat) : Ab := { a with mr := fun s => if s < k then 0 else a.mr s }
theorem Ab.clr_zero (a : Ab) : a.clr 0 = a := by unfold Ab.clr; simp

theorem AreAt.clr {w : World} {B : Nat} {d : Ad} {a : Ab} {k : Nat} (h : AreAt w B d (a.clr k)) (hk : k < a.n) : AreAt (w.setCell ⟨d.sb, k * 3 + 2, none⟩ (.int .u64 0)) B d (a.clr (k + 1)) := by
  refine h.span (a' := a.clr (k + 1)) (s := k) rfl rfl ?_ ?_ ?_ ?_ ?_ ?_
  · intro t ht
    refine ⟨rfl, rfl, ?_⟩
    show (if t < k + 1 then 0 else a.mr t) = if t < k then 0 else a.mr t
    by_cases h1 : t < k
    · rw [if_pos (by omega), if_pos h1]
    · rw [if_neg (by omega), if_neg h1]
  · intro b i hb
    rw [cell_other _ (by omega)]
  · intro b i
    rw [World.frozen?_setCell]
  · rw [cell_other _ (by omega), h.s0 k hk]; rfl
  · rw [cell_other _ (by omega), h.s1 k hk]; rfl
  · rw [cell_same _ (h.s2 k hk)]
    show _ = some (Value.int .u64 ((if k < k + 1 then 0 else a.mr k : Nat) : Int))
    rw [if_pos (by omega)]
    rfl

set_option maxHeartbeats 1000000 in
theorem clear_core (w : World) (B : Nat) (ab wb sb cw cs n : Nat) (a : Ab) (hn : a.n = n) (h5 : n ≤ 512) (h : Hid (AreAt w B ⟨ab, wb, sb, cw, cs⟩ a)) :
    Calls Tryz.prog 54 #[.pointer (some ⟨ab, 0, none⟩)] w fun e w' => e = .returned (.tuple #[]) ∧ AreAt w' B ⟨ab, wb, sb, cw, cs⟩ (a.clr n) ∧ Tn w w' ⟨ab, wb, sb, cw, cs⟩ := by
  have c1 := (unhide h).c1
  rw [hn] at c1
  have c1 : w.cell? ⟨ab, 1, none⟩ = some (.slice (some ⟨sb, 0, none⟩) n cs) := c1
  have T0 : Hid (Tn w w ⟨ab, wb, sb, cw, cs⟩) := Tn.of_G (G.refl w)
  have R0 : Hid (AreAt w B ⟨ab, wb, sb, cw, cs⟩ (a.clr 0)) := by rw [Ab.clr_zero]; exact h
  have hn := hide hn
  clear h
  go_enter Tryz.func54, Tryz.ntmps54
  go_wp2_with fail
  go_loopw [8] (fun c wr => ∃ j : Nat, j ≤ n ∧ c = .int .i64 j ∧ Hid (AreAt wr B ⟨ab, wb, sb, cw, cs⟩ (a.clr j)) ∧ Hid (Tn w wr ⟨ab, wb, sb, cw, cs⟩)) (fun c _ => n - (intOf c).toNat)
  case atStart => exact ⟨0, Nat.zero_le _, rfl, R0, T0⟩
  case round =>
    obtain ⟨j, hj, rfl, R, T⟩ := hrel
    clear R0 T0 c1
    by_cases hjn : j = n
    · subst hjn
      go_wp2_with fail
      go_end0
      exact ⟨rfl, unhide R, unhide T⟩
    · have hjl : (j : Int) < (n : Int) := by omega
      have hja : j < a.n := by rw [unhide hn]; omega
      have c1 := (unhide R).c1
      have c1 : wr.cell? ⟨ab, 1, none⟩ = some (.slice (some ⟨sb, 0, none⟩) n cs) := by rw [← unhide hn]; exact c1
      have x2 := (unhide R).s2 j hja
      have f2 : wr.frozen? ⟨sb, j * 3 + 2, none⟩ = false := (unhide R).fs _
      have R1 := hide ((unhide R).clr hja)
      have T1 := hide ((unhide T).set ⟨sb, j * 3 + 2, none⟩ (.int .u64 0) (Or.inr rfl))
      generalize (a.clr j).mr j = m at x2
      have x2 : wr.cell? ⟨sb, j * 3 + 2, none⟩ = some (.int .u64 m) := x2
      clear R T
      go_wp2_with fail
      go_roundw
      case rel => exact ⟨j + 1, by omega, by go_num, R1, T1⟩
      case measure => simp [intOf]; omega

theorem clear_at (w : World) (B : Nat) (d : Ad) (a : Ab) (h : AreAt w B d a) (g : a.Good) :
    Calls Tryz.prog 54 #[d.ptr] w fun e w' => e = .returned (.tuple #[]) ∧ AreAt w' B d a.clear ∧ Tn w w' d := by
  refine (clear_core w B d.ab d.wb d.sb d.cw d.cs a.n a rfl g.ok.n1 (hide h)).mono ?_
  rintro e w' ⟨rfl, h1, t⟩
  refine ⟨rfl, ⟨h1.c0, h1.c1, h1.wd, h1.s0, h1.s1, fun s hs => ?_, h1.fw, h1.fs, h1.b0, h1.b1, h1.b2, h1.n01, h1.n02, h1.n12, h1.lw, h1.ls, h1.hcw, h1.hcs⟩, t⟩
  have := h1.s2 s hs
  unfold Ab.clr at this
  simp only at this
  rw [if_pos (show s < a.n from hs)] at this
  exact this
end Go.Proofs.YtgflkpccddfalaaGreatDoor
