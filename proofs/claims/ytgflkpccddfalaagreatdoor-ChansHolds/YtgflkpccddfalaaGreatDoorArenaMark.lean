/- The contracts of an Arena's Mark and Sweep. -/
import Derived.Test.YtgflkpccddfalaaGreatDoorArenaSet
namespace Go.Proofs.YtgflkpccddfalaaGreatDoor
set_option maxRecDepth 100000
open Go.RowKit Go.Maps Go.ChangeShapes Go.WideShapes Go.ChangeAt

theorem withN_one (x a : Nat) (hx : x < 18446744073709551616) (ha : a < 64) : withN x a 1 1 = x ||| 2 ^ a := by
  have h2 : 2 ^ a < 2 ^ 64 := Nat.pow_lt_pow_right (by decide) ha
  unfold withN
  have e1 : (2 ^ 1 - 1) * 2 ^ a = 2 ^ a := by simp
  have e2 : 2 ^ a % 18446744073709551616 = 2 ^ a := Nat.mod_eq_of_lt h2
  rw [e1, e2, Nat.and_self]
  have e3 : 18446744073709551615 - 2 ^ a = 2 ^ 64 - (2 ^ a + 1) := by omega
  rw [e3]
  refine Nat.eq_of_testBit_eq fun i => ?_
  rw [Nat.testBit_or, Nat.testBit_or, Nat.testBit_and, Nat.testBit_two_pow_sub_succ h2, Nat.testBit_two_pow]
  by_cases hi : i < 64
  · by_cases e : a = i <;> simp [hi, e]
  · have : x.testBit i = false := Nat.testBit_lt_two_pow (Nat.lt_of_lt_of_le (show x < 2 ^ 64 from hx) (Nat.pow_le_pow_right (by decide) (by omega)))
    simp [this]

theorem bitset_any (x p : Nat) (w : World) (hx : x < 4294967296) (h1 : p < 64) :
    Calls Tryz.prog 82 #[.int .u64 (x : Int), .int .i64 (p : Int), .int .i64 1, .int .u64 1] w fun e w' => e = .returned (.int .u64 ((x ||| 2 ^ p : Nat) : Int)) ∧ w' = w := by
  rw [← withN_one x p (by omega) h1]
  exact with_any x p 1 1 w (by omega) (by omega)

/-! ### Mark -/
set_option maxHeartbeats 400000 in
theorem mark_no (w : World) (p : Value) (x s q : Int)
    (C : Hid (Calls Tryz.prog 38 #[p, .int .i64 x] w fun e w' => e = .returned (.tuple #[.int .i64 s, .int .i64 q, .bool false]) ∧ G w w')) :
    Calls Tryz.prog 66 #[p, .int .i64 x] w fun e w' => e = .returned (.bool false) ∧ G w w' := by
  go_enter Tryz.func66, Tryz.ntmps66
  go_wp2_with fail
  refine (unhide C).mono ?_
  rintro e w1 ⟨rfl, g⟩
  replace g := hide g
  go_wp2_with fail
  go_ret
  exact ⟨rfl, unhide g⟩

set_option maxHeartbeats 400000 in
theorem mark_old (w : World) (ab sb n cs s q m : Nat) (x : Int) (hs : s < n) (hm : m < 4294967296) (hq : q < 64) (hb : (bitI m q == 1) = true) (c1 : Hid (w.cell? ⟨ab, 1, none⟩ = some (.slice (some ⟨sb, 0, none⟩) n cs)))
    (e2 : Hid (w.cell? ⟨sb, s * 3 + 2, none⟩ = some (.int .u64 (m : Int))))
    (C : Hid (Calls Tryz.prog 38 #[.pointer (some ⟨ab, 0, none⟩), .int .i64 x] w fun e w' => e = .returned (.tuple #[.int .i64 (s : Int), .int .i64 (q : Int), .bool true]) ∧ G w w')) :
    Calls Tryz.prog 66 #[.pointer (some ⟨ab, 0, none⟩), .int .i64 x] w fun e w' => e = .returned (.bool false) ∧ G w w' := by
  have F := hide (fun w => bit_any m (q : Int) w hm (by omega) (by omega))
  generalize bitI m q = b at *
  go_enter Tryz.func66, Tryz.ntmps66
  go_wp2_with fail
  refine (unhide C).mono ?_
  rintro e w1 ⟨rfl, g⟩
  have d1 := G.cell g (unhide c1)
  have x2 := G.cell g (unhide e2)
  replace g := hide g
  go_wp2_with fail
  refine (unhide F _).mono ?_
  rintro e w2 ⟨rfl, k, rfl⟩
  go_wp2_with fail
  go_ret
  exact ⟨rfl, below_drewN (unhide g) k⟩

set_option maxHeartbeats 400000 in
theorem mark_new (w : World) (ab sb n cs s q m : Nat) (x : Int) (hs : s < n) (hm : m < 4294967296) (hq : q < 64) (hb : (bitI m q == 1) = false) (c1 : Hid (w.cell? ⟨ab, 1, none⟩ = some (.slice (some ⟨sb, 0, none⟩) n cs)))
    (e2 : Hid (w.cell? ⟨sb, s * 3 + 2, none⟩ = some (.int .u64 (m : Int)))) (f : Hid (w.frozen? ⟨sb, s * 3 + 2, none⟩ = false))
    (C : Hid (Calls Tryz.prog 38 #[.pointer (some ⟨ab, 0, none⟩), .int .i64 x] w fun e w' => e = .returned (.tuple #[.int .i64 (s : Int), .int .i64 (q : Int), .bool true]) ∧ G w w')) :
    Calls Tryz.prog 66 #[.pointer (some ⟨ab, 0, none⟩), .int .i64 x] w fun e w' => e = .returned (.bool true) ∧ ∃ w1, G w w1 ∧ w' = w1.setCell ⟨sb, s * 3 + 2, none⟩ (.int .u64 ((m ||| 2 ^ q : Nat) : Int)) := by
  have F := hide (fun w => bit_any m (q : Int) w hm (by omega) (by omega))
  have F2 := hide (fun w => bitset_any m q w hm hq)
  generalize bitI m q = b at *
  generalize m ||| 2 ^ q = y at *
  go_enter Tryz.func66, Tryz.ntmps66
  go_wp2_with fail
  refine (unhide C).mono ?_
  rintro e w1 ⟨rfl, g⟩
  have d1 := G.cell g (unhide c1)
  have x2 := G.cell g (unhide e2)
  have f2 := (World.frozen?_of_block (a := ⟨sb, s * 3 + 2, none⟩) (g.block sb (World.block_lt_of_cell? _ _ (unhide e2)))).trans (unhide f)
  replace g := hide g
  go_wp2_with fail
  refine (unhide F _).mono ?_
  rintro e w2 ⟨rfl, k, rfl⟩
  go_wp2_with fail
  refine (unhide F2 _).mono ?_
  rintro e w2 ⟨rfl, rfl⟩
  go_wp2_with fail
  go_ret
  exact ⟨rfl, w1.drewN k, below_drewN (unhide g) k, rfl⟩

theorem Ab.Good.spot {a : Ab} (h : a.Good) {x : Int} (hx : a.is x = true) : ∃ s p : Nat, gs x = s ∧ a.pl x = p ∧ 1 ≤ s ∧ s < a.n ∧ p < 64 ∧ (a.tk s).testBit p = true ∧ (p : Int) < gp (a.cls s) ∧ x = ga s p (a.cls s) ∧ 0 ≤ a.cls s ∧ a.isM x = (a.mr s).testBit p := by
  obtain ⟨s, p, h1, h2, h3, h4, h5, rfl⟩ := (Ab.is_iff h.ok x).1 hx
  have n1 := h.ok.n1
  obtain ⟨g0, g1, g2, g3⟩ := ga_at (s := s) (p := p) h1 (by omega) h3 (h.ok.cr s).2 h4
  have ep : a.pl (ga s p (a.cls s)) = p := by unfold Ab.pl; rw [g1, (a.I_at h1 h2).1, g2]
  have hp : (p : Int) ≤ 63 := by rw [← ep]; exact (gpl_r _ _).2
  refine ⟨s, p, g1, ep, h1, h2, by omega, h5, h4, rfl, h3, ?_⟩
  unfold Ab.isM
  rw [ep, g1, (a.I_at h1 h2).2.2]
  simp

theorem mark_at (w : World) (B : Nat) (d : Ad) (a : Ab) (h : AreAt w B d a) (g : a.Good) (x : Int) :
    Calls Tryz.prog 66 #[d.ptr, .int .i64 x] w fun e w' => e = .returned (.bool (a.markB x)) ∧ AreAt w' B d (a.markA x) ∧ Tn w w' d := by
  have C := find_at w B d a h g x
  unfold Ab.markA
  by_cases hx : a.is x = true
  · obtain ⟨s, p, e1, e2, h1, h2, h3, h4, h5, h6, h7, h8⟩ := g.spot hx
    rw [hx, e1, e2] at C
    rw [e1, e2]
    by_cases hm : (a.mr s).testBit p = true
    · have e : a.markB x = false := by unfold Ab.markB; rw [h8, hm]; simp
      rw [e, if_neg (by decide)]
      refine (mark_old w d.ab d.sb a.n d.cs s p (a.mr s) x h2 (g.mrb s) h3 (by unfold bitI; simp [hm]) (hide h.c1) (hide (h.s2 s h2)) (hide C)).mono ?_
      rintro e w' ⟨rfl, g1⟩
      exact ⟨rfl, h.grown g.ok.n0 g1, Tn.of_G g1⟩
    · simp only [Bool.not_eq_true] at hm
      have e : a.markB x = true := by unfold Ab.markB; rw [h8, hm, hx]; rfl
      rw [e, if_pos rfl]
      refine (mark_new w d.ab d.sb a.n d.cs s p (a.mr s) x h2 (g.mrb s) h3 (by unfold bitI; simp [hm]) (hide h.c1) (hide (h.s2 s h2)) (hide (h.fs _)) (hide C)).mono ?_
      rintro e w' ⟨rfl, w1, g1, rfl⟩
      have k1 := h.grown g.ok.n0 g1
      refine ⟨rfl, ?_, (Tn.of_G g1).set _ _ (Or.inr rfl)⟩
      simp only [Int.toNat_natCast]
      refine k1.span (s := s) rfl rfl (fun t ht => ⟨rfl, rfl, upd_other _ _ ht⟩) ?_ ?_ ?_ ?_ ?_
      · intro b i hb
        rw [cell_other _ (by omega)]
      · intro b i
        rw [World.frozen?_setCell]
      · rw [cell_other _ (by omega), k1.s0 s h2]; rfl
      · rw [cell_other _ (by omega), k1.s1 s h2]; rfl
      · rw [cell_same _ (k1.s2 s h2)]
        simp [Ab.mark, upd]
  · simp only [Bool.not_eq_true] at hx
    rw [hx] at C
    have e : a.markB x = false := by unfold Ab.markB; rw [hx]; rfl
    rw [e, if_neg (by decide)]
    refine (mark_no w _ x _ _ (hide C)).mono ?_
    rintro e w' ⟨rfl, g1⟩
    exact ⟨rfl, h.grown g.ok.n0 g1, Tn.of_G g1⟩

theorem Ab.Good.markA {a : Ab} (h : a.Good) (x : Int) : (a.markA x).Good := by
  unfold Ab.markA
  split
  · rename_i hm
    unfold Ab.markB at hm
    simp only [Bool.and_eq_true] at hm
    obtain ⟨s, p, e1, e2, _, _, _, h4, _⟩ := h.spot hm.1
    rw [e1, e2]
    exact h.mark h4
  · exact h
theorem Ab.Good.setA {a : Ab} (h : a.Good) (s c : Int) : (a.setA s c).Good := by
  unfold Ab.setA
  split
  · rename_i he
    unfold Ab.setE at he
    split at he
    · omega
    · rename_i hc
      exact h.set (by omega) (by omega) (by omega)
  · exact h
theorem Ab.Good.writeA {a : Ab} (h : a.Good) (x i v : Int) : (a.writeA x i v).Good := by
  unfold Ab.writeA
  split
  · exact h.write _ _
  · exact h
theorem Ab.Good.sweepA {a : Ab} (h : a.Good) (s : Int) : (a.sweepA s).Good := by
  unfold Ab.sweepA
  split
  · exact h.sweep _
  · exact h
end Go.Proofs.YtgflkpccddfalaaGreatDoor
