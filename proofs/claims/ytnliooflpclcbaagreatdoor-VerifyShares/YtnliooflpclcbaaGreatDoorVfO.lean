/- Package verify: broken. -/
import Derived.Test.YtnliooflpclcbaaGreatDoorMvC
import Derived.Test.YtnliooflpclcbaaGreatDoorVfRoles2
import Derived.Deep.DeepCutAuto
namespace Go.Proofs.YtnliooflpclcbaaGreatDoor
set_option maxRecDepth 100000
open Go.RowKit Go.Maps Go.ChangeShapes Go.WideShapes Go.ChangeAt Go.Deep

theorem BxI.gt {tb : Nat} {y z : World} {b : Nat} {x : It} {kv cv : Value} (h : BxI y b x kv cv) (g : Gt tb y z) (hb : b < y.heap.size) (hn : b ≠ tb) : BxI z b x kv cv :=
  ⟨g.cell h.c0 hb hn, g.cell h.c1 hb hn, g.cell h.c2 hb hn, g.cell h.c3 hb hn, g.cell h.c4 hb hn, g.cell h.c5 hb hn, g.cell h.c6 hb hn, g.cell h.c7 hb hn, g.cell h.c8 hb hn, g.cell h.c9 hb hn, g.cell h.c10 hb hn, g.cell h.c11 hb hn, g.cell h.c12 hb hn, g.cell h.c13 hb hn, g.cell h.c14 hb hn, g.cell h.c15 hb hn, g.cell h.c16 hb hn⟩
/-- The rule that an instruction breaks. -/
def ruleP (bN bB bM : Bool) : Int := if bN = false then 5 else if bB = false then 8 else if bM = false then 9 else 0
/-- An instruction's box. -/
def BxN (y : World) (b : Nat) (i : In) : Prop := y.cell? ⟨b, 0, none⟩ = some (.int .i64 i.op) ∧ y.cell? ⟨b, 1, none⟩ = some (.int .i64 i.a) ∧ y.cell? ⟨b, 2, none⟩ = some (.int .i64 i.b) ∧ y.cell? ⟨b, 3, none⟩ = some (.int .i64 i.c) ∧ y.cell? ⟨b, 4, none⟩ = some (.int .i64 i.d)
theorem BxN.g {y z : World} {b : Nat} {i : In} (h : BxN y b i) (g : G y z) : BxN z b i := ⟨g.cell h.1, g.cell h.2.1, g.cell h.2.2.1, g.cell h.2.2.2.1, g.cell h.2.2.2.2⟩
theorem BxN.gt {tb : Nat} {y z : World} {b : Nat} {i : In} (h : BxN y b i) (g : Gt tb y z) (hb : b < y.heap.size) (hn : b ≠ tb) : BxN z b i := ⟨g.cell h.1 hb hn, g.cell h.2.1 hb hn, g.cell h.2.2.1 hb hn, g.cell h.2.2.2.1 hb hn, g.cell h.2.2.2.2 hb hn⟩
set_option maxHeartbeats 1000000 in
/-- An Op that is none. -/
theorem broken_none (w : World) (jb pc L ib ioff ic : Nat) (i : In) (h11 : w.cell? ⟨jb, 11, none⟩ = some (.slice (some ⟨ib, ioff, none⟩) L ic)) (hpc : pc < L) (hi : CellsAt w ib (ioff + pc * 5) [.int .i64 i.op, .int .i64 i.a, .int .i64 i.b, .int .i64 i.c, .int .i64 i.d]) (hr : rolesP i.op = none) :
    Calls Tryz.prog 17 #[.pointer (some ⟨jb, 0, none⟩), .int .i64 (pc : Int)] w fun e w' => e = .returned (.int .i64 4) ∧ G w w' := by
  have CR : Hid (∀ y, Calls Tryz.prog 24 #[.int .i64 i.op] y fun e w' => e = .returned (.tuple #[.agg #[.int .u8 0, .int .u8 0, .int .u8 0, .int .u8 0], .bool false]) ∧ G y w') := hide fun y => by
    have h := roles_any y i.op
    rwa [hr] at h
  have e0 := hi 0 _ rfl
  have e1 := hi 1 _ rfl
  have e2 := hi 2 _ rfl
  have e3 := hi 3 _ rfl
  have e4 := hi 4 _ rfl
  simp only [Nat.add_zero] at e0
  have hp1 : (pc : Int) < (L : Int) := by omega
  have hp0 : ¬ (pc : Int) < 0 := by omega
  obtain ⟨op, a, b, c, d⟩ := i
  simp only at *
  clear hi hr
  obtain ⟨W1, hW1⟩ : ∃ W1, W1 = w.alloc (.cells #[.int .i64 op, .int .i64 a, .int .i64 b, .int .i64 c, .int .i64 d] 41) := ⟨_, rfl⟩
  have g1 : Hid (G w W1) := hide (by rw [hW1]; exact G.alloc _ _)
  have z0 : W1.cell? ⟨w.heap.size, 0, none⟩ = some (.int .i64 op) := by rw [hW1, World.cell?_alloc_new]; rfl
  go_enter Tryz.func17, Tryz.ntmps17
  go_upto_region 2 with fail
  rw [← hW1]
  clear hW1 e0 e1 e2 e3 e4 h11
  go_wp2_with fail
  refine (unhide CR _).mono ?_
  rintro e w2 ⟨rfl, g2⟩
  have gz := hide ((unhide g1).trans g2)
  clear CR g2 g1 z0
  go_wp2_with fail
  go_ret
  exact ⟨rfl, (unhide gz).more _⟩
/-- An Op that is one, whose slots are there, whose kinds fit, whose places are inside, whose writes are as they should be: worlds R ahead of its taking what it names, worlds R2 behind. -/
def WalkC (tb jb pc : Nat) (x : It) (q1 q2 q3 q4 q5 : Nat) (q6 : Int) (so : Option Addr) (sc : Nat) (go : Option Addr) (gc : Nat) (co : Option Addr) (cc : Nat) (ao : Option Addr) (ac : Nat) (fo : Option Addr) (fc : Nat) (ib ioff ic mso L : Nat) (msb mc mb v1 v2 : Nat) (R R2 : World → Prop) (OK : Value → Value → Prop) (bN bB : Bool) : Prop :=
  (∀ y z, R y → G y z → R z) ∧ (∀ y z, R2 y → G y z → R2 z) ∧
  (∀ y, R y → (y.cell? ⟨jb, 0, none⟩ = some (.slice so q2 sc) ∧ y.cell? ⟨jb, 1, none⟩ = some (.slice go q3 gc) ∧ y.cell? ⟨jb, 2, none⟩ = some (.slice co q4 cc) ∧ y.cell? ⟨jb, 3, none⟩ = some (.slice ao q1 ac) ∧ y.cell? ⟨jb, 4, none⟩ = some (.slice fo q5 fc) ∧ y.cell? ⟨jb, 5, none⟩ = some (.int .i64 q6)) ∧ y.cell? ⟨jb, 11, none⟩ = some (.slice (some ⟨ib, ioff, none⟩) L ic) ∧ CellsAt y ib (ioff + pc * 5) [.int .i64 x.i.op, .int .i64 x.i.a, .int .i64 x.i.b, .int .i64 x.i.c, .int .i64 x.i.d]) ∧
  (∀ y, R2 y → y.cell? ⟨jb, 12, none⟩ = some (.slice (some ⟨msb, mso, none⟩) L mc) ∧ y.cell? ⟨jb, 13, none⟩ = some (.slice (some ⟨mb, 0, none⟩) L L) ∧ y.cell? ⟨msb, mso + pc, none⟩ = some (.int .u64 (v1 : Int)) ∧ y.cell? ⟨mb, pc, none⟩ = some (.int .u64 (v2 : Int))) ∧
  (∀ y, R y → Calls Tryz.prog 25 #[.agg #[.slice so q2 sc, .slice go q3 gc, .slice co q4 cc, .slice ao q1 ac, .slice fo q5 fc, .int .i64 q6], .agg #[.int .i64 x.i.op, .int .i64 x.i.a, .int .i64 x.i.b, .int .i64 x.i.c, .int .i64 x.i.d], .agg #[.int .u8 (x.r.1 : Int), .int .u8 (x.r.2.1 : Int), .int .u8 (x.r.2.2.1 : Int), .int .u8 (x.r.2.2.2 : Int)]] y fun e w' => ∃ (ro : Option Addr) (rl rc2 : Nat) (co2 : Option Addr) (cl2 cc2 : Nat), e = .returned (.agg (itL x (.slice ro rl rc2) (.slice co2 cl2 cc2))) ∧ OK (.slice ro rl rc2) (.slice co2 cl2 cc2) ∧ G y w') ∧
  (∀ y kv cv, R y → OK kv cv → Calls Tryz.prog 26 #[.pointer (some ⟨jb, 0, none⟩), .agg (itL x kv cv)] y fun e w' => e = .returned (.bool true) ∧ G y w') ∧
  (∀ y kv cv, R y → OK kv cv → Calls Tryz.prog 27 #[.pointer (some ⟨jb, 0, none⟩), .agg (itL x kv cv)] y fun e w' => e = .returned (.bool bN) ∧ R2 w' ∧ Gt tb y w') ∧
  (∀ y kv cv, R2 y → OK kv cv → bN = true → Calls Tryz.prog 28 #[.pointer (some ⟨jb, 0, none⟩), .agg (itL x kv cv)] y fun e w' => e = .returned (.bool true) ∧ G y w') ∧
  (∀ y kv cv, R2 y → OK kv cv → bN = true → Calls Tryz.prog 29 #[.pointer (some ⟨jb, 0, none⟩), .int .i64 (pc : Int), .agg (itL x kv cv)] y fun e w' => e = .returned (.bool true) ∧ G y w') ∧
  (∀ y kv cv, R2 y → OK kv cv → bN = true → Calls Tryz.prog 30 #[.pointer (some ⟨jb, 0, none⟩), .int .i64 (pc : Int), .agg (itL x kv cv)] y fun e w' => e = .returned (.bool bB) ∧ G y w')
theorem bxi_put {z : World} {b : Nat} (x : It) (kv cv : Value) (h : Rb z b 17) : BxI (((((((((((((((((z.setCell ⟨b, 0, none⟩ (.int .i64 x.i.op)).setCell ⟨b, 1, none⟩ (.int .i64 x.i.a)).setCell ⟨b, 2, none⟩ (.int .i64 x.i.b)).setCell ⟨b, 3, none⟩ (.int .i64 x.i.c)).setCell ⟨b, 4, none⟩ (.int .i64 x.i.d)).setCell ⟨b, 5, none⟩ (.int .i64 x.i.a)).setCell ⟨b, 6, none⟩ (.int .i64 x.i.b)).setCell ⟨b, 7, none⟩ (.int .i64 x.i.c)).setCell ⟨b, 8, none⟩ (.int .i64 x.i.d)).setCell ⟨b, 9, none⟩ (.int .u8 (x.r.1 : Int))).setCell ⟨b, 10, none⟩ (.int .u8 (x.r.2.1 : Int))).setCell ⟨b, 11, none⟩ (.int .u8 (x.r.2.2.1 : Int))).setCell ⟨b, 12, none⟩ (.int .u8 (x.r.2.2.2 : Int))).setCell ⟨b, 13, none⟩ (.int .i64 x.first)).setCell ⟨b, 14, none⟩ (.int .i64 x.count)).setCell ⟨b, 15, none⟩ (kv)).setCell ⟨b, 16, none⟩ (cv)) b x kv cv := by
  obtain ⟨u0, e0⟩ := Option.isSome_iff_exists.1 (h.2.1 0 (by decide))
  have k0 := h.set 0 (by decide) (.int .i64 x.i.op)
  obtain ⟨u1, e1⟩ := Option.isSome_iff_exists.1 (k0.2.1 1 (by decide))
  have k1 := k0.set 1 (by decide) (.int .i64 x.i.a)
  obtain ⟨u2, e2⟩ := Option.isSome_iff_exists.1 (k1.2.1 2 (by decide))
  have k2 := k1.set 2 (by decide) (.int .i64 x.i.b)
  obtain ⟨u3, e3⟩ := Option.isSome_iff_exists.1 (k2.2.1 3 (by decide))
  have k3 := k2.set 3 (by decide) (.int .i64 x.i.c)
  obtain ⟨u4, e4⟩ := Option.isSome_iff_exists.1 (k3.2.1 4 (by decide))
  have k4 := k3.set 4 (by decide) (.int .i64 x.i.d)
  obtain ⟨u5, e5⟩ := Option.isSome_iff_exists.1 (k4.2.1 5 (by decide))
  have k5 := k4.set 5 (by decide) (.int .i64 x.i.a)
  obtain ⟨u6, e6⟩ := Option.isSome_iff_exists.1 (k5.2.1 6 (by decide))
  have k6 := k5.set 6 (by decide) (.int .i64 x.i.b)
  obtain ⟨u7, e7⟩ := Option.isSome_iff_exists.1 (k6.2.1 7 (by decide))
  have k7 := k6.set 7 (by decide) (.int .i64 x.i.c)
  obtain ⟨u8, e8⟩ := Option.isSome_iff_exists.1 (k7.2.1 8 (by decide))
  have k8 := k7.set 8 (by decide) (.int .i64 x.i.d)
  obtain ⟨u9, e9⟩ := Option.isSome_iff_exists.1 (k8.2.1 9 (by decide))
  have k9 := k8.set 9 (by decide) (.int .u8 (x.r.1 : Int))
  obtain ⟨u10, e10⟩ := Option.isSome_iff_exists.1 (k9.2.1 10 (by decide))
  have k10 := k9.set 10 (by decide) (.int .u8 (x.r.2.1 : Int))
  obtain ⟨u11, e11⟩ := Option.isSome_iff_exists.1 (k10.2.1 11 (by decide))
  have k11 := k10.set 11 (by decide) (.int .u8 (x.r.2.2.1 : Int))
  obtain ⟨u12, e12⟩ := Option.isSome_iff_exists.1 (k11.2.1 12 (by decide))
  have k12 := k11.set 12 (by decide) (.int .u8 (x.r.2.2.2 : Int))
  obtain ⟨u13, e13⟩ := Option.isSome_iff_exists.1 (k12.2.1 13 (by decide))
  have k13 := k12.set 13 (by decide) (.int .i64 x.first)
  obtain ⟨u14, e14⟩ := Option.isSome_iff_exists.1 (k13.2.1 14 (by decide))
  have k14 := k13.set 14 (by decide) (.int .i64 x.count)
  obtain ⟨u15, e15⟩ := Option.isSome_iff_exists.1 (k14.2.1 15 (by decide))
  have k15 := k14.set 15 (by decide) (kv)
  obtain ⟨u16, e16⟩ := Option.isSome_iff_exists.1 (k15.2.1 16 (by decide))
  have k16 := k15.set 16 (by decide) (cv)
  refine ⟨?_, ?_, ?_, ?_, ?_, ?_, ?_, ?_, ?_, ?_, ?_, ?_, ?_, ?_, ?_, ?_, ?_⟩
  · rw [cell_other _ (Or.inr (by decide)), cell_other _ (Or.inr (by decide)), cell_other _ (Or.inr (by decide)), cell_other _ (Or.inr (by decide)), cell_other _ (Or.inr (by decide)), cell_other _ (Or.inr (by decide)), cell_other _ (Or.inr (by decide)), cell_other _ (Or.inr (by decide)), cell_other _ (Or.inr (by decide)), cell_other _ (Or.inr (by decide)), cell_other _ (Or.inr (by decide)), cell_other _ (Or.inr (by decide)), cell_other _ (Or.inr (by decide)), cell_other _ (Or.inr (by decide)), cell_other _ (Or.inr (by decide)), cell_other _ (Or.inr (by decide))]
    exact cell_same _ e0
  · rw [cell_other _ (Or.inr (by decide)), cell_other _ (Or.inr (by decide)), cell_other _ (Or.inr (by decide)), cell_other _ (Or.inr (by decide)), cell_other _ (Or.inr (by decide)), cell_other _ (Or.inr (by decide)), cell_other _ (Or.inr (by decide)), cell_other _ (Or.inr (by decide)), cell_other _ (Or.inr (by decide)), cell_other _ (Or.inr (by decide)), cell_other _ (Or.inr (by decide)), cell_other _ (Or.inr (by decide)), cell_other _ (Or.inr (by decide)), cell_other _ (Or.inr (by decide)), cell_other _ (Or.inr (by decide))]
    exact cell_same _ e1
  · rw [cell_other _ (Or.inr (by decide)), cell_other _ (Or.inr (by decide)), cell_other _ (Or.inr (by decide)), cell_other _ (Or.inr (by decide)), cell_other _ (Or.inr (by decide)), cell_other _ (Or.inr (by decide)), cell_other _ (Or.inr (by decide)), cell_other _ (Or.inr (by decide)), cell_other _ (Or.inr (by decide)), cell_other _ (Or.inr (by decide)), cell_other _ (Or.inr (by decide)), cell_other _ (Or.inr (by decide)), cell_other _ (Or.inr (by decide)), cell_other _ (Or.inr (by decide))]
    exact cell_same _ e2
  · rw [cell_other _ (Or.inr (by decide)), cell_other _ (Or.inr (by decide)), cell_other _ (Or.inr (by decide)), cell_other _ (Or.inr (by decide)), cell_other _ (Or.inr (by decide)), cell_other _ (Or.inr (by decide)), cell_other _ (Or.inr (by decide)), cell_other _ (Or.inr (by decide)), cell_other _ (Or.inr (by decide)), cell_other _ (Or.inr (by decide)), cell_other _ (Or.inr (by decide)), cell_other _ (Or.inr (by decide)), cell_other _ (Or.inr (by decide))]
    exact cell_same _ e3
  · rw [cell_other _ (Or.inr (by decide)), cell_other _ (Or.inr (by decide)), cell_other _ (Or.inr (by decide)), cell_other _ (Or.inr (by decide)), cell_other _ (Or.inr (by decide)), cell_other _ (Or.inr (by decide)), cell_other _ (Or.inr (by decide)), cell_other _ (Or.inr (by decide)), cell_other _ (Or.inr (by decide)), cell_other _ (Or.inr (by decide)), cell_other _ (Or.inr (by decide)), cell_other _ (Or.inr (by decide))]
    exact cell_same _ e4
  · rw [cell_other _ (Or.inr (by decide)), cell_other _ (Or.inr (by decide)), cell_other _ (Or.inr (by decide)), cell_other _ (Or.inr (by decide)), cell_other _ (Or.inr (by decide)), cell_other _ (Or.inr (by decide)), cell_other _ (Or.inr (by decide)), cell_other _ (Or.inr (by decide)), cell_other _ (Or.inr (by decide)), cell_other _ (Or.inr (by decide)), cell_other _ (Or.inr (by decide))]
    exact cell_same _ e5
  · rw [cell_other _ (Or.inr (by decide)), cell_other _ (Or.inr (by decide)), cell_other _ (Or.inr (by decide)), cell_other _ (Or.inr (by decide)), cell_other _ (Or.inr (by decide)), cell_other _ (Or.inr (by decide)), cell_other _ (Or.inr (by decide)), cell_other _ (Or.inr (by decide)), cell_other _ (Or.inr (by decide)), cell_other _ (Or.inr (by decide))]
    exact cell_same _ e6
  · rw [cell_other _ (Or.inr (by decide)), cell_other _ (Or.inr (by decide)), cell_other _ (Or.inr (by decide)), cell_other _ (Or.inr (by decide)), cell_other _ (Or.inr (by decide)), cell_other _ (Or.inr (by decide)), cell_other _ (Or.inr (by decide)), cell_other _ (Or.inr (by decide)), cell_other _ (Or.inr (by decide))]
    exact cell_same _ e7
  · rw [cell_other _ (Or.inr (by decide)), cell_other _ (Or.inr (by decide)), cell_other _ (Or.inr (by decide)), cell_other _ (Or.inr (by decide)), cell_other _ (Or.inr (by decide)), cell_other _ (Or.inr (by decide)), cell_other _ (Or.inr (by decide)), cell_other _ (Or.inr (by decide))]
    exact cell_same _ e8
  · rw [cell_other _ (Or.inr (by decide)), cell_other _ (Or.inr (by decide)), cell_other _ (Or.inr (by decide)), cell_other _ (Or.inr (by decide)), cell_other _ (Or.inr (by decide)), cell_other _ (Or.inr (by decide)), cell_other _ (Or.inr (by decide))]
    exact cell_same _ e9
  · rw [cell_other _ (Or.inr (by decide)), cell_other _ (Or.inr (by decide)), cell_other _ (Or.inr (by decide)), cell_other _ (Or.inr (by decide)), cell_other _ (Or.inr (by decide)), cell_other _ (Or.inr (by decide))]
    exact cell_same _ e10
  · rw [cell_other _ (Or.inr (by decide)), cell_other _ (Or.inr (by decide)), cell_other _ (Or.inr (by decide)), cell_other _ (Or.inr (by decide)), cell_other _ (Or.inr (by decide))]
    exact cell_same _ e11
  · rw [cell_other _ (Or.inr (by decide)), cell_other _ (Or.inr (by decide)), cell_other _ (Or.inr (by decide)), cell_other _ (Or.inr (by decide))]
    exact cell_same _ e12
  · rw [cell_other _ (Or.inr (by decide)), cell_other _ (Or.inr (by decide)), cell_other _ (Or.inr (by decide))]
    exact cell_same _ e13
  · rw [cell_other _ (Or.inr (by decide)), cell_other _ (Or.inr (by decide))]
    exact cell_same _ e14
  · rw [cell_other _ (Or.inr (by decide))]
    exact cell_same _ e15
  · exact cell_same _ e16
theorem rv_or (v1 v2 : Nat) : (((v1 : Int) != (v2 : Int)) = false ∧ ((v1 : Int) == (v2 : Int)) = true ∧ Hid (ruleP true true (v1 == v2) = 0)) ∨ (((v1 : Int) != (v2 : Int)) = true ∧ ((v1 : Int) == (v2 : Int)) = false ∧ Hid (ruleP true true (v1 == v2) = 9)) := by
  by_cases h : v1 = v2
  · left
    subst h
    exact ⟨by simp, by simp, hide (by simp [ruleP])⟩
  · right
    have h2 : ¬ (v1 : Int) = (v2 : Int) := by omega
    exact ⟨by rw [bne_iff_ne]; exact h2, by rw [beq_eq_false_iff_ne]; exact h2, hide (by simp [ruleP, h])⟩
set_option maxHeartbeats 16000000 in
theorem broken_any (w : World) (tb jb pc : Nat) (x : It) (q1 q2 q3 q4 q5 : Nat) (q6 : Int) (so : Option Addr) (sc : Nat) (go : Option Addr) (gc : Nat) (co : Option Addr) (cc : Nat) (ao : Option Addr) (ac : Nat) (fo : Option Addr) (fc : Nat) (ib ioff ic mso L : Nat) (msb mc mb v1 v2 : Nat) (R R2 : World → Prop) (OK : Value → Value → Prop) (bN bB : Bool)
    (H : WalkC tb jb pc x q1 q2 q3 q4 q5 q6 so sc go gc co cc ao ac fo fc ib ioff ic mso L msb mc mb v1 v2 R R2 OK bN bB) (hR : R w) (htb : tb < w.heap.size) (hpc : pc < L) (hr : rolesP x.i.op = some x.r) (h29 : x.i.op ≠ 29) (h32 : x.i.op ≠ 32) :
    Calls Tryz.prog 17 #[.pointer (some ⟨jb, 0, none⟩), .int .i64 (pc : Int)] w fun e w' => e = .returned (.int .i64 (ruleP bN bB (v1 == v2))) ∧ R2 w' ∧ Gt tb w w' := by
  obtain ⟨cl, cl2, cR, cR2, HI, HS, HN, HK, HW, HB⟩ := H
  have hvv := rv_or v1 v2
  have CR : Hid (∀ y, Calls Tryz.prog 24 #[.int .i64 x.i.op] y fun e w' => e = .returned (.tuple #[.agg #[.int .u8 (x.r.1 : Int), .int .u8 (x.r.2.1 : Int), .int .u8 (x.r.2.2.1 : Int), .int .u8 (x.r.2.2.2 : Int)], .bool true]) ∧ G y w') := hide fun y => by
    have h := roles_any y x.i.op
    rwa [hr] at h
  have CB : Hid (∀ y, Calls Tryz.prog 31 #[.pointer (some ⟨jb, 0, none⟩), .int .i64 (pc : Int), .agg #[.int .i64 x.i.op, .int .i64 x.i.a, .int .i64 x.i.b, .int .i64 x.i.c, .int .i64 x.i.d]] y fun e w' => e = .returned (.bool true) ∧ G y w') := hide fun y => barrier_any y _ _ x.i h29 h32
  obtain ⟨m0, h11, hi⟩ := cR w hR
  have e0 := hi 0 _ rfl
  have e1 := hi 1 _ rfl
  have e2 := hi 2 _ rfl
  have e3 := hi 3 _ rfl
  have e4 := hi 4 _ rfl
  simp only [Nat.add_zero] at e0
  have hp1 : (pc : Int) < (L : Int) := by omega
  have hp0 : ¬ (pc : Int) < 0 := by omega
  obtain ⟨W1, hW1⟩ : ∃ W1, W1 = w.alloc (.cells #[.int .i64 x.i.op, .int .i64 x.i.a, .int .i64 x.i.b, .int .i64 x.i.c, .int .i64 x.i.d] 41) := ⟨_, rfl⟩
  have g1 : G w W1 := by rw [hW1]; exact G.alloc _ _
  have NB : BxN W1 w.heap.size x.i := by
    refine ⟨?_, ?_, ?_, ?_, ?_⟩ <;> (rw [hW1, World.cell?_alloc_new]; rfl)
  have l1 : w.heap.size < W1.heap.size := by rw [hW1, World.size_alloc]; omega
  have R1 := cl _ _ hR g1
  have z0 := NB.1
  clear m0 hi hr h29 h32
  replace cl := hide cl
  replace cl2 := hide cl2
  replace cR := hide cR
  replace cR2 := hide cR2
  replace HI := hide HI
  replace HS := hide HS
  replace HN := hide HN
  replace HK := hide HK
  replace HW := hide HW
  replace HB := hide HB
  replace R1 := hide R1
  replace NB := hide NB
  replace g1 := hide g1
  clear hR
  go_enter Tryz.func17, Tryz.ntmps17
  go_upto_region 2 with fail
  rw [← hW1]
  clear hW1 e0 e1 e2 e3 e4 h11
  go_wp2_with fail
  refine (unhide CR _).mono ?_
  rintro e w2 ⟨rfl, g2⟩
  clear CR
  go_upto_region 5 with fail
  obtain ⟨W2, hW2⟩ : ∃ W2, W2 = w2.alloc (.cells #[.int .u8 (x.r.1 : Int), .int .u8 (x.r.2.1 : Int), .int .u8 (x.r.2.2.1 : Int), .int .u8 (x.r.2.2.2 : Int)] 72) := ⟨_, rfl⟩
  have g12 : G W1 W2 := by rw [hW2]; exact g2.more _
  have rb : ∀ k v, #[.int .u8 (x.r.1 : Int), .int .u8 (x.r.2.1 : Int), .int .u8 (x.r.2.2.1 : Int), .int .u8 (x.r.2.2.2 : Int)][k]? = some v → W2.cell? ⟨w2.heap.size, k, none⟩ = some v := fun k v h => by rw [hW2, World.cell?_alloc_new]; exact h
  have r0 := rb 0 _ rfl
  have r1 := rb 1 _ rfl
  have r2 := rb 2 _ rfl
  have r3 := rb 3 _ rfl
  rw [← hW2]
  clear hW2 rb
  have R2' : Hid (R W2) := hide (unhide cl _ _ (unhide R1) g12)
  have l2 := Nat.lt_of_lt_of_le l1 g12.size
  have NB2 := hide ((unhide NB).g g12)
  have GW := hide ((unhide g1).trans g12)
  clear g12 g2 R1 NB g1 z0
  go_cut [8] (fun v8 wx => ∃ b kv cv, v8 = .pointer (some ⟨b, 0, none⟩) ∧ w.heap.size ≤ b ∧ b < wx.heap.size ∧ Hid (BxI wx b x kv cv) ∧ Hid (BxN wx w.heap.size x.i) ∧ Hid (OK kv cv) ∧ Hid (R wx) ∧ Hid (G w wx))
  case first =>
    have KP : Hid (∀ y z, (R y ∧ BxN y w.heap.size x.i ∧ (y.cell? ⟨w2.heap.size, 0, none⟩ = some (.int .u8 (x.r.1 : Int)) ∧ y.cell? ⟨w2.heap.size, 1, none⟩ = some (.int .u8 (x.r.2.1 : Int)) ∧ y.cell? ⟨w2.heap.size, 2, none⟩ = some (.int .u8 (x.r.2.2.1 : Int)) ∧ y.cell? ⟨w2.heap.size, 3, none⟩ = some (.int .u8 (x.r.2.2.2 : Int)))) → G y z → (R z ∧ BxN z w.heap.size x.i ∧ (z.cell? ⟨w2.heap.size, 0, none⟩ = some (.int .u8 (x.r.1 : Int)) ∧ z.cell? ⟨w2.heap.size, 1, none⟩ = some (.int .u8 (x.r.2.1 : Int)) ∧ z.cell? ⟨w2.heap.size, 2, none⟩ = some (.int .u8 (x.r.2.2.1 : Int)) ∧ z.cell? ⟨w2.heap.size, 3, none⟩ = some (.int .u8 (x.r.2.2.2 : Int))))) := hide fun y z h g => ⟨unhide cl _ _ h.1 g, h.2.1.g g, g.cell h.2.2.1, g.cell h.2.2.2.1, g.cell h.2.2.2.2.1, g.cell h.2.2.2.2.2⟩
    refine wp_region_noPanic ?_
    refine wp_region_held_drew (S := fun y => R y ∧ BxN y w.heap.size x.i ∧ (y.cell? ⟨w2.heap.size, 0, none⟩ = some (.int .u8 (x.r.1 : Int)) ∧ y.cell? ⟨w2.heap.size, 1, none⟩ = some (.int .u8 (x.r.2.1 : Int)) ∧ y.cell? ⟨w2.heap.size, 2, none⟩ = some (.int .u8 (x.r.2.2.1 : Int)) ∧ y.cell? ⟨w2.heap.size, 3, none⟩ = some (.int .u8 (x.r.2.2.2 : Int)))) (by kernel_rfl) (unhide KP _ _ ⟨unhide R2', unhide NB2, r0, r1, r2, r3⟩ (G.drewN W2 1)) (fun hHeld => ?_)
    have g2y : G W2 W2.drew := G.drewN W2 1
    obtain ⟨y1, hy1⟩ : ∃ y, y = W2.drew := ⟨_, rfl⟩
    rw [← hy1] at hHeld g2y ⊢
    clear hy1 r0 r1 r2 r3
    refine wpAnyH_take (i := 0) (v := .pointer (some ⟨jb, 0, none⟩)) rfl (by kernel_rfl) (by kernel_rfl) (by kernel_rfl) (fun _ _ _ h => h) (Or.inl ⟨by rfl, fun w hSw => by go_simp⟩) (by assumption) ?_
    try simp only [Act.put, List.getElem_toArray, List.getElem_cons_zero, List.setIfInBounds_toArray, List.set_cons_zero, List.set_cons_succ]
    refine wpAnyH_take (i := 1) (v := .pointer (some ⟨jb, 0, none⟩)) rfl (by kernel_rfl) (by kernel_rfl) (by kernel_rfl) (fun _ _ _ h => h) (Or.inl ⟨by rfl, fun w hSw => by go_simp⟩) (by assumption) ?_
    try simp only [Act.put, List.getElem_toArray, List.getElem_cons_succ, List.getElem_cons_zero, List.setIfInBounds_toArray, List.set_cons_zero, List.set_cons_succ]
    refine wpAnyH_take (i := 2) (v := .pointer (some ⟨jb, 0, none⟩)) rfl (by kernel_rfl) (by kernel_rfl) (by kernel_rfl) (fun _ _ _ h => h) (Or.inl ⟨by rfl, fun w hSw => by go_simp⟩) (by assumption) ?_
    try simp only [Act.put, List.getElem_toArray, List.getElem_cons_succ, List.getElem_cons_zero, List.setIfInBounds_toArray, List.set_cons_zero, List.set_cons_succ]
    refine wpAnyH_take (i := 3) (v := .agg #[.slice so q2 sc, .slice go q3 gc, .slice co q4 cc, .slice ao q1 ac, .slice fo q5 fc, .int .i64 q6]) rfl (by kernel_rfl) (by kernel_rfl) (by kernel_rfl) (fun _ _ _ h => h) (Or.inl ⟨by rfl, fun w hSw => by obtain ⟨⟨h0, h1, h2, h3, h4, h5⟩, -, -⟩ := unhide cR w hSw.1; go_simp⟩) (by assumption) ?_
    try simp only [Act.put, List.getElem_toArray, List.getElem_cons_succ, List.getElem_cons_zero, List.setIfInBounds_toArray, List.set_cons_zero, List.set_cons_succ]
    refine wpAnyH_take (i := 4) (v := .agg #[.int .i64 x.i.op, .int .i64 x.i.a, .int .i64 x.i.b, .int .i64 x.i.c, .int .i64 x.i.d]) rfl (by kernel_rfl) (by kernel_rfl) (by kernel_rfl) (fun _ _ _ h => h) (Or.inl ⟨by rfl, fun w hSw => by obtain ⟨h0, h1, h2, h3, h4⟩ := hSw.2.1; go_simp⟩) (by assumption) ?_
    try simp only [Act.put, List.getElem_toArray, List.getElem_cons_succ, List.getElem_cons_zero, List.setIfInBounds_toArray, List.set_cons_zero, List.set_cons_succ]
    refine wpAnyH_take (i := 5) (v := .agg #[.int .u8 (x.r.1 : Int), .int .u8 (x.r.2.1 : Int), .int .u8 (x.r.2.2.1 : Int), .int .u8 (x.r.2.2.2 : Int)]) rfl (by kernel_rfl) (by kernel_rfl) (by kernel_rfl) (fun _ _ _ h => h) (Or.inl ⟨by rfl, fun w hSw => by obtain ⟨h0, h1, h2, h3⟩ := hSw.2.2; go_simp⟩) (by assumption) ?_
    try simp only [Act.put, List.getElem_toArray, List.getElem_cons_succ, List.getElem_cons_zero, List.setIfInBounds_toArray, List.set_cons_zero, List.set_cons_succ]
    refine wpAnyH_ready (rs := [6, 7]) (by kernel_rfl) (by simp) ?_
    refine AllReadyH.cons rfl (fun K hK => ?_) (AllReadyH.cons rfl (fun K hK => ?_) AllReadyH.nil)
    · have hS0 := hHeld
      go_simp
      refine (unhide HI _ hS0.1).mono ?_
      rintro e x1 ⟨ro, rl, rc2, co2, cls, cc2, rfl, hok, gc⟩
      replace hok := hide hok
      go_wp2_with fail
      refine hK.out _ _ (unhide KP _ _ hS0 gc) (fun hH1 => ?_)
      have gw1 := hide ((unhide GW).trans (g2y.trans gc))
      clear hK K
      try simp only [Act.put, List.getElem_toArray, List.getElem_cons_succ, List.getElem_cons_zero, List.setIfInBounds_toArray, List.set_cons_zero, List.set_cons_succ]
      refine wpAnyH_ready (rs := [7]) (by kernel_rfl) (by simp) ?_
      refine AllReadyH.cons rfl (fun K hK => ?_) AllReadyH.nil
      go_wp2_with fail
      refine hK.out _ _ (unhide KP _ _ hH1 (G.alloc x1 _)) (fun hH2 => ?_)
      clear hK K
      try simp only [Act.put, List.getElem_toArray, List.getElem_cons_succ, List.getElem_cons_zero, List.setIfInBounds_toArray, List.set_cons_zero, List.set_cons_succ]
      refine wpAnyH_ready (rs := [8]) (by kernel_rfl) (by simp) ?_
      refine AllReadyH.cons rfl (fun K hK => ?_) AllReadyH.nil
      go_wp2_with fail
      refine hK.out _ _ (unhide KP _ _ hH1 (G.alloc x1 _)) (fun hH3 => ?_)
      have hB := hide (bxi_new x1 x (.slice ro rl rc2) (.slice co2 cls cc2))
      have gz := hide ((unhide gw1).more (.cells (itL x (.slice ro rl rc2) (.slice co2 cls cc2)) 79))
      clear hK K
      try simp only [Act.put, List.getElem_toArray, List.getElem_cons_succ, List.getElem_cons_zero, List.setIfInBounds_toArray, List.set_cons_zero, List.set_cons_succ]
      refine wpAnyH_done (by kernel_rfl) (NoPanic.normal ?_) _
      go_wp2_with fail
      go_meet
      exact ⟨x1.heap.size, _, _, rfl, (unhide gw1).size, by rw [World.size_alloc]; omega, hB, hide hH3.2.1, hok, hide hH3.1, gz⟩
    · have hS0 := hHeld
      go_wp2_with fail
      refine hK.out _ _ (unhide KP _ _ hS0 (G.alloc y1 _)) (fun hH1 => ?_)
      clear hK K
      try simp only [Act.put, List.getElem_toArray, List.getElem_cons_succ, List.getElem_cons_zero, List.setIfInBounds_toArray, List.set_cons_zero, List.set_cons_succ]
      refine wpAnyH_ready (rs := [6]) (by kernel_rfl) (by simp) ?_
      refine AllReadyH.cons rfl (fun K hK => ?_) AllReadyH.nil
      go_simp
      refine (unhide HI _ hH1.1).mono ?_
      rintro e x2 ⟨ro, rl, rc2, co2, cls, cc2, rfl, hok, gc⟩
      replace hok := hide hok
      go_wp2_with fail
      refine hK.out _ _ (unhide KP _ _ hH1 gc) (fun hH2 => ?_)
      clear hK K
      try simp only [Act.put, List.getElem_toArray, List.getElem_cons_succ, List.getElem_cons_zero, List.setIfInBounds_toArray, List.set_cons_zero, List.set_cons_succ]
      refine wpAnyH_ready (rs := [8]) (by kernel_rfl) (by simp) ?_
      refine AllReadyH.cons rfl (fun K hK => ?_) AllReadyH.nil
      have HRb : Rb (y1.alloc (.cells #[.int .i64 0, .int .i64 0, .int .i64 0, .int .i64 0, .int .i64 0, .int .i64 0, .int .i64 0, .int .i64 0, .int .i64 0, .int .u8 0, .int .u8 0, .int .u8 0, .int .u8 0, .int .i64 0, .int .i64 0, .slice none 0 0, .slice none 0 0] 79)) y1.heap.size 17 := by
        have hh := heap_alloc_new y1 (.cells #[.int .i64 0, .int .i64 0, .int .i64 0, .int .i64 0, .int .i64 0, .int .i64 0, .int .i64 0, .int .i64 0, .int .i64 0, .int .u8 0, .int .u8 0, .int .u8 0, .int .u8 0, .int .i64 0, .int .i64 0, .slice none 0 0, .slice none 0 0] 79)
        refine ⟨by rw [World.size_alloc]; omega, fun i hi => by rw [World.cell?_alloc_new]; simp [hi], fun i => ?_⟩
        unfold World.frozen?
        rw [hh]
        simp
      have HR2 := HRb.g gc
      have gw1 := hide ((unhide GW).trans (g2y.trans ((G.alloc y1 _).trans gc)))
      obtain ⟨u0, e0⟩ := Option.isSome_iff_exists.1 (HR2.2.1 0 (by decide))
      have z0 := HR2.2.2 0
      obtain ⟨u1, e1⟩ := Option.isSome_iff_exists.1 (HR2.2.1 1 (by decide))
      have z1 := HR2.2.2 1
      obtain ⟨u2, e2⟩ := Option.isSome_iff_exists.1 (HR2.2.1 2 (by decide))
      have z2 := HR2.2.2 2
      obtain ⟨u3, e3⟩ := Option.isSome_iff_exists.1 (HR2.2.1 3 (by decide))
      have z3 := HR2.2.2 3
      obtain ⟨u4, e4⟩ := Option.isSome_iff_exists.1 (HR2.2.1 4 (by decide))
      have z4 := HR2.2.2 4
      obtain ⟨u5, e5⟩ := Option.isSome_iff_exists.1 (HR2.2.1 5 (by decide))
      have z5 := HR2.2.2 5
      obtain ⟨u6, e6⟩ := Option.isSome_iff_exists.1 (HR2.2.1 6 (by decide))
      have z6 := HR2.2.2 6
      obtain ⟨u7, e7⟩ := Option.isSome_iff_exists.1 (HR2.2.1 7 (by decide))
      have z7 := HR2.2.2 7
      obtain ⟨u8, e8⟩ := Option.isSome_iff_exists.1 (HR2.2.1 8 (by decide))
      have z8 := HR2.2.2 8
      obtain ⟨u9, e9⟩ := Option.isSome_iff_exists.1 (HR2.2.1 9 (by decide))
      have z9 := HR2.2.2 9
      obtain ⟨u10, e10⟩ := Option.isSome_iff_exists.1 (HR2.2.1 10 (by decide))
      have z10 := HR2.2.2 10
      obtain ⟨u11, e11⟩ := Option.isSome_iff_exists.1 (HR2.2.1 11 (by decide))
      have z11 := HR2.2.2 11
      obtain ⟨u12, e12⟩ := Option.isSome_iff_exists.1 (HR2.2.1 12 (by decide))
      have z12 := HR2.2.2 12
      obtain ⟨u13, e13⟩ := Option.isSome_iff_exists.1 (HR2.2.1 13 (by decide))
      have z13 := HR2.2.2 13
      obtain ⟨u14, e14⟩ := Option.isSome_iff_exists.1 (HR2.2.1 14 (by decide))
      have z14 := HR2.2.2 14
      obtain ⟨u15, e15⟩ := Option.isSome_iff_exists.1 (HR2.2.1 15 (by decide))
      have z15 := HR2.2.2 15
      obtain ⟨u16, e16⟩ := Option.isSome_iff_exists.1 (HR2.2.1 16 (by decide))
      have z16 := HR2.2.2 16
      have gyx : G y1 x2 := (G.alloc y1 _).trans gc
      have hB := hide (bxi_put x (.slice ro rl rc2) (.slice co2 cls cc2) HR2)
      have gset := (((((((((((((((((gyx.set _ 0 (.int .i64 x.i.op) (Nat.le_refl _)).set _ 1 (.int .i64 x.i.a) (Nat.le_refl _)).set _ 2 (.int .i64 x.i.b) (Nat.le_refl _)).set _ 3 (.int .i64 x.i.c) (Nat.le_refl _)).set _ 4 (.int .i64 x.i.d) (Nat.le_refl _)).set _ 5 (.int .i64 x.i.a) (Nat.le_refl _)).set _ 6 (.int .i64 x.i.b) (Nat.le_refl _)).set _ 7 (.int .i64 x.i.c) (Nat.le_refl _)).set _ 8 (.int .i64 x.i.d) (Nat.le_refl _)).set _ 9 (.int .u8 (x.r.1 : Int)) (Nat.le_refl _)).set _ 10 (.int .u8 (x.r.2.1 : Int)) (Nat.le_refl _)).set _ 11 (.int .u8 (x.r.2.2.1 : Int)) (Nat.le_refl _)).set _ 12 (.int .u8 (x.r.2.2.2 : Int)) (Nat.le_refl _)).set _ 13 (.int .i64 x.first) (Nat.le_refl _)).set _ 14 (.int .i64 x.count) (Nat.le_refl _)).set _ 15 ((.slice ro rl rc2)) (Nat.le_refl _)).set _ 16 ((.slice co2 cls cc2)) (Nat.le_refl _))
      go_wp2_with fail
      refine hK.out _ _ (unhide KP _ _ hS0 (by exact gset)) (fun hH3 => ?_)
      have gz := hide (((unhide GW).trans g2y).trans gset)
      clear hK K
      try simp only [Act.put, List.getElem_toArray, List.getElem_cons_succ, List.getElem_cons_zero, List.setIfInBounds_toArray, List.set_cons_zero, List.set_cons_succ]
      refine wpAnyH_done (by kernel_rfl) (NoPanic.normal ?_) _
      go_wp2_with fail
      go_meet
      exact ⟨y1.heap.size, _, _, rfl, ((unhide GW).trans g2y).size, Nat.lt_of_lt_of_le HR2.1 (by simp [World.size_setCell]), hB, hide hH3.2.1, hok, hide hH3.1, gz⟩
  case rest =>
    obtain ⟨b, kv, cv, rfl, hb0, hL0, hB0, hN0, hok, hR0, hG0⟩ := hcut
    have hbt : b ≠ tb := by omega
    have hwt : w.heap.size ≠ tb := by omega
    have hM0 : w.heap.size < wc.heap.size := by omega
    clear hb0
    have C := hide (unhide HS _ kv cv (unhide hR0) (unhide hok))
    go_wp2_with (refine wpl_ldi rfl (.tmp 8) rfl b x kv cv rfl (unhide hB0) ?_)
    refine (unhide C).mono ?_
    rintro e x3 ⟨rfl, g9⟩
    have hBx3 := hide ((unhide hB0).g g9)
    have hNx3 := hide ((unhide hN0).g g9)
    have hRx3 := hide (unhide cl _ _ (unhide hR0) g9)
    have hGx3 := hide ((unhide hG0).trans g9)
    have hLx3 := Nat.lt_of_lt_of_le hL0 g9.size
    have hMx3 := Nat.lt_of_lt_of_le hM0 g9.size
    clear C g9 hB0 hN0 hR0 hL0 hM0
    as_aux_lemma =>
      have C := hide (unhide HN _ kv cv (unhide hRx3) (unhide hok))
      go_wp2_with (refine wpl_ldi rfl (.tmp 8) rfl b x kv cv rfl (unhide hBx3) ?_)
      refine (unhide C).mono ?_
      rintro e x4 ⟨rfl, hR2, hgt⟩
      have hBx4 := hide ((unhide hBx3).gt hgt hLx3 hbt)
      have hNx4 := hide ((unhide hNx3).gt hgt hMx3 hwt)
      have hRx4 := hide hR2
      have hGx4 := hide (((unhide hGx3).gt (tb := tb)).trans hgt)
      have hLx4 := Nat.lt_of_lt_of_le hLx3 hgt.size
      have hMx4 := Nat.lt_of_lt_of_le hMx3 hgt.size
      clear C hgt hR2 hBx3 hNx3 hRx3 hLx3 hMx3
      cases bN
      · go_wp2_with fail
        go_ret
        exact ⟨rfl, unhide hRx4, unhide hGx4⟩
      as_aux_lemma =>
        have C := hide (unhide HK _ kv cv (unhide hRx4) (unhide hok) rfl)
        go_wp2_with (refine wpl_ldi rfl (.tmp 8) rfl b x kv cv rfl (unhide hBx4) ?_)
        refine (unhide C).mono ?_
        rintro e x5 ⟨rfl, g9⟩
        have hBx5 := hide ((unhide hBx4).g g9)
        have hNx5 := hide ((unhide hNx4).g g9)
        have hRx5 := hide (unhide cl2 _ _ (unhide hRx4) g9)
        have hGx5 := hide ((unhide hGx4).trans g9.gt)
        have hLx5 := Nat.lt_of_lt_of_le hLx4 g9.size
        have hMx5 := Nat.lt_of_lt_of_le hMx4 g9.size
        clear C g9 hBx4 hNx4 hRx4 hLx4 hMx4
        as_aux_lemma =>
          have C := hide (unhide HW _ kv cv (unhide hRx5) (unhide hok) (by trivial))
          go_wp2_with (refine wpl_ldi rfl (.tmp 8) rfl b x kv cv rfl (unhide hBx5) ?_)
          refine (unhide C).mono ?_
          rintro e x6 ⟨rfl, g9⟩
          have hBx6 := hide ((unhide hBx5).g g9)
          have hNx6 := hide ((unhide hNx5).g g9)
          have hRx6 := hide (unhide cl2 _ _ (unhide hRx5) g9)
          have hGx6 := hide ((unhide hGx5).trans g9.gt)
          have hLx6 := Nat.lt_of_lt_of_le hLx5 g9.size
          have hMx6 := Nat.lt_of_lt_of_le hMx5 g9.size
          clear C g9 hBx5 hNx5 hRx5 hLx5 hMx5
          as_aux_lemma =>
            have C := hide (unhide HB _ kv cv (unhide hRx6) (unhide hok) (by trivial))
            go_wp2_with (refine wpl_ldi rfl (.tmp 8) rfl b x kv cv rfl (unhide hBx6) ?_)
            refine (unhide C).mono ?_
            rintro e x7 ⟨rfl, g9⟩
            have hBx7 := hide ((unhide hBx6).g g9)
            have hNx7 := hide ((unhide hNx6).g g9)
            have hRx7 := hide (unhide cl2 _ _ (unhide hRx6) g9)
            have hGx7 := hide ((unhide hGx6).trans g9.gt)
            have hLx7 := Nat.lt_of_lt_of_le hLx6 g9.size
            have hMx7 := Nat.lt_of_lt_of_le hMx6 g9.size
            clear C g9 hBx6 hNx6 hRx6 hLx6 hMx6
            cases bB
            · go_wp2_with fail
              go_ret
              exact ⟨rfl, unhide hRx7, unhide hGx7⟩
            as_aux_lemma =>
              obtain ⟨d12, d13, d1, d2⟩ := unhide cR2 _ (unhide hRx7)
              clear cl cR cR2 HI HS HN HK HW HB hBx7 hok hG0
              go_upto_region 16 with fail
              rcases hvv with ⟨hv1, hv3, hv2⟩ | ⟨hv1, hv3, hv2⟩
              · skip
                obtain ⟨n0, n1, n2, n3, n4⟩ := unhide hNx7
                go_quiet (fail)
                go_wp2_with fail
                refine (unhide CB _).mono ?_
                rintro e x9 ⟨rfl, g9⟩
                have gz := hide ((G.drewN x7 _).trans g9)
                clear g9 n0 n1 n2 n3 n4 d12 d13 d1 d2
                go_wp2_with fail
                go_ret
                exact ⟨by rw [unhide hv2]; rfl, unhide cl2 _ _ (unhide hRx7) (unhide gz), (unhide hGx7).trans (unhide gz).gt⟩
              · skip
                go_quiet (fail)
                go_wp2_with fail
                go_ret
                exact ⟨by rw [unhide hv2]; rfl, unhide cl2 _ _ (unhide hRx7) (G.drewN _ _), (unhide hGx7).trans (G.drewN _ _).gt⟩
end Go.Proofs.YtnliooflpclcbaaGreatDoor
