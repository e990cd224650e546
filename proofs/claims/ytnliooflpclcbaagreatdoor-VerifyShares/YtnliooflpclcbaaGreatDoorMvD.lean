/- Here, one behind the other: VfG, VfM, VfQ, VfQ2, VfR, VfU, VfOne, VfOne2, VfT, VfS, VfAw, VkW, VkM, VkS, VkA, VkH. -/
import Derived.Test.YtnliooflpclcbaaGreatDoorVfL
import Derived.Test.YtnliooflpclcbaaGreatDoorCodeLay
import Derived.Test.YtnliooflpclcbaaGreatDoorMvC
import Derived.Test.YtnliooflpclcbaaGreatDoorVfK
import Derived.Test.YtnliooflpclcbaaGreatDoorVfO
import Derived.Test.YtnliooflpclcbaaGreatDoorVfE5
import Derived.Laws.OwnMore
import Derived.BigRegion
import Derived.Deep.DeepCutAuto
import Derived.Deep.RegionHeld3
import Derived.Deep.RegionWith
/- Package verify: rules 1 to 3. -/
namespace Go.Proofs.YtnliooflpclcbaaGreatDoor
set_option maxRecDepth 100000
open Go.RowKit Go.Maps Go.ChangeShapes Go.WideShapes Go.ChangeAt Go.Deep

/-- Rule 3's slots. -/
def slP (f : Fn) : Bool := decide (0 ≤ f.p) && (decide (0 ≤ f.c) && (decide (f.c ≤ 62) && (decide (f.s ≤ 64) && (decide ((f.ks.length : Int) = f.s) && decide (f.p ≤ f.s - f.c)))))
def fgP (f : Fn) : Bool := slP f && (decide (0 ≤ f.r) && (decide (f.r ≤ 2) && (decide (1 ≤ f.is.length) && (decide (f.is.length ≤ 4096) && decide (f.ms.length = f.is.length)))))
def BxF (y : World) (b : Nat) (f : Fn) (kv iv mv : Value) : Prop := y.cell? ⟨b, 0, none⟩ = some (.int .i64 f.p) ∧ y.cell? ⟨b, 1, none⟩ = some (.int .i64 f.c) ∧ y.cell? ⟨b, 2, none⟩ = some (.int .i64 f.s) ∧ y.cell? ⟨b, 3, none⟩ = some (.int .i64 f.r) ∧ y.cell? ⟨b, 4, none⟩ = some kv ∧ y.cell? ⟨b, 5, none⟩ = some iv ∧ y.cell? ⟨b, 6, none⟩ = some mv
theorem bxf_new (w : World) (f : Fn) (kv iv mv : Value) : BxF (w.alloc (.cells #[.int .i64 f.p, .int .i64 f.c, .int .i64 f.s, .int .i64 f.r, kv, iv, mv] 39)) w.heap.size f kv iv mv := by
  refine ⟨?_, ?_, ?_, ?_, ?_, ?_, ?_⟩ <;> (rw [World.cell?_alloc_new]; rfl)
theorem BxF.g {y z : World} {b : Nat} {f : Fn} {kv iv mv : Value} (h : BxF y b f kv iv mv) (g : G y z) : BxF z b f kv iv mv := ⟨g.cell h.1, g.cell h.2.1, g.cell h.2.2.1, g.cell h.2.2.2.1, g.cell h.2.2.2.2.1, g.cell h.2.2.2.2.2.1, g.cell h.2.2.2.2.2.2⟩
set_option maxHeartbeats 2000000 in
theorem slotsGood_any (w : World) (f : Fn) (ko : Option Addr) (kc : Nat) (iv mv : Value) : Calls Tryz.prog 23 #[.agg #[.int .i64 f.p, .int .i64 f.c, .int .i64 f.s, .int .i64 f.r, .slice ko f.ks.length kc, iv, mv]] w fun e w' => e = .returned (.bool (slP f)) ∧ G w w' := by
  obtain ⟨p, c, s, r, ks, is, ms⟩ := f
  have hB := bxf_new w ⟨p, c, s, r, ks, is, ms⟩ (.slice ko ks.length kc) iv mv
  simp only at hB ⊢
  obtain ⟨W1, hW1⟩ : ∃ W1, W1 = w.alloc (.cells #[.int .i64 p, .int .i64 c, .int .i64 s, .int .i64 r, .slice ko ks.length kc, iv, mv] 39) := ⟨_, rfl⟩
  rw [← hW1] at hB
  have g1 : Hid (G w W1) := hide (by rw [hW1]; exact G.alloc _ _)
  obtain ⟨q0, q1, q2, q3, q4, -, -⟩ := hB
  simp only at q0 q1 q2 q3
  have hu : slP ⟨p, c, s, r, ks, is, ms⟩ = (decide (0 ≤ p) && (decide (0 ≤ c) && (decide (c ≤ 62) && (decide (s ≤ 64) && (decide ((ks.length : Int) = s) && decide (p ≤ s - c)))))) := rfl
  rw [hu]
  clear hu
  generalize ks.length = L at *
  by_cases h0 : 0 ≤ p
  · rw [decide_eq_true h0, Bool.true_and]
    have h0' : ¬ p < 0 := by omega
    by_cases h1 : 0 ≤ c
    · rw [decide_eq_true h1, Bool.true_and]
      have h1' : ¬ c < 0 := by omega
      by_cases h2 : c ≤ 62
      · rw [decide_eq_true h2, Bool.true_and]
        have h2' : ¬ 62 < c := by omega
        by_cases h3 : s ≤ 64
        · rw [decide_eq_true h3, Bool.true_and]
          have h3' : ¬ 64 < s := by omega
          by_cases h4 : (L : Int) = s
          · rw [decide_eq_true h4, Bool.true_and]
            have h4' : ((L : Int) != s) = false := by simpa using h4
            have e2 : wrap64 (s - c) = s - c := by unfold wrap64; omega
            go_enter Tryz.func23, Tryz.ntmps23
            go_upto_region 1 with fail
            rw [← hW1]
            clear hW1
            go_wp2_with fail
            go_ret
            exact ⟨by simp, unhide g1⟩
          · rw [decide_eq_false h4, Bool.false_and]
            have h4' : ((L : Int) != s) = true := by simpa using h4
            go_enter Tryz.func23, Tryz.ntmps23
            go_upto_region 1 with fail
            rw [← hW1]
            clear hW1
            go_wp2_with fail
            go_ret
            exact ⟨rfl, unhide g1⟩
        · rw [decide_eq_false h3, Bool.false_and]
          have h3' : 64 < s := by omega
          go_enter Tryz.func23, Tryz.ntmps23
          go_upto_region 1 with fail
          rw [← hW1]
          clear hW1
          go_wp2_with fail
          go_ret
          exact ⟨rfl, unhide g1⟩
      · rw [decide_eq_false h2, Bool.false_and]
        have h2' : 62 < c := by omega
        go_enter Tryz.func23, Tryz.ntmps23
        go_upto_region 1 with fail
        rw [← hW1]
        clear hW1
        go_wp2_with fail
        go_ret
        exact ⟨rfl, unhide g1⟩
    · rw [decide_eq_false h1, Bool.false_and]
      have h1' : c < 0 := by omega
      go_enter Tryz.func23, Tryz.ntmps23
      go_upto_region 1 with fail
      rw [← hW1]
      clear hW1
      go_wp2_with fail
      go_ret
      exact ⟨rfl, unhide g1⟩
  · rw [decide_eq_false h0, Bool.false_and]
    have h0' : p < 0 := by omega
    go_enter Tryz.func23, Tryz.ntmps23
    go_upto_region 1 with fail
    rw [← hW1]
    clear hW1
    go_wp2_with fail
    go_ret
    exact ⟨rfl, unhide g1⟩
set_option maxHeartbeats 2000000 in
theorem funcGood_any (w : World) (f : Fn) (ko : Option Addr) (kc : Nat) (io : Option Addr) (ic : Nat) (mo : Option Addr) (mc : Nat) : Calls Tryz.prog 15 #[.agg #[.int .i64 f.p, .int .i64 f.c, .int .i64 f.s, .int .i64 f.r, .slice ko f.ks.length kc, .slice io f.is.length ic, .slice mo f.ms.length mc]] w fun e w' => e = .returned (.bool (fgP f)) ∧ G w w' := by
  have C : Hid (∀ y, Calls Tryz.prog 23 #[.agg #[.int .i64 f.p, .int .i64 f.c, .int .i64 f.s, .int .i64 f.r, .slice ko f.ks.length kc, .slice io f.is.length ic, .slice mo f.ms.length mc]] y fun e w' => e = .returned (.bool (slP f)) ∧ G y w') := hide fun y => slotsGood_any y f ko kc _ _
  have hB := bxf_new w f (.slice ko f.ks.length kc) (.slice io f.is.length ic) (.slice mo f.ms.length mc)
  obtain ⟨W1, hW1⟩ : ∃ W1, W1 = w.alloc (.cells #[.int .i64 f.p, .int .i64 f.c, .int .i64 f.s, .int .i64 f.r, .slice ko f.ks.length kc, .slice io f.is.length ic, .slice mo f.ms.length mc] 39) := ⟨_, rfl⟩
  rw [← hW1] at hB
  have g1 : G w W1 := by rw [hW1]; exact G.alloc _ _
  have hu : fgP f = (slP f && (decide (0 ≤ f.r) && (decide (f.r ≤ 2) && (decide (1 ≤ f.is.length) && (decide (f.is.length ≤ 4096) && decide (f.ms.length = f.is.length)))))) := rfl
  rw [hu]
  clear hu
  have q := hB
  obtain ⟨q0, q1, q2, q3, q4, q5, q6⟩ := q
  have hBG : Hid (∀ y, G W1 y → y.cell? ⟨w.heap.size, 3, none⟩ = some (.int .i64 f.r) ∧ y.cell? ⟨w.heap.size, 5, none⟩ = some (.slice io f.is.length ic) ∧ y.cell? ⟨w.heap.size, 6, none⟩ = some (.slice mo f.ms.length mc)) := hide fun y g => ⟨g.cell q3, g.cell q5, g.cell q6⟩
  clear hB
  replace g1 := hide g1
  generalize slP f = sb at C ⊢
  generalize f.is.length = I at *
  generalize f.ms.length = M at *
  generalize f.ks.length = K at *
  generalize f.p = p at *
  generalize f.c = c at *
  generalize f.s = s at *
  generalize f.r = r at *
  go_enter Tryz.func15, Tryz.ntmps15
  go_upto_region 1 with fail
  rw [← hW1]
  clear hW1
  go_wp2_with fail
  refine (unhide C _).mono ?_
  rintro e w2 ⟨rfl, g2⟩
  obtain ⟨d3, d5, d6⟩ := unhide hBG _ g2
  replace g2 : Hid (G w w2) := hide ((unhide g1).trans g2)
  clear C g1 hBG q0 q1 q2 q3 q4 q5 q6
  cases sb
  · go_wp2_with fail
    go_ret
    exact ⟨rfl, unhide g2⟩
  by_cases h0 : 0 ≤ r
  · by_cases h1 : r ≤ 2
    · by_cases h2 : 1 ≤ I
      · by_cases h3 : I ≤ 4096
        · have h2' : (1 : Int) ≤ (I : Int) := by omega
          have h3' : (I : Int) ≤ 4096 := by omega
          by_cases h4 : M = I
          · subst h4
            go_wp2_with fail
            go_ret
            exact ⟨by first | (simp_all; done) | (simp_all; omega), unhide g2⟩
          · have h4' : ((M : Int) == (I : Int)) = false := by simp; omega
            go_wp2_with fail
            go_ret
            exact ⟨by first | (simp_all; done) | (simp_all; omega), unhide g2⟩
        · have h2' : (1 : Int) ≤ (I : Int) := by omega
          have h3' : ¬ (I : Int) ≤ 4096 := by omega
          go_wp2_with fail
          go_ret
          exact ⟨by first | (simp_all; done) | (simp_all; omega), unhide g2⟩
      · have h2' : ¬ (1 : Int) ≤ (I : Int) := by omega
        go_wp2_with fail
        go_ret
        exact ⟨by first | (simp_all; done) | (simp_all; omega), unhide g2⟩
    · go_wp2_with fail
      go_ret
      exact ⟨by first | (simp_all; done) | (simp_all; omega), unhide g2⟩
  · go_wp2_with fail
    go_ret
    exact ⟨by first | (simp_all; done) | (simp_all; omega), unhide g2⟩
end Go.Proofs.YtnliooflpclcbaaGreatDoor

/- Package verify: listsGood, mainGood. -/
namespace Go.Proofs.YtnliooflpclcbaaGreatDoor
set_option maxRecDepth 100000
open Go.RowKit Go.Maps Go.ChangeShapes Go.WideShapes Go.ChangeAt Go.Deep

set_option maxHeartbeats 2000000 in
theorem lists_any (w : World) (m : Md) (so : Option Addr) (sc : Nat) (go : Option Addr) (gc : Nat) (co : Option Addr) (cc : Nat) (ao : Option Addr) (ac : Nat) (fo : Option Addr) (fc : Nat) (h1 : m.sh.length = 0) (h2 : m.gl.length = 0) (h3 : m.co.length = 0) (h4 : m.ca.length ≤ 1024) (h5 : m.fn.length ≤ 128) :
    Calls Tryz.prog 13 #[agM m so sc go gc co cc ao ac fo fc] w fun e w' => e = .returned (.bool (decide (1 ≤ m.fn.length))) ∧ G w w' := by
  unfold agM
  rw [h1, h2, h3]
  generalize m.ca.length = q1 at *
  generalize m.fn.length = q5 at *
  generalize m.main = q6 at *
  clear h1 h2 h3
  obtain ⟨W1, hW1⟩ : ∃ W1, W1 = w.alloc (.cells #[.slice so 0 sc, .slice go 0 gc, .slice co 0 cc, .slice ao q1 ac, .slice fo q5 fc, .int .i64 q6] 33) := ⟨_, rfl⟩
  have g1 : Hid (G w W1) := hide (by rw [hW1]; exact G.alloc _ _)
  have c0 : W1.cell? ⟨w.heap.size, 0, none⟩ = some (.slice so ((0 : Nat) : Int).toNat sc) := by rw [hW1, World.cell?_alloc_new]; rfl
  have c1 : W1.cell? ⟨w.heap.size, 1, none⟩ = some (.slice go 0 gc) := by rw [hW1, World.cell?_alloc_new]; rfl
  have c2 : W1.cell? ⟨w.heap.size, 2, none⟩ = some (.slice co 0 cc) := by rw [hW1, World.cell?_alloc_new]; rfl
  have c3 : W1.cell? ⟨w.heap.size, 3, none⟩ = some (.slice ao q1 ac) := by rw [hW1, World.cell?_alloc_new]; rfl
  have c4 : W1.cell? ⟨w.heap.size, 4, none⟩ = some (.slice fo q5 fc) := by rw [hW1, World.cell?_alloc_new]; rfl
  have c0 : W1.cell? ⟨w.heap.size, 0, none⟩ = some (.slice so 0 sc) := c0
  have k1 : ¬ (1024 : Int) < (q1 : Int) := by omega
  have k2 : ¬ (128 : Int) < (q5 : Int) := by omega
  clear h4 h5
  by_cases h : 1 ≤ q5
  · have h' : ¬ (q5 : Int) < 1 := by omega
    go_enter Tryz.func13, Tryz.ntmps13
    go_upto_region 1 with fail
    rw [← hW1]
    clear hW1
    go_wp2_with fail
    go_loopw [42] (fun i wr => i = .int .i64 0 ∧ wr = W1) (fun _ _ => 0)
    case atStart => exact ⟨rfl, rfl⟩
    case round =>
      obtain ⟨rfl, hwr⟩ := hrel
      rw [hwr]
      clear hwr
      go_wp2_with fail
      go_loopw [53] (fun i wr => i = .int .i64 0 ∧ wr = W1) (fun _ _ => 0)
      case atStart => exact ⟨rfl, rfl⟩
      case round =>
        obtain ⟨rfl, hwr⟩ := hrel
        rw [hwr]
        clear hwr
        go_wp2_with fail
        go_ret
        exact ⟨by simp [h], unhide g1⟩
  · have h' : (q5 : Int) < 1 := by omega
    go_enter Tryz.func13, Tryz.ntmps13
    go_upto_region 1 with fail
    rw [← hW1]
    clear hW1
    go_wp2_with fail
    go_ret
    exact ⟨by simp, unhide g1⟩
set_option maxHeartbeats 2000000 in
theorem main_out (w : World) (m : Md) (so : Option Addr) (sc : Nat) (go : Option Addr) (gc : Nat) (co : Option Addr) (cc : Nat) (ao : Option Addr) (ac : Nat) (fo : Option Addr) (fc : Nat) (h : inR m.main m.fn.length = false) :
    Calls Tryz.prog 14 #[agM m so sc go gc co cc ao ac fo fc] w fun e w' => e = .returned (.bool false) ∧ G w w' := by
  have CI : Hid (∀ y, Calls Tryz.prog 22 #[.int .i64 m.main, .int .i64 (m.fn.length : Int)] y fun e w' => e = .returned (.bool false) ∧ w' = y) := hide fun y => by
    have := isin_any y m.main m.fn.length
    rwa [h] at this
  unfold agM
  generalize m.ca.length = q1 at *
  generalize m.sh.length = q2 at *
  generalize m.gl.length = q3 at *
  generalize m.co.length = q4 at *
  generalize m.fn.length = q5 at *
  generalize m.main = q6 at *
  clear h
  obtain ⟨W1, hW1⟩ : ∃ W1, W1 = w.alloc (.cells #[.slice so q2 sc, .slice go q3 gc, .slice co q4 cc, .slice ao q1 ac, .slice fo q5 fc, .int .i64 q6] 33) := ⟨_, rfl⟩
  have g1 : Hid (G w W1) := hide (by rw [hW1]; exact G.alloc _ _)
  have c4 : W1.cell? ⟨w.heap.size, 4, none⟩ = some (.slice fo q5 fc) := by rw [hW1, World.cell?_alloc_new]; rfl
  have c5 : W1.cell? ⟨w.heap.size, 5, none⟩ = some (.int .i64 q6) := by rw [hW1, World.cell?_alloc_new]; rfl
  go_enter Tryz.func14, Tryz.ntmps14
  go_upto_region 1 with fail
  rw [← hW1]
  clear hW1
  go_wp2_with fail
  refine (unhide CI _).mono ?_
  rintro e w2 ⟨rfl, hw⟩
  rw [hw]
  clear hw w2 CI
  go_wp2_with fail
  go_ret
  exact ⟨rfl, unhide g1⟩
set_option maxHeartbeats 2000000 in
theorem main_in (w : World) (m : Md) (so : Option Addr) (sc : Nat) (go : Option Addr) (gc : Nat) (co : Option Addr) (cc : Nat) (ao : Option Addr) (ac : Nat) (fo : Option Addr) (fc n : Nat) (f : Fn) (ko : Option Addr) (kc : Nat) (hm : m.main = (n : Int)) (hn : n < m.fn.length) (hf : FnHere w fo n f ko kc) (h0 : f.p = 0) (h1 : f.c = 0) (h3 : f.r = 0) :
    Calls Tryz.prog 14 #[agM m so sc go gc co cc ao ac fo fc] w fun e w' => e = .returned (.bool true) ∧ G w w' := by
  have CI : Hid (∀ y, Calls Tryz.prog 22 #[.int .i64 (n : Int), .int .i64 (m.fn.length : Int)] y fun e w' => e = .returned (.bool true) ∧ w' = y) := hide fun y => by
    have := isin_any y n m.fn.length
    rwa [show inR (n : Int) (m.fn.length : Int) = true from by unfold inR; simp [hn]] at this
  unfold agM
  rw [hm]
  generalize m.ca.length = q1 at *
  generalize m.sh.length = q2 at *
  generalize m.gl.length = q3 at *
  generalize m.co.length = q4 at *
  generalize m.fn.length = q5 at *
  obtain ⟨fb, foff, io, ic, mo, mc, rfl, hfb, hcs⟩ := hf
  obtain ⟨W1, hW1⟩ : ∃ W1, W1 = w.alloc (.cells #[.slice so q2 sc, .slice go q3 gc, .slice co q4 cc, .slice ao q1 ac, .slice (some ⟨fb, foff, none⟩) q5 fc, .int .i64 (n : Int)] 33) := ⟨_, rfl⟩
  have g1 : G w W1 := by rw [hW1]; exact G.alloc _ _
  have c4 : W1.cell? ⟨w.heap.size, 4, none⟩ = some (.slice (some ⟨fb, foff, none⟩) q5 fc) := by rw [hW1, World.cell?_alloc_new]; rfl
  have c5 : W1.cell? ⟨w.heap.size, 5, none⟩ = some (.int .i64 (n : Int)) := by rw [hW1, World.cell?_alloc_new]; rfl
  have hk := hcs.kept (g1.block fb hfb)
  rw [h0, h1, h3] at hk
  have f0 := hk 0 _ rfl
  have f1 := hk 1 _ rfl
  have f2 := hk 2 _ rfl
  have f3 := hk 3 _ rfl
  have f4 := hk 4 _ rfl
  have f5 := hk 5 _ rfl
  have f6 := hk 6 _ rfl
  simp only [Nat.add_zero] at f0
  have hn1 : (n : Int) < (q5 : Int) := by omega
  have hn0 : ¬ (n : Int) < 0 := by omega
  replace g1 := hide g1
  clear hk hcs h0 h1 h3 hm hfb
  generalize f.s = fs at *
  generalize f.ks.length = q7 at *
  generalize f.is.length = q8 at *
  generalize f.ms.length = q9 at *
  go_enter Tryz.func14, Tryz.ntmps14
  go_upto_region 1 with fail
  rw [← hW1]
  clear hW1
  go_wp2_with fail
  refine (unhide CI _).mono ?_
  rintro e w2 ⟨rfl, hw⟩
  rw [hw]
  clear hw w2 CI
  go_wp2_with fail
  go_ret
  exact ⟨rfl, (unhide g1).more _⟩
end Go.Proofs.YtnliooflpclcbaaGreatDoor

/- Package verify: firstFault. -/
namespace Go.Proofs.YtnliooflpclcbaaGreatDoor
set_option maxRecDepth 100000
open Go.RowKit Go.Maps Go.ChangeShapes Go.WideShapes Go.ChangeAt Go.Deep

/-- All rules are kept ahead of instruction pc of function n. -/
def RlB (rl : Nat → Nat → Int) (L : Nat → Nat) (n pc : Nat) : Prop := (∀ n' pc', n' < n → pc' < L n' → rl n' pc' = 0) ∧ ∀ pc', pc' < pc → rl n pc' = 0
/-- What firstFault answers once rules 1 to 3 are kept. -/
def FfTo (w : World) (rl : Nat → Nat → Int) (L : Nat → Nat) (NF : Nat) (e : Ending) (w' : World) : Prop :=
  ((∃ n pc, n < NF ∧ pc < L n ∧ RlB rl L n pc ∧ rl n pc ≠ 0 ∧ e = .returned (.agg #[.int .i64 (n : Int), .int .i64 (pc : Int), .int .i64 (rl n pc)])) ∨ (RlB rl L NF 0 ∧ e = .returned (.agg #[.int .i64 0, .int .i64 0, .int .i64 0]))) ∧ G w w'
set_option maxHeartbeats 1000000 in
theorem fault_1 (w : World) (so : Option Addr) (sc : Nat) (go : Option Addr) (gc : Nat) (co : Option Addr) (cc : Nat) (ao : Option Addr) (ac : Nat) (fo : Option Addr) (fc : Nat) (q1 q2 q3 q4 NF : Nat) (q6 : Int) (H1 : ∀ y, G w y → Calls Tryz.prog 13 #[.agg #[.slice so q2 sc, .slice go q3 gc, .slice co q4 cc, .slice ao q1 ac, .slice fo NF fc, .int .i64 q6]] y fun e w' => e = .returned (.bool false) ∧ G y w') :
    Calls Tryz.prog 10 #[.agg #[.slice so q2 sc, .slice go q3 gc, .slice co q4 cc, .slice ao q1 ac, .slice fo NF fc, .int .i64 q6]] w fun e w' => e = .returned (.agg #[.int .i64 (-1), .int .i64 (-1), .int .i64 1]) ∧ G w w' := by
  obtain ⟨W1, hW1⟩ : ∃ W1, W1 = (w.alloc (.cells #[.slice so q2 sc, .slice go q3 gc, .slice co q4 cc, .slice ao q1 ac, .slice fo NF fc, .int .i64 q6] 33)).alloc (.cells #[.int .i64 0, .int .i64 0, .int .i64 0] 24) := ⟨_, rfl⟩
  have g1 : G w W1 := by rw [hW1]; exact (G.alloc _ _).more _
  obtain ⟨a0, a1⟩ := al2 w _ _ _ _ W1 hW1
  have m0 := a0 0
  have m1 := a0 1
  have m2 := a0 2
  have m3 := a0 3
  have m4 := a0 4
  have m5 := a0 5
  have C := hide (H1 W1 g1)
  have RB : Rb W1 (w.heap.size + 1) 3 := by
    refine ⟨by rw [hW1, World.size_alloc, World.size_alloc]; omega, fun i hi => by rw [a1 i]; simp [hi], fun i => ?_⟩
    have hh := heap_alloc_new (w.alloc (.cells #[.slice so q2 sc, .slice go q3 gc, .slice co q4 cc, .slice ao q1 ac, .slice fo NF fc, .int .i64 q6] 33)) (.cells #[.int .i64 0, .int .i64 0, .int .i64 0] 24)
    rw [World.size_alloc] at hh
    unfold World.frozen?
    rw [hW1, hh]
    simp
  clear a0 a1 H1
  have RG : Hid (∀ y, G W1 y → Rb y (w.heap.size + 1) 3) := hide fun y g => RB.g g
  clear RB
  replace g1 := hide g1
  go_enter Tryz.func10, Tryz.ntmps10
  go_upto_region 1 with fail
  rw [← hW1]
  clear hW1
  go_wp2_with fail
  refine (unhide C).mono ?_
  rintro e w2 ⟨rfl, g2⟩
  have hR := unhide RG _ g2
  obtain ⟨u0, e0⟩ := Option.isSome_iff_exists.1 (hR.2.1 0 (by decide))
  obtain ⟨u1, e1⟩ := Option.isSome_iff_exists.1 (hR.2.1 1 (by decide))
  obtain ⟨u2, e2⟩ := Option.isSome_iff_exists.1 (hR.2.1 2 (by decide))
  have z0 := hR.2.2 0
  have z1 := hR.2.2 1
  have z2 := hR.2.2 2
  have gz := hide ((unhide g1).trans g2)
  have GS : Hid (∀ v0 v1 v2, G w (((w2.setCell ⟨w.heap.size + 1, 0, none⟩ v0).setCell ⟨w.heap.size + 1, 1, none⟩ v1).setCell ⟨w.heap.size + 1, 2, none⟩ v2)) := hide fun v0 v1 v2 => (((unhide gz).set _ 0 v0 (by omega)).set _ 1 v1 (by omega)).set _ 2 v2 (by omega)
  clear C RG hR g2 g1 m0 m1 m2 m3 m4 m5
  go_wp2_with fail
  refine bodyPost_ret (by simp [results, Tryz.results10, go_sem, e0, e1, e2]; try rfl) rfl ?_
  exact ⟨rfl, unhide GS _ _ _⟩
set_option maxHeartbeats 1000000 in
theorem fault_2 (w : World) (so : Option Addr) (sc : Nat) (go : Option Addr) (gc : Nat) (co : Option Addr) (cc : Nat) (ao : Option Addr) (ac : Nat) (fo : Option Addr) (fc : Nat) (q1 q2 q3 q4 NF : Nat) (q6 : Int) (H1 : ∀ y, G w y → Calls Tryz.prog 13 #[.agg #[.slice so q2 sc, .slice go q3 gc, .slice co q4 cc, .slice ao q1 ac, .slice fo NF fc, .int .i64 q6]] y fun e w' => e = .returned (.bool true) ∧ G y w') (H2 : ∀ y, G w y → Calls Tryz.prog 14 #[.agg #[.slice so q2 sc, .slice go q3 gc, .slice co q4 cc, .slice ao q1 ac, .slice fo NF fc, .int .i64 q6]] y fun e w' => e = .returned (.bool false) ∧ G y w') :
    Calls Tryz.prog 10 #[.agg #[.slice so q2 sc, .slice go q3 gc, .slice co q4 cc, .slice ao q1 ac, .slice fo NF fc, .int .i64 q6]] w fun e w' => e = .returned (.agg #[.int .i64 (-1), .int .i64 (-1), .int .i64 2]) ∧ G w w' := by
  obtain ⟨W1, hW1⟩ : ∃ W1, W1 = (w.alloc (.cells #[.slice so q2 sc, .slice go q3 gc, .slice co q4 cc, .slice ao q1 ac, .slice fo NF fc, .int .i64 q6] 33)).alloc (.cells #[.int .i64 0, .int .i64 0, .int .i64 0] 24) := ⟨_, rfl⟩
  have g1 : G w W1 := by rw [hW1]; exact (G.alloc _ _).more _
  obtain ⟨a0, a1⟩ := al2 w _ _ _ _ W1 hW1
  have m0 := a0 0
  have m1 := a0 1
  have m2 := a0 2
  have m3 := a0 3
  have m4 := a0 4
  have m5 := a0 5
  have RB : Rb W1 (w.heap.size + 1) 3 := by
    refine ⟨by rw [hW1, World.size_alloc, World.size_alloc]; omega, fun i hi => by rw [a1 i]; simp [hi], fun i => ?_⟩
    have hh := heap_alloc_new (w.alloc (.cells #[.slice so q2 sc, .slice go q3 gc, .slice co q4 cc, .slice ao q1 ac, .slice fo NF fc, .int .i64 q6] 33)) (.cells #[.int .i64 0, .int .i64 0, .int .i64 0] 24)
    rw [World.size_alloc] at hh
    unfold World.frozen?
    rw [hW1, hh]
    simp
  have RG : Hid (∀ y, G W1 y → Rb y (w.heap.size + 1) 3) := hide fun y g => RB.g g
  have BG : Hid (∀ y, G W1 y → y.cell? ⟨w.heap.size, 0, none⟩ = some (.slice so q2 sc) ∧ y.cell? ⟨w.heap.size, 1, none⟩ = some (.slice go q3 gc) ∧ y.cell? ⟨w.heap.size, 2, none⟩ = some (.slice co q4 cc) ∧ y.cell? ⟨w.heap.size, 3, none⟩ = some (.slice ao q1 ac) ∧ y.cell? ⟨w.heap.size, 4, none⟩ = some (.slice fo NF fc) ∧ y.cell? ⟨w.heap.size, 5, none⟩ = some (.int .i64 q6)) := hide fun y g => ⟨g.cell m0, g.cell m1, g.cell m2, g.cell m3, g.cell m4, g.cell m5⟩
  have H1' : Hid (∀ y, G W1 y → Calls Tryz.prog 13 #[.agg #[.slice so q2 sc, .slice go q3 gc, .slice co q4 cc, .slice ao q1 ac, .slice fo NF fc, .int .i64 q6]] y fun e w' => e = .returned (.bool true) ∧ G y w') := hide fun y g => H1 y (g1.trans g)
  have GS : Hid (∀ y v0 v1 v2, G W1 y → G w (((y.setCell ⟨w.heap.size + 1, 0, none⟩ v0).setCell ⟨w.heap.size + 1, 1, none⟩ v1).setCell ⟨w.heap.size + 1, 2, none⟩ v2)) := hide fun y v0 v1 v2 g => (((g1.trans g).set _ 0 v0 (by omega)).set _ 1 v1 (by omega)).set _ 2 v2 (by omega)
  have H2' : Hid (∀ y, G W1 y → Calls Tryz.prog 14 #[.agg #[.slice so q2 sc, .slice go q3 gc, .slice co q4 cc, .slice ao q1 ac, .slice fo NF fc, .int .i64 q6]] y fun e w' => e = .returned (.bool false) ∧ G y w') := hide fun y g => H2 y (g1.trans g)
  clear RB a0 a1 H1 H2
  replace g1 := hide g1
  go_enter Tryz.func10, Tryz.ntmps10
  go_upto_region 1 with fail
  rw [← hW1]
  clear hW1
  go_wp2_with fail
  refine (unhide H1' _ (G.refl _)).mono ?_
  rintro e w2 ⟨rfl, g2⟩
  replace g2 := hide g2
  clear m0 m1 m2 m3 m4 m5 H1'
  obtain ⟨m0, m1, m2, m3, m4, m5⟩ := unhide BG _ (unhide g2)
  go_wp2_with fail
  refine (unhide H2' _ (unhide g2)).mono ?_
  rintro e w3 ⟨rfl, g3⟩
  have gw3 := hide ((unhide g2).trans g3)
  clear g3 g2 m0 m1 m2 m3 m4 m5 H2'
  have hR := unhide RG _ (unhide gw3)
  obtain ⟨u0, e0⟩ := Option.isSome_iff_exists.1 (hR.2.1 0 (by decide))
  obtain ⟨u1, e1⟩ := Option.isSome_iff_exists.1 (hR.2.1 1 (by decide))
  obtain ⟨u2, e2⟩ := Option.isSome_iff_exists.1 (hR.2.1 2 (by decide))
  have z0 := hR.2.2 0
  have z1 := hR.2.2 1
  have z2 := hR.2.2 2
  have gz := hide fun v0 v1 v2 => unhide GS _ v0 v1 v2 (unhide gw3)
  clear hR
  go_wp2_with fail
  refine bodyPost_ret (by simp [results, Tryz.results10, go_sem, e0, e1, e2]; try rfl) rfl ?_
  exact ⟨rfl, unhide gz _ _ _⟩
set_option maxHeartbeats 2000000 in
theorem fault_3 (w : World) (so : Option Addr) (sc : Nat) (go : Option Addr) (gc : Nat) (co : Option Addr) (cc : Nat) (ao : Option Addr) (ac : Nat) (fb foff : Nat) (fc : Nat) (q1 q2 q3 q4 NF : Nat) (q6 : Int) (hNF : 1 ≤ NF) (f : Fn) (ko : Option Addr) (kc : Nat) (io : Option Addr) (ic : Nat) (mo : Option Addr) (mc : Nat) (H1 : ∀ y, G w y → Calls Tryz.prog 13 #[.agg #[.slice so q2 sc, .slice go q3 gc, .slice co q4 cc, .slice ao q1 ac, .slice (some ⟨fb, foff, none⟩) NF fc, .int .i64 q6]] y fun e w' => e = .returned (.bool true) ∧ G y w') (H2 : ∀ y, G w y → Calls Tryz.prog 14 #[.agg #[.slice so q2 sc, .slice go q3 gc, .slice co q4 cc, .slice ao q1 ac, .slice (some ⟨fb, foff, none⟩) NF fc, .int .i64 q6]] y fun e w' => e = .returned (.bool true) ∧ G y w')
    (HF : ∀ y, G w y → CellsAt y fb foff [.int .i64 f.p, .int .i64 f.c, .int .i64 f.s, .int .i64 f.r, .slice ko f.ks.length kc, .slice io f.is.length ic, .slice mo f.ms.length mc]) (H3 : ∀ y, G w y → Calls Tryz.prog 15 #[.agg #[.int .i64 f.p, .int .i64 f.c, .int .i64 f.s, .int .i64 f.r, .slice ko f.ks.length kc, .slice io f.is.length ic, .slice mo f.ms.length mc]] y fun e w' => e = .returned (.bool false) ∧ G y w') :
    Calls Tryz.prog 10 #[.agg #[.slice so q2 sc, .slice go q3 gc, .slice co q4 cc, .slice ao q1 ac, .slice (some ⟨fb, foff, none⟩) NF fc, .int .i64 q6]] w fun e w' => e = .returned (.agg #[.int .i64 0, .int .i64 (-1), .int .i64 3]) ∧ G w w' := by
  obtain ⟨W1, hW1⟩ : ∃ W1, W1 = (w.alloc (.cells #[.slice so q2 sc, .slice go q3 gc, .slice co q4 cc, .slice ao q1 ac, .slice (some ⟨fb, foff, none⟩) NF fc, .int .i64 q6] 33)).alloc (.cells #[.int .i64 0, .int .i64 0, .int .i64 0] 24) := ⟨_, rfl⟩
  have g1 : G w W1 := by rw [hW1]; exact (G.alloc _ _).more _
  obtain ⟨a0, a1⟩ := al2 w _ _ _ _ W1 hW1
  have m0 := a0 0
  have m1 := a0 1
  have m2 := a0 2
  have m3 := a0 3
  have m4 := a0 4
  have m5 := a0 5
  have RB : Rb W1 (w.heap.size + 1) 3 := by
    refine ⟨by rw [hW1, World.size_alloc, World.size_alloc]; omega, fun i hi => by rw [a1 i]; simp [hi], fun i => ?_⟩
    have hh := heap_alloc_new (w.alloc (.cells #[.slice so q2 sc, .slice go q3 gc, .slice co q4 cc, .slice ao q1 ac, .slice (some ⟨fb, foff, none⟩) NF fc, .int .i64 q6] 33)) (.cells #[.int .i64 0, .int .i64 0, .int .i64 0] 24)
    rw [World.size_alloc] at hh
    unfold World.frozen?
    rw [hW1, hh]
    simp
  have RG : Hid (∀ y, G W1 y → Rb y (w.heap.size + 1) 3) := hide fun y g => RB.g g
  have BG : Hid (∀ y, G W1 y → y.cell? ⟨w.heap.size, 0, none⟩ = some (.slice so q2 sc) ∧ y.cell? ⟨w.heap.size, 1, none⟩ = some (.slice go q3 gc) ∧ y.cell? ⟨w.heap.size, 2, none⟩ = some (.slice co q4 cc) ∧ y.cell? ⟨w.heap.size, 3, none⟩ = some (.slice ao q1 ac) ∧ y.cell? ⟨w.heap.size, 4, none⟩ = some (.slice (some ⟨fb, foff, none⟩) NF fc) ∧ y.cell? ⟨w.heap.size, 5, none⟩ = some (.int .i64 q6)) := hide fun y g => ⟨g.cell m0, g.cell m1, g.cell m2, g.cell m3, g.cell m4, g.cell m5⟩
  have H1' : Hid (∀ y, G W1 y → Calls Tryz.prog 13 #[.agg #[.slice so q2 sc, .slice go q3 gc, .slice co q4 cc, .slice ao q1 ac, .slice (some ⟨fb, foff, none⟩) NF fc, .int .i64 q6]] y fun e w' => e = .returned (.bool true) ∧ G y w') := hide fun y g => H1 y (g1.trans g)
  have GS : Hid (∀ y v0 v1 v2, G W1 y → G w (((y.setCell ⟨w.heap.size + 1, 0, none⟩ v0).setCell ⟨w.heap.size + 1, 1, none⟩ v1).setCell ⟨w.heap.size + 1, 2, none⟩ v2)) := hide fun y v0 v1 v2 g => (((g1.trans g).set _ 0 v0 (by omega)).set _ 1 v1 (by omega)).set _ 2 v2 (by omega)
  have H2' : Hid (∀ y, G W1 y → Calls Tryz.prog 14 #[.agg #[.slice so q2 sc, .slice go q3 gc, .slice co q4 cc, .slice ao q1 ac, .slice (some ⟨fb, foff, none⟩) NF fc, .int .i64 q6]] y fun e w' => e = .returned (.bool true) ∧ G y w') := hide fun y g => H2 y (g1.trans g)
  have H3' : Hid (∀ y, G W1 y → Calls Tryz.prog 15 #[.agg #[.int .i64 f.p, .int .i64 f.c, .int .i64 f.s, .int .i64 f.r, .slice ko f.ks.length kc, .slice io f.is.length ic, .slice mo f.ms.length mc]] y fun e w' => e = .returned (.bool false) ∧ G y w') := hide fun y g => H3 y (g1.trans g)
  have HF' : Hid (∀ y, G W1 y → CellsAt y fb foff [.int .i64 f.p, .int .i64 f.c, .int .i64 f.s, .int .i64 f.r, .slice ko f.ks.length kc, .slice io f.is.length ic, .slice mo f.ms.length mc]) := hide fun y g => HF y (g1.trans g)
  clear RB a0 a1 H1 H2 H3 HF
  replace g1 := hide g1
  have hN1 : (0 : Int) < (NF : Int) := by omega
  generalize f.p = p at *
  generalize f.c = c at *
  generalize f.s = s at *
  generalize f.r = r at *
  generalize f.ks.length = KL at *
  generalize f.is.length = IL at *
  generalize f.ms.length = ML at *
  go_enter Tryz.func10, Tryz.ntmps10
  go_upto_region 1 with fail
  rw [← hW1]
  clear hW1
  go_wp2_with fail
  refine (unhide H1' _ (G.refl _)).mono ?_
  rintro e w2 ⟨rfl, g2⟩
  replace g2 := hide g2
  clear m0 m1 m2 m3 m4 m5 H1'
  obtain ⟨m0, m1, m2, m3, m4, m5⟩ := unhide BG _ (unhide g2)
  go_wp2_with fail
  refine (unhide H2' _ (unhide g2)).mono ?_
  rintro e w3 ⟨rfl, g3⟩
  have gw3 := hide ((unhide g2).trans g3)
  clear g3 g2 m0 m1 m2 m3 m4 m5 H2'
  obtain ⟨m0, m1, m2, m3, m4, m5⟩ := unhide BG _ (unhide gw3)
  have f0 := unhide HF' _ (unhide gw3) 0 _ rfl
  have f1 := unhide HF' _ (unhide gw3) 1 _ rfl
  have f2 := unhide HF' _ (unhide gw3) 2 _ rfl
  have f3 := unhide HF' _ (unhide gw3) 3 _ rfl
  have f4 := unhide HF' _ (unhide gw3) 4 _ rfl
  have f5 := unhide HF' _ (unhide gw3) 5 _ rfl
  have f6 := unhide HF' _ (unhide gw3) 6 _ rfl
  simp only [Nat.add_zero] at f0
  go_wp2_with fail
  clear m0 m1 m2 m3 m4 m5
  go_loopw [22] (fun i wr => i = .int .i64 0 ∧ wr = w3) (fun _ _ => 0)
  case atStart => exact ⟨rfl, rfl⟩
  case round =>
    obtain ⟨rfl, hwr⟩ := hrel
    rw [hwr]
    clear hwr
    obtain ⟨Wc, hWc⟩ : ∃ Wc, Wc = w3.alloc (.cells #[.int .i64 p, .int .i64 c, .int .i64 s, .int .i64 r, .slice ko KL kc, .slice io IL ic, .slice mo ML mc] 39) := ⟨_, rfl⟩
    have gc : G w3 Wc := by rw [hWc]; exact G.alloc _ _
    have zb : ∀ k v, #[Value.int .i64 p, .int .i64 c, .int .i64 s, .int .i64 r, .slice ko KL kc, .slice io IL ic, .slice mo ML mc][k]? = some v → Wc.cell? ⟨w3.heap.size, k, none⟩ = some v := fun k v h => by rw [hWc, World.cell?_alloc_new]; exact h
    have k0 := zb 0 _ rfl
    have k1 := zb 1 _ rfl
    have k2 := zb 2 _ rfl
    have k3 := zb 3 _ rfl
    have k4 := zb 4 _ rfl
    have k5 := zb 5 _ rfl
    have k6 := zb 6 _ rfl
    have gwc := hide ((unhide gw3).trans gc)
    clear zb gc
    go_upto_region 8 with fail
    rw [← hWc]
    clear hWc f0 f1 f2 f3 f4 f5 f6
    go_wp2_with fail
    refine (unhide H3' _ (unhide gwc)).mono ?_
    rintro e w4 ⟨rfl, g4⟩
    have gw4 := hide ((unhide gwc).trans g4)
    clear g4 gwc gw3 H3' HF' BG k0 k1 k2 k3 k4 k5 k6
    have hR := unhide RG _ (unhide gw4)
    obtain ⟨u0, e0⟩ := Option.isSome_iff_exists.1 (hR.2.1 0 (by decide))
    obtain ⟨u1, e1⟩ := Option.isSome_iff_exists.1 (hR.2.1 1 (by decide))
    obtain ⟨u2, e2⟩ := Option.isSome_iff_exists.1 (hR.2.1 2 (by decide))
    have z0 := hR.2.2 0
    have z1 := hR.2.2 1
    have z2 := hR.2.2 2
    have gz := hide fun v0 v1 v2 => unhide GS _ v0 v1 v2 (unhide gw4)
    clear hR
    go_wp2_with fail
    refine bodyPost_ret (by simp [results, Tryz.results10, go_sem, e0, e1, e2]; try rfl) rfl ?_
    exact ⟨rfl, unhide gz _ _ _⟩
end Go.Proofs.YtnliooflpclcbaaGreatDoor

/- Package verify: firstFault, behind rules 1 to 3. -/
namespace Go.Proofs.YtnliooflpclcbaaGreatDoor
set_option maxRecDepth 100000
open Go.RowKit Go.Maps Go.ChangeShapes Go.WideShapes Go.ChangeAt Go.Deep

theorem Rb.gt {tb : Nat} {y z : World} {b n : Nat} (h : Rb y b n) (g : Gt tb y z) (hn : b ≠ tb) : Rb z b n :=
  ⟨Nat.lt_of_lt_of_le h.1 g.size, fun i hi => by rw [World.cell?_of_block (a := ⟨b, i, none⟩) (g.block b h.1 hn)]; exact h.2.1 i hi, fun i => (World.frozen?_of_block (a := ⟨b, i, none⟩) (g.block b h.1 hn)).trans (h.2.2 i)⟩
theorem mk_bools (n : Nat) (hn : n ≤ 100000) (w : World) : (Instr.makeSlice 28 (.int .i64 (n : Int)) (.int .i64 (n : Int))).run Tryz.prog w = .ok (.slice (some ⟨w.heap.size, 0, none⟩) n n) (w.alloc (.cells (madeCells #[.bool false] n) 4)) := by
  obtain ⟨i, hi, hz, hs, hb⟩ := info_parts info_bool
  have := run_make (P := Tryz.prog) w 28 4 i (.bool false) Tryz.underlying28 hi hz .i64 .i64 (n : Int) (n : Int) (by omega) (by omega) (by rw [hb]; omega) (by omega)
  rw [this, hs, Int.toNat_natCast, Nat.mul_one]
  rfl
set_option maxHeartbeats 4000000 in
theorem fault_any (w : World) (so : Option Addr) (sc : Nat) (go : Option Addr) (gc : Nat) (co : Option Addr) (cc : Nat) (ao : Option Addr) (ac : Nat) (fb foff : Nat) (fc : Nat) (q1 q2 q3 q4 NF : Nat) (q6 : Int) (fn : Nat → Fn) (ko : Nat → Option Addr) (kc : Nat → Nat) (io : Nat → Option Addr) (ic : Nat → Nat) (mo : Nat → Option Addr) (mc : Nat → Nat) (rl : Nat → Nat → Int) (P : Nat → Nat → World → Prop) (Q : Nat → Nat → Nat → Nat → World → Prop) (hq : q1 ≤ 100000) (hNF : NF ≤ 100000) (hL : ∀ n, n < NF → (fn n).is.length ≤ 100000)
    (H1 : ∀ y, G w y → Calls Tryz.prog 13 #[.agg #[.slice so q2 sc, .slice go q3 gc, .slice co q4 cc, .slice ao q1 ac, .slice (some ⟨fb, foff, none⟩) NF fc, .int .i64 q6]] y fun e w' => e = .returned (.bool true) ∧ G y w') (H2 : ∀ y, G w y → Calls Tryz.prog 14 #[.agg #[.slice so q2 sc, .slice go q3 gc, .slice co q4 cc, .slice ao q1 ac, .slice (some ⟨fb, foff, none⟩) NF fc, .int .i64 q6]] y fun e w' => e = .returned (.bool true) ∧ G y w')
    (HF : ∀ n, n < NF → ∀ y, G w y → CellsAt y fb (foff + n * 7) [.int .i64 (fn n).p, .int .i64 (fn n).c, .int .i64 (fn n).s, .int .i64 (fn n).r, .slice (ko n) (fn n).ks.length (kc n), .slice (io n) (fn n).is.length (ic n), .slice (mo n) (fn n).ms.length (mc n)])
    (H3 : ∀ n, n < NF → ∀ y, G w y → Calls Tryz.prog 15 #[.agg #[.int .i64 (fn n).p, .int .i64 (fn n).c, .int .i64 (fn n).s, .int .i64 (fn n).r, .slice (ko n) (fn n).ks.length (kc n), .slice (io n) (fn n).is.length (ic n), .slice (mo n) (fn n).ms.length (mc n)]] y fun e w' => e = .returned (.bool true) ∧ G y w')
    (HP0 : ∀ y, G w y → P y.heap.size 0 (y.alloc (.cells (madeCells #[.bool false] q1) 4)))
    (HPw : ∀ tb n y, P tb n y → G w y) (HQw : ∀ tb n jb pc y, Q tb n jb pc y → G w y)
    (HPg : ∀ tb n y z, P tb n y → G y z → P tb n z)
    (HJ : ∀ tb n y, n < NF → P tb n y → Calls Tryz.prog 16 #[.agg #[.slice so q2 sc, .slice go q3 gc, .slice co q4 cc, .slice ao q1 ac, .slice (some ⟨fb, foff, none⟩) NF fc, .int .i64 q6], .agg #[.int .i64 (fn n).p, .int .i64 (fn n).c, .int .i64 (fn n).s, .int .i64 (fn n).r, .slice (ko n) (fn n).ks.length (kc n), .slice (io n) (fn n).is.length (ic n), .slice (mo n) (fn n).ms.length (mc n)], .slice (some ⟨tb, 0, none⟩) q1 q1] y fun e w' => ∃ jb, e = .returned (.pointer (some ⟨jb, 0, none⟩)) ∧ Q tb n jb 0 w' ∧ G y w')
    (HB : ∀ tb n jb pc y, n < NF → pc < (fn n).is.length → Q tb n jb pc y → Calls Tryz.prog 17 #[.pointer (some ⟨jb, 0, none⟩), .int .i64 (pc : Int)] y fun e w' => e = .returned (.int .i64 (rl n pc)) ∧ G w w' ∧ (rl n pc = 0 → Q tb n jb (pc + 1) w') ∧ Gt tb y w')
    (HE : ∀ tb n jb y, Q tb n jb (fn n).is.length y → P tb (n + 1) y) :
    Calls Tryz.prog 10 #[.agg #[.slice so q2 sc, .slice go q3 gc, .slice co q4 cc, .slice ao q1 ac, .slice (some ⟨fb, foff, none⟩) NF fc, .int .i64 q6]] w (FfTo w rl (fun n => (fn n).is.length) NF) := by
  obtain ⟨W1, hW1⟩ : ∃ W1, W1 = (w.alloc (.cells #[.slice so q2 sc, .slice go q3 gc, .slice co q4 cc, .slice ao q1 ac, .slice (some ⟨fb, foff, none⟩) NF fc, .int .i64 q6] 33)).alloc (.cells #[.int .i64 0, .int .i64 0, .int .i64 0] 24) := ⟨_, rfl⟩
  have g1 : G w W1 := by rw [hW1]; exact (G.alloc _ _).more _
  obtain ⟨a0, a1⟩ := al2 w _ _ _ _ W1 hW1
  have m0 := a0 0
  have m1 := a0 1
  have m2 := a0 2
  have m3 := a0 3
  have m4 := a0 4
  have m5 := a0 5
  have RB : Rb W1 (w.heap.size + 1) 3 := by
    refine ⟨by rw [hW1, World.size_alloc, World.size_alloc]; omega, fun i hi => by rw [a1 i]; simp [hi], fun i => ?_⟩
    have hh := heap_alloc_new (w.alloc (.cells #[.slice so q2 sc, .slice go q3 gc, .slice co q4 cc, .slice ao q1 ac, .slice (some ⟨fb, foff, none⟩) NF fc, .int .i64 q6] 33)) (.cells #[.int .i64 0, .int .i64 0, .int .i64 0] 24)
    rw [World.size_alloc] at hh
    unfold World.frozen?
    rw [hW1, hh]
    simp
  have RG : Hid (∀ y, G W1 y → Rb y (w.heap.size + 1) 3) := hide fun y g => RB.g g
  have BG : Hid (∀ y, G W1 y → y.cell? ⟨w.heap.size, 0, none⟩ = some (.slice so q2 sc) ∧ y.cell? ⟨w.heap.size, 1, none⟩ = some (.slice go q3 gc) ∧ y.cell? ⟨w.heap.size, 2, none⟩ = some (.slice co q4 cc) ∧ y.cell? ⟨w.heap.size, 3, none⟩ = some (.slice ao q1 ac) ∧ y.cell? ⟨w.heap.size, 4, none⟩ = some (.slice (some ⟨fb, foff, none⟩) NF fc) ∧ y.cell? ⟨w.heap.size, 5, none⟩ = some (.int .i64 q6)) := hide fun y g => ⟨g.cell m0, g.cell m1, g.cell m2, g.cell m3, g.cell m4, g.cell m5⟩
  have H1' : Hid (∀ y, G W1 y → Calls Tryz.prog 13 #[.agg #[.slice so q2 sc, .slice go q3 gc, .slice co q4 cc, .slice ao q1 ac, .slice (some ⟨fb, foff, none⟩) NF fc, .int .i64 q6]] y fun e w' => e = .returned (.bool true) ∧ G y w') := hide fun y g => H1 y (g1.trans g)
  have GS : Hid (∀ y v0 v1 v2, G W1 y → G w (((y.setCell ⟨w.heap.size + 1, 0, none⟩ v0).setCell ⟨w.heap.size + 1, 1, none⟩ v1).setCell ⟨w.heap.size + 1, 2, none⟩ v2)) := hide fun y v0 v1 v2 g => (((g1.trans g).set _ 0 v0 (by omega)).set _ 1 v1 (by omega)).set _ 2 v2 (by omega)
  have H2' : Hid (∀ y, G W1 y → Calls Tryz.prog 14 #[.agg #[.slice so q2 sc, .slice go q3 gc, .slice co q4 cc, .slice ao q1 ac, .slice (some ⟨fb, foff, none⟩) NF fc, .int .i64 q6]] y fun e w' => e = .returned (.bool true) ∧ G y w') := hide fun y g => H2 y (g1.trans g)
  have H3' : Hid (∀ n, n < NF → ∀ y, G W1 y → Calls Tryz.prog 15 #[.agg #[.int .i64 (fn n).p, .int .i64 (fn n).c, .int .i64 (fn n).s, .int .i64 (fn n).r, .slice (ko n) (fn n).ks.length (kc n), .slice (io n) (fn n).is.length (ic n), .slice (mo n) (fn n).ms.length (mc n)]] y fun e w' => e = .returned (.bool true) ∧ G y w') := hide fun n hn y g => H3 n hn y (g1.trans g)
  have HF' : Hid (∀ n, n < NF → ∀ y, G w y → CellsAt y fb (foff + n * 7) [.int .i64 (fn n).p, .int .i64 (fn n).c, .int .i64 (fn n).s, .int .i64 (fn n).r, .slice (ko n) (fn n).ks.length (kc n), .slice (io n) (fn n).is.length (ic n), .slice (mo n) (fn n).ms.length (mc n)]) := hide HF
  clear a0 a1 H1 H2 H3 HF
  replace g1 := hide g1
  replace RB := hide RB
  replace HP0 := hide HP0
  replace HPw := hide HPw
  replace HQw := hide HQw
  replace HPg := hide HPg
  replace HJ := hide HJ
  replace HB := hide HB
  replace HE := hide HE
  replace hL := hide hL
  go_enter Tryz.func10, Tryz.ntmps10
  go_upto_region 1 with fail
  rw [← hW1]
  clear hW1
  go_wp2_with fail
  refine (unhide H1' _ (G.refl _)).mono ?_
  rintro e w2 ⟨rfl, g2⟩
  replace g2 := hide g2
  clear m0 m1 m2 m3 m4 m5 H1'
  obtain ⟨m0, m1, m2, m3, m4, m5⟩ := unhide BG _ (unhide g2)
  go_wp2_with fail
  refine (unhide H2' _ (unhide g2)).mono ?_
  rintro e w3 ⟨rfl, g3⟩
  have gw3 := hide ((unhide g2).trans g3)
  clear g3 g2 m0 m1 m2 m3 m4 m5 H2'
  obtain ⟨m0, m1, m2, m3, m4, m5⟩ := unhide BG _ (unhide gw3)
  go_wp2_with fail
  clear m0 m1 m2 m3 m4 m5
  go_loopw [22] (fun i wr => ∃ n : Nat, n ≤ NF ∧ i = .int .i64 (n : Int) ∧ Hid (G W1 wr)) (fun i _ => NF - (intOf i).toNat)
  case atStart => exact ⟨0, Nat.zero_le _, rfl, gw3⟩
  case round =>
    obtain ⟨n, hn, rfl, hg⟩ := hrel
    by_cases hlt : n < NF
    · have ff := unhide HF' n hlt _ ((unhide g1).trans (unhide hg))
      have f0 := ff 0 _ rfl
      have f1 := ff 1 _ rfl
      have f2 := ff 2 _ rfl
      have f3 := ff 3 _ rfl
      have f4 := ff 4 _ rfl
      have f5 := ff 5 _ rfl
      have f6 := ff 6 _ rfl
      simp only [Nat.add_zero] at f0
      have C3 := hide (unhide H3' n hlt)
      clear ff
      generalize (fn n).p = p at *
      generalize (fn n).c = c at *
      generalize (fn n).s = s at *
      generalize (fn n).r = r at *
      generalize (fn n).ks.length = KL at *
      generalize (fn n).is.length = IL at *
      generalize (fn n).ms.length = ML at *
      obtain ⟨Wc, hWc⟩ : ∃ Wc, Wc = wr.alloc (.cells #[.int .i64 p, .int .i64 c, .int .i64 s, .int .i64 r, .slice (ko n) KL (kc n), .slice (io n) IL (ic n), .slice (mo n) ML (mc n)] 39) := ⟨_, rfl⟩
      have gc : G wr Wc := by rw [hWc]; exact G.alloc _ _
      have zb : ∀ k v, #[Value.int .i64 p, .int .i64 c, .int .i64 s, .int .i64 r, .slice (ko n) KL (kc n), .slice (io n) IL (ic n), .slice (mo n) ML (mc n)][k]? = some v → Wc.cell? ⟨wr.heap.size, k, none⟩ = some v := fun k v h => by rw [hWc, World.cell?_alloc_new]; exact h
      have k0 := zb 0 _ rfl
      have k1 := zb 1 _ rfl
      have k2 := zb 2 _ rfl
      have k3 := zb 3 _ rfl
      have k4 := zb 4 _ rfl
      have k5 := zb 5 _ rfl
      have k6 := zb 6 _ rfl
      have gwc := hide ((unhide hg).trans gc)
      clear zb gc
      go_upto_region 8 with fail
      rw [← hWc]
      clear hWc f0 f1 f2 f3 f4 f5 f6
      go_wp2_with fail
      refine (unhide C3 _ (unhide gwc)).mono ?_
      rintro e w4 ⟨rfl, g4⟩
      have gw4 := hide ((unhide gwc).trans g4)
      clear g4 gwc C3 k0 k1 k2 k3 k4 k5 k6 hg
      go_wp2_with fail
      go_roundw
      case rel => exact ⟨n + 1, by omega, by go_num, gw4⟩
      case measure => simp [intOf]; omega
    · obtain rfl : NF = n := by omega
      clear H3'
      obtain ⟨m0, m1, m2, m3, m4, m5⟩ := unhide BG _ (unhide hg)
      have hmk := mk_bools q1 hq wr
      have hs1 : W1.heap.size ≤ wr.heap.size := (unhide hg).size
      have hws : w.heap.size + 1 < W1.heap.size := (unhide RB).1
      obtain ⟨tb, htb⟩ : ∃ tb, tb = wr.heap.size := ⟨_, rfl⟩
      have P0 : Hid (P tb 0 (wr.alloc (.cells (madeCells #[.bool false] q1) 4))) := hide (by rw [htb]; exact unhide HP0 wr ((unhide g1).trans (unhide hg)))
      have F0 : Hid (((wr.alloc (.cells (madeCells #[.bool false] q1) 4)).cell? ⟨w.heap.size, 0, none⟩ = some (.slice so q2 sc) ∧ (wr.alloc (.cells (madeCells #[.bool false] q1) 4)).cell? ⟨w.heap.size, 1, none⟩ = some (.slice go q3 gc) ∧ (wr.alloc (.cells (madeCells #[.bool false] q1) 4)).cell? ⟨w.heap.size, 2, none⟩ = some (.slice co q4 cc) ∧ (wr.alloc (.cells (madeCells #[.bool false] q1) 4)).cell? ⟨w.heap.size, 3, none⟩ = some (.slice ao q1 ac) ∧ (wr.alloc (.cells (madeCells #[.bool false] q1) 4)).cell? ⟨w.heap.size, 4, none⟩ = some (.slice (some ⟨fb, foff, none⟩) NF fc) ∧ (wr.alloc (.cells (madeCells #[.bool false] q1) 4)).cell? ⟨w.heap.size, 5, none⟩ = some (.int .i64 q6)) ∧ Rb (wr.alloc (.cells (madeCells #[.bool false] q1) 4)) (w.heap.size + 1) 3 ∧ tb < (wr.alloc (.cells (madeCells #[.bool false] q1) 4)).heap.size) := hide (by
        have gg := (unhide hg).more (.cells (madeCells #[.bool false] q1) 4)
        exact ⟨unhide BG _ gg, unhide RG _ gg, by rw [World.size_alloc]; omega⟩)
      have FG : Hid (∀ y z, ((y.cell? ⟨w.heap.size, 0, none⟩ = some (.slice so q2 sc) ∧ y.cell? ⟨w.heap.size, 1, none⟩ = some (.slice go q3 gc) ∧ y.cell? ⟨w.heap.size, 2, none⟩ = some (.slice co q4 cc) ∧ y.cell? ⟨w.heap.size, 3, none⟩ = some (.slice ao q1 ac) ∧ y.cell? ⟨w.heap.size, 4, none⟩ = some (.slice (some ⟨fb, foff, none⟩) NF fc) ∧ y.cell? ⟨w.heap.size, 5, none⟩ = some (.int .i64 q6)) ∧ Rb y (w.heap.size + 1) 3 ∧ tb < y.heap.size) → Gt tb y z → ((z.cell? ⟨w.heap.size, 0, none⟩ = some (.slice so q2 sc) ∧ z.cell? ⟨w.heap.size, 1, none⟩ = some (.slice go q3 gc) ∧ z.cell? ⟨w.heap.size, 2, none⟩ = some (.slice co q4 cc) ∧ z.cell? ⟨w.heap.size, 3, none⟩ = some (.slice ao q1 ac) ∧ z.cell? ⟨w.heap.size, 4, none⟩ = some (.slice (some ⟨fb, foff, none⟩) NF fc) ∧ z.cell? ⟨w.heap.size, 5, none⟩ = some (.int .i64 q6)) ∧ Rb z (w.heap.size + 1) 3 ∧ tb < z.heap.size)) := hide fun y z h g => by
        obtain ⟨⟨h0, h1, h2, h3, h4, h5⟩, hr, ht⟩ := h
        have hw : w.heap.size < y.heap.size := by have := hr.1; omega
        have hn : w.heap.size ≠ tb := by omega
        exact ⟨⟨g.cell h0 hw hn, g.cell h1 hw hn, g.cell h2 hw hn, g.cell h3 hw hn, g.cell h4 hw hn, g.cell h5 hw hn⟩, hr.gt g (by omega), Nat.lt_of_lt_of_le ht g.size⟩
      rw [← htb] at hmk
      clear hg RG BG RB HP0 hs1 gw3
      go_upto_region 12 with fail
      obtain ⟨Wt, hWt⟩ : ∃ Wt, Wt = wr.alloc (.cells (madeCells #[.bool false] q1) 4) := ⟨_, rfl⟩
      rw [← hWt] at P0 F0 ⊢
      clear hWt hmk m0 m1 m2 m3 m4 m5
      rw [← htb]
      clear htb
      obtain ⟨⟨m0, m1, m2, m3, m4, m5⟩, -, -⟩ := unhide F0
      go_wp2_with fail
      clear m0 m1 m2 m3 m4 m5
      go_loopw [40] (fun i y => ∃ n : Nat, n ≤ NF ∧ i = .int .i64 (n : Int) ∧ Hid (P tb n y) ∧ Hid ((y.cell? ⟨w.heap.size, 0, none⟩ = some (.slice so q2 sc) ∧ y.cell? ⟨w.heap.size, 1, none⟩ = some (.slice go q3 gc) ∧ y.cell? ⟨w.heap.size, 2, none⟩ = some (.slice co q4 cc) ∧ y.cell? ⟨w.heap.size, 3, none⟩ = some (.slice ao q1 ac) ∧ y.cell? ⟨w.heap.size, 4, none⟩ = some (.slice (some ⟨fb, foff, none⟩) NF fc) ∧ y.cell? ⟨w.heap.size, 5, none⟩ = some (.int .i64 q6)) ∧ Rb y (w.heap.size + 1) 3 ∧ tb < y.heap.size) ∧ Hid (RlB rl (fun n => (fn n).is.length) n 0)) (fun i _ => NF - (intOf i).toNat)
      case atStart => exact ⟨0, Nat.zero_le _, rfl, P0, F0, hide ⟨fun n' pc' h => absurd h (Nat.not_lt_zero _), fun pc' h => absurd h (Nat.not_lt_zero _)⟩⟩
      case round =>
        clear P0 F0
        obtain ⟨n, hn, rfl, hP, hF, hRl⟩ := hrel
        by_cases hlt : n < NF
        · have ff := unhide HF' n hlt _ (unhide HPw _ _ _ (unhide hP))
          have f0 := ff 0 _ rfl
          have f1 := ff 1 _ rfl
          have f2 := ff 2 _ rfl
          have f3 := ff 3 _ rfl
          have f4 := ff 4 _ rfl
          have f5 := ff 5 _ rfl
          have f6 := ff 6 _ rfl
          simp only [Nat.add_zero] at f0
          have CJ := hide (fun y => unhide HJ tb n y hlt)
          have CB := hide (fun jb pc y => unhide HB tb n jb pc y hlt)
          have CE := hide (unhide HE tb n)
          have hL0 := unhide hL n hlt
          have FI : Hid (∀ pc, pc < (fn n).is.length → RlB rl (fun n => (fn n).is.length) n pc → rl n pc ≠ 0 → ∀ z, G w z → FfTo w rl (fun n => (fn n).is.length) NF (.returned (.agg #[.int .i64 (n : Int), .int .i64 (pc : Int), .int .i64 (rl n pc)])) z) := hide fun pc h1 h2 h3 z g => ⟨Or.inl ⟨n, pc, hlt, h1, h2, h3, rfl⟩, g⟩
          have NX : Hid (RlB rl (fun n => (fn n).is.length) n (fn n).is.length → RlB rl (fun n => (fn n).is.length) (n + 1) 0) := hide fun h => ⟨fun n' pc' h1 h2 => by
            rcases Nat.lt_or_ge n' n with h3 | h3
            · exact h.1 n' pc' h3 h2
            · obtain rfl : n = n' := by omega
              exact h.2 pc' h2, fun pc' h => absurd h (Nat.not_lt_zero _)⟩
          clear ff
          generalize (fn n).p = p at *
          generalize (fn n).c = c at *
          generalize (fn n).s = s at *
          generalize (fn n).r = r at *
          generalize (fn n).ks.length = KL at *
          generalize (fn n).is.length = IL at *
          generalize (fn n).ms.length = ML at *
          obtain ⟨Wc, hWc⟩ : ∃ Wc, Wc = wr.alloc (.cells #[.int .i64 p, .int .i64 c, .int .i64 s, .int .i64 r, .slice (ko n) KL (kc n), .slice (io n) IL (ic n), .slice (mo n) ML (mc n)] 39) := ⟨_, rfl⟩
          have gc : G wr Wc := by rw [hWc]; exact G.alloc _ _
          have zb : ∀ k v, (#[.int .i64 p, .int .i64 c, .int .i64 s, .int .i64 r, .slice (ko n) KL (kc n), .slice (io n) IL (ic n), .slice (mo n) ML (mc n)] : Array Value)[k]? = some v → Wc.cell? ⟨wr.heap.size, k, none⟩ = some v := fun k v h => by rw [hWc, World.cell?_alloc_new]; exact h
          have k0 := zb 0 _ rfl
          have k1 := zb 1 _ rfl
          have k2 := zb 2 _ rfl
          have k3 := zb 3 _ rfl
          have k4 := zb 4 _ rfl
          have k5 := zb 5 _ rfl
          have k6 := zb 6 _ rfl
          have hPc := unhide HPg _ _ _ _ (unhide hP) gc
          have hFc := unhide FG _ _ (unhide hF) gc.gt
          have C := hide (unhide CJ Wc hPc)
          have hbx : wr.heap.size ≠ tb := by have := (unhide hF).2.2; omega
          have hbl : wr.heap.size < Wc.heap.size := by rw [hWc, World.size_alloc]; omega
          clear zb CJ hPc hP hF
          go_upto_region 15 with fail
          rw [← hWc]
          clear hWc f0 f1 f2 f3 f4 f5 f6
          replace hFc := hide hFc
          obtain ⟨⟨m0, m1, m2, m3, m4, m5⟩, -, -⟩ := unhide hFc
          replace gc := hide gc
          go_wp2_with fail
          refine (unhide C).mono ?_
          rintro e w5 ⟨jb, rfl, hQ, g5⟩
          have k5' := g5.cell k5
          have hF5 := hide (unhide FG _ _ (unhide hFc) g5.gt)
          replace hQ := hide hQ
          clear C m0 m1 m2 m3 m4 m5 k0 k1 k2 k3 k4 k5 k6 gc hFc g5
          go_wp2_with fail
          clear k5'
          go_loopw [52] (fun i y => ∃ pc : Nat, pc ≤ IL ∧ i = .int .i64 (pc : Int) ∧ Hid (Q tb n jb pc y) ∧ Hid ((y.cell? ⟨w.heap.size, 0, none⟩ = some (.slice so q2 sc) ∧ y.cell? ⟨w.heap.size, 1, none⟩ = some (.slice go q3 gc) ∧ y.cell? ⟨w.heap.size, 2, none⟩ = some (.slice co q4 cc) ∧ y.cell? ⟨w.heap.size, 3, none⟩ = some (.slice ao q1 ac) ∧ y.cell? ⟨w.heap.size, 4, none⟩ = some (.slice (some ⟨fb, foff, none⟩) NF fc) ∧ y.cell? ⟨w.heap.size, 5, none⟩ = some (.int .i64 q6)) ∧ Rb y (w.heap.size + 1) 3 ∧ tb < y.heap.size) ∧ Hid (RlB rl (fun n => (fn n).is.length) n pc)) (fun i _ => IL - (intOf i).toNat)
          case atStart => exact ⟨0, Nat.zero_le _, rfl, hQ, hF5, hRl⟩
          case round =>
            clear hQ hF5 hRl
            obtain ⟨pc, hpc, rfl, hQ, hF, hRl⟩ := hrel
            by_cases hp : pc < IL
            · have C := hide (unhide CB jb pc _ hp (unhide hQ))
              have FI2 := hide (unhide FI pc hp (unhide hRl))
              have NX2 : Hid (rl n pc = 0 → RlB rl (fun n => (fn n).is.length) n (pc + 1)) := hide fun h => ⟨(unhide hRl).1, fun pc' h' => by
                rcases Nat.lt_or_ge pc' pc with h3 | h3
                · exact (unhide hRl).2 pc' h3
                · obtain rfl : pc = pc' := by omega
                  exact h⟩
              clear FI NX CE hQ
              generalize rl n pc = rv at *
              go_wp2_with fail
              refine (unhide C).mono ?_
              rintro e w6 ⟨rfl, gw6, hQ6, gt6⟩
              have hF6 := hide (unhide FG _ _ (unhide hF) gt6)
              replace gw6 := hide gw6
              replace hQ6 := hide hQ6
              clear C gt6 hF
              by_cases h0 : rv = 0
              · have q6 := unhide hQ6 h0
                have r6 := unhide NX2 h0
                subst h0
                clear hQ6 FI2 NX2
                go_wp2_with fail
                go_roundw
                case rel => exact ⟨pc + 1, by omega, by go_num, hide q6, hF6, hide r6⟩
                case measure => simp [intOf]; omega
              · have hne : (rv != 0) = true := by simpa using h0
                have hR := (unhide hF6).2.1
                obtain ⟨u0, e0⟩ := Option.isSome_iff_exists.1 (hR.2.1 0 (by decide))
                obtain ⟨u1, e1⟩ := Option.isSome_iff_exists.1 (hR.2.1 1 (by decide))
                obtain ⟨u2, e2⟩ := Option.isSome_iff_exists.1 (hR.2.1 2 (by decide))
                have z0 := hR.2.2 0
                have z1 := hR.2.2 1
                have z2 := hR.2.2 2
                have gz := hide (fun v0 v1 v2 => unhide FI2 h0 _ ((((unhide gw6).set (w.heap.size + 1) 0 v0 (by omega)).set (w.heap.size + 1) 1 v1 (by omega)).set (w.heap.size + 1) 2 v2 (by omega)))
                clear hR h0 hQ6 FI2 NX2
                go_wp2_with fail
                refine bodyPost_ret (by simp [results, Tryz.results10, go_sem, e0, e1, e2]; try rfl) rfl ?_
                exact unhide gz _ _ _
            · obtain rfl : IL = pc := by omega
              have hP2 := hide (unhide CE jb _ (unhide hQ))
              have hR2 := hide (unhide NX (unhide hRl))
              clear CE NX FI CB hQ hRl
              go_wp2_with fail
              go_roundw
              case rel => exact ⟨n + 1, by omega, by go_num, hP2, hF, hR2⟩
              case measure => simp [intOf]; omega
        · obtain rfl : NF = n := by omega
          have hR := (unhide hF).2.1
          obtain ⟨u0, e0⟩ := Option.isSome_iff_exists.1 (hR.2.1 0 (by decide))
          obtain ⟨u1, e1⟩ := Option.isSome_iff_exists.1 (hR.2.1 1 (by decide))
          obtain ⟨u2, e2⟩ := Option.isSome_iff_exists.1 (hR.2.1 2 (by decide))
          have z0 := hR.2.2 0
          have z1 := hR.2.2 1
          have z2 := hR.2.2 2
          have gw := unhide HPw _ _ _ (unhide hP)
          have gz : Hid (∀ v0 v1 v2, FfTo w rl (fun n => (fn n).is.length) NF (.returned (.agg #[.int .i64 0, .int .i64 0, .int .i64 0])) (((wr.setCell ⟨w.heap.size + 1, 0, none⟩ v0).setCell ⟨w.heap.size + 1, 1, none⟩ v1).setCell ⟨w.heap.size + 1, 2, none⟩ v2)) := hide (fun v0 v1 v2 => ⟨Or.inr ⟨unhide hRl, rfl⟩, ((gw.set (w.heap.size + 1) 0 v0 (by omega)).set (w.heap.size + 1) 1 v1 (by omega)).set (w.heap.size + 1) 2 v2 (by omega)⟩)
          clear hR gw hP hF hRl
          go_wp2_with fail
          refine bodyPost_ret (by simp [results, Tryz.results10, go_sem, e0, e1, e2]; try rfl) rfl ?_
          exact unhide gz _ _ _
end Go.Proofs.YtnliooflpclcbaaGreatDoor

/- Package verify: Check, Module. -/
namespace Go.Proofs.YtnliooflpclcbaaGreatDoor
set_option maxRecDepth 100000
open Go.RowKit Go.Maps Go.ChangeShapes Go.WideShapes Go.ChangeAt Go.Deep

theorem build_f0 (w : World) : (Instr.build 24 #[]).run Tryz.prog w = .ok (.agg #[.int .i64 0, .int .i64 0, .int .i64 0]) w := by kernel_rfl
def okF (a b c : Int) : Bool := a == 0 && (b == 0 && c == 0)
set_option maxHeartbeats 2000000 in
theorem check_of (w : World) (so : Option Addr) (sc : Nat) (go : Option Addr) (gc : Nat) (co : Option Addr) (cc : Nat) (ao : Option Addr) (ac : Nat) (fo : Option Addr) (fc : Nat) (q1 q2 q3 q4 NF : Nat) (q6 : Int) (a b c : Int) (H : ∀ y, G w y → Calls Tryz.prog 10 #[.agg #[.slice so q2 sc, .slice go q3 gc, .slice co q4 cc, .slice ao q1 ac, .slice fo NF fc, .int .i64 q6]] y fun e w' => e = .returned (.agg #[.int .i64 a, .int .i64 b, .int .i64 c]) ∧ G y w') :
    Calls Tryz.prog 6 #[.agg #[.slice so q2 sc, .slice go q3 gc, .slice co q4 cc, .slice ao q1 ac, .slice fo NF fc, .int .i64 q6]] w fun e w' => e = .returned (.tuple #[.agg #[.int .i64 a, .int .i64 b, .int .i64 c], .bool (okF a b c)]) ∧ G w w' := by
  obtain ⟨W1, hW1⟩ : ∃ W1, W1 = (w.alloc (.cells #[.slice so q2 sc, .slice go q3 gc, .slice co q4 cc, .slice ao q1 ac, .slice fo NF fc, .int .i64 q6] 33)).alloc (.cells #[.int .i64 0, .int .i64 0, .int .i64 0] 24) := ⟨_, rfl⟩
  have g1 : G w W1 := by rw [hW1]; exact (G.alloc _ _).more _
  obtain ⟨a0, a1⟩ := al2 w _ _ _ _ W1 hW1
  have m0 := a0 0
  have m1 := a0 1
  have m2 := a0 2
  have m3 := a0 3
  have m4 := a0 4
  have m5 := a0 5
  have C := hide (H W1 g1)
  have RB : Rb W1 (w.heap.size + 1) 3 := by
    refine ⟨by rw [hW1, World.size_alloc, World.size_alloc]; omega, fun i hi => by rw [a1 i]; simp [hi], fun i => ?_⟩
    have hh := heap_alloc_new (w.alloc (.cells #[.slice so q2 sc, .slice go q3 gc, .slice co q4 cc, .slice ao q1 ac, .slice fo NF fc, .int .i64 q6] 33)) (.cells #[.int .i64 0, .int .i64 0, .int .i64 0] 24)
    rw [World.size_alloc] at hh
    unfold World.frozen?
    rw [hW1, hh]
    simp
  have hlt := RB.1
  have RG : Hid (∀ y, G W1 y → Rb y (w.heap.size + 1) 3) := hide fun y g => RB.g g
  have bf := build_f0
  have ho : okF a b c = (a == 0 && (b == 0 && c == 0)) := rfl
  clear a0 a1 H RB
  replace g1 := hide g1
  go_enter Tryz.func6, Tryz.ntmps6
  go_upto_region 1 with fail
  rw [← hW1]
  clear hW1
  go_wp2_with fail
  refine (unhide C).mono ?_
  rintro e w2 ⟨rfl, g2⟩
  clear C m0 m1 m2 m3 m4 m5
  go_upto_region 2 with fail
  obtain ⟨W2, hW2⟩ : ∃ W2, W2 = w2.alloc (.cells #[.int .i64 a, .int .i64 b, .int .i64 c] 24) := ⟨_, rfl⟩
  have g3 : G W1 W2 := by rw [hW2]; exact g2.more _
  have k0 : W2.cell? ⟨w2.heap.size, 0, none⟩ = some (.int .i64 a) := by rw [hW2, World.cell?_alloc_new]; rfl
  have k1 : W2.cell? ⟨w2.heap.size, 1, none⟩ = some (.int .i64 b) := by rw [hW2, World.cell?_alloc_new]; rfl
  have k2 : W2.cell? ⟨w2.heap.size, 2, none⟩ = some (.int .i64 c) := by rw [hW2, World.cell?_alloc_new]; rfl
  have hne : ¬ w2.heap.size = w.heap.size + 1 := by have := g2.size; omega
  rw [← hW2]
  clear hW2 g2
  have hR := unhide RG _ g3
  obtain ⟨u0, e0⟩ := Option.isSome_iff_exists.1 (hR.2.1 0 (by decide))
  obtain ⟨u1, e1⟩ := Option.isSome_iff_exists.1 (hR.2.1 1 (by decide))
  obtain ⟨u2, e2⟩ := Option.isSome_iff_exists.1 (hR.2.1 2 (by decide))
  have z0 := hR.2.2 0
  have z1 := hR.2.2 1
  have z2 := hR.2.2 2
  have GS : Hid (∀ y v0 v1 v2, G w y → G w (((y.setCell ⟨w.heap.size + 1, 0, none⟩ v0).setCell ⟨w.heap.size + 1, 1, none⟩ v1).setCell ⟨w.heap.size + 1, 2, none⟩ v2)) := hide fun y v0 v1 v2 g => ((g.set _ 0 v0 (by omega)).set _ 1 v1 (by omega)).set _ 2 v2 (by omega)
  have gz := hide ((unhide g1).trans g3)
  clear hR RG g3 g1 hlt
  by_cases ha : a = 0
  · have qa : (a == 0) = true := by simp [ha]
    by_cases hb : b = 0
    · have qb : (b == 0) = true := by simp [hb]
      by_cases hc : c = 0
      · have qc : (c == 0) = true := by simp [hc]
        rw [qa, qb, qc] at ho
        subst ha hb hc
        replace ho := hide ho
        go_region
        all_goals
          go_wp2_with fail
          refine bodyPost_ret (by simp [results, Tryz.results6, go_sem, e0, e1, e2]; try rfl) rfl ?_
          refine ⟨by rw [unhide ho]; rfl, ?_⟩
          first | exact unhide GS _ _ _ _ (unhide gz) | exact (unhide GS _ _ _ _ (unhide gz)).drew | exact unhide GS _ _ _ _ (unhide gz).drew
      · have qc : (c == 0) = false := by simpa using hc
        rw [qa, qb, qc] at ho
        subst ha hb
        replace ho := hide ho
        go_region
        all_goals
          go_wp2_with fail
          refine bodyPost_ret (by simp [results, Tryz.results6, go_sem, e0, e1, e2]; try rfl) rfl ?_
          refine ⟨by rw [unhide ho]; rfl, ?_⟩
          first | exact unhide GS _ _ _ _ (unhide gz) | exact (unhide GS _ _ _ _ (unhide gz)).drew | exact unhide GS _ _ _ _ (unhide gz).drew
    · have qb : (b == 0) = false := by simpa using hb
      rw [qa, qb] at ho
      subst ha
      replace ho := hide ho
      go_region
      all_goals
        go_wp2_with fail
        refine bodyPost_ret (by simp [results, Tryz.results6, go_sem, e0, e1, e2]; try rfl) rfl ?_
        refine ⟨by rw [unhide ho]; rfl, ?_⟩
        first | exact unhide GS _ _ _ _ (unhide gz) | exact (unhide GS _ _ _ _ (unhide gz)).drew | exact unhide GS _ _ _ _ (unhide gz).drew
  · have qa : (a == 0) = false := by simpa using ha
    rw [qa] at ho
    replace ho := hide ho
    go_region
    all_goals
      go_wp2_with fail
      refine bodyPost_ret (by simp [results, Tryz.results6, go_sem, e0, e1, e2]; try rfl) rfl ?_
      refine ⟨by rw [unhide ho]; rfl, ?_⟩
      first | exact unhide GS _ _ _ _ (unhide gz) | exact (unhide GS _ _ _ _ (unhide gz)).drew | exact unhide GS _ _ _ _ (unhide gz).drew
set_option maxHeartbeats 2000000 in
theorem module_of (w : World) (so : Option Addr) (sc : Nat) (go : Option Addr) (gc : Nat) (co : Option Addr) (cc : Nat) (ao : Option Addr) (ac : Nat) (fo : Option Addr) (fc : Nat) (q1 q2 q3 q4 NF : Nat) (q6 : Int) (a b c : Int) (H : ∀ y, G w y → Calls Tryz.prog 10 #[.agg #[.slice so q2 sc, .slice go q3 gc, .slice co q4 cc, .slice ao q1 ac, .slice fo NF fc, .int .i64 q6]] y fun e w' => e = .returned (.agg #[.int .i64 a, .int .i64 b, .int .i64 c]) ∧ G y w') :
    Calls Tryz.prog 9 #[.agg #[.slice so q2 sc, .slice go q3 gc, .slice co q4 cc, .slice ao q1 ac, .slice fo NF fc, .int .i64 q6]] w fun e w' => e = .returned (.bool (okF a b c)) ∧ G w w' := by
  obtain ⟨W1, hW1⟩ : ∃ W1, W1 = w.alloc (.cells #[.slice so q2 sc, .slice go q3 gc, .slice co q4 cc, .slice ao q1 ac, .slice fo NF fc, .int .i64 q6] 33) := ⟨_, rfl⟩
  have g1 : G w W1 := by rw [hW1]; exact G.alloc _ _
  have m0 : W1.cell? ⟨w.heap.size, 0, none⟩ = some (.slice so q2 sc) := by rw [hW1, World.cell?_alloc_new]; rfl
  have m1 : W1.cell? ⟨w.heap.size, 1, none⟩ = some (.slice go q3 gc) := by rw [hW1, World.cell?_alloc_new]; rfl
  have m2 : W1.cell? ⟨w.heap.size, 2, none⟩ = some (.slice co q4 cc) := by rw [hW1, World.cell?_alloc_new]; rfl
  have m3 : W1.cell? ⟨w.heap.size, 3, none⟩ = some (.slice ao q1 ac) := by rw [hW1, World.cell?_alloc_new]; rfl
  have m4 : W1.cell? ⟨w.heap.size, 4, none⟩ = some (.slice fo NF fc) := by rw [hW1, World.cell?_alloc_new]; rfl
  have m5 : W1.cell? ⟨w.heap.size, 5, none⟩ = some (.int .i64 q6) := by rw [hW1, World.cell?_alloc_new]; rfl
  have C := hide (check_of W1 so sc go gc co cc ao ac fo fc q1 q2 q3 q4 NF q6 a b c (fun y g => H y (g1.trans g)))
  clear H
  replace g1 := hide g1
  generalize okF a b c = q at C ⊢
  go_enter Tryz.func9, Tryz.ntmps9
  go_upto_region 1 with fail
  rw [← hW1]
  clear hW1
  go_wp2_with fail
  refine (unhide C).mono ?_
  rintro e w2 ⟨rfl, g2⟩
  have gz := hide ((unhide g1).trans g2)
  clear C g2 g1
  go_wp2_with fail
  go_ret
  exact ⟨rfl, (unhide gz).more _⟩
end Go.Proofs.YtnliooflpclcbaaGreatDoor

/- PLAIN: what live says of a function that only returns. -/
namespace Go.Proofs.YtnliooflpclcbaaGreatDoor
set_option maxRecDepth 100000
open Go.RowKit Go.Maps Go.ChangeShapes Go.WideShapes Go.ChangeAt Go.Deep

def retF (s : Int) (ms : List Nat) : Fn := ⟨0, 0, s, 0, [true], [⟨22, -1, 0, 0, 0⟩], ms⟩
theorem ret_cl (m : Md) (s : Int) (ms : List Nat) : ClD m (retF s ms) (fun _ _ => False) := by
  refine ⟨fun pc i q hi hq h => ?_, fun _ _ _ _ _ _ _ h => h.elim, fun _ _ _ _ _ _ _ _ _ _ h => h.elim⟩
  match pc, hi with
  | 0, hi =>
    cases hi
    have e : rdP m ⟨22, -1, 0, 0, 0⟩ = [] := by rfl
    rw [e] at h
    cases h
  | pc + 1, hi => cases hi
theorem ret_sets (m : Md) (s : Int) (ms : List Nat) (st : Nat → Nat) (h : LeastD m (retF s ms) st) : st 0 = 0 := by
  have hb := h.bd 0 (by show 0 < 1; decide)
  refine Nat.eq_of_testBit_eq fun k => ?_
  rw [Nat.zero_testBit]
  rcases Bool.eq_false_or_eq_true ((st 0).testBit k) with e | e
  · exact (h.le _ (ret_cl m s ms) 0 k (by show 0 < 1; decide) e).elim
  · exact e
theorem least_uniqV {m : Md} {f : Fn} {s t : Nat → Nat} (h : LeastD m f s) (k : LeastD m f t) (pc : Nat) (hp : pc < f.is.length) : s pc = t pc := by
  refine Nat.eq_of_testBit_eq fun b => ?_
  rcases Bool.eq_false_or_eq_true ((s pc).testBit b) with e | e
  · have h1 := h.le _ k.cl pc b hp e
    rw [e]
    exact h1.symm
  · rcases Bool.eq_false_or_eq_true ((t pc).testBit b) with e2 | e2
    · have h1 := k.le _ h.cl pc b hp e2
      rw [e] at h1
      cases h1
    · rw [e, e2]
end Go.Proofs.YtnliooflpclcbaaGreatDoor

/- Package gantlinelaw12: one: a module that returns. -/
namespace Go.Proofs.YtnliooflpclcbaaGreatDoor
set_option maxRecDepth 100000
open Go.RowKit Go.Maps Go.ChangeShapes Go.WideShapes Go.ChangeAt Go.Deep

/-- A row of one thing that fills a block. -/
theorem row_one {α : Type} {E : El α} {w : World} {b : Nat} {cs : List Value} {t : TypeId} (hb : w.heap[b]? = some (.cells cs.toArray t)) (a : α) (hE : E.cs w a cs) : RowAt E w (some ⟨b, 0, none⟩) 1 1 [a] := by
  have hlt : b < w.heap.size := by
    rcases Nat.lt_or_ge b w.heap.size with hh | hh
    · exact hh
    · rw [Array.getElem?_eq_none hh] at hb; cases hb
  refine ⟨rfl, by unfold maxLen; omega, (fun e => by cases e), Or.inr ⟨b, 0, rfl, hlt, fun i a' hi => ?_⟩⟩
  match i, hi with
  | 0, hi =>
    cases hi
    refine ⟨cs, hE, fun j v hv => ?_⟩
    rw [cell_of_row _ _ _ _ _ _ hb]
    simpa using hv
  | i + 1, hi => cases hi
def oneI : In := ⟨22, -1, 0, 0, 0⟩
abbrev oneW1 (w : World) : World := w.alloc (.cells #[.slice none 0 0, .slice none 0 0, .slice none 0 0, .slice none 0 0, .slice (some ⟨w.heap.size + 4, 0, none⟩) 1 1, .int .i64 0] 33)
abbrev oneW2 (w : World) : World := (oneW1 w).alloc (.cells #[.bool true] 4)
abbrev oneW3 (w : World) : World := (oneW2 w).alloc (.cells #[.int .i64 22, .int .i64 (-1), .int .i64 0, .int .i64 0, .int .i64 0] 41)
abbrev oneW4 (w : World) (x : Nat) : World := (oneW3 w).alloc (.cells #[.int .u64 (x : Int)] 35)
abbrev oneF (w : World) : List Value := [.int .i64 0, .int .i64 0, .int .i64 1, .int .i64 0, .slice (some ⟨w.heap.size + 1, 0, none⟩) 1 1, .slice (some ⟨w.heap.size + 2, 0, none⟩) 1 1, .slice (some ⟨w.heap.size + 3, 0, none⟩) 1 1]
abbrev oneW (w : World) (x : Nat) : World := (oneW4 w x).alloc (.cells (oneF w).toArray 39)
set_option maxHeartbeats 2000000 in
theorem one_any (w : World) (x : Nat) : Calls Tryz.prog 7 #[.int .u64 (x : Int)] w fun e w' => e = .returned (.agg #[.slice none 0 0, .slice none 0 0, .slice none 0 0, .slice none 0 0, .slice (some ⟨w.heap.size + 4, 0, none⟩) 1 1, .int .i64 0]) ∧ w' = oneW w x := by
  go_enter Tryz.func7, Tryz.ntmps7
  go_wp2_with fail
  refine bodyPost_ret (by simp [results, Tryz.results7, go_sem]; try rfl) rfl ?_
  exact ⟨rfl, rfl⟩
theorem one_sizes (w : World) (x : Nat) : (oneW1 w).heap.size = w.heap.size + 1 ∧ (oneW2 w).heap.size = w.heap.size + 2 ∧ (oneW3 w).heap.size = w.heap.size + 3 ∧ (oneW4 w x).heap.size = w.heap.size + 4 ∧ (oneW w x).heap.size = w.heap.size + 5 := by
  have h1 : (oneW1 w).heap.size = w.heap.size + 1 := World.size_alloc ..
  have h2 : (oneW2 w).heap.size = w.heap.size + 2 := by unfold oneW2; rw [World.size_alloc, h1]
  have h3 : (oneW3 w).heap.size = w.heap.size + 3 := by unfold oneW3; rw [World.size_alloc, h2]
  have h4 : (oneW4 w x).heap.size = w.heap.size + 4 := by unfold oneW4; rw [World.size_alloc, h3]
  exact ⟨h1, h2, h3, h4, by unfold oneW; rw [World.size_alloc, h4]⟩
theorem one_g (w : World) (x : Nat) : G w (oneW w x) := ((((G.alloc w _).more _).more _).more _).more _
theorem one_b1 (w : World) (x : Nat) : (oneW w x).heap[w.heap.size + 1]? = some (.cells #[.bool true] 4) := by
  obtain ⟨h1, h2, h3, h4, h5⟩ := one_sizes w x
  have e := heap_alloc_new (oneW1 w) (.cells #[.bool true] 4)
  rw [h1] at e
  exact ((G.alloc (oneW4 w x) _).block _ (by omega)).trans (((G.alloc (oneW3 w) _).block _ (by omega)).trans (((G.alloc (oneW2 w) _).block _ (by omega)).trans e))
theorem one_b2 (w : World) (x : Nat) : (oneW w x).heap[w.heap.size + 2]? = some (.cells #[.int .i64 22, .int .i64 (-1), .int .i64 0, .int .i64 0, .int .i64 0] 41) := by
  obtain ⟨h1, h2, h3, h4, h5⟩ := one_sizes w x
  have e := heap_alloc_new (oneW2 w) (.cells #[.int .i64 22, .int .i64 (-1), .int .i64 0, .int .i64 0, .int .i64 0] 41)
  rw [h2] at e
  exact ((G.alloc (oneW4 w x) _).block _ (by omega)).trans (((G.alloc (oneW3 w) _).block _ (by omega)).trans e)
theorem one_b3 (w : World) (x : Nat) : (oneW w x).heap[w.heap.size + 3]? = some (.cells #[.int .u64 (x : Int)] 35) := by
  obtain ⟨h1, h2, h3, h4, h5⟩ := one_sizes w x
  have e := heap_alloc_new (oneW3 w) (.cells #[.int .u64 (x : Int)] 35)
  rw [h3] at e
  exact ((G.alloc (oneW4 w x) _).block _ (by omega)).trans e
theorem one_b4 (w : World) (x : Nat) : (oneW w x).heap[w.heap.size + 4]? = some (.cells (oneF w).toArray 39) := by
  obtain ⟨h1, h2, h3, h4, h5⟩ := one_sizes w x
  have e := heap_alloc_new (oneW4 w x) (.cells (oneF w).toArray 39)
  rw [h4] at e
  exact e
/-- The module that one answers. -/
def oneM (x : Nat) : Md := ⟨[], [], [], [], [⟨0, 0, 1, 0, [true], [oneI], [x]⟩], 0⟩
theorem one_rows (w : World) (x : Nat) : RowAt elB (oneW w x) (some ⟨w.heap.size + 1, 0, none⟩) 1 1 [true] ∧ RowAt elIn (oneW w x) (some ⟨w.heap.size + 2, 0, none⟩) 1 1 [oneI] ∧ RowAt elU (oneW w x) (some ⟨w.heap.size + 3, 0, none⟩) 1 1 [x] :=
  ⟨row_one (cs := [.bool true]) (one_b1 w x) true rfl, row_one (cs := [.int .i64 22, .int .i64 (-1), .int .i64 0, .int .i64 0, .int .i64 0]) (one_b2 w x) oneI rfl, row_one (cs := [.int .u64 (x : Int)]) (one_b3 w x) x rfl⟩
theorem one_mod (w : World) (x : Nat) : ModR (oneW w x) (oneM x) none 0 none 0 none 0 none 0 (some ⟨w.heap.size + 4, 0, none⟩) 1 := by
  obtain ⟨r1, r2, r3⟩ := one_rows w x
  exact ⟨RowAt.nil _, RowAt.nil _, RowAt.nil _, RowAt.nil _, row_one (cs := oneF w) (one_b4 w x) _ ⟨_, _, _, _, _, _, rfl, r1, r2, r3⟩, Nat.le_refl _⟩
theorem one_here (w : World) (x : Nat) : FnHere (oneW w x) (some ⟨w.heap.size + 4, 0, none⟩) 0 ⟨0, 0, 1, 0, [true], [oneI], [x]⟩ (some ⟨w.heap.size + 1, 0, none⟩) 1 := by
  obtain ⟨h1, h2, h3, h4, h5⟩ := one_sizes w x
  refine ⟨w.heap.size + 4, 0, some ⟨w.heap.size + 2, 0, none⟩, 1, some ⟨w.heap.size + 3, 0, none⟩, 1, rfl, by omega, fun j v hv => ?_⟩
  rw [cell_of_row _ _ _ _ _ _ (one_b4 w x)]
  simpa using hv
end Go.Proofs.YtnliooflpclcbaaGreatDoor

/- Package gantlinelaw12: a module of one function of one instruction, wherever it lies. -/
namespace Go.Proofs.YtnliooflpclcbaaGreatDoor
set_option maxRecDepth 100000
open Go.RowKit Go.Maps Go.ChangeShapes Go.WideShapes Go.ChangeAt Go.Deep

theorem row_oneC {α : Type} {E : El α} {w : World} {b : Nat} {cs : List Value} (hlt : b < w.heap.size) (hc : CellsAt w b 0 cs) (a : α) (hE : E.cs w a cs) : RowAt E w (some ⟨b, 0, none⟩) 1 1 [a] := by
  refine ⟨rfl, by unfold maxLen; omega, (fun e => by cases e), Or.inr ⟨b, 0, rfl, hlt, fun i a' hi => ?_⟩⟩
  match i, hi with
  | 0, hi =>
    cases hi
    exact ⟨cs, hE, by simpa using hc⟩
  | i + 1, hi => cases hi
structure OneAt (y : World) (kb ib mb fb : Nat) (s : Int) (i : In) (x : Nat) : Prop where
  l1 : kb < y.heap.size
  l2 : ib < y.heap.size
  l3 : mb < y.heap.size
  l4 : fb < y.heap.size
  c1 : CellsAt y kb 0 [.bool true]
  c2 : CellsAt y ib 0 [.int .i64 i.op, .int .i64 i.a, .int .i64 i.b, .int .i64 i.c, .int .i64 i.d]
  c3 : CellsAt y mb 0 [.int .u64 (x : Int)]
  c4 : CellsAt y fb 0 [.int .i64 0, .int .i64 0, .int .i64 s, .int .i64 0, .slice (some ⟨kb, 0, none⟩) 1 1, .slice (some ⟨ib, 0, none⟩) 1 1, .slice (some ⟨mb, 0, none⟩) 1 1]
theorem OneAt.g {y z : World} {kb ib mb fb : Nat} {s : Int} {i : In} {x : Nat} (h : OneAt y kb ib mb fb s i x) (g : G y z) : OneAt z kb ib mb fb s i x :=
  ⟨Nat.lt_of_lt_of_le h.l1 g.size, Nat.lt_of_lt_of_le h.l2 g.size, Nat.lt_of_lt_of_le h.l3 g.size, Nat.lt_of_lt_of_le h.l4 g.size, h.c1.kept (g.block _ h.l1), h.c2.kept (g.block _ h.l2), h.c3.kept (g.block _ h.l3), h.c4.kept (g.block _ h.l4)⟩
def fn1 (s : Int) (i : In) (x : Nat) : Fn := ⟨0, 0, s, 0, [true], [i], [x]⟩
def md1 (mn s : Int) (i : In) (x : Nat) : Md := ⟨[], [], [], [], [fn1 s i x], mn⟩
theorem OneAt.k {y : World} {kb ib mb fb : Nat} {s : Int} {i : In} {x : Nat} (h : OneAt y kb ib mb fb s i x) : RowAt elB y (some ⟨kb, 0, none⟩) 1 1 [true] := row_oneC h.l1 h.c1 true rfl
theorem OneAt.i {y : World} {kb ib mb fb : Nat} {s : Int} {i : In} {x : Nat} (h : OneAt y kb ib mb fb s i x) : RowAt elIn y (some ⟨ib, 0, none⟩) 1 1 [i] := row_oneC h.l2 h.c2 i rfl
theorem OneAt.m {y : World} {kb ib mb fb : Nat} {s : Int} {i : In} {x : Nat} (h : OneAt y kb ib mb fb s i x) : RowAt elU y (some ⟨mb, 0, none⟩) 1 1 [x] := row_oneC h.l3 h.c3 x rfl
theorem OneAt.mod {y : World} {kb ib mb fb : Nat} {s : Int} {i : In} {x : Nat} (h : OneAt y kb ib mb fb s i x) (mn : Int) : ModR y (md1 mn s i x) none 0 none 0 none 0 none 0 (some ⟨fb, 0, none⟩) 1 :=
  ⟨RowAt.nil _, RowAt.nil _, RowAt.nil _, RowAt.nil _, row_oneC h.l4 h.c4 (fn1 s i x) ⟨_, _, _, _, _, _, rfl, h.k, h.i, h.m⟩, Nat.le_refl _⟩
theorem OneAt.here {y : World} {kb ib mb fb : Nat} {s : Int} {i : In} {x : Nat} (h : OneAt y kb ib mb fb s i x) : FnHere y (some ⟨fb, 0, none⟩) 0 (fn1 s i x) (some ⟨kb, 0, none⟩) 1 :=
  ⟨fb, 0, some ⟨ib, 0, none⟩, 1, some ⟨mb, 0, none⟩, 1, rfl, h.l4, h.c4⟩
theorem oneAt_new (w : World) (x : Nat) : OneAt (oneW w x) (w.heap.size + 1) (w.heap.size + 2) (w.heap.size + 3) (w.heap.size + 4) 1 oneI x := by
  obtain ⟨h1, h2, h3, h4, h5⟩ := one_sizes w x
  refine ⟨by omega, by omega, by omega, by omega, fun j v hv => ?_, fun j v hv => ?_, fun j v hv => ?_, fun j v hv => ?_⟩
  · rw [cell_of_row _ _ _ _ _ _ (one_b1 w x)]; simpa using hv
  · rw [cell_of_row _ _ _ _ _ _ (one_b2 w x)]; simpa [oneI] using hv
  · rw [cell_of_row _ _ _ _ _ _ (one_b3 w x)]; simpa using hv
  · rw [cell_of_row _ _ _ _ _ _ (one_b4 w x)]; simpa using hv
/-- A cell is written. -/
theorem cells_set {w : World} {b j : Nat} {cs : List Value} (h : CellsAt w b 0 cs) (hj : j < cs.length) (v : Value) : CellsAt (w.setCell ⟨b, j, none⟩ v) b 0 (cs.set j v) := fun k u hk => by
  rw [Nat.zero_add]
  by_cases e : k = j
  · subst e
    rw [List.getElem?_set_self hj] at hk
    cases hk
    have h0 := h k _ (List.getElem?_eq_getElem hj)
    rw [Nat.zero_add] at h0
    exact cell_same _ h0
  · rw [List.getElem?_set_ne (fun h => e h.symm)] at hk
    rw [cell_other _ (Or.inr e)]
    have h0 := h k u hk
    rwa [Nat.zero_add] at h0
/-- The slots are written; the Op is written. -/
theorem OneAt.setS {y : World} {kb ib mb fb : Nat} {s : Int} {i : In} {x : Nat} (h : OneAt y kb ib mb fb s i x) (s' : Int) (d1 : kb ≠ fb) (d2 : ib ≠ fb) (d3 : mb ≠ fb) : OneAt (y.setCell ⟨fb, 2, none⟩ (.int .i64 s')) kb ib mb fb s' i x :=
  ⟨by rw [World.size_setCell]; exact h.l1, by rw [World.size_setCell]; exact h.l2, by rw [World.size_setCell]; exact h.l3, by rw [World.size_setCell]; exact h.l4, h.c1.kept (heap_set _ _ d1), h.c2.kept (heap_set _ _ d2), h.c3.kept (heap_set _ _ d3), cells_set h.c4 (by simp) _⟩
theorem OneAt.setOp {y : World} {kb ib mb fb : Nat} {s : Int} {op a b c d : Int} {x : Nat} (h : OneAt y kb ib mb fb s ⟨op, a, b, c, d⟩ x) (op' : Int) (d1 : kb ≠ ib) (d3 : mb ≠ ib) (d4 : fb ≠ ib) : OneAt (y.setCell ⟨ib, 0, none⟩ (.int .i64 op')) kb ib mb fb s ⟨op', a, b, c, d⟩ x :=
  ⟨by rw [World.size_setCell]; exact h.l1, by rw [World.size_setCell]; exact h.l2, by rw [World.size_setCell]; exact h.l3, by rw [World.size_setCell]; exact h.l4, h.c1.kept (heap_set _ _ d1), cells_set h.c2 (by simp) _, h.c3.kept (heap_set _ _ d3), h.c4.kept (heap_set _ _ d4)⟩
end Go.Proofs.YtnliooflpclcbaaGreatDoor

/- Package verify: the judge between two calls; a return is as it should be. -/
namespace Go.Proofs.YtnliooflpclcbaaGreatDoor
set_option maxRecDepth 100000
open Go.RowKit Go.Maps Go.ChangeShapes Go.WideShapes Go.ChangeAt Go.Deep

/-- The judge of function f, and what it leans on; w: the world ahead of the call of Check. -/
structure JC (w : World) (m : Md) (so : Option Addr) (sc : Nat) (go : Option Addr) (gc : Nat) (co : Option Addr) (cc : Nat) (ao : Option Addr) (ac : Nat) (fo : Option Addr) (fc : Nat) (f : Fn) (ko : Option Addr) (kc : Nat) (io : Option Addr) (ic : Nat) (mo : Option Addr) (mc : Nat) (tb N jb mb : Nat) (mp : Nat → Nat) (y : World) : Prop where
  g : G w y
  jl : jb < y.heap.size
  jw : w.heap.size ≤ jb
  jt : jb ≠ tb
  ml : mb < y.heap.size
  mw : w.heap.size ≤ mb
  mt : mb ≠ tb
  tw : w.heap.size ≤ tb
  tl : tb < y.heap.size
  c : CellsAt y jb 0 (judgeL m so sc go gc co cc ao ac fo fc f ko kc io ic mo mc mb (some ⟨tb, 0, none⟩) N N)
  u : UAt y mb f.is.length mp
theorem JC.gt {w : World} {m : Md} {so : Option Addr} {sc : Nat} {go : Option Addr} {gc : Nat} {co : Option Addr} {cc : Nat} {ao : Option Addr} {ac : Nat} {fo : Option Addr} {fc : Nat} {f : Fn} {ko : Option Addr} {kc : Nat} {io : Option Addr} {ic : Nat} {mo : Option Addr} {mc : Nat} {tb N jb mb : Nat} {mp : Nat → Nat} {y z : World} (h : JC w m so sc go gc co cc ao ac fo fc f ko kc io ic mo mc tb N jb mb mp y) (g : Gt tb y z) : JC w m so sc go gc co cc ao ac fo fc f ko kc io ic mo mc tb N jb mb mp z :=
  ⟨Gt.to_g h.g g h.tw, Nat.lt_of_lt_of_le h.jl g.size, h.jw, h.jt, Nat.lt_of_lt_of_le h.ml g.size, h.mw, h.mt, h.tw, Nat.lt_of_lt_of_le h.tl g.size, h.c.kept (g.block jb h.jl h.jt), ⟨Nat.lt_of_lt_of_le h.u.lt g.size, fun i hi => ⟨g.cell (h.u.c i hi).1 h.ml h.mt, (World.frozen?_of_block (a := ⟨mb, i, none⟩) (g.block mb h.ml h.mt)).trans (h.u.c i hi).2⟩⟩⟩
/-- Rows of an item that lay there. -/
def OkR (w : World) (x : It) (kv cv : Value) : Prop := ∃ ro rc ao ac, kv = .slice ro x.ks.length rc ∧ cv = .slice ao x.cs.length ac ∧ (∀ y, G w y → RowAt elB y ro x.ks.length rc x.ks) ∧ (∀ y, G w y → RowAt elCa y ao x.cs.length ac x.cs)
set_option maxHeartbeats 4000000 in
/-- A return of nothing, from a function that answers nothing. -/
theorem ret_walk {w : World} {m : Md} {so : Option Addr} {sc : Nat} {go : Option Addr} {gc : Nat} {co : Option Addr} {cc : Nat} {ao : Option Addr} {ac : Nat} {fo : Option Addr} {fc : Nat} {f : Fn} {ko : Option Addr} {kc : Nat} {io : Option Addr} {ic : Nat} {mo : Option Addr} {mc : Nat} {tb N jb mb : Nat} {mp : Nat → Nat} (B C D : Int) (pc ib ioff msb mso v1 : Nat) (hr0 : f.r = 0) (hs : f.s ≤ 1000000) (hko : RowAt elB w ko f.ks.length kc f.ks) (hkl : f.ks.length ≤ 1000000) (hil : f.is.length ≤ 1000000) (hio : io = some ⟨ib, ioff, none⟩) (hii : RowAt elIn w (some ⟨ib, ioff, none⟩) f.is.length ic f.is) (hmo : mo = some ⟨msb, mso, none⟩) (hml : f.ms.length = f.is.length) (hpc : pc < f.is.length)
    (hi : ∀ y, G w y → CellsAt y ib (ioff + pc * 5) [.int .i64 22, .int .i64 (-1), .int .i64 B, .int .i64 C, .int .i64 D]) (hv1 : ∀ y, G w y → y.cell? ⟨msb, mso + pc, none⟩ = some (.int .u64 (v1 : Int))) :
    WalkC tb jb pc ⟨⟨22, -1, B, C, D⟩, (4, 0, 0, 0), 0, 0, [], []⟩ m.ca.length m.sh.length m.gl.length m.co.length m.fn.length m.main so sc go gc co cc ao ac fo fc ib ioff ic mso f.is.length msb mc mb v1 (mp pc) (JC w m so sc go gc co cc ao ac fo fc f ko kc io ic mo mc tb N jb mb mp) (JC w m so sc go gc co cc ao ac fo fc f ko kc io ic mo mc tb N jb mb mp) (OkR w ⟨⟨22, -1, B, C, D⟩, (4, 0, 0, 0), 0, 0, [], []⟩) true true := by
  subst hio hmo
  refine ⟨fun y z h g => h.gt g.gt, fun y z h g => h.gt g.gt, fun y h => ⟨⟨?_, ?_, ?_, ?_, ?_, ?_⟩, ?_, hi y h.g⟩, fun y h => ⟨?_, ?_, hv1 y h.g, ?_⟩, fun y h => ?_, fun y kv cv h ok => ?_, fun y kv cv h ok => ?_, fun y kv cv h ok _ => ?_, fun y kv cv h ok _ => ?_, fun y kv cv h ok _ => ?_⟩
  · simpa using h.c 0 _ rfl
  · simpa using h.c 1 _ rfl
  · simpa using h.c 2 _ rfl
  · simpa using h.c 3 _ rfl
  · simpa using h.c 4 _ rfl
  · simpa using h.c 5 _ rfl
  · simpa using h.c 11 _ rfl
  · have := h.c 12 _ rfl
    rw [hml] at this
    simpa using this
  · simpa using h.c 13 _ rfl
  · exact (h.u.c pc hpc).1
  · refine (item_any w y m so sc go gc co cc ao ac fo fc 22 (-1) B C D 4 0 0 0 0 0 [] [] (fun z _ => runOf_none w z m so sc go gc co cc ao ac fo fc ⟨22, -1, B, C, D⟩ (Or.inr (Or.inl rfl))) (fun z _ => vcases_no w z m so sc go gc co cc ao ac fo fc ⟨22, -1, B, C, D⟩ (by show (22 : Int) ≠ 41; decide))).mono ?_
    rintro e w' ⟨ro, rc, co2, cc2, rfl, h1, h2, h3⟩
    exact ⟨ro, 0, rc, co2, 0, cc2, rfl, ⟨ro, rc, co2, cc2, rfl, rfl, h1, h2⟩, h3⟩
  all_goals
    obtain ⟨ro, rc, ca, cac, rfl, rfl, h1, h2⟩ := ok
    have hc8 : y.cell? ⟨jb, 8, none⟩ = some (.int .i64 f.s) := by simpa using h.c 8 _ rfl
    have hc9 : y.cell? ⟨jb, 9, none⟩ = some (.int .i64 f.r) := by simpa using h.c 9 _ rfl
    have hc10 : y.cell? ⟨jb, 10, none⟩ = some (.slice ko f.ks.length kc) := by simpa using h.c 10 _ rfl
    have hc11 : y.cell? ⟨jb, 11, none⟩ = some (.slice (some ⟨ib, ioff, none⟩) f.is.length ic) := by simpa using h.c 11 _ rfl
    have hrow := h2 y h.g
  · exact slotsThere_any y jb _ f.s _ ca cac hc8 hs hrow (Nat.zero_le _)
  · refine (named_free y jb _ _ ca cac (Or.inr (Or.inl rfl)) (fun z _ k hk => ?_)).mono (by rintro e w' ⟨rfl, g⟩; exact ⟨rfl, h.gt g.gt, g.gt⟩)
    have hk4 : k = 0 ∨ k = 1 ∨ k = 2 ∨ k = 3 := by omega
    rcases hk4 with rfl | rfl | rfl | rfl
    · exact isThere_free z jb 4 _ (Or.inr (Or.inl rfl))
    · exact isThere_free z jb 0 _ (Or.inl rfl)
    · exact isThere_free z jb 0 _ (Or.inl rfl)
    · exact isThere_free z jb 0 _ (Or.inl rfl)
  · have hh := kindsFit_any y jb ⟨⟨22, -1, B, C, D⟩, (4, 0, 0, 0), 0, 0, [], []⟩ f.r ko kc f.ks ro rc ca cac hc9 hc10 (hko.g okB h.g) hrow (Nat.zero_le _) (h1 y h.g) hkl (Or.inr (Or.inl rfl)) (Or.inl rfl) (Or.inl rfl) (Or.inl rfl) (fun c hc => by cases hc) (Or.inl rfl) (Or.inr (Or.inr (Or.inl ⟨rfl, rfl⟩)))
    rw [show (([] : List Ca).all (ckP f.ks) && prP ⟨22, -1, B, C, D⟩ f.r) = true by unfold prP; simp [hr0]] at hh
    exact hh
  · have hh := stays_any y jb pc ⟨⟨22, -1, B, C, D⟩, (4, 0, 0, 0), 0, 0, [], []⟩ (.slice ro 0 rc) ca cac (some ⟨ib, ioff, none⟩) ic f.is hrow (Nat.zero_le _) hc11 hil
    rw [show stP f.is.length pc ⟨⟨22, -1, B, C, D⟩, (4, 0, 0, 0), 0, 0, [], []⟩ = true by unfold stP; rw [show targP ⟨⟨22, -1, B, C, D⟩, (4, 0, 0, 0), 0, 0, [], []⟩ = [] from rfl]; simp [lastP]] at hh
    exact hh
  · have hh := goes_any y jb pc ⟨⟨22, -1, B, C, D⟩, (4, 0, 0, 0), 0, 0, [], []⟩ (.slice ro 0 rc) ca cac (some ⟨ib, ioff, none⟩) ic f.is hrow (Nat.zero_le _) hc11 hil (hii.g okIn h.g) (fun t ht => by cases ht)
    rw [show bkP f.is pc ⟨⟨22, -1, B, C, D⟩, (4, 0, 0, 0), 0, 0, [], []⟩ = true by unfold bkP; rw [show targP ⟨⟨22, -1, B, C, D⟩, (4, 0, 0, 0), 0, 0, [], []⟩ = [] from rfl]; rfl] at hh
    exact hh
end Go.Proofs.YtnliooflpclcbaaGreatDoor

/- Package verify: the module that returns is taken, or breaks rule 9. -/
namespace Go.Proofs.YtnliooflpclcbaaGreatDoor
set_option maxRecDepth 100000
open Go.RowKit Go.Maps Go.ChangeShapes Go.WideShapes Go.ChangeAt Go.Deep

def oneR (x : Nat) : Int := if x = 0 then 0 else 9
set_option maxHeartbeats 4000000 in
theorem one_fault {w : World} {kb ib mb0 fb : Nat} {x : Nat} (O : OneAt w kb ib mb0 fb 1 oneI x) : Calls Tryz.prog 10 #[.agg #[.slice none 0 0, .slice none 0 0, .slice none 0 0, .slice none 0 0, .slice (some ⟨fb, 0, none⟩) 1 1, .int .i64 0]] w fun e w' => e = .returned (.agg #[.int .i64 0, .int .i64 0, .int .i64 (oneR x)]) ∧ G w w' := by
  have hM : ∀ y, G w y → ModR y (md1 0 1 oneI x) none 0 none 0 none 0 none 0 (some ⟨fb, 0, none⟩) 1 := fun y g => (O.g g).mod 0
  have hF : ∀ y, G w y → FnHere y (some ⟨fb, 0, none⟩) 0 (fn1 1 oneI x) (some ⟨kb, 0, none⟩) 1 := fun y g => (O.g g).here
  have hk : ∀ y, G w y → RowAt elB y (some ⟨kb, 0, none⟩) 1 1 [true] := fun y g => (O.g g).k
  have hi : ∀ y, G w y → RowAt elIn y (some ⟨ib, 0, none⟩) 1 1 [oneI] := fun y g => (O.g g).i
  have hcell := fun y (g : G w y) => (O.g g).c4
  have hci : ∀ y, G w y → CellsAt y ib (0 + 0 * 5) [.int .i64 22, .int .i64 (-1), .int .i64 0, .int .i64 0, .int .i64 0] := fun y g => (O.g g).c2
  have hcm : ∀ y, G w y → y.cell? ⟨mb0, 0 + 0, none⟩ = some (.int .u64 (x : Int)) := fun y g => (O.g g).c3 0 _ rfl
  have H := fault_any w none 0 none 0 none 0 none 0 (fb) 0 1 0 0 0 0 1 0 (fun _ => fn1 1 oneI x) (fun _ => some ⟨kb, 0, none⟩) (fun _ => 1) (fun _ => some ⟨ib, 0, none⟩) (fun _ => 1) (fun _ => some ⟨mb0, 0, none⟩) (fun _ => 1) (fun _ _ => oneR x)
    (fun tb _ y => G w y ∧ w.heap.size ≤ tb ∧ tb < y.heap.size)
    (fun tb _ jb _ y => ∃ mb mp, mp 0 = 0 ∧ JC w (md1 0 1 oneI x) none 0 none 0 none 0 none 0 (some ⟨fb, 0, none⟩) 1 (fn1 1 oneI x) (some ⟨kb, 0, none⟩) 1 (some ⟨ib, 0, none⟩) 1 (some ⟨mb0, 0, none⟩) 1 tb 0 jb mb mp y)
    (by omega) (by omega) (fun n hn => by show 1 ≤ 100000; omega)
    (fun y g => lists_any y (md1 0 1 oneI x) none 0 none 0 none 0 none 0 _ 1 rfl rfl rfl (by show 0 ≤ 1024; omega) (by show 1 ≤ 128; omega))
    (fun y g => main_in y (md1 0 1 oneI x) none 0 none 0 none 0 none 0 _ 1 0 (fn1 1 oneI x) _ 1 rfl (by show 0 < 1; omega) (hF y g) rfl rfl rfl)
    (fun n hn y g => by obtain rfl : n = 0 := by omega
                        exact hcell y g)
    (fun n hn y g => (funcGood_any y (fn1 1 oneI x) (some ⟨kb, 0, none⟩) 1 (some ⟨ib, 0, none⟩) 1 (some ⟨mb0, 0, none⟩) 1).mono (by rintro e w' ⟨rfl, g'⟩; exact ⟨rfl, g'⟩))
    (fun y g => ⟨g.more _, g.size, by rw [World.size_alloc]; omega⟩)
    (fun tb n y h => h.1) (fun tb n jb pc y h => by obtain ⟨mb, mp, -, J⟩ := h; exact J.g)
    (fun tb n y z h g => ⟨h.1.trans g, h.2.1, Nat.lt_of_lt_of_le h.2.2 g.size⟩)
    (fun tb n y hn h => by
      refine (judge_any y (md1 0 1 oneI x) none 0 none 0 none 0 none 0 (some ⟨fb, 0, none⟩) 1 (fn1 1 oneI x) (some ⟨kb, 0, none⟩) 1 (some ⟨ib, 0, none⟩) 1 (some ⟨mb0, 0, none⟩) 1 (some ⟨tb, 0, none⟩) 0 0 (hM y h.1) (hk y h.1) (hi y h.1) (fun i hi => by simp [fn1, oneI] at hi; subst hi; unfold oIn oI; simp) (fun s hs => by cases hs) (by show 1 * (4 * 0) + 1 ≤ 100000; omega) (by show 0 ≤ 100000; omega) (by show 1 ≤ 1000000; omega)).mono ?_
      rintro e w' ⟨jb, mb, st, rfl, j1, j2, j3, j4, j5, j6, j7⟩
      refine ⟨jb, rfl, ⟨mb, _, ?_, ⟨h.1.trans j7, j1, Nat.le_trans h.1.size j2, by omega, j4.lt, Nat.le_trans h.1.size j5, by omega, h.2.1, Nat.lt_of_lt_of_le h.2.2 j7.size, j3, j4⟩⟩, j7⟩
      show st 0 &&& kndP [true] = 0
      rw [ret_sets (md1 0 1 oneI x) 1 [x] st j6]
      exact Nat.zero_and _)
    (fun tb n jb pc y hn hpc h => by
      obtain ⟨mb, mp, hmp, J⟩ := h
      obtain rfl : pc = 0 := by have : pc < 1 := hpc; omega
      have W := ret_walk (w := w) (m := md1 0 1 oneI x) (f := fn1 1 oneI x) (so := none) (sc := 0) (go := none) (gc := 0) (co := none) (cc := 0) (ao := none) (ac := 0) (fo := some ⟨fb, 0, none⟩) (fc := 1) (ko := some ⟨kb, 0, none⟩) (kc := 1) (io := some ⟨ib, 0, none⟩) (ic := 1) (mo := some ⟨mb0, 0, none⟩) (mc := 1) (tb := tb) (N := 0) (jb := jb) (mb := mb) (mp := mp) 0 0 0 0 (ib) 0 (mb0) 0 x rfl (by show (1 : Int) ≤ 1000000; omega) (hk w (G.refl w)) (by show 1 ≤ 1000000; omega) (by show 1 ≤ 1000000; omega) rfl (hi w (G.refl w)) rfl rfl (by show 0 < 1; omega) hci hcm
      refine (broken_any y tb jb 0 _ _ _ _ _ _ _ none 0 none 0 none 0 none 0 (some ⟨fb, 0, none⟩) 1 (ib) 0 1 0 1 (mb0) 1 mb x (mp 0) _ _ _ true true W J J.tl (by omega) rfl (by show (22 : Int) ≠ 29; decide) (by show (22 : Int) ≠ 32; decide)).mono ?_
      rintro e w' ⟨rfl, J2, gt⟩
      refine ⟨?_, J2.g, fun _ => ⟨mb, mp, hmp, J2⟩, gt⟩
      rw [hmp]
      unfold ruleP oneR
      by_cases hx : x = 0 <;> simp [hx])
    (fun tb n jb y h => by
      obtain ⟨mb, mp, -, J⟩ := h
      exact ⟨J.g, J.tw, J.tl⟩)
  refine H.mono ?_
  rintro e w' ⟨h, g⟩
  refine ⟨?_, g⟩
  rcases h with ⟨n, pc, hn, hpc, hr, hne, rfl⟩ | ⟨hr, rfl⟩
  · obtain rfl : n = 0 := by omega
    obtain rfl : pc = 0 := by have : pc < 1 := hpc; omega
    rfl
  · have h0 : oneR x = 0 := hr.1 0 0 (by omega) (by show 0 < 1; omega)
    rw [h0]
end Go.Proofs.YtnliooflpclcbaaGreatDoor

/- Package gantlinelaw12: awake answers true. -/
namespace Go.Proofs.YtnliooflpclcbaaGreatDoor
set_option maxRecDepth 100000
open Go.RowKit Go.Maps Go.ChangeShapes Go.WideShapes Go.ChangeAt Go.Deep

theorem build_f9 (w : World) : (Instr.build 24 #[(2, .int .i64 9)]).run Tryz.prog w = .ok (.agg #[.int .i64 0, .int .i64 0, .int .i64 9]) w := by kernel_rfl
/-- one, and what Check and Module say of it. -/
theorem one_says (w : World) (x : Nat) : Calls Tryz.prog 7 #[.int .u64 (x : Int)] w fun e w' => ∃ q, e = .returned (.agg #[.slice none 0 0, .slice none 0 0, .slice none 0 0, .slice none 0 0, .slice (some ⟨q, 0, none⟩) 1 1, .int .i64 0]) ∧ G w w' ∧ Hid (Calls Tryz.prog 6 #[.agg #[.slice none 0 0, .slice none 0 0, .slice none 0 0, .slice none 0 0, .slice (some ⟨q, 0, none⟩) 1 1, .int .i64 0]] w' fun e w2 => e = .returned (.tuple #[.agg #[.int .i64 0, .int .i64 0, .int .i64 (oneR x)], .bool (okF 0 0 (oneR x))]) ∧ G w' w2) ∧ Hid (Calls Tryz.prog 9 #[.agg #[.slice none 0 0, .slice none 0 0, .slice none 0 0, .slice none 0 0, .slice (some ⟨q, 0, none⟩) 1 1, .int .i64 0]] w' fun e w2 => e = .returned (.bool (okF 0 0 (oneR x))) ∧ G w' w2) := by
  refine (one_any w x).mono ?_
  rintro e w' ⟨rfl, rfl⟩
  exact ⟨_, rfl, one_g w x, hide (check_of _ none 0 none 0 none 0 none 0 _ 1 0 0 0 0 1 0 0 0 (oneR x) (fun y g => one_fault ((oneAt_new w x).g g))), hide (module_of _ none 0 none 0 none 0 none 0 _ 1 0 0 0 0 1 0 0 0 (oneR x) (fun y g => one_fault ((oneAt_new w x).g g)))⟩
set_option maxHeartbeats 4000000 in
theorem awake_any (w : World) : Calls Tryz.prog 5 #[] w fun e w' => e = .returned (.bool true) ∧ G w w' := by
  have C0 : Hid (∀ y, Calls Tryz.prog 7 #[.int .u64 0] y fun e w' => ∃ q, e = .returned (.agg #[.slice none 0 0, .slice none 0 0, .slice none 0 0, .slice none 0 0, .slice (some ⟨q, 0, none⟩) 1 1, .int .i64 0]) ∧ G y w' ∧ Hid (Calls Tryz.prog 6 #[.agg #[.slice none 0 0, .slice none 0 0, .slice none 0 0, .slice none 0 0, .slice (some ⟨q, 0, none⟩) 1 1, .int .i64 0]] w' fun e w2 => e = .returned (.tuple #[.agg #[.int .i64 0, .int .i64 0, .int .i64 0], .bool true]) ∧ G w' w2) ∧ Hid (Calls Tryz.prog 9 #[.agg #[.slice none 0 0, .slice none 0 0, .slice none 0 0, .slice none 0 0, .slice (some ⟨q, 0, none⟩) 1 1, .int .i64 0]] w' fun e w2 => e = .returned (.bool true) ∧ G w' w2)) := hide fun y => one_says y 0
  have C1 : Hid (∀ y, Calls Tryz.prog 7 #[.int .u64 1] y fun e w' => ∃ q, e = .returned (.agg #[.slice none 0 0, .slice none 0 0, .slice none 0 0, .slice none 0 0, .slice (some ⟨q, 0, none⟩) 1 1, .int .i64 0]) ∧ G y w' ∧ Hid (Calls Tryz.prog 6 #[.agg #[.slice none 0 0, .slice none 0 0, .slice none 0 0, .slice none 0 0, .slice (some ⟨q, 0, none⟩) 1 1, .int .i64 0]] w' fun e w2 => e = .returned (.tuple #[.agg #[.int .i64 0, .int .i64 0, .int .i64 9], .bool false]) ∧ G w' w2) ∧ Hid (Calls Tryz.prog 9 #[.agg #[.slice none 0 0, .slice none 0 0, .slice none 0 0, .slice none 0 0, .slice (some ⟨q, 0, none⟩) 1 1, .int .i64 0]] w' fun e w2 => e = .returned (.bool false) ∧ G w' w2)) := hide fun y => one_says y 1
  have b0 := build_f0
  have b9 := build_f9
  go_enter Tryz.func5, Tryz.ntmps5
  go_wp2_with fail
  refine (unhide C0 _).mono ?_
  rintro e w1 ⟨q1, rfl, g1, hc1, -⟩
  replace g1 := hide g1
  go_wp2_with fail
  refine (unhide hc1).mono ?_
  rintro e w2 ⟨rfl, g2⟩
  have h2 := hide ((unhide g1).trans g2)
  clear g1 g2 hc1
  go_upto_region 2 with fail
  obtain ⟨W2, hW2⟩ : ∃ W2, W2 = w2.alloc (.cells #[.int .i64 0, .int .i64 0, .int .i64 0] 24) := ⟨_, rfl⟩
  have k0 : W2.cell? ⟨w2.heap.size, 0, none⟩ = some (.int .i64 0) := by rw [hW2, World.cell?_alloc_new]; rfl
  have k1 : W2.cell? ⟨w2.heap.size, 1, none⟩ = some (.int .i64 0) := by rw [hW2, World.cell?_alloc_new]; rfl
  have k2 : W2.cell? ⟨w2.heap.size, 2, none⟩ = some (.int .i64 0) := by rw [hW2, World.cell?_alloc_new]; rfl
  have h3 : Hid (G w W2) := hide (by rw [hW2]; exact (unhide h2).more _)
  rw [← hW2]
  clear hW2 h2
  go_wp2_with fail
  refine (unhide C1 _).mono ?_
  rintro e w3 ⟨q3, rfl, g3, hc3, -⟩
  replace g3 := hide g3
  go_wp2_with fail
  refine (unhide hc3).mono ?_
  rintro e w4 ⟨rfl, g4⟩
  have g34 := (unhide g3).trans g4
  have l0 := g34.cell k0
  have l1 := g34.cell k1
  have l2 := g34.cell k2
  have h4 := hide ((unhide h3).trans g34)
  clear g3 g4 hc3 k0 k1 k2 h3 g34
  go_upto_region 3 with fail
  obtain ⟨W4, hW4⟩ : ∃ W4, W4 = w4.alloc (.cells #[.int .i64 0, .int .i64 0, .int .i64 9] 24) := ⟨_, rfl⟩
  have j0 : W4.cell? ⟨w4.heap.size, 0, none⟩ = some (.int .i64 0) := by rw [hW4, World.cell?_alloc_new]; rfl
  have j1 : W4.cell? ⟨w4.heap.size, 1, none⟩ = some (.int .i64 0) := by rw [hW4, World.cell?_alloc_new]; rfl
  have j2 : W4.cell? ⟨w4.heap.size, 2, none⟩ = some (.int .i64 9) := by rw [hW4, World.cell?_alloc_new]; rfl
  have g44 : G w4 W4 := by rw [hW4]; exact G.alloc _ _
  have i0 := g44.cell l0
  have i1 := g44.cell l1
  have i2 := g44.cell l2
  have h5 := hide ((unhide h4).trans g44)
  rw [← hW4]
  clear hW4 h4 g44 l0 l1 l2
  go_wp2_with fail
  refine (unhide C0 _).mono ?_
  rintro e w5 ⟨q5, rfl, g5, -, hm5⟩
  have h6 := hide ((unhide h5).trans g5)
  clear g5 h5 C0 i0 i1 i2 j0 j1 j2
  go_wp2_with fail
  refine (unhide hm5).mono ?_
  rintro e w6 ⟨rfl, g6⟩
  have h7 := hide ((unhide h6).trans g6)
  clear g6 h6 hm5
  go_wp2_with fail
  refine (unhide C1 _).mono ?_
  rintro e w7 ⟨q7, rfl, g7, -, hm7⟩
  have h8 := hide ((unhide h7).trans g7)
  clear g7 h7 C1
  go_wp2_with fail
  refine (unhide hm7).mono ?_
  rintro e w8 ⟨rfl, g8⟩
  have h9 := hide ((unhide h8).trans g8)
  clear g8 h8 hm7
  go_wp2_with fail
  go_ret
  exact ⟨rfl, unhide h9⟩
end Go.Proofs.YtnliooflpclcbaaGreatDoor

/- Package verify: an instruction that names nothing is as it should be, or goes back to no poll; a module of one such instruction. -/
namespace Go.Proofs.YtnliooflpclcbaaGreatDoor
set_option maxRecDepth 100000
open Go.RowKit Go.Maps Go.ChangeShapes Go.WideShapes Go.ChangeAt Go.Deep

/-- What Check says. -/
abbrev ckTo (w : World) (a b c : Int) : Ending → World → Prop := fun e w2 => e = .returned (.tuple #[.agg #[.int .i64 a, .int .i64 b, .int .i64 c], .bool (okF a b c)]) ∧ G w w2
/-- An instruction with what it names: no run, no cases. -/
abbrev itF (op a b c d : Int) (r0 r1 r2 r3 : Nat) : It := ⟨⟨op, a, b, c, d⟩, (r0, r1, r2, r3), 0, 0, [], []⟩
set_option maxHeartbeats 4000000 in
/-- An instruction that is as it should be but for what it names, and where it goes back to. -/
theorem gen_walk {w : World} {m : Md} {so : Option Addr} {sc : Nat} {go : Option Addr} {gc : Nat} {co : Option Addr} {cc : Nat} {ao : Option Addr} {ac : Nat} {fo : Option Addr} {fc : Nat} {f : Fn} {ko : Option Addr} {kc : Nat} {io : Option Addr} {ic : Nat} {mo : Option Addr} {mc : Nat} {tb N jb mb : Nat} {mp : Nat → Nat} {Ex Ex2 : World → Prop} {bN : Bool} (op a b c d : Int) (r0 r1 r2 r3 : Nat) (first count : Int) (ks : List Bool) (cs : List Ca) (pc ib ioff msb mso v1 : Nat) (hEx : ∀ y z, Ex y → G y z → Ex z) (hEx2 : ∀ y z, Ex2 y → G y z → Ex2 z)
    (HR : ∀ y, G w y → Calls Tryz.prog 43 #[agM m so sc go gc co cc ao ac fo fc, agI ⟨op, a, b, c, d⟩] y (RnTo w y (first, count, ks)))
    (HC : ∀ y, G w y → Calls Tryz.prog 44 #[agM m so sc go gc co cc ao ac fo fc, agI ⟨op, a, b, c, d⟩] y (CaS w y cs))
    (HN : ∀ y ro rc ca cac, JC w m so sc go gc co cc ao ac fo fc f ko kc io ic mo mc tb N jb mb mp y → Ex y → RowAt elB y ro ks.length rc ks → RowAt elCa y ca cs.length cac cs → Calls Tryz.prog 27 #[.pointer (some ⟨jb, 0, none⟩), .agg (itL ⟨⟨op, a, b, c, d⟩, (r0, r1, r2, r3), first, count, ks, cs⟩ (.slice ro ks.length rc) (.slice ca cs.length cac))] y fun e w' => e = .returned (.bool bN) ∧ Ex2 w' ∧ Gt tb y w')
    (hk5 : op = 18 ∨ (op = 20 ∧ a = -1) ∨ (op = 22 ∧ a = -1) ∨ op = 41 ∨ op = 43)
    (f0 : FreeR r0) (f1 : FreeR r1) (f2 : FreeR r2) (f3 : FreeR r3) (hcl : cs.length ≤ 100000)
    (hcc : ∀ c ∈ cs, c.k = 2 ∨ inR c.c f.ks.length = true) (hrk : ks = [] ∨ (0 ≤ first ∧ rkP f.ks first ks))
    (hsl : slotsP f.s ⟨⟨op, a, b, c, d⟩, (r0, r1, r2, r3), first, count, ks, cs⟩ = true) (hpr : (cs.all (ckP f.ks) && prP ⟨op, a, b, c, d⟩ f.r) = true) (hst : stP f.is.length pc ⟨⟨op, a, b, c, d⟩, (r0, r1, r2, r3), first, count, ks, cs⟩ = true) (htg : ∀ t ∈ targP ⟨⟨op, a, b, c, d⟩, (r0, r1, r2, r3), first, count, ks, cs⟩, inR t f.is.length = true)
    (hs : f.s ≤ 1000000) (hko : RowAt elB w ko f.ks.length kc f.ks) (hkl : f.ks.length ≤ 1000000) (hil : f.is.length ≤ 1000000) (hio : io = some ⟨ib, ioff, none⟩) (hii : RowAt elIn w (some ⟨ib, ioff, none⟩) f.is.length ic f.is) (hmo : mo = some ⟨msb, mso, none⟩) (hml : f.ms.length = f.is.length) (hpc : pc < f.is.length)
    (hi : ∀ y, G w y → CellsAt y ib (ioff + pc * 5) [.int .i64 op, .int .i64 a, .int .i64 b, .int .i64 c, .int .i64 d]) (hv1 : ∀ y, G w y → y.cell? ⟨msb, mso + pc, none⟩ = some (.int .u64 (v1 : Int))) :
    WalkC tb jb pc ⟨⟨op, a, b, c, d⟩, (r0, r1, r2, r3), first, count, ks, cs⟩ m.ca.length m.sh.length m.gl.length m.co.length m.fn.length m.main so sc go gc co cc ao ac fo fc ib ioff ic mso f.is.length msb mc mb v1 (mp pc) (fun y => JC w m so sc go gc co cc ao ac fo fc f ko kc io ic mo mc tb N jb mb mp y ∧ Ex y) (fun y => JC w m so sc go gc co cc ao ac fo fc f ko kc io ic mo mc tb N jb mb mp y ∧ Ex2 y) (OkR w ⟨⟨op, a, b, c, d⟩, (r0, r1, r2, r3), first, count, ks, cs⟩) bN (bkP f.is pc ⟨⟨op, a, b, c, d⟩, (r0, r1, r2, r3), first, count, ks, cs⟩) := by
  subst hio hmo
  have HR' := HR
  refine ⟨fun y z h g => ⟨h.1.gt g.gt, hEx y z h.2 g⟩, fun y z h g => ⟨h.1.gt g.gt, hEx2 y z h.2 g⟩, fun y h => ⟨⟨?_, ?_, ?_, ?_, ?_, ?_⟩, ?_, hi y h.1.g⟩, fun y h => ⟨?_, ?_, hv1 y h.1.g, ?_⟩, fun y h => ?_, fun y kv cv h ok => ?_, fun y kv cv h ok => ?_, fun y kv cv h ok _ => ?_, fun y kv cv h ok _ => ?_, fun y kv cv h ok _ => ?_⟩
  · simpa using h.1.c 0 _ rfl
  · simpa using h.1.c 1 _ rfl
  · simpa using h.1.c 2 _ rfl
  · simpa using h.1.c 3 _ rfl
  · simpa using h.1.c 4 _ rfl
  · simpa using h.1.c 5 _ rfl
  · simpa using h.1.c 11 _ rfl
  · have := h.1.c 12 _ rfl
    rw [hml] at this
    simpa using this
  · simpa using h.1.c 13 _ rfl
  · exact (h.1.u.c pc hpc).1
  · refine (item_any w y m so sc go gc co cc ao ac fo fc op a b c d r0 r1 r2 r3 first count ks cs (fun z g => HR' z (h.1.g.trans g)) (fun z g => HC z (h.1.g.trans g))).mono ?_
    rintro e w' ⟨ro, rc, co2, cc2, rfl, h1, h2, h3⟩
    exact ⟨ro, ks.length, rc, co2, cs.length, cc2, rfl, ⟨ro, rc, co2, cc2, rfl, rfl, h1, h2⟩, h3⟩
  all_goals
    obtain ⟨ro, rc, ca, cac, rfl, rfl, h1, h2⟩ := ok
    have hc8 : y.cell? ⟨jb, 8, none⟩ = some (.int .i64 f.s) := by simpa using h.1.c 8 _ rfl
    have hc9 : y.cell? ⟨jb, 9, none⟩ = some (.int .i64 f.r) := by simpa using h.1.c 9 _ rfl
    have hc10 : y.cell? ⟨jb, 10, none⟩ = some (.slice ko f.ks.length kc) := by simpa using h.1.c 10 _ rfl
    have hc11 : y.cell? ⟨jb, 11, none⟩ = some (.slice (some ⟨ib, ioff, none⟩) f.is.length ic) := by simpa using h.1.c 11 _ rfl
    have hrow := h2 y h.1.g
  · have hh := slotsThere_any y jb ⟨⟨op, a, b, c, d⟩, (r0, r1, r2, r3), first, count, ks, cs⟩ f.s (.slice ro ks.length rc) ca cac hc8 hs hrow (by show cs.length ≤ 1000000; omega)
    rw [hsl] at hh
    exact hh
  · exact (HN y ro rc ca cac h.1 h.2 (h1 y h.1.g) hrow).mono (by rintro e w' ⟨rfl, e2, g⟩; exact ⟨rfl, ⟨h.1.gt g, e2⟩, g⟩)
  · have hh := kindsFit_any y jb ⟨⟨op, a, b, c, d⟩, (r0, r1, r2, r3), first, count, ks, cs⟩ f.r ko kc f.ks ro rc ca cac hc9 hc10 (hko.g okB h.1.g) hrow (by show cs.length ≤ 1000000; omega) (h1 y h.1.g) hkl f0 f1 f2 f3 hcc hrk hk5
    rw [show ((⟨⟨op, a, b, c, d⟩, (r0, r1, r2, r3), first, count, ks, cs⟩ : It).cs.all (ckP f.ks) && prP (⟨⟨op, a, b, c, d⟩, (r0, r1, r2, r3), first, count, ks, cs⟩ : It).i f.r) = true from hpr] at hh
    exact hh
  · have hh := stays_any y jb pc ⟨⟨op, a, b, c, d⟩, (r0, r1, r2, r3), first, count, ks, cs⟩ (.slice ro ks.length rc) ca cac (some ⟨ib, ioff, none⟩) ic f.is hrow hcl hc11 hil
    rw [hst] at hh
    exact hh
  · exact goes_any y jb pc ⟨⟨op, a, b, c, d⟩, (r0, r1, r2, r3), first, count, ks, cs⟩ (.slice ro ks.length rc) ca cac (some ⟨ib, ioff, none⟩) ic f.is hrow hcl hc11 hil (hii.g okIn h.1.g) htg
set_option maxHeartbeats 4000000 in
/-- An instruction that names nothing. -/
theorem free_walk {w : World} {m : Md} {so : Option Addr} {sc : Nat} {go : Option Addr} {gc : Nat} {co : Option Addr} {cc : Nat} {ao : Option Addr} {ac : Nat} {fo : Option Addr} {fc : Nat} {f : Fn} {ko : Option Addr} {kc : Nat} {io : Option Addr} {ic : Nat} {mo : Option Addr} {mc : Nat} {tb N jb mb : Nat} {mp : Nat → Nat} {Ex : World → Prop} (op a b c d : Int) (r0 r1 r2 r3 : Nat) (pc ib ioff msb mso v1 : Nat) (hEx : ∀ y z, Ex y → G y z → Ex z)
    (hop : op = 18 ∨ (op = 22 ∧ a = -1) ∨ op = 43) (hF : ∀ k, k < 4 → roleAt (r0, r1, r2, r3) k = 0 ∨ roleAt (r0, r1, r2, r3) k = 4 ∨ roleAt (r0, r1, r2, r3) k = 6 ∨ roleAt (r0, r1, r2, r3) k = 15)
    (hsl : slotsP f.s (itF op a b c d r0 r1 r2 r3) = true) (hpr : prP ⟨op, a, b, c, d⟩ f.r = true) (hst : stP f.is.length pc (itF op a b c d r0 r1 r2 r3) = true) (htg : ∀ t ∈ targP (itF op a b c d r0 r1 r2 r3), inR t f.is.length = true)
    (hs : f.s ≤ 1000000) (hko : RowAt elB w ko f.ks.length kc f.ks) (hkl : f.ks.length ≤ 1000000) (hil : f.is.length ≤ 1000000) (hio : io = some ⟨ib, ioff, none⟩) (hii : RowAt elIn w (some ⟨ib, ioff, none⟩) f.is.length ic f.is) (hmo : mo = some ⟨msb, mso, none⟩) (hml : f.ms.length = f.is.length) (hpc : pc < f.is.length)
    (hi : ∀ y, G w y → CellsAt y ib (ioff + pc * 5) [.int .i64 op, .int .i64 a, .int .i64 b, .int .i64 c, .int .i64 d]) (hv1 : ∀ y, G w y → y.cell? ⟨msb, mso + pc, none⟩ = some (.int .u64 (v1 : Int))) :
    WalkC tb jb pc (itF op a b c d r0 r1 r2 r3) m.ca.length m.sh.length m.gl.length m.co.length m.fn.length m.main so sc go gc co cc ao ac fo fc ib ioff ic mso f.is.length msb mc mb v1 (mp pc) (fun y => JC w m so sc go gc co cc ao ac fo fc f ko kc io ic mo mc tb N jb mb mp y ∧ Ex y) (fun y => JC w m so sc go gc co cc ao ac fo fc f ko kc io ic mo mc tb N jb mb mp y ∧ Ex y) (OkR w (itF op a b c d r0 r1 r2 r3)) true (bkP f.is pc (itF op a b c d r0 r1 r2 r3)) := by
  have hr4 : op = 18 ∨ op = 22 ∨ op = 41 ∨ op = 43 := by
    rcases hop with h | ⟨h, -⟩ | h
    · exact Or.inl h
    · exact Or.inr (Or.inl h)
    · exact Or.inr (Or.inr (Or.inr h))
  have hr3 : op = 18 ∨ op = 22 ∨ op = 43 := by
    rcases hop with h | ⟨h, -⟩ | h
    · exact Or.inl h
    · exact Or.inr (Or.inl h)
    · exact Or.inr (Or.inr h)
  have h41 : op ≠ 41 := by rcases hr3 with h | h | h <;> rw [h] <;> decide
  have hk5 : op = 18 ∨ (op = 20 ∧ a = -1) ∨ (op = 22 ∧ a = -1) ∨ op = 41 ∨ op = 43 := by
    rcases hop with h | h | h
    · exact Or.inl h
    · exact Or.inr (Or.inr (Or.inl h))
    · exact Or.inr (Or.inr (Or.inr (Or.inr h)))
  have fr : ∀ k, k < 4 → FreeR (roleAt (r0, r1, r2, r3) k) := fun k hk => by
    rcases hF k hk with h | h | h | h
    · exact Or.inl h
    · exact Or.inr (Or.inl h)
    · exact Or.inr (Or.inr (Or.inl h))
    · exact Or.inr (Or.inr (Or.inr (Or.inr h)))
  exact gen_walk (Ex := Ex) (Ex2 := Ex) (bN := true) op a b c d r0 r1 r2 r3 0 0 [] [] pc ib ioff msb mso v1 hEx hEx (fun y _ => runOf_none w y m so sc go gc co cc ao ac fo fc ⟨op, a, b, c, d⟩ hr4) (fun y _ => vcases_no w y m so sc go gc co cc ao ac fo fc ⟨op, a, b, c, d⟩ h41)
    (fun y ro rc ca cac J E _ _ => (named_free y jb (itF op a b c d r0 r1 r2 r3) (.slice ro 0 rc) ca cac hr3 (fun z _ k hk => isThere_free z jb _ _ (hF k hk))).mono (by rintro e w' ⟨rfl, g⟩; exact ⟨rfl, hEx _ _ E g, g.gt⟩))
    hk5 (fr 0 (by decide)) (fr 1 (by decide)) (fr 2 (by decide)) (fr 3 (by decide)) (Nat.zero_le _) (fun c hc => by cases hc) (Or.inl rfl) hsl (by rw [hpr]; rfl) hst htg hs hko hkl hil hio hii hmo hml hpc hi hv1
set_option maxHeartbeats 4000000 in
/-- A module of one instruction that is broken by rule r. -/
theorem one_faultG {w : World} {kb ib mb0 fb : Nat} {x : Nat} (i : In) (hoi : oIn i) (r : Int) (hr : r ≠ 0) (O : OneAt w kb ib mb0 fb 1 i x)
    (HB : ∀ tb jb mb mp y, JC w (md1 0 1 i x) none 0 none 0 none 0 none 0 (some ⟨fb, 0, none⟩) 1 (fn1 1 i x) (some ⟨kb, 0, none⟩) 1 (some ⟨ib, 0, none⟩) 1 (some ⟨mb0, 0, none⟩) 1 tb 0 jb mb mp y → Calls Tryz.prog 17 #[.pointer (some ⟨jb, 0, none⟩), .int .i64 ((0 : Nat) : Int)] y fun e w' => e = .returned (.int .i64 r) ∧ Gt tb y w') :
    Calls Tryz.prog 10 #[.agg #[.slice none 0 0, .slice none 0 0, .slice none 0 0, .slice none 0 0, .slice (some ⟨fb, 0, none⟩) 1 1, .int .i64 0]] w fun e w' => e = .returned (.agg #[.int .i64 0, .int .i64 0, .int .i64 r]) ∧ G w w' := by
  have hM : ∀ y, G w y → ModR y (md1 0 1 i x) none 0 none 0 none 0 none 0 (some ⟨fb, 0, none⟩) 1 := fun y g => (O.g g).mod 0
  have hF : ∀ y, G w y → FnHere y (some ⟨fb, 0, none⟩) 0 (fn1 1 i x) (some ⟨kb, 0, none⟩) 1 := fun y g => (O.g g).here
  have hk : ∀ y, G w y → RowAt elB y (some ⟨kb, 0, none⟩) 1 1 [true] := fun y g => (O.g g).k
  have hi : ∀ y, G w y → RowAt elIn y (some ⟨ib, 0, none⟩) 1 1 [i] := fun y g => (O.g g).i
  have hcell := fun y (g : G w y) => (O.g g).c4
  have H := fault_any w none 0 none 0 none 0 none 0 (fb) 0 1 0 0 0 0 1 0 (fun _ => fn1 1 i x) (fun _ => some ⟨kb, 0, none⟩) (fun _ => 1) (fun _ => some ⟨ib, 0, none⟩) (fun _ => 1) (fun _ => some ⟨mb0, 0, none⟩) (fun _ => 1) (fun _ _ => r)
    (fun tb _ y => G w y ∧ w.heap.size ≤ tb ∧ tb < y.heap.size)
    (fun tb _ jb _ y => ∃ mb mp, JC w (md1 0 1 i x) none 0 none 0 none 0 none 0 (some ⟨fb, 0, none⟩) 1 (fn1 1 i x) (some ⟨kb, 0, none⟩) 1 (some ⟨ib, 0, none⟩) 1 (some ⟨mb0, 0, none⟩) 1 tb 0 jb mb mp y)
    (by omega) (by omega) (fun n hn => by show 1 ≤ 100000; omega)
    (fun y g => lists_any y (md1 0 1 i x) none 0 none 0 none 0 none 0 _ 1 rfl rfl rfl (by show 0 ≤ 1024; omega) (by show 1 ≤ 128; omega))
    (fun y g => main_in y (md1 0 1 i x) none 0 none 0 none 0 none 0 _ 1 0 (fn1 1 i x) _ 1 rfl (by show 0 < 1; omega) (hF y g) rfl rfl rfl)
    (fun n hn y g => by obtain rfl : n = 0 := by omega
                        exact hcell y g)
    (fun n hn y g => (funcGood_any y (fn1 1 i x) (some ⟨kb, 0, none⟩) 1 (some ⟨ib, 0, none⟩) 1 (some ⟨mb0, 0, none⟩) 1).mono (by rintro e w' ⟨rfl, g'⟩; exact ⟨rfl, g'⟩))
    (fun y g => ⟨g.more _, g.size, by rw [World.size_alloc]; omega⟩)
    (fun tb n y h => h.1) (fun tb n jb pc y h => by obtain ⟨mb, mp, J⟩ := h; exact J.g)
    (fun tb n y z h g => ⟨h.1.trans g, h.2.1, Nat.lt_of_lt_of_le h.2.2 g.size⟩)
    (fun tb n y hn h => by
      refine (judge_any y (md1 0 1 i x) none 0 none 0 none 0 none 0 (some ⟨fb, 0, none⟩) 1 (fn1 1 i x) (some ⟨kb, 0, none⟩) 1 (some ⟨ib, 0, none⟩) 1 (some ⟨mb0, 0, none⟩) 1 (some ⟨tb, 0, none⟩) 0 0 (hM y h.1) (hk y h.1) (hi y h.1) (fun j hj => by simp [fn1] at hj; subst hj; exact hoi) (fun s hs => by cases hs) (by show 1 * (4 * 0) + 1 ≤ 100000; omega) (by show 0 ≤ 100000; omega) (by show 1 ≤ 1000000; omega)).mono ?_
      rintro e w' ⟨jb, mb, st, rfl, j1, j2, j3, j4, j5, j6, j7⟩
      exact ⟨jb, rfl, ⟨mb, _, ⟨h.1.trans j7, j1, Nat.le_trans h.1.size j2, by omega, j4.lt, Nat.le_trans h.1.size j5, by omega, h.2.1, Nat.lt_of_lt_of_le h.2.2 j7.size, j3, j4⟩⟩, j7⟩)
    (fun tb n jb pc y hn hpc h => by
      obtain ⟨mb, mp, J⟩ := h
      obtain rfl : pc = 0 := by have : pc < 1 := hpc; omega
      refine (HB tb jb mb mp y J).mono ?_
      rintro e w' ⟨rfl, gt⟩
      exact ⟨rfl, Gt.to_g J.g gt J.tw, fun h => (hr h).elim, gt⟩)
    (fun tb n jb y h => by
      obtain ⟨mb, mp, J⟩ := h
      exact ⟨J.g, J.tw, J.tl⟩)
  refine H.mono ?_
  rintro e w' ⟨h, g⟩
  refine ⟨?_, g⟩
  rcases h with ⟨n, pc, hn, hpc, _, hne, rfl⟩ | ⟨h0, rfl⟩
  · obtain rfl : n = 0 := by omega
    obtain rfl : pc = 0 := by have : pc < 1 := hpc; omega
    rfl
  · exact (hr (h0.1 0 0 (by omega) (by show 0 < 1; omega))).elim
end Go.Proofs.YtnliooflpclcbaaGreatDoor

/- Package gantlinelaw12: the module of VerifyShares, wherever it lies, and what Check says of it. -/
namespace Go.Proofs.YtnliooflpclcbaaGreatDoor
set_option maxRecDepth 100000
open Go.RowKit Go.Maps Go.ChangeShapes Go.WideShapes Go.ChangeAt Go.Deep

theorem cells_sub {w : World} {b : Nat} {l : List Value} (h : CellsAt w b 0 l) (k n : Nat) : CellsAt w b k ((l.drop k).take n) := fun j v hv => by
  rw [List.getElem?_take] at hv
  split at hv
  · rw [List.getElem?_drop] at hv
    have := h (k + j) v hv
    rwa [Nat.zero_add] at this
  · cases hv
def sc4 : Ca := ⟨0, 0, -1, 4⟩
def shI (a : Nat) : List In := [⟨43, 0, 0, 0, 0⟩, ⟨41, 0, 2, 0, 0⟩, ⟨41, (a : Int), 2, 0, 0⟩, ⟨20, -1, 1, 0, 0⟩, ⟨22, -1, 0, 0, 0⟩]
def shF0 (a : Nat) (v : Nat → Nat) : Fn := ⟨0, 0, 1, 0, [true], shI a, [v 0, v 1, v 2, v 3, v 4]⟩
def shF1 (p c u : Nat) : Fn := ⟨(p : Int), (c : Int), 1, 0, [true], [⟨22, -1, 0, 0, 0⟩], [u]⟩
def shM (a p c : Nat) (v : Nat → Nat) (u : Nat) : Md := ⟨[], [], [], [sc4, sc4, sc4, sc4], [shF0 a v, shF1 p c u], 0⟩
abbrev caL : List Value := [.int .i64 0, .int .i64 0, .int .i64 (-1), .int .i64 4, .int .i64 0, .int .i64 0, .int .i64 (-1), .int .i64 4, .int .i64 0, .int .i64 0, .int .i64 (-1), .int .i64 4, .int .i64 0, .int .i64 0, .int .i64 (-1), .int .i64 4]
abbrev inL (a : Nat) : List Value := [.int .i64 43, .int .i64 0, .int .i64 0, .int .i64 0, .int .i64 0, .int .i64 41, .int .i64 0, .int .i64 2, .int .i64 0, .int .i64 0, .int .i64 41, .int .i64 (a : Int), .int .i64 2, .int .i64 0, .int .i64 0, .int .i64 20, .int .i64 (-1), .int .i64 1, .int .i64 0, .int .i64 0, .int .i64 22, .int .i64 (-1), .int .i64 0, .int .i64 0, .int .i64 0]
abbrev fnL (k0 i0 m0 k1 i1 m1 p c : Nat) : List Value := [.int .i64 0, .int .i64 0, .int .i64 1, .int .i64 0, .slice (some ⟨k0, 0, none⟩) 1 1, .slice (some ⟨i0, 0, none⟩) 5 5, .slice (some ⟨m0, 0, none⟩) 5 5, .int .i64 (p : Int), .int .i64 (c : Int), .int .i64 1, .int .i64 0, .slice (some ⟨k1, 0, none⟩) 1 1, .slice (some ⟨i1, 0, none⟩) 1 1, .slice (some ⟨m1, 0, none⟩) 1 1]
structure ShAt (y : World) (ab fb k0 i0 m0 k1 i1 m1 a p c : Nat) (v : Nat → Nat) (u : Nat) : Prop where
  la : ab < y.heap.size
  lf : fb < y.heap.size
  lk0 : k0 < y.heap.size
  li0 : i0 < y.heap.size
  lm0 : m0 < y.heap.size
  lk1 : k1 < y.heap.size
  li1 : i1 < y.heap.size
  lm1 : m1 < y.heap.size
  ca : CellsAt y ab 0 caL
  cf : CellsAt y fb 0 (fnL k0 i0 m0 k1 i1 m1 p c)
  ck0 : CellsAt y k0 0 [.bool true]
  ci0 : CellsAt y i0 0 (inL a)
  cm0 : CellsAt y m0 0 [.int .u64 (v 0 : Int), .int .u64 (v 1 : Int), .int .u64 (v 2 : Int), .int .u64 (v 3 : Int), .int .u64 (v 4 : Int)]
  ck1 : CellsAt y k1 0 [.bool true]
  ci1 : CellsAt y i1 0 [.int .i64 22, .int .i64 (-1), .int .i64 0, .int .i64 0, .int .i64 0]
  cm1 : CellsAt y m1 0 [.int .u64 (u : Int)]
theorem ShAt.gk {y z : World} {ab fb k0 i0 m0 k1 i1 m1 a p c : Nat} {v : Nat → Nat} {u : Nat} (h : ShAt y ab fb k0 i0 m0 k1 i1 m1 a p c v u) (hs : y.heap.size ≤ z.heap.size) (g : ∀ b, b < y.heap.size → z.heap[b]? = y.heap[b]?) : ShAt z ab fb k0 i0 m0 k1 i1 m1 a p c v u :=
  ⟨Nat.lt_of_lt_of_le h.la hs, Nat.lt_of_lt_of_le h.lf hs, Nat.lt_of_lt_of_le h.lk0 hs, Nat.lt_of_lt_of_le h.li0 hs, Nat.lt_of_lt_of_le h.lm0 hs, Nat.lt_of_lt_of_le h.lk1 hs, Nat.lt_of_lt_of_le h.li1 hs, Nat.lt_of_lt_of_le h.lm1 hs, h.ca.kept (g _ h.la), h.cf.kept (g _ h.lf), h.ck0.kept (g _ h.lk0), h.ci0.kept (g _ h.li0), h.cm0.kept (g _ h.lm0), h.ck1.kept (g _ h.lk1), h.ci1.kept (g _ h.li1), h.cm1.kept (g _ h.lm1)⟩
theorem ShAt.g {y z : World} {ab fb k0 i0 m0 k1 i1 m1 a p c : Nat} {v : Nat → Nat} {u : Nat} (h : ShAt y ab fb k0 i0 m0 k1 i1 m1 a p c v u) (g : G y z) : ShAt z ab fb k0 i0 m0 k1 i1 m1 a p c v u := h.gk g.size g.block
section
variable {w : World} {ab fb k0 i0 m0 k1 i1 m1 a p c : Nat} {v : Nat → Nat} {u : Nat}
theorem ShAt.rk0 (h : ShAt w ab fb k0 i0 m0 k1 i1 m1 a p c v u) : RowAt elB w (some ⟨k0, 0, none⟩) 1 1 [true] := row_oneC h.lk0 h.ck0 true rfl
theorem ShAt.rk1 (h : ShAt w ab fb k0 i0 m0 k1 i1 m1 a p c v u) : RowAt elB w (some ⟨k1, 0, none⟩) 1 1 [true] := row_oneC h.lk1 h.ck1 true rfl
theorem ShAt.ri1 (h : ShAt w ab fb k0 i0 m0 k1 i1 m1 a p c v u) : RowAt elIn w (some ⟨i1, 0, none⟩) 1 1 [⟨22, -1, 0, 0, 0⟩] := row_oneC h.li1 h.ci1 (⟨22, -1, 0, 0, 0⟩ : In) rfl
theorem ShAt.rm1 (h : ShAt w ab fb k0 i0 m0 k1 i1 m1 a p c v u) : RowAt elU w (some ⟨m1, 0, none⟩) 1 1 [u] := row_oneC h.lm1 h.cm1 u rfl
theorem ShAt.ri0 (h : ShAt w ab fb k0 i0 m0 k1 i1 m1 a p c v u) : RowAt elIn w (some ⟨i0, 0, none⟩) 5 5 (shI a) := by
  refine ⟨rfl, by unfold maxLen; omega, (fun e => by cases e), Or.inr ⟨i0, 0, rfl, h.li0, fun i x hi => ?_⟩⟩
  match i, hi with
  | 0, hi => cases hi; exact ⟨_, rfl, cells_sub h.ci0 0 5⟩
  | 1, hi => cases hi; exact ⟨_, rfl, cells_sub h.ci0 5 5⟩
  | 2, hi => cases hi; exact ⟨_, rfl, cells_sub h.ci0 10 5⟩
  | 3, hi => cases hi; exact ⟨_, rfl, cells_sub h.ci0 15 5⟩
  | 4, hi => cases hi; exact ⟨_, rfl, cells_sub h.ci0 20 5⟩
  | i + 5, hi => cases hi
theorem ShAt.rm0 (h : ShAt w ab fb k0 i0 m0 k1 i1 m1 a p c v u) : RowAt elU w (some ⟨m0, 0, none⟩) 5 5 [v 0, v 1, v 2, v 3, v 4] := by
  refine ⟨rfl, by unfold maxLen; omega, (fun e => by cases e), Or.inr ⟨m0, 0, rfl, h.lm0, fun i x hi => ?_⟩⟩
  match i, hi with
  | 0, hi => cases hi; exact ⟨_, rfl, cells_sub h.cm0 0 1⟩
  | 1, hi => cases hi; exact ⟨_, rfl, cells_sub h.cm0 1 1⟩
  | 2, hi => cases hi; exact ⟨_, rfl, cells_sub h.cm0 2 1⟩
  | 3, hi => cases hi; exact ⟨_, rfl, cells_sub h.cm0 3 1⟩
  | 4, hi => cases hi; exact ⟨_, rfl, cells_sub h.cm0 4 1⟩
  | i + 5, hi => cases hi
theorem ShAt.mod (h : ShAt w ab fb k0 i0 m0 k1 i1 m1 a p c v u) {ac : Nat} (hac : 4 ≤ ac) : ModR w (shM a p c v u) none 0 none 0 none 0 (some ⟨ab, 0, none⟩) ac (some ⟨fb, 0, none⟩) 2 := by
  refine ⟨RowAt.nil _, RowAt.nil _, RowAt.nil _, ⟨rfl, by unfold maxLen; show 4 ≤ _; omega, (fun e => by cases e), Or.inr ⟨ab, 0, rfl, h.la, fun i x hi => ?_⟩⟩, ⟨rfl, by unfold maxLen; show 2 ≤ _; omega, (fun e => by cases e), Or.inr ⟨fb, 0, rfl, h.lf, fun i x hi => ?_⟩⟩, hac⟩
  · match i, hi with
    | 0, hi => cases hi; exact ⟨_, rfl, cells_sub h.ca 0 4⟩
    | 1, hi => cases hi; exact ⟨_, rfl, cells_sub h.ca 4 4⟩
    | 2, hi => cases hi; exact ⟨_, rfl, cells_sub h.ca 8 4⟩
    | 3, hi => cases hi; exact ⟨_, rfl, cells_sub h.ca 12 4⟩
    | i + 4, hi => cases hi
  · match i, hi with
    | 0, hi => cases hi; exact ⟨_, ⟨some ⟨k0, 0, none⟩, 1, some ⟨i0, 0, none⟩, 5, some ⟨m0, 0, none⟩, 5, rfl, h.rk0, h.ri0, h.rm0⟩, cells_sub h.cf 0 7⟩
    | 1, hi => cases hi; exact ⟨_, ⟨some ⟨k1, 0, none⟩, 1, some ⟨i1, 0, none⟩, 1, some ⟨m1, 0, none⟩, 1, rfl, h.rk1, h.ri1, h.rm1⟩, cells_sub h.cf 7 7⟩
    | i + 2, hi => cases hi
theorem ShAt.h0 (h : ShAt w ab fb k0 i0 m0 k1 i1 m1 a p c v u) : FnHere w (some ⟨fb, 0, none⟩) 0 (shF0 a v) (some ⟨k0, 0, none⟩) 1 :=
  ⟨fb, 0, some ⟨i0, 0, none⟩, 5, some ⟨m0, 0, none⟩, 5, rfl, h.lf, cells_sub h.cf 0 7⟩
theorem ShAt.h1 (h : ShAt w ab fb k0 i0 m0 k1 i1 m1 a p c v u) : FnHere w (some ⟨fb, 0, none⟩) 1 (shF1 p c u) (some ⟨k1, 0, none⟩) 1 :=
  ⟨fb, 0, some ⟨i1, 0, none⟩, 1, some ⟨m1, 0, none⟩, 1, rfl, h.lf, cells_sub h.cf 7 7⟩
end
/-- What is read later does not hang on the maps that are there. -/
theorem least_cong {m m' : Md} {f f' : Fn} {st : Nat → Nat} (h : LeastD m f st) (hi : f'.is = f.is) (hc : ∀ (k : Nat) (i : In), f.is[k]? = some i → i.op ≠ 41 → rdP m' i = rdP m i) (hs : m'.ca = m.ca) (hf : ∀ pc, flP m' f' pc = flP m f pc) : LeastD m' f' st := by
  have hcs : ∀ x y, casesP m' x y = casesP m x y := fun x y => by unfold casesP; rw [hs]
  have hr : ∀ (k : Nat) (i : In), f.is[k]? = some i → rdP m' i = rdP m i := fun k i h1 => by
    by_cases e : i.op = 41
    · rw [rdP_41 _ _ e, rdP_41 _ _ e, hcs]
    · exact hc k i h1 e
  have fw : ∀ X, ClD m' f' X → ClD m f X := fun X k => ⟨fun pc i s h1 h2 h3 => k.rd pc i s (by rw [hi]; exact h1) h2 (by rw [hr pc i h1]; exact h3), fun pc i q s h1 h2 h3 => k.go pc i q s (by rw [hi]; exact h1) h2 (by rw [hf]; exact h3), fun pc i c q s h1 h2 h3 h4 h5 => k.se pc i c q s (by rw [hi]; exact h1) h2 (by rw [hcs]; exact h3) h4 (by rw [hi]; exact h5)⟩
  have bw : ∀ X, ClD m f X → ClD m' f' X := fun X k => ⟨fun pc i s h1 h2 h3 => k.rd pc i s (by rw [← hi]; exact h1) h2 (by rw [← hr pc i (by rw [← hi]; exact h1)]; exact h3), fun pc i q s h1 h2 h3 => k.go pc i q s (by rw [← hi]; exact h1) h2 (by rw [← hf]; exact h3), fun pc i c q s h1 h2 h3 h4 h5 => k.se pc i c q s (by rw [← hi]; exact h1) h2 (by rw [← hcs]; exact h3) h4 (by rw [← hi]; exact h5)⟩
  exact ⟨bw _ h.cl, fun X k pc s h1 => h.le X (fw X k) pc s (by rw [← hi]; exact h1), fun pc h1 => h.bd pc (by rw [← hi]; exact h1)⟩
theorem flP_cong {m m' : Md} {f f' : Fn} (hi : f'.is = f.is) (hs : m'.ca = m.ca) (pc : Int) : flP m' f' pc = flP m f pc := by
  have hcs : ∀ x y, casesP m' x y = casesP m x y := fun x y => by unfold casesP; rw [hs]
  unfold flP folT
  rw [hi]
  simp only [hcs]
theorem rd_call (m m' : Md) (i : In) (h : i.op = 43 ∨ i.op = 22 ∨ (i.op = 20 ∧ (fnP m' i.b).p = (fnP m i.b).p)) : rdP m' i = rdP m i := by
  obtain ⟨op, a, b, c, d⟩ := i
  rcases h with h | h | ⟨h, h2⟩
  · simp only at h; subst h; rfl
  · simp only at h; subst h; rfl
  · simp only at h h2; subst h
    show runP c (fnP m' b).p = runP c (fnP m b).p
    rw [h2]
def shN : Nat → Bool := fun _ => false
def shT (pc : Nat) : Nat → Bool := if pc ≤ 1 then shN else if pc = 2 then setTk shN 0 2 else setTk (setTk shN 0 2) 2 2
abbrev SJ (w : World) (ab ac fb k i ms il : Nat) (M : Md) (f : Fn) (tb jb mb : Nat) (mp : Nat → Nat) (y : World) : Prop := JC w M none 0 none 0 none 0 (some ⟨ab, 0, none⟩) ac (some ⟨fb, 0, none⟩) 2 f (some ⟨k, 0, none⟩) 1 (some ⟨i, 0, none⟩) il (some ⟨ms, 0, none⟩) il tb 4 jb mb mp y
theorem cases_sh (a : Nat) (ha : a ≤ 2) (m : Md) (h : m.ca = [sc4, sc4, sc4, sc4]) : casesP m (a : Int) 2 = [sc4, sc4] := by
  unfold casesP
  rw [h]
  have : a = 0 ∨ a = 1 ∨ a = 2 := by omega
  rcases this with rfl | rfl | rfl <;> rfl
section
variable {w : World} {ab ac fb k0 i0 m0 k1 i1 m1 a p c : Nat} {v : Nat → Nat} {u : Nat} {tb jb mb : Nat} {mp : Nat → Nat} {y : World}
/-- What an instruction of the first function answers. -/
abbrev B0To (w : World) (ab ac fb k0 i0 m0 a p c : Nat) (v : Nat → Nat) (u tb jb mb : Nat) (mp : Nat → Nat) (y : World) (r : Int) (T : Nat → Bool) : Ending → World → Prop := fun e w' => e = .returned (.int .i64 r) ∧ (r = 0 → SJ w ab ac fb k0 i0 m0 5 (shM a p c v u) (shF0 a v) tb jb mb mp w' ∧ TkAt w' tb 4 T) ∧ Gt tb y w'
set_option maxHeartbeats 4000000 in
theorem sh_free0 (O : ShAt w ab fb k0 i0 m0 k1 i1 m1 a p c v u) (J : SJ w ab ac fb k0 i0 m0 5 (shM a p c v u) (shF0 a v) tb jb mb mp y) (T : Nat → Bool) (hT : TkAt y tb 4 T) (hmp : ∀ k, k < 5 → mp k = v k) (pc : Nat) (hpc : pc < 5) (op a' : Int) (r0 : Nat) (hop : (op = 43 ∧ a' = 0 ∧ r0 = 0 ∧ pc = 0) ∨ (op = 22 ∧ a' = -1 ∧ r0 = 4 ∧ pc = 4)) :
    Calls Tryz.prog 17 #[.pointer (some ⟨jb, 0, none⟩), .int .i64 (pc : Int)] y (B0To w ab ac fb k0 i0 m0 a p c v u tb jb mb mp y 0 T) := by
  have W := free_walk (w := w) (m := shM a p c v u) (f := shF0 a v) (so := none) (sc := 0) (go := none) (gc := 0) (co := none) (cc := 0) (ao := some ⟨ab, 0, none⟩) (ac := ac) (fo := some ⟨fb, 0, none⟩) (fc := 2) (ko := some ⟨k0, 0, none⟩) (kc := 1) (io := some ⟨i0, 0, none⟩) (ic := 5) (mo := some ⟨m0, 0, none⟩) (mc := 5) (tb := tb) (N := 4) (jb := jb) (mb := mb) (mp := mp) (Ex := fun y => TkAt y tb 4 T) op a' 0 0 0 r0 0 0 0 pc i0 0 m0 0 (v pc) (fun _ _ h g => h.g g)
    (by rcases hop with ⟨rfl, -⟩ | ⟨rfl, rfl, -⟩
        · exact Or.inr (Or.inr rfl)
        · exact Or.inr (Or.inl ⟨rfl, rfl⟩))
    (fun k hk => by
      have hk4 : k = 0 ∨ k = 1 ∨ k = 2 ∨ k = 3 := by omega
      rcases hop with ⟨-, -, rfl, -⟩ | ⟨-, -, rfl, -⟩
      · rcases hk4 with rfl | rfl | rfl | rfl <;> exact Or.inl rfl
      · rcases hk4 with rfl | rfl | rfl | rfl
        · exact Or.inr (Or.inl rfl)
        all_goals exact Or.inl rfl)
    (by rcases hop with ⟨rfl, rfl, rfl, -⟩ | ⟨rfl, rfl, rfl, -⟩ <;> rfl)
    (by rcases hop with ⟨rfl, rfl, rfl, -⟩ | ⟨rfl, rfl, rfl, -⟩ <;> rfl)
    (by rcases hop with ⟨rfl, rfl, rfl, rfl⟩ | ⟨rfl, rfl, rfl, rfl⟩ <;> rfl)
    (fun t ht => by rcases hop with ⟨rfl, rfl, rfl, rfl⟩ | ⟨rfl, rfl, rfl, rfl⟩ <;> cases ht)
    (by show (1 : Int) ≤ 1000000; omega) O.rk0 (by show 1 ≤ 1000000; omega) (by show 5 ≤ 1000000; omega) rfl O.ri0 rfl rfl hpc
    (fun z g => by
      have h := (O.g g).ci0
      rcases hop with ⟨rfl, rfl, rfl, rfl⟩ | ⟨rfl, rfl, rfl, rfl⟩
      · exact cells_sub h 0 5
      · exact cells_sub h 20 5)
    (fun z g => by
      have h := (O.g g).cm0
      rcases hop with ⟨rfl, rfl, rfl, rfl⟩ | ⟨rfl, rfl, rfl, rfl⟩
      · exact h 0 _ rfl
      · exact h 4 _ rfl)
  refine (broken_any y tb jb pc _ _ _ _ _ _ _ none 0 none 0 none 0 (some ⟨ab, 0, none⟩) ac (some ⟨fb, 0, none⟩) 2 i0 0 5 0 5 m0 5 mb (v pc) (mp pc) _ _ _ true _ W ⟨J, hT⟩ J.tl hpc (by rcases hop with ⟨rfl, rfl, rfl, -⟩ | ⟨rfl, rfl, rfl, -⟩ <;> rfl) (by rcases hop with ⟨rfl, -⟩ | ⟨rfl, -⟩; exact (by decide : (43 : Int) ≠ 29); exact (by decide : (22 : Int) ≠ 29)) (by rcases hop with ⟨rfl, -⟩ | ⟨rfl, -⟩; exact (by decide : (43 : Int) ≠ 32); exact (by decide : (22 : Int) ≠ 32))).mono ?_
  rintro e w' ⟨rfl, h2, gt⟩
  have hr : ruleP true (bkP (shF0 a v).is pc (itF op a' 0 0 0 r0 0 0 0)) (v pc == mp pc) = 0 := by
    rw [hmp pc hpc, beq_self_eq_true]
    rcases hop with ⟨rfl, rfl, rfl, rfl⟩ | ⟨rfl, rfl, rfl, rfl⟩ <;> rfl
  exact ⟨by rw [hr], fun _ => h2, gt⟩
set_option maxHeartbeats 4000000 in
theorem sh_sel (O : ShAt w ab fb k0 i0 m0 k1 i1 m1 a p c v u) (hac : 4 ≤ ac) (J : SJ w ab ac fb k0 i0 m0 5 (shM a p c v u) (shF0 a v) tb jb mb mp y) (T : Nat → Bool) (hT : TkAt y tb 4 T) (hmp : ∀ k, k < 5 → mp k = v k) (pc A : Nat) (hA : A ≤ 2) (hpa : (pc = 1 ∧ A = 0) ∨ (pc = 2 ∧ A = a)) (bN : Bool) (hb : (bN = true ∧ ∀ j, j < 2 → T (A + j) = false) ∨ (bN = false ∧ ∃ j, j < 2 ∧ T (A + j) = true)) :
    Calls Tryz.prog 17 #[.pointer (some ⟨jb, 0, none⟩), .int .i64 (pc : Int)] y (B0To w ab ac fb k0 i0 m0 a p c v u tb jb mb mp y (if bN then 0 else 5) (setTk T A 2)) := by
  have hpc : pc < 5 := by omega
  have hcs : casesP (shM a p c v u) (A : Int) 2 = [sc4, sc4] := cases_sh A hA _ rfl
  have W := gen_walk (w := w) (m := shM a p c v u) (f := shF0 a v) (so := none) (sc := 0) (go := none) (gc := 0) (co := none) (cc := 0) (ao := some ⟨ab, 0, none⟩) (ac := ac) (fo := some ⟨fb, 0, none⟩) (fc := 2) (ko := some ⟨k0, 0, none⟩) (kc := 1) (io := some ⟨i0, 0, none⟩) (ic := 5) (mo := some ⟨m0, 0, none⟩) (mc := 5) (tb := tb) (N := 4) (jb := jb) (mb := mb) (mp := mp) (Ex := fun y => TkAt y tb 4 T) (Ex2 := fun y => if bN then TkAt y tb 4 (setTk T A 2) else ∃ T', TkAt y tb 4 T') (bN := bN) 41 (A : Int) 2 0 0 0 0 0 0 0 0 [] [sc4, sc4] pc i0 0 m0 0 (v pc) (fun _ _ h g => h.g g)
    (fun y z h g => by
      cases bN
      · obtain ⟨T', h⟩ := h
        exact ⟨T', h.g g⟩
      · exact TkAt.g h g)
    (fun z _ => runOf_none w z _ none 0 none 0 none 0 (some ⟨ab, 0, none⟩) ac (some ⟨fb, 0, none⟩) 2 ⟨41, (A : Int), 2, 0, 0⟩ (Or.inr (Or.inr (Or.inl rfl))))
    (fun z _ => by
      have h := vcases_any w z (shM a p c v u) none 0 none 0 none 0 (some ⟨ab, 0, none⟩) ac (some ⟨fb, 0, none⟩) 2 (O.mod hac) ⟨41, (A : Int), 2, 0, 0⟩ rfl (by unfold oI; show -9223372036854775808 ≤ (A : Int) ∧ (A : Int) ≤ 9223372036854775807; omega)
      rw [show casesP (shM a p c v u) (⟨41, (A : Int), 2, 0, 0⟩ : In).a (⟨41, (A : Int), 2, 0, 0⟩ : In).b = [sc4, sc4] from hcs] at h
      exact h)
    (fun z ro rc ca cac J2 hT2 _ hra => by
      refine (named_sel z jb ⟨⟨41, (A : Int), 2, 0, 0⟩, (0, 0, 0, 0), 0, 0, [], [sc4, sc4]⟩ (.slice ro 0 rc) ca cac rfl tb 4 4 T A 2 rfl rfl (by omega) (by omega) (by omega) (by omega) (by have h := J2.c 15 _ rfl; rw [Nat.zero_add] at h; exact h) hT2 (by rfl) hra (by show 2 ≤ 1000000; omega) (fun y2 _ k hk => isThere_free y2 jb _ _ (by
        have hk4 : k = 0 ∨ k = 1 ∨ k = 2 ∨ k = 3 := by omega
        rcases hk4 with rfl | rfl | rfl | rfl <;> exact Or.inl rfl))).mono ?_
      rintro e w' ⟨h, gt⟩
      rcases h with ⟨rfl, h1, h2⟩ | ⟨rfl, ⟨j, hj, h1⟩, h2⟩
      · rcases hb with ⟨rfl, -⟩ | ⟨rfl, j, hj, h3⟩
        · exact ⟨rfl, h2, gt⟩
        · rw [h1 j hj] at h3; cases h3
      · rcases hb with ⟨rfl, h3⟩ | ⟨rfl, -⟩
        · rw [h3 j hj] at h1; cases h1
        · exact ⟨rfl, h2, gt⟩)
    (Or.inr (Or.inr (Or.inr (Or.inl rfl)))) (Or.inl rfl) (Or.inl rfl) (Or.inl rfl) (Or.inl rfl) (by show 2 ≤ 100000; omega) (fun c hc => by
      have : c = sc4 := by simpa using hc
      subst this; exact Or.inr rfl) (Or.inl rfl) (by rfl) (by rfl) (by rcases hpa with ⟨rfl, -⟩ | ⟨rfl, -⟩ <;> rfl)
    (fun t ht => by
      have : t = 4 := by simpa [targP, tg4, roleAt, operAt, sc4] using ht
      subst this; rfl)
    (by show (1 : Int) ≤ 1000000; omega) O.rk0 (by show 1 ≤ 1000000; omega) (by show 5 ≤ 1000000; omega) rfl O.ri0 rfl rfl hpc
    (fun z g => by
      have h := (O.g g).ci0
      rcases hpa with ⟨rfl, rfl⟩ | ⟨rfl, rfl⟩
      · exact cells_sub h 5 5
      · exact cells_sub h 10 5)
    (fun z g => by
      have h := (O.g g).cm0
      rcases hpa with ⟨rfl, rfl⟩ | ⟨rfl, rfl⟩
      · exact h 1 _ rfl
      · exact h 2 _ rfl)
  refine (broken_any y tb jb pc _ _ _ _ _ _ _ none 0 none 0 none 0 (some ⟨ab, 0, none⟩) ac (some ⟨fb, 0, none⟩) 2 i0 0 5 0 5 m0 5 mb (v pc) (mp pc) _ _ _ bN _ W ⟨J, hT⟩ J.tl hpc (by rfl) (by show (41 : Int) ≠ 29; decide) (by show (41 : Int) ≠ 32; decide)).mono ?_
  rintro e w' ⟨rfl, h2, gt⟩
  have hr : ruleP bN (bkP (shF0 a v).is pc ⟨⟨41, (A : Int), 2, 0, 0⟩, (0, 0, 0, 0), 0, 0, [], [sc4, sc4]⟩) (v pc == mp pc) = if bN then 0 else 5 := by
    rw [hmp pc hpc, beq_self_eq_true]
    cases bN
    · rfl
    · rcases hpa with ⟨rfl, -⟩ | ⟨rfl, -⟩ <;> rfl
  refine ⟨by rw [hr], fun h0 => ?_, gt⟩
  cases bN
  · cases h0
  · exact h2
set_option maxHeartbeats 4000000 in
theorem sh_call (O : ShAt w ab fb k0 i0 m0 k1 i1 m1 a p c v u) (J : SJ w ab ac fb k0 i0 m0 5 (shM a p c v u) (shF0 a v) tb jb mb mp y) (T : Nat → Bool) (hT : TkAt y tb 4 T) (hmp : ∀ k, k < 5 → mp k = v k) (hp : (p = 1 ∧ c = 0) ∨ (p = 0 ∧ c = 1)) :
    Calls Tryz.prog 17 #[.pointer (some ⟨jb, 0, none⟩), .int .i64 ((3 : Nat) : Int)] y (B0To w ab ac fb k0 i0 m0 a p c v u tb jb mb mp y (if c = 0 then 0 else 5) T) := by
  have W := gen_walk (w := w) (m := shM a p c v u) (f := shF0 a v) (so := none) (sc := 0) (go := none) (gc := 0) (co := none) (cc := 0) (ao := some ⟨ab, 0, none⟩) (ac := ac) (fo := some ⟨fb, 0, none⟩) (fc := 2) (ko := some ⟨k0, 0, none⟩) (kc := 1) (io := some ⟨i0, 0, none⟩) (ic := 5) (mo := some ⟨m0, 0, none⟩) (mc := 5) (tb := tb) (N := 4) (jb := jb) (mb := mb) (mp := mp) (Ex := fun y => TkAt y tb 4 T) (Ex2 := fun y => TkAt y tb 4 T) (bN := decide (c = 0)) 20 (-1) 1 0 0 4 13 6 0 0 (p : Int) ([true].take p) [] 3 i0 0 m0 0 (v 3) (fun _ _ h g => h.g g) (fun _ _ h g => h.g g)
    (fun z g => runOf_call w z (shM a p c v u) none 0 none 0 none 0 (some ⟨ab, 0, none⟩) ac (some ⟨fb, 0, none⟩) 2 g (-1) 1 p 0 0 (shF1 p c u) k1 0 1 (by show 1 < 2; omega) O.h1 rfl (by show p ≤ 1; omega) (by show 1 ≤ 1; omega) (by omega) O.rk1)
    (fun z _ => vcases_no w z _ none 0 none 0 none 0 (some ⟨ab, 0, none⟩) ac (some ⟨fb, 0, none⟩) 2 ⟨20, -1, 1, 0, 0⟩ (by show (20 : Int) ≠ 41; decide))
    (fun z ro rc ca cac J2 hT2 _ _ => by
      have h4 : z.cell? ⟨jb, 4, none⟩ = some (.slice (some ⟨fb, 0, none⟩) 2 2) := by have h := J2.c 4 _ rfl; rw [Nat.zero_add] at h; exact h
      refine (named_call z jb ⟨⟨20, -1, 1, 0, 0⟩, (4, 13, 6, 0), 0, (p : Int), [true].take p, []⟩ (.slice ro _ rc) ca cac rfl (some ⟨fb, 0, none⟩) 2 2 1 (shF1 p c u) (some ⟨k1, 0, none⟩) 1 rfl (by omega) h4 (O.g J2.g).h1 (fun y2 g2 k hk => ?_)).mono ?_
      · have hk4 : k = 0 ∨ k = 1 ∨ k = 2 ∨ k = 3 := by omega
        rcases hk4 with rfl | rfl | rfl | rfl
        · exact isThere_free y2 jb 4 _ (Or.inr (Or.inl rfl))
        · exact isThere_fn y2 jb 1 _ 2 2 (g2.cell h4)
        · exact isThere_free y2 jb 6 _ (Or.inr (Or.inr (Or.inl rfl)))
        · exact isThere_free y2 jb 0 _ (Or.inl rfl)
      · rintro e w' ⟨rfl, g⟩
        refine ⟨?_, TkAt.g hT2 g, g.gt⟩
        have : ((shF1 p c u).c = 0) ↔ c = 0 := by show ((c : Int) = 0) ↔ c = 0; omega
        simp only [this])
    (Or.inr (Or.inl ⟨rfl, rfl⟩)) (Or.inr (Or.inl rfl)) (Or.inr (Or.inr (Or.inr (Or.inl rfl)))) (Or.inr (Or.inr (Or.inl rfl))) (Or.inl rfl) (Nat.zero_le _) (fun c hc => by cases hc)
    (by rcases hp with ⟨rfl, -⟩ | ⟨rfl, -⟩
        · refine Or.inr ⟨by omega, fun k b hk => ?_⟩
          match k, hk with
          | 0, hk => exact hk
          | k + 1, hk => simp at hk
        · exact Or.inl rfl)
    (by rcases hp with ⟨rfl, -⟩ | ⟨rfl, -⟩ <;> rfl) (by rfl) (by rfl)
    (fun t ht => by cases ht)
    (by show (1 : Int) ≤ 1000000; omega) O.rk0 (by show 1 ≤ 1000000; omega) (by show 5 ≤ 1000000; omega) rfl O.ri0 rfl rfl (by show 3 < 5; omega)
    (fun z g => cells_sub (O.g g).ci0 15 5)
    (fun z g => (O.g g).cm0 3 _ rfl)
  refine (broken_any y tb jb 3 _ _ _ _ _ _ _ none 0 none 0 none 0 (some ⟨ab, 0, none⟩) ac (some ⟨fb, 0, none⟩) 2 i0 0 5 0 5 m0 5 mb (v 3) (mp 3) _ _ _ _ _ W ⟨J, hT⟩ J.tl (by omega) (by rfl) (by show (20 : Int) ≠ 29; decide) (by show (20 : Int) ≠ 32; decide)).mono ?_
  rintro e w' ⟨rfl, h2, gt⟩
  have hr : ruleP (decide (c = 0)) (bkP (shF0 a v).is ((3 : Nat) : Int) ⟨⟨20, -1, 1, 0, 0⟩, (4, 13, 6, 0), 0, (p : Int), [true].take p, []⟩) (v 3 == mp 3) = if c = 0 then 0 else 5 := by
    rw [hmp 3 (by omega), beq_self_eq_true]
    rcases hp with ⟨rfl, rfl⟩ | ⟨rfl, rfl⟩ <;> rfl
  exact ⟨by rw [hr], fun _ => h2, gt⟩
abbrev B1To (w : World) (ab ac fb k1 i1 m1 a p c : Nat) (v : Nat → Nat) (u tb jb mb : Nat) (mp : Nat → Nat) (y : World) (T : Nat → Bool) : Ending → World → Prop := fun e w' => e = .returned (.int .i64 0) ∧ (SJ w ab ac fb k1 i1 m1 1 (shM a p c v u) (shF1 p c u) tb jb mb mp w' ∧ TkAt w' tb 4 T) ∧ Gt tb y w'
set_option maxHeartbeats 4000000 in
theorem sh_ret1 (O : ShAt w ab fb k0 i0 m0 k1 i1 m1 a p c v u) (J : SJ w ab ac fb k1 i1 m1 1 (shM a p c v u) (shF1 p c u) tb jb mb mp y) (T : Nat → Bool) (hT : TkAt y tb 4 T) (hmp : mp 0 = u) :
    Calls Tryz.prog 17 #[.pointer (some ⟨jb, 0, none⟩), .int .i64 ((0 : Nat) : Int)] y (B1To w ab ac fb k1 i1 m1 a p c v u tb jb mb mp y T) := by
  have W := free_walk (w := w) (m := shM a p c v u) (f := shF1 p c u) (so := none) (sc := 0) (go := none) (gc := 0) (co := none) (cc := 0) (ao := some ⟨ab, 0, none⟩) (ac := ac) (fo := some ⟨fb, 0, none⟩) (fc := 2) (ko := some ⟨k1, 0, none⟩) (kc := 1) (io := some ⟨i1, 0, none⟩) (ic := 1) (mo := some ⟨m1, 0, none⟩) (mc := 1) (tb := tb) (N := 4) (jb := jb) (mb := mb) (mp := mp) (Ex := fun y => TkAt y tb 4 T) 22 (-1) 0 0 0 4 0 0 0 0 i1 0 m1 0 u (fun _ _ h g => h.g g)
    (Or.inr (Or.inl ⟨rfl, rfl⟩))
    (fun k hk => by
      have hk4 : k = 0 ∨ k = 1 ∨ k = 2 ∨ k = 3 := by omega
      rcases hk4 with rfl | rfl | rfl | rfl
      · exact Or.inr (Or.inl rfl)
      all_goals exact Or.inl rfl)
    (by rfl) (by rfl) (by rfl) (fun t ht => by cases ht)
    (by show (1 : Int) ≤ 1000000; omega) O.rk1 (by show 1 ≤ 1000000; omega) (by show 1 ≤ 1000000; omega) rfl O.ri1 rfl rfl (by show 0 < 1; omega)
    (fun z g => (O.g g).ci1) (fun z g => (O.g g).cm1 0 _ rfl)
  refine (broken_any y tb jb 0 _ _ _ _ _ _ _ none 0 none 0 none 0 (some ⟨ab, 0, none⟩) ac (some ⟨fb, 0, none⟩) 2 i1 0 1 0 1 m1 1 mb u (mp 0) _ _ _ true _ W ⟨J, hT⟩ J.tl (by omega) (by rfl) (by show (22 : Int) ≠ 29; decide) (by show (22 : Int) ≠ 32; decide)).mono ?_
  rintro e w' ⟨rfl, h2, gt⟩
  have hr : ruleP true (bkP (shF1 p c u).is ((0 : Nat) : Int) (itF 22 (-1) 0 0 0 4 0 0 0)) (u == mp 0) = 0 := by
    rw [hmp, beq_self_eq_true]
    rfl
  exact ⟨by rw [hr], h2, gt⟩
end
end Go.Proofs.YtnliooflpclcbaaGreatDoor

/- Package gantlinelaw12: what Check says of the module of VerifyShares. -/
namespace Go.Proofs.YtnliooflpclcbaaGreatDoor
set_option maxRecDepth 100000
open Go.RowKit Go.Maps Go.ChangeShapes Go.WideShapes Go.ChangeAt Go.Deep

def shR (a c n pc : Nat) : Int := if n = 0 then (if pc = 2 ∧ a < 2 then 5 else if pc = 3 ∧ c ≠ 0 then 5 else 0) else 0
theorem shR_2 {a c : Nat} (h : a < 2) : shR a c 0 2 = 5 := by unfold shR; rw [if_pos rfl, if_pos ⟨rfl, h⟩]
theorem shR_n {a c n pc : Nat} (h : n ≠ 0) : shR a c n pc = 0 := by unfold shR; rw [if_neg h]
theorem shR_o {a c pc : Nat} (h : pc ≠ 2) (h3 : pc ≠ 3) : shR a c 0 pc = 0 := by unfold shR; rw [if_pos rfl, if_neg (fun k => h k.1), if_neg (fun k => h3 k.1)]
theorem shR_2' {a c : Nat} (h : 2 ≤ a) : shR a c 0 2 = 0 := by unfold shR; rw [if_pos rfl, if_neg (by omega), if_neg (by omega)]
theorem shR_3 {a c : Nat} : shR a c 0 3 = if c = 0 then 0 else 5 := by
  unfold shR
  rw [if_pos rfl, if_neg (by omega)]
  by_cases h : c = 0
  · rw [if_neg (by omega), if_pos h]
  · rw [if_pos ⟨rfl, h⟩, if_neg h]
def shQ (w : World) (ab ac fb k0 i0 m0 k1 i1 m1 a p c : Nat) (v : Nat → Nat) (u : Nat) (tb n jb pc : Nat) (y : World) : Prop := match n with
  | 0 => ∃ mb mp, SJ w ab ac fb k0 i0 m0 5 (shM a p c v u) (shF0 a v) tb jb mb mp y ∧ TkAt y tb 4 (shT pc) ∧ ∀ k, k < 5 → mp k = v k
  | _ + 1 => ∃ mb mp, SJ w ab ac fb k1 i1 m1 1 (shM a p c v u) (shF1 p c u) tb jb mb mp y ∧ TkAt y tb 4 (shT 5) ∧ mp 0 = u
def shP (w : World) (tb n : Nat) (y : World) : Prop := G w y ∧ w.heap.size ≤ tb ∧ tb < y.heap.size ∧ TkAt y tb 4 (if n = 0 then shN else shT 5)
def shFn (a p c : Nat) (v : Nat → Nat) (u n : Nat) : Fn := match n with
  | 0 => shF0 a v
  | _ + 1 => shF1 p c u
def pick2 {α : Type} (x y : α) (n : Nat) : α := match n with
  | 0 => x
  | _ + 1 => y
theorem tk_new (y : World) : TkAt (y.alloc (.cells (madeCells #[.bool false] 4) 4)) y.heap.size 4 shN := by
  have e := heap_alloc_new y (.cells (madeCells #[.bool false] 4) 4)
  refine ⟨by rw [World.size_alloc]; omega, fun i hi => ⟨?_, ?_⟩⟩
  · rw [cell_of_row _ _ i _ _ _ e]
    exact made_get _ _ _ hi
  · unfold World.frozen?
    rw [e]
    simp
theorem oIn_sh (a : Nat) (ha : a ≤ 2) : ∀ i ∈ shI a, oIn i := by
  intro i hi
  simp only [shI, List.mem_cons, List.not_mem_nil, or_false] at hi
  rcases hi with rfl | rfl | rfl | rfl | rfl <;> (unfold oIn oI; dsimp only; omega)
section
variable {w : World} {ab ac fb k0 i0 m0 k1 i1 m1 a p c : Nat} {v : Nat → Nat} {u : Nat}
set_option maxHeartbeats 8000000 in
theorem sh_fault (O : ShAt w ab fb k0 i0 m0 k1 i1 m1 a p c v u) (hac : 4 ≤ ac) (ha : a ≤ 2) (hp : (p = 1 ∧ c = 0) ∨ (p = 0 ∧ c = 1))
    (hv : ∀ st, LeastD (shM a p c v u) (shF0 a v) st → ∀ k, k < 5 → st k &&& kndP [true] = v k) (hu : ∀ st, LeastD (shM a p c v u) (shF1 p c u) st → st 0 &&& kndP [true] = u) :
    Calls Tryz.prog 10 #[.agg #[.slice none 0 0, .slice none 0 0, .slice none 0 0, .slice (some ⟨ab, 0, none⟩) 4 ac, .slice (some ⟨fb, 0, none⟩) 2 2, .int .i64 0]] w (FfTo w (shR a c) (fun n => (shFn a p c v u n).is.length) 2) := by
  have hM : ∀ y, G w y → ModR y (shM a p c v u) none 0 none 0 none 0 (some ⟨ab, 0, none⟩) ac (some ⟨fb, 0, none⟩) 2 := fun y g => (O.g g).mod hac
  refine fault_any w none 0 none 0 none 0 (some ⟨ab, 0, none⟩) ac fb 0 2 4 0 0 0 2 0 (shFn a p c v u) (fun n => some ⟨pick2 k0 k1 n, 0, none⟩) (fun _ => 1) (fun n => some ⟨pick2 i0 i1 n, 0, none⟩) (pick2 5 1) (fun n => some ⟨pick2 m0 m1 n, 0, none⟩) (pick2 5 1) (shR a c)
    (shP w) (shQ w ab ac fb k0 i0 m0 k1 i1 m1 a p c v u) (by omega) (by omega) ?_ ?_ ?_ ?_ ?_ ?_ ?_ ?_ ?_ ?_ ?_ ?_
  · intro n hn
    match n with
    | 0 => show 5 ≤ 100000; omega
    | n + 1 => show 1 ≤ 100000; omega
  · exact fun y g => lists_any y (shM a p c v u) none 0 none 0 none 0 (some ⟨ab, 0, none⟩) ac _ 2 rfl rfl rfl (by show 4 ≤ 1024; omega) (by show 2 ≤ 128; omega)
  · exact fun y g => main_in y (shM a p c v u) none 0 none 0 none 0 (some ⟨ab, 0, none⟩) ac _ 2 0 (shF0 a v) _ 1 rfl (by show 0 < 2; omega) (O.g g).h0 rfl rfl rfl
  · intro n hn y g
    match n, hn with
    | 0, _ => exact cells_sub (O.g g).cf 0 7
    | 1, _ => exact cells_sub (O.g g).cf 7 7
    | n + 2, hn => omega
  · intro n hn y g
    match n, hn with
    | 0, _ => exact (funcGood_any y (shF0 a v) (some ⟨k0, 0, none⟩) 1 (some ⟨i0, 0, none⟩) 5 (some ⟨m0, 0, none⟩) 5).mono (by rintro e w' ⟨rfl, g'⟩; exact ⟨rfl, g'⟩)
    | 1, _ =>
      refine (funcGood_any y (shF1 p c u) (some ⟨k1, 0, none⟩) 1 (some ⟨i1, 0, none⟩) 1 (some ⟨m1, 0, none⟩) 1).mono ?_
      rintro e w' ⟨rfl, g'⟩
      refine ⟨?_, g'⟩
      rcases hp with ⟨rfl, rfl⟩ | ⟨rfl, rfl⟩ <;> rfl
    | n + 2, hn => omega
  · exact fun y g => ⟨g.more _, g.size, by rw [World.size_alloc]; omega, tk_new y⟩
  · exact fun tb n y h => h.1
  · intro tb n jb pc y h
    match n, h with
    | 0, h => obtain ⟨mb, mp, J, _⟩ := h; exact J.g
    | n + 1, h => obtain ⟨mb, mp, J, _⟩ := h; exact J.g
  · exact fun tb n y z h g => ⟨h.1.trans g, h.2.1, Nat.lt_of_lt_of_le h.2.2.1 g.size, h.2.2.2.g g⟩
  · intro tb n y hn h
    match n, hn, h with
    | 0, _, h =>
      refine (judge_any y (shM a p c v u) none 0 none 0 none 0 (some ⟨ab, 0, none⟩) ac (some ⟨fb, 0, none⟩) 2 (shF0 a v) (some ⟨k0, 0, none⟩) 1 (some ⟨i0, 0, none⟩) 5 (some ⟨m0, 0, none⟩) 5 (some ⟨tb, 0, none⟩) 4 4 (hM y h.1) (O.g h.1).rk0 (O.g h.1).ri0 (oIn_sh a ha) (fun s hs => ?_) (by show 5 * (4 * 4) + 5 ≤ 100000; omega) (by show 4 ≤ 100000; omega) (by show 1 ≤ 1000000; omega)).mono ?_
      · have : s = sc4 := by simpa [shM] using hs
        subst this; unfold oCa oI sc4; dsimp only; omega
      · rintro e w' ⟨jb, mb, st, rfl, j1, j2, j3, j4, j5, j6, j7⟩
        exact ⟨jb, rfl, ⟨mb, _, ⟨h.1.trans j7, j1, Nat.le_trans h.1.size j2, by have := h.2.2.1; omega, j4.lt, Nat.le_trans h.1.size j5, by have := h.2.2.1; omega, h.2.1, Nat.lt_of_lt_of_le h.2.2.1 j7.size, j3, j4⟩, h.2.2.2.g j7, hv st j6⟩, j7⟩
    | 1, _, h =>
      refine (judge_any y (shM a p c v u) none 0 none 0 none 0 (some ⟨ab, 0, none⟩) ac (some ⟨fb, 0, none⟩) 2 (shF1 p c u) (some ⟨k1, 0, none⟩) 1 (some ⟨i1, 0, none⟩) 1 (some ⟨m1, 0, none⟩) 1 (some ⟨tb, 0, none⟩) 4 4 (hM y h.1) (O.g h.1).rk1 (O.g h.1).ri1 (fun i hi => ?_) (fun s hs => ?_) (by show 1 * (4 * 4) + 1 ≤ 100000; omega) (by show 4 ≤ 100000; omega) (by show 1 ≤ 1000000; omega)).mono ?_
      · have : i = ⟨22, -1, 0, 0, 0⟩ := by simpa [shF1] using hi
        subst this; unfold oIn oI; dsimp only; omega
      · have : s = sc4 := by simpa [shM] using hs
        subst this; unfold oCa oI sc4; dsimp only; omega
      · rintro e w' ⟨jb, mb, st, rfl, j1, j2, j3, j4, j5, j6, j7⟩
        exact ⟨jb, rfl, ⟨mb, _, ⟨h.1.trans j7, j1, Nat.le_trans h.1.size j2, by have := h.2.2.1; omega, j4.lt, Nat.le_trans h.1.size j5, by have := h.2.2.1; omega, h.2.1, Nat.lt_of_lt_of_le h.2.2.1 j7.size, j3, j4⟩, h.2.2.2.g j7, hu st j6⟩, j7⟩
    | n + 2, hn, _ => omega
  · intro tb n jb pc y hn hpc h
    match n, hn, hpc, h with
    | 0, _, hpc, h =>
      obtain ⟨mb, mp, J, T, hmp⟩ := h
      have fin : ∀ {r : Int} {T : Nat → Bool}, shR a c 0 pc = r → (r = 0 → T = shT (pc + 1)) → Calls Tryz.prog 17 #[.pointer (some ⟨jb, 0, none⟩), .int .i64 (pc : Int)] y (B0To w ab ac fb k0 i0 m0 a p c v u tb jb mb mp y r T) →
          Calls Tryz.prog 17 #[.pointer (some ⟨jb, 0, none⟩), .int .i64 (pc : Int)] y fun e w' => e = .returned (.int .i64 (shR a c 0 pc)) ∧ G w w' ∧ (shR a c 0 pc = 0 → shQ w ab ac fb k0 i0 m0 k1 i1 m1 a p c v u tb 0 jb (pc + 1) w') ∧ Gt tb y w' := fun hr hT H => H.mono (by
        rintro e w' ⟨rfl, h1, gt⟩
        refine ⟨by rw [hr], Gt.to_g J.g gt J.tw, fun hz => ?_, gt⟩
        rw [hr] at hz
        obtain ⟨h2, h3⟩ := h1 hz
        rw [hT hz] at h3
        exact ⟨_, _, h2, h3, hmp⟩)
      have hpc5 : pc < 5 := hpc
      have h5 : pc = 0 ∨ pc = 1 ∨ pc = 2 ∨ pc = 3 ∨ pc = 4 := by omega
      rcases h5 with rfl | rfl | rfl | rfl | rfl
      · exact fin (shR_o (by omega) (by omega)) (fun _ => rfl) (sh_free0 O J _ T hmp 0 (by omega) 43 0 0 (Or.inl ⟨rfl, rfl, rfl, rfl⟩))
      · exact fin (shR_o (by omega) (by omega)) (fun _ => rfl) (sh_sel O hac J _ T hmp 1 0 (by omega) (Or.inl ⟨rfl, rfl⟩) true (Or.inl ⟨rfl, fun j hj => rfl⟩))
      · by_cases ha2 : a < 2
        · exact fin (shR_2 ha2) (fun h => by cases h) (sh_sel O hac J _ T hmp 2 a ha (Or.inr ⟨rfl, rfl⟩) false (Or.inr ⟨rfl, 0, by omega, by
            have : a = 0 ∨ a = 1 := by omega
            rcases this with rfl | rfl <;> rfl⟩))
        · obtain rfl : a = 2 := by omega
          exact fin (shR_2' (by omega)) (fun _ => rfl) (sh_sel O hac J _ T hmp 2 2 ha (Or.inr ⟨rfl, rfl⟩) true (Or.inl ⟨rfl, fun j hj => by
            have : j = 0 ∨ j = 1 := by omega
            rcases this with rfl | rfl <;> rfl⟩))
      · exact fin shR_3 (fun _ => rfl) (sh_call O J _ T hmp hp)
      · exact fin (shR_o (by omega) (by omega)) (fun _ => rfl) (sh_free0 O J _ T hmp 4 (by omega) 22 (-1) 4 (Or.inr ⟨rfl, rfl, rfl, rfl⟩))
    | 1, _, hpc, h =>
      obtain ⟨mb, mp, J, T, hmp⟩ := h
      obtain rfl : pc = 0 := by have : pc < 1 := hpc; omega
      refine (sh_ret1 O J _ T hmp).mono ?_
      rintro e w' ⟨rfl, ⟨h2, h3⟩, gt⟩
      exact ⟨by rw [shR_n (by omega)], Gt.to_g J.g gt J.tw, fun _ => ⟨mb, mp, h2, h3, hmp⟩, gt⟩
    | n + 2, hn, _, _ => omega
  · intro tb n jb y h
    match n, h with
    | 0, h =>
      obtain ⟨mb, mp, J, T, hmp⟩ := h
      exact ⟨J.g, J.tw, J.tl, T⟩
    | n + 1, h =>
      obtain ⟨mb, mp, J, T, hmp⟩ := h
      exact ⟨J.g, J.tw, J.tl, T⟩
theorem sh_check (O : ShAt w ab fb k0 i0 m0 k1 i1 m1 a p c v u) (hac : 4 ≤ ac) (ha : a ≤ 2) (hp : (p = 1 ∧ c = 0) ∨ (p = 0 ∧ c = 1))
    (hv : ∀ st, LeastD (shM a p c v u) (shF0 a v) st → ∀ k, k < 5 → st k &&& kndP [true] = v k) (hu : ∀ st, LeastD (shM a p c v u) (shF1 p c u) st → st 0 &&& kndP [true] = u) :
    Calls Tryz.prog 6 #[.agg #[.slice none 0 0, .slice none 0 0, .slice none 0 0, .slice (some ⟨ab, 0, none⟩) 4 ac, .slice (some ⟨fb, 0, none⟩) 2 2, .int .i64 0]] w (ckTo w 0 (if a < 2 then 2 else if c = 0 then 0 else 3) (if a < 2 then 5 else if c = 0 then 0 else 5)) := by
  refine check_of w none 0 none 0 none 0 (some ⟨ab, 0, none⟩) ac (some ⟨fb, 0, none⟩) 2 4 0 0 0 2 0 _ _ _ (fun y g => ?_)
  refine (sh_fault (O.g g) hac ha hp hv hu).mono ?_
  rintro e w' ⟨h, g'⟩
  refine ⟨?_, g'⟩
  rcases h with ⟨n, pc, hn, hpc, hb, hne, rfl⟩ | ⟨hb, rfl⟩
  · obtain rfl : n = 0 := by
      rcases Nat.eq_zero_or_pos n with h | h
      · exact h
      · exact absurd (shR_n (by omega)) hne
    have h23 : pc = 2 ∨ pc = 3 := by
      by_cases h2 : pc = 2
      · exact Or.inl h2
      · by_cases h3 : pc = 3
        · exact Or.inr h3
        · exact absurd (shR_o h2 h3) hne
    by_cases ha2 : a < 2
    · rcases h23 with rfl | rfl
      · rw [shR_2 ha2, if_pos ha2, if_pos ha2]; rfl
      · have := hb.2 2 (by omega)
        rw [shR_2 ha2] at this
        cases this
    · rcases h23 with rfl | rfl
      · exact absurd (shR_2' (by omega)) hne
      · rw [shR_3] at hne ⊢
        rw [if_neg ha2, if_neg ha2]
        by_cases hc : c = 0
        · rw [if_pos hc] at hne; exact absurd rfl hne
        · rw [if_neg hc, if_neg hc]; rfl
  · have h2 : shR a c 0 2 = 0 := hb.1 0 2 (by omega) (by show 2 < 5; omega)
    have h3 : shR a c 0 3 = 0 := hb.1 0 3 (by omega) (by show 3 < 5; omega)
    have ha2 : ¬ a < 2 := fun h => by rw [shR_2 h] at h2; cases h2
    have hc : c = 0 := by
      rw [shR_3] at h3
      by_cases hc : c = 0
      · exact hc
      · rw [if_neg hc] at h3; cases h3
    rw [if_neg ha2, if_neg ha2, if_pos hc, if_pos hc]
end
end Go.Proofs.YtnliooflpclcbaaGreatDoor

/- Package gantlinelaw12: the rows that VerifyShares makes. -/
namespace Go.Proofs.YtnliooflpclcbaaGreatDoor
set_option maxRecDepth 100000
open Go.RowKit Go.Maps Go.ChangeShapes Go.WideShapes Go.ChangeAt Go.Deep

abbrev caV : List Value := [.int .i64 0, .int .i64 0, .int .i64 (-1), .int .i64 4]
def caN : Nat → List Value
  | 0 => []
  | n + 1 => caN n ++ caV
abbrev OwnC (w : World) (B : Nat) (v : Value) (n : Nat) : Prop := w.ownsRow B 43 4 v n (caN n)
theorem OwnC.lt {w : World} {B : Nat} {v : Value} {n : Nat} (h : OwnC w B v n) (k : Nat) (hk : v.ownBlock = some k) : B ≤ k ∧ k < w.heap.size := by
  rcases h.2 with ⟨e1, _⟩ | ⟨g, cap, cur, e1, e2, e3, _⟩
  · rw [e1] at hk; cases hk
  · rw [e1] at hk
    have : g = k := by simpa [Value.ownBlock] using hk
    subst this
    refine ⟨e2, ?_⟩
    rcases Nat.lt_or_ge g w.heap.size with hh | hh
    · exact hh
    · rw [Array.getElem?_eq_none hh] at e3; cases e3
theorem OwnC.keep {y z : World} {B : Nat} {v : Value} {n : Nat} (h : OwnC y B v n) (g : ∀ k, v.ownBlock = some k → z.heap[k]? = y.heap[k]?) : OwnC z B v n := by
  rcases h.2 with h0 | ⟨q, cap, cur, e1, e2, e3, e4⟩
  · exact ⟨h.1, Or.inl h0⟩
  · refine ⟨h.1, Or.inr ⟨q, cap, cur, e1, e2, ?_, e4⟩⟩
    rw [g q (by rw [e1]; rfl)]; exact e3
/-- All but one block of the old ones stand. -/
structure Bt (y z : World) (v : Value) : Prop where
  os : z.os = y.os
  tape : z.tape = y.tape
  output : z.output = y.output
  size : y.heap.size ≤ z.heap.size
  block : ∀ k, k < y.heap.size → v.ownBlock ≠ some k → z.heap[k]? = y.heap[k]?
/-- A case is appended. -/
theorem own_app_ca {w : World} {B : Nat} {v : Value} {n : Nat} (h : OwnC w B v n) (hB : B ≤ w.heap.size) (hn : n ≤ 100) :
    ∃ v' w', (Builtin.append_ #[30, 30] 30 #[v, .slice (some ⟨w.heap.size, 0, none⟩) 1 1]).run Tryz.prog (w.alloc (.cells #[.int .i64 0, .int .i64 0, .int .i64 (-1), .int .i64 4] 43)) = .ok v' w' ∧ OwnC w' B v' (n + 1) ∧ Bt w w' v := by
  obtain ⟨i, hi, hz, hs, hb⟩ := info_parts info_case
  have ga := G.alloc w (.cells #[.int .i64 0, .int .i64 0, .int .i64 (-1), .int .i64 4] 43)
  have h2 : OwnC (w.alloc (.cells #[.int .i64 0, .int .i64 0, .int .i64 (-1), .int .i64 4] 43)) B v n := h.keep (fun k hk => ga.block k (h.lt k hk).2)
  obtain ⟨v', w', hrun, r1, r2, _, r4⟩ := run_append_own_at (P := Tryz.prog) (w.alloc (.cells #[.int .i64 0, .int .i64 0, .int .i64 (-1), .int .i64 4] 43)) B 30 30 43 i _ 4 32 Tryz.underlying30 hi hz hs hb rfl (by decide) v n _ h2 ⟨w.heap.size, 0, none⟩ 1 1 caV (by rfl) (fun j u hj => by
      rw [Addr.add_lit, cell_of_row _ _ _ _ _ _ (heap_alloc_new w _), Nat.zero_add]
      simpa using hj) (fun u hu => by
      simp only [List.mem_cons, List.not_mem_nil, or_false] at hu
      rcases hu with rfl | rfl | rfl | rfl <;> rfl) (by unfold maxLen; omega) (by omega) (Nat.le_trans hB ga.size)
  exact ⟨v', w', hrun, r1, ⟨r2.os.trans ga.os, r2.tape.trans ga.tape, r2.output.trans ga.output, Nat.le_trans ga.size r2.size, fun k hk hne => (r2.block k (Nat.lt_of_lt_of_le hk ga.size) (fun e => hne e.symm)).trans (ga.block k hk)⟩⟩
theorem Bt.g {w y z : World} {v : Value} (g : G w y) (bt : Bt y z v) (ho : ∀ k, v.ownBlock = some k → w.heap.size ≤ k) : G w z :=
  ⟨bt.os.trans g.os, bt.tape.trans g.tape, bt.output.trans g.output, Nat.le_trans g.size bt.size, fun b hb => (bt.block b (Nat.lt_of_lt_of_le hb g.size) (fun e => by have := ho b e; omega)).trans (g.block b hb)⟩
theorem wpl_apx {ops : Array Oper} {rest : List Oper} {o : Oper} {a : Act} {w : World} {Q : Exit → Act → World → Prop} (hgd : o.guard = none) (s x : Operand) (t : TypeId) (ho : o.op = .call { callee := .builtin .append, args := #[s, x], argTypes := #[t, t] })
    (vs vx : Value) (hs : a.eval s = vs) (hx : a.eval x = vx) (v' : Value) (w' : World) (hrun : (Builtin.append_ #[t, t] o.type #[vs, vx]).run Tryz.prog w = .ok v' w') (h : wpList Tryz.prog ops Q rest (a.put o.dst v') w') : wpList Tryz.prog ops Q (o :: rest) a w := by
  refine wpList_plain hgd fun K hK => ?_
  unfold Oper.wp execOp
  simp only [ho, resolve, invoke, builtin, Sem.run_bind, Sem.run_pure, Result.andThen_ok, List.map_toArray, List.map_cons, List.map_nil, hs, hx, hrun]
  exact hK _ _ h
/-- Four of them. -/
theorem OwnC.four {w : World} {B : Nat} {v : Value} (h : OwnC w B v 4) : ∃ g cap, v = .slice (some ⟨g, 0, none⟩) 4 cap ∧ B ≤ g ∧ g < w.heap.size ∧ 4 ≤ cap ∧ CellsAt w g 0 caL := by
  rcases h.2 with ⟨_, e2⟩ | ⟨g, cap, cur, rfl, h2, h3, h4, h5, h6, h7⟩
  · cases e2
  · have hlt := (h.lt g rfl).2
    refine ⟨g, cap, rfl, h2, hlt, h4, fun j u hj => ?_⟩
    have h8 : (caN 4)[j]? = some u := hj
    rw [← h7, List.getElem?_take] at h8
    split at h8
    · rw [cell_of_row _ _ _ _ _ _ h3, Nat.zero_add]
      simpa using h8
    · cases h8
/-- The law's module in its box. -/
abbrev sbL (x y : Value) : List Value := [.slice none 0 0, .slice none 0 0, .slice none 0 0, x, y, .int .i64 0]
def SB (y : World) (mb : Nat) (cv fv : Value) : Prop := Rb y mb 6 ∧ CellsAt y mb 0 (sbL cv fv)
theorem SB.keep {y z : World} {mb : Nat} {cv fv : Value} (h : SB y mb cv fv) (hs : y.heap.size ≤ z.heap.size) (e : z.heap[mb]? = y.heap[mb]?) : SB z mb cv fv :=
  ⟨⟨Nat.lt_of_lt_of_le h.1.1 hs, fun i hi => by rw [World.cell?_of_block (a := ⟨mb, i, none⟩) e]; exact h.1.2.1 i hi, fun i => (World.frozen?_of_block (a := ⟨mb, i, none⟩) e).trans (h.1.2.2 i)⟩, h.2.kept e⟩
theorem SB.g {y z : World} {mb : Nat} {cv fv : Value} (h : SB y mb cv fv) (g : G y z) : SB z mb cv fv := h.keep g.size (g.block mb h.1.1)
theorem SB.new (y : World) (T : TypeId) : SB (y.alloc (.cells #[.slice none 0 0, .slice none 0 0, .slice none 0 0, .slice none 0 0, .slice none 0 0, .int .i64 0] T)) y.heap.size (.slice none 0 0) (.slice none 0 0) := by
  have hh := heap_alloc_new y (.cells #[.slice none 0 0, .slice none 0 0, .slice none 0 0, .slice none 0 0, .slice none 0 0, .int .i64 0] T)
  refine ⟨⟨by rw [World.size_alloc]; omega, fun i hi => by rw [World.cell?_alloc_new]; simp [hi], fun i => by unfold World.frozen?; rw [hh]; simp⟩, fun j v hv => ?_⟩
  rw [Nat.zero_add, World.cell?_alloc_new]
  simpa using hv
theorem SB.put3 {y : World} {mb : Nat} {cv fv : Value} (h : SB y mb cv fv) (v : Value) : SB (y.setCell ⟨mb, 3, none⟩ v) mb v fv := ⟨h.1.set 3 (by omega) _, cells_set h.2 (by simp) _⟩
theorem SB.put4 {y : World} {mb : Nat} {cv fv : Value} (h : SB y mb cv fv) (v : Value) : SB (y.setCell ⟨mb, 4, none⟩ v) mb cv v := ⟨h.1.set 4 (by omega) _, cells_set h.2 (by simp) _⟩
theorem SB.facts {y : World} {mb : Nat} {cv fv : Value} (h : SB y mb cv fv) : y.cell? ⟨mb, 0, none⟩ = some (.slice none 0 0) ∧ y.cell? ⟨mb, 1, none⟩ = some (.slice none 0 0) ∧ y.cell? ⟨mb, 2, none⟩ = some (.slice none 0 0) ∧ y.cell? ⟨mb, 3, none⟩ = some cv ∧ y.cell? ⟨mb, 4, none⟩ = some fv ∧ y.cell? ⟨mb, 5, none⟩ = some (.int .i64 0) ∧ y.frozen? ⟨mb, 3, none⟩ = false ∧ y.frozen? ⟨mb, 4, none⟩ = false :=
  ⟨h.2 0 _ rfl, h.2 1 _ rfl, h.2 2 _ rfl, h.2 3 _ rfl, h.2 4 _ rfl, h.2 5 _ rfl, h.1.2.2 3, h.1.2.2 4⟩
/-- The module as it is ahead of its maps. -/
abbrev fxL (k0 i0 k1 i1 p c : Nat) (x0 x1 : Value) : List Value := [.int .i64 0, .int .i64 0, .int .i64 1, .int .i64 0, .slice (some ⟨k0, 0, none⟩) 1 1, .slice (some ⟨i0, 0, none⟩) 5 5, x0, .int .i64 (p : Int), .int .i64 (c : Int), .int .i64 1, .int .i64 0, .slice (some ⟨k1, 0, none⟩) 1 1, .slice (some ⟨i1, 0, none⟩) 1 1, x1]
structure SpAt (y : World) (mb ab ac fb k0 i0 k1 i1 a p c : Nat) (x0 x1 : Value) : Prop where
  sb : SB y mb (.slice (some ⟨ab, 0, none⟩) 4 ac) (.slice (some ⟨fb, 0, none⟩) 2 2)
  rf : Rb y fb 14
  la : ab < y.heap.size
  lk0 : k0 < y.heap.size
  li0 : i0 < y.heap.size
  lk1 : k1 < y.heap.size
  li1 : i1 < y.heap.size
  nm : mb ≠ fb
  na : ab ≠ fb ∧ ab ≠ mb
  nk0 : k0 ≠ fb ∧ k0 ≠ mb
  ni0 : i0 ≠ fb ∧ i0 ≠ mb
  nk1 : k1 ≠ fb ∧ k1 ≠ mb
  ni1 : i1 ≠ fb ∧ i1 ≠ mb
  hac : 4 ≤ ac
  ca : CellsAt y ab 0 caL
  cf : CellsAt y fb 0 (fxL k0 i0 k1 i1 p c x0 x1)
  ck0 : CellsAt y k0 0 [.bool true]
  ci0 : CellsAt y i0 0 (inL a)
  ck1 : CellsAt y k1 0 [.bool true]
  ci1 : CellsAt y i1 0 [.int .i64 22, .int .i64 (-1), .int .i64 0, .int .i64 0, .int .i64 0]
section
variable {y z : World} {mb ab ac fb k0 i0 m0 k1 i1 m1 a p c : Nat} {x0 x1 : Value}
theorem SpAt.g (h : SpAt y mb ab ac fb k0 i0 k1 i1 a p c x0 x1) (g : G y z) : SpAt z mb ab ac fb k0 i0 k1 i1 a p c x0 x1 :=
  ⟨h.sb.g g, h.rf.g g, Nat.lt_of_lt_of_le h.la g.size, Nat.lt_of_lt_of_le h.lk0 g.size, Nat.lt_of_lt_of_le h.li0 g.size, Nat.lt_of_lt_of_le h.lk1 g.size, Nat.lt_of_lt_of_le h.li1 g.size, h.nm, h.na, h.nk0, h.ni0, h.nk1, h.ni1, h.hac, h.ca.kept (g.block _ h.la), h.cf.kept (g.block _ h.rf.1), h.ck0.kept (g.block _ h.lk0), h.ci0.kept (g.block _ h.li0), h.ck1.kept (g.block _ h.lk1), h.ci1.kept (g.block _ h.li1)⟩
/-- A cell of the functions is written. -/
theorem SpAt.put (h : SpAt y mb ab ac fb k0 i0 k1 i1 a p c x0 x1) (j : Nat) (v : Value) {p' c' : Nat} {x0' x1' : Value} (hj : j < 14) (e : (fxL k0 i0 k1 i1 p c x0 x1).set j v = fxL k0 i0 k1 i1 p' c' x0' x1') : SpAt (y.setCell ⟨fb, j, none⟩ v) mb ab ac fb k0 i0 k1 i1 a p' c' x0' x1' := by
  have s : (y.setCell ⟨fb, j, none⟩ v).heap.size = y.heap.size := World.size_setCell ..
  refine ⟨h.sb.keep (by rw [s]; exact Nat.le_refl _) (heap_set _ _ h.nm), h.rf.set j hj v, by rw [s]; exact h.la, by rw [s]; exact h.lk0, by rw [s]; exact h.li0, by rw [s]; exact h.lk1, by rw [s]; exact h.li1, h.nm, h.na, h.nk0, h.ni0, h.nk1, h.ni1, h.hac, h.ca.kept (heap_set _ _ h.na.1), ?_, h.ck0.kept (heap_set _ _ h.nk0.1), h.ci0.kept (heap_set _ _ h.ni0.1), h.ck1.kept (heap_set _ _ h.nk1.1), h.ci1.kept (heap_set _ _ h.ni1.1)⟩
  have := cells_set h.cf (j := j) (by simpa using hj) v
  rwa [e] at this
theorem SpAt.sh (h : SpAt y mb ab ac fb k0 i0 k1 i1 a p c (.slice (some ⟨m0, 0, none⟩) 5 5) (.slice (some ⟨m1, 0, none⟩) 1 1)) {v u : Nat → Nat} (h0 : UAt y m0 5 v) (h1 : UAt y m1 1 u) : ShAt y ab fb k0 i0 m0 k1 i1 m1 a p c v (u 0) := by
  refine ⟨h.la, h.rf.1, h.lk0, h.li0, h0.lt, h.lk1, h.li1, h1.lt, h.ca, h.cf, h.ck0, h.ci0, fun j q hq => ?_, h.ck1, h.ci1, fun j q hq => ?_⟩
  · rw [Nat.zero_add]
    match j, hq with
    | 0, hq => cases hq; exact (h0.c 0 (by omega)).1
    | 1, hq => cases hq; exact (h0.c 1 (by omega)).1
    | 2, hq => cases hq; exact (h0.c 2 (by omega)).1
    | 3, hq => cases hq; exact (h0.c 3 (by omega)).1
    | 4, hq => cases hq; exact (h0.c 4 (by omega)).1
    | j + 5, hq => cases hq
  · rw [Nat.zero_add]
    match j, hq with
    | 0, hq => cases hq; exact (h1.c 0 (by omega)).1
    | j + 1, hq => cases hq
end
/-- Five blocks more. -/
theorem al5 (w : World) (a b c d f : Array Value) (s t u v x : TypeId) (W : World) (hW : W = ((((w.alloc (.cells a s)).alloc (.cells b t)).alloc (.cells c u)).alloc (.cells d v)).alloc (.cells f x)) : (∀ i, W.cell? ⟨w.heap.size, i, none⟩ = a[i]?) ∧ (∀ i, W.cell? ⟨w.heap.size + 1, i, none⟩ = b[i]?) ∧ (∀ i, W.cell? ⟨w.heap.size + 2, i, none⟩ = c[i]?) ∧ (∀ i, W.cell? ⟨w.heap.size + 3, i, none⟩ = d[i]?) ∧ (∀ i, W.cell? ⟨w.heap.size + 4, i, none⟩ = f[i]?) ∧ (∀ i, W.frozen? ⟨w.heap.size + 4, i, none⟩ = false) ∧ W.heap.size = w.heap.size + 5 ∧ G w W := by
  obtain ⟨Y, hY⟩ : ∃ Y, Y = (((w.alloc (.cells a s)).alloc (.cells b t)).alloc (.cells c u)).alloc (.cells d v) := ⟨_, rfl⟩
  obtain ⟨h1, h2, h3, h4, _, h6⟩ := al4 w a b c d s t u v Y hY
  rw [← hY] at hW
  have gY : G w Y := by rw [hY]; exact (((G.alloc _ _).more _).more _).more _
  subst hW
  have hh := heap_alloc_new Y (.cells f x)
  rw [h6] at hh
  refine ⟨fun i => ?_, fun i => ?_, fun i => ?_, fun i => ?_, fun i => ?_, fun i => ?_, by rw [World.size_alloc, h6], gY.more _⟩
  · rw [World.cell?_alloc_past _ _ _ (by omega), h1]
  · rw [World.cell?_alloc_past _ _ _ (by omega), h2]
  · rw [World.cell?_alloc_past _ _ _ (by omega), h3]
  · rw [World.cell?_alloc_past _ _ _ (by omega), h4]
  · rw [cell_of_row _ _ _ _ _ _ hh]
  · unfold World.frozen?; rw [hh]; simp
theorem cells_arr {w : World} {b : Nat} {a : Array Value} {l : List Value} (h : ∀ i, w.cell? ⟨b, i, none⟩ = a[i]?) (e : a.toList = l) : CellsAt w b 0 l := fun j u hj => by
  rw [Nat.zero_add, h j]
  subst e
  simpa using hj
/-- The functions are laid. -/
theorem sp_new {wr W : World} {mb g cap a : Nat} (hs : SB wr mb (.slice (some ⟨g, 0, none⟩) 4 cap) (.slice none 0 0)) (hg : g < wr.heap.size) (hgm : g ≠ mb) (hc : 4 ≤ cap) (ca : CellsAt wr g 0 caL)
    (hW : W = ((((wr.alloc (.cells #[.bool true] 4)).alloc (.cells #[.int .i64 43, .int .i64 0, .int .i64 0, .int .i64 0, .int .i64 0, .int .i64 41, .int .i64 0, .int .i64 2, .int .i64 0, .int .i64 0, .int .i64 41, .int .i64 (a : Int), .int .i64 2, .int .i64 0, .int .i64 0, .int .i64 20, .int .i64 (-1), .int .i64 1, .int .i64 0, .int .i64 0, .int .i64 22, .int .i64 (-1), .int .i64 0, .int .i64 0, .int .i64 0] 41)).alloc (.cells #[.bool true] 4)).alloc (.cells #[.int .i64 22, .int .i64 (-1), .int .i64 0, .int .i64 0, .int .i64 0] 41)).alloc (.cells #[.int .i64 0, .int .i64 0, .int .i64 1, .int .i64 0, .slice (some ⟨wr.heap.size, 0, none⟩) 1 1, .slice (some ⟨wr.heap.size + 1, 0, none⟩) 5 5, .slice none 0 0, .int .i64 0, .int .i64 0, .int .i64 1, .int .i64 0, .slice (some ⟨wr.heap.size + 2, 0, none⟩) 1 1, .slice (some ⟨wr.heap.size + 3, 0, none⟩) 1 1, .slice none 0 0] 39)) :
    SpAt (W.setCell ⟨mb, 4, none⟩ (.slice (some ⟨wr.heap.size + 4, 0, none⟩) 2 2)) mb g cap (wr.heap.size + 4) wr.heap.size (wr.heap.size + 1) (wr.heap.size + 2) (wr.heap.size + 3) a 0 0 (.slice none 0 0) (.slice none 0 0) ∧ G wr W ∧ W.cell? ⟨mb, 4, none⟩ = some (.slice none 0 0) ∧ W.frozen? ⟨mb, 4, none⟩ = false := by
  obtain ⟨h1, h2, h3, h4, h5, h6, hz, gg⟩ := al5 wr _ _ _ _ _ _ _ _ _ _ W hW
  have hm := hs.1.1
  have hs2 := hs.g gg
  have s : (W.setCell ⟨mb, 4, none⟩ (.slice (some ⟨wr.heap.size + 4, 0, none⟩) 2 2)).heap.size = wr.heap.size + 5 := by rw [World.size_setCell, hz]
  refine ⟨⟨hs2.put4 _, ⟨by rw [s]; omega, fun i hi => ?_, fun i => by rw [World.frozen?_setCell]; exact h6 i⟩, by rw [s]; omega, by rw [s]; omega, by rw [s]; omega, by rw [s]; omega, by rw [s]; omega, by omega, ⟨by omega, hgm⟩, ⟨by omega, by omega⟩, ⟨by omega, by omega⟩, ⟨by omega, by omega⟩, ⟨by omega, by omega⟩, hc, ((ca.kept (gg.block _ hg)).kept (heap_set _ _ hgm)), ?_, ?_, ?_, ?_, ?_⟩, gg, hs2.facts.2.2.2.2.1, hs2.facts.2.2.2.2.2.2.2⟩
  · rw [cell_other _ (Or.inl (by omega)), h5 i]
    simp [hi]
  · exact (cells_arr h5 rfl).kept (heap_set _ _ (by show wr.heap.size + 4 ≠ mb; omega))
  · exact (cells_arr h1 rfl).kept (heap_set _ _ (by show wr.heap.size ≠ mb; omega))
  · exact (cells_arr h2 rfl).kept (heap_set _ _ (by show wr.heap.size + 1 ≠ mb; omega))
  · exact (cells_arr h3 rfl).kept (heap_set _ _ (by show wr.heap.size + 2 ≠ mb; omega))
  · exact (cells_arr h4 rfl).kept (heap_set _ _ (by show wr.heap.size + 3 ≠ mb; omega))
/-- What Maps answered, said of the module without maps. -/
def MvOf (a p c : Nat) (v : Nat → Nat) : Prop := ∃ st, LeastD (shM a p c (fun _ => 0) 0) (shF0 a (fun _ => 0)) st ∧ ∀ k, k < 5 → v k = st k &&& kndP [true]
def MuOf (a p c : Nat) (u : Nat) : Prop := ∃ st, LeastD (shM a p c (fun _ => 0) 0) (shF1 p c 0) st ∧ u = st 0 &&& kndP [true]
theorem sh_rd (a p c : Nat) (v v' : Nat → Nat) (u u' : Nat) (f : Fn) (hf : f.is = shI a ∨ f.is = [⟨22, -1, 0, 0, 0⟩]) : ∀ (k : Nat) (i : In), f.is[k]? = some i → i.op ≠ 41 → rdP (shM a p c v' u') i = rdP (shM a p c v u) i := fun k i hk h41 => by
  refine rd_call _ _ _ ?_
  have hm := List.mem_of_getElem? hk
  rcases hf with e | e
  · rw [e] at hm
    simp only [shI, List.mem_cons, List.not_mem_nil, or_false] at hm
    rcases hm with rfl | rfl | rfl | rfl | rfl
    · exact Or.inl rfl
    · exact absurd rfl h41
    · exact absurd rfl h41
    · exact Or.inr (Or.inr ⟨rfl, rfl⟩)
    · exact Or.inr (Or.inl rfl)
  · rw [e] at hm
    simp only [List.mem_cons, List.not_mem_nil, or_false] at hm
    subst hm
    exact Or.inr (Or.inl rfl)
theorem mv_of {a p c : Nat} {v v' : Nat → Nat} {u : Nat} {st : Nat → Nat} (h : LeastD (shM a p c v u) (shF0 a v) st) (e : ∀ k, k < 5 → v' k = st k &&& kndP [true]) : MvOf a p c v' :=
  ⟨st, least_cong h rfl (sh_rd a p c _ _ _ _ _ (Or.inl rfl)) rfl (flP_cong rfl rfl), e⟩
theorem mu_of {a p c : Nat} {v : Nat → Nat} {u u' : Nat} {st : Nat → Nat} (h : LeastD (shM a p c v u) (shF1 p c u) st) (e : u' = st 0 &&& kndP [true]) : MuOf a p c u' :=
  ⟨st, least_cong h rfl (sh_rd a p c _ _ _ _ _ (Or.inr rfl)) rfl (flP_cong rfl rfl), e⟩
theorem MvOf.eq {a p c : Nat} {v : Nat → Nat} {u : Nat} (h : MvOf a p c v) : ∀ st, LeastD (shM a p c v u) (shF0 a v) st → ∀ k, k < 5 → st k &&& kndP [true] = v k := fun st hst k hk => by
  obtain ⟨s, h1, h2⟩ := h
  have h3 : LeastD (shM a p c v u) (shF0 a v) s := least_cong h1 rfl (sh_rd a p c _ _ _ _ _ (Or.inl rfl)) rfl (flP_cong rfl rfl)
  rw [h2 k hk, least_uniqV h3 hst k hk]
theorem MuOf.eq {a p c : Nat} {v : Nat → Nat} {u : Nat} (h : MuOf a p c u) : ∀ st, LeastD (shM a p c v u) (shF1 p c u) st → st 0 &&& kndP [true] = u := fun st hst => by
  obtain ⟨s, h1, h2⟩ := h
  have h3 : LeastD (shM a p c v u) (shF1 p c u) s := least_cong h1 rfl (sh_rd a p c _ _ _ _ _ (Or.inr rfl)) rfl (flP_cong rfl rfl)
  rw [h2, least_uniqV h3 hst 0 (by show 0 < 1; omega)]
end Go.Proofs.YtnliooflpclcbaaGreatDoor

/- Package gantlinelaw12: VerifyShares answers true. -/
namespace Go.Proofs.YtnliooflpclcbaaGreatDoor
set_option maxRecDepth 100000
open Go.RowKit Go.Maps Go.ChangeShapes Go.WideShapes Go.ChangeAt Go.Deep

theorem build_mz (w : World) : (Instr.build 33 #[(0, .slice none 0 0)]).run Tryz.prog w = .ok (.agg #[.slice none 0 0, .slice none 0 0, .slice none 0 0, .slice none 0 0, .slice none 0 0, .int .i64 0]) w := by kernel_rfl
theorem build_ca (w : World) : (Instr.build 43 #[(0, .int .i64 0), (1, .int .i64 0), (2, .int .i64 (-1)), (3, .int .i64 4)]).run Tryz.prog w = .ok (.agg #[.int .i64 0, .int .i64 0, .int .i64 (-1), .int .i64 4]) w := by kernel_rfl
theorem build_i43 (w : World) : (Instr.build 41 #[(0, .int .i64 43)]).run Tryz.prog w = .ok (.agg #[.int .i64 43, .int .i64 0, .int .i64 0, .int .i64 0, .int .i64 0]) w := by kernel_rfl
theorem build_i41 (a : Int) (w : World) : (Instr.build 41 #[(0, .int .i64 41), (1, .int .i64 a), (2, .int .i64 2)]).run Tryz.prog w = .ok (.agg #[.int .i64 41, .int .i64 a, .int .i64 2, .int .i64 0, .int .i64 0]) w := by kernel_rfl
theorem build_i20 (w : World) : (Instr.build 41 #[(0, .int .i64 20), (1, .int .i64 (-1)), (2, .int .i64 1), (3, .int .i64 0)]).run Tryz.prog w = .ok (.agg #[.int .i64 20, .int .i64 (-1), .int .i64 1, .int .i64 0, .int .i64 0]) w := by kernel_rfl
theorem build_i22 (w : World) : (Instr.build 41 #[(0, .int .i64 22), (1, .int .i64 (-1))]).run Tryz.prog w = .ok (.agg #[.int .i64 22, .int .i64 (-1), .int .i64 0, .int .i64 0, .int .i64 0]) w := by kernel_rfl
theorem build_fs (k i n : Nat) (w : World) : (Instr.build 39 #[(2, .int .i64 1), (4, .slice (some ⟨k, 0, none⟩) 1 1), (5, .slice (some ⟨i, 0, none⟩) n n)]).run Tryz.prog w = .ok (.agg #[.int .i64 0, .int .i64 0, .int .i64 1, .int .i64 0, .slice (some ⟨k, 0, none⟩) 1 1, .slice (some ⟨i, 0, none⟩) n n, .slice none 0 0]) w := by kernel_rfl
theorem build_h1 (w : World) : (Instr.build 24 #[(1, .int .i64 2), (2, .int .i64 5)]).run Tryz.prog w = .ok (.agg #[.int .i64 0, .int .i64 2, .int .i64 5]) w := by kernel_rfl
theorem build_h2 (w : World) : (Instr.build 24 #[(1, .int .i64 3), (2, .int .i64 5)]).run Tryz.prog w = .ok (.agg #[.int .i64 0, .int .i64 3, .int .i64 5]) w := by kernel_rfl
/-- What loop 1 keeps. -/
def L1 (w : World) (B mb : Nat) (n : Nat) (wr : World) : Prop := ∃ v, OwnC wr B v n ∧ SB wr mb v (.slice none 0 0) ∧ G w wr ∧ B ≤ wr.heap.size
/-- What loop 2 keeps. -/
def L2 (w : World) (mb gb cap k0 a p c n : Nat) (y : World) : Prop := G w y ∧ match n with
  | 0 => SpAt y mb gb cap (k0 + 4) k0 (k0 + 1) (k0 + 2) (k0 + 3) a p c (.slice none 0 0) (.slice none 0 0)
  | 1 => ∃ m0, SpAt y mb gb cap (k0 + 4) k0 (k0 + 1) (k0 + 2) (k0 + 3) a p c (.slice (some ⟨m0, 0, none⟩) 5 5) (.slice none 0 0) ∧ UAt y m0 5 (fun _ => 0) ∧ m0 ≠ k0 + 4
  | _ => ∃ m0 m1, SpAt y mb gb cap (k0 + 4) k0 (k0 + 1) (k0 + 2) (k0 + 3) a p c (.slice (some ⟨m0, 0, none⟩) 5 5) (.slice (some ⟨m1, 0, none⟩) 1 1) ∧ UAt y m0 5 (fun _ => 0) ∧ UAt y m1 1 (fun _ => 0) ∧ m0 ≠ k0 + 4 ∧ m1 ≠ k0 + 4
theorem UAt.out {y : World} {b n : Nat} {st : Nat → Nat} {t j : Nat} {v : Value} (h : UAt y b n st) (hn : b ≠ t) : UAt (y.setCell ⟨t, j, none⟩ v) b n st :=
  ⟨by rw [World.size_setCell]; exact h.lt, fun i hi => ⟨by rw [cell_other _ (Or.inl hn)]; exact (h.c i hi).1, by rw [World.frozen?_setCell]; exact (h.c i hi).2⟩⟩
theorem l2_step0 {w y : World} {mb gb cap k0 a p c : Nat} (h : L2 w mb gb cap k0 a p c 0 y) (hfb : w.heap.size ≤ k0 + 4) : L2 w mb gb cap k0 a p c 1 ((y.setCell ⟨k0 + 4, 6, none⟩ (.slice (some ⟨y.heap.size, 0, none⟩) 5 5)).alloc (.cells (madeCells #[.int .u64 0] 5) 35)).drew := by
  obtain ⟨hg, P⟩ := h
  have P : SpAt y mb gb cap (k0 + 4) k0 (k0 + 1) (k0 + 2) (k0 + 3) a p c (.slice none 0 0) (.slice none 0 0) := P
  have hne : y.heap.size ≠ k0 + 4 := by have := P.rf.1; omega
  have U := u_start (y.setCell ⟨k0 + 4, 6, none⟩ (.slice (some ⟨y.heap.size, 0, none⟩) 5 5)) 5
  rw [World.size_setCell] at U
  exact ⟨((hg.set _ _ _ hfb).more _).drew, y.heap.size, (P.put 6 _ (by omega) rfl).g ((G.alloc _ _).drew), U.g ((G.refl _).drew), hne⟩
theorem l2_step1 {w y : World} {mb gb cap k0 a p c : Nat} (h : L2 w mb gb cap k0 a p c 1 y) (hfb : w.heap.size ≤ k0 + 4) : L2 w mb gb cap k0 a p c 2 ((y.setCell ⟨k0 + 4, 13, none⟩ (.slice (some ⟨y.heap.size, 0, none⟩) 1 1)).alloc (.cells (madeCells #[.int .u64 0] 1) 35)).drew := by
  obtain ⟨hg, m0, P, U0, hm⟩ := h
  have P : SpAt y mb gb cap (k0 + 4) k0 (k0 + 1) (k0 + 2) (k0 + 3) a p c (.slice (some ⟨m0, 0, none⟩) 5 5) (.slice none 0 0) := P
  have hne : y.heap.size ≠ k0 + 4 := by have := P.rf.1; omega
  have U := u_start (y.setCell ⟨k0 + 4, 13, none⟩ (.slice (some ⟨y.heap.size, 0, none⟩) 1 1)) 1
  rw [World.size_setCell] at U
  exact ⟨((hg.set _ _ _ hfb).more _).drew, m0, y.heap.size, (P.put 13 _ (by omega) rfl).g ((G.alloc _ _).drew), (U0.out hm).g ((G.alloc _ _).drew), U.g ((G.refl _).drew), hm, hne⟩
/-- What loop 3 keeps. -/
def L3 (w : World) (mb gb cap k0 a p c n : Nat) (y : World) : Prop := G w y ∧ ∃ m0 m1 v u, SpAt y mb gb cap (k0 + 4) k0 (k0 + 1) (k0 + 2) (k0 + 3) a p c (.slice (some ⟨m0, 0, none⟩) 5 5) (.slice (some ⟨m1, 0, none⟩) 1 1) ∧ UAt y m0 5 v ∧ UAt y m1 1 u ∧ m0 ≠ k0 + 4 ∧ m1 ≠ k0 + 4 ∧ (1 ≤ n → MvOf a p c v) ∧ (2 ≤ n → MuOf a p c (u 0))
theorem l3_start {w y : World} {mb gb cap k0 a p c : Nat} (h : L2 w mb gb cap k0 a p c 2 y) : L3 w mb gb cap k0 a p c 0 y := by
  obtain ⟨hg, m0, m1, P, U0, U1, h0, h1⟩ := h
  exact ⟨hg, m0, m1, _, _, P, U0, U1, h0, h1, fun h => by omega, fun h => by omega⟩
theorem L3.gr {w y z : World} {mb gb cap k0 a p c n : Nat} (h : L3 w mb gb cap k0 a p c n y) (g : G y z) : L3 w mb gb cap k0 a p c n z := by
  obtain ⟨hg, m0, m1, v, u, P, U0, U1, r⟩ := h
  exact ⟨hg.trans g, m0, m1, v, u, P.g g, U0.g g, U1.g g, r⟩
theorem l3_step0 {w y x : World} {mb gb cap k0 a p c m0 m1 b : Nat} {v u : Nat → Nat} (hg : G w y) (P : SpAt y mb gb cap (k0 + 4) k0 (k0 + 1) (k0 + 2) (k0 + 3) a p c (.slice (some ⟨m0, 0, none⟩) 5 5) (.slice (some ⟨m1, 0, none⟩) 1 1)) (U1 : UAt y m1 1 u) (h1 : m1 ≠ k0 + 4) (g : G y x) (UB : UAt x b 5 v) (hb : y.heap.size ≤ b) (mv : MvOf a p c v) (hfb : w.heap.size ≤ k0 + 4) :
    L3 w mb gb cap k0 a p c 1 (x.setCell ⟨k0 + 4, 6, none⟩ (.slice (some ⟨b, 0, none⟩) 5 5)) := by
  have hne : b ≠ k0 + 4 := by have := P.rf.1; omega
  exact ⟨(hg.trans g).set _ _ _ hfb, b, m1, v, u, (P.g g).put 6 _ (by omega) rfl, UB.out hne, (U1.g g).out h1, hne, h1, fun _ => mv, fun h => by omega⟩
theorem l3_step1 {w y x : World} {mb gb cap k0 a p c m0 m1 b : Nat} {v u : Nat → Nat} (hg : G w y) (P : SpAt y mb gb cap (k0 + 4) k0 (k0 + 1) (k0 + 2) (k0 + 3) a p c (.slice (some ⟨m0, 0, none⟩) 5 5) (.slice (some ⟨m1, 0, none⟩) 1 1)) (U0 : UAt y m0 5 v) (h0 : m0 ≠ k0 + 4) (mv : MvOf a p c v) (g : G y x) (UB : UAt x b 1 u) (hb : y.heap.size ≤ b) (mu : MuOf a p c (u 0)) (hfb : w.heap.size ≤ k0 + 4) :
    L3 w mb gb cap k0 a p c 2 (x.setCell ⟨k0 + 4, 13, none⟩ (.slice (some ⟨b, 0, none⟩) 1 1)) := by
  have hne : b ≠ k0 + 4 := by have := P.rf.1; omega
  exact ⟨(hg.trans g).set _ _ _ hfb, m0, b, v, u, (P.g g).put 13 _ (by omega) rfl, (U0.g g).out h0, UB.out hne, h0, hne, fun _ => mv, fun _ => mu⟩
/-- What a call of Maps finds. -/
def IvA (y : World) (mb gb cap fb : Nat) : Prop := (y.cell? ⟨mb, 0, none⟩ = some (.slice none 0 0) ∧ y.cell? ⟨mb, 1, none⟩ = some (.slice none 0 0) ∧ y.cell? ⟨mb, 2, none⟩ = some (.slice none 0 0) ∧ y.cell? ⟨mb, 3, none⟩ = some (.slice (some ⟨gb, 0, none⟩) 4 cap) ∧ y.cell? ⟨mb, 4, none⟩ = some (.slice (some ⟨fb, 0, none⟩) 2 2) ∧ y.cell? ⟨mb, 5, none⟩ = some (.int .i64 0))
theorem oc_sh {a p c : Nat} {v : Nat → Nat} {u : Nat} : ∀ s ∈ (shM a p c v u).ca, oCa s := fun s hs => by
  have : s = sc4 := by simpa [shM] using hs
  subst this; unfold oCa oI sc4; dsimp only; omega
theorem oi_ret : ∀ i ∈ ([⟨22, -1, 0, 0, 0⟩] : List In), oIn i := fun i hi => by
  have : i = ⟨22, -1, 0, 0, 0⟩ := by simpa using hi
  subst this; unfold oIn oI; dsimp only; omega
set_option maxHeartbeats 8000000 in
theorem shares12 (w : World) (a : Int) (_oa : oI a) (caught : Bool) : Calls Tryz.prog 4 #[.int .i64 a, .bool caught] w fun e w' => e = .returned (.bool true) ∧ G w w' := by
  have CA : Hid (∀ y, Calls Tryz.prog 5 #[] y fun e w' => e = .returned (.bool true) ∧ G y w') := hide awake_any
  by_cases hr : a < 0 ∨ 2 < a
  · have hr2 : Hid (a < 0 ∨ 2 < a) := hide hr
    clear hr
    go_enter Tryz.func4, Tryz.ntmps4
    go_wp2_with fail
    refine (unhide CA _).mono ?_
    rintro e w1 ⟨rfl, g1⟩
    replace g1 := hide g1
    by_cases h0 : a < 0
    · go_wp2_with fail
      go_ret
      exact ⟨rfl, unhide g1⟩
    · have h2 : 2 < a := (unhide hr2).resolve_left h0
      go_wp2_with fail
      go_ret
      exact ⟨rfl, unhide g1⟩
  · obtain ⟨n, rfl⟩ : ∃ n : Nat, a = (n : Int) := ⟨a.toNat, by omega⟩
    have hn : n ≤ 2 := by omega
    have d0 : ¬ ((n : Int) < 0) := by omega
    have d2 : ¬ (2 < (n : Int)) := by omega
    replace hn := hide hn
    clear hr
    have bz := build_mz
    have bc := build_ca
    go_enter Tryz.func4, Tryz.ntmps4
    go_wp2_with fail
    refine (unhide CA _).mono ?_
    rintro e w1 ⟨rfl, g1⟩
    replace g1 := hide g1
    clear CA
    go_upto_region 6 with fail
    obtain ⟨W1, hW1⟩ : ∃ W, W = w1.alloc (.cells #[.slice none 0 0, .slice none 0 0, .slice none 0 0, .slice none 0 0, .slice none 0 0, .int .i64 0] 33) := ⟨_, rfl⟩
    have S := SB.new w1 33
    have gg : G w1 W1 := by rw [hW1]; exact G.alloc _ _
    rw [← hW1] at S ⊢
    have hs : W1.heap.size = w1.heap.size + 1 := by rw [hW1, World.size_alloc]
    have hwm : w.heap.size ≤ w1.heap.size := (unhide g1).size
    have st : Hid (L1 w (w1.heap.size + 1) w1.heap.size 0 W1) := hide ⟨_, World.ownsRow_nil _ _ _ _, S, (unhide g1).trans gg, by omega⟩
    clear hW1 S gg g1 hs
    generalize w1.heap.size = mb at *
    go_wp2_with fail
    go_loopw [6] (fun i wr => ∃ k : Nat, k ≤ 4 ∧ i = .int .i64 (k : Int) ∧ Hid (L1 w (mb + 1) mb k wr)) (fun i _ => 4 - (intOf i).toNat)
    case atStart => exact ⟨0, by omega, rfl, st⟩
    case round =>
      obtain ⟨k, hk, rfl, hh⟩ := hrel
      by_cases hlt : k < 4
      · obtain ⟨v, o, s, g, hB⟩ := unhide hh
        obtain ⟨v', w2, hrun, o2, bt⟩ := own_app_ca o hB (by omega)
        have hne : v.ownBlock ≠ some mb := fun e => by have := (o.lt mb e).1; omega
        have s2 := s.keep bt.size (bt.block mb s.1.1 hne)
        obtain ⟨ao, n', cap, rfl⟩ : ∃ ao n' cap, v = .slice ao n' cap := by
          rcases o.2 with ⟨hv, _⟩ | ⟨g, cap, cur, hv, _⟩
          · exact ⟨_, _, _, hv⟩
          · exact ⟨_, _, _, hv⟩
        obtain ⟨ao', n'', cap', rfl⟩ : ∃ ao n' cap, v' = .slice ao n' cap := by
          rcases o2.2 with ⟨hv, _⟩ | ⟨g, cap, cur, hv, _⟩
          · exact ⟨_, _, _, hv⟩
          · exact ⟨_, _, _, hv⟩
        have fin : Hid (L1 w (mb + 1) mb (k + 1) (w2.setCell ⟨mb, 3, none⟩ (.slice ao' n'' cap'))) := hide ⟨_, o2.keep (fun q hq => heap_set _ _ (by have := (o2.lt q hq).1; show q ≠ mb; omega)), s2.put3 _, (bt.g g (fun q hq => by have := (o.lt q hq).1; omega)).set mb 3 _ hwm, by rw [World.size_setCell]; exact Nat.le_trans hB bt.size⟩
        obtain ⟨-, -, -, c3, -, -, -, -⟩ := s.facts
        obtain ⟨-, -, -, e3, -, -, f3, -⟩ := s2.facts
        clear o s g hB o2 bt s2 hne hh
        go_wp2_with (at_builtin; refine wpl_apx rfl (.tmp 25) (.tmp 27) 30 rfl _ _ rfl rfl _ _ hrun ?_)
        go_roundw
        case rel => exact ⟨k + 1, by omega, by go_num, fin⟩
        case measure => simp [intOf]; omega
      · obtain rfl : k = 4 := by omega
        obtain ⟨v, o, s, g, hB⟩ := unhide hh
        obtain ⟨gb, cap, rfl, hgB, hgl, hcap, hca⟩ := o.four
        have b43 := build_i43
        have b41 := build_i41 0
        have b41n := build_i41 (n : Int)
        have b20 := build_i20
        have b22 := build_i22
        have bf5 := build_fs wr.heap.size (wr.heap.size + 1) 5
        have bf1 := build_fs (wr.heap.size + 2) (wr.heap.size + 3) 1
        obtain ⟨X, hX⟩ : ∃ X, X = ((((wr.alloc (.cells #[.bool true] 4)).alloc (.cells #[.int .i64 43, .int .i64 0, .int .i64 0, .int .i64 0, .int .i64 0, .int .i64 41, .int .i64 0, .int .i64 2, .int .i64 0, .int .i64 0, .int .i64 41, .int .i64 (n : Int), .int .i64 2, .int .i64 0, .int .i64 0, .int .i64 20, .int .i64 (-1), .int .i64 1, .int .i64 0, .int .i64 0, .int .i64 22, .int .i64 (-1), .int .i64 0, .int .i64 0, .int .i64 0] 41)).alloc (.cells #[.bool true] 4)).alloc (.cells #[.int .i64 22, .int .i64 (-1), .int .i64 0, .int .i64 0, .int .i64 0] 41)).alloc (.cells #[.int .i64 0, .int .i64 0, .int .i64 1, .int .i64 0, .slice (some ⟨wr.heap.size, 0, none⟩) 1 1, .slice (some ⟨wr.heap.size + 1, 0, none⟩) 5 5, .slice none 0 0, .int .i64 0, .int .i64 0, .int .i64 1, .int .i64 0, .slice (some ⟨wr.heap.size + 2, 0, none⟩) 1 1, .slice (some ⟨wr.heap.size + 3, 0, none⟩) 1 1, .slice none 0 0] 39) := ⟨_, rfl⟩
        obtain ⟨P, gX, c4, f4⟩ := sp_new (a := n) s hgl (by omega) hcap hca hX
        have hG : Hid (G w (X.setCell ⟨mb, 4, none⟩ (.slice (some ⟨wr.heap.size + 4, 0, none⟩) 2 2))) := hide ((g.trans gX).set mb 4 _ hwm)
        replace P := hide P
        have hfb : w.heap.size ≤ wr.heap.size + 4 := by have := g.size; omega
        rw [hX] at c4 f4
        clear o s g hB hgB hgl hcap hca gX hh hlt hk st bz bc
        go_upto_region 11 with fail
        rw [← hX]
        clear hX c4 f4 b43 b41 b41n b20 b22 bf5 bf1
        generalize wr.heap.size = k0 at *
        generalize X.setCell ⟨mb, 4, none⟩ (.slice (some ⟨k0 + 4, 0, none⟩) 2 2) = y0 at *
        go_upto_if 45 with fail
        go_cut [5] (fun p5 wx => p5 = .pointer (some ⟨mb, 0, none⟩) ∧ ∃ p c : Nat, Hid (c = (if caught then 1 else 0) ∧ ((p = 1 ∧ c = 0) ∨ (p = 0 ∧ c = 1)) ∧ G w wx ∧ SpAt wx mb gb cap (k0 + 4) k0 (k0 + 1) (k0 + 2) (k0 + 3) n p c (.slice none 0 0) (.slice none 0 0)))
        case first =>
          obtain ⟨-, -, -, -, c4, -, -, -⟩ := (unhide P).sb.facts
          have c7 : y0.cell? ⟨k0 + 4, 7, none⟩ = some (.int .i64 0) := (unhide P).cf 7 _ rfl
          have c8 : y0.cell? ⟨k0 + 4, 8, none⟩ = some (.int .i64 0) := (unhide P).cf 8 _ rfl
          have f7 := (unhide P).rf.2.2 7
          have f8 := (unhide P).rf.2.2 8
          have K1 : Hid (∃ p c : Nat, Hid (c = (if true then 1 else 0) ∧ ((p = 1 ∧ c = 0) ∨ (p = 0 ∧ c = 1)) ∧ G w (y0.setCell ⟨k0 + 4, 8, none⟩ (.int .i64 1)) ∧ SpAt (y0.setCell ⟨k0 + 4, 8, none⟩ (.int .i64 1)) mb gb cap (k0 + 4) k0 (k0 + 1) (k0 + 2) (k0 + 3) n p c (.slice none 0 0) (.slice none 0 0))) := hide ⟨0, 1, hide ⟨rfl, Or.inr ⟨rfl, rfl⟩, (unhide hG).set _ _ _ hfb, (unhide P).put 8 _ (by omega) rfl⟩⟩
          have K2 : Hid (∃ p c : Nat, Hid (c = (if false then 1 else 0) ∧ ((p = 1 ∧ c = 0) ∨ (p = 0 ∧ c = 1)) ∧ G w (y0.setCell ⟨k0 + 4, 7, none⟩ (.int .i64 1)) ∧ SpAt (y0.setCell ⟨k0 + 4, 7, none⟩ (.int .i64 1)) mb gb cap (k0 + 4) k0 (k0 + 1) (k0 + 2) (k0 + 3) n p c (.slice none 0 0) (.slice none 0 0))) := hide ⟨1, 0, hide ⟨rfl, Or.inl ⟨rfl, rfl⟩, (unhide hG).set _ _ _ hfb, (unhide P).put 7 _ (by omega) rfl⟩⟩
          clear hG P hfb
          cases caught
          · clear K1 c8 f8
            go_wp2_with fail
            go_meet
            exact ⟨rfl, unhide K2⟩
          · clear K2 c7 f7
            go_wp2_with fail
            go_meet
            exact ⟨rfl, unhide K1⟩
        case rest =>
          obtain ⟨rfl, p, c, hh⟩ := hcut
          clear hG P
          obtain ⟨hc, hp, hg, hP⟩ := unhide hh
          replace hc := hide hc
          replace hp := hide hp
          have st : Hid (L2 w mb gb cap k0 n p c 0 wc) := hide ⟨hg, hP⟩
          clear hg hP hh
          go_wp2_with fail
          go_loopw [7] (fun i wr => ∃ q : Nat, q ≤ 2 ∧ i = .int .i64 (q : Int) ∧ Hid (L2 w mb gb cap k0 n p c q wr)) (fun i _ => 2 - (intOf i).toNat)
          case atStart => exact ⟨0, by omega, rfl, st⟩
          case round =>
            obtain ⟨q, hq, rfl, hh⟩ := hrel
            have h3 : q = 0 ∨ q = 1 ∨ q = 2 := by omega
            rcases h3 with rfl | rfl | rfl
            · have hg := (unhide hh).1
              have P : SpAt wr mb gb cap (k0 + 4) k0 (k0 + 1) (k0 + 2) (k0 + 3) n p c (.slice none 0 0) (.slice none 0 0) := (unhide hh).2
              obtain ⟨-, -, -, -, c4, -, -, -⟩ := P.sb.facts
              have c5 : wr.cell? ⟨k0 + 4, 5, none⟩ = some (.slice (some ⟨k0 + 1, 0, none⟩) 5 5) := P.cf 5 _ rfl
              have c6 : wr.cell? ⟨k0 + 4, 6, none⟩ = some (.slice none 0 0) := P.cf 6 _ rfl
              have f6 := P.rf.2.2 6
              have hlt := P.rf.1
              have hmk : ∀ y, (Instr.makeSlice 37 (.int .i64 5) (.int .i64 5)).run Tryz.prog y = .ok (.slice (some ⟨y.heap.size, 0, none⟩) 5 5) (y.alloc (.cells (madeCells #[.int .u64 0] 5) 35)) := fun y => mk_u64s 5 (by omega) y
              have ga := G.alloc wr (.cells (madeCells #[.int .u64 0] 5) 35)
              have a4 := ga.cell c4
              have a5 := ga.cell c5
              have a6 := ga.cell c6
              have af : (wr.alloc (.cells (madeCells #[.int .u64 0] 5) 35)).frozen? ⟨k0 + 4, 6, none⟩ = false := (World.frozen?_of_block (a := ⟨k0 + 4, 6, none⟩) (ga.block _ hlt)).trans f6
              clear P hg ga
              go_wp2_with fail
              go_region
              have K := hide (l2_step0 (unhide hh) hfb)
              clear hh a4 a5 a6 af c4 c5 c6 f6 hmk
              go_wp2_with fail
              go_roundw
              case rel => exact ⟨1, by omega, by go_num, K⟩
              case measure => simp [intOf]
            · have P := (unhide hh).2
              obtain ⟨m0, P, -, -⟩ : ∃ m0, SpAt wr mb gb cap (k0 + 4) k0 (k0 + 1) (k0 + 2) (k0 + 3) n p c (.slice (some ⟨m0, 0, none⟩) 5 5) (.slice none 0 0) ∧ UAt wr m0 5 (fun _ => 0) ∧ m0 ≠ k0 + 4 := P
              obtain ⟨-, -, -, -, c4, -, -, -⟩ := P.sb.facts
              have c5 : wr.cell? ⟨k0 + 4, 12, none⟩ = some (.slice (some ⟨k0 + 3, 0, none⟩) 1 1) := P.cf 12 _ rfl
              have c6 : wr.cell? ⟨k0 + 4, 13, none⟩ = some (.slice none 0 0) := P.cf 13 _ rfl
              have f6 := P.rf.2.2 13
              have hlt := P.rf.1
              have hmk : ∀ y, (Instr.makeSlice 37 (.int .i64 1) (.int .i64 1)).run Tryz.prog y = .ok (.slice (some ⟨y.heap.size, 0, none⟩) 1 1) (y.alloc (.cells (madeCells #[.int .u64 0] 1) 35)) := fun y => mk_u64s 1 (by omega) y
              have ga := G.alloc wr (.cells (madeCells #[.int .u64 0] 1) 35)
              have a4 := ga.cell c4
              have a5 := ga.cell c5
              have a6 := ga.cell c6
              have af : (wr.alloc (.cells (madeCells #[.int .u64 0] 1) 35)).frozen? ⟨k0 + 4, 13, none⟩ = false := (World.frozen?_of_block (a := ⟨k0 + 4, 13, none⟩) (ga.block _ hlt)).trans f6
              clear P ga
              go_wp2_with fail
              go_region
              have K := hide (l2_step1 (unhide hh) hfb)
              clear hh a4 a5 a6 af c4 c5 c6 f6 hmk
              go_wp2_with fail
              go_roundw
              case rel => exact ⟨2, by omega, by go_num, K⟩
              case measure => simp [intOf]
            · have st3 := hide (l3_start (unhide hh))
              clear hh st hq
              go_wp2_with fail
              go_loopw [8] (fun i wr => ∃ q : Nat, q ≤ 2 ∧ i = .int .i64 (q : Int) ∧ Hid (L3 w mb gb cap k0 n p c q wr)) (fun i _ => 2 - (intOf i).toNat)
              case atStart => exact ⟨0, by omega, rfl, st3⟩
              case round =>
                obtain ⟨q, hq, rfl, hh⟩ := hrel
                have h3 : q = 0 ∨ q = 1 ∨ q = 2 := by omega
                rcases h3 with rfl | rfl | rfl
                · obtain ⟨hg, m0, m1, v, u, P, U0, U1, h0, h1, -, -⟩ := unhide hh
                  have O := P.sh U0 U1
                  obtain ⟨c0, c1, c2, c3, c4, c5, -, -⟩ := P.sb.facts
                  have hlt := P.rf.1
                  have a6 : wr.cell? ⟨k0 + 4, 6, none⟩ = some (.slice (some ⟨m0, 0, none⟩) 5 5) := P.cf 6 _ rfl
                  have CM : Hid (Calls Tryz.prog 8 #[.agg #[.slice none 0 0, .slice none 0 0, .slice none 0 0, .slice (some ⟨gb, 0, none⟩) 4 cap, .slice (some ⟨k0 + 4, 0, none⟩) 2 2, .int .i64 0], .agg #[.int .i64 0, .int .i64 0, .int .i64 1, .int .i64 0, .slice (some ⟨k0, 0, none⟩) 1 1, .slice (some ⟨k0 + 1, 0, none⟩) 5 5, .slice (some ⟨m0, 0, none⟩) 5 5]] wr.drew fun e w' => ∃ b, e = .returned (.slice (some ⟨b, 0, none⟩) 5 5) ∧ Hid (L3 w mb gb cap k0 n p c 1 (w'.setCell ⟨k0 + 4, 6, none⟩ (.slice (some ⟨b, 0, none⟩) 5 5))) ∧ w'.cell? ⟨mb, 4, none⟩ = some (.slice (some ⟨k0 + 4, 0, none⟩) 2 2) ∧ w'.cell? ⟨k0 + 4, 6, none⟩ = some (.slice (some ⟨m0, 0, none⟩) 5 5) ∧ w'.frozen? ⟨k0 + 4, 6, none⟩ = false) := hide (by
                    have g : G wr wr.drew := (G.refl _).drew
                    refine (maps_any wr.drew (shM n p c v (u 0)) none 0 none 0 none 0 (some ⟨gb, 0, none⟩) cap (some ⟨k0 + 4, 0, none⟩) 2 (shF0 n v) (some ⟨k0, 0, none⟩) 1 (some ⟨k0 + 1, 0, none⟩) 5 (some ⟨m0, 0, none⟩) 5 ((O.g g).mod P.hac) (O.g g).rk0 (O.g g).ri0 (oIn_sh n (unhide hn)) oc_sh (by show 5 * (4 * 4) + 5 ≤ 100000; omega) (by show 4 ≤ 100000; omega) (by show 1 ≤ 1000000; omega)).mono ?_
                    rintro e w' ⟨st, b, rfl, UB, hb, g2, hl⟩
                    exact ⟨b, rfl, hide (l3_step0 hg P U1 h1 (g.trans g2) UB (Nat.le_trans g.size hb) (mv_of hl (fun k _ => rfl)) hfb), (g.trans g2).cell c4, (g.trans g2).cell a6, (World.frozen?_of_block (a := ⟨k0 + 4, 6, none⟩) ((g.trans g2).block _ hlt)).trans (P.rf.2.2 6)⟩)
                  have b0 : wr.cell? ⟨k0 + 4, 0, none⟩ = some (.int .i64 0) := P.cf 0 _ rfl
                  have b1 : wr.cell? ⟨k0 + 4, 1, none⟩ = some (.int .i64 0) := P.cf 1 _ rfl
                  have b2 : wr.cell? ⟨k0 + 4, 2, none⟩ = some (.int .i64 1) := P.cf 2 _ rfl
                  have b3 : wr.cell? ⟨k0 + 4, 3, none⟩ = some (.int .i64 0) := P.cf 3 _ rfl
                  have b4 : wr.cell? ⟨k0 + 4, 4, none⟩ = some (.slice (some ⟨k0, 0, none⟩) 1 1) := P.cf 4 _ rfl
                  have b5 : wr.cell? ⟨k0 + 4, 5, none⟩ = some (.slice (some ⟨k0 + 1, 0, none⟩) 5 5) := P.cf 5 _ rfl
                  have fin : Hid (∀ y z : World, L3 w mb gb cap k0 n p c 1 y → G y z → L3 w mb gb cap k0 n p c 1 z) := hide fun y z h g => h.gr g
                  clear P U0 U1 O hg h0 h1 hh hlt 
                  go_wp2_with fail
                  go_region_with ((go_at_call 8; refine (unhide CM).mono ?_; rintro e x2 ⟨b, rfl, hK, e4, e6, ef⟩))
                  all_goals
                    go_wp2_with fail
                    go_roundw
                    case rel =>
                      repeat apply Exists.intro
                      exact ⟨⟨(1 : Nat), by omega, by go_num, by first | exact hK | exact hide (unhide fin _ _ (unhide hK) ((G.refl _).drew))⟩, rfl⟩
                    case measure => simp [intOf]
                · obtain ⟨hg, m0, m1, v, u, P, U0, U1, h0, h1, hmv, -⟩ := unhide hh
                  replace hmv := hmv (Nat.le_refl _)
                  have O := P.sh U0 U1
                  obtain ⟨c0, c1, c2, c3, c4, c5, -, -⟩ := P.sb.facts
                  have hlt := P.rf.1
                  have a6 : wr.cell? ⟨k0 + 4, 13, none⟩ = some (.slice (some ⟨m1, 0, none⟩) 1 1) := P.cf 13 _ rfl
                  have CM : Hid (Calls Tryz.prog 8 #[.agg #[.slice none 0 0, .slice none 0 0, .slice none 0 0, .slice (some ⟨gb, 0, none⟩) 4 cap, .slice (some ⟨k0 + 4, 0, none⟩) 2 2, .int .i64 0], .agg #[.int .i64 (p : Int), .int .i64 (c : Int), .int .i64 1, .int .i64 0, .slice (some ⟨k0 + 2, 0, none⟩) 1 1, .slice (some ⟨k0 + 3, 0, none⟩) 1 1, .slice (some ⟨m1, 0, none⟩) 1 1]] wr.drew fun e w' => ∃ b, e = .returned (.slice (some ⟨b, 0, none⟩) 1 1) ∧ Hid (L3 w mb gb cap k0 n p c 2 (w'.setCell ⟨k0 + 4, 13, none⟩ (.slice (some ⟨b, 0, none⟩) 1 1))) ∧ w'.cell? ⟨mb, 4, none⟩ = some (.slice (some ⟨k0 + 4, 0, none⟩) 2 2) ∧ w'.cell? ⟨k0 + 4, 13, none⟩ = some (.slice (some ⟨m1, 0, none⟩) 1 1) ∧ w'.frozen? ⟨k0 + 4, 13, none⟩ = false) := hide (by
                    have g : G wr wr.drew := (G.refl _).drew
                    refine (maps_any wr.drew (shM n p c v (u 0)) none 0 none 0 none 0 (some ⟨gb, 0, none⟩) cap (some ⟨k0 + 4, 0, none⟩) 2 (shF1 p c (u 0)) (some ⟨k0 + 2, 0, none⟩) 1 (some ⟨k0 + 3, 0, none⟩) 1 (some ⟨m1, 0, none⟩) 1 ((O.g g).mod P.hac) (O.g g).rk1 (O.g g).ri1 oi_ret oc_sh (by show 1 * (4 * 4) + 1 ≤ 100000; omega) (by show 4 ≤ 100000; omega) (by show 1 ≤ 1000000; omega)).mono ?_
                    rintro e w' ⟨st, b, rfl, UB, hb, g2, hl⟩
                    exact ⟨b, rfl, hide (l3_step1 hg P U0 h0 hmv (g.trans g2) UB (Nat.le_trans g.size hb) (mu_of hl rfl) hfb), (g.trans g2).cell c4, (g.trans g2).cell a6, (World.frozen?_of_block (a := ⟨k0 + 4, 13, none⟩) ((g.trans g2).block _ hlt)).trans (P.rf.2.2 13)⟩)
                  have b0 : wr.cell? ⟨k0 + 4, 7, none⟩ = some (.int .i64 (p : Int)) := P.cf 7 _ rfl
                  have b1 : wr.cell? ⟨k0 + 4, 8, none⟩ = some (.int .i64 (c : Int)) := P.cf 8 _ rfl
                  have b2 : wr.cell? ⟨k0 + 4, 9, none⟩ = some (.int .i64 1) := P.cf 9 _ rfl
                  have b3 : wr.cell? ⟨k0 + 4, 10, none⟩ = some (.int .i64 0) := P.cf 10 _ rfl
                  have b4 : wr.cell? ⟨k0 + 4, 11, none⟩ = some (.slice (some ⟨k0 + 2, 0, none⟩) 1 1) := P.cf 11 _ rfl
                  have b5 : wr.cell? ⟨k0 + 4, 12, none⟩ = some (.slice (some ⟨k0 + 3, 0, none⟩) 1 1) := P.cf 12 _ rfl
                  have fin : Hid (∀ y z : World, L3 w mb gb cap k0 n p c 2 y → G y z → L3 w mb gb cap k0 n p c 2 z) := hide fun y z h g => h.gr g
                  clear P U0 U1 O hg h0 h1 hh hlt hmv
                  go_wp2_with fail
                  go_region_with ((go_at_call 8; refine (unhide CM).mono ?_; rintro e x2 ⟨b, rfl, hK, e4, e6, ef⟩))
                  all_goals
                    go_wp2_with fail
                    go_roundw
                    case rel =>
                      repeat apply Exists.intro
                      exact ⟨⟨(2 : Nat), by omega, by go_num, by first | exact hK | exact hide (unhide fin _ _ (unhide hK) ((G.refl _).drew))⟩, rfl⟩
                    case measure => simp [intOf]
                · obtain ⟨hg, m0, m1, v, u, P, U0, U1, h0, h1, hmv, hmu⟩ := unhide hh
                  have CK0 := sh_check (P.sh U0 U1) P.hac (unhide hn) (unhide hp) (hmv (by omega)).eq (hmu (by omega)).eq
                  obtain ⟨c0, c1, c2, c3, c4, c5, -, -⟩ := P.sb.facts
                  have hcc := unhide hc
                  replace hg := hide hg
                  clear P U0 U1 h0 h1 hmv hmu hh hc hp hq
                  by_cases h2 : n < 2
                  · rw [if_pos h2, if_pos h2] at CK0
                    have h2' : (n : Int) < 2 := by omega
                    have CK : Hid (Calls Tryz.prog 6 #[.agg #[.slice none 0 0, .slice none 0 0, .slice none 0 0, .slice (some ⟨gb, 0, none⟩) 4 cap, .slice (some ⟨k0 + 4, 0, none⟩) 2 2, .int .i64 0]] wr fun e w' => e = .returned (.tuple #[.agg #[.int .i64 0, .int .i64 2, .int .i64 5], .bool false]) ∧ G wr w') := hide CK0
                    clear CK0
                    go_wp2_with fail
                    refine (unhide CK).mono ?_
                    rintro e w5 ⟨rfl, g5⟩
                    have g6 := hide ((unhide hg).trans g5)
                    clear hg g5 CK c0 c1 c2 c3 c4 c5
                    go_upto_region 23 with fail
                    obtain ⟨Z, hZ⟩ : ∃ Z, Z = w5.alloc (.cells #[.int .i64 0, .int .i64 2, .int .i64 5] 24) := ⟨_, rfl⟩
                    have z0 : Z.cell? ⟨w5.heap.size, 0, none⟩ = some (.int .i64 0) := by rw [hZ, World.cell?_alloc_new]; rfl
                    have z1 : Z.cell? ⟨w5.heap.size, 1, none⟩ = some (.int .i64 2) := by rw [hZ, World.cell?_alloc_new]; rfl
                    have z2 : Z.cell? ⟨w5.heap.size, 2, none⟩ = some (.int .i64 5) := by rw [hZ, World.cell?_alloc_new]; rfl
                    have g7 : Hid (G w Z) := hide (by rw [hZ]; exact (unhide g6).more _)
                    rw [← hZ]
                    clear hZ g6
                    generalize w5.heap.size = zb at *
                    have bh1 := build_h1
                    have bh2 := build_h2
                    go_wp2_with fail
                    go_ret
                    exact ⟨rfl, unhide g7⟩
                  · rw [if_neg h2, if_neg h2] at CK0
                    have h2' : ¬ (n : Int) < 2 := by omega
                    cases caught
                    · subst hcc
                      have CK : Hid (Calls Tryz.prog 6 #[.agg #[.slice none 0 0, .slice none 0 0, .slice none 0 0, .slice (some ⟨gb, 0, none⟩) 4 cap, .slice (some ⟨k0 + 4, 0, none⟩) 2 2, .int .i64 0]] wr fun e w' => e = .returned (.tuple #[.agg #[.int .i64 0, .int .i64 0, .int .i64 0], .bool true]) ∧ G wr w') := hide CK0
                      clear CK0
                      go_wp2_with fail
                      refine (unhide CK).mono ?_
                      rintro e w5 ⟨rfl, g5⟩
                      have g6 := hide ((unhide hg).trans g5)
                      clear hg g5 CK c0 c1 c2 c3 c4 c5
                      go_upto_region 23 with fail
                      obtain ⟨Z, hZ⟩ : ∃ Z, Z = w5.alloc (.cells #[.int .i64 0, .int .i64 0, .int .i64 0] 24) := ⟨_, rfl⟩
                      have z0 : Z.cell? ⟨w5.heap.size, 0, none⟩ = some (.int .i64 0) := by rw [hZ, World.cell?_alloc_new]; rfl
                      have z1 : Z.cell? ⟨w5.heap.size, 1, none⟩ = some (.int .i64 0) := by rw [hZ, World.cell?_alloc_new]; rfl
                      have z2 : Z.cell? ⟨w5.heap.size, 2, none⟩ = some (.int .i64 0) := by rw [hZ, World.cell?_alloc_new]; rfl
                      have g7 : Hid (G w Z) := hide (by rw [hZ]; exact (unhide g6).more _)
                      rw [← hZ]
                      clear hZ g6
                      generalize w5.heap.size = zb at *
                      have bh1 := build_h1
                      have bh2 := build_h2
                      go_wp2_with fail
                      go_ret
                      exact ⟨rfl, unhide g7⟩
                    · subst hcc
                      have CK : Hid (Calls Tryz.prog 6 #[.agg #[.slice none 0 0, .slice none 0 0, .slice none 0 0, .slice (some ⟨gb, 0, none⟩) 4 cap, .slice (some ⟨k0 + 4, 0, none⟩) 2 2, .int .i64 0]] wr fun e w' => e = .returned (.tuple #[.agg #[.int .i64 0, .int .i64 3, .int .i64 5], .bool false]) ∧ G wr w') := hide CK0
                      clear CK0
                      go_wp2_with fail
                      refine (unhide CK).mono ?_
                      rintro e w5 ⟨rfl, g5⟩
                      have g6 := hide ((unhide hg).trans g5)
                      clear hg g5 CK c0 c1 c2 c3 c4 c5
                      go_upto_region 23 with fail
                      obtain ⟨Z, hZ⟩ : ∃ Z, Z = w5.alloc (.cells #[.int .i64 0, .int .i64 3, .int .i64 5] 24) := ⟨_, rfl⟩
                      have z0 : Z.cell? ⟨w5.heap.size, 0, none⟩ = some (.int .i64 0) := by rw [hZ, World.cell?_alloc_new]; rfl
                      have z1 : Z.cell? ⟨w5.heap.size, 1, none⟩ = some (.int .i64 3) := by rw [hZ, World.cell?_alloc_new]; rfl
                      have z2 : Z.cell? ⟨w5.heap.size, 2, none⟩ = some (.int .i64 5) := by rw [hZ, World.cell?_alloc_new]; rfl
                      have g7 : Hid (G w Z) := hide (by rw [hZ]; exact (unhide g6).more _)
                      rw [← hZ]
                      clear hZ g6
                      generalize w5.heap.size = zb at *
                      have bh1 := build_h1
                      have bh2 := build_h2
                      go_wp2_with fail
                      go_ret
                      exact ⟨rfl, unhide g7⟩
end Go.Proofs.YtnliooflpclcbaaGreatDoor
