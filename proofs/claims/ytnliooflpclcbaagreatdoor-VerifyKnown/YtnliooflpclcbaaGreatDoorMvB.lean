/- Here, one behind the other: VfG, VfM, VfQ, VfQ2, VfR, VfU, VfOne, VfOne2, VfT, VfS, VfAw, VkW, VkF, VkK. -/
import Derived.Test.YtnliooflpclcbaaGreatDoorVfL
import Derived.Test.YtnliooflpclcbaaGreatDoorCodeLay
import Derived.Test.YtnliooflpclcbaaGreatDoorMvC
import Derived.Test.YtnliooflpclcbaaGreatDoorVfK
import Derived.Test.YtnliooflpclcbaaGreatDoorVfO
import Derived.Test.YtnliooflpclcbaaGreatDoorVfE5
/- Package verify: rules 1 to 3. -/
namespace Go.Proofs.YtnliooflpclcbaaGreatDoor
set_option maxRecDepth 100000
open Go.RowKit Go.Maps Go.ChangeShapes Go.WideShapes Go.ChangeAt Go.Deep

/-- Rule 3's slots. -/
def slP (f : Fn) : Bool := decide (0 ≤ f.p) && (decide (0 ≤ f.c) && (decide (f.c ≤ 62) && (decide (f.s ≤ 64) && (decide ((f.ks.length : Int) = f.s) && decide (f.p ≤ f.s - f.c)))))
def fgP (f : Fn) : Bool := slP f && (decide (0 ≤ f.r) && (decide (f.r ≤ 2) && (decide (1 ≤ f.is.length) && (decide (f.is.length ≤ 4096) && decide (f.ms.length = f.is.length)))))
def BxF (y : World) (b : Nat) (f : Fn) (kv iv mv : Value) : Prop := y.cell? ⟨b, 0, none⟩ = some (.int .i64 f.p) ∧ y.cell? ⟨b, 1, none⟩ = some (.int .i64 f.c) ∧ y.cell? ⟨b, 2, none⟩ = some (.int .i64 f.s) ∧ y.cell? ⟨b, 3, none⟩ = some (.int .i64 f.r) ∧ y.cell? ⟨b, 4, none⟩ = some kv ∧ y.cell? ⟨b, 5, none⟩ = some iv ∧ y.cell? ⟨b, 6, none⟩ = some mv
theorem bxf_new (w : World) (f : Fn) (kv iv mv : Value) : BxF (w.alloc (.cells #[.int .i64 f.p, .int .i64 f.c, .int .i64 f.s, .int .i64 f.r, kv, iv, mv] 39)) w.heap.size f kv iv mv := by
  refine ⟨?_, ?_, ?_, ?_, ?_, ?_, ?_⟩ <;> (rw [World.cell?_alloc_new]; rfl)
theorem BxF.g {y z : World} {b : Nat} {f : Fn} {kv iv mv : Value} (h : BxF y b f kv iv mv) (g : G y z) : BxF z b f kv iv mv := ⟨g.cell h.1, g.cell h.2.1, g.cell h.2.2.1, g.cell h.2.2.2.1, g.cell h.2.2.2.2.1, g.cell h.2.2.2.2.2.1, g.cell h.2.2.2.2.2.2⟩
set_option maxHeartbeats 2000000 in
theorem slotsGood_any (w : World) (f : Fn) (ko : Option Addr) (kc : Nat) (iv mv : Value) : Calls Tryz.prog 23 #[.agg #[.int .i64 f.p, .int .i64 f.c, .int .i64 f.s, .int .i64 f.r, .slice ko f.ks.length kc, iv, mv]] w fun e w' => e = .returned (.bool (slP f)) ∧ G w w' := by
  obtain ⟨p, c, s, r, ks, is, ms⟩ := f
  have hB := bxf_new w ⟨p, c, s, r, ks, is, ms⟩ (.slice ko ks.length kc) iv mv
  simp only at hB ⊢
  obtain ⟨W1, hW1⟩ : ∃ W1, W1 = w.alloc (.cells #[.int .i64 p, .int .i64 c, .int .i64 s, .int .i64 r, .slice ko ks.length kc, iv, mv] 39) := ⟨_, rfl⟩
  rw [← hW1] at hB
  have g1 : Hid (G w W1) := hide (by rw [hW1]; exact G.alloc _ _)
  obtain ⟨q0, q1, q2, q3, q4, -, -⟩ := hB
  simp only at q0 q1 q2 q3
  have hu : slP ⟨p, c, s, r, ks, is, ms⟩ = (decide (0 ≤ p) && (decide (0 ≤ c) && (decide (c ≤ 62) && (decide (s ≤ 64) && (decide ((ks.length : Int) = s) && decide (p ≤ s - c)))))) := rfl
  rw [hu]
  clear hu
  generalize ks.length = L at *
  by_cases h0 : 0 ≤ p
  · rw [decide_eq_true h0, Bool.true_and]
    have h0' : ¬ p < 0 := by omega
    by_cases h1 : 0 ≤ c
    · rw [decide_eq_true h1, Bool.true_and]
      have h1' : ¬ c < 0 := by omega
      by_cases h2 : c ≤ 62
      · rw [decide_eq_true h2, Bool.true_and]
        have h2' : ¬ 62 < c := by omega
        by_cases h3 : s ≤ 64
        · rw [decide_eq_true h3, Bool.true_and]
          have h3' : ¬ 64 < s := by omega
          by_cases h4 : (L : Int) = s
          · rw [decide_eq_true h4, Bool.true_and]
            have h4' : ((L : Int) != s) = false := by simpa using h4
            have e2 : wrap64 (s - c) = s - c := by unfold wrap64; omega
            go_enter Tryz.func23, Tryz.ntmps23
            go_upto_region 1 with fail
            rw [← hW1]
            clear hW1
            go_wp2_with fail
            go_ret
            exact ⟨by simp, unhide g1⟩
          · rw [decide_eq_false h4, Bool.false_and]
            have h4' : ((L : Int) != s) = true := by simpa using h4
            go_enter Tryz.func23, Tryz.ntmps23
            go_upto_region 1 with fail
            rw [← hW1]
            clear hW1
            go_wp2_with fail
            go_ret
            exact ⟨rfl, unhide g1⟩
        · rw [decide_eq_false h3, Bool.false_and]
          have h3' : 64 < s := by omega
          go_enter Tryz.func23, Tryz.ntmps23
          go_upto_region 1 with fail
          rw [← hW1]
          clear hW1
          go_wp2_with fail
          go_ret
          exact ⟨rfl, unhide g1⟩
      · rw [decide_eq_false h2, Bool.false_and]
        have h2' : 62 < c := by omega
        go_enter Tryz.func23, Tryz.ntmps23
        go_upto_region 1 with fail
        rw [← hW1]
        clear hW1
        go_wp2_with fail
        go_ret
        exact ⟨rfl, unhide g1⟩
    · rw [decide_eq_false h1, Bool.false_and]
      have h1' : c < 0 := by omega
      go_enter Tryz.func23, Tryz.ntmps23
      go_upto_region 1 with fail
      rw [← hW1]
      clear hW1
      go_wp2_with fail
      go_ret
      exact ⟨rfl, unhide g1⟩
  · rw [decide_eq_false h0, Bool.false_and]
    have h0' : p < 0 := by omega
    go_enter Tryz.func23, Tryz.ntmps23
    go_upto_region 1 with fail
    rw [← hW1]
    clear hW1
    go_wp2_with fail
    go_ret
    exact ⟨rfl, unhide g1⟩
set_option maxHeartbeats 2000000 in
theorem funcGood_any (w : World) (f : Fn) (ko : Option Addr) (kc : Nat) (io : Option Addr) (ic : Nat) (mo : Option Addr) (mc : Nat) : Calls Tryz.prog 15 #[.agg #[.int .i64 f.p, .int .i64 f.c, .int .i64 f.s, .int .i64 f.r, .slice ko f.ks.length kc, .slice io f.is.length ic, .slice mo f.ms.length mc]] w fun e w' => e = .returned (.bool (fgP f)) ∧ G w w' := by
  have C : Hid (∀ y, Calls Tryz.prog 23 #[.agg #[.int .i64 f.p, .int .i64 f.c, .int .i64 f.s, .int .i64 f.r, .slice ko f.ks.length kc, .slice io f.is.length ic, .slice mo f.ms.length mc]] y fun e w' => e = .returned (.bool (slP f)) ∧ G y w') := hide fun y => slotsGood_any y f ko kc _ _
  have hB := bxf_new w f (.slice ko f.ks.length kc) (.slice io f.is.length ic) (.slice mo f.ms.length mc)
  obtain ⟨W1, hW1⟩ : ∃ W1, W1 = w.alloc (.cells #[.int .i64 f.p, .int .i64 f.c, .int .i64 f.s, .int .i64 f.r, .slice ko f.ks.length kc, .slice io f.is.length ic, .slice mo f.ms.length mc] 39) := ⟨_, rfl⟩
  rw [← hW1] at hB
  have g1 : G w W1 := by rw [hW1]; exact G.alloc _ _
  have hu : fgP f = (slP f && (decide (0 ≤ f.r) && (decide (f.r ≤ 2) && (decide (1 ≤ f.is.length) && (decide (f.is.length ≤ 4096) && decide (f.ms.length = f.is.length)))))) := rfl
  rw [hu]
  clear hu
  have q := hB
  obtain ⟨q0, q1, q2, q3, q4, q5, q6⟩ := q
  have hBG : Hid (∀ y, G W1 y → y.cell? ⟨w.heap.size, 3, none⟩ = some (.int .i64 f.r) ∧ y.cell? ⟨w.heap.size, 5, none⟩ = some (.slice io f.is.length ic) ∧ y.cell? ⟨w.heap.size, 6, none⟩ = some (.slice mo f.ms.length mc)) := hide fun y g => ⟨g.cell q3, g.cell q5, g.cell q6⟩
  clear hB
  replace g1 := hide g1
  generalize slP f = sb at C ⊢
  generalize f.is.length = I at *
  generalize f.ms.length = M at *
  generalize f.ks.length = K at *
  generalize f.p = p at *
  generalize f.c = c at *
  generalize f.s = s at *
  generalize f.r = r at *
  go_enter Tryz.func15, Tryz.ntmps15
  go_upto_region 1 with fail
  rw [← hW1]
  clear hW1
  go_wp2_with fail
  refine (unhide C _).mono ?_
  rintro e w2 ⟨rfl, g2⟩
  obtain ⟨d3, d5, d6⟩ := unhide hBG _ g2
  replace g2 : Hid (G w w2) := hide ((unhide g1).trans g2)
  clear C g1 hBG q0 q1 q2 q3 q4 q5 q6
  cases sb
  · go_wp2_with fail
    go_ret
    exact ⟨rfl, unhide g2⟩
  by_cases h0 : 0 ≤ r
  · by_cases h1 : r ≤ 2
    · by_cases h2 : 1 ≤ I
      · by_cases h3 : I ≤ 4096
        · have h2' : (1 : Int) ≤ (I : Int) := by omega
          have h3' : (I : Int) ≤ 4096 := by omega
          by_cases h4 : M = I
          · subst h4
            go_wp2_with fail
            go_ret
            exact ⟨by first | (simp_all; done) | (simp_all; omega), unhide g2⟩
          · have h4' : ((M : Int) == (I : Int)) = false := by simp; omega
            go_wp2_with fail
            go_ret
            exact ⟨by first | (simp_all; done) | (simp_all; omega), unhide g2⟩
        · have h2' : (1 : Int) ≤ (I : Int) := by omega
          have h3' : ¬ (I : Int) ≤ 4096 := by omega
          go_wp2_with fail
          go_ret
          exact ⟨by first | (simp_all; done) | (simp_all; omega), unhide g2⟩
      · have h2' : ¬ (1 : Int) ≤ (I : Int) := by omega
        go_wp2_with fail
        go_ret
        exact ⟨by first | (simp_all; done) | (simp_all; omega), unhide g2⟩
    · go_wp2_with fail
      go_ret
      exact ⟨by first | (simp_all; done) | (simp_all; omega), unhide g2⟩
  · go_wp2_with fail
    go_ret
    exact ⟨by first | (simp_all; done) | (simp_all; omega), unhide g2⟩
end Go.Proofs.YtnliooflpclcbaaGreatDoor

/- Package verify: listsGood, mainGood. -/
namespace Go.Proofs.YtnliooflpclcbaaGreatDoor
set_option maxRecDepth 100000
open Go.RowKit Go.Maps Go.ChangeShapes Go.WideShapes Go.ChangeAt Go.Deep

set_option maxHeartbeats 2000000 in
theorem lists_any (w : World) (m : Md) (so : Option Addr) (sc : Nat) (go : Option Addr) (gc : Nat) (co : Option Addr) (cc : Nat) (ao : Option Addr) (ac : Nat) (fo : Option Addr) (fc : Nat) (h1 : m.sh.length = 0) (h2 : m.gl.length = 0) (h3 : m.co.length = 0) (h4 : m.ca.length ≤ 1024) (h5 : m.fn.length ≤ 128) :
    Calls Tryz.prog 13 #[agM m so sc go gc co cc ao ac fo fc] w fun e w' => e = .returned (.bool (decide (1 ≤ m.fn.length))) ∧ G w w' := by
  unfold agM
  rw [h1, h2, h3]
  generalize m.ca.length = q1 at *
  generalize m.fn.length = q5 at *
  generalize m.main = q6 at *
  clear h1 h2 h3
  obtain ⟨W1, hW1⟩ : ∃ W1, W1 = w.alloc (.cells #[.slice so 0 sc, .slice go 0 gc, .slice co 0 cc, .slice ao q1 ac, .slice fo q5 fc, .int .i64 q6] 33) := ⟨_, rfl⟩
  have g1 : Hid (G w W1) := hide (by rw [hW1]; exact G.alloc _ _)
  have c0 : W1.cell? ⟨w.heap.size, 0, none⟩ = some (.slice so ((0 : Nat) : Int).toNat sc) := by rw [hW1, World.cell?_alloc_new]; rfl
  have c1 : W1.cell? ⟨w.heap.size, 1, none⟩ = some (.slice go 0 gc) := by rw [hW1, World.cell?_alloc_new]; rfl
  have c2 : W1.cell? ⟨w.heap.size, 2, none⟩ = some (.slice co 0 cc) := by rw [hW1, World.cell?_alloc_new]; rfl
  have c3 : W1.cell? ⟨w.heap.size, 3, none⟩ = some (.slice ao q1 ac) := by rw [hW1, World.cell?_alloc_new]; rfl
  have c4 : W1.cell? ⟨w.heap.size, 4, none⟩ = some (.slice fo q5 fc) := by rw [hW1, World.cell?_alloc_new]; rfl
  have c0 : W1.cell? ⟨w.heap.size, 0, none⟩ = some (.slice so 0 sc) := c0
  have k1 : ¬ (1024 : Int) < (q1 : Int) := by omega
  have k2 : ¬ (128 : Int) < (q5 : Int) := by omega
  clear h4 h5
  by_cases h : 1 ≤ q5
  · have h' : ¬ (q5 : Int) < 1 := by omega
    go_enter Tryz.func13, Tryz.ntmps13
    go_upto_region 1 with fail
    rw [← hW1]
    clear hW1
    go_wp2_with fail
    go_loopw [42] (fun i wr => i = .int .i64 0 ∧ wr = W1) (fun _ _ => 0)
    case atStart => exact ⟨rfl, rfl⟩
    case round =>
      obtain ⟨rfl, hwr⟩ := hrel
      rw [hwr]
      clear hwr
      go_wp2_with fail
      go_loopw [53] (fun i wr => i = .int .i64 0 ∧ wr = W1) (fun _ _ => 0)
      case atStart => exact ⟨rfl, rfl⟩
      case round =>
        obtain ⟨rfl, hwr⟩ := hrel
        rw [hwr]
        clear hwr
        go_wp2_with fail
        go_ret
        exact ⟨by simp [h], unhide g1⟩
  · have h' : (q5 : Int) < 1 := by omega
    go_enter Tryz.func13, Tryz.ntmps13
    go_upto_region 1 with fail
    rw [← hW1]
    clear hW1
    go_wp2_with fail
    go_ret
    exact ⟨by simp, unhide g1⟩
set_option maxHeartbeats 2000000 in
theorem main_out (w : World) (m : Md) (so : Option Addr) (sc : Nat) (go : Option Addr) (gc : Nat) (co : Option Addr) (cc : Nat) (ao : Option Addr) (ac : Nat) (fo : Option Addr) (fc : Nat) (h : inR m.main m.fn.length = false) :
    Calls Tryz.prog 14 #[agM m so sc go gc co cc ao ac fo fc] w fun e w' => e = .returned (.bool false) ∧ G w w' := by
  have CI : Hid (∀ y, Calls Tryz.prog 22 #[.int .i64 m.main, .int .i64 (m.fn.length : Int)] y fun e w' => e = .returned (.bool false) ∧ w' = y) := hide fun y => by
    have := isin_any y m.main m.fn.length
    rwa [h] at this
  unfold agM
  generalize m.ca.length = q1 at *
  generalize m.sh.length = q2 at *
  generalize m.gl.length = q3 at *
  generalize m.co.length = q4 at *
  generalize m.fn.length = q5 at *
  generalize m.main = q6 at *
  clear h
  obtain ⟨W1, hW1⟩ : ∃ W1, W1 = w.alloc (.cells #[.slice so q2 sc, .slice go q3 gc, .slice co q4 cc, .slice ao q1 ac, .slice fo q5 fc, .int .i64 q6] 33) := ⟨_, rfl⟩
  have g1 : Hid (G w W1) := hide (by rw [hW1]; exact G.alloc _ _)
  have c4 : W1.cell? ⟨w.heap.size, 4, none⟩ = some (.slice fo q5 fc) := by rw [hW1, World.cell?_alloc_new]; rfl
  have c5 : W1.cell? ⟨w.heap.size, 5, none⟩ = some (.int .i64 q6) := by rw [hW1, World.cell?_alloc_new]; rfl
  go_enter Tryz.func14, Tryz.ntmps14
  go_upto_region 1 with fail
  rw [← hW1]
  clear hW1
  go_wp2_with fail
  refine (unhide CI _).mono ?_
  rintro e w2 ⟨rfl, hw⟩
  rw [hw]
  clear hw w2 CI
  go_wp2_with fail
  go_ret
  exact ⟨rfl, unhide g1⟩
set_option maxHeartbeats 2000000 in
theorem main_in (w : World) (m : Md) (so : Option Addr) (sc : Nat) (go : Option Addr) (gc : Nat) (co : Option Addr) (cc : Nat) (ao : Option Addr) (ac : Nat) (fo : Option Addr) (fc n : Nat) (f : Fn) (ko : Option Addr) (kc : Nat) (hm : m.main = (n : Int)) (hn : n < m.fn.length) (hf : FnHere w fo n f ko kc) (h0 : f.p = 0) (h1 : f.c = 0) (h3 : f.r = 0) :
    Calls Tryz.prog 14 #[agM m so sc go gc co cc ao ac fo fc] w fun e w' => e = .returned (.bool true) ∧ G w w' := by
  have CI : Hid (∀ y, Calls Tryz.prog 22 #[.int .i64 (n : Int), .int .i64 (m.fn.length : Int)] y fun e w' => e = .returned (.bool true) ∧ w' = y) := hide fun y => by
    have := isin_any y n m.fn.length
    rwa [show inR (n : Int) (m.fn.length : Int) = true from by unfold inR; simp [hn]] at this
  unfold agM
  rw [hm]
  generalize m.ca.length = q1 at *
  generalize m.sh.length = q2 at *
  generalize m.gl.length = q3 at *
  generalize m.co.length = q4 at *
  generalize m.fn.length = q5 at *
  obtain ⟨fb, foff, io, ic, mo, mc, rfl, hfb, hcs⟩ := hf
  obtain ⟨W1, hW1⟩ : ∃ W1, W1 = w.alloc (.cells #[.slice so q2 sc, .slice go q3 gc, .slice co q4 cc, .slice ao q1 ac, .slice (some ⟨fb, foff, none⟩) q5 fc, .int .i64 (n : Int)] 33) := ⟨_, rfl⟩
  have g1 : G w W1 := by rw [hW1]; exact G.alloc _ _
  have c4 : W1.cell? ⟨w.heap.size, 4, none⟩ = some (.slice (some ⟨fb, foff, none⟩) q5 fc) := by rw [hW1, World.cell?_alloc_new]; rfl
  have c5 : W1.cell? ⟨w.heap.size, 5, none⟩ = some (.int .i64 (n : Int)) := by rw [hW1, World.cell?_alloc_new]; rfl
  have hk := hcs.kept (g1.block fb hfb)
  rw [h0, h1, h3] at hk
  have f0 := hk 0 _ rfl
  have f1 := hk 1 _ rfl
  have f2 := hk 2 _ rfl
  have f3 := hk 3 _ rfl
  have f4 := hk 4 _ rfl
  have f5 := hk 5 _ rfl
  have f6 := hk 6 _ rfl
  simp only [Nat.add_zero] at f0
  have hn1 : (n : Int) < (q5 : Int) := by omega
  have hn0 : ¬ (n : Int) < 0 := by omega
  replace g1 := hide g1
  clear hk hcs h0 h1 h3 hm hfb
  generalize f.s = fs at *
  generalize f.ks.length = q7 at *
  generalize f.is.length = q8 at *
  generalize f.ms.length = q9 at *
  go_enter Tryz.func14, Tryz.ntmps14
  go_upto_region 1 with fail
  rw [← hW1]
  clear hW1
  go_wp2_with fail
  refine (unhide CI _).mono ?_
  rintro e w2 ⟨rfl, hw⟩
  rw [hw]
  clear hw w2 CI
  go_wp2_with fail
  go_ret
  exact ⟨rfl, (unhide g1).more _⟩
end Go.Proofs.YtnliooflpclcbaaGreatDoor

/- Package verify: firstFault. -/
namespace Go.Proofs.YtnliooflpclcbaaGreatDoor
set_option maxRecDepth 100000
open Go.RowKit Go.Maps Go.ChangeShapes Go.WideShapes Go.ChangeAt Go.Deep

/-- All rules are kept ahead of instruction pc of function n. -/
def RlB (rl : Nat → Nat → Int) (L : Nat → Nat) (n pc : Nat) : Prop := (∀ n' pc', n' < n → pc' < L n' → rl n' pc' = 0) ∧ ∀ pc', pc' < pc → rl n pc' = 0
/-- What firstFault answers once rules 1 to 3 are kept. -/
def FfTo (w : World) (rl : Nat → Nat → Int) (L : Nat → Nat) (NF : Nat) (e : Ending) (w' : World) : Prop :=
  ((∃ n pc, n < NF ∧ pc < L n ∧ RlB rl L n pc ∧ rl n pc ≠ 0 ∧ e = .returned (.agg #[.int .i64 (n : Int), .int .i64 (pc : Int), .int .i64 (rl n pc)])) ∨ (RlB rl L NF 0 ∧ e = .returned (.agg #[.int .i64 0, .int .i64 0, .int .i64 0]))) ∧ G w w'
set_option maxHeartbeats 1000000 in
theorem fault_1 (w : World) (so : Option Addr) (sc : Nat) (go : Option Addr) (gc : Nat) (co : Option Addr) (cc : Nat) (ao : Option Addr) (ac : Nat) (fo : Option Addr) (fc : Nat) (q1 q2 q3 q4 NF : Nat) (q6 : Int) (H1 : ∀ y, G w y → Calls Tryz.prog 13 #[.agg #[.slice so q2 sc, .slice go q3 gc, .slice co q4 cc, .slice ao q1 ac, .slice fo NF fc, .int .i64 q6]] y fun e w' => e = .returned (.bool false) ∧ G y w') :
    Calls Tryz.prog 10 #[.agg #[.slice so q2 sc, .slice go q3 gc, .slice co q4 cc, .slice ao q1 ac, .slice fo NF fc, .int .i64 q6]] w fun e w' => e = .returned (.agg #[.int .i64 (-1), .int .i64 (-1), .int .i64 1]) ∧ G w w' := by
  obtain ⟨W1, hW1⟩ : ∃ W1, W1 = (w.alloc (.cells #[.slice so q2 sc, .slice go q3 gc, .slice co q4 cc, .slice ao q1 ac, .slice fo NF fc, .int .i64 q6] 33)).alloc (.cells #[.int .i64 0, .int .i64 0, .int .i64 0] 24) := ⟨_, rfl⟩
  have g1 : G w W1 := by rw [hW1]; exact (G.alloc _ _).more _
  obtain ⟨a0, a1⟩ := al2 w _ _ _ _ W1 hW1
  have m0 := a0 0
  have m1 := a0 1
  have m2 := a0 2
  have m3 := a0 3
  have m4 := a0 4
  have m5 := a0 5
  have C := hide (H1 W1 g1)
  have RB : Rb W1 (w.heap.size + 1) 3 := by
    refine ⟨by rw [hW1, World.size_alloc, World.size_alloc]; omega, fun i hi => by rw [a1 i]; simp [hi], fun i => ?_⟩
    have hh := heap_alloc_new (w.alloc (.cells #[.slice so q2 sc, .slice go q3 gc, .slice co q4 cc, .slice ao q1 ac, .slice fo NF fc, .int .i64 q6] 33)) (.cells #[.int .i64 0, .int .i64 0, .int .i64 0] 24)
    rw [World.size_alloc] at hh
    unfold World.frozen?
    rw [hW1, hh]
    simp
  clear a0 a1 H1
  have RG : Hid (∀ y, G W1 y → Rb y (w.heap.size + 1) 3) := hide fun y g => RB.g g
  clear RB
  replace g1 := hide g1
  go_enter Tryz.func10, Tryz.ntmps10
  go_upto_region 1 with fail
  rw [← hW1]
  clear hW1
  go_wp2_with fail
  refine (unhide C).mono ?_
  rintro e w2 ⟨rfl, g2⟩
  have hR := unhide RG _ g2
  obtain ⟨u0, e0⟩ := Option.isSome_iff_exists.1 (hR.2.1 0 (by decide))
  obtain ⟨u1, e1⟩ := Option.isSome_iff_exists.1 (hR.2.1 1 (by decide))
  obtain ⟨u2, e2⟩ := Option.isSome_iff_exists.1 (hR.2.1 2 (by decide))
  have z0 := hR.2.2 0
  have z1 := hR.2.2 1
  have z2 := hR.2.2 2
  have gz := hide ((unhide g1).trans g2)
  have GS : Hid (∀ v0 v1 v2, G w (((w2.setCell ⟨w.heap.size + 1, 0, none⟩ v0).setCell ⟨w.heap.size + 1, 1, none⟩ v1).setCell ⟨w.heap.size + 1, 2, none⟩ v2)) := hide fun v0 v1 v2 => (((unhide gz).set _ 0 v0 (by omega)).set _ 1 v1 (by omega)).set _ 2 v2 (by omega)
  clear C RG hR g2 g1 m0 m1 m2 m3 m4 m5
  go_wp2_with fail
  refine bodyPost_ret (by simp [results, Tryz.results10, go_sem, e0, e1, e2]; try rfl) rfl ?_
  exact ⟨rfl, unhide GS _ _ _⟩
set_option maxHeartbeats 1000000 in
theorem fault_2 (w : World) (so : Option Addr) (sc : Nat) (go : Option Addr) (gc : Nat) (co : Option Addr) (cc : Nat) (ao : Option Addr) (ac : Nat) (fo : Option Addr) (fc : Nat) (q1 q2 q3 q4 NF : Nat) (q6 : Int) (H1 : ∀ y, G w y → Calls Tryz.prog 13 #[.agg #[.slice so q2 sc, .slice go q3 gc, .slice co q4 cc, .slice ao q1 ac, .slice fo NF fc, .int .i64 q6]] y fun e w' => e = .returned (.bool true) ∧ G y w') (H2 : ∀ y, G w y → Calls Tryz.prog 14 #[.agg #[.slice so q2 sc, .slice go q3 gc, .slice co q4 cc, .slice ao q1 ac, .slice fo NF fc, .int .i64 q6]] y fun e w' => e = .returned (.bool false) ∧ G y w') :
    Calls Tryz.prog 10 #[.agg #[.slice so q2 sc, .slice go q3 gc, .slice co q4 cc, .slice ao q1 ac, .slice fo NF fc, .int .i64 q6]] w fun e w' => e = .returned (.agg #[.int .i64 (-1), .int .i64 (-1), .int .i64 2]) ∧ G w w' := by
  obtain ⟨W1, hW1⟩ : ∃ W1, W1 = (w.alloc (.cells #[.slice so q2 sc, .slice go q3 gc, .slice co q4 cc, .slice ao q1 ac, .slice fo NF fc, .int .i64 q6] 33)).alloc (.cells #[.int .i64 0, .int .i64 0, .int .i64 0] 24) := ⟨_, rfl⟩
  have g1 : G w W1 := by rw [hW1]; exact (G.alloc _ _).more _
  obtain ⟨a0, a1⟩ := al2 w _ _ _ _ W1 hW1
  have m0 := a0 0
  have m1 := a0 1
  have m2 := a0 2
  have m3 := a0 3
  have m4 := a0 4
  have m5 := a0 5
  have RB : Rb W1 (w.heap.size + 1) 3 := by
    refine ⟨by rw [hW1, World.size_alloc, World.size_alloc]; omega, fun i hi => by rw [a1 i]; simp [hi], fun i => ?_⟩
    have hh := heap_alloc_new (w.alloc (.cells #[.slice so q2 sc, .slice go q3 gc, .slice co q4 cc, .slice ao q1 ac, .slice fo NF fc, .int .i64 q6] 33)) (.cells #[.int .i64 0, .int .i64 0, .int .i64 0] 24)
    rw [World.size_alloc] at hh
    unfold World.frozen?
    rw [hW1, hh]
    simp
  have RG : Hid (∀ y, G W1 y → Rb y (w.heap.size + 1) 3) := hide fun y g => RB.g g
  have BG : Hid (∀ y, G W1 y → y.cell? ⟨w.heap.size, 0, none⟩ = some (.slice so q2 sc) ∧ y.cell? ⟨w.heap.size, 1, none⟩ = some (.slice go q3 gc) ∧ y.cell? ⟨w.heap.size, 2, none⟩ = some (.slice co q4 cc) ∧ y.cell? ⟨w.heap.size, 3, none⟩ = some (.slice ao q1 ac) ∧ y.cell? ⟨w.heap.size, 4, none⟩ = some (.slice fo NF fc) ∧ y.cell? ⟨w.heap.size, 5, none⟩ = some (.int .i64 q6)) := hide fun y g => ⟨g.cell m0, g.cell m1, g.cell m2, g.cell m3, g.cell m4, g.cell m5⟩
  have H1' : Hid (∀ y, G W1 y → Calls Tryz.prog 13 #[.agg #[.slice so q2 sc, .slice go q3 gc, .slice co q4 cc, .slice ao q1 ac, .slice fo NF fc, .int .i64 q6]] y fun e w' => e = .returned (.bool true) ∧ G y w') := hide fun y g => H1 y (g1.trans g)
  have GS : Hid (∀ y v0 v1 v2, G W1 y → G w (((y.setCell ⟨w.heap.size + 1, 0, none⟩ v0).setCell ⟨w.heap.size + 1, 1, none⟩ v1).setCell ⟨w.heap.size + 1, 2, none⟩ v2)) := hide fun y v0 v1 v2 g => (((g1.trans g).set _ 0 v0 (by omega)).set _ 1 v1 (by omega)).set _ 2 v2 (by omega)
  have H2' : Hid (∀ y, G W1 y → Calls Tryz.prog 14 #[.agg #[.slice so q2 sc, .slice go q3 gc, .slice co q4 cc, .slice ao q1 ac, .slice fo NF fc, .int .i64 q6]] y fun e w' => e = .returned (.bool false) ∧ G y w') := hide fun y g => H2 y (g1.trans g)
  clear RB a0 a1 H1 H2
  replace g1 := hide g1
  go_enter Tryz.func10, Tryz.ntmps10
  go_upto_region 1 with fail
  rw [← hW1]
  clear hW1
  go_wp2_with fail
  refine (unhide H1' _ (G.refl _)).mono ?_
  rintro e w2 ⟨rfl, g2⟩
  replace g2 := hide g2
  clear m0 m1 m2 m3 m4 m5 H1'
  obtain ⟨m0, m1, m2, m3, m4, m5⟩ := unhide BG _ (unhide g2)
  go_wp2_with fail
  refine (unhide H2' _ (unhide g2)).mono ?_
  rintro e w3 ⟨rfl, g3⟩
  have gw3 := hide ((unhide g2).trans g3)
  clear g3 g2 m0 m1 m2 m3 m4 m5 H2'
  have hR := unhide RG _ (unhide gw3)
  obtain ⟨u0, e0⟩ := Option.isSome_iff_exists.1 (hR.2.1 0 (by decide))
  obtain ⟨u1, e1⟩ := Option.isSome_iff_exists.1 (hR.2.1 1 (by decide))
  obtain ⟨u2, e2⟩ := Option.isSome_iff_exists.1 (hR.2.1 2 (by decide))
  have z0 := hR.2.2 0
  have z1 := hR.2.2 1
  have z2 := hR.2.2 2
  have gz := hide fun v0 v1 v2 => unhide GS _ v0 v1 v2 (unhide gw3)
  clear hR
  go_wp2_with fail
  refine bodyPost_ret (by simp [results, Tryz.results10, go_sem, e0, e1, e2]; try rfl) rfl ?_
  exact ⟨rfl, unhide gz _ _ _⟩
set_option maxHeartbeats 2000000 in
theorem fault_3 (w : World) (so : Option Addr) (sc : Nat) (go : Option Addr) (gc : Nat) (co : Option Addr) (cc : Nat) (ao : Option Addr) (ac : Nat) (fb foff : Nat) (fc : Nat) (q1 q2 q3 q4 NF : Nat) (q6 : Int) (hNF : 1 ≤ NF) (f : Fn) (ko : Option Addr) (kc : Nat) (io : Option Addr) (ic : Nat) (mo : Option Addr) (mc : Nat) (H1 : ∀ y, G w y → Calls Tryz.prog 13 #[.agg #[.slice so q2 sc, .slice go q3 gc, .slice co q4 cc, .slice ao q1 ac, .slice (some ⟨fb, foff, none⟩) NF fc, .int .i64 q6]] y fun e w' => e = .returned (.bool true) ∧ G y w') (H2 : ∀ y, G w y → Calls Tryz.prog 14 #[.agg #[.slice so q2 sc, .slice go q3 gc, .slice co q4 cc, .slice ao q1 ac, .slice (some ⟨fb, foff, none⟩) NF fc, .int .i64 q6]] y fun e w' => e = .returned (.bool true) ∧ G y w')
    (HF : ∀ y, G w y → CellsAt y fb foff [.int .i64 f.p, .int .i64 f.c, .int .i64 f.s, .int .i64 f.r, .slice ko f.ks.length kc, .slice io f.is.length ic, .slice mo f.ms.length mc]) (H3 : ∀ y, G w y → Calls Tryz.prog 15 #[.agg #[.int .i64 f.p, .int .i64 f.c, .int .i64 f.s, .int .i64 f.r, .slice ko f.ks.length kc, .slice io f.is.length ic, .slice mo f.ms.length mc]] y fun e w' => e = .returned (.bool false) ∧ G y w') :
    Calls Tryz.prog 10 #[.agg #[.slice so q2 sc, .slice go q3 gc, .slice co q4 cc, .slice ao q1 ac, .slice (some ⟨fb, foff, none⟩) NF fc, .int .i64 q6]] w fun e w' => e = .returned (.agg #[.int .i64 0, .int .i64 (-1), .int .i64 3]) ∧ G w w' := by
  obtain ⟨W1, hW1⟩ : ∃ W1, W1 = (w.alloc (.cells #[.slice so q2 sc, .slice go q3 gc, .slice co q4 cc, .slice ao q1 ac, .slice (some ⟨fb, foff, none⟩) NF fc, .int .i64 q6] 33)).alloc (.cells #[.int .i64 0, .int .i64 0, .int .i64 0] 24) := ⟨_, rfl⟩
  have g1 : G w W1 := by rw [hW1]; exact (G.alloc _ _).more _
  obtain ⟨a0, a1⟩ := al2 w _ _ _ _ W1 hW1
  have m0 := a0 0
  have m1 := a0 1
  have m2 := a0 2
  have m3 := a0 3
  have m4 := a0 4
  have m5 := a0 5
  have RB : Rb W1 (w.heap.size + 1) 3 := by
    refine ⟨by rw [hW1, World.size_alloc, World.size_alloc]; omega, fun i hi => by rw [a1 i]; simp [hi], fun i => ?_⟩
    have hh := heap_alloc_new (w.alloc (.cells #[.slice so q2 sc, .slice go q3 gc, .slice co q4 cc, .slice ao q1 ac, .slice (some ⟨fb, foff, none⟩) NF fc, .int .i64 q6] 33)) (.cells #[.int .i64 0, .int .i64 0, .int .i64 0] 24)
    rw [World.size_alloc] at hh
    unfold World.frozen?
    rw [hW1, hh]
    simp
  have RG : Hid (∀ y, G W1 y → Rb y (w.heap.size + 1) 3) := hide fun y g => RB.g g
  have BG : Hid (∀ y, G W1 y → y.cell? ⟨w.heap.size, 0, none⟩ = some (.slice so q2 sc) ∧ y.cell? ⟨w.heap.size, 1, none⟩ = some (.slice go q3 gc) ∧ y.cell? ⟨w.heap.size, 2, none⟩ = some (.slice co q4 cc) ∧ y.cell? ⟨w.heap.size, 3, none⟩ = some (.slice ao q1 ac) ∧ y.cell? ⟨w.heap.size, 4, none⟩ = some (.slice (some ⟨fb, foff, none⟩) NF fc) ∧ y.cell? ⟨w.heap.size, 5, none⟩ = some (.int .i64 q6)) := hide fun y g => ⟨g.cell m0, g.cell m1, g.cell m2, g.cell m3, g.cell m4, g.cell m5⟩
  have H1' : Hid (∀ y, G W1 y → Calls Tryz.prog 13 #[.agg #[.slice so q2 sc, .slice go q3 gc, .slice co q4 cc, .slice ao q1 ac, .slice (some ⟨fb, foff, none⟩) NF fc, .int .i64 q6]] y fun e w' => e = .returned (.bool true) ∧ G y w') := hide fun y g => H1 y (g1.trans g)
  have GS : Hid (∀ y v0 v1 v2, G W1 y → G w (((y.setCell ⟨w.heap.size + 1, 0, none⟩ v0).setCell ⟨w.heap.size + 1, 1, none⟩ v1).setCell ⟨w.heap.size + 1, 2, none⟩ v2)) := hide fun y v0 v1 v2 g => (((g1.trans g).set _ 0 v0 (by omega)).set _ 1 v1 (by omega)).set _ 2 v2 (by omega)
  have H2' : Hid (∀ y, G W1 y → Calls Tryz.prog 14 #[.agg #[.slice so q2 sc, .slice go q3 gc, .slice co q4 cc, .slice ao q1 ac, .slice (some ⟨fb, foff, none⟩) NF fc, .int .i64 q6]] y fun e w' => e = .returned (.bool true) ∧ G y w') := hide fun y g => H2 y (g1.trans g)
  have H3' : Hid (∀ y, G W1 y → Calls Tryz.prog 15 #[.agg #[.int .i64 f.p, .int .i64 f.c, .int .i64 f.s, .int .i64 f.r, .slice ko f.ks.length kc, .slice io f.is.length ic, .slice mo f.ms.length mc]] y fun e w' => e = .returned (.bool false) ∧ G y w') := hide fun y g => H3 y (g1.trans g)
  have HF' : Hid (∀ y, G W1 y → CellsAt y fb foff [.int .i64 f.p, .int .i64 f.c, .int .i64 f.s, .int .i64 f.r, .slice ko f.ks.length kc, .slice io f.is.length ic, .slice mo f.ms.length mc]) := hide fun y g => HF y (g1.trans g)
  clear RB a0 a1 H1 H2 H3 HF
  replace g1 := hide g1
  have hN1 : (0 : Int) < (NF : Int) := by omega
  generalize f.p = p at *
  generalize f.c = c at *
  generalize f.s = s at *
  generalize f.r = r at *
  generalize f.ks.length = KL at *
  generalize f.is.length = IL at *
  generalize f.ms.length = ML at *
  go_enter Tryz.func10, Tryz.ntmps10
  go_upto_region 1 with fail
  rw [← hW1]
  clear hW1
  go_wp2_with fail
  refine (unhide H1' _ (G.refl _)).mono ?_
  rintro e w2 ⟨rfl, g2⟩
  replace g2 := hide g2
  clear m0 m1 m2 m3 m4 m5 H1'
  obtain ⟨m0, m1, m2, m3, m4, m5⟩ := unhide BG _ (unhide g2)
  go_wp2_with fail
  refine (unhide H2' _ (unhide g2)).mono ?_
  rintro e w3 ⟨rfl, g3⟩
  have gw3 := hide ((unhide g2).trans g3)
  clear g3 g2 m0 m1 m2 m3 m4 m5 H2'
  obtain ⟨m0, m1, m2, m3, m4, m5⟩ := unhide BG _ (unhide gw3)
  have f0 := unhide HF' _ (unhide gw3) 0 _ rfl
  have f1 := unhide HF' _ (unhide gw3) 1 _ rfl
  have f2 := unhide HF' _ (unhide gw3) 2 _ rfl
  have f3 := unhide HF' _ (unhide gw3) 3 _ rfl
  have f4 := unhide HF' _ (unhide gw3) 4 _ rfl
  have f5 := unhide HF' _ (unhide gw3) 5 _ rfl
  have f6 := unhide HF' _ (unhide gw3) 6 _ rfl
  simp only [Nat.add_zero] at f0
  go_wp2_with fail
  clear m0 m1 m2 m3 m4 m5
  go_loopw [22] (fun i wr => i = .int .i64 0 ∧ wr = w3) (fun _ _ => 0)
  case atStart => exact ⟨rfl, rfl⟩
  case round =>
    obtain ⟨rfl, hwr⟩ := hrel
    rw [hwr]
    clear hwr
    obtain ⟨Wc, hWc⟩ : ∃ Wc, Wc = w3.alloc (.cells #[.int .i64 p, .int .i64 c, .int .i64 s, .int .i64 r, .slice ko KL kc, .slice io IL ic, .slice mo ML mc] 39) := ⟨_, rfl⟩
    have gc : G w3 Wc := by rw [hWc]; exact G.alloc _ _
    have zb : ∀ k v, #[Value.int .i64 p, .int .i64 c, .int .i64 s, .int .i64 r, .slice ko KL kc, .slice io IL ic, .slice mo ML mc][k]? = some v → Wc.cell? ⟨w3.heap.size, k, none⟩ = some v := fun k v h => by rw [hWc, World.cell?_alloc_new]; exact h
    have k0 := zb 0 _ rfl
    have k1 := zb 1 _ rfl
    have k2 := zb 2 _ rfl
    have k3 := zb 3 _ rfl
    have k4 := zb 4 _ rfl
    have k5 := zb 5 _ rfl
    have k6 := zb 6 _ rfl
    have gwc := hide ((unhide gw3).trans gc)
    clear zb gc
    go_upto_region 8 with fail
    rw [← hWc]
    clear hWc f0 f1 f2 f3 f4 f5 f6
    go_wp2_with fail
    refine (unhide H3' _ (unhide gwc)).mono ?_
    rintro e w4 ⟨rfl, g4⟩
    have gw4 := hide ((unhide gwc).trans g4)
    clear g4 gwc gw3 H3' HF' BG k0 k1 k2 k3 k4 k5 k6
    have hR := unhide RG _ (unhide gw4)
    obtain ⟨u0, e0⟩ := Option.isSome_iff_exists.1 (hR.2.1 0 (by decide))
    obtain ⟨u1, e1⟩ := Option.isSome_iff_exists.1 (hR.2.1 1 (by decide))
    obtain ⟨u2, e2⟩ := Option.isSome_iff_exists.1 (hR.2.1 2 (by decide))
    have z0 := hR.2.2 0
    have z1 := hR.2.2 1
    have z2 := hR.2.2 2
    have gz := hide fun v0 v1 v2 => unhide GS _ v0 v1 v2 (unhide gw4)
    clear hR
    go_wp2_with fail
    refine bodyPost_ret (by simp [results, Tryz.results10, go_sem, e0, e1, e2]; try rfl) rfl ?_
    exact ⟨rfl, unhide gz _ _ _⟩
end Go.Proofs.YtnliooflpclcbaaGreatDoor

/- Package verify: firstFault, behind rules 1 to 3. -/
namespace Go.Proofs.YtnliooflpclcbaaGreatDoor
set_option maxRecDepth 100000
open Go.RowKit Go.Maps Go.ChangeShapes Go.WideShapes Go.ChangeAt Go.Deep

theorem Rb.gt {tb : Nat} {y z : World} {b n : Nat} (h : Rb y b n) (g : Gt tb y z) (hn : b ≠ tb) : Rb z b n :=
  ⟨Nat.lt_of_lt_of_le h.1 g.size, fun i hi => by rw [World.cell?_of_block (a := ⟨b, i, none⟩) (g.block b h.1 hn)]; exact h.2.1 i hi, fun i => (World.frozen?_of_block (a := ⟨b, i, none⟩) (g.block b h.1 hn)).trans (h.2.2 i)⟩
theorem mk_bools (n : Nat) (hn : n ≤ 100000) (w : World) : (Instr.makeSlice 28 (.int .i64 (n : Int)) (.int .i64 (n : Int))).run Tryz.prog w = .ok (.slice (some ⟨w.heap.size, 0, none⟩) n n) (w.alloc (.cells (madeCells #[.bool false] n) 4)) := by
  obtain ⟨i, hi, hz, hs, hb⟩ := info_parts info_bool
  have := run_make (P := Tryz.prog) w 28 4 i (.bool false) Tryz.underlying28 hi hz .i64 .i64 (n : Int) (n : Int) (by omega) (by omega) (by rw [hb]; omega) (by omega)
  rw [this, hs, Int.toNat_natCast, Nat.mul_one]
  rfl
set_option maxHeartbeats 4000000 in
theorem fault_any (w : World) (so : Option Addr) (sc : Nat) (go : Option Addr) (gc : Nat) (co : Option Addr) (cc : Nat) (ao : Option Addr) (ac : Nat) (fb foff : Nat) (fc : Nat) (q1 q2 q3 q4 NF : Nat) (q6 : Int) (fn : Nat → Fn) (ko : Nat → Option Addr) (kc : Nat → Nat) (io : Nat → Option Addr) (ic : Nat → Nat) (mo : Nat → Option Addr) (mc : Nat → Nat) (rl : Nat → Nat → Int) (P : Nat → Nat → World → Prop) (Q : Nat → Nat → Nat → Nat → World → Prop) (hq : q1 ≤ 100000) (hNF : NF ≤ 100000) (hL : ∀ n, n < NF → (fn n).is.length ≤ 100000)
    (H1 : ∀ y, G w y → Calls Tryz.prog 13 #[.agg #[.slice so q2 sc, .slice go q3 gc, .slice co q4 cc, .slice ao q1 ac, .slice (some ⟨fb, foff, none⟩) NF fc, .int .i64 q6]] y fun e w' => e = .returned (.bool true) ∧ G y w') (H2 : ∀ y, G w y → Calls Tryz.prog 14 #[.agg #[.slice so q2 sc, .slice go q3 gc, .slice co q4 cc, .slice ao q1 ac, .slice (some ⟨fb, foff, none⟩) NF fc, .int .i64 q6]] y fun e w' => e = .returned (.bool true) ∧ G y w')
    (HF : ∀ n, n < NF → ∀ y, G w y → CellsAt y fb (foff + n * 7) [.int .i64 (fn n).p, .int .i64 (fn n).c, .int .i64 (fn n).s, .int .i64 (fn n).r, .slice (ko n) (fn n).ks.length (kc n), .slice (io n) (fn n).is.length (ic n), .slice (mo n) (fn n).ms.length (mc n)])
    (H3 : ∀ n, n < NF → ∀ y, G w y → Calls Tryz.prog 15 #[.agg #[.int .i64 (fn n).p, .int .i64 (fn n).c, .int .i64 (fn n).s, .int .i64 (fn n).r, .slice (ko n) (fn n).ks.length (kc n), .slice (io n) (fn n).is.length (ic n), .slice (mo n) (fn n).ms.length (mc n)]] y fun e w' => e = .returned (.bool true) ∧ G y w')
    (HP0 : ∀ y, G w y → P y.heap.size 0 (y.alloc (.cells (madeCells #[.bool false] q1) 4)))
    (HPw : ∀ tb n y, P tb n y → G w y) (HQw : ∀ tb n jb pc y, Q tb n jb pc y → G w y)
    (HPg : ∀ tb n y z, P tb n y → G y z → P tb n z)
    (HJ : ∀ tb n y, n < NF → P tb n y → Calls Tryz.prog 16 #[.agg #[.slice so q2 sc, .slice go q3 gc, .slice co q4 cc, .slice ao q1 ac, .slice (some ⟨fb, foff, none⟩) NF fc, .int .i64 q6], .agg #[.int .i64 (fn n).p, .int .i64 (fn n).c, .int .i64 (fn n).s, .int .i64 (fn n).r, .slice (ko n) (fn n).ks.length (kc n), .slice (io n) (fn n).is.length (ic n), .slice (mo n) (fn n).ms.length (mc n)], .slice (some ⟨tb, 0, none⟩) q1 q1] y fun e w' => ∃ jb, e = .returned (.pointer (some ⟨jb, 0, none⟩)) ∧ Q tb n jb 0 w' ∧ G y w')
    (HB : ∀ tb n jb pc y, n < NF → pc < (fn n).is.length → Q tb n jb pc y → Calls Tryz.prog 17 #[.pointer (some ⟨jb, 0, none⟩), .int .i64 (pc : Int)] y fun e w' => e = .returned (.int .i64 (rl n pc)) ∧ G w w' ∧ (rl n pc = 0 → Q tb n jb (pc + 1) w') ∧ Gt tb y w')
    (HE : ∀ tb n jb y, Q tb n jb (fn n).is.length y → P tb (n + 1) y) :
    Calls Tryz.prog 10 #[.agg #[.slice so q2 sc, .slice go q3 gc, .slice co q4 cc, .slice ao q1 ac, .slice (some ⟨fb, foff, none⟩) NF fc, .int .i64 q6]] w (FfTo w rl (fun n => (fn n).is.length) NF) := by
  obtain ⟨W1, hW1⟩ : ∃ W1, W1 = (w.alloc (.cells #[.slice so q2 sc, .slice go q3 gc, .slice co q4 cc, .slice ao q1 ac, .slice (some ⟨fb, foff, none⟩) NF fc, .int .i64 q6] 33)).alloc (.cells #[.int .i64 0, .int .i64 0, .int .i64 0] 24) := ⟨_, rfl⟩
  have g1 : G w W1 := by rw [hW1]; exact (G.alloc _ _).more _
  obtain ⟨a0, a1⟩ := al2 w _ _ _ _ W1 hW1
  have m0 := a0 0
  have m1 := a0 1
  have m2 := a0 2
  have m3 := a0 3
  have m4 := a0 4
  have m5 := a0 5
  have RB : Rb W1 (w.heap.size + 1) 3 := by
    refine ⟨by rw [hW1, World.size_alloc, World.size_alloc]; omega, fun i hi => by rw [a1 i]; simp [hi], fun i => ?_⟩
    have hh := heap_alloc_new (w.alloc (.cells #[.slice so q2 sc, .slice go q3 gc, .slice co q4 cc, .slice ao q1 ac, .slice (some ⟨fb, foff, none⟩) NF fc, .int .i64 q6] 33)) (.cells #[.int .i64 0, .int .i64 0, .int .i64 0] 24)
    rw [World.size_alloc] at hh
    unfold World.frozen?
    rw [hW1, hh]
    simp
  have RG : Hid (∀ y, G W1 y → Rb y (w.heap.size + 1) 3) := hide fun y g => RB.g g
  have BG : Hid (∀ y, G W1 y → y.cell? ⟨w.heap.size, 0, none⟩ = some (.slice so q2 sc) ∧ y.cell? ⟨w.heap.size, 1, none⟩ = some (.slice go q3 gc) ∧ y.cell? ⟨w.heap.size, 2, none⟩ = some (.slice co q4 cc) ∧ y.cell? ⟨w.heap.size, 3, none⟩ = some (.slice ao q1 ac) ∧ y.cell? ⟨w.heap.size, 4, none⟩ = some (.slice (some ⟨fb, foff, none⟩) NF fc) ∧ y.cell? ⟨w.heap.size, 5, none⟩ = some (.int .i64 q6)) := hide fun y g => ⟨g.cell m0, g.cell m1, g.cell m2, g.cell m3, g.cell m4, g.cell m5⟩
  have H1' : Hid (∀ y, G W1 y → Calls Tryz.prog 13 #[.agg #[.slice so q2 sc, .slice go q3 gc, .slice co q4 cc, .slice ao q1 ac, .slice (some ⟨fb, foff, none⟩) NF fc, .int .i64 q6]] y fun e w' => e = .returned (.bool true) ∧ G y w') := hide fun y g => H1 y (g1.trans g)
  have GS : Hid (∀ y v0 v1 v2, G W1 y → G w (((y.setCell ⟨w.heap.size + 1, 0, none⟩ v0).setCell ⟨w.heap.size + 1, 1, none⟩ v1).setCell ⟨w.heap.size + 1, 2, none⟩ v2)) := hide fun y v0 v1 v2 g => (((g1.trans g).set _ 0 v0 (by omega)).set _ 1 v1 (by omega)).set _ 2 v2 (by omega)
  have H2' : Hid (∀ y, G W1 y → Calls Tryz.prog 14 #[.agg #[.slice so q2 sc, .slice go q3 gc, .slice co q4 cc, .slice ao q1 ac, .slice (some ⟨fb, foff, none⟩) NF fc, .int .i64 q6]] y fun e w' => e = .returned (.bool true) ∧ G y w') := hide fun y g => H2 y (g1.trans g)
  have H3' : Hid (∀ n, n < NF → ∀ y, G W1 y → Calls Tryz.prog 15 #[.agg #[.int .i64 (fn n).p, .int .i64 (fn n).c, .int .i64 (fn n).s, .int .i64 (fn n).r, .slice (ko n) (fn n).ks.length (kc n), .slice (io n) (fn n).is.length (ic n), .slice (mo n) (fn n).ms.length (mc n)]] y fun e w' => e = .returned (.bool true) ∧ G y w') := hide fun n hn y g => H3 n hn y (g1.trans g)
  have HF' : Hid (∀ n, n < NF → ∀ y, G w y → CellsAt y fb (foff + n * 7) [.int .i64 (fn n).p, .int .i64 (fn n).c, .int .i64 (fn n).s, .int .i64 (fn n).r, .slice (ko n) (fn n).ks.length (kc n), .slice (io n) (fn n).is.length (ic n), .slice (mo n) (fn n).ms.length (mc n)]) := hide HF
  clear a0 a1 H1 H2 H3 HF
  replace g1 := hide g1
  replace RB := hide RB
  replace HP0 := hide HP0
  replace HPw := hide HPw
  replace HQw := hide HQw
  replace HPg := hide HPg
  replace HJ := hide HJ
  replace HB := hide HB
  replace HE := hide HE
  replace hL := hide hL
  go_enter Tryz.func10, Tryz.ntmps10
  go_upto_region 1 with fail
  rw [← hW1]
  clear hW1
  go_wp2_with fail
  refine (unhide H1' _ (G.refl _)).mono ?_
  rintro e w2 ⟨rfl, g2⟩
  replace g2 := hide g2
  clear m0 m1 m2 m3 m4 m5 H1'
  obtain ⟨m0, m1, m2, m3, m4, m5⟩ := unhide BG _ (unhide g2)
  go_wp2_with fail
  refine (unhide H2' _ (unhide g2)).mono ?_
  rintro e w3 ⟨rfl, g3⟩
  have gw3 := hide ((unhide g2).trans g3)
  clear g3 g2 m0 m1 m2 m3 m4 m5 H2'
  obtain ⟨m0, m1, m2, m3, m4, m5⟩ := unhide BG _ (unhide gw3)
  go_wp2_with fail
  clear m0 m1 m2 m3 m4 m5
  go_loopw [22] (fun i wr => ∃ n : Nat, n ≤ NF ∧ i = .int .i64 (n : Int) ∧ Hid (G W1 wr)) (fun i _ => NF - (intOf i).toNat)
  case atStart => exact ⟨0, Nat.zero_le _, rfl, gw3⟩
  case round =>
    obtain ⟨n, hn, rfl, hg⟩ := hrel
    by_cases hlt : n < NF
    · have ff := unhide HF' n hlt _ ((unhide g1).trans (unhide hg))
      have f0 := ff 0 _ rfl
      have f1 := ff 1 _ rfl
      have f2 := ff 2 _ rfl
      have f3 := ff 3 _ rfl
      have f4 := ff 4 _ rfl
      have f5 := ff 5 _ rfl
      have f6 := ff 6 _ rfl
      simp only [Nat.add_zero] at f0
      have C3 := hide (unhide H3' n hlt)
      clear ff
      generalize (fn n).p = p at *
      generalize (fn n).c = c at *
      generalize (fn n).s = s at *
      generalize (fn n).r = r at *
      generalize (fn n).ks.length = KL at *
      generalize (fn n).is.length = IL at *
      generalize (fn n).ms.length = ML at *
      obtain ⟨Wc, hWc⟩ : ∃ Wc, Wc = wr.alloc (.cells #[.int .i64 p, .int .i64 c, .int .i64 s, .int .i64 r, .slice (ko n) KL (kc n), .slice (io n) IL (ic n), .slice (mo n) ML (mc n)] 39) := ⟨_, rfl⟩
      have gc : G wr Wc := by rw [hWc]; exact G.alloc _ _
      have zb : ∀ k v, #[Value.int .i64 p, .int .i64 c, .int .i64 s, .int .i64 r, .slice (ko n) KL (kc n), .slice (io n) IL (ic n), .slice (mo n) ML (mc n)][k]? = some v → Wc.cell? ⟨wr.heap.size, k, none⟩ = some v := fun k v h => by rw [hWc, World.cell?_alloc_new]; exact h
      have k0 := zb 0 _ rfl
      have k1 := zb 1 _ rfl
      have k2 := zb 2 _ rfl
      have k3 := zb 3 _ rfl
      have k4 := zb 4 _ rfl
      have k5 := zb 5 _ rfl
      have k6 := zb 6 _ rfl
      have gwc := hide ((unhide hg).trans gc)
      clear zb gc
      go_upto_region 8 with fail
      rw [← hWc]
      clear hWc f0 f1 f2 f3 f4 f5 f6
      go_wp2_with fail
      refine (unhide C3 _ (unhide gwc)).mono ?_
      rintro e w4 ⟨rfl, g4⟩
      have gw4 := hide ((unhide gwc).trans g4)
      clear g4 gwc C3 k0 k1 k2 k3 k4 k5 k6 hg
      go_wp2_with fail
      go_roundw
      case rel => exact ⟨n + 1, by omega, by go_num, gw4⟩
      case measure => simp [intOf]; omega
    · obtain rfl : NF = n := by omega
      clear H3'
      obtain ⟨m0, m1, m2, m3, m4, m5⟩ := unhide BG _ (unhide hg)
      have hmk := mk_bools q1 hq wr
      have hs1 : W1.heap.size ≤ wr.heap.size := (unhide hg).size
      have hws : w.heap.size + 1 < W1.heap.size := (unhide RB).1
      obtain ⟨tb, htb⟩ : ∃ tb, tb = wr.heap.size := ⟨_, rfl⟩
      have P0 : Hid (P tb 0 (wr.alloc (.cells (madeCells #[.bool false] q1) 4))) := hide (by rw [htb]; exact unhide HP0 wr ((unhide g1).trans (unhide hg)))
      have F0 : Hid (((wr.alloc (.cells (madeCells #[.bool false] q1) 4)).cell? ⟨w.heap.size, 0, none⟩ = some (.slice so q2 sc) ∧ (wr.alloc (.cells (madeCells #[.bool false] q1) 4)).cell? ⟨w.heap.size, 1, none⟩ = some (.slice go q3 gc) ∧ (wr.alloc (.cells (madeCells #[.bool false] q1) 4)).cell? ⟨w.heap.size, 2, none⟩ = some (.slice co q4 cc) ∧ (wr.alloc (.cells (madeCells #[.bool false] q1) 4)).cell? ⟨w.heap.size, 3, none⟩ = some (.slice ao q1 ac) ∧ (wr.alloc (.cells (madeCells #[.bool false] q1) 4)).cell? ⟨w.heap.size, 4, none⟩ = some (.slice (some ⟨fb, foff, none⟩) NF fc) ∧ (wr.alloc (.cells (madeCells #[.bool false] q1) 4)).cell? ⟨w.heap.size, 5, none⟩ = some (.int .i64 q6)) ∧ Rb (wr.alloc (.cells (madeCells #[.bool false] q1) 4)) (w.heap.size + 1) 3 ∧ tb < (wr.alloc (.cells (madeCells #[.bool false] q1) 4)).heap.size) := hide (by
        have gg := (unhide hg).more (.cells (madeCells #[.bool false] q1) 4)
        exact ⟨unhide BG _ gg, unhide RG _ gg, by rw [World.size_alloc]; omega⟩)
      have FG : Hid (∀ y z, ((y.cell? ⟨w.heap.size, 0, none⟩ = some (.slice so q2 sc) ∧ y.cell? ⟨w.heap.size, 1, none⟩ = some (.slice go q3 gc) ∧ y.cell? ⟨w.heap.size, 2, none⟩ = some (.slice co q4 cc) ∧ y.cell? ⟨w.heap.size, 3, none⟩ = some (.slice ao q1 ac) ∧ y.cell? ⟨w.heap.size, 4, none⟩ = some (.slice (some ⟨fb, foff, none⟩) NF fc) ∧ y.cell? ⟨w.heap.size, 5, none⟩ = some (.int .i64 q6)) ∧ Rb y (w.heap.size + 1) 3 ∧ tb < y.heap.size) → Gt tb y z → ((z.cell? ⟨w.heap.size, 0, none⟩ = some (.slice so q2 sc) ∧ z.cell? ⟨w.heap.size, 1, none⟩ = some (.slice go q3 gc) ∧ z.cell? ⟨w.heap.size, 2, none⟩ = some (.slice co q4 cc) ∧ z.cell? ⟨w.heap.size, 3, none⟩ = some (.slice ao q1 ac) ∧ z.cell? ⟨w.heap.size, 4, none⟩ = some (.slice (some ⟨fb, foff, none⟩) NF fc) ∧ z.cell? ⟨w.heap.size, 5, none⟩ = some (.int .i64 q6)) ∧ Rb z (w.heap.size + 1) 3 ∧ tb < z.heap.size)) := hide fun y z h g => by
        obtain ⟨⟨h0, h1, h2, h3, h4, h5⟩, hr, ht⟩ := h
        have hw : w.heap.size < y.heap.size := by have := hr.1; omega
        have hn : w.heap.size ≠ tb := by omega
        exact ⟨⟨g.cell h0 hw hn, g.cell h1 hw hn, g.cell h2 hw hn, g.cell h3 hw hn, g.cell h4 hw hn, g.cell h5 hw hn⟩, hr.gt g (by omega), Nat.lt_of_lt_of_le ht g.size⟩
      rw [← htb] at hmk
      clear hg RG BG RB HP0 hs1 gw3
      go_upto_region 12 with fail
      obtain ⟨Wt, hWt⟩ : ∃ Wt, Wt = wr.alloc (.cells (madeCells #[.bool false] q1) 4) := ⟨_, rfl⟩
      rw [← hWt] at P0 F0 ⊢
      clear hWt hmk m0 m1 m2 m3 m4 m5
      rw [← htb]
      clear htb
      obtain ⟨⟨m0, m1, m2, m3, m4, m5⟩, -, -⟩ := unhide F0
      go_wp2_with fail
      clear m0 m1 m2 m3 m4 m5
      go_loopw [40] (fun i y => ∃ n : Nat, n ≤ NF ∧ i = .int .i64 (n : Int) ∧ Hid (P tb n y) ∧ Hid ((y.cell? ⟨w.heap.size, 0, none⟩ = some (.slice so q2 sc) ∧ y.cell? ⟨w.heap.size, 1, none⟩ = some (.slice go q3 gc) ∧ y.cell? ⟨w.heap.size, 2, none⟩ = some (.slice co q4 cc) ∧ y.cell? ⟨w.heap.size, 3, none⟩ = some (.slice ao q1 ac) ∧ y.cell? ⟨w.heap.size, 4, none⟩ = some (.slice (some ⟨fb, foff, none⟩) NF fc) ∧ y.cell? ⟨w.heap.size, 5, none⟩ = some (.int .i64 q6)) ∧ Rb y (w.heap.size + 1) 3 ∧ tb < y.heap.size) ∧ Hid (RlB rl (fun n => (fn n).is.length) n 0)) (fun i _ => NF - (intOf i).toNat)
      case atStart => exact ⟨0, Nat.zero_le _, rfl, P0, F0, hide ⟨fun n' pc' h => absurd h (Nat.not_lt_zero _), fun pc' h => absurd h (Nat.not_lt_zero _)⟩⟩
      case round =>
        clear P0 F0
        obtain ⟨n, hn, rfl, hP, hF, hRl⟩ := hrel
        by_cases hlt : n < NF
        · have ff := unhide HF' n hlt _ (unhide HPw _ _ _ (unhide hP))
          have f0 := ff 0 _ rfl
          have f1 := ff 1 _ rfl
          have f2 := ff 2 _ rfl
          have f3 := ff 3 _ rfl
          have f4 := ff 4 _ rfl
          have f5 := ff 5 _ rfl
          have f6 := ff 6 _ rfl
          simp only [Nat.add_zero] at f0
          have CJ := hide (fun y => unhide HJ tb n y hlt)
          have CB := hide (fun jb pc y => unhide HB tb n jb pc y hlt)
          have CE := hide (unhide HE tb n)
          have hL0 := unhide hL n hlt
          have FI : Hid (∀ pc, pc < (fn n).is.length → RlB rl (fun n => (fn n).is.length) n pc → rl n pc ≠ 0 → ∀ z, G w z → FfTo w rl (fun n => (fn n).is.length) NF (.returned (.agg #[.int .i64 (n : Int), .int .i64 (pc : Int), .int .i64 (rl n pc)])) z) := hide fun pc h1 h2 h3 z g => ⟨Or.inl ⟨n, pc, hlt, h1, h2, h3, rfl⟩, g⟩
          have NX : Hid (RlB rl (fun n => (fn n).is.length) n (fn n).is.length → RlB rl (fun n => (fn n).is.length) (n + 1) 0) := hide fun h => ⟨fun n' pc' h1 h2 => by
            rcases Nat.lt_or_ge n' n with h3 | h3
            · exact h.1 n' pc' h3 h2
            · obtain rfl : n = n' := by omega
              exact h.2 pc' h2, fun pc' h => absurd h (Nat.not_lt_zero _)⟩
          clear ff
          generalize (fn n).p = p at *
          generalize (fn n).c = c at *
          generalize (fn n).s = s at *
          generalize (fn n).r = r at *
          generalize (fn n).ks.length = KL at *
          generalize (fn n).is.length = IL at *
          generalize (fn n).ms.length = ML at *
          obtain ⟨Wc, hWc⟩ : ∃ Wc, Wc = wr.alloc (.cells #[.int .i64 p, .int .i64 c, .int .i64 s, .int .i64 r, .slice (ko n) KL (kc n), .slice (io n) IL (ic n), .slice (mo n) ML (mc n)] 39) := ⟨_, rfl⟩
          have gc : G wr Wc := by rw [hWc]; exact G.alloc _ _
          have zb : ∀ k v, (#[.int .i64 p, .int .i64 c, .int .i64 s, .int .i64 r, .slice (ko n) KL (kc n), .slice (io n) IL (ic n), .slice (mo n) ML (mc n)] : Array Value)[k]? = some v → Wc.cell? ⟨wr.heap.size, k, none⟩ = some v := fun k v h => by rw [hWc, World.cell?_alloc_new]; exact h
          have k0 := zb 0 _ rfl
          have k1 := zb 1 _ rfl
          have k2 := zb 2 _ rfl
          have k3 := zb 3 _ rfl
          have k4 := zb 4 _ rfl
          have k5 := zb 5 _ rfl
          have k6 := zb 6 _ rfl
          have hPc := unhide HPg _ _ _ _ (unhide hP) gc
          have hFc := unhide FG _ _ (unhide hF) gc.gt
          have C := hide (unhide CJ Wc hPc)
          have hbx : wr.heap.size ≠ tb := by have := (unhide hF).2.2; omega
          have hbl : wr.heap.size < Wc.heap.size := by rw [hWc, World.size_alloc]; omega
          clear zb CJ hPc hP hF
          go_upto_region 15 with fail
          rw [← hWc]
          clear hWc f0 f1 f2 f3 f4 f5 f6
          replace hFc := hide hFc
          obtain ⟨⟨m0, m1, m2, m3, m4, m5⟩, -, -⟩ := unhide hFc
          replace gc := hide gc
          go_wp2_with fail
          refine (unhide C).mono ?_
          rintro e w5 ⟨jb, rfl, hQ, g5⟩
          have k5' := g5.cell k5
          have hF5 := hide (unhide FG _ _ (unhide hFc) g5.gt)
          replace hQ := hide hQ
          clear C m0 m1 m2 m3 m4 m5 k0 k1 k2 k3 k4 k5 k6 gc hFc g5
          go_wp2_with fail
          clear k5'
          go_loopw [52] (fun i y => ∃ pc : Nat, pc ≤ IL ∧ i = .int .i64 (pc : Int) ∧ Hid (Q tb n jb pc y) ∧ Hid ((y.cell? ⟨w.heap.size, 0, none⟩ = some (.slice so q2 sc) ∧ y.cell? ⟨w.heap.size, 1, none⟩ = some (.slice go q3 gc) ∧ y.cell? ⟨w.heap.size, 2, none⟩ = some (.slice co q4 cc) ∧ y.cell? ⟨w.heap.size, 3, none⟩ = some (.slice ao q1 ac) ∧ y.cell? ⟨w.heap.size, 4, none⟩ = some (.slice (some ⟨fb, foff, none⟩) NF fc) ∧ y.cell? ⟨w.heap.size, 5, none⟩ = some (.int .i64 q6)) ∧ Rb y (w.heap.size + 1) 3 ∧ tb < y.heap.size) ∧ Hid (RlB rl (fun n => (fn n).is.length) n pc)) (fun i _ => IL - (intOf i).toNat)
          case atStart => exact ⟨0, Nat.zero_le _, rfl, hQ, hF5, hRl⟩
          case round =>
            clear hQ hF5 hRl
            obtain ⟨pc, hpc, rfl, hQ, hF, hRl⟩ := hrel
            by_cases hp : pc < IL
            · have C := hide (unhide CB jb pc _ hp (unhide hQ))
              have FI2 := hide (unhide FI pc hp (unhide hRl))
              have NX2 : Hid (rl n pc = 0 → RlB rl (fun n => (fn n).is.length) n (pc + 1)) := hide fun h => ⟨(unhide hRl).1, fun pc' h' => by
                rcases Nat.lt_or_ge pc' pc with h3 | h3
                · exact (unhide hRl).2 pc' h3
                · obtain rfl : pc = pc' := by omega
                  exact h⟩
              clear FI NX CE hQ
              generalize rl n pc = rv at *
              go_wp2_with fail
              refine (unhide C).mono ?_
              rintro e w6 ⟨rfl, gw6, hQ6, gt6⟩
              have hF6 := hide (unhide FG _ _ (unhide hF) gt6)
              replace gw6 := hide gw6
              replace hQ6 := hide hQ6
              clear C gt6 hF
              by_cases h0 : rv = 0
              · have q6 := unhide hQ6 h0
                have r6 := unhide NX2 h0
                subst h0
                clear hQ6 FI2 NX2
                go_wp2_with fail
                go_roundw
                case rel => exact ⟨pc + 1, by omega, by go_num, hide q6, hF6, hide r6⟩
                case measure => simp [intOf]; omega
              · have hne : (rv != 0) = true := by simpa using h0
                have hR := (unhide hF6).2.1
                obtain ⟨u0, e0⟩ := Option.isSome_iff_exists.1 (hR.2.1 0 (by decide))
                obtain ⟨u1, e1⟩ := Option.isSome_iff_exists.1 (hR.2.1 1 (by decide))
                obtain ⟨u2, e2⟩ := Option.isSome_iff_exists.1 (hR.2.1 2 (by decide))
                have z0 := hR.2.2 0
                have z1 := hR.2.2 1
                have z2 := hR.2.2 2
                have gz := hide (fun v0 v1 v2 => unhide FI2 h0 _ ((((unhide gw6).set (w.heap.size + 1) 0 v0 (by omega)).set (w.heap.size + 1) 1 v1 (by omega)).set (w.heap.size + 1) 2 v2 (by omega)))
                clear hR h0 hQ6 FI2 NX2
                go_wp2_with fail
                refine bodyPost_ret (by simp [results, Tryz.results10, go_sem, e0, e1, e2]; try rfl) rfl ?_
                exact unhide gz _ _ _
            · obtain rfl : IL = pc := by omega
              have hP2 := hide (unhide CE jb _ (unhide hQ))
              have hR2 := hide (unhide NX (unhide hRl))
              clear CE NX FI CB hQ hRl
              go_wp2_with fail
              go_roundw
              case rel => exact ⟨n + 1, by omega, by go_num, hP2, hF, hR2⟩
              case measure => simp [intOf]; omega
        · obtain rfl : NF = n := by omega
          have hR := (unhide hF).2.1
          obtain ⟨u0, e0⟩ := Option.isSome_iff_exists.1 (hR.2.1 0 (by decide))
          obtain ⟨u1, e1⟩ := Option.isSome_iff_exists.1 (hR.2.1 1 (by decide))
          obtain ⟨u2, e2⟩ := Option.isSome_iff_exists.1 (hR.2.1 2 (by decide))
          have z0 := hR.2.2 0
          have z1 := hR.2.2 1
          have z2 := hR.2.2 2
          have gw := unhide HPw _ _ _ (unhide hP)
          have gz : Hid (∀ v0 v1 v2, FfTo w rl (fun n => (fn n).is.length) NF (.returned (.agg #[.int .i64 0, .int .i64 0, .int .i64 0])) (((wr.setCell ⟨w.heap.size + 1, 0, none⟩ v0).setCell ⟨w.heap.size + 1, 1, none⟩ v1).setCell ⟨w.heap.size + 1, 2, none⟩ v2)) := hide (fun v0 v1 v2 => ⟨Or.inr ⟨unhide hRl, rfl⟩, ((gw.set (w.heap.size + 1) 0 v0 (by omega)).set (w.heap.size + 1) 1 v1 (by omega)).set (w.heap.size + 1) 2 v2 (by omega)⟩)
          clear hR gw hP hF hRl
          go_wp2_with fail
          refine bodyPost_ret (by simp [results, Tryz.results10, go_sem, e0, e1, e2]; try rfl) rfl ?_
          exact unhide gz _ _ _
end Go.Proofs.YtnliooflpclcbaaGreatDoor

/- Package verify: Check, Module. -/
namespace Go.Proofs.YtnliooflpclcbaaGreatDoor
set_option maxRecDepth 100000
open Go.RowKit Go.Maps Go.ChangeShapes Go.WideShapes Go.ChangeAt Go.Deep

theorem build_f0 (w : World) : (Instr.build 24 #[]).run Tryz.prog w = .ok (.agg #[.int .i64 0, .int .i64 0, .int .i64 0]) w := by kernel_rfl
def okF (a b c : Int) : Bool := a == 0 && (b == 0 && c == 0)
set_option maxHeartbeats 2000000 in
theorem check_of (w : World) (so : Option Addr) (sc : Nat) (go : Option Addr) (gc : Nat) (co : Option Addr) (cc : Nat) (ao : Option Addr) (ac : Nat) (fo : Option Addr) (fc : Nat) (q1 q2 q3 q4 NF : Nat) (q6 : Int) (a b c : Int) (H : ∀ y, G w y → Calls Tryz.prog 10 #[.agg #[.slice so q2 sc, .slice go q3 gc, .slice co q4 cc, .slice ao q1 ac, .slice fo NF fc, .int .i64 q6]] y fun e w' => e = .returned (.agg #[.int .i64 a, .int .i64 b, .int .i64 c]) ∧ G y w') :
    Calls Tryz.prog 6 #[.agg #[.slice so q2 sc, .slice go q3 gc, .slice co q4 cc, .slice ao q1 ac, .slice fo NF fc, .int .i64 q6]] w fun e w' => e = .returned (.tuple #[.agg #[.int .i64 a, .int .i64 b, .int .i64 c], .bool (okF a b c)]) ∧ G w w' := by
  obtain ⟨W1, hW1⟩ : ∃ W1, W1 = (w.alloc (.cells #[.slice so q2 sc, .slice go q3 gc, .slice co q4 cc, .slice ao q1 ac, .slice fo NF fc, .int .i64 q6] 33)).alloc (.cells #[.int .i64 0, .int .i64 0, .int .i64 0] 24) := ⟨_, rfl⟩
  have g1 : G w W1 := by rw [hW1]; exact (G.alloc _ _).more _
  obtain ⟨a0, a1⟩ := al2 w _ _ _ _ W1 hW1
  have m0 := a0 0
  have m1 := a0 1
  have m2 := a0 2
  have m3 := a0 3
  have m4 := a0 4
  have m5 := a0 5
  have C := hide (H W1 g1)
  have RB : Rb W1 (w.heap.size + 1) 3 := by
    refine ⟨by rw [hW1, World.size_alloc, World.size_alloc]; omega, fun i hi => by rw [a1 i]; simp [hi], fun i => ?_⟩
    have hh := heap_alloc_new (w.alloc (.cells #[.slice so q2 sc, .slice go q3 gc, .slice co q4 cc, .slice ao q1 ac, .slice fo NF fc, .int .i64 q6] 33)) (.cells #[.int .i64 0, .int .i64 0, .int .i64 0] 24)
    rw [World.size_alloc] at hh
    unfold World.frozen?
    rw [hW1, hh]
    simp
  have hlt := RB.1
  have RG : Hid (∀ y, G W1 y → Rb y (w.heap.size + 1) 3) := hide fun y g => RB.g g
  have bf := build_f0
  have ho : okF a b c = (a == 0 && (b == 0 && c == 0)) := rfl
  clear a0 a1 H RB
  replace g1 := hide g1
  go_enter Tryz.func6, Tryz.ntmps6
  go_upto_region 1 with fail
  rw [← hW1]
  clear hW1
  go_wp2_with fail
  refine (unhide C).mono ?_
  rintro e w2 ⟨rfl, g2⟩
  clear C m0 m1 m2 m3 m4 m5
  go_upto_region 2 with fail
  obtain ⟨W2, hW2⟩ : ∃ W2, W2 = w2.alloc (.cells #[.int .i64 a, .int .i64 b, .int .i64 c] 24) := ⟨_, rfl⟩
  have g3 : G W1 W2 := by rw [hW2]; exact g2.more _
  have k0 : W2.cell? ⟨w2.heap.size, 0, none⟩ = some (.int .i64 a) := by rw [hW2, World.cell?_alloc_new]; rfl
  have k1 : W2.cell? ⟨w2.heap.size, 1, none⟩ = some (.int .i64 b) := by rw [hW2, World.cell?_alloc_new]; rfl
  have k2 : W2.cell? ⟨w2.heap.size, 2, none⟩ = some (.int .i64 c) := by rw [hW2, World.cell?_alloc_new]; rfl
  have hne : ¬ w2.heap.size = w.heap.size + 1 := by have := g2.size; omega
  rw [← hW2]
  clear hW2 g2
  have hR := unhide RG _ g3
  obtain ⟨u0, e0⟩ := Option.isSome_iff_exists.1 (hR.2.1 0 (by decide))
  obtain ⟨u1, e1⟩ := Option.isSome_iff_exists.1 (hR.2.1 1 (by decide))
  obtain ⟨u2, e2⟩ := Option.isSome_iff_exists.1 (hR.2.1 2 (by decide))
  have z0 := hR.2.2 0
  have z1 := hR.2.2 1
  have z2 := hR.2.2 2
  have GS : Hid (∀ y v0 v1 v2, G w y → G w (((y.setCell ⟨w.heap.size + 1, 0, none⟩ v0).setCell ⟨w.heap.size + 1, 1, none⟩ v1).setCell ⟨w.heap.size + 1, 2, none⟩ v2)) := hide fun y v0 v1 v2 g => ((g.set _ 0 v0 (by omega)).set _ 1 v1 (by omega)).set _ 2 v2 (by omega)
  have gz := hide ((unhide g1).trans g3)
  clear hR RG g3 g1 hlt
  by_cases ha : a = 0
  · have qa : (a == 0) = true := by simp [ha]
    by_cases hb : b = 0
    · have qb : (b == 0) = true := by simp [hb]
      by_cases hc : c = 0
      · have qc : (c == 0) = true := by simp [hc]
        rw [qa, qb, qc] at ho
        subst ha hb hc
        replace ho := hide ho
        go_region
        all_goals
          go_wp2_with fail
          refine bodyPost_ret (by simp [results, Tryz.results6, go_sem, e0, e1, e2]; try rfl) rfl ?_
          refine ⟨by rw [unhide ho]; rfl, ?_⟩
          first | exact unhide GS _ _ _ _ (unhide gz) | exact (unhide GS _ _ _ _ (unhide gz)).drew | exact unhide GS _ _ _ _ (unhide gz).drew
      · have qc : (c == 0) = false := by simpa using hc
        rw [qa, qb, qc] at ho
        subst ha hb
        replace ho := hide ho
        go_region
        all_goals
          go_wp2_with fail
          refine bodyPost_ret (by simp [results, Tryz.results6, go_sem, e0, e1, e2]; try rfl) rfl ?_
          refine ⟨by rw [unhide ho]; rfl, ?_⟩
          first | exact unhide GS _ _ _ _ (unhide gz) | exact (unhide GS _ _ _ _ (unhide gz)).drew | exact unhide GS _ _ _ _ (unhide gz).drew
    · have qb : (b == 0) = false := by simpa using hb
      rw [qa, qb] at ho
      subst ha
      replace ho := hide ho
      go_region
      all_goals
        go_wp2_with fail
        refine bodyPost_ret (by simp [results, Tryz.results6, go_sem, e0, e1, e2]; try rfl) rfl ?_
        refine ⟨by rw [unhide ho]; rfl, ?_⟩
        first | exact unhide GS _ _ _ _ (unhide gz) | exact (unhide GS _ _ _ _ (unhide gz)).drew | exact unhide GS _ _ _ _ (unhide gz).drew
  · have qa : (a == 0) = false := by simpa using ha
    rw [qa] at ho
    replace ho := hide ho
    go_region
    all_goals
      go_wp2_with fail
      refine bodyPost_ret (by simp [results, Tryz.results6, go_sem, e0, e1, e2]; try rfl) rfl ?_
      refine ⟨by rw [unhide ho]; rfl, ?_⟩
      first | exact unhide GS _ _ _ _ (unhide gz) | exact (unhide GS _ _ _ _ (unhide gz)).drew | exact unhide GS _ _ _ _ (unhide gz).drew
set_option maxHeartbeats 2000000 in
theorem module_of (w : World) (so : Option Addr) (sc : Nat) (go : Option Addr) (gc : Nat) (co : Option Addr) (cc : Nat) (ao : Option Addr) (ac : Nat) (fo : Option Addr) (fc : Nat) (q1 q2 q3 q4 NF : Nat) (q6 : Int) (a b c : Int) (H : ∀ y, G w y → Calls Tryz.prog 10 #[.agg #[.slice so q2 sc, .slice go q3 gc, .slice co q4 cc, .slice ao q1 ac, .slice fo NF fc, .int .i64 q6]] y fun e w' => e = .returned (.agg #[.int .i64 a, .int .i64 b, .int .i64 c]) ∧ G y w') :
    Calls Tryz.prog 9 #[.agg #[.slice so q2 sc, .slice go q3 gc, .slice co q4 cc, .slice ao q1 ac, .slice fo NF fc, .int .i64 q6]] w fun e w' => e = .returned (.bool (okF a b c)) ∧ G w w' := by
  obtain ⟨W1, hW1⟩ : ∃ W1, W1 = w.alloc (.cells #[.slice so q2 sc, .slice go q3 gc, .slice co q4 cc, .slice ao q1 ac, .slice fo NF fc, .int .i64 q6] 33) := ⟨_, rfl⟩
  have g1 : G w W1 := by rw [hW1]; exact G.alloc _ _
  have m0 : W1.cell? ⟨w.heap.size, 0, none⟩ = some (.slice so q2 sc) := by rw [hW1, World.cell?_alloc_new]; rfl
  have m1 : W1.cell? ⟨w.heap.size, 1, none⟩ = some (.slice go q3 gc) := by rw [hW1, World.cell?_alloc_new]; rfl
  have m2 : W1.cell? ⟨w.heap.size, 2, none⟩ = some (.slice co q4 cc) := by rw [hW1, World.cell?_alloc_new]; rfl
  have m3 : W1.cell? ⟨w.heap.size, 3, none⟩ = some (.slice ao q1 ac) := by rw [hW1, World.cell?_alloc_new]; rfl
  have m4 : W1.cell? ⟨w.heap.size, 4, none⟩ = some (.slice fo NF fc) := by rw [hW1, World.cell?_alloc_new]; rfl
  have m5 : W1.cell? ⟨w.heap.size, 5, none⟩ = some (.int .i64 q6) := by rw [hW1, World.cell?_alloc_new]; rfl
  have C := hide (check_of W1 so sc go gc co cc ao ac fo fc q1 q2 q3 q4 NF q6 a b c (fun y g => H y (g1.trans g)))
  clear H
  replace g1 := hide g1
  generalize okF a b c = q at C ⊢
  go_enter Tryz.func9, Tryz.ntmps9
  go_upto_region 1 with fail
  rw [← hW1]
  clear hW1
  go_wp2_with fail
  refine (unhide C).mono ?_
  rintro e w2 ⟨rfl, g2⟩
  have gz := hide ((unhide g1).trans g2)
  clear C g2 g1
  go_wp2_with fail
  go_ret
  exact ⟨rfl, (unhide gz).more _⟩
end Go.Proofs.YtnliooflpclcbaaGreatDoor

/- PLAIN: what live says of a function that only returns. -/
namespace Go.Proofs.YtnliooflpclcbaaGreatDoor
set_option maxRecDepth 100000
open Go.RowKit Go.Maps Go.ChangeShapes Go.WideShapes Go.ChangeAt Go.Deep

def retF (s : Int) (ms : List Nat) : Fn := ⟨0, 0, s, 0, [true], [⟨22, -1, 0, 0, 0⟩], ms⟩
theorem ret_cl (m : Md) (s : Int) (ms : List Nat) : ClD m (retF s ms) (fun _ _ => False) := by
  refine ⟨fun pc i q hi hq h => ?_, fun _ _ _ _ _ _ _ h => h.elim, fun _ _ _ _ _ _ _ _ _ _ h => h.elim⟩
  match pc, hi with
  | 0, hi =>
    cases hi
    have e : rdP m ⟨22, -1, 0, 0, 0⟩ = [] := by rfl
    rw [e] at h
    cases h
  | pc + 1, hi => cases hi
theorem ret_sets (m : Md) (s : Int) (ms : List Nat) (st : Nat → Nat) (h : LeastD m (retF s ms) st) : st 0 = 0 := by
  have hb := h.bd 0 (by show 0 < 1; decide)
  refine Nat.eq_of_testBit_eq fun k => ?_
  rw [Nat.zero_testBit]
  rcases Bool.eq_false_or_eq_true ((st 0).testBit k) with e | e
  · exact (h.le _ (ret_cl m s ms) 0 k (by show 0 < 1; decide) e).elim
  · exact e
theorem least_uniqV {m : Md} {f : Fn} {s t : Nat → Nat} (h : LeastD m f s) (k : LeastD m f t) (pc : Nat) (hp : pc < f.is.length) : s pc = t pc := by
  refine Nat.eq_of_testBit_eq fun b => ?_
  rcases Bool.eq_false_or_eq_true ((s pc).testBit b) with e | e
  · have h1 := h.le _ k.cl pc b hp e
    rw [e]
    exact h1.symm
  · rcases Bool.eq_false_or_eq_true ((t pc).testBit b) with e2 | e2
    · have h1 := k.le _ h.cl pc b hp e2
      rw [e] at h1
      cases h1
    · rw [e, e2]
end Go.Proofs.YtnliooflpclcbaaGreatDoor

/- Package gantlinelaw12: one: a module that returns. -/
namespace Go.Proofs.YtnliooflpclcbaaGreatDoor
set_option maxRecDepth 100000
open Go.RowKit Go.Maps Go.ChangeShapes Go.WideShapes Go.ChangeAt Go.Deep

/-- A row of one thing that fills a block. -/
theorem row_one {α : Type} {E : El α} {w : World} {b : Nat} {cs : List Value} {t : TypeId} (hb : w.heap[b]? = some (.cells cs.toArray t)) (a : α) (hE : E.cs w a cs) : RowAt E w (some ⟨b, 0, none⟩) 1 1 [a] := by
  have hlt : b < w.heap.size := by
    rcases Nat.lt_or_ge b w.heap.size with hh | hh
    · exact hh
    · rw [Array.getElem?_eq_none hh] at hb; cases hb
  refine ⟨rfl, by unfold maxLen; omega, (fun e => by cases e), Or.inr ⟨b, 0, rfl, hlt, fun i a' hi => ?_⟩⟩
  match i, hi with
  | 0, hi =>
    cases hi
    refine ⟨cs, hE, fun j v hv => ?_⟩
    rw [cell_of_row _ _ _ _ _ _ hb]
    simpa using hv
  | i + 1, hi => cases hi
def oneI : In := ⟨22, -1, 0, 0, 0⟩
abbrev oneW1 (w : World) : World := w.alloc (.cells #[.slice none 0 0, .slice none 0 0, .slice none 0 0, .slice none 0 0, .slice (some ⟨w.heap.size + 4, 0, none⟩) 1 1, .int .i64 0] 33)
abbrev oneW2 (w : World) : World := (oneW1 w).alloc (.cells #[.bool true] 4)
abbrev oneW3 (w : World) : World := (oneW2 w).alloc (.cells #[.int .i64 22, .int .i64 (-1), .int .i64 0, .int .i64 0, .int .i64 0] 41)
abbrev oneW4 (w : World) (x : Nat) : World := (oneW3 w).alloc (.cells #[.int .u64 (x : Int)] 35)
abbrev oneF (w : World) : List Value := [.int .i64 0, .int .i64 0, .int .i64 1, .int .i64 0, .slice (some ⟨w.heap.size + 1, 0, none⟩) 1 1, .slice (some ⟨w.heap.size + 2, 0, none⟩) 1 1, .slice (some ⟨w.heap.size + 3, 0, none⟩) 1 1]
abbrev oneW (w : World) (x : Nat) : World := (oneW4 w x).alloc (.cells (oneF w).toArray 39)
set_option maxHeartbeats 2000000 in
theorem one_any (w : World) (x : Nat) : Calls Tryz.prog 7 #[.int .u64 (x : Int)] w fun e w' => e = .returned (.agg #[.slice none 0 0, .slice none 0 0, .slice none 0 0, .slice none 0 0, .slice (some ⟨w.heap.size + 4, 0, none⟩) 1 1, .int .i64 0]) ∧ w' = oneW w x := by
  go_enter Tryz.func7, Tryz.ntmps7
  go_wp2_with fail
  refine bodyPost_ret (by simp [results, Tryz.results7, go_sem]; try rfl) rfl ?_
  exact ⟨rfl, rfl⟩
theorem one_sizes (w : World) (x : Nat) : (oneW1 w).heap.size = w.heap.size + 1 ∧ (oneW2 w).heap.size = w.heap.size + 2 ∧ (oneW3 w).heap.size = w.heap.size + 3 ∧ (oneW4 w x).heap.size = w.heap.size + 4 ∧ (oneW w x).heap.size = w.heap.size + 5 := by
  have h1 : (oneW1 w).heap.size = w.heap.size + 1 := World.size_alloc ..
  have h2 : (oneW2 w).heap.size = w.heap.size + 2 := by unfold oneW2; rw [World.size_alloc, h1]
  have h3 : (oneW3 w).heap.size = w.heap.size + 3 := by unfold oneW3; rw [World.size_alloc, h2]
  have h4 : (oneW4 w x).heap.size = w.heap.size + 4 := by unfold oneW4; rw [World.size_alloc, h3]
  exact ⟨h1, h2, h3, h4, by unfold oneW; rw [World.size_alloc, h4]⟩
theorem one_g (w : World) (x : Nat) : G w (oneW w x) := ((((G.alloc w _).more _).more _).more _).more _
theorem one_b1 (w : World) (x : Nat) : (oneW w x).heap[w.heap.size + 1]? = some (.cells #[.bool true] 4) := by
  obtain ⟨h1, h2, h3, h4, h5⟩ := one_sizes w x
  have e := heap_alloc_new (oneW1 w) (.cells #[.bool true] 4)
  rw [h1] at e
  exact ((G.alloc (oneW4 w x) _).block _ (by omega)).trans (((G.alloc (oneW3 w) _).block _ (by omega)).trans (((G.alloc (oneW2 w) _).block _ (by omega)).trans e))
theorem one_b2 (w : World) (x : Nat) : (oneW w x).heap[w.heap.size + 2]? = some (.cells #[.int .i64 22, .int .i64 (-1), .int .i64 0, .int .i64 0, .int .i64 0] 41) := by
  obtain ⟨h1, h2, h3, h4, h5⟩ := one_sizes w x
  have e := heap_alloc_new (oneW2 w) (.cells #[.int .i64 22, .int .i64 (-1), .int .i64 0, .int .i64 0, .int .i64 0] 41)
  rw [h2] at e
  exact ((G.alloc (oneW4 w x) _).block _ (by omega)).trans (((G.alloc (oneW3 w) _).block _ (by omega)).trans e)
theorem one_b3 (w : World) (x : Nat) : (oneW w x).heap[w.heap.size + 3]? = some (.cells #[.int .u64 (x : Int)] 35) := by
  obtain ⟨h1, h2, h3, h4, h5⟩ := one_sizes w x
  have e := heap_alloc_new (oneW3 w) (.cells #[.int .u64 (x : Int)] 35)
  rw [h3] at e
  exact ((G.alloc (oneW4 w x) _).block _ (by omega)).trans e
theorem one_b4 (w : World) (x : Nat) : (oneW w x).heap[w.heap.size + 4]? = some (.cells (oneF w).toArray 39) := by
  obtain ⟨h1, h2, h3, h4, h5⟩ := one_sizes w x
  have e := heap_alloc_new (oneW4 w x) (.cells (oneF w).toArray 39)
  rw [h4] at e
  exact e
/-- The module that one answers. -/
def oneM (x : Nat) : Md := ⟨[], [], [], [], [⟨0, 0, 1, 0, [true], [oneI], [x]⟩], 0⟩
theorem one_rows (w : World) (x : Nat) : RowAt elB (oneW w x) (some ⟨w.heap.size + 1, 0, none⟩) 1 1 [true] ∧ RowAt elIn (oneW w x) (some ⟨w.heap.size + 2, 0, none⟩) 1 1 [oneI] ∧ RowAt elU (oneW w x) (some ⟨w.heap.size + 3, 0, none⟩) 1 1 [x] :=
  ⟨row_one (cs := [.bool true]) (one_b1 w x) true rfl, row_one (cs := [.int .i64 22, .int .i64 (-1), .int .i64 0, .int .i64 0, .int .i64 0]) (one_b2 w x) oneI rfl, row_one (cs := [.int .u64 (x : Int)]) (one_b3 w x) x rfl⟩
theorem one_mod (w : World) (x : Nat) : ModR (oneW w x) (oneM x) none 0 none 0 none 0 none 0 (some ⟨w.heap.size + 4, 0, none⟩) 1 := by
  obtain ⟨r1, r2, r3⟩ := one_rows w x
  exact ⟨RowAt.nil _, RowAt.nil _, RowAt.nil _, RowAt.nil _, row_one (cs := oneF w) (one_b4 w x) _ ⟨_, _, _, _, _, _, rfl, r1, r2, r3⟩, Nat.le_refl _⟩
theorem one_here (w : World) (x : Nat) : FnHere (oneW w x) (some ⟨w.heap.size + 4, 0, none⟩) 0 ⟨0, 0, 1, 0, [true], [oneI], [x]⟩ (some ⟨w.heap.size + 1, 0, none⟩) 1 := by
  obtain ⟨h1, h2, h3, h4, h5⟩ := one_sizes w x
  refine ⟨w.heap.size + 4, 0, some ⟨w.heap.size + 2, 0, none⟩, 1, some ⟨w.heap.size + 3, 0, none⟩, 1, rfl, by omega, fun j v hv => ?_⟩
  rw [cell_of_row _ _ _ _ _ _ (one_b4 w x)]
  simpa using hv
end Go.Proofs.YtnliooflpclcbaaGreatDoor

/- Package gantlinelaw12: a module of one function of one instruction, wherever it lies. -/
namespace Go.Proofs.YtnliooflpclcbaaGreatDoor
set_option maxRecDepth 100000
open Go.RowKit Go.Maps Go.ChangeShapes Go.WideShapes Go.ChangeAt Go.Deep

theorem row_oneC {α : Type} {E : El α} {w : World} {b : Nat} {cs : List Value} (hlt : b < w.heap.size) (hc : CellsAt w b 0 cs) (a : α) (hE : E.cs w a cs) : RowAt E w (some ⟨b, 0, none⟩) 1 1 [a] := by
  refine ⟨rfl, by unfold maxLen; omega, (fun e => by cases e), Or.inr ⟨b, 0, rfl, hlt, fun i a' hi => ?_⟩⟩
  match i, hi with
  | 0, hi =>
    cases hi
    exact ⟨cs, hE, by simpa using hc⟩
  | i + 1, hi => cases hi
structure OneAt (y : World) (kb ib mb fb : Nat) (s : Int) (i : In) (x : Nat) : Prop where
  l1 : kb < y.heap.size
  l2 : ib < y.heap.size
  l3 : mb < y.heap.size
  l4 : fb < y.heap.size
  c1 : CellsAt y kb 0 [.bool true]
  c2 : CellsAt y ib 0 [.int .i64 i.op, .int .i64 i.a, .int .i64 i.b, .int .i64 i.c, .int .i64 i.d]
  c3 : CellsAt y mb 0 [.int .u64 (x : Int)]
  c4 : CellsAt y fb 0 [.int .i64 0, .int .i64 0, .int .i64 s, .int .i64 0, .slice (some ⟨kb, 0, none⟩) 1 1, .slice (some ⟨ib, 0, none⟩) 1 1, .slice (some ⟨mb, 0, none⟩) 1 1]
theorem OneAt.g {y z : World} {kb ib mb fb : Nat} {s : Int} {i : In} {x : Nat} (h : OneAt y kb ib mb fb s i x) (g : G y z) : OneAt z kb ib mb fb s i x :=
  ⟨Nat.lt_of_lt_of_le h.l1 g.size, Nat.lt_of_lt_of_le h.l2 g.size, Nat.lt_of_lt_of_le h.l3 g.size, Nat.lt_of_lt_of_le h.l4 g.size, h.c1.kept (g.block _ h.l1), h.c2.kept (g.block _ h.l2), h.c3.kept (g.block _ h.l3), h.c4.kept (g.block _ h.l4)⟩
def fn1 (s : Int) (i : In) (x : Nat) : Fn := ⟨0, 0, s, 0, [true], [i], [x]⟩
def md1 (mn s : Int) (i : In) (x : Nat) : Md := ⟨[], [], [], [], [fn1 s i x], mn⟩
theorem OneAt.k {y : World} {kb ib mb fb : Nat} {s : Int} {i : In} {x : Nat} (h : OneAt y kb ib mb fb s i x) : RowAt elB y (some ⟨kb, 0, none⟩) 1 1 [true] := row_oneC h.l1 h.c1 true rfl
theorem OneAt.i {y : World} {kb ib mb fb : Nat} {s : Int} {i : In} {x : Nat} (h : OneAt y kb ib mb fb s i x) : RowAt elIn y (some ⟨ib, 0, none⟩) 1 1 [i] := row_oneC h.l2 h.c2 i rfl
theorem OneAt.m {y : World} {kb ib mb fb : Nat} {s : Int} {i : In} {x : Nat} (h : OneAt y kb ib mb fb s i x) : RowAt elU y (some ⟨mb, 0, none⟩) 1 1 [x] := row_oneC h.l3 h.c3 x rfl
theorem OneAt.mod {y : World} {kb ib mb fb : Nat} {s : Int} {i : In} {x : Nat} (h : OneAt y kb ib mb fb s i x) (mn : Int) : ModR y (md1 mn s i x) none 0 none 0 none 0 none 0 (some ⟨fb, 0, none⟩) 1 :=
  ⟨RowAt.nil _, RowAt.nil _, RowAt.nil _, RowAt.nil _, row_oneC h.l4 h.c4 (fn1 s i x) ⟨_, _, _, _, _, _, rfl, h.k, h.i, h.m⟩, Nat.le_refl _⟩
theorem OneAt.here {y : World} {kb ib mb fb : Nat} {s : Int} {i : In} {x : Nat} (h : OneAt y kb ib mb fb s i x) : FnHere y (some ⟨fb, 0, none⟩) 0 (fn1 s i x) (some ⟨kb, 0, none⟩) 1 :=
  ⟨fb, 0, some ⟨ib, 0, none⟩, 1, some ⟨mb, 0, none⟩, 1, rfl, h.l4, h.c4⟩
theorem oneAt_new (w : World) (x : Nat) : OneAt (oneW w x) (w.heap.size + 1) (w.heap.size + 2) (w.heap.size + 3) (w.heap.size + 4) 1 oneI x := by
  obtain ⟨h1, h2, h3, h4, h5⟩ := one_sizes w x
  refine ⟨by omega, by omega, by omega, by omega, fun j v hv => ?_, fun j v hv => ?_, fun j v hv => ?_, fun j v hv => ?_⟩
  · rw [cell_of_row _ _ _ _ _ _ (one_b1 w x)]; simpa using hv
  · rw [cell_of_row _ _ _ _ _ _ (one_b2 w x)]; simpa [oneI] using hv
  · rw [cell_of_row _ _ _ _ _ _ (one_b3 w x)]; simpa using hv
  · rw [cell_of_row _ _ _ _ _ _ (one_b4 w x)]; simpa using hv
/-- A cell is written. -/
theorem cells_set {w : World} {b j : Nat} {cs : List Value} (h : CellsAt w b 0 cs) (hj : j < cs.length) (v : Value) : CellsAt (w.setCell ⟨b, j, none⟩ v) b 0 (cs.set j v) := fun k u hk => by
  rw [Nat.zero_add]
  by_cases e : k = j
  · subst e
    rw [List.getElem?_set_self hj] at hk
    cases hk
    have h0 := h k _ (List.getElem?_eq_getElem hj)
    rw [Nat.zero_add] at h0
    exact cell_same _ h0
  · rw [List.getElem?_set_ne (fun h => e h.symm)] at hk
    rw [cell_other _ (Or.inr e)]
    have h0 := h k u hk
    rwa [Nat.zero_add] at h0
/-- The slots are written; the Op is written. -/
theorem OneAt.setS {y : World} {kb ib mb fb : Nat} {s : Int} {i : In} {x : Nat} (h : OneAt y kb ib mb fb s i x) (s' : Int) (d1 : kb ≠ fb) (d2 : ib ≠ fb) (d3 : mb ≠ fb) : OneAt (y.setCell ⟨fb, 2, none⟩ (.int .i64 s')) kb ib mb fb s' i x :=
  ⟨by rw [World.size_setCell]; exact h.l1, by rw [World.size_setCell]; exact h.l2, by rw [World.size_setCell]; exact h.l3, by rw [World.size_setCell]; exact h.l4, h.c1.kept (heap_set _ _ d1), h.c2.kept (heap_set _ _ d2), h.c3.kept (heap_set _ _ d3), cells_set h.c4 (by simp) _⟩
theorem OneAt.setOp {y : World} {kb ib mb fb : Nat} {s : Int} {op a b c d : Int} {x : Nat} (h : OneAt y kb ib mb fb s ⟨op, a, b, c, d⟩ x) (op' : Int) (d1 : kb ≠ ib) (d3 : mb ≠ ib) (d4 : fb ≠ ib) : OneAt (y.setCell ⟨ib, 0, none⟩ (.int .i64 op')) kb ib mb fb s ⟨op', a, b, c, d⟩ x :=
  ⟨by rw [World.size_setCell]; exact h.l1, by rw [World.size_setCell]; exact h.l2, by rw [World.size_setCell]; exact h.l3, by rw [World.size_setCell]; exact h.l4, h.c1.kept (heap_set _ _ d1), cells_set h.c2 (by simp) _, h.c3.kept (heap_set _ _ d3), h.c4.kept (heap_set _ _ d4)⟩
end Go.Proofs.YtnliooflpclcbaaGreatDoor

/- Package verify: the judge between two calls; a return is as it should be. -/
namespace Go.Proofs.YtnliooflpclcbaaGreatDoor
set_option maxRecDepth 100000
open Go.RowKit Go.Maps Go.ChangeShapes Go.WideShapes Go.ChangeAt Go.Deep

/-- The judge of function f, and what it leans on; w: the world ahead of the call of Check. -/
structure JC (w : World) (m : Md) (so : Option Addr) (sc : Nat) (go : Option Addr) (gc : Nat) (co : Option Addr) (cc : Nat) (ao : Option Addr) (ac : Nat) (fo : Option Addr) (fc : Nat) (f : Fn) (ko : Option Addr) (kc : Nat) (io : Option Addr) (ic : Nat) (mo : Option Addr) (mc : Nat) (tb N jb mb : Nat) (mp : Nat → Nat) (y : World) : Prop where
  g : G w y
  jl : jb < y.heap.size
  jw : w.heap.size ≤ jb
  jt : jb ≠ tb
  ml : mb < y.heap.size
  mw : w.heap.size ≤ mb
  mt : mb ≠ tb
  tw : w.heap.size ≤ tb
  tl : tb < y.heap.size
  c : CellsAt y jb 0 (judgeL m so sc go gc co cc ao ac fo fc f ko kc io ic mo mc mb (some ⟨tb, 0, none⟩) N N)
  u : UAt y mb f.is.length mp
theorem JC.gt {w : World} {m : Md} {so : Option Addr} {sc : Nat} {go : Option Addr} {gc : Nat} {co : Option Addr} {cc : Nat} {ao : Option Addr} {ac : Nat} {fo : Option Addr} {fc : Nat} {f : Fn} {ko : Option Addr} {kc : Nat} {io : Option Addr} {ic : Nat} {mo : Option Addr} {mc : Nat} {tb N jb mb : Nat} {mp : Nat → Nat} {y z : World} (h : JC w m so sc go gc co cc ao ac fo fc f ko kc io ic mo mc tb N jb mb mp y) (g : Gt tb y z) : JC w m so sc go gc co cc ao ac fo fc f ko kc io ic mo mc tb N jb mb mp z :=
  ⟨Gt.to_g h.g g h.tw, Nat.lt_of_lt_of_le h.jl g.size, h.jw, h.jt, Nat.lt_of_lt_of_le h.ml g.size, h.mw, h.mt, h.tw, Nat.lt_of_lt_of_le h.tl g.size, h.c.kept (g.block jb h.jl h.jt), ⟨Nat.lt_of_lt_of_le h.u.lt g.size, fun i hi => ⟨g.cell (h.u.c i hi).1 h.ml h.mt, (World.frozen?_of_block (a := ⟨mb, i, none⟩) (g.block mb h.ml h.mt)).trans (h.u.c i hi).2⟩⟩⟩
/-- Rows of an item that lay there. -/
def OkR (w : World) (x : It) (kv cv : Value) : Prop := ∃ ro rc ao ac, kv = .slice ro x.ks.length rc ∧ cv = .slice ao x.cs.length ac ∧ (∀ y, G w y → RowAt elB y ro x.ks.length rc x.ks) ∧ (∀ y, G w y → RowAt elCa y ao x.cs.length ac x.cs)
set_option maxHeartbeats 4000000 in
/-- A return of nothing, from a function that answers nothing. -/
theorem ret_walk {w : World} {m : Md} {so : Option Addr} {sc : Nat} {go : Option Addr} {gc : Nat} {co : Option Addr} {cc : Nat} {ao : Option Addr} {ac : Nat} {fo : Option Addr} {fc : Nat} {f : Fn} {ko : Option Addr} {kc : Nat} {io : Option Addr} {ic : Nat} {mo : Option Addr} {mc : Nat} {tb N jb mb : Nat} {mp : Nat → Nat} (B C D : Int) (pc ib ioff msb mso v1 : Nat) (hr0 : f.r = 0) (hs : f.s ≤ 1000000) (hko : RowAt elB w ko f.ks.length kc f.ks) (hkl : f.ks.length ≤ 1000000) (hil : f.is.length ≤ 1000000) (hio : io = some ⟨ib, ioff, none⟩) (hii : RowAt elIn w (some ⟨ib, ioff, none⟩) f.is.length ic f.is) (hmo : mo = some ⟨msb, mso, none⟩) (hml : f.ms.length = f.is.length) (hpc : pc < f.is.length)
    (hi : ∀ y, G w y → CellsAt y ib (ioff + pc * 5) [.int .i64 22, .int .i64 (-1), .int .i64 B, .int .i64 C, .int .i64 D]) (hv1 : ∀ y, G w y → y.cell? ⟨msb, mso + pc, none⟩ = some (.int .u64 (v1 : Int))) :
    WalkC tb jb pc ⟨⟨22, -1, B, C, D⟩, (4, 0, 0, 0), 0, 0, [], []⟩ m.ca.length m.sh.length m.gl.length m.co.length m.fn.length m.main so sc go gc co cc ao ac fo fc ib ioff ic mso f.is.length msb mc mb v1 (mp pc) (JC w m so sc go gc co cc ao ac fo fc f ko kc io ic mo mc tb N jb mb mp) (JC w m so sc go gc co cc ao ac fo fc f ko kc io ic mo mc tb N jb mb mp) (OkR w ⟨⟨22, -1, B, C, D⟩, (4, 0, 0, 0), 0, 0, [], []⟩) true true := by
  subst hio hmo
  refine ⟨fun y z h g => h.gt g.gt, fun y z h g => h.gt g.gt, fun y h => ⟨⟨?_, ?_, ?_, ?_, ?_, ?_⟩, ?_, hi y h.g⟩, fun y h => ⟨?_, ?_, hv1 y h.g, ?_⟩, fun y h => ?_, fun y kv cv h ok => ?_, fun y kv cv h ok => ?_, fun y kv cv h ok _ => ?_, fun y kv cv h ok _ => ?_, fun y kv cv h ok _ => ?_⟩
  · simpa using h.c 0 _ rfl
  · simpa using h.c 1 _ rfl
  · simpa using h.c 2 _ rfl
  · simpa using h.c 3 _ rfl
  · simpa using h.c 4 _ rfl
  · simpa using h.c 5 _ rfl
  · simpa using h.c 11 _ rfl
  · have := h.c 12 _ rfl
    rw [hml] at this
    simpa using this
  · simpa using h.c 13 _ rfl
  · exact (h.u.c pc hpc).1
  · refine (item_any w y m so sc go gc co cc ao ac fo fc 22 (-1) B C D 4 0 0 0 0 0 [] [] (fun z _ => runOf_none w z m so sc go gc co cc ao ac fo fc ⟨22, -1, B, C, D⟩ (Or.inr (Or.inl rfl))) (fun z _ => vcases_no w z m so sc go gc co cc ao ac fo fc ⟨22, -1, B, C, D⟩ (by show (22 : Int) ≠ 41; decide))).mono ?_
    rintro e w' ⟨ro, rc, co2, cc2, rfl, h1, h2, h3⟩
    exact ⟨ro, 0, rc, co2, 0, cc2, rfl, ⟨ro, rc, co2, cc2, rfl, rfl, h1, h2⟩, h3⟩
  all_goals
    obtain ⟨ro, rc, ca, cac, rfl, rfl, h1, h2⟩ := ok
    have hc8 : y.cell? ⟨jb, 8, none⟩ = some (.int .i64 f.s) := by simpa using h.c 8 _ rfl
    have hc9 : y.cell? ⟨jb, 9, none⟩ = some (.int .i64 f.r) := by simpa using h.c 9 _ rfl
    have hc10 : y.cell? ⟨jb, 10, none⟩ = some (.slice ko f.ks.length kc) := by simpa using h.c 10 _ rfl
    have hc11 : y.cell? ⟨jb, 11, none⟩ = some (.slice (some ⟨ib, ioff, none⟩) f.is.length ic) := by simpa using h.c 11 _ rfl
    have hrow := h2 y h.g
  · exact slotsThere_any y jb _ f.s _ ca cac hc8 hs hrow (Nat.zero_le _)
  · refine (named_free y jb _ _ ca cac (Or.inr (Or.inl rfl)) (fun z _ k hk => ?_)).mono (by rintro e w' ⟨rfl, g⟩; exact ⟨rfl, h.gt g.gt, g.gt⟩)
    have hk4 : k = 0 ∨ k = 1 ∨ k = 2 ∨ k = 3 := by omega
    rcases hk4 with rfl | rfl | rfl | rfl
    · exact isThere_free z jb 4 _ (Or.inr (Or.inl rfl))
    · exact isThere_free z jb 0 _ (Or.inl rfl)
    · exact isThere_free z jb 0 _ (Or.inl rfl)
    · exact isThere_free z jb 0 _ (Or.inl rfl)
  · have hh := kindsFit_any y jb ⟨⟨22, -1, B, C, D⟩, (4, 0, 0, 0), 0, 0, [], []⟩ f.r ko kc f.ks ro rc ca cac hc9 hc10 (hko.g okB h.g) hrow (Nat.zero_le _) (h1 y h.g) hkl (Or.inr (Or.inl rfl)) (Or.inl rfl) (Or.inl rfl) (Or.inl rfl) (fun c hc => by cases hc) (Or.inl rfl) (Or.inr (Or.inr (Or.inl ⟨rfl, rfl⟩)))
    rw [show (([] : List Ca).all (ckP f.ks) && prP ⟨22, -1, B, C, D⟩ f.r) = true by unfold prP; simp [hr0]] at hh
    exact hh
  · have hh := stays_any y jb pc ⟨⟨22, -1, B, C, D⟩, (4, 0, 0, 0), 0, 0, [], []⟩ (.slice ro 0 rc) ca cac (some ⟨ib, ioff, none⟩) ic f.is hrow (Nat.zero_le _) hc11 hil
    rw [show stP f.is.length pc ⟨⟨22, -1, B, C, D⟩, (4, 0, 0, 0), 0, 0, [], []⟩ = true by unfold stP; rw [show targP ⟨⟨22, -1, B, C, D⟩, (4, 0, 0, 0), 0, 0, [], []⟩ = [] from rfl]; simp [lastP]] at hh
    exact hh
  · have hh := goes_any y jb pc ⟨⟨22, -1, B, C, D⟩, (4, 0, 0, 0), 0, 0, [], []⟩ (.slice ro 0 rc) ca cac (some ⟨ib, ioff, none⟩) ic f.is hrow (Nat.zero_le _) hc11 hil (hii.g okIn h.g) (fun t ht => by cases ht)
    rw [show bkP f.is pc ⟨⟨22, -1, B, C, D⟩, (4, 0, 0, 0), 0, 0, [], []⟩ = true by unfold bkP; rw [show targP ⟨⟨22, -1, B, C, D⟩, (4, 0, 0, 0), 0, 0, [], []⟩ = [] from rfl]; rfl] at hh
    exact hh
end Go.Proofs.YtnliooflpclcbaaGreatDoor

/- Package verify: the module that returns is taken, or breaks rule 9. -/
namespace Go.Proofs.YtnliooflpclcbaaGreatDoor
set_option maxRecDepth 100000
open Go.RowKit Go.Maps Go.ChangeShapes Go.WideShapes Go.ChangeAt Go.Deep

def oneR (x : Nat) : Int := if x = 0 then 0 else 9
set_option maxHeartbeats 4000000 in
theorem one_fault {w : World} {kb ib mb0 fb : Nat} {x : Nat} (O : OneAt w kb ib mb0 fb 1 oneI x) : Calls Tryz.prog 10 #[.agg #[.slice none 0 0, .slice none 0 0, .slice none 0 0, .slice none 0 0, .slice (some ⟨fb, 0, none⟩) 1 1, .int .i64 0]] w fun e w' => e = .returned (.agg #[.int .i64 0, .int .i64 0, .int .i64 (oneR x)]) ∧ G w w' := by
  have hM : ∀ y, G w y → ModR y (md1 0 1 oneI x) none 0 none 0 none 0 none 0 (some ⟨fb, 0, none⟩) 1 := fun y g => (O.g g).mod 0
  have hF : ∀ y, G w y → FnHere y (some ⟨fb, 0, none⟩) 0 (fn1 1 oneI x) (some ⟨kb, 0, none⟩) 1 := fun y g => (O.g g).here
  have hk : ∀ y, G w y → RowAt elB y (some ⟨kb, 0, none⟩) 1 1 [true] := fun y g => (O.g g).k
  have hi : ∀ y, G w y → RowAt elIn y (some ⟨ib, 0, none⟩) 1 1 [oneI] := fun y g => (O.g g).i
  have hcell := fun y (g : G w y) => (O.g g).c4
  have hci : ∀ y, G w y → CellsAt y ib (0 + 0 * 5) [.int .i64 22, .int .i64 (-1), .int .i64 0, .int .i64 0, .int .i64 0] := fun y g => (O.g g).c2
  have hcm : ∀ y, G w y → y.cell? ⟨mb0, 0 + 0, none⟩ = some (.int .u64 (x : Int)) := fun y g => (O.g g).c3 0 _ rfl
  have H := fault_any w none 0 none 0 none 0 none 0 (fb) 0 1 0 0 0 0 1 0 (fun _ => fn1 1 oneI x) (fun _ => some ⟨kb, 0, none⟩) (fun _ => 1) (fun _ => some ⟨ib, 0, none⟩) (fun _ => 1) (fun _ => some ⟨mb0, 0, none⟩) (fun _ => 1) (fun _ _ => oneR x)
    (fun tb _ y => G w y ∧ w.heap.size ≤ tb ∧ tb < y.heap.size)
    (fun tb _ jb _ y => ∃ mb mp, mp 0 = 0 ∧ JC w (md1 0 1 oneI x) none 0 none 0 none 0 none 0 (some ⟨fb, 0, none⟩) 1 (fn1 1 oneI x) (some ⟨kb, 0, none⟩) 1 (some ⟨ib, 0, none⟩) 1 (some ⟨mb0, 0, none⟩) 1 tb 0 jb mb mp y)
    (by omega) (by omega) (fun n hn => by show 1 ≤ 100000; omega)
    (fun y g => lists_any y (md1 0 1 oneI x) none 0 none 0 none 0 none 0 _ 1 rfl rfl rfl (by show 0 ≤ 1024; omega) (by show 1 ≤ 128; omega))
    (fun y g => main_in y (md1 0 1 oneI x) none 0 none 0 none 0 none 0 _ 1 0 (fn1 1 oneI x) _ 1 rfl (by show 0 < 1; omega) (hF y g) rfl rfl rfl)
    (fun n hn y g => by obtain rfl : n = 0 := by omega
                        exact hcell y g)
    (fun n hn y g => (funcGood_any y (fn1 1 oneI x) (some ⟨kb, 0, none⟩) 1 (some ⟨ib, 0, none⟩) 1 (some ⟨mb0, 0, none⟩) 1).mono (by rintro e w' ⟨rfl, g'⟩; exact ⟨rfl, g'⟩))
    (fun y g => ⟨g.more _, g.size, by rw [World.size_alloc]; omega⟩)
    (fun tb n y h => h.1) (fun tb n jb pc y h => by obtain ⟨mb, mp, -, J⟩ := h; exact J.g)
    (fun tb n y z h g => ⟨h.1.trans g, h.2.1, Nat.lt_of_lt_of_le h.2.2 g.size⟩)
    (fun tb n y hn h => by
      refine (judge_any y (md1 0 1 oneI x) none 0 none 0 none 0 none 0 (some ⟨fb, 0, none⟩) 1 (fn1 1 oneI x) (some ⟨kb, 0, none⟩) 1 (some ⟨ib, 0, none⟩) 1 (some ⟨mb0, 0, none⟩) 1 (some ⟨tb, 0, none⟩) 0 0 (hM y h.1) (hk y h.1) (hi y h.1) (fun i hi => by simp [fn1, oneI] at hi; subst hi; unfold oIn oI; simp) (fun s hs => by cases hs) (by show 1 * (4 * 0) + 1 ≤ 100000; omega) (by show 0 ≤ 100000; omega) (by show 1 ≤ 1000000; omega)).mono ?_
      rintro e w' ⟨jb, mb, st, rfl, j1, j2, j3, j4, j5, j6, j7⟩
      refine ⟨jb, rfl, ⟨mb, _, ?_, ⟨h.1.trans j7, j1, Nat.le_trans h.1.size j2, by omega, j4.lt, Nat.le_trans h.1.size j5, by omega, h.2.1, Nat.lt_of_lt_of_le h.2.2 j7.size, j3, j4⟩⟩, j7⟩
      show st 0 &&& kndP [true] = 0
      rw [ret_sets (md1 0 1 oneI x) 1 [x] st j6]
      exact Nat.zero_and _)
    (fun tb n jb pc y hn hpc h => by
      obtain ⟨mb, mp, hmp, J⟩ := h
      obtain rfl : pc = 0 := by have : pc < 1 := hpc; omega
      have W := ret_walk (w := w) (m := md1 0 1 oneI x) (f := fn1 1 oneI x) (so := none) (sc := 0) (go := none) (gc := 0) (co := none) (cc := 0) (ao := none) (ac := 0) (fo := some ⟨fb, 0, none⟩) (fc := 1) (ko := some ⟨kb, 0, none⟩) (kc := 1) (io := some ⟨ib, 0, none⟩) (ic := 1) (mo := some ⟨mb0, 0, none⟩) (mc := 1) (tb := tb) (N := 0) (jb := jb) (mb := mb) (mp := mp) 0 0 0 0 (ib) 0 (mb0) 0 x rfl (by show (1 : Int) ≤ 1000000; omega) (hk w (G.refl w)) (by show 1 ≤ 1000000; omega) (by show 1 ≤ 1000000; omega) rfl (hi w (G.refl w)) rfl rfl (by show 0 < 1; omega) hci hcm
      refine (broken_any y tb jb 0 _ _ _ _ _ _ _ none 0 none 0 none 0 none 0 (some ⟨fb, 0, none⟩) 1 (ib) 0 1 0 1 (mb0) 1 mb x (mp 0) _ _ _ true true W J J.tl (by omega) rfl (by show (22 : Int) ≠ 29; decide) (by show (22 : Int) ≠ 32; decide)).mono ?_
      rintro e w' ⟨rfl, J2, gt⟩
      refine ⟨?_, J2.g, fun _ => ⟨mb, mp, hmp, J2⟩, gt⟩
      rw [hmp]
      unfold ruleP oneR
      by_cases hx : x = 0 <;> simp [hx])
    (fun tb n jb y h => by
      obtain ⟨mb, mp, -, J⟩ := h
      exact ⟨J.g, J.tw, J.tl⟩)
  refine H.mono ?_
  rintro e w' ⟨h, g⟩
  refine ⟨?_, g⟩
  rcases h with ⟨n, pc, hn, hpc, hr, hne, rfl⟩ | ⟨hr, rfl⟩
  · obtain rfl : n = 0 := by omega
    obtain rfl : pc = 0 := by have : pc < 1 := hpc; omega
    rfl
  · have h0 : oneR x = 0 := hr.1 0 0 (by omega) (by show 0 < 1; omega)
    rw [h0]
end Go.Proofs.YtnliooflpclcbaaGreatDoor

/- Package gantlinelaw12: awake answers true. -/
namespace Go.Proofs.YtnliooflpclcbaaGreatDoor
set_option maxRecDepth 100000
open Go.RowKit Go.Maps Go.ChangeShapes Go.WideShapes Go.ChangeAt Go.Deep

theorem build_f9 (w : World) : (Instr.build 24 #[(2, .int .i64 9)]).run Tryz.prog w = .ok (.agg #[.int .i64 0, .int .i64 0, .int .i64 9]) w := by kernel_rfl
/-- one, and what Check and Module say of it. -/
theorem one_says (w : World) (x : Nat) : Calls Tryz.prog 7 #[.int .u64 (x : Int)] w fun e w' => ∃ q, e = .returned (.agg #[.slice none 0 0, .slice none 0 0, .slice none 0 0, .slice none 0 0, .slice (some ⟨q, 0, none⟩) 1 1, .int .i64 0]) ∧ G w w' ∧ Hid (Calls Tryz.prog 6 #[.agg #[.slice none 0 0, .slice none 0 0, .slice none 0 0, .slice none 0 0, .slice (some ⟨q, 0, none⟩) 1 1, .int .i64 0]] w' fun e w2 => e = .returned (.tuple #[.agg #[.int .i64 0, .int .i64 0, .int .i64 (oneR x)], .bool (okF 0 0 (oneR x))]) ∧ G w' w2) ∧ Hid (Calls Tryz.prog 9 #[.agg #[.slice none 0 0, .slice none 0 0, .slice none 0 0, .slice none 0 0, .slice (some ⟨q, 0, none⟩) 1 1, .int .i64 0]] w' fun e w2 => e = .returned (.bool (okF 0 0 (oneR x))) ∧ G w' w2) := by
  refine (one_any w x).mono ?_
  rintro e w' ⟨rfl, rfl⟩
  exact ⟨_, rfl, one_g w x, hide (check_of _ none 0 none 0 none 0 none 0 _ 1 0 0 0 0 1 0 0 0 (oneR x) (fun y g => one_fault ((oneAt_new w x).g g))), hide (module_of _ none 0 none 0 none 0 none 0 _ 1 0 0 0 0 1 0 0 0 (oneR x) (fun y g => one_fault ((oneAt_new w x).g g)))⟩
set_option maxHeartbeats 4000000 in
theorem awake_any (w : World) : Calls Tryz.prog 5 #[] w fun e w' => e = .returned (.bool true) ∧ G w w' := by
  have C0 : Hid (∀ y, Calls Tryz.prog 7 #[.int .u64 0] y fun e w' => ∃ q, e = .returned (.agg #[.slice none 0 0, .slice none 0 0, .slice none 0 0, .slice none 0 0, .slice (some ⟨q, 0, none⟩) 1 1, .int .i64 0]) ∧ G y w' ∧ Hid (Calls Tryz.prog 6 #[.agg #[.slice none 0 0, .slice none 0 0, .slice none 0 0, .slice none 0 0, .slice (some ⟨q, 0, none⟩) 1 1, .int .i64 0]] w' fun e w2 => e = .returned (.tuple #[.agg #[.int .i64 0, .int .i64 0, .int .i64 0], .bool true]) ∧ G w' w2) ∧ Hid (Calls Tryz.prog 9 #[.agg #[.slice none 0 0, .slice none 0 0, .slice none 0 0, .slice none 0 0, .slice (some ⟨q, 0, none⟩) 1 1, .int .i64 0]] w' fun e w2 => e = .returned (.bool true) ∧ G w' w2)) := hide fun y => one_says y 0
  have C1 : Hid (∀ y, Calls Tryz.prog 7 #[.int .u64 1] y fun e w' => ∃ q, e = .returned (.agg #[.slice none 0 0, .slice none 0 0, .slice none 0 0, .slice none 0 0, .slice (some ⟨q, 0, none⟩) 1 1, .int .i64 0]) ∧ G y w' ∧ Hid (Calls Tryz.prog 6 #[.agg #[.slice none 0 0, .slice none 0 0, .slice none 0 0, .slice none 0 0, .slice (some ⟨q, 0, none⟩) 1 1, .int .i64 0]] w' fun e w2 => e = .returned (.tuple #[.agg #[.int .i64 0, .int .i64 0, .int .i64 9], .bool false]) ∧ G w' w2) ∧ Hid (Calls Tryz.prog 9 #[.agg #[.slice none 0 0, .slice none 0 0, .slice none 0 0, .slice none 0 0, .slice (some ⟨q, 0, none⟩) 1 1, .int .i64 0]] w' fun e w2 => e = .returned (.bool false) ∧ G w' w2)) := hide fun y => one_says y 1
  have b0 := build_f0
  have b9 := build_f9
  go_enter Tryz.func5, Tryz.ntmps5
  go_wp2_with fail
  refine (unhide C0 _).mono ?_
  rintro e w1 ⟨q1, rfl, g1, hc1, -⟩
  replace g1 := hide g1
  go_wp2_with fail
  refine (unhide hc1).mono ?_
  rintro e w2 ⟨rfl, g2⟩
  have h2 := hide ((unhide g1).trans g2)
  clear g1 g2 hc1
  go_upto_region 2 with fail
  obtain ⟨W2, hW2⟩ : ∃ W2, W2 = w2.alloc (.cells #[.int .i64 0, .int .i64 0, .int .i64 0] 24) := ⟨_, rfl⟩
  have k0 : W2.cell? ⟨w2.heap.size, 0, none⟩ = some (.int .i64 0) := by rw [hW2, World.cell?_alloc_new]; rfl
  have k1 : W2.cell? ⟨w2.heap.size, 1, none⟩ = some (.int .i64 0) := by rw [hW2, World.cell?_alloc_new]; rfl
  have k2 : W2.cell? ⟨w2.heap.size, 2, none⟩ = some (.int .i64 0) := by rw [hW2, World.cell?_alloc_new]; rfl
  have h3 : Hid (G w W2) := hide (by rw [hW2]; exact (unhide h2).more _)
  rw [← hW2]
  clear hW2 h2
  go_wp2_with fail
  refine (unhide C1 _).mono ?_
  rintro e w3 ⟨q3, rfl, g3, hc3, -⟩
  replace g3 := hide g3
  go_wp2_with fail
  refine (unhide hc3).mono ?_
  rintro e w4 ⟨rfl, g4⟩
  have g34 := (unhide g3).trans g4
  have l0 := g34.cell k0
  have l1 := g34.cell k1
  have l2 := g34.cell k2
  have h4 := hide ((unhide h3).trans g34)
  clear g3 g4 hc3 k0 k1 k2 h3 g34
  go_upto_region 3 with fail
  obtain ⟨W4, hW4⟩ : ∃ W4, W4 = w4.alloc (.cells #[.int .i64 0, .int .i64 0, .int .i64 9] 24) := ⟨_, rfl⟩
  have j0 : W4.cell? ⟨w4.heap.size, 0, none⟩ = some (.int .i64 0) := by rw [hW4, World.cell?_alloc_new]; rfl
  have j1 : W4.cell? ⟨w4.heap.size, 1, none⟩ = some (.int .i64 0) := by rw [hW4, World.cell?_alloc_new]; rfl
  have j2 : W4.cell? ⟨w4.heap.size, 2, none⟩ = some (.int .i64 9) := by rw [hW4, World.cell?_alloc_new]; rfl
  have g44 : G w4 W4 := by rw [hW4]; exact G.alloc _ _
  have i0 := g44.cell l0
  have i1 := g44.cell l1
  have i2 := g44.cell l2
  have h5 := hide ((unhide h4).trans g44)
  rw [← hW4]
  clear hW4 h4 g44 l0 l1 l2
  go_wp2_with fail
  refine (unhide C0 _).mono ?_
  rintro e w5 ⟨q5, rfl, g5, -, hm5⟩
  have h6 := hide ((unhide h5).trans g5)
  clear g5 h5 C0 i0 i1 i2 j0 j1 j2
  go_wp2_with fail
  refine (unhide hm5).mono ?_
  rintro e w6 ⟨rfl, g6⟩
  have h7 := hide ((unhide h6).trans g6)
  clear g6 h6 hm5
  go_wp2_with fail
  refine (unhide C1 _).mono ?_
  rintro e w7 ⟨q7, rfl, g7, -, hm7⟩
  have h8 := hide ((unhide h7).trans g7)
  clear g7 h7 C1
  go_wp2_with fail
  refine (unhide hm7).mono ?_
  rintro e w8 ⟨rfl, g8⟩
  have h9 := hide ((unhide h8).trans g8)
  clear g8 h8 hm7
  go_wp2_with fail
  go_ret
  exact ⟨rfl, unhide h9⟩
end Go.Proofs.YtnliooflpclcbaaGreatDoor

/- Package verify: an instruction that names nothing is as it should be, or goes back to no poll; a module of one such instruction. -/
namespace Go.Proofs.YtnliooflpclcbaaGreatDoor
set_option maxRecDepth 100000
open Go.RowKit Go.Maps Go.ChangeShapes Go.WideShapes Go.ChangeAt Go.Deep

/-- What Check says. -/
abbrev ckTo (w : World) (a b c : Int) : Ending → World → Prop := fun e w2 => e = .returned (.tuple #[.agg #[.int .i64 a, .int .i64 b, .int .i64 c], .bool (okF a b c)]) ∧ G w w2
/-- An instruction with what it names: no run, no cases. -/
abbrev itF (op a b c d : Int) (r0 r1 r2 r3 : Nat) : It := ⟨⟨op, a, b, c, d⟩, (r0, r1, r2, r3), 0, 0, [], []⟩
set_option maxHeartbeats 4000000 in
/-- An instruction that is as it should be but for what it names, and where it goes back to. -/
theorem gen_walk {w : World} {m : Md} {so : Option Addr} {sc : Nat} {go : Option Addr} {gc : Nat} {co : Option Addr} {cc : Nat} {ao : Option Addr} {ac : Nat} {fo : Option Addr} {fc : Nat} {f : Fn} {ko : Option Addr} {kc : Nat} {io : Option Addr} {ic : Nat} {mo : Option Addr} {mc : Nat} {tb N jb mb : Nat} {mp : Nat → Nat} {Ex Ex2 : World → Prop} {bN : Bool} (op a b c d : Int) (r0 r1 r2 r3 : Nat) (first count : Int) (ks : List Bool) (cs : List Ca) (pc ib ioff msb mso v1 : Nat) (hEx : ∀ y z, Ex y → G y z → Ex z) (hEx2 : ∀ y z, Ex2 y → G y z → Ex2 z)
    (HR : ∀ y, G w y → Calls Tryz.prog 43 #[agM m so sc go gc co cc ao ac fo fc, agI ⟨op, a, b, c, d⟩] y (RnTo w y (first, count, ks)))
    (HC : ∀ y, G w y → Calls Tryz.prog 44 #[agM m so sc go gc co cc ao ac fo fc, agI ⟨op, a, b, c, d⟩] y (CaS w y cs))
    (HN : ∀ y ro rc ca cac, JC w m so sc go gc co cc ao ac fo fc f ko kc io ic mo mc tb N jb mb mp y → Ex y → RowAt elB y ro ks.length rc ks → RowAt elCa y ca cs.length cac cs → Calls Tryz.prog 27 #[.pointer (some ⟨jb, 0, none⟩), .agg (itL ⟨⟨op, a, b, c, d⟩, (r0, r1, r2, r3), first, count, ks, cs⟩ (.slice ro ks.length rc) (.slice ca cs.length cac))] y fun e w' => e = .returned (.bool bN) ∧ Ex2 w' ∧ Gt tb y w')
    (hk5 : op = 18 ∨ (op = 20 ∧ a = -1) ∨ (op = 22 ∧ a = -1) ∨ op = 41 ∨ op = 43)
    (f0 : FreeR r0) (f1 : FreeR r1) (f2 : FreeR r2) (f3 : FreeR r3) (hcl : cs.length ≤ 100000)
    (hcc : ∀ c ∈ cs, c.k = 2 ∨ inR c.c f.ks.length = true) (hrk : ks = [] ∨ (0 ≤ first ∧ rkP f.ks first ks))
    (hsl : slotsP f.s ⟨⟨op, a, b, c, d⟩, (r0, r1, r2, r3), first, count, ks, cs⟩ = true) (hpr : (cs.all (ckP f.ks) && prP ⟨op, a, b, c, d⟩ f.r) = true) (hst : stP f.is.length pc ⟨⟨op, a, b, c, d⟩, (r0, r1, r2, r3), first, count, ks, cs⟩ = true) (htg : ∀ t ∈ targP ⟨⟨op, a, b, c, d⟩, (r0, r1, r2, r3), first, count, ks, cs⟩, inR t f.is.length = true)
    (hs : f.s ≤ 1000000) (hko : RowAt elB w ko f.ks.length kc f.ks) (hkl : f.ks.length ≤ 1000000) (hil : f.is.length ≤ 1000000) (hio : io = some ⟨ib, ioff, none⟩) (hii : RowAt elIn w (some ⟨ib, ioff, none⟩) f.is.length ic f.is) (hmo : mo = some ⟨msb, mso, none⟩) (hml : f.ms.length = f.is.length) (hpc : pc < f.is.length)
    (hi : ∀ y, G w y → CellsAt y ib (ioff + pc * 5) [.int .i64 op, .int .i64 a, .int .i64 b, .int .i64 c, .int .i64 d]) (hv1 : ∀ y, G w y → y.cell? ⟨msb, mso + pc, none⟩ = some (.int .u64 (v1 : Int))) :
    WalkC tb jb pc ⟨⟨op, a, b, c, d⟩, (r0, r1, r2, r3), first, count, ks, cs⟩ m.ca.length m.sh.length m.gl.length m.co.length m.fn.length m.main so sc go gc co cc ao ac fo fc ib ioff ic mso f.is.length msb mc mb v1 (mp pc) (fun y => JC w m so sc go gc co cc ao ac fo fc f ko kc io ic mo mc tb N jb mb mp y ∧ Ex y) (fun y => JC w m so sc go gc co cc ao ac fo fc f ko kc io ic mo mc tb N jb mb mp y ∧ Ex2 y) (OkR w ⟨⟨op, a, b, c, d⟩, (r0, r1, r2, r3), first, count, ks, cs⟩) bN (bkP f.is pc ⟨⟨op, a, b, c, d⟩, (r0, r1, r2, r3), first, count, ks, cs⟩) := by
  subst hio hmo
  have HR' := HR
  refine ⟨fun y z h g => ⟨h.1.gt g.gt, hEx y z h.2 g⟩, fun y z h g => ⟨h.1.gt g.gt, hEx2 y z h.2 g⟩, fun y h => ⟨⟨?_, ?_, ?_, ?_, ?_, ?_⟩, ?_, hi y h.1.g⟩, fun y h => ⟨?_, ?_, hv1 y h.1.g, ?_⟩, fun y h => ?_, fun y kv cv h ok => ?_, fun y kv cv h ok => ?_, fun y kv cv h ok _ => ?_, fun y kv cv h ok _ => ?_, fun y kv cv h ok _ => ?_⟩
  · simpa using h.1.c 0 _ rfl
  · simpa using h.1.c 1 _ rfl
  · simpa using h.1.c 2 _ rfl
  · simpa using h.1.c 3 _ rfl
  · simpa using h.1.c 4 _ rfl
  · simpa using h.1.c 5 _ rfl
  · simpa using h.1.c 11 _ rfl
  · have := h.1.c 12 _ rfl
    rw [hml] at this
    simpa using this
  · simpa using h.1.c 13 _ rfl
  · exact (h.1.u.c pc hpc).1
  · refine (item_any w y m so sc go gc co cc ao ac fo fc op a b c d r0 r1 r2 r3 first count ks cs (fun z g => HR' z (h.1.g.trans g)) (fun z g => HC z (h.1.g.trans g))).mono ?_
    rintro e w' ⟨ro, rc, co2, cc2, rfl, h1, h2, h3⟩
    exact ⟨ro, ks.length, rc, co2, cs.length, cc2, rfl, ⟨ro, rc, co2, cc2, rfl, rfl, h1, h2⟩, h3⟩
  all_goals
    obtain ⟨ro, rc, ca, cac, rfl, rfl, h1, h2⟩ := ok
    have hc8 : y.cell? ⟨jb, 8, none⟩ = some (.int .i64 f.s) := by simpa using h.1.c 8 _ rfl
    have hc9 : y.cell? ⟨jb, 9, none⟩ = some (.int .i64 f.r) := by simpa using h.1.c 9 _ rfl
    have hc10 : y.cell? ⟨jb, 10, none⟩ = some (.slice ko f.ks.length kc) := by simpa using h.1.c 10 _ rfl
    have hc11 : y.cell? ⟨jb, 11, none⟩ = some (.slice (some ⟨ib, ioff, none⟩) f.is.length ic) := by simpa using h.1.c 11 _ rfl
    have hrow := h2 y h.1.g
  · have hh := slotsThere_any y jb ⟨⟨op, a, b, c, d⟩, (r0, r1, r2, r3), first, count, ks, cs⟩ f.s (.slice ro ks.length rc) ca cac hc8 hs hrow (by show cs.length ≤ 1000000; omega)
    rw [hsl] at hh
    exact hh
  · exact (HN y ro rc ca cac h.1 h.2 (h1 y h.1.g) hrow).mono (by rintro e w' ⟨rfl, e2, g⟩; exact ⟨rfl, ⟨h.1.gt g, e2⟩, g⟩)
  · have hh := kindsFit_any y jb ⟨⟨op, a, b, c, d⟩, (r0, r1, r2, r3), first, count, ks, cs⟩ f.r ko kc f.ks ro rc ca cac hc9 hc10 (hko.g okB h.1.g) hrow (by show cs.length ≤ 1000000; omega) (h1 y h.1.g) hkl f0 f1 f2 f3 hcc hrk hk5
    rw [show ((⟨⟨op, a, b, c, d⟩, (r0, r1, r2, r3), first, count, ks, cs⟩ : It).cs.all (ckP f.ks) && prP (⟨⟨op, a, b, c, d⟩, (r0, r1, r2, r3), first, count, ks, cs⟩ : It).i f.r) = true from hpr] at hh
    exact hh
  · have hh := stays_any y jb pc ⟨⟨op, a, b, c, d⟩, (r0, r1, r2, r3), first, count, ks, cs⟩ (.slice ro ks.length rc) ca cac (some ⟨ib, ioff, none⟩) ic f.is hrow hcl hc11 hil
    rw [hst] at hh
    exact hh
  · exact goes_any y jb pc ⟨⟨op, a, b, c, d⟩, (r0, r1, r2, r3), first, count, ks, cs⟩ (.slice ro ks.length rc) ca cac (some ⟨ib, ioff, none⟩) ic f.is hrow hcl hc11 hil (hii.g okIn h.1.g) htg
set_option maxHeartbeats 4000000 in
/-- An instruction that names nothing. -/
theorem free_walk {w : World} {m : Md} {so : Option Addr} {sc : Nat} {go : Option Addr} {gc : Nat} {co : Option Addr} {cc : Nat} {ao : Option Addr} {ac : Nat} {fo : Option Addr} {fc : Nat} {f : Fn} {ko : Option Addr} {kc : Nat} {io : Option Addr} {ic : Nat} {mo : Option Addr} {mc : Nat} {tb N jb mb : Nat} {mp : Nat → Nat} {Ex : World → Prop} (op a b c d : Int) (r0 r1 r2 r3 : Nat) (pc ib ioff msb mso v1 : Nat) (hEx : ∀ y z, Ex y → G y z → Ex z)
    (hop : op = 18 ∨ (op = 22 ∧ a = -1) ∨ op = 43) (hF : ∀ k, k < 4 → roleAt (r0, r1, r2, r3) k = 0 ∨ roleAt (r0, r1, r2, r3) k = 4 ∨ roleAt (r0, r1, r2, r3) k = 6 ∨ roleAt (r0, r1, r2, r3) k = 15)
    (hsl : slotsP f.s (itF op a b c d r0 r1 r2 r3) = true) (hpr : prP ⟨op, a, b, c, d⟩ f.r = true) (hst : stP f.is.length pc (itF op a b c d r0 r1 r2 r3) = true) (htg : ∀ t ∈ targP (itF op a b c d r0 r1 r2 r3), inR t f.is.length = true)
    (hs : f.s ≤ 1000000) (hko : RowAt elB w ko f.ks.length kc f.ks) (hkl : f.ks.length ≤ 1000000) (hil : f.is.length ≤ 1000000) (hio : io = some ⟨ib, ioff, none⟩) (hii : RowAt elIn w (some ⟨ib, ioff, none⟩) f.is.length ic f.is) (hmo : mo = some ⟨msb, mso, none⟩) (hml : f.ms.length = f.is.length) (hpc : pc < f.is.length)
    (hi : ∀ y, G w y → CellsAt y ib (ioff + pc * 5) [.int .i64 op, .int .i64 a, .int .i64 b, .int .i64 c, .int .i64 d]) (hv1 : ∀ y, G w y → y.cell? ⟨msb, mso + pc, none⟩ = some (.int .u64 (v1 : Int))) :
    WalkC tb jb pc (itF op a b c d r0 r1 r2 r3) m.ca.length m.sh.length m.gl.length m.co.length m.fn.length m.main so sc go gc co cc ao ac fo fc ib ioff ic mso f.is.length msb mc mb v1 (mp pc) (fun y => JC w m so sc go gc co cc ao ac fo fc f ko kc io ic mo mc tb N jb mb mp y ∧ Ex y) (fun y => JC w m so sc go gc co cc ao ac fo fc f ko kc io ic mo mc tb N jb mb mp y ∧ Ex y) (OkR w (itF op a b c d r0 r1 r2 r3)) true (bkP f.is pc (itF op a b c d r0 r1 r2 r3)) := by
  have hr4 : op = 18 ∨ op = 22 ∨ op = 41 ∨ op = 43 := by
    rcases hop with h | ⟨h, -⟩ | h
    · exact Or.inl h
    · exact Or.inr (Or.inl h)
    · exact Or.inr (Or.inr (Or.inr h))
  have hr3 : op = 18 ∨ op = 22 ∨ op = 43 := by
    rcases hop with h | ⟨h, -⟩ | h
    · exact Or.inl h
    · exact Or.inr (Or.inl h)
    · exact Or.inr (Or.inr h)
  have h41 : op ≠ 41 := by rcases hr3 with h | h | h <;> rw [h] <;> decide
  have hk5 : op = 18 ∨ (op = 20 ∧ a = -1) ∨ (op = 22 ∧ a = -1) ∨ op = 41 ∨ op = 43 := by
    rcases hop with h | h | h
    · exact Or.inl h
    · exact Or.inr (Or.inr (Or.inl h))
    · exact Or.inr (Or.inr (Or.inr (Or.inr h)))
  have fr : ∀ k, k < 4 → FreeR (roleAt (r0, r1, r2, r3) k) := fun k hk => by
    rcases hF k hk with h | h | h | h
    · exact Or.inl h
    · exact Or.inr (Or.inl h)
    · exact Or.inr (Or.inr (Or.inl h))
    · exact Or.inr (Or.inr (Or.inr (Or.inr h)))
  exact gen_walk (Ex := Ex) (Ex2 := Ex) (bN := true) op a b c d r0 r1 r2 r3 0 0 [] [] pc ib ioff msb mso v1 hEx hEx (fun y _ => runOf_none w y m so sc go gc co cc ao ac fo fc ⟨op, a, b, c, d⟩ hr4) (fun y _ => vcases_no w y m so sc go gc co cc ao ac fo fc ⟨op, a, b, c, d⟩ h41)
    (fun y ro rc ca cac J E _ _ => (named_free y jb (itF op a b c d r0 r1 r2 r3) (.slice ro 0 rc) ca cac hr3 (fun z _ k hk => isThere_free z jb _ _ (hF k hk))).mono (by rintro e w' ⟨rfl, g⟩; exact ⟨rfl, hEx _ _ E g, g.gt⟩))
    hk5 (fr 0 (by decide)) (fr 1 (by decide)) (fr 2 (by decide)) (fr 3 (by decide)) (Nat.zero_le _) (fun c hc => by cases hc) (Or.inl rfl) hsl (by rw [hpr]; rfl) hst htg hs hko hkl hil hio hii hmo hml hpc hi hv1
set_option maxHeartbeats 4000000 in
/-- A module of one instruction that is broken by rule r. -/
theorem one_faultG {w : World} {kb ib mb0 fb : Nat} {x : Nat} (i : In) (hoi : oIn i) (r : Int) (hr : r ≠ 0) (O : OneAt w kb ib mb0 fb 1 i x)
    (HB : ∀ tb jb mb mp y, JC w (md1 0 1 i x) none 0 none 0 none 0 none 0 (some ⟨fb, 0, none⟩) 1 (fn1 1 i x) (some ⟨kb, 0, none⟩) 1 (some ⟨ib, 0, none⟩) 1 (some ⟨mb0, 0, none⟩) 1 tb 0 jb mb mp y → Calls Tryz.prog 17 #[.pointer (some ⟨jb, 0, none⟩), .int .i64 ((0 : Nat) : Int)] y fun e w' => e = .returned (.int .i64 r) ∧ Gt tb y w') :
    Calls Tryz.prog 10 #[.agg #[.slice none 0 0, .slice none 0 0, .slice none 0 0, .slice none 0 0, .slice (some ⟨fb, 0, none⟩) 1 1, .int .i64 0]] w fun e w' => e = .returned (.agg #[.int .i64 0, .int .i64 0, .int .i64 r]) ∧ G w w' := by
  have hM : ∀ y, G w y → ModR y (md1 0 1 i x) none 0 none 0 none 0 none 0 (some ⟨fb, 0, none⟩) 1 := fun y g => (O.g g).mod 0
  have hF : ∀ y, G w y → FnHere y (some ⟨fb, 0, none⟩) 0 (fn1 1 i x) (some ⟨kb, 0, none⟩) 1 := fun y g => (O.g g).here
  have hk : ∀ y, G w y → RowAt elB y (some ⟨kb, 0, none⟩) 1 1 [true] := fun y g => (O.g g).k
  have hi : ∀ y, G w y → RowAt elIn y (some ⟨ib, 0, none⟩) 1 1 [i] := fun y g => (O.g g).i
  have hcell := fun y (g : G w y) => (O.g g).c4
  have H := fault_any w none 0 none 0 none 0 none 0 (fb) 0 1 0 0 0 0 1 0 (fun _ => fn1 1 i x) (fun _ => some ⟨kb, 0, none⟩) (fun _ => 1) (fun _ => some ⟨ib, 0, none⟩) (fun _ => 1) (fun _ => some ⟨mb0, 0, none⟩) (fun _ => 1) (fun _ _ => r)
    (fun tb _ y => G w y ∧ w.heap.size ≤ tb ∧ tb < y.heap.size)
    (fun tb _ jb _ y => ∃ mb mp, JC w (md1 0 1 i x) none 0 none 0 none 0 none 0 (some ⟨fb, 0, none⟩) 1 (fn1 1 i x) (some ⟨kb, 0, none⟩) 1 (some ⟨ib, 0, none⟩) 1 (some ⟨mb0, 0, none⟩) 1 tb 0 jb mb mp y)
    (by omega) (by omega) (fun n hn => by show 1 ≤ 100000; omega)
    (fun y g => lists_any y (md1 0 1 i x) none 0 none 0 none 0 none 0 _ 1 rfl rfl rfl (by show 0 ≤ 1024; omega) (by show 1 ≤ 128; omega))
    (fun y g => main_in y (md1 0 1 i x) none 0 none 0 none 0 none 0 _ 1 0 (fn1 1 i x) _ 1 rfl (by show 0 < 1; omega) (hF y g) rfl rfl rfl)
    (fun n hn y g => by obtain rfl : n = 0 := by omega
                        exact hcell y g)
    (fun n hn y g => (funcGood_any y (fn1 1 i x) (some ⟨kb, 0, none⟩) 1 (some ⟨ib, 0, none⟩) 1 (some ⟨mb0, 0, none⟩) 1).mono (by rintro e w' ⟨rfl, g'⟩; exact ⟨rfl, g'⟩))
    (fun y g => ⟨g.more _, g.size, by rw [World.size_alloc]; omega⟩)
    (fun tb n y h => h.1) (fun tb n jb pc y h => by obtain ⟨mb, mp, J⟩ := h; exact J.g)
    (fun tb n y z h g => ⟨h.1.trans g, h.2.1, Nat.lt_of_lt_of_le h.2.2 g.size⟩)
    (fun tb n y hn h => by
      refine (judge_any y (md1 0 1 i x) none 0 none 0 none 0 none 0 (some ⟨fb, 0, none⟩) 1 (fn1 1 i x) (some ⟨kb, 0, none⟩) 1 (some ⟨ib, 0, none⟩) 1 (some ⟨mb0, 0, none⟩) 1 (some ⟨tb, 0, none⟩) 0 0 (hM y h.1) (hk y h.1) (hi y h.1) (fun j hj => by simp [fn1] at hj; subst hj; exact hoi) (fun s hs => by cases hs) (by show 1 * (4 * 0) + 1 ≤ 100000; omega) (by show 0 ≤ 100000; omega) (by show 1 ≤ 1000000; omega)).mono ?_
      rintro e w' ⟨jb, mb, st, rfl, j1, j2, j3, j4, j5, j6, j7⟩
      exact ⟨jb, rfl, ⟨mb, _, ⟨h.1.trans j7, j1, Nat.le_trans h.1.size j2, by omega, j4.lt, Nat.le_trans h.1.size j5, by omega, h.2.1, Nat.lt_of_lt_of_le h.2.2 j7.size, j3, j4⟩⟩, j7⟩)
    (fun tb n jb pc y hn hpc h => by
      obtain ⟨mb, mp, J⟩ := h
      obtain rfl : pc = 0 := by have : pc < 1 := hpc; omega
      refine (HB tb jb mb mp y J).mono ?_
      rintro e w' ⟨rfl, gt⟩
      exact ⟨rfl, Gt.to_g J.g gt J.tw, fun h => (hr h).elim, gt⟩)
    (fun tb n jb y h => by
      obtain ⟨mb, mp, J⟩ := h
      exact ⟨J.g, J.tw, J.tl⟩)
  refine H.mono ?_
  rintro e w' ⟨h, g⟩
  refine ⟨?_, g⟩
  rcases h with ⟨n, pc, hn, hpc, _, hne, rfl⟩ | ⟨h0, rfl⟩
  · obtain rfl : n = 0 := by omega
    obtain rfl : pc = 0 := by have : pc < 1 := hpc; omega
    rfl
  · exact (hr (h0.1 0 0 (by omega) (by show 0 < 1; omega))).elim
end Go.Proofs.YtnliooflpclcbaaGreatDoor

/- Package verify: the five modules of VerifyKnown, and what Check says of each. -/
namespace Go.Proofs.YtnliooflpclcbaaGreatDoor
set_option maxRecDepth 100000
open Go.RowKit Go.Maps Go.ChangeShapes Go.WideShapes Go.ChangeAt Go.Deep

abbrev md5 (fb : Nat) (mn : Int) : Value := .agg #[.slice none 0 0, .slice none 0 0, .slice none 0 0, .slice none 0 0, .slice (some ⟨fb, 0, none⟩) 1 1, .int .i64 mn]
/-- No functions. -/
theorem vk_a (w : World) : Calls Tryz.prog 6 #[.agg #[.slice none 0 0, .slice none 0 0, .slice none 0 0, .slice none 0 0, .slice none 0 0, .int .i64 0]] w (ckTo w (-1) (-1) 1) :=
  check_of w none 0 none 0 none 0 none 0 none 0 0 0 0 0 0 0 (-1) (-1) 1 (fun y _ => fault_1 y none 0 none 0 none 0 none 0 none 0 0 0 0 0 0 0 (fun z _ => lists_any z ⟨[], [], [], [], [], 0⟩ none 0 none 0 none 0 none 0 none 0 rfl rfl rfl (by show 0 ≤ 1024; omega) (by show 0 ≤ 128; omega)))
/-- Main is no function. -/
theorem vk_b {w : World} {kb ib mb0 fb x : Nat} {s : Int} {i : In} (_O : OneAt w kb ib mb0 fb s i x) : Calls Tryz.prog 6 #[md5 fb 1] w (ckTo w (-1) (-1) 2) :=
  check_of w none 0 none 0 none 0 none 0 (some ⟨fb, 0, none⟩) 1 0 0 0 0 1 1 (-1) (-1) 2 (fun y _ => fault_2 y none 0 none 0 none 0 none 0 (some ⟨fb, 0, none⟩) 1 0 0 0 0 1 1 (fun z _ => lists_any z (md1 1 s i x) none 0 none 0 none 0 none 0 (some ⟨fb, 0, none⟩) 1 rfl rfl rfl (by show 0 ≤ 1024; omega) (by show 1 ≤ 128; omega)) (fun z _ => main_out z (md1 1 s i x) none 0 none 0 none 0 none 0 (some ⟨fb, 0, none⟩) 1 (by show inR 1 1 = false; decide)))
/-- Two slots and one kind. -/
theorem vk_c {w : World} {kb ib mb0 fb x : Nat} {i : In} (O : OneAt w kb ib mb0 fb 2 i x) : Calls Tryz.prog 6 #[md5 fb 0] w (ckTo w 0 (-1) 3) :=
  check_of w none 0 none 0 none 0 none 0 (some ⟨fb, 0, none⟩) 1 0 0 0 0 1 0 0 (-1) 3 (fun y g => fault_3 y none 0 none 0 none 0 none 0 fb 0 1 0 0 0 0 1 0 (by omega) (fn1 2 i x) (some ⟨kb, 0, none⟩) 1 (some ⟨ib, 0, none⟩) 1 (some ⟨mb0, 0, none⟩) 1 (fun z _ => lists_any z (md1 0 2 i x) none 0 none 0 none 0 none 0 (some ⟨fb, 0, none⟩) 1 rfl rfl rfl (by show 0 ≤ 1024; omega) (by show 1 ≤ 128; omega))
    (fun z g2 => main_in z (md1 0 2 i x) none 0 none 0 none 0 none 0 (some ⟨fb, 0, none⟩) 1 0 (fn1 2 i x) (some ⟨kb, 0, none⟩) 1 rfl (by show 0 < 1; omega) ((O.g g).g g2).here rfl rfl rfl) (fun z g2 => ((O.g g).g g2).c4)
    (fun z _ => funcGood_any z (fn1 2 i x) (some ⟨kb, 0, none⟩) 1 (some ⟨ib, 0, none⟩) 1 (some ⟨mb0, 0, none⟩) 1))
set_option maxHeartbeats 1000000 in
/-- No Op. -/
theorem vk_d {w : World} {kb ib mb0 fb x : Nat} {a b c d : Int} (ho : oIn ⟨45, a, b, c, d⟩) (O : OneAt w kb ib mb0 fb 1 ⟨45, a, b, c, d⟩ x) : Calls Tryz.prog 6 #[md5 fb 0] w (ckTo w 0 0 4) :=
  check_of w none 0 none 0 none 0 none 0 (some ⟨fb, 0, none⟩) 1 0 0 0 0 1 0 0 0 4 (fun y g => one_faultG ⟨45, a, b, c, d⟩ ho 4 (by decide) (O.g g) (fun tb jb mb mp z J => (broken_none z jb 0 1 ib 0 1 ⟨45, a, b, c, d⟩ (by have h := J.c 11 _ rfl; rw [Nat.zero_add] at h; exact h) (by omega) ((O.g g).g J.g).c2 (by rfl)).mono (by rintro e w' ⟨rfl, g'⟩; exact ⟨rfl, g'.gt⟩)))
set_option maxHeartbeats 1000000 in
/-- It goes back to itself, and is no poll. -/
theorem vk_e {w : World} {kb ib mb0 fb x : Nat} (O : OneAt w kb ib mb0 fb 1 ⟨18, 0, 0, 0, 0⟩ x) : Calls Tryz.prog 6 #[md5 fb 0] w (ckTo w 0 0 8) :=
  check_of w none 0 none 0 none 0 none 0 (some ⟨fb, 0, none⟩) 1 0 0 0 0 1 0 0 0 8 (fun y g => one_faultG ⟨18, 0, 0, 0, 0⟩ (by unfold oIn oI; simp) 8 (by decide) (O.g g) (fun tb jb mb mp z J => by
    have O' := O.g g
    have W := free_walk (w := y) (m := md1 0 1 ⟨18, 0, 0, 0, 0⟩ x) (f := fn1 1 ⟨18, 0, 0, 0, 0⟩ x) (so := none) (sc := 0) (go := none) (gc := 0) (co := none) (cc := 0) (ao := none) (ac := 0) (fo := some ⟨fb, 0, none⟩) (fc := 1) (ko := some ⟨kb, 0, none⟩) (kc := 1) (io := some ⟨ib, 0, none⟩) (ic := 1) (mo := some ⟨mb0, 0, none⟩) (mc := 1) (tb := tb) (N := 0) (jb := jb) (mb := mb) (mp := mp) (Ex := fun _ => True) 18 0 0 0 0 15 0 0 0 0 ib 0 mb0 0 x (fun _ _ _ _ => trivial) (Or.inl rfl)
      (fun k hk => by
        have hk4 : k = 0 ∨ k = 1 ∨ k = 2 ∨ k = 3 := by omega
        rcases hk4 with rfl | rfl | rfl | rfl
        · exact Or.inr (Or.inr (Or.inr rfl))
        · exact Or.inl rfl
        · exact Or.inl rfl
        · exact Or.inl rfl)
      (by rfl) (by rfl) (by rfl) (fun t ht => by
        have : t = 0 := by simpa [targP, tg4, roleAt, operAt] using ht
        subst this; rfl) (by show (1 : Int) ≤ 1000000; omega) O'.k (by show 1 ≤ 1000000; omega) (by show 1 ≤ 1000000; omega) rfl O'.i rfl rfl (by show 0 < 1; omega) (fun z g => (O'.g g).c2) (fun z g => (O'.g g).c3 0 _ rfl)
    refine (broken_any z tb jb 0 _ _ _ _ _ _ _ none 0 none 0 none 0 none 0 (some ⟨fb, 0, none⟩) 1 ib 0 1 0 1 mb0 1 mb x (mp 0) _ _ _ true (bkP [⟨18, 0, 0, 0, 0⟩] 0 (itF 18 0 0 0 0 15 0 0 0)) W ⟨J, trivial⟩ J.tl (by omega) rfl (by show (18 : Int) ≠ 29; decide) (by show (18 : Int) ≠ 32; decide)).mono ?_
    rintro e w' ⟨rfl, _, gt⟩
    exact ⟨rfl, gt⟩))
end Go.Proofs.YtnliooflpclcbaaGreatDoor

/- Package gantlinelaw12: VerifyKnown answers true. -/
namespace Go.Proofs.YtnliooflpclcbaaGreatDoor
set_option maxRecDepth 100000
open Go.RowKit Go.Maps Go.ChangeShapes Go.WideShapes Go.ChangeAt Go.Deep

theorem OneAt.keep {y z : World} {kb ib mb fb : Nat} {s : Int} {i : In} {x : Nat} {t : Nat} (h : OneAt y kb ib mb fb s i x) (g : Gt t y z) (d1 : kb ≠ t) (d2 : ib ≠ t) (d3 : mb ≠ t) (d4 : fb ≠ t) : OneAt z kb ib mb fb s i x :=
  ⟨Nat.lt_of_lt_of_le h.l1 g.size, Nat.lt_of_lt_of_le h.l2 g.size, Nat.lt_of_lt_of_le h.l3 g.size, Nat.lt_of_lt_of_le h.l4 g.size, h.c1.kept (g.block _ h.l1 d1), h.c2.kept (g.block _ h.l2 d2), h.c3.kept (g.block _ h.l3 d3), h.c4.kept (g.block _ h.l4 d4)⟩
theorem OneAt.setI {y : World} {kb ib mb fb : Nat} {s : Int} {i : In} {x : Nat} (h : OneAt y kb ib mb fb s i x) (i' : In) (d1 : kb ≠ ib) (d3 : mb ≠ ib) (d4 : fb ≠ ib) : OneAt (((((y.setCell ⟨ib, 0, none⟩ (.int .i64 i'.op)).setCell ⟨ib, 1, none⟩ (.int .i64 i'.a)).setCell ⟨ib, 2, none⟩ (.int .i64 i'.b)).setCell ⟨ib, 3, none⟩ (.int .i64 i'.c)).setCell ⟨ib, 4, none⟩ (.int .i64 i'.d)) kb ib mb fb s i' x := by
  refine ⟨by simp only [World.size_setCell]; exact h.l1, by simp only [World.size_setCell]; exact h.l2, by simp only [World.size_setCell]; exact h.l3, by simp only [World.size_setCell]; exact h.l4, ?_, ?_, ?_, ?_⟩
  · exact ((((h.c1.kept (heap_set _ _ d1)).kept (heap_set _ _ d1)).kept (heap_set _ _ d1)).kept (heap_set _ _ d1)).kept (heap_set _ _ d1)
  · exact cells_set (cells_set (cells_set (cells_set (cells_set h.c2 (by simp) _) (by simp) _) (by simp) _) (by simp) _) (by simp) _
  · exact ((((h.c3.kept (heap_set _ _ d3)).kept (heap_set _ _ d3)).kept (heap_set _ _ d3)).kept (heap_set _ _ d3)).kept (heap_set _ _ d3)
  · exact ((((h.c4.kept (heap_set _ _ d4)).kept (heap_set _ _ d4)).kept (heap_set _ _ d4)).kept (heap_set _ _ d4)).kept (heap_set _ _ d4)
/-- Nothing of a block is frozen. -/
def Fz (y : World) (b : Nat) : Prop := b < y.heap.size ∧ ∀ j, y.frozen? ⟨b, j, none⟩ = false
theorem Fz.keep {y z : World} {b : Nat} (h : Fz y b) (hs : y.heap.size ≤ z.heap.size) (e : z.heap[b]? = y.heap[b]?) : Fz z b := ⟨Nat.lt_of_lt_of_le h.1 hs, fun j => (World.frozen?_of_block (a := ⟨b, j, none⟩) e).trans (h.2 j)⟩
/-- What one answers, for use in a walk. -/
def OneTo (y : World) (e : Ending) (w' : World) : Prop := ∃ k i m q, e = .returned (md5 q 0) ∧ G y w' ∧ OneAt w' k i m q 1 oneI 0 ∧ y.heap.size ≤ k ∧ y.heap.size ≤ i ∧ y.heap.size ≤ m ∧ y.heap.size ≤ q ∧ k ≠ q ∧ i ≠ q ∧ m ≠ q ∧ k ≠ i ∧ m ≠ i ∧ Fz w' q ∧ Fz w' i
theorem one_to (y : World) : Calls Tryz.prog 7 #[.int .u64 0] y (OneTo y) := by
  refine (one_any y 0).mono ?_
  rintro e w' ⟨rfl, rfl⟩
  exact ⟨_, _, _, _, rfl, one_g y 0, oneAt_new y 0, by omega, by omega, by omega, by omega, by omega, by omega, by omega, by omega, by omega, ⟨(oneAt_new y 0).l4, fun j => by unfold World.frozen?; rw [one_b4 y 0]; simp⟩, ⟨(oneAt_new y 0).l2, fun j => by unfold World.frozen?; rw [one_b2 y 0]; simp⟩⟩
theorem build_m0 (w : World) : (Instr.build 33 #[]).run Tryz.prog w = .ok (.agg #[.slice none 0 0, .slice none 0 0, .slice none 0 0, .slice none 0 0, .slice none 0 0, .int .i64 0]) w := by kernel_rfl
theorem build_i18 (w : World) : (Instr.build 41 #[(0, .int .i64 18)]).run Tryz.prog w = .ok (.agg #[.int .i64 18, .int .i64 0, .int .i64 0, .int .i64 0, .int .i64 0]) w := by kernel_rfl
theorem build_g1 (w : World) : (Instr.build 24 #[(0, .int .i64 (-1)), (1, .int .i64 (-1)), (2, .int .i64 1)]).run Tryz.prog w = .ok (.agg #[.int .i64 (-1), .int .i64 (-1), .int .i64 1]) w := by kernel_rfl
theorem build_g2 (w : World) : (Instr.build 24 #[(0, .int .i64 (-1)), (1, .int .i64 (-1)), (2, .int .i64 2)]).run Tryz.prog w = .ok (.agg #[.int .i64 (-1), .int .i64 (-1), .int .i64 2]) w := by kernel_rfl
theorem build_g3 (w : World) : (Instr.build 24 #[(1, .int .i64 (-1)), (2, .int .i64 3)]).run Tryz.prog w = .ok (.agg #[.int .i64 0, .int .i64 (-1), .int .i64 3]) w := by kernel_rfl
theorem build_g4 (w : World) : (Instr.build 24 #[(2, .int .i64 4)]).run Tryz.prog w = .ok (.agg #[.int .i64 0, .int .i64 0, .int .i64 4]) w := by kernel_rfl
theorem build_g5 (w : World) : (Instr.build 24 #[(2, .int .i64 8)]).run Tryz.prog w = .ok (.agg #[.int .i64 0, .int .i64 0, .int .i64 8]) w := by kernel_rfl
/-- A box of three numbers. -/
def B3 (y : World) (t b : Nat) (x1 x2 x3 : Int) : Prop := b < y.heap.size ∧ b ≠ t ∧ y.cell? ⟨b, 0, none⟩ = some (.int .i64 x1) ∧ y.cell? ⟨b, 1, none⟩ = some (.int .i64 x2) ∧ y.cell? ⟨b, 2, none⟩ = some (.int .i64 x3)
theorem B3.gt {y z : World} {t b : Nat} {x1 x2 x3 : Int} (h : B3 y t b x1 x2 x3) (g : Gt t y z) : B3 z t b x1 x2 x3 :=
  ⟨Nat.lt_of_lt_of_le h.1 g.size, h.2.1, g.cell h.2.2.1 h.1 h.2.1, g.cell h.2.2.2.1 h.1 h.2.1, g.cell h.2.2.2.2 h.1 h.2.1⟩
theorem B3.out {y : World} {t b q j : Nat} {v : Value} {x1 x2 x3 : Int} (h : B3 y t b x1 x2 x3) (hn : b ≠ q) : B3 (y.setCell ⟨q, j, none⟩ v) t b x1 x2 x3 :=
  ⟨by rw [World.size_setCell]; exact h.1, h.2.1, by rw [cell_other _ (Or.inl hn)]; exact h.2.2.1, by rw [cell_other _ (Or.inl hn)]; exact h.2.2.2.1, by rw [cell_other _ (Or.inl hn)]; exact h.2.2.2.2⟩
theorem B3.gq {y z : World} {t b q : Nat} {x1 x2 x3 : Int} (h : B3 y t b x1 x2 x3) (g : Gt q y z) (hn : b ≠ q) : B3 z t b x1 x2 x3 :=
  ⟨Nat.lt_of_lt_of_le h.1 g.size, h.2.1, g.cell h.2.2.1 h.1 hn, g.cell h.2.2.2.1 h.1 hn, g.cell h.2.2.2.2 h.1 hn⟩
theorem B3.new (y : World) (t : Nat) (ht : t ≠ y.heap.size) (x1 x2 x3 : Int) (T : TypeId) : B3 (y.alloc (.cells #[.int .i64 x1, .int .i64 x2, .int .i64 x3] T)) t y.heap.size x1 x2 x3 :=
  ⟨by rw [World.size_alloc]; omega, fun h => ht h.symm, by rw [World.cell?_alloc_new]; rfl, by rw [World.cell?_alloc_new]; rfl, by rw [World.cell?_alloc_new]; rfl⟩
/-- The law's module. -/
abbrev mdL (q : Nat) (mn : Int) : List Value := [.slice none 0 0, .slice none 0 0, .slice none 0 0, .slice none 0 0, .slice (some ⟨q, 0, none⟩) 1 1, .int .i64 mn]
def MB (y : World) (mb q : Nat) (mn : Int) : Prop := Rb y mb 6 ∧ CellsAt y mb 0 (mdL q mn)
theorem MB.keep {y z : World} {mb q : Nat} {mn : Int} (h : MB y mb q mn) (hs : y.heap.size ≤ z.heap.size) (e : z.heap[mb]? = y.heap[mb]?) : MB z mb q mn :=
  ⟨⟨Nat.lt_of_lt_of_le h.1.1 hs, fun i hi => by rw [World.cell?_of_block (a := ⟨mb, i, none⟩) e]; exact h.1.2.1 i hi, fun i => (World.frozen?_of_block (a := ⟨mb, i, none⟩) e).trans (h.1.2.2 i)⟩, h.2.kept e⟩
theorem MB.g {y z : World} {mb q : Nat} {mn : Int} (h : MB y mb q mn) (g : G y z) : MB z mb q mn := h.keep g.size (g.block mb h.1.1)
theorem MB.new (y : World) (q : Nat) (T : TypeId) : MB (y.alloc (.cells #[.slice none 0 0, .slice none 0 0, .slice none 0 0, .slice none 0 0, .slice (some ⟨q, 0, none⟩) 1 1, .int .i64 0] T)) y.heap.size q 0 := by
  have hh := heap_alloc_new y (.cells #[.slice none 0 0, .slice none 0 0, .slice none 0 0, .slice none 0 0, .slice (some ⟨q, 0, none⟩) 1 1, .int .i64 0] T)
  refine ⟨⟨by rw [World.size_alloc]; omega, fun i hi => by rw [World.cell?_alloc_new]; simp [hi], fun i => by unfold World.frozen?; rw [hh]; simp⟩, fun j v hv => ?_⟩
  rw [Nat.zero_add, World.cell?_alloc_new]
  simpa using hv
theorem MB.main {y : World} {mb q : Nat} {mn : Int} (h : MB y mb q mn) (v : Int) : MB (y.setCell ⟨mb, 5, none⟩ (.int .i64 v)) mb q v := ⟨h.1.set 5 (by omega) _, cells_set h.2 (by simp) _⟩
theorem MB.put {y : World} {mb q : Nat} {mn : Int} (h : MB y mb q mn) (q' : Nat) : MB ((((((y.setCell ⟨mb, 0, none⟩ (.slice none 0 0)).setCell ⟨mb, 1, none⟩ (.slice none 0 0)).setCell ⟨mb, 2, none⟩ (.slice none 0 0)).setCell ⟨mb, 3, none⟩ (.slice none 0 0)).setCell ⟨mb, 4, none⟩ (.slice (some ⟨q', 0, none⟩) 1 1)).setCell ⟨mb, 5, none⟩ (.int .i64 0)) mb q' 0 :=
  ⟨(((((h.1.set 0 (by omega) _).set 1 (by omega) _).set 2 (by omega) _).set 3 (by omega) _).set 4 (by omega) _).set 5 (by omega) _, cells_set (cells_set (cells_set (cells_set (cells_set (cells_set h.2 (by simp) _) (by simp) _) (by simp) _) (by simp) _) (by simp) _) (by simp) _⟩
theorem MB.facts {y : World} {mb q : Nat} {mn : Int} (h : MB y mb q mn) : y.cell? ⟨mb, 0, none⟩ = some (.slice none 0 0) ∧ y.cell? ⟨mb, 1, none⟩ = some (.slice none 0 0) ∧ y.cell? ⟨mb, 2, none⟩ = some (.slice none 0 0) ∧ y.cell? ⟨mb, 3, none⟩ = some (.slice none 0 0) ∧ y.cell? ⟨mb, 4, none⟩ = some (.slice (some ⟨q, 0, none⟩) 1 1) ∧ y.cell? ⟨mb, 5, none⟩ = some (.int .i64 mn) ∧ y.frozen? ⟨mb, 0, none⟩ = false ∧ y.frozen? ⟨mb, 1, none⟩ = false ∧ y.frozen? ⟨mb, 2, none⟩ = false ∧ y.frozen? ⟨mb, 3, none⟩ = false ∧ y.frozen? ⟨mb, 4, none⟩ = false ∧ y.frozen? ⟨mb, 5, none⟩ = false :=
  ⟨h.2 0 _ rfl, h.2 1 _ rfl, h.2 2 _ rfl, h.2 3 _ rfl, h.2 4 _ rfl, h.2 5 _ rfl, h.1.2.2 0, h.1.2.2 1, h.1.2.2 2, h.1.2.2 3, h.1.2.2 4, h.1.2.2 5⟩
theorem gt_set (y : World) (t j : Nat) (v : Value) : Gt t y (y.setCell ⟨t, j, none⟩ v) := ⟨rfl, rfl, rfl, by rw [World.size_setCell]; exact Nat.le_refl _, fun b _ hn => heap_set _ _ hn⟩
/-- .. a cell of a block made behind n: what lay below n stands. -/
theorem g_set_new {x y : World} (g : G x y) (b j : Nat) (v : Value) (h : x.heap.size ≤ b) : G x (y.setCell ⟨b, j, none⟩ v) := g.set b j v h
set_option maxHeartbeats 4000000 in
theorem known12 (w : World) : Calls Tryz.prog 3 #[] w fun e w' => e = .returned (.bool true) ∧ G w w' := by
  have CA : Hid (∀ y, Calls Tryz.prog 5 #[] y fun e w' => e = .returned (.bool true) ∧ G y w') := hide awake_any
  have CE : Hid (∀ y, Calls Tryz.prog 6 #[.agg #[.slice none 0 0, .slice none 0 0, .slice none 0 0, .slice none 0 0, .slice none 0 0, .int .i64 0]] y fun e w' => e = .returned (.tuple #[.agg #[.int .i64 (-1), .int .i64 (-1), .int .i64 1], .bool false]) ∧ G y w') := hide vk_a
  have CO : Hid (∀ y, Calls Tryz.prog 7 #[.int .u64 0] y (OneTo y)) := hide one_to
  have bm := build_m0
  have b18 := build_i18
  go_enter Tryz.func3, Tryz.ntmps3
  go_wp2_with fail
  refine (unhide CA _).mono ?_
  rintro e w1 ⟨rfl, g1⟩
  replace g1 := hide g1
  go_wp2_with fail
  refine (unhide CE _).mono ?_
  rintro e w2 ⟨rfl, g2⟩
  have h2 := hide ((unhide g1).trans g2)
  clear g1 g2 CA CE bm
  go_upto_region 4 with fail
  obtain ⟨W2, hW2⟩ : ∃ W2, W2 = w2.alloc (.cells #[.int .i64 (-1), .int .i64 (-1), .int .i64 1] 24) := ⟨_, rfl⟩
  have f1 : Hid (∀ t, t ≠ w2.heap.size → B3 W2 t w2.heap.size (-1) (-1) 1) := hide fun t ht => by rw [hW2]; exact B3.new _ _ ht _ _ _ _
  have hs2 : W2.heap.size = w2.heap.size + 1 := by rw [hW2, World.size_alloc]
  have h3 : Hid (G w W2) := hide (by rw [hW2]; exact (unhide h2).more _)
  rw [← hW2]
  clear hW2 h2
  generalize hb1 : w2.heap.size = b1 at *
  go_wp2_with fail
  refine (unhide CO _).mono ?_
  rintro e w3 ⟨k1, i1, m1, q1, rfl, g3, O1, z1, z2, z3, z4, d1, d2, d3, d4, d5, -, -⟩
  have f1' := hide ((unhide f1 w3.heap.size (by have := g3.size; omega)).gt g3.gt)
  have h4 := hide ((unhide h3).trans g3)
  have hs3 := g3.size
  replace O1 := hide O1
  clear f1 h3 g3
  go_upto_region 5 with fail
  obtain ⟨W3, hW3⟩ : ∃ W3, W3 = w3.alloc (.cells #[.slice none 0 0, .slice none 0 0, .slice none 0 0, .slice none 0 0, .slice (some ⟨q1, 0, none⟩) 1 1, .int .i64 0] 33) := ⟨_, rfl⟩
  have M := MB.new w3 q1 33
  rw [← hW3] at M ⊢
  have gg : G w3 W3 := by rw [hW3]; exact G.alloc _ _
  have h5 := hide ((unhide h4).trans gg)
  have f2 := hide ((unhide f1').gt gg.gt)
  have O2 := hide ((unhide O1).g gg)
  have e1 : k1 ≠ w3.heap.size := by have := (unhide O1).l1; omega
  have e2 : i1 ≠ w3.heap.size := by have := (unhide O1).l2; omega
  have e3 : m1 ≠ w3.heap.size := by have := (unhide O1).l3; omega
  have e4 : q1 ≠ w3.heap.size := by have := (unhide O1).l4; omega
  have hwm : w.heap.size ≤ w3.heap.size := (unhide h4).size
  clear hW3 h4 f1' O1 gg
  generalize w3.heap.size = mb at *
  obtain ⟨c0, c1, c2, c3, c4, c5, r0, r1, r2, r3, r4, r5⟩ := M.facts
  replace M := hide M
  go_upto_region 6 with fail
  obtain ⟨W4, hW4⟩ : ∃ W4, W4 = W3.setCell ⟨mb, 5, none⟩ (.int .i64 1) := ⟨_, rfl⟩
  have M4 := (unhide M).main 1
  have h6 : G w (W3.setCell ⟨mb, 5, none⟩ (.int .i64 1)) := (unhide h5).set mb 5 _ hwm
  have t4 : Gt mb W3 W4 := by rw [hW4]; exact gt_set _ _ _ _
  rw [← hW4] at M4 h6 ⊢
  have f3 := hide ((unhide f2).gt t4)
  have CB := hide (vk_b ((unhide O2).keep t4 e1 e2 e3 e4))
  clear hW4 t4 f2 O2 h5 M c0 c1 c2 c3 c4 c5 r0 r1 r2 r3 r4 r5 e1 e2 e3 e4 d1 d2 d3 d4 d5 z1 z2 z3 z4
  replace h6 := hide h6
  obtain ⟨c0, c1, c2, c3, c4, c5, -⟩ := M4.facts
  replace M4 := hide M4
  go_wp2_with fail
  refine (unhide CB).mono ?_
  rintro e w4 ⟨rfl, g4⟩
  have M5 := hide ((unhide M4).g g4)
  have f4 := hide ((unhide f3).gt g4.gt)
  have h7 := hide ((unhide h6).trans g4)
  clear g4 f3 h6 M4 CB c0 c1 c2 c3 c4 c5
  have M := M5
  have f_b1 := f4
  have h := h7
  clear M5 f4 h7
  go_upto_region 7 with fail
  obtain ⟨W5, hW⟩ : ∃ W, W = w4.alloc (.cells #[.int .i64 (-1), .int .i64 (-1), .int .i64 2] 24) := ⟨_, rfl⟩
  have f_b2 := B3.new w4 mb (by have := (unhide M).1.1; omega) (-1) (-1) 2 24
  have gg : G w4 W5 := by rw [hW]; exact G.alloc _ _
  rw [← hW] at f_b2 ⊢
  replace f_b2 := hide f_b2
  replace M := hide ((unhide M).g gg)
  replace f_b1 := hide ((unhide f_b1).gt gg.gt)
  replace h := hide ((unhide h).trans gg)
  clear gg hW
  generalize w4.heap.size = b2 at *
  go_wp2_with fail
  refine (unhide CO _).mono ?_
  rintro e u2 ⟨k2, i2, m2, q2, rfl, g, O, z1, z2, z3, z4, d1, d2, d3, d4, d5, fq, fi⟩
  have hml := (unhide M).1.1
  replace M := (unhide M).g g
  have l_b1 := (unhide f_b1).1
  replace f_b1 := hide ((unhide f_b1).gt g.gt)
  have l_b2 := (unhide f_b2).1
  replace f_b2 := hide ((unhide f_b2).gt g.gt)
  have hwW := (unhide h).size
  replace h := hide ((unhide h).trans g)
  have e1 : k2 ≠ mb := by omega
  have e2 : i2 ≠ mb := by omega
  have e3 : m2 ≠ mb := by omega
  have e4 : q2 ≠ mb := by omega
  replace O := hide O
  replace fq := hide fq
  replace fi := hide fi
  obtain ⟨c0, c1, c2, c3, c4, c5, r0, r1, r2, r3, r4, r5⟩ := M.facts
  replace M := hide M
  clear g
  go_upto_region 8 with fail
  obtain ⟨U2, hU⟩ : ∃ U, U = (((((u2.setCell ⟨mb, 0, none⟩ (.slice none 0 0)).setCell ⟨mb, 1, none⟩ (.slice none 0 0)).setCell ⟨mb, 2, none⟩ (.slice none 0 0)).setCell ⟨mb, 3, none⟩ (.slice none 0 0)).setCell ⟨mb, 4, none⟩ (.slice (some ⟨q2, 0, none⟩) 1 1)).setCell ⟨mb, 5, none⟩ (.int .i64 0) := ⟨_, rfl⟩
  have Mp := (unhide M).put q2
  have hp : G w ((((((u2.setCell ⟨mb, 0, none⟩ (.slice none 0 0)).setCell ⟨mb, 1, none⟩ (.slice none 0 0)).setCell ⟨mb, 2, none⟩ (.slice none 0 0)).setCell ⟨mb, 3, none⟩ (.slice none 0 0)).setCell ⟨mb, 4, none⟩ (.slice (some ⟨q2, 0, none⟩) 1 1)).setCell ⟨mb, 5, none⟩ (.int .i64 0)) := ((((((unhide h).set mb 0 _ hwm).set mb 1 _ hwm).set mb 2 _ hwm).set mb 3 _ hwm).set mb 4 _ hwm).set mb 5 _ hwm
  have tt : Gt mb u2 U2 := by rw [hU]; exact (((((gt_set _ _ _ _).trans (gt_set _ _ _ _)).trans (gt_set _ _ _ _)).trans (gt_set _ _ _ _)).trans (gt_set _ _ _ _)).trans (gt_set _ _ _ _)
  rw [← hU] at Mp hp ⊢
  replace f_b1 := hide ((unhide f_b1).gt tt)
  replace f_b2 := hide ((unhide f_b2).gt tt)
  replace O := (unhide O).keep tt e1 e2 e3 e4
  replace fq := (unhide fq).keep tt.size (tt.block _ (unhide fq).1 e4)
  replace fi := (unhide fi).keep tt.size (tt.block _ (unhide fi).1 e2)
  clear hU tt c0 c1 c2 c3 c4 c5 r0 r1 r2 r3 r4 r5 M h
  obtain ⟨c0, c1, c2, c3, c4, c5, -⟩ := Mp.facts
  have x0 : U2.cell? ⟨q2, 2, none⟩ = some (.int .i64 1) := by have hh := O.c4 2 _ rfl; rw [Nat.zero_add] at hh; exact hh
  have y0 := fq.2 2
  have O' := O.setS 2 d1 d2 d3
  obtain ⟨V2, hV⟩ : ∃ V, V = (U2.setCell ⟨q2, 2, none⟩ (.int .i64 2)) := ⟨_, rfl⟩
  have tq : Gt q2 U2 V2 := by rw [hV]; exact gt_set _ _ _ _
  rw [← hV] at O'
  have hq := hide (Gt.to_g hp tq (by omega))
  have CC := hide (vk_c O')
  have Mq := Mp.keep tq.size (tq.block mb Mp.1.1 (Ne.symm e4))
  replace f_b1 := hide ((unhide f_b1).gq tq (by omega))
  replace f_b2 := hide ((unhide f_b2).gq tq (by omega))
  clear O O' fq fi Mp hp tq e1 e2 e3 e4 d1 d2 d3 d4 d5 z1 z2 z3 z4 hml hwW l_b1 l_b2
  go_upto_region 9 with fail
  rw [← hV]
  clear hV c0 c1 c2 c3 c4 c5 x0 y0
  try clear x5
  try clear x1 x2 x3 x4 y1 y2 y3 y4
  obtain ⟨c0, c1, c2, c3, c4, c5, -⟩ := Mq.facts
  replace Mq := hide Mq
  go_wp2_with fail
  refine (unhide CC).mono ?_
  rintro e v2 ⟨rfl, g⟩
  have M := hide ((unhide Mq).g g)
  have h := hide ((unhide hq).trans g)
  replace f_b1 := hide ((unhide f_b1).gt g.gt)
  replace f_b2 := hide ((unhide f_b2).gt g.gt)
  clear g CC Mq hq c0 c1 c2 c3 c4 c5
  go_upto_region 10 with fail
  obtain ⟨W6, hW⟩ : ∃ W, W = v2.alloc (.cells #[.int .i64 0, .int .i64 (-1), .int .i64 3] 24) := ⟨_, rfl⟩
  have f_b3 := B3.new v2 mb (by have := (unhide M).1.1; omega) 0 (-1) 3 24
  have gg : G v2 W6 := by rw [hW]; exact G.alloc _ _
  rw [← hW] at f_b3 ⊢
  replace f_b3 := hide f_b3
  replace M := hide ((unhide M).g gg)
  replace f_b1 := hide ((unhide f_b1).gt gg.gt)
  replace f_b2 := hide ((unhide f_b2).gt gg.gt)
  replace h := hide ((unhide h).trans gg)
  clear gg hW
  generalize v2.heap.size = b3 at *
  go_wp2_with fail
  refine (unhide CO _).mono ?_
  rintro e u3 ⟨k3, i3, m3, q3, rfl, g, O, z1, z2, z3, z4, d1, d2, d3, d4, d5, fq, fi⟩
  have hml := (unhide M).1.1
  replace M := (unhide M).g g
  have l_b1 := (unhide f_b1).1
  replace f_b1 := hide ((unhide f_b1).gt g.gt)
  have l_b2 := (unhide f_b2).1
  replace f_b2 := hide ((unhide f_b2).gt g.gt)
  have l_b3 := (unhide f_b3).1
  replace f_b3 := hide ((unhide f_b3).gt g.gt)
  have hwW := (unhide h).size
  replace h := hide ((unhide h).trans g)
  have e1 : k3 ≠ mb := by omega
  have e2 : i3 ≠ mb := by omega
  have e3 : m3 ≠ mb := by omega
  have e4 : q3 ≠ mb := by omega
  replace O := hide O
  replace fq := hide fq
  replace fi := hide fi
  obtain ⟨c0, c1, c2, c3, c4, c5, r0, r1, r2, r3, r4, r5⟩ := M.facts
  replace M := hide M
  clear g
  go_upto_region 11 with fail
  obtain ⟨U3, hU⟩ : ∃ U, U = (((((u3.setCell ⟨mb, 0, none⟩ (.slice none 0 0)).setCell ⟨mb, 1, none⟩ (.slice none 0 0)).setCell ⟨mb, 2, none⟩ (.slice none 0 0)).setCell ⟨mb, 3, none⟩ (.slice none 0 0)).setCell ⟨mb, 4, none⟩ (.slice (some ⟨q3, 0, none⟩) 1 1)).setCell ⟨mb, 5, none⟩ (.int .i64 0) := ⟨_, rfl⟩
  have Mp := (unhide M).put q3
  have hp : G w ((((((u3.setCell ⟨mb, 0, none⟩ (.slice none 0 0)).setCell ⟨mb, 1, none⟩ (.slice none 0 0)).setCell ⟨mb, 2, none⟩ (.slice none 0 0)).setCell ⟨mb, 3, none⟩ (.slice none 0 0)).setCell ⟨mb, 4, none⟩ (.slice (some ⟨q3, 0, none⟩) 1 1)).setCell ⟨mb, 5, none⟩ (.int .i64 0)) := ((((((unhide h).set mb 0 _ hwm).set mb 1 _ hwm).set mb 2 _ hwm).set mb 3 _ hwm).set mb 4 _ hwm).set mb 5 _ hwm
  have tt : Gt mb u3 U3 := by rw [hU]; exact (((((gt_set _ _ _ _).trans (gt_set _ _ _ _)).trans (gt_set _ _ _ _)).trans (gt_set _ _ _ _)).trans (gt_set _ _ _ _)).trans (gt_set _ _ _ _)
  rw [← hU] at Mp hp ⊢
  replace f_b1 := hide ((unhide f_b1).gt tt)
  replace f_b2 := hide ((unhide f_b2).gt tt)
  replace f_b3 := hide ((unhide f_b3).gt tt)
  replace O := (unhide O).keep tt e1 e2 e3 e4
  replace fq := (unhide fq).keep tt.size (tt.block _ (unhide fq).1 e4)
  replace fi := (unhide fi).keep tt.size (tt.block _ (unhide fi).1 e2)
  clear hU tt c0 c1 c2 c3 c4 c5 r0 r1 r2 r3 r4 r5 M h
  obtain ⟨c0, c1, c2, c3, c4, c5, -⟩ := Mp.facts
  have x5 : U3.cell? ⟨q3, 5, none⟩ = some (.slice (some ⟨i3, 0, none⟩) 1 1) := by have hh := O.c4 5 _ rfl; rw [Nat.zero_add] at hh; exact hh
  have x0 : U3.cell? ⟨i3, 0, none⟩ = some (.int .i64 22) := by have hh := O.c2 0 _ rfl; rw [Nat.zero_add] at hh; exact hh
  have y0 := fi.2 0
  have O' := OneAt.setOp (op := 22) (a := -1) (b := 0) (c := 0) (d := 0) O 45 d4 d5 (Ne.symm d2)
  obtain ⟨V3, hV⟩ : ∃ V, V = (U3.setCell ⟨i3, 0, none⟩ (.int .i64 45)) := ⟨_, rfl⟩
  have tq : Gt i3 U3 V3 := by rw [hV]; exact gt_set _ _ _ _
  rw [← hV] at O'
  have hq := hide (Gt.to_g hp tq (by omega))
  have CC := hide (vk_d (by unfold oIn oI; dsimp only; omega) O')
  have Mq := Mp.keep tq.size (tq.block mb Mp.1.1 (Ne.symm e2))
  replace f_b1 := hide ((unhide f_b1).gq tq (by omega))
  replace f_b2 := hide ((unhide f_b2).gq tq (by omega))
  replace f_b3 := hide ((unhide f_b3).gq tq (by omega))
  clear O O' fq fi Mp hp tq e1 e2 e3 e4 d1 d2 d3 d4 d5 z1 z2 z3 z4 hml hwW l_b1 l_b2 l_b3
  go_upto_region 12 with fail
  rw [← hV]
  clear hV c0 c1 c2 c3 c4 c5 x0 y0
  try clear x5
  try clear x1 x2 x3 x4 y1 y2 y3 y4
  obtain ⟨c0, c1, c2, c3, c4, c5, -⟩ := Mq.facts
  replace Mq := hide Mq
  go_wp2_with fail
  refine (unhide CC).mono ?_
  rintro e v3 ⟨rfl, g⟩
  have M := hide ((unhide Mq).g g)
  have h := hide ((unhide hq).trans g)
  replace f_b1 := hide ((unhide f_b1).gt g.gt)
  replace f_b2 := hide ((unhide f_b2).gt g.gt)
  replace f_b3 := hide ((unhide f_b3).gt g.gt)
  clear g CC Mq hq c0 c1 c2 c3 c4 c5
  go_upto_region 13 with fail
  obtain ⟨W7, hW⟩ : ∃ W, W = v3.alloc (.cells #[.int .i64 0, .int .i64 0, .int .i64 4] 24) := ⟨_, rfl⟩
  have f_b4 := B3.new v3 mb (by have := (unhide M).1.1; omega) 0 0 4 24
  have gg : G v3 W7 := by rw [hW]; exact G.alloc _ _
  rw [← hW] at f_b4 ⊢
  replace f_b4 := hide f_b4
  replace M := hide ((unhide M).g gg)
  replace f_b1 := hide ((unhide f_b1).gt gg.gt)
  replace f_b2 := hide ((unhide f_b2).gt gg.gt)
  replace f_b3 := hide ((unhide f_b3).gt gg.gt)
  replace h := hide ((unhide h).trans gg)
  clear gg hW
  generalize v3.heap.size = b4 at *
  go_wp2_with fail
  refine (unhide CO _).mono ?_
  rintro e u4 ⟨k4, i4, m4, q4, rfl, g, O, z1, z2, z3, z4, d1, d2, d3, d4, d5, fq, fi⟩
  have hml := (unhide M).1.1
  replace M := (unhide M).g g
  have l_b1 := (unhide f_b1).1
  replace f_b1 := hide ((unhide f_b1).gt g.gt)
  have l_b2 := (unhide f_b2).1
  replace f_b2 := hide ((unhide f_b2).gt g.gt)
  have l_b3 := (unhide f_b3).1
  replace f_b3 := hide ((unhide f_b3).gt g.gt)
  have l_b4 := (unhide f_b4).1
  replace f_b4 := hide ((unhide f_b4).gt g.gt)
  have hwW := (unhide h).size
  replace h := hide ((unhide h).trans g)
  have e1 : k4 ≠ mb := by omega
  have e2 : i4 ≠ mb := by omega
  have e3 : m4 ≠ mb := by omega
  have e4 : q4 ≠ mb := by omega
  replace O := hide O
  replace fq := hide fq
  replace fi := hide fi
  obtain ⟨c0, c1, c2, c3, c4, c5, r0, r1, r2, r3, r4, r5⟩ := M.facts
  replace M := hide M
  clear g
  go_upto_region 14 with fail
  obtain ⟨U4, hU⟩ : ∃ U, U = (((((u4.setCell ⟨mb, 0, none⟩ (.slice none 0 0)).setCell ⟨mb, 1, none⟩ (.slice none 0 0)).setCell ⟨mb, 2, none⟩ (.slice none 0 0)).setCell ⟨mb, 3, none⟩ (.slice none 0 0)).setCell ⟨mb, 4, none⟩ (.slice (some ⟨q4, 0, none⟩) 1 1)).setCell ⟨mb, 5, none⟩ (.int .i64 0) := ⟨_, rfl⟩
  have Mp := (unhide M).put q4
  have hp : G w ((((((u4.setCell ⟨mb, 0, none⟩ (.slice none 0 0)).setCell ⟨mb, 1, none⟩ (.slice none 0 0)).setCell ⟨mb, 2, none⟩ (.slice none 0 0)).setCell ⟨mb, 3, none⟩ (.slice none 0 0)).setCell ⟨mb, 4, none⟩ (.slice (some ⟨q4, 0, none⟩) 1 1)).setCell ⟨mb, 5, none⟩ (.int .i64 0)) := ((((((unhide h).set mb 0 _ hwm).set mb 1 _ hwm).set mb 2 _ hwm).set mb 3 _ hwm).set mb 4 _ hwm).set mb 5 _ hwm
  have tt : Gt mb u4 U4 := by rw [hU]; exact (((((gt_set _ _ _ _).trans (gt_set _ _ _ _)).trans (gt_set _ _ _ _)).trans (gt_set _ _ _ _)).trans (gt_set _ _ _ _)).trans (gt_set _ _ _ _)
  rw [← hU] at Mp hp ⊢
  replace f_b1 := hide ((unhide f_b1).gt tt)
  replace f_b2 := hide ((unhide f_b2).gt tt)
  replace f_b3 := hide ((unhide f_b3).gt tt)
  replace f_b4 := hide ((unhide f_b4).gt tt)
  replace O := (unhide O).keep tt e1 e2 e3 e4
  replace fq := (unhide fq).keep tt.size (tt.block _ (unhide fq).1 e4)
  replace fi := (unhide fi).keep tt.size (tt.block _ (unhide fi).1 e2)
  clear hU tt c0 c1 c2 c3 c4 c5 r0 r1 r2 r3 r4 r5 M h
  obtain ⟨c0, c1, c2, c3, c4, c5, -⟩ := Mp.facts
  have x5 : U4.cell? ⟨q4, 5, none⟩ = some (.slice (some ⟨i4, 0, none⟩) 1 1) := by have hh := O.c4 5 _ rfl; rw [Nat.zero_add] at hh; exact hh
  have x0 : U4.cell? ⟨i4, 0, none⟩ = some (.int .i64 22) := by have hh := O.c2 0 _ rfl; rw [Nat.zero_add] at hh; exact hh
  have x1 : U4.cell? ⟨i4, 1, none⟩ = some (.int .i64 (-1)) := by have hh := O.c2 1 _ rfl; rw [Nat.zero_add] at hh; exact hh
  have x2 : U4.cell? ⟨i4, 2, none⟩ = some (.int .i64 0) := by have hh := O.c2 2 _ rfl; rw [Nat.zero_add] at hh; exact hh
  have x3 : U4.cell? ⟨i4, 3, none⟩ = some (.int .i64 0) := by have hh := O.c2 3 _ rfl; rw [Nat.zero_add] at hh; exact hh
  have x4 : U4.cell? ⟨i4, 4, none⟩ = some (.int .i64 0) := by have hh := O.c2 4 _ rfl; rw [Nat.zero_add] at hh; exact hh
  have y0 := fi.2 0
  have y1 := fi.2 1
  have y2 := fi.2 2
  have y3 := fi.2 3
  have y4 := fi.2 4
  have O' := OneAt.setI O ⟨18, 0, 0, 0, 0⟩ d4 d5 (Ne.symm d2)
  obtain ⟨V4, hV⟩ : ∃ V, V = (((((U4.setCell ⟨i4, 0, none⟩ (.int .i64 18)).setCell ⟨i4, 1, none⟩ (.int .i64 0)).setCell ⟨i4, 2, none⟩ (.int .i64 0)).setCell ⟨i4, 3, none⟩ (.int .i64 0)).setCell ⟨i4, 4, none⟩ (.int .i64 0)) := ⟨_, rfl⟩
  have tq : Gt i4 U4 V4 := by rw [hV]; exact ((((gt_set _ _ _ _).trans (gt_set _ _ _ _)).trans (gt_set _ _ _ _)).trans (gt_set _ _ _ _)).trans (gt_set _ _ _ _)
  rw [← hV] at O'
  have hq := hide (Gt.to_g hp tq (by omega))
  have CC := hide (vk_e O')
  have Mq := Mp.keep tq.size (tq.block mb Mp.1.1 (Ne.symm e2))
  replace f_b1 := hide ((unhide f_b1).gq tq (by omega))
  replace f_b2 := hide ((unhide f_b2).gq tq (by omega))
  replace f_b3 := hide ((unhide f_b3).gq tq (by omega))
  replace f_b4 := hide ((unhide f_b4).gq tq (by omega))
  clear O O' fq fi Mp hp tq e1 e2 e3 e4 d1 d2 d3 d4 d5 z1 z2 z3 z4 hml hwW l_b1 l_b2 l_b3 l_b4
  go_upto_region 15 with fail
  rw [← hV]
  clear hV c0 c1 c2 c3 c4 c5 x0 y0
  try clear x5
  try clear x1 x2 x3 x4 y1 y2 y3 y4
  obtain ⟨c0, c1, c2, c3, c4, c5, -⟩ := Mq.facts
  replace Mq := hide Mq
  go_wp2_with fail
  refine (unhide CC).mono ?_
  rintro e v4 ⟨rfl, g⟩
  have M := hide ((unhide Mq).g g)
  have h := hide ((unhide hq).trans g)
  replace f_b1 := hide ((unhide f_b1).gt g.gt)
  replace f_b2 := hide ((unhide f_b2).gt g.gt)
  replace f_b3 := hide ((unhide f_b3).gt g.gt)
  replace f_b4 := hide ((unhide f_b4).gt g.gt)
  clear g CC Mq hq c0 c1 c2 c3 c4 c5
  go_upto_region 16 with fail
  obtain ⟨W8, hW⟩ : ∃ W, W = v4.alloc (.cells #[.int .i64 0, .int .i64 0, .int .i64 8] 24) := ⟨_, rfl⟩
  have f_b5 := B3.new v4 mb (by have := (unhide M).1.1; omega) 0 0 8 24
  have gg : G v4 W8 := by rw [hW]; exact G.alloc _ _
  rw [← hW] at f_b5 ⊢
  replace f_b5 := hide f_b5
  replace M := hide ((unhide M).g gg)
  replace f_b1 := hide ((unhide f_b1).gt gg.gt)
  replace f_b2 := hide ((unhide f_b2).gt gg.gt)
  replace f_b3 := hide ((unhide f_b3).gt gg.gt)
  replace f_b4 := hide ((unhide f_b4).gt gg.gt)
  replace h := hide ((unhide h).trans gg)
  clear gg hW
  generalize v4.heap.size = b5 at *
  obtain ⟨-, -, a1, a2, a3⟩ := unhide f_b1
  obtain ⟨-, -, a4, a5, a6⟩ := unhide f_b2
  obtain ⟨-, -, a7, a8, a9⟩ := unhide f_b3
  obtain ⟨-, -, a10, a11, a12⟩ := unhide f_b4
  obtain ⟨-, -, a13, a14, a15⟩ := unhide f_b5
  have bf1 := build_g1
  have bf2 := build_g2
  have bf3 := build_g3
  have bf4 := build_g4
  have bf5 := build_g5
  go_wp2_with fail
  go_ret
  exact ⟨rfl, unhide h⟩
end Go.Proofs.YtnliooflpclcbaaGreatDoor
