/- Package verify: its small calls. -/
import Derived.Test.YtnliooflpclcbaaGreatDoorVfP
namespace Go.Proofs.YtnliooflpclcbaaGreatDoor
set_option maxRecDepth 100000
open Go.RowKit Go.Maps Go.ChangeShapes Go.WideShapes Go.ChangeAt Go.Deep

theorem isin_any (w : World) (v n : Int) : Calls Tryz.prog 22 #[.int .i64 v, .int .i64 n] w fun e w' => e = .returned (.bool (inR v n)) ∧ w' = w := by
  unfold inR
  by_cases h0 : 0 ≤ v
  · rw [decide_eq_true h0]
    go_enter Tryz.func22, Tryz.ntmps22
    go_wp2_with fail
    go_ret
    exact ⟨by simp, rfl⟩
  · rw [decide_eq_false h0]
    go_enter Tryz.func22, Tryz.ntmps22
    go_wp2_with fail
    go_ret
    exact ⟨by simp, rfl⟩
/-- Is a slot there? -/
theorem slot_any (w : World) (jb r : Nat) (s v : Int) (hs : w.cell? ⟨jb, 8, none⟩ = some (.int .i64 s)) : Calls Tryz.prog 45 #[.pointer (some ⟨jb, 0, none⟩), .int .u8 (r : Int), .int .i64 v] w fun e w' => e = .returned (.bool (slotP s r v)) ∧ w' = w := by
  have C := hide (isin_any w v s)
  by_cases h1 : r = 1
  · subst h1
    rw [show slotP s 1 v = inR v s from if_pos (by decide)]
    generalize inR v s = b at C ⊢
    go_enter Tryz.func45, Tryz.ntmps45
    go_wp2_with fail
    refine (unhide C).mono ?_
    rintro e w1 ⟨rfl, hw⟩
    rw [hw]
    clear hw w1
    go_wp2_with fail
    go_ret
    exact ⟨rfl, rfl⟩
  by_cases h2 : r = 2
  · subst h2
    rw [show slotP s 2 v = inR v s from if_pos (by decide)]
    generalize inR v s = b at C ⊢
    go_enter Tryz.func45, Tryz.ntmps45
    go_wp2_with fail
    refine (unhide C).mono ?_
    rintro e w1 ⟨rfl, hw⟩
    rw [hw]
    clear hw w1
    go_wp2_with fail
    go_ret
    exact ⟨rfl, rfl⟩
  by_cases h3 : r = 3
  · subst h3
    rw [show slotP s 3 v = inR v s from if_pos (by decide)]
    generalize inR v s = b at C ⊢
    go_enter Tryz.func45, Tryz.ntmps45
    go_wp2_with fail
    refine (unhide C).mono ?_
    rintro e w1 ⟨rfl, hw⟩
    rw [hw]
    clear hw w1
    go_wp2_with fail
    go_ret
    exact ⟨rfl, rfl⟩
  by_cases h4 : r = 4
  · subst h4
    rw [show slotP s 4 v = ((v == -1) || inR v s) from (if_neg (by decide)).trans (if_pos (by decide))]
    by_cases hv : v = -1
    · subst hv
      rw [show (((-1 : Int) == -1) || inR (-1) s) = true from rfl]
      clear C
      go_enter Tryz.func45, Tryz.ntmps45
      go_wp2_with fail
      go_ret
      exact ⟨rfl, rfl⟩
    · have e1 : (v == -1) = false := by simpa using hv
      rw [e1, Bool.false_or]
      clear hv
      generalize inR v s = b at C ⊢
      go_enter Tryz.func45, Tryz.ntmps45
      go_wp2_with fail
      refine (unhide C).mono ?_
      rintro e w1 ⟨rfl, hw⟩
      rw [hw]
      clear hw w1
      go_wp2_with fail
      go_ret
      exact ⟨rfl, rfl⟩
  by_cases h5 : r = 5
  · subst h5
    rw [show slotP s 5 v = ((v == -1) || inR v s) from (if_neg (by decide)).trans (if_pos (by decide))]
    by_cases hv : v = -1
    · subst hv
      rw [show (((-1 : Int) == -1) || inR (-1) s) = true from rfl]
      clear C
      go_enter Tryz.func45, Tryz.ntmps45
      go_wp2_with fail
      go_ret
      exact ⟨rfl, rfl⟩
    · have e1 : (v == -1) = false := by simpa using hv
      rw [e1, Bool.false_or]
      clear hv
      generalize inR v s = b at C ⊢
      go_enter Tryz.func45, Tryz.ntmps45
      go_wp2_with fail
      refine (unhide C).mono ?_
      rintro e w1 ⟨rfl, hw⟩
      rw [hw]
      clear hw w1
      go_wp2_with fail
      go_ret
      exact ⟨rfl, rfl⟩
  have e0 : slotP s r v = true := (if_neg (by omega)).trans (if_neg (by omega))
  rw [e0]
  have g1 : ((r : Int) == 1) = false := by simp; omega
  have g2 : ((r : Int) == 2) = false := by simp; omega
  have g3 : ((r : Int) == 3) = false := by simp; omega
  have g4 : ((r : Int) == 4) = false := by simp; omega
  have g5 : ((r : Int) == 5) = false := by simp; omega
  have k1 : (r == 1) = false := by simpa using h1
  have k2 : (r == 2) = false := by simpa using h2
  have k3 : (r == 3) = false := by simpa using h3
  have k4 : (r == 4) = false := by simpa using h4
  have k5 : (r == 5) = false := by simpa using h5
  clear h1 h2 h3 h4 h5 C e0
  go_enter Tryz.func45, Tryz.ntmps45
  go_wp2_with fail
  go_ret
  exact ⟨rfl, rfl⟩
set_option maxHeartbeats 1000000 in
/-- Are a case's? -/
theorem case_any (w : World) (jb : Nat) (s : Int) (c : Ca) (hs : w.cell? ⟨jb, 8, none⟩ = some (.int .i64 s)) : Calls Tryz.prog 46 #[.pointer (some ⟨jb, 0, none⟩), .agg #[.int .i64 c.k, .int .i64 c.c, .int .i64 c.v, .int .i64 c.t]] w fun e w' => e = .returned (.bool (caseP s c)) ∧ G w w' := by
  obtain ⟨W1, hW1⟩ : ∃ W1, W1 = w.alloc (.cells #[.int .i64 c.k, .int .i64 c.c, .int .i64 c.v, .int .i64 c.t] 43) := ⟨_, rfl⟩
  have g1 : G w W1 := by rw [hW1]; exact G.alloc _ _
  have q0 : W1.cell? ⟨w.heap.size, 0, none⟩ = some (.int .i64 c.k) := by rw [hW1, World.cell?_alloc_new]; rfl
  have q1 : W1.cell? ⟨w.heap.size, 1, none⟩ = some (.int .i64 c.c) := by rw [hW1, World.cell?_alloc_new]; rfl
  have q2 : W1.cell? ⟨w.heap.size, 2, none⟩ = some (.int .i64 c.v) := by rw [hW1, World.cell?_alloc_new]; rfl
  have C : Hid (∀ r v, Calls Tryz.prog 45 #[.pointer (some ⟨jb, 0, none⟩), .int .u8 ((r : Nat) : Int), .int .i64 v] W1 fun e w' => e = .returned (.bool (slotP s r v)) ∧ w' = W1) := hide fun r v => slot_any W1 jb r s v (g1.cell hs)
  replace g1 := hide g1
  clear hs
  obtain ⟨ck, cc, cv, ct⟩ := c
  simp only at hW1 q0 q1 q2 ⊢
  by_cases h0 : ck = 0
  · subst h0
    rw [show caseP s ⟨0, cc, cv, ct⟩ = (slotP s 1 cc && slotP s 4 cv) from if_pos rfl]
    have D1 := hide (unhide C 1 cc)
    have D2 := hide (unhide C 4 cv)
    generalize slotP s 1 cc = b1 at D1 ⊢
    generalize slotP s 4 cv = b2 at D2 ⊢
    clear C
    go_enter Tryz.func46, Tryz.ntmps46
    go_upto_region 1 with fail
    rw [← hW1]
    clear hW1
    go_wp2_with fail
    refine (unhide D1).mono ?_
    rintro e w1 ⟨rfl, hw⟩
    rw [hw]
    clear hw w1 D1
    cases b1
    · go_wp2_with fail
      go_ret
      exact ⟨rfl, unhide g1⟩
    · go_wp2_with fail
      refine (unhide D2).mono ?_
      rintro e w1 ⟨rfl, hw⟩
      rw [hw]
      clear hw w1 D2
      go_wp2_with fail
      go_ret
      exact ⟨by simp, unhide g1⟩
  by_cases h1 : ck = 1
  · subst h1
    rw [show caseP s ⟨1, cc, cv, ct⟩ = (slotP s 1 cc && slotP s 1 cv) from (if_neg (show ¬ (1 : Int) = 0 by decide)).trans (if_pos rfl)]
    have D1 := hide (unhide C 1 cc)
    have D2 := hide (unhide C 1 cv)
    generalize slotP s 1 cc = b1 at D1 ⊢
    generalize slotP s 1 cv = b2 at D2 ⊢
    clear C
    go_enter Tryz.func46, Tryz.ntmps46
    go_upto_region 1 with fail
    rw [← hW1]
    clear hW1
    go_wp2_with fail
    refine (unhide D1).mono ?_
    rintro e w1 ⟨rfl, hw⟩
    rw [hw]
    clear hw w1 D1
    cases b1
    · go_wp2_with fail
      go_ret
      exact ⟨rfl, unhide g1⟩
    · go_wp2_with fail
      refine (unhide D2).mono ?_
      rintro e w1 ⟨rfl, hw⟩
      rw [hw]
      clear hw w1 D2
      go_wp2_with fail
      go_ret
      exact ⟨by simp, unhide g1⟩
  rw [show caseP s ⟨ck, cc, cv, ct⟩ = true from (if_neg h0).trans (if_neg h1)]
  have e0 : (ck == 0) = false := by simpa using h0
  have e1 : (ck == 1) = false := by simpa using h1
  clear C h0 h1
  go_enter Tryz.func46, Tryz.ntmps46
  go_upto_region 1 with fail
  rw [← hW1]
  clear hW1
  go_wp2_with fail
  go_ret
  exact ⟨rfl, unhide g1⟩
end Go.Proofs.YtnliooflpclcbaaGreatDoor
