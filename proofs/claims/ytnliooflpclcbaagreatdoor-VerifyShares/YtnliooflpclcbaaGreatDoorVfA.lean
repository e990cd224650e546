/- Package verify: runThere, isThere, kindFits, mayBeLast. -/
import Derived.Test.YtnliooflpclcbaaGreatDoorVfL
import Derived.Test.YtnliooflpclcbaaGreatDoorCodeLay
namespace Go.Proofs.YtnliooflpclcbaaGreatDoor
set_option maxRecDepth 100000
open Go.RowKit Go.Maps Go.ChangeShapes Go.WideShapes Go.ChangeAt Go.Deep

set_option maxHeartbeats 1000000 in
theorem runT_any (w : World) (jb : Nat) (s f n : Int) (kv : Value) (hs : w.cell? ⟨jb, 8, none⟩ = some (.int .i64 s)) (h1 : s ≤ 1000000) : Calls Tryz.prog 47 #[.pointer (some ⟨jb, 0, none⟩), .agg #[.int .i64 f, .int .i64 n, kv]] w fun e w' => e = .returned (.bool (runT s f n)) ∧ G w w' := by
  obtain ⟨W1, hW1⟩ : ∃ W1, W1 = w.alloc (.cells #[.int .i64 f, .int .i64 n, kv] 77) := ⟨_, rfl⟩
  have g1 : G w W1 := by rw [hW1]; exact G.alloc _ _
  have q0 : W1.cell? ⟨w.heap.size, 0, none⟩ = some (.int .i64 f) := by rw [hW1, World.cell?_alloc_new]; rfl
  have q1 : W1.cell? ⟨w.heap.size, 1, none⟩ = some (.int .i64 n) := by rw [hW1, World.cell?_alloc_new]; rfl
  have q8 := g1.cell hs
  have CI : Hid (∀ y, Calls Tryz.prog 22 #[.int .i64 f, .int .i64 s] y fun e w' => e = .returned (.bool (inR f s)) ∧ w' = y) := hide fun y => isin_any y f s
  have GX := hide g1
  by_cases hn : n ≤ 0
  · have e : runT s f n = true := by unfold runT; rw [decide_eq_true hn]; rfl
    rw [e]
    clear g1 e CI
    go_enter Tryz.func47, Tryz.ntmps47
    go_upto_region 1 with fail
    rw [← hW1]
    clear hW1
    go_wp2_with fail
    go_ret
    exact ⟨rfl, unhide GX⟩
  have e : runT s f n = (inR f s && decide (n ≤ s - f)) := by unfold runT; rw [decide_eq_false hn, Bool.false_or]
  rw [e]
  clear e
  rcases Bool.eq_false_or_eq_true (inR f s) with hb | hb
  · rw [hb] at CI ⊢
    rw [Bool.true_and]
    have hf : 0 ≤ f ∧ f < s := by unfold inR at hb; simpa using hb
    have e2 : wrap64 (s - f) = s - f := by unfold wrap64; omega
    clear g1 hb hf h1
    go_enter Tryz.func47, Tryz.ntmps47
    go_upto_region 1 with fail
    rw [← hW1]
    clear hW1
    go_upto_region 3 with fail
    go_quiet ((go_at_call 22; exact Calls.quiet_of_same (unhide CI _)))
    go_wp2_with fail
    go_ret
    exact ⟨by simp, (unhide GX).trans (G.drewN _ _)⟩
  · rw [hb] at CI ⊢
    rw [Bool.false_and]
    clear g1 hb h1
    go_enter Tryz.func47, Tryz.ntmps47
    go_upto_region 1 with fail
    rw [← hW1]
    clear hW1
    go_upto_region 3 with fail
    go_quiet ((go_at_call 22; exact Calls.quiet_of_same (unhide CI _)))
    go_wp2_with fail
    go_ret
    exact ⟨rfl, (unhide GX).trans (G.drewN _ _)⟩
theorem isThere_free (w : World) (jb r : Nat) (v : Int) (h : r = 0 ∨ r = 4 ∨ r = 6 ∨ r = 15) : Calls Tryz.prog 48 #[.pointer (some ⟨jb, 0, none⟩), .int .u8 (r : Int), .int .i64 v] w fun e w' => e = .returned (.bool true) ∧ w' = w := by
  rcases h with h | h | h | h
  all_goals
    subst h
    go_enter Tryz.func48, Tryz.ntmps48
    go_wp2_with fail
    go_ret
    exact ⟨rfl, rfl⟩
theorem isThere_fn (w : World) (jb : Nat) (v : Int) (fo : Option Addr) (N fc : Nat) (hc : w.cell? ⟨jb, 4, none⟩ = some (.slice fo N fc)) : Calls Tryz.prog 48 #[.pointer (some ⟨jb, 0, none⟩), .int .u8 13, .int .i64 v] w fun e w' => e = .returned (.bool (inR v N)) ∧ w' = w := by
  have CI := hide (isin_any w v N)
  go_enter Tryz.func48, Tryz.ntmps48
  go_wp2_with fail
  refine (unhide CI).mono ?_
  rintro e w1 ⟨rfl, hw⟩
  rw [hw]
  clear hw w1 CI
  go_wp2_with fail
  go_ret
  exact ⟨rfl, rfl⟩
theorem kind_free (w : World) (jb r : Nat) (v : Int) (h : r = 0 ∨ r = 4 ∨ r = 6 ∨ r = 13 ∨ r = 15) : Calls Tryz.prog 51 #[.pointer (some ⟨jb, 0, none⟩), .int .u8 (r : Int), .int .i64 v] w fun e w' => e = .returned (.bool true) ∧ w' = w := by
  rcases h with h | h | h | h | h
  all_goals
    subst h
    go_enter Tryz.func51, Tryz.ntmps51
    go_wp2_with fail
    go_ret
    exact ⟨rfl, rfl⟩
theorem kind_addr (w : World) (jb : Nat) (v : Nat) (ko : Option Addr) (kc : Nat) (ks : List Bool) (b : Bool) (hc : w.cell? ⟨jb, 10, none⟩ = some (.slice ko ks.length kc)) (hk : RowAt elB w ko ks.length kc ks) (hv : ks[v]? = some b) : Calls Tryz.prog 51 #[.pointer (some ⟨jb, 0, none⟩), .int .u8 3, .int .i64 (v : Int)] w fun e w' => e = .returned (.bool b) ∧ w' = w := by
  have hlt := (List.getElem?_eq_some_iff.1 hv).1
  obtain ⟨kb, off, b', cs, rfl, ha, ecs, hcs⟩ := row_get hk hlt
  rw [hv] at ha
  cases ha
  have ecs : cs = [.bool b] := ecs
  subst ecs
  have c0 := hcs w (G.refl w) 0 _ rfl
  have c1 : w.cell? ⟨kb, off + v, none⟩ = some (.bool b) := by simpa [elB] using c0
  clear hcs c0 hk hv
  generalize ks.length = n at hlt hc
  have hge : ¬ (n : Int) ≤ (v : Int) := by omega
  go_enter Tryz.func51, Tryz.ntmps51
  go_wp2_with fail
  go_ret
  exact ⟨rfl, rfl⟩
def lastP (op : Int) : Bool := op == 18 || (op == 22 || (op == 44 || op == 41))
theorem last_any (w : World) (op : Int) : Calls Tryz.prog 54 #[.int .i64 op] w fun e w' => e = .returned (.bool (lastP op)) ∧ w' = w := by
  unfold lastP
  by_cases h0 : op = 18
  · subst h0
    go_enter Tryz.func54, Tryz.ntmps54
    go_wp2_with fail
    go_ret
    exact ⟨rfl, rfl⟩
  by_cases h1 : op = 22
  · subst h1
    go_enter Tryz.func54, Tryz.ntmps54
    go_wp2_with fail
    go_ret
    exact ⟨rfl, rfl⟩
  by_cases h2 : op = 44
  · subst h2
    go_enter Tryz.func54, Tryz.ntmps54
    go_wp2_with fail
    go_ret
    exact ⟨rfl, rfl⟩
  by_cases h3 : op = 41
  · subst h3
    go_enter Tryz.func54, Tryz.ntmps54
    go_wp2_with fail
    go_ret
    exact ⟨rfl, rfl⟩
  have e0 : (op == 18) = false := by simpa using h0
  have e1 : (op == 22) = false := by simpa using h1
  have e2 : (op == 44) = false := by simpa using h2
  have e3 : (op == 41) = false := by simpa using h3
  rw [e0, e1, e2, e3]
  go_enter Tryz.func54, Tryz.ntmps54
  go_wp2_with fail
  go_ret
  exact ⟨rfl, rfl⟩
end Go.Proofs.YtnliooflpclcbaaGreatDoor
