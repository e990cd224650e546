/- The leaves of package frame: top, word, Get, Set, Jump, Depth, Return. -/
import Derived.Test.YtnfeommkbocgpaaDoorFmMem
namespace Go.Proofs.YtnfeommkbocgpaaDoor
open Go.RowKit Go.Maps Go.ChangeShapes Go.WideShapes Go.ChangeAt Go.Deep

set_option maxHeartbeats 400000 in
theorem top_none (w : World) (s : Nat) (ao : Option Addr) (c : Nat) (c0 : w.cell? ⟨s, 0, none⟩ = some (.slice ao 0 c)) :
    Calls Tryd.prog 28 #[.pointer (some ⟨s, 0, none⟩)] w fun e w' => e = .returned (.pointer none) ∧ w' = w := by
  go_enter Tryd.func28, Tryd.ntmps28
  go_wp2_with fail
  go_ret
  exact ⟨rfl, rfl⟩
set_option maxHeartbeats 400000 in
theorem top_some (w : World) (s kb n c : Nat) (hn : n ≤ 1000) (c0 : w.cell? ⟨s, 0, none⟩ = some (.slice (some ⟨kb, 0, none⟩) (n + 1) c)) :
    Calls Tryd.prog 28 #[.pointer (some ⟨s, 0, none⟩)] w fun e w' => e = .returned (.pointer (some ⟨kb, n * 3, none⟩)) ∧ ∃ k, w' = w.drewN k := by
  go_enter Tryd.func28, Tryd.ntmps28
  go_wp2_with fail
  go_quiet (fail)
  go_wp2_with fail
  go_ret
  exact ⟨rfl, _, rfl⟩
set_option maxHeartbeats 400000 in
theorem depth_raw (w : World) (s n : Nat) (ao : Option Addr) (c : Nat) (c0 : w.cell? ⟨s, 0, none⟩ = some (.slice ao n c)) :
    Calls Tryd.prog 11 #[.pointer (some ⟨s, 0, none⟩)] w fun e w' => e = .returned (.int .i64 (n : Int)) ∧ w' = w := by
  go_enter Tryd.func11, Tryd.ntmps11
  go_wp2_with fail
  go_ret
  exact ⟨rfl, rfl⟩
set_option maxHeartbeats 400000 in
theorem word_none (w : World) (s : Nat) (sl : Int) (T : Hid (Calls Tryd.prog 28 #[.pointer (some ⟨s, 0, none⟩)] w fun e w' => e = .returned (.pointer none) ∧ w' = w)) :
    Calls Tryd.prog 27 #[.pointer (some ⟨s, 0, none⟩), .int .i64 sl] w fun e w' => e = .returned (.pointer none) ∧ ∃ k, w' = w.drewN k := by
  go_enter Tryd.func27, Tryd.ntmps27
  go_wp2_with fail
  refine (unhide T).mono ?_
  rintro e w1 ⟨rfl, rfl⟩
  clear T
  go_wp2_with fail
  go_ret
  exact ⟨rfl, 0, rfl⟩
set_option maxHeartbeats 400000 in
theorem word_out (w : World) (s kb n sb m mc : Nat) (sl : Int) (T : Hid (Calls Tryd.prog 28 #[.pointer (some ⟨s, 0, none⟩)] w fun e w' => e = .returned (.pointer (some ⟨kb, n * 3, none⟩)) ∧ ∃ k, w' = w.drewN k))
    (c2 : ∀ k, (w.drewN k).cell? ⟨kb, n * 3 + 2, none⟩ = some (.slice (some ⟨sb, 0, none⟩) m mc)) (h : sl < 0 ∨ (m : Int) ≤ sl) :
    Calls Tryd.prog 27 #[.pointer (some ⟨s, 0, none⟩), .int .i64 sl] w fun e w' => e = .returned (.pointer none) ∧ ∃ k, w' = w.drewN k := by
  by_cases h0 : sl < 0
  · clear c2 h
    go_enter Tryd.func27, Tryd.ntmps27
    go_wp2_with fail
    refine (unhide T).mono ?_
    rintro e w1 ⟨rfl, k, rfl⟩
    clear T
    go_wp2_with fail
    go_ret
    exact ⟨rfl, _, rfl⟩
  · have h1 : (m : Int) ≤ sl := by omega
    clear h
    go_enter Tryd.func27, Tryd.ntmps27
    go_wp2_with fail
    refine (unhide T).mono ?_
    rintro e w1 ⟨rfl, k, rfl⟩
    clear T
    have c3 := c2 k
    clear c2
    go_wp2_with fail
    go_ret
    exact ⟨rfl, _, rfl⟩
set_option maxHeartbeats 400000 in
theorem word_in (w : World) (s kb n sb m mc j : Nat) (T : Hid (Calls Tryd.prog 28 #[.pointer (some ⟨s, 0, none⟩)] w fun e w' => e = .returned (.pointer (some ⟨kb, n * 3, none⟩)) ∧ ∃ k, w' = w.drewN k))
    (c2 : ∀ k, (w.drewN k).cell? ⟨kb, n * 3 + 2, none⟩ = some (.slice (some ⟨sb, 0, none⟩) m mc)) (h : (j : Int) < (m : Int)) :
    Calls Tryd.prog 27 #[.pointer (some ⟨s, 0, none⟩), .int .i64 (j : Int)] w fun e w' => e = .returned (.pointer (some ⟨sb, j, none⟩)) ∧ ∃ k, w' = w.drewN k := by
  have h0 : ¬ (j : Int) < 0 := by omega
  have h1 : ¬ (m : Int) ≤ (j : Int) := by omega
  go_enter Tryd.func27, Tryd.ntmps27
  go_wp2_with fail
  refine (unhide T).mono ?_
  rintro e w1 ⟨rfl, k, rfl⟩
  clear T
  have c3 := c2 k
  clear c2
  go_wp2_with fail
  go_ret
  exact ⟨rfl, _, rfl⟩
set_option maxHeartbeats 400000 in
theorem get_none (w : World) (s : Nat) (sl : Int) (T : Hid (Calls Tryd.prog 27 #[.pointer (some ⟨s, 0, none⟩), .int .i64 sl] w fun e w' => e = .returned (.pointer none) ∧ ∃ k, w' = w.drewN k)) :
    Calls Tryd.prog 12 #[.pointer (some ⟨s, 0, none⟩), .int .i64 sl] w fun e w' => e = .returned (.int .i64 0) ∧ ∃ k, w' = w.drewN k := by
  go_enter Tryd.func12, Tryd.ntmps12
  go_wp2_with fail
  refine (unhide T).mono ?_
  rintro e w1 ⟨rfl, k, rfl⟩
  clear T
  go_wp2_with fail
  go_ret
  exact ⟨rfl, _, rfl⟩
set_option maxHeartbeats 400000 in
theorem get_some (w : World) (s sb j : Nat) (x : Int) (T : Hid (Calls Tryd.prog 27 #[.pointer (some ⟨s, 0, none⟩), .int .i64 (j : Int)] w fun e w' => e = .returned (.pointer (some ⟨sb, j, none⟩)) ∧ ∃ k, w' = w.drewN k))
    (c : ∀ k, (w.drewN k).cell? ⟨sb, j, none⟩ = some (.int .i64 x)) :
    Calls Tryd.prog 12 #[.pointer (some ⟨s, 0, none⟩), .int .i64 (j : Int)] w fun e w' => e = .returned (.int .i64 x) ∧ ∃ k, w' = w.drewN k := by
  go_enter Tryd.func12, Tryd.ntmps12
  go_wp2_with fail
  refine (unhide T).mono ?_
  rintro e w1 ⟨rfl, k, rfl⟩
  clear T
  have c2 := c k
  clear c
  go_wp2_with fail
  go_ret
  exact ⟨rfl, _, rfl⟩
set_option maxHeartbeats 400000 in
theorem set_none (w : World) (s : Nat) (sl x : Int) (T : Hid (Calls Tryd.prog 27 #[.pointer (some ⟨s, 0, none⟩), .int .i64 sl] w fun e w' => e = .returned (.pointer none) ∧ ∃ k, w' = w.drewN k)) :
    Calls Tryd.prog 18 #[.pointer (some ⟨s, 0, none⟩), .int .i64 sl, .int .i64 x] w fun e w' => e = .returned (.tuple #[]) ∧ ∃ k, w' = w.drewN k := by
  go_enter Tryd.func18, Tryd.ntmps18
  go_wp2_with fail
  refine (unhide T).mono ?_
  rintro e w1 ⟨rfl, k, rfl⟩
  clear T
  go_wp2_with fail
  go_end0
  exact ⟨rfl, _, rfl⟩
set_option maxHeartbeats 400000 in
theorem set_some (w : World) (s sb j : Nat) (x y : Int) (T : Hid (Calls Tryd.prog 27 #[.pointer (some ⟨s, 0, none⟩), .int .i64 (j : Int)] w fun e w' => e = .returned (.pointer (some ⟨sb, j, none⟩)) ∧ ∃ k, w' = w.drewN k))
    (c : ∀ k, (w.drewN k).cell? ⟨sb, j, none⟩ = some (.int .i64 y)) (fz : ∀ k, (w.drewN k).frozen? ⟨sb, j, none⟩ = false) :
    Calls Tryd.prog 18 #[.pointer (some ⟨s, 0, none⟩), .int .i64 (j : Int), .int .i64 x] w fun e w' => e = .returned (.tuple #[]) ∧ ∃ k, w' = (w.drewN k).setCell ⟨sb, j, none⟩ (.int .i64 x) := by
  go_enter Tryd.func18, Tryd.ntmps18
  go_wp2_with fail
  refine (unhide T).mono ?_
  rintro e w1 ⟨rfl, k, rfl⟩
  clear T
  have c2 := c k
  have f2 := fz k
  clear c fz
  go_wp2_with fail
  go_end0
  exact ⟨rfl, _, rfl⟩
set_option maxHeartbeats 400000 in
theorem jump_none (w : World) (s : Nat) (p : Int) (T : Hid (Calls Tryd.prog 28 #[.pointer (some ⟨s, 0, none⟩)] w fun e w' => e = .returned (.pointer none) ∧ w' = w)) :
    Calls Tryd.prog 17 #[.pointer (some ⟨s, 0, none⟩), .int .i64 p] w fun e w' => e = .returned (.tuple #[]) ∧ w' = w := by
  go_enter Tryd.func17, Tryd.ntmps17
  go_wp2_with fail
  refine (unhide T).mono ?_
  rintro e w1 ⟨rfl, rfl⟩
  clear T
  go_wp2_with fail
  go_end0
  exact ⟨rfl, rfl⟩
set_option maxHeartbeats 400000 in
theorem jump_some (w : World) (s kb n : Nat) (p q : Int) (T : Hid (Calls Tryd.prog 28 #[.pointer (some ⟨s, 0, none⟩)] w fun e w' => e = .returned (.pointer (some ⟨kb, n * 3, none⟩)) ∧ ∃ k, w' = w.drewN k))
    (c1 : ∀ k, (w.drewN k).cell? ⟨kb, n * 3 + 1, none⟩ = some (.int .i64 q)) (fz : ∀ k, (w.drewN k).frozen? ⟨kb, n * 3 + 1, none⟩ = false) :
    Calls Tryd.prog 17 #[.pointer (some ⟨s, 0, none⟩), .int .i64 p] w fun e w' => e = .returned (.tuple #[]) ∧ ∃ k, w' = (w.drewN k).setCell ⟨kb, n * 3 + 1, none⟩ (.int .i64 p) := by
  go_enter Tryd.func17, Tryd.ntmps17
  go_wp2_with fail
  refine (unhide T).mono ?_
  rintro e w1 ⟨rfl, k, rfl⟩
  clear T
  have c2 := c1 k
  have f2 := fz k
  clear c1 fz
  go_wp2_with fail
  go_end0
  exact ⟨rfl, _, rfl⟩
set_option maxHeartbeats 400000 in
theorem return_none (w : World) (s : Nat) (T : Hid (Calls Tryd.prog 28 #[.pointer (some ⟨s, 0, none⟩)] w fun e w' => e = .returned (.pointer none) ∧ w' = w)) :
    Calls Tryd.prog 16 #[.pointer (some ⟨s, 0, none⟩)] w fun e w' => e = .returned (.bool false) ∧ w' = w := by
  go_enter Tryd.func16, Tryd.ntmps16
  go_wp2_with fail
  refine (unhide T).mono ?_
  rintro e w1 ⟨rfl, rfl⟩
  clear T
  go_wp2_with fail
  go_ret
  exact ⟨rfl, rfl⟩
set_option maxHeartbeats 1000000 in
theorem return_some (w : World) (s kb n c : Nat) (p q : Int) (v : Value) (hsk : ¬ s = kb) (hn : n ≤ 1000) (hc : n + 1 ≤ c) (T : Hid (Calls Tryd.prog 28 #[.pointer (some ⟨s, 0, none⟩)] w fun e w' => e = .returned (.pointer (some ⟨kb, n * 3, none⟩)) ∧ ∃ k, w' = w.drewN k))
    (cs : ∀ k, (w.drewN k).cell? ⟨s, 0, none⟩ = some (.slice (some ⟨kb, 0, none⟩) (n + 1) c)) (fs : ∀ k, (w.drewN k).frozen? ⟨s, 0, none⟩ = false)
    (c0 : ∀ k, (w.drewN k).cell? ⟨kb, n * 3, none⟩ = some (.int .i64 p)) (c1 : ∀ k, (w.drewN k).cell? ⟨kb, n * 3 + 1, none⟩ = some (.int .i64 q)) (c2 : ∀ k, (w.drewN k).cell? ⟨kb, n * 3 + 2, none⟩ = some v) (fz : ∀ k i, (w.drewN k).frozen? ⟨kb, i, none⟩ = false) :
    Calls Tryd.prog 16 #[.pointer (some ⟨s, 0, none⟩)] w fun e w' => e = .returned (.bool (decide (0 < n))) ∧ ∃ k k2, w' = (((((w.drewN k).setCell ⟨kb, n * 3, none⟩ (.int .i64 0)).setCell ⟨kb, n * 3 + 1, none⟩ (.int .i64 0)).setCell ⟨kb, n * 3 + 2, none⟩ (.slice none 0 0)).drewN k2).setCell ⟨s, 0, none⟩ (.slice (some ⟨kb, 0, none⟩) n c) := by
  go_enter Tryd.func16, Tryd.ntmps16
  go_wp2_with fail
  refine (unhide T).mono ?_
  rintro e w1 ⟨rfl, k, rfl⟩
  clear T
  have d0 := c0 k
  have d1 := c1 k
  have d2 := c2 k
  have ds := cs k
  have gs := fs k
  have f0 := fz k (n * 3)
  have f1 := fz k (n * 3 + 1)
  have f2 := fz k (n * 3 + 2)
  clear c0 c1 c2 cs fs fz
  go_wp2_with fail
  go_region
  go_wp2_with fail
  go_ret
  exact ⟨rfl, _, _, rfl⟩
end Go.Proofs.YtnfeommkbocgpaaDoor
