/- The raw contracts of package grey's calls: which cells are read and set. -/
import Derived.Test.YtgflkpccddfalaaGreatDoorGreyMem
namespace Go.Proofs.YtgflkpccddfalaaGreatDoor.Gy
set_option maxRecDepth 100000
open Go.RowKit Go.Maps Go.ChangeShapes Go.WideShapes Go.ChangeAt

/-- A new block. -/
abbrev newBlk : Obj := .cells #[.int .i64 0, .int .i64 0, .int .i64 0, .int .i64 0, .int .i64 0, .int .i64 0, .int .i64 0, .int .i64 0, .int .i64 0, .int .i64 0, .int .i64 0, .int .i64 0, .int .i64 0, .int .i64 0, .int .i64 0, .int .i64 0, .pointer none] 153

set_option maxHeartbeats 400000 in
theorem new_raw (w : World) :
    Calls Tryz.prog 61 #[] w fun e w' => e = .returned (.pointer (some ⟨w.heap.size, 0, none⟩)) ∧ w' = w.alloc (.cells #[.pointer none, .pointer none, .int .i64 0, .int .i64 0] 137) := by
  go_enter Tryz.func61, Tryz.ntmps61
  go_wp2
  go_ret
  exact ⟨rfl, rfl⟩

set_option maxHeartbeats 400000 in
theorem grow_first (w : World) (q : Nat) (v : Value) (c0 : w.cell? ⟨q, 0, none⟩ = some (.pointer none)) (c1 : w.cell? ⟨q, 1, none⟩ = some v) (f0 : w.frozen? ⟨q, 0, none⟩ = false) (f1 : w.frozen? ⟨q, 1, none⟩ = false) (hq : q < w.heap.size) :
    Calls Tryz.prog 95 #[.pointer (some ⟨q, 0, none⟩)] w fun e w' => e = .returned (.tuple #[]) ∧ w' = ((w.setCell ⟨q, 0, none⟩ (.pointer (some ⟨w.heap.size, 0, none⟩))).setCell ⟨q, 1, none⟩ (.pointer (some ⟨w.heap.size, 0, none⟩))).alloc newBlk := by
  go_enter Tryz.func95, Tryz.ntmps95
  go_wp2
  go_end0
  exact ⟨rfl, rfl⟩

set_option maxHeartbeats 400000 in
theorem grow_more (w : World) (q b l : Nat) (v : Value) (c0 : w.cell? ⟨q, 0, none⟩ = some (.pointer (some ⟨b, 0, none⟩))) (c1 : w.cell? ⟨q, 1, none⟩ = some (.pointer (some ⟨l, 0, none⟩))) (cl : w.cell? ⟨l, 16, none⟩ = some v)
    (fl : w.frozen? ⟨l, 16, none⟩ = false) (f1 : w.frozen? ⟨q, 1, none⟩ = false) (hq : q < w.heap.size) (hl : l < w.heap.size) :
    Calls Tryz.prog 95 #[.pointer (some ⟨q, 0, none⟩)] w fun e w' => e = .returned (.tuple #[]) ∧ w' = ((w.setCell ⟨l, 16, none⟩ (.pointer (some ⟨w.heap.size, 0, none⟩))).setCell ⟨q, 1, none⟩ (.pointer (some ⟨w.heap.size, 0, none⟩))).alloc newBlk := by
  go_enter Tryz.func95, Tryz.ntmps95
  go_wp2
  go_end0
  exact ⟨rfl, rfl⟩

set_option maxHeartbeats 400000 in
theorem shrink_zero (w : World) (q : Nat) (u0 u1 u2 : Value) (c0 : w.cell? ⟨q, 0, none⟩ = some u0) (c1 : w.cell? ⟨q, 1, none⟩ = some u1) (c2 : w.cell? ⟨q, 2, none⟩ = some u2) (c3 : w.cell? ⟨q, 3, none⟩ = some (.int .i64 0))
    (f0 : w.frozen? ⟨q, 0, none⟩ = false) (f1 : w.frozen? ⟨q, 1, none⟩ = false) (f2 : w.frozen? ⟨q, 2, none⟩ = false) (f3 : w.frozen? ⟨q, 3, none⟩ = false) :
    Calls Tryz.prog 105 #[.pointer (some ⟨q, 0, none⟩)] w fun e w' => e = .returned (.tuple #[]) ∧ w' = (((w.setCell ⟨q, 0, none⟩ (.pointer none)).setCell ⟨q, 1, none⟩ (.pointer none)).setCell ⟨q, 2, none⟩ (.int .i64 0)).setCell ⟨q, 3, none⟩ (.int .i64 0) := by
  go_enter Tryz.func105, Tryz.ntmps105
  go_wp2
  go_end0
  exact ⟨rfl, rfl⟩

set_option maxHeartbeats 400000 in
theorem shrink_full (w : World) (q b : Nat) (n : Int) (o : Option Addr) (c0 : w.cell? ⟨q, 0, none⟩ = some (.pointer (some ⟨b, 0, none⟩))) (c2 : w.cell? ⟨q, 2, none⟩ = some (.int .i64 16)) (c3 : w.cell? ⟨q, 3, none⟩ = some (.int .i64 n)) (hn : (n == 0) = false)
    (cb : w.cell? ⟨b, 16, none⟩ = some (.pointer o)) (f0 : w.frozen? ⟨q, 0, none⟩ = false) (f2 : w.frozen? ⟨q, 2, none⟩ = false) :
    Calls Tryz.prog 105 #[.pointer (some ⟨q, 0, none⟩)] w fun e w' => e = .returned (.tuple #[]) ∧ w' = (w.setCell ⟨q, 0, none⟩ (.pointer o)).setCell ⟨q, 2, none⟩ (.int .i64 0) := by
  go_enter Tryz.func105, Tryz.ntmps105
  go_wp2
  go_end0
  exact ⟨rfl, rfl⟩

set_option maxHeartbeats 400000 in
theorem shrink_none (w : World) (q : Nat) (n f : Int) (c2 : w.cell? ⟨q, 2, none⟩ = some (.int .i64 f)) (c3 : w.cell? ⟨q, 3, none⟩ = some (.int .i64 n)) (hn : (n == 0) = false) (hf : (f == 16) = false) :
    Calls Tryz.prog 105 #[.pointer (some ⟨q, 0, none⟩)] w fun e w' => e = .returned (.tuple #[]) ∧ w' = w := by
  go_enter Tryz.func105, Tryz.ntmps105
  go_wp2
  go_end0
  exact ⟨rfl, rfl⟩

/-! ### Add -/
set_option maxHeartbeats 1000000 in
theorem add_in (w : World) (q l f n : Nat) (x : Int) (at_ : Nat) (u : Value) (hat : (f + n) % 16 = at_) (h0 : ¬ at_ = 0) (hf : f < 16) (hn : n ≤ 1000000) (c1 : w.cell? ⟨q, 1, none⟩ = some (.pointer (some ⟨l, 0, none⟩))) (c2 : w.cell? ⟨q, 2, none⟩ = some (.int .i64 f)) (c3 : w.cell? ⟨q, 3, none⟩ = some (.int .i64 n))
    (cl : w.cell? ⟨l, at_, none⟩ = some u) (fl : w.frozen? ⟨l, at_, none⟩ = false) (f3 : w.frozen? ⟨q, 3, none⟩ = false) (hlq : ¬ l = q) :
    Calls Tryz.prog 84 #[.pointer (some ⟨q, 0, none⟩), .int .i64 x] w fun e w' => e = .returned (.tuple #[]) ∧ ∃ k, w' = ((w.setCell ⟨l, at_, none⟩ (.int .i64 x)).setCell ⟨q, 3, none⟩ (.int .i64 ((n : Int) + 1))).drewN k := by
  have hm : ((f : Int) + (n : Int)) % 16 = (at_ : Int) := by omega
  have ha : at_ < 16 := by omega
  clear hat
  have hz : ((at_ : Int) == 0) = false := by simpa using h0
  go_enter Tryz.func84, Tryz.ntmps84
  go_wp2_with fail
  go_quiet (fail)
  go_wp2_with fail
  go_end0
  exact ⟨rfl, _, rfl⟩

set_option maxHeartbeats 1000000 in
theorem add_grow (w : World) (q f n S : Nat) (x : Int) (R : World → Prop) (hat : (f + n) % 16 = 0) (hf : f < 16) (hn : n ≤ 1000000) (c2 : w.cell? ⟨q, 2, none⟩ = some (.int .i64 f)) (c3 : w.cell? ⟨q, 3, none⟩ = some (.int .i64 n))
    (C : Hid (∀ k, Calls Tryz.prog 95 #[.pointer (some ⟨q, 0, none⟩)] (w.drewN k) fun e w' => e = .returned (.tuple #[]) ∧ R w'))
    (HR : Hid (∀ w1, R w1 → w1.cell? ⟨q, 1, none⟩ = some (.pointer (some ⟨S, 0, none⟩)) ∧ w1.cell? ⟨S, 0, none⟩ = some (.int .i64 0) ∧ w1.cell? ⟨q, 3, none⟩ = some (.int .i64 n) ∧ w1.frozen? ⟨S, 0, none⟩ = false ∧ w1.frozen? ⟨q, 3, none⟩ = false)) :
    Calls Tryz.prog 84 #[.pointer (some ⟨q, 0, none⟩), .int .i64 x] w fun e w' => e = .returned (.tuple #[]) ∧ ∃ w1, R w1 ∧ w' = (w1.setCell ⟨S, 0, none⟩ (.int .i64 x)).setCell ⟨q, 3, none⟩ (.int .i64 ((n : Int) + 1)) := by
  have hm : ((f : Int) + (n : Int)) % 16 = 0 := by omega
  clear hat
  go_enter Tryz.func84, Tryz.ntmps84
  go_wp2_with fail
  go_quiet (fail)
  go_wp2_with fail
  refine (unhide C _).mono ?_
  rintro e w1 ⟨rfl, r⟩
  obtain ⟨d1, d2, d3, d4, d5⟩ := unhide HR w1 r
  replace r := hide r
  clear C HR c2 c3
  go_wp2_with fail
  go_end0
  exact ⟨rfl, w1, unhide r, rfl⟩

/-! ### Next -/
set_option maxHeartbeats 400000 in
theorem next_none (w : World) (q : Nat) (c3 : w.cell? ⟨q, 3, none⟩ = some (.int .i64 0)) :
    Calls Tryz.prog 96 #[.pointer (some ⟨q, 0, none⟩)] w fun e w' => e = .returned (.tuple #[.int .i64 0, .bool false]) ∧ w' = w := by
  go_enter Tryz.func96, Tryz.ntmps96
  go_wp2_with fail
  go_returns
  exact ⟨rfl, rfl⟩

set_option maxHeartbeats 1000000 in
theorem next_some (w : World) (q b f n : Nat) (x : Int) (R : World → Prop) (hf : f < 16) (hn : n ≤ 1000000) (hn0 : ¬ n = 0) (c0 : w.cell? ⟨q, 0, none⟩ = some (.pointer (some ⟨b, 0, none⟩))) (c2 : w.cell? ⟨q, 2, none⟩ = some (.int .i64 f)) (c3 : w.cell? ⟨q, 3, none⟩ = some (.int .i64 n))
    (cb : w.cell? ⟨b, f, none⟩ = some (.int .i64 x)) (f2 : w.frozen? ⟨q, 2, none⟩ = false) (f3 : w.frozen? ⟨q, 3, none⟩ = false)
    (C : Hid (∀ k, Calls Tryz.prog 105 #[.pointer (some ⟨q, 0, none⟩)] (((w.setCell ⟨q, 2, none⟩ (.int .i64 ((f : Int) + 1))).setCell ⟨q, 3, none⟩ (.int .i64 ((n : Int) - 1))).drewN k) fun e w' => e = .returned (.tuple #[]) ∧ R w')) :
    Calls Tryz.prog 96 #[.pointer (some ⟨q, 0, none⟩)] w fun e w' => e = .returned (.tuple #[.int .i64 x, .bool true]) ∧ R w' := by
  have hz : ((n : Int) == 0) = false := by simpa using hn0
  go_enter Tryz.func96, Tryz.ntmps96
  go_wp2_with fail
  go_quiet (fail)
  go_wp2_with fail
  refine (unhide C _).mono ?_
  rintro e w1 ⟨rfl, r⟩
  replace r := hide r
  clear C
  go_wp2_with fail
  go_returns
  exact ⟨rfl, unhide r⟩
end Go.Proofs.YtgflkpccddfalaaGreatDoor.Gy
