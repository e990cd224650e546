/- Here, one behind the other: HpEv, HpStep, HpAwake, HqW, HqPlays, HqLaw. -/
import Derived.Test.YtahhkehijokhnaaGreatDoorMhX
import Derived.Test.YtahhkehijokhnaaGreatDoorMhP
import Derived.Great.BuildSlice
import Derived.Deep.DeepCutAuto
import Derived.Deep.RegionHeld3
import Derived.BigQuiet
import Derived.Test.YtahhkehijokhnaaGreatDoorArenaBase
/- Package heap: what awake's calls come to, reckoned. -/
namespace Go.Proofs.YtahhkehijokhnaaGreatDoor
set_option maxRecDepth 100000
open Go.ChangeShapes Go.WideShapes Go.ChangeAt Go.RowKit Go.Maps Go.Deep

def ls3 : List Hd.Shp := [⟨0, 2, 2⟩, ⟨1, 0, 0⟩, ⟨1, 0, 1⟩]
theorem ls3_ok : ∀ s ∈ ls3, s.Fit ∧ s.good = true := by
  intro s hs
  simp only [ls3, List.mem_cons, List.not_mem_nil, or_false] at hs
  rcases hs with rfl | rfl | rfl <;> exact ⟨⟨by decide, by decide, by decide⟩, by decide⟩
theorem ls3_nd : ls3.Nodup := by decide
/-- Behind Make(0, 3), Make(1, 4), Set(a, 0, 9), Put(b, 2, 5). -/
def qt1 : Al := ((al0 8).take 3).1
def q1 : Al := ⟨qt1.a.writeA 64 0 (Hd.pkV 3 0 0), qt1.u⟩
def qt2 : Al := (q1.take 4).1
def q2 : Al := ⟨qt2.a.writeA 68 0 (Hd.pkV 4 1 1), qt2.u⟩
def q3 : Al := ⟨q2.a.writeA 64 (wrap64 (0 + 1)) 9, q2.u⟩
def q4 : Al := ⟨q3.a.writeA 68 (wrap64 (2 + 1)) 5, q3.u⟩
theorem tr_of {p : Al × Int × Int} {v e : Int} (h : p.2 = (v, e)) : p = (p.1, v, e) := by rw [← h]
theorem q_t1 : (al0 8).take 3 = (qt1, 64, 0) := tr_of (by decide +kernel)
theorem q_t2 : q1.take 4 = (qt2, 68, 0) := tr_of (by decide +kernel)
theorem q_g1 : getT q2 ls3 64 1 true = (0, 0) := by decide +kernel
theorem q_s1 : getT q2 ls3 64 0 false = (0, 0) := by decide +kernel
theorem q_g2 : getT q3 ls3 64 0 false = (9, 0) := by decide +kernel
theorem q_p1 : atT q3 ls3 68 2 false = (0, 0) := by decide +kernel
theorem q_a1 : atT q4 ls3 68 2 false = (5, 0) := by decide +kernel
theorem q_l1 : lenT q4 ls3 68 = (3, 0) := by decide +kernel
theorem q_o1 : ofP q4 ls3 64 = some (3, 0, 0, ⟨0, 2, 2⟩) := by decide +kernel
theorem q_n1 : Hd.numV ls3 ⟨1, 0, 0⟩ = 1 ∧ Hd.numE ⟨1, 0, 0⟩ = 0 ∧ Hd.addS ls3 ⟨1, 0, 0⟩ = ls3 := by decide +kernel
-- HeapKnown's
theorem q_k1 : getT q2 ls3 0 0 false = (0, 1) := by decide +kernel
theorem q_k2 : getT q2 ls3 64 0 true = (0, 1) := by decide +kernel
theorem q_k3 : getT q2 ls3 64 2 false = (0, 1) := by decide +kernel
theorem q_k4 : atT q2 ls3 68 3 false = (0, 2) := by decide +kernel
theorem q_k5 : atT q2 ls3 68 (-1) false = (0, 2) := by decide +kernel
theorem q_k6 : atT q2 ls3 64 0 false = (0, 1) := by decide +kernel
theorem q_k7 : lenT q2 ls3 64 = (0, 1) := by decide +kernel
theorem q_n2 : Hd.numV ls3 ⟨3, 0, 0⟩ = 3 ∧ Hd.numE ⟨3, 0, 0⟩ = 0 := by decide +kernel
theorem q_n3 (l : List Hd.Shp) : Hd.numV l ⟨7, 0, 0⟩ = 0 ∧ Hd.numE ⟨7, 0, 0⟩ = 1 := ⟨rfl, rfl⟩
end Go.Proofs.YtahhkehijokhnaaGreatDoor

/- Package gantlinelaw14's small calls on a Heap of 8 spans with the law's shapes. -/
namespace Go.Proofs.YtahhkehijokhnaaGreatDoor
set_option maxRecDepth 100000
open Go.ChangeShapes Go.WideShapes Go.ChangeAt Go.RowKit Go.Maps Go.Deep

def shp3 : Obj := .cells #[.int .i64 0, .int .i64 2, .int .u64 2, .int .i64 1, .int .i64 0, .int .u64 0, .int .i64 1, .int .i64 0, .int .u64 1] 37
theorem shp3_at (w : World) : ∀ i s, ls3[i]? = some s → (w.alloc shp3).cell? ⟨w.heap.size, 0 + i * 3, none⟩ = some (.int .i64 s.k) ∧ (w.alloc shp3).cell? ⟨w.heap.size, 0 + i * 3 + 1, none⟩ = some (.int .i64 s.f) ∧ (w.alloc shp3).cell? ⟨w.heap.size, 0 + i * 3 + 2, none⟩ = some (.int .u64 (s.m : Int)) := by
  intro i s hs
  unfold shp3
  rw [World.cell?_alloc_new, World.cell?_alloc_new, World.cell?_alloc_new]
  match i, hs with
  | 0, hs => cases hs; exact ⟨rfl, rfl, rfl⟩
  | 1, hs => cases hs; exact ⟨rfl, rfl, rfl⟩
  | 2, hs => cases hs; exact ⟨rfl, rfl, rfl⟩
  | i + 3, hs => simp [ls3] at hs
theorem shapes14 (w : World) : Calls Tryz.prog 6 #[] w fun r w' => r = .returned (.slice (some ⟨w.heap.size, 0, none⟩) 3 3) ∧ w' = w.alloc shp3 := by
  unfold shp3
  go_enter Tryz.func6, Tryz.ntmps6
  go_wp2_with fail
  go_ret
  exact ⟨rfl, rfl⟩
theorem new14 (w w1 : World) (hw : w1 = w.alloc shp3) (ht : Tab w) : Calls Tryz.prog 7 #[.int .i64 8, .slice (some ⟨w.heap.size, 0, none⟩) 3 3] w1 fun e w' => ∃ x, e = .returned (.tuple #[.pointer (some ⟨x.hb, 0, none⟩), .int .i64 0]) ∧ ∃ ao cap nv c, HS w1 w' x (al0 8) ls3 3 ao cap nv c := by
  subst hw
  exact h_new 8 (by decide) (by decide) (hide (Tab.later ht (G.alloc _ _))) w.heap.size 0 3 ls3 3 rfl (by decide) (hide ls3_ok) (hide ls3_nd) (by rw [World.size_alloc]; omega) (hide (shp3_at w))
section
variable {W w : World} {x : Hx} {al : Al} {ao : Option Addr} {cap : Nat} {nv : Value} {c : Nat → Nat}
theorem mk1 (h : Hid (HS W w x (al0 8) ls3 3 ao cap nv c)) (rv : Value) : Calls Tryz.prog 8 #[.pointer (some ⟨x.hb, 0, none⟩), .int .i64 0, .int .i64 3, rv] w fun r w' => r = .returned (.tuple #[.int .i64 64, .int .i64 0]) ∧ HS W w' x q1 ls3 3 ao cap nv c :=
  h_make h 0 (by decide) ⟨0, 2, 2⟩ rfl 3 64 (by decide) (by decide) qt1 (hide q_t1) rv
theorem mk2 (h : Hid (HS W w x q1 ls3 3 ao cap nv c)) (rv : Value) : Calls Tryz.prog 8 #[.pointer (some ⟨x.hb, 0, none⟩), .int .i64 1, .int .i64 4, rv] w fun r w' => r = .returned (.tuple #[.int .i64 68, .int .i64 0]) ∧ HS W w' x q2 ls3 3 ao cap nv c :=
  h_make h 1 (by decide) ⟨1, 0, 0⟩ rfl 4 68 (by decide) (by decide) qt2 (hide q_t2) rv
theorem get14 (a f : Int) (ad : Bool) (v t : Int) (e : getT al ls3 a f ad = (v, t)) (h : Hid (HS W w x al ls3 3 ao cap nv c)) : Calls Tryz.prog 20 #[.pointer (some ⟨x.hb, 0, none⟩), .int .i64 a, .int .i64 f, .bool ad] w fun r w' => r = .returned (.tuple #[.int .i64 v, .int .i64 t]) ∧ HS W w' x al ls3 3 ao cap nv c :=
  (h_get h a f ad).mono fun _ _ hh => by rw [e] at hh; exact ⟨hh.1, (unhide h).gr hh.2⟩
theorem at14 (a f : Int) (ad : Bool) (v t : Int) (e : atT al ls3 a f ad = (v, t)) (h : Hid (HS W w x al ls3 3 ao cap nv c)) : Calls Tryz.prog 17 #[.pointer (some ⟨x.hb, 0, none⟩), .int .i64 a, .int .i64 f, .bool ad] w fun r w' => r = .returned (.tuple #[.int .i64 v, .int .i64 t]) ∧ HS W w' x al ls3 3 ao cap nv c :=
  (h_at h a f ad).mono fun _ _ hh => by rw [e] at hh; exact ⟨hh.1, (unhide h).gr hh.2⟩
theorem len14 (a v t : Int) (e : lenT al ls3 a = (v, t)) (h : Hid (HS W w x al ls3 3 ao cap nv c)) : Calls Tryz.prog 22 #[.pointer (some ⟨x.hb, 0, none⟩), .int .i64 a] w fun r w' => r = .returned (.tuple #[.int .i64 v, .int .i64 t]) ∧ HS W w' x al ls3 3 ao cap nv c :=
  (h_len h a).mono fun _ _ hh => by rw [e] at hh; exact ⟨hh.1, (unhide h).gr hh.2⟩
theorem st1 (h : Hid (HS W w x q2 ls3 3 ao cap nv c)) : Calls Tryz.prog 21 #[.pointer (some ⟨x.hb, 0, none⟩), .int .i64 64, .int .i64 0, .int .i64 9, .bool false, .bool true, .int .i64 1] w fun r w' => r = .returned (.int .i64 0) ∧ HS W w' x q3 ls3 3 ao cap nv c :=
  (h_set h 64 0 9 false true 1).mono fun _ _ hh => by rw [q_s1, if_pos rfl] at hh; exact hh
theorem pt1 (h : Hid (HS W w x q3 ls3 3 ao cap nv c)) : Calls Tryz.prog 16 #[.pointer (some ⟨x.hb, 0, none⟩), .int .i64 68, .int .i64 2, .int .i64 5, .bool false, .bool true, .int .i64 1] w fun r w' => r = .returned (.int .i64 0) ∧ HS W w' x q4 ls3 3 ao cap nv c :=
  (h_put h 68 2 5 false true 1).mono fun _ _ hh => by rw [q_p1, if_pos rfl] at hh; exact hh
theorem of1 (h : Hid (HS W w x q4 ls3 3 ao cap nv c)) : Calls Tryz.prog 12 #[.pointer (some ⟨x.hb, 0, none⟩), .int .i64 64] w fun r w' => r = .returned (.tuple #[.agg #[.int .i64 3, .int .i64 0, .int .i64 0], .agg #[.int .i64 0, .int .i64 2, .int .u64 2], .bool true]) ∧ HS W w' x q4 ls3 3 ao cap nv c :=
  (h_of h 64).mono fun _ _ hh => by rw [q_o1] at hh; exact ⟨hh.1, (unhide h).gr hh.2⟩
theorem ad1 (h : Hid (HS W w x al ls3 3 ao cap nv c)) : Calls Tryz.prog 9 #[.pointer (some ⟨x.hb, 0, none⟩), .agg #[.int .i64 1, .int .i64 0, .int .u64 0]] w fun r w' => r = .returned (.tuple #[.int .i64 1, .int .i64 0]) ∧ (∃ ao cap nv c, HS W w' x al ls3 3 ao cap nv c) ∧ KpD w c w' :=
  (h_add h rfl (by decide) ⟨1, 0, 0⟩ ⟨by decide, by decide, by decide⟩).mono fun _ _ hh => by
    obtain ⟨hr, ⟨n', ao', cap', nv', c', hn', S⟩, hk⟩ := hh
    rw [q_n1.2.2] at S hn'
    rw [q_n1.1, q_n1.2.1] at hr
    subst hn'
    exact ⟨hr, ⟨ao', cap', nv', c', S⟩, hk (by decide)⟩
end
end Go.Proofs.YtahhkehijokhnaaGreatDoor

/- awake() of package gantlinelaw14 answers true. -/
namespace Go.Proofs.YtahhkehijokhnaaGreatDoor
set_option maxRecDepth 100000
open Go.ChangeShapes Go.WideShapes Go.ChangeAt Go.RowKit Go.Maps Go.Deep

set_option maxHeartbeats 20000000 in
set_option maxRecDepth 100000 in
theorem awake14 (w : World) (ht : Tab w) : Calls Tryz.prog 5 #[] w fun e w' => e = .returned (.bool true) ∧ G w w' := by
  replace ht := hide ht
  go_enter Tryz.func5, Tryz.ntmps5
  go_wp2_with fail
  refine (shapes14 _).mono ?_
  rintro e w1 ⟨rfl, hw1⟩
  have CN := hide (new14 w w1 hw1 (unhide ht))
  have g1 : Hid (G w w1) := hide (by rw [hw1]; exact G.alloc _ _)
  clear hw1
  go_wp2_with fail
  refine (unhide CN).mono ?_
  rintro e w2 ⟨x, rfl, ao, cap, nv, c, S0⟩
  replace S0 := hide S0
  have C0 := hide (h_cycle S0)
  clear CN
  go_wp2_with fail
  refine (unhide C0).mono ?_
  rintro e w3 ⟨rfl, hw⟩
  subst hw
  clear C0
  have S1 := hide ((unhide S0).gr (G.alloc w3 (.cells #[.slice none 0 0] 33)))
  have C1 := hide (mk1 S1)
  clear S0
  go_wp2_with fail
  refine (unhide C1 _).mono ?_
  rintro e w4 ⟨rfl, S4⟩
  replace S4 := hide S4
  have C2 := hide (mk2 S4)
  clear C1 S1
  go_wp2_with fail
  refine (unhide C2 _).mono ?_
  rintro e w5 ⟨rfl, S5⟩
  replace S5 := hide S5
  have C3 := hide (get14 64 1 true 0 0 q_g1 S5)
  clear C2 S4
  go_wp2_with fail
  refine (unhide C3).mono ?_
  rintro e w6 ⟨rfl, S6⟩
  replace S6 := hide S6
  have C4 := hide (st1 S6)
  clear C3 S5
  go_wp2_with fail
  refine (unhide C4).mono ?_
  rintro e w7 ⟨rfl, S7⟩
  replace S7 := hide S7
  have C5 := hide (get14 64 0 false 9 0 q_g2 S7)
  clear C4 S6
  go_wp2_with fail
  refine (unhide C5).mono ?_
  rintro e w8 ⟨rfl, S8⟩
  replace S8 := hide S8
  have C6 := hide (pt1 S8)
  clear C5 S7
  go_wp2_with fail
  refine (unhide C6).mono ?_
  rintro e w9 ⟨rfl, S9⟩
  replace S9 := hide S9
  have C7 := hide (at14 68 2 false 5 0 q_a1 S9)
  clear C6 S8
  go_wp2_with fail
  refine (unhide C7).mono ?_
  rintro e w10 ⟨rfl, S10⟩
  replace S10 := hide S10
  have C8 := hide (len14 68 3 0 q_l1 S10)
  clear C7 S9
  go_wp2_with fail
  refine (unhide C8).mono ?_
  rintro e w11 ⟨rfl, S11⟩
  replace S11 := hide S11
  have C9 := hide (of1 S11)
  clear C8 S10
  go_wp2_with fail
  refine (unhide C9).mono ?_
  rintro e w12 ⟨rfl, S12⟩
  replace S12 := hide S12
  clear C9 S11
  obtain ⟨W2, hW2⟩ : ∃ W2, W2 = (w12.alloc (.cells #[.int .i64 3, .int .i64 0, .int .i64 0] 50)).alloc (.cells #[.int .i64 0, .int .i64 2, .int .u64 2] 37) := ⟨_, rfl⟩
  obtain ⟨g2, bx⟩ := two_box w12 3 0 0 0 2 2 W2 hW2
  have z2 : W2.heap.size = w12.heap.size + 2 := by rw [hW2, World.size_alloc, World.size_alloc]
  have C10 := hide (ad1 (hide (((unhide S12).gr g2).recol w12 (unhide S12))))
  have bx' := hide (bx W2 (G.refl _))
  replace g2 := hide g2
  replace z2 := hide z2
  clear bx
  go_wp2_with fail
  rw [← hW2]
  clear hW2
  refine (unhide C10).mono ?_
  rintro e w13 ⟨rfl, ⟨ao', cap', nv', c', S13⟩, kp⟩
  replace S13 := hide S13
  have k0 : w13.heap[w12.heap.size]? = W2.heap[w12.heap.size]? := kp _ (by have := unhide z2; omega) (by simp) (by simp) (by simp)
  have k1 : w13.heap[w12.heap.size + 1]? = W2.heap[w12.heap.size + 1]? := kp _ (by have := unhide z2; omega) (by simp) (by simp) (by simp)
  obtain ⟨⟨a0, a1, a2⟩, b0, b1, b2⟩ := unhide bx'
  have y0 := (World.cell?_of_block (a := ⟨w12.heap.size, 0, none⟩) k0).trans a0
  have y1 := (World.cell?_of_block (a := ⟨w12.heap.size, 1, none⟩) k0).trans a1
  have y2 := (World.cell?_of_block (a := ⟨w12.heap.size, 2, none⟩) k0).trans a2
  have y3 := (World.cell?_of_block (a := ⟨w12.heap.size + 1, 0, none⟩) k1).trans b0
  have y4 := (World.cell?_of_block (a := ⟨w12.heap.size + 1, 1, none⟩) k1).trans b1
  have y5 := (World.cell?_of_block (a := ⟨w12.heap.size + 1, 2, none⟩) k1).trans b2
  clear C10 kp k0 k1 a0 a1 a2 b0 b1 b2 bx' g2 z2
  go_wp2_with fail
  obtain ⟨d0, hd0⟩ : ∃ d0, d0 = w12.heap.size := ⟨_, rfl⟩
  rw [← hd0] at y0 y1 y2 y3 y4 y5 ⊢
  clear hd0
  have BX : Hid (∀ y : World, y.heap[d0]? = w13.heap[d0]? ∧ y.heap[d0 + 1]? = w13.heap[d0 + 1]? → (y.cell? ⟨d0, 0, none⟩ = some (.int .i64 3) ∧ y.cell? ⟨d0, 1, none⟩ = some (.int .i64 0) ∧ y.cell? ⟨d0, 2, none⟩ = some (.int .i64 0)) ∧ (y.cell? ⟨d0 + 1, 0, none⟩ = some (.int .i64 0) ∧ y.cell? ⟨d0 + 1, 1, none⟩ = some (.int .i64 2) ∧ y.cell? ⟨d0 + 1, 2, none⟩ = some (.int .u64 2))) := hide fun y hy =>
    ⟨⟨(World.cell?_of_block (a := ⟨d0, 0, none⟩) hy.1).trans y0, (World.cell?_of_block (a := ⟨d0, 1, none⟩) hy.1).trans y1, (World.cell?_of_block (a := ⟨d0, 2, none⟩) hy.1).trans y2⟩, (World.cell?_of_block (a := ⟨d0 + 1, 0, none⟩) hy.2).trans y3, (World.cell?_of_block (a := ⟨d0 + 1, 1, none⟩) hy.2).trans y4, (World.cell?_of_block (a := ⟨d0 + 1, 2, none⟩) hy.2).trans y5⟩
  have lt0 : Hid (d0 + 1 < w13.heap.size) := hide (World.block_lt_of_cell? w13 _ y3)
  clear y0 y1 y2 y3 y4 y5
  dsimp only [List.append]
  refine wp_region_noPanic ?_
  refine wp_region_held_drew (S := fun (y : World) => y.heap[d0]? = w13.heap[d0]? ∧ y.heap[d0 + 1]? = w13.heap[d0 + 1]?) (by kernel_rfl) ⟨rfl, rfl⟩ (fun hHeld => ?_)
  obtain ⟨y1, hy1⟩ : ∃ y, y = w13.drew := ⟨_, rfl⟩
  have gy : Hid (G w13 y1) := hide (by rw [hy1]; exact G.drewN w13 1)
  rw [← hy1] at hHeld ⊢
  clear hy1
  refine wpAnyH_take (i := 0) (v := .int .i64 0) rfl (by kernel_rfl) (by kernel_rfl) (by kernel_rfl) (fun _ _ _ h => h) (Or.inl ⟨by rfl, fun w hSw => by go_simp⟩) (by assumption) ?_
  try simp only [Act.put, List.getElem_toArray, List.getElem_cons_zero, List.setIfInBounds_toArray, List.set_cons_zero, List.set_cons_succ]
  refine wpAnyH_take (i := 1) (v := .bool true) rfl (by kernel_rfl) (by kernel_rfl) (by kernel_rfl) (fun _ _ _ h => h) (Or.inl ⟨by rfl, fun w hSw => by go_simp⟩) (by assumption) ?_
  try simp only [Act.put, List.getElem_toArray, List.getElem_cons_succ, List.getElem_cons_zero, List.setIfInBounds_toArray, List.set_cons_zero, List.set_cons_succ]
  refine wpAnyH_take (i := 2) (v := .bool true) rfl (by kernel_rfl) (by kernel_rfl) (by kernel_rfl) (fun _ _ _ h => h) (Or.inl ⟨by rfl, fun w hSw => by go_simp⟩) (by assumption) ?_
  try simp only [Act.put, List.getElem_toArray, List.getElem_cons_succ, List.getElem_cons_zero, List.setIfInBounds_toArray, List.set_cons_zero, List.set_cons_succ]
  refine wpAnyH_take (i := 3) (v := .int .i64 0) rfl (by kernel_rfl) (by kernel_rfl) (by kernel_rfl) (fun _ _ _ h => h) (Or.inl ⟨by rfl, fun w hSw => by go_simp⟩) (by assumption) ?_
  try simp only [Act.put, List.getElem_toArray, List.getElem_cons_succ, List.getElem_cons_zero, List.setIfInBounds_toArray, List.set_cons_zero, List.set_cons_succ]
  refine wpAnyH_take (i := 4) (v := .bool true) rfl (by kernel_rfl) (by kernel_rfl) (by kernel_rfl) (fun _ _ _ h => h) (Or.inl ⟨by rfl, fun w hSw => by go_simp⟩) (by assumption) ?_
  try simp only [Act.put, List.getElem_toArray, List.getElem_cons_succ, List.getElem_cons_zero, List.setIfInBounds_toArray, List.set_cons_zero, List.set_cons_succ]
  refine wpAnyH_take (i := 5) (v := .bool true) rfl (by kernel_rfl) (by kernel_rfl) (by kernel_rfl) (fun _ _ _ h => h) (Or.inl ⟨by rfl, fun w hSw => by go_simp⟩) (by assumption) ?_
  try simp only [Act.put, List.getElem_toArray, List.getElem_cons_succ, List.getElem_cons_zero, List.setIfInBounds_toArray, List.set_cons_zero, List.set_cons_succ]
  refine wpAnyH_take (i := 6) (v := .bool true) rfl (by kernel_rfl) (by kernel_rfl) (by kernel_rfl) (fun _ _ _ h => h) (Or.inl ⟨by rfl, fun w hSw => by go_simp⟩) (by assumption) ?_
  try simp only [Act.put, List.getElem_toArray, List.getElem_cons_succ, List.getElem_cons_zero, List.setIfInBounds_toArray, List.set_cons_zero, List.set_cons_succ]
  refine wpAnyH_take (i := 7) (v := .int .i64 64) rfl (by kernel_rfl) (by kernel_rfl) (by kernel_rfl) (fun _ _ _ h => h) (Or.inl ⟨by rfl, fun w hSw => by go_simp⟩) (by assumption) ?_
  try simp only [Act.put, List.getElem_toArray, List.getElem_cons_succ, List.getElem_cons_zero, List.setIfInBounds_toArray, List.set_cons_zero, List.set_cons_succ]
  refine wpAnyH_take (i := 8) (v := .bool true) rfl (by kernel_rfl) (by kernel_rfl) (by kernel_rfl) (fun _ _ _ h => h) (Or.inl ⟨by rfl, fun w hSw => by go_simp⟩) (by assumption) ?_
  try simp only [Act.put, List.getElem_toArray, List.getElem_cons_succ, List.getElem_cons_zero, List.setIfInBounds_toArray, List.set_cons_zero, List.set_cons_succ]
  refine wpAnyH_take (i := 9) (v := .bool true) rfl (by kernel_rfl) (by kernel_rfl) (by kernel_rfl) (fun _ _ _ h => h) (Or.inl ⟨by rfl, fun w hSw => by go_simp⟩) (by assumption) ?_
  try simp only [Act.put, List.getElem_toArray, List.getElem_cons_succ, List.getElem_cons_zero, List.setIfInBounds_toArray, List.set_cons_zero, List.set_cons_succ]
  refine wpAnyH_take (i := 10) (v := .bool true) rfl (by kernel_rfl) (by kernel_rfl) (by kernel_rfl) (fun _ _ _ h => h) (Or.inl ⟨by rfl, fun w hSw => by go_simp⟩) (by assumption) ?_
  try simp only [Act.put, List.getElem_toArray, List.getElem_cons_succ, List.getElem_cons_zero, List.setIfInBounds_toArray, List.set_cons_zero, List.set_cons_succ]
  refine wpAnyH_take (i := 11) (v := .int .i64 68) rfl (by kernel_rfl) (by kernel_rfl) (by kernel_rfl) (fun _ _ _ h => h) (Or.inl ⟨by rfl, fun w hSw => by go_simp⟩) (by assumption) ?_
  try simp only [Act.put, List.getElem_toArray, List.getElem_cons_succ, List.getElem_cons_zero, List.setIfInBounds_toArray, List.set_cons_zero, List.set_cons_succ]
  refine wpAnyH_take (i := 12) (v := .bool true) rfl (by kernel_rfl) (by kernel_rfl) (by kernel_rfl) (fun _ _ _ h => h) (Or.inl ⟨by rfl, fun w hSw => by go_simp⟩) (by assumption) ?_
  try simp only [Act.put, List.getElem_toArray, List.getElem_cons_succ, List.getElem_cons_zero, List.setIfInBounds_toArray, List.set_cons_zero, List.set_cons_succ]
  refine wpAnyH_take (i := 13) (v := .bool true) rfl (by kernel_rfl) (by kernel_rfl) (by kernel_rfl) (fun _ _ _ h => h) (Or.inl ⟨by rfl, fun w hSw => by go_simp⟩) (by assumption) ?_
  try simp only [Act.put, List.getElem_toArray, List.getElem_cons_succ, List.getElem_cons_zero, List.setIfInBounds_toArray, List.set_cons_zero, List.set_cons_succ]
  refine wpAnyH_take (i := 14) (v := .bool true) rfl (by kernel_rfl) (by kernel_rfl) (by kernel_rfl) (fun _ _ _ h => h) (Or.inl ⟨by rfl, fun w hSw => by go_simp⟩) (by assumption) ?_
  try simp only [Act.put, List.getElem_toArray, List.getElem_cons_succ, List.getElem_cons_zero, List.setIfInBounds_toArray, List.set_cons_zero, List.set_cons_succ]
  refine wpAnyH_take (i := 15) (v := .int .i64 0) rfl (by kernel_rfl) (by kernel_rfl) (by kernel_rfl) (fun _ _ _ h => h) (Or.inl ⟨by rfl, fun w hSw => by go_simp⟩) (by assumption) ?_
  try simp only [Act.put, List.getElem_toArray, List.getElem_cons_succ, List.getElem_cons_zero, List.setIfInBounds_toArray, List.set_cons_zero, List.set_cons_succ]
  refine wpAnyH_take (i := 16) (v := .bool true) rfl (by kernel_rfl) (by kernel_rfl) (by kernel_rfl) (fun _ _ _ h => h) (Or.inl ⟨by rfl, fun w hSw => by go_simp⟩) (by assumption) ?_
  try simp only [Act.put, List.getElem_toArray, List.getElem_cons_succ, List.getElem_cons_zero, List.setIfInBounds_toArray, List.set_cons_zero, List.set_cons_succ]
  refine wpAnyH_take (i := 17) (v := .bool true) rfl (by kernel_rfl) (by kernel_rfl) (by kernel_rfl) (fun _ _ _ h => h) (Or.inl ⟨by rfl, fun w hSw => by go_simp⟩) (by assumption) ?_
  try simp only [Act.put, List.getElem_toArray, List.getElem_cons_succ, List.getElem_cons_zero, List.setIfInBounds_toArray, List.set_cons_zero, List.set_cons_succ]
  refine wpAnyH_take (i := 18) (v := .bool true) rfl (by kernel_rfl) (by kernel_rfl) (by kernel_rfl) (fun _ _ _ h => h) (Or.inl ⟨by rfl, fun w hSw => by go_simp⟩) (by assumption) ?_
  try simp only [Act.put, List.getElem_toArray, List.getElem_cons_succ, List.getElem_cons_zero, List.setIfInBounds_toArray, List.set_cons_zero, List.set_cons_succ]
  refine wpAnyH_take (i := 19) (v := .int .i64 0) rfl (by kernel_rfl) (by kernel_rfl) (by kernel_rfl) (fun _ _ _ h => h) (Or.inl ⟨by rfl, fun w hSw => by go_simp⟩) (by assumption) ?_
  try simp only [Act.put, List.getElem_toArray, List.getElem_cons_succ, List.getElem_cons_zero, List.setIfInBounds_toArray, List.set_cons_zero, List.set_cons_succ]
  refine wpAnyH_take (i := 20) (v := .bool true) rfl (by kernel_rfl) (by kernel_rfl) (by kernel_rfl) (fun _ _ _ h => h) (Or.inl ⟨by rfl, fun w hSw => by go_simp⟩) (by assumption) ?_
  try simp only [Act.put, List.getElem_toArray, List.getElem_cons_succ, List.getElem_cons_zero, List.setIfInBounds_toArray, List.set_cons_zero, List.set_cons_succ]
  refine wpAnyH_take (i := 21) (v := .bool true) rfl (by kernel_rfl) (by kernel_rfl) (by kernel_rfl) (fun _ _ _ h => h) (Or.inl ⟨by rfl, fun w hSw => by go_simp⟩) (by assumption) ?_
  try simp only [Act.put, List.getElem_toArray, List.getElem_cons_succ, List.getElem_cons_zero, List.setIfInBounds_toArray, List.set_cons_zero, List.set_cons_succ]
  refine wpAnyH_take (i := 22) (v := .bool true) rfl (by kernel_rfl) (by kernel_rfl) (by kernel_rfl) (fun _ _ _ h => h) (Or.inl ⟨by rfl, fun w hSw => by go_simp⟩) (by assumption) ?_
  try simp only [Act.put, List.getElem_toArray, List.getElem_cons_succ, List.getElem_cons_zero, List.setIfInBounds_toArray, List.set_cons_zero, List.set_cons_succ]
  refine wpAnyH_take (i := 23) (v := .int .i64 0) rfl (by kernel_rfl) (by kernel_rfl) (by kernel_rfl) (fun _ _ _ h => h) (Or.inl ⟨by rfl, fun w hSw => by go_simp⟩) (by assumption) ?_
  try simp only [Act.put, List.getElem_toArray, List.getElem_cons_succ, List.getElem_cons_zero, List.setIfInBounds_toArray, List.set_cons_zero, List.set_cons_succ]
  refine wpAnyH_take (i := 24) (v := .bool true) rfl (by kernel_rfl) (by kernel_rfl) (by kernel_rfl) (fun _ _ _ h => h) (Or.inl ⟨by rfl, fun w hSw => by go_simp⟩) (by assumption) ?_
  try simp only [Act.put, List.getElem_toArray, List.getElem_cons_succ, List.getElem_cons_zero, List.setIfInBounds_toArray, List.set_cons_zero, List.set_cons_succ]
  refine wpAnyH_take (i := 25) (v := .bool true) rfl (by kernel_rfl) (by kernel_rfl) (by kernel_rfl) (fun _ _ _ h => h) (Or.inl ⟨by rfl, fun w hSw => by go_simp⟩) (by assumption) ?_
  try simp only [Act.put, List.getElem_toArray, List.getElem_cons_succ, List.getElem_cons_zero, List.setIfInBounds_toArray, List.set_cons_zero, List.set_cons_succ]
  refine wpAnyH_take (i := 26) (v := .bool true) rfl (by kernel_rfl) (by kernel_rfl) (by kernel_rfl) (fun _ _ _ h => h) (Or.inl ⟨by rfl, fun w hSw => by go_simp⟩) (by assumption) ?_
  try simp only [Act.put, List.getElem_toArray, List.getElem_cons_succ, List.getElem_cons_zero, List.setIfInBounds_toArray, List.set_cons_zero, List.set_cons_succ]
  refine wpAnyH_take (i := 27) (v := .int .i64 9) rfl (by kernel_rfl) (by kernel_rfl) (by kernel_rfl) (fun _ _ _ h => h) (Or.inl ⟨by rfl, fun w hSw => by go_simp⟩) (by assumption) ?_
  try simp only [Act.put, List.getElem_toArray, List.getElem_cons_succ, List.getElem_cons_zero, List.setIfInBounds_toArray, List.set_cons_zero, List.set_cons_succ]
  refine wpAnyH_take (i := 28) (v := .bool true) rfl (by kernel_rfl) (by kernel_rfl) (by kernel_rfl) (fun _ _ _ h => h) (Or.inl ⟨by rfl, fun w hSw => by go_simp⟩) (by assumption) ?_
  try simp only [Act.put, List.getElem_toArray, List.getElem_cons_succ, List.getElem_cons_zero, List.setIfInBounds_toArray, List.set_cons_zero, List.set_cons_succ]
  refine wpAnyH_take (i := 29) (v := .bool true) rfl (by kernel_rfl) (by kernel_rfl) (by kernel_rfl) (fun _ _ _ h => h) (Or.inl ⟨by rfl, fun w hSw => by go_simp⟩) (by assumption) ?_
  try simp only [Act.put, List.getElem_toArray, List.getElem_cons_succ, List.getElem_cons_zero, List.setIfInBounds_toArray, List.set_cons_zero, List.set_cons_succ]
  refine wpAnyH_take (i := 30) (v := .bool true) rfl (by kernel_rfl) (by kernel_rfl) (by kernel_rfl) (fun _ _ _ h => h) (Or.inl ⟨by rfl, fun w hSw => by go_simp⟩) (by assumption) ?_
  try simp only [Act.put, List.getElem_toArray, List.getElem_cons_succ, List.getElem_cons_zero, List.setIfInBounds_toArray, List.set_cons_zero, List.set_cons_succ]
  refine wpAnyH_take (i := 31) (v := .int .i64 0) rfl (by kernel_rfl) (by kernel_rfl) (by kernel_rfl) (fun _ _ _ h => h) (Or.inl ⟨by rfl, fun w hSw => by go_simp⟩) (by assumption) ?_
  try simp only [Act.put, List.getElem_toArray, List.getElem_cons_succ, List.getElem_cons_zero, List.setIfInBounds_toArray, List.set_cons_zero, List.set_cons_succ]
  refine wpAnyH_take (i := 32) (v := .bool true) rfl (by kernel_rfl) (by kernel_rfl) (by kernel_rfl) (fun _ _ _ h => h) (Or.inl ⟨by rfl, fun w hSw => by go_simp⟩) (by assumption) ?_
  try simp only [Act.put, List.getElem_toArray, List.getElem_cons_succ, List.getElem_cons_zero, List.setIfInBounds_toArray, List.set_cons_zero, List.set_cons_succ]
  refine wpAnyH_take (i := 33) (v := .bool true) rfl (by kernel_rfl) (by kernel_rfl) (by kernel_rfl) (fun _ _ _ h => h) (Or.inl ⟨by rfl, fun w hSw => by go_simp⟩) (by assumption) ?_
  try simp only [Act.put, List.getElem_toArray, List.getElem_cons_succ, List.getElem_cons_zero, List.setIfInBounds_toArray, List.set_cons_zero, List.set_cons_succ]
  refine wpAnyH_take (i := 34) (v := .bool true) rfl (by kernel_rfl) (by kernel_rfl) (by kernel_rfl) (fun _ _ _ h => h) (Or.inl ⟨by rfl, fun w hSw => by go_simp⟩) (by assumption) ?_
  try simp only [Act.put, List.getElem_toArray, List.getElem_cons_succ, List.getElem_cons_zero, List.setIfInBounds_toArray, List.set_cons_zero, List.set_cons_succ]
  refine wpAnyH_take (i := 35) (v := .int .i64 0) rfl (by kernel_rfl) (by kernel_rfl) (by kernel_rfl) (fun _ _ _ h => h) (Or.inl ⟨by rfl, fun w hSw => by go_simp⟩) (by assumption) ?_
  try simp only [Act.put, List.getElem_toArray, List.getElem_cons_succ, List.getElem_cons_zero, List.setIfInBounds_toArray, List.set_cons_zero, List.set_cons_succ]
  refine wpAnyH_take (i := 36) (v := .bool true) rfl (by kernel_rfl) (by kernel_rfl) (by kernel_rfl) (fun _ _ _ h => h) (Or.inl ⟨by rfl, fun w hSw => by go_simp⟩) (by assumption) ?_
  try simp only [Act.put, List.getElem_toArray, List.getElem_cons_succ, List.getElem_cons_zero, List.setIfInBounds_toArray, List.set_cons_zero, List.set_cons_succ]
  refine wpAnyH_take (i := 37) (v := .bool true) rfl (by kernel_rfl) (by kernel_rfl) (by kernel_rfl) (fun _ _ _ h => h) (Or.inl ⟨by rfl, fun w hSw => by go_simp⟩) (by assumption) ?_
  try simp only [Act.put, List.getElem_toArray, List.getElem_cons_succ, List.getElem_cons_zero, List.setIfInBounds_toArray, List.set_cons_zero, List.set_cons_succ]
  refine wpAnyH_take (i := 38) (v := .bool true) rfl (by kernel_rfl) (by kernel_rfl) (by kernel_rfl) (fun _ _ _ h => h) (Or.inl ⟨by rfl, fun w hSw => by go_simp⟩) (by assumption) ?_
  try simp only [Act.put, List.getElem_toArray, List.getElem_cons_succ, List.getElem_cons_zero, List.setIfInBounds_toArray, List.set_cons_zero, List.set_cons_succ]
  refine wpAnyH_take (i := 39) (v := .int .i64 5) rfl (by kernel_rfl) (by kernel_rfl) (by kernel_rfl) (fun _ _ _ h => h) (Or.inl ⟨by rfl, fun w hSw => by go_simp⟩) (by assumption) ?_
  try simp only [Act.put, List.getElem_toArray, List.getElem_cons_succ, List.getElem_cons_zero, List.setIfInBounds_toArray, List.set_cons_zero, List.set_cons_succ]
  refine wpAnyH_take (i := 40) (v := .bool true) rfl (by kernel_rfl) (by kernel_rfl) (by kernel_rfl) (fun _ _ _ h => h) (Or.inl ⟨by rfl, fun w hSw => by go_simp⟩) (by assumption) ?_
  try simp only [Act.put, List.getElem_toArray, List.getElem_cons_succ, List.getElem_cons_zero, List.setIfInBounds_toArray, List.set_cons_zero, List.set_cons_succ]
  refine wpAnyH_take (i := 41) (v := .bool true) rfl (by kernel_rfl) (by kernel_rfl) (by kernel_rfl) (fun _ _ _ h => h) (Or.inl ⟨by rfl, fun w hSw => by go_simp⟩) (by assumption) ?_
  try simp only [Act.put, List.getElem_toArray, List.getElem_cons_succ, List.getElem_cons_zero, List.setIfInBounds_toArray, List.set_cons_zero, List.set_cons_succ]
  refine wpAnyH_take (i := 42) (v := .bool true) rfl (by kernel_rfl) (by kernel_rfl) (by kernel_rfl) (fun _ _ _ h => h) (Or.inl ⟨by rfl, fun w hSw => by go_simp⟩) (by assumption) ?_
  try simp only [Act.put, List.getElem_toArray, List.getElem_cons_succ, List.getElem_cons_zero, List.setIfInBounds_toArray, List.set_cons_zero, List.set_cons_succ]
  refine wpAnyH_take (i := 43) (v := .int .i64 0) rfl (by kernel_rfl) (by kernel_rfl) (by kernel_rfl) (fun _ _ _ h => h) (Or.inl ⟨by rfl, fun w hSw => by go_simp⟩) (by assumption) ?_
  try simp only [Act.put, List.getElem_toArray, List.getElem_cons_succ, List.getElem_cons_zero, List.setIfInBounds_toArray, List.set_cons_zero, List.set_cons_succ]
  refine wpAnyH_take (i := 44) (v := .bool true) rfl (by kernel_rfl) (by kernel_rfl) (by kernel_rfl) (fun _ _ _ h => h) (Or.inl ⟨by rfl, fun w hSw => by go_simp⟩) (by assumption) ?_
  try simp only [Act.put, List.getElem_toArray, List.getElem_cons_succ, List.getElem_cons_zero, List.setIfInBounds_toArray, List.set_cons_zero, List.set_cons_succ]
  refine wpAnyH_take (i := 45) (v := .bool true) rfl (by kernel_rfl) (by kernel_rfl) (by kernel_rfl) (fun _ _ _ h => h) (Or.inl ⟨by rfl, fun w hSw => by go_simp⟩) (by assumption) ?_
  try simp only [Act.put, List.getElem_toArray, List.getElem_cons_succ, List.getElem_cons_zero, List.setIfInBounds_toArray, List.set_cons_zero, List.set_cons_succ]
  refine wpAnyH_take (i := 46) (v := .bool true) rfl (by kernel_rfl) (by kernel_rfl) (by kernel_rfl) (fun _ _ _ h => h) (Or.inl ⟨by rfl, fun w hSw => by go_simp⟩) (by assumption) ?_
  try simp only [Act.put, List.getElem_toArray, List.getElem_cons_succ, List.getElem_cons_zero, List.setIfInBounds_toArray, List.set_cons_zero, List.set_cons_succ]
  refine wpAnyH_take (i := 47) (v := .int .i64 3) rfl (by kernel_rfl) (by kernel_rfl) (by kernel_rfl) (fun _ _ _ h => h) (Or.inl ⟨by rfl, fun w hSw => by go_simp⟩) (by assumption) ?_
  try simp only [Act.put, List.getElem_toArray, List.getElem_cons_succ, List.getElem_cons_zero, List.setIfInBounds_toArray, List.set_cons_zero, List.set_cons_succ]
  refine wpAnyH_take (i := 48) (v := .bool true) rfl (by kernel_rfl) (by kernel_rfl) (by kernel_rfl) (fun _ _ _ h => h) (Or.inl ⟨by rfl, fun w hSw => by go_simp⟩) (by assumption) ?_
  try simp only [Act.put, List.getElem_toArray, List.getElem_cons_succ, List.getElem_cons_zero, List.setIfInBounds_toArray, List.set_cons_zero, List.set_cons_succ]
  refine wpAnyH_take (i := 49) (v := .bool true) rfl (by kernel_rfl) (by kernel_rfl) (by kernel_rfl) (fun _ _ _ h => h) (Or.inl ⟨by rfl, fun w hSw => by go_simp⟩) (by assumption) ?_
  try simp only [Act.put, List.getElem_toArray, List.getElem_cons_succ, List.getElem_cons_zero, List.setIfInBounds_toArray, List.set_cons_zero, List.set_cons_succ]
  refine wpAnyH_take (i := 50) (v := .bool true) rfl (by kernel_rfl) (by kernel_rfl) (by kernel_rfl) (fun _ _ _ h => h) (Or.inl ⟨by rfl, fun w hSw => by go_simp⟩) (by assumption) ?_
  try simp only [Act.put, List.getElem_toArray, List.getElem_cons_succ, List.getElem_cons_zero, List.setIfInBounds_toArray, List.set_cons_zero, List.set_cons_succ]
  refine wpAnyH_take (i := 51) (v := .int .i64 0) rfl (by kernel_rfl) (by kernel_rfl) (by kernel_rfl) (fun _ _ _ h => h) (Or.inl ⟨by rfl, fun w hSw => by go_simp⟩) (by assumption) ?_
  try simp only [Act.put, List.getElem_toArray, List.getElem_cons_succ, List.getElem_cons_zero, List.setIfInBounds_toArray, List.set_cons_zero, List.set_cons_succ]
  refine wpAnyH_take (i := 52) (v := .bool true) rfl (by kernel_rfl) (by kernel_rfl) (by kernel_rfl) (fun _ _ _ h => h) (Or.inl ⟨by rfl, fun w hSw => by go_simp⟩) (by assumption) ?_
  try simp only [Act.put, List.getElem_toArray, List.getElem_cons_succ, List.getElem_cons_zero, List.setIfInBounds_toArray, List.set_cons_zero, List.set_cons_succ]
  refine wpAnyH_take (i := 53) (v := .bool true) rfl (by kernel_rfl) (by kernel_rfl) (by kernel_rfl) (fun _ _ _ h => h) (Or.inl ⟨by rfl, fun w hSw => by go_simp⟩) (by assumption) ?_
  try simp only [Act.put, List.getElem_toArray, List.getElem_cons_succ, List.getElem_cons_zero, List.setIfInBounds_toArray, List.set_cons_zero, List.set_cons_succ]
  refine wpAnyH_take (i := 54) (v := .bool true) rfl (by kernel_rfl) (by kernel_rfl) (by kernel_rfl) (fun _ _ _ h => h) (Or.inl ⟨by rfl, fun w hSw => by go_simp⟩) (by assumption) ?_
  try simp only [Act.put, List.getElem_toArray, List.getElem_cons_succ, List.getElem_cons_zero, List.setIfInBounds_toArray, List.set_cons_zero, List.set_cons_succ]
  refine wpAnyH_take (i := 55) (v := .bool true) rfl (by kernel_rfl) (by kernel_rfl) (by kernel_rfl) (fun _ _ _ h => h) (Or.inl ⟨by rfl, fun w hSw => by go_simp⟩) (by assumption) ?_
  try simp only [Act.put, List.getElem_toArray, List.getElem_cons_succ, List.getElem_cons_zero, List.setIfInBounds_toArray, List.set_cons_zero, List.set_cons_succ]
  refine wpAnyH_take (i := 56) (v := .bool true) rfl (by kernel_rfl) (by kernel_rfl) (by kernel_rfl) (fun _ _ _ h => h) (Or.inl ⟨by rfl, fun w hSw => by go_simp⟩) (by assumption) ?_
  try simp only [Act.put, List.getElem_toArray, List.getElem_cons_succ, List.getElem_cons_zero, List.setIfInBounds_toArray, List.set_cons_zero, List.set_cons_succ]
  refine wpAnyH_take (i := 57) (v := .bool true) rfl (by kernel_rfl) (by kernel_rfl) (by kernel_rfl) (fun _ _ _ h => h) (Or.inl ⟨by rfl, fun w hSw => by go_simp⟩) (by assumption) ?_
  try simp only [Act.put, List.getElem_toArray, List.getElem_cons_succ, List.getElem_cons_zero, List.setIfInBounds_toArray, List.set_cons_zero, List.set_cons_succ]
  refine wpAnyH_take (i := 58) (v := .agg #[.int .i64 3, .int .i64 0, .int .i64 0]) rfl (by kernel_rfl) (by kernel_rfl) (by kernel_rfl) (fun _ _ _ h => h) (Or.inl ⟨by rfl, fun w hSw => by obtain ⟨⟨t0, t1, t2⟩, t3, t4, t5⟩ := unhide BX w hSw; go_simp⟩) (by assumption) ?_
  try simp only [Act.put, List.getElem_toArray, List.getElem_cons_succ, List.getElem_cons_zero, List.setIfInBounds_toArray, List.set_cons_zero, List.set_cons_succ]
  refine wpAnyH_take (i := 59) (v := .agg #[.int .i64 3, .int .i64 0, .int .i64 0]) rfl (by kernel_rfl) (by kernel_rfl) (by kernel_rfl) (fun _ _ _ h => h) (Or.inl ⟨by rfl, fun w hSw => by go_simp⟩) (by assumption) ?_
  try simp only [Act.put, List.getElem_toArray, List.getElem_cons_succ, List.getElem_cons_zero, List.setIfInBounds_toArray, List.set_cons_zero, List.set_cons_succ]
  refine wpAnyH_take (i := 60) (v := .bool true) rfl (by kernel_rfl) (by kernel_rfl) (by kernel_rfl) (fun _ _ _ h => h) (Or.inl ⟨by rfl, fun w hSw => by go_simp⟩) (by assumption) ?_
  try simp only [Act.put, List.getElem_toArray, List.getElem_cons_succ, List.getElem_cons_zero, List.setIfInBounds_toArray, List.set_cons_zero, List.set_cons_succ]
  refine wpAnyH_take (i := 61) (v := .bool true) rfl (by kernel_rfl) (by kernel_rfl) (by kernel_rfl) (fun _ _ _ h => h) (Or.inl ⟨by rfl, fun w hSw => by go_simp⟩) (by assumption) ?_
  try simp only [Act.put, List.getElem_toArray, List.getElem_cons_succ, List.getElem_cons_zero, List.setIfInBounds_toArray, List.set_cons_zero, List.set_cons_succ]
  refine wpAnyH_take (i := 62) (v := .bool true) rfl (by kernel_rfl) (by kernel_rfl) (by kernel_rfl) (fun _ _ _ h => h) (Or.inl ⟨by rfl, fun w hSw => by go_simp⟩) (by assumption) ?_
  try simp only [Act.put, List.getElem_toArray, List.getElem_cons_succ, List.getElem_cons_zero, List.setIfInBounds_toArray, List.set_cons_zero, List.set_cons_succ]
  refine wpAnyH_take (i := 63) (v := .agg #[.int .i64 0, .int .i64 2, .int .u64 2]) rfl (by kernel_rfl) (by kernel_rfl) (by kernel_rfl) (fun _ _ _ h => h) (Or.inl ⟨by rfl, fun w hSw => by obtain ⟨⟨t0, t1, t2⟩, t3, t4, t5⟩ := unhide BX w hSw; go_simp⟩) (by assumption) ?_
  try simp only [Act.put, List.getElem_toArray, List.getElem_cons_succ, List.getElem_cons_zero, List.setIfInBounds_toArray, List.set_cons_zero, List.set_cons_succ]
  have CS := hide (shapes14 y1)
  refine wpAnyH_ready (rs := [64]) (by kernel_rfl) (by simp) ?_
  refine AllReadyH.cons rfl (fun K hK => ?_) AllReadyH.nil
  go_simp
  refine (unhide CS).mono ?_
  rintro e w14 ⟨rfl, hw14⟩
  have g14 : G y1 w14 := by rw [hw14]; exact G.alloc _ _
  have S14 := hide ((unhide S13).gr ((unhide gy).trans g14))
  have z0 := shp3_at y1 0 ⟨0, 2, 2⟩ rfl
  rw [← hw14] at z0
  have z1 : y1.heap.size < w14.heap.size := by rw [hw14, World.size_alloc]; omega
  have z3 : w14.cell? ⟨y1.heap.size, 0, none⟩ = some (.int .i64 0) := z0.1
  have z4 : w14.cell? ⟨y1.heap.size, 1, none⟩ = some (.int .i64 2) := z0.2.1
  have z5 : w14.cell? ⟨y1.heap.size, 2, none⟩ = some (.int .u64 2) := z0.2.2
  clear z0
  have hS14 : w14.heap[d0]? = w13.heap[d0]? ∧ w14.heap[d0 + 1]? = w13.heap[d0 + 1]? := ⟨(((unhide gy).trans g14).block d0 (by have := unhide lt0; omega)), (((unhide gy).trans g14).block (d0 + 1) (unhide lt0))⟩
  replace z3 := hide z3
  replace z4 := hide z4
  replace z5 := hide z5
  replace z1 := hide z1
  clear hw14 g14 CS S13
  go_wp2_with fail
  refine hK.out _ _ hS14 (fun hH9 => ?_)
  clear hK K hHeld hH9
  try simp only [Act.put, List.getElem_toArray, List.getElem_cons_succ, List.getElem_cons_zero, List.setIfInBounds_toArray, List.set_cons_zero, List.set_cons_succ]
  refine wpAnyH_take (i := 65) (v := .pointer (some ⟨y1.heap.size, 0, none⟩)) rfl (by kernel_rfl) (by kernel_rfl) (by kernel_rfl) (fun _ _ _ h => h) (Or.inl ⟨by rfl, fun w hSw => by go_simp⟩) (by assumption) ?_
  try simp only [Act.put, List.getElem_toArray, List.getElem_cons_succ, List.getElem_cons_zero, List.setIfInBounds_toArray, List.set_cons_zero, List.set_cons_succ]
  refine wpAnyH_ready (rs := [66]) (by kernel_rfl) (by simp) ?_
  refine AllReadyH.cons rfl (fun K hK => ?_) AllReadyH.nil
  have t0 := unhide z3
  have t1 := unhide z4
  have t2 := unhide z5
  have t3 := unhide z1
  go_wp2_with fail
  refine hK.out _ _ hS14 (fun hH9 => ?_)
  clear hK K t0 t1 t2 t3 hH9
  try simp only [Act.put, List.getElem_toArray, List.getElem_cons_succ, List.getElem_cons_zero, List.setIfInBounds_toArray, List.set_cons_zero, List.set_cons_succ]
  refine wpAnyH_take (i := 67) (v := .bool true) rfl (by kernel_rfl) (by kernel_rfl) (by kernel_rfl) (fun _ _ _ h => h) (Or.inl ⟨by rfl, fun w hSw => by go_simp⟩) (by assumption) ?_
  try simp only [Act.put, List.getElem_toArray, List.getElem_cons_succ, List.getElem_cons_zero, List.setIfInBounds_toArray, List.set_cons_zero, List.set_cons_succ]
  refine wpAnyH_take (i := 68) (v := .bool true) rfl (by kernel_rfl) (by kernel_rfl) (by kernel_rfl) (fun _ _ _ h => h) (Or.inl ⟨by rfl, fun w hSw => by go_simp⟩) (by assumption) ?_
  try simp only [Act.put, List.getElem_toArray, List.getElem_cons_succ, List.getElem_cons_zero, List.setIfInBounds_toArray, List.set_cons_zero, List.set_cons_succ]
  refine wpAnyH_take (i := 69) (v := .bool true) rfl (by kernel_rfl) (by kernel_rfl) (by kernel_rfl) (fun _ _ _ h => h) (Or.inl ⟨by rfl, fun w hSw => by go_simp⟩) (by assumption) ?_
  try simp only [Act.put, List.getElem_toArray, List.getElem_cons_succ, List.getElem_cons_zero, List.setIfInBounds_toArray, List.set_cons_zero, List.set_cons_succ]
  refine wpAnyH_take (i := 70) (v := .int .i64 1) rfl (by kernel_rfl) (by kernel_rfl) (by kernel_rfl) (fun _ _ _ h => h) (Or.inl ⟨by rfl, fun w hSw => by go_simp⟩) (by assumption) ?_
  try simp only [Act.put, List.getElem_toArray, List.getElem_cons_succ, List.getElem_cons_zero, List.setIfInBounds_toArray, List.set_cons_zero, List.set_cons_succ]
  refine wpAnyH_take (i := 71) (v := .bool true) rfl (by kernel_rfl) (by kernel_rfl) (by kernel_rfl) (fun _ _ _ h => h) (Or.inl ⟨by rfl, fun w hSw => by go_simp⟩) (by assumption) ?_
  try simp only [Act.put, List.getElem_toArray, List.getElem_cons_succ, List.getElem_cons_zero, List.setIfInBounds_toArray, List.set_cons_zero, List.set_cons_succ]
  refine wpAnyH_take (i := 72) (v := .bool true) rfl (by kernel_rfl) (by kernel_rfl) (by kernel_rfl) (fun _ _ _ h => h) (Or.inl ⟨by rfl, fun w hSw => by go_simp⟩) (by assumption) ?_
  try simp only [Act.put, List.getElem_toArray, List.getElem_cons_succ, List.getElem_cons_zero, List.setIfInBounds_toArray, List.set_cons_zero, List.set_cons_succ]
  refine wpAnyH_take (i := 73) (v := .bool true) rfl (by kernel_rfl) (by kernel_rfl) (by kernel_rfl) (fun _ _ _ h => h) (Or.inl ⟨by rfl, fun w hSw => by go_simp⟩) (by assumption) ?_
  try simp only [Act.put, List.getElem_toArray, List.getElem_cons_succ, List.getElem_cons_zero, List.setIfInBounds_toArray, List.set_cons_zero, List.set_cons_succ]
  refine wpAnyH_take (i := 74) (v := .int .i64 0) rfl (by kernel_rfl) (by kernel_rfl) (by kernel_rfl) (fun _ _ _ h => h) (Or.inl ⟨by rfl, fun w hSw => by go_simp⟩) (by assumption) ?_
  try simp only [Act.put, List.getElem_toArray, List.getElem_cons_succ, List.getElem_cons_zero, List.setIfInBounds_toArray, List.set_cons_zero, List.set_cons_succ]
  refine wpAnyH_take (i := 75) (v := .bool true) rfl (by kernel_rfl) (by kernel_rfl) (by kernel_rfl) (fun _ _ _ h => h) (Or.inl ⟨by rfl, fun w hSw => by go_simp⟩) (by assumption) ?_
  try simp only [Act.put, List.getElem_toArray, List.getElem_cons_succ, List.getElem_cons_zero, List.setIfInBounds_toArray, List.set_cons_zero, List.set_cons_succ]
  refine wpAnyH_take (i := 76) (v := .bool true) rfl (by kernel_rfl) (by kernel_rfl) (by kernel_rfl) (fun _ _ _ h => h) (Or.inl ⟨by rfl, fun w hSw => by go_simp⟩) (by assumption) ?_
  try simp only [Act.put, List.getElem_toArray, List.getElem_cons_succ, List.getElem_cons_zero, List.setIfInBounds_toArray, List.set_cons_zero, List.set_cons_succ]
  refine wpAnyH_take (i := 77) (v := .bool true) rfl (by kernel_rfl) (by kernel_rfl) (by kernel_rfl) (fun _ _ _ h => h) (Or.inl ⟨by rfl, fun w hSw => by go_simp⟩) (by assumption) ?_
  try simp only [Act.put, List.getElem_toArray, List.getElem_cons_succ, List.getElem_cons_zero, List.setIfInBounds_toArray, List.set_cons_zero, List.set_cons_succ]
  refine wpAnyH_take (i := 78) (v := .pointer (some ⟨x.hb, 0, none⟩)) rfl (by kernel_rfl) (by kernel_rfl) (by kernel_rfl) (fun _ _ _ h => h) (Or.inl ⟨by rfl, fun w hSw => by go_simp⟩) (by assumption) ?_
  try simp only [Act.put, List.getElem_toArray, List.getElem_cons_succ, List.getElem_cons_zero, List.setIfInBounds_toArray, List.set_cons_zero, List.set_cons_succ]
  have CF := hide (h_forced S14)
  refine wpAnyH_ready (rs := [79]) (by kernel_rfl) (by simp) ?_
  refine AllReadyH.cons rfl (fun K hK => ?_) AllReadyH.nil
  go_simp
  refine (unhide CF).mono ?_
  rintro e w9' ⟨rfl, hw9⟩
  rw [hw9]
  clear hw9 w9' CF
  go_wp2_with fail
  refine hK.out _ _ hS14 (fun hH9 => ?_)
  clear hK K hH9
  try simp only [Act.put, List.getElem_toArray, List.getElem_cons_succ, List.getElem_cons_zero, List.setIfInBounds_toArray, List.set_cons_zero, List.set_cons_succ]
  refine wpAnyH_take (i := 80) (v := .bool true) rfl (by kernel_rfl) (by kernel_rfl) (by kernel_rfl) (fun _ _ _ h => h) (Or.inl ⟨by rfl, fun w hSw => by go_simp⟩) (by assumption) ?_
  try simp only [Act.put, List.getElem_toArray, List.getElem_cons_succ, List.getElem_cons_zero, List.setIfInBounds_toArray, List.set_cons_zero, List.set_cons_succ]
  refine wpAnyH_take (i := 81) (v := .bool true) rfl (by kernel_rfl) (by kernel_rfl) (by kernel_rfl) (fun _ _ _ h => h) (Or.inl ⟨by rfl, fun w hSw => by go_simp⟩) (by assumption) ?_
  try simp only [Act.put, List.getElem_toArray, List.getElem_cons_succ, List.getElem_cons_zero, List.setIfInBounds_toArray, List.set_cons_zero, List.set_cons_succ]
  refine wpAnyH_take (i := 82) (v := .bool true) rfl (by kernel_rfl) (by kernel_rfl) (by kernel_rfl) (fun _ _ _ h => h) (Or.inl ⟨by rfl, fun w hSw => by go_simp⟩) (by assumption) ?_
  try simp only [Act.put, List.getElem_toArray, List.getElem_cons_succ, List.getElem_cons_zero, List.setIfInBounds_toArray, List.set_cons_zero]
  refine wpAnyH_done (by kernel_rfl) (NoPanic.normal ?_) _
  go_wp2_with fail
  go_ret
  exact ⟨rfl, Below.trans (unhide g1) ((unhide S14).ks.st.below.mono (unhide g1).size)⟩
end Go.Proofs.YtahhkehijokhnaaGreatDoor

/- HeapPlays: how its heap and rows begin; a thing more, a shape more. -/
namespace Go.Proofs.YtahhkehijokhnaaGreatDoor
set_option maxRecDepth 100000
open Go.ChangeShapes Go.WideShapes Go.ChangeAt Go.RowKit Go.Maps

theorem row_down {w : World} {B B' n z : Nat} {T : TypeId} {v : Value} {l : List Value} (h : w.ownsRow B T z v n l) (hb : B' ≤ B) : w.ownsRow B' T z v n l := by
  refine ⟨h.1, ?_⟩
  rcases h.2 with h0 | ⟨g, cp, cur, e1, e2, r⟩
  · exact Or.inl h0
  · exact Or.inr ⟨g, cp, cur, e1, Nat.le_trans hb e2, r⟩
section
variable {W0 W w w' : World} {x : Hx} {al : Al} {l : List Hd.Shp} {n : Nat} {ao : Option Addr} {cap : Nat} {nv : Value} {c : Nat → Nat}
/-- An earlier world stands for the first. -/
theorem HS.down (h : HS W w x al l n ao cap nv c) (g : G W0 W) (ht : Tab W0) : HS W0 w x al l n ao cap nv c := by
  have z := g.size
  have K := h.ks
  have S := K.st
  have A := S.st.at_
  refine ⟨⟨⟨⟨⟨A.c0, A.c1, A.wd, A.s0, A.s1, A.s2, A.fw, A.fs, Nat.le_trans z A.b0, Nat.le_trans z A.b1, Nat.le_trans z A.b2, A.n01, A.n02, A.n12, A.lw, A.ls, A.hcw, A.hcs⟩, S.st.good, Below.trans g (S.st.below.mono z), ht⟩, S.c0, S.c1, S.us, S.fu, Nat.le_trans z S.b0, Nat.le_trans z S.b1, S.n0, S.n1, S.n2⟩, K.c0, K.c1, K.c2, K.c3, K.c4, K.c5, K.c6, K.c7, K.fz, K.mp, K.k0, K.k2, K.que, fun d hd => ⟨(K.ap d hd).1, Nat.le_trans z (K.ap d hd).2.1, (K.ap d hd).2.2⟩, K.nd, K.nm⟩, ⟨h.tab.blk, Nat.le_trans z h.tab.btb, Nat.le_trans z h.tab.bmb, row_down h.tab.row z, h.tab.map, h.tab.fit⟩, h.h0, h.h1, h.h2, h.h3, h.hf, row_down h.num z, h.mp, ⟨Nat.le_trans z h.lo.1, Nat.le_trans z h.lo.2⟩, h.lt, h.cA, h.cC, h.c3, h.c4, h.c5, h.c6, h.c7, h.c8⟩
/-- What lies ahead of the heap is others'. -/
theorem HS.low (h : HS W w x al l n ao cap nv c) : HS W w x al l n ao cap nv (fun d => if d < W.heap.size then 9 else c d) := by
  have cc : ∀ d, W.heap.size ≤ d → (fun d => if d < W.heap.size then 9 else c d) d = c d := fun d hd => if_neg (by omega)
  have K := h.ks
  have S := K.st
  have A := S.st.at_
  obtain ⟨a1, a2, a3, a4, a5⟩ := h.cA
  obtain ⟨e1, e2, e3, e4⟩ := h.cC
  exact ⟨K, h.tab, h.h0, h.h1, h.h2, h.h3, h.hf, h.num, h.mp, h.lo, h.lt, ⟨(cc _ A.b0).trans a1, (cc _ A.b1).trans a2, (cc _ A.b2).trans a3, (cc _ S.b1).trans a4, (cc _ S.b0).trans a5⟩, ⟨(cc _ (K.ap _ (by simp)).2.1).trans e1, (cc _ (K.ap _ (by simp)).2.1).trans e2, (cc _ (K.ap _ (by simp)).2.1).trans e3, (cc _ (K.ap _ (by simp)).2.1).trans e4⟩, (cc _ h.tab.btb).trans h.c3, (cc _ h.tab.bmb).trans h.c4, fun a ha => (cc _ (h.tab.aoB a ha).1).trans (h.c5 a ha), (cc _ h.lo.1).trans h.c6, (cc _ h.lo.2).trans h.c7, fun k hk => (cc _ (h.num.lt k hk).1).trans (h.c8 k hk)⟩
end
theorem ls3_gd : ∀ s ∈ ls3, s.good = true ∧ s.m < 18446744073709551616 := by decide
theorem new100 (w w1 : World) (hw : w1 = w.alloc shp3) (ht : Tab w) : Calls Tryz.prog 7 #[.int .i64 100, .slice (some ⟨w.heap.size, 0, none⟩) 3 3] w1 fun e w' => ∃ x, e = .returned (.tuple #[.pointer (some ⟨x.hb, 0, none⟩), .int .i64 0]) ∧ ∃ ao cap nv c, HS w1 w' x (al0 100) ls3 3 ao cap nv c := by
  subst hw
  exact h_new 100 (by decide) (by decide) (hide (Tab.later ht (G.alloc _ _))) w.heap.size 0 3 ls3 3 rfl (by decide) (hide ls3_ok) (hide ls3_nd) (by rw [World.size_alloc]; omega) (hide (shp3_at w))
theorem pq_start {w0 w1 w2 w3 : World} {x : Hx} {ao : Option Addr} {cap : Nat} {nv : Value} {c : Nat → Nat} (hw1 : w1 = w0.alloc shp3) (ht : Tab w0) (H : HS w1 w2 x (al0 100) ls3 3 ao cap nv c) (hw3 : w3 = w2.alloc (.cells #[.slice none 0 0] 33)) :
    Pq ⟨w0, x, w0.heap.size, w2.heap.size⟩ (.slice none 0 0) (.slice none 0 0) (.slice (some ⟨w0.heap.size, 0, none⟩) 3 3) [] [] [] [] ls3 ls3 w3 := by
  have g1 : G w0 w1 := by rw [hw1]; exact G.alloc _ _
  have g3 : G w2 w3 := by rw [hw3]; exact G.alloc _ _
  have z1 : w1.heap.size = w0.heap.size + 1 := by rw [hw1, World.size_alloc]
  have bl := H.ks.st.st.below
  have z2 := bl.size
  have b1 : w1.heap[w0.heap.size]? = some shp3 := by rw [hw1]; exact heap_alloc_new _ _
  have b2 : w3.heap[w0.heap.size]? = some shp3 := (g3.block _ (by omega)).trans ((bl.block _ (by omega)).trans b1)
  have b3 : w3.heap[w2.heap.size]? = some (.cells #[.slice none 0 0] 33 (0, 0)) := by rw [hw3]; exact heap_alloc_new _ _
  obtain ⟨c', H', e1, e2⟩ := H.low.nine
  refine ⟨al0 100, ao, cap, nv, c', 0, (H'.down g1 ht).gr g3, rm0 (by decide) (by decide), Nat.zero_le _, Ts.nil 100 ls3 (by decide) (by decide), ⟨⟨rfl, Or.inl ⟨rfl, rfl⟩⟩, ⟨rfl, Or.inl ⟨rfl, rfl⟩⟩, ⟨rfl, Or.inr ⟨w0.heap.size, 3, _, rfl, Nat.le_refl _, b2, Nat.le_refl _, by unfold maxLen; omega, rfl, rfl⟩⟩, by rw [cell_of_row _ _ _ _ _ _ b3]; rfl, by simp [World.frozen?, b3], rfl, fun k t b h1 => by simp at h1, ⟨by show w0.heap.size ≤ w2.heap.size; omega, fun b hb => by simp at hb⟩, fun d => if d = w2.heap.size then 1 else 4, if_pos rfl, fun d hd => by simp [Value.ownBlock] at hd, fun d hd => by simp [Value.ownBlock] at hd, fun d hd => by
      have : w0.heap.size = d := by simpa [Value.ownBlock] using hd
      exact if_neg (by omega), fun k b h1 => by simp at h1⟩, fun d hd => ?_, fun d hd => e1 d (Nat.le_trans g3.size hd), ls3_gd, by decide⟩
  rcases hd with rfl | hd | hd | hd | hd
  · exact e1 _ (Nat.le_refl _)
  · simp [Value.ownBlock] at hd
  · simp [Value.ownBlock] at hd
  · have : w0.heap.size = d := by simpa [Value.ownBlock] using hd
    rw [e2 d (by omega)]
    exact if_pos (by omega)
  · simp at hd
section
variable {L : Lz} {tv rv sv : Value} {th tl : List Tg} {vo : List Nat} {lr : List Int} {l ll : List Hd.Shp} {w : World}
/-- A row's value is a slice. -/
theorem row_val {B n z : Nat} {T : TypeId} {v : Value} {xs : List Value} (h : w.ownsRow B T z v n xs) : ∃ a k, v = .slice a n k := by
  rcases h.2 with ⟨rfl, rfl⟩ | ⟨g, cp, cur, e, _⟩
  · exact ⟨none, 0, rfl⟩
  · exact ⟨_, _, e⟩
theorem Pq.ssz (h : Pq L tv rv sv th tl vo lr l ll w) : L.S ≤ w.heap.size := Nat.le_trans h.lq.lo.1 (Nat.le_of_lt h.lq.hlt)
/-- One more is held. -/
theorem Pq.heldR (hS : L.W.heap.size ≤ L.S) (h : Pq L tv rv sv th tl vo lr l ll w) (hn : lr.length ≤ 1000000) (v : Int) :
    ∃ rv' w', (Builtin.append_ #[31, 31] 31 #[rv, .slice (some ⟨w.heap.size, 0, none⟩) 1 1]).run Tryz.prog (w.alloc (.cells #[.int .i64 v] 2)) = .ok rv' w' ∧ w'.cell? ⟨L.hb, 0, none⟩ = some rv ∧ w'.frozen? ⟨L.hb, 0, none⟩ = false ∧ Pq L tv rv' sv th tl vo (lr ++ [v]) l ll (w'.setCell ⟨L.hb, 0, none⟩ rv') ∧ w.heap.size ≤ (w'.setCell ⟨L.hb, 0, none⟩ rv').heap.size ∧ (∀ d, d < w.heap.size → ¬ lqB L.hb tv rv sv vo d → (w'.setCell ⟨L.hb, 0, none⟩ rv').heap[d]? = w.heap[d]?) ∧ ∀ d, lqB L.hb tv rv' sv vo d → lqB L.hb tv rv sv vo d ∨ w.heap.size ≤ d := by
  have Q := h.lq
  obtain ⟨rv', w', hr, r1, r2, r3⟩ := appI Q.rr h.ssz hn v
  obtain ⟨c1, c2, Q'⟩ := Q.appR r1 r2 r3
  have s1 := r2.size
  rw [World.size_alloc] at s1
  have kp : ∀ d, d < w.heap.size → ¬ lqB L.hb tv rv sv vo d → (w'.setCell ⟨L.hb, 0, none⟩ rv').heap[d]? = w.heap[d]? := fun d hd hq => (Below.heap_setCell _ _ _ _ (fun e => hq (Or.inl e))).trans ((r2.block d (by rw [World.size_alloc]; omega) (fun e => hq (Or.inr (Or.inr (Or.inl e.symm))))).trans ((G.alloc w _).block d hd))
  have zz : w.heap.size ≤ (w'.setCell ⟨L.hb, 0, none⟩ rv').heap.size := by rw [World.size_setCell]; omega
  have nw : ∀ d, lqB L.hb tv rv' sv vo d → lqB L.hb tv rv sv vo d ∨ w.heap.size ≤ d := fun d hd => by
    rcases hd with e | e | e | e | e
    · exact Or.inl (Or.inl e)
    · exact Or.inl (Or.inr (Or.inl e))
    · rcases r3 with q | q
      · rw [q] at e; exact Or.inl (Or.inr (Or.inr (Or.inl e)))
      · rw [q] at e; cases e; exact Or.inr (by omega)
    · exact Or.inl (Or.inr (Or.inr (Or.inr (Or.inl e))))
    · exact Or.inl (Or.inr (Or.inr (Or.inr (Or.inr e))))
  refine ⟨rv', w', hr, c1, c2, h.side Q' ?_ zz kp nw, zz, kp, nw⟩
  · have bl := h.below
    have ga := G.alloc w (.cells #[.int .i64 v] 2)
    refine ⟨r2.os.trans (ga.os.trans bl.os), r2.tape.trans (ga.tape.trans bl.tape), r2.output.trans (ga.output.trans bl.output), Nat.le_trans bl.size zz, fun d hd => ?_⟩
    have hd2 := bl.size
    refine (kp d (by omega) (fun hq => ?_)).trans (bl.block d hd)
    have h2 : L.S ≤ d := by
      rcases hq with rfl | e | e | e | e
      · exact Q.lo.1
      · exact (Q.tr.lt d e).1
      · exact (Q.rr.lt d e).1
      · exact (Q.sr.lt d e).1
      · exact Q.lo.2 d e
    omega
theorem Lq.low {S hb : Nat} (Q : Lq S w hb tv rv sv tl vo lr ll) {d : Nat} (hq : lqB hb tv rv sv vo d) : S ≤ d := by
  rcases hq with rfl | e | e | e | e
  · exact Q.lo.1
  · exact (Q.tr.lt d e).1
  · exact (Q.rr.lt d e).1
  · exact (Q.sr.lt d e).1
  · exact Q.lo.2 d e
theorem Lq.shp {S hb g cap M : Nat} (Q : Lq S w hb tv rv (.slice (some ⟨g, 0, none⟩) M cap) tl vo lr ll) {k : Nat} {s : Hd.Shp} (hk : ll[k]? = some s) : w.cell? ⟨g, k * 3, none⟩ = some (.int .i64 s.k) ∧ w.cell? ⟨g, k * 3 + 1, none⟩ = some (.int .i64 s.f) ∧ w.cell? ⟨g, k * 3 + 2, none⟩ = some (.int .u64 (s.m : Int)) := by
  have at_ : ∀ i u, i < 3 → s.cells[i]? = some u → w.cell? ⟨g, k * 3 + i, none⟩ = some u := fun i u hi hu => by
    obtain ⟨g', cap', e', c'⟩ := row_cell Q.sr (j := k * 3 + i) (u := u) (by rw [scs_at hk hi]; exact hu)
    obtain ⟨rfl, _⟩ : g = g' ∧ True := by
      simp at e'
      exact ⟨e'.1, trivial⟩
    exact c'
  exact ⟨at_ 0 _ (by decide) rfl, at_ 1 _ (by decide) rfl, at_ 2 _ (by decide) rfl⟩
theorem Lq.shpv {S hb M cap : Nat} {sa : Option Addr} (Q : Lq S w hb tv rv (.slice sa M cap) tl vo lr ll) {k : Nat} {s : Hd.Shp} (hk : ll[k]? = some s) : ∃ g, sa = some ⟨g, 0, none⟩ := by
  obtain ⟨g', cap', e', c'⟩ := row_cell Q.sr (j := k * 3 + 0) (u := .int .i64 s.k) (by rw [scs_at hk (by decide)]; rfl)
  simp at e'
  exact ⟨g', e'.1⟩
theorem mk_i64q (n : Nat) (hn : n ≤ 512) (w : World) : (Instr.makeSlice 31 (.int .i64 (n : Int)) (.int .i64 (n : Int))).run Tryz.prog w =
    .ok (.slice (some ⟨w.heap.size, 0, none⟩) n n) (w.alloc (.cells (madeCells #[.int .i64 0] (n * 1)) 2)) := by
  obtain ⟨i0, hi0, hz0, hz1, hz2⟩ := info_parts info_64q
  have := run_make (P := Tryz.prog) w 31 2 i0 (.int .i64 0) Tryz.underlying31 hi0 hz0 .i64 .i64 (n : Int) (n : Int) (by omega) (Int.le_refl _) (by rw [hz2]; omega) (by omega)
  rw [this, hz1]
  simp only [Int.toNat_natCast]
  rfl
theorem i64s_at {b n : Nat} (hb : w.heap[b]? = some (.cells (madeCells #[.int .i64 0] (n * 1)) 2 (0, 0))) : VAt w b (List.replicate n 0) := by
  refine ⟨fun j y hj => ?_, fun i => by simp [World.frozen?, hb], (Array.getElem?_eq_some_iff.1 hb).1⟩
  have hl := (List.getElem?_eq_some_iff.1 hj).1
  rw [List.length_replicate] at hl
  have hy : y = 0 := by
    rw [List.getElem?_replicate, if_pos hl] at hj
    exact (Option.some.inj hj).symm
  subst hy
  have := made_get #[.int .i64 0] (n * 1) j (by omega)
  simp only [World.cell?, hb]
  rw [this]
  simp [Nat.mod_one]
/-- One more thing: its words are made, it is set behind the others. -/
theorem Pq.moreT (hS : L.W.heap.size ≤ L.S) {v : Int} {k : Nat} {s : Hd.Shp} {m : Nat} (h : Pq L tv rv sv (th ++ [⟨v, k, s, m + 1, List.replicate m 0⟩]) th vo lr l ll w) (hn : th.length ≤ 1000000) (C : Array Value) (hC : ∀ (y : World) b, y.heap[b]? = some (.cells C 2 (0, 0)) → VAt y b (List.replicate m 0)) (y1 : World) (hy1 : y1 = w.alloc (.cells C 2)) :
    ∃ tv' w', (Builtin.append_ #[34, 34] 34 #[tv, .slice (some ⟨y1.heap.size, 0, none⟩) 1 1]).run Tryz.prog (y1.alloc (.cells #[.int .i64 v, .int .i64 s.k, .int .i64 s.f, .int .u64 (s.m : Int), .int .i64 ((m + 1 : Nat) : Int), .slice (some ⟨w.heap.size, 0, none⟩) m m] 43)) = .ok tv' w' ∧ Pq L tv' rv sv (th ++ [⟨v, k, s, m + 1, List.replicate m 0⟩]) (th ++ [⟨v, k, s, m + 1, List.replicate m 0⟩]) (vo ++ [w.heap.size]) lr l ll w' ∧ (∃ a c, tv' = .slice a (th.length + 1) c) ∧ ∀ d, d < w.heap.size → ¬ lqB L.hb tv rv sv vo d → w'.heap[d]? = w.heap[d]? := by
  have g1 : G w y1 := by rw [hy1]; exact G.alloc _ _
  have z1 : y1.heap.size = w.heap.size + 1 := by rw [hy1, World.size_alloc]
  have Q0 := h.lq
  have Q := Q0.gr g1
  have V := hC y1 w.heap.size (by rw [hy1]; exact heap_alloc_new _ _)
  have hz := h.ssz
  obtain ⟨tv', w', hr, r1, r2, r3⟩ := appT Q.tr (Nat.le_trans hz g1.size) hn ⟨v, k, s, m + 1, List.replicate m 0⟩ w.heap.size
  have Q' := Q.appT (t := ⟨v, k, s, m + 1, List.replicate m 0⟩) V hz (fun hq => Nat.lt_irrefl _ (Q0.lt hq)) r1 r2 r3
  have s1 := r2.size
  rw [World.size_alloc] at s1
  have kp : ∀ d, d < w.heap.size → ¬ lqB L.hb tv rv sv vo d → w'.heap[d]? = w.heap[d]? := fun d hd hq => (r2.block d (by rw [World.size_alloc]; omega) (fun e => hq (Or.inr (Or.inl e.symm)))).trans (((G.alloc y1 _).block d (by omega)).trans (g1.block d hd))
  have zz : w.heap.size ≤ w'.heap.size := by omega
  refine ⟨tv', w', hr, h.side Q' ?_ zz kp (fun d hd => ?_), row_val r1, kp⟩
  · have bl := h.below
    have ga := g1.trans ((G.alloc y1 (.cells ((⟨v, k, s, m + 1, List.replicate m 0⟩ : Tg).cells w.heap.size).toArray 43)))
    refine ⟨r2.os.trans (ga.os.trans bl.os), r2.tape.trans (ga.tape.trans bl.tape), r2.output.trans (ga.output.trans bl.output), Nat.le_trans bl.size zz, fun d hd => ?_⟩
    have hd2 := bl.size
    refine (kp d (by omega) (fun hq => ?_)).trans (bl.block d hd)
    have := Q0.low hq
    omega
  · rcases hd with e | e | e | e | e
    · exact Or.inl (Or.inl e)
    · rcases r3 with q | q
      · rw [q] at e; exact Or.inl (Or.inr (Or.inl e))
      · rw [q] at e; cases e; exact Or.inr (by omega)
    · exact Or.inl (Or.inr (Or.inr (Or.inl e)))
    · exact Or.inl (Or.inr (Or.inr (Or.inr (Or.inl e))))
    · rcases List.mem_append.1 e with e | e
      · exact Or.inl (Or.inr (Or.inr (Or.inr (Or.inr e))))
      · simp at e; exact Or.inr (by omega)
/-- One more shape. -/
theorem Pq.moreS (hS : L.W.heap.size ≤ L.S) (h : Pq L tv rv sv th tl vo lr l ll w) (hn : ll.length ≤ 1000000) (s : Hd.Shp) :
    ∃ sv' w', (Builtin.append_ #[24, 24] 24 #[sv, .slice (some ⟨w.heap.size, 0, none⟩) 1 1]).run Tryz.prog (w.alloc (.cells #[.int .i64 s.k, .int .i64 s.f, .int .u64 (s.m : Int)] 37)) = .ok sv' w' ∧ Pq L tv rv sv' th tl vo lr l (ll ++ [s]) w' ∧ ∃ a c, sv' = .slice a (ll.length + 1) c := by
  have Q := h.lq
  have hz := h.ssz
  obtain ⟨sv', w', hr, r1, r2, r3⟩ := appS Q.sr hz hn s
  have Q' := Q.appS r1 r2 r3
  have s1 := r2.size
  rw [World.size_alloc] at s1
  have kp : ∀ d, d < w.heap.size → ¬ lqB L.hb tv rv sv vo d → w'.heap[d]? = w.heap[d]? := fun d hd hq => (r2.block d (by rw [World.size_alloc]; omega) (fun e => hq (Or.inr (Or.inr (Or.inr (Or.inl e.symm)))))).trans ((G.alloc w _).block d hd)
  have zz : w.heap.size ≤ w'.heap.size := by omega
  refine ⟨sv', w', hr, h.side Q' ?_ zz kp (fun d hd => ?_), row_val r1⟩
  · have bl := h.below
    have ga := G.alloc w (.cells s.cells.toArray 37)
    refine ⟨r2.os.trans (ga.os.trans bl.os), r2.tape.trans (ga.tape.trans bl.tape), r2.output.trans (ga.output.trans bl.output), Nat.le_trans bl.size zz, fun d hd => ?_⟩
    have hd2 := bl.size
    refine (kp d (by omega) (fun hq => ?_)).trans (bl.block d hd)
    have := Q.low hq
    omega
  · rcases hd with e | e | e | e | e
    · exact Or.inl (Or.inl e)
    · exact Or.inl (Or.inr (Or.inl e))
    · exact Or.inl (Or.inr (Or.inr (Or.inl e)))
    · rcases r3 with q | q
      · rw [q] at e; exact Or.inl (Or.inr (Or.inr (Or.inr (Or.inl e))))
      · rw [q] at e; cases e; exact Or.inr (by omega)
    · exact Or.inl (Or.inr (Or.inr (Or.inr (Or.inr e))))
end
theorem build_thing (v sk sf sm n : Int) (b m : Nat) (w : World) : (Instr.build 43 #[(0, .int .i64 v), (1, .agg #[.int .i64 sk, .int .i64 sf, .int .u64 sm]), (2, .int .i64 n), (3, .slice (some ⟨b, 0, none⟩) m m)]).run Tryz.prog w = .ok (.agg #[.int .i64 v, .int .i64 sk, .int .i64 sf, .int .u64 sm, .int .i64 n, .slice (some ⟨b, 0, none⟩) m m]) w := run_build w _ _ _ (by kernel_rfl)
theorem builds_thing (v sk sf sm n : Int) (b m : Nat) (w : World) : (Instr.buildSlice 34 1 #[(0, .agg #[.int .i64 v, .int .i64 sk, .int .i64 sf, .int .u64 sm, .int .i64 n, .slice (some ⟨b, 0, none⟩) m m])]).run Tryz.prog w = .ok (.slice (some ⟨w.heap.size, 0, none⟩) 1 1) (w.alloc (.cells #[.int .i64 v, .int .i64 sk, .int .i64 sf, .int .u64 sm, .int .i64 n, .slice (some ⟨b, 0, none⟩) m m] 43)) := by
  obtain ⟨i, hi, hz, hs, hb⟩ := info_parts info_thing
  exact run_buildSlice w _ _ 1 _ _ i _ Tryz.underlying34 hi hz (by rw [hs]; decide) (by rw [hs]; decide) (by rw [hs]; kernel_rfl)
theorem step_build {ops : Array Oper} {o : Oper} {a : Act} {w : World} {K : Act → World → Prop} {Q : Exit → Act → World → Prop} {E : Prop} (hg : o.guard = none) (t : TypeId) (parts : Array (Nat × Operand)) (hop : o.op = Op.build t parts) (ps : Array (Nat × Value)) (hp : (parts.map fun (i, x) => (i, a.eval x)) = ps) (v' : Value) (w' : World)
    (hrun : (Instr.build t ps).run Tryz.prog w = .ok v' w') (hK : K (a.put o.dst v') w') : if Region.wanted o (yielded ops a.tmps) = true then Oper.wp Tryz.prog o a w K Q else E := by
  have hw : Region.wanted o (yielded ops a.tmps) = true := by simp [Region.wanted, hg]
  rw [if_pos hw]
  unfold Oper.wp execOp
  simp only [hop, Sem.run_bind, hp, hrun, Result.andThen_ok]
  exact hK
theorem step_builds {ops : Array Oper} {o : Oper} {a : Act} {w : World} {K : Act → World → Prop} {Q : Exit → Act → World → Prop} {E : Prop} (hg : o.guard = none) (t : TypeId) (n : Nat) (parts : Array (Nat × Operand)) (hop : o.op = Op.buildSlice t n parts) (ps : Array (Nat × Value)) (hp : (parts.map fun (i, x) => (i, a.eval x)) = ps) (v' : Value) (w' : World)
    (hrun : (Instr.buildSlice t n ps).run Tryz.prog w = .ok v' w') (hK : K (a.put o.dst v') w') : if Region.wanted o (yielded ops a.tmps) = true then Oper.wp Tryz.prog o a w K Q else E := by
  have hw : Region.wanted o (yielded ops a.tmps) = true := by simp [Region.wanted, hg]
  rw [if_pos hw]
  unfold Oper.wp execOp
  simp only [hop, Sem.run_bind, hp, hrun, Result.andThen_ok]
  exact hK
theorem shp_neq {t s : Hd.Shp} (h : t ≠ s) : (t.k == s.k) = false ∨ (t.k = s.k ∧ (t.f == s.f) = false) ∨ (t.k = s.k ∧ t.f = s.f ∧ ((t.m : Int) == (s.m : Int)) = false) := by
  by_cases h0 : t.k = s.k
  · by_cases h1 : t.f = s.f
    · refine Or.inr (Or.inr ⟨h0, h1, ?_⟩)
      rw [beq_eq_false_iff_ne]
      intro e
      apply h
      obtain ⟨k, f, m⟩ := t
      obtain ⟨k', f', m'⟩ := s
      have h0' : k = k' := h0
      have h1' : f = f' := h1
      have e' : (m : Int) = (m' : Int) := e
      have e2 : m = m' := by omega
      rw [h0', h1', e2]
    · exact Or.inr (Or.inl ⟨h0, by simpa using h1⟩)
  · exact Or.inl (by simpa using h0)
theorem idx_lt : ∀ (l : List Hd.Shp) (s : Hd.Shp) (j : Nat) (t : Hd.Shp), j < l.idxOf s → l[j]? = some t → t ≠ s
  | [], s, j, t, _, ht => by simp at ht
  | a :: l, s, 0, t, hj, ht => by
    rintro rfl
    have : a = t := by simpa using ht
    subst this
    simp at hj
  | a :: l, s, j + 1, t, hj, ht => by
    refine idx_lt l s j t ?_ (by simpa using ht)
    rw [List.idxOf_cons] at hj
    cases h : a == s <;> simp [h] at hj
    omega
theorem idx_at : ∀ (l : List Hd.Shp) (s : Hd.Shp), l.idxOf s < l.length → l[l.idxOf s]? = some s := fun l s h => by
  rw [List.getElem?_eq_getElem h, List.getElem_idxOf h]
theorem hq_j1 {N i : Nat} (h : i < N) (h8 : N ≤ 1000) : ∃ i1 : Int, wrap64 ((i : Int) + 1) = i1 ∧ i1 = ((i + 1 : Nat) : Int) ∧ N - i1.toNat < N - ((i : Int)).toNat := by
  refine ⟨(i : Int) + 1, ?_, by omega, by omega⟩
  unfold wrap64; omega
end Go.Proofs.YtahhkehijokhnaaGreatDoor

/- HeapPlays of package gantlinelaw14 answers true. -/
namespace Go.Proofs.YtahhkehijokhnaaGreatDoor
set_option maxRecDepth 100000
open Go.ChangeShapes Go.WideShapes Go.ChangeAt Go.RowKit Go.Maps Go.Deep

theorem step_app {ops : Array Oper} {o : Oper} {a : Act} {w : World} {K : Act → World → Prop} {Q : Exit → Act → World → Prop} {E : Prop} (hg : o.guard = none) (s x : Operand) (t : TypeId) (hop : o.op = Op.call { callee := Callee.builtin Builtin.append, args := #[s, x], argTypes := #[t, t] }) (vs vx : Value) (hs : a.eval s = vs) (hx : a.eval x = vx) (v' : Value) (w' : World)
    (hrun : (Builtin.append_ #[t, t] o.type #[vs, vx]).run Tryz.prog w = .ok v' w') (hK : K (a.put o.dst v') w') : if Region.wanted o (yielded ops a.tmps) = true then Oper.wp Tryz.prog o a w K Q else E := by
  have hw : Region.wanted o (yielded ops a.tmps) = true := by simp [Region.wanted, hg]
  rw [if_pos hw]
  unfold Oper.wp
  simp [execOp, hop, resolve, invoke, builtin, hs, hx, hrun, Result.andThen]
  exact hK
set_option maxHeartbeats 40000000 in
set_option maxRecDepth 100000 in
theorem plays14 (w : World) (ht : Tab w) (ao : Option Addr) (N lc : Nat) (acts : List Ac) (HA : IsActs w ao N acts) (hN : N ≤ 60) (CA : Hid (Calls Tryz.prog 5 #[] w fun e w' => e = .returned (.bool true) ∧ G w w')) :
    Calls Tryz.prog 3 #[.slice ao N lc] w fun e w' => e = .returned (.bool true) ∧ G w w' := by
  replace ht := hide ht
  have d60 : decide ((60 : Int) < (N : Int)) = false := by simp; omega
  have d60' : decide (60 < N) = false := by simp; omega
  replace hN := hide hN
  replace HA := hide HA
  go_enter Tryz.func3, Tryz.ntmps3
  go_wp2_with fail
  refine (unhide CA).mono ?_
  rintro e w0 ⟨rfl, g0⟩
  replace g0 := hide g0
  clear CA
  go_wp2_with fail
  refine (shapes14 _).mono ?_
  rintro e w1 ⟨rfl, hw1⟩
  have ht0 : Hid (Tab w0) := hide (Tab.later (unhide ht) (unhide g0))
  have CN := hide (new100 w0 w1 hw1 (unhide ht0))
  replace hw1 := hide hw1
  go_wp2_with fail
  refine (unhide CN).mono ?_
  rintro e w2 ⟨x, rfl, ao', cap, nv, c, S0⟩
  obtain ⟨w3, hw3⟩ : ∃ w3, w3 = w2.alloc (.cells #[.slice none 0 0] 33) := ⟨_, rfl⟩
  have P0 := hide (pq_start (unhide hw1) (unhide ht0) S0 hw3)
  have FIN : Hid (∀ y : World, Below w0.heap.size w0 y → G w y) := hide fun y b => Below.trans (unhide g0) (b.mono (unhide g0).size)
  clear CN S0 g0 hw1 ht ht0
  go_upto_region 11 with fail
  rw [← hw3]
  clear hw3 d60 d60'
  go_wp2_with fail
  go_loopw [3, 7, 8] (fun c3 c7 c8 wr => ∃ (i T : Nat) (th : List Tg) (vo : List Nat) (lr : List Int) (l : List Hd.Shp) (ta : Option Addr) (tc : Nat) (sa : Option Addr) (M sc : Nat) (rv : Value), c3 = .slice sa M sc ∧ c7 = .slice ta T tc ∧ c8 = .int .i64 (i : Int) ∧ Hid (th.length = T ∧ T ≤ i ∧ i ≤ N ∧ l.length = M ∧ M ≤ i + 3 ∧ lr.length ≤ i) ∧ Hid (Pq (⟨w0, x, w0.heap.size, w2.heap.size⟩ : Lz) (.slice ta T tc) rv (.slice sa M sc) th th vo lr l l wr)) (fun _ _ c8 _ => N - (intOf c8).toNat)
  case atStart => exact ⟨0, 0, [], [], [], ls3, none, 0, some ⟨w0.heap.size, 0, none⟩, 3, 3, .slice none 0 0, rfl, rfl, rfl, hide ⟨rfl, Nat.le_refl _, Nat.zero_le _, rfl, Nat.le_refl _, Nat.zero_le _⟩, P0⟩
  case round =>
    obtain ⟨i, T, th, vo, lr, l, ta, tc, sa, M, sc, rv, rfl, rfl, rfl, hz, P⟩ := hrel
    clear P0
    by_cases hi : i = N
    · as_aux_lemma =>
        have hi' : N = i := hi.symm
        subst hi'
        clear hi
        have PE : Hid (∀ y, G wr y → Pq (⟨w0, x, w0.heap.size, w2.heap.size⟩ : Lz) (.slice ta T tc) rv (.slice sa M sc) th th vo lr l l y) := hide fun y g => (unhide P).gr g
        have CO : Hid (∀ y, G wr y → ∀ (k : Nat) t, th[k]? = some t → Calls Tryz.prog 12 #[.pointer (some ⟨x.hb, 0, none⟩), .int .i64 t.ad] y fun e w' => e = .returned (.tuple #[.agg #[.int .i64 (t.wd : Int), .int .i64 t.s.k, .int .i64 (t.nm : Int)], .agg #[.int .i64 t.s.k, .int .i64 t.s.f, .int .u64 (t.s.m : Int)], .bool true]) ∧ G y w') := hide fun y g k t hk => by
          have hh := unhide PE y g
          exact pq_of (L := (⟨w0, x, w0.heap.size, w2.heap.size⟩ : Lz)) (hide hh) hk
        have CF : Hid (∀ y, G wr y → Calls Tryz.prog 13 #[.pointer (some ⟨x.hb, 0, none⟩)] y fun e w' => e = .returned (.int .i64 0) ∧ w' = y) := hide fun y g => by
          have hh := unhide PE y g
          exact pq_forced (L := (⟨w0, x, w0.heap.size, w2.heap.size⟩ : Lz)) (hide hh)
        have FE : Hid (∀ y, G wr y → G w y) := hide fun y g => unhide FIN y (unhide PE y g).below
        have CT : Hid (∀ (y : World), G wr y → ∀ (k : Nat) t, th[k]? = some t → ∃ g, ta = some ⟨g, 0, none⟩ ∧ y.cell? ⟨g, k * 6, none⟩ = some (.int .i64 t.ad) ∧ y.cell? ⟨g, k * 6 + 1, none⟩ = some (.int .i64 t.s.k) ∧ y.cell? ⟨g, k * 6 + 2, none⟩ = some (.int .i64 t.s.f) ∧ y.cell? ⟨g, k * 6 + 3, none⟩ = some (.int .u64 (t.s.m : Int)) ∧ y.cell? ⟨g, k * 6 + 4, none⟩ = some (.int .i64 (t.wd : Int))) := hide fun y gy k t hk => by
          obtain ⟨g, cap, b, e, hb, V, c⟩ := (unhide PE y gy).lq.thing hk
          simp at e
          exact ⟨g, e.1, c 0 _ rfl, c 1 _ rfl, c 2 _ rfl, c 3 _ rfl, c 4 _ rfl⟩
        clear P
        go_wp2_with fail
        go_loopw [15] (fun c15 wq => Hid (G wr wq) ∧ ∃ j : Nat, c15 = .int .i64 (j : Int) ∧ Hid (j ≤ T)) (fun c15 _ => T - (intOf c15).toNat)
        case atStart => exact ⟨hide (G.refl _), 0, rfl, hide (Nat.zero_le _)⟩
        case round =>
          obtain ⟨g7, j, rfl, hj⟩ := hrel
          by_cases hjT : j = T
          · have hjT' := hjT.symm
            subst hjT'
            have CF' := hide (unhide CF _ (unhide g7))
            have F := hide (unhide FE _ (unhide g7))
            clear hjT
            go_wp2_with fail
            refine (unhide CF').mono ?_
            rintro e w9 ⟨rfl, hw9⟩
            subst hw9
            go_wp2_with fail
            go_ret
            exact ⟨rfl, unhide F⟩
          · have hlt2 : j < T := Nat.lt_of_le_of_ne (unhide hj) hjT
            have hjI : (j : Int) < (T : Int) := Int.ofNat_lt.2 hlt2
            obtain ⟨j1, hwj1, hj1, DJ⟩ := hq_j1 hlt2 (by have := unhide hz; have := unhide hN; omega)
            replace hj1 := hide hj1
            replace DJ := hide DJ
            obtain ⟨t, ht⟩ : ∃ t, th[j]? = some t := ⟨_, List.getElem?_eq_getElem (by rw [(unhide hz).1]; exact hlt2)⟩
            obtain ⟨g, rfl, c0, _⟩ := unhide CT _ (unhide g7) j t ht
            have CO' := hide (unhide CO _ (unhide g7) j t ht)
            have hjJ1 : Hid (j + 1 ≤ T) := hide hlt2
            replace ht := hide ht
            clear hlt2 hjT
            go_wp2_with fail
            refine (unhide CO').mono ?_
            rintro e w5 ⟨rfl, g5⟩
            have g8 := (unhide g7).trans g5
            obtain ⟨wb, hwb⟩ : ∃ wb, wb = (w5.alloc (.cells #[.int .i64 (t.wd : Int), .int .i64 t.s.k, .int .i64 (t.nm : Int)] 50)).alloc (.cells #[.int .i64 t.s.k, .int .i64 t.s.f, .int .u64 (t.s.m : Int)] 37) := ⟨_, rfl⟩
            clear c0 CO'
            go_upto_region 44 with fail
            rw [← hwb]
            have gB : G w5 wb := by rw [hwb]; exact (G.alloc _ _).more _
            have g9 := hide (g8.trans gB)
            obtain ⟨g', e', b0, b1, b2, b3, b4⟩ := unhide CT wb (unhide g9) j t (unhide ht)
            obtain rfl : g = g' := by simpa using e'
            have m0 : wb.cell? ⟨w5.heap.size, 0, none⟩ = some (.int .i64 (t.wd : Int)) := by rw [hwb]; exact (G.alloc _ _).cell (World.cell?_alloc_new _ _ _ 0)
            have m1 : wb.cell? ⟨w5.heap.size, 1, none⟩ = some (.int .i64 t.s.k) := by rw [hwb]; exact (G.alloc _ _).cell (World.cell?_alloc_new _ _ _ 1)
            have bS : wb.heap[w5.heap.size + 1]? = some (.cells #[.int .i64 t.s.k, .int .i64 t.s.f, .int .u64 (t.s.m : Int)] 37 (0, 0)) := by
              rw [hwb]
              have hh := heap_alloc_new (w5.alloc (.cells #[.int .i64 (t.wd : Int), .int .i64 t.s.k, .int .i64 (t.nm : Int)] 50)) (.cells #[.int .i64 t.s.k, .int .i64 t.s.f, .int .u64 (t.s.m : Int)] 37)
              rw [World.size_alloc] at hh
              exact hh
            have n0 : wb.cell? ⟨w5.heap.size + 1, 0, none⟩ = some (.int .i64 t.s.k) := by rw [cell_of_row _ _ _ _ _ _ bS]; rfl
            have n1 : wb.cell? ⟨w5.heap.size + 1, 1, none⟩ = some (.int .i64 t.s.f) := by rw [cell_of_row _ _ _ _ _ _ bS]; rfl
            have n2 : wb.cell? ⟨w5.heap.size + 1, 2, none⟩ = some (.int .u64 (t.s.m : Int)) := by rw [cell_of_row _ _ _ _ _ _ bS]; rfl
            have e1 : ((t.wd : Int) != (t.wd : Int)) = false := by simp
            have e2 : (t.s.k != t.s.k) = false := by simp
            clear hwb bS e' b0 gB g8 g5
            go_quiet (fail)
            go_wp2_with fail
            go_roundw
            case rel => exact ⟨hide ((unhide g9).trans (G.drewN _ _)), j + 1, by first | rw [hwj1, unhide hj1] | rw [unhide hj1], hjJ1⟩
            case measure => first | (rw [hwj1]; exact unhide DJ) | exact unhide DJ
    · have hlt' : i < N := Nat.lt_of_le_of_ne (unhide hz).2.2.1 hi
      have hlt : (i : Int) < (N : Int) := Int.ofNat_lt.2 hlt'
      obtain ⟨i1, hwi1, hi1, DC⟩ := hq_i1 hlt' (unhide hN)
      replace hi1 := hide hi1
      replace DC := hide DC
      obtain ⟨s, lb, lo, _, hao, hlb, AC, hfit⟩ := (unhide HA).at_ (unhide FIN wr (unhide P).below) hlt'
      subst hao
      obtain ⟨op, sh, n, K, F, V, ad, raw, s⟩ := s
      replace hfit := hide hfit
      have c0 : wr.cell? ⟨lb, lo + i * 11, none⟩ = some (.int .i64 op) := AC 0 _ rfl
      have c1 : wr.cell? ⟨lb, lo + i * 11 + 1, none⟩ = some (.int .i64 sh) := AC 1 _ rfl
      have c2 : wr.cell? ⟨lb, lo + i * 11 + 2, none⟩ = some (.int .i64 n) := AC 2 _ rfl
      have c3 : wr.cell? ⟨lb, lo + i * 11 + 3, none⟩ = some (.int .i64 K) := AC 3 _ rfl
      have c4 : wr.cell? ⟨lb, lo + i * 11 + 4, none⟩ = some (.int .i64 F) := AC 4 _ rfl
      have c5 : wr.cell? ⟨lb, lo + i * 11 + 5, none⟩ = some (.int .i64 V) := AC 5 _ rfl
      have c6 : wr.cell? ⟨lb, lo + i * 11 + 6, none⟩ = some (.bool ad) := AC 6 _ rfl
      have c7 : wr.cell? ⟨lb, lo + i * 11 + 7, none⟩ = some (.bool raw) := AC 7 _ rfl
      have c8 : wr.cell? ⟨lb, lo + i * 11 + 8, none⟩ = some (.int .i64 s.k) := AC 8 _ rfl
      have c9 : wr.cell? ⟨lb, lo + i * 11 + 9, none⟩ = some (.int .i64 s.f) := AC 9 _ rfl
      have c10 : wr.cell? ⟨lb, lo + i * 11 + 10, none⟩ = some (.int .u64 (s.m : Int)) := AC 10 _ rfl
      obtain ⟨wb, hwb⟩ : ∃ wb, wb = wr.alloc (.cells #[.int .i64 op, .int .i64 sh, .int .i64 n, .int .i64 K, .int .i64 F, .int .i64 V, .bool ad, .bool raw, .int .i64 s.k, .int .i64 s.f, .int .u64 (s.m : Int)] 39) := ⟨_, rfl⟩
      have gb : Hid (G wr wb) := hide (by rw [hwb]; exact G.alloc _ _)
      have x0 : wb.cell? ⟨wr.heap.size, 0, none⟩ = some (.int .i64 op) := by rw [hwb]; exact World.cell?_alloc_new _ _ _ 0
      have x1 : wb.cell? ⟨wr.heap.size, 1, none⟩ = some (.int .i64 sh) := by rw [hwb]; exact World.cell?_alloc_new _ _ _ 1
      have x2 : wb.cell? ⟨wr.heap.size, 2, none⟩ = some (.int .i64 n) := by rw [hwb]; exact World.cell?_alloc_new _ _ _ 2
      have x3 : wb.cell? ⟨wr.heap.size, 3, none⟩ = some (.int .i64 K) := by rw [hwb]; exact World.cell?_alloc_new _ _ _ 3
      have x4 : wb.cell? ⟨wr.heap.size, 4, none⟩ = some (.int .i64 F) := by rw [hwb]; exact World.cell?_alloc_new _ _ _ 4
      have x5 : wb.cell? ⟨wr.heap.size, 5, none⟩ = some (.int .i64 V) := by rw [hwb]; exact World.cell?_alloc_new _ _ _ 5
      have x6 : wb.cell? ⟨wr.heap.size, 6, none⟩ = some (.bool ad) := by rw [hwb]; exact World.cell?_alloc_new _ _ _ 6
      have x7 : wb.cell? ⟨wr.heap.size, 7, none⟩ = some (.bool raw) := by rw [hwb]; exact World.cell?_alloc_new _ _ _ 7
      have x8 : wb.cell? ⟨wr.heap.size, 8, none⟩ = some (.int .i64 s.k) := by rw [hwb]; exact World.cell?_alloc_new _ _ _ 8
      have x9 : wb.cell? ⟨wr.heap.size, 9, none⟩ = some (.int .i64 s.f) := by rw [hwb]; exact World.cell?_alloc_new _ _ _ 9
      have x10 : wb.cell? ⟨wr.heap.size, 10, none⟩ = some (.int .u64 (s.m : Int)) := by rw [hwb]; exact World.cell?_alloc_new _ _ _ 10
      replace hlt' := hide hlt'
      clear hi AC
      go_upto_region 15 with fail
      rw [← hwb]
      clear hwb hlb c0 c1 c2 c3 c4 c5 c6 c7 c8 c9 c10
      by_cases hA : op < 0 ∨ 6 < op
      · as_aux_lemma =>
          have c60 := hide hA
          clear hA
          rcases unhide c60 with h1 | h1
          · have e1 : decide (op < 0) = true := by simpa using h1
            clear h1 c60
            go_wp2_with fail
            go_roundw
            case rel => exact ⟨i + 1, T, th, vo, lr, l, ta, tc, sa, M, sc, rv, rfl, rfl, by first | rw [hwi1, unhide hi1] | rw [unhide hi1], hide (by have := unhide hz; omega), hide ((unhide P).gr (unhide gb))⟩
            case measure => first | (rw [hwi1]; exact unhide DC) | exact unhide DC
          · have e1 : decide (op < 0) = false := by simp; omega
            have e2 : decide (6 < op) = true := by simpa using h1
            clear h1 c60
            go_wp2_with fail
            go_roundw
            case rel => exact ⟨i + 1, T, th, vo, lr, l, ta, tc, sa, M, sc, rv, rfl, rfl, by first | rw [hwi1, unhide hi1] | rw [unhide hi1], hide (by have := unhide hz; omega), hide ((unhide P).gr (unhide gb))⟩
            case measure => first | (rw [hwi1]; exact unhide DC) | exact unhide DC
      have d1 : decide (op < 0) = false := by simp; omega
      have d2 : decide (6 < op) = false := by simp; omega
      by_cases h0 : op = 0
      · subst h0
        clear hA d1 d2
        by_cases hg : 0 ≤ sh ∧ sh < (M : Int) ∧ 1 ≤ n ∧ n ≤ 64
        · as_aux_lemma =>
            obtain ⟨k, rfl⟩ : ∃ k : Nat, sh = k := ⟨sh.toNat, by omega⟩
            obtain ⟨m, hnm⟩ : ∃ m : Nat, n = ((m + 1 : Nat) : Int) := ⟨(n - 1).toNat, by omega⟩
            have hkM : k < M := by omega
            have hkI : (k : Int) < (M : Int) := Int.ofNat_lt.2 hkM
            obtain ⟨s0, hk⟩ : ∃ s0, l[k]? = some s0 := ⟨_, List.getElem?_eq_getElem (by have := unhide hz; omega)⟩
            obtain ⟨sg, rfl⟩ := (unhide P).lq.shpv hk
            have hsub : wrap64 (n - 1) = (m : Int) := by rw [hnm]; unfold wrap64; omega
            have hsub' : IntKind.i64.wrap (n - 1) = (m : Int) := by rw [IntKind.wrap_i64, hnm]; omega
            have e1 : decide ((k : Int) < 0) = false := by simp
            have e2 : decide ((M : Int) ≤ (k : Int)) = false := by simp; omega
            have e2' : decide (M ≤ k) = false := by simp; omega
            have e3 : decide (n < 1) = false := by simp; omega
            have e4 : decide (64 < n) = false := by simp; omega
            have CM : Hid (∀ ra, Calls Tryz.prog 8 #[.pointer (some ⟨x.hb, 0, none⟩), .int .i64 (k : Int), .int .i64 n, ra] wb fun r w' => ∃ v : Int, r = .returned (.tuple #[.int .i64 v, .int .i64 0]) ∧ v ≠ 0 ∧ Pq (⟨w0, x, w0.heap.size, w2.heap.size⟩ : Lz) (.slice ta T tc) rv (.slice (some ⟨sg, 0, none⟩) M sc) (th ++ [⟨v, k, s0, m + 1, List.replicate m 0⟩]) th vo lr l l w' ∧ ∀ d, wr.heap.size ≤ d → d < wb.heap.size → w'.heap[d]? = wb.heap[d]?) := hide fun ra => by
              rw [hnm]
              exact pq_make9 P (unhide gb) hk (by omega) (by omega) (by have := unhide hz; have := unhide hN; omega) ra
            have hmk := mk_i64q m (by omega)
            have hC : Hid (∀ (y : World) b, y.heap[b]? = some (.cells (madeCells #[.int .i64 0] (m * 1)) 2 (0, 0)) → VAt y b (List.replicate m 0)) := hide fun y b hb => i64s_at hb
            generalize madeCells #[.int .i64 0] (m * 1) = C at hmk hC
            have hm64 : Hid (m ≤ 63) := hide (by omega)
            replace hnm := hide hnm
            replace hk := hide hk
            clear hg hkM
            go_wp2_with fail
            refine (unhide CM _).mono ?_
            rintro e w5 ⟨v, rfl, hv, P5, k5⟩
            clear CM
            have hvb : (v == 0) = false := by simpa using hv
            have zB : wr.heap.size < wb.heap.size := World.block_lt_of_cell? wb _ x0
            have kb := k5 wr.heap.size (Nat.le_refl _) zB
            obtain ⟨rv', w7, hrR, q1, q2, P8, z8, k8, nw8⟩ := P5.heldR (Nat.le_refl _) (by have := unhide hz; have := unhide hN; omega) v
            obtain ⟨ra', rn', rc', hrv⟩ : ∃ a n c, rv' = .slice a n c := by
              obtain ⟨a, c, e⟩ := row_val P8.lq.rr
              exact ⟨a, _, c, e⟩
            subst hrv
            have zB5 : wr.heap.size < w5.heap.size := World.block_lt_of_cell? w5 ⟨wr.heap.size, 0, none⟩ ((World.cell?_of_block (a := ⟨wr.heap.size, 0, none⟩) kb).trans x0)
            have kb8 := (k8 wr.heap.size zB5 (fun hq => Nat.lt_irrefl _ ((unhide P).lq.lt hq))).trans kb
            have y1 : w5.cell? ⟨wr.heap.size, 1, none⟩ = some (.int .i64 (k : Int)) := (World.cell?_of_block (a := ⟨wr.heap.size, 1, none⟩) kb).trans x1
            have y2 : w5.cell? ⟨wr.heap.size, 2, none⟩ = some (.int .i64 n) := (World.cell?_of_block (a := ⟨wr.heap.size, 2, none⟩) kb).trans x2
            obtain ⟨w8, hw8⟩ : ∃ w8, w8 = w7.setCell ⟨w2.heap.size, 0, none⟩ (.slice ra' rn' rc') := ⟨_, rfl⟩
            have v1 : w8.cell? ⟨wr.heap.size, 1, none⟩ = some (.int .i64 (k : Int)) := by rw [hw8]; exact (World.cell?_of_block (a := ⟨wr.heap.size, 1, none⟩) kb8).trans x1
            have v2 : w8.cell? ⟨wr.heap.size, 2, none⟩ = some (.int .i64 n) := by rw [hw8]; exact (World.cell?_of_block (a := ⟨wr.heap.size, 2, none⟩) kb8).trans x2
            have ch : w5.cell? ⟨w2.heap.size, 0, none⟩ = some rv := P5.lq.hc
            have zh : w2.heap.size < w5.heap.size := P5.lq.hlt
            have q1' : w7.cell? ⟨w2.heap.size, 0, none⟩ = some rv := q1
            have q2' : w7.frozen? ⟨w2.heap.size, 0, none⟩ = false := q2
            replace P8 : Hid (Pq (⟨w0, x, w0.heap.size, w2.heap.size⟩ : Lz) (.slice ta T tc) (.slice ra' rn' rc') (.slice (some ⟨sg, 0, none⟩) M sc) (th ++ [⟨v, k, s0, m + 1, List.replicate m 0⟩]) th vo (lr ++ [v]) l l w8) := hide (by rw [hw8]; exact P8)
            have SH := (unhide P8).lq.shp (unhide hk)
            obtain ⟨sk, hsk⟩ : ∃ z, z = s0.k := ⟨_, rfl⟩
            obtain ⟨sf, hsf⟩ : ∃ z, z = s0.f := ⟨_, rfl⟩
            obtain ⟨sm, hsm⟩ : ∃ z, z = (s0.m : Int) := ⟨_, rfl⟩
            rw [← hsk, ← hsf, ← hsm] at SH
            obtain ⟨u1, u2, u3⟩ := SH
            obtain ⟨tv', w9, hrun, P9, ⟨a9, k9, htv⟩, kp9⟩ := ((unhide P8).gr (G.refl w8).drew).moreT (Nat.le_refl _) (by have := unhide hz; have := unhide hN; omega) C (unhide hC) (w8.drew.alloc (.cells C 2)) rfl
            rw [← hsk, ← hsf, ← hsm, ← unhide hnm] at hrun
            rw [show th.length = T from (unhide hz).1] at htv
            subst htv
            have nBx : Hid (¬ lqB w2.heap.size (.slice ta T tc) (.slice ra' rn' rc') (.slice (some ⟨sg, 0, none⟩) M sc) vo wr.heap.size) := hide (fun hq => by
              rcases nw8 _ hq with e | e
              · exact Nat.lt_irrefl _ ((unhide P).lq.lt e)
              · exact absurd zB5 (Nat.not_lt.2 e))
            have hS0 : Hid (w8.drew.cell? ⟨wr.heap.size, 1, none⟩ = some (.int .i64 (k : Int)) ∧ w8.drew.cell? ⟨wr.heap.size, 2, none⟩ = some (.int .i64 n) ∧ w8.drew.cell? ⟨sg, k * 3, none⟩ = some (.int .i64 sk) ∧ w8.drew.cell? ⟨sg, k * 3 + 1, none⟩ = some (.int .i64 sf) ∧ w8.drew.cell? ⟨sg, k * 3 + 2, none⟩ = some (.int .u64 sm)) := hide ⟨v1, v2, u1, u2, u3⟩
            have hS1 : Hid ((w8.drew.alloc (.cells C 2)).cell? ⟨wr.heap.size, 1, none⟩ = some (.int .i64 (k : Int)) ∧ (w8.drew.alloc (.cells C 2)).cell? ⟨wr.heap.size, 2, none⟩ = some (.int .i64 n) ∧ (w8.drew.alloc (.cells C 2)).cell? ⟨sg, k * 3, none⟩ = some (.int .i64 sk) ∧ (w8.drew.alloc (.cells C 2)).cell? ⟨sg, k * 3 + 1, none⟩ = some (.int .i64 sf) ∧ (w8.drew.alloc (.cells C 2)).cell? ⟨sg, k * 3 + 2, none⟩ = some (.int .u64 sm)) := hide ⟨(G.alloc _ _).cell v1, (G.alloc _ _).cell v2, (G.alloc _ _).cell u1, (G.alloc _ _).cell u2, (G.alloc _ _).cell u3⟩
            have hS2 : Hid (((w8.drew.alloc (.cells C 2)).alloc (.cells #[.int .i64 v, .int .i64 sk, .int .i64 sf, .int .u64 sm, .int .i64 n, .slice (some ⟨w8.heap.size, 0, none⟩) m m] 43)).cell? ⟨wr.heap.size, 1, none⟩ = some (.int .i64 (k : Int)) ∧ ((w8.drew.alloc (.cells C 2)).alloc (.cells #[.int .i64 v, .int .i64 sk, .int .i64 sf, .int .u64 sm, .int .i64 n, .slice (some ⟨w8.heap.size, 0, none⟩) m m] 43)).cell? ⟨wr.heap.size, 2, none⟩ = some (.int .i64 n) ∧ ((w8.drew.alloc (.cells C 2)).alloc (.cells #[.int .i64 v, .int .i64 sk, .int .i64 sf, .int .u64 sm, .int .i64 n, .slice (some ⟨w8.heap.size, 0, none⟩) m m] 43)).cell? ⟨sg, k * 3, none⟩ = some (.int .i64 sk) ∧ ((w8.drew.alloc (.cells C 2)).alloc (.cells #[.int .i64 v, .int .i64 sk, .int .i64 sf, .int .u64 sm, .int .i64 n, .slice (some ⟨w8.heap.size, 0, none⟩) m m] 43)).cell? ⟨sg, k * 3 + 1, none⟩ = some (.int .i64 sf) ∧ ((w8.drew.alloc (.cells C 2)).alloc (.cells #[.int .i64 v, .int .i64 sk, .int .i64 sf, .int .u64 sm, .int .i64 n, .slice (some ⟨w8.heap.size, 0, none⟩) m m] 43)).cell? ⟨sg, k * 3 + 2, none⟩ = some (.int .u64 sm)) := hide ⟨(G.alloc _ _).cell (unhide hS1).1, (G.alloc _ _).cell (unhide hS1).2.1, (G.alloc _ _).cell (unhide hS1).2.2.1, (G.alloc _ _).cell (unhide hS1).2.2.2.1, (G.alloc _ _).cell (unhide hS1).2.2.2.2⟩
            have SH9 := P9.lq.shp (unhide hk)
            rw [← hsk, ← hsf, ← hsm] at SH9
            have kB9 := kp9 wr.heap.size (World.block_lt_of_cell? w8 _ v1) (unhide nBx)
            have hS3 : Hid (w9.cell? ⟨wr.heap.size, 1, none⟩ = some (.int .i64 (k : Int)) ∧ w9.cell? ⟨wr.heap.size, 2, none⟩ = some (.int .i64 n) ∧ w9.cell? ⟨sg, k * 3, none⟩ = some (.int .i64 sk) ∧ w9.cell? ⟨sg, k * 3 + 1, none⟩ = some (.int .i64 sf) ∧ w9.cell? ⟨sg, k * 3 + 2, none⟩ = some (.int .u64 sm)) := hide ⟨(World.cell?_of_block (a := ⟨wr.heap.size, 1, none⟩) kB9).trans v1, (World.cell?_of_block (a := ⟨wr.heap.size, 2, none⟩) kB9).trans v2, SH9.1, SH9.2.1, SH9.2.2⟩
            replace hrun := hide hrun
            replace P9 := hide P9
            replace hsk := hide hsk
            replace hsf := hide hsf
            replace hsm := hide hsm
            clear SH9 kB9 nBx nw8 P5 z8 P8 kp9
            clear kb kb8 k5 k8 x0 x3 x4 x5 x6 x7 x8 x9 x10 hv
            go_upto_region 27 with (at_builtin; refine wpl_aph rfl (.tmp 108) (.tmp 110) 31 rfl _ _ rfl rfl _ _ hrR ?_)
            rw [← hw8]
            clear hw8 hrR q1 q2 q1' q2' ch zh y1 y2 v1 v2 u1 u2 u3 e1 e2 e2' e3 e4 hvb zB zB5 x1 x2
            refine wp_region_noPanic ?_
            refine wp_region_held_drew (S := fun y => y.cell? ⟨wr.heap.size, 1, none⟩ = some (.int .i64 (k : Int)) ∧ y.cell? ⟨wr.heap.size, 2, none⟩ = some (.int .i64 n) ∧ y.cell? ⟨sg, k * 3, none⟩ = some (.int .i64 sk) ∧ y.cell? ⟨sg, k * 3 + 1, none⟩ = some (.int .i64 sf) ∧ y.cell? ⟨sg, k * 3 + 2, none⟩ = some (.int .u64 sm)) (by kernel_rfl) (unhide hS0) (fun hHeld => ?_)
            refine wpAnyH_take (i := 0) (v := .slice ta T tc) rfl (by kernel_rfl) (by kernel_rfl) (by kernel_rfl) (fun _ _ _ h => h) (Or.inl ⟨by rfl, fun w hSw => by obtain ⟨t0, t1, t2, t3, t4⟩ := hSw; go_simp⟩) (by assumption) ?_
            try simp only [Act.put, List.getElem_toArray, List.getElem_cons_zero, List.setIfInBounds_toArray, List.set_cons_zero, List.set_cons_succ]
            refine wpAnyH_take (i := 1) (v := .int .i64 v) rfl (by kernel_rfl) (by kernel_rfl) (by kernel_rfl) (fun _ _ _ h => h) (Or.inl ⟨by rfl, fun w hSw => by obtain ⟨t0, t1, t2, t3, t4⟩ := hSw; go_simp⟩) (by assumption) ?_
            try simp only [Act.put, List.getElem_toArray, List.getElem_cons_succ, List.getElem_cons_zero, List.setIfInBounds_toArray, List.set_cons_zero, List.set_cons_succ]
            refine wpAnyH_take (i := 2) (v := .slice (some ⟨sg, 0, none⟩) M sc) rfl (by kernel_rfl) (by kernel_rfl) (by kernel_rfl) (fun _ _ _ h => h) (Or.inl ⟨by rfl, fun w hSw => by obtain ⟨t0, t1, t2, t3, t4⟩ := hSw; go_simp⟩) (by assumption) ?_
            try simp only [Act.put, List.getElem_toArray, List.getElem_cons_succ, List.getElem_cons_zero, List.setIfInBounds_toArray, List.set_cons_zero, List.set_cons_succ]
            refine wpAnyH_take (i := 3) (v := .pointer (some ⟨wr.heap.size, 1, none⟩)) rfl (by kernel_rfl) (by kernel_rfl) (by kernel_rfl) (fun _ _ _ h => h) (Or.inl ⟨by rfl, fun w hSw => by obtain ⟨t0, t1, t2, t3, t4⟩ := hSw; go_simp⟩) (by assumption) ?_
            try simp only [Act.put, List.getElem_toArray, List.getElem_cons_succ, List.getElem_cons_zero, List.setIfInBounds_toArray, List.set_cons_zero, List.set_cons_succ]
            refine wpAnyH_take (i := 4) (v := .int .i64 (k : Int)) rfl (by kernel_rfl) (by kernel_rfl) (by kernel_rfl) (fun _ _ _ h => h) (Or.inl ⟨by rfl, fun w hSw => by obtain ⟨t0, t1, t2, t3, t4⟩ := hSw; go_simp⟩) (by assumption) ?_
            try simp only [Act.put, List.getElem_toArray, List.getElem_cons_succ, List.getElem_cons_zero, List.setIfInBounds_toArray, List.set_cons_zero, List.set_cons_succ]
            refine wpAnyH_take (i := 5) (v := .pointer (some ⟨sg, k * 3, none⟩)) rfl (by kernel_rfl) (by kernel_rfl) (by kernel_rfl) (fun _ _ _ h => h) (Or.inl ⟨by rfl, fun w hSw => by obtain ⟨t0, t1, t2, t3, t4⟩ := hSw; go_simp⟩) (by assumption) ?_
            try simp only [Act.put, List.getElem_toArray, List.getElem_cons_succ, List.getElem_cons_zero, List.setIfInBounds_toArray, List.set_cons_zero, List.set_cons_succ]
            refine wpAnyH_take (i := 6) (v := .agg #[.int .i64 sk, .int .i64 sf, .int .u64 sm]) rfl (by kernel_rfl) (by kernel_rfl) (by kernel_rfl) (fun _ _ _ h => h) (Or.inl ⟨by rfl, fun w hSw => by obtain ⟨t0, t1, t2, t3, t4⟩ := hSw; go_simp⟩) (by assumption) ?_
            try simp only [Act.put, List.getElem_toArray, List.getElem_cons_succ, List.getElem_cons_zero, List.setIfInBounds_toArray, List.set_cons_zero, List.set_cons_succ]
            refine wpAnyH_take (i := 7) (v := .pointer (some ⟨wr.heap.size, 2, none⟩)) rfl (by kernel_rfl) (by kernel_rfl) (by kernel_rfl) (fun _ _ _ h => h) (Or.inl ⟨by rfl, fun w hSw => by obtain ⟨t0, t1, t2, t3, t4⟩ := hSw; go_simp⟩) (by assumption) ?_
            try simp only [Act.put, List.getElem_toArray, List.getElem_cons_succ, List.getElem_cons_zero, List.setIfInBounds_toArray, List.set_cons_zero, List.set_cons_succ]
            refine wpAnyH_take (i := 8) (v := .int .i64 n) rfl (by kernel_rfl) (by kernel_rfl) (by kernel_rfl) (fun _ _ _ h => h) (Or.inl ⟨by rfl, fun w hSw => by obtain ⟨t0, t1, t2, t3, t4⟩ := hSw; go_simp⟩) (by assumption) ?_
            try simp only [Act.put, List.getElem_toArray, List.getElem_cons_succ, List.getElem_cons_zero, List.setIfInBounds_toArray, List.set_cons_zero, List.set_cons_succ]
            refine wpAnyH_take (i := 9) (v := .pointer (some ⟨wr.heap.size, 2, none⟩)) rfl (by kernel_rfl) (by kernel_rfl) (by kernel_rfl) (fun _ _ _ h => h) (Or.inl ⟨by rfl, fun w hSw => by obtain ⟨t0, t1, t2, t3, t4⟩ := hSw; go_simp⟩) (by assumption) ?_
            try simp only [Act.put, List.getElem_toArray, List.getElem_cons_succ, List.getElem_cons_zero, List.setIfInBounds_toArray, List.set_cons_zero, List.set_cons_succ]
            refine wpAnyH_take (i := 10) (v := .int .i64 n) rfl (by kernel_rfl) (by kernel_rfl) (by kernel_rfl) (fun _ _ _ h => h) (Or.inl ⟨by rfl, fun w hSw => by obtain ⟨t0, t1, t2, t3, t4⟩ := hSw; go_simp⟩) (by assumption) ?_
            try simp only [Act.put, List.getElem_toArray, List.getElem_cons_succ, List.getElem_cons_zero, List.setIfInBounds_toArray, List.set_cons_zero, List.set_cons_succ]
            refine wpAnyH_take (i := 11) (v := .int .i64 (m : Int)) rfl (by kernel_rfl) (by kernel_rfl) (by kernel_rfl) (fun _ _ _ h => h) (Or.inl ⟨by rfl, fun w hSw => by obtain ⟨t0, t1, t2, t3, t4⟩ := hSw; go_simp⟩) (by assumption) ?_
            try simp only [Act.put, List.getElem_toArray, List.getElem_cons_succ, List.getElem_cons_zero, List.setIfInBounds_toArray, List.set_cons_zero, List.set_cons_succ]
            refine wpAnyH_ready (rs := [12]) (by kernel_rfl) (by simp) ?_
            refine AllReadyH.cons rfl (fun K hK => ?_) AllReadyH.nil
            go_simp
            refine hK.out _ (w8.drew.alloc (.cells C 2)) (unhide hS1) (fun hHeld => ?_)
            clear hK K
            try simp only [Act.put, List.getElem_toArray, List.getElem_cons_succ, List.getElem_cons_zero, List.setIfInBounds_toArray, List.set_cons_zero, List.set_cons_succ]
            refine wpAnyH_ready (rs := [13]) (by kernel_rfl) (by simp) ?_
            refine AllReadyH.cons rfl (fun K hK => ?_) AllReadyH.nil
            refine step_build rfl _ _ rfl #[(0, .int .i64 v), (1, .agg #[.int .i64 sk, .int .i64 sf, .int .u64 sm]), (2, .int .i64 n), (3, .slice (some ⟨w8.heap.size, 0, none⟩) m m)] (by kernel_rfl) _ _ (build_thing v sk sf sm n w8.heap.size m _) ?_
            refine hK.out _ (w8.drew.alloc (.cells C 2)) (unhide hS1) (fun hHeld => ?_)
            clear hK K
            try simp only [Act.put, List.getElem_toArray, List.getElem_cons_succ, List.getElem_cons_zero, List.setIfInBounds_toArray, List.set_cons_zero, List.set_cons_succ]
            refine wpAnyH_ready (rs := [14]) (by kernel_rfl) (by simp) ?_
            refine AllReadyH.cons rfl (fun K hK => ?_) AllReadyH.nil
            refine step_builds rfl _ _ _ rfl #[(0, .agg #[.int .i64 v, .int .i64 sk, .int .i64 sf, .int .u64 sm, .int .i64 n, .slice (some ⟨w8.heap.size, 0, none⟩) m m])] (by kernel_rfl) _ _ (builds_thing v sk sf sm n w8.heap.size m _) ?_
            refine hK.out _ ((w8.drew.alloc (.cells C 2)).alloc (.cells #[.int .i64 v, .int .i64 sk, .int .i64 sf, .int .u64 sm, .int .i64 n, .slice (some ⟨w8.heap.size, 0, none⟩) m m] 43)) (unhide hS2) (fun hHeld => ?_)
            clear hK K
            try simp only [Act.put, List.getElem_toArray, List.getElem_cons_succ, List.getElem_cons_zero, List.setIfInBounds_toArray, List.set_cons_zero, List.set_cons_succ]
            refine wpAnyH_ready (rs := [15]) (by kernel_rfl) (by simp) ?_
            refine AllReadyH.cons rfl (fun K hK => ?_) AllReadyH.nil
            refine step_app rfl (.tmp 114) (.tmp 128) 34 rfl _ _ rfl rfl _ _ (unhide hrun) ?_
            refine hK.out _ _ (unhide hS3) (fun hHeld => ?_)
            clear hK K hrun
            try simp only [Act.put, List.getElem_toArray, List.getElem_cons_succ, List.getElem_cons_zero, List.setIfInBounds_toArray, List.set_cons_zero, List.set_cons_succ]
            refine wpAnyH_take (i := 16) (v := .slice a9 (T + 1) k9) rfl (by kernel_rfl) (by kernel_rfl) (by kernel_rfl) (fun _ _ _ h => h) (Or.inl ⟨by rfl, fun w hSw => by obtain ⟨t0, t1, t2, t3, t4⟩ := hSw; go_simp⟩) (by assumption) ?_
            try simp only [Act.put, List.getElem_toArray, List.getElem_cons_succ, List.getElem_cons_zero, List.setIfInBounds_toArray, List.set_cons_zero, List.set_cons_succ]
            refine wpAnyH_done (by kernel_rfl) (NoPanic.normal ?_) _
            clear hHeld hS0 hS1 hS2 hS3 hmk
            go_wp2_with fail
            go_roundw
            case rel => exact ⟨i + 1, T + 1, _, _, _, l, a9, k9, _, M, sc, _, rfl, rfl, by first | rw [hwi1, unhide hi1] | rw [unhide hi1], hide (by rw [List.length_append, List.length_append, List.length_singleton, List.length_singleton]; have := unhide hz; omega), P9⟩
            case measure => first | (rw [hwi1]; exact unhide DC) | exact unhide DC
        · have hb : sh < 0 ∨ (M : Int) ≤ sh ∨ n < 1 ∨ 64 < n := by omega
          clear hg
          as_aux_lemma =>
            have CM : Hid (∀ ra, Calls Tryz.prog 8 #[.pointer (some ⟨x.hb, 0, none⟩), .int .i64 sh, .int .i64 n, ra] wb fun r w' => r = .returned (.tuple #[.int .i64 0, .int .i64 1]) ∧ w' = wb) := hide fun ra => pq_make_bad (hide ((unhide P).gr (unhide gb))) sh n (by have := unhide hz; omega) ra
            replace hb := hide hb
            by_cases h1 : sh < 0
            · have e1 : decide (sh < 0) = true := by simpa using h1
              clear h1
              go_wp2_with fail
              refine (unhide CM _).mono ?_
              rintro e w5 ⟨rfl, hw5⟩
              have hw5' := hw5.symm
              subst hw5'
              clear hw5 CM
              go_wp2_with fail
              go_roundw
              case rel => exact ⟨i + 1, T, th, vo, lr, l, ta, tc, sa, M, sc, rv, rfl, rfl, by first | rw [hwi1, unhide hi1] | rw [unhide hi1], hide (by have := unhide hz; omega), hide ((unhide P).gr (unhide gb))⟩
              case measure => first | (rw [hwi1]; exact unhide DC) | exact unhide DC
            have e1 : decide (sh < 0) = false := by simpa using h1
            by_cases h2 : (M : Int) ≤ sh
            · have e2 : decide ((M : Int) ≤ sh) = true := by simpa using h2
              clear h1 h2
              go_wp2_with fail
              refine (unhide CM _).mono ?_
              rintro e w5 ⟨rfl, hw5⟩
              have hw5' := hw5.symm
              subst hw5'
              clear hw5 CM
              go_wp2_with fail
              go_roundw
              case rel => exact ⟨i + 1, T, th, vo, lr, l, ta, tc, sa, M, sc, rv, rfl, rfl, by first | rw [hwi1, unhide hi1] | rw [unhide hi1], hide (by have := unhide hz; omega), hide ((unhide P).gr (unhide gb))⟩
              case measure => first | (rw [hwi1]; exact unhide DC) | exact unhide DC
            have e2 : decide ((M : Int) ≤ sh) = false := by simpa using h2
            by_cases h3 : n < 1
            · have e3 : decide (n < 1) = true := by simpa using h3
              clear h1 h2 h3
              go_wp2_with fail
              refine (unhide CM _).mono ?_
              rintro e w5 ⟨rfl, hw5⟩
              have hw5' := hw5.symm
              subst hw5'
              clear hw5 CM
              go_wp2_with fail
              go_roundw
              case rel => exact ⟨i + 1, T, th, vo, lr, l, ta, tc, sa, M, sc, rv, rfl, rfl, by first | rw [hwi1, unhide hi1] | rw [unhide hi1], hide (by have := unhide hz; omega), hide ((unhide P).gr (unhide gb))⟩
              case measure => first | (rw [hwi1]; exact unhide DC) | exact unhide DC
            have e3 : decide (n < 1) = false := by simpa using h3
            have e4 : decide (64 < n) = true := by have := unhide hb; simp; omega
            clear h1 h2 h3
            go_wp2_with fail
            refine (unhide CM _).mono ?_
            rintro e w5 ⟨rfl, hw5⟩
            have hw5' := hw5.symm
            subst hw5'
            clear hw5 CM
            go_wp2_with fail
            go_roundw
            case rel => exact ⟨i + 1, T, th, vo, lr, l, ta, tc, sa, M, sc, rv, rfl, rfl, by first | rw [hwi1, unhide hi1] | rw [unhide hi1], hide (by have := unhide hz; omega), hide ((unhide P).gr (unhide gb))⟩
            case measure => first | (rw [hwi1]; exact unhide DC) | exact unhide DC
      by_cases h6 : op = 6
      · subst h6
        clear hA d1 d2 h0
        by_cases hg : s.good = true
        · as_aux_lemma =>
            obtain ⟨J, hJ⟩ : ∃ J : Nat, J = l.idxOf s := ⟨_, rfl⟩
            have hJM : Hid (J ≤ M) := hide (by rw [hJ, ← (unhide hz).2.2.2.1]; exact List.idxOf_le_length)
            have hJ1 : Hid (J ≤ 1000) := hide (by have := unhide hz; have := unhide hN; have := unhide hJM; omega)
            have CD : Hid (Calls Tryz.prog 9 #[.pointer (some ⟨x.hb, 0, none⟩), .agg #[.int .i64 s.k, .int .i64 s.f, .int .u64 (s.m : Int)]] wb fun r w' => r = .returned (.tuple #[.int .i64 (J : Int), .int .i64 0]) ∧ Pq (⟨w0, x, w0.heap.size, w2.heap.size⟩ : Lz) (.slice ta T tc) rv (.slice sa M sc) th th vo lr (Hd.addS l s) l w' ∧ ∀ d, wr.heap.size ≤ d → d < wb.heap.size → w'.heap[d]? = wb.heap[d]?) := hide (by
              have := pq_add9 P (unhide gb) s (unhide hfit).s0 (by have := unhide hz; have := unhide hN; omega)
              rw [show Hd.numV l s = (J : Int) from by rw [hJ]; exact if_pos hg, show Hd.numE s = 0 from if_pos hg] at this
              exact this)
            have CG : Hid (∀ y, Calls Tryz.prog 10 #[.agg #[.int .i64 s.k, .int .i64 s.f, .int .u64 (s.m : Int)]] y fun e w' => e = .returned (.bool true) ∧ G y w') := hide fun y => by
              have := Hd.rgood_any s.k s.f s.m y (unhide hfit).s0.m0
              rw [show Hd.goodB s.k s.f s.m = true from hg] at this
              exact this
            replace hg := hide hg
            replace hJ := hide hJ
            go_wp2_with fail
            refine (unhide CD).mono ?_
            rintro e w5 ⟨rfl, P5, k5⟩
            have kb := k5 wr.heap.size (Nat.le_refl _) (World.block_lt_of_cell? wb _ x0)
            have y8 : w5.cell? ⟨wr.heap.size, 8, none⟩ = some (.int .i64 s.k) := (World.cell?_of_block (a := ⟨wr.heap.size, 8, none⟩) kb).trans x8
            have y9 : w5.cell? ⟨wr.heap.size, 9, none⟩ = some (.int .i64 s.f) := (World.cell?_of_block (a := ⟨wr.heap.size, 9, none⟩) kb).trans x9
            have y10 : w5.cell? ⟨wr.heap.size, 10, none⟩ = some (.int .u64 (s.m : Int)) := (World.cell?_of_block (a := ⟨wr.heap.size, 10, none⟩) kb).trans x10
            replace P5 := hide P5
            clear CD k5 kb x0 x1 x2 x3 x4 x5 x6 x7 x8 x9 x10
            go_wp2_with fail
            refine (unhide CG _).mono ?_
            rintro e w6 ⟨rfl, g6⟩
            have P6 := hide ((unhide P5).gr g6)
            have ZC : Hid (∀ y, G w6 y → y.cell? ⟨wr.heap.size, 8, none⟩ = some (.int .i64 s.k) ∧ y.cell? ⟨wr.heap.size, 9, none⟩ = some (.int .i64 s.f) ∧ y.cell? ⟨wr.heap.size, 10, none⟩ = some (.int .u64 (s.m : Int))) := hide fun y g => ⟨g.cell (g6.cell y8), g.cell (g6.cell y9), g.cell (g6.cell y10)⟩
            clear CG P5 g6 y8 y9 y10
            go_wp2_with fail
            go_loopw [14] (fun c14 wq => Hid (G w6 wq) ∧ ∃ j : Nat, c14 = .int .i64 (j : Int) ∧ Hid (j ≤ J)) (fun c14 _ => J - (intOf c14).toNat)
            case atStart => exact ⟨hide (G.refl _), 0, rfl, hide (Nat.zero_le _)⟩
            case round =>
              obtain ⟨g7, j, rfl, hj⟩ := hrel
              have P7 := hide ((unhide P6).gr (unhide g7))
              obtain ⟨t8, t9, t10⟩ := unhide ZC _ (unhide g7)
              by_cases hjJ : j = J
              · subst hjJ
                by_cases hjm : j < M
                · have hsj : l[j]? = some s := by
                    have := idx_at l s (by rw [← unhide hJ, (unhide hz).2.2.2.1]; exact hjm)
                    rw [← unhide hJ] at this
                    exact this
                  have hin : s ∈ l := List.mem_of_getElem? hsj
                  have ea : Hd.addS l s = l := if_neg (fun h => h.2 hin)
                  obtain ⟨sg, rfl⟩ := (unhide P7).lq.shpv hsj
                  obtain ⟨u1, u2, u3⟩ := (unhide P7).lq.shp hsj
                  have hjI : (j : Int) < (M : Int) := Int.ofNat_lt.2 hjm
                  have ne : ((j : Int) == (M : Int)) = false := by simp; omega
                  have nn : ((j : Int) != (j : Int)) = false := by simp
                  rw [ea] at P7
                  clear hsj hin ea hjm
                  go_wp2_with fail
                  go_quiet (fail)
                  go_wp2_with fail
                  go_roundw
                  case rel => exact ⟨i + 1, T, th, vo, lr, l, ta, tc, _, M, sc, rv, rfl, rfl, by first | rw [hwi1, unhide hi1] | rw [unhide hi1], hide (by have := unhide hz; omega), hide ((unhide P7).gr (G.drewN _ _))⟩
                  case measure => first | (rw [hwi1]; exact unhide DC) | exact unhide DC
                · have hnin : s ∉ l := fun h => hjm (by
                    have := List.idxOf_lt_length_iff.2 h
                    rw [← unhide hJ, (unhide hz).2.2.2.1] at this
                    exact this)
                  have ea : Hd.addS l s = l ++ [s] := if_pos ⟨unhide hg, hnin⟩
                  rw [ea] at P7
                  have hjM : j = M := Nat.le_antisymm (unhide hJM) (Nat.not_lt.1 hjm)
                  have dj : decide ((j : Int) < (M : Int)) = false := by simp; omega
                  have dj' : decide (j < M) = false := by simp; omega
                  have ee : ((j : Int) == (M : Int)) = true := by simp; omega
                  have nn : ((j : Int) != (j : Int)) = false := by simp
                  replace hjM := hide hjM
                  clear hnin ea hjm
                  go_wp2_with fail
                  go_quiet (fail)
                  go_upto_region 37 with fail
                  obtain ⟨wq, hwq⟩ : ∃ wq, wq = wr.drewN nq := ⟨_, rfl⟩
                  rw [← hwq]
                  have gq : G wr wq := by rw [hwq]; exact G.drewN _ _
                  obtain ⟨sv', w9, hrS, P9, a9, k9, hsv⟩ := ((unhide P7).gr gq).moreS (Nat.le_refl _) (by have := unhide hz; have := unhide hN; omega) s
                  rw [(unhide hz).2.2.2.1] at hsv
                  subst hsv
                  obtain ⟨r8, r9, r10⟩ := unhide ZC wq ((unhide g7).trans gq)
                  replace P9 := hide P9
                  clear t8 t9 t10 hwq gq P7
                  go_upto_region 38 with (at_builtin; refine wpl_aph rfl (.tmp 172) (.tmp 175) 24 rfl _ _ rfl rfl _ _ hrS ?_)
                  clear hrS
                  go_wp2_with fail
                  go_roundw
                  case rel => exact ⟨i + 1, T, th, vo, lr, l ++ [s], ta, tc, a9, M + 1, k9, rv, rfl, rfl, by first | rw [hwi1, unhide hi1] | rw [unhide hi1], hide (by rw [List.length_append, List.length_singleton]; have := unhide hz; omega), P9⟩
                  case measure => first | (rw [hwi1]; exact unhide DC) | exact unhide DC
              · have hlt2 : j < J := Nat.lt_of_le_of_ne (unhide hj) hjJ
                obtain ⟨j1, hwj1, hj1, DJ⟩ := hq_j1 hlt2 (unhide hJ1)
                replace hj1 := hide hj1
                replace DJ := hide DJ
                have hjm : j < M := Nat.lt_of_lt_of_le hlt2 (unhide hJM)
                have hjI : (j : Int) < (M : Int) := Int.ofNat_lt.2 hjm
                obtain ⟨t, ht⟩ : ∃ t, l[j]? = some t := ⟨_, List.getElem?_eq_getElem (by rw [(unhide hz).2.2.2.1]; exact hjm)⟩
                have hts : t ≠ s := idx_lt l s j t (by rw [← unhide hJ]; exact hlt2) ht
                obtain ⟨sg, rfl⟩ := (unhide P7).lq.shpv ht
                obtain ⟨u1, u2, u3⟩ := (unhide P7).lq.shp ht
                have hjJ1 : Hid (j + 1 ≤ J) := hide hlt2
                have hd := shp_neq hts
                clear hlt2 hjJ hjm ht hts P7
                rcases hd with d | ⟨d0, d⟩ | ⟨d0, d1, d⟩
                all_goals
                  go_wp2_with fail
                  go_quiet (fail)
                  go_wp2_with fail
                  go_roundw
                  case rel => exact ⟨hide ((unhide g7).trans (G.drewN _ _)), j + 1, by first | rw [hwj1, unhide hj1] | rw [unhide hj1], hjJ1⟩
                  case measure => first | (rw [hwj1]; exact unhide DJ) | exact unhide DJ
        · as_aux_lemma =>
            replace hg : s.good = false := by simpa using hg
            have CD : Hid (Calls Tryz.prog 9 #[.pointer (some ⟨x.hb, 0, none⟩), .agg #[.int .i64 s.k, .int .i64 s.f, .int .u64 (s.m : Int)]] wb fun r w' => r = .returned (.tuple #[.int .i64 0, .int .i64 1]) ∧ Pq (⟨w0, x, w0.heap.size, w2.heap.size⟩ : Lz) (.slice ta T tc) rv (.slice sa M sc) th th vo lr l l w' ∧ ∀ d, wr.heap.size ≤ d → d < wb.heap.size → w'.heap[d]? = wb.heap[d]?) := hide (by
              have := pq_add9 P (unhide gb) s (unhide hfit).s0 (by have := unhide hz; have := unhide hN; omega)
              rw [show Hd.numV l s = 0 from if_neg (by rw [hg]; decide), show Hd.numE s = 1 from if_neg (by rw [hg]; decide), show Hd.addS l s = l from if_neg (fun h => by rw [hg] at h; exact absurd h.1 (by decide))] at this
              exact this)
            have CG : Hid (∀ y, Calls Tryz.prog 10 #[.agg #[.int .i64 s.k, .int .i64 s.f, .int .u64 (s.m : Int)]] y fun e w' => e = .returned (.bool false) ∧ G y w') := hide fun y => by
              have := Hd.rgood_any s.k s.f s.m y (unhide hfit).s0.m0
              rw [show Hd.goodB s.k s.f s.m = false from hg] at this
              exact this
            replace hg := hide hg
            go_wp2_with fail
            refine (unhide CD).mono ?_
            rintro e w5 ⟨rfl, P5, k5⟩
            have kb := k5 wr.heap.size (Nat.le_refl _) (World.block_lt_of_cell? wb _ x0)
            have y8 : w5.cell? ⟨wr.heap.size, 8, none⟩ = some (.int .i64 s.k) := (World.cell?_of_block (a := ⟨wr.heap.size, 8, none⟩) kb).trans x8
            have y9 : w5.cell? ⟨wr.heap.size, 9, none⟩ = some (.int .i64 s.f) := (World.cell?_of_block (a := ⟨wr.heap.size, 9, none⟩) kb).trans x9
            have y10 : w5.cell? ⟨wr.heap.size, 10, none⟩ = some (.int .u64 (s.m : Int)) := (World.cell?_of_block (a := ⟨wr.heap.size, 10, none⟩) kb).trans x10
            replace P5 := hide P5
            clear CD k5 kb x0 x1 x2 x3 x4 x5 x6 x7 x8 x9 x10
            go_wp2_with fail
            refine (unhide CG _).mono ?_
            rintro e w6 ⟨rfl, g6⟩
            have P6 := hide ((unhide P5).gr g6)
            clear CG P5 g6 y8 y9 y10
            go_wp2_with fail
            go_roundw
            case rel => exact ⟨i + 1, T, th, vo, lr, l, ta, tc, sa, M, sc, rv, rfl, rfl, by first | rw [hwi1, unhide hi1] | rw [unhide hi1], hide (by have := unhide hz; omega), P6⟩
            case measure => first | (rw [hwi1]; exact unhide DC) | exact unhide DC
      as_aux_lemma =>
        have e3 : (op == 0) = false := by simpa using h0
        have e4 : (op == 6) = false := by simpa using h6
        have CP : Hid (Calls Tryz.prog 11 #[.pointer (some ⟨x.hb, 0, none⟩), .slice ta T tc, .agg #[.int .i64 op, .int .i64 sh, .int .i64 n, .int .i64 K, .int .i64 F, .int .i64 V, .bool ad, .bool raw, .int .i64 s.k, .int .i64 s.f, .int .u64 (s.m : Int)]] wb fun e w' => e = .returned (.bool true) ∧ ∃ ts', Pq (⟨w0, x, w0.heap.size, w2.heap.size⟩ : Lz) (.slice ta T tc) rv (.slice sa M sc) ts' ts' vo lr l l w') := hide (played_any (L := (⟨w0, x, w0.heap.size, w2.heap.size⟩ : Lz)) (Nat.le_refl _) (hide ((unhide P).gr (unhide gb))) (unhide hz).1 (by have := unhide hz; have := unhide hN; omega) ⟨op, sh, n, K, F, V, ad, raw, s⟩ (unhide hfit) (by show 1 ≤ op; omega) (by show op ≤ 5; omega))
        clear h0 h6 hA
        go_wp2_with fail
        refine (unhide CP).mono ?_
        rintro e w5 ⟨rfl, ts', P5⟩
        have hT' : ts'.length = T := by
          obtain ⟨a', c', e'⟩ := row_val P5.lq.tr
          simp at e'
          omega
        replace hT' := hide hT'
        replace P5 := hide P5
        clear CP x0 x1 x2 x3 x4 x5 x6 x7 x8 x9 x10
        go_wp2_with fail
        go_roundw
        case rel => exact ⟨i + 1, T, ts', vo, lr, l, ta, tc, sa, M, sc, rv, rfl, rfl, by first | rw [hwi1, unhide hi1] | rw [unhide hi1], hide (by have := unhide hz; have := unhide hT'; omega), P5⟩
        case measure => first | (rw [hwi1]; exact unhide DC) | exact unhide DC
end Go.Proofs.YtahhkehijokhnaaGreatDoor

/- HeapPlays of package gantlinelaw14: for every list of calls the law answers true; nothing that was there is turned. -/
namespace Go.Proofs.YtahhkehijokhnaaGreatDoor
set_option maxRecDepth 100000
open Go.ChangeShapes Go.WideShapes Go.ChangeAt Go.RowKit Go.Maps Go.Deep

set_option maxHeartbeats 1000000 in
set_option maxRecDepth 100000 in
theorem plays14_long (w : World) (a0 : Option Addr) (N c0 : Nat) (hN : 60 < N) (CA : Hid (Calls Tryz.prog 5 #[] w fun e w' => e = .returned (.bool true) ∧ G w w')) :
    Calls Tryz.prog 3 #[.slice a0 N c0] w fun e w' => e = .returned (.bool true) ∧ G w w' := by
  have d8 : decide ((60 : Int) < (N : Int)) = true := by simp; omega
  have d8' : decide (60 < N) = true := by simp; omega
  replace hN := hide hN
  go_enter Tryz.func3, Tryz.ntmps3
  go_wp2_with fail
  refine (unhide CA).mono ?_
  rintro e w0 ⟨rfl, g0⟩
  replace g0 := hide g0
  clear CA
  go_wp2_with fail
  go_ret
  exact ⟨rfl, unhide g0⟩
theorem walk_HeapPlays (a0 : Option Addr) (n0 c0 : Nat) (l0 : List Ac) (w : World) (hA : IsActs w a0 n0 l0) (ht : Tab w) : Calls Tryz.prog 3 #[.slice a0 n0 c0] w fun e w' => e = .returned (.bool true) ∧ Below w.heap.size w w' := by
  by_cases h8 : 60 < n0
  · exact plays14_long w a0 n0 c0 h8 (hide (awake14 w ht))
  exact plays14 w ht a0 n0 c0 l0 hA (by omega) (hide (awake14 w ht))

set_option maxRecDepth 100000 in
theorem lifted_HeapPlays (os : Os) (started : os.Started) (H : Type) (enc : TypeId × Value → H) :
    ReturnsInHanded {} Tryz.checked os 3 .any (fun w args => (Rows.heapPlaysSpec.pre enc Tryz.prog Tryz.f3 [] false w args ∧ laidMetH Tryz.prog laidTab w) ∧ sizedMet enc Tryz.prog Tryz.f3 (OpenSpec.ofChange Rows.heapPlaysSpec) false w args)
      (Rows.heapPlaysSpec.post enc Tryz.prog Tryz.f3 false true false false) := by
  refine returnsInHanded_of_change_and (C := Tryz.checked) (X := fun w _ => laidMetH Tryz.prog laidTab w) (fun _ _ _ hh h => h.of_heap hh) own started (by kernel_rfl) Tryz.func3
    (ChangeSpec.witness_shaped (enc := enc) (C := Tryz.checked) (os := os) (X := fun w _ => laidMetH Tryz.prog laidTab w) false (World.doorLaid Tryz.prog 400 os) #[.slice none 0 0] 8 rfl (World.shaped_of_RefB (by kernel_rfl) (by kernel_rfl)) (by kernel_rfl) (by kernel_rfl) (by kernel_rfl) (door_met os _)) ?_
  intro W base args ds gs before hval0 hW _ _ hL _
  have hval : ∀ (j : Nat) t v, Tryz.f3.params[j]? = some t → args[j]? = some v → Value.okWide Tryz.prog W .any base t v := hval0
  have hW' := hW
  obtain ⟨p, q, hA0, hV, rfl, hfz, hnd⟩ := hW
  have hA : DataW.TrodAll enc Tryz.prog W 0 (fun _ => true) true Tryz.f3.params.toList args.toList ds p := hA0
  rw [Tryz.params3] at hA hval
  obtain ⟨v0, vs0, d0, ds0, p0, q0, hargs, rfl, rfl, h0, r0⟩ := trodAll_cons hA
  obtain ⟨rfl, rfl, rfl⟩ := trodAll_nil r0
  obtain rfl : args = #[v0] := by cases args; simp_all
  obtain ⟨rfl, rfl⟩ := trodVars_none hV
  have k0 := h0
  have lt0 : ∀ x ∈ p0, x.block < W.heap.size := by obtain ⟨m, hm⟩ := k0; exact DataW.trod_lt m _ _ _ hm
  obtain ⟨a0, n0, c0, l0, rfl, w0⟩ := open_acts (hval 0 22 v0 rfl rfl) h0
  clear hA0 hval0
  refine (walk_HeapPlays a0 n0 c0 l0 W w0 (tab_of_laid hL)).mono fun e W' ⟨he, hg⟩ => ?_
  subst he
  exact ⟨_, rfl, _, _, _, [], _, [], hW', trodAll_mk1 (shut_bool Tryz.underlying4 _), (trodAll_cons_mk (Below.trod laidOut (by kernel_rfl) (of_decide_eq_true (by kernel_rfl)) k0 hg lt0) trodAll_mk0), rfl, hg.frame _, fun h => by cases h⟩

theorem row_HeapPlays : Rows.HeapPlaysSaid :=
  OpenClaim.holds_of_wide 3 Tryz.f3 rfl rfl rfl rfl rfl rfl rfl ⟨rfl, rfl, rfl, rfl, rfl⟩ rfl rfl rfl rfl rfl (by kernel_rfl) Tryz.func3 (by kernel_rfl)
    (of_decide_eq_true (by kernel_rfl)) (by unfold Func.isWrapper; first | (rw [if_pos (by decide +kernel)]; kernel_rfl) | (rw [if_neg (by decide +kernel)]; exact ⟨rfl, rfl⟩))
    (fun os started H enc _ => lifted_HeapPlays os started H enc)

/-- THE STATEMENT. -/
theorem card_HeapPlays : Rows.HeapPlaysCardSaid :=
  Claim7.holds_tied_plain_at .later [] [.data] true (true, "f4b2c8185e13addf611de16ddf12eace1bcb861c5f38f323c5c0db1796eb6a1d") false
    row_HeapPlays (fun _ h => by cases h) (by kernel_rfl) (fun _ h => by cases h) heapPlays_row_tie rfl ⟨rfl, rfl⟩ (by kernel_rfl) rfl
    (fun f fn hf hfn => by
      obtain rfl : f = 3 := Option.some.inj ((show Tryz.prog.funcNamed "gantline/gantlinelaw14.HeapPlays" = some 3 by kernel_rfl).symm.trans hf) |>.symm
      obtain rfl : fn = Tryz.f3 := (Option.some.inj (Tryz.func3.symm.trans hfn)).symm
      exact ⟨by kernel_rfl, fun j t ht => by
        rw [Tryz.params3] at ht
        have hm : t ∈ [22] := by simpa using Array.mem_of_getElem? ht
        have hall : ([22].all fun u => !Tryz.prog.wantsStandIn u) = true := by kernel_rfl
        exact (show Tryz.prog.wantsStandIn t = false by simpa using List.all_eq_true.1 hall t hm)⟩)
    (by kernel_rfl)
#print axioms card_HeapPlays
end Go.Proofs.YtahhkehijokhnaaGreatDoor
