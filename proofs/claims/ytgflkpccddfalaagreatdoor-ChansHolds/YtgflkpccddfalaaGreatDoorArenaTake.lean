/- The contract of an Arena's Take. -/
import Derived.Test.YtgflkpccddfalaaGreatDoorArenaSweep
namespace Go.Proofs.YtgflkpccddfalaaGreatDoor
set_option maxRecDepth 100000
open Go.RowKit Go.Maps Go.ChangeShapes Go.WideShapes Go.ChangeAt

set_option maxHeartbeats 400000 in
theorem take_none (w : World) (p : Value) (s t m : Int)
    (C : Hid (Calls Tryz.prog 37 #[p, .int .i64 s] w fun e w' => e = .returned (.agg #[.int .i64 (-1), .int .u64 t, .int .u64 m]) ∧ G w w')) :
    Calls Tryz.prog 92 #[p, .int .i64 s] w fun e w' => e = .returned (.tuple #[.int .i64 0, .int .i64 4]) ∧ G w w' := by
  go_enter Tryz.func92, Tryz.ntmps92
  go_wp2_with fail
  refine (unhide C).mono ?_
  rintro e w1 ⟨rfl, g⟩
  replace g := hide g
  go_wp2_with fail
  go_ret2
  exact ⟨rfl, (unhide g).more _⟩

set_option maxHeartbeats 400000 in
theorem take_full (w : World) (p : Value) (s t m c : Int) (hc : (c == -1) = false) (ht : (t == gf c) = true)
    (C : Hid (Calls Tryz.prog 37 #[p, .int .i64 s] w fun e w' => e = .returned (.agg #[.int .i64 c, .int .u64 t, .int .u64 m]) ∧ G w w')) :
    Calls Tryz.prog 92 #[p, .int .i64 s] w fun e w' => e = .returned (.tuple #[.int .i64 0, .int .i64 5]) ∧ G w w' := by
  go_enter Tryz.func92, Tryz.ntmps92
  go_wp2_with fail
  refine (unhide C).mono ?_
  rintro e w1 ⟨rfl, g⟩
  replace g := hide g
  go_wp2_with fail
  go_quiet ((go_at_call 101; exact Calls.quiet_of_same (full_any _ _)))
  go_wp2_with fail
  go_ret2
  exact ⟨rfl, below_drewN ((unhide g).more _) _⟩

/-- clear of a part of a row, as one step of a region that draws its order. -/
theorem step_clear_at {P : Program} {ops : Array Oper} {o : Oper} {a : Act} {w : World} {K : Act → World → Prop} {Q : Exit → Act → World → Prop} {E : Prop}
    (hg : o.guard = none) (s : Operand) (t : TypeId) (hop : o.op = Op.call { callee := Callee.builtin Builtin.clear, args := #[s], argTypes := #[t] })
    (e : TypeId) (z : Value) (h1 : P.underlying t = some (.slice e)) (hv : ∀ w, (zeroValue e).run P w = .ok z w) (hz : z.cells = #[z]) (h1c : z.oneCell' = true)
    (b off n c : Nat) (hs : a.eval s = .slice (some ⟨b, off, none⟩) n c) (hn : 0 < n) (hc : ∀ j, j < n → (w.cell? ⟨b, off + j, none⟩).isSome = true) (hf : ∀ j, j < n → w.frozen? ⟨b, off + j, none⟩ = false)
    (hK : K (a.put o.dst (.tuple #[])) (w.setCells b off (List.replicate n z))) :
    if Region.wanted o (yielded ops a.tmps) = true then Oper.wp P o a w K Q else E := by
  have hw : Region.wanted o (yielded ops a.tmps) = true := by simp [Region.wanted, hg]
  rw [if_pos hw]
  have hrun := Lib.run_clear_slice (P := P) w t e o.type z h1 hv hz h1c b off n c hn hc hf
  unfold Oper.wp
  simp [execOp, hop, resolve, invoke, builtin, hs, hrun, Result.andThen]
  exact hK

theorem zero_i64 (w : World) : (zeroValue 2).run Tryz.prog w = .ok (.int .i64 0) w := by kernel_rfl
theorem slice_bd (k v cw : Nat) (h : k + v ≤ cw) (h2 : k + v ≤ 32768) (hv : 0 < v) : (k : Int) + (v : Int) ≤ (cw : Int) ∧ (k : Int) ≤ (k : Int) + (v : Int) ∧ wrap64 ((k : Int) + (v : Int)) = (k : Int) + (v : Int) ∧
    IntKind.i64.wrap ((k : Int) + (v : Int)) = (k : Int) + (v : Int) ∧ ((k : Int) + (v : Int)).toNat = k + v ∧ (0 : Int) ≤ (k : Int) + (v : Int) ∧ ¬ cw = k ∧ ¬ cw ≤ k ∧ k + v - k = v := by
  refine ⟨by omega, by omega, by unfold wrap64; omega, by rw [IntKind.wrap_i64]; omega, by omega, by omega, by omega, by omega, by omega⟩

theorem setCells_drew (b : Nat) : ∀ (vs : List Value) (o : Nat) (w : World), w.drew.setCells b o vs = (w.setCells b o vs).drew
  | [], _, _ => rfl
  | v :: r, o, w => by
    rw [World.setCells, World.setCells]
    exact setCells_drew b r (o + 1) (w.setCell ⟨b, o, none⟩ v)

set_option maxHeartbeats 2000000 in
theorem take_some (w : World) (ab wb sb n cw cs nw s q k v y : Nat) (t : Nat) (m c : Int) (hs : s < n) (hc : (c == -1) = false) (ht : ((t : Int) == gf c) = false)
    (c0 : Hid (w.cell? ⟨ab, 0, none⟩ = some (.slice (some ⟨wb, 0, none⟩) nw cw))) (c1 : Hid (w.cell? ⟨ab, 1, none⟩ = some (.slice (some ⟨sb, 0, none⟩) n cs)))
    (e1 : Hid (w.cell? ⟨sb, s * 3 + 1, none⟩ = some (.int .u64 (t : Int)))) (f : Hid (w.frozen? ⟨sb, s * 3 + 1, none⟩ = false))
    (hv : Hid (gw c = (v : Int))) (hk : Hid (ga (s : Int) (q : Int) c = (k : Int))) (hkv : k + v ≤ cw) (h32 : k + v ≤ 32768) (hv0 : 0 < v)
    (hcl : Hid (∀ j, j < v → (w.cell? ⟨wb, k + j, none⟩).isSome = true)) (hf : Hid (∀ j, j < v → w.frozen? ⟨wb, k + j, none⟩ = false)) (hwb : wb ≠ sb) (hlw : wb < w.heap.size)
    (C : Hid (Calls Tryz.prog 37 #[.pointer (some ⟨ab, 0, none⟩), .int .i64 (s : Int)] w fun e w' => e = .returned (.agg #[.int .i64 c, .int .u64 t, .int .u64 m]) ∧ G w w'))
    (F : Hid (∀ w1, G w w1 → Calls Tryz.prog 102 #[.int .u64 (t : Int)] w1 fun e w' => e = .returned (.int .i64 (q : Int)) ∧ w' = w1))
    (Wi : Hid (∀ w, Calls Tryz.prog 82 #[.int .u64 (t : Int), .int .i64 (q : Int), .int .i64 1, .int .u64 1] w fun e w' => e = .returned (.int .u64 (y : Int)) ∧ w' = w)) :
    Calls Tryz.prog 92 #[.pointer (some ⟨ab, 0, none⟩), .int .i64 (s : Int)] w fun e w' => e = .returned (.tuple #[.int .i64 (k : Int), .int .i64 0]) ∧
      ∃ w1, G w w1 ∧ G ((w1.setCell ⟨sb, s * 3 + 1, none⟩ (.int .u64 (y : Int))).setCells wb k (List.replicate v (.int .i64 0))) w' := by
  go_enter Tryz.func92, Tryz.ntmps92
  go_wp2_with fail
  refine (unhide C).mono ?_
  rintro e w1 ⟨rfl, g⟩
  have d0 := G.cell g (unhide c0)
  have d1 := G.cell g (unhide c1)
  have x1 := G.cell g (unhide e1)
  have f1 := (World.frozen?_of_block (a := ⟨sb, s * 3 + 1, none⟩) (g.block sb (World.block_lt_of_cell? _ _ (unhide e1)))).trans (unhide f)
  have l1 := World.block_lt_of_cell? _ _ d1
  have l2 := World.block_lt_of_cell? _ _ x1
  have HC : Hid (∀ j, j < v → (((w1.alloc (.cells #[.int .i64 c, .int .u64 t, .int .u64 m] 90)).setCell ⟨sb, s * 3 + 1, none⟩ (.int .u64 (y : Int))).cell? ⟨wb, k + j, none⟩).isSome = true) := hide fun j hj => by
    rw [cell_other _ (Or.inl hwb), World.cell?_of_block ((G.alloc w1 _).block wb (Nat.lt_of_lt_of_le hlw g.size)), World.cell?_of_block (g.block wb hlw)]
    exact unhide hcl j hj
  have HF : Hid (∀ j, j < v → ((w1.alloc (.cells #[.int .i64 c, .int .u64 t, .int .u64 m] 90)).setCell ⟨sb, s * 3 + 1, none⟩ (.int .u64 (y : Int))).frozen? ⟨wb, k + j, none⟩ = false) := hide fun j hj => by
    rw [World.frozen?_setCell, World.frozen?_of_block ((G.alloc w1 _).block wb (Nat.lt_of_lt_of_le hlw g.size)), World.frozen?_of_block (g.block wb hlw)]
    exact unhide hf j hj
  replace g := hide g
  go_wp2_with fail
  go_quiet ((go_at_call 101; exact Calls.quiet_of_same (full_any _ _)))
  go_wp2_with fail
  refine (unhide F _ (below_drewN ((unhide g).more _) _)).mono ?_
  rintro e w2 ⟨rfl, rfl⟩
  go_wp2_with fail
  go_region_with ((go_at_call 82; refine (unhide Wi _).mono ?_; rintro e w' ⟨rfl, rfl⟩))
  all_goals
    go_wp2_with fail
    refine (addr_any _ _ _ _).mono ?_
    rw [unhide hk]
    rintro e w2 ⟨rfl, rfl⟩
    obtain ⟨b1, b2, b3, b4, b5, b6, b7, b8, b9⟩ := slice_bd k v cw hkv h32 hv0
    go_wp2_with fail
    go_region_law ((first
      | (refine step_clear_at rfl (.tmp 50) 31 rfl 2 (.int .i64 0) Tryz.underlying31 zero_i64 rfl rfl wb k v (cw - k) (by simp [Act.eval, Act.put]) hv0 (unhide HC) (unhide HF) ?_)
      | (go_simp; go_wp2_with ((go_at_call 62; refine (words_any _ _).mono ?_; rw [unhide hv]; rintro e w' ⟨rfl, rfl⟩)))))
    all_goals
      go_wp2_with fail
      go_ret2
      refine ⟨rfl, (w1.alloc (.cells #[.int .i64 c, .int .u64 t, .int .u64 m] 90)).drewN (nq + 1), below_drewN ((unhide g).more _) _, ?_⟩
      rw [setCells_drew]
      exact (G.refl _).drew

end Go.Proofs.YtgflkpccddfalaaGreatDoor
