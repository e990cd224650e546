/- FreshSends: an object that a select may send, that a closure caught, a call was handed, a global got, is not own any more; of another one the barrier may be left out. No condition. -/
import Derived.Test.YtiangegoglfpeaaDoorFrSend2
import Derived.Test.YtiangegoglfpeaaDoorCodeOpen
namespace Go.Proofs.YtiangegoglfpeaaDoor
set_option maxRecDepth 100000
open Go.RowKit Go.Maps Go.ChangeShapes Go.WideShapes Go.ChangeAt Go.Deep

set_option maxHeartbeats 1000000 in
theorem sends_t (how : Nat) (hh : how < 6) (W : World) (ht : TabZ W) (hw : RowsAt W) : Calls Tryd.prog 6 #[.int .i64 (how : Int), .bool true] W fun e w' => e = .returned (.bool true) ∧ G W w' := by
  have AW := hide (awake11 W ht hw)
  have TT : Hid (∀ x, G W x → TabZ x ∧ RowsAt x) := hide fun x g => ⟨ht.g g, hw.g g⟩
  clear ht hw
  have h0 : ¬ (how : Int) < 0 := by omega
  have h00 : (0 : Int) ≤ (how : Int) := by omega
  have h5 : ¬ (5 : Int) < (how : Int) := by omega
  have h6 : (how : Int) < 6 := by omega
  have HH := hide hh
  obtain ⟨ins, hins⟩ : ∃ ins, (sdI (sdV true))[how]? = some ins := ⟨_, List.getElem?_eq_getElem (show how < 6 from hh)⟩
  replace hins := hide hins
  obtain ⟨iop, ia, ibb, icc, idd⟩ := ins
  clear hh
  go_enter Tryd.func6, Tryd.ntmps6
  go_wp2_with fail
  refine (unhide AW).mono ?_
  rintro e w0 ⟨rfl, g0⟩
  replace g0 := hide g0
  clear AW
  go_upto_region 9 with fail
  obtain ⟨X3, hX3⟩ : ∃ X3, X3 = (((w0.alloc (.cells #[.bool true] 4)).alloc (.cells #[.int .i64 0, .int .i64 1, .int .u64 1] 64)).alloc (.cells #[.int .i64 1, .int .i64 2, .int .i64 3, .int .i64 2] 66)).alloc (.cells #[.slice (some ⟨w0.heap.size + 1, 0, none⟩) 1 1, .slice (some ⟨w0.heap.size, 0, none⟩) 1 1, .slice none 0 0, .slice (some ⟨w0.heap.size + 1 + 1, 0, none⟩) 1 1, .slice none 0 0, .int .i64 0] 29) := ⟨_, rfl⟩
  rw [← hX3]
  have hXL : X3 = allocs w0 [.cells #[.bool true] 4, .cells #[.int .i64 0, .int .i64 1, .int .u64 1] 64, .cells #[.int .i64 1, .int .i64 2, .int .i64 3, .int .i64 2] 66, .cells #[.slice (some ⟨w0.heap.size + 1, 0, none⟩) 1 1, .slice (some ⟨w0.heap.size, 0, none⟩) 1 1, .slice none 0 0, .slice (some ⟨w0.heap.size + 1 + 1, 0, none⟩) 1 1, .slice none 0 0, .int .i64 0] 29] := hX3
  clear hX3
  have sX : X3.heap.size = w0.heap.size + 4 := by rw [hXL]; exact (allocs_G _ w0).2
  have gX : G w0 X3 := by rw [hXL]; exact (allocs_G _ w0).1
  have e3 : X3.heap[w0.heap.size + 3]? = some (.cells #[.slice (some ⟨w0.heap.size + 1, 0, none⟩) 1 1, .slice (some ⟨w0.heap.size, 0, none⟩) 1 1, .slice none 0 0, .slice (some ⟨w0.heap.size + 1 + 1, 0, none⟩) 1 1, .slice none 0 0, .int .i64 0] 29) := by rw [hXL]; exact allocs_get _ w0 3 _ rfl
  have e0 : X3.heap[w0.heap.size]? = some (.cells #[.bool true] 4) := by rw [hXL]; exact allocs_get _ w0 0 _ rfl
  have e1 : X3.heap[w0.heap.size + 1]? = some (.cells #[.int .i64 0, .int .i64 1, .int .u64 1] 64) := by rw [hXL]; exact allocs_get _ w0 1 _ rfl
  have e2 : X3.heap[w0.heap.size + 2]? = some (.cells #[.int .i64 1, .int .i64 2, .int .i64 3, .int .i64 2] 66) := by rw [hXL]; exact allocs_get _ w0 2 _ rfl
  have c4 : X3.cell? ⟨w0.heap.size + 1 + 1 + 1, 4, none⟩ = some (.slice none 0 0) := by rw [cell_of_row X3 (w0.heap.size + 3) _ _ _ _ e3]; rfl
  have f4 : X3.frozen? ⟨w0.heap.size + 1 + 1 + 1, 4, none⟩ = false := fro_new X3 (w0.heap.size + 3) _ _ e3 4
  have l3 : w0.heap.size + 1 + 1 + 1 < X3.heap.size := by omega
  have l3a : w0.heap.size + 1 + 1 + 1 < X3.heap.size + 1 := by omega
  have l3b : w0.heap.size + 1 + 1 + 1 < X3.heap.size + 1 + 1 := by omega
  clear hXL
  replace sX := hide sX
  replace gX := hide gX
  replace e0 := hide e0
  replace e1 := hide e1
  replace e2 := hide e2
  replace e3 := hide e3
  go_upto_region 11 with fail
  obtain ⟨Y7, hY7⟩ : ∃ Y7, Y7 = ((((X3.setCell ⟨w0.heap.size + 1 + 1 + 1, 4, none⟩ (.slice (some ⟨X3.heap.size + 1 + 1, 0, none⟩) 2 2)).alloc (.cells #[.bool true] 4)).alloc (.cells #[.bool true] 4)).alloc (.cells #[.int .i64 1, .int .i64 0, .int .i64 1, .int .i64 0, .slice (some ⟨X3.heap.size, 0, none⟩) 1 1, .slice none 0 0, .slice none 0 0, .int .i64 0, .int .i64 1, .int .i64 1, .int .i64 0, .slice (some ⟨X3.heap.size + 1, 0, none⟩) 1 1, .slice none 0 0, .slice none 0 0] 33)).alloc (.cells #[.int .i64 41, .int .i64 0, .int .i64 1, .int .i64 0, .int .i64 0, .int .i64 36, .int .i64 4, .int .i64 1, .int .i64 3, .int .i64 0, .int .i64 20, .int .i64 (-1), .int .i64 0, .int .i64 3, .int .i64 0, .int .i64 35, .int .i64 0, .int .i64 3, .int .i64 0, .int .i64 0, .int .i64 38, .int .i64 2, .int .i64 3, .int .i64 0, .int .i64 0, .int .i64 23, .int .i64 0, .int .i64 3, .int .i64 0, .int .i64 0] 37) := ⟨_, rfl⟩
  rw [← hY7]
  obtain ⟨X4, hX4⟩ : ∃ X4, X4 = (X3.setCell ⟨w0.heap.size + 1 + 1 + 1, 4, none⟩ (.slice (some ⟨X3.heap.size + 1 + 1, 0, none⟩) 2 2)) := ⟨_, rfl⟩
  rw [← hX4] at hY7
  have hYL : Y7 = allocs X4 [.cells #[.bool true] 4, .cells #[.bool true] 4, .cells #[.int .i64 1, .int .i64 0, .int .i64 1, .int .i64 0, .slice (some ⟨X3.heap.size, 0, none⟩) 1 1, .slice none 0 0, .slice none 0 0, .int .i64 0, .int .i64 1, .int .i64 1, .int .i64 0, .slice (some ⟨X3.heap.size + 1, 0, none⟩) 1 1, .slice none 0 0, .slice none 0 0] 33, .cells #[.int .i64 41, .int .i64 0, .int .i64 1, .int .i64 0, .int .i64 0, .int .i64 36, .int .i64 4, .int .i64 1, .int .i64 3, .int .i64 0, .int .i64 20, .int .i64 (-1), .int .i64 0, .int .i64 3, .int .i64 0, .int .i64 35, .int .i64 0, .int .i64 3, .int .i64 0, .int .i64 0, .int .i64 38, .int .i64 2, .int .i64 3, .int .i64 0, .int .i64 0, .int .i64 23, .int .i64 0, .int .i64 3, .int .i64 0, .int .i64 0] 37] := hY7
  clear hY7
  have s4 : X4.heap.size = w0.heap.size + 4 := by rw [hX4, World.size_setCell]; exact unhide sX
  have sY : Y7.heap.size = w0.heap.size + 8 := by rw [hYL]; exact (allocs_G _ X4).2.trans (by rw [s4]; rfl)
  have gY : G X4 Y7 := by rw [hYL]; exact (allocs_G _ X4).1
  have k4 : ∀ k, k ≠ w0.heap.size + 3 → X4.heap[k]? = X3.heap[k]? := fun k hk => by rw [hX4]; exact Below.heap_setCell _ _ _ _ hk
  have y4 : Y7.heap[w0.heap.size + 4]? = some (.cells #[.bool true] 4) := by have := allocs_get [.cells #[.bool true] 4, .cells #[.bool true] 4, .cells #[.int .i64 1, .int .i64 0, .int .i64 1, .int .i64 0, .slice (some ⟨X3.heap.size, 0, none⟩) 1 1, .slice none 0 0, .slice none 0 0, .int .i64 0, .int .i64 1, .int .i64 1, .int .i64 0, .slice (some ⟨X3.heap.size + 1, 0, none⟩) 1 1, .slice none 0 0, .slice none 0 0] 33, .cells #[.int .i64 41, .int .i64 0, .int .i64 1, .int .i64 0, .int .i64 0, .int .i64 36, .int .i64 4, .int .i64 1, .int .i64 3, .int .i64 0, .int .i64 20, .int .i64 (-1), .int .i64 0, .int .i64 3, .int .i64 0, .int .i64 35, .int .i64 0, .int .i64 3, .int .i64 0, .int .i64 0, .int .i64 38, .int .i64 2, .int .i64 3, .int .i64 0, .int .i64 0, .int .i64 23, .int .i64 0, .int .i64 3, .int .i64 0, .int .i64 0] 37] X4 0 _ rfl; rw [← hYL, s4] at this; exact this
  have y5 : Y7.heap[w0.heap.size + 5]? = some (.cells #[.bool true] 4) := by have := allocs_get [.cells #[.bool true] 4, .cells #[.bool true] 4, .cells #[.int .i64 1, .int .i64 0, .int .i64 1, .int .i64 0, .slice (some ⟨X3.heap.size, 0, none⟩) 1 1, .slice none 0 0, .slice none 0 0, .int .i64 0, .int .i64 1, .int .i64 1, .int .i64 0, .slice (some ⟨X3.heap.size + 1, 0, none⟩) 1 1, .slice none 0 0, .slice none 0 0] 33, .cells #[.int .i64 41, .int .i64 0, .int .i64 1, .int .i64 0, .int .i64 0, .int .i64 36, .int .i64 4, .int .i64 1, .int .i64 3, .int .i64 0, .int .i64 20, .int .i64 (-1), .int .i64 0, .int .i64 3, .int .i64 0, .int .i64 35, .int .i64 0, .int .i64 3, .int .i64 0, .int .i64 0, .int .i64 38, .int .i64 2, .int .i64 3, .int .i64 0, .int .i64 0, .int .i64 23, .int .i64 0, .int .i64 3, .int .i64 0, .int .i64 0] 37] X4 1 _ rfl; rw [← hYL, s4] at this; exact this
  have y6 : Y7.heap[w0.heap.size + 6]? = some (.cells (sdK14 X3.heap.size (X3.heap.size + 1)).toArray 33) := by have := allocs_get [.cells #[.bool true] 4, .cells #[.bool true] 4, .cells #[.int .i64 1, .int .i64 0, .int .i64 1, .int .i64 0, .slice (some ⟨X3.heap.size, 0, none⟩) 1 1, .slice none 0 0, .slice none 0 0, .int .i64 0, .int .i64 1, .int .i64 1, .int .i64 0, .slice (some ⟨X3.heap.size + 1, 0, none⟩) 1 1, .slice none 0 0, .slice none 0 0] 33, .cells #[.int .i64 41, .int .i64 0, .int .i64 1, .int .i64 0, .int .i64 0, .int .i64 36, .int .i64 4, .int .i64 1, .int .i64 3, .int .i64 0, .int .i64 20, .int .i64 (-1), .int .i64 0, .int .i64 3, .int .i64 0, .int .i64 35, .int .i64 0, .int .i64 3, .int .i64 0, .int .i64 0, .int .i64 38, .int .i64 2, .int .i64 3, .int .i64 0, .int .i64 0, .int .i64 23, .int .i64 0, .int .i64 3, .int .i64 0, .int .i64 0] 37] X4 2 _ rfl; rw [← hYL, s4] at this; exact this
  have y7 : Y7.heap[w0.heap.size + 7]? = some (.cells (insV (sdI (sdV true))).toArray 37) := by have := allocs_get [.cells #[.bool true] 4, .cells #[.bool true] 4, .cells #[.int .i64 1, .int .i64 0, .int .i64 1, .int .i64 0, .slice (some ⟨X3.heap.size, 0, none⟩) 1 1, .slice none 0 0, .slice none 0 0, .int .i64 0, .int .i64 1, .int .i64 1, .int .i64 0, .slice (some ⟨X3.heap.size + 1, 0, none⟩) 1 1, .slice none 0 0, .slice none 0 0] 33, .cells #[.int .i64 41, .int .i64 0, .int .i64 1, .int .i64 0, .int .i64 0, .int .i64 36, .int .i64 4, .int .i64 1, .int .i64 3, .int .i64 0, .int .i64 20, .int .i64 (-1), .int .i64 0, .int .i64 3, .int .i64 0, .int .i64 35, .int .i64 0, .int .i64 3, .int .i64 0, .int .i64 0, .int .i64 38, .int .i64 2, .int .i64 3, .int .i64 0, .int .i64 0, .int .i64 23, .int .i64 0, .int .i64 3, .int .i64 0, .int .i64 0] 37] X4 3 _ rfl; rw [← hYL, s4] at this; exact this
  obtain ⟨_, _, e, CI⟩ := rowI_get (rowIn_at Y7 (w0.heap.size + 7) (sdI (sdV true)) 6 6 rfl (by decide) y7) how _ (unhide hins)
  cases e
  obtain ⟨i0, i1, i2, i3, i4⟩ := CI Y7 (G.refl _)
  simp only [Nat.zero_add] at i0 i1 i2 i3 i4
  clear CI y7
  have ab : X3.heap.size + 1 + 1 + 1 = w0.heap.size + 7 := by have := unhide sX; omega
  rw [← ab] at i0 i1 i2 i3 i4
  have lb : X3.heap.size + 1 + 1 + 1 < Y7.heap.size := by omega
  have lba : X3.heap.size + 1 + 1 + 1 < Y7.heap.size + 1 := by omega
  have MB : Hid (∀ x, G Y7 x → x.cell? ⟨w0.heap.size + 1 + 1 + 1, 0, none⟩ = some (.slice (some ⟨w0.heap.size + 1, 0, none⟩) 1 1) ∧ x.cell? ⟨w0.heap.size + 1 + 1 + 1, 1, none⟩ = some (.slice (some ⟨w0.heap.size, 0, none⟩) 1 1) ∧ x.cell? ⟨w0.heap.size + 1 + 1 + 1, 2, none⟩ = some (.slice none 0 0) ∧ x.cell? ⟨w0.heap.size + 1 + 1 + 1, 3, none⟩ = some (.slice (some ⟨w0.heap.size + 1 + 1, 0, none⟩) 1 1) ∧ x.cell? ⟨w0.heap.size + 1 + 1 + 1, 4, none⟩ = some (.slice (some ⟨X3.heap.size + 1 + 1, 0, none⟩) 2 2) ∧ x.cell? ⟨w0.heap.size + 1 + 1 + 1, 5, none⟩ = some (.int .i64 0)) := hide fun x g => by
    have q : ∀ i u, (#[.slice (some ⟨w0.heap.size + 1, 0, none⟩) 1 1, .slice (some ⟨w0.heap.size, 0, none⟩) 1 1, .slice none 0 0, .slice (some ⟨w0.heap.size + 1 + 1, 0, none⟩) 1 1, .slice none 0 0, .int .i64 0] : Array Value)[i]? = some u → i ≠ 4 → x.cell? ⟨w0.heap.size + 3, i, none⟩ = some u := fun i u hu hi => (gY.trans g).cell (by rw [hX4]; exact (cell_other _ (Or.inr hi)).trans (by rw [cell_of_row X3 (w0.heap.size + 3) _ _ _ _ (unhide e3)]; exact hu))
    exact ⟨q 0 _ rfl (by decide), q 1 _ rfl (by decide), q 2 _ rfl (by decide), q 3 _ rfl (by decide), (gY.trans g).cell (by rw [hX4]; exact cell_same _ c4), q 5 _ rfl (by decide)⟩
  have MF : Hid (Y7.frozen? ⟨w0.heap.size + 1 + 1 + 1, 4, none⟩ = false) := hide ((World.frozen?_of_block (a := ⟨w0.heap.size + 3, 4, none⟩) (gY.block (w0.heap.size + 3) (by omega))).trans (by rw [hX4]; exact (World.frozen?_setCell _ _ _ _).trans f4))
  have KY : Hid (∀ k, k < w0.heap.size + 4 → k ≠ w0.heap.size + 3 → Y7.heap[k]? = X3.heap[k]?) := hide fun k hk hne => (gY.block k (by omega)).trans (k4 k hne)
  have OY : Hid (Y7.os = w0.os ∧ Y7.tape = w0.tape ∧ Y7.output = w0.output) := hide ⟨gY.os.trans (by rw [hX4]; exact (unhide gX).os), gY.tape.trans (by rw [hX4]; exact (unhide gX).tape), gY.output.trans (by rw [hX4]; exact (unhide gX).output)⟩
  replace sY := hide sY
  replace ab := hide ab
  replace y4 := hide y4
  replace y5 := hide y5
  replace y6 := hide y6
  clear hYL hX4 s4 gY k4 c4 f4 l3 l3a l3b
  go_upto_region 12 with fail
  obtain ⟨Z, hZ⟩ : ∃ Z, Z = ((Y7.alloc (.cells #[.bool true, .bool true, .bool true, .bool true, .bool true] 4)).alloc (.cells #[.int .i64 25, .int .i64 0, .int .i64 0, .int .i64 0, .int .i64 0, .int .i64 iop, .int .i64 ia, .int .i64 ibb, .int .i64 icc, .int .i64 idd, .int .i64 25, .int .i64 1, .int .i64 0, .int .i64 0, .int .i64 0, .int .i64 28, .int .i64 0, .int .i64 0, .int .i64 1, .int .i64 0, .int .i64 22, .int .i64 (-1), .int .i64 0, .int .i64 0, .int .i64 0] 37)).alloc (.cells #[.int .i64 0, .int .i64 0, .int .i64 5, .int .i64 0, .slice (some ⟨Y7.heap.size, 0, none⟩) 5 5, .slice (some ⟨Y7.heap.size + 1, 0, none⟩) 5 5, .slice none 0 0] 33) := ⟨_, rfl⟩
  rw [← hZ]
  have hZL : Z = allocs Y7 [.cells #[.bool true, .bool true, .bool true, .bool true, .bool true] 4, .cells #[.int .i64 25, .int .i64 0, .int .i64 0, .int .i64 0, .int .i64 0, .int .i64 iop, .int .i64 ia, .int .i64 ibb, .int .i64 icc, .int .i64 idd, .int .i64 25, .int .i64 1, .int .i64 0, .int .i64 0, .int .i64 0, .int .i64 28, .int .i64 0, .int .i64 0, .int .i64 1, .int .i64 0, .int .i64 22, .int .i64 (-1), .int .i64 0, .int .i64 0, .int .i64 0] 37, .cells #[.int .i64 0, .int .i64 0, .int .i64 5, .int .i64 0, .slice (some ⟨Y7.heap.size, 0, none⟩) 5 5, .slice (some ⟨Y7.heap.size + 1, 0, none⟩) 5 5, .slice none 0 0] 33] := hZ
  clear hZ i0 i1 i2 i3 i4 lb lba
  have sZ : Z.heap.size = w0.heap.size + 11 := by rw [hZL]; exact (allocs_G _ Y7).2.trans (by rw [unhide sY]; rfl)
  have gZ : G Y7 Z := by rw [hZL]; exact (allocs_G _ Y7).1
  have aC : w0.heap.size + 8 = Y7.heap.size := (unhide sY).symm
  have z8 : Z.heap[w0.heap.size + 8]? = some (.cells #[.bool true, .bool true, .bool true, .bool true, .bool true] 4) := by rw [aC, hZL]; exact allocs_get _ Y7 0 _ rfl
  have z9 : Z.heap[w0.heap.size + 9]? = some (.cells (insV (sdC ⟨iop, ia, ibb, icc, idd⟩)).toArray 37) := by rw [show w0.heap.size + 9 = Y7.heap.size + 1 by omega, hZL]; exact allocs_get _ Y7 1 _ rfl
  have z10 : Z.heap[w0.heap.size + 10]? = some (.cells #[.int .i64 0, .int .i64 0, .int .i64 5, .int .i64 0, .slice (some ⟨Y7.heap.size, 0, none⟩) 5 5, .slice (some ⟨Y7.heap.size + 1, 0, none⟩) 5 5, .slice none 0 0] 33) := by rw [show w0.heap.size + 10 = Y7.heap.size + 2 by omega, hZL]; exact allocs_get _ Y7 2 _ rfl
  clear hZL
  have sd : SdZ Z w0.heap.size (sdV true) ⟨iop, ia, ibb, icc, idd⟩ := by
    have kk : ∀ k, k < w0.heap.size + 4 → k ≠ w0.heap.size + 3 → Z.heap[k]? = X3.heap[k]? := fun k hk hne => (gZ.block k (by omega)).trans (unhide KY k hk hne)
    exact ⟨(kk _ (by omega) (by omega)).trans (unhide e0), (kk _ (by omega) (by omega)).trans (unhide e1), (kk _ (by omega) (by omega)).trans (unhide e2), (gZ.block _ (by omega)).trans (unhide y4), (gZ.block _ (by omega)).trans (unhide y5), z8, z9, by omega⟩
  have z6 : Z.heap[w0.heap.size + 6]? = some (.cells (sdK14 (w0.heap.size + 4) (w0.heap.size + 5)).toArray 33) := by
    have := (gZ.block (w0.heap.size + 6) (by omega)).trans (unhide y6)
    rw [unhide sX] at this
    exact this
  obtain ⟨g, cp, x1, hrun, t1, hg, hgl, hcp, hc⟩ := fn_app (k := w0.heap.size + 8) (i := w0.heap.size + 9) z6
  obtain ⟨m0, m1, m2, m3, m4, m5⟩ := unhide MB Z gZ
  have fz : ∀ i u, (#[.int .i64 0, .int .i64 0, .int .i64 5, .int .i64 0, .slice (some ⟨Y7.heap.size, 0, none⟩) 5 5, .slice (some ⟨Y7.heap.size + 1, 0, none⟩) 5 5, .slice none 0 0] : Array Value)[i]? = some u → Z.cell? ⟨w0.heap.size + 10, i, none⟩ = some u := fun i u hu => by rw [cell_of_row Z (w0.heap.size + 10) _ _ _ _ z10]; exact hu
  have aF : Y7.heap.size + 1 + 1 = w0.heap.size + 10 := by omega
  have n0 := fz 0 _ rfl
  have n1 := fz 1 _ rfl
  have n2 := fz 2 _ rfl
  have n3 := fz 3 _ rfl
  have n4 := fz 4 _ rfl
  have n5 := fz 5 _ rfl
  have n6 := fz 6 _ rfl
  have kx : ∀ k, k < Z.heap.size → k ≠ w0.heap.size + 6 → x1.heap[k]? = Z.heap[k]? := fun k hk hne => t1.block k hk hne
  have k3 := kx (w0.heap.size + 3) (by omega) (by omega)
  have k10 := kx (w0.heap.size + 10) (by omega) (by omega)
  have fx4 : x1.frozen? ⟨w0.heap.size + 1 + 1 + 1, 4, none⟩ = false := (World.frozen?_of_block (a := ⟨w0.heap.size + 3, 4, none⟩) (k3.trans (gZ.block (w0.heap.size + 3) (by omega)))).trans (unhide MF)
  have cx4 : x1.cell? ⟨w0.heap.size + 1 + 1 + 1, 4, none⟩ = some (.slice (some ⟨X3.heap.size + 1 + 1, 0, none⟩) 2 2) := (World.cell?_of_block (a := ⟨w0.heap.size + 3, 4, none⟩) k3).trans m4
  obtain ⟨Y, hY⟩ : ∃ Y, Y = x1.setCell ⟨w0.heap.size + 1 + 1 + 1, 4, none⟩ (.slice (some ⟨g, 0, none⟩) 3 cp) := ⟨_, rfl⟩
  have kY : ∀ k, k ≠ w0.heap.size + 3 → Y.heap[k]? = x1.heap[k]? := fun k hk => by rw [hY]; exact Below.heap_setCell _ _ _ _ hk
  have szY : Y.heap.size = x1.heap.size := by rw [hY, World.size_setCell]
  have t1s := t1.size
  obtain ⟨R1, R2, R3⟩ := sd.out (Y := Y) (g := g) (cp := cp) (fun k hk h6 h3 => (kY k h3).trans (kx k hk h6)) (fun j u hj => (World.cell?_of_block (a := ⟨g, j, none⟩) (kY g (by omega))).trans (hc j u hj)) (by omega)
  have GW : Hid (G W Y) := hide ((unhide g0).trans ⟨by rw [hY]; exact t1.os.trans (gZ.os.trans (unhide OY).1), by rw [hY]; exact t1.tape.trans (gZ.tape.trans (unhide OY).2.1), by rw [hY]; exact t1.output.trans (gZ.output.trans (unhide OY).2.2), by omega, fun k hk => (kY k (by omega)).trans ((kx k (by omega) (by omega)).trans ((gZ.block k (by omega)).trans ((unhide KY k (by omega) (by omega)).trans ((unhide gX).block k hk))))⟩)
  have SP := hide (sd_spare (s := w0.heap.size) (unhide HH) (unhide hins) R1 R2 R3 (unhide TT Y (unhide GW)).1 (unhide TT Y (unhide GW)).2)
  have mm : ∀ i u, i ≠ 4 → Z.cell? ⟨w0.heap.size + 1 + 1 + 1, i, none⟩ = some u → Y.cell? ⟨w0.heap.size + 1 + 1 + 1, i, none⟩ = some u := fun i u hi hu => by rw [hY]; exact (cell_other _ (Or.inr hi)).trans ((World.cell?_of_block (a := ⟨w0.heap.size + 3, i, none⟩) k3).trans hu)
  have nn : ∀ i u, Z.cell? ⟨w0.heap.size + 10, i, none⟩ = some u → Y.cell? ⟨w0.heap.size + 10, i, none⟩ = some u := fun i u hu => (World.cell?_of_block (a := ⟨w0.heap.size + 10, i, none⟩) ((kY (w0.heap.size + 10) (by omega)).trans k10)).trans hu
  have d0 := mm 0 _ (by decide) m0
  have d1 := mm 1 _ (by decide) m1
  have d2 := mm 2 _ (by decide) m2
  have d3 := mm 3 _ (by decide) m3
  have d5 := mm 5 _ (by decide) m5
  have d4 : Y.cell? ⟨w0.heap.size + 1 + 1 + 1, 4, none⟩ = some (.slice (some ⟨g, 0, none⟩) 3 cp) := by rw [hY]; exact cell_same _ cx4
  have p0 := nn 0 _ n0
  have p1 := nn 1 _ n1
  have p2 := nn 2 _ n2
  have p3 := nn 3 _ n3
  have p4 := nn 4 _ n4
  have p5 := nn 5 _ n5
  have p6 := nn 6 _ n6
  rw [← aF] at n0 n1 n2 n3 n4 n5 n6 p0 p1 p2 p3 p4 p5 p6
  rw [show w0.heap.size + 8 = Y7.heap.size from aC, show w0.heap.size + 9 = Y7.heap.size + 1 by omega] at hrun SP
  rw [show w0.heap.size + 6 = X3.heap.size + 1 + 1 by have := unhide sX; omega] at hrun
  clear m0 m1 m2 m3 m5 mm nn fz z8 z9 z10 z6 sd kx k3 k10 t1 hg hgl hcp hc kY szY t1s R1 R2 R3 aF aC sZ gZ
  go_upto_region 13 with (at_builtin; refine wpl_apx rfl (.tmp 55) (.tmp 57) 27 rfl _ _ rfl rfl _ _ hrun ?_)
  rw [← hY]
  clear hY hrun fx4 cx4 n0 n1 n2 n3 n4 n5 n6 m4
  go_wp2_with fail
  refine (unhide SP).mono ?_
  rintro e y9 ⟨rfl, g9⟩
  have GF := hide ((unhide GW).trans g9)
  clear SP g9 d0 d1 d2 d3 d4 d5 p0 p1 p2 p3 p4 p5 p6
  go_wp2_with fail
  go_ret
  exact ⟨rfl, unhide GF⟩
set_option maxHeartbeats 1000000 in
theorem sends_f (how : Nat) (hh : how < 6) (W : World) (ht : TabZ W) (hw : RowsAt W) : Calls Tryd.prog 6 #[.int .i64 (how : Int), .bool false] W fun e w' => e = .returned (.bool true) ∧ G W w' := by
  have AW := hide (awake11 W ht hw)
  have TT : Hid (∀ x, G W x → TabZ x ∧ RowsAt x) := hide fun x g => ⟨ht.g g, hw.g g⟩
  clear ht hw
  have h0 : ¬ (how : Int) < 0 := by omega
  have h00 : (0 : Int) ≤ (how : Int) := by omega
  have h5 : ¬ (5 : Int) < (how : Int) := by omega
  have h6 : (how : Int) < 6 := by omega
  have HH := hide hh
  obtain ⟨ins, hins⟩ : ∃ ins, (sdI (sdV false))[how]? = some ins := ⟨_, List.getElem?_eq_getElem (show how < 6 from hh)⟩
  replace hins := hide hins
  obtain ⟨iop, ia, ibb, icc, idd⟩ := ins
  clear hh
  go_enter Tryd.func6, Tryd.ntmps6
  go_wp2_with fail
  refine (unhide AW).mono ?_
  rintro e w0 ⟨rfl, g0⟩
  replace g0 := hide g0
  clear AW
  go_upto_region 9 with fail
  obtain ⟨X3, hX3⟩ : ∃ X3, X3 = (((w0.alloc (.cells #[.bool true] 4)).alloc (.cells #[.int .i64 0, .int .i64 1, .int .u64 1] 64)).alloc (.cells #[.int .i64 1, .int .i64 2, .int .i64 0, .int .i64 2] 66)).alloc (.cells #[.slice (some ⟨w0.heap.size + 1, 0, none⟩) 1 1, .slice (some ⟨w0.heap.size, 0, none⟩) 1 1, .slice none 0 0, .slice (some ⟨w0.heap.size + 1 + 1, 0, none⟩) 1 1, .slice none 0 0, .int .i64 0] 29) := ⟨_, rfl⟩
  rw [← hX3]
  have hXL : X3 = allocs w0 [.cells #[.bool true] 4, .cells #[.int .i64 0, .int .i64 1, .int .u64 1] 64, .cells #[.int .i64 1, .int .i64 2, .int .i64 0, .int .i64 2] 66, .cells #[.slice (some ⟨w0.heap.size + 1, 0, none⟩) 1 1, .slice (some ⟨w0.heap.size, 0, none⟩) 1 1, .slice none 0 0, .slice (some ⟨w0.heap.size + 1 + 1, 0, none⟩) 1 1, .slice none 0 0, .int .i64 0] 29] := hX3
  clear hX3
  have sX : X3.heap.size = w0.heap.size + 4 := by rw [hXL]; exact (allocs_G _ w0).2
  have gX : G w0 X3 := by rw [hXL]; exact (allocs_G _ w0).1
  have e3 : X3.heap[w0.heap.size + 3]? = some (.cells #[.slice (some ⟨w0.heap.size + 1, 0, none⟩) 1 1, .slice (some ⟨w0.heap.size, 0, none⟩) 1 1, .slice none 0 0, .slice (some ⟨w0.heap.size + 1 + 1, 0, none⟩) 1 1, .slice none 0 0, .int .i64 0] 29) := by rw [hXL]; exact allocs_get _ w0 3 _ rfl
  have e0 : X3.heap[w0.heap.size]? = some (.cells #[.bool true] 4) := by rw [hXL]; exact allocs_get _ w0 0 _ rfl
  have e1 : X3.heap[w0.heap.size + 1]? = some (.cells #[.int .i64 0, .int .i64 1, .int .u64 1] 64) := by rw [hXL]; exact allocs_get _ w0 1 _ rfl
  have e2 : X3.heap[w0.heap.size + 2]? = some (.cells #[.int .i64 1, .int .i64 2, .int .i64 0, .int .i64 2] 66) := by rw [hXL]; exact allocs_get _ w0 2 _ rfl
  have c4 : X3.cell? ⟨w0.heap.size + 1 + 1 + 1, 4, none⟩ = some (.slice none 0 0) := by rw [cell_of_row X3 (w0.heap.size + 3) _ _ _ _ e3]; rfl
  have f4 : X3.frozen? ⟨w0.heap.size + 1 + 1 + 1, 4, none⟩ = false := fro_new X3 (w0.heap.size + 3) _ _ e3 4
  have l3 : w0.heap.size + 1 + 1 + 1 < X3.heap.size := by omega
  have l3a : w0.heap.size + 1 + 1 + 1 < X3.heap.size + 1 := by omega
  have l3b : w0.heap.size + 1 + 1 + 1 < X3.heap.size + 1 + 1 := by omega
  clear hXL
  replace sX := hide sX
  replace gX := hide gX
  replace e0 := hide e0
  replace e1 := hide e1
  replace e2 := hide e2
  replace e3 := hide e3
  go_upto_region 11 with fail
  obtain ⟨Y7, hY7⟩ : ∃ Y7, Y7 = ((((X3.setCell ⟨w0.heap.size + 1 + 1 + 1, 4, none⟩ (.slice (some ⟨X3.heap.size + 1 + 1, 0, none⟩) 2 2)).alloc (.cells #[.bool true] 4)).alloc (.cells #[.bool true] 4)).alloc (.cells #[.int .i64 1, .int .i64 0, .int .i64 1, .int .i64 0, .slice (some ⟨X3.heap.size, 0, none⟩) 1 1, .slice none 0 0, .slice none 0 0, .int .i64 0, .int .i64 1, .int .i64 1, .int .i64 0, .slice (some ⟨X3.heap.size + 1, 0, none⟩) 1 1, .slice none 0 0, .slice none 0 0] 33)).alloc (.cells #[.int .i64 41, .int .i64 0, .int .i64 1, .int .i64 0, .int .i64 0, .int .i64 36, .int .i64 4, .int .i64 1, .int .i64 0, .int .i64 0, .int .i64 20, .int .i64 (-1), .int .i64 0, .int .i64 0, .int .i64 0, .int .i64 35, .int .i64 0, .int .i64 0, .int .i64 0, .int .i64 0, .int .i64 38, .int .i64 2, .int .i64 0, .int .i64 0, .int .i64 0, .int .i64 23, .int .i64 0, .int .i64 0, .int .i64 0, .int .i64 0] 37) := ⟨_, rfl⟩
  rw [← hY7]
  obtain ⟨X4, hX4⟩ : ∃ X4, X4 = (X3.setCell ⟨w0.heap.size + 1 + 1 + 1, 4, none⟩ (.slice (some ⟨X3.heap.size + 1 + 1, 0, none⟩) 2 2)) := ⟨_, rfl⟩
  rw [← hX4] at hY7
  have hYL : Y7 = allocs X4 [.cells #[.bool true] 4, .cells #[.bool true] 4, .cells #[.int .i64 1, .int .i64 0, .int .i64 1, .int .i64 0, .slice (some ⟨X3.heap.size, 0, none⟩) 1 1, .slice none 0 0, .slice none 0 0, .int .i64 0, .int .i64 1, .int .i64 1, .int .i64 0, .slice (some ⟨X3.heap.size + 1, 0, none⟩) 1 1, .slice none 0 0, .slice none 0 0] 33, .cells #[.int .i64 41, .int .i64 0, .int .i64 1, .int .i64 0, .int .i64 0, .int .i64 36, .int .i64 4, .int .i64 1, .int .i64 0, .int .i64 0, .int .i64 20, .int .i64 (-1), .int .i64 0, .int .i64 0, .int .i64 0, .int .i64 35, .int .i64 0, .int .i64 0, .int .i64 0, .int .i64 0, .int .i64 38, .int .i64 2, .int .i64 0, .int .i64 0, .int .i64 0, .int .i64 23, .int .i64 0, .int .i64 0, .int .i64 0, .int .i64 0] 37] := hY7
  clear hY7
  have s4 : X4.heap.size = w0.heap.size + 4 := by rw [hX4, World.size_setCell]; exact unhide sX
  have sY : Y7.heap.size = w0.heap.size + 8 := by rw [hYL]; exact (allocs_G _ X4).2.trans (by rw [s4]; rfl)
  have gY : G X4 Y7 := by rw [hYL]; exact (allocs_G _ X4).1
  have k4 : ∀ k, k ≠ w0.heap.size + 3 → X4.heap[k]? = X3.heap[k]? := fun k hk => by rw [hX4]; exact Below.heap_setCell _ _ _ _ hk
  have y4 : Y7.heap[w0.heap.size + 4]? = some (.cells #[.bool true] 4) := by have := allocs_get [.cells #[.bool true] 4, .cells #[.bool true] 4, .cells #[.int .i64 1, .int .i64 0, .int .i64 1, .int .i64 0, .slice (some ⟨X3.heap.size, 0, none⟩) 1 1, .slice none 0 0, .slice none 0 0, .int .i64 0, .int .i64 1, .int .i64 1, .int .i64 0, .slice (some ⟨X3.heap.size + 1, 0, none⟩) 1 1, .slice none 0 0, .slice none 0 0] 33, .cells #[.int .i64 41, .int .i64 0, .int .i64 1, .int .i64 0, .int .i64 0, .int .i64 36, .int .i64 4, .int .i64 1, .int .i64 0, .int .i64 0, .int .i64 20, .int .i64 (-1), .int .i64 0, .int .i64 0, .int .i64 0, .int .i64 35, .int .i64 0, .int .i64 0, .int .i64 0, .int .i64 0, .int .i64 38, .int .i64 2, .int .i64 0, .int .i64 0, .int .i64 0, .int .i64 23, .int .i64 0, .int .i64 0, .int .i64 0, .int .i64 0] 37] X4 0 _ rfl; rw [← hYL, s4] at this; exact this
  have y5 : Y7.heap[w0.heap.size + 5]? = some (.cells #[.bool true] 4) := by have := allocs_get [.cells #[.bool true] 4, .cells #[.bool true] 4, .cells #[.int .i64 1, .int .i64 0, .int .i64 1, .int .i64 0, .slice (some ⟨X3.heap.size, 0, none⟩) 1 1, .slice none 0 0, .slice none 0 0, .int .i64 0, .int .i64 1, .int .i64 1, .int .i64 0, .slice (some ⟨X3.heap.size + 1, 0, none⟩) 1 1, .slice none 0 0, .slice none 0 0] 33, .cells #[.int .i64 41, .int .i64 0, .int .i64 1, .int .i64 0, .int .i64 0, .int .i64 36, .int .i64 4, .int .i64 1, .int .i64 0, .int .i64 0, .int .i64 20, .int .i64 (-1), .int .i64 0, .int .i64 0, .int .i64 0, .int .i64 35, .int .i64 0, .int .i64 0, .int .i64 0, .int .i64 0, .int .i64 38, .int .i64 2, .int .i64 0, .int .i64 0, .int .i64 0, .int .i64 23, .int .i64 0, .int .i64 0, .int .i64 0, .int .i64 0] 37] X4 1 _ rfl; rw [← hYL, s4] at this; exact this
  have y6 : Y7.heap[w0.heap.size + 6]? = some (.cells (sdK14 X3.heap.size (X3.heap.size + 1)).toArray 33) := by have := allocs_get [.cells #[.bool true] 4, .cells #[.bool true] 4, .cells #[.int .i64 1, .int .i64 0, .int .i64 1, .int .i64 0, .slice (some ⟨X3.heap.size, 0, none⟩) 1 1, .slice none 0 0, .slice none 0 0, .int .i64 0, .int .i64 1, .int .i64 1, .int .i64 0, .slice (some ⟨X3.heap.size + 1, 0, none⟩) 1 1, .slice none 0 0, .slice none 0 0] 33, .cells #[.int .i64 41, .int .i64 0, .int .i64 1, .int .i64 0, .int .i64 0, .int .i64 36, .int .i64 4, .int .i64 1, .int .i64 0, .int .i64 0, .int .i64 20, .int .i64 (-1), .int .i64 0, .int .i64 0, .int .i64 0, .int .i64 35, .int .i64 0, .int .i64 0, .int .i64 0, .int .i64 0, .int .i64 38, .int .i64 2, .int .i64 0, .int .i64 0, .int .i64 0, .int .i64 23, .int .i64 0, .int .i64 0, .int .i64 0, .int .i64 0] 37] X4 2 _ rfl; rw [← hYL, s4] at this; exact this
  have y7 : Y7.heap[w0.heap.size + 7]? = some (.cells (insV (sdI (sdV false))).toArray 37) := by have := allocs_get [.cells #[.bool true] 4, .cells #[.bool true] 4, .cells #[.int .i64 1, .int .i64 0, .int .i64 1, .int .i64 0, .slice (some ⟨X3.heap.size, 0, none⟩) 1 1, .slice none 0 0, .slice none 0 0, .int .i64 0, .int .i64 1, .int .i64 1, .int .i64 0, .slice (some ⟨X3.heap.size + 1, 0, none⟩) 1 1, .slice none 0 0, .slice none 0 0] 33, .cells #[.int .i64 41, .int .i64 0, .int .i64 1, .int .i64 0, .int .i64 0, .int .i64 36, .int .i64 4, .int .i64 1, .int .i64 0, .int .i64 0, .int .i64 20, .int .i64 (-1), .int .i64 0, .int .i64 0, .int .i64 0, .int .i64 35, .int .i64 0, .int .i64 0, .int .i64 0, .int .i64 0, .int .i64 38, .int .i64 2, .int .i64 0, .int .i64 0, .int .i64 0, .int .i64 23, .int .i64 0, .int .i64 0, .int .i64 0, .int .i64 0] 37] X4 3 _ rfl; rw [← hYL, s4] at this; exact this
  obtain ⟨_, _, e, CI⟩ := rowI_get (rowIn_at Y7 (w0.heap.size + 7) (sdI (sdV false)) 6 6 rfl (by decide) y7) how _ (unhide hins)
  cases e
  obtain ⟨i0, i1, i2, i3, i4⟩ := CI Y7 (G.refl _)
  simp only [Nat.zero_add] at i0 i1 i2 i3 i4
  clear CI y7
  have ab : X3.heap.size + 1 + 1 + 1 = w0.heap.size + 7 := by have := unhide sX; omega
  rw [← ab] at i0 i1 i2 i3 i4
  have lb : X3.heap.size + 1 + 1 + 1 < Y7.heap.size := by omega
  have lba : X3.heap.size + 1 + 1 + 1 < Y7.heap.size + 1 := by omega
  have MB : Hid (∀ x, G Y7 x → x.cell? ⟨w0.heap.size + 1 + 1 + 1, 0, none⟩ = some (.slice (some ⟨w0.heap.size + 1, 0, none⟩) 1 1) ∧ x.cell? ⟨w0.heap.size + 1 + 1 + 1, 1, none⟩ = some (.slice (some ⟨w0.heap.size, 0, none⟩) 1 1) ∧ x.cell? ⟨w0.heap.size + 1 + 1 + 1, 2, none⟩ = some (.slice none 0 0) ∧ x.cell? ⟨w0.heap.size + 1 + 1 + 1, 3, none⟩ = some (.slice (some ⟨w0.heap.size + 1 + 1, 0, none⟩) 1 1) ∧ x.cell? ⟨w0.heap.size + 1 + 1 + 1, 4, none⟩ = some (.slice (some ⟨X3.heap.size + 1 + 1, 0, none⟩) 2 2) ∧ x.cell? ⟨w0.heap.size + 1 + 1 + 1, 5, none⟩ = some (.int .i64 0)) := hide fun x g => by
    have q : ∀ i u, (#[.slice (some ⟨w0.heap.size + 1, 0, none⟩) 1 1, .slice (some ⟨w0.heap.size, 0, none⟩) 1 1, .slice none 0 0, .slice (some ⟨w0.heap.size + 1 + 1, 0, none⟩) 1 1, .slice none 0 0, .int .i64 0] : Array Value)[i]? = some u → i ≠ 4 → x.cell? ⟨w0.heap.size + 3, i, none⟩ = some u := fun i u hu hi => (gY.trans g).cell (by rw [hX4]; exact (cell_other _ (Or.inr hi)).trans (by rw [cell_of_row X3 (w0.heap.size + 3) _ _ _ _ (unhide e3)]; exact hu))
    exact ⟨q 0 _ rfl (by decide), q 1 _ rfl (by decide), q 2 _ rfl (by decide), q 3 _ rfl (by decide), (gY.trans g).cell (by rw [hX4]; exact cell_same _ c4), q 5 _ rfl (by decide)⟩
  have MF : Hid (Y7.frozen? ⟨w0.heap.size + 1 + 1 + 1, 4, none⟩ = false) := hide ((World.frozen?_of_block (a := ⟨w0.heap.size + 3, 4, none⟩) (gY.block (w0.heap.size + 3) (by omega))).trans (by rw [hX4]; exact (World.frozen?_setCell _ _ _ _).trans f4))
  have KY : Hid (∀ k, k < w0.heap.size + 4 → k ≠ w0.heap.size + 3 → Y7.heap[k]? = X3.heap[k]?) := hide fun k hk hne => (gY.block k (by omega)).trans (k4 k hne)
  have OY : Hid (Y7.os = w0.os ∧ Y7.tape = w0.tape ∧ Y7.output = w0.output) := hide ⟨gY.os.trans (by rw [hX4]; exact (unhide gX).os), gY.tape.trans (by rw [hX4]; exact (unhide gX).tape), gY.output.trans (by rw [hX4]; exact (unhide gX).output)⟩
  replace sY := hide sY
  replace ab := hide ab
  replace y4 := hide y4
  replace y5 := hide y5
  replace y6 := hide y6
  clear hYL hX4 s4 gY k4 c4 f4 l3 l3a l3b
  go_upto_region 12 with fail
  obtain ⟨Z, hZ⟩ : ∃ Z, Z = ((Y7.alloc (.cells #[.bool true, .bool true, .bool true, .bool true, .bool true] 4)).alloc (.cells #[.int .i64 25, .int .i64 0, .int .i64 0, .int .i64 0, .int .i64 0, .int .i64 iop, .int .i64 ia, .int .i64 ibb, .int .i64 icc, .int .i64 idd, .int .i64 25, .int .i64 1, .int .i64 0, .int .i64 0, .int .i64 0, .int .i64 28, .int .i64 0, .int .i64 0, .int .i64 1, .int .i64 0, .int .i64 22, .int .i64 (-1), .int .i64 0, .int .i64 0, .int .i64 0] 37)).alloc (.cells #[.int .i64 0, .int .i64 0, .int .i64 5, .int .i64 0, .slice (some ⟨Y7.heap.size, 0, none⟩) 5 5, .slice (some ⟨Y7.heap.size + 1, 0, none⟩) 5 5, .slice none 0 0] 33) := ⟨_, rfl⟩
  rw [← hZ]
  have hZL : Z = allocs Y7 [.cells #[.bool true, .bool true, .bool true, .bool true, .bool true] 4, .cells #[.int .i64 25, .int .i64 0, .int .i64 0, .int .i64 0, .int .i64 0, .int .i64 iop, .int .i64 ia, .int .i64 ibb, .int .i64 icc, .int .i64 idd, .int .i64 25, .int .i64 1, .int .i64 0, .int .i64 0, .int .i64 0, .int .i64 28, .int .i64 0, .int .i64 0, .int .i64 1, .int .i64 0, .int .i64 22, .int .i64 (-1), .int .i64 0, .int .i64 0, .int .i64 0] 37, .cells #[.int .i64 0, .int .i64 0, .int .i64 5, .int .i64 0, .slice (some ⟨Y7.heap.size, 0, none⟩) 5 5, .slice (some ⟨Y7.heap.size + 1, 0, none⟩) 5 5, .slice none 0 0] 33] := hZ
  clear hZ i0 i1 i2 i3 i4 lb lba
  have sZ : Z.heap.size = w0.heap.size + 11 := by rw [hZL]; exact (allocs_G _ Y7).2.trans (by rw [unhide sY]; rfl)
  have gZ : G Y7 Z := by rw [hZL]; exact (allocs_G _ Y7).1
  have aC : w0.heap.size + 8 = Y7.heap.size := (unhide sY).symm
  have z8 : Z.heap[w0.heap.size + 8]? = some (.cells #[.bool true, .bool true, .bool true, .bool true, .bool true] 4) := by rw [aC, hZL]; exact allocs_get _ Y7 0 _ rfl
  have z9 : Z.heap[w0.heap.size + 9]? = some (.cells (insV (sdC ⟨iop, ia, ibb, icc, idd⟩)).toArray 37) := by rw [show w0.heap.size + 9 = Y7.heap.size + 1 by omega, hZL]; exact allocs_get _ Y7 1 _ rfl
  have z10 : Z.heap[w0.heap.size + 10]? = some (.cells #[.int .i64 0, .int .i64 0, .int .i64 5, .int .i64 0, .slice (some ⟨Y7.heap.size, 0, none⟩) 5 5, .slice (some ⟨Y7.heap.size + 1, 0, none⟩) 5 5, .slice none 0 0] 33) := by rw [show w0.heap.size + 10 = Y7.heap.size + 2 by omega, hZL]; exact allocs_get _ Y7 2 _ rfl
  clear hZL
  have sd : SdZ Z w0.heap.size (sdV false) ⟨iop, ia, ibb, icc, idd⟩ := by
    have kk : ∀ k, k < w0.heap.size + 4 → k ≠ w0.heap.size + 3 → Z.heap[k]? = X3.heap[k]? := fun k hk hne => (gZ.block k (by omega)).trans (unhide KY k hk hne)
    exact ⟨(kk _ (by omega) (by omega)).trans (unhide e0), (kk _ (by omega) (by omega)).trans (unhide e1), (kk _ (by omega) (by omega)).trans (unhide e2), (gZ.block _ (by omega)).trans (unhide y4), (gZ.block _ (by omega)).trans (unhide y5), z8, z9, by omega⟩
  have z6 : Z.heap[w0.heap.size + 6]? = some (.cells (sdK14 (w0.heap.size + 4) (w0.heap.size + 5)).toArray 33) := by
    have := (gZ.block (w0.heap.size + 6) (by omega)).trans (unhide y6)
    rw [unhide sX] at this
    exact this
  obtain ⟨g, cp, x1, hrun, t1, hg, hgl, hcp, hc⟩ := fn_app (k := w0.heap.size + 8) (i := w0.heap.size + 9) z6
  obtain ⟨m0, m1, m2, m3, m4, m5⟩ := unhide MB Z gZ
  have fz : ∀ i u, (#[.int .i64 0, .int .i64 0, .int .i64 5, .int .i64 0, .slice (some ⟨Y7.heap.size, 0, none⟩) 5 5, .slice (some ⟨Y7.heap.size + 1, 0, none⟩) 5 5, .slice none 0 0] : Array Value)[i]? = some u → Z.cell? ⟨w0.heap.size + 10, i, none⟩ = some u := fun i u hu => by rw [cell_of_row Z (w0.heap.size + 10) _ _ _ _ z10]; exact hu
  have aF : Y7.heap.size + 1 + 1 = w0.heap.size + 10 := by omega
  have n0 := fz 0 _ rfl
  have n1 := fz 1 _ rfl
  have n2 := fz 2 _ rfl
  have n3 := fz 3 _ rfl
  have n4 := fz 4 _ rfl
  have n5 := fz 5 _ rfl
  have n6 := fz 6 _ rfl
  have kx : ∀ k, k < Z.heap.size → k ≠ w0.heap.size + 6 → x1.heap[k]? = Z.heap[k]? := fun k hk hne => t1.block k hk hne
  have k3 := kx (w0.heap.size + 3) (by omega) (by omega)
  have k10 := kx (w0.heap.size + 10) (by omega) (by omega)
  have fx4 : x1.frozen? ⟨w0.heap.size + 1 + 1 + 1, 4, none⟩ = false := (World.frozen?_of_block (a := ⟨w0.heap.size + 3, 4, none⟩) (k3.trans (gZ.block (w0.heap.size + 3) (by omega)))).trans (unhide MF)
  have cx4 : x1.cell? ⟨w0.heap.size + 1 + 1 + 1, 4, none⟩ = some (.slice (some ⟨X3.heap.size + 1 + 1, 0, none⟩) 2 2) := (World.cell?_of_block (a := ⟨w0.heap.size + 3, 4, none⟩) k3).trans m4
  obtain ⟨Y, hY⟩ : ∃ Y, Y = x1.setCell ⟨w0.heap.size + 1 + 1 + 1, 4, none⟩ (.slice (some ⟨g, 0, none⟩) 3 cp) := ⟨_, rfl⟩
  have kY : ∀ k, k ≠ w0.heap.size + 3 → Y.heap[k]? = x1.heap[k]? := fun k hk => by rw [hY]; exact Below.heap_setCell _ _ _ _ hk
  have szY : Y.heap.size = x1.heap.size := by rw [hY, World.size_setCell]
  have t1s := t1.size
  obtain ⟨R1, R2, R3⟩ := sd.out (Y := Y) (g := g) (cp := cp) (fun k hk h6 h3 => (kY k h3).trans (kx k hk h6)) (fun j u hj => (World.cell?_of_block (a := ⟨g, j, none⟩) (kY g (by omega))).trans (hc j u hj)) (by omega)
  have GW : Hid (G W Y) := hide ((unhide g0).trans ⟨by rw [hY]; exact t1.os.trans (gZ.os.trans (unhide OY).1), by rw [hY]; exact t1.tape.trans (gZ.tape.trans (unhide OY).2.1), by rw [hY]; exact t1.output.trans (gZ.output.trans (unhide OY).2.2), by omega, fun k hk => (kY k (by omega)).trans ((kx k (by omega) (by omega)).trans ((gZ.block k (by omega)).trans ((unhide KY k (by omega) (by omega)).trans ((unhide gX).block k hk))))⟩)
  have SP := hide (sd_spare (s := w0.heap.size) (unhide HH) (unhide hins) R1 R2 R3 (unhide TT Y (unhide GW)).1 (unhide TT Y (unhide GW)).2)
  have mm : ∀ i u, i ≠ 4 → Z.cell? ⟨w0.heap.size + 1 + 1 + 1, i, none⟩ = some u → Y.cell? ⟨w0.heap.size + 1 + 1 + 1, i, none⟩ = some u := fun i u hi hu => by rw [hY]; exact (cell_other _ (Or.inr hi)).trans ((World.cell?_of_block (a := ⟨w0.heap.size + 3, i, none⟩) k3).trans hu)
  have nn : ∀ i u, Z.cell? ⟨w0.heap.size + 10, i, none⟩ = some u → Y.cell? ⟨w0.heap.size + 10, i, none⟩ = some u := fun i u hu => (World.cell?_of_block (a := ⟨w0.heap.size + 10, i, none⟩) ((kY (w0.heap.size + 10) (by omega)).trans k10)).trans hu
  have d0 := mm 0 _ (by decide) m0
  have d1 := mm 1 _ (by decide) m1
  have d2 := mm 2 _ (by decide) m2
  have d3 := mm 3 _ (by decide) m3
  have d5 := mm 5 _ (by decide) m5
  have d4 : Y.cell? ⟨w0.heap.size + 1 + 1 + 1, 4, none⟩ = some (.slice (some ⟨g, 0, none⟩) 3 cp) := by rw [hY]; exact cell_same _ cx4
  have p0 := nn 0 _ n0
  have p1 := nn 1 _ n1
  have p2 := nn 2 _ n2
  have p3 := nn 3 _ n3
  have p4 := nn 4 _ n4
  have p5 := nn 5 _ n5
  have p6 := nn 6 _ n6
  rw [← aF] at n0 n1 n2 n3 n4 n5 n6 p0 p1 p2 p3 p4 p5 p6
  rw [show w0.heap.size + 8 = Y7.heap.size from aC, show w0.heap.size + 9 = Y7.heap.size + 1 by omega] at hrun SP
  rw [show w0.heap.size + 6 = X3.heap.size + 1 + 1 by have := unhide sX; omega] at hrun
  clear m0 m1 m2 m3 m5 mm nn fz z8 z9 z10 z6 sd kx k3 k10 t1 hg hgl hcp hc kY szY t1s R1 R2 R3 aF aC sZ gZ
  go_upto_region 13 with (at_builtin; refine wpl_apx rfl (.tmp 55) (.tmp 57) 27 rfl _ _ rfl rfl _ _ hrun ?_)
  rw [← hY]
  clear hY hrun fx4 cx4 n0 n1 n2 n3 n4 n5 n6 m4
  go_wp2_with fail
  refine (unhide SP).mono ?_
  rintro e y9 ⟨rfl, g9⟩
  have GF := hide ((unhide GW).trans g9)
  clear SP g9 d0 d1 d2 d3 d4 d5 p0 p1 p2 p3 p4 p5 p6
  go_wp2_with fail
  go_ret
  exact ⟨rfl, unhide GF⟩
set_option maxHeartbeats 1000000 in
theorem walk_FreshSends (a : Int) (o : Bool) (W : World) (hL : laidMetH Tryd.prog laid9 W) (_ : oI a) : Calls Tryd.prog 6 #[.int .i64 a, .bool o] W fun e w' => e = .returned (.bool true) ∧ G W w' := by
  have ht := tabz_of_laid hL
  have hw := rows_of_laid hL
  by_cases h : 0 ≤ a ∧ a < 6
  · obtain ⟨how, rfl⟩ : ∃ n : Nat, a = n := ⟨a.toNat, by omega⟩
    cases o
    · exact sends_f how (by omega) W ht hw
    · exact sends_t how (by omega) W ht hw
  · have AW := hide (awake11 W ht hw)
    clear ht hw hL
    by_cases h1 : a < 0
    · clear h
      go_enter Tryd.func6, Tryd.ntmps6
      go_wp2_with fail
      refine (unhide AW).mono ?_
      rintro e w0 ⟨rfl, g0⟩
      replace g0 := hide g0
      clear AW
      go_wp2_with fail
      go_ret
      exact ⟨rfl, unhide g0⟩
    · have h2 : (5 : Int) < a := by omega
      clear h
      go_enter Tryd.func6, Tryd.ntmps6
      go_wp2_with fail
      refine (unhide AW).mono ?_
      rintro e w0 ⟨rfl, g0⟩
      replace g0 := hide g0
      clear AW
      go_wp2_with fail
      go_ret
      exact ⟨rfl, unhide g0⟩

set_option maxRecDepth 100000 in
theorem lifted_FreshSends (os : Os) (started : os.Started) (H : Type) (enc : TypeId × Value → H) :
    ReturnsInHanded {} Tryd.checked os 6 .any (fun w args => (Rows.freshSendsSpec.pre enc Tryd.prog Tryd.f6 [] false w args ∧ laidMetH Tryd.prog laid9 w) ∧ sizedMet enc Tryd.prog Tryd.f6 (OpenSpec.ofChange Rows.freshSendsSpec) false w args)
      (Rows.freshSendsSpec.post enc Tryd.prog Tryd.f6 false true false false) := by
  refine returnsInHanded_of_change_and (C := Tryd.checked) (X := fun w _ => laidMetH Tryd.prog laid9 w) (fun _ _ _ hh h => h.of_heap hh) own started (by kernel_rfl) Tryd.func6
    (ChangeSpec.witness_shaped (enc := enc) (C := Tryd.checked) (os := os) (X := fun w _ => laidMetH Tryd.prog laid9 w) false (World.doorLaid Tryd.prog 400 os) #[.int .i64 0, .bool false] 8 rfl (World.shaped_of_RefB (by kernel_rfl) (by kernel_rfl)) (by kernel_rfl) (by kernel_rfl) (by kernel_rfl) (door_met os _)) ?_
  intro W base args ds gs before hval0 hW _ _ hL _
  have hval : ∀ (j : Nat) t v, Tryd.f6.params[j]? = some t → args[j]? = some v → Value.okWide Tryd.prog W .any base t v := hval0
  have hW' := hW
  obtain ⟨p, q, hA0, hV, rfl, hfz, hnd⟩ := hW
  have hA : DataW.TrodAll enc Tryd.prog W 0 (fun _ => true) true Tryd.f6.params.toList args.toList ds p := hA0
  rw [Tryd.params6] at hA hval
  obtain ⟨v0, vs0, d0, ds0, p0, q0, hargs, rfl, rfl, h0, r0⟩ := trodAll_cons hA
  obtain ⟨v1, vs1, d1, ds1, p1, q1, rfl, rfl, rfl, h1, r1⟩ := trodAll_cons r0
  obtain ⟨rfl, rfl, rfl⟩ := trodAll_nil r1
  obtain rfl : args = #[v0, v1] := by cases args; simp_all
  obtain ⟨rfl, rfl⟩ := trodVars_none hV
  have k0 := h0
  have lt0 : ∀ x ∈ p0, x.block < W.heap.size := by obtain ⟨m, hm⟩ := k0; exact DataW.trod_lt m _ _ _ hm
  obtain ⟨a0, rfl, rfl, rfl, w0⟩ := open_int Tryd.underlying3 (hval 0 3 v0 rfl rfl) h0
  have k1 := h1
  have lt1 : ∀ x ∈ p1, x.block < W.heap.size := by obtain ⟨m, hm⟩ := k1; exact DataW.trod_lt m _ _ _ hm
  obtain ⟨a1, rfl, rfl, rfl⟩ := open_bool Tryd.underlying4 (hval 1 4 v1 rfl rfl) h1
  clear hA0 hval0
  refine (walk_FreshSends a0 a1 W hL (oI_wf w0)).mono fun e W' ⟨he, hg⟩ => ?_
  subst he
  exact ⟨_, rfl, _, _, _, [], _, [], hW', trodAll_mk1 (shut_bool Tryd.underlying4 _), (trodAll_cons_mk (Below.trod laidOut (by kernel_rfl) (of_decide_eq_true (by kernel_rfl)) k0 hg lt0) (trodAll_cons_mk (Below.trod laidOut (by kernel_rfl) (of_decide_eq_true (by kernel_rfl)) k1 hg lt1) trodAll_mk0)), rfl, hg.frame _, fun h => by cases h⟩

theorem row_FreshSends : Rows.FreshSendsSaid :=
  OpenClaim.holds_of_wide 6 Tryd.f6 rfl rfl rfl rfl rfl rfl rfl ⟨rfl, rfl, rfl, rfl, rfl⟩ rfl rfl rfl rfl rfl (by kernel_rfl) Tryd.func6 (by kernel_rfl)
    (of_decide_eq_true (by kernel_rfl)) (by unfold Func.isWrapper; first | (rw [if_pos (by decide +kernel)]; kernel_rfl) | (rw [if_neg (by decide +kernel)]; exact ⟨rfl, rfl⟩))
    (fun os started H enc _ => lifted_FreshSends os started H enc)

/-- THE STATEMENT. -/
theorem card_FreshSends : Rows.FreshSendsCardSaid :=
  Claim7.holds_tied_plain_at .later [] [.data, .data] true (true, "ae6be65f98e88becfe85b4818990ec1f8146fa15725bac7e4b6f792bf031baa6") true
    row_FreshSends (fun _ h => by cases h) (by kernel_rfl) (fun _ h => by cases h) freshSends_row_tie rfl ⟨rfl, rfl⟩ (by kernel_rfl) rfl
    (fun f fn hf hfn => by
      obtain rfl : f = 6 := Option.some.inj ((show Tryd.prog.funcNamed "gantline/gantlinelaw11.FreshSends" = some 6 by kernel_rfl).symm.trans hf) |>.symm
      obtain rfl : fn = Tryd.f6 := (Option.some.inj (Tryd.func6.symm.trans hfn)).symm
      exact ⟨by kernel_rfl, fun j t ht => by
        rw [Tryd.params6] at ht
        have hm : t ∈ [3, 4] := by simpa using Array.mem_of_getElem? ht
        have hall : ([3, 4].all fun u => !Tryd.prog.wantsStandIn u) = true := by kernel_rfl
        exact (show Tryd.prog.wantsStandIn t = false by simpa using List.all_eq_true.1 hall t hm)⟩)
    (by kernel_rfl)
#print axioms card_FreshSends
end Go.Proofs.YtiangegoglfpeaaDoor
