/- A graph's start: nodes of nothing, an empty map. -/
import Derived.Test.YtnliooflpclcbaaGreatDoorLiveGx
namespace Go.Proofs.YtnliooflpclcbaaGreatDoor
set_option maxRecDepth 100000
open Go.RowKit Go.Maps Go.ChangeShapes Go.WideShapes Go.ChangeAt Go.Deep

def mkN (n : Nat) : Obj := .cells (madeCells #[.int .u64 0, .int .u64 0, .slice none 0 0] (n * 3)) 57
theorem mk_nodes (n : Nat) (hn : n ≤ 1000000) (w : World) : (Instr.makeSlice 58 (.int .i64 (n : Int)) (.int .i64 (n : Int))).run Tryz.prog w = .ok (.slice (some ⟨w.heap.size, 0, none⟩) n n) (w.alloc (mkN n)) := by
  obtain ⟨i, hi, hz, hs, hb⟩ := info_parts info_node
  have := run_make (P := Tryz.prog) w 58 57 i _ Tryz.underlying58 hi hz .i64 .i64 (n : Int) (n : Int) (by omega) (by omega) (by rw [hb]; omega) (by omega)
  rw [this, hs, Int.toNat_natCast]
  rfl
theorem made3 (z0 z1 z2 : Value) (n i q : Nat) (hi : i < n) (hq : q < 3) : (madeCells #[z0, z1, z2] (n * 3))[i * 3 + q]? = some (#[z0, z1, z2][q]!) := by
  have hs : i * 3 + q < (madeCells #[z0, z1, z2] (n * 3)).size := by rw [size_madeCells]; omega
  rw [Array.getElem?_eq_getElem hs]
  have e : (i * 3 + q) % 3 = q := by omega
  simp [madeCells, e]
theorem gx_start (x : World) (B rb mb n0 : Nat) (hd : List Value) (hl : hd.length = 13) (hn : n0 ≤ 1000000) (h1 : x.heap[rb]? = some (mkN n0)) (h2 : x.heap[mb]? = some (.map #[] 0)) (hne : mb ≠ rb) (b1 : B ≤ rb) (b2 : B ≤ mb) (b3 : B ≤ x.heap.size) :
    GX (x.alloc (.cells (hd ++ [Value.slice (some ⟨rb, 0, none⟩) n0 n0, Value.map (some mb)]).toArray 61)) B x.heap.size mb rb n0 n0 hd (List.replicate n0 (0, 0, [])) [] [] := by
  have hr : rb < x.heap.size := (Array.getElem?_eq_some_iff.1 h1).1
  have hm : mb < x.heap.size := (Array.getElem?_eq_some_iff.1 h2).1
  have ga := G.alloc x (.cells (hd ++ [Value.slice (some ⟨rb, 0, none⟩) n0 n0, Value.map (some mb)]).toArray 61)
  refine ⟨hl, ?_, b3, b2, by omega, by omega, hne, ⟨(madeCells #[.int .u64 0, .int .u64 0, .slice none 0 0] (n0 * 3)).toList, ?_, fun i n hi => ?_⟩, ?_, fun s hs => by cases hs⟩
  · rw [List.length_replicate]
    exact heap_alloc_new x _
  · rw [List.length_replicate]
    refine ⟨by simp [size_madeCells], Or.inr ⟨rb, n0, _, rfl, b1, (ga.block rb hr).trans h1, Nat.le_refl _, by unfold maxLen; omega, size_madeCells _ _, ?_⟩⟩
    rw [List.take_of_length_le]
    simp [size_madeCells]
  · have hin : i < n0 := by have := (List.getElem?_eq_some_iff.1 hi).1; simpa using this
    have he : n = (0, 0, []) := List.eq_of_mem_replicate (List.mem_of_getElem? hi)
    subst he
    refine ⟨.slice none 0 0, ?_, ?_, ?_, fun w' _ => isl_nil w'⟩
    · have := made3 (.int .u64 0) (.int .u64 0) (.slice none 0 0) n0 i 0 hin (by decide)
      simpa using this
    · have := made3 (.int .u64 0) (.int .u64 0) (.slice none 0 0) n0 i 1 hin (by decide)
      simpa using this
    · have := made3 (.int .u64 0) (.int .u64 0) (.slice none 0 0) n0 i 2 hin (by decide)
      simpa using this
  · obtain ⟨es, clock, hb, F, hs, hD⟩ := World.ownsMap_made (H := Unit) x Tryz.prog 110 (plainElem Tryz.prog 3)
    have he := (heap_alloc_new x (.map #[] 0)).symm.trans hb
    injection he with he
    injection he with he1 he2
    subst he1
    subst he2
    exact ⟨.map [], ⟨_, _, (ga.block mb hm).trans h2, F, hs, hD⟩, fun s _ => by simp [Maps.has_eq], fun s hs => by cases hs⟩
end Go.Proofs.YtnliooflpclcbaaGreatDoor
