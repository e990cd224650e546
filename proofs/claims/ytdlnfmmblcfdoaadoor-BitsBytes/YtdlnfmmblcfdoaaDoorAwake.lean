/- Put(nothing, 300), Take of its two bytes, and the laws' common test 'awake': it answers true wherever math/bits' table lies as its text lays it; nothing that was there is turned. -/
import Derived.Test.YtdlnfmmblcfdoaaDoorLeaf2
namespace Go.Proofs.YtdlnfmmblcfdoaaDoor
open Go.RowKit

set_option maxHeartbeats 400000 in
set_option maxRecDepth 100000 in
theorem put300 (w : World) :
    Calls Tryd.prog 36 #[.slice none 0 0, .int .u64 300] w fun e w' => e = .returned (.slice (some ⟨w.heap.size, 0, none⟩) 2 10) ∧ w'.cell? ⟨w.heap.size, 0, none⟩ = some (.int .u8 172) ∧ w'.cell? ⟨w.heap.size, 1, none⟩ = some (.int .u8 2) ∧ Grown w w' ∧ Below w.heap.size w w' := by
  have hmk : ∀ w, (Instr.makeSlice 28 (.int .i64 0) (.int .i64 10)).run Tryd.prog w = .ok (.slice (some ⟨w.heap.size, 0, none⟩) 0 10) (w.alloc (.cells #[.int .u8 0, .int .u8 0, .int .u8 0, .int .u8 0, .int .u8 0, .int .u8 0, .int .u8 0, .int .u8 0, .int .u8 0, .int .u8 0] 5)) := fun _ => by kernel_rfl
  have hcp : ∀ w g, (Builtin.copy_ #[28, 28] 3 #[.slice (some ⟨g, 0, none⟩) 0 10, .slice none 0 0]).run Tryd.prog w = .ok (.int .i64 0) w := fun _ _ => by kernel_rfl
  have hor : bits .or .u8 44 128 = 172 := by decide
  go_enter Tryd.func36, Tryd.ntmps36
  go_wp2
  refine wp_loop_rounds 3 ?_
  rw [rounds_succ]
  go_wp2
  rw [rounds_succ]
  go_wp2
  go_ret
  refine ⟨rfl, ?_, ?_, ?_, ?_⟩
  · simp [go_sem]
  · simp [go_sem]
  · go_grown
  · go_grown

set_option maxHeartbeats 400000 in
set_option maxRecDepth 100000 in
theorem take300 (b : Nat) (w : World) (h0 : w.cell? ⟨b, 0, none⟩ = some (.int .u8 172)) (h1 : w.cell? ⟨b, 1, none⟩ = some (.int .u8 2)) :
    Calls Tryd.prog 12 #[.slice (some ⟨b, 0, none⟩) 2 10] w fun e w' => e = .returned (.tuple #[.int .u64 300, .int .i64 2]) ∧ w' = w := by
  have e1 : bits .andNot .u8 172 128 = 44 := by decide
  have e2 : bits .andNot .u8 2 128 = 2 := by decide
  have e3 : bits .or .u64 0 44 = 44 := by decide
  have e4 : bits .or .u64 44 256 = 300 := by decide
  go_enter Tryd.func12, Tryd.ntmps12
  go_wp2
  refine wp_loop_rounds 3 ?_
  rw [rounds_succ]
  go_wp2
  rw [rounds_succ]
  go_wp2
  go_ret2
  exact ⟨rfl, rfl⟩

theorem Tab.later {w w' : World} (h : Tab w) (hb : Below w.heap.size w w') : Tab w' := fun k hk => cell_later hb (h k hk)

theorem Tab.draws {w : World} (h : Tab w) (k : Nat) : Tab (w.drewN k) := h
theorem grown_draws {w w' : World} (h : Grown w w') (k : Nat) : Grown w (w'.drewN k) := h
theorem below_draws {w w' : World} {B : Nat} (h : Below B w w') (k : Nat) : Below B w (w'.drewN k) := ⟨h.os, h.tape, h.output, h.size, h.block⟩

theorem calls_as {f : FuncId} {args : Array Value} {w : World} {v v' : Value} (h : v = v') (C : Calls Tryd.prog f args w fun e w' => e = .returned v ∧ w' = w) :
    Calls Tryd.prog f args w fun e w' => e = .returned v' ∧ w' = w := by rw [← h]; exact C

theorem aw_div (w : World) : Calls Tryd.prog 10 #[.int .i64 (-7), .int .i64 2] w fun e w' => e = .returned (.tuple #[.int .i64 (-3), .bool true]) ∧ w' = w :=
  calls_as (by kernel_rfl) (div_any (-7) 2 w (by decide))
theorem aw_mod (w : World) : Calls Tryd.prog 11 #[.int .i64 (-7), .int .i64 2] w fun e w' => e = .returned (.tuple #[.int .i64 (-1), .bool true]) ∧ w' = w :=
  calls_as (by kernel_rfl) (mod_any (-7) 2 w (by decide))
theorem aw_wrap (w : World) : Calls Tryd.prog 21 #[.int .i64 4611686018427387904] w fun e w' => e = .returned (.int .i64 (-4611686018427387904)) ∧ w' = w :=
  calls_as (by kernel_rfl) (wrap_any _ w)
theorem aw_shr (w : World) : Calls Tryd.prog 13 #[.int .i64 (-8), .int .i64 1] w fun e w' => e = .returned (.int .i64 (-4)) ∧ w' = w :=
  calls_as (by kernel_rfl) (shr_any _ _ w (by decide) (by decide))
theorem aw_shl (w : World) : Calls Tryd.prog 14 #[.int .i64 3, .int .i64 2] w fun e w' => e = .returned (.int .i64 12) ∧ w' = w :=
  calls_as (by kernel_rfl) (shl_any _ _ w (by decide) (by decide))
theorem aw_field (w : World) : Calls Tryd.prog 17 #[.int .u64 240, .int .i64 4, .int .i64 4] w fun e w' => e = .returned (.int .u64 15) ∧ ∃ k, w' = w.drewN k :=
  field_any 240 4 4 w (by decide) (by decide)
theorem aw_with (w : World) : Calls Tryd.prog 18 #[.int .u64 0, .int .i64 4, .int .i64 4, .int .u64 15] w fun e w' => e = .returned (.int .u64 240) ∧ w' = w :=
  with_any 0 4 4 15 w (by decide) (by decide)
theorem aw_zig (w : World) : Calls Tryd.prog 38 #[.int .i64 (-1)] w fun e w' => e = .returned (.int .u64 1) ∧ w' = w :=
  calls_as (by kernel_rfl) (zig_any _ w (by decide) (by decide))
theorem aw_zag (w : World) : Calls Tryd.prog 40 #[.int .u64 1] w fun e w' => e = .returned (.int .i64 (-1)) ∧ w' = w :=
  calls_as (by kernel_rfl) (zag_any 1 w (by decide))
theorem aw_first (w : World) (ht : Tab w) : Calls Tryd.prog 15 #[.int .u64 7] w fun e w' => e = .returned (.int .i64 3) ∧ w' = w :=
  calls_as (by kernel_rfl) (first_any 7 w (by decide) ht)
theorem aw_next (w : World) (ht : Tab w) : Calls Tryd.prog 16 #[.int .u64 8, .int .i64 1] w fun e w' => e = .returned (.int .i64 3) ∧ w' = w :=
  calls_as (by kernel_rfl) (next_any 8 1 w (by decide) ht)
theorem aw_add (w : World) : Calls Tryd.prog 23 #[.int .i64 1, .int .i64 2] w fun e w' => e = .returned (.int .i64 3) ∧ w' = w :=
  calls_as (by kernel_rfl) (add_any _ _ w)
theorem aw_sub (w : World) : Calls Tryd.prog 25 #[.int .i64 1, .int .i64 2] w fun e w' => e = .returned (.int .i64 (-1)) ∧ w' = w :=
  calls_as (by kernel_rfl) (sub_any _ _ w)
theorem aw_mul (w : World) : Calls Tryd.prog 27 #[.int .i64 3, .int .i64 4] w fun e w' => e = .returned (.int .i64 12) ∧ w' = w :=
  calls_as (by kernel_rfl) (mul_any _ _ w)

set_option maxHeartbeats 1000000 in
set_option maxRecDepth 100000 in
theorem awake_any (w : World) (ht : Tab w) :
    Calls Tryd.prog 9 #[] w fun e w' => e = .returned (.bool true) ∧ Grown w w' ∧ Below w.heap.size w w' := by
  have HT := hide ht
  clear ht
  go_enter Tryd.func9, Tryd.ntmps9
  go_wp2_with (first
    | (go_at_call 10; refine (aw_div _).mono ?_; rintro e w' ⟨rfl, rfl⟩)
    | (go_at_call 11; refine (aw_mod _).mono ?_; rintro e w' ⟨rfl, rfl⟩))
  refine (put300 _).mono ?_
  rintro e w1 ⟨rfl, c0, c1, hg, hb⟩
  have HT1 := hide ((unhide HT).later hb)
  have HG := hide hg
  have HB := hide hb
  clear hg hb HT
  go_wp2_with (first
    | (go_at_call 12; refine (take300 _ _ c0 c1).mono ?_; rintro e w' ⟨rfl, rfl⟩)
    | (go_at_call 21; refine (aw_wrap _).mono ?_; rintro e w' ⟨rfl, rfl⟩)
    | (go_at_call 13; refine (aw_shr _).mono ?_; rintro e w' ⟨rfl, rfl⟩)
    | (go_at_call 14; refine (aw_shl _).mono ?_; rintro e w' ⟨rfl, rfl⟩)
    | (go_at_call 17; refine (aw_field _).mono ?_; rintro e w' ⟨rfl, k, rfl⟩)
    | (go_at_call 18; refine (aw_with _).mono ?_; rintro e w' ⟨rfl, rfl⟩))
  go_wp2_with (first
    | (go_at_call 38; refine (aw_zig _).mono ?_; rintro e w' ⟨rfl, rfl⟩)
    | (go_at_call 40; refine (aw_zag _).mono ?_; rintro e w' ⟨rfl, rfl⟩)
    | (go_at_call 33; refine (ones7 _).mono ?_; rintro e w' ⟨rfl, rfl⟩)
    | (go_at_call 15; refine (aw_first _ (by exact (unhide HT1).draws _)).mono ?_; rintro e w' ⟨rfl, rfl⟩)
    | (go_at_call 16; refine (aw_next _ (by exact (unhide HT1).draws _)).mono ?_; rintro e w' ⟨rfl, rfl⟩)
    | (go_at_call 23; refine (aw_add _).mono ?_; rintro e w' ⟨rfl, rfl⟩)
    | (go_at_call 25; refine (aw_sub _).mono ?_; rintro e w' ⟨rfl, rfl⟩)
    | (go_at_call 27; refine (aw_mul _).mono ?_; rintro e w' ⟨rfl, rfl⟩))
  go_ret
  exact ⟨rfl, grown_draws (unhide HG) _, below_draws (unhide HB) _⟩
end Go.Proofs.YtdlnfmmblcfdoaaDoor
