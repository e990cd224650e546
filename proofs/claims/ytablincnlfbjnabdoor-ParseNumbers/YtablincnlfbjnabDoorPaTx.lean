/- The document's own Text of a number that is none below 0 (CodeText's). -/
import Derived.Test.YtablincnlfbjnabDoorPaAw
import Derived.Test.YtablincnlfbjnabDoorPaNm
import Derived.Laws.Concat
import Derived.Lib.ItoaLen
import Derived.Lib.ItoaMem
namespace Go.Proofs.YtablincnlfbjnabDoor
set_option maxRecDepth 100000
open Go.RowKit Go.Maps Go.ChangeShapes Go.WideShapes Go.ChangeAt Go.Deep

theorem ba_append (a b : List UInt8) : (⟨a.toArray⟩ : ByteArray) ++ (⟨b.toArray⟩ : ByteArray) = ⟨(a ++ b).toArray⟩ := by
  apply ByteArray.ext
  rw [ByteArray.data_append]
  simp only [List.append_toArray]
theorem sl_dig (w : World) : ∀ d : Nat, d < 10 → (Instr.sliceAt 9 (.string ⟨#[48, 49, 50, 51, 52, 53, 54, 55, 56, 57]⟩) (some (.int .i64 (d : Int))) (some (.int .i64 ((d : Int) + 1))) none).run Tryd.prog w = .ok (.string ⟨[UInt8.ofNat (48 + d)].toArray⟩) w
  | 0, _ => by kernel_rfl
  | 1, _ => by kernel_rfl
  | 2, _ => by kernel_rfl
  | 3, _ => by kernel_rfl
  | 4, _ => by kernel_rfl
  | 5, _ => by kernel_rfl
  | 6, _ => by kernel_rfl
  | 7, _ => by kernel_rfl
  | 8, _ => by kernel_rfl
  | 9, _ => by kernel_rfl
  | n + 10, h => by omega
theorem sl_dig2 (w : World) : ∀ d : Nat, d < 10 → (Instr.slice 9 (.string ⟨#[48, 49, 50, 51, 52, 53, 54, 55, 56, 57]⟩) (some (.int .i64 (d : Int))) (some (.int .i64 ((d : Int) + 1))) none).run Tryd.prog w = .ok (.string ⟨[UInt8.ofNat (48 + d)].toArray⟩) w
  | 0, _ => by kernel_rfl
  | 1, _ => by kernel_rfl
  | 2, _ => by kernel_rfl
  | 3, _ => by kernel_rfl
  | 4, _ => by kernel_rfl
  | 5, _ => by kernel_rfl
  | 6, _ => by kernel_rfl
  | 7, _ => by kernel_rfl
  | 8, _ => by kernel_rfl
  | 9, _ => by kernel_rfl
  | n + 10, h => by omega

set_option maxHeartbeats 1000000 in
theorem text_dig (w : World) (u : Nat) (h : u < 10) : Calls Tryd.prog 5 #[.int .i64 (u : Int)] w fun e w' => e = .returned (.string ⟨(Lib.decDigits u).toArray⟩) ∧ ∃ k, w' = w.drewN k := by
  rw [Lib.decDigits_one h]
  have hs1 := fun w => sl_dig w u h
  have hs2 := fun w => sl_dig2 w u h
  have h0 : ¬ (u : Int) < 0 := by omega
  have h1 : (u : Int) < 10 := by omega
  generalize (⟨[UInt8.ofNat (48 + u)].toArray⟩ : ByteArray) = D at *
  go_enter Tryd.func5, Tryd.ntmps5
  go_wp2_with fail
  go_ret
  exact ⟨rfl, 0, rfl⟩

set_option maxHeartbeats 400000 in
theorem text_more (w : World) (u d : Nat) (D T : ByteArray) (h : 10 ≤ u) (hu : (u : Int) ≤ 9223372036854775807) (hd : (u : Int) % 10 = (d : Int)) (_ : d < 10) (hD : D.size ≤ 10) (hT : T.size ≤ 100)
    (S1 : ∀ w, (Instr.sliceAt 9 (.string ⟨#[48, 49, 50, 51, 52, 53, 54, 55, 56, 57]⟩) (some (.int .i64 (d : Int))) (some (.int .i64 ((d : Int) + 1))) none).run Tryd.prog w = .ok (.string D) w)
    (_ : ∀ w, (Instr.slice 9 (.string ⟨#[48, 49, 50, 51, 52, 53, 54, 55, 56, 57]⟩) (some (.int .i64 (d : Int))) (some (.int .i64 ((d : Int) + 1))) none).run Tryd.prog w = .ok (.string D) w)
    (C : Hid (∀ w, Calls Tryd.prog 5 #[.int .i64 ((u : Int) / 10)] w fun e w' => e = .returned (.string T) ∧ ∃ k, w' = w.drewN k)) :
    Calls Tryd.prog 5 #[.int .i64 (u : Int)] w fun e w' => e = .returned (.string (T ++ D)) ∧ ∃ k, w' = w.drewN k := by
  have h0 : ¬ (u : Int) < 0 := by omega
  have h1 : ¬ (u : Int) < 10 := by omega
  have hwq : IntKind.i64.wrap ((u : Int) / 10) = (u : Int) / 10 := by rw [IntKind.wrap_i64]; omega
  have htm : (u : Int).tmod 10 = (d : Int) := by rw [Int.tmod_eq_emod_of_nonneg (by omega)]; exact hd
  have hw1 : IntKind.i64.wrap ((d : Int) + 1) = (d : Int) + 1 := by rw [IntKind.wrap_i64]; omega
  have hsz : ¬ (9223372036854775807 : Int) < ((T.size + D.size : Nat) : Int) := by omega
  have hszn : ¬ 9223372036854775807 < T.size + D.size := by omega
  go_enter Tryd.func5, Tryd.ntmps5
  go_wp2_with fail
  go_quiet ((go_at_call 5; exact Calls.quiet_of (unhide C _)))
  go_wp2_with fail
  go_ret
  exact ⟨rfl, _, rfl⟩

theorem text_nat : ∀ (N u : Nat), u ≤ N → (u : Int) ≤ 9223372036854775807 → ∀ w, Calls Tryd.prog 5 #[.int .i64 (u : Int)] w fun e w' => e = .returned (.string ⟨(Lib.decDigits u).toArray⟩) ∧ ∃ k, w' = w.drewN k
  | N, u, h, hu, w => by
    by_cases h10 : u < 10
    · exact text_dig w u h10
    · match N, h with
      | 0, h => omega
      | N + 1, h =>
        have C := text_nat N (u / 10) (by omega) (by omega)
        rw [show ((u / 10 : Nat) : Int) = (u : Int) / 10 by omega] at C
        have hl := Lib.itoa_length_le (u : Int) (by omega) hu
        rw [Lib.itoa_nonneg] at hl
        have e : Lib.decDigits u = Lib.decDigits (u / 10) ++ [UInt8.ofNat (48 + u % 10)] := by rw [Lib.decDigits, dif_neg h10]
        rw [e] at hl ⊢
        rw [← ba_append]
        have hT : (⟨(Lib.decDigits (u / 10)).toArray⟩ : ByteArray).size ≤ 100 := by
          show (Lib.decDigits (u / 10)).toArray.size ≤ 100
          simp at hl ⊢
          omega
        exact text_more w u (u % 10) _ _ (by omega) hu (by omega) (Nat.mod_lt _ (by decide)) (by show [UInt8.ofNat (48 + u % 10)].toArray.size ≤ 10; simp) hT (fun w => sl_dig w _ (Nat.mod_lt _ (by decide))) (fun w => sl_dig2 w _ (Nat.mod_lt _ (by decide))) (hide C)

theorem g_drewN (w : World) (k : Nat) : G w (w.drewN k) := ⟨rfl, rfl, rfl, Nat.le_refl _, fun _ _ => rfl⟩
/-- The digits. -/
theorem dd_dig : ∀ (N u : Nat), u ≤ N → (∀ d ∈ Lib.decDigits u, digN d.toNat = true) ∧ valF (Lib.decDigits u) 0 = u ∧ Lib.decDigits u ≠ []
  | N, u, h => by
    have dig : ∀ d : Nat, d < 10 → digN (UInt8.ofNat (48 + d)).toNat = true ∧ (UInt8.ofNat (48 + d)).toNat = 48 + d := fun d hd => by
      have : (UInt8.ofNat (48 + d)).toNat = 48 + d := by rw [UInt8.toNat_ofNat']; exact Nat.mod_eq_of_lt (by omega)
      rw [this]
      exact ⟨by simp only [digN, Bool.and_eq_true, decide_eq_true_eq]; omega, rfl⟩
    by_cases h10 : u < 10
    · rw [Lib.decDigits, dif_pos h10]
      obtain ⟨d1, d2⟩ := dig u h10
      refine ⟨fun d hd => by rw [List.mem_singleton.1 hd]; exact d1, ?_, by simp⟩
      show 0 * 10 + ((UInt8.ofNat (48 + u)).toNat - 48) = u
      rw [d2]; omega
    · match N, h with
      | 0, h => omega
      | N + 1, h =>
        obtain ⟨q1, q2, q3⟩ := dd_dig N (u / 10) (by omega)
        obtain ⟨d1, d2⟩ := dig (u % 10) (Nat.mod_lt _ (by decide))
        rw [Lib.decDigits, dif_neg h10]
        refine ⟨fun d hd => ?_, ?_, by simp⟩
        · rcases List.mem_append.1 hd with hd | hd
          · exact q1 d hd
          · rw [List.mem_singleton.1 hd]; exact d1
        · unfold valF at q2 ⊢
          rw [List.foldl_append, q2]
          show u / 10 * 10 + ((UInt8.ofNat (48 + u % 10)).toNat - 48) = u
          rw [d2]; omega
theorem zs_val : ∀ (z : Nat) (ds : List UInt8), valF (List.replicate z 48 ++ ds) 0 = valF ds 0
  | 0, ds => by simp
  | z + 1, ds => by
    rw [List.replicate_succ, List.cons_append]
    exact zs_val z ds
/-- A number with noughts ahead. -/
def nmS (u z : Nat) : List UInt8 := List.replicate z 48 ++ Lib.decDigits u
theorem nmS_ok (u z : Nat) : nmS u z ≠ [] ∧ (∀ d ∈ nmS u z, digN d.toNat = true) ∧ fitsP (nmS u z) = decide (u ≤ 4611686018427387903) := by
  obtain ⟨q1, q2, q3⟩ := dd_dig u u (Nat.le_refl _)
  refine ⟨by simp [nmS, q3], fun d hd => ?_, by unfold fitsP nmS; rw [zs_val, q2]⟩
  rcases List.mem_append.1 hd with hd | hd
  · rw [(List.mem_replicate.1 hd).2]; decide
  · exact q1 d hd
theorem nmS_len (u z : Nat) (hu : (u : Int) ≤ 9223372036854775807) (hz : z ≤ 30) : (nmS u z).length ≤ 51 := by
  have hl := Lib.itoa_length_le (u : Int) (by omega) hu
  rw [Lib.itoa_nonneg] at hl
  unfold nmS
  rw [List.length_append, List.length_replicate]
  omega
theorem nmS_succ (u z : Nat) : 48 :: nmS u z = nmS u (z + 1) := by
  unfold nmS
  rw [List.replicate_succ, List.cons_append]
/-- What Parse tells of it. -/
theorem nm_good (u z : Nat) (hu : u ≤ 4611686018427387903) : textP (nmT (nmS u z)) = (nmTree (nmS u z), 0, 0) := by
  obtain ⟨q1, q2, q3⟩ := nmS_ok u z
  unfold textP
  rw [cut_num q1 q2 (by rw [q3]; exact decide_eq_true hu)]
  dsimp only
  obtain ⟨c, r, hc⟩ : ∃ c r, nmS u z = c :: r := by cases h : nmS u z with | nil => exact absurd h q1 | cons c r => exact ⟨c, r, rfl⟩
  rw [hc]
  exact read_num c r _ (q2 c (by rw [hc]; simp))
theorem nm_bad (u z : Nat) (hu : ¬ u ≤ 4611686018427387903) : (textP (nmT (nmS u z))).2 = (20, 6) := by
  obtain ⟨q1, q2, q3⟩ := nmS_ok u z
  have := cut_big q1 q2 (by rw [q3]; exact decide_eq_false hu)
  unfold textP
  rw [this]
  rfl
end Go.Proofs.YtablincnlfbjnabDoor
