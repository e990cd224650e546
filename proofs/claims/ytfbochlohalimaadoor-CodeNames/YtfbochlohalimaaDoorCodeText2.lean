/- The document's own Text, of any number. -/
import Derived.Test.YtfbochlohalimaaDoorCodeText
import Derived.Lib.ItoaLen
import Derived.Lib.ItoaMem
namespace Go.Proofs.YtfbochlohalimaaDoor
set_option maxRecDepth 100000
open Go.RowKit Go.Maps Go.ChangeShapes Go.WideShapes Go.ChangeAt Go.Deep

set_option maxHeartbeats 400000 in
theorem text_more (w : World) (u d : Nat) (D T : ByteArray) (h : 10 ≤ u) (hu : (u : Int) ≤ 9223372036854775807) (hd : (u : Int) % 10 = (d : Int)) (_ : d < 10) (hD : D.size ≤ 10) (hT : T.size ≤ 100)
    (S1 : ∀ w, (Instr.sliceAt 9 (.string ⟨#[48, 49, 50, 51, 52, 53, 54, 55, 56, 57]⟩) (some (.int .i64 (d : Int))) (some (.int .i64 ((d : Int) + 1))) none).run Tryd.prog w = .ok (.string D) w)
    (_ : ∀ w, (Instr.slice 9 (.string ⟨#[48, 49, 50, 51, 52, 53, 54, 55, 56, 57]⟩) (some (.int .i64 (d : Int))) (some (.int .i64 ((d : Int) + 1))) none).run Tryd.prog w = .ok (.string D) w)
    (C : Hid (∀ w, Calls Tryd.prog 39 #[.int .i64 ((u : Int) / 10)] w fun e w' => e = .returned (.string T) ∧ ∃ k, w' = w.drewN k)) :
    Calls Tryd.prog 39 #[.int .i64 (u : Int)] w fun e w' => e = .returned (.string (T ++ D)) ∧ ∃ k, w' = w.drewN k := by
  have h0 : ¬ (u : Int) < 0 := by omega
  have h1 : ¬ (u : Int) < 10 := by omega
  have hwq : IntKind.i64.wrap ((u : Int) / 10) = (u : Int) / 10 := by rw [IntKind.wrap_i64]; omega
  have htm : (u : Int).tmod 10 = (d : Int) := by rw [Int.tmod_eq_emod_of_nonneg (by omega)]; exact hd
  have hw1 : IntKind.i64.wrap ((d : Int) + 1) = (d : Int) + 1 := by rw [IntKind.wrap_i64]; omega
  have hsz : ¬ (9223372036854775807 : Int) < ((T.size + D.size : Nat) : Int) := by omega
  have hszn : ¬ 9223372036854775807 < T.size + D.size := by omega
  go_enter Tryd.func39, Tryd.ntmps39
  go_wp2_with fail
  go_quiet ((go_at_call 39; exact Calls.quiet_of (unhide C _)))
  go_wp2_with fail
  go_ret
  exact ⟨rfl, _, rfl⟩

theorem text_nat : ∀ (N u : Nat), u ≤ N → (u : Int) ≤ 9223372036854775807 → ∀ w, Calls Tryd.prog 39 #[.int .i64 (u : Int)] w fun e w' => e = .returned (.string ⟨(Lib.decDigits u).toArray⟩) ∧ ∃ k, w' = w.drewN k
  | N, u, h, hu, w => by
    by_cases h10 : u < 10
    · exact text_dig w u h10
    · match N, h with
      | 0, h => omega
      | N + 1, h =>
        have C := text_nat N (u / 10) (by omega) (by omega)
        rw [show ((u / 10 : Nat) : Int) = (u : Int) / 10 by omega] at C
        have hl := Lib.itoa_length_le (u : Int) (by omega) hu
        rw [Lib.itoa_nonneg] at hl
        have e : Lib.decDigits u = Lib.decDigits (u / 10) ++ [UInt8.ofNat (48 + u % 10)] := by rw [Lib.decDigits, dif_neg h10]
        rw [e] at hl ⊢
        rw [← ba_append]
        have hT : (⟨(Lib.decDigits (u / 10)).toArray⟩ : ByteArray).size ≤ 100 := by
          show (Lib.decDigits (u / 10)).toArray.size ≤ 100
          simp at hl ⊢
          omega
        exact text_more w u (u % 10) _ _ (by omega) hu (by omega) (Nat.mod_lt _ (by decide)) (by show [UInt8.ofNat (48 + u % 10)].toArray.size ≤ 10; simp) hT (fun w => sl_dig w _ (Nat.mod_lt _ (by decide))) (fun w => sl_dig2 w _ (Nat.mod_lt _ (by decide))) (hide C)

theorem min_text : Lib.itoa (-9223372036854775808) = [45, 57, 50, 50, 51, 51, 55, 50, 48, 51, 54, 56, 53, 52, 55, 55, 53, 56, 48, 56] := by
  have := Lib.itoa_neg 9223372036854775808 (by decide)
  rw [show (-((9223372036854775808 : Nat) : Int)) = -9223372036854775808 by rfl] at this
  rw [this]
  simp [Lib.decDigits]
set_option maxHeartbeats 400000 in
theorem text_min (w : World) : Calls Tryd.prog 39 #[.int .i64 (-9223372036854775808)] w fun e w' => e = .returned (.string ⟨(Lib.itoa (-9223372036854775808)).toArray⟩) ∧ G w w' := by
  rw [min_text]
  have hw1 : IntKind.i64.wrap 9223372036854775808 = -9223372036854775808 := by decide +kernel
  have hw2 : wrap64 9223372036854775808 = -9223372036854775808 := by decide +kernel
  have hw3 : IntKind.i64.wrap (- -9223372036854775808) = -9223372036854775808 := by decide +kernel
  go_enter Tryd.func39, Tryd.ntmps39
  go_wp2_with fail
  go_ret
  exact ⟨rfl, G.refl w⟩
set_option maxHeartbeats 400000 in
theorem text_neg (w : World) (u : Nat) (T : ByteArray) (h0 : 0 < u) (hu : (u : Int) ≤ 9223372036854775807) (hT : T.size ≤ 100) (C : Hid (∀ w, Calls Tryd.prog 39 #[.int .i64 (u : Int)] w fun e w' => e = .returned (.string T) ∧ ∃ k, w' = w.drewN k)) :
    Calls Tryd.prog 39 #[.int .i64 (-(u : Int))] w fun e w' => e = .returned (.string ((⟨#[45]⟩ : ByteArray) ++ T)) ∧ G w w' := by
  have h1 : -(u : Int) < 0 := by omega
  have h2 : (-(u : Int) == (u : Int)) = false := beq_eq_false_iff_ne.2 (by omega)
  go_enter Tryd.func39, Tryd.ntmps39
  go_wp2_with fail
  refine (unhide C _).mono ?_
  rintro e w1 ⟨rfl, k, rfl⟩
  clear C
  go_wp2_with fail
  go_ret
  exact ⟨rfl, G.drewN w k⟩
theorem text_any (n : Int) (hn : oI n) (w : World) : Calls Tryd.prog 39 #[.int .i64 n] w fun e w' => e = .returned (.string ⟨(Lib.itoa n).toArray⟩) ∧ G w w' := by
  by_cases h0 : 0 ≤ n
  · obtain ⟨u, rfl⟩ := Int.eq_ofNat_of_zero_le h0
    refine (text_nat u u (Nat.le_refl _) hn.2 w).mono ?_
    rintro e w' ⟨rfl, k, rfl⟩
    rw [Lib.itoa_nonneg]
    exact ⟨rfl, G.drewN w k⟩
  · by_cases hm : n = -9223372036854775808
    · rw [hm]; exact text_min w
    · obtain ⟨u, rfl⟩ : ∃ u : Nat, n = -(u : Int) := ⟨n.natAbs, by omega⟩
      have hb := hn.1
      have hl := Lib.itoa_length_le (u : Int) (by omega) (by omega)
      rw [Lib.itoa_nonneg] at hl
      have := text_neg w u ⟨(Lib.decDigits u).toArray⟩ (by omega) (by omega) (by show (Lib.decDigits u).toArray.size ≤ 100; simp; omega) (hide (text_nat u u (Nat.le_refl _) (by omega)))
      rw [Lib.itoa_neg u (by omega)]
      rw [show (⟨#[45]⟩ : ByteArray) = ⟨[45].toArray⟩ from rfl, ba_append] at this
      exact this
end Go.Proofs.YtfbochlohalimaaDoor
