/- The contract of the document's own Take (gantlineref1.Take): the same function of the bytes. -/
import Derived.Test.YtdekhnfncecacaaDoorTakeLaw
namespace Go.Proofs.YtdekhnfncecacaaDoor
set_option maxRecDepth 100000
open Go.RowKit

theorem and127_all : ∀ a : Fin 256, a.val &&& 127 = a.val % 128 := by decide +kernel
theorem and127u_eq (c : Int) (h0 : 0 ≤ c) (h1 : c ≤ 255) : bits .and .u8 c 127 = ((c.toNat % 128 : Nat) : Int) := by
  obtain ⟨m, rfl⟩ := Int.eq_ofNat_of_zero_le h0
  have := u8_and_nat m 127 (by omega) (by decide)
  rw [and127_all ⟨m, by omega⟩] at this
  simpa using this
theorem orAt_eq2 (u k : Nat) (c : Int) (hu : u < 18446744073709551616) : bits .or .u64 (u : Int) (IntKind.u64.wrap (((c.toNat % 128 : Nat) : Int) * 2 ^ (7 * k))) = (orAt u k c : Int) := by
  rw [Nat.mul_comm]; exact orAt_eq u k c hu

set_option maxHeartbeats 600000 in
set_option maxRecDepth 100000 in
theorem rtake_row (b off n cap : Nat) (zs : List Int) (w : World) (hz : zs.length = n) (hby : ∀ z ∈ zs, 0 ≤ z ∧ z ≤ 255) (hc : ∀ i, i < n → w.cell? ⟨b, off + i, none⟩ = some (.int .u8 (zs.getD i 0))) (hn : n ≤ 10000000) :
    Calls Tryd.prog 72 #[.slice (some ⟨b, off, none⟩) n cap] w fun e w' => e = .returned (.tuple #[.int .u64 ((takeF zs 0 0).1 : Int), .int .i64 ((takeF zs 0 0).2 : Int)]) ∧ w' = w := by
  have HZ := hide hz
  have HBY := hide hby
  have HC := hide hc
  obtain ⟨r1, r2, hr⟩ : ∃ r1 r2, takeF zs 0 0 = (r1, r2) := ⟨_, _, rfl⟩
  rw [hr]
  have HR := hide hr
  clear hz hby hc hr
  go_enter Tryd.func72, Tryd.ntmps72
  go_wp2
  go_loop [4, 5] (fun u i => ∃ k uk : Nat, k ≤ n ∧ k ≤ 9 ∧ i = .int .i64 k ∧ u = .int .u64 uk ∧ uk < 18446744073709551616 ∧ Hid (takeF (zs.drop k) k uk = (r1, r2))) (fun _ i => n - (intOf i).toNat)
  case atStart => exact ⟨0, 0, Nat.zero_le _, by omega, rfl, rfl, by omega, HR⟩
  case round =>
    obtain ⟨k, uk, hk, hk9, rfl, rfl, huk, HT⟩ := hrel
    by_cases hlt : k < n
    · have hcell := unhide HC k hlt
      have hcb : 0 ≤ zs.getD k 0 ∧ zs.getD k 0 ≤ 255 := by
        have hl : k < zs.length := by rw [unhide HZ]; exact hlt
        have := unhide HBY (zs[k]) (List.getElem_mem hl)
        simpa [List.getD, hl] using this
      have HD := hide (drop_cons zs k (by rw [unhide HZ]; exact hlt))
      generalize zs.getD k 0 = c at *
      have ea := and127u_eq c hcb.1 hcb.2
      have eo := orAt_eq2 uk k c huk
      have ho := orAt_lt uk k c huk
      have HT2 : Hid (takeF (c :: zs.drop (k + 1)) k uk = (r1, r2)) := by rw [← unhide HD]; exact unhide HT
      have HS := hide (take_step c (zs.drop (k + 1)) k uk r1 r2 (unhide HT2))
      clear HT HD HT2
      have hx : (((c.toNat % 128 : Nat)) : Int) ≤ 127 := by omega
      generalize orAt uk k c = v at *
      generalize c.toNat % 128 = x at *
      obtain ⟨hc0, hc1⟩ := hcb
      by_cases h9 : k = 9
      · have b9 : ((k : Int) == 9) = true := by simp [h9]
        have H9 := hide h9
        clear h9
        by_cases hA : 1 < c
        · have HE := hide ((unhide HS).1 ⟨unhide H9, hA⟩)
          clear HS
          go_wp2
          go_ret2
          exact ⟨ret_two (by rw [(unhide HE).1]; rfl) (by rw [(unhide HE).2]; rfl), rfl⟩
        · have hk0 : (0 : Int) < (k : Int) := by have := unhide H9; omega
          by_cases hC : c = 0
          · have HE := hide ((unhide HS).2.2.1 (by omega) (by omega) ⟨hC, by omega⟩)
            have bc : (c == 0) = true := by simp [hC]
            clear HS hC
            go_wp2
            go_ret2
            exact ⟨ret_two (by rw [(unhide HE).1]; rfl) (by rw [(unhide HE).2]; rfl), rfl⟩
          · have HE := hide ((unhide HS).2.2.2 (by omega) (by omega) (by omega))
            have bc : (c == 0) = false := beq_eq_false_iff_ne.2 hC
            clear HS
            go_wp2
            go_ret2
            exact ⟨ret_two (by rw [(unhide HE).1]) (by rw [(unhide HE).2]; simp), rfl⟩
      · have b9 : ((k : Int) == 9) = false := beq_eq_false_iff_ne.2 (by omega)
        by_cases hB : 128 ≤ c
        · have HE := hide ((unhide HS).2.1 (by omega) hB)
          have hk8 : k ≤ 8 := by omega
          clear HS
          go_wp2
          go_round
          case rel => exact ⟨k + 1, v, by omega, by omega, by go_num, by first | rfl | exact congrArg (Value.int .u64) eo, ho, HE⟩
          case measure => simp [intOf]; omega
        · by_cases hC : c = 0
          · have bc : (c == 0) = true := by simp [hC]
            by_cases hk0 : (0 : Int) < (k : Int)
            · have HE := hide ((unhide HS).2.2.1 (by omega) (by omega) ⟨hC, by omega⟩)
              clear HS hC
              go_wp2
              go_ret2
              exact ⟨ret_two (by rw [(unhide HE).1]; rfl) (by rw [(unhide HE).2]; rfl), rfl⟩
            · have HE := hide ((unhide HS).2.2.2 (by omega) (by omega) (by omega))
              clear HS hC
              go_wp2
              go_ret2
              exact ⟨ret_two (by rw [(unhide HE).1]) (by rw [(unhide HE).2]; simp), rfl⟩
          · have bc : (c == 0) = false := beq_eq_false_iff_ne.2 hC
            have HE := hide ((unhide HS).2.2.2 (by omega) (by omega) (by omega))
            clear HS
            go_wp2
            go_ret2
            exact ⟨ret_two (by rw [(unhide HE).1]) (by rw [(unhide HE).2]; simp), rfl⟩
    · obtain rfl : k = n := by omega
      have HE : Hid (r1 = 0 ∧ r2 = 0) := by
        have := unhide HT
        rw [List.drop_eq_nil_of_le (by rw [unhide HZ]; exact Nat.le_refl _)] at this
        simp [takeF] at this
        exact ⟨this.1.symm, this.2.symm⟩
      obtain ⟨h1, h2⟩ := unhide HE
      subst h1 h2
      clear HT HR HE
      go_wp2
      go_ret2
      exact ⟨rfl, rfl⟩

set_option maxHeartbeats 400000 in
theorem rtake_none (ao : Option Addr) (cap : Nat) (w : World) :
    Calls Tryd.prog 72 #[.slice ao 0 cap] w fun e w' => e = .returned (.tuple #[.int .u64 0, .int .i64 0]) ∧ w' = w := by
  go_enter Tryd.func72, Tryd.ntmps72
  go_wp2
  refine wp_loop_rounds 1 ?_
  rw [rounds_succ]
  go_wp2
  go_ret2
  exact ⟨rfl, rfl⟩

theorem rtake_any (ao : Option Addr) (n cap : Nat) (zs : List Int) (w : World) (h : Row w ao n zs) (hn : n ≤ 10000000) :
    Calls Tryd.prog 72 #[.slice ao n cap] w fun e w' => e = .returned (.tuple #[.int .u64 ((takeF zs 0 0).1 : Int), .int .i64 ((takeF zs 0 0).2 : Int)]) ∧ w' = w := by
  obtain ⟨hz, hby, h0 | ⟨b, off, e, hc⟩⟩ := h
  · subst h0
    have e : zs = [] := List.eq_nil_of_length_eq_zero hz
    rw [e]; exact rtake_none ao cap w
  · rw [e]; exact rtake_row b off n cap zs w hz hby hc hn
end Go.Proofs.YtdekhnfncecacaaDoor
