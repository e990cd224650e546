/- The contract of bits.Take over any bytes of at most 1000: what the document says, as a function of the bytes. -/
import Derived.Test.YtdekhnfncecacaaDoorPutLaw
namespace Go.Proofs.YtdekhnfncecacaaDoor
set_option maxRecDepth 100000
open Go.RowKit

/-- Bytes that are read: n of them, the numbers zs. -/
def Row (w : World) (ao : Option Addr) (n : Nat) (zs : List Int) : Prop :=
  zs.length = n ∧ (∀ z ∈ zs, 0 ≤ z ∧ z ≤ 255) ∧ (n = 0 ∨ ∃ b off, ao = some ⟨b, off, none⟩ ∧ ∀ i, i < n → w.cell? ⟨b, off + i, none⟩ = some (.int .u8 (zs.getD i 0)))

theorem Row.later {w w' : World} {ao : Option Addr} {n : Nat} {zs : List Int} (h : Row w ao n zs) (hb : Below w.heap.size w w') : Row w' ao n zs := by
  refine ⟨h.1, h.2.1, ?_⟩
  rcases h.2.2 with h0 | ⟨b, off, e, hc⟩
  · exact Or.inl h0
  · exact Or.inr ⟨b, off, e, fun i hi => cell_later hb (hc i hi)⟩

theorem Row.src {w : World} {ao : Option Addr} {n : Nat} {zs : List Int} (h : Row w ao n zs) : Src w ao n zs := by
  refine ⟨h.1, fun hn => ?_⟩
  rcases h.2.2 with h0 | ⟨b, off, e, hc⟩
  · omega
  · refine ⟨_, e, fun j v hv => ?_⟩
    have hj : j < zs.length := by
      rcases Nat.lt_or_ge j zs.length with h | h
      · exact h
      · simp [List.getElem?_eq_none h] at hv
    have hplain : (⟨b, off, none⟩ : Addr).add j = ⟨b, off + j, none⟩ := by unfold Addr.add; split <;> simp_all
    rw [hplain, hc j (by rw [← h.1]; exact hj)]
    simp [List.getElem?_eq_getElem hj] at hv
    subst hv
    simp [List.getD, List.getElem?_eq_getElem hj]

/-- The number so far, with byte c at place k. -/
def orAt (u k : Nat) (c : Int) : Nat := u ||| (c.toNat % 128 * 2 ^ (k * 7) % 18446744073709551616)
/-- What Take answers from byte k on, with u so far: the number and how many bytes; 0, 0 if there is none. -/
def takeF : List Int → Nat → Nat → Nat × Nat
  | [], _, _ => (0, 0)
  | c :: r, k, u => if k = 9 ∧ 1 < c then (0, 0) else if 128 ≤ c then takeF r (k + 1) (orAt u k c) else if c = 0 ∧ 0 < k then (0, 0) else (orAt u k c, k + 1)

theorem andnot_all : ∀ a : Fin 256, a.val &&& (255 - 128) = a.val % 128 := by decide +kernel
theorem andnot_eq (c : Int) (h0 : 0 ≤ c) (h1 : c ≤ 255) : bits .andNot .u8 c 128 = ((c.toNat % 128 : Nat) : Int) := by
  obtain ⟨m, rfl⟩ := Int.eq_ofNat_of_zero_le h0
  have := u8_andNot_nat m 128 (by omega) (by decide)
  rw [andnot_all ⟨m, by omega⟩] at this
  simpa using this
theorem orAt_lt (u k : Nat) (c : Int) (hu : u < 18446744073709551616) : orAt u k c < 18446744073709551616 :=
  Nat.or_lt_two_pow (n := 64) hu (Nat.mod_lt _ (by decide))
theorem orAt_eq (u k : Nat) (c : Int) (hu : u < 18446744073709551616) : bits .or .u64 (u : Int) (IntKind.u64.wrap (((c.toNat % 128 : Nat) : Int) * 2 ^ (k * 7))) = (orAt u k c : Int) := by
  rw [up_eq, u64_or_nat _ _ hu (Nat.mod_lt _ (by decide))]
  rfl

theorem drop_cons (zs : List Int) (k : Nat) (h : k < zs.length) : zs.drop k = zs.getD k 0 :: zs.drop (k + 1) := by
  rw [List.drop_eq_getElem_cons h]; simp [List.getD, h]

theorem take_step (c : Int) (r : List Int) (k u r1 r2 : Nat) (h : takeF (c :: r) k u = (r1, r2)) :
    (k = 9 ∧ 1 < c → r1 = 0 ∧ r2 = 0) ∧ (¬ (k = 9 ∧ 1 < c) → 128 ≤ c → takeF r (k + 1) (orAt u k c) = (r1, r2)) ∧ (¬ (k = 9 ∧ 1 < c) → ¬ 128 ≤ c → c = 0 ∧ 0 < k → r1 = 0 ∧ r2 = 0)
      ∧ (¬ (k = 9 ∧ 1 < c) → ¬ 128 ≤ c → ¬ (c = 0 ∧ 0 < k) → r1 = orAt u k c ∧ r2 = k + 1) := by
  rw [takeF] at h
  refine ⟨fun h1 => ?_, fun h1 h2 => ?_, fun h1 h2 h3 => ?_, fun h1 h2 h3 => ?_⟩
  · rw [if_pos h1] at h; simp at h; exact ⟨h.1.symm, h.2.symm⟩
  · rw [if_neg h1, if_pos h2] at h; exact h
  · rw [if_neg h1, if_neg h2, if_pos h3] at h; simp at h; exact ⟨h.1.symm, h.2.symm⟩
  · rw [if_neg h1, if_neg h2, if_neg h3] at h; simp at h; exact ⟨h.1.symm, h.2.symm⟩

theorem ret_two {a b c d : Int} (h1 : a = b) (h2 : c = d) : Ending.returned (.tuple #[.int .u64 a, .int .i64 c]) = .returned (.tuple #[.int .u64 b, .int .i64 d]) := by rw [h1, h2]

set_option maxHeartbeats 600000 in
set_option maxRecDepth 100000 in
theorem take_row (b off n cap : Nat) (zs : List Int) (w : World) (hz : zs.length = n) (hby : ∀ z ∈ zs, 0 ≤ z ∧ z ≤ 255) (hc : ∀ i, i < n → w.cell? ⟨b, off + i, none⟩ = some (.int .u8 (zs.getD i 0))) (hn : n ≤ 10000000) :
    Calls Tryd.prog 83 #[.slice (some ⟨b, off, none⟩) n cap] w fun e w' => e = .returned (.tuple #[.int .u64 ((takeF zs 0 0).1 : Int), .int .i64 ((takeF zs 0 0).2 : Int)]) ∧ w' = w := by
  have HZ := hide hz
  have HBY := hide hby
  have HC := hide hc
  obtain ⟨r1, r2, hr⟩ : ∃ r1 r2, takeF zs 0 0 = (r1, r2) := ⟨_, _, rfl⟩
  rw [hr]
  have HR := hide hr
  clear hz hby hc hr
  go_enter Tryd.func83, Tryd.ntmps83
  go_wp2
  go_loop [4, 9] (fun u i => ∃ k uk : Nat, k ≤ n ∧ k ≤ 9 ∧ i = .int .i64 k ∧ u = .int .u64 uk ∧ uk < 18446744073709551616 ∧ Hid (takeF (zs.drop k) k uk = (r1, r2))) (fun _ i => n - (intOf i).toNat)
  case atStart => exact ⟨0, 0, Nat.zero_le _, by omega, rfl, rfl, by omega, HR⟩
  case round =>
    obtain ⟨k, uk, hk, hk9, rfl, rfl, huk, HT⟩ := hrel
    by_cases hlt : k < n
    · have hcell := unhide HC k hlt
      have hcb : 0 ≤ zs.getD k 0 ∧ zs.getD k 0 ≤ 255 := by
        have hl : k < zs.length := by rw [unhide HZ]; exact hlt
        have := unhide HBY (zs[k]) (List.getElem_mem hl)
        simpa [List.getD, hl] using this
      have HD := hide (drop_cons zs k (by rw [unhide HZ]; exact hlt))
      generalize zs.getD k 0 = c at *
      have ea := andnot_eq c hcb.1 hcb.2
      have eo := orAt_eq uk k c huk
      have ho := orAt_lt uk k c huk
      have HT2 : Hid (takeF (c :: zs.drop (k + 1)) k uk = (r1, r2)) := by rw [← unhide HD]; exact unhide HT
      have HS := hide (take_step c (zs.drop (k + 1)) k uk r1 r2 (unhide HT2))
      clear HT HD HT2
      have hx : (((c.toNat % 128 : Nat)) : Int) ≤ 127 := by omega
      generalize orAt uk k c = v at *
      generalize c.toNat % 128 = x at *
      obtain ⟨hc0, hc1⟩ := hcb
      by_cases h9 : k = 9
      · have b9 : ((k : Int) == 9) = true := by simp [h9]
        have H9 := hide h9
        clear h9
        by_cases hA : 1 < c
        · have HE := hide ((unhide HS).1 ⟨unhide H9, hA⟩)
          clear HS
          go_wp2
          go_ret2
          exact ⟨ret_two (by rw [(unhide HE).1]; rfl) (by rw [(unhide HE).2]; rfl), rfl⟩
        · have hk0 : (0 : Int) < (k : Int) := by have := unhide H9; omega
          by_cases hC : c = 0
          · have HE := hide ((unhide HS).2.2.1 (by omega) (by omega) ⟨hC, by omega⟩)
            have bc : (c == 0) = true := by simp [hC]
            clear HS hC
            go_wp2
            go_ret2
            exact ⟨ret_two (by rw [(unhide HE).1]; rfl) (by rw [(unhide HE).2]; rfl), rfl⟩
          · have HE := hide ((unhide HS).2.2.2 (by omega) (by omega) (by omega))
            have bc : (c == 0) = false := beq_eq_false_iff_ne.2 hC
            clear HS
            go_wp2
            go_ret2
            exact ⟨ret_two (by rw [(unhide HE).1]) (by rw [(unhide HE).2]; simp), rfl⟩
      · have b9 : ((k : Int) == 9) = false := beq_eq_false_iff_ne.2 (by omega)
        by_cases hB : 128 ≤ c
        · have HE := hide ((unhide HS).2.1 (by omega) hB)
          have hk8 : k ≤ 8 := by omega
          clear HS
          go_wp2
          go_round
          case rel => exact ⟨k + 1, v, by omega, by omega, by go_num, by first | rfl | exact congrArg (Value.int .u64) eo, ho, HE⟩
          case measure => simp [intOf]; omega
        · by_cases hC : c = 0
          · have bc : (c == 0) = true := by simp [hC]
            by_cases hk0 : (0 : Int) < (k : Int)
            · have HE := hide ((unhide HS).2.2.1 (by omega) (by omega) ⟨hC, by omega⟩)
              clear HS hC
              go_wp2
              go_ret2
              exact ⟨ret_two (by rw [(unhide HE).1]; rfl) (by rw [(unhide HE).2]; rfl), rfl⟩
            · have HE := hide ((unhide HS).2.2.2 (by omega) (by omega) (by omega))
              clear HS hC
              go_wp2
              go_ret2
              exact ⟨ret_two (by rw [(unhide HE).1]) (by rw [(unhide HE).2]; simp), rfl⟩
          · have bc : (c == 0) = false := beq_eq_false_iff_ne.2 hC
            have HE := hide ((unhide HS).2.2.2 (by omega) (by omega) (by omega))
            clear HS
            go_wp2
            go_ret2
            exact ⟨ret_two (by rw [(unhide HE).1]) (by rw [(unhide HE).2]; simp), rfl⟩
    · obtain rfl : k = n := by omega
      have HE : Hid (r1 = 0 ∧ r2 = 0) := by
        have := unhide HT
        rw [List.drop_eq_nil_of_le (by rw [unhide HZ]; exact Nat.le_refl _)] at this
        simp [takeF] at this
        exact ⟨this.1.symm, this.2.symm⟩
      obtain ⟨h1, h2⟩ := unhide HE
      subst h1 h2
      clear HT HR HE
      go_wp2
      go_ret2
      exact ⟨rfl, rfl⟩

set_option maxHeartbeats 400000 in
theorem take_none (ao : Option Addr) (cap : Nat) (w : World) :
    Calls Tryd.prog 83 #[.slice ao 0 cap] w fun e w' => e = .returned (.tuple #[.int .u64 0, .int .i64 0]) ∧ w' = w := by
  go_enter Tryd.func83, Tryd.ntmps83
  go_wp2
  refine wp_loop_rounds 1 ?_
  rw [rounds_succ]
  go_wp2
  go_ret2
  exact ⟨rfl, rfl⟩

theorem take_any (ao : Option Addr) (n cap : Nat) (zs : List Int) (w : World) (h : Row w ao n zs) (hn : n ≤ 10000000) :
    Calls Tryd.prog 83 #[.slice ao n cap] w fun e w' => e = .returned (.tuple #[.int .u64 ((takeF zs 0 0).1 : Int), .int .i64 ((takeF zs 0 0).2 : Int)]) ∧ w' = w := by
  obtain ⟨hz, hby, h0 | ⟨b, off, e, hc⟩⟩ := h
  · subst h0
    have e : zs = [] := List.eq_nil_of_length_eq_zero hz
    rw [e]; exact take_none ao cap w
  · rw [e]; exact take_row b off n cap zs w hz hby hc hn
end Go.Proofs.YtdekhnfncecacaaDoor
