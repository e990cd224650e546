/- Maps of slots and kinds; a node grows. -/
import Derived.Test.YtnliooflpclcbaaGreatDoorLiveRow
import Derived.Laws.Bits64b
namespace Go.Proofs.YtnliooflpclcbaaGreatDoor
set_option maxRecDepth 100000
open Go.RowKit Go.Maps Go.ChangeShapes Go.WideShapes Go.ChangeAt Go.Deep

/-- A slot's bit; 0: it has none. -/
def bitP (s : Int) : Nat := if 0 ≤ s ∧ s < 64 then 2 ^ s.toNat else 0
def mskP (l : List Int) : Nat := l.foldl (fun a s => a ||| bitP s) 0
theorem bitP_lt (s : Int) : bitP s < 18446744073709551616 := by
  unfold bitP
  split
  · rename_i h
    have : 2 ^ s.toNat ≤ 2 ^ 63 := Nat.pow_le_pow_right (by decide) (by omega)
    omega
  · decide
theorem or_lt {a b : Nat} (ha : a < 18446744073709551616) (hb : b < 18446744073709551616) : a ||| b < 18446744073709551616 := Nat.or_lt_two_pow (n := 64) ha hb
theorem msk_lt' : ∀ (l : List Int) (a : Nat), a < 18446744073709551616 → l.foldl (fun a s => a ||| bitP s) a < 18446744073709551616
  | [], _, h => h
  | s :: l, _, h => msk_lt' l _ (or_lt h (bitP_lt s))
theorem msk_lt (l : List Int) : mskP l < 18446744073709551616 := msk_lt' l 0 (by decide)
theorem msk_snoc (l : List Int) (s : Int) : mskP (l ++ [s]) = mskP l ||| bitP s := by simp [mskP]

theorem wrapU (x : Int) : IntKind.u64.wrap x = x % 18446744073709551616 := by
  simp [IntKind.wrap, IntKind.signed, IntKind.bits]
theorem shl_bit (a : Int) (h : oI a) : IntKind.u64.wrap (2 ^ min (IntKind.u64.wrap a).toNat 64) = (bitP a : Int) := by
  obtain ⟨h1, h2⟩ := h
  rw [wrapU, wrapU]
  unfold bitP
  by_cases hc : 0 ≤ a ∧ a < 64
  · rw [if_pos hc]
    have e : min (a % 18446744073709551616).toNat 64 = a.toNat := by omega
    rw [e]
    have hp : 2 ^ a.toNat ≤ 2 ^ 63 := Nat.pow_le_pow_right (by decide) (by omega)
    have : ((2 : Int) ^ a.toNat) = ((2 ^ a.toNat : Nat) : Int) := by simp
    rw [this]
    obtain ⟨P, hP⟩ : ∃ P : Nat, P = 2 ^ a.toNat := ⟨_, rfl⟩
    rw [← hP] at hp ⊢
    omega
  · rw [if_neg hc]
    have e : min (a % 18446744073709551616).toNat 64 = 64 := by omega
    rw [e]
    decide
theorem or_bit (M : Nat) (a : Int) (hM : M < 18446744073709551616) (h : oI a) : bits .or .u64 (M : Int) (IntKind.u64.wrap (2 ^ min (IntKind.u64.wrap a).toNat 64)) = ((M ||| bitP a : Nat) : Int) := by
  rw [shl_bit a h]
  exact bits_or_u64_nat M (bitP a) hM (bitP_lt a)

set_option maxHeartbeats 1000000 in
theorem slotMap_any (w : World) (v : Value) (l : List Int) (h : IsL w v l) (hn : l.length ≤ 1000000) (ho : ∀ s ∈ l, oI s) :
    Calls Tryz.prog 33 #[v] w fun e w' => e = .returned (.int .u64 (mskP l : Int)) ∧ w' = w := by
  obtain ⟨ao, c, rfl, hc, hget⟩ := h.get
  obtain ⟨n, hln⟩ : ∃ n, n = l.length := ⟨_, rfl⟩
  have RD : Hid (∀ (k : Nat), k < n → ∃ (b off : Nat) (a : Int), ao = some ⟨b, off, none⟩ ∧ w.cell? ⟨b, off + k, none⟩ = some (.int .i64 a) ∧ oI a ∧ mskP (l.take (k + 1)) = mskP (l.take k) ||| bitP a) := hide fun k hk => by
    obtain ⟨b, off, a, e, ha, hx⟩ := hget k (by omega)
    refine ⟨b, off, a, e, hx w (G.refl w), ho a (List.mem_of_getElem? ha), ?_⟩
    rw [List.take_add_one, ha]
    exact msk_snoc _ _
  have FI : Hid (mskP (l.take n) = mskP l) := hide (by rw [List.take_of_length_le (by omega)])
  have hnn : n ≤ 1000000 := by omega
  rw [← hln]
  clear h hget hn hln ho
  go_enter Tryz.func33, Tryz.ntmps33
  go_wp2_with fail
  go_loopw [3, 8] (fun b i wr => ∃ k : Nat, k ≤ n ∧ i = .int .i64 k ∧ b = .int .u64 (mskP (l.take k) : Int) ∧ w = wr) (fun _ i _ => n - (intOf i).toNat)
  case atStart => exact ⟨0, Nat.zero_le _, rfl, rfl, rfl⟩
  case round =>
    obtain ⟨k, hk, rfl, rfl, rfl⟩ := hrel
    by_cases hlt : k < n
    · obtain ⟨b, off, a, rfl, hc0, oa, hm⟩ := unhide RD k hlt
      have hA := hide (or_bit (mskP (l.take k)) a (msk_lt _) oa)
      go_wp2_with fail
      refine ⟨⟨k + 1, by omega, by go_num, ?_, trivial⟩, by simp [intOf]; omega⟩
      rw [unhide hA, hm]
    · obtain rfl : k = n := by omega
      rw [unhide FI]
      clear RD FI
      go_wp2_with fail
      go_ret
      exact ⟨rfl, rfl⟩
/-- The map of the kinds that are true. -/
def kndN (l : List Bool) (n : Nat) : Nat := (List.range n).foldl (fun (a : Nat) (k : Nat) => if l[k]? = some true then a ||| bitP (k : Int) else a) 0
def kndP (l : List Bool) : Nat := kndN l l.length
theorem knd_succ (l : List Bool) (n : Nat) : kndN l (n + 1) = if l[n]? = some true then kndN l n ||| bitP (n : Int) else kndN l n := by
  unfold kndN
  rw [List.range_succ, List.foldl_append]
  rfl
theorem knd_lt (l : List Bool) : ∀ n, kndN l n < 18446744073709551616
  | 0 => by show 0 < 18446744073709551616; decide
  | n + 1 => by
    rw [knd_succ]
    split
    · exact or_lt (knd_lt l n) (bitP_lt _)
    · exact knd_lt l n
theorem or_bitN (M k : Nat) (hM : M < 18446744073709551616) (hk : k < 9223372036854775808) : bits .or .u64 (M : Int) (IntKind.u64.wrap (2 ^ min k 64)) = ((M ||| bitP (k : Int) : Nat) : Int) := by
  have h := or_bit M (k : Int) hM ⟨by omega, by omega⟩
  have e : (IntKind.u64.wrap (k : Int)).toNat = k := by rw [wrapU]; omega
  rw [e] at h
  exact h
set_option maxHeartbeats 1000000 in
theorem kindMap_any (w : World) (ao : Option Addr) (n c : Nat) (l : List Bool) (hr : RowAt elB w ao n c l) (hn : n ≤ 1000000) :
    Calls Tryz.prog 12 #[.slice ao n c] w fun e w' => e = .returned (.int .u64 (kndP l : Int)) ∧ w' = w := by
  have hln := hr.1
  have RD : Hid (∀ (k : Nat), k < n → ∃ (b off : Nat) (a : Bool), ao = some ⟨b, off, none⟩ ∧ w.cell? ⟨b, off + k, none⟩ = some (.bool a) ∧ kndN l (k + 1) = if a then kndN l k ||| bitP (k : Int) else kndN l k) := hide fun k hk => by
    obtain ⟨b, off, a, cs, e, ha, ecs, hcs⟩ := row_get hr hk
    have ecs : cs = [.bool a] := ecs
    subst ecs
    refine ⟨b, off, a, e, ?_, ?_⟩
    · have := hcs w (G.refl w) 0 _ rfl
      simpa [elB] using this
    · rw [knd_succ, ha]
      cases a <;> simp
  have FI : Hid (kndN l n = kndP l) := hide (by unfold kndP; rw [hln])
  clear hr hln
  go_enter Tryz.func12, Tryz.ntmps12
  go_wp2_with fail
  go_loopw [3, 8] (fun b i wr => ∃ k : Nat, k ≤ n ∧ i = .int .i64 k ∧ b = .int .u64 (kndN l k : Int) ∧ w = wr) (fun _ i _ => n - (intOf i).toNat)
  case atStart => exact ⟨0, Nat.zero_le _, rfl, rfl, rfl⟩
  case round =>
    obtain ⟨k, hk, rfl, rfl, rfl⟩ := hrel
    by_cases hlt : k < n
    · obtain ⟨b, off, a, rfl, hc0, hm⟩ := unhide RD k hlt
      have hA := hide (or_bitN (kndN l k) k (knd_lt _ _) (by omega))
      have hk0 : (0 : Int) ≤ (k : Int) := by omega
      replace hm := hide hm
      cases a
      · go_wp2_with fail
        refine ⟨⟨k + 1, by omega, by go_num, ?_, trivial⟩, by simp [intOf]; omega⟩
        have := unhide hm
        simp at this
        rw [this]
      · go_wp2_with fail
        refine ⟨⟨k + 1, by omega, by go_num, ?_, trivial⟩, by simp [intOf]; omega⟩
        have := unhide hm
        simp at this
        rw [this]
        simpa using unhide hA
    · obtain rfl : k = n := by omega
      rw [unhide FI]
      clear RD FI
      go_wp2_with fail
      go_ret
      exact ⟨rfl, rfl⟩
/-- One cell is written anew; else only answers were drawn. -/
def UpC (w w' : World) (b off : Nat) (v : Value) : Prop := ∃ x : World, x.os = w.os ∧ x.tape = w.tape ∧ x.output = w.output ∧ x.heap = w.heap ∧ w' = x.setCell ⟨b, off, none⟩ v
set_option maxHeartbeats 1000000 in
theorem grow_any (w : World) (b off s k u : Nat) (hs : s < 18446744073709551616) (hk : k < 18446744073709551616) (hu : u < 18446744073709551616) (c0 : w.cell? ⟨b, off, none⟩ = some (.int .u64 (s : Int))) (c1 : w.cell? ⟨b, off + 1, none⟩ = some (.int .u64 (k : Int))) (f0 : w.frozen? ⟨b, off, none⟩ = false) :
    Calls Tryz.prog 38 #[.pointer (some ⟨b, off, none⟩), .int .u64 (u : Int)] w fun e w' => e = .returned (.bool (!decide (s ||| (u &&& k) = s))) ∧ UpC w w' b off (.int .u64 ((s ||| (u &&& k) : Nat) : Int)) := by
  have e1 := bits_and_u64_nat u k hu hk
  have hak : u &&& k < 18446744073709551616 := Nat.lt_of_le_of_lt Nat.and_le_left hu
  have e2 := bits_or_u64_nat s (u &&& k) hs hak
  obtain ⟨R, hR⟩ : ∃ R, R = s ||| (u &&& k) := ⟨_, rfl⟩
  obtain ⟨A, hA⟩ : ∃ A, A = u &&& k := ⟨_, rfl⟩
  rw [← hA] at e1 e2 hR
  rw [← hR] at e2
  rw [← hA, ← hR]
  have hne : ((R : Int) != (s : Int)) = !decide (R = s) := by
    by_cases h : R = s
    · subst h; simp
    · have : ¬ (R : Int) = (s : Int) := by omega
      simp [bne, h, this]
  clear hR hA hak hs hk hu
  go_enter Tryz.func38, Tryz.ntmps38
  go_wp2_with fail
  refine wp_region_noPanic ?_
  obtain ⟨y, hy⟩ : ∃ y, y = w.drew := ⟨_, rfl⟩
  have d0 : y.cell? ⟨b, off, none⟩ = some (.int .u64 (s : Int)) := by rw [hy]; exact c0
  have d1 : y.cell? ⟨b, off + 1, none⟩ = some (.int .u64 (k : Int)) := by rw [hy]; exact c1
  have df : y.frozen? ⟨b, off, none⟩ = false := by rw [hy]; exact f0
  have UP : Hid (UpC w (y.setCell ⟨b, off, none⟩ (.int .u64 (R : Int))) b off (.int .u64 (R : Int))) := hide (by rw [hy]; exact ⟨w.drew, rfl, rfl, rfl, rfl, rfl⟩)
  have K1 : Hid ((y.setCell ⟨b, off, none⟩ (.int .u64 (R : Int))).cell? ⟨b, off + 1, none⟩ = some (.int .u64 (k : Int))) := hide (by rw [cell_other _ (Or.inr (by omega))]; exact d1)
  have K0 : Hid ((y.setCell ⟨b, off, none⟩ (.int .u64 (R : Int))).cell? ⟨b, off, none⟩ = some (.int .u64 (R : Int))) := hide (cell_same _ d0)
  refine wp_region_held_drew (S := fun x => x.cell? ⟨b, off + 1, none⟩ = some (.int .u64 (k : Int))) (by kernel_rfl) (by rw [← hy]; exact d1) (fun hHeld => ?_)
  rw [← hy] at hHeld ⊢
  clear hy c0 c1 f0
  refine wpAnyH_take (i := 0) (v := .pointer (some ⟨b, off, none⟩)) rfl (by kernel_rfl) (by kernel_rfl) (by kernel_rfl) (fun _ _ _ h => h) (Or.inl ⟨by rfl, fun w hSw => by go_simp⟩) (by assumption) ?_
  try simp only [Act.put, List.getElem_toArray, List.getElem_cons_zero, List.setIfInBounds_toArray, List.set_cons_zero, List.set_cons_succ]
  refine wpAnyH_take (i := 1) (v := .pointer (some ⟨b, off, none⟩)) rfl (by kernel_rfl) (by kernel_rfl) (by kernel_rfl) (fun _ _ _ h => h) (Or.inl ⟨by rfl, fun w hSw => by go_simp⟩) (by assumption) ?_
  try simp only [Act.put, List.getElem_toArray, List.getElem_cons_succ, List.getElem_cons_zero, List.setIfInBounds_toArray, List.set_cons_zero, List.set_cons_succ]
  refine wpAnyH_take (i := 2) (v := .pointer (some ⟨b, off, none⟩)) rfl (by kernel_rfl) (by kernel_rfl) (by kernel_rfl) (fun _ _ _ h => h) (Or.inl ⟨by rfl, fun w hSw => by go_simp⟩) (by assumption) ?_
  try simp only [Act.put, List.getElem_toArray, List.getElem_cons_succ, List.getElem_cons_zero, List.setIfInBounds_toArray, List.set_cons_zero, List.set_cons_succ]
  refine wpAnyH_take (i := 4) (v := .int .u64 (u : Int)) rfl (by kernel_rfl) (by kernel_rfl) (by kernel_rfl) (fun _ _ _ h => h) (Or.inl ⟨by rfl, fun w hSw => by go_simp⟩) (by assumption) ?_
  try simp only [Act.put, List.getElem_toArray, List.getElem_cons_succ, List.getElem_cons_zero, List.setIfInBounds_toArray, List.set_cons_zero, List.set_cons_succ]
  refine wpAnyH_take (i := 5) (v := .pointer (some ⟨b, off, none⟩)) rfl (by kernel_rfl) (by kernel_rfl) (by kernel_rfl) (fun _ _ _ h => h) (Or.inl ⟨by rfl, fun w hSw => by go_simp⟩) (by assumption) ?_
  try simp only [Act.put, List.getElem_toArray, List.getElem_cons_succ, List.getElem_cons_zero, List.setIfInBounds_toArray, List.set_cons_zero, List.set_cons_succ]
  refine wpAnyH_take (i := 6) (v := .pointer (some ⟨b, off, none⟩)) rfl (by kernel_rfl) (by kernel_rfl) (by kernel_rfl) (fun _ _ _ h => h) (Or.inl ⟨by rfl, fun w hSw => by go_simp⟩) (by assumption) ?_
  try simp only [Act.put, List.getElem_toArray, List.getElem_cons_succ, List.getElem_cons_zero, List.setIfInBounds_toArray, List.set_cons_zero, List.set_cons_succ]
  refine wpAnyH_take (i := 7) (v := .pointer (some ⟨b, off + 1, none⟩)) rfl (by kernel_rfl) (by kernel_rfl) (by kernel_rfl) (fun _ _ _ h => h) (Or.inl ⟨by rfl, fun w hSw => by go_simp⟩) (by assumption) ?_
  try simp only [Act.put, List.getElem_toArray, List.getElem_cons_succ, List.getElem_cons_zero, List.setIfInBounds_toArray, List.set_cons_zero, List.set_cons_succ]
  refine wpAnyH_take (i := 8) (v := .int .u64 (k : Int)) rfl (by kernel_rfl) (by kernel_rfl) (by kernel_rfl) (fun _ _ _ h => h) (Or.inl ⟨by rfl, fun w hSw => by go_simp⟩) (by assumption) ?_
  try simp only [Act.put, List.getElem_toArray, List.getElem_cons_succ, List.getElem_cons_zero, List.setIfInBounds_toArray, List.set_cons_zero, List.set_cons_succ]
  refine wpAnyH_take (i := 9) (v := .int .u64 (A : Int)) rfl (by kernel_rfl) (by kernel_rfl) (by kernel_rfl) (fun _ _ _ h => h) (Or.inl ⟨by rfl, fun w hSw => by go_simp⟩) (by assumption) ?_
  try simp only [Act.put, List.getElem_toArray, List.getElem_cons_succ, List.getElem_cons_zero, List.setIfInBounds_toArray, List.set_cons_zero, List.set_cons_succ]
  refine wpAnyH_ready (rs := [3]) (by kernel_rfl) (by simp) ?_
  refine AllReadyH.cons rfl (fun K hK => ?_) AllReadyH.nil
  go_simp
  refine hK.out _ _ hHeld (fun hHeld => ?_)
  clear hK K
  try simp only [Act.put, List.getElem_toArray, List.getElem_cons_succ, List.getElem_cons_zero, List.setIfInBounds_toArray, List.set_cons_zero, List.set_cons_succ]
  refine wpAnyH_take (i := 10) (v := .int .u64 (R : Int)) rfl (by kernel_rfl) (by kernel_rfl) (by kernel_rfl) (fun _ _ _ h => h) (Or.inl ⟨by rfl, fun w hSw => by go_simp⟩) (by assumption) ?_
  try simp only [Act.put, List.getElem_toArray, List.getElem_cons_succ, List.getElem_cons_zero, List.setIfInBounds_toArray, List.set_cons_zero, List.set_cons_succ]
  refine wpAnyH_take (i := 11) (v := .pointer (some ⟨b, off, none⟩)) rfl (by kernel_rfl) (by kernel_rfl) (by kernel_rfl) (fun _ _ _ h => h) (Or.inl ⟨by rfl, fun w hSw => by go_simp⟩) (by assumption) ?_
  try simp only [Act.put, List.getElem_toArray, List.getElem_cons_succ, List.getElem_cons_zero, List.setIfInBounds_toArray, List.set_cons_zero, List.set_cons_succ]
  refine wpAnyH_take (i := 12) (v := .pointer (some ⟨b, off, none⟩)) rfl (by kernel_rfl) (by kernel_rfl) (by kernel_rfl) (fun _ _ _ h => h) (Or.inl ⟨by rfl, fun w hSw => by go_simp⟩) (by assumption) ?_
  try simp only [Act.put, List.getElem_toArray, List.getElem_cons_succ, List.getElem_cons_zero, List.setIfInBounds_toArray, List.set_cons_zero, List.set_cons_succ]
  refine wpAnyH_ready (rs := [13]) (by kernel_rfl) (by simp) ?_
  refine AllReadyH.cons rfl (fun K hK => ?_) AllReadyH.nil
  go_simp
  refine hK.out _ _ (unhide K1) (fun hHeld2 => ?_)
  clear hK K
  try simp only [Act.put, List.getElem_toArray, List.getElem_cons_succ, List.getElem_cons_zero, List.setIfInBounds_toArray, List.set_cons_zero, List.set_cons_succ]
  refine wpAnyH_done (by kernel_rfl) (NoPanic.normal ?_) _
  have k0 := unhide K0
  clear hHeld hHeld2 d0 d1 df K0 K1
  go_wp2_with fail
  go_ret
  exact ⟨rfl, unhide UP⟩
end Go.Proofs.YtnliooflpclcbaaGreatDoor
