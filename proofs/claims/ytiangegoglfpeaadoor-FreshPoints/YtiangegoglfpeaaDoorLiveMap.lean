/- Maps of slots and kinds; a node grows. -/
import Derived.Test.YtiangegoglfpeaaDoorLiveRow
import Derived.Laws.Bits64b
namespace Go.Proofs.YtiangegoglfpeaaDoor
set_option maxRecDepth 100000
open Go.RowKit Go.Maps Go.ChangeShapes Go.WideShapes Go.ChangeAt Go.Deep

/-- A slot's bit; 0: it has none. -/
def bitP (s : Int) : Nat := if 0 ≤ s ∧ s < 64 then 2 ^ s.toNat else 0
def mskP (l : List Int) : Nat := l.foldl (fun a s => a ||| bitP s) 0
theorem bitP_lt (s : Int) : bitP s < 18446744073709551616 := by
  unfold bitP
  split
  · rename_i h
    have : 2 ^ s.toNat ≤ 2 ^ 63 := Nat.pow_le_pow_right (by decide) (by omega)
    omega
  · decide
theorem or_lt {a b : Nat} (ha : a < 18446744073709551616) (hb : b < 18446744073709551616) : a ||| b < 18446744073709551616 := Nat.or_lt_two_pow (n := 64) ha hb
theorem msk_lt' : ∀ (l : List Int) (a : Nat), a < 18446744073709551616 → l.foldl (fun a s => a ||| bitP s) a < 18446744073709551616
  | [], _, h => h
  | s :: l, _, h => msk_lt' l _ (or_lt h (bitP_lt s))
theorem msk_lt (l : List Int) : mskP l < 18446744073709551616 := msk_lt' l 0 (by decide)
theorem msk_snoc (l : List Int) (s : Int) : mskP (l ++ [s]) = mskP l ||| bitP s := by simp [mskP]

theorem wrapU (x : Int) : IntKind.u64.wrap x = x % 18446744073709551616 := by
  simp [IntKind.wrap, IntKind.signed, IntKind.bits]
theorem shl_bit (a : Int) (h : oI a) : IntKind.u64.wrap (2 ^ min (IntKind.u64.wrap a).toNat 64) = (bitP a : Int) := by
  obtain ⟨h1, h2⟩ := h
  rw [wrapU, wrapU]
  unfold bitP
  by_cases hc : 0 ≤ a ∧ a < 64
  · rw [if_pos hc]
    have e : min (a % 18446744073709551616).toNat 64 = a.toNat := by omega
    rw [e]
    have hp : 2 ^ a.toNat ≤ 2 ^ 63 := Nat.pow_le_pow_right (by decide) (by omega)
    have : ((2 : Int) ^ a.toNat) = ((2 ^ a.toNat : Nat) : Int) := by simp
    rw [this]
    obtain ⟨P, hP⟩ : ∃ P : Nat, P = 2 ^ a.toNat := ⟨_, rfl⟩
    rw [← hP] at hp ⊢
    omega
  · rw [if_neg hc]
    have e : min (a % 18446744073709551616).toNat 64 = 64 := by omega
    rw [e]
    decide
theorem or_bit (M : Nat) (a : Int) (hM : M < 18446744073709551616) (h : oI a) : bits .or .u64 (M : Int) (IntKind.u64.wrap (2 ^ min (IntKind.u64.wrap a).toNat 64)) = ((M ||| bitP a : Nat) : Int) := by
  rw [shl_bit a h]
  exact bits_or_u64_nat M (bitP a) hM (bitP_lt a)

/-- The map of the kinds that are true. -/
def kndN (l : List Bool) (n : Nat) : Nat := (List.range n).foldl (fun (a : Nat) (k : Nat) => if l[k]? = some true then a ||| bitP (k : Int) else a) 0
def kndP (l : List Bool) : Nat := kndN l l.length
theorem knd_succ (l : List Bool) (n : Nat) : kndN l (n + 1) = if l[n]? = some true then kndN l n ||| bitP (n : Int) else kndN l n := by
  unfold kndN
  rw [List.range_succ, List.foldl_append]
  rfl
theorem knd_lt (l : List Bool) : ∀ n, kndN l n < 18446744073709551616
  | 0 => by show 0 < 18446744073709551616; decide
  | n + 1 => by
    rw [knd_succ]
    split
    · exact or_lt (knd_lt l n) (bitP_lt _)
    · exact knd_lt l n
theorem or_bitN (M k : Nat) (hM : M < 18446744073709551616) (hk : k < 9223372036854775808) : bits .or .u64 (M : Int) (IntKind.u64.wrap (2 ^ min k 64)) = ((M ||| bitP (k : Int) : Nat) : Int) := by
  have h := or_bit M (k : Int) hM ⟨by omega, by omega⟩
  have e : (IntKind.u64.wrap (k : Int)).toNat = k := by rw [wrapU]; omega
  rw [e] at h
  exact h
/-- One cell is written anew; else only answers were drawn. -/
def UpC (w w' : World) (b off : Nat) (v : Value) : Prop := ∃ x : World, x.os = w.os ∧ x.tape = w.tape ∧ x.output = w.output ∧ x.heap = w.heap ∧ w' = x.setCell ⟨b, off, none⟩ v
end Go.Proofs.YtiangegoglfpeaaDoor
