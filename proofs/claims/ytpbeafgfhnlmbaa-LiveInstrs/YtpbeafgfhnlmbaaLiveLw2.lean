/- More of what the laws of gantlinelaw10 share: plain. -/
import Derived.Test.YtpbeafgfhnlmbaaLiveLw
import Derived.Laws.BitsLemmas
namespace Go.Proofs.Ytpbeafgfhnlmbaa
set_option maxRecDepth 100000
open Go.RowKit

theorem i64_and65535 (n : Int) : bits .and .i64 n 65535 = n % 65536 := by
  have h127 : (BitVec.ofInt 64 65535).toNat = 2 ^ 16 - 1 := by decide
  have key : (BitVec.ofInt 64 n &&& BitVec.ofInt 64 65535).toNat = (n % ((2 ^ 64 : Nat) : Int)).toNat % 2 ^ 16 := by
    rw [BitVec.toNat_and, BitVec.toNat_ofInt, h127, Nat.and_two_pow_sub_one_eq_mod]
  show IntKind.i64.wrap ((BitVec.ofInt 64 n &&& BitVec.ofInt 64 65535).toNat : Nat) = n % 65536
  rw [key, IntKind.wrap_i64]
  omega
theorem shr_bit (v : Nat) (a : Nat) (hv : v < 18446744073709551616) (hb : v.testBit a = true) : bits .and .u64 ((v : Int) / 2 ^ a) 1 = 1 := by
  have e : ((v : Int) / 2 ^ a) = ((v / 2 ^ a : Nat) : Int) := by simp
  rw [e]
  have hlt : v / 2 ^ a < 18446744073709551616 := Nat.lt_of_le_of_lt (Nat.div_le_self _ _) hv
  have := bits_and_u64_nat (v / 2 ^ a) 1 hlt (by decide)
  rw [show ((1 : Nat) : Int) = 1 from rfl] at this
  rw [this]
  rw [Nat.testBit_eq_decide_div_mod_eq] at hb
  have hb := of_decide_eq_true hb
  rw [Nat.and_one_is_mod, hb]
  rfl
theorem msk_skip {l : List Int} {k : Nat} {a : Int} (h : l[k]? = some a) (ha : ¬ (0 ≤ a ∧ a < 64)) : mskP (l.take (k + 1)) = mskP (l.take k) := by
  rw [List.take_add_one, h]
  have := msk_snoc (l.take k) a
  simp only [Option.toList_some]
  rw [this]
  unfold bitP
  rw [if_neg ha]
  exact Nat.or_zero _
theorem msk_next {l : List Int} {k : Nat} {a : Int} (h : l[k]? = some a) : mskP (l.take (k + 1)) = mskP (l.take k) ||| bitP a := by
  rw [List.take_add_one, h]
  exact msk_snoc _ _
theorem plP_le (n : Nat) (l : List Int) : (plP n l).length ≤ n := by
  unfold plP
  rw [List.length_map]
  exact Nat.le_trans (List.length_filter_le _ _) (by simp)
theorem rd_bound {m : Md} {f : Fn} (hs : m.ca.length ≤ 60) (oF : oFn f) {k : Nat} {op A B C D : Int} (hi : f.is[k]? = some ⟨op, A, B, C, D⟩) : (rdP (md2 m f) ⟨op, A, B, C, D⟩).length ≤ 100000 := by
  by_cases h41 : op = 41
  · rw [rdP_41 _ _ h41]
    have h1 := cr_len (casesP (md2 m f) A B)
    have h2 : (casesP (md2 m f) A B).length ≤ (md2 m f).ca.length := by
      unfold casesP
      split
      · simp
      · rw [List.length_take, List.length_drop]; omega
    have h3 : (md2 m f).ca.length ≤ 60 := hs
    show ((casesP (md2 m f) A B).flatMap crP).length ≤ 100000
    omega
  · exact Nat.le_trans (rdP_ok (md2 m f) ⟨op, A, B, C, D⟩ (oF_is oF _ (List.mem_of_getElem? hi)) h41).2 (by decide)
end Go.Proofs.Ytpbeafgfhnlmbaa
