/- Here: heads and shapes: the calls of package head. -/
import Derived.WalkKit
import Derived.OwnWalk
import Derived.Maps.AppendAt
import Derived.Deep.Draws
import Derived.Test.YtinehimleldkdaaGreatDoorRows
import Derived.WalkSpells
import Derived.WalkLawsBesides
import Derived.Deep.QuietTactic
import Derived.BigQuiet
import Derived.Handy
import Derived.DeepKeys4
import Derived.MapViews
import Derived.Maps.OwnSet
import Derived.Deep.Strs
import Derived.ProofKit
import Derived.OpenShut
import Derived.Deep.RegionLaw
import Derived.RegionTactic
import Derived.ChangeAlike
/- PLAIN ARITHMETIC of layer 3: heads and shapes; no Go in it. -/
namespace Go.Proofs.YtinehimleldkdaaGreatDoor.Hd
set_option maxRecDepth 100000
open Go.RowKit

theorem hide {p : Prop} (h : p) : Hid p := h
theorem unhide {p : Prop} (h : Hid p) : p := h.out

/-- v from lo to hi. -/
def inB (v lo hi : Int) : Bool := decide (lo ≤ v) && decide (v ≤ hi)
/-- The parts of a head that may be. -/
def hokB (a b c : Int) : Bool := inB a 1 64 && inB b 0 3 && inB c 0 65535
/-- A head's word. -/
def hw (a b c : Int) : Int := a + 128 * b + 1024 * c
/-- A word's parts. -/
def up0 (v : Int) : Int := v % 128
def up1 (v : Int) : Int := v / 128 % 8
def up2 (v : Int) : Int := v / 1024 % 65536
/-- A word that is a head's. -/
def uokB (v : Int) : Bool := inB v 0 67108863 && hokB (up0 v) (up1 v) (up2 v)
/-- A shape that may be. -/
def goodB (k f : Int) (m : Nat) : Bool :=
  if k = 0 ∨ k = 2 then inB f 0 63 && decide (m < 2 ^ f.toNat) else if k = 1 ∨ k = 3 then decide (f = 0) && decide (m ≤ 1) else false
/-- Which fields hold addresses. -/
def holdsB (k : Int) (m : Nat) (f n : Int) : Bool :=
  if f < 0 ∨ n < 2 ∨ n - 2 < f then false
  else if k = 0 ∨ k = 2 then m.testBit f.toNat else if k = 1 then m.testBit 0 else if k = 3 then m.testBit 0 && decide (4 ≤ f) else false

theorem inB_iff {v lo hi : Int} : inB v lo hi = true ↔ lo ≤ v ∧ v ≤ hi := by simp [inB]
theorem hokB_iff {a b c : Int} : hokB a b c = true ↔ (1 ≤ a ∧ a ≤ 64) ∧ (0 ≤ b ∧ b ≤ 3) ∧ (0 ≤ c ∧ c ≤ 65535) := by simp [hokB, inB_iff, and_assoc]

theorem hw_up {a b c : Int} (h : hokB a b c = true) : up0 (hw a b c) = a ∧ up1 (hw a b c) = b ∧ up2 (hw a b c) = c ∧ 0 < hw a b c ∧ hw a b c ≤ 67108863 := by
  rw [hokB_iff] at h
  unfold up0 up1 up2 hw
  omega
theorem hw_uok {a b c : Int} (h : hokB a b c = true) : uokB (hw a b c) = true := by
  obtain ⟨e0, e1, e2, e3, e4⟩ := hw_up h
  unfold uokB
  rw [e0, e1, e2, h]
  simp [inB]
  omega
/-- The head of a word's parts is the word, just if the word is one. -/
theorem up_hw (v : Int) (h : hokB (up0 v) (up1 v) (up2 v) = true) : (hw (up0 v) (up1 v) (up2 v) = v) ↔ inB v 0 67108863 = true := by
  rw [hokB_iff] at h
  rw [inB_iff]
  unfold up0 up1 up2 hw at *
  omega

/-- What is kept while memory is made. -/
abbrev G (w w' : World) : Prop := Below w.heap.size w w'
theorem G.refl (w : World) : G w w := Below.refl _ w
theorem G.drewN (w : World) (k : Nat) : G w (w.drewN k) := ⟨rfl, rfl, rfl, Nat.le_refl _, fun _ _ => rfl⟩
theorem G.alloc (w : World) (o : Obj) : G w (w.alloc o) := (Below.refl _ _).alloc (Nat.le_refl _) o
theorem G.trans {a b c : World} (h : G a b) (k : G b c) : G a c := Below.trans h (Below.mono k h.size)
theorem G.more {a b : World} (h : G a b) (o : Obj) : G a (b.alloc o) := Below.alloc h h.size o
theorem below_drewN {B : Nat} {a w : World} (h : Below B a w) (k : Nat) : Below B a (w.drewN k) := ⟨h.os, h.tape, h.output, h.size, h.block⟩
end Go.Proofs.YtinehimleldkdaaGreatDoor.Hd

/- The contracts of what package head calls, and of package head's calls on words. -/
namespace Go.Proofs.YtinehimleldkdaaGreatDoor.Hd
set_option maxRecDepth 100000
open Go.RowKit

theorem ret_int {k : IntKind} {a b : Int} (h : a = b) : Ending.returned (.int k a) = .returned (.int k b) := by rw [h]
theorem ret_bool {a b : Bool} (h : a = b) : Ending.returned (.bool a) = .returned (.bool b) := by rw [h]

theorem low_eq (n : Nat) (h : n ≤ 64) : IntKind.u64.wrap (IntKind.u64.wrap (2 ^ n) - 1) = ((2 ^ n - 1 : Nat) : Int) := by
  rw [IntKind.wrap_u64, IntKind.wrap_u64]
  have h0 : 0 < 2 ^ n := Nat.two_pow_pos n
  have h2 : 2 ^ n ≤ 2 ^ 64 := Nat.pow_le_pow_right (by decide) h
  have e : (2 : Int) ^ n = ((2 ^ n : Nat) : Int) := by simp
  rw [e]
  generalize 2 ^ n = m at *
  omega

set_option maxHeartbeats 400000 in
theorem low_any (n : Nat) (w : World) (h1 : n ≤ 64) :
    Calls Tryz.prog 87 #[.int .i64 (n : Int)] w fun e w' => e = .returned (.int .u64 ((2 ^ n - 1 : Nat) : Int)) ∧ w' = w := by
  have hl : IntKind.u64.wrap (IntKind.u64.wrap (2 ^ n) - 1) = ((2 ^ n - 1 : Nat) : Int) := low_eq n h1
  have HL := hide hl
  clear hl
  go_enter Tryz.func87, Tryz.ntmps87
  go_wp2
  go_ret
  exact ⟨ret_int (unhide HL), rfl⟩

set_option maxHeartbeats 400000 in
theorem inside_yes (a n : Int) (w : World) (h0 : 0 ≤ a) (h1 : 0 ≤ n) (h2 : a + n ≤ 64) :
    Calls Tryz.prog 86 #[.int .i64 a, .int .i64 n] w fun e w' => e = .returned (.bool true) ∧ w' = w := by
  have h3 : a ≤ 64 - n := by omega
  go_enter Tryz.func86, Tryz.ntmps86
  go_wp2
  go_ret
  exact ⟨by simp, rfl⟩

set_option maxHeartbeats 400000 in
theorem inside_no (a n : Int) (w : World) (hn : n ≤ 9223372036854775807) (h : a < 0 ∨ n < 0 ∨ 64 < a + n) :
    Calls Tryz.prog 86 #[.int .i64 a, .int .i64 n] w fun e w' => e = .returned (.bool false) ∧ w' = w := by
  by_cases h0 : a < 0
  · clear h
    go_enter Tryz.func86, Tryz.ntmps86
    go_wp2
    go_ret
    exact ⟨by simp, rfl⟩
  · by_cases h1 : n < 0
    · clear h
      go_enter Tryz.func86, Tryz.ntmps86
      go_wp2
      go_ret
      exact ⟨by simp, rfl⟩
    · have h3 : ¬ a ≤ 64 - n := by omega
      clear h
      go_enter Tryz.func86, Tryz.ntmps86
      go_wp2
      go_ret
      exact ⟨by simp, rfl⟩

/-- Bits a .. a + n - 1 of x. -/
def fieldN (x a n : Nat) : Nat := x / 2 ^ a % 2 ^ n

theorem field_eq (x a n : Nat) (hx : x < 18446744073709551616) (hn : n ≤ 64) : bits .and .u64 ((x : Int) / 2 ^ a) ((2 ^ n - 1 : Nat) : Int) = (fieldN x a n : Int) := by
  have e : (x : Int) / 2 ^ a = ((x / 2 ^ a : Nat) : Int) := by simp
  have h2 : 2 ^ n ≤ 2 ^ 64 := Nat.pow_le_pow_right (by decide) hn
  have h3 := Nat.div_le_self x (2 ^ a)
  have h4 : 0 < 2 ^ n := Nat.two_pow_pos n
  rw [e, u64_and_nat _ _ (by omega) (by omega), Nat.and_two_pow_sub_one_eq_mod]
  rfl

set_option maxHeartbeats 400000 in
theorem field_any (x a n : Nat) (w : World) (hx : x < 18446744073709551616) (h : a + n ≤ 64) :
    Calls Tryz.prog 56 #[.int .u64 (x : Int), .int .i64 (a : Int), .int .i64 (n : Int)] w fun e w' => e = .returned (.int .u64 (fieldN x a n : Int)) ∧ ∃ k, w' = w.drewN k := by
  have HF := hide (field_eq x a n hx (by omega))
  go_enter Tryz.func56, Tryz.ntmps56
  go_wp2_with (go_at_call 86; refine (inside_yes _ _ _ (by omega) (by omega) (by omega)).mono ?_; rintro e w' ⟨rfl, rfl⟩)
  go_quiet ((go_at_call 87; exact Calls.quiet_of_same (low_any _ _ (by omega))))
  go_wp2
  go_ret
  exact ⟨ret_int (by simpa using unhide HF), _, rfl⟩

set_option maxHeartbeats 400000 in
theorem field_out (x a n : Int) (w : World) (hn : n ≤ 9223372036854775807) (h : a < 0 ∨ n < 0 ∨ 64 < a + n) :
    Calls Tryz.prog 56 #[.int .u64 x, .int .i64 a, .int .i64 n] w fun e w' => e = .returned (.int .u64 0) ∧ w' = w := by
  have H := hide h
  clear h
  go_enter Tryz.func56, Tryz.ntmps56
  go_wp2_with (go_at_call 86; refine (inside_no _ _ _ hn (unhide H)).mono ?_; rintro e w' ⟨rfl, rfl⟩)
  go_ret
  exact ⟨rfl, rfl⟩
/-- Bit i of x. -/
def bitB (x i : Nat) : Bool := x.testBit i

theorem bit_eq (x i : Nat) (hx : x < 18446744073709551616) : (bits .and .u64 ((x : Int) / 2 ^ i) 1 == 1) = bitB x i := by
  have e : (x : Int) / 2 ^ i = ((x / 2 ^ i : Nat) : Int) := by simp
  have h3 := Nat.div_le_self x (2 ^ i)
  have a1 : bits .and .u64 ((x / 2 ^ i : Nat) : Int) 1 = ((x / 2 ^ i % 2 : Nat) : Int) := by
    have := u64_and_nat (x / 2 ^ i) 1 (by omega) (by decide)
    rw [Nat.and_one_is_mod] at this
    exact this
  rw [e, a1]
  unfold bitB
  rw [Nat.testBit_eq_decide_div_mod_eq]
  rw [Bool.eq_iff_iff]
  simp
  omega

set_option maxHeartbeats 400000 in
theorem bit_any (x i : Nat) (w : World) (hx : x < 18446744073709551616) (hi : i < 64) :
    Calls Tryz.prog 58 #[.int .u64 (x : Int), .int .i64 (i : Int)] w fun e w' => e = .returned (.bool (bitB x i)) ∧ w' = w := by
  have e := bit_eq x i hx
  go_enter Tryz.func58, Tryz.ntmps58
  go_wp2
  go_ret
  exact ⟨by simp, rfl⟩


set_option maxHeartbeats 400000 in
theorem within_any (v lo hi : Int) (w : World) :
    Calls Tryz.prog 59 #[.int .i64 v, .int .i64 lo, .int .i64 hi] w fun e w' => e = .returned (.bool (inB v lo hi)) ∧ w' = w := by
  by_cases h0 : lo ≤ v
  · by_cases h1 : v ≤ hi
    · go_enter Tryz.func59, Tryz.ntmps59
      go_wp2
      go_ret
      exact ⟨ret_bool (by simp [inB, h0, h1]), rfl⟩
    · go_enter Tryz.func59, Tryz.ntmps59
      go_wp2
      go_ret
      exact ⟨ret_bool (by simp [inB, h1]), rfl⟩
  · go_enter Tryz.func59, Tryz.ntmps59
    go_wp2
    go_ret
    exact ⟨ret_bool (by simp [inB]; omega), rfl⟩

/-- The word of an int64, as a uint64. -/
def u64N (v : Int) : Nat := (v % 18446744073709551616).toNat
theorem u64N_eq (v : Int) : IntKind.u64.wrap v = (u64N v : Int) := by rw [IntKind.wrap_u64]; unfold u64N; omega
theorem u64N_lt (v : Int) : u64N v < 18446744073709551616 := by unfold u64N; omega

set_option maxHeartbeats 400000 in
theorem part_any (v : Int) (a n : Nat) (w : World) (h : a + n ≤ 64) (hs : fieldN (u64N v) a n < 9223372036854775808) :
    Calls Tryz.prog 97 #[.int .i64 v, .int .i64 (a : Int), .int .i64 (n : Int)] w fun e w' => e = .returned (.int .i64 (fieldN (u64N v) a n : Int)) ∧ ∃ k, w' = w.drewN k := by
  have C := hide (field_any (u64N v) a n w (u64N_lt v) h)
  have E := hide (u64N_eq v)
  generalize fieldN (u64N v) a n = q at *
  go_enter Tryz.func97, Tryz.ntmps97
  go_wp2_with fail
  rw [unhide E]
  refine (unhide C).mono ?_
  rintro e w' ⟨rfl, k, rfl⟩
  go_wp2_with fail
  go_ret
  exact ⟨rfl, _, rfl⟩
end Go.Proofs.YtinehimleldkdaaGreatDoor.Hd

/- The contracts of package head's calls on words and shapes. -/
namespace Go.Proofs.YtinehimleldkdaaGreatDoor.Hd
set_option maxRecDepth 100000
open Go.RowKit

/-! ### Pack -/
theorem i64_or_nat (a b : Nat) (ha : a < 4294967296) (hb : b < 4294967296) : bits .or .i64 (a : Int) (b : Int) = ((a ||| b : Nat) : Int) := by
  show IntKind.i64.wrap ((BitVec.ofInt 64 (a : Int) ||| BitVec.ofInt 64 (b : Int)).toNat : Int) = _
  have h : a ||| b < 2 ^ 32 := Nat.or_lt_two_pow ha hb
  rw [BitVec.toNat_or, ofInt_u64 a (by omega), ofInt_u64 b (by omega), IntKind.wrap_i64]
  omega

theorem pack_eq (a b c : Nat) (ha : a ≤ 64) (hb : b ≤ 3) (hc : c ≤ 65535) :
    bits .or .i64 (bits .or .i64 (a : Int) ((b : Int) * 128)) ((c : Int) * 1024) = hw a b c := by
  have e1 : a ||| b * 128 = b * 128 + a := by rw [Nat.or_comm]; exact nat_join 7 _ _ (by omega) (by omega)
  have e2 : (b * 128 + a) ||| c * 1024 = c * 1024 + (b * 128 + a) := by rw [Nat.or_comm]; exact nat_join 10 _ _ (by omega) (by omega)
  have h1 := i64_or_nat a (b * 128) (by omega) (by omega)
  have h2 := i64_or_nat (b * 128 + a) (c * 1024) (by omega) (by omega)
  rw [show (b : Int) * 128 = ((b * 128 : Nat) : Int) by omega, show (c : Int) * 1024 = ((c * 1024 : Nat) : Int) by omega, h1, e1, h2, e2]
  unfold hw
  omega

set_option maxHeartbeats 400000 in
theorem pack_yes (a b c : Int) (w : World) (h : hokB a b c = true) :
    Calls Tryz.prog 26 #[.agg #[.int .i64 a, .int .i64 b, .int .i64 c]] w fun e w' => e = .returned (.tuple #[.int .i64 (hw a b c), .int .i64 0]) ∧ w' = w.alloc (.cells #[.int .i64 a, .int .i64 b, .int .i64 c] 56) := by
  have h' := hokB_iff.1 h
  have i0 : inB a 1 64 = true := inB_iff.2 h'.1
  have i1 : inB b 0 3 = true := inB_iff.2 h'.2.1
  have i2 : inB c 0 65535 = true := inB_iff.2 h'.2.2
  obtain ⟨x, rfl⟩ := Int.eq_ofNat_of_zero_le (show 0 ≤ a by omega)
  obtain ⟨y, rfl⟩ := Int.eq_ofNat_of_zero_le (show 0 ≤ b by omega)
  obtain ⟨z, rfl⟩ := Int.eq_ofNat_of_zero_le (show 0 ≤ c by omega)
  have E := hide (pack_eq x y z (by omega) (by omega) (by omega))
  generalize hw (x : Int) y z = q at *
  go_enter Tryz.func26, Tryz.ntmps26
  go_wp2_with (go_at_call 59; refine (within_any _ _ _ _).mono ?_; rintro e w' ⟨rfl, rfl⟩)
  go_ret2
  exact ⟨congrArg (fun t => Ending.returned (.tuple #[.int .i64 t, .int .i64 0])) (unhide E), rfl⟩

set_option maxHeartbeats 400000 in
theorem pack_no (a b c : Int) (w : World) (h : hokB a b c = false) :
    Calls Tryz.prog 26 #[.agg #[.int .i64 a, .int .i64 b, .int .i64 c]] w fun e w' => e = .returned (.tuple #[.int .i64 0, .int .i64 1]) ∧ w' = w.alloc (.cells #[.int .i64 a, .int .i64 b, .int .i64 c] 56) := by
  unfold hokB at h
  by_cases i0 : inB a 1 64 = true
  · by_cases i1 : inB b 0 3 = true
    · have i2 : inB c 0 65535 = false := by rw [i0, i1] at h; simpa using h
      clear h
      go_enter Tryz.func26, Tryz.ntmps26
      go_wp2_with (go_at_call 59; refine (within_any _ _ _ _).mono ?_; rintro e w' ⟨rfl, rfl⟩)
      go_ret2
      exact ⟨rfl, rfl⟩
    · have i1 : inB b 0 3 = false := by simpa using i1
      clear h
      go_enter Tryz.func26, Tryz.ntmps26
      go_wp2_with (go_at_call 59; refine (within_any _ _ _ _).mono ?_; rintro e w' ⟨rfl, rfl⟩)
      go_ret2
      exact ⟨rfl, rfl⟩
  · have i0 : inB a 1 64 = false := by simpa using i0
    clear h
    go_enter Tryz.func26, Tryz.ntmps26
    go_wp2_with (go_at_call 59; refine (within_any _ _ _ _).mono ?_; rintro e w' ⟨rfl, rfl⟩)
    go_ret2
    exact ⟨rfl, rfl⟩

/-- What Pack answers. -/
def pkV (a b c : Int) : Int := if hokB a b c = true then hw a b c else 0
def pkE (a b c : Int) : Int := if hokB a b c = true then 0 else 1
theorem pack_any (a b c : Int) (w : World) :
    Calls Tryz.prog 26 #[.agg #[.int .i64 a, .int .i64 b, .int .i64 c]] w fun e w' => e = .returned (.tuple #[.int .i64 (pkV a b c), .int .i64 (pkE a b c)]) ∧ w' = w.alloc (.cells #[.int .i64 a, .int .i64 b, .int .i64 c] 56) := by
  by_cases h : hokB a b c = true
  · rw [pkV, if_pos h, pkE, if_pos h]; exact pack_yes a b c w h
  · rw [pkV, if_neg h, pkE, if_neg h]; exact pack_no a b c w (by simpa using h)

/-! ### Unpack -/
theorem part0 (v : Int) : (fieldN (u64N v) 0 7 : Int) = up0 v := by unfold fieldN u64N up0; omega
theorem part1 (v : Int) : (fieldN (u64N v) 7 3 : Int) = up1 v := by unfold fieldN u64N up1; omega
theorem part2 (v : Int) : (fieldN (u64N v) 10 16 : Int) = up2 v := by unfold fieldN u64N up2; omega
theorem part0_any (v : Int) (w : World) : Calls Tryz.prog 97 #[.int .i64 v, .int .i64 0, .int .i64 7] w fun e w' => e = .returned (.int .i64 (up0 v)) ∧ ∃ k, w' = w.drewN k := by
  rw [← part0]; exact part_any v 0 7 w (by omega) (by unfold fieldN; omega)
theorem part1_any (v : Int) (w : World) : Calls Tryz.prog 97 #[.int .i64 v, .int .i64 7, .int .i64 3] w fun e w' => e = .returned (.int .i64 (up1 v)) ∧ ∃ k, w' = w.drewN k := by
  rw [← part1]; exact part_any v 7 3 w (by omega) (by unfold fieldN; omega)
theorem part2_any (v : Int) (w : World) : Calls Tryz.prog 97 #[.int .i64 v, .int .i64 10, .int .i64 16] w fun e w' => e = .returned (.int .i64 (up2 v)) ∧ ∃ k, w' = w.drewN k := by
  rw [← part2]; exact part_any v 10 16 w (by omega) (by unfold fieldN; omega)

set_option maxHeartbeats 400000 in
theorem unpack_core (v a b c p q : Int) (w : World)
    (C0 : Hid (∀ w, Calls Tryz.prog 97 #[.int .i64 v, .int .i64 0, .int .i64 7] w fun e w' => e = .returned (.int .i64 a) ∧ ∃ k, w' = w.drewN k))
    (C1 : Hid (∀ w, Calls Tryz.prog 97 #[.int .i64 v, .int .i64 7, .int .i64 3] w fun e w' => e = .returned (.int .i64 b) ∧ ∃ k, w' = w.drewN k))
    (C2 : Hid (∀ w, Calls Tryz.prog 97 #[.int .i64 v, .int .i64 10, .int .i64 16] w fun e w' => e = .returned (.int .i64 c) ∧ ∃ k, w' = w.drewN k))
    (CP : Hid (∀ w, Calls Tryz.prog 26 #[.agg #[.int .i64 a, .int .i64 b, .int .i64 c]] w fun e w' => e = .returned (.tuple #[.int .i64 p, .int .i64 q]) ∧ w' = w.alloc (.cells #[.int .i64 a, .int .i64 b, .int .i64 c] 56)))
    (t1 : (q != 0) = false) (t2 : (p != v) = false) :
    Calls Tryz.prog 75 #[.int .i64 v] w fun e w' =>
      e = .returned (.tuple #[.agg #[.int .i64 a, .int .i64 b, .int .i64 c], .int .i64 0]) ∧ G w w' := by
  go_enter Tryz.func75, Tryz.ntmps75
  go_wp2_with fail
  refine (unhide C0 _).mono ?_
  rintro e w1 ⟨rfl, k1, rfl⟩
  go_wp2_with fail
  refine (unhide C1 _).mono ?_
  rintro e w1 ⟨rfl, k2, rfl⟩
  go_wp2_with fail
  refine (unhide C2 _).mono ?_
  rintro e w1 ⟨rfl, k3, rfl⟩
  go_wp2_with fail
  refine (unhide CP _).mono ?_
  rintro e w1 ⟨rfl, rfl⟩
  go_wp2_with fail
  go_returns
  refine ⟨rfl, ?_⟩
  go_grown
  exact below_drewN (G.alloc _ _) _

set_option maxHeartbeats 400000 in
theorem unpack_core_no (v a b c p q : Int) (w : World)
    (C0 : Hid (∀ w, Calls Tryz.prog 97 #[.int .i64 v, .int .i64 0, .int .i64 7] w fun e w' => e = .returned (.int .i64 a) ∧ ∃ k, w' = w.drewN k))
    (C1 : Hid (∀ w, Calls Tryz.prog 97 #[.int .i64 v, .int .i64 7, .int .i64 3] w fun e w' => e = .returned (.int .i64 b) ∧ ∃ k, w' = w.drewN k))
    (C2 : Hid (∀ w, Calls Tryz.prog 97 #[.int .i64 v, .int .i64 10, .int .i64 16] w fun e w' => e = .returned (.int .i64 c) ∧ ∃ k, w' = w.drewN k))
    (CP : Hid (∀ w, Calls Tryz.prog 26 #[.agg #[.int .i64 a, .int .i64 b, .int .i64 c]] w fun e w' => e = .returned (.tuple #[.int .i64 p, .int .i64 q]) ∧ w' = w.alloc (.cells #[.int .i64 a, .int .i64 b, .int .i64 c] 56)))
    (t : (q != 0) = true ∨ (q != 0) = false ∧ (p != v) = true) :
    Calls Tryz.prog 75 #[.int .i64 v] w fun e w' =>
      e = .returned (.tuple #[.agg #[.int .i64 0, .int .i64 0, .int .i64 0], .int .i64 3]) ∧ G w w' := by
  rcases t with t1 | ⟨t1, t2⟩
  all_goals
    go_enter Tryz.func75, Tryz.ntmps75
    go_wp2_with fail
    refine (unhide C0 _).mono ?_
    rintro e w1 ⟨rfl, k1, rfl⟩
    go_wp2_with fail
    refine (unhide C1 _).mono ?_
    rintro e w1 ⟨rfl, k2, rfl⟩
    go_wp2_with fail
    refine (unhide C2 _).mono ?_
    rintro e w1 ⟨rfl, k3, rfl⟩
    go_wp2_with fail
    refine (unhide CP _).mono ?_
    rintro e w1 ⟨rfl, rfl⟩
    go_wp2_with fail
    go_returns
    refine ⟨rfl, ?_⟩
    go_grown
    exact below_drewN (G.alloc _ _) _

/-- What Unpack answers. -/
def ukV (v x : Int) : Int := if uokB v = true then x else 0
def ukE (v : Int) : Int := if uokB v = true then 0 else 3
theorem unpack_any (v : Int) (w : World) :
    Calls Tryz.prog 75 #[.int .i64 v] w fun e w' =>
      e = .returned (.tuple #[.agg #[.int .i64 (ukV v (up0 v)), .int .i64 (ukV v (up1 v)), .int .i64 (ukV v (up2 v))], .int .i64 (ukE v)]) ∧ G w w' := by
  by_cases h : uokB v = true
  · simp only [ukV, ukE, if_pos h]
    have h' := h
    unfold uokB at h'
    rw [Bool.and_eq_true] at h'
    refine unpack_core v _ _ _ _ _ w (hide (part0_any v)) (hide (part1_any v)) (hide (part2_any v)) (hide (pack_any _ _ _)) ?_ ?_
    · simp [pkE, h'.2]
    · simp [pkV, h'.2, (up_hw v h'.2).2 h'.1]
  · simp only [ukV, ukE, if_neg h]
    refine unpack_core_no v _ _ _ _ _ w (hide (part0_any v)) (hide (part1_any v)) (hide (part2_any v)) (hide (pack_any _ _ _)) ?_
    by_cases h2 : hokB (up0 v) (up1 v) (up2 v) = true
    · right
      refine ⟨by simp [pkE, h2], ?_⟩
      have h3 : ¬ inB v 0 67108863 = true := fun h4 => h (by simp [uokB, h2, h4])
      have h5 : ¬ hw (up0 v) (up1 v) (up2 v) = v := fun e => h3 ((up_hw v h2).1 e)
      simp [pkV, h2, h5]
    · left
      simp [pkE, h2]

/-! ### Good -/
theorem kinds4 (k : Int) : k = 0 ∨ k = 1 ∨ k = 2 ∨ k = 3 ∨ ((k == 0) = false ∧ (k == 1) = false ∧ (k == 2) = false ∧ (k == 3) = false) := by
  simp; omega

theorem shr_zero (m n : Nat) : ((m : Int) / 2 ^ n == 0) = decide (m < 2 ^ n) := by
  have e : (m : Int) / 2 ^ n = ((m / 2 ^ n : Nat) : Int) := by simp
  rw [e, Bool.eq_iff_iff]
  simp only [beq_iff_eq, decide_eq_true_eq]
  rw [show ((m / 2 ^ n : Nat) : Int) = 0 ↔ m / 2 ^ n = 0 by omega, Nat.div_eq_zero_iff]
  have := Nat.two_pow_pos n
  omega

set_option maxHeartbeats 400000 in
theorem good_02 (k f : Int) (m : Nat) (w : World) (hk : k = 0 ∨ k = 2) :
    Calls Tryz.prog 62 #[.agg #[.int .i64 k, .int .i64 f, .int .u64 (m : Int)]] w fun e w' => e = .returned (.bool (goodB k f m)) ∧ w' = w.alloc (.cells #[.int .i64 k, .int .i64 f, .int .u64 (m : Int)] 73) := by
  by_cases hf : inB f 0 63 = true
  · obtain ⟨n, rfl⟩ := Int.eq_ofNat_of_zero_le (inB_iff.1 hf).1
    have hn := (inB_iff.1 hf).2
    have E : goodB k n m = ((m : Int) / 2 ^ n == 0) := by rw [shr_zero]; unfold goodB; rw [if_pos hk, hf]; simp
    generalize goodB k n m = g at *
    have E' := hide E
    clear E
    rcases hk with rfl | rfl
    all_goals
      go_enter Tryz.func62, Tryz.ntmps62
      go_wp2_with (go_at_call 59; refine (within_any _ _ _ _).mono ?_; rintro e w' ⟨rfl, rfl⟩)
      go_ret
      exact ⟨ret_bool (by simpa using (unhide E').symm), rfl⟩
  · have hf : inB f 0 63 = false := by simpa using hf
    have E : goodB k f m = false := by unfold goodB; rw [if_pos hk, hf]; simp
    rw [E]
    clear E
    rcases hk with rfl | rfl
    all_goals
      go_enter Tryz.func62, Tryz.ntmps62
      go_wp2_with (go_at_call 59; refine (within_any _ _ _ _).mono ?_; rintro e w' ⟨rfl, rfl⟩)
      go_ret
      exact ⟨rfl, rfl⟩

set_option maxHeartbeats 400000 in
theorem good_13 (k f : Int) (m : Nat) (w : World) (hk : k = 1 ∨ k = 3) :
    Calls Tryz.prog 62 #[.agg #[.int .i64 k, .int .i64 f, .int .u64 (m : Int)]] w fun e w' => e = .returned (.bool (goodB k f m)) ∧ w' = w.alloc (.cells #[.int .i64 k, .int .i64 f, .int .u64 (m : Int)] 73) := by
  have E : goodB k f m = (decide (f = 0) && decide (m ≤ 1)) := by unfold goodB; rw [if_neg (by omega), if_pos hk]
  rw [E]
  clear E
  by_cases hf : f = 0
  · subst hf
    by_cases hm : (m : Int) ≤ 1
    · have hm' : m ≤ 1 := by omega
      rcases hk with rfl | rfl
      all_goals
        go_enter Tryz.func62, Tryz.ntmps62
        go_wp2_with fail
        go_ret
        exact ⟨ret_bool (by simp [hm']), rfl⟩
    · have hd : decide ((m : Int) ≤ 1) = false := by simpa using hm
      rcases hk with rfl | rfl
      all_goals
        go_enter Tryz.func62, Tryz.ntmps62
        go_wp2_with fail
        go_ret
        exact ⟨ret_bool (by simp; omega), rfl⟩
  · have hb : (f == 0) = false := by simpa using hf
    rcases hk with rfl | rfl
    all_goals
      go_enter Tryz.func62, Tryz.ntmps62
      go_wp2_with fail
      go_ret
      exact ⟨ret_bool (by simp [hf]), rfl⟩

set_option maxHeartbeats 400000 in
theorem good_any (k f : Int) (m : Nat) (w : World) :
    Calls Tryz.prog 62 #[.agg #[.int .i64 k, .int .i64 f, .int .u64 (m : Int)]] w fun e w' => e = .returned (.bool (goodB k f m)) ∧ w' = w.alloc (.cells #[.int .i64 k, .int .i64 f, .int .u64 (m : Int)] 73) := by
  rcases kinds4 k with h | h | h | h | ⟨h0, h1, h2, h3⟩
  · exact good_02 k f m w (Or.inl h)
  · exact good_13 k f m w (Or.inl h)
  · exact good_02 k f m w (Or.inr h)
  · exact good_13 k f m w (Or.inr h)
  · have E : goodB k f m = false := by
      unfold goodB
      simp at h0 h1 h2 h3
      rw [if_neg (by omega), if_neg (by omega)]
    rw [E]
    clear E
    go_enter Tryz.func62, Tryz.ntmps62
    go_wp2_with fail
    go_ret
    exact ⟨rfl, rfl⟩

/-! ### Holds -/
theorem field1_eq (m i : Nat) : ((fieldN m i 1 : Int) == 1) = m.testBit i := by
  rw [Nat.testBit_eq_decide_div_mod_eq, Bool.eq_iff_iff]
  unfold fieldN
  generalize m / 2 ^ i = y
  simp only [beq_iff_eq, decide_eq_true_eq]
  omega

set_option maxHeartbeats 400000 in
theorem elements_any (k f : Int) (m : Nat) (w : World) (hm : m < 18446744073709551616) :
    Calls Tryz.prog 77 #[.agg #[.int .i64 k, .int .i64 f, .int .u64 (m : Int)]] w fun e w' => e = .returned (.bool (m.testBit 0)) ∧ G w w' := by
  have C := hide (fun w => field_any m 0 1 w hm (by omega))
  have E := hide (field1_eq m 0)
  generalize m.testBit 0 = b at *
  generalize fieldN m 0 1 = q at *
  go_enter Tryz.func77, Tryz.ntmps77
  go_wp2_with fail
  refine (unhide C _).mono ?_
  rintro e w1 ⟨rfl, k1, rfl⟩
  go_wp2_with fail
  go_ret
  exact ⟨ret_bool (unhide E), below_drewN (G.alloc _ _) _⟩

end Go.Proofs.YtinehimleldkdaaGreatDoor.Hd

/- The contracts of Holds, and of the document's own answers on heads and shapes (gantlineref1: Bit, Pack, Unpack, GoodShape, Holds). -/
namespace Go.Proofs.YtinehimleldkdaaGreatDoor.Hd
set_option maxRecDepth 100000
open Go.RowKit

/-! ### Holds -/
set_option maxHeartbeats 400000 in
theorem holds_lo (k f : Int) (m : Nat) (i n : Int) (w : World) (h : n < 2) :
    Calls Tryz.prog 42 #[.agg #[.int .i64 k, .int .i64 f, .int .u64 (m : Int)], .int .i64 i, .int .i64 n] w fun e w' => e = .returned (.bool false) ∧ G w w' := by
  go_enter Tryz.func42, Tryz.ntmps42
  go_wp2_with fail
  go_ret
  exact ⟨rfl, G.alloc _ _⟩

set_option maxHeartbeats 400000 in
theorem holds_out (k f : Int) (m : Nat) (i n : Int) (w : World) (h : ¬ n < 2) (h9 : n ≤ 9223372036854775807) (hi : inB i 0 (n - 2) = false) :
    Calls Tryz.prog 42 #[.agg #[.int .i64 k, .int .i64 f, .int .u64 (m : Int)], .int .i64 i, .int .i64 n] w fun e w' => e = .returned (.bool false) ∧ G w w' := by
  have hd : decide (n < 2) = false := by simpa using h
  go_enter Tryz.func42, Tryz.ntmps42
  go_wp2_with (go_at_call 59; refine (within_any _ _ _ _).mono ?_; rintro e w' ⟨rfl, rfl⟩)
  go_ret
  exact ⟨rfl, G.alloc _ _⟩

set_option maxHeartbeats 400000 in
theorem holds_core (k f : Int) (m : Nat) (i n : Int) (q : Int) (b t c : Bool) (w : World) (h : ¬ n < 2) (h9 : n ≤ 9223372036854775807) (hi : inB i 0 (n - 2) = true)
    (CF : Hid (∀ w, Calls Tryz.prog 56 #[.int .u64 (m : Int), .int .i64 i, .int .i64 1] w fun e w' => e = .returned (.int .u64 q) ∧ ∃ k, w' = w.drewN k))
    (CE : Hid (∀ w, Calls Tryz.prog 77 #[.agg #[.int .i64 k, .int .i64 f, .int .u64 (m : Int)]] w fun e w' => e = .returned (.bool t) ∧ G w w'))
    (hq : (q == 1) = b) (hc : decide (4 ≤ i) = c) :
    Calls Tryz.prog 42 #[.agg #[.int .i64 k, .int .i64 f, .int .u64 (m : Int)], .int .i64 i, .int .i64 n] w fun e w' =>
      e = .returned (.bool (if k = 0 ∨ k = 2 then b else if k = 1 then t else if k = 3 then t && c else false)) ∧ G w w' := by
  have hd : decide (n < 2) = false := by simpa using h
  rcases kinds4 k with rfl | rfl | rfl | rfl | ⟨h0, h1, h2, h3⟩
  · simp only [true_or, if_true]
    go_enter Tryz.func42, Tryz.ntmps42
    go_wp2_with (go_at_call 59; refine (within_any _ _ _ _).mono ?_; rintro e w' ⟨rfl, rfl⟩)
    refine (unhide CF _).mono ?_
    rintro e w1 ⟨rfl, k1, rfl⟩
    go_wp2_with fail
    go_ret
    exact ⟨rfl, below_drewN (G.alloc _ _) _⟩
  · simp only [show ¬ ((1 : Int) = 0 ∨ (1 : Int) = 2) by omega, if_false, if_true]
    go_enter Tryz.func42, Tryz.ntmps42
    go_wp2_with (go_at_call 59; refine (within_any _ _ _ _).mono ?_; rintro e w' ⟨rfl, rfl⟩)
    refine (unhide CE _).mono ?_
    rintro e w1 ⟨rfl, g1⟩
    go_wp2_with fail
    go_ret
    exact ⟨rfl, G.trans (G.alloc _ _) g1⟩
  · simp only [or_true, if_true]
    go_enter Tryz.func42, Tryz.ntmps42
    go_wp2_with (go_at_call 59; refine (within_any _ _ _ _).mono ?_; rintro e w' ⟨rfl, rfl⟩)
    refine (unhide CF _).mono ?_
    rintro e w1 ⟨rfl, k1, rfl⟩
    go_wp2_with fail
    go_ret
    exact ⟨rfl, below_drewN (G.alloc _ _) _⟩
  · simp only [show ¬ ((3 : Int) = 0 ∨ (3 : Int) = 2) by omega, show ¬ ((3 : Int) = 1) by omega, if_false, if_true]
    cases t
    all_goals
      go_enter Tryz.func42, Tryz.ntmps42
      go_wp2_with (go_at_call 59; refine (within_any _ _ _ _).mono ?_; rintro e w' ⟨rfl, rfl⟩)
      refine (unhide CE _).mono ?_
      rintro e w1 ⟨rfl, g1⟩
      go_wp2_with fail
      go_ret
      exact ⟨ret_bool (by simp), G.trans (G.alloc _ _) g1⟩
  · have E : (if k = 0 ∨ k = 2 then b else if k = 1 then t else if k = 3 then t && c else false) = false := by
      simp at h0 h1 h2 h3
      rw [if_neg (by omega), if_neg h1, if_neg h3]
    rw [E]
    clear E CE CF
    go_enter Tryz.func42, Tryz.ntmps42
    go_wp2_with (go_at_call 59; refine (within_any _ _ _ _).mono ?_; rintro e w' ⟨rfl, rfl⟩)
    go_ret
    exact ⟨rfl, G.alloc _ _⟩

/-- Bit i of the word m, whatever i is. -/
def bitI (m : Nat) (i : Int) : Bool := decide (0 ≤ i) && decide (i < 64) && m.testBit i.toNat
theorem bitI_eq (m : Nat) (i : Int) (hm : m < 18446744073709551616) (h : 0 ≤ i) : bitI m i = m.testBit i.toNat := by
  unfold bitI
  by_cases h1 : i < 64
  · simp [h, h1]
  · simp only [h1, decide_false, Bool.and_false, Bool.false_and]
    refine (Nat.testBit_lt_two_pow (Nat.lt_of_lt_of_le hm ?_)).symm
    exact Nat.pow_le_pow_right (n := 2) (by omega) (show 64 ≤ i.toNat by omega)

/-- What Field answers at one bit. -/
theorem field1_any (m : Nat) (i : Int) (hm : m < 18446744073709551616) (h : 0 ≤ i) : ∃ q : Int, (q == 1) = m.testBit i.toNat ∧
    ∀ w, Calls Tryz.prog 56 #[.int .u64 (m : Int), .int .i64 i, .int .i64 1] w fun e w' => e = .returned (.int .u64 q) ∧ ∃ k, w' = w.drewN k := by
  obtain ⟨n, rfl⟩ := Int.eq_ofNat_of_zero_le h
  by_cases h1 : n < 64
  · exact ⟨_, field1_eq m n, fun w => field_any m n 1 w hm (by omega)⟩
  · refine ⟨0, ?_, fun w => (field_out m n 1 w (by omega) (by omega)).mono ?_⟩
    · rw [← bitI_eq m n hm (by omega)]
      simp [bitI]
      omega
    · rintro e w' ⟨rfl, rfl⟩
      exact ⟨rfl, 0, rfl⟩

theorem holds_any (k f : Int) (m : Nat) (i n : Int) (w : World) (hm : m < 18446744073709551616) (h9 : n ≤ 9223372036854775807) :
    Calls Tryz.prog 42 #[.agg #[.int .i64 k, .int .i64 f, .int .u64 (m : Int)], .int .i64 i, .int .i64 n] w fun e w' => e = .returned (.bool (holdsB k m i n)) ∧ G w w' := by
  by_cases h : n < 2
  · rw [show holdsB k m i n = false by unfold holdsB; rw [if_pos (by omega)]]
    exact holds_lo k f m i n w h
  by_cases hi : inB i 0 (n - 2) = true
  · have hi' := inB_iff.1 hi
    obtain ⟨q, hq, CF⟩ := field1_any m i hm hi'.1
    unfold holdsB
    rw [if_neg (by omega)]
    exact holds_core k f m i n q _ _ _ w h h9 hi (hide CF) (hide (fun w => elements_any k f m w hm)) hq rfl
  · rw [show holdsB k m i n = false by unfold holdsB; rw [if_pos]; rw [inB_iff] at hi; omega]
    exact holds_out k f m i n w h h9 (by simpa using hi)

/-! ### own, and the document's own answers -/

set_option maxHeartbeats 400000 in
theorem rbit_any (x : Nat) (i : Int) (w : World) (hx : x < 18446744073709551616) :
    Calls Tryz.prog 58 #[.int .u64 (x : Int), .int .i64 i] w fun e w' => e = .returned (.bool (bitI x i)) ∧ w' = w := by
  by_cases h0 : 0 ≤ i
  · by_cases h1 : i < 64
    · obtain ⟨n, rfl⟩ := Int.eq_ofNat_of_zero_le h0
      rw [bitI_eq x n hx h0]
      exact bit_any x n w hx (by omega)
    · have hd : decide (i < 64) = false := by simpa using h1
      rw [show bitI x i = false by simp [bitI, hd]]
      go_enter Tryz.func58, Tryz.ntmps58
      go_wp2
      go_ret
      exact ⟨rfl, rfl⟩
  · have hd : decide (0 ≤ i) = false := by simpa using h0
    rw [show bitI x i = false by simp [bitI, hd]]
    go_enter Tryz.func58, Tryz.ntmps58
    go_wp2
    go_ret
    exact ⟨rfl, rfl⟩

/-! Pack -/
set_option maxHeartbeats 400000 in
theorem rpack_any (a b c : Int) (w : World) :
    Calls Tryz.prog 81 #[.int .i64 a, .int .i64 b, .int .i64 c] w fun e w' => e = .returned (.tuple #[.int .i64 (pkV a b c), .bool (hokB a b c)]) ∧ w' = w := by
  by_cases h : hokB a b c = true
  · rw [h, pkV, if_pos h]
    have h' := hokB_iff.1 h
    have d0 : decide (a < 1) = false := by simp; omega
    have d1 : decide (64 < a) = false := by simp; omega
    have d2 : decide (b < 0) = false := by simp; omega
    have d3 : decide (3 < b) = false := by simp; omega
    have d4 : decide (c < 0) = false := by simp; omega
    have d5 : decide (65535 < c) = false := by simp; omega
    go_enter Tryz.func81, Tryz.ntmps81
    go_wp2_with fail
    go_ret2
    exact ⟨rfl, rfl⟩
  · have hf : hokB a b c = false := by simpa using h
    rw [hf, pkV, if_neg h]
    by_cases c0 : a < 1
    · clear h hf
      go_enter Tryz.func81, Tryz.ntmps81
      go_wp2_with fail
      go_ret2
      exact ⟨rfl, rfl⟩
    have d0 : decide (a < 1) = false := by simpa using c0
    by_cases c1 : 64 < a
    · clear h hf
      go_enter Tryz.func81, Tryz.ntmps81
      go_wp2_with fail
      go_ret2
      exact ⟨rfl, rfl⟩
    have d1 : decide (64 < a) = false := by simpa using c1
    by_cases c2 : b < 0
    · clear h hf
      go_enter Tryz.func81, Tryz.ntmps81
      go_wp2_with fail
      go_ret2
      exact ⟨rfl, rfl⟩
    have d2 : decide (b < 0) = false := by simpa using c2
    by_cases c3 : 3 < b
    · clear h hf
      go_enter Tryz.func81, Tryz.ntmps81
      go_wp2_with fail
      go_ret2
      exact ⟨rfl, rfl⟩
    have d3 : decide (3 < b) = false := by simpa using c3
    by_cases c4 : c < 0
    · clear h hf
      go_enter Tryz.func81, Tryz.ntmps81
      go_wp2_with fail
      go_ret2
      exact ⟨rfl, rfl⟩
    have d4 : decide (c < 0) = false := by simpa using c4
    have c5 : 65535 < c := by rw [hokB_iff] at h; omega
    clear h hf
    go_enter Tryz.func81, Tryz.ntmps81
    go_wp2_with fail
    go_ret2
    exact ⟨rfl, rfl⟩
end Go.Proofs.YtinehimleldkdaaGreatDoor.Hd

/- The contracts of the document's own answers on heads and shapes (gantlineref1: Unpack, GoodShape, Holds). -/
namespace Go.Proofs.YtinehimleldkdaaGreatDoor.Hd
set_option maxRecDepth 100000
open Go.RowKit

/-! Unpack -/
set_option maxHeartbeats 400000 in
theorem runpack_core (v a b c p : Int) (ok : Bool) (w : World) (h0 : ¬ v < 0) (h1 : ¬ 67108864 ≤ v) (ea : v % 128 = a) (eb : v / 128 % 8 = b) (ec : v / 1024 = c)
    (CP : Hid (∀ w, Calls Tryz.prog 81 #[.int .i64 a, .int .i64 b, .int .i64 c] w fun e w' => e = .returned (.tuple #[.int .i64 p, .bool ok]) ∧ w' = w)) :
    Calls Tryz.prog 50 #[.int .i64 v] w fun e w' =>
      e = .returned (.tuple #[.int .i64 (if ok = true then a else 0), .int .i64 (if ok = true then b else 0), .int .i64 (if ok = true then c else 0), .bool ok]) ∧ w' = w := by
  obtain ⟨n, rfl⟩ := Int.eq_ofNat_of_zero_le (show 0 ≤ v by omega)
  have hd : decide (67108864 ≤ (n : Int)) = false := by simp; omega
  cases ok
  all_goals
    go_enter Tryz.func50, Tryz.ntmps50
    go_wp2_with fail
    refine (unhide CP _).mono ?_
    rintro e w1 ⟨rfl, rfl⟩
    clear hd h0 h1 ea eb ec
    go_wp2_with fail
    go_returns
    exact ⟨rfl, rfl⟩

/-- What the document's Unpack answers. -/
theorem runpack_any (v : Int) (w : World) :
    Calls Tryz.prog 50 #[.int .i64 v] w fun e w' =>
      e = .returned (.tuple #[.int .i64 (ukV v (up0 v)), .int .i64 (ukV v (up1 v)), .int .i64 (ukV v (up2 v)), .bool (uokB v)]) ∧ w' = w := by
  by_cases h0 : v < 0
  · have E : uokB v = false := by simp [uokB, inB]; omega
    simp only [ukV, E, Bool.false_eq_true, if_false]
    clear E
    go_enter Tryz.func50, Tryz.ntmps50
    go_wp2_with fail
    go_returns
    exact ⟨rfl, rfl⟩
  by_cases h1 : 67108864 ≤ v
  · have E : uokB v = false := by simp [uokB, inB]; omega
    simp only [ukV, E, Bool.false_eq_true, if_false]
    clear E
    obtain ⟨n, rfl⟩ := Int.eq_ofNat_of_zero_le (show 0 ≤ v by omega)
    go_enter Tryz.func50, Tryz.ntmps50
    go_wp2_with fail
    go_returns
    exact ⟨rfl, rfl⟩
  · have E : hokB (up0 v) (up1 v) (up2 v) = uokB v := by
      have : inB v 0 67108863 = true := by simp [inB]; omega
      simp [uokB, this]
    simp only [ukV, ← E]
    exact runpack_core v _ _ _ _ _ w h0 h1 rfl rfl (by unfold up2; omega) (hide (rpack_any _ _ _))

set_option maxHeartbeats 400000 in
theorem rholds_any (k f : Int) (m : Nat) (i n : Int) (w : World) (hm : m < 18446744073709551616) (h9 : n ≤ 9223372036854775807) (hk : k = 0 ∨ k = 1 ∨ k = 2 ∨ k = 3) :
    Calls Tryz.prog 51 #[.agg #[.int .i64 k, .int .i64 f, .int .u64 (m : Int)], .int .i64 i, .int .i64 n] w fun e w' => e = .returned (.bool (holdsB k m i n)) ∧ G w w' := by
  by_cases h0 : i < 0
  · rw [show holdsB k m i n = false by unfold holdsB; rw [if_pos (by omega)]]
    clear hk
    go_enter Tryz.func51, Tryz.ntmps51
    go_wp2_with fail
    go_ret
    exact ⟨rfl, G.alloc _ _⟩
  have d0 : decide (i < 0) = false := by simpa using h0
  by_cases h1 : n < 2
  · rw [show holdsB k m i n = false by unfold holdsB; rw [if_pos (by omega)]]
    clear hk
    go_enter Tryz.func51, Tryz.ntmps51
    go_wp2_with fail
    go_ret
    exact ⟨rfl, G.alloc _ _⟩
  have d1 : decide (n < 2) = false := by simpa using h1
  by_cases h2 : n - 2 < i
  · rw [show holdsB k m i n = false by unfold holdsB; rw [if_pos (by omega)]]
    clear hk
    go_enter Tryz.func51, Tryz.ntmps51
    go_wp2_with fail
    go_ret
    exact ⟨rfl, G.alloc _ _⟩
  have d2 : decide (n - 2 < i) = false := by simpa using h2
  have E := hide (show holdsB k m i n = if k = 0 ∨ k = 2 then bitI m i else if k = 1 then bitI m 0 else bitI m 0 && decide (4 ≤ i) by
    rw [bitI_eq m i hm (by omega), bitI_eq m 0 hm (by omega)]
    unfold holdsB
    rw [if_neg (by omega)]
    rcases hk with rfl | rfl | rfl | rfl <;> simp)
  have CI := hide (fun w => rbit_any m i w hm)
  have C0 := hide (fun w => rbit_any m 0 w hm)
  generalize holdsB k m i n = r at *
  generalize bitI m i = bi at *
  generalize bitI m 0 = b0 at *
  rcases hk with rfl | rfl | rfl | rfl
  · obtain rfl : r = bi := by simpa using unhide E
    go_enter Tryz.func51, Tryz.ntmps51
    go_wp2_with fail
    refine (unhide CI _).mono ?_
    rintro e w1 ⟨rfl, rfl⟩
    go_wp2_with fail
    go_ret
    exact ⟨rfl, G.alloc _ _⟩
  · obtain rfl : r = b0 := by simpa using unhide E
    go_enter Tryz.func51, Tryz.ntmps51
    go_wp2_with fail
    refine (unhide C0 _).mono ?_
    rintro e w1 ⟨rfl, rfl⟩
    go_wp2_with fail
    go_ret
    exact ⟨rfl, G.alloc _ _⟩
  · obtain rfl : r = bi := by simpa using unhide E
    go_enter Tryz.func51, Tryz.ntmps51
    go_wp2_with fail
    refine (unhide CI _).mono ?_
    rintro e w1 ⟨rfl, rfl⟩
    go_wp2_with fail
    go_ret
    exact ⟨rfl, G.alloc _ _⟩
  · have E2 : r = (b0 && decide (4 ≤ i)) := by simpa using unhide E
    clear E
    by_cases h4 : 4 ≤ i
    · obtain rfl : r = b0 := by simpa [h4] using E2
      clear E2
      go_enter Tryz.func51, Tryz.ntmps51
      go_wp2_with fail
      refine (unhide C0 _).mono ?_
      rintro e w1 ⟨rfl, rfl⟩
      go_wp2_with fail
      go_ret
      exact ⟨rfl, G.alloc _ _⟩
    · have d4 : decide (4 ≤ i) = false := by simpa using h4
      obtain rfl : r = false := by simpa [h4] using E2
      clear E2
      go_enter Tryz.func51, Tryz.ntmps51
      go_wp2_with fail
      go_ret
      exact ⟨rfl, G.alloc _ _⟩

/-! GoodShape -/
theorem bits_out {m n : Nat} (h : m < 2 ^ n) (t : Nat) (ht : n ≤ t) : m.testBit t = false :=
  Nat.testBit_lt_two_pow (Nat.lt_of_lt_of_le h (Nat.pow_le_pow_right (by omega) ht))
theorem lt_of_bits {m n : Nat} (hm : m < 18446744073709551616) (h : ∀ t, n ≤ t → t < 64 → m.testBit t = false) : m < 2 ^ n := by
  refine Nat.lt_pow_two_of_testBit m fun t ht => ?_
  by_cases h64 : t < 64
  · exact h t ht h64
  · exact bits_out (n := 64) (by simpa using hm) t (by omega)

end Go.Proofs.YtinehimleldkdaaGreatDoor.Hd

/- Shapes as values, as data, as a map's keys. -/
namespace Go.Proofs.YtinehimleldkdaaGreatDoor.Hd
set_option maxRecDepth 100000
open Go.RowKit Go.Maps Go.ChangeShapes Go.WideShapes Go.ChangeAt Go.Deep

theorem own : ownKnob Tryz.prog.godebug = none := by kernel_rfl
theorem laidOut : laidOutB Tryz.prog = true := by kernel_rfl

/-- A shape: its kind, its fields, its map. -/
abbrev Shp : Type := Int × Int × Nat
def Shp.k (s : Shp) : Int := s.1
def Shp.f (s : Shp) : Int := s.2.1
def Shp.m (s : Shp) : Nat := s.2.2
theorem shp_ext {s t : Shp} (h0 : s.k = t.k) (h1 : s.f = t.f) (h2 : s.m = t.m) : s = t := Prod.ext h0 (Prod.ext h1 h2)

def Shp.cells (s : Shp) : List Value := [.int .i64 s.k, .int .i64 s.f, .int .u64 (s.m : Int)]
def Shp.val (s : Shp) : Value := .agg #[.int .i64 s.k, .int .i64 s.f, .int .u64 (s.m : Int)]
structure Shp.Fit (s : Shp) : Prop where
  k0 : (Lit.int .i64 s.k).wf = true
  f0 : (Lit.int .i64 s.f).wf = true
  m0 : s.m < 18446744073709551616

theorem wfm {m : Nat} (h : m < 18446744073709551616) : (Lit.int .u64 (m : Int)).wf = true := WalkArith.wf_u64 ⟨by omega, by omega⟩

theorem cells_shape : Tryz.prog.cellsOf 73 = 3 := by kernel_rfl
theorem cells_int : Tryz.prog.cellsOf 3 = 1 := by kernel_rfl
theorem cells_u64 : Tryz.prog.cellsOf 42 = 1 := by kernel_rfl
theorem row_shape : (73 : TypeId) < Tryz.prog.types.size := of_decide_eq_true (by kernel_rfl)
theorem deep_shape : Tryz.prog.keyTypeAt (Tryz.prog.types.size + 1) 73 = true := by kernel_rfl
theorem wide_shape : (match Tryz.prog.underlying 73 with | some (.array _ _) | some (.struct _) => true | _ => false) = true := by kernel_rfl
theorem keyed : Keyed Tryz.prog 73 := Keyed.of_law (deep_law_laid laidOut (m := 3) (by omega) row_shape (by kernel_rfl) wide_shape)

theorem trod_shp {H : Type} {enc : TypeId × Value → H} {w : World} {base : Nat} {spare : Nat → Bool} {held : Bool} (s : Shp) (h : s.Fit) :
    DataW.trod enc Tryz.prog w base spare held 2 73 s.cells = some (.agg [.lit (.int .i64 s.k), .lit (.int .i64 s.f), .lit (.int .u64 (s.m : Int))], []) := by
  have := trod_struct3_mk (enc := enc) (w := w) (base := base) (spare := spare) (held := held) (n := 1) (cs := s.cells) (y0 := (.lit (.int .i64 s.k), [])) (y1 := (.lit (.int .i64 s.f), [])) (y2 := (.lit (.int .u64 (s.m : Int)), []))
    Tryz.underlying73 (by rw [cells_shape]; rfl)
    (by simpa [cells_int, Shp.cells] using trod_int_mk 0 Tryz.underlying3 h.k0)
    (by simpa [cells_int, Shp.cells] using trod_int_mk 0 Tryz.underlying3 h.f0)
    (by simpa [cells_u64, Shp.cells] using trod_int_mk 0 Tryz.underlying42 (wfm h.m0))
  simpa using this

theorem Trod_shp {H : Type} {enc : TypeId × Value → H} {w : World} {base : Nat} {spare : Nat → Bool} {held : Bool} (s : Shp) (h : s.Fit) :
    DataW.Trod enc Tryz.prog w base spare held 73 s.val (.agg [.lit (.int .i64 s.k), .lit (.int .i64 s.f), .lit (.int .u64 (s.m : Int))]) [] :=
  ⟨2, by simpa [Shp.val, Value.cells, Shp.cells] using trod_shp s h⟩

/-- The key that a shape is. -/
def Shp.key (s : Shp) : Lit := (DataW.agg (H := Unit) [.lit (.int .i64 s.k), .lit (.int .i64 s.f), .lit (.int .u64 (s.m : Int))]).asKey

theorem formed_shp (s : Shp) : s.val.formed Tryz.prog 73 = true := by
  simp [Shp.val, Value.formed, Tryz.underlying73, cells_shape]

theorem keyOf_shp (s : Shp) (h : s.Fit) (w : World) : keyOf Tryz.prog 73 s.val = some s.key :=
  (keyOf_asKey deep_shape wide_shape (formed_shp s) (Trod_shp (enc := fun _ => ()) (w := w) (base := 0) (spare := fun _ => false) (held := false) s h)).1

theorem val_inj {s t : Shp} (h : s.val = t.val) : s = t := by
  simp [Shp.val] at h
  obtain ⟨h1, h2, h3⟩ := h
  exact shp_ext h1 h2 (by omega)

theorem key_inj {s t : Shp} (hs : s.Fit) (ht : t.Fit) (w : World) (h : s.key = t.key) : s = t :=
  val_inj (keyed.inj (keyOf_shp s hs w) (by rw [h]; exact keyOf_shp t ht w))
end Go.Proofs.YtinehimleldkdaaGreatDoor.Hd

/- A Table in memory, and the contracts of its calls. -/
namespace Go.Proofs.YtinehimleldkdaaGreatDoor.Hd
set_option maxRecDepth 100000
open Go.RowKit Go.Maps Go.ChangeShapes Go.WideShapes Go.ChangeAt Go.Deep

/-- The cells of a row of shapes. -/
def rowOf (l : List Shp) : List Value := l.flatMap Shp.cells
theorem rowOf_len : ∀ l : List Shp, (rowOf l).length = l.length * 3
  | [] => rfl
  | s :: r => by
    have := rowOf_len r
    unfold rowOf at *
    simp [Shp.cells, this]
    omega
theorem rowOf_snoc (l : List Shp) (s : Shp) : rowOf (l ++ [s]) = rowOf l ++ s.cells := by simp [rowOf]

/-- Block tb of w is a Table that holds the shapes l by their numbers; its map is block mb, its row at ao with room for cap; all from block B on. -/
structure TabAt (w : World) (B tb mb : Nat) (ao : Option Addr) (cap : Nat) (l : List Shp) : Prop where
  blk : w.heap[tb]? = some (.cells #[.map (some mb), .slice ao l.length cap] 121 (0, 0))
  btb : B ≤ tb
  bmb : B ≤ mb
  row : w.ownsRow B 73 3 (.slice ao l.length cap) l.length (rowOf l)
  map : ∃ D : DataW Unit, w.ownsMap Tryz.prog 73 (plainElem Tryz.prog 3) mb l.length D ∧ (∀ s : Shp, s.Fit → Maps.has D s.key = decide (s ∈ l)) ∧
    (∀ s : Shp, s ∈ l → D.atKey s.key (.lit (.int .i64 0)) = .lit (.int .i64 (l.idxOf s : Int)))
  fit : ∀ s, s ∈ l → s.Fit

/-- w' is w but for what the table's own blocks hold, and for new blocks. -/
structure Turn (w w' : World) (tb mb : Nat) (ao : Option Addr) : Prop where
  os : w'.os = w.os
  tape : w'.tape = w.tape
  output : w'.output = w.output
  size : w.heap.size ≤ w'.heap.size
  block : ∀ k, k < w.heap.size → k ≠ tb → k ≠ mb → (∀ a, ao = some a → k ≠ a.block) → w'.heap[k]? = w.heap[k]?

theorem Turn.of_G {w w' : World} {tb mb : Nat} {ao : Option Addr} (h : G w w') : Turn w w' tb mb ao := ⟨h.os, h.tape, h.output, h.size, fun k hk _ _ _ => h.block k hk⟩
theorem Turn.below {w w' : World} {tb mb B : Nat} {ao : Option Addr} (h : Turn w w' tb mb ao) (hB : B ≤ w.heap.size) (h1 : B ≤ tb) (h2 : B ≤ mb) (h3 : ∀ a, ao = some a → B ≤ a.block) : Below B w w' :=
  ⟨h.os, h.tape, h.output, h.size, fun k hk => h.block k (by omega) (by omega) (by omega) (fun a ha => by have := h3 a ha; omega)⟩

theorem TabAt.aoB {w : World} {B tb mb : Nat} {ao : Option Addr} {cap : Nat} {l : List Shp} (h : TabAt w B tb mb ao cap l) : ∀ a, ao = some a → B ≤ a.block ∧ a.block < w.heap.size := by
  intro a ha
  subst ha
  exact h.row.lt a.block rfl

theorem TabAt.tlt {w : World} {B tb mb : Nat} {ao : Option Addr} {cap : Nat} {l : List Shp} (h : TabAt w B tb mb ao cap l) : tb < w.heap.size := (Array.getElem?_eq_some_iff.1 h.blk).1
theorem TabAt.mlt {w : World} {B tb mb : Nat} {ao : Option Addr} {cap : Nat} {l : List Shp} (h : TabAt w B tb mb ao cap l) : mb < w.heap.size := by
  obtain ⟨D, h1, _⟩ := h.map
  exact h1.lt

/-- The table stays what it is while other blocks are written and new ones are made. -/
theorem TabAt.kept {w w' : World} {B tb mb : Nat} {ao : Option Addr} {cap : Nat} {l : List Shp} (h : TabAt w B tb mb ao cap l)
    (h1 : w'.heap[tb]? = w.heap[tb]?) (h2 : w'.heap[mb]? = w.heap[mb]?) (h3 : ∀ a, ao = some a → w'.heap[a.block]? = w.heap[a.block]?) : TabAt w' B tb mb ao cap l := by
  refine ⟨h1.trans h.blk, h.btb, h.bmb, ?_, ?_, h.fit⟩
  · refine ⟨h.row.1, ?_⟩
    rcases h.row.2 with hn | ⟨g, c, cur, e, hb, hg, rest⟩
    · exact Or.inl hn
    · refine Or.inr ⟨g, c, cur, e, hb, ?_, rest⟩
      have : ao = some ⟨g, 0, none⟩ := by injection e
      exact (h3 _ this).trans hg
  · obtain ⟨D, ⟨es, clock, hb, r⟩, hD⟩ := h.map
    exact ⟨D, ⟨es, clock, h2.trans hb, r⟩, hD⟩

theorem TabAt.grown {w w' : World} {B tb mb : Nat} {ao : Option Addr} {cap : Nat} {l : List Shp} (h : TabAt w B tb mb ao cap l) (g : G w w') : TabAt w' B tb mb ao cap l :=
  h.kept (g.block _ h.tlt) (g.block _ h.mlt) (fun a ha => g.block _ (h.aoB a ha).2)

theorem TabAt.cells {w : World} {B tb mb : Nat} {ao : Option Addr} {cap : Nat} {l : List Shp} (h : TabAt w B tb mb ao cap l) :
    w.cell? ⟨tb, 0, none⟩ = some (.map (some mb)) ∧ w.cell? ⟨tb, 1, none⟩ = some (.slice ao l.length cap) ∧ w.frozen? ⟨tb, 1, none⟩ = false := by
  have hb := h.blk
  simp [World.cell?, World.frozen?, hb]

/-! ### New -/
set_option maxHeartbeats 400000 in
theorem new_any (w : World) :
    Calls Tryz.prog 28 #[] w fun e w' => e = .returned (.pointer (some ⟨w.heap.size + 1, 0, none⟩)) ∧ w' = (w.alloc (.map #[] 0)).alloc (.cells #[.map (some w.heap.size), .slice none 0 0] 121) := by
  have hmm := @run_makeMap Tryz.prog
  go_enter Tryz.func28, Tryz.ntmps28
  go_wp2
  go_ret
  exact ⟨rfl, rfl⟩

theorem tab_new (w : World) (B : Nat) (hB : B ≤ w.heap.size) : TabAt ((w.alloc (.map #[] 0)).alloc (.cells #[.map (some w.heap.size), .slice none 0 0] 121)) B (w.heap.size + 1) w.heap.size none 0 [] where
  blk := by
    have := heap_alloc_new (w.alloc (.map #[] 0)) (.cells #[.map (some w.heap.size), .slice none 0 0] 121)
    rw [World.size_alloc] at this
    exact this
  btb := by omega
  bmb := hB
  row := World.ownsRow_nil _ _ _ _
  map := ⟨.map [], (World.ownsMap_made w _ _ _).alloc _, fun s _ => by simp [Maps.has_eq], fun s hs => by cases hs⟩
  fit := fun s hs => by cases hs

/-! ### Len, Shape -/
end Go.Proofs.YtinehimleldkdaaGreatDoor.Hd

/- The contracts of a Table's Shape and Number. -/
namespace Go.Proofs.YtinehimleldkdaaGreatDoor.Hd
set_option maxRecDepth 100000
open Go.RowKit Go.Maps Go.ChangeShapes Go.WideShapes Go.ChangeAt Go.Deep

theorem rowOf_get : ∀ (l : List Shp) (i : Nat) (s : Shp), l[i]? = some s → ∀ j, j < 3 → (rowOf l)[i * 3 + j]? = s.cells[j]?
  | [], i, s, h, j, hj => by simp at h
  | t :: r, 0, s, h, j, hj => by
    simp at h
    subst h
    unfold rowOf
    simp only [List.flatMap_cons]
    rw [List.getElem?_append_left (by simp [Shp.cells]; omega)]
    simp
  | t :: r, i + 1, s, h, j, hj => by
    have := rowOf_get r i s (by simpa using h) j hj
    unfold rowOf at *
    simp only [List.flatMap_cons]
    rw [List.getElem?_append_right (by simp [Shp.cells]; omega), ← this]
    congr 1
    simp [Shp.cells]
    omega

/-- The cells of the element i of a row of shapes. -/
theorem row_cells {w : World} {B : Nat} {l : List Shp} {g n cap : Nat} (h : w.ownsRow B 73 3 (.slice (some ⟨g, 0, none⟩) n cap) n (rowOf l)) {i : Nat} {s : Shp} (hi : l[i]? = some s) :
    w.cell? ⟨g, i * 3, none⟩ = some (.int .i64 s.k) ∧ w.cell? ⟨g, i * 3 + 1, none⟩ = some (.int .i64 s.f) ∧ w.cell? ⟨g, i * 3 + 2, none⟩ = some (.int .u64 (s.m : Int)) := by
  have hc := h.cells (g := g) rfl
  have e0 := hc (i * 3 + 0) _ ((rowOf_get l i s hi 0 (by omega)).trans rfl)
  have e1 := hc (i * 3 + 1) _ ((rowOf_get l i s hi 1 (by omega)).trans rfl)
  have e2 := hc (i * 3 + 2) _ ((rowOf_get l i s hi 2 (by omega)).trans rfl)
  rw [Addr.add_lit] at e0 e1 e2
  simp only [Nat.zero_add, Nat.add_zero] at e0 e1 e2
  exact ⟨e0, e1, e2⟩

set_option maxHeartbeats 400000 in
theorem shape_core (w : World) (tb g n cap : Nat) (i : Nat) (s : Shp) (c1 : w.cell? ⟨tb, 1, none⟩ = some (.slice (some ⟨g, 0, none⟩) n cap)) (hi : i < n) (hn : n ≤ maxLen)
    (e0 : w.cell? ⟨g, i * 3, none⟩ = some (.int .i64 s.k)) (e1 : w.cell? ⟨g, i * 3 + 1, none⟩ = some (.int .i64 s.f)) (e2 : w.cell? ⟨g, i * 3 + 2, none⟩ = some (.int .u64 (s.m : Int))) :
    Calls Tryz.prog 76 #[.pointer (some ⟨tb, 0, none⟩), .int .i64 (i : Int)] w fun e w' =>
      e = .returned (.tuple #[.agg #[.int .i64 s.k, .int .i64 s.f, .int .u64 (s.m : Int)], .int .i64 0]) ∧ G w w' := by
  have hin : inB (i : Int) 0 ((n : Int) - 1) = true := inB_iff.2 (by omega)
  have hn' : (n : Int) ≤ 9223372036854775807 := by unfold maxLen at hn; omega
  clear hn
  have htb : tb < w.heap.size := World.block_lt_of_cell? w _ c1
  have hgb : g < w.heap.size := World.block_lt_of_cell? w _ e0
  go_enter Tryz.func76, Tryz.ntmps76
  go_wp2_with (go_at_call 59; refine (within_any _ _ _ _).mono ?_; rintro e w' ⟨rfl, rfl⟩)
  go_returns
  refine ⟨rfl, ?_⟩
  go_grown

set_option maxHeartbeats 400000 in
theorem shape_none (w : World) (tb n cap : Nat) (ao : Option Addr) (i : Int) (c1 : w.cell? ⟨tb, 1, none⟩ = some (.slice ao n cap)) (hi : i < 0 ∨ n ≤ i) (hn : n ≤ maxLen) :
    Calls Tryz.prog 76 #[.pointer (some ⟨tb, 0, none⟩), .int .i64 i] w fun e w' =>
      e = .returned (.tuple #[.agg #[.int .i64 0, .int .i64 0, .int .u64 0], .int .i64 4]) ∧ G w w' := by
  have hin : inB i 0 ((n : Int) - 1) = false := by
    rw [← Bool.not_eq_true, inB_iff]
    omega
  have hn' : (n : Int) ≤ 9223372036854775807 := by unfold maxLen at hn; omega
  clear hn hi
  have htb : tb < w.heap.size := World.block_lt_of_cell? w _ c1
  go_enter Tryz.func76, Tryz.ntmps76
  go_wp2_with (go_at_call 59; refine (within_any _ _ _ _).mono ?_; rintro e w' ⟨rfl, rfl⟩)
  go_returns
  refine ⟨rfl, ?_⟩
  go_grown

theorem TabAt.len_le {w : World} {B tb mb : Nat} {ao : Option Addr} {cap : Nat} {l : List Shp} (h : TabAt w B tb mb ao cap l) : l.length ≤ maxLen := by
  rcases h.row.2 with ⟨_, hn⟩ | ⟨g, c, cur, e, hb, hg, h1, h2, _⟩
  · rw [hn]; exact Nat.zero_le _
  · omega

theorem shape_yes (w : World) (B tb mb : Nat) (ao : Option Addr) (cap : Nat) (l : List Shp) (h : TabAt w B tb mb ao cap l) (i : Nat) (s : Shp) (hi : l[i]? = some s) :
    Calls Tryz.prog 76 #[.pointer (some ⟨tb, 0, none⟩), .int .i64 (i : Int)] w fun e w' =>
      e = .returned (.tuple #[.agg #[.int .i64 s.k, .int .i64 s.f, .int .u64 (s.m : Int)], .int .i64 0]) ∧ G w w' := by
  have hil : i < l.length := (List.getElem?_eq_some_iff.1 hi).1
  have hrow := h.row
  rcases hrow.2 with ⟨_, hn⟩ | ⟨g, c, cur, e, _⟩
  · omega
  · injection e with e1 e2 e3
    subst e1
    obtain ⟨x0, x1, x2⟩ := row_cells hrow hi
    exact shape_core w tb g l.length cap i s h.cells.2.1 hil h.len_le x0 x1 x2

theorem shape_no (w : World) (B tb mb : Nat) (ao : Option Addr) (cap : Nat) (l : List Shp) (h : TabAt w B tb mb ao cap l) (i : Int) (hi : i < 0 ∨ l.length ≤ i) :
    Calls Tryz.prog 76 #[.pointer (some ⟨tb, 0, none⟩), .int .i64 i] w fun e w' =>
      e = .returned (.tuple #[.agg #[.int .i64 0, .int .i64 0, .int .u64 0], .int .i64 4]) ∧ G w w' :=
  shape_none w tb l.length cap ao i h.cells.2.1 hi h.len_le

end Go.Proofs.YtinehimleldkdaaGreatDoor.Hd

/- The contract of a Table's Number. -/
namespace Go.Proofs.YtinehimleldkdaaGreatDoor.Hd
set_option maxRecDepth 100000
open Go.RowKit Go.Maps Go.ChangeShapes Go.WideShapes Go.ChangeAt Go.Deep

/-- append onto a row of the call's own, as one step of a region that draws its order. -/
theorem step_append_at {P : Program} {ops : Array Oper} {o : Oper} {a : Act} {w : World} {K : Act → World → Prop} {Q : Exit → Act → World → Prop} {E : Prop}
    (hg : o.guard = none) (s x : Operand) (t : TypeId) (hop : o.op = Op.call { callee := Callee.builtin Builtin.append, args := #[s, x], argTypes := #[t, t] })
    (base : Nat) (e : TypeId) (i : TypeInfo) (z : Value) (size bytes : Nat) (h1 : P.underlying t = some (.slice e)) (h2 : P.info? e = some i) (h3 : i.zero = some z) (h4 : i.size = size) (h5 : i.bytes = bytes) (h6 : z.cells.size = size) (h7 : 0 < size)
    (ao : Option Addr) (n cap : Nat) (xs : List Value) (hs : a.eval s = .slice ao n cap) (hown : w.ownsRow base e size (.slice ao n cap) n xs)
    (ad : Addr) (m c : Nat) (news : List Value) (hx : a.eval x = .slice (some ad) m c) (hn : news.length = m * size) (hc : ∀ j u, news[j]? = some u → w.cell? (ad.add j) = some u) (h1c : ∀ u ∈ news, u.oneCell' = true)
    (hm : 0 < m) (b1 : n + m ≤ maxLen) (b2 : (n + m) * bytes ≤ 140737488355328) (hbase : base ≤ w.heap.size)
    (hK : ∀ g cap' w', w'.ownsRow base e size (.slice (some ⟨g, 0, none⟩) (n + m) cap') (n + m) (xs ++ news) → w.grownBy w' (Value.ownBlock (.slice ao n cap)) → (ao = some ⟨g, 0, none⟩ ∨ g = w.heap.size) →
      K (a.put o.dst (.slice (some ⟨g, 0, none⟩) (n + m) cap')) w') :
    if Region.wanted o (yielded ops a.tmps) = true then Oper.wp P o a w K Q else E := by
  have hw : Region.wanted o (yielded ops a.tmps) = true := by simp [Region.wanted, hg]
  rw [if_pos hw]
  obtain ⟨v', w', hrun, r1, r2, _, r4⟩ := run_append_own_at (P := P) w base t o.type e i z size bytes h1 h2 h3 h4 h5 h6 h7 (.slice ao n cap) n xs hown ad m c news hn hc h1c b1 b2 hbase
  rcases r1.2 with ⟨_, h0⟩ | ⟨g, cap', cur, rfl, _⟩
  · omega
  · unfold Oper.wp
    simp [execOp, hop, resolve, invoke, builtin, hs, hx, hrun, Result.andThen]
    refine hK g cap' w' r1 r2 ?_
    rcases r4 with r4 | r4
    · left
      rcases hown.2 with ⟨e1, _⟩ | ⟨g0, c0, cur0, e1, _⟩
      · injection e1 with e1
        subst e1
        simp [Value.ownBlock] at r4
      · injection e1 with e1
        subst e1
        simp [Value.ownBlock] at r4
        rw [r4]
    · right
      simpa [Value.ownBlock] using r4

theorem info_shape : (Tryz.prog.info? 73).map (fun i => (i.zero, i.size, i.bytes)) = some (some (.agg #[.int .i64 0, .int .i64 0, .int .u64 0]), 3, 24) := by kernel_rfl
theorem zero_int (w : World) : (zeroValue 3).run Tryz.prog w = .ok (.int .i64 0) w := by kernel_rfl

set_option maxHeartbeats 400000 in
theorem number_bad (w : World) (tb : Nat) (s : Shp) (hg : goodB s.k s.f s.m = false) :
    Calls Tryz.prog 34 #[.pointer (some ⟨tb, 0, none⟩), .agg #[.int .i64 s.k, .int .i64 s.f, .int .u64 (s.m : Int)]] w fun e w' => e = .returned (.tuple #[.int .i64 0, .int .i64 1]) ∧ G w w' := by
  go_enter Tryz.func34, Tryz.ntmps34
  go_wp2_with (go_at_call 62; refine (good_any _ _ _ _).mono ?_; rintro e w' ⟨rfl, rfl⟩)
  go_ret2
  exact ⟨rfl, by go_grown⟩

set_option maxHeartbeats 400000 in
theorem number_old (w : World) (tb mb : Nat) (s : Shp) (c : Int) (hg : goodB s.k s.f s.m = true) (c0 : w.cell? ⟨tb, 0, none⟩ = some (.map (some mb)))
    (hl : ∀ k, (Instr.lookup 119 (.map (some mb)) (.agg #[.int .i64 s.k, .int .i64 s.f, .int .u64 (s.m : Int)]) true).run Tryz.prog (((w.alloc (.cells #[.int .i64 s.k, .int .i64 s.f, .int .u64 (s.m : Int)] 73)).alloc (.cells #[.int .i64 s.k, .int .i64 s.f, .int .u64 (s.m : Int)] 73)).drewN k) =
      .ok (.tuple #[.int .i64 c, .bool true]) (((w.alloc (.cells #[.int .i64 s.k, .int .i64 s.f, .int .u64 (s.m : Int)] 73)).alloc (.cells #[.int .i64 s.k, .int .i64 s.f, .int .u64 (s.m : Int)] 73)).drewN k)) :
    Calls Tryz.prog 34 #[.pointer (some ⟨tb, 0, none⟩), .agg #[.int .i64 s.k, .int .i64 s.f, .int .u64 (s.m : Int)]] w fun e w' => e = .returned (.tuple #[.int .i64 c, .int .i64 0]) ∧ G w w' := by
  have htb : tb < w.heap.size := World.block_lt_of_cell? w _ c0
  go_enter Tryz.func34, Tryz.ntmps34
  go_wp2_with (go_at_call 62; refine (good_any _ _ _ _).mono ?_; rintro e w' ⟨rfl, rfl⟩)
  go_quiet (fail)
  go_wp2_with fail
  go_ret2
  exact ⟨rfl, below_drewN (by go_grown) _⟩

/-- What the walk of Number meets on its way, behind the two boxes. -/
def boxed (w : World) (s : Shp) : World := (w.alloc (.cells #[.int .i64 s.k, .int .i64 s.f, .int .u64 (s.m : Int)] 73)).alloc (.cells #[.int .i64 s.k, .int .i64 s.f, .int .u64 (s.m : Int)] 73)

theorem boxed_G (w : World) (s : Shp) (k : Nat) : G w ((boxed w s).drewN k) := below_drewN (by unfold boxed; go_grown) _

theorem look_at {w : World} {B tb mb : Nat} {ao : Option Addr} {cap : Nat} {l : List Shp} (h : TabAt w B tb mb ao cap l) (s : Shp) (hs : s.Fit) :
    (Instr.lookup 119 (.map (some mb)) s.val true).run Tryz.prog w = .ok (.tuple #[.int .i64 (if s ∈ l then (l.idxOf s : Int) else 0), .bool (decide (s ∈ l))]) w := by
  obtain ⟨D, hown, hhas, hat⟩ := h.map
  obtain ⟨v, ps, hrun, hv⟩ := hown.look_ok keyed Tryz.underlying119 (zero_int w) (plainElem_int Tryz.underlying3 (by decide)) (keyOf_shp s hs w)
  rw [hrun, hhas s hs]
  by_cases hm : s ∈ l
  · rw [hat s hm] at hv
    obtain ⟨c, rfl, hc, _⟩ := plainElem_int_inv Tryz.underlying3 hv
    simp at hc
    rw [if_pos hm, hc.1]
  · have h0 : Maps.has D s.key = false := by rw [hhas s hs]; simpa using hm
    rw [atKey_of_not_has h0] at hv
    obtain ⟨c, rfl, hc, _⟩ := plainElem_int_inv Tryz.underlying3 hv
    simp at hc
    rw [if_neg hm, hc.1]

/-- What the world behind the map's update holds. -/
theorem bx_cells {w w1 : World} {s : Shp} {k mb : Nat} (hg : ((boxed w s).drewN k).grownBy w1 (some mb)) (hmb : mb < w.heap.size) :
    (w1.cell? ⟨w.heap.size, 0, none⟩ = some (.int .i64 s.k) ∧ w1.cell? ⟨w.heap.size, 1, none⟩ = some (.int .i64 s.f) ∧ w1.cell? ⟨w.heap.size, 2, none⟩ = some (.int .u64 (s.m : Int)) ∧ w.heap.size + 2 ≤ w1.heap.size) ∧
    ∀ b, b < w.heap.size → b ≠ mb → ∀ i, w1.cell? ⟨b, i, none⟩ = w.cell? ⟨b, i, none⟩ ∧ w1.frozen? ⟨b, i, none⟩ = w.frozen? ⟨b, i, none⟩ := by
  have hsz : ((boxed w s).drewN k).heap.size = w.heap.size + 2 := by
    show (boxed w s).heap.size = _
    unfold boxed
    rw [World.size_alloc, World.size_alloc]
  have hb : w1.heap[w.heap.size]? = some (.cells #[.int .i64 s.k, .int .i64 s.f, .int .u64 (s.m : Int)] 73 (0, 0)) := by
    rw [hg.block w.heap.size (by omega) (by simp; omega)]
    show (boxed w s).heap[w.heap.size]? = _
    unfold boxed
    rw [_root_.Go.heap_alloc_old _ _ (by rw [World.size_alloc]; omega)]
    exact heap_alloc_new w _
  refine ⟨⟨by simp [World.cell?, hb], by simp [World.cell?, hb], by simp [World.cell?, hb], by rw [← hsz]; exact hg.size⟩, fun b hb1 hb2 i => ?_⟩
  have e : w1.heap[b]? = w.heap[b]? := (hg.block b (by omega) (by simpa using hb2)).trans ((boxed_G w s k).block b hb1)
  exact ⟨World.cell?_of_block e, World.frozen?_of_block e⟩

/-- What Number leaves where the shape was new. -/
structure NumEnd (w w' : World) (B tb mb : Nat) (ao : Option Addr) (g cap n : Nat) (xs : List Value) (D : DataW Unit) : Prop where
  blk : w'.heap[tb]? = some (.cells #[.map (some mb), .slice (some ⟨g, 0, none⟩) (n + 1) cap] 121 (0, 0))
  row : w'.ownsRow B 73 3 (.slice (some ⟨g, 0, none⟩) (n + 1) cap) (n + 1) xs
  map : w'.ownsMap Tryz.prog 73 (plainElem Tryz.prog 3) mb (n + 1) D
  turn : Turn w w' tb mb ao
  lies : ao = some ⟨g, 0, none⟩ ∨ w.heap.size ≤ g

theorem setCell_same {w : World} {b i : Nat} {c : Array Value} {t : TypeId} {fr : Nat × Nat} (h : w.heap[b]? = some (.cells c t fr)) (v : Value) :
    (w.setCell ⟨b, i, none⟩ v).heap[b]? = some (.cells (c.setIfInBounds i v) t fr) := by
  simp [World.setCell, Array.getElem?_modify, h]

/-- Blocks in the world behind the append. -/
theorem app_block {w w1 w3 : World} {s : Shp} {k mb : Nat} {r : Option Nat} (hg1 : ((boxed w s).drewN k).grownBy w1 (some mb)) (hg3 : ((w1.alloc (.cells #[.int .i64 s.k, .int .i64 s.f, .int .u64 (s.m : Int)] 73)).drew).grownBy w3 r) :
    ∀ b, b < w.heap.size → b ≠ mb → some b ≠ r → w3.heap[b]? = w.heap[b]? := by
  intro b hb h1 h2
  have h0 : w.heap.size + 2 ≤ w1.heap.size := by
    have := hg1.size
    have hsz : ((boxed w s).drewN k).heap.size = w.heap.size + 2 := by
      show (boxed w s).heap.size = _
      unfold boxed
      rw [World.size_alloc, World.size_alloc]
    omega
  have e1 : w1.heap[b]? = w.heap[b]? := (hg1.block b (Nat.lt_of_lt_of_le hb (boxed_G w s k).size) (by simpa using h1)).trans ((boxed_G w s k).block b hb)
  have e2 : ((w1.alloc (.cells #[.int .i64 s.k, .int .i64 s.f, .int .u64 (s.m : Int)] 73)).drew).heap[b]? = w1.heap[b]? := by
    show (w1.alloc (.cells #[.int .i64 s.k, .int .i64 s.f, .int .u64 (s.m : Int)] 73)).heap[b]? = _
    exact _root_.Go.heap_alloc_old _ _ (by omega)
  have hs2 : ((w1.alloc (.cells #[.int .i64 s.k, .int .i64 s.f, .int .u64 (s.m : Int)] 73)).drew).heap.size = w1.heap.size + 1 := World.size_alloc _ _
  exact ((hg3.block b (by omega) h2).trans e2).trans e1

theorem number_fin {w w1 w3 : World} {B tb mb n cap k g cap3 : Nat} {ao : Option Addr} {s : Shp} {xs : List Value} {D : DataW Unit}
    (hblk : w.heap[tb]? = some (.cells #[.map (some mb), .slice ao n cap] 121 (0, 0))) (hne : tb ≠ mb) (hmb : mb < w.heap.size)
    (hnm : ∀ a, ao = some a → a.block ≠ mb) (hnt : ∀ a, ao = some a → a.block ≠ tb)
    (hg1 : ((boxed w s).drewN k).grownBy w1 (some mb)) (hown1 : w1.ownsMap Tryz.prog 73 (plainElem Tryz.prog 3) mb (n + 1) D)
    (hg3 : ((w1.alloc (.cells #[.int .i64 s.k, .int .i64 s.f, .int .u64 (s.m : Int)] 73)).drew).grownBy w3 (Value.ownBlock (.slice ao n cap)))
    (hr3 : w3.ownsRow B 73 3 (.slice (some ⟨g, 0, none⟩) (n + 1) cap3) (n + 1) xs) (hat : ao = some ⟨g, 0, none⟩ ∨ g = ((w1.alloc (.cells #[.int .i64 s.k, .int .i64 s.f, .int .u64 (s.m : Int)] 73)).drew).heap.size) :
    NumEnd w (w3.setCell ⟨tb, 1, none⟩ (.slice (some ⟨g, 0, none⟩) (n + 1) cap3)) B tb mb ao g cap3 n xs D := by
  have htb : tb < w.heap.size := (Array.getElem?_eq_some_iff.1 hblk).1
  have hs0 := (boxed_G w s k).size
  have hs1 := hg1.size
  have hs2 : ((w1.alloc (.cells #[.int .i64 s.k, .int .i64 s.f, .int .u64 (s.m : Int)] 73)).drew).heap.size = w1.heap.size + 1 := World.size_alloc _ _
  have hs3 := hg3.size
  have ob : ∀ b, some b = Value.ownBlock (.slice ao n cap) → ∃ a, ao = some a ∧ a.block = b := by
    intro b hb
    cases ao with
    | none => simp [Value.ownBlock] at hb
    | some a => exact ⟨a, rfl, by simpa [Value.ownBlock] using hb.symm⟩
  have e3 : w3.heap[tb]? = some (.cells #[.map (some mb), .slice ao n cap] 121 (0, 0)) :=
    (app_block hg1 hg3 tb htb hne (fun h => by obtain ⟨a, h1, h2⟩ := ob _ h; exact hnt a h1 h2)).trans hblk
  have hgt : g ≠ tb := by
    rcases hat with h | h
    · exact hnt _ h
    · omega
  refine ⟨?_, ?_, ?_, ?_, ?_⟩
  · rw [setCell_same e3]
    rfl
  · refine ⟨hr3.1, ?_⟩
    rcases hr3.2 with hn | ⟨g', c, cur, e, hb, hg, rest⟩
    · exact Or.inl hn
    · refine Or.inr ⟨g', c, cur, e, hb, ?_, rest⟩
      have : g = g' := by injection e with e; injection e with e; injection e
      rw [Below.heap_setCell _ _ _ _ (by show g' ≠ tb; omega)]
      exact hg
  · obtain ⟨es, clock, hb, r⟩ := hown1
    refine ⟨es, clock, ?_, r⟩
    rw [Below.heap_setCell _ _ _ _ (by show mb ≠ tb; omega), hg3.block mb (by omega) (fun h => by obtain ⟨a, h1, h2⟩ := ob _ h; exact hnm a h1 h2)]
    show (w1.alloc (.cells #[.int .i64 s.k, .int .i64 s.f, .int .u64 (s.m : Int)] 73)).heap[mb]? = _
    rw [_root_.Go.heap_alloc_old _ _ (by omega)]
    exact hb
  · refine ⟨?_, ?_, ?_, ?_, ?_⟩
    · exact hg3.os.trans (hg1.os.trans (boxed_G w s k).os)
    · exact hg3.tape.trans (hg1.tape.trans (boxed_G w s k).tape)
    · exact hg3.output.trans (hg1.output.trans (boxed_G w s k).output)
    · rw [World.size_setCell]
      omega
    · intro b hb h1 h2 h3
      rw [Below.heap_setCell _ _ _ _ (by show b ≠ tb; omega)]
      exact app_block hg1 hg3 b hb h2 (fun h => by obtain ⟨a, e1, e2⟩ := ob _ h; exact h3 a e1 e2.symm)
  · rcases hat with h | h
    · exact Or.inl h
    · right
      omega

set_option maxHeartbeats 1000000 in
theorem number_new (w : World) (B tb mb n cap : Nat) (ao : Option Addr) (xs : List Value) (D : DataW Unit) (s : Shp) (hg : goodB s.k s.f s.m = true) (hs : s.Fit) (hB : B ≤ w.heap.size) (hn : n < 65536)
    (hblk : Hid (w.heap[tb]? = some (.cells #[.map (some mb), .slice ao n cap] 121 (0, 0))))
    (c0 : w.cell? ⟨tb, 0, none⟩ = some (.map (some mb))) (c1 : w.cell? ⟨tb, 1, none⟩ = some (.slice ao n cap)) (f1 : w.frozen? ⟨tb, 1, none⟩ = false) (hne : tb ≠ mb) (hmb : mb < w.heap.size)
    (hrow : Hid (w.ownsRow B 73 3 (.slice ao n cap) n xs))
    (hnm : Hid (∀ a, ao = some a → a.block ≠ mb)) (hnt : Hid (∀ a, ao = some a → a.block ≠ tb))
    (hmap : Hid (w.ownsMap Tryz.prog 73 (plainElem Tryz.prog 3) mb n D))
    (hl : ∀ k, (Instr.lookup 119 (.map (some mb)) (.agg #[.int .i64 s.k, .int .i64 s.f, .int .u64 (s.m : Int)]) true).run Tryz.prog (((w.alloc (.cells #[.int .i64 s.k, .int .i64 s.f, .int .u64 (s.m : Int)] 73)).alloc (.cells #[.int .i64 s.k, .int .i64 s.f, .int .u64 (s.m : Int)] 73)).drewN k) =
      .ok (.tuple #[.int .i64 0, .bool false]) (((w.alloc (.cells #[.int .i64 s.k, .int .i64 s.f, .int .u64 (s.m : Int)] 73)).alloc (.cells #[.int .i64 s.k, .int .i64 s.f, .int .u64 (s.m : Int)] 73)).drewN k)) :
    Calls Tryz.prog 34 #[.pointer (some ⟨tb, 0, none⟩), .agg #[.int .i64 s.k, .int .i64 s.f, .int .u64 (s.m : Int)]] w fun e w' => 
      ∃ g cap', e = .returned (.tuple #[.int .i64 (n : Int), .int .i64 0]) ∧ NumEnd w w' B tb mb ao g cap' n (xs ++ s.cells) (D.put s.key (.lit (.int .i64 (n : Int)))) := by
  have htb : tb < w.heap.size := World.block_lt_of_cell? w _ c0
  have hfull : ((n : Int) == 65536) = false := by simp; omega
  have hbox := hide (boxed_G w s)
  go_enter Tryz.func34, Tryz.ntmps34
  go_wp2_with (go_at_call 62; refine (good_any _ _ _ _).mono ?_; rintro e w' ⟨rfl, rfl⟩)
  go_quiet (fail)
  go_wp2_with fail
  -- the map takes the shape in
  have hmap2 : ((boxed w s).drewN (nq + 1)).ownsMap Tryz.prog 73 (plainElem Tryz.prog 3) mb n D := by
    obtain ⟨es, clock, hb, r⟩ := unhide hmap
    exact ⟨es, clock, ((unhide hbox (nq + 1)).block mb hmb).trans hb, r⟩
  obtain ⟨w1, hrun, hown1, hg1⟩ := hmap2.update keyed Tryz.underlying119 (by unfold maxLen; omega) (keyOf_shp s hs w) (plainElem_int Tryz.underlying3 (WalkArith.wf_i64 (n := (n : Int)) (by omega)))
  have hw1 := hide (bx_cells hg1 hmb)
  have k1 : w1.cell? ⟨tb, 1, none⟩ = some (.slice ao n cap) := ((unhide hw1).2 tb htb hne 1).1.trans c1
  have e1 : w1.frozen? ⟨tb, 1, none⟩ = false := ((unhide hw1).2 tb htb hne 1).2.trans f1
  obtain ⟨b0, b1, b2, hsz⟩ := (unhide hw1).1
  have htb1 : tb < w1.heap.size := by omega
  have hown1' := hide hown1
  have hg1' := hide hg1
  clear hown1 hg1 hmap2
  have HR : Hid (((w1.alloc (.cells #[.int .i64 s.k, .int .i64 s.f, .int .u64 (s.m : Int)] 73)).drew).ownsRow B 73 3 (.slice ao n cap) n xs) := by
    have h0 := unhide hrow
    refine hide (World.ownsRow.alloc (w := w1) ⟨h0.1, ?_⟩ _)
    rcases h0.2 with hn | ⟨g', c, cur, e, hb, hg, rest⟩
    · exact Or.inl hn
    · refine Or.inr ⟨g', c, cur, e, hb, ?_, rest⟩
      have e2 : ao = some ⟨g', 0, none⟩ := by injection e
      have hlt : g' < w.heap.size := (Array.getElem?_eq_some_iff.1 hg).1
      exact ((unhide hg1').block g' (Nat.lt_of_lt_of_le hlt (unhide hbox (nq + 1)).size) (by simpa using unhide hnm _ e2)).trans (((unhide hbox (nq + 1)).block g' hlt).trans hg)
  have HN : Hid (∀ (j : Nat) u, s.cells[j]? = some u → ((w1.alloc (.cells #[.int .i64 s.k, .int .i64 s.f, .int .u64 (s.m : Int)] 73)).drew).cell? ((⟨w1.heap.size, 0, none⟩ : Addr).add j) = some u) := hide fun j u hj => by
    rw [Addr.add_lit]
    show (w1.alloc (.cells #[.int .i64 s.k, .int .i64 s.f, .int .u64 (s.m : Int)] 73)).cell? _ = _
    rw [Nat.zero_add, World.cell?_alloc_new]
    simpa [Shp.cells] using hj
  have HO : Hid (∀ u ∈ s.cells, u.oneCell' = true) := hide fun u hu => by
    simp [Shp.cells] at hu
    rcases hu with rfl | rfl | rfl <;> rfl
  have HB : Hid (B ≤ ((w1.alloc (.cells #[.int .i64 s.k, .int .i64 s.f, .int .u64 (s.m : Int)] 73)).drew).heap.size) := hide (by
    show B ≤ (w1.alloc (.cells #[.int .i64 s.k, .int .i64 s.f, .int .u64 (s.m : Int)] 73)).heap.size
    rw [World.size_alloc]
    omega)
  have HK : Hid (∀ w3, ((w1.alloc (.cells #[.int .i64 s.k, .int .i64 s.f, .int .u64 (s.m : Int)] 73)).drew).grownBy w3 (Value.ownBlock (.slice ao n cap)) → w3.cell? ⟨tb, 1, none⟩ = some (.slice ao n cap) ∧ w3.frozen? ⟨tb, 1, none⟩ = false) := hide fun w3 hg3 => by
    have e := app_block (unhide hg1') hg3 tb htb hne (fun h => by
      cases ao with
      | none => simp [Value.ownBlock] at h
      | some a => exact unhide hnt a rfl (by simpa [Value.ownBlock] using h.symm))
    exact ⟨(World.cell?_of_block (a := ⟨tb, 1, none⟩) e).trans c1, (World.frozen?_of_block (a := ⟨tb, 1, none⟩) e).trans f1⟩
  obtain ⟨i0, hi, hz0, hz1, hz2⟩ := info_parts info_shape
  unfold Shp.val boxed at hrun
  go_region
  go_wp2_with fail
  clear hrun hl
  go_region_law (refine step_append_at rfl (.tmp 40) (.tmp 42) 68 rfl B 73 i0 (.agg #[.int .i64 0, .int .i64 0, .int .u64 0]) 3 24 Tryz.underlying68 hi hz0 hz1 hz2 rfl (by decide) ao n cap xs (by simp [Act.eval]) (unhide HR) ⟨w1.heap.size, 0, none⟩ 1 1 s.cells (by simp [Act.eval]) rfl (unhide HN) (unhide HO) (by decide) (by unfold maxLen; omega) (by omega) (unhide HB) ?_; intro g cap3 w3 hr3 hg3 hat3; obtain ⟨k3, f3⟩ := unhide HK w3 hg3; have hr3' := hide hr3; have hg3' := hide hg3; have hat3' := hide hat3; clear hr3 hg3 hat3)
  all_goals
    go_wp2_with fail
    go_ret2
    exact ⟨g, cap3, rfl, number_fin (unhide hblk) hne hmb (unhide hnm) (unhide hnt) (unhide hg1') (unhide hown1') (unhide hg3') (unhide hr3') (unhide hat3')⟩
end Go.Proofs.YtinehimleldkdaaGreatDoor.Hd

/- The contract of a Table's Number, in one. -/
namespace Go.Proofs.YtinehimleldkdaaGreatDoor.Hd
set_option maxRecDepth 100000
open Go.RowKit Go.Maps Go.ChangeShapes Go.WideShapes Go.ChangeAt Go.Deep

/-- A shape that may be. -/
def Shp.good (s : Shp) : Bool := goodB s.k s.f s.m
/-- The shapes of a table behind Number. -/
def addS (l : List Shp) (s : Shp) : List Shp := if s.good = true ∧ s ∉ l then l ++ [s] else l
/-- What Number answers. -/
def numV (l : List Shp) (s : Shp) : Int := if s.good = true then (l.idxOf s : Int) else 0
def numE (s : Shp) : Int := if s.good = true then 0 else 1

theorem TabAt.ne {w : World} {B tb mb : Nat} {ao : Option Addr} {cap : Nat} {l : List Shp} (h : TabAt w B tb mb ao cap l) : tb ≠ mb ∧ (∀ a, ao = some a → a.block ≠ mb) ∧ (∀ a, ao = some a → a.block ≠ tb) := by
  obtain ⟨D, ⟨es, clock, hm, _⟩, _⟩ := h.map
  have hrow := h.row
  refine ⟨?_, ?_, ?_⟩
  · rintro rfl
    have := h.blk
    rw [hm] at this
    cases this
  · rintro a rfl rfl
    rcases hrow.2 with ⟨e, _⟩ | ⟨g, c, cur, e, _, hg, _⟩
    · cases e
    · injection e with e
      injection e with e
      subst e
      rw [hm] at hg
      cases hg
  · rintro a rfl rfl
    rcases hrow.2 with ⟨e, _⟩ | ⟨g, c, cur, e, _, hg, _⟩
    · cases e
    · injection e with e
      injection e with e
      subst e
      have h1 := h.blk
      rw [hg] at h1
      cases h1

theorem tab_add {w w' : World} {B tb mb : Nat} {ao : Option Addr} {cap g cap' : Nat} {l : List Shp} {D : DataW Unit} {s : Shp} (h : TabAt w B tb mb ao cap l) (hs : s.Fit) (hn : s ∉ l)
    (hown : w.ownsMap Tryz.prog 73 (plainElem Tryz.prog 3) mb l.length D) (hhas : ∀ s : Shp, s.Fit → Maps.has D s.key = decide (s ∈ l))
    (hat : ∀ s : Shp, s ∈ l → D.atKey s.key (.lit (.int .i64 0)) = .lit (.int .i64 (l.idxOf s : Int)))
    (E : NumEnd w w' B tb mb ao g cap' l.length (rowOf l ++ s.cells) (D.put s.key (.lit (.int .i64 (l.length : Int))))) : TabAt w' B tb mb (some ⟨g, 0, none⟩) cap' (l ++ [s]) := by
  have hl : (l ++ [s]).length = l.length + 1 := by simp
  have hk : WideAt.IsKeyLit s.key := keyed.key (keyOf_shp s hs w)
  refine ⟨by rw [hl]; exact E.blk, h.btb, h.bmb, by rw [hl, rowOf_snoc]; exact E.row, ⟨_, by rw [hl]; exact E.map, ?_, ?_⟩, ?_⟩
  · intro t ht
    by_cases e : t = s
    · subst e
      rw [has_put_same hown.isMap hk]
      simp
    · rw [has_put_other (fun e2 => e (key_inj ht hs w e2)), hhas t ht]
      simp [e]
  · intro t ht
    by_cases e : t = s
    · subst e
      rw [atKey_put_same hown.isMap hk, List.idxOf_append, if_neg hn]
      simp
    · have ht' : t ∈ l := by simpa [e] using ht
      rw [atKey_put_other (fun e2 => e (key_inj (h.fit t ht') hs w e2)), hat t ht', List.idxOf_append, if_pos ht']
  · intro t ht
    rcases List.mem_append.1 ht with h1 | h1
    · exact h.fit t h1
    · simp at h1
      subst h1
      exact hs

theorem number_any (w : World) (B tb mb : Nat) (ao : Option Addr) (cap : Nat) (l : List Shp) (s : Shp) (h : TabAt w B tb mb ao cap l) (hs : s.Fit) (hlen : l.length < 65536) (hB : B ≤ w.heap.size) :
    Calls Tryz.prog 34 #[.pointer (some ⟨tb, 0, none⟩), .agg #[.int .i64 s.k, .int .i64 s.f, .int .u64 (s.m : Int)]] w fun e w' =>
      ∃ ao' cap', e = .returned (.tuple #[.int .i64 (numV l s), .int .i64 (numE s)]) ∧ TabAt w' B tb mb ao' cap' (addS l s) ∧ Turn w w' tb mb ao ∧ (∀ a, ao' = some a → ao = some a ∨ w.heap.size ≤ a.block) := by
  by_cases hg : s.good = true
  · unfold numV numE addS
    simp only [hg, if_true, true_and]
    have hl := fun k => look_at (h.grown (boxed_G w s k)) s hs
    by_cases hm : s ∈ l
    · simp only [hm, if_true, decide_true] at hl
      rw [if_neg (by simpa using hm)]
      refine (number_old w tb mb s _ hg h.cells.1 hl).mono ?_
      rintro e w' ⟨rfl, hG⟩
      exact ⟨ao, cap, rfl, h.grown hG, Turn.of_G hG, fun a ha => Or.inl ha⟩
    · simp only [hm, if_false, decide_false] at hl
      rw [if_pos hm, List.idxOf_eq_length hm]
      obtain ⟨D, hown, hhas, hat⟩ := h.map
      obtain ⟨n1, n2, n3⟩ := h.ne
      refine (number_new w B tb mb l.length cap ao (rowOf l) D s hg hs hB hlen (hide h.blk) h.cells.1 h.cells.2.1 h.cells.2.2 n1 h.mlt (hide h.row) (hide n2) (hide n3) (hide hown) hl).mono ?_
      rintro e w' ⟨g, cap', rfl, E⟩
      refine ⟨_, cap', rfl, tab_add h hs hm hown hhas hat E, E.turn, ?_⟩
      intro a ha
      injection ha with ha
      subst ha
      exact E.lies
  · have hg' : goodB s.k s.f s.m = false := by
      have : s.good = false := by simpa using hg
      exact this
    unfold numV numE addS
    rw [if_neg hg, if_neg hg, if_neg (fun h => hg h.1)]
    refine (number_bad w tb s hg').mono ?_
    rintro e w' ⟨rfl, hG⟩
    exact ⟨ao, cap, rfl, h.grown hG, Turn.of_G hG, fun a ha => Or.inl ha⟩
end Go.Proofs.YtinehimleldkdaaGreatDoor.Hd
