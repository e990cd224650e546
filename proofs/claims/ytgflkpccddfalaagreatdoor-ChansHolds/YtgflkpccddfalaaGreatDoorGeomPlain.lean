/- PLAIN ARITHMETIC of layer 2: classes, spans, places, addresses; no Go in it. -/
import Derived.WalkKit
namespace Go.Proofs.YtgflkpccddfalaaGreatDoor
set_option maxRecDepth 100000
open Go.RowKit

theorem hide {p : Prop} (h : p) : Hid p := h
theorem unhide {p : Prop} (h : Hid p) : p := h.out

/-- A class' words. -/
def gw (c : Int) : Int := if c = 0 then 2 else if c = 1 then 4 else if c = 2 then 8 else if c = 3 then 16 else if c = 4 then 32 else if c = 5 then 64 else 0
/-- A class' places. -/
def gp (c : Int) : Int := if c = 0 then 32 else if c = 1 then 16 else if c = 2 then 8 else if c = 3 then 4 else if c = 4 then 2 else if c = 5 then 1 else 0
/-- A map with a bit for each place. -/
def gf (c : Int) : Int := if c = 0 then 4294967295 else if c = 1 then 65535 else if c = 2 then 255 else if c = 3 then 15 else if c = 4 then 3 else if c = 5 then 1 else 0
/-- The least class that has room for n words. -/
def gc (n : Int) : Int := if n < 1 then -1 else if n ≤ 2 then 0 else if n ≤ 4 then 1 else if n ≤ 8 then 2 else if n ≤ 16 then 3 else if n ≤ 32 then 4 else if n ≤ 64 then 5 else -1
/-- An address' span. -/
def gs (a : Int) : Int := if a < 0 then -1 else if 32768 ≤ a then -1 else a / 64
/-- The place that begins at an address. -/
def gpl (a c : Int) : Int := if gw c = 0 then -1 else if a < 0 then -1 else if 32768 ≤ a then -1 else if a % 64 % gw c = 0 then a % 64 / gw c else -1
/-- Where a place begins. -/
def ga (s p c : Int) : Int := if s < 1 then 0 else if 511 < s then 0 else if p < 0 then 0 else if gp c ≤ p then 0 else 64 * s + p * gw c

theorem cls (c : Int) : c < 0 ∨ 5 < c ∨ c = 0 ∨ c = 1 ∨ c = 2 ∨ c = 3 ∨ c = 4 ∨ c = 5 := by omega

theorem gw_lo {c : Int} (h : c < 0) : gw c = 0 := by unfold gw; repeat rw [if_neg (by omega)]
theorem gw_hi {c : Int} (h : 5 < c) : gw c = 0 := by unfold gw; repeat rw [if_neg (by omega)]
theorem gp_lo {c : Int} (h : c < 0) : gp c = 0 := by unfold gp; repeat rw [if_neg (by omega)]
theorem gp_hi {c : Int} (h : 5 < c) : gp c = 0 := by unfold gp; repeat rw [if_neg (by omega)]
theorem gf_lo {c : Int} (h : c < 0) : gf c = 0 := by unfold gf; repeat rw [if_neg (by omega)]
theorem gf_hi {c : Int} (h : 5 < c) : gf c = 0 := by unfold gf; repeat rw [if_neg (by omega)]

theorem gs_lo {a : Int} (h : a < 0) : gs a = -1 := by unfold gs; rw [if_pos h]
theorem gs_hi {a : Int} (h : 32768 ≤ a) : gs a = -1 := by unfold gs; rw [if_neg (by omega), if_pos h]
theorem gs_in {a : Int} (h : 0 ≤ a) (h2 : a < 32768) : gs a = a / 64 := by unfold gs; rw [if_neg (by omega), if_neg (by omega)]

theorem gpl_no {a c : Int} (h : gw c = 0) : gpl a c = -1 := by unfold gpl; rw [if_pos h]
theorem gpl_lo {a c : Int} (h : a < 0) : gpl a c = -1 := by unfold gpl; simp [h]
theorem gpl_hi {a c : Int} (h : 32768 ≤ a) : gpl a c = -1 := by unfold gpl; simp [h]
theorem gpl_off {a c : Int} (h : ¬ a % 64 % gw c = 0) : gpl a c = -1 := by unfold gpl; simp [h]
theorem gpl_in {a c : Int} (h0 : ¬ gw c = 0) (h1 : 0 ≤ a) (h2 : a < 32768) (h : a % 64 % gw c = 0) : gpl a c = a % 64 / gw c := by
  unfold gpl; rw [if_neg h0, if_neg (by omega), if_neg (by omega), if_pos h]

theorem ga_s0 {s p c : Int} (h : s < 1) : ga s p c = 0 := by unfold ga; rw [if_pos h]
theorem ga_s1 {s p c : Int} (h : 511 < s) : ga s p c = 0 := by unfold ga; rw [if_neg (by omega), if_pos h]
theorem ga_p0 {s p c : Int} (h : p < 0) : ga s p c = 0 := by unfold ga; simp [h]
theorem ga_p1 {s p c : Int} (h : gp c ≤ p) : ga s p c = 0 := by unfold ga; simp [h]
theorem ga_in {s p c : Int} (h0 : 1 ≤ s) (h1 : s ≤ 511) (h2 : 0 ≤ p) (h3 : p < gp c) : ga s p c = 64 * s + p * gw c := by
  unfold ga; rw [if_neg (by omega), if_neg (by omega), if_neg (by omega), if_neg (by omega)]

/-- Of a class: its words and places make 64; both are from 1 to 64. -/
theorem gw_gp (c : Int) : (gw c = 0 ∧ gp c = 0) ∨ (gw c * gp c = 64 ∧ 2 ≤ gw c ∧ gw c ≤ 64 ∧ 1 ≤ gp c ∧ gp c ≤ 32 ∧ 0 ≤ c ∧ c ≤ 5) := by
  rcases cls c with h | h | h | h | h | h | h | h
  · exact Or.inl ⟨gw_lo h, gp_lo h⟩
  · exact Or.inl ⟨gw_hi h, gp_hi h⟩
  all_goals (subst h; exact Or.inr (by decide))
end Go.Proofs.YtgflkpccddfalaaGreatDoor
