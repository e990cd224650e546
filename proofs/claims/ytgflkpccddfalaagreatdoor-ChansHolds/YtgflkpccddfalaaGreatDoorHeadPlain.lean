/- PLAIN ARITHMETIC of layer 3: heads and shapes; no Go in it. -/
import Derived.WalkKit
import Derived.OwnWalk
import Derived.Maps.AppendAt
import Derived.Deep.Draws
namespace Go.Proofs.YtgflkpccddfalaaGreatDoor.Hd
set_option maxRecDepth 100000
open Go.RowKit

theorem hide {p : Prop} (h : p) : Hid p := h
theorem unhide {p : Prop} (h : Hid p) : p := h.out

/-- v from lo to hi. -/
def inB (v lo hi : Int) : Bool := decide (lo ≤ v) && decide (v ≤ hi)
/-- The parts of a head that may be. -/
def hokB (a b c : Int) : Bool := inB a 1 64 && inB b 0 3 && inB c 0 65535
/-- A head's word. -/
def hw (a b c : Int) : Int := a + 128 * b + 1024 * c
/-- A word's parts. -/
def up0 (v : Int) : Int := v % 128
def up1 (v : Int) : Int := v / 128 % 8
def up2 (v : Int) : Int := v / 1024 % 65536
/-- A word that is a head's. -/
def uokB (v : Int) : Bool := inB v 0 67108863 && hokB (up0 v) (up1 v) (up2 v)
/-- A shape that may be. -/
def goodB (k f : Int) (m : Nat) : Bool :=
  if k = 0 ∨ k = 2 then inB f 0 63 && decide (m < 2 ^ f.toNat) else if k = 1 ∨ k = 3 then decide (f = 0) && decide (m ≤ 1) else false
/-- Which fields hold addresses. -/
def holdsB (k : Int) (m : Nat) (f n : Int) : Bool :=
  if f < 0 ∨ n < 2 ∨ n - 2 < f then false
  else if k = 0 ∨ k = 2 then m.testBit f.toNat else if k = 1 then m.testBit 0 else if k = 3 then m.testBit 0 && decide (4 ≤ f) else false

theorem inB_iff {v lo hi : Int} : inB v lo hi = true ↔ lo ≤ v ∧ v ≤ hi := by simp [inB]
theorem hokB_iff {a b c : Int} : hokB a b c = true ↔ (1 ≤ a ∧ a ≤ 64) ∧ (0 ≤ b ∧ b ≤ 3) ∧ (0 ≤ c ∧ c ≤ 65535) := by simp [hokB, inB_iff, and_assoc]

theorem hw_up {a b c : Int} (h : hokB a b c = true) : up0 (hw a b c) = a ∧ up1 (hw a b c) = b ∧ up2 (hw a b c) = c ∧ 0 < hw a b c ∧ hw a b c ≤ 67108863 := by
  rw [hokB_iff] at h
  unfold up0 up1 up2 hw
  omega
theorem hw_uok {a b c : Int} (h : hokB a b c = true) : uokB (hw a b c) = true := by
  obtain ⟨e0, e1, e2, e3, e4⟩ := hw_up h
  unfold uokB
  rw [e0, e1, e2, h]
  simp [inB]
  omega
/-- The head of a word's parts is the word, just if the word is one. -/
theorem up_hw (v : Int) (h : hokB (up0 v) (up1 v) (up2 v) = true) : (hw (up0 v) (up1 v) (up2 v) = v) ↔ inB v 0 67108863 = true := by
  rw [hokB_iff] at h
  rw [inB_iff]
  unfold up0 up1 up2 hw at *
  omega

/-- What is kept while memory is made. -/
abbrev G (w w' : World) : Prop := Below w.heap.size w w'
theorem G.refl (w : World) : G w w := Below.refl _ w
theorem G.drewN (w : World) (k : Nat) : G w (w.drewN k) := ⟨rfl, rfl, rfl, Nat.le_refl _, fun _ _ => rfl⟩
theorem G.alloc (w : World) (o : Obj) : G w (w.alloc o) := (Below.refl _ _).alloc (Nat.le_refl _) o
theorem G.trans {a b c : World} (h : G a b) (k : G b c) : G a c := Below.trans h (Below.mono k h.size)
theorem G.more {a b : World} (h : G a b) (o : Obj) : G a (b.alloc o) := Below.alloc h h.size o
theorem below_drewN {B : Nat} {a w : World} (h : Below B a w) (k : Nat) : Below B a (w.drewN k) := ⟨h.os, h.tape, h.output, h.size, h.block⟩
end Go.Proofs.YtgflkpccddfalaaGreatDoor.Hd
