/- PLAIN: chapter 4's calls at any numbers, on an arena; no Go in it. -/
import Derived.Test.YtgflkpccddfalaaGreatDoorArenaPlain4
import Derived.Lib.TrailingZeros
namespace Go.Proofs.YtgflkpccddfalaaGreatDoor
set_option maxRecDepth 100000

/-- Is there such a span? -/
def hasB (n : Nat) (s : Int) : Bool := decide (1 ≤ s) && decide (s < n)
def Ab.tkI (a : Ab) (s : Int) : Nat := if 1 ≤ s ∧ s < a.n then a.tk s.toNat else 0
def Ab.mrI (a : Ab) (s : Int) : Nat := if 1 ≤ s ∧ s < a.n then a.mr s.toNat else 0
theorem hasB_iff {n : Nat} {s : Int} : hasB n s = true ↔ 1 ≤ s ∧ s < n := by simp [hasB]
theorem Ab.I_no (a : Ab) {s : Int} (h : ¬ (1 ≤ s ∧ s < a.n)) : a.clsI s = -1 ∧ a.tkI s = 0 ∧ a.mrI s = 0 := by
  unfold Ab.clsI Ab.tkI Ab.mrI
  rw [if_neg h, if_neg h, if_neg h]
  exact ⟨rfl, rfl, rfl⟩
theorem Ab.I_at (a : Ab) {s : Nat} (h1 : 1 ≤ s) (h2 : s < a.n) : a.clsI s = a.cls s ∧ a.tkI s = a.tk s ∧ a.mrI s = a.mr s := by
  unfold Ab.clsI Ab.tkI Ab.mrI
  rw [if_pos (by omega), if_pos (by omega), if_pos (by omega)]
  simp

/-- What holds of every arena that the calls make: also that a span with no class has empty maps. -/
structure Ab.Good (a : Ab) : Prop where
  ok : a.Ok
  z : ∀ s, a.cls s < 0 → a.tk s = 0 ∧ a.mr s = 0

theorem nat_lt_of_bits {m k : Nat} (h : ∀ p, m.testBit p = true → p < k) : m < 2 ^ k := by
  refine Nat.lt_pow_two_of_testBit m fun i hi => ?_
  by_cases hb : m.testBit i = true
  · have := h i hb; omega
  · simpa using hb

theorem Ab.Good.tkb {a : Ab} (h : a.Good) (s : Nat) : a.tk s < 4294967296 := by
  by_cases hc : a.cls s < 0
  · rw [(h.z s hc).1]; decide
  · exact nat_lt_of_bits (k := 32) fun p hp => by
      have := h.ok.tb s (by omega) p hp
      rcases gw_gp (a.cls s) with ⟨_, e⟩ | ⟨_, _, _, _, e, _⟩ <;> omega
theorem Ab.Good.mrb {a : Ab} (h : a.Good) (s : Nat) : a.mr s < 4294967296 := by
  by_cases hc : a.cls s < 0
  · rw [(h.z s hc).2]; decide
  · exact nat_lt_of_bits (k := 32) fun p hp => by
      have := h.ok.tb s (by omega) p (h.ok.mb s (by omega) p hp)
      rcases gw_gp (a.cls s) with ⟨_, e⟩ | ⟨_, _, _, _, e, _⟩ <;> omega
theorem Ab.Good.tkIb {a : Ab} (h : a.Good) (s : Int) : a.tkI s < 4294967296 := by
  unfold Ab.tkI; split
  · exact h.tkb _
  · decide
theorem Ab.Good.mrIb {a : Ab} (h : a.Good) (s : Int) : a.mrI s < 4294967296 := by
  unfold Ab.mrI; split
  · exact h.mrb _
  · decide
theorem Ab.Good.clsI_r {a : Ab} (h : a.Good) (s : Int) : -1 ≤ a.clsI s ∧ a.clsI s ≤ 5 := by
  unfold Ab.clsI; split
  · exact h.ok.cr _
  · omega

theorem Ab.Good.kept {a : Ab} (h : a.Good) (s : Nat) : a.kept s = a.mr s := by
  by_cases hc : a.cls s < 0
  · unfold Ab.kept; rw [(h.z s hc).2]; simp
  · refine Nat.eq_of_testBit_eq fun p => ?_
    rw [kept_bit]
    by_cases hp : (a.mr s).testBit p = true
    · rw [hp, h.ok.mb s (by omega) p hp]; rfl
    · simp only [Bool.not_eq_true] at hp; rw [hp]; simp

theorem Ab.Good.set {a : Ab} (h : a.Good) {s : Nat} {c : Int} (h1 : 1 ≤ s) (hc : 0 ≤ c) (hc5 : c ≤ 5) : (a.set s c).Good := by
  refine ⟨h.ok.set h1 hc hc5, fun t ht => ?_⟩
  by_cases e : t = s
  · subst e; exact ⟨upd_same _ _ _, upd_same _ _ _⟩
  · have h0 : a.cls t < 0 := by
      have : (a.set s c).cls t = a.cls t := upd_other _ _ e
      omega
    exact ⟨(upd_other _ _ e).trans (h.z t h0).1, (upd_other _ _ e).trans (h.z t h0).2⟩
theorem Ab.Good.clear {a : Ab} (h : a.Good) : a.clear.Good := ⟨h.ok.clear, fun t ht => ⟨(h.z t ht).1, rfl⟩⟩
theorem Ab.Good.bit {a : Ab} (h : a.Good) {s p : Nat} (ht : (a.tk s).testBit p = true) : 0 ≤ a.cls s := by
  by_cases hc : a.cls s < 0
  · rw [(h.z s hc).1] at ht; simp at ht
  · omega
theorem Ab.Good.mark {a : Ab} (h : a.Good) {s p : Nat} (ht : (a.tk s).testBit p = true) : (a.mark s p).Good := by
  refine ⟨h.ok.mark ht, fun t hc => ?_⟩
  have h0 : a.cls t < 0 := hc
  have e : t ≠ s := by rintro rfl; have := h.bit ht; omega
  exact ⟨(h.z t h0).1, (upd_other _ _ e).trans (h.z t h0).2⟩
theorem Ab.Good.take {a : Ab} (h : a.Good) {s p : Nat} (hc0 : 0 ≤ a.cls s) (h4 : (p : Int) < gp (a.cls s)) : (a.take s p).Good := by
  refine ⟨h.ok.take h4, fun t hc => ?_⟩
  have h0 : a.cls t < 0 := hc
  have e : t ≠ s := by rintro rfl; omega
  exact ⟨(upd_other _ _ e).trans (h.z t h0).1, (h.z t h0).2⟩
theorem Ab.Good.write {a : Ab} (h : a.Good) (x v : Int) : (a.write x v).Good := ⟨h.ok.write x v, h.z⟩
theorem Ab.Good.sweep {a : Ab} (h : a.Good) (s : Nat) : (a.sweep s).Good := by
  refine ⟨h.ok.sweep s, fun t => ?_⟩
  show (if a.kept s = 0 then upd a.cls s (-1) else a.cls) t < 0 → upd a.tk s (a.kept s) t = 0 ∧ (if a.kept s = 0 then upd a.mr s 0 else a.mr) t = 0
  by_cases hz : a.kept s = 0
  · rw [if_pos hz, if_pos hz, hz]
    by_cases e : t = s
    · subst e; rw [upd_same, upd_same, upd_same]; exact fun _ => ⟨rfl, rfl⟩
    · rw [upd_other _ _ e, upd_other _ _ e, upd_other _ _ e]; exact h.z t
  · rw [if_neg hz, if_neg hz]
    intro hc
    by_cases e : t = s
    · subst e; rw [h.kept] at hz; exact absurd (h.z t hc).2 hz
    · rw [upd_other _ _ e]; exact h.z t hc

/-! ### the calls -/
def Ab.setE (a : Ab) (s c : Int) : Int := if ¬ (1 ≤ s ∧ s < a.n) ∨ c < 0 ∨ 5 < c then 1 else if 0 ≤ a.clsI s then 5 else 0
def Ab.setA (a : Ab) (s c : Int) : Ab := if a.setE s c = 0 then a.set s.toNat c else a
/-- The least place of a map that is not taken. -/
def freeN (m : Nat) : Nat := Lib.ctz 64 (18446744073709551615 - m)
def Ab.takeE (a : Ab) (s : Int) : Int := if a.clsI s < 0 then 4 else if (a.tkI s : Int) = gf (a.clsI s) then 5 else 0
def Ab.takeV (a : Ab) (s : Int) : Int := if a.takeE s = 0 then ga s (freeN (a.tkI s)) (a.clsI s) else 0
def Ab.takeA (a : Ab) (s : Int) : Ab := if a.takeE s = 0 then a.take s.toNat (freeN (a.tkI s)) else a
def Ab.pl (a : Ab) (x : Int) : Int := gpl x (a.clsI (gs x))
def Ab.isM (a : Ab) (x : Int) : Bool := (a.mrI (gs x)).testBit (a.pl x).toNat
def Ab.markB (a : Ab) (x : Int) : Bool := a.is x && !a.isM x
def Ab.markA (a : Ab) (x : Int) : Ab := if a.markB x = true then a.mark (gs x).toNat (a.pl x).toNat else a
def Ab.sweepN (a : Ab) (s : Int) : Nat := cnt fun p => (a.tkI s).testBit p && !(a.mrI s).testBit p
def Ab.sweepA (a : Ab) (s : Int) : Ab := if 0 ≤ a.clsI s then a.sweep s.toNat else a
def Ab.inW (a : Ab) (x at_ : Int) : Bool := a.is x && decide (0 ≤ at_) && decide (at_ < gw (a.clsI (gs x)))
def Ab.readE (a : Ab) (x at_ : Int) : Int := if a.inW x at_ = true then 0 else 1
def Ab.readV (a : Ab) (x at_ : Int) : Int := if a.inW x at_ = true then a.wd (x + at_) else 0
def Ab.writeA (a : Ab) (x at_ v : Int) : Ab := if a.inW x at_ = true then a.write (x + at_) v else a
end Go.Proofs.YtgflkpccddfalaaGreatDoor
