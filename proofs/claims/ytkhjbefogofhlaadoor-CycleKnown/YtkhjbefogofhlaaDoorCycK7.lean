/- The program's Cycle while nothing is held: stepping till it is off; Whole. -/
import Derived.Test.YtkhjbefogofhlaaDoorCycK6
namespace Go.Proofs.YtkhjbefogofhlaaDoor
set_option maxRecDepth 100000
open Go.ChangeShapes Go.WideShapes Go.ChangeAt Go.RowKit Go.Maps

def Pk.steps (s : Pk) : Nat → Pk
  | 0 => s
  | j + 1 => (s.steps j).step
/-- What a step lowers. -/
def msP (s : Pk) : Nat := if s.ph = 0 then 0 else if s.ph = 1 then 1000 else if s.ph = 2 then 999 else 1 + unsN s.al.u 8
def isTK : Option Value → Bool
  | some (.bool true) => true
  | _ => false
/-- The same, read off memory. -/
def msW (xl : Ld) (b : Kn) (w : World) : Nat := match w.cell? ⟨b.cb, 4, none⟩ with
  | some (.int _ p) => if p = 0 then 0 else if p = 1 then 1000 else if p = 2 then 999 else 1 + unsN (fun i => isTK (w.cell? ⟨xl.ub, i, none⟩)) 8
  | _ => 0
theorem unsN_congK {u v : Nat → Bool} : ∀ k, (∀ s, s < k → u s = v s) → unsN u k = unsN v k
  | 0, _ => rfl
  | k + 1, h => by unfold unsN; rw [unsN_congK k fun s hs => h s (by omega), h k (by omega)]
section
variable {W w w' : World} {xl : Ld} {b : Kn} {hb : Nat} {s : Pk}
theorem KH.ms (h : KH W w xl b hb s) (hn : s.al.a.n = 8) : msW xl b w = msP s := by
  unfold msW msP
  rw [h.ks.c4]
  simp only
  rw [unsN_congK (u := fun i => isTK (w.cell? ⟨xl.ub, i, none⟩)) (v := s.al.u) 8 fun i hi => by
    rw [h.ks.st.us i (by rw [hn]; exact hi)]
    cases s.al.u i <;> rfl]
/-- The steps till it is off, told ahead. -/
structure Run (s : Pk) (J : Nat) : Prop where
  ph : ∀ j, j ≤ J → (s.steps j).ph = 0 ∨ (s.steps j).ph = 1 ∨ (s.steps j).ph = 2 ∨ (s.steps j).ph = 3
  on : ∀ j, j < J → ((s.steps j).ph != 0) = true
  off : (s.steps J).ph = 0
  dn : ∀ j, j ≤ J → 0 ≤ (s.steps j).done ∧ (s.steps j).done ≤ 1000000
  n8 : ∀ j, j ≤ J → (s.steps j).al.a.n = 8
  dec : ∀ j, j < J → msP (s.steps (j + 1)) < msP (s.steps j)
theorem k_finish {J : Nat} (h : Hid (KH W w xl b hb s)) (R : Hid (Run s J)) : Calls Tryd.prog 37 #[.pointer (some ⟨b.cb, 0, none⟩), .iface 27 (.pointer (some ⟨hb, 0, none⟩))] w fun e w' => e = .returned (.tuple #[]) ∧ KH W w' xl b hb (s.steps J) := by
  go_enter Tryd.func37, Tryd.ntmps37
  go_wp2_with fail
  go_loopw [] (fun wr => ∃ j : Nat, j ≤ J ∧ Hid (KH W wr xl b hb (s.steps j))) (fun wr => msW xl b wr)
  case atStart => exact ⟨0, Nat.zero_le _, h⟩
  case round =>
    obtain ⟨j, hj, X⟩ := hrel
    clear h
    have c4 := (unhide X).ks.c4
    by_cases hlt : j < J
    · have on := (unhide R).on j hlt
      have C := hide (k_step X ((unhide R).dn j hj) ((unhide R).ph j hj))
      have m0 := hide ((unhide X).ms ((unhide R).n8 j hj))
      go_wp2_with fail
      refine (unhide C).mono ?_
      rintro r w1 ⟨rfl, X1⟩
      have X1' := hide X1
      have m1 := hide (KH.ms (s := s.steps (j + 1)) X1 ((unhide R).n8 (j + 1) (by omega)))
      clear C X1
      go_wp2_with fail
      go_roundw
      case rel => exact ⟨j + 1, by omega, X1'⟩
      case measure => rw [unhide m0, unhide m1]; exact (unhide R).dec j hlt
    · obtain rfl : j = J := by omega
      have e0 := (unhide R).off
      rw [e0] at c4
      go_wp2_with fail
      go_end0
      exact ⟨rfl, unhide X⟩
/-- Whole, from off: Start, and the steps till it is off. -/
theorem k_whole {J : Nat} (h : Hid (KH W w xl b hb s)) (h0 : Hid (Run s 0)) (R : Hid (Run ⟨⟨s.al.a.clear, s.al.u⟩, 1, s.kept, s.done⟩ J)) : Calls Tryd.prog 17 #[.pointer (some ⟨b.cb, 0, none⟩), .iface 27 (.pointer (some ⟨hb, 0, none⟩))] w fun e w' => e = .returned (.tuple #[]) ∧ KH W w' xl b hb ((⟨⟨s.al.a.clear, s.al.u⟩, 1, s.kept, s.done⟩ : Pk).steps J) := by
  have C := hide (k_finish h h0)
  go_enter Tryd.func17, Tryd.ntmps17
  go_wp2_with fail
  refine (unhide C).mono ?_
  rintro r w1 ⟨rfl, X1⟩
  have X1' := hide X1
  have C2 := hide (k_start0 X1' (unhide h0).off)
  clear C X1
  go_wp2_with fail
  refine (unhide C2).mono ?_
  rintro r w2 ⟨rfl, X2⟩
  have X2' := hide X2
  have C3 := hide (k_finish X2' R)
  clear C2 X2
  go_wp2_with fail
  refine (unhide C3).mono ?_
  rintro r w3 ⟨rfl, X3⟩
  have X3' := hide X3
  clear C3 X3
  go_wp2_with fail
  go_end0
  exact ⟨rfl, unhide X3'⟩
end
end Go.Proofs.YtkhjbefogofhlaaDoor
