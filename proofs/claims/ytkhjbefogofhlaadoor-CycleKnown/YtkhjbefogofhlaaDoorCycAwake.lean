/- awake() of package gantlinelaw8 answers true. -/
import Derived.Test.YtkhjbefogofhlaaDoorCycK7
namespace Go.Proofs.YtkhjbefogofhlaaDoor
set_option maxRecDepth 100000
open Go.ChangeShapes Go.WideShapes Go.ChangeAt Go.RowKit Go.Maps

def hObj : Obj := .cells #[.slice none 0 0, .slice none 0 0, .slice none 0 0, .slice none 0 0, .slice none 0 0, .bool false, .bool false, .bool false, .bool false] 32
theorem kh_new {W w : World} {xl : Ld} {b : Kn} {al : Al} {ph kept done : Int} (h : KS W w xl b al ph kept done) : KH W (w.alloc hObj) xl b w.heap.size ⟨al, ph, kept, done⟩ := by
  have l1 := h.st.st.at_.lt1 h.st.st.n8
  have l2 := h.st.st.at_.lt2 h.st.st.n8
  have l3 := h.st.lt1
  have q1 := (h.ap b.cb (by simp)).1
  have q2 := (h.ap b.mb (by simp)).1
  refine ⟨h.gr (G.alloc _ _), ⟨World.cell?_alloc_new _ _ _ 0, World.cell?_alloc_new _ _ _ 5, World.cell?_alloc_new _ _ _ 6, World.cell?_alloc_new _ _ _ 7, World.cell?_alloc_new _ _ _ 8⟩, by rw [World.size_alloc]; omega, by omega, by omega, by omega, by omega, by omega⟩
set_option maxHeartbeats 4000000 in
theorem awake8_core (w : World) (ht : Hid (Tab w)) (l1 l3 : Al) (J5 J6 : Nat) (s6 s7 : Pk) (e1 : Hid ((al0 8).take 2 = (l1, 64, 0))) (e3 : Hid ((⟨l1.a.clear, l1.u⟩ : Al).take 2 = (l3, 66, 0)))
    (R5 : Hid (Run ⟨(⟨l3.a.markA 66, l3.u⟩ : Al).stale, 3, 64, 0⟩ J5)) (hs6 : Hid ((⟨(⟨l3.a.markA 66, l3.u⟩ : Al).stale, 3, 64, 0⟩ : Pk).steps J5 = s6)) (R60 : Hid (Run s6 0)) (R6 : Hid (Run ⟨⟨s6.al.a.clear, s6.al.u⟩, 1, s6.kept, s6.done⟩ J6)) (hs7 : Hid ((⟨⟨s6.al.a.clear, s6.al.u⟩, 1, s6.kept, s6.done⟩ : Pk).steps J6 = s7))
    (p7 : s7.ph = 0) (d7 : s7.done = 2) (k7 : Hid (0 ≤ s7.kept ∧ s7.kept ≤ 1000000)) (w7 : decide (2 * s7.kept ≤ s7.al.a.used s7.al.a.n) = false) (i7 : s7.al.a.is 64 = false) :
    Calls Tryd.prog 4 #[] w fun e w' => e = .returned (.bool true) ∧ G w w' := by
  have hb : Hid (Below w.heap.size w w) := G.refl w
  go_enter Tryd.func4, Tryd.ntmps4
  go_wp2_with fail
  refine (k_new hb ht).mono ?_
  rintro r w1 ⟨xl, b, rfl, X1⟩
  have X := hide X1
  have CA := hide (k_arena X)
  have CT := hide (k_table X)
  have CM := hide (k_marker X)
  clear X1
  go_wp2_with fail
  refine (unhide CA).mono ?_
  rintro r w2 ⟨rfl, hw⟩
  subst hw
  go_wp2_with fail
  refine (unhide CT).mono ?_
  rintro r w3 ⟨rfl, hw⟩
  subst hw
  go_wp2_with fail
  refine (unhide CM).mono ?_
  rintro r w4 ⟨rfl, hw⟩
  subst hw
  have Y := hide (kh_new (unhide X))
  have CK := hide (k_take_off Y 2 64 l1 e1 rfl)
  obtain ⟨hb0, hhb⟩ : ∃ hb0, w4.heap.size = hb0 := ⟨_, rfl⟩
  rw [hhb] at Y CK
  unfold hObj at CK Y
  clear CA CT CM X
  go_wp2_with fail
  refine (unhide CK).mono ?_
  rintro r w5 ⟨rfl, Y5⟩
  have Y5' := hide Y5
  have C := hide (k_start0 Y5' rfl)
  clear CK Y5 Y
  go_wp2_with fail
  refine (unhide C).mono ?_
  rintro r w6 ⟨rfl, Y6⟩
  have Y6' := hide Y6
  have C2 := hide (k_phase (hide (unhide Y6').ks))
  clear C Y6 Y5'
  go_wp2_with fail
  refine (unhide C2).mono ?_
  rintro r w7' ⟨rfl, hw⟩
  subst hw
  have C3 := hide (k_take_on Y6' 2 66 l3 e3 rfl)
  clear C2
  go_wp2_with fail
  refine (unhide C3).mono ?_
  rintro r w8 ⟨rfl, Y8⟩
  have Y8' := hide Y8
  have C4 : Hid (Calls Tryd.prog 6 #[.pointer (some ⟨b.cb, 0, none⟩), .iface 27 (.pointer (some ⟨hb0, 0, none⟩))] w8 fun e w' => e = .returned (.bool true) ∧ KH w w' xl b hb0 ⟨⟨l3.a.markA 66, l3.u⟩, 2, 64, 0⟩) := hide (k_step Y8' (show (0 : Int) ≤ 0 ∧ (0 : Int) ≤ 1000000 from ⟨by decide, by decide⟩) (Or.inr (Or.inl rfl)))
  clear C3 Y8 Y6'
  go_wp2_with fail
  refine (unhide C4).mono ?_
  rintro r w9 ⟨rfl, Y9⟩
  have Y9' := hide Y9
  have C5 := hide (k_phase (hide (unhide Y9').ks))
  clear C4 Y9 Y8'
  go_wp2_with fail
  refine (unhide C5).mono ?_
  rintro r w10 ⟨rfl, hw⟩
  subst hw
  have C6 : Hid (Calls Tryd.prog 6 #[.pointer (some ⟨b.cb, 0, none⟩), .iface 27 (.pointer (some ⟨hb0, 0, none⟩))] w10 fun e w' => e = .returned (.bool true) ∧ KH w w' xl b hb0 ⟨(⟨l3.a.markA 66, l3.u⟩ : Al).stale, 3, 64, 0⟩) := hide (k_step Y9' (show (0 : Int) ≤ 0 ∧ (0 : Int) ≤ 1000000 from ⟨by decide, by decide⟩) (Or.inr (Or.inr (Or.inl rfl))))
  clear C5
  go_wp2_with fail
  refine (unhide C6).mono ?_
  rintro r w11 ⟨rfl, Y11⟩
  have Y11' := hide Y11
  have C7 := hide (k_phase (hide (unhide Y11').ks))
  clear C6 Y11 Y9'
  go_wp2_with fail
  refine (unhide C7).mono ?_
  rintro r w12 ⟨rfl, hw⟩
  subst hw
  clear C7
  go_wp2_with fail
  go_loopw [] (fun wr => ∃ j : Nat, j ≤ J5 ∧ Hid (KH w wr xl b hb0 ((⟨(⟨l3.a.markA 66, l3.u⟩ : Al).stale, 3, 64, 0⟩ : Pk).steps j))) (fun wr => msW xl b wr)
  case atStart => exact ⟨0, Nat.zero_le _, Y11'⟩
  case round =>
    obtain ⟨j, hj, Z⟩ := hrel
    clear Y11'
    have C := hide (k_step Z ((unhide R5).dn j hj) ((unhide R5).ph j hj))
    by_cases hlt : j < J5
    · have on : decide (((⟨(⟨l3.a.markA 66, l3.u⟩ : Al).stale, 3, 64, 0⟩ : Pk).steps j).ph ≠ 0) = true := by have := (unhide R5).on j hlt; simpa using this
      rw [on] at C
      have m0 := hide ((unhide Z).ms ((unhide R5).n8 j hj))
      clear on
      go_wp2_with fail
      refine (unhide C).mono ?_
      rintro r w13 ⟨rfl, Z1⟩
      have Z1' := hide Z1
      have m1 := hide (KH.ms (s := (⟨(⟨l3.a.markA 66, l3.u⟩ : Al).stale, 3, 64, 0⟩ : Pk).steps (j + 1)) Z1 ((unhide R5).n8 (j + 1) (by omega)))
      clear C Z1
      go_wp2_with fail
      go_roundw
      case rel => exact ⟨j + 1, by omega, Z1'⟩
      case measure => rw [unhide m0, unhide m1]; exact (unhide R5).dec j hlt
    · obtain rfl : j = J5 := by omega
      have of_ := (unhide R5).off
      have es : Hid (((⟨(⟨l3.a.markA 66, l3.u⟩ : Al).stale, 3, 64, 0⟩ : Pk).steps j).step = s6) := hide (by
        unfold Pk.step
        rw [of_]
        simp
        exact unhide hs6)
      have on : decide (((⟨(⟨l3.a.markA 66, l3.u⟩ : Al).stale, 3, 64, 0⟩ : Pk).steps j).ph ≠ 0) = false := by rw [of_]; rfl
      rw [on, unhide es] at C
      clear on of_ es
      go_wp2_with fail
      refine (unhide C).mono ?_
      rintro r w13 ⟨rfl, Z1⟩
      have Z1' := hide Z1
      have p6 := (unhide R60).off
      have p6' : s6.ph = 0 := p6
      have K6 : Hid (KS w w13 xl b s6.al 0 s6.kept s6.done) := hide (by rw [← p6']; exact (unhide Z1').ks)
      have CB := hide (k_barrier0 K6 1 2 3)
      have CN := hide (k_born0 K6 1)
      have CD := hide (k_dies Z1' 1 (by decide))
      clear C Z1 p6 p6'
      go_wp2_with fail
      refine (unhide CB).mono ?_
      rintro r w14 ⟨rfl, hw⟩
      subst hw
      go_wp2_with fail
      refine (unhide CN).mono ?_
      rintro r w15 ⟨rfl, hw⟩
      subst hw
      go_wp2_with fail
      refine (unhide CD).mono ?_
      rintro r w16 ⟨rfl, Z2⟩
      have Z2' := hide Z2
      have K7 : Hid (KS w w16 xl b s6.al 0 s6.kept s6.done) := hide (by rw [← show s6.ph = 0 from (unhide R60).off]; exact (unhide Z2').ks)
      have CS := hide (k_scan0 K7 (.iface 27 (.pointer (some ⟨hb0, 0, none⟩))) 1)
      have CW := hide (k_whole Z2' R60 R6)
      rw [unhide hs7] at CW
      clear CB CN CD Z2 K6
      go_wp2_with fail
      refine (unhide CS).mono ?_
      rintro r w17 ⟨rfl, hw⟩
      subst hw
      go_wp2_with fail
      refine (unhide CW).mono ?_
      rintro r w18 ⟨rfl, Z3⟩
      have Z3' := hide Z3
      have K8 : Hid (KS w w18 xl b s7.al 0 s7.kept 2) := hide (by rw [← p7, ← d7]; exact (unhide Z3').ks)
      have C1 := hide (k_phase K8)
      have C2 := hide (k_done K8)
      have C3 := hide (k_black K8 1 (by decide))
      clear CS CW Z3 K7
      go_wp2_with fail
      refine (unhide C1).mono ?_
      rintro r w19 ⟨rfl, hw⟩
      subst hw
      go_wp2_with fail
      refine (unhide C2).mono ?_
      rintro r w20 ⟨rfl, hw⟩
      subst hw
      go_wp2_with fail
      refine (unhide C3).mono ?_
      rintro r w21 ⟨rfl, g21⟩
      have K9 := hide ((unhide K8).gr g21)
      have C4 := hide (k_wants0 K9 (unhide k7))
      rw [w7] at C4
      clear C1 C2 C3 g21
      go_wp2_with fail
      refine (unhide C4).mono ?_
      rintro r w22 ⟨rfl, K10⟩
      have K10' := hide K10
      have C5 := hide (k_arena K10')
      have C6 := hide (ls_is (hide (unhide K10').st) 64)
      rw [i7] at C6
      clear C4 K10
      go_wp2_with fail
      refine (unhide C5).mono ?_
      rintro r w23 ⟨rfl, hw⟩
      subst hw
      go_wp2_with fail
      refine (unhide C6).mono ?_
      rintro r w24 ⟨rfl, S24, _⟩
      have g24 := hide S24.below
      clear C5 C6 S24
      go_wp2_with fail
      go_ret
      exact ⟨rfl, unhide g24⟩

theorem pair_ofK {α : Type} {r : α × Int × Int} {v e : Int} (h : r.2 = (v, e)) : r = (r.1, v, e) := by
  obtain ⟨a, b⟩ := r
  simp only at h
  rw [h]
theorem awake8 (w : World) (ht : Tab w) : Calls Tryd.prog 4 #[] w fun e w' => e = .returned (.bool true) ∧ G w w' :=
  awake8_core w (hide ht) _ _ 2 4 _ _ (hide (pair_ofK (by decide +kernel))) (hide (pair_ofK (by decide +kernel))) (hide ⟨by decide +kernel, by decide +kernel, by decide +kernel, by decide +kernel, by decide +kernel, by decide +kernel⟩) (hide rfl) (hide ⟨by decide +kernel, by decide +kernel, by decide +kernel, by decide +kernel, by decide +kernel, by decide +kernel⟩) (hide ⟨by decide +kernel, by decide +kernel, by decide +kernel, by decide +kernel, by decide +kernel, by decide +kernel⟩) (hide rfl) (by decide +kernel) (by decide +kernel) (hide (by decide +kernel)) (by decide +kernel) (by decide +kernel)
end Go.Proofs.YtkhjbefogofhlaaDoor
