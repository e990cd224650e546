/- The program's parser: expr, inside, exprOrNone, call (laid by py/pax.py). -/
import Derived.Test.YtablincnlfbjnabDoorPaB8
namespace Go.Proofs.YtablincnlfbjnabDoor
set_option maxRecDepth 100000
open Go.RowKit Go.Maps Go.ChangeShapes Go.WideShapes Go.ChangeAt Go.Deep

set_option maxHeartbeats 8000000 in
theorem expr_ok {rb wb wc : Nat} {ws : List Wd} {R : Nt → PS → Tt × PS} {M : Nat} (L : Lv rb wb wc ws R M) (s : PS) (hs : mu ws s < M + 1) : Ok rb wb wc ws 46 (exprP ws R) s := by
  refine ok_of fun hk y h => ?_
  have CD : Hid (∀ w1, RSt rb wb wc ws s w1 → Calls Tryd.prog 58 #[.pointer (some ⟨rb, 0, none⟩), .int .i64 1] w1 (NTo rb wb wc ws (exprP ws R s) w1)) := hide fun w1 hh => bin_ok L 5 1 rfl (by omega) s hs w1 hh
  generalize exprP ws R s = pr at *
  have p := hide ((Pn.new h).al (.cells zBox 27))
  have b := hide (BoxT.zero y)
  clear h hk hs L
  go_enter Tryd.func46, Tryd.ntmps46
  go_wp2_with fail
  refine (unhide CD _ (unhide p).st).mono ?_
  rintro e w2 hn
  obtain ⟨ao, n, c, rfl, ⟨u0, u1, u2, u3, q0, q1, q2, q3⟩, ⟨z0, z1, z2, z3⟩, K⟩ := arm_fin (unhide p) (unhide b) hn
  clear hn p b
  go_wp2_with fail
  obtain ⟨K1, d0, d1, d2, d3⟩ := unhide K
  refine bodyPost_ret (by simp [results, Tryd.results46, go_sem, d0, d1, d2, d3]; try rfl) rfl ?_
  exact K1
set_option maxHeartbeats 8000000 in
theorem inside_ok {rb wb wc : Nat} {ws : List Wd} {R : Nt → PS → Tt × PS} {M : Nat} (L : Lv rb wb wc ws R M) (s : PS) (hs : mu ws s < M + 1) : Ok rb wb wc ws 31 (insideP ws R) s := by
  refine ok_of fun hk y h => ?_
  have CD : Hid (∀ w1, RSt rb wb wc ws s w1 → Calls Tryd.prog 45 #[.pointer (some ⟨rb, 0, none⟩), .func (.func 46) #[.pointer (some ⟨rb, 0, none⟩)] #[]] w1 (NTo rb wb wc ws (insideP ws R s) w1)) := hide fun w1 hh => deeper_any hh _ _ (fun _ _ => rfl) (expr_ok L (pUp s) hs)
  generalize insideP ws R s = pr at *
  have p := hide ((Pn.new h).al (.cells zBox 27))
  have b := hide (BoxT.zero y)
  clear h hk hs L
  go_enter Tryd.func31, Tryd.ntmps31
  go_wp2_with fail
  refine (unhide CD _ (unhide p).st).mono ?_
  rintro e w2 hn
  obtain ⟨ao, n, c, rfl, ⟨u0, u1, u2, u3, q0, q1, q2, q3⟩, ⟨z0, z1, z2, z3⟩, K⟩ := arm_fin (unhide p) (unhide b) hn
  clear hn p b
  go_wp2_with fail
  obtain ⟨K1, d0, d1, d2, d3⟩ := unhide K
  refine bodyPost_ret (by simp [results, Tryd.results31, go_sem, d0, d1, d2, d3]; try rfl) rfl ?_
  exact K1
set_option maxHeartbeats 8000000 in
theorem exprOr_ok {rb wb wc : Nat} {ws : List Wd} {R : Nt → PS → Tt × PS} {M : Nat} (L : Lv rb wb wc ws R M) (s : PS) (hs : mu ws s < M + 1) : Ok rb wb wc ws 52 (exprOrP ws R) s := by
  refine ok_of fun hk y h => ?_
  unfold exprOrP
  by_cases h0 : pIs ws [59] s = true
  · rw [if_pos h0]
    have C0 : Hid (∀ w1, RSt rb wb wc ws s w1 → Calls Tryd.prog 43 #[.pointer (some ⟨rb, 0, none⟩), .string ⟨#[59]⟩] w1 fun e w2 => e = .returned (.bool true) ∧ G w1 w2) := hide fun w1 hh => by have := is_any hh [59]; rw [h0] at this; exact this
    have CD : Hid (∀ w1, RSt rb wb wc ws s w1 → Calls Tryd.prog 61 #[.pointer (some ⟨rb, 0, none⟩)] w1 (NTo rb wb wc ws (noneP ws R s) w1)) := hide fun w1 hh => none_ok R s w1 hh
    generalize noneP ws R s = pr at *
    have p := hide ((Pn.new h).al (.cells zBox 27))
    have b := hide (BoxT.zero y)
    clear h hk hs L h0
    go_enter Tryd.func52, Tryd.ntmps52
    go_wp2_with fail
    refine (unhide C0 _ (unhide p).st).mono ?_
    rintro e w1 ⟨rfl, g⟩
    replace b := hide ((unhide b).g g)
    replace p := hide ((unhide p).g g)
    clear g
    go_wp2_with fail
    refine (unhide CD _ (unhide p).st).mono ?_
    rintro e w2 hn
    obtain ⟨ao, n, c, rfl, ⟨u0, u1, u2, u3, q0, q1, q2, q3⟩, ⟨z0, z1, z2, z3⟩, K⟩ := arm_fin (unhide p) (unhide b) hn
    clear hn p b
    go_wp2_with fail
    obtain ⟨K1, d0, d1, d2, d3⟩ := unhide K
    refine bodyPost_ret (by simp [results, Tryd.results52, go_sem, d0, d1, d2, d3]; try rfl) rfl ?_
    exact K1
  rw [if_neg h0]
  have h0' : pIs ws [59] s = false := by simpa using h0
  have C0 : Hid (∀ w1, RSt rb wb wc ws s w1 → Calls Tryd.prog 43 #[.pointer (some ⟨rb, 0, none⟩), .string ⟨#[59]⟩] w1 fun e w2 => e = .returned (.bool false) ∧ G w1 w2) := hide fun w1 hh => by have := is_any hh [59]; rw [h0'] at this; exact this
  have CD : Hid (∀ w1, RSt rb wb wc ws s w1 → Calls Tryd.prog 46 #[.pointer (some ⟨rb, 0, none⟩)] w1 (NTo rb wb wc ws (exprP ws R s) w1)) := hide fun w1 hh => expr_ok L s hs w1 hh
  generalize exprP ws R s = pr at *
  have p := hide ((Pn.new h).al (.cells zBox 27))
  have b := hide (BoxT.zero y)
  clear h hk hs L h0 h0'
  go_enter Tryd.func52, Tryd.ntmps52
  go_wp2_with fail
  refine (unhide C0 _ (unhide p).st).mono ?_
  rintro e w1 ⟨rfl, g⟩
  replace b := hide ((unhide b).g g)
  replace p := hide ((unhide p).g g)
  clear g
  go_wp2_with fail
  refine (unhide CD _ (unhide p).st).mono ?_
  rintro e w2 hn
  obtain ⟨ao, n, c, rfl, ⟨u0, u1, u2, u3, q0, q1, q2, q3⟩, ⟨z0, z1, z2, z3⟩, K⟩ := arm_fin (unhide p) (unhide b) hn
  clear hn p b
  go_wp2_with fail
  obtain ⟨K1, d0, d1, d2, d3⟩ := unhide K
  refine bodyPost_ret (by simp [results, Tryd.results52, go_sem, d0, d1, d2, d3]; try rfl) rfl ?_
  exact K1
set_option maxHeartbeats 8000000 in
theorem call_ok {rb wb wc : Nat} {ws : List Wd} {R : Nt → PS → Tt × PS} {M : Nat} (L : Lv rb wb wc ws R M) (s : PS) (hs : mu ws s < M + 1) : Ok rb wb wc ws 53 (callP ws R) s := by
  refine ok_of fun hk y h => ?_
  have CD : Hid (∀ w1, RSt rb wb wc ws s w1 → Calls Tryd.prog 46 #[.pointer (some ⟨rb, 0, none⟩)] w1 (NTo rb wb wc ws (exprP ws R s) w1)) := hide fun w1 hh => expr_ok L s hs w1 hh
  unfold callP
  dsimp only
  generalize exprP ws R s = r at *
  have p := hide ((Pn.new h).al (.cells zBox 27))
  have b := hide (BoxT.zero y)
  clear h hk hs L
  by_cases h0 : r.1.k = [99, 97, 108, 108]
  · rw [if_pos h0]
    have n0' : (r.1.k == [99, 97, 108, 108]) = true := by simpa using h0
    go_enter Tryd.func53, Tryd.ntmps53
    go_wp2_with fail
    refine (unhide CD _ (unhide p).st).mono ?_
    rintro e w2 hn
    obtain ⟨o0, n0, c0, rfl, ho, h2, g2⟩ := hn.open
    have hT := hide (PT.new (unhide p) (unhide b) ho h2 g2)
    clear CD hn ho h2 g2 p b
    obtain ⟨ao, n, c, -, ⟨k0, k1, k2, k3⟩, ⟨u0, u1, u2, u3, q0, q1, q2, q3⟩, ⟨z0, z1, z2, z3⟩, K⟩ := (unhide hT).fin
    clear hT h0
    go_wp2_with fail
    obtain ⟨K1, d0, d1, d2, d3⟩ := unhide K
    refine bodyPost_ret (by simp [results, Tryd.results53, go_sem, d0, d1, d2, d3]; try rfl) rfl ?_
    exact K1
  rw [if_neg h0]
  have n0' : (r.1.k == [99, 97, 108, 108]) = false := by simpa using h0
  have CF : Hid (∀ w1, RSt rb wb wc ws r.2 w1 → Calls Tryd.prog 41 #[.pointer (some ⟨rb, 0, none⟩), .int .i64 6] w1 (UTo rb wb wc ws (pFault ws 6 r.2) w1 (.tuple #[]))) := hide fun w1 hh => fault_any hh 6
  go_enter Tryd.func53, Tryd.ntmps53
  go_wp2_with fail
  refine (unhide CD _ (unhide p).st).mono ?_
  rintro e w2 hn
  obtain ⟨o0, n0, c0, rfl, ho, h2, g2⟩ := hn.open
  have hT := hide (PT.new (unhide p) (unhide b) ho h2 g2)
  clear CD hn ho h2 g2 p b
  have k0' := (unhide hT).bm.c.1
  go_wp2_with fail
  refine (unhide CF _ (unhide hT).p.st).mono ?_
  rintro e w4 hu
  obtain ⟨rfl, hu2⟩ := hu
  obtain ⟨ao, n, c, -, ⟨k0, k1, k2, k3⟩, ⟨u0, u1, u2, u3, q0, q1, q2, q3⟩, ⟨z0, z1, z2, z3⟩, K⟩ := ((unhide hT).to hu2.1 hu2.2).fin
  clear hT CF hu2
  go_wp2_with fail
  obtain ⟨K1, d0, d1, d2, d3⟩ := unhide K
  refine bodyPost_ret (by simp [results, Tryd.results53, go_sem, d0, d1, d2, d3]; try rfl) rfl ?_
  exact K1
end Go.Proofs.YtablincnlfbjnabDoor
