/- The program's parser: typeItself, typ, typeOrNone, param (laid by py/pax.py). -/
import Derived.Test.YtablincnlfbjnabDoorPaB2
namespace Go.Proofs.YtablincnlfbjnabDoor
set_option maxRecDepth 100000
open Go.RowKit Go.Maps Go.ChangeShapes Go.WideShapes Go.ChangeAt Go.Deep

theorem rc_1 : RowC (⟨#[105, 110, 116]⟩ : ByteArray) [.word [105, 110, 116]] := ⟨by decide +kernel, by decide +kernel, by decide +kernel, by decide +kernel, by decide +kernel⟩
theorem rc_2 : RowC (⟨#[98, 111, 111, 108]⟩ : ByteArray) [.word [98, 111, 111, 108]] := ⟨by decide +kernel, by decide +kernel, by decide +kernel, by decide +kernel, by decide +kernel⟩
theorem rc_3 : RowC (⟨#[91, 32, 93, 32, 116, 121, 112, 101]⟩ : ByteArray) [.word [91], .word [93], .part .type] := ⟨by decide +kernel, by decide +kernel, by decide +kernel, by decide +kernel, by decide +kernel⟩
theorem rc_4 : RowC (⟨#[99, 104, 97, 110, 32, 116, 121, 112, 101]⟩ : ByteArray) [.word [99, 104, 97, 110], .part .type] := ⟨by decide +kernel, by decide +kernel, by decide +kernel, by decide +kernel, by decide +kernel⟩
theorem rc_5 : RowC (⟨#[78, 65, 77, 69]⟩ : ByteArray) [.name] := ⟨by decide +kernel, by decide +kernel, by decide +kernel, by decide +kernel, by decide +kernel⟩
theorem rc_6 : RowC (⟨#[78, 65, 77, 69, 32, 116, 121, 112, 101]⟩ : ByteArray) [.name, .part .type] := ⟨by decide +kernel, by decide +kernel, by decide +kernel, by decide +kernel, by decide +kernel⟩
set_option maxHeartbeats 8000000 in
theorem typIt_ok {rb wb wc : Nat} {ws : List Wd} {R : Nt → PS → Tt × PS} {M : Nat} (L : Lv rb wb wc ws R M) (s : PS) (hs : mu ws s < M + 1) : Ok rb wb wc ws 60 (typItP ws R) s := by
  refine ok_of fun hk y h => ?_
  have fl0 := pfld0
  have fl1 := pfld1
  unfold typItP
  by_cases h0 : (wdAt ws s).x = [105, 110, 116]
  · rw [if_pos h0]
    have CW : Hid (∀ w1, RSt rb wb wc ws s w1 → Calls Tryd.prog 14 #[.pointer (some ⟨rb, 0, none⟩)] w1 (fun e w2 => e = .returned (.agg #[.int .i64 ((wdAt ws s).k : Int), .string ⟨(wdAt ws s).x.toArray⟩, .int .i64 ((wdAt ws s).o : Int)]) ∧ G w1 w2)) := hide fun w1 hh => word_any hh
    have CR : Hid (∀ w1, RSt rb wb wc ws s w1 → Calls Tryd.prog 13 #[.pointer (some ⟨rb, 0, none⟩), .string ⟨#[105, 110, 116]⟩, .string ⟨#[105, 110, 116]⟩, .slice none 0 0] w1 (NTo rb wb wc ws (pRow ws R [105, 110, 116] [.word [105, 110, 116]] [] s) w1)) := hide fun w1 hh => row_nil hh [105, 110, 116] rc_1 (L.word [] (by simp) hk hs h0 (by simp))
    rw [h0] at CW
    clear h0
    generalize pRow ws R [105, 110, 116] [.word [105, 110, 116]] [] s = pr at *
    generalize (wdAt ws s).x = wx at *
    generalize (wdAt ws s).k = wk at *
    generalize (wdAt ws s).o = wo at *
    have p := hide ((Pn.new h).al (.cells zBox 27))
    have b := hide (BoxT.zero y)
    clear h hk hs L
    go_enter Tryd.func60, Tryd.ntmps60
    go_wp2_with fail
    refine (unhide CW _ (unhide p).st).mono ?_
    rintro e w1 ⟨rfl, g⟩
    replace b := hide ((unhide b).g g)
    replace p := hide ((unhide p).g g)
    clear g
    go_wp2_with fail
    refine (unhide CR _ (unhide p).st).mono ?_
    rintro e w2 hn
    obtain ⟨ao, n, c, rfl, ⟨u0, u1, u2, u3, q0, q1, q2, q3⟩, ⟨z0, z1, z2, z3⟩, K⟩ := arm_fin (unhide p) (unhide b) hn
    clear hn p b
    go_wp2_with fail
    obtain ⟨K1, d0, d1, d2, d3⟩ := unhide K
    refine bodyPost_ret (by simp [results, Tryd.results60, go_sem, d0, d1, d2, d3]; try rfl) rfl ?_
    exact K1
  rw [if_neg h0]
  by_cases h1 : (wdAt ws s).x = [98, 111, 111, 108]
  · rw [if_pos h1]
    have CW : Hid (∀ w1, RSt rb wb wc ws s w1 → Calls Tryd.prog 14 #[.pointer (some ⟨rb, 0, none⟩)] w1 (fun e w2 => e = .returned (.agg #[.int .i64 ((wdAt ws s).k : Int), .string ⟨(wdAt ws s).x.toArray⟩, .int .i64 ((wdAt ws s).o : Int)]) ∧ G w1 w2)) := hide fun w1 hh => word_any hh
    have CR : Hid (∀ w1, RSt rb wb wc ws s w1 → Calls Tryd.prog 13 #[.pointer (some ⟨rb, 0, none⟩), .string ⟨#[98, 111, 111, 108]⟩, .string ⟨#[98, 111, 111, 108]⟩, .slice none 0 0] w1 (NTo rb wb wc ws (pRow ws R [98, 111, 111, 108] [.word [98, 111, 111, 108]] [] s) w1)) := hide fun w1 hh => row_nil hh [98, 111, 111, 108] rc_2 (L.word [] (by simp) hk hs h1 (by simp))
    rw [h1] at CW
    clear h1
    clear h0
    generalize pRow ws R [98, 111, 111, 108] [.word [98, 111, 111, 108]] [] s = pr at *
    generalize (wdAt ws s).x = wx at *
    generalize (wdAt ws s).k = wk at *
    generalize (wdAt ws s).o = wo at *
    have p := hide ((Pn.new h).al (.cells zBox 27))
    have b := hide (BoxT.zero y)
    clear h hk hs L
    go_enter Tryd.func60, Tryd.ntmps60
    go_wp2_with fail
    refine (unhide CW _ (unhide p).st).mono ?_
    rintro e w1 ⟨rfl, g⟩
    replace b := hide ((unhide b).g g)
    replace p := hide ((unhide p).g g)
    clear g
    go_wp2_with fail
    refine (unhide CR _ (unhide p).st).mono ?_
    rintro e w2 hn
    obtain ⟨ao, n, c, rfl, ⟨u0, u1, u2, u3, q0, q1, q2, q3⟩, ⟨z0, z1, z2, z3⟩, K⟩ := arm_fin (unhide p) (unhide b) hn
    clear hn p b
    go_wp2_with fail
    obtain ⟨K1, d0, d1, d2, d3⟩ := unhide K
    refine bodyPost_ret (by simp [results, Tryd.results60, go_sem, d0, d1, d2, d3]; try rfl) rfl ?_
    exact K1
  rw [if_neg h1]
  by_cases h2 : (wdAt ws s).x = [91]
  · rw [if_pos h2]
    have CW : Hid (∀ w1, RSt rb wb wc ws s w1 → Calls Tryd.prog 14 #[.pointer (some ⟨rb, 0, none⟩)] w1 (fun e w2 => e = .returned (.agg #[.int .i64 ((wdAt ws s).k : Int), .string ⟨(wdAt ws s).x.toArray⟩, .int .i64 ((wdAt ws s).o : Int)]) ∧ G w1 w2)) := hide fun w1 hh => word_any hh
    have CR : Hid (∀ w1, RSt rb wb wc ws s w1 → Calls Tryd.prog 13 #[.pointer (some ⟨rb, 0, none⟩), .string ⟨#[108, 105, 115, 116]⟩, .string ⟨#[91, 32, 93, 32, 116, 121, 112, 101]⟩, .slice none 0 0] w1 (NTo rb wb wc ws (pRow ws R [108, 105, 115, 116] [.word [91], .word [93], .part .type] [] s) w1)) := hide fun w1 hh => row_nil hh [108, 105, 115, 116] rc_3 (L.word [.word [93], .part .type] (by simp) hk hs h2 (by simp))
    rw [h2] at CW
    clear h2
    clear h0
    clear h1
    generalize pRow ws R [108, 105, 115, 116] [.word [91], .word [93], .part .type] [] s = pr at *
    generalize (wdAt ws s).x = wx at *
    generalize (wdAt ws s).k = wk at *
    generalize (wdAt ws s).o = wo at *
    have p := hide ((Pn.new h).al (.cells zBox 27))
    have b := hide (BoxT.zero y)
    clear h hk hs L
    go_enter Tryd.func60, Tryd.ntmps60
    go_wp2_with fail
    refine (unhide CW _ (unhide p).st).mono ?_
    rintro e w1 ⟨rfl, g⟩
    replace b := hide ((unhide b).g g)
    replace p := hide ((unhide p).g g)
    clear g
    go_wp2_with fail
    refine (unhide CR _ (unhide p).st).mono ?_
    rintro e w2 hn
    obtain ⟨ao, n, c, rfl, ⟨u0, u1, u2, u3, q0, q1, q2, q3⟩, ⟨z0, z1, z2, z3⟩, K⟩ := arm_fin (unhide p) (unhide b) hn
    clear hn p b
    go_wp2_with fail
    obtain ⟨K1, d0, d1, d2, d3⟩ := unhide K
    refine bodyPost_ret (by simp [results, Tryd.results60, go_sem, d0, d1, d2, d3]; try rfl) rfl ?_
    exact K1
  rw [if_neg h2]
  by_cases h3 : (wdAt ws s).x = [99, 104, 97, 110]
  · rw [if_pos h3]
    have CW : Hid (∀ w1, RSt rb wb wc ws s w1 → Calls Tryd.prog 14 #[.pointer (some ⟨rb, 0, none⟩)] w1 (fun e w2 => e = .returned (.agg #[.int .i64 ((wdAt ws s).k : Int), .string ⟨(wdAt ws s).x.toArray⟩, .int .i64 ((wdAt ws s).o : Int)]) ∧ G w1 w2)) := hide fun w1 hh => word_any hh
    have CR : Hid (∀ w1, RSt rb wb wc ws s w1 → Calls Tryd.prog 13 #[.pointer (some ⟨rb, 0, none⟩), .string ⟨#[99, 104, 97, 110]⟩, .string ⟨#[99, 104, 97, 110, 32, 116, 121, 112, 101]⟩, .slice none 0 0] w1 (NTo rb wb wc ws (pRow ws R [99, 104, 97, 110] [.word [99, 104, 97, 110], .part .type] [] s) w1)) := hide fun w1 hh => row_nil hh [99, 104, 97, 110] rc_4 (L.word [.part .type] (by simp) hk hs h3 (by simp))
    rw [h3] at CW
    clear h3
    clear h0
    clear h1
    clear h2
    generalize pRow ws R [99, 104, 97, 110] [.word [99, 104, 97, 110], .part .type] [] s = pr at *
    generalize (wdAt ws s).x = wx at *
    generalize (wdAt ws s).k = wk at *
    generalize (wdAt ws s).o = wo at *
    have p := hide ((Pn.new h).al (.cells zBox 27))
    have b := hide (BoxT.zero y)
    clear h hk hs L
    go_enter Tryd.func60, Tryd.ntmps60
    go_wp2_with fail
    refine (unhide CW _ (unhide p).st).mono ?_
    rintro e w1 ⟨rfl, g⟩
    replace b := hide ((unhide b).g g)
    replace p := hide ((unhide p).g g)
    clear g
    go_wp2_with fail
    refine (unhide CR _ (unhide p).st).mono ?_
    rintro e w2 hn
    obtain ⟨ao, n, c, rfl, ⟨u0, u1, u2, u3, q0, q1, q2, q3⟩, ⟨z0, z1, z2, z3⟩, K⟩ := arm_fin (unhide p) (unhide b) hn
    clear hn p b
    go_wp2_with fail
    obtain ⟨K1, d0, d1, d2, d3⟩ := unhide K
    refine bodyPost_ret (by simp [results, Tryd.results60, go_sem, d0, d1, d2, d3]; try rfl) rfl ?_
    exact K1
  rw [if_neg h3]
  by_cases h4 : (wdAt ws s).x = [102, 117, 110, 99]
  · rw [if_pos h4]
    have CW : Hid (∀ w1, RSt rb wb wc ws s w1 → Calls Tryd.prog 14 #[.pointer (some ⟨rb, 0, none⟩)] w1 (fun e w2 => e = .returned (.agg #[.int .i64 ((wdAt ws s).k : Int), .string ⟨(wdAt ws s).x.toArray⟩, .int .i64 ((wdAt ws s).o : Int)]) ∧ G w1 w2)) := hide fun w1 hh => word_any hh
    rw [h4] at CW
    have CF : Hid (∀ w1, RSt rb wb wc ws s w1 → Calls Tryd.prog 74 #[.pointer (some ⟨rb, 0, none⟩)] w1 (NTo rb wb wc ws (fnP ws R s) w1)) := hide fun w1 hh => fn_ok L s hs h4 w1 hh
    generalize fnP ws R s = pr at *
    generalize (wdAt ws s).x = wx at *
    generalize (wdAt ws s).k = wk at *
    generalize (wdAt ws s).o = wo at *
    have p := hide ((Pn.new h).al (.cells zBox 27))
    have b := hide (BoxT.zero y)
    clear h hk hs L h4 h0 h1 h2 h3
    go_enter Tryd.func60, Tryd.ntmps60
    go_wp2_with fail
    refine (unhide CW _ (unhide p).st).mono ?_
    rintro e w1 ⟨rfl, g⟩
    replace b := hide ((unhide b).g g)
    replace p := hide ((unhide p).g g)
    clear g
    go_wp2_with fail
    refine (unhide CF _ (unhide p).st).mono ?_
    rintro e w2 hn
    obtain ⟨ao, n, c, rfl, ⟨u0, u1, u2, u3, q0, q1, q2, q3⟩, ⟨z0, z1, z2, z3⟩, K⟩ := arm_fin (unhide p) (unhide b) hn
    clear hn p b
    go_wp2_with fail
    obtain ⟨K1, d0, d1, d2, d3⟩ := unhide K
    refine bodyPost_ret (by simp [results, Tryd.results60, go_sem, d0, d1, d2, d3]; try rfl) rfl ?_
    exact K1
  rw [if_neg h4]
  have n0 : ((wdAt ws s).x == [105, 110, 116]) = false := by simpa using h0
  have n1 : ((wdAt ws s).x == [98, 111, 111, 108]) = false := by simpa using h1
  have n2 : ((wdAt ws s).x == [91]) = false := by simpa using h2
  have n3 : ((wdAt ws s).x == [99, 104, 97, 110]) = false := by simpa using h3
  have n4 : ((wdAt ws s).x == [102, 117, 110, 99]) = false := by simpa using h4
  clear h0 h1 h2 h3 h4
  have CW : Hid (∀ w1, RSt rb wb wc ws s w1 → Calls Tryd.prog 14 #[.pointer (some ⟨rb, 0, none⟩)] w1 (fun e w2 => e = .returned (.agg #[.int .i64 ((wdAt ws s).k : Int), .string ⟨(wdAt ws s).x.toArray⟩, .int .i64 ((wdAt ws s).o : Int)]) ∧ G w1 w2)) := hide fun w1 hh => word_any hh
  have CR : Hid (∀ w1, RSt rb wb wc ws s w1 → Calls Tryd.prog 13 #[.pointer (some ⟨rb, 0, none⟩), .string ⟨#[110, 97, 109, 101, 100]⟩, .string ⟨#[78, 65, 77, 69]⟩, .slice none 0 0] w1 (NTo rb wb wc ws (pRow ws R [110, 97, 109, 101, 100] [.name] [] s) w1)) := hide fun w1 hh => row_nil hh [110, 97, 109, 101, 100] rc_5 (⟨trivial, trivial⟩)
  generalize pRow ws R [110, 97, 109, 101, 100] [.name] [] s = pr at *
  generalize (wdAt ws s).x = wx at *
  generalize (wdAt ws s).k = wk at *
  generalize (wdAt ws s).o = wo at *
  have p := hide ((Pn.new h).al (.cells zBox 27))
  have b := hide (BoxT.zero y)
  clear h hk hs L
  go_enter Tryd.func60, Tryd.ntmps60
  go_wp2_with fail
  refine (unhide CW _ (unhide p).st).mono ?_
  rintro e w1 ⟨rfl, g⟩
  replace b := hide ((unhide b).g g)
  replace p := hide ((unhide p).g g)
  clear g
  go_wp2_with fail
  refine (unhide CR _ (unhide p).st).mono ?_
  rintro e w2 hn
  obtain ⟨ao, n, c, rfl, ⟨u0, u1, u2, u3, q0, q1, q2, q3⟩, ⟨z0, z1, z2, z3⟩, K⟩ := arm_fin (unhide p) (unhide b) hn
  clear hn p b
  go_wp2_with fail
  obtain ⟨K1, d0, d1, d2, d3⟩ := unhide K
  refine bodyPost_ret (by simp [results, Tryd.results60, go_sem, d0, d1, d2, d3]; try rfl) rfl ?_
  exact K1
set_option maxHeartbeats 8000000 in
theorem typ_ok {rb wb wc : Nat} {ws : List Wd} {R : Nt → PS → Tt × PS} {M : Nat} (L : Lv rb wb wc ws R M) (s : PS) (hs : mu ws s < M + 1) : Ok rb wb wc ws 48 (typP ws R) s := by
  refine ok_of fun hk y h => ?_
  have CD : Hid (∀ w1, RSt rb wb wc ws s w1 → Calls Tryd.prog 45 #[.pointer (some ⟨rb, 0, none⟩), .func (.func 60) #[.pointer (some ⟨rb, 0, none⟩)] #[]] w1 (NTo rb wb wc ws (typP ws R s) w1)) := hide fun w1 hh => deeper_any hh _ _ (fun _ _ => rfl) (typIt_ok L (pUp s) hs)
  generalize typP ws R s = pr at *
  have p := hide ((Pn.new h).al (.cells zBox 27))
  have b := hide (BoxT.zero y)
  clear h hk hs L
  go_enter Tryd.func48, Tryd.ntmps48
  go_wp2_with fail
  refine (unhide CD _ (unhide p).st).mono ?_
  rintro e w2 hn
  obtain ⟨ao, n, c, rfl, ⟨u0, u1, u2, u3, q0, q1, q2, q3⟩, ⟨z0, z1, z2, z3⟩, K⟩ := arm_fin (unhide p) (unhide b) hn
  clear hn p b
  go_wp2_with fail
  obtain ⟨K1, d0, d1, d2, d3⟩ := unhide K
  refine bodyPost_ret (by simp [results, Tryd.results48, go_sem, d0, d1, d2, d3]; try rfl) rfl ?_
  exact K1
set_option maxHeartbeats 8000000 in
theorem typeOr_ok {rb wb wc : Nat} {ws : List Wd} {R : Nt → PS → Tt × PS} {M : Nat} (L : Lv rb wb wc ws R M) (s : PS) (hs : mu ws s < M + 1) : Ok rb wb wc ws 49 (typeOrP ws R) s := by
  refine ok_of fun hk y h => ?_
  have fl0 := pfld0
  have fl1 := pfld1
  unfold typeOrP typeOrR
  by_cases h0 : (wdAt ws s).x = [105, 110, 116]
  · rw [if_pos h0]
    have CW : Hid (∀ w1, RSt rb wb wc ws s w1 → Calls Tryd.prog 14 #[.pointer (some ⟨rb, 0, none⟩)] w1 (fun e w2 => e = .returned (.agg #[.int .i64 ((wdAt ws s).k : Int), .string ⟨(wdAt ws s).x.toArray⟩, .int .i64 ((wdAt ws s).o : Int)]) ∧ G w1 w2)) := hide fun w1 hh => word_any hh
    rw [h0] at CW
    have CT : Hid (∀ w1, RSt rb wb wc ws s w1 → Calls Tryd.prog 48 #[.pointer (some ⟨rb, 0, none⟩)] w1 (NTo rb wb wc ws (typP ws R s) w1)) := hide fun w1 hh => typ_ok L s hs w1 hh
    generalize typP ws R s = pr at *
    generalize (wdAt ws s).x = wx at *
    generalize (wdAt ws s).k = wk at *
    generalize (wdAt ws s).o = wo at *
    have p := hide ((Pn.new h).al (.cells zBox 27))
    have b := hide (BoxT.zero y)
    clear h hk hs L h0
    go_enter Tryd.func49, Tryd.ntmps49
    go_wp2_with fail
    refine (unhide CW _ (unhide p).st).mono ?_
    rintro e w1 ⟨rfl, g⟩
    replace b := hide ((unhide b).g g)
    replace p := hide ((unhide p).g g)
    clear g
    go_wp2_with fail
    refine (unhide CT _ (unhide p).st).mono ?_
    rintro e w2 hn
    obtain ⟨ao, n, c, rfl, ⟨u0, u1, u2, u3, q0, q1, q2, q3⟩, ⟨z0, z1, z2, z3⟩, K⟩ := arm_fin (unhide p) (unhide b) hn
    clear hn p b
    go_wp2_with fail
    obtain ⟨K1, d0, d1, d2, d3⟩ := unhide K
    refine bodyPost_ret (by simp [results, Tryd.results49, go_sem, d0, d1, d2, d3]; try rfl) rfl ?_
    exact K1
  rw [if_neg h0]
  by_cases h1 : (wdAt ws s).x = [98, 111, 111, 108]
  · rw [if_pos h1]
    have CW : Hid (∀ w1, RSt rb wb wc ws s w1 → Calls Tryd.prog 14 #[.pointer (some ⟨rb, 0, none⟩)] w1 (fun e w2 => e = .returned (.agg #[.int .i64 ((wdAt ws s).k : Int), .string ⟨(wdAt ws s).x.toArray⟩, .int .i64 ((wdAt ws s).o : Int)]) ∧ G w1 w2)) := hide fun w1 hh => word_any hh
    rw [h1] at CW
    have CT : Hid (∀ w1, RSt rb wb wc ws s w1 → Calls Tryd.prog 48 #[.pointer (some ⟨rb, 0, none⟩)] w1 (NTo rb wb wc ws (typP ws R s) w1)) := hide fun w1 hh => typ_ok L s hs w1 hh
    generalize typP ws R s = pr at *
    generalize (wdAt ws s).x = wx at *
    generalize (wdAt ws s).k = wk at *
    generalize (wdAt ws s).o = wo at *
    have p := hide ((Pn.new h).al (.cells zBox 27))
    have b := hide (BoxT.zero y)
    clear h hk hs L h1 h0
    go_enter Tryd.func49, Tryd.ntmps49
    go_wp2_with fail
    refine (unhide CW _ (unhide p).st).mono ?_
    rintro e w1 ⟨rfl, g⟩
    replace b := hide ((unhide b).g g)
    replace p := hide ((unhide p).g g)
    clear g
    go_wp2_with fail
    refine (unhide CT _ (unhide p).st).mono ?_
    rintro e w2 hn
    obtain ⟨ao, n, c, rfl, ⟨u0, u1, u2, u3, q0, q1, q2, q3⟩, ⟨z0, z1, z2, z3⟩, K⟩ := arm_fin (unhide p) (unhide b) hn
    clear hn p b
    go_wp2_with fail
    obtain ⟨K1, d0, d1, d2, d3⟩ := unhide K
    refine bodyPost_ret (by simp [results, Tryd.results49, go_sem, d0, d1, d2, d3]; try rfl) rfl ?_
    exact K1
  rw [if_neg h1]
  by_cases h2 : (wdAt ws s).x = [91]
  · rw [if_pos h2]
    have CW : Hid (∀ w1, RSt rb wb wc ws s w1 → Calls Tryd.prog 14 #[.pointer (some ⟨rb, 0, none⟩)] w1 (fun e w2 => e = .returned (.agg #[.int .i64 ((wdAt ws s).k : Int), .string ⟨(wdAt ws s).x.toArray⟩, .int .i64 ((wdAt ws s).o : Int)]) ∧ G w1 w2)) := hide fun w1 hh => word_any hh
    rw [h2] at CW
    have CT : Hid (∀ w1, RSt rb wb wc ws s w1 → Calls Tryd.prog 48 #[.pointer (some ⟨rb, 0, none⟩)] w1 (NTo rb wb wc ws (typP ws R s) w1)) := hide fun w1 hh => typ_ok L s hs w1 hh
    generalize typP ws R s = pr at *
    generalize (wdAt ws s).x = wx at *
    generalize (wdAt ws s).k = wk at *
    generalize (wdAt ws s).o = wo at *
    have p := hide ((Pn.new h).al (.cells zBox 27))
    have b := hide (BoxT.zero y)
    clear h hk hs L h2 h0 h1
    go_enter Tryd.func49, Tryd.ntmps49
    go_wp2_with fail
    refine (unhide CW _ (unhide p).st).mono ?_
    rintro e w1 ⟨rfl, g⟩
    replace b := hide ((unhide b).g g)
    replace p := hide ((unhide p).g g)
    clear g
    go_wp2_with fail
    refine (unhide CT _ (unhide p).st).mono ?_
    rintro e w2 hn
    obtain ⟨ao, n, c, rfl, ⟨u0, u1, u2, u3, q0, q1, q2, q3⟩, ⟨z0, z1, z2, z3⟩, K⟩ := arm_fin (unhide p) (unhide b) hn
    clear hn p b
    go_wp2_with fail
    obtain ⟨K1, d0, d1, d2, d3⟩ := unhide K
    refine bodyPost_ret (by simp [results, Tryd.results49, go_sem, d0, d1, d2, d3]; try rfl) rfl ?_
    exact K1
  rw [if_neg h2]
  by_cases h3 : (wdAt ws s).x = [99, 104, 97, 110]
  · rw [if_pos h3]
    have CW : Hid (∀ w1, RSt rb wb wc ws s w1 → Calls Tryd.prog 14 #[.pointer (some ⟨rb, 0, none⟩)] w1 (fun e w2 => e = .returned (.agg #[.int .i64 ((wdAt ws s).k : Int), .string ⟨(wdAt ws s).x.toArray⟩, .int .i64 ((wdAt ws s).o : Int)]) ∧ G w1 w2)) := hide fun w1 hh => word_any hh
    rw [h3] at CW
    have CT : Hid (∀ w1, RSt rb wb wc ws s w1 → Calls Tryd.prog 48 #[.pointer (some ⟨rb, 0, none⟩)] w1 (NTo rb wb wc ws (typP ws R s) w1)) := hide fun w1 hh => typ_ok L s hs w1 hh
    generalize typP ws R s = pr at *
    generalize (wdAt ws s).x = wx at *
    generalize (wdAt ws s).k = wk at *
    generalize (wdAt ws s).o = wo at *
    have p := hide ((Pn.new h).al (.cells zBox 27))
    have b := hide (BoxT.zero y)
    clear h hk hs L h3 h0 h1 h2
    go_enter Tryd.func49, Tryd.ntmps49
    go_wp2_with fail
    refine (unhide CW _ (unhide p).st).mono ?_
    rintro e w1 ⟨rfl, g⟩
    replace b := hide ((unhide b).g g)
    replace p := hide ((unhide p).g g)
    clear g
    go_wp2_with fail
    refine (unhide CT _ (unhide p).st).mono ?_
    rintro e w2 hn
    obtain ⟨ao, n, c, rfl, ⟨u0, u1, u2, u3, q0, q1, q2, q3⟩, ⟨z0, z1, z2, z3⟩, K⟩ := arm_fin (unhide p) (unhide b) hn
    clear hn p b
    go_wp2_with fail
    obtain ⟨K1, d0, d1, d2, d3⟩ := unhide K
    refine bodyPost_ret (by simp [results, Tryd.results49, go_sem, d0, d1, d2, d3]; try rfl) rfl ?_
    exact K1
  rw [if_neg h3]
  by_cases h4 : (wdAt ws s).x = [102, 117, 110, 99]
  · rw [if_pos h4]
    have CW : Hid (∀ w1, RSt rb wb wc ws s w1 → Calls Tryd.prog 14 #[.pointer (some ⟨rb, 0, none⟩)] w1 (fun e w2 => e = .returned (.agg #[.int .i64 ((wdAt ws s).k : Int), .string ⟨(wdAt ws s).x.toArray⟩, .int .i64 ((wdAt ws s).o : Int)]) ∧ G w1 w2)) := hide fun w1 hh => word_any hh
    rw [h4] at CW
    have CT : Hid (∀ w1, RSt rb wb wc ws s w1 → Calls Tryd.prog 48 #[.pointer (some ⟨rb, 0, none⟩)] w1 (NTo rb wb wc ws (typP ws R s) w1)) := hide fun w1 hh => typ_ok L s hs w1 hh
    generalize typP ws R s = pr at *
    generalize (wdAt ws s).x = wx at *
    generalize (wdAt ws s).k = wk at *
    generalize (wdAt ws s).o = wo at *
    have p := hide ((Pn.new h).al (.cells zBox 27))
    have b := hide (BoxT.zero y)
    clear h hk hs L h4 h0 h1 h2 h3
    go_enter Tryd.func49, Tryd.ntmps49
    go_wp2_with fail
    refine (unhide CW _ (unhide p).st).mono ?_
    rintro e w1 ⟨rfl, g⟩
    replace b := hide ((unhide b).g g)
    replace p := hide ((unhide p).g g)
    clear g
    go_wp2_with fail
    refine (unhide CT _ (unhide p).st).mono ?_
    rintro e w2 hn
    obtain ⟨ao, n, c, rfl, ⟨u0, u1, u2, u3, q0, q1, q2, q3⟩, ⟨z0, z1, z2, z3⟩, K⟩ := arm_fin (unhide p) (unhide b) hn
    clear hn p b
    go_wp2_with fail
    obtain ⟨K1, d0, d1, d2, d3⟩ := unhide K
    refine bodyPost_ret (by simp [results, Tryd.results49, go_sem, d0, d1, d2, d3]; try rfl) rfl ?_
    exact K1
  rw [if_neg h4]
  have n0 : ((wdAt ws s).x == [105, 110, 116]) = false := by simpa using h0
  have n1 : ((wdAt ws s).x == [98, 111, 111, 108]) = false := by simpa using h1
  have n2 : ((wdAt ws s).x == [91]) = false := by simpa using h2
  have n3 : ((wdAt ws s).x == [99, 104, 97, 110]) = false := by simpa using h3
  have n4 : ((wdAt ws s).x == [102, 117, 110, 99]) = false := by simpa using h4
  clear h0 h1 h2 h3 h4
  by_cases h5 : (wdAt ws s).k = 1
  · rw [if_pos h5]
    have CW : Hid (∀ w1, RSt rb wb wc ws s w1 → Calls Tryd.prog 14 #[.pointer (some ⟨rb, 0, none⟩)] w1 (fun e w2 => e = .returned (.agg #[.int .i64 ((wdAt ws s).k : Int), .string ⟨(wdAt ws s).x.toArray⟩, .int .i64 ((wdAt ws s).o : Int)]) ∧ G w1 w2)) := hide fun w1 hh => word_any hh
    rw [h5] at CW
    have CT : Hid (∀ w1, RSt rb wb wc ws s w1 → Calls Tryd.prog 48 #[.pointer (some ⟨rb, 0, none⟩)] w1 (NTo rb wb wc ws (typP ws R s) w1)) := hide fun w1 hh => typ_ok L s hs w1 hh
    generalize typP ws R s = pr at *
    generalize (wdAt ws s).x = wx at *
    generalize (wdAt ws s).k = wk at *
    generalize (wdAt ws s).o = wo at *
    have p := hide ((Pn.new h).al (.cells zBox 27))
    have b := hide (BoxT.zero y)
    clear h hk hs L
    go_enter Tryd.func49, Tryd.ntmps49
    go_wp2_with fail
    refine (unhide CW _ (unhide p).st).mono ?_
    rintro e w1 ⟨rfl, g⟩
    replace b := hide ((unhide b).g g)
    replace p := hide ((unhide p).g g)
    clear g
    go_wp2_with fail
    refine (unhide CW _ (unhide p).st).mono ?_
    rintro e w1 ⟨rfl, g⟩
    replace b := hide ((unhide b).g g)
    replace p := hide ((unhide p).g g)
    clear g
    go_wp2_with fail
    refine (unhide CT _ (unhide p).st).mono ?_
    rintro e w2 hn
    obtain ⟨ao, n, c, rfl, ⟨u0, u1, u2, u3, q0, q1, q2, q3⟩, ⟨z0, z1, z2, z3⟩, K⟩ := arm_fin (unhide p) (unhide b) hn
    clear hn p b
    go_wp2_with fail
    obtain ⟨K1, d0, d1, d2, d3⟩ := unhide K
    refine bodyPost_ret (by simp [results, Tryd.results49, go_sem, d0, d1, d2, d3]; try rfl) rfl ?_
    exact K1
  rw [if_neg h5]
  have CW : Hid (∀ w1, RSt rb wb wc ws s w1 → Calls Tryd.prog 14 #[.pointer (some ⟨rb, 0, none⟩)] w1 (fun e w2 => e = .returned (.agg #[.int .i64 ((wdAt ws s).k : Int), .string ⟨(wdAt ws s).x.toArray⟩, .int .i64 ((wdAt ws s).o : Int)]) ∧ G w1 w2)) := hide fun w1 hh => word_any hh
  have CT : Hid (∀ w1, RSt rb wb wc ws s w1 → Calls Tryd.prog 61 #[.pointer (some ⟨rb, 0, none⟩)] w1 (NTo rb wb wc ws (noneP ws R s) w1)) := hide fun w1 hh => none_ok R s w1 hh
  generalize noneP ws R s = pr at *
  have n5 : ¬ ((wdAt ws s).k : Int) = 1 := by omega
  generalize (wdAt ws s).x = wx at *
  generalize (wdAt ws s).k = wk at *
  generalize (wdAt ws s).o = wo at *
  have p := hide ((Pn.new h).al (.cells zBox 27))
  have b := hide (BoxT.zero y)
  clear h hk hs L
  go_enter Tryd.func49, Tryd.ntmps49
  go_wp2_with fail
  refine (unhide CW _ (unhide p).st).mono ?_
  rintro e w1 ⟨rfl, g⟩
  replace b := hide ((unhide b).g g)
  replace p := hide ((unhide p).g g)
  clear g
  go_wp2_with fail
  refine (unhide CW _ (unhide p).st).mono ?_
  rintro e w1 ⟨rfl, g⟩
  replace b := hide ((unhide b).g g)
  replace p := hide ((unhide p).g g)
  clear g
  go_wp2_with fail
  refine (unhide CT _ (unhide p).st).mono ?_
  rintro e w2 hn
  obtain ⟨ao, n, c, rfl, ⟨u0, u1, u2, u3, q0, q1, q2, q3⟩, ⟨z0, z1, z2, z3⟩, K⟩ := arm_fin (unhide p) (unhide b) hn
  clear hn p b
  go_wp2_with fail
  obtain ⟨K1, d0, d1, d2, d3⟩ := unhide K
  refine bodyPost_ret (by simp [results, Tryd.results49, go_sem, d0, d1, d2, d3]; try rfl) rfl ?_
  exact K1
set_option maxHeartbeats 8000000 in
theorem param_ok {rb wb wc : Nat} {ws : List Wd} {R : Nt → PS → Tt × PS} {M : Nat} (L : Lv rb wb wc ws R M) (s : PS) (hs : mu ws s < M + 1) : Ok rb wb wc ws 59 (paramP ws R) s := by
  refine ok_of fun hk y h => ?_
  unfold paramP
  have CR : Hid (∀ w1, RSt rb wb wc ws s w1 → Calls Tryd.prog 13 #[.pointer (some ⟨rb, 0, none⟩), .string ⟨#[112, 97, 114, 97, 109]⟩, .string ⟨#[78, 65, 77, 69, 32, 116, 121, 112, 101]⟩, .slice none 0 0] w1 (NTo rb wb wc ws (pRow ws (tab1 ws R) [112, 97, 114, 97, 109] [.name, .part .type] [] s) w1)) := hide fun w1 hh => row_nil hh [112, 97, 114, 97, 109] rc_6 (rowOk_low (tab1_le L.w L.le) _ (fun n hn s hm => by have e : n = .type := (by simpa using hn); subst e; exact typ_ok L s hm) (by simp) (by simp) s hk hs)
  generalize pRow ws (tab1 ws R) [112, 97, 114, 97, 109] [.name, .part .type] [] s = pr at *
  have p := hide ((Pn.new h).al (.cells zBox 27))
  have b := hide (BoxT.zero y)
  clear h hk hs L
  go_enter Tryd.func59, Tryd.ntmps59
  go_wp2_with fail
  refine (unhide CR _ (unhide p).st).mono ?_
  rintro e w2 hn
  obtain ⟨ao, n, c, rfl, ⟨u0, u1, u2, u3, q0, q1, q2, q3⟩, ⟨z0, z1, z2, z3⟩, K⟩ := arm_fin (unhide p) (unhide b) hn
  clear hn p b
  go_wp2_with fail
  obtain ⟨K1, d0, d1, d2, d3⟩ := unhide K
  refine bodyPost_ret (by simp [results, Tryd.results59, go_sem, d0, d1, d2, d3]; try rfl) rfl ?_
  exact K1
end Go.Proofs.YtablincnlfbjnabDoor
