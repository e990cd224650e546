/- The program's parser: statement, sendOrRecv (laid by py/pax.py). -/
import Derived.Test.YtablincnlfbjnabDoorPaB10
namespace Go.Proofs.YtablincnlfbjnabDoor
set_option maxRecDepth 100000
open Go.RowKit Go.Maps Go.ChangeShapes Go.WideShapes Go.ChangeAt Go.Deep

theorem rc_23 : RowC (⟨#[118, 97, 114, 32, 78, 65, 77, 69, 32, 116, 121, 112, 101, 32, 61, 32, 101, 120, 112, 114, 32, 59]⟩ : ByteArray) [.word [118, 97, 114], .name, .part .type, .word [61], .part .expr, .word [59]] := ⟨by decide +kernel, by decide +kernel, by decide +kernel, by decide +kernel, by decide +kernel⟩
theorem rc_24 : RowC (⟨#[105, 102, 32, 101, 120, 112, 114, 32, 98, 108, 111, 99, 107, 32, 91, 101, 108, 115, 101, 93]⟩ : ByteArray) [.word [105, 102], .part .expr, .part .block, .part .elseOr] := ⟨by decide +kernel, by decide +kernel, by decide +kernel, by decide +kernel, by decide +kernel⟩
theorem rc_25 : RowC (⟨#[119, 104, 105, 108, 101, 32, 101, 120, 112, 114, 32, 98, 108, 111, 99, 107]⟩ : ByteArray) [.word [119, 104, 105, 108, 101], .part .expr, .part .block] := ⟨by decide +kernel, by decide +kernel, by decide +kernel, by decide +kernel, by decide +kernel⟩
theorem rc_26 : RowC (⟨#[114, 101, 116, 117, 114, 110, 32, 91, 101, 120, 112, 114, 93, 32, 59]⟩ : ByteArray) [.word [114, 101, 116, 117, 114, 110], .part .exprOr, .word [59]] := ⟨by decide +kernel, by decide +kernel, by decide +kernel, by decide +kernel, by decide +kernel⟩
theorem rc_27 : RowC (⟨#[112, 114, 105, 110, 116, 32, 101, 120, 112, 114, 32, 59]⟩ : ByteArray) [.word [112, 114, 105, 110, 116], .part .expr, .word [59]] := ⟨by decide +kernel, by decide +kernel, by decide +kernel, by decide +kernel, by decide +kernel⟩
theorem rc_28 : RowC (⟨#[99, 108, 111, 115, 101, 32, 101, 120, 112, 114, 32, 59]⟩ : ByteArray) [.word [99, 108, 111, 115, 101], .part .expr, .word [59]] := ⟨by decide +kernel, by decide +kernel, by decide +kernel, by decide +kernel, by decide +kernel⟩
theorem rc_29 : RowC (⟨#[103, 111, 32, 99, 97, 108, 108, 32, 59]⟩ : ByteArray) [.word [103, 111], .part .call, .word [59]] := ⟨by decide +kernel, by decide +kernel, by decide +kernel, by decide +kernel, by decide +kernel⟩
theorem rc_30 : RowC (⟨#[115, 101, 110, 100, 32, 101, 120, 112, 114, 32, 44, 32, 101, 120, 112, 114, 32, 59]⟩ : ByteArray) [.word [115, 101, 110, 100], .part .expr, .word [44], .part .expr, .word [59]] := ⟨by decide +kernel, by decide +kernel, by decide +kernel, by decide +kernel, by decide +kernel⟩
theorem rc_31 : RowC (⟨#[115, 101, 108, 101, 99, 116, 32, 123]⟩ : ByteArray) [.word [115, 101, 108, 101, 99, 116], .word [123]] := ⟨by decide +kernel, by decide +kernel, by decide +kernel, by decide +kernel, by decide +kernel⟩
theorem rc_32 : RowC (⟨#[115, 101, 110, 100, 32, 101, 120, 112, 114, 32, 44, 32, 101, 120, 112, 114, 32, 98, 108, 111, 99, 107]⟩ : ByteArray) [.word [115, 101, 110, 100], .part .expr, .word [44], .part .expr, .part .block] := ⟨by decide +kernel, by decide +kernel, by decide +kernel, by decide +kernel, by decide +kernel⟩
theorem rc_33 : RowC (⟨#[114, 101, 99, 118, 32, 78, 65, 77, 69, 32, 61, 32, 101, 120, 112, 114, 32, 98, 108, 111, 99, 107]⟩ : ByteArray) [.word [114, 101, 99, 118], .name, .word [61], .part .expr, .part .block] := ⟨by decide +kernel, by decide +kernel, by decide +kernel, by decide +kernel, by decide +kernel⟩
set_option maxHeartbeats 8000000 in
theorem stmt_ok {rb wb wc : Nat} {ws : List Wd} {R : Nt → PS → Tt × PS} {M : Nat} (L : Lv rb wb wc ws R M) (s : PS) (hs : mu ws s < M + 1) : Ok rb wb wc ws 75 (stmtP ws R) s := by
  refine ok_of fun hk y h => ?_
  have fl0 := pfld0
  have fl1 := pfld1
  unfold stmtP
  by_cases h0 : (wdAt ws s).x = [123]
  · rw [if_pos h0]
    have CW : Hid (∀ w1, RSt rb wb wc ws s w1 → Calls Tryd.prog 14 #[.pointer (some ⟨rb, 0, none⟩)] w1 (fun e w2 => e = .returned (.agg #[.int .i64 ((wdAt ws s).k : Int), .string ⟨(wdAt ws s).x.toArray⟩, .int .i64 ((wdAt ws s).o : Int)]) ∧ G w1 w2)) := hide fun w1 hh => word_any hh
    rw [h0] at CW
    have CF : Hid (∀ w1, RSt rb wb wc ws s w1 → Calls Tryd.prog 50 #[.pointer (some ⟨rb, 0, none⟩)] w1 (NTo rb wb wc ws (blockP ws R s) w1)) := hide fun w1 hh => block_ok L s hs w1 hh
    generalize blockP ws R s = pr at *
    generalize (wdAt ws s).x = wx at *
    generalize (wdAt ws s).k = wk at *
    generalize (wdAt ws s).o = wo at *
    have p := hide ((Pn.new h).al (.cells zBox 27))
    have b := hide (BoxT.zero y)
    clear h hk hs L h0
    go_enter Tryd.func75, Tryd.ntmps75
    go_wp2_with fail
    refine (unhide CW _ (unhide p).st).mono ?_
    rintro e w1 ⟨rfl, g⟩
    replace b := hide ((unhide b).g g)
    replace p := hide ((unhide p).g g)
    clear g
    go_wp2_with fail
    refine (unhide CF _ (unhide p).st).mono ?_
    rintro e w2 hn
    obtain ⟨ao, n, c, rfl, ⟨u0, u1, u2, u3, q0, q1, q2, q3⟩, ⟨z0, z1, z2, z3⟩, K⟩ := arm_fin (unhide p) (unhide b) hn
    clear hn p b
    go_wp2_with fail
    obtain ⟨K1, d0, d1, d2, d3⟩ := unhide K
    refine bodyPost_ret (by simp [results, Tryd.results75, go_sem, d0, d1, d2, d3]; try rfl) rfl ?_
    exact K1
  rw [if_neg h0]
  by_cases h1 : (wdAt ws s).x = [118, 97, 114]
  · rw [if_pos h1]
    have CW : Hid (∀ w1, RSt rb wb wc ws s w1 → Calls Tryd.prog 14 #[.pointer (some ⟨rb, 0, none⟩)] w1 (fun e w2 => e = .returned (.agg #[.int .i64 ((wdAt ws s).k : Int), .string ⟨(wdAt ws s).x.toArray⟩, .int .i64 ((wdAt ws s).o : Int)]) ∧ G w1 w2)) := hide fun w1 hh => word_any hh
    have CR : Hid (∀ w1, RSt rb wb wc ws s w1 → Calls Tryd.prog 13 #[.pointer (some ⟨rb, 0, none⟩), .string ⟨#[108, 101, 116]⟩, .string ⟨#[118, 97, 114, 32, 78, 65, 77, 69, 32, 116, 121, 112, 101, 32, 61, 32, 101, 120, 112, 114, 32, 59]⟩, .slice none 0 0] w1 (NTo rb wb wc ws (pRow ws R [108, 101, 116] [.word [118, 97, 114], .name, .part .type, .word [61], .part .expr, .word [59]] [] s) w1)) := hide fun w1 hh => row_nil hh [108, 101, 116] rc_23 (L.word [.name, .part .type, .word [61], .part .expr, .word [59]] (by simp) hk hs h1 (by simp))
    rw [h1] at CW
    clear h1 h0
    generalize pRow ws R [108, 101, 116] [.word [118, 97, 114], .name, .part .type, .word [61], .part .expr, .word [59]] [] s = pr at *
    generalize (wdAt ws s).x = wx at *
    generalize (wdAt ws s).k = wk at *
    generalize (wdAt ws s).o = wo at *
    have p := hide ((Pn.new h).al (.cells zBox 27))
    have b := hide (BoxT.zero y)
    clear h hk hs L
    go_enter Tryd.func75, Tryd.ntmps75
    go_wp2_with fail
    refine (unhide CW _ (unhide p).st).mono ?_
    rintro e w1 ⟨rfl, g⟩
    replace b := hide ((unhide b).g g)
    replace p := hide ((unhide p).g g)
    clear g
    go_wp2_with fail
    refine (unhide CR _ (unhide p).st).mono ?_
    rintro e w2 hn
    obtain ⟨ao, n, c, rfl, ⟨u0, u1, u2, u3, q0, q1, q2, q3⟩, ⟨z0, z1, z2, z3⟩, K⟩ := arm_fin (unhide p) (unhide b) hn
    clear hn p b
    go_wp2_with fail
    obtain ⟨K1, d0, d1, d2, d3⟩ := unhide K
    refine bodyPost_ret (by simp [results, Tryd.results75, go_sem, d0, d1, d2, d3]; try rfl) rfl ?_
    exact K1
  rw [if_neg h1]
  by_cases h2 : (wdAt ws s).x = [105, 102]
  · rw [if_pos h2]
    have CW : Hid (∀ w1, RSt rb wb wc ws s w1 → Calls Tryd.prog 14 #[.pointer (some ⟨rb, 0, none⟩)] w1 (fun e w2 => e = .returned (.agg #[.int .i64 ((wdAt ws s).k : Int), .string ⟨(wdAt ws s).x.toArray⟩, .int .i64 ((wdAt ws s).o : Int)]) ∧ G w1 w2)) := hide fun w1 hh => word_any hh
    have CR : Hid (∀ w1, RSt rb wb wc ws s w1 → Calls Tryd.prog 13 #[.pointer (some ⟨rb, 0, none⟩), .string ⟨#[105, 102]⟩, .string ⟨#[105, 102, 32, 101, 120, 112, 114, 32, 98, 108, 111, 99, 107, 32, 91, 101, 108, 115, 101, 93]⟩, .slice none 0 0] w1 (NTo rb wb wc ws (pRow ws R [105, 102] [.word [105, 102], .part .expr, .part .block, .part .elseOr] [] s) w1)) := hide fun w1 hh => row_nil hh [105, 102] rc_24 (L.word [.part .expr, .part .block, .part .elseOr] (by simp) hk hs h2 (by simp))
    rw [h2] at CW
    clear h2 h0 h1
    generalize pRow ws R [105, 102] [.word [105, 102], .part .expr, .part .block, .part .elseOr] [] s = pr at *
    generalize (wdAt ws s).x = wx at *
    generalize (wdAt ws s).k = wk at *
    generalize (wdAt ws s).o = wo at *
    have p := hide ((Pn.new h).al (.cells zBox 27))
    have b := hide (BoxT.zero y)
    clear h hk hs L
    go_enter Tryd.func75, Tryd.ntmps75
    go_wp2_with fail
    refine (unhide CW _ (unhide p).st).mono ?_
    rintro e w1 ⟨rfl, g⟩
    replace b := hide ((unhide b).g g)
    replace p := hide ((unhide p).g g)
    clear g
    go_wp2_with fail
    refine (unhide CR _ (unhide p).st).mono ?_
    rintro e w2 hn
    obtain ⟨ao, n, c, rfl, ⟨u0, u1, u2, u3, q0, q1, q2, q3⟩, ⟨z0, z1, z2, z3⟩, K⟩ := arm_fin (unhide p) (unhide b) hn
    clear hn p b
    go_wp2_with fail
    obtain ⟨K1, d0, d1, d2, d3⟩ := unhide K
    refine bodyPost_ret (by simp [results, Tryd.results75, go_sem, d0, d1, d2, d3]; try rfl) rfl ?_
    exact K1
  rw [if_neg h2]
  by_cases h3 : (wdAt ws s).x = [119, 104, 105, 108, 101]
  · rw [if_pos h3]
    have CW : Hid (∀ w1, RSt rb wb wc ws s w1 → Calls Tryd.prog 14 #[.pointer (some ⟨rb, 0, none⟩)] w1 (fun e w2 => e = .returned (.agg #[.int .i64 ((wdAt ws s).k : Int), .string ⟨(wdAt ws s).x.toArray⟩, .int .i64 ((wdAt ws s).o : Int)]) ∧ G w1 w2)) := hide fun w1 hh => word_any hh
    have CR : Hid (∀ w1, RSt rb wb wc ws s w1 → Calls Tryd.prog 13 #[.pointer (some ⟨rb, 0, none⟩), .string ⟨#[119, 104, 105, 108, 101]⟩, .string ⟨#[119, 104, 105, 108, 101, 32, 101, 120, 112, 114, 32, 98, 108, 111, 99, 107]⟩, .slice none 0 0] w1 (NTo rb wb wc ws (pRow ws R [119, 104, 105, 108, 101] [.word [119, 104, 105, 108, 101], .part .expr, .part .block] [] s) w1)) := hide fun w1 hh => row_nil hh [119, 104, 105, 108, 101] rc_25 (L.word [.part .expr, .part .block] (by simp) hk hs h3 (by simp))
    rw [h3] at CW
    clear h3 h0 h1 h2
    generalize pRow ws R [119, 104, 105, 108, 101] [.word [119, 104, 105, 108, 101], .part .expr, .part .block] [] s = pr at *
    generalize (wdAt ws s).x = wx at *
    generalize (wdAt ws s).k = wk at *
    generalize (wdAt ws s).o = wo at *
    have p := hide ((Pn.new h).al (.cells zBox 27))
    have b := hide (BoxT.zero y)
    clear h hk hs L
    go_enter Tryd.func75, Tryd.ntmps75
    go_wp2_with fail
    refine (unhide CW _ (unhide p).st).mono ?_
    rintro e w1 ⟨rfl, g⟩
    replace b := hide ((unhide b).g g)
    replace p := hide ((unhide p).g g)
    clear g
    go_wp2_with fail
    refine (unhide CR _ (unhide p).st).mono ?_
    rintro e w2 hn
    obtain ⟨ao, n, c, rfl, ⟨u0, u1, u2, u3, q0, q1, q2, q3⟩, ⟨z0, z1, z2, z3⟩, K⟩ := arm_fin (unhide p) (unhide b) hn
    clear hn p b
    go_wp2_with fail
    obtain ⟨K1, d0, d1, d2, d3⟩ := unhide K
    refine bodyPost_ret (by simp [results, Tryd.results75, go_sem, d0, d1, d2, d3]; try rfl) rfl ?_
    exact K1
  rw [if_neg h3]
  by_cases h4 : (wdAt ws s).x = [114, 101, 116, 117, 114, 110]
  · rw [if_pos h4]
    have CW : Hid (∀ w1, RSt rb wb wc ws s w1 → Calls Tryd.prog 14 #[.pointer (some ⟨rb, 0, none⟩)] w1 (fun e w2 => e = .returned (.agg #[.int .i64 ((wdAt ws s).k : Int), .string ⟨(wdAt ws s).x.toArray⟩, .int .i64 ((wdAt ws s).o : Int)]) ∧ G w1 w2)) := hide fun w1 hh => word_any hh
    have CR : Hid (∀ w1, RSt rb wb wc ws s w1 → Calls Tryd.prog 13 #[.pointer (some ⟨rb, 0, none⟩), .string ⟨#[114, 101, 116, 117, 114, 110]⟩, .string ⟨#[114, 101, 116, 117, 114, 110, 32, 91, 101, 120, 112, 114, 93, 32, 59]⟩, .slice none 0 0] w1 (NTo rb wb wc ws (pRow ws R [114, 101, 116, 117, 114, 110] [.word [114, 101, 116, 117, 114, 110], .part .exprOr, .word [59]] [] s) w1)) := hide fun w1 hh => row_nil hh [114, 101, 116, 117, 114, 110] rc_26 (L.word [.part .exprOr, .word [59]] (by simp) hk hs h4 (by simp))
    rw [h4] at CW
    clear h4 h0 h1 h2 h3
    generalize pRow ws R [114, 101, 116, 117, 114, 110] [.word [114, 101, 116, 117, 114, 110], .part .exprOr, .word [59]] [] s = pr at *
    generalize (wdAt ws s).x = wx at *
    generalize (wdAt ws s).k = wk at *
    generalize (wdAt ws s).o = wo at *
    have p := hide ((Pn.new h).al (.cells zBox 27))
    have b := hide (BoxT.zero y)
    clear h hk hs L
    go_enter Tryd.func75, Tryd.ntmps75
    go_wp2_with fail
    refine (unhide CW _ (unhide p).st).mono ?_
    rintro e w1 ⟨rfl, g⟩
    replace b := hide ((unhide b).g g)
    replace p := hide ((unhide p).g g)
    clear g
    go_wp2_with fail
    refine (unhide CR _ (unhide p).st).mono ?_
    rintro e w2 hn
    obtain ⟨ao, n, c, rfl, ⟨u0, u1, u2, u3, q0, q1, q2, q3⟩, ⟨z0, z1, z2, z3⟩, K⟩ := arm_fin (unhide p) (unhide b) hn
    clear hn p b
    go_wp2_with fail
    obtain ⟨K1, d0, d1, d2, d3⟩ := unhide K
    refine bodyPost_ret (by simp [results, Tryd.results75, go_sem, d0, d1, d2, d3]; try rfl) rfl ?_
    exact K1
  rw [if_neg h4]
  by_cases h5 : (wdAt ws s).x = [112, 114, 105, 110, 116]
  · rw [if_pos h5]
    have CW : Hid (∀ w1, RSt rb wb wc ws s w1 → Calls Tryd.prog 14 #[.pointer (some ⟨rb, 0, none⟩)] w1 (fun e w2 => e = .returned (.agg #[.int .i64 ((wdAt ws s).k : Int), .string ⟨(wdAt ws s).x.toArray⟩, .int .i64 ((wdAt ws s).o : Int)]) ∧ G w1 w2)) := hide fun w1 hh => word_any hh
    have CR : Hid (∀ w1, RSt rb wb wc ws s w1 → Calls Tryd.prog 13 #[.pointer (some ⟨rb, 0, none⟩), .string ⟨#[112, 114, 105, 110, 116]⟩, .string ⟨#[112, 114, 105, 110, 116, 32, 101, 120, 112, 114, 32, 59]⟩, .slice none 0 0] w1 (NTo rb wb wc ws (pRow ws R [112, 114, 105, 110, 116] [.word [112, 114, 105, 110, 116], .part .expr, .word [59]] [] s) w1)) := hide fun w1 hh => row_nil hh [112, 114, 105, 110, 116] rc_27 (L.word [.part .expr, .word [59]] (by simp) hk hs h5 (by simp))
    rw [h5] at CW
    clear h5 h0 h1 h2 h3 h4
    generalize pRow ws R [112, 114, 105, 110, 116] [.word [112, 114, 105, 110, 116], .part .expr, .word [59]] [] s = pr at *
    generalize (wdAt ws s).x = wx at *
    generalize (wdAt ws s).k = wk at *
    generalize (wdAt ws s).o = wo at *
    have p := hide ((Pn.new h).al (.cells zBox 27))
    have b := hide (BoxT.zero y)
    clear h hk hs L
    go_enter Tryd.func75, Tryd.ntmps75
    go_wp2_with fail
    refine (unhide CW _ (unhide p).st).mono ?_
    rintro e w1 ⟨rfl, g⟩
    replace b := hide ((unhide b).g g)
    replace p := hide ((unhide p).g g)
    clear g
    go_wp2_with fail
    refine (unhide CR _ (unhide p).st).mono ?_
    rintro e w2 hn
    obtain ⟨ao, n, c, rfl, ⟨u0, u1, u2, u3, q0, q1, q2, q3⟩, ⟨z0, z1, z2, z3⟩, K⟩ := arm_fin (unhide p) (unhide b) hn
    clear hn p b
    go_wp2_with fail
    obtain ⟨K1, d0, d1, d2, d3⟩ := unhide K
    refine bodyPost_ret (by simp [results, Tryd.results75, go_sem, d0, d1, d2, d3]; try rfl) rfl ?_
    exact K1
  rw [if_neg h5]
  by_cases h6 : (wdAt ws s).x = [99, 108, 111, 115, 101]
  · rw [if_pos h6]
    have CW : Hid (∀ w1, RSt rb wb wc ws s w1 → Calls Tryd.prog 14 #[.pointer (some ⟨rb, 0, none⟩)] w1 (fun e w2 => e = .returned (.agg #[.int .i64 ((wdAt ws s).k : Int), .string ⟨(wdAt ws s).x.toArray⟩, .int .i64 ((wdAt ws s).o : Int)]) ∧ G w1 w2)) := hide fun w1 hh => word_any hh
    have CR : Hid (∀ w1, RSt rb wb wc ws s w1 → Calls Tryd.prog 13 #[.pointer (some ⟨rb, 0, none⟩), .string ⟨#[99, 108, 111, 115, 101]⟩, .string ⟨#[99, 108, 111, 115, 101, 32, 101, 120, 112, 114, 32, 59]⟩, .slice none 0 0] w1 (NTo rb wb wc ws (pRow ws R [99, 108, 111, 115, 101] [.word [99, 108, 111, 115, 101], .part .expr, .word [59]] [] s) w1)) := hide fun w1 hh => row_nil hh [99, 108, 111, 115, 101] rc_28 (L.word [.part .expr, .word [59]] (by simp) hk hs h6 (by simp))
    rw [h6] at CW
    clear h6 h0 h1 h2 h3 h4 h5
    generalize pRow ws R [99, 108, 111, 115, 101] [.word [99, 108, 111, 115, 101], .part .expr, .word [59]] [] s = pr at *
    generalize (wdAt ws s).x = wx at *
    generalize (wdAt ws s).k = wk at *
    generalize (wdAt ws s).o = wo at *
    have p := hide ((Pn.new h).al (.cells zBox 27))
    have b := hide (BoxT.zero y)
    clear h hk hs L
    go_enter Tryd.func75, Tryd.ntmps75
    go_wp2_with fail
    refine (unhide CW _ (unhide p).st).mono ?_
    rintro e w1 ⟨rfl, g⟩
    replace b := hide ((unhide b).g g)
    replace p := hide ((unhide p).g g)
    clear g
    go_wp2_with fail
    refine (unhide CR _ (unhide p).st).mono ?_
    rintro e w2 hn
    obtain ⟨ao, n, c, rfl, ⟨u0, u1, u2, u3, q0, q1, q2, q3⟩, ⟨z0, z1, z2, z3⟩, K⟩ := arm_fin (unhide p) (unhide b) hn
    clear hn p b
    go_wp2_with fail
    obtain ⟨K1, d0, d1, d2, d3⟩ := unhide K
    refine bodyPost_ret (by simp [results, Tryd.results75, go_sem, d0, d1, d2, d3]; try rfl) rfl ?_
    exact K1
  rw [if_neg h6]
  by_cases h7 : (wdAt ws s).x = [103, 111]
  · rw [if_pos h7]
    have CW : Hid (∀ w1, RSt rb wb wc ws s w1 → Calls Tryd.prog 14 #[.pointer (some ⟨rb, 0, none⟩)] w1 (fun e w2 => e = .returned (.agg #[.int .i64 ((wdAt ws s).k : Int), .string ⟨(wdAt ws s).x.toArray⟩, .int .i64 ((wdAt ws s).o : Int)]) ∧ G w1 w2)) := hide fun w1 hh => word_any hh
    have CR : Hid (∀ w1, RSt rb wb wc ws s w1 → Calls Tryd.prog 13 #[.pointer (some ⟨rb, 0, none⟩), .string ⟨#[103, 111]⟩, .string ⟨#[103, 111, 32, 99, 97, 108, 108, 32, 59]⟩, .slice none 0 0] w1 (NTo rb wb wc ws (pRow ws R [103, 111] [.word [103, 111], .part .call, .word [59]] [] s) w1)) := hide fun w1 hh => row_nil hh [103, 111] rc_29 (L.word [.part .call, .word [59]] (by simp) hk hs h7 (by simp))
    rw [h7] at CW
    clear h7 h0 h1 h2 h3 h4 h5 h6
    generalize pRow ws R [103, 111] [.word [103, 111], .part .call, .word [59]] [] s = pr at *
    generalize (wdAt ws s).x = wx at *
    generalize (wdAt ws s).k = wk at *
    generalize (wdAt ws s).o = wo at *
    have p := hide ((Pn.new h).al (.cells zBox 27))
    have b := hide (BoxT.zero y)
    clear h hk hs L
    go_enter Tryd.func75, Tryd.ntmps75
    go_wp2_with fail
    refine (unhide CW _ (unhide p).st).mono ?_
    rintro e w1 ⟨rfl, g⟩
    replace b := hide ((unhide b).g g)
    replace p := hide ((unhide p).g g)
    clear g
    go_wp2_with fail
    refine (unhide CR _ (unhide p).st).mono ?_
    rintro e w2 hn
    obtain ⟨ao, n, c, rfl, ⟨u0, u1, u2, u3, q0, q1, q2, q3⟩, ⟨z0, z1, z2, z3⟩, K⟩ := arm_fin (unhide p) (unhide b) hn
    clear hn p b
    go_wp2_with fail
    obtain ⟨K1, d0, d1, d2, d3⟩ := unhide K
    refine bodyPost_ret (by simp [results, Tryd.results75, go_sem, d0, d1, d2, d3]; try rfl) rfl ?_
    exact K1
  rw [if_neg h7]
  by_cases h8 : (wdAt ws s).x = [115, 101, 110, 100]
  · rw [if_pos h8]
    have CW : Hid (∀ w1, RSt rb wb wc ws s w1 → Calls Tryd.prog 14 #[.pointer (some ⟨rb, 0, none⟩)] w1 (fun e w2 => e = .returned (.agg #[.int .i64 ((wdAt ws s).k : Int), .string ⟨(wdAt ws s).x.toArray⟩, .int .i64 ((wdAt ws s).o : Int)]) ∧ G w1 w2)) := hide fun w1 hh => word_any hh
    have CR : Hid (∀ w1, RSt rb wb wc ws s w1 → Calls Tryd.prog 13 #[.pointer (some ⟨rb, 0, none⟩), .string ⟨#[115, 101, 110, 100]⟩, .string ⟨#[115, 101, 110, 100, 32, 101, 120, 112, 114, 32, 44, 32, 101, 120, 112, 114, 32, 59]⟩, .slice none 0 0] w1 (NTo rb wb wc ws (pRow ws R [115, 101, 110, 100] [.word [115, 101, 110, 100], .part .expr, .word [44], .part .expr, .word [59]] [] s) w1)) := hide fun w1 hh => row_nil hh [115, 101, 110, 100] rc_30 (L.word [.part .expr, .word [44], .part .expr, .word [59]] (by simp) hk hs h8 (by simp))
    rw [h8] at CW
    clear h8 h0 h1 h2 h3 h4 h5 h6 h7
    generalize pRow ws R [115, 101, 110, 100] [.word [115, 101, 110, 100], .part .expr, .word [44], .part .expr, .word [59]] [] s = pr at *
    generalize (wdAt ws s).x = wx at *
    generalize (wdAt ws s).k = wk at *
    generalize (wdAt ws s).o = wo at *
    have p := hide ((Pn.new h).al (.cells zBox 27))
    have b := hide (BoxT.zero y)
    clear h hk hs L
    go_enter Tryd.func75, Tryd.ntmps75
    go_wp2_with fail
    refine (unhide CW _ (unhide p).st).mono ?_
    rintro e w1 ⟨rfl, g⟩
    replace b := hide ((unhide b).g g)
    replace p := hide ((unhide p).g g)
    clear g
    go_wp2_with fail
    refine (unhide CR _ (unhide p).st).mono ?_
    rintro e w2 hn
    obtain ⟨ao, n, c, rfl, ⟨u0, u1, u2, u3, q0, q1, q2, q3⟩, ⟨z0, z1, z2, z3⟩, K⟩ := arm_fin (unhide p) (unhide b) hn
    clear hn p b
    go_wp2_with fail
    obtain ⟨K1, d0, d1, d2, d3⟩ := unhide K
    refine bodyPost_ret (by simp [results, Tryd.results75, go_sem, d0, d1, d2, d3]; try rfl) rfl ?_
    exact K1
  rw [if_neg h8]
  by_cases h9 : (wdAt ws s).x = [115, 101, 108, 101, 99, 116]
  · rw [if_pos h9]
    have CW : Hid (∀ w1, RSt rb wb wc ws s w1 → Calls Tryd.prog 14 #[.pointer (some ⟨rb, 0, none⟩)] w1 (fun e w2 => e = .returned (.agg #[.int .i64 ((wdAt ws s).k : Int), .string ⟨(wdAt ws s).x.toArray⟩, .int .i64 ((wdAt ws s).o : Int)]) ∧ G w1 w2)) := hide fun w1 hh => word_any hh
    rw [h9] at CW
    have CR : Hid (∀ w1, RSt rb wb wc ws s w1 → Calls Tryd.prog 13 #[.pointer (some ⟨rb, 0, none⟩), .string ⟨#[115, 101, 108, 101, 99, 116]⟩, .string ⟨#[115, 101, 108, 101, 99, 116, 32, 123]⟩, .slice none 0 0] w1 (NTo rb wb wc ws (pRow ws R [115, 101, 108, 101, 99, 116] [.word [115, 101, 108, 101, 99, 116], .word [123]] [] s) w1)) := hide fun w1 hh => row_nil hh [115, 101, 108, 101, 99, 116] rc_31 (L.word [.word [123]] (by simp) hk hs h9 (by simp))
    obtain ⟨ha1, ha2⟩ := L.after [115, 101, 108, 101, 99, 116] [.word [123]] [] hk hs h9 (by simp)
    unfold withKids
    dsimp only
    generalize pRow ws R [115, 101, 108, 101, 99, 116] [.word [115, 101, 108, 101, 99, 116], .word [123]] [] s = r at *
    have CK : Hid (∀ w1, RSt rb wb wc ws r.2 w1 → Calls Tryd.prog 34 #[.pointer (some ⟨rb, 0, none⟩), .string ⟨#[125]⟩, .func (.func 79) #[.pointer (some ⟨rb, 0, none⟩)] #[]] w1 (LTo rb wb wc ws (pUntil ws [125] (R .choice) (ws.length + 1) r.2) w1)) := hide fun w1 hh => until_any hh [125] (by simp) _ _ (ntF_ent .choice) (fun s' h0' hs' _ => ok_of fun hk' => L.ok .choice s' (by skip; unfold mu at *; omega)) (fun s' hs' => (L.le .choice s' hs').k) (fun s' hs' e' => (L.ea .choice s' (by simp) hs').on e')
    generalize pUntil ws [125] (R .choice) (ws.length + 1) r.2 = l at *
    generalize (wdAt ws s).x = wx at *
    generalize (wdAt ws s).k = wk at *
    generalize (wdAt ws s).o = wo at *
    have p := hide ((Pn.new h).al (.cells zBox 27))
    have b := hide (BoxT.zero y)
    clear h hk hs L ha1 ha2 h9 h0 h1 h2 h3 h4 h5 h6 h7 h8
    go_enter Tryd.func75, Tryd.ntmps75
    go_wp2_with fail
    refine (unhide CW _ (unhide p).st).mono ?_
    rintro e w1 ⟨rfl, g⟩
    replace b := hide ((unhide b).g g)
    replace p := hide ((unhide p).g g)
    clear g
    go_wp2_with fail
    refine (unhide CR _ (unhide p).st).mono ?_
    rintro e w2 hn
    obtain ⟨o0, n0, c0, rfl, ho, h2, g2⟩ := hn.open
    obtain ⟨h3, F3⟩ := kids_any (o0 := o0) (n0 := n0) (c0 := c0) (l := l) (unhide p) (unhide b) h2 g2
    replace F3 := hide F3
    replace h3 := hide h3
    clear CR hn ho h2 g2 p b
    go_wp2_with fail
    refine (unhide CK _ (unhide h3)).mono ?_
    rintro e w3 hl
    obtain ⟨kl, rfl, ho3, h4, g3⟩ := hl
    obtain ⟨p6, b6, m6, hlt, o6⟩ := unhide F3 w3 kl ho3 h4 g3
    obtain ⟨ao, n, c, rfl, ⟨u, cu⟩, fu, ⟨k0, k1, k2, k3⟩, ⟨u0, u1, u2, u3, q0, q1, q2, q3⟩, ⟨z0, z1, z2, z3⟩, K⟩ := kid_fin p6 b6 m6 hlt o6
    clear F3 CK ho3 h4 g3 h3 p6 b6 m6 hlt o6
    go_wp2_with fail
    obtain ⟨K1, d0, d1, d2, d3⟩ := unhide K
    refine bodyPost_ret (by simp [results, Tryd.results75, go_sem, d0, d1, d2, d3]; try rfl) rfl ?_
    exact K1
  rw [if_neg h9]
  have n0 : ((wdAt ws s).x == [123]) = false := by simpa using h0
  have n1 : ((wdAt ws s).x == [118, 97, 114]) = false := by simpa using h1
  have n2 : ((wdAt ws s).x == [105, 102]) = false := by simpa using h2
  have n3 : ((wdAt ws s).x == [119, 104, 105, 108, 101]) = false := by simpa using h3
  have n4 : ((wdAt ws s).x == [114, 101, 116, 117, 114, 110]) = false := by simpa using h4
  have n5 : ((wdAt ws s).x == [112, 114, 105, 110, 116]) = false := by simpa using h5
  have n6 : ((wdAt ws s).x == [99, 108, 111, 115, 101]) = false := by simpa using h6
  have n7 : ((wdAt ws s).x == [103, 111]) = false := by simpa using h7
  have n8 : ((wdAt ws s).x == [115, 101, 110, 100]) = false := by simpa using h8
  have n9 : ((wdAt ws s).x == [115, 101, 108, 101, 99, 116]) = false := by simpa using h9
  clear h0 h1 h2 h3 h4 h5 h6 h7 h8 h9
  have CW : Hid (∀ w1, RSt rb wb wc ws s w1 → Calls Tryd.prog 14 #[.pointer (some ⟨rb, 0, none⟩)] w1 (fun e w2 => e = .returned (.agg #[.int .i64 ((wdAt ws s).k : Int), .string ⟨(wdAt ws s).x.toArray⟩, .int .i64 ((wdAt ws s).o : Int)]) ∧ G w1 w2)) := hide fun w1 hh => word_any hh
  have CF : Hid (∀ w1, RSt rb wb wc ws s w1 → Calls Tryd.prog 80 #[.pointer (some ⟨rb, 0, none⟩)] w1 (NTo rb wb wc ws (doSetP ws R s) w1)) := hide fun w1 hh => doSet_ok L s hs w1 hh
  generalize doSetP ws R s = pr at *
  generalize (wdAt ws s).x = wx at *
  generalize (wdAt ws s).k = wk at *
  generalize (wdAt ws s).o = wo at *
  have p := hide ((Pn.new h).al (.cells zBox 27))
  have b := hide (BoxT.zero y)
  clear h hk hs L
  go_enter Tryd.func75, Tryd.ntmps75
  go_wp2_with fail
  refine (unhide CW _ (unhide p).st).mono ?_
  rintro e w1 ⟨rfl, g⟩
  replace b := hide ((unhide b).g g)
  replace p := hide ((unhide p).g g)
  clear g
  go_wp2_with fail
  refine (unhide CF _ (unhide p).st).mono ?_
  rintro e w2 hn
  obtain ⟨ao, n, c, rfl, ⟨u0, u1, u2, u3, q0, q1, q2, q3⟩, ⟨z0, z1, z2, z3⟩, K⟩ := arm_fin (unhide p) (unhide b) hn
  clear hn p b
  go_wp2_with fail
  obtain ⟨K1, d0, d1, d2, d3⟩ := unhide K
  refine bodyPost_ret (by simp [results, Tryd.results75, go_sem, d0, d1, d2, d3]; try rfl) rfl ?_
  exact K1
set_option maxHeartbeats 8000000 in
theorem sendRecv_ok {rb wb wc : Nat} {ws : List Wd} {R : Nt → PS → Tt × PS} {M : Nat} (L : Lv rb wb wc ws R M) (s : PS) (hs : mu ws s < M + 1) : Ok rb wb wc ws 82 (sendRecvP ws R) s := by
  refine ok_of fun hk y h => ?_
  unfold sendRecvP
  by_cases h0 : pIs ws [115, 101, 110, 100] s = true
  · rw [if_pos h0]
    have C0 : Hid (∀ w1, RSt rb wb wc ws s w1 → Calls Tryd.prog 43 #[.pointer (some ⟨rb, 0, none⟩), .string ⟨#[115, 101, 110, 100]⟩] w1 fun e w2 => e = .returned (.bool true) ∧ G w1 w2) := hide fun w1 hh => by have := is_any hh [115, 101, 110, 100]; rw [h0] at this; exact this
    have CR : Hid (∀ w1, RSt rb wb wc ws s w1 → Calls Tryd.prog 13 #[.pointer (some ⟨rb, 0, none⟩), .string ⟨#[111, 110, 115, 101, 110, 100]⟩, .string ⟨#[115, 101, 110, 100, 32, 101, 120, 112, 114, 32, 44, 32, 101, 120, 112, 114, 32, 98, 108, 111, 99, 107]⟩, .slice none 0 0] w1 (NTo rb wb wc ws (pRow ws (tab2 ws R) [111, 110, 115, 101, 110, 100] [.word [115, 101, 110, 100], .part .expr, .word [44], .part .expr, .part .block] [] s) w1)) := hide fun w1 hh => row_nil hh [111, 110, 115, 101, 110, 100] rc_32 (rowOk_low (tab2_le L.w L.le) _ (fun n hn s hm => by have e : n = .expr ∨ n = .block := (by simpa [or_comm, or_left_comm, or_assoc] using hn); rcases e with rfl | rfl <;> first | exact expr_ok L s hm | exact block_ok L s hm) (by simp) (by simp) s hk hs)
    generalize pRow ws (tab2 ws R) [111, 110, 115, 101, 110, 100] [.word [115, 101, 110, 100], .part .expr, .word [44], .part .expr, .part .block] [] s = pr at *
    have p := hide ((Pn.new h).al (.cells zBox 27))
    have b := hide (BoxT.zero y)
    clear h hk hs L h0
    go_enter Tryd.func82, Tryd.ntmps82
    go_wp2_with fail
    refine (unhide C0 _ (unhide p).st).mono ?_
    rintro e w1 ⟨rfl, g⟩
    replace b := hide ((unhide b).g g)
    replace p := hide ((unhide p).g g)
    clear g
    go_wp2_with fail
    refine (unhide CR _ (unhide p).st).mono ?_
    rintro e w2 hn
    obtain ⟨ao, n, c, rfl, ⟨u0, u1, u2, u3, q0, q1, q2, q3⟩, ⟨z0, z1, z2, z3⟩, K⟩ := arm_fin (unhide p) (unhide b) hn
    clear hn p b
    go_wp2_with fail
    obtain ⟨K1, d0, d1, d2, d3⟩ := unhide K
    refine bodyPost_ret (by simp [results, Tryd.results82, go_sem, d0, d1, d2, d3]; try rfl) rfl ?_
    exact K1
  rw [if_neg h0]
  have h0' : pIs ws [115, 101, 110, 100] s = false := by simpa using h0
  have C0 : Hid (∀ w1, RSt rb wb wc ws s w1 → Calls Tryd.prog 43 #[.pointer (some ⟨rb, 0, none⟩), .string ⟨#[115, 101, 110, 100]⟩] w1 fun e w2 => e = .returned (.bool false) ∧ G w1 w2) := hide fun w1 hh => by have := is_any hh [115, 101, 110, 100]; rw [h0'] at this; exact this
  have CR : Hid (∀ w1, RSt rb wb wc ws s w1 → Calls Tryd.prog 13 #[.pointer (some ⟨rb, 0, none⟩), .string ⟨#[111, 110, 114, 101, 99, 118]⟩, .string ⟨#[114, 101, 99, 118, 32, 78, 65, 77, 69, 32, 61, 32, 101, 120, 112, 114, 32, 98, 108, 111, 99, 107]⟩, .slice none 0 0] w1 (NTo rb wb wc ws (pRow ws (tab2 ws R) [111, 110, 114, 101, 99, 118] [.word [114, 101, 99, 118], .name, .word [61], .part .expr, .part .block] [] s) w1)) := hide fun w1 hh => row_nil hh [111, 110, 114, 101, 99, 118] rc_33 (rowOk_low (tab2_le L.w L.le) _ (fun n hn s hm => by have e : n = .expr ∨ n = .block := (by simpa [or_comm, or_left_comm, or_assoc] using hn); rcases e with rfl | rfl <;> first | exact expr_ok L s hm | exact block_ok L s hm) (by simp) (by simp) s hk hs)
  generalize pRow ws (tab2 ws R) [111, 110, 114, 101, 99, 118] [.word [114, 101, 99, 118], .name, .word [61], .part .expr, .part .block] [] s = pr at *
  have p := hide ((Pn.new h).al (.cells zBox 27))
  have b := hide (BoxT.zero y)
  clear h hk hs L h0 h0'
  go_enter Tryd.func82, Tryd.ntmps82
  go_wp2_with fail
  refine (unhide C0 _ (unhide p).st).mono ?_
  rintro e w1 ⟨rfl, g⟩
  replace b := hide ((unhide b).g g)
  replace p := hide ((unhide p).g g)
  clear g
  go_wp2_with fail
  refine (unhide CR _ (unhide p).st).mono ?_
  rintro e w2 hn
  obtain ⟨ao, n, c, rfl, ⟨u0, u1, u2, u3, q0, q1, q2, q3⟩, ⟨z0, z1, z2, z3⟩, K⟩ := arm_fin (unhide p) (unhide b) hn
  clear hn p b
  go_wp2_with fail
  obtain ⟨K1, d0, d1, d2, d3⟩ := unhide K
  refine bodyPost_ret (by simp [results, Tryd.results82, go_sem, d0, d1, d2, d3]; try rfl) rfl ?_
  exact K1
end Go.Proofs.YtablincnlfbjnabDoor
