/- The program's parser: choice, field, declaration (laid by py/pax.py). -/
import Derived.Test.YtablincnlfbjnabDoorPaB11
namespace Go.Proofs.YtablincnlfbjnabDoor
set_option maxRecDepth 100000
open Go.RowKit Go.Maps Go.ChangeShapes Go.WideShapes Go.ChangeAt Go.Deep

theorem rc_34 : RowC (⟨#[100, 101, 102, 97, 117, 108, 116, 32, 98, 108, 111, 99, 107]⟩ : ByteArray) [.word [100, 101, 102, 97, 117, 108, 116], .part .block] := ⟨by decide +kernel, by decide +kernel, by decide +kernel, by decide +kernel, by decide +kernel⟩
theorem rc_35 : RowC (⟨#[78, 65, 77, 69, 32, 116, 121, 112, 101, 32, 59]⟩ : ByteArray) [.name, .part .type, .word [59]] := ⟨by decide +kernel, by decide +kernel, by decide +kernel, by decide +kernel, by decide +kernel⟩
theorem rc_36 : RowC (⟨#[115, 116, 114, 117, 99, 116, 32, 78, 65, 77, 69, 32, 123]⟩ : ByteArray) [.word [115, 116, 114, 117, 99, 116], .name, .word [123]] := ⟨by decide +kernel, by decide +kernel, by decide +kernel, by decide +kernel, by decide +kernel⟩
theorem rc_37 : RowC (⟨#[118, 97, 114, 32, 78, 65, 77, 69, 32, 116, 121, 112, 101, 32, 59]⟩ : ByteArray) [.word [118, 97, 114], .name, .part .type, .word [59]] := ⟨by decide +kernel, by decide +kernel, by decide +kernel, by decide +kernel, by decide +kernel⟩
theorem rc_38 : RowC (⟨#[102, 117, 110, 99, 32, 78, 65, 77, 69, 32, 40, 32, 112, 97, 114, 97, 109, 115, 32, 41, 32, 91, 116, 121, 112, 101, 93, 32, 98, 108, 111, 99, 107]⟩ : ByteArray) [.word [102, 117, 110, 99], .name, .word [40], .part .params, .word [41], .part .typeOr, .part .block] := ⟨by decide +kernel, by decide +kernel, by decide +kernel, by decide +kernel, by decide +kernel⟩
set_option maxHeartbeats 8000000 in
theorem choice_ok {rb wb wc : Nat} {ws : List Wd} {R : Nt → PS → Tt × PS} {M : Nat} (L : Lv rb wb wc ws R M) (s : PS) (hs : mu ws s < M + 1) : Ok rb wb wc ws 79 (choiceP ws R) s := by
  refine ok_of fun hk y h => ?_
  have fl0 := pfld0
  have fl1 := pfld1
  have fl2 := pfld2
  unfold choiceP
  by_cases h0 : pIs ws [100, 101, 102, 97, 117, 108, 116] s = true
  · rw [if_pos h0]
    have C0 : Hid (∀ w1, RSt rb wb wc ws s w1 → Calls Tryd.prog 43 #[.pointer (some ⟨rb, 0, none⟩), .string ⟨#[100, 101, 102, 97, 117, 108, 116]⟩] w1 fun e w2 => e = .returned (.bool true) ∧ G w1 w2) := hide fun w1 hh => by have := is_any hh [100, 101, 102, 97, 117, 108, 116]; rw [h0] at this; exact this
    have CR : Hid (∀ w1, RSt rb wb wc ws s w1 → Calls Tryd.prog 13 #[.pointer (some ⟨rb, 0, none⟩), .string ⟨#[100, 101, 102, 97, 117, 108, 116]⟩, .string ⟨#[100, 101, 102, 97, 117, 108, 116, 32, 98, 108, 111, 99, 107]⟩, .slice none 0 0] w1 (NTo rb wb wc ws (pRow ws R [100, 101, 102, 97, 117, 108, 116] [.word [100, 101, 102, 97, 117, 108, 116], .part .block] [] s) w1)) := hide fun w1 hh => row_nil hh [100, 101, 102, 97, 117, 108, 116] rc_34 (L.word [.part .block] (by simp) hk hs (of_decide_eq_true h0) (by simp))
    generalize pRow ws R [100, 101, 102, 97, 117, 108, 116] [.word [100, 101, 102, 97, 117, 108, 116], .part .block] [] s = pr at *
    have p := hide ((Pn.new h).al (.cells zBox 27))
    have b := hide (BoxT.zero y)
    clear h hk hs L h0
    go_enter Tryd.func79, Tryd.ntmps79
    go_wp2_with fail
    refine (unhide C0 _ (unhide p).st).mono ?_
    rintro e w1 ⟨rfl, g⟩
    replace b := hide ((unhide b).g g)
    replace p := hide ((unhide p).g g)
    clear g
    go_wp2_with fail
    refine (unhide CR _ (unhide p).st).mono ?_
    rintro e w2 hn
    obtain ⟨ao, n, c, rfl, ⟨u0, u1, u2, u3, q0, q1, q2, q3⟩, ⟨z0, z1, z2, z3⟩, K⟩ := arm_fin (unhide p) (unhide b) hn
    clear hn p b
    go_wp2_with fail
    obtain ⟨K1, d0, d1, d2, d3⟩ := unhide K
    refine bodyPost_ret (by simp [results, Tryd.results79, go_sem, d0, d1, d2, d3]; try rfl) rfl ?_
    exact K1
  rw [if_neg h0]
  have h0' : pIs ws [100, 101, 102, 97, 117, 108, 116] s = false := by simpa using h0
  have C0 : Hid (∀ w1, RSt rb wb wc ws s w1 → Calls Tryd.prog 43 #[.pointer (some ⟨rb, 0, none⟩), .string ⟨#[100, 101, 102, 97, 117, 108, 116]⟩] w1 fun e w2 => e = .returned (.bool false) ∧ G w1 w2) := hide fun w1 hh => by have := is_any hh [100, 101, 102, 97, 117, 108, 116]; rw [h0'] at this; exact this
  have CW : Hid (∀ w1, RSt rb wb wc ws s w1 → Calls Tryd.prog 14 #[.pointer (some ⟨rb, 0, none⟩)] w1 (fun e w2 => e = .returned (.agg #[.int .i64 ((wdAt ws s).k : Int), .string ⟨(wdAt ws s).x.toArray⟩, .int .i64 ((wdAt ws s).o : Int)]) ∧ G w1 w2)) := hide fun w1 hh => word_any hh
  have hn1 := need_lt L.w hk (t := [99, 97, 115, 101]) (by simp)
  have CN : Hid (∀ w1, RSt rb wb wc ws s w1 → Calls Tryd.prog 33 #[.pointer (some ⟨rb, 0, none⟩), .string ⟨#[99, 97, 115, 101]⟩] w1 (UTo rb wb wc ws (pNeed ws [99, 97, 115, 101] s) w1 (.tuple #[]))) := hide fun w1 hh => need_any hh [99, 97, 115, 101] (by simp)
  have CS : Hid (∀ w1, RSt rb wb wc ws (pNeed ws [99, 97, 115, 101] s) w1 → Calls Tryd.prog 82 #[.pointer (some ⟨rb, 0, none⟩)] w1 (NTo rb wb wc ws (sendRecvP ws R (pNeed ws [99, 97, 115, 101] s)) w1)) := hide fun w1 hh => sendRecv_ok L _ (by have := hn1.le.k; unfold mu at *; omega) w1 hh
  dsimp only
  generalize pNeed ws [99, 97, 115, 101] s = s1 at *
  generalize sendRecvP ws R s1 = r at *
  generalize (wdAt ws s).x = wx at *
  generalize (wdAt ws s).k = wk at *
  generalize (wdAt ws s).o = wo at *
  have p := hide ((Pn.new h).al (.cells zBox 27))
  have b := hide (BoxT.zero y)
  clear h hk hs L h0 h0' hn1
  go_enter Tryd.func79, Tryd.ntmps79
  go_wp2_with fail
  refine (unhide C0 _ (unhide p).st).mono ?_
  rintro e w1 ⟨rfl, g⟩
  replace b := hide ((unhide b).g g)
  replace p := hide ((unhide p).g g)
  clear g
  go_wp2_with fail
  refine (unhide CW _ (unhide p).st).mono ?_
  rintro e w1 ⟨rfl, g⟩
  replace b := hide ((unhide b).g g)
  replace p := hide ((unhide p).g g)
  clear g
  go_wp2_with fail
  refine (unhide CN _ (unhide p).st).mono ?_
  rintro e w2 hu
  obtain ⟨rfl, hu2⟩ := hu
  have nb : ¬ y.heap.size = rb := by have := (unhide p).rl; omega
  replace b := hide ((unhide b).keep hu2.2 nb)
  replace p := hide ((unhide p).to hu2.1 hu2.2)
  clear CN hu2
  go_wp2_with fail
  refine (unhide CS _ (unhide p).st).mono ?_
  rintro e w2 hn
  obtain ⟨o0, n0, c0, rfl, ho, h2, g2⟩ := hn.open
  have hT : PT rb wb wc ws y w2.heap.size (.mk r.1.k r.1.x (wo : Int) r.1.ks, r.2) (.slice o0 n0 c0) (w2.alloc (.cells #[.string ⟨r.1.k.toArray⟩, .string ⟨r.1.x.toArray⟩, .int .i64 (wo : Int), .slice o0 n0 c0] 27)) := PT.new (unhide p) (unhide b) ho h2 g2
  obtain ⟨ao, n, c, -, ⟨k0, k1, k2, k3⟩, ⟨u0, u1, u2, u3, q0, q1, q2, q3⟩, ⟨z0, z1, z2, z3⟩, K⟩ := hT.finM
  clear CS hn ho h2 g2 p b hT
  go_wp2_with fail
  obtain ⟨K1, d0, d1, d2, d3⟩ := unhide K
  refine bodyPost_ret (by simp [results, Tryd.results79, go_sem, d0, d1, d2, d3]; try rfl) rfl ?_
  exact K1
set_option maxHeartbeats 8000000 in
theorem field_ok {rb wb wc : Nat} {ws : List Wd} {R : Nt → PS → Tt × PS} {M : Nat} (L : Lv rb wb wc ws R M) (s : PS) (hs : mu ws s < M + 1) : Ok rb wb wc ws 35 (fieldP ws R) s := by
  refine ok_of fun hk y h => ?_
  unfold fieldP
  have CR : Hid (∀ w1, RSt rb wb wc ws s w1 → Calls Tryd.prog 13 #[.pointer (some ⟨rb, 0, none⟩), .string ⟨#[102, 105, 101, 108, 100]⟩, .string ⟨#[78, 65, 77, 69, 32, 116, 121, 112, 101, 32, 59]⟩, .slice none 0 0] w1 (NTo rb wb wc ws (pRow ws (tab2 ws R) [102, 105, 101, 108, 100] [.name, .part .type, .word [59]] [] s) w1)) := hide fun w1 hh => row_nil hh [102, 105, 101, 108, 100] rc_35 (rowOk_low (tab2_le L.w L.le) _ (fun n hn s hm => by have e : n = .type := (by simpa using hn); subst e; exact typ_ok L s hm) (by simp) (by simp) s hk hs)
  generalize pRow ws (tab2 ws R) [102, 105, 101, 108, 100] [.name, .part .type, .word [59]] [] s = pr at *
  have p := hide ((Pn.new h).al (.cells zBox 27))
  have b := hide (BoxT.zero y)
  clear h hk hs L
  go_enter Tryd.func35, Tryd.ntmps35
  go_wp2_with fail
  refine (unhide CR _ (unhide p).st).mono ?_
  rintro e w2 hn
  obtain ⟨ao, n, c, rfl, ⟨u0, u1, u2, u3, q0, q1, q2, q3⟩, ⟨z0, z1, z2, z3⟩, K⟩ := arm_fin (unhide p) (unhide b) hn
  clear hn p b
  go_wp2_with fail
  obtain ⟨K1, d0, d1, d2, d3⟩ := unhide K
  refine bodyPost_ret (by simp [results, Tryd.results35, go_sem, d0, d1, d2, d3]; try rfl) rfl ?_
  exact K1
set_option maxHeartbeats 8000000 in
theorem decl_ok {rb wb wc : Nat} {ws : List Wd} {R : Nt → PS → Tt × PS} {M : Nat} (L : Lv rb wb wc ws R M) (s : PS) (hs : mu ws s < M + 1) : Ok rb wb wc ws 15 (declP ws R) s := by
  refine ok_of fun hk y h => ?_
  have fl0 := pfld0
  have fl1 := pfld1
  unfold declP
  by_cases h0 : (wdAt ws s).x = [115, 116, 114, 117, 99, 116]
  · rw [if_pos h0]
    have CW : Hid (∀ w1, RSt rb wb wc ws s w1 → Calls Tryd.prog 14 #[.pointer (some ⟨rb, 0, none⟩)] w1 (fun e w2 => e = .returned (.agg #[.int .i64 ((wdAt ws s).k : Int), .string ⟨(wdAt ws s).x.toArray⟩, .int .i64 ((wdAt ws s).o : Int)]) ∧ G w1 w2)) := hide fun w1 hh => word_any hh
    rw [h0] at CW
    have CR : Hid (∀ w1, RSt rb wb wc ws s w1 → Calls Tryd.prog 13 #[.pointer (some ⟨rb, 0, none⟩), .string ⟨#[115, 116, 114, 117, 99, 116]⟩, .string ⟨#[115, 116, 114, 117, 99, 116, 32, 78, 65, 77, 69, 32, 123]⟩, .slice none 0 0] w1 (NTo rb wb wc ws (pRow ws R [115, 116, 114, 117, 99, 116] [.word [115, 116, 114, 117, 99, 116], .name, .word [123]] [] s) w1)) := hide fun w1 hh => row_nil hh [115, 116, 114, 117, 99, 116] rc_36 (L.word [.name, .word [123]] (by simp) hk hs h0 (by simp))
    obtain ⟨ha1, ha2⟩ := L.after [115, 116, 114, 117, 99, 116] [.name, .word [123]] [] hk hs h0 (by simp)
    unfold withKids
    dsimp only
    generalize pRow ws R [115, 116, 114, 117, 99, 116] [.word [115, 116, 114, 117, 99, 116], .name, .word [123]] [] s = r at *
    have CK : Hid (∀ w1, RSt rb wb wc ws r.2 w1 → Calls Tryd.prog 34 #[.pointer (some ⟨rb, 0, none⟩), .string ⟨#[125]⟩, .func (.func 35) #[.pointer (some ⟨rb, 0, none⟩)] #[]] w1 (LTo rb wb wc ws (pUntil ws [125] (R .field) (ws.length + 1) r.2) w1)) := hide fun w1 hh => until_any hh [125] (by simp) _ _ (ntF_ent .field) (fun s' h0' hs' _ => ok_of fun hk' => L.ok .field s' (by skip; unfold mu at *; omega)) (fun s' hs' => (L.le .field s' hs').k) (fun s' hs' e' => (L.ea .field s' (by simp) hs').on e')
    generalize pUntil ws [125] (R .field) (ws.length + 1) r.2 = l at *
    generalize (wdAt ws s).x = wx at *
    generalize (wdAt ws s).k = wk at *
    generalize (wdAt ws s).o = wo at *
    have p := hide ((Pn.new h).al (.cells zBox 27))
    have b := hide (BoxT.zero y)
    clear h hk hs L ha1 ha2 h0
    go_enter Tryd.func15, Tryd.ntmps15
    go_wp2_with fail
    refine (unhide CW _ (unhide p).st).mono ?_
    rintro e w1 ⟨rfl, g⟩
    replace b := hide ((unhide b).g g)
    replace p := hide ((unhide p).g g)
    clear g
    go_wp2_with fail
    refine (unhide CR _ (unhide p).st).mono ?_
    rintro e w2 hn
    obtain ⟨o0, n0, c0, rfl, ho, h2, g2⟩ := hn.open
    obtain ⟨h3, F3⟩ := kids_any (o0 := o0) (n0 := n0) (c0 := c0) (l := l) (unhide p) (unhide b) h2 g2
    replace F3 := hide F3
    replace h3 := hide h3
    clear CR hn ho h2 g2 p b
    go_wp2_with fail
    refine (unhide CK _ (unhide h3)).mono ?_
    rintro e w3 hl
    obtain ⟨kl, rfl, ho3, h4, g3⟩ := hl
    obtain ⟨p6, b6, m6, hlt, o6⟩ := unhide F3 w3 kl ho3 h4 g3
    obtain ⟨ao, n, c, rfl, ⟨u, cu⟩, fu, ⟨k0, k1, k2, k3⟩, ⟨u0, u1, u2, u3, q0, q1, q2, q3⟩, ⟨z0, z1, z2, z3⟩, K⟩ := kid_fin p6 b6 m6 hlt o6
    clear F3 CK ho3 h4 g3 h3 p6 b6 m6 hlt o6
    go_wp2_with fail
    obtain ⟨K1, d0, d1, d2, d3⟩ := unhide K
    refine bodyPost_ret (by simp [results, Tryd.results15, go_sem, d0, d1, d2, d3]; try rfl) rfl ?_
    exact K1
  rw [if_neg h0]
  by_cases h1 : (wdAt ws s).x = [118, 97, 114]
  · rw [if_pos h1]
    have CW : Hid (∀ w1, RSt rb wb wc ws s w1 → Calls Tryd.prog 14 #[.pointer (some ⟨rb, 0, none⟩)] w1 (fun e w2 => e = .returned (.agg #[.int .i64 ((wdAt ws s).k : Int), .string ⟨(wdAt ws s).x.toArray⟩, .int .i64 ((wdAt ws s).o : Int)]) ∧ G w1 w2)) := hide fun w1 hh => word_any hh
    have CR : Hid (∀ w1, RSt rb wb wc ws s w1 → Calls Tryd.prog 13 #[.pointer (some ⟨rb, 0, none⟩), .string ⟨#[103, 108, 111, 98, 97, 108]⟩, .string ⟨#[118, 97, 114, 32, 78, 65, 77, 69, 32, 116, 121, 112, 101, 32, 59]⟩, .slice none 0 0] w1 (NTo rb wb wc ws (pRow ws R [103, 108, 111, 98, 97, 108] [.word [118, 97, 114], .name, .part .type, .word [59]] [] s) w1)) := hide fun w1 hh => row_nil hh [103, 108, 111, 98, 97, 108] rc_37 (L.word [.name, .part .type, .word [59]] (by simp) hk hs h1 (by simp))
    rw [h1] at CW
    clear h1 h0
    generalize pRow ws R [103, 108, 111, 98, 97, 108] [.word [118, 97, 114], .name, .part .type, .word [59]] [] s = pr at *
    generalize (wdAt ws s).x = wx at *
    generalize (wdAt ws s).k = wk at *
    generalize (wdAt ws s).o = wo at *
    have p := hide ((Pn.new h).al (.cells zBox 27))
    have b := hide (BoxT.zero y)
    clear h hk hs L
    go_enter Tryd.func15, Tryd.ntmps15
    go_wp2_with fail
    refine (unhide CW _ (unhide p).st).mono ?_
    rintro e w1 ⟨rfl, g⟩
    replace b := hide ((unhide b).g g)
    replace p := hide ((unhide p).g g)
    clear g
    go_wp2_with fail
    refine (unhide CR _ (unhide p).st).mono ?_
    rintro e w2 hn
    obtain ⟨ao, n, c, rfl, ⟨u0, u1, u2, u3, q0, q1, q2, q3⟩, ⟨z0, z1, z2, z3⟩, K⟩ := arm_fin (unhide p) (unhide b) hn
    clear hn p b
    go_wp2_with fail
    obtain ⟨K1, d0, d1, d2, d3⟩ := unhide K
    refine bodyPost_ret (by simp [results, Tryd.results15, go_sem, d0, d1, d2, d3]; try rfl) rfl ?_
    exact K1
  rw [if_neg h1]
  have n0 : ((wdAt ws s).x == [115, 116, 114, 117, 99, 116]) = false := by simpa using h0
  have n1 : ((wdAt ws s).x == [118, 97, 114]) = false := by simpa using h1
  clear h0 h1
  have CW : Hid (∀ w1, RSt rb wb wc ws s w1 → Calls Tryd.prog 14 #[.pointer (some ⟨rb, 0, none⟩)] w1 (fun e w2 => e = .returned (.agg #[.int .i64 ((wdAt ws s).k : Int), .string ⟨(wdAt ws s).x.toArray⟩, .int .i64 ((wdAt ws s).o : Int)]) ∧ G w1 w2)) := hide fun w1 hh => word_any hh
  have CR : Hid (∀ w1, RSt rb wb wc ws s w1 → Calls Tryd.prog 13 #[.pointer (some ⟨rb, 0, none⟩), .string ⟨#[102, 117, 110, 99]⟩, .string ⟨#[102, 117, 110, 99, 32, 78, 65, 77, 69, 32, 40, 32, 112, 97, 114, 97, 109, 115, 32, 41, 32, 91, 116, 121, 112, 101, 93, 32, 98, 108, 111, 99, 107]⟩, .slice none 0 0] w1 (NTo rb wb wc ws (pRow ws (tab2 ws R) [102, 117, 110, 99] [.word [102, 117, 110, 99], .name, .word [40], .part .params, .word [41], .part .typeOr, .part .block] [] s) w1)) := hide fun w1 hh => row_nil hh [102, 117, 110, 99] rc_38 (rowOk_low (tab2_le L.w L.le) _ (fun n hn s hm => by have e : n = .params ∨ n = .typeOr ∨ n = .block := (by simpa [or_comm, or_left_comm, or_assoc] using hn); rcases e with rfl | rfl | rfl <;> first | exact params_ok L s hm | exact typeOr_ok L s hm | exact block_ok L s hm) (by simp) (by simp) s hk hs)
  generalize pRow ws (tab2 ws R) [102, 117, 110, 99] [.word [102, 117, 110, 99], .name, .word [40], .part .params, .word [41], .part .typeOr, .part .block] [] s = pr at *
  generalize (wdAt ws s).x = wx at *
  generalize (wdAt ws s).k = wk at *
  generalize (wdAt ws s).o = wo at *
  have p := hide ((Pn.new h).al (.cells zBox 27))
  have b := hide (BoxT.zero y)
  clear h hk hs L
  go_enter Tryd.func15, Tryd.ntmps15
  go_wp2_with fail
  refine (unhide CW _ (unhide p).st).mono ?_
  rintro e w1 ⟨rfl, g⟩
  replace b := hide ((unhide b).g g)
  replace p := hide ((unhide p).g g)
  clear g
  go_wp2_with fail
  refine (unhide CR _ (unhide p).st).mono ?_
  rintro e w2 hn
  obtain ⟨ao, n, c, rfl, ⟨u0, u1, u2, u3, q0, q1, q2, q3⟩, ⟨z0, z1, z2, z3⟩, K⟩ := arm_fin (unhide p) (unhide b) hn
  clear hn p b
  go_wp2_with fail
  obtain ⟨K1, d0, d1, d2, d3⟩ := unhide K
  refine bodyPost_ret (by simp [results, Tryd.results15, go_sem, d0, d1, d2, d3]; try rfl) rfl ?_
  exact K1
end Go.Proofs.YtablincnlfbjnabDoor
