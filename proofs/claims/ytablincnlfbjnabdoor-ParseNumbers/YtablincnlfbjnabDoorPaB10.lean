/- The program's parser: elseOrNone, doOrSet (laid by py/pax.py). -/
import Derived.Test.YtablincnlfbjnabDoorPaB9
namespace Go.Proofs.YtablincnlfbjnabDoor
set_option maxRecDepth 100000
open Go.RowKit Go.Maps Go.ChangeShapes Go.WideShapes Go.ChangeAt Go.Deep

theorem rc_21 : RowC (⟨#[101, 120, 112, 114]⟩ : ByteArray) [.part .expr] := ⟨by decide +kernel, by decide +kernel, by decide +kernel, by decide +kernel, by decide +kernel⟩
theorem rc_22 : RowC (⟨#[61, 32, 101, 120, 112, 114, 32, 59]⟩ : ByteArray) [.word [61], .part .expr, .word [59]] := ⟨by decide +kernel, by decide +kernel, by decide +kernel, by decide +kernel, by decide +kernel⟩
set_option maxHeartbeats 8000000 in
theorem elseOr_ok {rb wb wc : Nat} {ws : List Wd} {R : Nt → PS → Tt × PS} {M : Nat} (L : Lv rb wb wc ws R M) (s : PS) (hs : mu ws s < M + 1) : Ok rb wb wc ws 51 (elseOrP ws R) s := by
  refine ok_of fun hk y h => ?_
  unfold elseOrP
  have CK := hide fun w1 (hh : RSt rb wb wc ws s w1) => take_any hh [101, 108, 115, 101] (by simp)
  unfold pTake at CK
  by_cases h0 : pIs ws [101, 108, 115, 101] s = true
  · rw [if_pos h0]
    have hmore := is_more L.w hk (t := [101, 108, 115, 101]) (by simp) h0
    have hon := pass_on hmore
    rw [if_pos h0] at CK
    have CD : Hid (∀ w1, RSt rb wb wc ws (pPass ws s) w1 → Calls Tryd.prog 50 #[.pointer (some ⟨rb, 0, none⟩)] w1 (NTo rb wb wc ws (R .block (pPass ws s)) w1)) := hide fun w1 hh => L.ok .block _ (by unfold mu at *; omega) w1 hh
    generalize pPass ws s = s1 at *
    generalize R .block s1 = pr at *
    have p := hide ((Pn.new h).al (.cells zBox 27))
    have b := hide (BoxT.zero y)
    clear h hk hs L h0 hmore hon
    go_enter Tryd.func51, Tryd.ntmps51
    go_wp2_with fail
    refine (unhide CK _ (unhide p).st).mono ?_
    rintro e w2 hu
    obtain ⟨rfl, hu2⟩ := hu
    have nb : ¬ y.heap.size = rb := by have := (unhide p).rl; omega
    replace b := hide ((unhide b).keep hu2.2 nb)
    replace p := hide ((unhide p).to hu2.1 hu2.2)
    clear CK hu2
    go_wp2_with fail
    refine (unhide CD _ (unhide p).st).mono ?_
    rintro e w2 hn
    obtain ⟨ao, n, c, rfl, ⟨u0, u1, u2, u3, q0, q1, q2, q3⟩, ⟨z0, z1, z2, z3⟩, K⟩ := arm_fin (unhide p) (unhide b) hn
    clear hn p b
    go_wp2_with fail
    obtain ⟨K1, d0, d1, d2, d3⟩ := unhide K
    refine bodyPost_ret (by simp [results, Tryd.results51, go_sem, d0, d1, d2, d3]; try rfl) rfl ?_
    exact K1
  rw [if_neg h0]
  rw [if_neg h0] at CK
  have CD : Hid (∀ w1, RSt rb wb wc ws s w1 → Calls Tryd.prog 61 #[.pointer (some ⟨rb, 0, none⟩)] w1 (NTo rb wb wc ws (noneP ws R s) w1)) := hide fun w1 hh => none_ok R s w1 hh
  generalize noneP ws R s = pr at *
  have p := hide ((Pn.new h).al (.cells zBox 27))
  have b := hide (BoxT.zero y)
  clear h hk hs L h0
  go_enter Tryd.func51, Tryd.ntmps51
  go_wp2_with fail
  refine (unhide CK _ (unhide p).st).mono ?_
  rintro e w2 hu
  obtain ⟨rfl, hu2⟩ := hu
  have nb : ¬ y.heap.size = rb := by have := (unhide p).rl; omega
  replace b := hide ((unhide b).keep hu2.2 nb)
  replace p := hide ((unhide p).to hu2.1 hu2.2)
  clear CK hu2
  go_wp2_with fail
  refine (unhide CD _ (unhide p).st).mono ?_
  rintro e w2 hn
  obtain ⟨ao, n, c, rfl, ⟨u0, u1, u2, u3, q0, q1, q2, q3⟩, ⟨z0, z1, z2, z3⟩, K⟩ := arm_fin (unhide p) (unhide b) hn
  clear hn p b
  go_wp2_with fail
  obtain ⟨K1, d0, d1, d2, d3⟩ := unhide K
  refine bodyPost_ret (by simp [results, Tryd.results51, go_sem, d0, d1, d2, d3]; try rfl) rfl ?_
  exact K1
/-- A row over the kids of the node in the box, answered. -/
theorem PT.rowK {rb wb wc : Nat} {ws : List Wd} {T : Nt → PS → Tt × PS} {y w : World} {m : Nat} {r : Tt × PS} {kv : Value} (h : PT rb wb wc ws y m r kv w) (hl : r.1.ks.length ≤ 1000) (kd : List UInt8) {fs : List Fd} {wr : ByteArray} (rc : RowC wr fs) (hro : RowOk rb wb wc ws T fs r.2) {q : Tt × PS} (hq : q = pRow ws T kd fs r.1.ks r.2) :
    Calls Tryd.prog 13 #[.pointer (some ⟨rb, 0, none⟩), .string ⟨kd.toArray⟩, .string wr, kv] w fun e w' => ∃ vo vn vc, e = .returned (.agg #[.string ⟨q.1.k.toArray⟩, .string ⟨q.1.x.toArray⟩, .int .i64 q.1.a, .slice vo vn vc]) ∧ (∃ u0 u1 u2 u3, w'.cell? ⟨y.heap.size, 0, none⟩ = some u0 ∧ w'.cell? ⟨y.heap.size, 1, none⟩ = some u1 ∧ w'.cell? ⟨y.heap.size, 2, none⟩ = some u2 ∧ w'.cell? ⟨y.heap.size, 3, none⟩ = some u3) ∧ (w'.frozen? ⟨y.heap.size, 0, none⟩ = false ∧ w'.frozen? ⟨y.heap.size, 1, none⟩ = false ∧ w'.frozen? ⟨y.heap.size, 2, none⟩ = false ∧ w'.frozen? ⟨y.heap.size, 3, none⟩ = false) ∧
      Hid (NTo rb wb wc ws q y (.returned (.agg (ndT q.1.k q.1.x q.1.a (.slice vo vn vc)))) (put4 w' y.heap.size q.1.k q.1.x q.1.a (.slice vo vn vc)) ∧ ((put4 w' y.heap.size q.1.k q.1.x q.1.a (.slice vo vn vc)).cell? ⟨y.heap.size, 0, none⟩ = some (.string ⟨q.1.k.toArray⟩) ∧ (put4 w' y.heap.size q.1.k q.1.x q.1.a (.slice vo vn vc)).cell? ⟨y.heap.size, 1, none⟩ = some (.string ⟨q.1.x.toArray⟩) ∧ (put4 w' y.heap.size q.1.k q.1.x q.1.a (.slice vo vn vc)).cell? ⟨y.heap.size, 2, none⟩ = some (.int .i64 q.1.a) ∧ (put4 w' y.heap.size q.1.k q.1.x q.1.a (.slice vo vn vc)).cell? ⟨y.heap.size, 3, none⟩ = some (.slice vo vn vc))) := by
  subst hq
  have hrl := h.p.rl
  have hwl := h.p.wl
  have hm := h.hm
  have hgl := h.p.st.w.gl
  have hb := h.b.lt
  refine (row_any' h.p.st kd rc hro h.ow hl ⟨fun e => by omega, fun e => by omega, fun e => by omega⟩).mono ?_
  rintro e w' ⟨kv', e1, o1, s1, g1⟩
  have hz1 := g1.size
  obtain ⟨vo, vc, rfl⟩ := o1.sl
  have hg := h.p.gt
  have p1 : Pn rb wb wc ws (pRow ws T kd fs r.1.ks r.2).2 y w' := ⟨s1, ⟨g1.os.trans hg.os, g1.tape.trans hg.tape, g1.output.trans hg.output, Nat.le_trans hg.size g1.size, fun b hb hn => (g1.block b (Nat.lt_of_lt_of_le hb hg.size) (fun e => by rcases e with e | e; exact hn e; omega)).trans (hg.block b hb hn)⟩, hrl, hwl⟩
  obtain ⟨q1, q2, q3⟩ := fin_any p1 (h.b.keep g1 (fun e => by rcases e with e | e <;> omega)) (o1.monoS (fun q _ hq => by show y.heap.size + 1 ≤ q; rcases hq with hq | hq <;> omega))
  exact ⟨_, _, _, e1, q1, q2, q3⟩
/-- It is answered. -/
theorem PT.finM {rb wb wc : Nat} {ws : List Wd} {y w : World} {m : Nat} {k x : List UInt8} {a : Int} {ks : List Tt} {s : PS} {kv : Value} (h : PT rb wb wc ws y m (.mk k x a ks, s) kv w) : ∃ ao n c, kv = .slice ao n c ∧ (w.cell? ⟨m, 0, none⟩ = some (.string ⟨k.toArray⟩) ∧ w.cell? ⟨m, 1, none⟩ = some (.string ⟨x.toArray⟩) ∧ w.cell? ⟨m, 2, none⟩ = some (.int .i64 a) ∧ w.cell? ⟨m, 3, none⟩ = some kv) ∧ (∃ u0 u1 u2 u3, w.cell? ⟨y.heap.size, 0, none⟩ = some u0 ∧ w.cell? ⟨y.heap.size, 1, none⟩ = some u1 ∧ w.cell? ⟨y.heap.size, 2, none⟩ = some u2 ∧ w.cell? ⟨y.heap.size, 3, none⟩ = some u3) ∧ (w.frozen? ⟨y.heap.size, 0, none⟩ = false ∧ w.frozen? ⟨y.heap.size, 1, none⟩ = false ∧ w.frozen? ⟨y.heap.size, 2, none⟩ = false ∧ w.frozen? ⟨y.heap.size, 3, none⟩ = false) ∧
    Hid (NTo rb wb wc ws (.mk k x a ks, s) y (.returned (.agg (ndT k x a kv))) (put4 w y.heap.size k x a kv) ∧ ((put4 w y.heap.size k x a kv).cell? ⟨y.heap.size, 0, none⟩ = some (.string ⟨k.toArray⟩) ∧ (put4 w y.heap.size k x a kv).cell? ⟨y.heap.size, 1, none⟩ = some (.string ⟨x.toArray⟩) ∧ (put4 w y.heap.size k x a kv).cell? ⟨y.heap.size, 2, none⟩ = some (.int .i64 a) ∧ (put4 w y.heap.size k x a kv).cell? ⟨y.heap.size, 3, none⟩ = some kv)) := h.fin
set_option maxHeartbeats 8000000 in
theorem doSet_ok {rb wb wc : Nat} {ws : List Wd} {R : Nt → PS → Tt × PS} {M : Nat} (L : Lv rb wb wc ws R M) (s : PS) (hs : mu ws s < M + 1) : Ok rb wb wc ws 80 (doSetP ws R) s := by
  refine ok_of fun hk y h => ?_
  have CR : Hid (∀ w1, RSt rb wb wc ws s w1 → Calls Tryd.prog 13 #[.pointer (some ⟨rb, 0, none⟩), .string ⟨#[100, 111]⟩, .string ⟨#[101, 120, 112, 114]⟩, .slice none 0 0] w1 (NTo rb wb wc ws (pRow ws (tab2 ws R) [100, 111] [.part .expr] [] s) w1)) := hide fun w1 hh => row_nil hh [100, 111] rc_21 (rowOk_low (tab2_le L.w L.le) _ (fun n hn s hm => by have e : n = .expr := (by simpa using hn); subst e; exact expr_ok L s hm) (by simp) (by simp) s hk hs)
  unfold doSetP
  dsimp only
  have hle : Lt ws s (pRow ws (tab2 ws R) [100, 111] [.part .expr] [] s).2 := expr_lt L.w L.le hk
  have hkl : (pRow ws (tab2 ws R) [100, 111] [.part .expr] [] s).1.ks.length ≤ 1000 := by show 1 ≤ 1000; omega
  generalize pRow ws (tab2 ws R) [100, 111] [.part .expr] [] s = r at *
  have hrm : mu ws r.2 < M + 1 := by have := hle.le.k; unfold mu at *; omega
  have hrk := hle.le.l
  by_cases h0 : pIs ws [61] r.2 = true
  · rw [if_pos h0]
    have C0 : Hid (∀ w1, RSt rb wb wc ws r.2 w1 → Calls Tryd.prog 43 #[.pointer (some ⟨rb, 0, none⟩), .string ⟨#[61]⟩] w1 fun e w2 => e = .returned (.bool true) ∧ G w1 w2) := hide fun w1 hh => by have := is_any hh [61]; rw [h0] at this; exact this
    obtain ⟨q, hq⟩ : ∃ q, q = pRow ws R [115, 101, 116] [.word [61], .part .expr, .word [59]] r.1.ks r.2 := ⟨_, rfl⟩
    rw [← hq]
    have CS : Hid (∀ m kv w1, PT rb wb wc ws y m r kv w1 → _) := hide fun m kv w1 hp => PT.rowK (m := m) (kv := kv) (w := w1) hp hkl [115, 101, 116] rc_22 (L.word [.part .expr, .word [59]] (by simp) hrk hrm (of_decide_eq_true h0) (by simp)) hq
    have p := hide ((Pn.new h).al (.cells zBox 27))
    have b := hide (BoxT.zero y)
    clear h hk hs L h0 hle hkl hrm hrk hq
    go_enter Tryd.func80, Tryd.ntmps80
    go_wp2_with fail
    refine (unhide CR _ (unhide p).st).mono ?_
    rintro e w2 hn
    obtain ⟨o0, n0, c0, rfl, ho, h2, g2⟩ := hn.open
    have hT := hide (PT.new (unhide p) (unhide b) ho h2 g2)
    clear CR hn ho h2 g2 p b
    go_wp2_with fail
    refine (unhide C0 _ (unhide hT).p.st).mono ?_
    rintro e w3 ⟨rfl, g⟩
    have hT2 := hide ((unhide hT).g g)
    have c3 := (unhide hT2).bm.c.2.2.2
    replace CS := hide (unhide CS _ _ _ (unhide hT2))
    clear C0 hT hT2 g
    go_wp2_with fail
    refine (unhide CS).mono ?_
    rintro e w4 ⟨vo, vn, vc, rfl, ⟨u0, u1, u2, u3, q0, q1, q2, q3⟩, ⟨z0, z1, z2, z3⟩, K⟩
    clear CS
    go_wp2_with fail
    obtain ⟨K1, d0, d1, d2, d3⟩ := unhide K
    refine bodyPost_ret (by simp [results, Tryd.results80, go_sem, d0, d1, d2, d3]; try rfl) rfl ?_
    exact K1
  rw [if_neg h0]
  have h0' : pIs ws [61] r.2 = false := by simpa using h0
  have C0 : Hid (∀ w1, RSt rb wb wc ws r.2 w1 → Calls Tryd.prog 43 #[.pointer (some ⟨rb, 0, none⟩), .string ⟨#[61]⟩] w1 fun e w2 => e = .returned (.bool false) ∧ G w1 w2) := hide fun w1 hh => by have := is_any hh [61]; rw [h0'] at this; exact this
  have CN : Hid (∀ w1, RSt rb wb wc ws r.2 w1 → Calls Tryd.prog 33 #[.pointer (some ⟨rb, 0, none⟩), .string ⟨#[59]⟩] w1 (UTo rb wb wc ws (pNeed ws [59] r.2) w1 (.tuple #[]))) := hide fun w1 hh => need_any hh [59] (by simp)
  have p := hide ((Pn.new h).al (.cells zBox 27))
  have b := hide (BoxT.zero y)
  clear h hk hs L h0 h0' hle hkl hrm hrk
  go_enter Tryd.func80, Tryd.ntmps80
  go_wp2_with fail
  refine (unhide CR _ (unhide p).st).mono ?_
  rintro e w2 hn
  obtain ⟨o0, n0, c0, rfl, ho, h2, g2⟩ := hn.open
  have hT := hide (PT.new (unhide p) (unhide b) ho h2 g2)
  clear CR hn ho h2 g2 p b
  go_wp2_with fail
  refine (unhide C0 _ (unhide hT).p.st).mono ?_
  rintro e w3 ⟨rfl, g⟩
  replace hT := hide ((unhide hT).g g)
  clear C0 g
  go_wp2_with fail
  refine (unhide CN _ (unhide hT).p.st).mono ?_
  rintro e w4 hu
  obtain ⟨rfl, hu2⟩ := hu
  obtain ⟨ao, n, c, -, ⟨k0, k1, k2, k3⟩, ⟨u0, u1, u2, u3, q0, q1, q2, q3⟩, ⟨z0, z1, z2, z3⟩, K⟩ := ((unhide hT).to hu2.1 hu2.2).fin
  clear hT CN hu2
  go_wp2_with fail
  obtain ⟨K1, d0, d1, d2, d3⟩ := unhide K
  refine bodyPost_ret (by simp [results, Tryd.results80, go_sem, d0, d1, d2, d3]; try rfl) rfl ?_
  exact K1
end Go.Proofs.YtablincnlfbjnabDoor
