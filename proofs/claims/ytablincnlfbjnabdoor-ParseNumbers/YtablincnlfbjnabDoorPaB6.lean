/- The program's parser: post (laid by py/pax.py). -/
import Derived.Test.YtablincnlfbjnabDoorPaT
namespace Go.Proofs.YtablincnlfbjnabDoor
set_option maxRecDepth 100000
open Go.RowKit Go.Maps Go.ChangeShapes Go.WideShapes Go.ChangeAt Go.Deep

theorem rc_17 : RowC (⟨#[40, 32, 97, 114, 103, 115, 32, 41]⟩ : ByteArray) [.word [40], .args, .word [41]] := ⟨by decide +kernel, by decide +kernel, by decide +kernel, by decide +kernel, by decide +kernel⟩
theorem rc_18 : RowC (⟨#[91, 32, 105, 110, 115, 105, 100, 101, 32, 93]⟩ : ByteArray) [.word [91], .part .inside, .word [93]] := ⟨by decide +kernel, by decide +kernel, by decide +kernel, by decide +kernel, by decide +kernel⟩
theorem rc_19 : RowC (⟨#[46, 32, 78, 65, 77, 69]⟩ : ByteArray) [.word [46], .name] := ⟨by decide +kernel, by decide +kernel, by decide +kernel, by decide +kernel, by decide +kernel⟩
theorem row_word_on {rb wb wc : Nat} {ws : List Wd} {R : Nt → PS → Tt × PS} {M : Nat} {s : PS} (h : Lv rb wb wc ws R M) {t : List UInt8} (kd : List UInt8) (fs : List Fd) (ks : List Tt) (hk : s.k < ws.length) (hx : (wdAt ws s).x = t) (ht : t ≠ []) : s.k < (pRow ws R kd (.word t :: fs) ks s).2.k ∧ (pRow ws R kd (.word t :: fs) ks s).2.k < ws.length := by
  have hmore := x_more h.w hk ht hx
  have e : (fdStep ws R (.word t) (([], ks), s)).2 = pPass ws s := by
    show pNeed ws t s = _
    unfold pNeed
    rw [if_pos (show pIs ws t s = true from decide_eq_true hx)]
  have hon := pass_on hmore
  have hle := pass_le (ws := ws) hk
  have h2 := run_le h.le fs (fdStep ws R (.word t) (([], ks), s)) (by rw [e]; exact hle.l)
  have h3 := h2.k
  rw [e] at h3
  exact ⟨Nat.lt_of_lt_of_le hon h3, h2.l⟩
theorem pPost_end {ws : List Wd} {R : Nt → PS → Tt × PS} {r : Tt × PS} (h0 : ¬ (wdAt ws r.2).x = [40]) (h1 : ¬ (wdAt ws r.2).x = [91]) (h2 : ¬ (wdAt ws r.2).x = [46]) (f : Nat) : pPost ws R f r = r := by
  cases f with
  | zero => rfl
  | succ f => rw [pPost, if_neg h0, if_neg h1, if_neg h2]
/-- What is known at the head of post's loop. -/
def PoR (rb wb wc : Nat) (ws : List Wd) (R : Nt → PS → Tt × PS) (M : Nat) (Rf : Tt × PS) (y : World) (m : Nat) (r : Tt × PS) (kv : Value) (w : World) : Prop := PT rb wb wc ws y m r kv w ∧ mu ws r.2 < M + 1 ∧ ∃ f, Rf = pPost ws R f r ∧ mu ws r.2 ≤ f
theorem post_call {rb wb wc : Nat} {ws : List Wd} {R : Nt → PS → Tt × PS} {M : Nat} (L : Lv rb wb wc ws R M) {Rf r : Tt × PS} {y wr w1 : World} {m : Nat} {kv : Value} (h : PoR rb wb wc ws R M Rf y m r kv wr) (hx : (wdAt ws r.2).x = [40]) (g : G wr w1) :
    Calls Tryd.prog 13 #[.pointer (some ⟨rb, 0, none⟩), .string ⟨#[99, 97, 108, 108]⟩, .string ⟨#[40, 32, 97, 114, 103, 115, 32, 41]⟩, .slice (some ⟨w1.heap.size, 0, none⟩) 1 1] (w1.alloc (.cells #[.string ⟨r.1.k.toArray⟩, .string ⟨r.1.x.toArray⟩, .int .i64 r.1.a, kv] 27)) fun e w' => ∃ (q : Tt × PS) (vo : Option Addr) (vn vc : Nat), e = .returned (.agg #[.string ⟨q.1.k.toArray⟩, .string ⟨q.1.x.toArray⟩, .int .i64 q.1.a, .slice vo vn vc]) ∧ (∃ u0 u1 u2 u3, w'.cell? ⟨m, 0, none⟩ = some u0 ∧ w'.cell? ⟨m, 1, none⟩ = some u1 ∧ w'.cell? ⟨m, 2, none⟩ = some u2 ∧ w'.cell? ⟨m, 3, none⟩ = some u3) ∧ (w'.frozen? ⟨m, 0, none⟩ = false ∧ w'.frozen? ⟨m, 1, none⟩ = false ∧ w'.frozen? ⟨m, 2, none⟩ = false ∧ w'.frozen? ⟨m, 3, none⟩ = false) ∧ Hid (PoR rb wb wc ws R M Rf y m q (.slice vo vn vc) (put4 w' m q.1.k q.1.x q.1.a (.slice vo vn vc)) ∧ muK rb (put4 w' m q.1.k q.1.x q.1.a (.slice vo vn vc)) < muK rb wr) := by
  obtain ⟨hp, hm, f, e1, e2⟩ := h
  have hk := hp.p.st.k
  obtain ⟨o1, o2⟩ := row_word_on L [99, 97, 108, 108] [.args, .word [41]] [r.1] hk hx (by simp)
  refine ((hp.g g).row [99, 97, 108, 108] rc_17 (L.word [.args, .word [41]] (by simp) hk hm hx (by simp)) rfl).mono ?_
  rintro e w' ⟨vo, vn, vc, q1, q2, q3, q4⟩
  obtain ⟨f, rfl⟩ : ∃ g, f = g + 1 := ⟨f - 1, by unfold mu at e2; omega⟩
  refine ⟨_, vo, vn, vc, q1, q2, q3, hide ⟨⟨unhide q4, by unfold mu at hm ⊢; omega, f, ?_, by unfold mu at e2 ⊢; omega⟩, ?_⟩⟩
  · rw [e1, pPost, if_pos hx]
  · rw [muK_of (unhide q4).p.st, muK_of hp.p.st]; omega
theorem post_index {rb wb wc : Nat} {ws : List Wd} {R : Nt → PS → Tt × PS} {M : Nat} (L : Lv rb wb wc ws R M) {Rf r : Tt × PS} {y wr w1 : World} {m : Nat} {kv : Value} (h : PoR rb wb wc ws R M Rf y m r kv wr) (n0 : ¬ (wdAt ws r.2).x = [40]) (hx : (wdAt ws r.2).x = [91]) (g : G wr w1) :
    Calls Tryd.prog 13 #[.pointer (some ⟨rb, 0, none⟩), .string ⟨#[105, 110, 100, 101, 120]⟩, .string ⟨#[91, 32, 105, 110, 115, 105, 100, 101, 32, 93]⟩, .slice (some ⟨w1.heap.size, 0, none⟩) 1 1] (w1.alloc (.cells #[.string ⟨r.1.k.toArray⟩, .string ⟨r.1.x.toArray⟩, .int .i64 r.1.a, kv] 27)) fun e w' => ∃ (q : Tt × PS) (vo : Option Addr) (vn vc : Nat), e = .returned (.agg #[.string ⟨q.1.k.toArray⟩, .string ⟨q.1.x.toArray⟩, .int .i64 q.1.a, .slice vo vn vc]) ∧ (∃ u0 u1 u2 u3, w'.cell? ⟨m, 0, none⟩ = some u0 ∧ w'.cell? ⟨m, 1, none⟩ = some u1 ∧ w'.cell? ⟨m, 2, none⟩ = some u2 ∧ w'.cell? ⟨m, 3, none⟩ = some u3) ∧ (w'.frozen? ⟨m, 0, none⟩ = false ∧ w'.frozen? ⟨m, 1, none⟩ = false ∧ w'.frozen? ⟨m, 2, none⟩ = false ∧ w'.frozen? ⟨m, 3, none⟩ = false) ∧ Hid (PoR rb wb wc ws R M Rf y m q (.slice vo vn vc) (put4 w' m q.1.k q.1.x q.1.a (.slice vo vn vc)) ∧ muK rb (put4 w' m q.1.k q.1.x q.1.a (.slice vo vn vc)) < muK rb wr) := by
  obtain ⟨hp, hm, f, e1, e2⟩ := h
  have hk := hp.p.st.k
  obtain ⟨o1, o2⟩ := row_word_on L [105, 110, 100, 101, 120] [.part .inside, .word [93]] [r.1] hk hx (by simp)
  refine ((hp.g g).row [105, 110, 100, 101, 120] rc_18 (L.word [.part .inside, .word [93]] (by simp) hk hm hx (by simp)) rfl).mono ?_
  rintro e w' ⟨vo, vn, vc, q1, q2, q3, q4⟩
  obtain ⟨f, rfl⟩ : ∃ g, f = g + 1 := ⟨f - 1, by unfold mu at e2; omega⟩
  refine ⟨_, vo, vn, vc, q1, q2, q3, hide ⟨⟨unhide q4, by unfold mu at hm ⊢; omega, f, ?_, by unfold mu at e2 ⊢; omega⟩, ?_⟩⟩
  · rw [e1, pPost, if_neg n0, if_pos hx]
  · rw [muK_of (unhide q4).p.st, muK_of hp.p.st]; omega
theorem post_dot {rb wb wc : Nat} {ws : List Wd} {R : Nt → PS → Tt × PS} {M : Nat} (L : Lv rb wb wc ws R M) {Rf r : Tt × PS} {y wr w1 : World} {m : Nat} {kv : Value} (h : PoR rb wb wc ws R M Rf y m r kv wr) (n0 : ¬ (wdAt ws r.2).x = [40]) (n1 : ¬ (wdAt ws r.2).x = [91]) (hx : (wdAt ws r.2).x = [46]) (g : G wr w1) :
    Calls Tryd.prog 13 #[.pointer (some ⟨rb, 0, none⟩), .string ⟨#[100, 111, 116]⟩, .string ⟨#[46, 32, 78, 65, 77, 69]⟩, .slice (some ⟨w1.heap.size, 0, none⟩) 1 1] (w1.alloc (.cells #[.string ⟨r.1.k.toArray⟩, .string ⟨r.1.x.toArray⟩, .int .i64 r.1.a, kv] 27)) fun e w' => ∃ (q : Tt × PS) (vo : Option Addr) (vn vc : Nat), e = .returned (.agg #[.string ⟨q.1.k.toArray⟩, .string ⟨q.1.x.toArray⟩, .int .i64 q.1.a, .slice vo vn vc]) ∧ (∃ u0 u1 u2 u3, w'.cell? ⟨m, 0, none⟩ = some u0 ∧ w'.cell? ⟨m, 1, none⟩ = some u1 ∧ w'.cell? ⟨m, 2, none⟩ = some u2 ∧ w'.cell? ⟨m, 3, none⟩ = some u3) ∧ (w'.frozen? ⟨m, 0, none⟩ = false ∧ w'.frozen? ⟨m, 1, none⟩ = false ∧ w'.frozen? ⟨m, 2, none⟩ = false ∧ w'.frozen? ⟨m, 3, none⟩ = false) ∧ Hid (PoR rb wb wc ws R M Rf y m q (.slice vo vn vc) (put4 w' m q.1.k q.1.x q.1.a (.slice vo vn vc)) ∧ muK rb (put4 w' m q.1.k q.1.x q.1.a (.slice vo vn vc)) < muK rb wr) := by
  obtain ⟨hp, hm, f, e1, e2⟩ := h
  have hk := hp.p.st.k
  obtain ⟨o1, o2⟩ := row_word_on L [100, 111, 116] [.name] [r.1] hk hx (by simp)
  refine ((hp.g g).row [100, 111, 116] rc_19 (L.word [.name] (by simp) hk hm hx (by simp)) rfl).mono ?_
  rintro e w' ⟨vo, vn, vc, q1, q2, q3, q4⟩
  obtain ⟨f, rfl⟩ : ∃ g, f = g + 1 := ⟨f - 1, by unfold mu at e2; omega⟩
  refine ⟨_, vo, vn, vc, q1, q2, q3, hide ⟨⟨unhide q4, by unfold mu at hm ⊢; omega, f, ?_, by unfold mu at e2 ⊢; omega⟩, ?_⟩⟩
  · rw [e1, pPost, if_neg n0, if_neg n1, if_pos hx]
  · rw [muK_of (unhide q4).p.st, muK_of hp.p.st]; omega
set_option maxHeartbeats 8000000 in
theorem post_ok {rb wb wc : Nat} {ws : List Wd} {R : Nt → PS → Tt × PS} {M : Nat} (L : Lv rb wb wc ws R M) (s : PS) (hs : mu ws s < M + 1) : Ok rb wb wc ws 64 (postP ws R) s := by
  refine ok_of fun hk y h => ?_
  have fl0 := pfld0
  have fl1 := pfld1
  have CP : Hid (∀ w1, RSt rb wb wc ws s w1 → Calls Tryd.prog 76 #[.pointer (some ⟨rb, 0, none⟩)] w1 (NTo rb wb wc ws (primP ws R s) w1)) := hide fun w1 hh => prim_ok L s hs w1 hh
  have hpl := prim_lt L.w L.le hk
  unfold postP
  obtain ⟨Rf, hRf⟩ : ∃ Rf, Rf = pPost ws R ws.length (primP ws R s) := ⟨_, rfl⟩
  rw [← hRf]
  have ST : Hid (∀ m kv w, PT rb wb wc ws y m (primP ws R s) kv w → PoR rb wb wc ws R M Rf y m (primP ws R s) kv w) := hide fun m kv w hp => ⟨hp, by have := hpl.le.k; unfold mu at *; omega, ws.length, hRf, by unfold mu; omega⟩
  have LL := hide L
  generalize primP ws R s = r0 at *
  have p := hide ((Pn.new h).al (.cells zBox 27))
  have b := hide (BoxT.zero y)
  clear h hk hs L hpl hRf
  go_enter Tryd.func64, Tryd.ntmps64
  go_wp2_with fail
  refine (unhide CP _ (unhide p).st).mono ?_
  rintro e w2 hn
  obtain ⟨o0, n0, c0, rfl, ho, h2, g2⟩ := hn.open
  have hI := hide (unhide ST _ _ _ (PT.new (unhide p) (unhide b) ho h2 g2))
  clear ST CP hn ho h2 g2 p b
  go_wp2_with fail
  go_loopw [] (fun wr => ∃ r kv, Hid (PoR rb wb wc ws R M Rf y w2.heap.size r kv wr)) (fun wr => muK rb wr)
  case atStart => exact ⟨_, _, hI⟩
  case round =>
    clear hI
    obtain ⟨r, kv, hr⟩ := hrel
    have CW : Hid (∀ w1, G wr w1 → Calls Tryd.prog 14 #[.pointer (some ⟨rb, 0, none⟩)] w1 (fun e w2 => e = .returned (.agg #[.int .i64 ((wdAt ws r.2).k : Int), .string ⟨(wdAt ws r.2).x.toArray⟩, .int .i64 ((wdAt ws r.2).o : Int)]) ∧ G w1 w2)) := hide fun w1 g => word_any ((unhide hr).1.p.st.g g)
    have CC : Hid (∀ w1, G wr w1 → w1.cell? ⟨w2.heap.size, 0, none⟩ = some (.string ⟨r.1.k.toArray⟩) ∧ w1.cell? ⟨w2.heap.size, 1, none⟩ = some (.string ⟨r.1.x.toArray⟩) ∧ w1.cell? ⟨w2.heap.size, 2, none⟩ = some (.int .i64 r.1.a) ∧ w1.cell? ⟨w2.heap.size, 3, none⟩ = some kv) := hide fun w1 g => ((unhide hr).1.g g).bm.c
    obtain ⟨kao, kc, kve⟩ := (unhide hr).1.ow.sl
    by_cases h0 : (wdAt ws r.2).x = [40]
    · rw [h0] at CW
      have CR : Hid (∀ w1, G wr w1 → _) := hide fun w1 g => post_call (unhide LL) (unhide hr)  h0 g
      generalize (wdAt ws r.2).k = wk at *
      generalize (wdAt ws r.2).o = wo at *
      clear hr LL h0 
      generalize r.1.ks.length = kn at *
      subst kve
      go_wp2_with fail
      refine (unhide CW _ (G.refl _)).mono ?_
      rintro e w3 ⟨rfl, g⟩
      obtain ⟨e0, e1, e2, e3⟩ := unhide CC w3 g
      replace CR := hide (unhide CR w3 g)
      clear CW CC g
      go_wp2_with fail
      refine (unhide CR).mono ?_
      rintro e w4 ⟨q, vo, vn, vc, rfl, ⟨u0, u1, u2, u3, q0, q1, q2, q3⟩, ⟨z0, z1, z2, z3⟩, K⟩
      clear CR
      go_wp2_with fail
      go_roundw
      case rel => exact ⟨_, _, hide (unhide K).1⟩
      case measure => exact (unhide K).2
    by_cases h1 : (wdAt ws r.2).x = [91]
    · rw [h1] at CW
      have CR : Hid (∀ w1, G wr w1 → _) := hide fun w1 g => post_index (unhide LL) (unhide hr) h0 h1 g
      generalize (wdAt ws r.2).k = wk at *
      generalize (wdAt ws r.2).o = wo at *
      clear hr LL h1 h0
      generalize r.1.ks.length = kn at *
      subst kve
      go_wp2_with fail
      refine (unhide CW _ (G.refl _)).mono ?_
      rintro e w3 ⟨rfl, g⟩
      obtain ⟨e0, e1, e2, e3⟩ := unhide CC w3 g
      replace CR := hide (unhide CR w3 g)
      clear CW CC g
      go_wp2_with fail
      refine (unhide CR).mono ?_
      rintro e w4 ⟨q, vo, vn, vc, rfl, ⟨u0, u1, u2, u3, q0, q1, q2, q3⟩, ⟨z0, z1, z2, z3⟩, K⟩
      clear CR
      go_wp2_with fail
      go_roundw
      case rel => exact ⟨_, _, hide (unhide K).1⟩
      case measure => exact (unhide K).2
    by_cases h2 : (wdAt ws r.2).x = [46]
    · rw [h2] at CW
      have CR : Hid (∀ w1, G wr w1 → _) := hide fun w1 g => post_dot (unhide LL) (unhide hr) h0 h1 h2 g
      generalize (wdAt ws r.2).k = wk at *
      generalize (wdAt ws r.2).o = wo at *
      clear hr LL h2 h0 h1
      generalize r.1.ks.length = kn at *
      subst kve
      go_wp2_with fail
      refine (unhide CW _ (G.refl _)).mono ?_
      rintro e w3 ⟨rfl, g⟩
      obtain ⟨e0, e1, e2, e3⟩ := unhide CC w3 g
      replace CR := hide (unhide CR w3 g)
      clear CW CC g
      go_wp2_with fail
      refine (unhide CR).mono ?_
      rintro e w4 ⟨q, vo, vn, vc, rfl, ⟨u0, u1, u2, u3, q0, q1, q2, q3⟩, ⟨z0, z1, z2, z3⟩, K⟩
      clear CR
      go_wp2_with fail
      go_roundw
      case rel => exact ⟨_, _, hide (unhide K).1⟩
      case measure => exact (unhide K).2
    have n0 : ((wdAt ws r.2).x == [40]) = false := by simpa using h0
    have n1 : ((wdAt ws r.2).x == [91]) = false := by simpa using h1
    have n2 : ((wdAt ws r.2).x == [46]) = false := by simpa using h2
    have EN : Hid (∀ w1, G wr w1 → PT rb wb wc ws y w2.heap.size Rf kv w1) := hide fun w1 g => by
      obtain ⟨hp, _, f, e1, _⟩ := unhide hr
      rw [e1, pPost_end h0 h1 h2 f]
      exact hp.g g
    generalize (wdAt ws r.2).x = wx at *
    generalize (wdAt ws r.2).k = wk at *
    generalize (wdAt ws r.2).o = wo at *
    clear hr LL h0 h1 h2 CC kve
    go_wp2_with fail
    refine (unhide CW _ (G.refl _)).mono ?_
    rintro e w3 ⟨rfl, g⟩
    obtain ⟨ao, n, c, rfl, ⟨k0, k1, k2, k3⟩, ⟨u0, u1, u2, u3, q0, q1, q2, q3⟩, ⟨z0, z1, z2, z3⟩, K⟩ := (unhide EN w3 g).fin
    clear CW EN g
    go_wp2_with fail
    obtain ⟨K1, d0, d1, d2, d3⟩ := unhide K
    refine bodyPost_ret (by simp [results, Tryd.results64, go_sem, d0, d1, d2, d3]; try rfl) rfl ?_
    exact K1
end Go.Proofs.YtablincnlfbjnabDoor
