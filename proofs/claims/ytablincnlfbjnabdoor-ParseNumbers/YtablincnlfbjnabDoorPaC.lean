/- The program's parser: all levels; program. -/
import Derived.Test.YtablincnlfbjnabDoorPaB12
namespace Go.Proofs.YtablincnlfbjnabDoor
set_option maxRecDepth 100000
open Go.RowKit Go.Maps Go.ChangeShapes Go.WideShapes Go.ChangeAt Go.Deep

theorem lv_run {rb wb wc : Nat} {ws : List Wd} (hw : WsOk ws) : ∀ M, Lv rb wb wc ws (runP ws M) M := fun M => by
  induction M with
  | zero => exact ⟨hw, runP_le hw 0, fun n s h => absurd h (Nat.not_lt_zero _), fun n s hn hk => runP_lt hw 0 n (by rcases hn with h | h | h | h <;> simp [h]) s hk⟩
  | succ M L =>
    refine ⟨hw, runP_le hw (M + 1), fun n s hs => ?_, fun n s hn hk => runP_lt hw (M + 1) n hn s hk⟩
    show Ok rb wb wc ws (ntF n) (levP ws (runP ws M) n) s
    cases n with
    | params => exact params_ok L s hs
    | type => exact typ_ok L s hs
    | typeOr => exact typeOr_ok L s hs
    | block => exact block_ok L s hs
    | elseOr => exact elseOr_ok L s hs
    | expr => exact expr_ok L s hs
    | exprOr => exact exprOr_ok L s hs
    | call => exact call_ok L s hs
    | unary => exact unary_ok L s hs
    | inside => exact inside_ok L s hs
    | field => exact field_ok L s hs
    | stmt => exact stmt_ok L s hs
    | choice => exact choice_ok L s hs
    | decl => exact decl_ok L s hs
    | param => exact param_ok L s hs
/-- What is known at the head of program's loop. -/
def PgR (rb wb wc : Nat) (ws : List Wd) (D : PS → Tt × PS) (Rf : List Tt × PS) (a : Int) (y : World) (m : Nat) (ks : List Tt) (s : PS) (kv : Value) (w : World) : Prop :=
  PT rb wb wc ws y m (.mk [112, 114, 111, 103, 114, 97, 109] [] a ks, s) kv w ∧ (s.e ≠ 0 → s.k = ws.length - 1) ∧ ks.length ≤ s.k ∧ ∃ f, Rf = (ks ++ (pProg ws D f s).1, (pProg ws D f s).2) ∧ mu ws s + 1 ≤ f
set_option maxHeartbeats 8000000 in
theorem prog_ok {rb wb wc : Nat} {ws : List Wd} (hw : WsOk ws) (s0 : PS) (he : s0.e = 0) {y : World} (h : RSt rb wb wc ws s0 y) : Calls Tryd.prog 9 #[.pointer (some ⟨rb, 0, none⟩)] y (NTo rb wb wc ws (progP ws s0) y) := by
  have hk := h.k
  have hln := h.w.len
  have LL : Hid (Lv rb wb wc ws (runP ws (ws.length + 1)) (ws.length + 1)) := hide (lv_run hw _)
  have CR : Hid (∀ w1, RSt rb wb wc ws s0 w1 → Calls Tryd.prog 13 #[.pointer (some ⟨rb, 0, none⟩), .string ⟨#[112, 114, 111, 103, 114, 97, 109]⟩, .string ⟨#[]⟩, .slice none 0 0] w1 (NTo rb wb wc ws (.mk [112, 114, 111, 103, 114, 97, 109] [] ((wdAt ws s0).o : Int) [], s0) w1)) := hide fun w1 hh => row_nil (T := runP ws 0) hh [112, 114, 111, 103, 114, 97, 109] rc_0 trivial
  obtain ⟨D, hD⟩ : ∃ D, D = runP ws (ws.length + 1) .decl := ⟨_, rfl⟩
  have CD : Hid (∀ s, s.k < ws.length → ∀ w1, RSt rb wb wc ws s w1 → Calls Tryd.prog 15 #[.pointer (some ⟨rb, 0, none⟩)] w1 (NTo rb wb wc ws (D s) w1)) := hide fun s hs w1 hh => by
    rw [hD]
    exact (unhide LL).ok .decl s (by unfold mu; omega) w1 hh
  have DL : Hid (∀ s, s.k < ws.length → Lt ws s (D s).2) := hide fun s hs => by rw [hD]; exact runP_lt hw _ .decl (by simp) s hs
  unfold progP
  rw [← hD]
  dsimp only
  obtain ⟨Rf, hRf⟩ : ∃ Rf, Rf = pProg ws D (ws.length + 1) s0 := ⟨_, rfl⟩
  rw [← hRf]
  generalize ((wdAt ws s0).o : Int) = a at *
  have ST : Hid (∀ m kv w, PT rb wb wc ws y m (.mk [112, 114, 111, 103, 114, 97, 109] [] a [], s0) kv w → PgR rb wb wc ws D Rf a y m [] s0 kv w) := hide fun m kv w hp => ⟨hp, fun e => absurd he e, Nat.zero_le _, ws.length + 1, by rw [← hRf, List.nil_append], by unfold mu; omega⟩
  have p := hide ((Pn.new h).al (.cells zBox 27))
  have b := hide (BoxT.zero y)
  have fl0 := pfld0
  replace hln := hide hln
  replace hw := hide hw
  clear h hk hRf hD LL he
  go_enter Tryd.func9, Tryd.ntmps9
  go_wp2_with fail
  refine (unhide CR _ (unhide p).st).mono ?_
  rintro e w2 hn
  obtain ⟨o0, n0, c0, e1, ho, h2, g2⟩ := hn.open
  have e1' : e = .returned (.agg #[.string ⟨#[112, 114, 111, 103, 114, 97, 109]⟩, .string ⟨#[]⟩, .int .i64 a, .slice o0 n0 c0]) := e1
  subst e1'
  have hI : Hid (PgR rb wb wc ws D Rf a y w2.heap.size [] s0 (.slice o0 n0 c0) (w2.alloc (.cells #[.string ⟨#[112, 114, 111, 103, 114, 97, 109]⟩, .string ⟨#[]⟩, .int .i64 a, .slice o0 n0 c0] 27))) := hide (unhide ST _ _ _ (PT.new (unhide p) (unhide b) ho h2 g2))
  clear ST CR hn ho h2 g2 p b e1
  go_wp2_with fail
  go_loopw [] (fun wr => ∃ ks s kv, Hid (PgR rb wb wc ws D Rf a y w2.heap.size ks s kv wr)) (fun wr => muK rb wr)
  case atStart => exact ⟨_, _, _, hI⟩
  case round =>
    clear hI
    obtain ⟨ks, s, kv, hr⟩ := hrel
    have CW : Hid (Calls Tryd.prog 14 #[.pointer (some ⟨rb, 0, none⟩)] wr (fun e w2 => e = .returned (.agg #[.int .i64 ((wdAt ws s).k : Int), .string ⟨(wdAt ws s).x.toArray⟩, .int .i64 ((wdAt ws s).o : Int)]) ∧ G wr w2)) := hide (word_any (unhide hr).1.p.st)
    obtain ⟨kao, kc, kve⟩ := (unhide hr).1.ow.sl
    by_cases h0 : (wdAt ws s).k = 0
    · have EN : Hid (∀ w1, G wr w1 → PT rb wb wc ws y w2.heap.size (.mk [112, 114, 111, 103, 114, 97, 109] [] a Rf.1, Rf.2) kv w1) := hide fun w1 g => by
        obtain ⟨hp, _, _, f, e1, e2⟩ := unhide hr
        obtain ⟨f, rfl⟩ : ∃ g, f = g + 1 := ⟨f - 1, by omega⟩
        rw [pProg, if_pos h0] at e1
        rw [e1]
        dsimp only
        rw [List.append_nil]
        exact hp.g g
      rw [h0] at CW
      generalize (wdAt ws s).x = wx at *
      generalize (wdAt ws s).o = wo at *
      clear hr h0 kve CD DL
      go_wp2_with fail
      refine (unhide CW).mono ?_
      rintro e w3 ⟨rfl, g⟩
      obtain ⟨ao, n, c, rfl, ⟨k0, k1, k2, k3⟩, ⟨u0, u1, u2, u3, q0, q1, q2, q3⟩, ⟨z0, z1, z2, z3⟩, K⟩ := (unhide EN w3 g).finM
      clear CW EN g
      go_wp2_with fail
      obtain ⟨K1, d0, d1, d2, d3⟩ := unhide K
      refine bodyPost_ret (by simp [results, Tryd.results9, go_sem, d0, d1, d2, d3]; try rfl) rfl ?_
      exact K1
    · have h0' : ¬ ((wdAt ws s).k : Int) = 0 := by omega
      have hsk : s.k < ws.length := (unhide hr).1.p.st.k
      have hmore := wsOk_more (unhide hw) hsk (Or.inr h0)
      have CD1 : Hid (∀ w1, G wr w1 → Calls Tryd.prog 15 #[.pointer (some ⟨rb, 0, none⟩)] w1.drew (NTo rb wb wc ws (D s) w1.drew)) := hide fun w1 g => unhide CD s hsk _ (((unhide hr).1.p.st.g g).g (G.refl _).drew)
      have AP : Hid (∀ w1, G wr w1 → w1.cell? ⟨w2.heap.size, 3, none⟩ = some kv ∧ ∀ w5 o1 n1 c1, OwK w5 w1.drew.heap.size (.slice o1 n1 c1) (D s).1.ks → RSt rb wb wc ws (D s).2 w5 → Gt rb w1.drew w5 → _) := hide fun w1 g => ⟨((unhide hr).1.g g).bm.c.2.2.2, fun w5 o1 n1 c1 ho h2 g2 => ((unhide hr).1.g g).app (q := D s) (w2 := w5) (o1 := o1) (n1 := n1) (c1 := c1) (by have := (unhide hr).2.2.1; have := unhide hln; show ks.length ≤ 900000; omega) (G.refl _).drew ho h2 g2⟩
      have NX : Hid (∀ v' w', PT rb wb wc ws y w2.heap.size (.mk [112, 114, 111, 103, 114, 97, 109] [] a (ks ++ [(D s).1]), (D s).2) v' w' → PgR rb wb wc ws D Rf a y w2.heap.size (ks ++ [(D s).1]) (D s).2 v' w' ∧ muK rb w' < muK rb wr) := hide fun v' w' hp => by
        obtain ⟨hp0, hinv, hl, f, e1, e2⟩ := unhide hr
        have hlt := unhide DL s hsk
        obtain ⟨f, rfl⟩ : ∃ g, f = g + 1 := ⟨f - 1, by omega⟩
        rw [pProg, if_neg h0] at e1
        have hinv2 := hlt.le.f hinv
        have hkl := hlt.le.l
        have hstep : s.k < (D s).2.k := by
          by_cases e : (D s).2.e = 0
          · exact hlt.on e
          · have := hinv2 e; omega
        refine ⟨⟨hp, hinv2, by rw [List.length_append, List.length_singleton]; omega, f, by rw [e1, List.append_assoc]; rfl, by unfold mu at *; omega⟩, ?_⟩
        rw [muK_of hp.p.st, muK_of hp0.p.st]
        show ws.length - (D s).2.k < ws.length - s.k
        omega
      generalize (wdAt ws s).x = wx at *
      generalize (wdAt ws s).k = wk at *
      generalize (wdAt ws s).o = wo at *
      generalize D s = t at *
      generalize ks.length = kn at kve
      clear hr h0 CD DL hsk hmore
      subst kve
      go_wp2_with fail
      refine (unhide CW).mono ?_
      rintro e w3 ⟨rfl, g⟩
      obtain ⟨e4, ap⟩ := unhide AP w3 g
      replace ap := hide ap
      have CBd := hide (unhide CD1 w3 g)
      clear CW AP CD1 g
      go_wp2_with fail
      go_region_law ((first
        | (go_simp; go_at_call 15; refine (unhide CBd).mono ?_; rintro e w5 hl; obtain ⟨lo, ln, lc, rfl, ho, hs, hg⟩ := hl.open; obtain ⟨e4, e4k, xo, xn, xc, w', hrun, e5, e6, HZ⟩ := unhide ap w5 lo ln lc ho hs hg; clear ap CBd ho hs hg; try go_simp)
        | (refine step_apN rfl (.tmp 11) (.tmp 14) 25 rfl _ _ rfl rfl _ _ hrun ?_)))
      all_goals
        clear hrun
        have N3 := hide (unhide NX _ _ (unhide HZ))
        clear NX HZ
        go_wp2_with fail
        go_roundw
        case rel => exact ⟨_, _, _, hide (unhide N3).1⟩
        case measure => exact (unhide N3).2
end Go.Proofs.YtablincnlfbjnabDoor
