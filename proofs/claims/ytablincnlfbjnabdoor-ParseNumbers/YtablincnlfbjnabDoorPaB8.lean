/- The program's parser: binary, expr, inside. -/
import Derived.Test.YtablincnlfbjnabDoorPaB7
namespace Go.Proofs.YtablincnlfbjnabDoor
set_option maxRecDepth 100000
open Go.RowKit Go.Maps Go.ChangeShapes Go.WideShapes Go.ChangeAt Go.Deep

theorem rc_bin : RowC (⟨#[83, 73, 71, 78]⟩ : ByteArray) [.sign] := ⟨by decide +kernel, by decide +kernel, by decide +kernel, by decide +kernel, by decide +kernel⟩
/-- One more kid of the node in the box. -/
theorem PT.app {rb wb wc : Nat} {ws : List Wd} {y w w1 w2 : World} {m : Nat} {r q : Tt × PS} {kv : Value} {o1 : Option Addr} {n1 c1 : Nat} (h : PT rb wb wc ws y m r kv w) (hl : r.1.ks.length ≤ 900000) (g0 : G w w1) (ho : OwK w2 w1.heap.size (.slice o1 n1 c1) q.1.ks) (h2 : RSt rb wb wc ws q.2 w2) (g2 : Gt rb w1 w2) :
    w2.cell? ⟨m, 3, none⟩ = some kv ∧ (w2.alloc (.cells #[.string ⟨q.1.k.toArray⟩, .string ⟨q.1.x.toArray⟩, .int .i64 q.1.a, .slice o1 n1 c1] 27)).cell? ⟨m, 3, none⟩ = some kv ∧ ∃ vo vn vc w', (Builtin.append_ #[25, 25] 25 #[kv, .slice (some ⟨w2.heap.size, 0, none⟩) 1 1]).run Tryd.prog (w2.alloc (.cells #[.string ⟨q.1.k.toArray⟩, .string ⟨q.1.x.toArray⟩, .int .i64 q.1.a, .slice o1 n1 c1] 27)) = .ok (.slice vo vn vc) w' ∧ w'.cell? ⟨m, 3, none⟩ = some kv ∧ w'.frozen? ⟨m, 3, none⟩ = false ∧ Hid (PT rb wb wc ws y m (.mk r.1.k r.1.x r.1.a (r.1.ks ++ [q.1]), q.2) (.slice vo vn vc) (w'.setCell ⟨m, 3, none⟩ (.slice vo vn vc))) := by
  have h1 := (h.g g0).to h2 g2
  have hrl := h.p.rl
  have hwl := h.p.wl
  have hm := h.hm
  have hml := h.bm.lt
  have hz := g0.size
  have hz2 := g2.size
  have hlt := h.ow.lt
  have c3 := h1.bm.c.2.2.2
  obtain ⟨v', w', r1, r2, r3⟩ := h1.ow.appS ho (fun q hq => ⟨by omega, by omega⟩) (fun q (hq : w1.heap.size ≤ q) => ⟨⟨by omega, by omega⟩, fun e => by have := (hlt q e).2; omega⟩) hl
  obtain ⟨vo, vc, rfl⟩ := r2.sl
  have hT : ∀ q, kv.ownBlock = some q → y.heap.size < q ∧ q ≠ m := fun q e => (hlt q e).1
  have p3 := h1.p.own r3 (fun q e => Nat.le_of_lt (hT q e).1)
  have bm := h1.bm.keep r3 (fun e => (hT m e).2 rfl)
  have gs := gt_set m 3 (.slice vo (r.1.ks ++ [q.1]).length vc) w'
  exact ⟨c3, (G.alloc w2 _).cell c3, vo, _, vc, w', r1, bm.c.2.2.2, bm.f 3, hide ⟨p3.own gs (fun q (e : q = m) => by omega), (h1.b.keep r3 (fun e => absurd (hT _ e).1 (by omega))).keep gs (by show ¬ y.heap.size = m; omega), bm.set3 _, hm, OwA.gs r2 gs (fun q hq => by show ¬ q = m; exact hq.2)⟩⟩
theorem pBin_end {ws : List Wd} {R : Nt → PS → Tt × PS} {row : Nat} {B : PS → Tt × PS} {r : Tt × PS} (h : ¬ rowOfP (wdAt ws r.2).x = row) (f : Nat) : pBin ws R row B f r = r := by
  cases f with
  | zero => rfl
  | succ f => rw [pBin, if_neg h]
/-- What is known at the head of binary's loop. -/
def BiR (rb wb wc : Nat) (ws : List Wd) (R : Nt → PS → Tt × PS) (M row : Nat) (B : PS → Tt × PS) (Rf : Tt × PS) (y : World) (m : Nat) (r : Tt × PS) (kv : Value) (w : World) : Prop := PT rb wb wc ws y m r kv w ∧ mu ws r.2 < M + 1 ∧ ∃ f, Rf = pBin ws R row B f r ∧ mu ws r.2 ≤ f
set_option maxHeartbeats 16000000 in
theorem bin_ok {rb wb wc : Nat} {ws : List Wd} {R : Nt → PS → Tt × PS} {M : Nat} (L : Lv rb wb wc ws R M) : ∀ (j row : Nat), row + j = 6 → 1 ≤ row → ∀ (s : PS), mu ws s < M + 1 → ∀ y, RSt rb wb wc ws s y → Calls Tryd.prog 58 #[.pointer (some ⟨rb, 0, none⟩), .int .i64 (row : Int)] y (NTo rb wb wc ws (binP ws R j s) y) := fun j => by
  induction j with
  | zero =>
    intro row hrow _ s hs y h
    obtain rfl : row = 6 := by omega
    have CU : Hid (∀ w1, RSt rb wb wc ws s w1 → Calls Tryd.prog 54 #[.pointer (some ⟨rb, 0, none⟩)] w1 (NTo rb wb wc ws (unaryP ws R s) w1)) := hide fun w1 hh => unary_ok L s hs w1 hh
    show Calls _ _ _ _ (NTo rb wb wc ws (unaryP ws R s) y)
    generalize unaryP ws R s = pr at *
    have p := hide ((Pn.new h).al (.cells zBox 27))
    have b := hide (BoxT.zero y)
    clear h hs L hrow
    go_enter Tryd.func58, Tryd.ntmps58
    go_wp2_with fail
    refine (unhide CU _ (unhide p).st).mono ?_
    rintro e w2 hn
    obtain ⟨ao, n, c, rfl, ⟨u0, u1, u2, u3, q0, q1, q2, q3⟩, ⟨z0, z1, z2, z3⟩, K⟩ := arm_fin (unhide p) (unhide b) hn
    clear hn p b
    go_wp2_with fail
    obtain ⟨K1, d0, d1, d2, d3⟩ := unhide K
    refine bodyPost_ret (by simp [results, Tryd.results58, go_sem, d0, d1, d2, d3]; try rfl) rfl ?_
    exact K1
  | succ j ih =>
    intro row hrow hr1 s hs y h
    have hle5 : (row : Int) ≤ 5 := by omega
    have hge1 : (1 : Int) ≤ (row : Int) := by omega
    have hwr : IntKind.i64.wrap ((row : Int) + 1) = (row : Int) + 1 := by rw [IntKind.wrap_i64]; omega
    have hk := h.k
    have e5 : 5 - j = row := by omega
    have IH : Hid (∀ s, mu ws s < M + 1 → ∀ w1, RSt rb wb wc ws s w1 → Calls Tryd.prog 58 #[.pointer (some ⟨rb, 0, none⟩), .int .i64 ((row : Int) + 1)] w1 (NTo rb wb wc ws (binP ws R j s) w1)) := hide fun s hs w1 hh => by
      have := ih (row + 1) (by omega) (by omega) s hs w1 hh
      rwa [Int.natCast_add] at this
    clear ih
    have HB : Hid (∀ s, s.k < ws.length → Le ws s (binP ws R j s).2) := hide fun s hk => (bin_lt L.w L.le j s hk).le
    show Calls _ _ _ _ (NTo rb wb wc ws (pBin ws R (5 - j) (binP ws R j) ws.length (binP ws R j s)) y)
    rw [e5]
    generalize binP ws R j = B at *
    obtain ⟨Rf, hRf⟩ : ∃ Rf, Rf = pBin ws R row B ws.length (B s) := ⟨_, rfl⟩
    rw [← hRf]
    have C0 := hide fun w1 hh => unhide IH s hs w1 hh
    have ST : Hid (∀ m kv w, PT rb wb wc ws y m (B s) kv w → BiR rb wb wc ws R M row B Rf y m (B s) kv w) := hide fun m kv w hp => ⟨hp, by have := (unhide HB s hk).k; unfold mu at *; omega, ws.length, hRf, by unfold mu; omega⟩
    have LL := hide L
    have hr1' := hide hr1
    generalize B s = r0 at *
    have p := hide ((Pn.new h).al (.cells zBox 27))
    have b := hide (BoxT.zero y)
    have fl1 := pfld1
    clear h hk hs L hRf e5 hrow hr1
    go_enter Tryd.func58, Tryd.ntmps58
    go_wp2_with fail
    refine (unhide C0 _ (unhide p).st).mono ?_
    rintro e w2 hn
    obtain ⟨o0, n0, c0, rfl, ho, h2, g2⟩ := hn.open
    have hI := hide (unhide ST _ _ _ (PT.new (unhide p) (unhide b) ho h2 g2))
    clear ST C0 hn ho h2 g2 p b
    go_wp2_with fail
    go_loopw [] (fun wr => ∃ r kv, Hid (BiR rb wb wc ws R M row B Rf y w2.heap.size r kv wr)) (fun wr => muK rb wr)
    case atStart => exact ⟨_, _, hI⟩
    case round =>
      clear hI
      obtain ⟨r, kv, hr⟩ := hrel
      have CW : Hid (∀ w1, G wr w1 → Calls Tryd.prog 14 #[.pointer (some ⟨rb, 0, none⟩)] w1 (fun e w2 => e = .returned (.agg #[.int .i64 ((wdAt ws r.2).k : Int), .string ⟨(wdAt ws r.2).x.toArray⟩, .int .i64 ((wdAt ws r.2).o : Int)]) ∧ G w1 w2)) := hide fun w1 g => word_any ((unhide hr).1.p.st.g g)
      have CO := hide (rowOf_any (wdAt ws r.2).x)
      obtain ⟨kao, kc, kve⟩ := (unhide hr).1.ow.sl
      by_cases hrow : rowOfP (wdAt ws r.2).x = row
      · rw [hrow] at CO
        have CC : Hid (∀ w1, G wr w1 → w1.cell? ⟨w2.heap.size, 0, none⟩ = some (.string ⟨r.1.k.toArray⟩) ∧ w1.cell? ⟨w2.heap.size, 1, none⟩ = some (.string ⟨r.1.x.toArray⟩) ∧ w1.cell? ⟨w2.heap.size, 2, none⟩ = some (.int .i64 r.1.a) ∧ w1.cell? ⟨w2.heap.size, 3, none⟩ = some kv) := hide fun w1 g => ((unhide hr).1.g g).bm.c
        have hmore : r.2.k + 1 < ws.length := wsOk_more (unhide LL).w (unhide hr).1.p.st.k (Or.inl (fun e => by rw [e] at hrow; have := unhide hr1'; have e0 : rowOfP [] = 0 := rfl; omega))
        obtain ⟨q, hq⟩ : ∃ q, q = pRow ws R [98, 105, 110, 97, 114, 121] [.sign] [r.1] r.2 := ⟨_, rfl⟩
        have CR : Hid (∀ w1, G wr w1 → _) := hide fun w1 g => ((unhide hr).1.g g).row [98, 105, 110, 97, 114, 121] rc_bin ((unhide LL).sign [] (by simp) hmore (unhide hr).2.1) hq
        obtain ⟨hq1, hq2⟩ := row_sign (ws := ws) (R := R) (unhide LL).le [98, 105, 110, 97, 114, 121] [] [r.1] hmore
        rw [← hq] at hq1 hq2
        have hqm : mu ws q.2 < M + 1 := by have := (unhide hr).2.1; unfold mu at *; omega
        have hbl := unhide HB q.2 hq2.l
        have hqk : q.1.ks.length ≤ 900000 := by rw [hq]; show 1 ≤ 900000; omega
        have CB : Hid (∀ w1, RSt rb wb wc ws q.2 w1 → Calls Tryd.prog 58 #[.pointer (some ⟨rb, 0, none⟩), .int .i64 ((row : Int) + 1)] w1 (NTo rb wb wc ws (B q.2) w1)) := hide fun w1 hh => unhide IH q.2 hqm w1 hh
        have NX : Hid (∀ v' w', PT rb wb wc ws y w2.heap.size (.mk q.1.k q.1.x q.1.a (q.1.ks ++ [(B q.2).1]), (B q.2).2) v' w' → (¬ row = 3 → BiR rb wb wc ws R M row B Rf y w2.heap.size (.mk q.1.k q.1.x q.1.a (q.1.ks ++ [(B q.2).1]), (B q.2).2) v' w' ∧ muK rb w' < muK rb wr) ∧ (row = 3 → Rf = (.mk q.1.k q.1.x q.1.a (q.1.ks ++ [(B q.2).1]), (B q.2).2))) := hide fun v' w' hp => by
          obtain ⟨hp0, hm0, f, e1, e2⟩ := unhide hr
          have hkk := hbl.k
          have hkl := hbl.l
          obtain ⟨f, rfl⟩ : ∃ g, f = g + 1 := ⟨f - 1, by unfold mu at e2; omega⟩
          rw [pBin, if_pos hrow] at e1
          dsimp only at e1
          rw [← hq] at e1
          refine ⟨fun h3 => ⟨⟨hp, by show mu ws (B q.2).2 < M + 1; unfold mu at *; omega, f, ?_, by show mu ws (B q.2).2 ≤ f; unfold mu at *; omega⟩, ?_⟩, fun h3 => ?_⟩
          · rw [if_neg h3] at e1; exact e1
          · rw [muK_of hp.p.st, muK_of hp0.p.st]
            show ws.length - (B q.2).2.k < _
            omega
          · rw [if_pos h3] at e1; exact e1
        generalize (wdAt ws r.2).k = wk at *
        generalize (wdAt ws r.2).x = wx at *
        generalize (wdAt ws r.2).o = wo at *
        clear hr LL hrow hmore hq hq1 hq2 hqm hbl IH HB hr1'
        generalize r.1.ks.length = kn at *
        subst kve
        generalize B q.2 = t at *
        go_wp2_with fail
        refine (unhide CW _ (G.refl _)).mono ?_
        rintro e w3 ⟨rfl, g⟩
        obtain ⟨e0, e1, e2, e3⟩ := unhide CC w3 g
        replace CR := hide (unhide CR w3 g)
        clear CW CC g
        go_wp2_with fail
        refine (unhide CO _).mono ?_
        rintro e w3' ⟨rfl, rfl⟩
        clear CO
        go_wp2_with fail
        refine (unhide CR).mono ?_
        rintro e w4 ⟨vo, vn, vc, rfl, ⟨u0, u1, u2, u3, q0, q1, q2, q3⟩, ⟨z0, z1, z2, z3⟩, K⟩
        have K' : Hid (PT rb wb wc ws y w2.heap.size q (.slice vo vn vc) ((((w4.setCell ⟨w2.heap.size, 0, none⟩ (.string ⟨q.1.k.toArray⟩)).setCell ⟨w2.heap.size, 1, none⟩ (.string ⟨q.1.x.toArray⟩)).setCell ⟨w2.heap.size, 2, none⟩ (.int .i64 q.1.a)).setCell ⟨w2.heap.size, 3, none⟩ (.slice vo vn vc))) := K
        clear CR K
        go_wp2_with fail
        generalize (((w4.setCell ⟨w2.heap.size, 0, none⟩ (.string ⟨q.1.k.toArray⟩)).setCell ⟨w2.heap.size, 1, none⟩ (.string ⟨q.1.x.toArray⟩)).setCell ⟨w2.heap.size, 2, none⟩ (.int .i64 q.1.a)).setCell ⟨w2.heap.size, 3, none⟩ (.slice vo vn vc) = wz at *
        clear q0 q1 q2 q3 z0 z1 z2 z3 e0 e1 e2 e3
        have CBd := hide (unhide CB _ (unhide K').dr.p.st)
        have ap := hide (fun w5 o1 n1 c1 ho h2 g2 => (unhide K').app (q := t) (w2 := w5) (o1 := o1) (n1 := n1) (c1 := c1) hqk (G.refl _).drew ho h2 g2)
        have e4 := (unhide K').bm.c.2.2.2
        clear CB K'
        go_region_law ((first
          | (go_simp; go_at_call 58; refine (unhide CBd).mono ?_; rintro e w5 hl; obtain ⟨lo, ln, lc, rfl, ho, hs, hg⟩ := hl.open; obtain ⟨e4, e4k, xo, xn, xc, w', hrun, e5, e6, HZ⟩ := unhide ap w5 lo ln lc ho hs hg; clear ap CBd ho hs hg; try go_simp)
          | (refine step_apN rfl (.tmp 25) (.tmp 30) 25 rfl _ _ rfl rfl _ _ hrun ?_)))
        all_goals
          clear hrun
          obtain ⟨N1, N2⟩ := unhide NX _ _ (unhide HZ)
          by_cases h3 : row = 3
          · rw [← N2 h3] at HZ
            obtain ⟨ao, n, c, -, ⟨k0, k1, k2, k3⟩, ⟨u0, u1, u2, u3, q0, q1, q2, q3⟩, ⟨z0, z1, z2, z3⟩, K⟩ := (unhide HZ).fin
            clear N1 N2 NX HZ
            subst h3
            go_wp2_with fail
            obtain ⟨K1, d0, d1, d2, d3⟩ := unhide K
            refine bodyPost_ret (by simp [results, Tryd.results58, go_sem, d0, d1, d2, d3]; try rfl) rfl ?_
            exact K1
          · have h3' : ¬ (row : Int) = 3 := by omega
            have N3 := hide (N1 h3)
            clear N1 N2 NX HZ
            go_wp2_with fail
            go_roundw
            case rel => exact ⟨_, _, hide (unhide N3).1⟩
            case measure => exact (unhide N3).2
      · have EN : Hid (∀ w1, G wr w1 → PT rb wb wc ws y w2.heap.size Rf kv w1) := hide fun w1 g => by
          obtain ⟨hp, _, f, e1, _⟩ := unhide hr
          rw [e1, pBin_end hrow f]
          exact hp.g g
        have hrow' : ¬ (rowOfP (wdAt ws r.2).x : Int) = (row : Int) := by omega
        generalize rowOfP (wdAt ws r.2).x = rv at *
        generalize (wdAt ws r.2).x = wx at *
        generalize (wdAt ws r.2).k = wk at *
        generalize (wdAt ws r.2).o = wo at *
        clear hr LL hrow kve IH HB hr1'
        go_wp2_with fail
        refine (unhide CW _ (G.refl _)).mono ?_
        rintro e w3 ⟨rfl, g⟩
        obtain ⟨ao, n, c, rfl, ⟨k0, k1, k2, k3⟩, ⟨u0, u1, u2, u3, q0, q1, q2, q3⟩, ⟨z0, z1, z2, z3⟩, K⟩ := (unhide EN w3 g).fin
        clear CW EN g
        go_wp2_with fail
        refine (unhide CO _).mono ?_
        rintro e w3' ⟨rfl, rfl⟩
        clear CO
        go_wp2_with fail
        obtain ⟨K1, d0, d1, d2, d3⟩ := unhide K
        refine bodyPost_ret (by simp [results, Tryd.results58, go_sem, d0, d1, d2, d3]; try rfl) rfl ?_
        exact K1
end Go.Proofs.YtablincnlfbjnabDoor
