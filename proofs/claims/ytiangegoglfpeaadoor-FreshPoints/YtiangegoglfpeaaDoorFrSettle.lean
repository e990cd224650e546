/- Package fresh: settle. -/
import Derived.Test.YtiangegoglfpeaaDoorFrBeh2
import Derived.Test.YtiangegoglfpeaaDoorFrFol
namespace Go.Proofs.YtiangegoglfpeaaDoor
set_option maxRecDepth 100000
open Go.RowKit Go.Maps Go.ChangeShapes Go.WideShapes Go.ChangeAt Go.Deep

theorem behind_any {W0 : World} {M : Nat → Prop} {B gB ab wb N : Nat} {z : Gk} {m : Md} {f : Fn} {S R : List Nat} {w : World} {s : FSt} {P : Nat → Nat} {qv : Value} (st : StA W0 z m f S R) (h : GI W0 M B gB ab wb N (gC z m f ab wb N) w s P qv) (n : Nat) (k : Kn) (hn : n < N) (ha : s.A.getD n none = some k) :
    Calls Tryd.prog 37 #[.pointer (some ⟨gB, 0, none⟩), .int .i64 (n : Int)] w fun e w' => e = .returned (.agg (knC (bhP m f S R n k)).toArray) ∧ G w w' := by
  by_cases hl : f.is.length ≤ n
  · exact behind_out h n k hn ha hl
  · exact behind_in st h n k hn ha _ (List.getElem?_eq_getElem (by omega))
/-- Other blocks may be turned from here on. -/
theorem GI.reM {W0 : World} {M M' : Nat → Prop} {B gB ab wb N : Nat} {C : List Value} {w : World} {s : FSt} {P : Nat → Nat} {qv : Value} (h : GI W0 M B gB ab wb N C w s P qv) (h1 : ∀ k, M k → k < w.heap.size → M' k) (h2 : ∀ k, M' k → W0.heap.size ≤ k) : GI W0 M' B gB ab wb N C w s P qv :=
  ⟨h.g, h2, h1 _ h.mg (World.block_lt_of_cell? w _ h.q.c), h1 _ h.ma (Nat.lt_of_lt_of_le h.lb h.bs), h1 _ h.mw (Nat.lt_of_lt_of_le h.lw h.bs), h.lb, h.lw, h.gab, h.gwb, h.awb, h.bs, h.q, fun k hk => h1 k (h.mq k hk) (by
    rcases h.q.own.2 with ⟨e, _⟩ | ⟨g, cap, cur, e, _, e3, _⟩
    · rw [e] at hk; cases hk
    · rw [e] at hk
      have hk : g = k := Option.some.inj hk
      subst hk
      rcases Nat.lt_or_ge g w.heap.size with hh | hh
      · exact hh
      · rw [Array.getElem?_eq_none hh] at e3; cases e3), h.fa, h.a0, fun n k hn ha => by
    obtain ⟨g1, g2, g3, g4, g5⟩ := h.a1 n k hn ha
    exact ⟨g1, g2, g3, h1 _ g4 g2.lt, g5⟩, h.inj, h.wt⟩
theorem GI.slice {W0 : World} {M : Nat → Prop} {B gB ab wb N : Nat} {C : List Value} {w : World} {s : FSt} {P : Nat → Nat} {qv : Value} (h : GI W0 M B gB ab wb N C w s P qv) : ∃ ao c, qv = .slice ao s.Q.length c := by
  rcases h.q.own.2 with ⟨e, e2⟩ | ⟨g, cap, cur, e, _⟩
  · exact ⟨none, 0, by rw [e, e2]⟩
  · exact ⟨_, _, e⟩
/-- The graph at first, and when it has settled. -/
def st0 (N : Nat) : FSt := ⟨List.replicate N none, List.replicate N false, []⟩
def setP (m : Md) (f : Fn) (S R : List Nat) : FSt := if f.is.length = 0 then st0 (f.is.length + 2 * m.ca.length) else runS (bhP m f S R) (flG m f) (muS (comeS Kn.zero 0 (st0 (f.is.length + 2 * m.ca.length)))) (comeS Kn.zero 0 (st0 (f.is.length + 2 * m.ca.length)))
theorem st0_ok (N : Nat) : FOk N (st0 N) := by
  refine ⟨by simp [st0], by simp [st0], fun n k h => ?_, fun x hx => by simp [st0] at hx, by simp [st0], ?_⟩
  · have := List.mem_of_getElem? h
    have := List.eq_of_mem_replicate this
    cases this
  · show 0 = (List.replicate N false).count true
    rw [List.count_replicate]
    simp
theorem run_nil {bh : Nat → Kn → Kn} {fl : Nat → List Int} (n : Nat) (s : FSt) (h : s.Q = []) : runS bh fl n s = s := by
  cases n with
  | zero => rfl
  | succ n => unfold runS; rw [h]; rfl
theorem run_more {bh : Nat → Kn → Kn} {fl : Nat → List Int} (n : Nat) (s : FSt) (h : s.Q ≠ []) : runS bh fl (n + 1) s = runS bh fl n (stepS bh fl s) := by
  conv => lhs; unfold runS
  rw [if_neg (by simpa using h)]
abbrev M0 (W0 : World) : Nat → Prop := fun k => W0.heap.size ≤ k
/-- The graph lies there, so many steps from its end. -/
def RrS (W0 : World) (B gB ab wb N : Nat) (C : List Value) (bh : Nat → Kn → Kn) (fl : Nat → List Int) (F : FSt) (w : World) (n : Nat) : Prop := ∃ s P qv, GI W0 (M0 W0) B gB ab wb N C w s P qv ∧ FOk N s ∧ runS bh fl n s = F
theorem comes_snoc (k : Kn) (l : List Int) (x : Int) (s : FSt) : comesS k (l ++ [x]) s = comeS k x.toNat (comesS k l s) := by simp [comesS]
set_option maxHeartbeats 2000000 in
theorem settle_any {W0 : World} {B gB ab wb N : Nat} {z : Gk} {m : Md} {f : Fn} {S R : List Nat} {w : World} {P : Nat → Nat} {qv : Value} (st : StA W0 z m f S R) (hN : N = f.is.length + 2 * m.ca.length) (hNb : N ≤ 1000000) (h : GI W0 (M0 W0) B gB ab wb N (gC z m f ab wb N) w (st0 N) P qv) :
    Calls Tryd.prog 21 #[.pointer (some ⟨gB, 0, none⟩)] w fun e w' => e = .returned (.tuple #[]) ∧ ∃ P' qv', GI W0 (M0 W0) B gB ab wb N (gC z m f ab wb N) w' (setP m f S R) P' qv' := by
  obtain ⟨F, hF⟩ : ∃ F, setP m f S R = F := ⟨_, rfl⟩
  rw [hF]
  have c11 : w.cell? ⟨gB, 11, none⟩ = some (.slice z.io f.is.length z.ic) := (gc_cells h.q.s).2.2.2.2.2.2.2.2.2.2.2.1
  by_cases h0 : f.is.length = 0
  · have e : st0 N = F := by rw [← hF, hN]; unfold setP; rw [if_pos h0]
    have K : Hid (∃ P' qv', GI W0 (M0 W0) B gB ab wb N (gC z m f ab wb N) w F P' qv') := hide ⟨P, qv, by rw [← e]; exact h⟩
    rw [h0] at c11
    clear h st hN hNb h0 e hF
    go_enter Tryd.func21, Tryd.ntmps21
    go_wp2_with fail
    go_returns
    exact ⟨rfl, unhide K⟩
  · have hb := fun n k (hk : k.Ok) => bh_ok m f S R n k hk
    have hfl : ∀ n, n < N → ∀ x ∈ flG m f n, 0 ≤ x ∧ x < (N : Int) := fun n _ x hx => by rw [hN]; exact flG_mem m f n x hx
    have hNp : 0 < N := by omega
    have s1ok := come_ok (st0_ok N) Kn.zero_ok hNp
    have hend := run_ends hb hfl (muS (comeS Kn.zero 0 (st0 N))) _ s1ok.1 (Nat.le_refl _)
    have eF : runS (bhP m f S R) (flG m f) (muS (comeS Kn.zero 0 (st0 N))) (comeS Kn.zero 0 (st0 N)) = F := by rw [← hF, hN]; unfold setP; rw [if_neg h0]
    have FQ : F.Q = [] := by rw [← eF]; exact hend.2
    obtain ⟨Mf, hMf⟩ := leastN (RrS W0 B gB ab wb N (gC z m f ab wb N) (bhP m f S R) (flG m f) F)
    have hlz : ((f.is.length : Int) == 0) = false := beq_eq_false_iff_ne.2 (by omega)
    obtain ⟨Z, hZ⟩ : ∃ Z, (knC Kn.zero).toArray = Z := ⟨_, rfl⟩
    have ZV : ∀ x, (zeroValue 73).run Tryd.prog x = .ok (.agg Z) x := fun x => by rw [← hZ]; exact zero_known x
    have KZ : KnAt (w.alloc (.cells Z 73)) w.heap.size Kn.zero := by rw [← hZ]; exact KnAt.new w Kn.zero Kn.zero_ok
    have hC16 : (gC z m f ab wb N)[16]? = some (.slice (some ⟨ab, 0, none⟩) N N) := rfl
    have hC17 : (gC z m f ab wb N)[17]? = some (.slice (some ⟨wb, 0, none⟩) N N) := rfl
    have C1 : Calls Tryd.prog 34 #[.pointer (some ⟨gB, 0, none⟩), .int .i64 0, .pointer (some ⟨w.heap.size, 0, none⟩)] (w.alloc (.cells Z 73)) fun e w' => e = .returned (.tuple #[]) ∧ RrS W0 B gB ab wb N (gC z m f ab wb N) (bhP m f S R) (flG m f) F w' (muS (comeS Kn.zero 0 (st0 N))) := by
      have hG := (h.reM (M' := fun k => W0.heap.size ≤ k ∧ k ≠ w.heap.size) (fun k hk hlt => ⟨hk, by omega⟩) (fun k hk => hk.1)).keep (G.alloc w (.cells Z 73))
      refine (come_any hG (st0_ok N) 0 w.heap.size Kn.zero hNp hNb KZ (fun e => e.2 rfl) (fun q hq => ?_) hC16 hC17).mono ?_
      · rw [World.size_alloc] at hq
        have := h.g.size
        exact ⟨by omega, by omega⟩
      · rintro _ w' ⟨h1, P', qv', g', _⟩
        exact ⟨h1, _, P', qv', g'.reM (fun k hk _ => hk.1) (fun k hk => hk), s1ok.1, eF⟩
    replace C1 := hide C1
    replace hMf := hide hMf
    replace st := hide st
    replace hb := hide hb
    replace hfl := hide hfl
    replace FQ := hide FQ
    replace hNb := hide hNb
    replace hN := hide hN
    clear KZ hZ h s1ok hend eF hF h0 hNp
    generalize f.is.length = L at c11 hlz
    go_enter Tryd.func21, Tryd.ntmps21
    go_wp2_with fail
    refine (unhide C1).mono ?_
    rintro e w1 ⟨rfl, r1⟩
    replace r1 := hide r1
    clear C1 c11 ZV hlz
    go_wp2_with fail
    go_loopw [] (fun wr => ∃ n, Hid (RrS W0 B gB ab wb N (gC z m f ab wb N) (bhP m f S R) (flG m f) F wr n)) (fun wr => Mf wr)
    case atStart => exact ⟨_, r1⟩
    case round =>
      obtain ⟨n0, HW⟩ := hrel
      clear r1
      have HL := (unhide hMf wr n0 (unhide HW)).1
      obtain ⟨s, P, qv, hG, ok, hr⟩ := HL
      obtain ⟨ao, cap, hqv⟩ := hG.slice
      have c18 := hG.q.c
      rw [hqv] at c18
      by_cases hq : s.Q = []
      · have e : s = F := by rw [← hr]; exact (run_nil _ s hq).symm
        have K : Hid (∃ P' qv', GI W0 (M0 W0) B gB ab wb N (gC z m f ab wb N) wr F P' qv') := hide ⟨P, qv, by rw [← e]; exact hG⟩
        rw [hq] at c18
        clear hG ok hr e HW hqv hq
        go_wp2_with fail
        refine (len_any wr _ _ _).mono ?_
        rintro e w2 ⟨rfl, hw2⟩
        subst hw2
        go_wp2_with fail
        go_end0
        exact ⟨rfl, unhide K⟩
      · obtain ⟨n1, hn1⟩ : ∃ n1, Mf wr = n1 + 1 := ⟨Mf wr - 1, by
          have : Mf wr ≠ 0 := fun e => by
            rw [e] at hr
            exact hq (by have : s = F := hr; rw [this]; exact unhide FQ)
          omega⟩
        rw [hn1, run_more n1 s hq] at hr
        obtain ⟨tk, _, htop, etop, hAt, okt, _⟩ := took_ok ok hq
        have hAt' : s.A.getD (topS s) none = some (kAt s (topS s)) := getD_of hAt
        have hql : s.Q.length ≤ 10000000 := by have := ok.len; have := unhide hNb; omega
        have hqp : (0 : Int) < (s.Q.length : Int) := by have := List.length_pos_iff.2 hq; omega
        have PO := hpop_any hG.q hq hql
        rw [etop] at PO
        have POP : Hid (Calls Tryd.prog 36 #[hpV gB] wr fun e w' => e = .returned (.iface 3 (.int .i64 (topS s : Int))) ∧ ∃ qv1, GI W0 (M0 W0) B gB ab wb N (gC z m f ab wb N) w' ⟨s.A, s.W, (popL s.Q).take (s.Q.length - 1)⟩ P qv1) := hide (PO.mono fun _ w' r => by
          obtain ⟨h1, qv1, q1, t1, o1⟩ := r
          exact ⟨h1, qv1, hG.queue t1 q1 (Or.inl o1) (fun k hk => Nat.le_trans hG.g.size hk)⟩)
        have ta := ta_int (topS s : Int)
        have WA : Hid (∀ (w1 : World) (qv1 : Value), GI W0 (M0 W0) B gB ab wb N (gC z m f ab wb N) w1 ⟨s.A, s.W, (popL s.Q).take (s.Q.length - 1)⟩ P qv1 → w1.cell? ⟨gB, 17, none⟩ = some (.slice (some ⟨wb, 0, none⟩) N N) ∧ (∃ b, w1.cell? ⟨wb, topS s, none⟩ = some (.bool b)) ∧ w1.frozen? ⟨wb, topS s, none⟩ = false ∧ GI W0 (M0 W0) B gB ab wb N (gC z m f ab wb N) (w1.setCell ⟨wb, topS s, none⟩ (.bool false)) (tookS s) P qv1) := hide fun w1 qv1 g1 => ⟨(gc_cells g1.q.s).2.2.2.2.2.2.2.2.2.2.2.2.2.2.2.2.2, ⟨_, (g1.wt _ htop).1⟩, (g1.wt _ htop).2, g1.wait (topS s) false htop ok.w⟩
        have BE : Hid (∀ (w2 : World) (qv1 : Value), GI W0 (M0 W0) B gB ab wb N (gC z m f ab wb N) w2 (tookS s) P qv1 → Calls Tryd.prog 37 #[.pointer (some ⟨gB, 0, none⟩), .int .i64 (topS s : Int)] w2 fun e w' => e = .returned (.agg (knC (bhP m f S R (topS s) (kAt s (topS s)))).toArray) ∧ G w2 w') := hide fun w2 qv1 g2 => behind_any (unhide st) g2 (topS s) _ htop hAt'
        have FO : Hid (∀ (w5 : World) (qv1 : Value), GI W0 (M0 W0) B gB ab wb N (gC z m f ab wb N) w5 (tookS s) P qv1 → Calls Tryd.prog 38 #[.pointer (some ⟨gB, 0, none⟩), .int .i64 (topS s : Int)] w5 (FTo w5 (flG m f (topS s)))) := hide fun w5 qv1 g5 => fol_any (unhide st) g5 (topS s) (unhide hN) htop
        have okb := unhide hb (topS s) _ okt
        have hfm := unhide hfl (topS s) htop
        have hst : stepS (bhP m f S R) (flG m f) s = comesS (bhP m f S R (topS s) (kAt s (topS s))) (flG m f (topS s)) (tookS s) := rfl
        rw [hst] at hr
        clear hst PO hG hAt hAt' ok etop HW okt
        generalize bhP m f S R (topS s) (kAt s (topS s)) = kb at BE okb hr
        generalize flG m f (topS s) = fl at FO hfm hr
        have htI : (topS s : Int) < (N : Int) := by omega
        have ht0 : (0 : Int) ≤ (topS s : Int) := by omega
        replace htop := hide htop
        generalize topS s = tp at *
        have HR : Hid (runS (bhP m f S R) (flG m f) n1 (comesS kb fl (tookS s)) = F) := hide hr
        have TK : Hid (FOk N (tookS s)) := hide tk
        generalize tookS s = s2 at WA BE FO HR TK
        have LQ : Hid (s.Q.length ≤ 10000000) := hide hql
        have hqd : decide ((0 : Int) < (s.Q.length : Int)) = true := decide_eq_true hqp
        replace hn1 := hide hn1
        clear hr tk hql hqv hq
        generalize s.Q.length = ql at c18 hqp hqd LQ WA POP
        go_wp2_with fail
        refine (len_any wr _ _ _).mono ?_
        rintro e w0 ⟨rfl, hw0⟩
        subst hw0
        go_wp2_with fail
        refine (unhide POP).mono ?_
        rintro e w1 ⟨rfl, qv1, g1⟩
        obtain ⟨c17, ⟨bb, cb⟩, fb, g2⟩ := unhide WA w1 qv1 g1
        replace g1 := hide g1
        have BE2 := hide (unhide BE _ qv1 g2)
        replace g2 := hide g2
        clear POP WA BE c18
        go_wp2_with fail
        refine (unhide BE2).mono ?_
        rintro e w3 ⟨rfl, g3⟩
        have G3 := hide ((unhide g2).keep g3)
        replace g3 := hide g3
        clear BE2 c17 cb fb g1 g2
        go_wp2_with (first
          | (refine wpl_alk rfl rfl ?_; intro w4 g4 k4 z4; replace g4 := hide g4; replace k4 := hide k4; replace z4 := hide z4)
          | (refine wpl_stk rfl (.tmp 3) (.tmp 38) rfl w3.heap.size Kn.zero kb rfl rfl (unhide k4) okb ?_; intro w5 k5 t5 z5; replace k5 := hide k5; replace t5 := hide t5; replace z5 := hide z5))
        have g35 : G w3 w5 := new_g (unhide g4) (unhide t5)
        have G5 := hide ((unhide G3).keep g35)
        have sz5 : Hid (w5.heap.size = w3.heap.size + 1) := hide ((unhide z5).trans (unhide z4))
        have FO2 := hide (unhide FO w5 qv1 (unhide G5))
        replace g35 := hide g35
        clear FO g3 g4 k4 z4 t5 z5
        refine (unhide FO2).mono ?_
        rintro e w6 ⟨v, rfl, nv, g6⟩
        obtain ⟨lo, lc, rfl, hlc, hget⟩ := nv.1.get
        have k6 := hide ((unhide k5).g g6)
        obtain ⟨M6, hM6⟩ : ∃ M6 : Nat → Prop, M6 = fun k => W0.heap.size ≤ k ∧ (k < w3.heap.size ∨ w6.heap.size ≤ k) := ⟨_, rfl⟩
        have G6 : Hid (GI W0 M6 B gB ab wb N (gC z m f ab wb N) w6 s2 P qv1) := hide (((unhide G3).reM (fun k hk hlt => by rw [hM6]; exact ⟨hk, Or.inl hlt⟩) (fun k hk => by rw [hM6] at hk; exact hk.1)).keep ((unhide g35).trans g6))
        have sz6 : w3.heap.size + 1 ≤ w6.heap.size := by rw [← unhide sz5]; exact g6.size
        have nMc : Hid (¬ M6 w3.heap.size) := hide (by rw [hM6]; rintro ⟨_, h | h⟩ <;> omega)
        have upM : Hid (∀ k, w6.heap.size ≤ k → M6 k) := hide fun k hk => by rw [hM6]; exact ⟨Nat.le_trans (unhide G6).g.size hk, Or.inr hk⟩
        have dnM : Hid (∀ k, M6 k → W0.heap.size ≤ k) := hide fun k hk => by rw [hM6] at hk; exact hk.1
        have GET : Hid (∀ (t : Nat) (wr : World), t < fl.length → TrD w6 wr M6 → ∃ (b off x : Nat), lo = some ⟨b, off, none⟩ ∧ wr.cell? ⟨b, off + t, none⟩ = some (.int .i64 (x : Int)) ∧ x < N ∧ fl.take (t + 1) = fl.take t ++ [(x : Int)]) := hide fun t wr ht tr => by
          obtain ⟨b, off, a, e, ha, hx⟩ := hget t ht
          obtain ⟨a1, a2⟩ := hfm a (List.mem_of_getElem? ha)
          obtain ⟨x, rfl⟩ : ∃ x : Nat, a = x := ⟨a.toNat, by omega⟩
          have hbl := nv.2 ⟨b, off, none⟩ _ _ (by rw [e])
          have hb6 := World.block_lt_of_cell? w6 _ (hx w6 (G.refl _))
          refine ⟨b, off, x, e, tr.cell (hx w6 (G.refl _)) ?_, by omega, by rw [List.take_add_one, ha]; rfl⟩
          rw [hM6]
          have := unhide sz5
          simp only at hbl hb6
          rintro ⟨_, h | h⟩
          · simp only at h; omega
          · simp only at h; omega
        have KC : Hid (∀ wr, TrD w6 wr M6 → KnAt wr w3.heap.size kb) := hide fun wr tr => (unhide k6).tr tr (unhide nMc)
        have CM : Hid (∀ (wr : World) (s' : FSt) (P' : Nat → Nat) (qv' : Value) (x : Nat), GI W0 M6 B gB ab wb N (gC z m f ab wb N) wr s' P' qv' → FOk N s' → x < N → TrD w6 wr M6 → Calls Tryd.prog 34 #[.pointer (some ⟨gB, 0, none⟩), .int .i64 (x : Int), .pointer (some ⟨w3.heap.size, 0, none⟩)] wr fun e w' => e = .returned (.tuple #[]) ∧ (∃ P' qv', GI W0 M6 B gB ab wb N (gC z m f ab wb N) w' (comeS kb x s') P' qv') ∧ FOk N (comeS kb x s') ∧ TrD w6 w' M6) := hide fun wr s' P' qv' x gx ox hx tr => by
          refine (come_any gx ox x w3.heap.size kb hx (unhide hNb) (unhide KC wr tr) (unhide nMc) (fun q hq => unhide upM q (Nat.le_trans tr.size hq)) hC16 hC17).mono ?_
          rintro _ w' ⟨h1, P2, qv2, g2, t2⟩
          exact ⟨h1, ⟨P2, qv2, g2⟩, (come_ok ox okb hx).1, tr.trans t2⟩
        have J0 : Hid (∃ P' qv', GI W0 M6 B gB ab wb N (gC z m f ab wb N) w6 (comesS kb (fl.take 0) s2) P' qv' ∧ FOk N (comesS kb (fl.take 0) s2) ∧ TrD w6 w6 M6) := hide ⟨P, qv1, unhide G6, unhide TK, TrD.refl _ _⟩
        have FN : Hid (∀ wr, (∃ P' qv', GI W0 M6 B gB ab wb N (gC z m f ab wb N) wr (comesS kb (fl.take fl.length) s2) P' qv' ∧ FOk N (comesS kb (fl.take fl.length) s2) ∧ TrD w6 wr M6) → RrS W0 B gB ab wb N (gC z m f ab wb N) (bhP m f S R) (flG m f) F wr n1) := hide fun wr r => by
          obtain ⟨P', qv', g', o', _⟩ := r
          rw [List.take_of_length_le (Nat.le_refl _)] at g' o'
          exact ⟨_, P', qv', g'.reM (fun k hk _ => unhide dnM k hk) (fun k hk => hk), o', unhide HR⟩
        have SN : Hid (∀ (t x : Nat), fl.take (t + 1) = fl.take t ++ [(x : Int)] → comesS kb (fl.take (t + 1)) s2 = comeS kb x (comesS kb (fl.take t) s2)) := hide fun t x e => by rw [e, comes_snoc, Int.toNat_natCast]
        have MXL : Hid (fl.length ≤ 9223372036854775807) := hide (by
          obtain ⟨_, _, _, _, hr9⟩ := nv.1
          have h9 := hr9.2.1
          unfold maxLen at h9
          exact h9)
        obtain ⟨Lf, hLf⟩ : ∃ Lf, fl.length = Lf := ⟨_, rfl⟩
        rw [hLf] at GET FN MXL ⊢
        clear hget nv g6 G3 G5 G6 g35 sz5 sz6 k5 k6 hM6 hlc KC hfm hLf FO2 TK HR nMc upM dnM hC16 hC17
        go_wp2_with fail
        go_loopw [43] (fun v43 wx => ∃ t : Nat, t ≤ Lf ∧ v43 = .int .i64 t ∧ Hid (∃ P' qv', GI W0 M6 B gB ab wb N (gC z m f ab wb N) wx (comesS kb (fl.take t) s2) P' qv' ∧ FOk N (comesS kb (fl.take t) s2) ∧ TrD w6 wx M6)) (fun v43 _ => Lf - (intOf v43).toNat)
        case atStart => exact ⟨0, Nat.zero_le _, rfl, J0⟩
        case round =>
          obtain ⟨t, ht, rfl, HW⟩ := hrel
          clear J0
          by_cases hlt : t < Lf
          · obtain ⟨P', qv', g', o', tr'⟩ := unhide HW
            obtain ⟨b, off, x, rfl, cx, hxN, etk⟩ := unhide GET t wr hlt tr'
            have CC := hide (unhide CM wr _ P' qv' x g' o' hxN tr')
            have etk2 := hide (unhide SN t x etk)
            have htI2 : (t : Int) < (Lf : Int) := by omega
            have ht02 : (0 : Int) ≤ (t : Int) := by omega
            have wt : wrap64 ((t : Int) + 1) = ((t + 1 : Nat) : Int) := by have := unhide MXL; unfold wrap64; omega
            clear g' o' tr' HW GET FN CM SN etk hxN
            go_wp2_with fail
            refine (unhide CC).mono ?_
            rintro e w7 ⟨rfl, ⟨P7, qv7, g7⟩, o7, t7⟩
            have NW : Hid (∃ P' qv', GI W0 M6 B gB ab wb N (gC z m f ab wb N) w7 (comesS kb (fl.take (t + 1)) s2) P' qv' ∧ FOk N (comesS kb (fl.take (t + 1)) s2) ∧ TrD w6 w7 M6) := hide ⟨P7, qv7, by rw [unhide etk2]; exact g7, by rw [unhide etk2]; exact o7, t7⟩
            clear CC g7 o7 t7 cx
            go_wp2_with fail
            go_roundw
            case rel => exact ⟨t + 1, by omega, by rw [wt], NW⟩
            case measure =>
              rw [wt]
              show Lf - ((t + 1 : Nat) : Int).toNat < Lf - (t : Int).toNat
              omega
          · obtain rfl : t = Lf := by omega
            have RN := unhide FN wr (unhide HW)
            have LM := hide (unhide hMf wr n1 RN).2
            replace RN := hide RN
            have hltI : ¬ (t : Int) < (t : Int) := by omega
            clear HW GET FN CM SN
            go_wp2_with fail
            go_roundw
            case rel => exact ⟨n1, RN⟩
            case measure =>
              have h1 := unhide LM
              have h2 := unhide hn1
              omega
end Go.Proofs.YtiangegoglfpeaaDoor
