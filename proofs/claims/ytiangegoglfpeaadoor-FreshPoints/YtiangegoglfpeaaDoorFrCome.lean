/- Package fresh: a way ends at a node. -/
import Derived.Test.YtiangegoglfpeaaDoorFrGI
namespace Go.Proofs.YtiangegoglfpeaaDoor
set_option maxRecDepth 100000
open Go.RowKit Go.Maps Go.ChangeShapes Go.WideShapes Go.ChangeAt Go.Deep

theorem eq_ptr_nil (w : World) (a : Addr) : (binOp .eql 107 (.pointer (some a)) (.pointer none)).run Tryd.prog w = .ok (.bool false) w := by kernel_rfl
theorem set_self {α : Type} (l : List α) (n : Nat) (x : α) (h : l[n]? = some x) : l.set n x = l := by
  apply List.ext_getElem?
  intro i
  rw [List.getElem?_set]
  by_cases e : n = i
  · subst e
    rw [if_pos rfl, if_pos (List.getElem?_eq_some_iff.1 h).1, h]
  · rw [if_neg e]
set_option maxHeartbeats 1000000 in
theorem come_any {W0 : World} {M : Nat → Prop} {B gB ab wb N : Nat} {C : List Value} {w : World} {s : FSt} {P : Nat → Nat} {qv : Value} (h : GI W0 M B gB ab wb N C w s P qv) (ok : FOk N s) (n c : Nat) (k : Kn) (hn : n < N) (hN : N ≤ 1000000) (hk : KnAt w c k) (hc : ¬ M c) (hM : ∀ q, w.heap.size ≤ q → M q)
    (hC16 : C[16]? = some (.slice (some ⟨ab, 0, none⟩) N N)) (hC17 : C[17]? = some (.slice (some ⟨wb, 0, none⟩) N N)) :
    Calls Tryd.prog 34 #[.pointer (some ⟨gB, 0, none⟩), .int .i64 (n : Int), .pointer (some ⟨c, 0, none⟩)] w fun e w' => e = .returned (.tuple #[]) ∧ ∃ P' qv', GI W0 M B gB ab wb N C w' (comeS k n s) P' qv' ∧ TrD w w' M := by
  have hQ : Hid (s.Q.length < 10000000) := hide (by have := ok.len; omega)
  have hlA : Hid (s.A.length = N) := hide ok.a
  have hlW : Hid (s.W.length = N) := hide ok.w
  have c16 : w.cell? ⟨gB, 16, none⟩ = some (.slice (some ⟨ab, 0, none⟩) N N) := by have := h.q.s 16 _ hC16; simpa using this
  have hnI : (n : Int) < (N : Int) := by omega
  have hn0 : (0 : Int) ≤ (n : Int) := by omega
  have fa := h.fa n hn
  replace hC16 := hide hC16
  replace hC17 := hide hC17
  replace hM := hide hM
  replace hn := hide hn
  replace hN := hide hN
  cases ha : s.A.getD n none with
  | none =>
    have ca := h.a0 n (unhide hn) ha
    have FIN : Hid (pushS n ⟨s.A.set n (some k), s.W, s.Q⟩ = comeS k n s) := hide (by unfold comeS; rw [ha])
    replace ok := hide ok
    replace h := hide h
    replace hk := hide hk
    replace ha := hide ha
    go_enter Tryd.func34, Tryd.ntmps34
    go_upto_region 2 with (first
      | (refine wpl_ldk rfl (.tmp 16) rfl c k rfl (unhide hk) ?_)
      | (refine wpl_alk rfl rfl ?_; intro w1 g1 k1 z1; replace g1 := hide g1; replace k1 := hide k1; replace z1 := hide z1)
      | (refine wpl_stk rfl (.tmp 6) (.tmp 17) rfl w.heap.size Kn.zero k rfl rfl (unhide k1) (unhide hk).ok ?_; intro w2 k2 t2 z2; replace k2 := hide k2; replace t2 := hide t2; replace z2 := hide z2))
    try simp only [Act.put, List.setIfInBounds_toArray, List.set_cons_zero, List.set_cons_succ]
    have gw2 : G w w2 := new_g (unhide g1) (unhide t2)
    have h2 := (unhide h).keep gw2
    have d16 := gw2.cell c16
    have da := gw2.cell ca
    have df := h2.fa n (unhide hn)
    have HG : Hid (GI W0 M B gB ab wb N C (w2.setCell ⟨ab, n, none⟩ (.pointer (some ⟨w.heap.size, 0, none⟩))) ⟨s.A.set n (some k), s.W, s.Q⟩ (updN P n w.heap.size) qv) := hide (h2.first n w.heap.size k (unhide hn) (unhide hlA) (unhide k2) (unhide h).bs (unhide hM _ (Nat.le_refl _)) (fun e => by
      rcases (unhide h).q.own.2 with ⟨e1, _⟩ | ⟨g, cap, cur, e1, _, e3, _⟩
      · rw [e1] at e; cases e
      · rw [e1] at e
        have e : g = w.heap.size := Option.some.inj e
        rw [e, Array.getElem?_eq_none (Nat.le_refl _)] at e3
        cases e3) (fun i k' hi he e => by have := ((unhide h).a1 i k' hi he).2.1.lt; omega) (unhide ha))
    have T : Hid (TrD w (w2.setCell ⟨ab, n, none⟩ (.pointer (some ⟨w.heap.size, 0, none⟩))) M) := hide (((TrD.of_G M gw2)).set ab n _ (Or.inl h2.ma))
    clear g1 k1 z1 k2 t2 z2 gw2 h2 h c16 ca fa hk
    go_upto_region 4 with fail
    obtain ⟨wx, hwx⟩ : ∃ x, x = w2.setCell ⟨ab, n, none⟩ (.pointer (some ⟨w.heap.size, 0, none⟩)) := ⟨_, rfl⟩
    rw [← hwx] at HG T ⊢
    clear hwx d16 da df
    obtain ⟨c17, cw, fw⟩ : wx.cell? ⟨gB, 17, none⟩ = some (.slice (some ⟨wb, 0, none⟩) N N) ∧ wx.cell? ⟨wb, n, none⟩ = some (.bool (s.W.getD n false)) ∧ wx.frozen? ⟨wb, n, none⟩ = false := ⟨by have := (unhide HG).q.s 17 _ (unhide hC17); simpa using this, ((unhide HG).wt n (unhide hn)).1, ((unhide HG).wt n (unhide hn)).2⟩
    obtain ⟨wn, hwn⟩ : ∃ wn, s.W.getD n false = wn := ⟨_, rfl⟩
    rw [hwn] at cw
    have c17' : Hid ((wx.setCell ⟨wb, n, none⟩ (.bool true)).cell? ⟨gB, 17, none⟩ = some (.slice (some ⟨wb, 0, none⟩) N N)) := hide (by rw [cell_other _ (Or.inl (unhide HG).gwb)]; exact c17)
    cases wn
    · have HW := hide ((unhide HG).wait n true (unhide hn) (unhide hlW))
      have TW : Hid (TrD w (wx.setCell ⟨wb, n, none⟩ (.bool true)) M) := hide ((unhide T).set wb n _ (Or.inl (unhide HG).mw))
      have CP := hide (hpush_any (unhide HW).q (unhide HW).bs (unhide hQ) (n : Int))
      have EN : Hid (pushS n ⟨s.A.set n (some k), s.W, s.Q⟩ = ⟨s.A.set n (some k), s.W.set n true, pshL s.Q n⟩) := hide (by unfold pushS; rw [hwn]; rfl)
      have hMx : Hid (∀ q, (wx.setCell ⟨wb, n, none⟩ (.bool true)).heap.size ≤ q → M q) := hide fun q hq => unhide hM q (Nat.le_trans (unhide T).size (by rw [World.size_setCell] at hq; exact hq))
      clear c17' HG T hwn
      go_wp2_with fail
      refine (unhide CP).mono ?_
      rintro e w9 ⟨rfl, qv9, q9, t9, o9⟩
      have K : Hid (∃ P' qv', GI W0 M B gB ab wb N C w9 (comeS k n s) P' qv' ∧ TrD w w9 M) := hide ⟨_, qv9, by rw [← unhide FIN, unhide EN]; exact (unhide HW).queue t9 q9 o9 (unhide hMx), (unhide TW).trans (t9.weak fun q hq => by
        rcases hq with rfl | hq
        · exact (unhide HW).mg
        · exact (unhide HW).mq q hq)⟩
      clear CP q9 t9 o9 HW TW EN hMx
      go_wp2_with fail
      go_end0
      exact ⟨rfl, unhide K⟩
    · have K : Hid (∃ P' qv', GI W0 M B gB ab wb N C wx (comeS k n s) P' qv' ∧ TrD w wx M) := hide ⟨_, qv, by rw [← unhide FIN]; unfold pushS; rw [hwn]; exact unhide HG, unhide T⟩
      clear c17' HG T hwn
      go_wp2_with fail
      go_end0
      exact ⟨rfl, unhide K⟩
  | some j =>
    obtain ⟨ca, kj, hPB, hPM, hPq⟩ := h.a1 n j (unhide hn) ha
    have eqp := eq_ptr_nil w ⟨P n, 0, none⟩
    have CM := hide (meet_any kj hk (fun e => hc (e ▸ hPM)))
    have HM : Hid (∀ w1, KnAt w1 (P n) (j.meet k) ∧ TrD w w1 (· = P n) → GI W0 M B gB ab wb N C w1 ⟨s.A.set n (some (j.meet k)), s.W, s.Q⟩ P qv ∧ TrD w w1 M) := hide fun w1 r => ⟨h.meet n j (j.meet k) (unhide hn) ok.a ha r.2 r.1, r.2.weak fun q hq => by rw [hq]; exact hPM⟩
    have FIN : Hid (((j.meet k).eq j = true → comeS k n s = s) ∧ ((j.meet k).eq j = false → pushS n ⟨s.A.set n (some (j.meet k)), s.W, s.Q⟩ = comeS k n s)) := hide ⟨fun e => by unfold comeS; rw [ha]; simp only; rw [if_pos e], fun e => by unfold comeS; rw [ha]; simp only; rw [if_neg (by rw [e]; decide)]⟩
    have HS : Hid (∀ w1, KnAt w1 (P n) (j.meet k) ∧ TrD w w1 (· = P n) → (j.meet k).eq j = true → GI W0 M B gB ab wb N C w1 s P qv) := hide fun w1 r e => by
      have := h.meet n j (j.meet k) (unhide hn) ok.a ha r.2 r.1
      have e2 : s.A.set n (some (j.meet k)) = s.A := by
        rw [(Kn.eq_iff _ _).1 e]
        exact set_self s.A n (some j) (by rw [getD_some (l := s.A) (d := none) (by rw [ok.a]; exact unhide hn), ha])
      rw [e2] at this
      exact this
    replace ok := hide ok
    replace h := hide h
    replace hk := hide hk
    replace ha := hide ha
    replace kj := hide kj
    obtain ⟨qm, hqm⟩ : ∃ qm, (j.meet k).eq j = qm := ⟨_, rfl⟩
    rw [hqm] at CM FIN
    clear hPB hPM hPq
    go_enter Tryd.func34, Tryd.ntmps34
    go_wp2_with fail
    refine (unhide CM).mono ?_
    rintro e wx ⟨rfl, rx⟩
    cases qm
    · have FN := (unhide FIN).2 rfl
      obtain ⟨HG, T⟩ := unhide HM wx rx
      replace HG := hide HG
      replace T := hide T
      replace FIN := hide FN
      clear CM HM HS rx FN c16 ca fa eqp h kj
      go_upto_region 4 with fail
      obtain ⟨c17, cw, fw⟩ : wx.cell? ⟨gB, 17, none⟩ = some (.slice (some ⟨wb, 0, none⟩) N N) ∧ wx.cell? ⟨wb, n, none⟩ = some (.bool (s.W.getD n false)) ∧ wx.frozen? ⟨wb, n, none⟩ = false := ⟨by have := (unhide HG).q.s 17 _ (unhide hC17); simpa using this, ((unhide HG).wt n (unhide hn)).1, ((unhide HG).wt n (unhide hn)).2⟩
      obtain ⟨wn, hwn⟩ : ∃ wn, s.W.getD n false = wn := ⟨_, rfl⟩
      rw [hwn] at cw
      have c17' : Hid ((wx.setCell ⟨wb, n, none⟩ (.bool true)).cell? ⟨gB, 17, none⟩ = some (.slice (some ⟨wb, 0, none⟩) N N)) := hide (by rw [cell_other _ (Or.inl (unhide HG).gwb)]; exact c17)
      cases wn
      · have HW := hide ((unhide HG).wait n true (unhide hn) (unhide hlW))
        have TW : Hid (TrD w (wx.setCell ⟨wb, n, none⟩ (.bool true)) M) := hide ((unhide T).set wb n _ (Or.inl (unhide HG).mw))
        have CP := hide (hpush_any (unhide HW).q (unhide HW).bs (unhide hQ) (n : Int))
        have EN : Hid (pushS n ⟨s.A.set n (some (j.meet k)), s.W, s.Q⟩ = ⟨s.A.set n (some (j.meet k)), s.W.set n true, pshL s.Q n⟩) := hide (by unfold pushS; rw [hwn]; rfl)
        have hMx : Hid (∀ q, (wx.setCell ⟨wb, n, none⟩ (.bool true)).heap.size ≤ q → M q) := hide fun q hq => unhide hM q (Nat.le_trans (unhide T).size (by rw [World.size_setCell] at hq; exact hq))
        clear c17' HG T hwn
        go_wp2_with fail
        refine (unhide CP).mono ?_
        rintro e w9 ⟨rfl, qv9, q9, t9, o9⟩
        have K : Hid (∃ P' qv', GI W0 M B gB ab wb N C w9 (comeS k n s) P' qv' ∧ TrD w w9 M) := hide ⟨_, qv9, by rw [← unhide FIN, unhide EN]; exact (unhide HW).queue t9 q9 o9 (unhide hMx), (unhide TW).trans (t9.weak fun q hq => by
          rcases hq with rfl | hq
          · exact (unhide HW).mg
          · exact (unhide HW).mq q hq)⟩
        clear CP q9 t9 o9 HW TW EN hMx
        go_wp2_with fail
        go_end0
        exact ⟨rfl, unhide K⟩
      · have K : Hid (∃ P' qv', GI W0 M B gB ab wb N C wx (comeS k n s) P' qv' ∧ TrD w wx M) := hide ⟨_, qv, by rw [← unhide FIN]; unfold pushS; rw [hwn]; exact unhide HG, unhide T⟩
        clear c17' HG T hwn
        go_wp2_with fail
        go_end0
        exact ⟨rfl, unhide K⟩
    · have K : Hid (∃ P' qv', GI W0 M B gB ab wb N C wx (comeS k n s) P' qv' ∧ TrD w wx M) := hide ⟨P, qv, by rw [(unhide FIN).1 rfl]; exact unhide HS wx rx hqm, (unhide HM wx rx).2⟩
      clear CM HM HS rx FIN
      go_wp2_with fail
      go_returns
      exact ⟨rfl, unhide K⟩
end Go.Proofs.YtiangegoglfpeaaDoor
