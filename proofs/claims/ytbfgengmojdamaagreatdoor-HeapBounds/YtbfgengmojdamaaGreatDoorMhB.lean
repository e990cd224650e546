/- Here, one behind the other: HpAdd, HpNew, HpNew2, HpEv, HpStep. -/
import Derived.Test.YtbfgengmojdamaaGreatDoorMhA
/- Package heap: list, Add. -/
namespace Go.Proofs.YtbfgengmojdamaaGreatDoor
set_option maxRecDepth 100000
open Go.ChangeShapes Go.WideShapes Go.ChangeAt Go.RowKit Go.Maps Go.Deep

theorem info_intH : (Tryz.prog.info? 3).map (fun i => (i.zero, i.size, i.bytes)) = some (some (.int .i64 0), 1, 8) := by kernel_rfl
theorem zero_intH (w : World) : (zeroValue 3).run Tryz.prog w = .ok (.int .i64 0) w := by kernel_rfl
theorem wpl_aph {ops : Array Oper} {rest : List Oper} {o : Oper} {a : Act} {w : World} {Q : Exit → Act → World → Prop} (hgd : o.guard = none) (s x : Operand) (t : TypeId) (ho : o.op = .call { callee := .builtin .append, args := #[s, x], argTypes := #[t, t] })
    (vs vx : Value) (hs : a.eval s = vs) (hx : a.eval x = vx) (v' : Value) (w' : World) (hrun : (Builtin.append_ #[t, t] o.type #[vs, vx]).run Tryz.prog w = .ok v' w') (h : wpList Tryz.prog ops Q rest (a.put o.dst v') w') : wpList Tryz.prog ops Q (o :: rest) a w := by
  refine wpList_plain hgd fun K hK => ?_
  unfold Oper.wp execOp
  simp only [ho, resolve, invoke, builtin, Sem.run_bind, Sem.run_pure, Result.andThen_ok, List.map_toArray, List.map_cons, List.map_nil, hs, hx, hrun]
  exact hK _ _ h
theorem nrL_succ (n : Nat) : nrL (n + 1) = nrL n ++ [.int .i64 (n : Int)] := by
  unfold nrL
  rw [List.range_succ, List.map_append]
  rfl
theorem nr_app {w : World} {B n : Nat} {v : Value} (h : NrAt w B v n) (hB : B ≤ w.heap.size) (hn : n ≤ 1000000) :
    ∃ v' w', (Builtin.append_ #[82, 82] 82 #[v, .slice (some ⟨w.heap.size, 0, none⟩) 1 1]).run Tryz.prog (w.alloc (.cells #[.int .i64 (n : Int)] 3)) = .ok v' w' ∧ NrAt w' B v' (n + 1) ∧ (w.alloc (.cells #[.int .i64 (n : Int)] 3)).grownBy w' v.ownBlock ∧ (v'.ownBlock = v.ownBlock ∨ v'.ownBlock = some (w.heap.size + 1)) := by
  obtain ⟨i, hi, hz, hs, hb⟩ := info_parts info_intH
  have ga := G.alloc w (.cells #[.int .i64 (n : Int)] 3)
  have h2 : NrAt (w.alloc (.cells #[.int .i64 (n : Int)] 3)) B v n := by
    rcases h.2 with h0 | ⟨g, cp, cur, e1, e2, e3, e4⟩
    · exact ⟨h.1, Or.inl h0⟩
    · refine ⟨h.1, Or.inr ⟨g, cp, cur, e1, e2, ?_, e4⟩⟩
      have hlt : g < w.heap.size := by
        rcases Nat.lt_or_ge g w.heap.size with hh | hh
        · exact hh
        · rw [Array.getElem?_eq_none hh] at e3; cases e3
      rw [ga.block g hlt]; exact e3
  obtain ⟨v', w', hrun, r1, r2, _, r4⟩ := run_append_own_at (P := Tryz.prog) (w.alloc (.cells #[.int .i64 (n : Int)] 3)) B 82 82 3 i _ 1 8 Tryz.underlying82 hi hz hs hb rfl (by decide) v n _ h2 ⟨w.heap.size, 0, none⟩ 1 1 [.int .i64 (n : Int)] rfl (fun j u hj => by
      rw [Addr.add_lit, cell_of_row _ _ _ _ _ _ (heap_alloc_new w _), Nat.zero_add]
      simpa using hj) (fun u hu => by simp at hu; subst hu; rfl) (by unfold maxLen; omega) (by omega) (Nat.le_trans hB ga.size)
  refine ⟨v', w', hrun, ?_, r2, ?_⟩
  · show w'.ownsRow B 3 1 v' (n + 1) (nrL (n + 1))
    rw [nrL_succ]
    exact r1
  · rw [World.size_alloc] at r4; exact r4
section
variable {W w : World} {x : Hx} {al : Al} {l : List Hd.Shp} {n : Nat} {ao : Option Addr} {cap : Nat} {nv : Value} {c : Nat → Nat}
theorem HS.nlo (h : HS W w x al l n ao cap nv c) : ∀ k, nv.ownBlock = some k → W.heap.size ≤ k := fun k hk => by
  rcases h.num.2 with ⟨e, _⟩ | ⟨g, cp, cur, e, h2, _⟩
  · rw [e] at hk; cases hk
  · rw [e] at hk
    obtain rfl : g = k := by simpa [Value.ownBlock] using hk
    exact h2
theorem HS.listed {w2 w4 : World} {v' : Value} (h : HS W w x al l n ao cap nv c) (g2 : (w.alloc (.cells #[.int .i64 (n : Int)] 3)).grownBy w2 nv.ownBlock) (r : NrAt w2 W.heap.size v' (n + 1)) (ob : v'.ownBlock = nv.ownBlock ∨ v'.ownBlock = some (w.heap.size + 1)) (g4 : (w2.setCell ⟨x.hb, 1, none⟩ v').grownBy w4 (some x.lm)) (m4 : LmAt w4 x.lm (n + 1)) :
    ∃ c', HS W w4 x al l (n + 1) ao cap v' c' := by
  have ga := G.alloc w (.cells #[.int .i64 (n : Int)] 3)
  have s2 := g2.size
  have s4 := g4.size
  rw [World.size_alloc] at s2
  rw [World.size_setCell] at s4
  have hl := h.hlt
  have lo := h.lo
  have hne : x.hb ≠ x.lm := fun e => by have := h.c6; rw [e, h.c7] at this; omega
  have k2 : ∀ d, d < w.heap.size → c d ≠ 8 → w2.heap[d]? = w.heap[d]? := fun d hd h8 => (g2.block d (by rw [World.size_alloc]; omega) (fun e => h8 (h.c8 d e.symm))).trans (ga.block d hd)
  have k4 : ∀ d, d < w2.heap.size → d ≠ x.hb → d ≠ x.lm → w4.heap[d]? = w2.heap[d]? := fun d hd h6 h7 => (g4.block d (by rw [World.size_setCell]; exact hd) (fun e => h7 (Option.some.inj e))).trans (Below.heap_setCell _ _ _ _ (by simpa using h6))
  have k : ∀ d, d < w.heap.size → c d ≠ 6 → c d ≠ 7 → c d ≠ 8 → w4.heap[d]? = w.heap[d]? := fun d hd h6 h7 h8 => (k4 d (by omega) (fun e => h6 (by rw [e]; exact h.c6)) (fun e => h7 (by rw [e]; exact h.c7))).trans (k2 d hd h8)
  have kh2 := k2 x.hb hl (by rw [h.c6]; decide)
  have kh4 : w4.heap[x.hb]? = (w2.setCell ⟨x.hb, 1, none⟩ v').heap[x.hb]? := g4.block x.hb (by rw [World.size_setCell]; omega) (fun e => hne (Option.some.inj e))
  have hcell : ∀ i u, i ≠ 1 → w.cell? ⟨x.hb, i, none⟩ = some u → w4.cell? ⟨x.hb, i, none⟩ = some u := fun i u hi hu => (World.cell?_of_block (a := ⟨x.hb, i, none⟩) kh4).trans ((cell_other _ (Or.inr hi)).trans ((World.cell?_of_block (a := ⟨x.hb, i, none⟩) kh2).trans hu))
  have hb : Below W.heap.size W w4 := by
    refine Below.trans h.ks.st.below ⟨g4.os.trans (g2.os.trans ga.os), g4.tape.trans (g2.tape.trans ga.tape), g4.output.trans (g2.output.trans ga.output), by omega, fun d hd => ?_⟩
    have hdw : d < w.heap.size := Nat.lt_of_lt_of_le hd h.ks.st.below.size
    refine (k4 d (by omega) (by omega) (by omega)).trans ((g2.block d (by rw [World.size_alloc]; omega) (fun e => ?_)).trans (ga.block d hdw))
    have := h.nlo d e.symm
    omega
  have ks := h.cyc hb (by omega) (fun d hd hc => k d hd (by omega) (by omega) (by omega))
  have cc : ∀ d, d < w.heap.size → (fun d => if w.heap.size ≤ d then 8 else c d) d = c d := fun d hd => if_neg (by omega)
  obtain ⟨l1, l2, l3, l4, l5⟩ := h.alt
  obtain ⟨a1, a2, a3, a4, a5⟩ := h.cA
  obtain ⟨e1, e2, e3, e4⟩ := h.cC
  have q1 : ∀ q, v'.ownBlock = some q → q ≠ x.hb ∧ q ≠ x.lm ∧ q < w2.heap.size := fun q hq => by
    have hlt : q < w2.heap.size := by
      rcases r.2 with ⟨e, _⟩ | ⟨g, cp, cur, e, _, h3, _⟩
      · rw [e] at hq; cases hq
      · rw [e] at hq
        obtain rfl : g = q := by simpa [Value.ownBlock] using hq
        rcases Nat.lt_or_ge g w2.heap.size with hh | hh
        · exact hh
        · rw [Array.getElem?_eq_none hh] at h3; cases h3
    have hlm := h.lt
    rcases ob with e | e
    · rw [e] at hq
      have h8 := h.c8 q hq
      exact ⟨fun e => by rw [e, h.c6] at h8; omega, fun e => by rw [e, h.c7] at h8; omega, hlt⟩
    · rw [e] at hq
      have := Option.some.inj hq
      exact ⟨by omega, by omega, hlt⟩
  refine ⟨fun d => if w.heap.size ≤ d then 8 else c d, ⟨ks, h.tab.kept (k _ h.tab.tlt (by rw [h.c3]; decide) (by rw [h.c3]; decide) (by rw [h.c3]; decide)) (k _ h.tab.mlt (by rw [h.c4]; decide) (by rw [h.c4]; decide) (by rw [h.c4]; decide)) (fun a ha => k _ (h.tab.aoB a ha).2 (by rw [h.c5 a ha]; decide) (by rw [h.c5 a ha]; decide) (by rw [h.c5 a ha]; decide)), hcell 0 _ (by decide) h.h0, (World.cell?_of_block (a := ⟨x.hb, 1, none⟩) kh4).trans (cell_same _ ((World.cell?_of_block (a := ⟨x.hb, 1, none⟩) kh2).trans h.h1)), hcell 2 _ (by decide) h.h2, hcell 3 _ (by decide) h.h3, fun i => (World.frozen?_of_block (a := ⟨x.hb, i, none⟩) kh4).trans ((World.frozen?_setCell _ _ _ _).trans ((World.frozen?_of_block (a := ⟨x.hb, i, none⟩) kh2).trans (h.hf i))), nr_kept r (fun q hq => k4 q (q1 q hq).2.2 (q1 q hq).1 (q1 q hq).2.1), m4, h.lo, by have := h.lt; omega, ⟨(cc _ l1).trans a1, (cc _ l2).trans a2, (cc _ l3).trans a3, (cc _ l4).trans a4, (cc _ l5).trans a5⟩, ⟨(cc _ (h.ks.ap _ (by simp)).1).trans e1, (cc _ (h.ks.ap _ (by simp)).1).trans e2, (cc _ (h.ks.ap _ (by simp)).1).trans e3, (cc _ (h.ks.ap _ (by simp)).1).trans e4⟩, (cc _ h.tab.tlt).trans h.c3, (cc _ h.tab.mlt).trans h.c4, fun a ea => (cc _ (h.tab.aoB a ea).2).trans (h.c5 a ea), (cc _ h.hlt).trans h.c6, (cc _ h.lt).trans h.c7, fun q hq => ?_⟩⟩
  rcases ob with e | e
  · rw [e] at hq; exact (cc _ (h.nlt q hq)).trans (h.c8 q hq)
  · rw [e] at hq
    have := Option.some.inj hq
    exact if_pos (by omega)
theorem LmAt.put {w' : World} {lm : Nat} {D : DataW Unit} (hn : n ≤ 1000000) (hD : ∀ y : Int, wfN y → Maps.has D (.int .i64 y) = decide (0 ≤ y ∧ y < (n : Int)) ∧ (0 ≤ y ∧ y < (n : Int) → D.atKey (.int .i64 y) (.lit (.int .i64 0)) = .lit (.int .i64 y))) (hi : w.ownsMap Tryz.prog 3 (plainElem Tryz.prog 3) lm n D) (hm : w'.ownsMap Tryz.prog 3 (plainElem Tryz.prog 3) lm (n + 1) (D.put (.int .i64 (n : Int)) (.lit (.int .i64 (n : Int))))) : LmAt w' lm (n + 1) := by
  refine ⟨_, hm, fun y hy => ?_⟩
  have hwn : wfN (n : Int) := WalkArith.wf_i64 (n := (n : Int)) (by omega)
  by_cases e : y = (n : Int)
  · subst e
    rw [Maps.has_put_same hi.isMap (keyI.key (keyOf_int_mk Tryz.underlying3 hwn))]
    refine ⟨by simp; omega, fun _ => ?_⟩
    rw [atKey_put_same hi.isMap (keyI.key (keyOf_int_mk Tryz.underlying3 hwn))]
  · have hne : (Lit.int .i64 y) ≠ (Lit.int .i64 (n : Int)) := by simpa using e
    rw [Maps.has_put_other (by simpa using e), (hD y hy).1]
    refine ⟨by simp only [decide_eq_decide]; omega, fun hlt => ?_⟩
    rw [atKey_put_other (by simpa using e)]
    exact (hD y hy).2 (by omega)
set_option maxHeartbeats 1000000 in
theorem h_list (h : Hid (HS W w x al l n ao cap nv c)) (hn : n ≤ 1000) : Calls Tryz.prog 35 #[.pointer (some ⟨x.hb, 0, none⟩), .int .i64 (n : Int)] w fun r w' => r = .returned (.int .i64 (n : Int)) ∧ ∃ nv' c', HS W w' x al l (n + 1) ao cap nv' c' := by
  obtain ⟨oa, cp, hv⟩ := (unhide h).num.shape
  obtain ⟨v', w2, hrun, r2, g2, ob⟩ := nr_app (unhide h).num (unhide h).ks.st.below.size (by omega)
  obtain ⟨oa', cp', hv'⟩ := r2.shape
  subst hv'
  obtain ⟨D, hD, hK⟩ := (unhide h).mp
  have h1 := (unhide h).h1
  have f1 := (unhide h).hf 1
  have h2 := (unhide h).h2
  have ga := G.alloc w (.cells #[.int .i64 (n : Int)] 3)
  have h1a := ga.cell h1
  have s2 := g2.size
  rw [World.size_alloc] at s2
  have kh2 : w2.heap[x.hb]? = w.heap[x.hb]? := (g2.block x.hb (by rw [World.size_alloc]; have := (unhide h).hlt; omega) (fun e => by have := (unhide h).c8 _ e.symm; rw [(unhide h).c6] at this; omega)).trans (ga.block x.hb (unhide h).hlt)
  have kl2 : w2.heap[x.lm]? = w.heap[x.lm]? := (g2.block x.lm (by rw [World.size_alloc]; have := (unhide h).lt; omega) (fun e => by have := (unhide h).c8 _ e.symm; rw [(unhide h).c7] at this; omega)).trans (ga.block x.lm (unhide h).lt)
  have q1 := (World.cell?_of_block (a := ⟨x.hb, 1, none⟩) kh2).trans h1
  have qf := (World.frozen?_of_block (a := ⟨x.hb, 1, none⟩) kh2).trans f1
  have hne : x.lm ≠ x.hb := fun e => by have := (unhide h).c7; rw [e, (unhide h).c6] at this; omega
  obtain ⟨w3, hw3⟩ : ∃ w3, w3 = w2.setCell ⟨x.hb, 1, none⟩ (.slice oa' (n + 1) cp') := ⟨_, rfl⟩
  have q2 : w3.cell? ⟨x.hb, 2, none⟩ = some (.map (some x.lm)) := by rw [hw3]; exact (cell_other _ (Or.inr (by decide))).trans ((World.cell?_of_block (a := ⟨x.hb, 2, none⟩) kh2).trans h2)
  have D3 : w3.ownsMap Tryz.prog 3 (plainElem Tryz.prog 3) x.lm n D := by
    obtain ⟨es, clock, hb, r⟩ := hD
    exact ⟨es, clock, by rw [hw3, Below.heap_setCell _ _ _ _ (by simpa using hne), kl2]; exact hb, r⟩
  have hwn : wfN (n : Int) := WalkArith.wf_i64 (n := (n : Int)) (by omega)
  have hkey : keyOf Tryz.prog 3 (.int .i64 (n : Int)) = some (.int .i64 (n : Int)) := keyOf_int_mk Tryz.underlying3 hwn
  have hhas : Maps.has D (.int .i64 (n : Int)) = false := by rw [(hK _ hwn).1]; simp
  have hval : plainElem (H := Unit) Tryz.prog 3 (.int .i64 (n : Int)) = some (.lit (.int .i64 (n : Int)), []) := plainElem_int Tryz.underlying3 hwn
  have FIN : Hid (∀ w4, w4.ownsMap Tryz.prog 3 (plainElem Tryz.prog 3) x.lm (n + 1) (D.put (.int .i64 (n : Int)) (.lit (.int .i64 (n : Int)))) → w3.grownBy w4 (some x.lm) → ∃ nv' c', HS W w4 x al l (n + 1) ao cap nv' c') := hide fun w4 m4 g4 => by
    rw [hw3] at g4
    obtain ⟨c', S⟩ := (unhide h).listed g2 r2 ob g4 (LmAt.put (by omega) hK hD m4)
    exact ⟨_, c', S⟩
  have hnm : n < maxLen := by unfold maxLen; omega
  rw [hv] at h1 h1a hrun q1
  replace hw3' := hide hw3
  clear h hv r2 g2 ob hD hK ga s2 kh2 kl2 hne hwn f1
  replace hn := hide hn
  go_enter Tryz.func35, Tryz.ntmps35
  go_upto_region 3 with (at_builtin; refine wpl_aph rfl (.tmp 17) (.tmp 19) 82 rfl _ _ rfl rfl _ _ hrun ?_)
  rw [← hw3]
  clear hw3 hrun q1 qf h1 h1a h2
  go_upto_region 4 with (at_lookup; refine wpList_lookup_own_ok_int _ rfl _ _ 81 rfl 3 3 .i64 keyI Tryz.underlying81 Tryz.underlying3 (zero_intH _) x.lm n D rfl D3 _ _ rfl hkey ?_; intro cc hat hwc; rw [hhas])
  go_wp2_with (at_mapUpdate; refine wpList_mapUpdate_own _ rfl _ _ _ 81 rfl 3 3 keyI Tryz.underlying81 (plainElem (H := Unit) Tryz.prog 3) x.lm n D rfl D3 hnm _ _ _ rfl rfl hkey _ [] hval ?_; intro w4 hm4 hg4; have S4 := hide (unhide FIN w4 hm4 hg4); clear hm4 hg4 FIN)
  go_ret
  exact ⟨rfl, unhide S4⟩
end
end Go.Proofs.YtbfgengmojdamaaGreatDoor

/- Package heap: Add, New. -/
namespace Go.Proofs.YtbfgengmojdamaaGreatDoor
set_option maxRecDepth 100000
open Go.ChangeShapes Go.WideShapes Go.ChangeAt Go.RowKit Go.Maps Go.Deep

section
variable {W w : World} {x : Hx} {al : Al} {l : List Hd.Shp} {n : Nat} {ao : Option Addr} {cap : Nat} {nv : Value} {c : Nat → Nat}
/-- The table is asked for a shape's number. -/
theorem hs_number (h : HS W w x al l n ao cap nv c) (s : Hd.Shp) (hs : s.Fit) (hlen : l.length < 65536) : Calls Tryz.prog 34 #[.pointer (some ⟨x.b.tb, 0, none⟩), .agg #[.int .i64 s.k, .int .i64 s.f, .int .u64 (s.m : Int)]] w fun e w' => e = .returned (.tuple #[.int .i64 (Hd.numV l s), .int .i64 (Hd.numE s)]) ∧ (∃ ao' cap' c', HS W w' x al (Hd.addS l s) n ao' cap' nv c') ∧ ∀ d, d < w.heap.size → c d ≠ 3 → c d ≠ 4 → c d ≠ 5 → w'.heap[d]? = w.heap[d]? := by
  refine (Hd.number_any w W.heap.size x.b.tb x.tm ao cap l s h.tab hs hlen h.ks.st.below.size).mono ?_
  rintro e w' ⟨ao', cap', he, T, tu, ha⟩
  obtain ⟨c', S⟩ := h.number T tu ha
  exact ⟨he, ⟨ao', cap', c', S⟩, fun d hd n3 n4 n5 => tu.block d hd (fun e => n3 (by rw [e]; exact h.c3)) (fun e => n4 (by rw [e]; exact h.c4)) (fun a ea e => n5 (by rw [e]; exact h.c5 a ea))⟩
/-- New blocks may be given any owner. -/
theorem HS.recol (h : HS W w x al l n ao cap nv c) (w0 : World) (h0 : HS W w0 x al l n ao cap nv c) : HS W w x al l n ao cap nv (fun d => if w0.heap.size ≤ d then 9 else c d) := by
  have cc : ∀ d, d < w0.heap.size → (fun d => if w0.heap.size ≤ d then 9 else c d) d = c d := fun d hd => if_neg (by omega)
  obtain ⟨l1, l2, l3, l4, l5⟩ := h0.alt
  obtain ⟨a1, a2, a3, a4, a5⟩ := h.cA
  obtain ⟨e1, e2, e3, e4⟩ := h.cC
  exact ⟨h.ks, h.tab, h.h0, h.h1, h.h2, h.h3, h.hf, h.num, h.mp, h.lo, h.lt, ⟨(cc _ l1).trans a1, (cc _ l2).trans a2, (cc _ l3).trans a3, (cc _ l4).trans a4, (cc _ l5).trans a5⟩, ⟨(cc _ (h0.ks.ap _ (by simp)).1).trans e1, (cc _ (h0.ks.ap _ (by simp)).1).trans e2, (cc _ (h0.ks.ap _ (by simp)).1).trans e3, (cc _ (h0.ks.ap _ (by simp)).1).trans e4⟩, (cc _ h0.tab.tlt).trans h.c3, (cc _ h0.tab.mlt).trans h.c4, fun a ea => (cc _ (h0.tab.aoB a ea).2).trans (h.c5 a ea), (cc _ h0.hlt).trans h.c6, (cc _ h0.lt).trans h.c7, fun q hq => (cc _ (h0.nlt q hq)).trans (h.c8 q hq)⟩
/-- What is not the table's is as it was. -/
def KpD (w : World) (c : Nat → Nat) (w' : World) : Prop := ∀ d, d < w.heap.size → c d ≠ 3 → c d ≠ 4 → c d ≠ 5 → w'.heap[d]? = w.heap[d]?
def AddK (w : World) (c : Nat → Nat) (l : List Hd.Shp) (s : Hd.Shp) (w' : World) : Prop := s ∈ l → KpD w c w'
set_option maxHeartbeats 1000000 in
theorem h_add (h : Hid (HS W w x al l n ao cap nv c)) (hln : l.length = n) (hn : n ≤ 1000) (s : Hd.Shp) (hs : s.Fit) : Calls Tryz.prog 15 #[.pointer (some ⟨x.hb, 0, none⟩), .agg #[.int .i64 s.k, .int .i64 s.f, .int .u64 (s.m : Int)]] w fun r w' => r = .returned (.tuple #[.int .i64 (Hd.numV l s), .int .i64 (Hd.numE s)]) ∧ (∃ n' ao' cap' nv' c', n' = (Hd.addS l s).length ∧ HS W w' x al (Hd.addS l s) n' ao' cap' nv' c') ∧ AddK w c l s w' := by
  obtain ⟨W1, hW1⟩ : ∃ W1, W1 = w.alloc (.cells #[.int .i64 s.k, .int .i64 s.f, .int .u64 (s.m : Int)] 29) := ⟨_, rfl⟩
  have g1 : G w W1 := by rw [hW1]; exact G.alloc _ _
  have e1 : W1.heap[w.heap.size]? = some (.cells #[.int .i64 s.k, .int .i64 s.f, .int .u64 (s.m : Int)] 29) := by rw [hW1]; exact heap_alloc_new w _
  have z1 : w.heap.size < W1.heap.size := by rw [hW1, World.size_alloc]; omega
  have BX : Hid (∀ y : World, y.heap[w.heap.size]? = W1.heap[w.heap.size]? → y.cell? ⟨w.heap.size, 0, none⟩ = some (.int .i64 s.k) ∧ y.cell? ⟨w.heap.size, 1, none⟩ = some (.int .i64 s.f) ∧ y.cell? ⟨w.heap.size, 2, none⟩ = some (.int .u64 (s.m : Int))) := hide fun y hy => by
    have e := hy.trans e1
    exact ⟨by rw [cell_of_row _ _ _ _ _ _ e]; rfl, by rw [cell_of_row _ _ _ _ _ _ e]; rfl, by rw [cell_of_row _ _ _ _ _ _ e]; rfl⟩
  have HH : Hid (∀ y, G W1 y → HS W y x al l n ao cap nv (fun d => if w.heap.size ≤ d then 9 else c d)) := hide fun y g => ((unhide h).gr (g1.trans g)).recol w (unhide h)
  have TB : Hid (∀ y, G W1 y → Calls Tryz.prog 33 #[.pointer (some ⟨x.b.cb, 0, none⟩)] y fun e w' => e = .returned (.pointer (some ⟨x.b.tb, 0, none⟩)) ∧ w' = y) := hide fun y g => k_table (hide (unhide HH y g).ks)
  have NB : Hid (∀ y, G W1 y → Calls Tryz.prog 34 #[.pointer (some ⟨x.b.tb, 0, none⟩), .agg #[.int .i64 s.k, .int .i64 s.f, .int .u64 (s.m : Int)]] y fun e w' => e = .returned (.tuple #[.int .i64 (Hd.numV l s), .int .i64 (Hd.numE s)]) ∧ Hid (((∃ ao' cap' c', HS W w' x al (Hd.addS l s) n ao' cap' nv c') ∧ KpD w c w') ∧ w'.heap[w.heap.size]? = W1.heap[w.heap.size]? ∧ w'.cell? ⟨x.hb, 0, none⟩ = some (.pointer (some ⟨x.b.cb, 0, none⟩)))) := hide fun y g => by
    refine (hs_number (unhide HH y g) s hs (by omega)).mono ?_
    rintro e w' ⟨he, ⟨ao', cap', c', S⟩, hk⟩
    exact ⟨he, hide ⟨⟨⟨ao', cap', c', S⟩, fun d hd n3 n4 n5 => (hk d (by have := g.size; omega) (by rw [if_neg (by omega)]; exact n3) (by rw [if_neg (by omega)]; exact n4) (by rw [if_neg (by omega)]; exact n5)).trans ((g.block d (by omega)).trans (g1.block d hd))⟩, (hk _ (by have := g.size; omega) (by simp) (by simp) (by simp)).trans (g.block _ z1), S.h0⟩⟩
  have HB0 : Hid (∀ y, G W1 y → y.cell? ⟨x.hb, 0, none⟩ = some (.pointer (some ⟨x.b.cb, 0, none⟩))) := hide fun y g => (unhide HH y g).h0
  obtain ⟨nV, hnV⟩ : ∃ nV, nV = Hd.numV l s := ⟨_, rfl⟩
  obtain ⟨nE, hnE⟩ : ∃ nE, nE = Hd.numE s := ⟨_, rfl⟩
  obtain ⟨sk, hsk⟩ : ∃ sk, sk = s.k := ⟨_, rfl⟩
  obtain ⟨sf, hsf⟩ : ∃ sf, sf = s.f := ⟨_, rfl⟩
  obtain ⟨sm, hsm⟩ : ∃ sm, sm = s.m := ⟨_, rfl⟩
  -- what comes of it: an error; an old one; a new one
  have WAY : Hid (∀ w2 : World, ((∃ ao' cap' c', HS W w2 x al (Hd.addS l s) n ao' cap' nv c') ∧ KpD w c w2) → ((nE != 0) = true ∧ nV = 0 ∧ (∃ n' ao' cap' nv' c', n' = (Hd.addS l s).length ∧ HS W w2 x al (Hd.addS l s) n' ao' cap' nv' c') ∧ AddK w c l s w2) ∨ (nE = 0 ∧ ((0 ≤ nV ∧ nV < (n : Int) ∧ (∃ n' ao' cap' nv' c', n' = (Hd.addS l s).length ∧ HS W w2 x al (Hd.addS l s) n' ao' cap' nv' c') ∧ AddK w c l s w2) ∨ (nV = (n : Int) ∧ (Hd.addS l s).length = n + 1 ∧ s ∉ l)))) := hide fun w2 ⟨⟨ao', cap', c', S⟩, kp⟩ => by
    rw [hnE, hnV]
    unfold Hd.numE Hd.numV
    by_cases hg : s.good = true
    · right
      rw [if_pos hg, if_pos hg]
      refine ⟨rfl, ?_⟩
      by_cases hm : s ∈ l
      · left
        have ea : Hd.addS l s = l := by unfold Hd.addS; rw [if_neg (fun e => e.2 hm)]
        have := List.idxOf_lt_length_of_mem hm
        refine ⟨by omega, by omega, ⟨n, ao', cap', nv, c', by rw [ea]; exact hln.symm, S⟩, fun _ => kp⟩
      · right
        have ea : Hd.addS l s = l ++ [s] := by unfold Hd.addS; rw [if_pos ⟨hg, hm⟩]
        refine ⟨?_, by rw [ea]; simp [hln], hm⟩
        rw [List.idxOf_eq_length hm, hln]
    · left
      have ea : Hd.addS l s = l := by unfold Hd.addS; rw [if_neg (fun e => hg e.1)]
      rw [if_neg hg, if_neg hg]
      exact ⟨rfl, rfl, ⟨n, ao', cap', nv, c', by rw [ea]; exact hln.symm, S⟩, fun _ => kp⟩
  have MP : Hid (∀ w2 : World, ((∃ ao' cap' c', HS W w2 x al (Hd.addS l s) n ao' cap' nv c') ∧ KpD w c w2) → w2.cell? ⟨x.hb, 2, none⟩ = some (.map (some x.lm)) ∧ LmAt w2 x.lm n) := hide fun w2 ⟨⟨ao', cap', c', S⟩, kp⟩ => ⟨S.h2, S.mp⟩
  have LS : Hid (∀ w2 : World, ((∃ ao' cap' c', HS W w2 x al (Hd.addS l s) n ao' cap' nv c') ∧ KpD w c w2) → (Hd.addS l s).length = n + 1 ∧ s ∉ l → Calls Tryz.prog 35 #[.pointer (some ⟨x.hb, 0, none⟩), .int .i64 (n : Int)] w2 fun r w' => r = .returned (.int .i64 (n : Int)) ∧ Hid ((∃ n' ao' cap' nv' c', n' = (Hd.addS l s).length ∧ HS W w' x al (Hd.addS l s) n' ao' cap' nv' c') ∧ AddK w c l s w')) := hide fun w2 ⟨⟨ao', cap', c', S⟩, kp⟩ hl => by
    refine (h_list (hide S) hn).mono ?_
    rintro r w' ⟨hr, nv', c'', S'⟩
    exact ⟨hr, hide ⟨⟨n + 1, ao', cap', nv', c'', hl.1.symm, S'⟩, fun e => absurd e hl.2⟩⟩
  have hwn : wfN (n : Int) := WalkArith.wf_i64 (n := (n : Int)) (by omega)
  have hwy : Hid (∀ y : Int, 0 ≤ y → y ≤ (n : Int) → wfN y) := hide fun y h1 h2 => WalkArith.wf_i64 (n := y) (by omega)
  rw [← hnV, ← hnE] at NB ⊢
  rw [← hsk, ← hsf, ← hsm] at NB BX hW1 ⊢
  generalize Hd.addS l s = la at NB WAY MP LS ⊢
  clear h hnV hnE hsk hsf hsm e1 hs hln hn
  replace g1 := hide g1
  replace z1 := hide z1
  go_enter Tryz.func15, Tryz.ntmps15
  go_upto_region 1 with fail
  rw [← hW1]
  clear hW1
  refine wp_region_noPanic ?_
  refine wp_region_held_drew (S := fun (y : World) => y.heap[w.heap.size]? = W1.heap[w.heap.size]? ∧ y.cell? ⟨x.hb, 0, none⟩ = some (.pointer (some ⟨x.b.cb, 0, none⟩))) (by kernel_rfl) ⟨rfl, unhide HB0 _ (G.drewN W1 1)⟩ (fun hHeld => ?_)
  obtain ⟨y1, hy1⟩ : ∃ y, y = W1.drew := ⟨_, rfl⟩
  have gy : G W1 y1 := by rw [hy1]; exact G.drewN W1 1
  rw [← hy1] at hHeld ⊢
  clear hy1
  refine wpAnyH_take (i := 0) (v := .pointer (some ⟨x.hb, 0, none⟩)) rfl (by kernel_rfl) (by kernel_rfl) (by kernel_rfl) (fun _ _ _ h => h) (Or.inl ⟨by rfl, fun w hSw => by go_simp⟩) (by assumption) ?_
  try simp only [Act.put, List.getElem_toArray, List.getElem_cons_zero, List.setIfInBounds_toArray, List.set_cons_zero, List.set_cons_succ]
  refine wpAnyH_take (i := 1) (v := .pointer (some ⟨x.hb, 0, none⟩)) rfl (by kernel_rfl) (by kernel_rfl) (by kernel_rfl) (fun _ _ _ h => h) (Or.inl ⟨by rfl, fun w hSw => by go_simp⟩) (by assumption) ?_
  try simp only [Act.put, List.getElem_toArray, List.getElem_cons_succ, List.getElem_cons_zero, List.setIfInBounds_toArray, List.set_cons_zero, List.set_cons_succ]
  refine wpAnyH_take (i := 2) (v := .pointer (some ⟨x.hb, 0, none⟩)) rfl (by kernel_rfl) (by kernel_rfl) (by kernel_rfl) (fun _ _ _ h => h) (Or.inl ⟨by rfl, fun w hSw => by go_simp⟩) (by assumption) ?_
  try simp only [Act.put, List.getElem_toArray, List.getElem_cons_succ, List.getElem_cons_zero, List.setIfInBounds_toArray, List.set_cons_zero, List.set_cons_succ]
  refine wpAnyH_take (i := 3) (v := .pointer (some ⟨x.b.cb, 0, none⟩)) rfl (by kernel_rfl) (by kernel_rfl) (by kernel_rfl) (fun _ _ _ h => h) (Or.inl ⟨by rfl, fun w hSw => by have t0 := hSw.2; go_simp⟩) (by assumption) ?_
  try simp only [Act.put, List.getElem_toArray, List.getElem_cons_succ, List.getElem_cons_zero, List.setIfInBounds_toArray, List.set_cons_zero, List.set_cons_succ]
  refine wpAnyH_take (i := 5) (v := .agg #[.int .i64 sk, .int .i64 sf, .int .u64 (sm : Int)]) rfl (by kernel_rfl) (by kernel_rfl) (by kernel_rfl) (fun _ _ _ h => h) (Or.inl ⟨by rfl, fun w hSw => by obtain ⟨t0, t1, t2⟩ := unhide BX w hSw.1; go_simp⟩) (by assumption) ?_
  try simp only [Act.put, List.getElem_toArray, List.getElem_cons_succ, List.getElem_cons_zero, List.setIfInBounds_toArray, List.set_cons_zero, List.set_cons_succ]
  refine wpAnyH_ready (rs := [4]) (by kernel_rfl) (by simp) ?_
  refine AllReadyH.cons rfl (fun K hK => ?_) AllReadyH.nil
  go_simp
  refine (unhide TB y1 gy).mono ?_
  rintro e w9 ⟨rfl, hw9⟩
  rw [hw9]
  clear hw9 w9
  go_wp2_with fail
  refine hK.out _ _ hHeld (fun hH9 => ?_)
  clear hK K hH9
  try simp only [Act.put, List.getElem_toArray, List.getElem_cons_succ, List.getElem_cons_zero, List.setIfInBounds_toArray, List.set_cons_zero, List.set_cons_succ]
  refine wpAnyH_ready (rs := [6]) (by kernel_rfl) (by simp) ?_
  refine AllReadyH.cons rfl (fun K hK => ?_) AllReadyH.nil
  go_simp
  refine (unhide NB y1 gy).mono ?_
  rintro e w2 ⟨rfl, S2⟩
  go_wp2_with fail
  have hS2 := (unhide S2).2
  refine hK.out _ _ hS2 (fun hH9 => ?_)
  clear hK K
  try simp only [Act.put, List.getElem_toArray, List.getElem_cons_succ, List.getElem_cons_zero, List.setIfInBounds_toArray, List.set_cons_zero, List.set_cons_succ]
  refine wpAnyH_take (i := 7) (v := .tuple #[.int .i64 nV, .int .i64 nE]) rfl (by kernel_rfl) (by kernel_rfl) (by kernel_rfl) (fun _ _ _ h => h) (Or.inl ⟨by rfl, fun w hSw => by go_simp⟩) (by assumption) ?_
  try simp only [Act.put, List.getElem_toArray, List.getElem_cons_succ, List.getElem_cons_zero, List.setIfInBounds_toArray, List.set_cons_zero, List.set_cons_succ]
  refine wpAnyH_take (i := 8) (v := .int .i64 nV) rfl (by kernel_rfl) (by kernel_rfl) (by kernel_rfl) (fun _ _ _ h => h) (Or.inl ⟨by rfl, fun w hSw => by go_simp⟩) (by assumption) ?_
  try simp only [Act.put, List.getElem_toArray, List.getElem_cons_succ, List.getElem_cons_zero, List.setIfInBounds_toArray, List.set_cons_zero, List.set_cons_succ]
  refine wpAnyH_take (i := 9) (v := .int .i64 nE) rfl (by kernel_rfl) (by kernel_rfl) (by kernel_rfl) (fun _ _ _ h => h) (Or.inl ⟨by rfl, fun w hSw => by go_simp⟩) (by assumption) ?_
  try simp only [Act.put, List.getElem_toArray, List.getElem_cons_succ, List.getElem_cons_zero, List.setIfInBounds_toArray, List.set_cons_zero, List.set_cons_succ]
  refine wpAnyH_take (i := 10) (v := .int .i64 nV) rfl (by kernel_rfl) (by kernel_rfl) (by kernel_rfl) (fun _ _ _ h => h) (Or.inl ⟨by rfl, fun w hSw => by go_simp⟩) (by assumption) ?_
  try simp only [Act.put, List.getElem_toArray, List.getElem_cons_succ, List.getElem_cons_zero, List.setIfInBounds_toArray, List.set_cons_zero, List.set_cons_succ]
  refine wpAnyH_take (i := 11) (v := .int .i64 nE) rfl (by kernel_rfl) (by kernel_rfl) (by kernel_rfl) (fun _ _ _ h => h) (Or.inl ⟨by rfl, fun w hSw => by go_simp⟩) (by assumption) ?_
  try simp only [Act.put, List.getElem_toArray, List.getElem_cons_succ, List.getElem_cons_zero, List.setIfInBounds_toArray, List.set_cons_zero, List.set_cons_succ]
  refine wpAnyH_done (by kernel_rfl) (NoPanic.normal ?_) _
  clear hHeld gy TB NB HB0 HH BX hS2 hH9
  have S3 := hide (unhide S2).1
  clear S2
  rcases unhide WAY w2 (unhide S3) with ⟨he, rfl, FE⟩ | ⟨rfl, ⟨h0, h1, FE⟩ | ⟨rfl, hl⟩⟩
  · replace FE := hide FE
    clear WAY MP LS
    go_wp2_with fail
    go_ret2
    exact ⟨rfl, unhide FE⟩
  · replace FE := hide FE
    obtain ⟨q2, D, hD, hK⟩ := unhide MP w2 (unhide S3)
    have hwV := unhide hwy nV h0 (by omega)
    have hkey : keyOf Tryz.prog 3 (.int .i64 nV) = some (.int .i64 nV) := keyOf_int_mk Tryz.underlying3 hwV
    have hhas : Maps.has D (.int .i64 nV) = true := by rw [(hK _ hwV).1]; simp; omega
    have hat0 := (hK _ hwV).2 ⟨h0, h1⟩
    clear WAY MP LS hK h0 h1 S3
    go_upto_region 5 with (at_lookup; refine wpList_lookup_own_ok_int _ rfl _ _ 81 rfl 3 3 .i64 keyI Tryz.underlying81 Tryz.underlying3 (zero_intH _) x.lm n D rfl hD _ _ rfl hkey ?_; intro cc hat hwc; obtain rfl : cc = nV := (by rw [hat0] at hat; simpa using hat.symm); rw [hhas])
    go_wp2_with fail
    go_ret2
    exact ⟨rfl, unhide FE⟩
  · obtain ⟨q2, D, hD, hK⟩ := unhide MP w2 (unhide S3)
    have hkey : keyOf Tryz.prog 3 (.int .i64 (n : Int)) = some (.int .i64 (n : Int)) := keyOf_int_mk Tryz.underlying3 hwn
    have hhas : Maps.has D (.int .i64 (n : Int)) = false := by rw [(hK _ hwn).1]; simp
    have CL := hide (unhide LS w2 (unhide S3) hl)
    clear WAY MP LS hK hl S3
    go_upto_region 5 with (at_lookup; refine wpList_lookup_own_ok_int _ rfl _ _ 81 rfl 3 3 .i64 keyI Tryz.underlying81 Tryz.underlying3 (zero_intH _) x.lm n D rfl hD _ _ rfl hkey ?_; intro cc hat hwc; rw [hhas])
    go_wp2_with fail
    refine (unhide CL).mono ?_
    rintro r w4 ⟨rfl, FE⟩
    clear CL
    go_wp2_with fail
    go_ret2
    exact ⟨rfl, unhide FE⟩
end
end Go.Proofs.YtbfgengmojdamaaGreatDoor

/- Package heap: New. -/
namespace Go.Proofs.YtbfgengmojdamaaGreatDoor
set_option maxRecDepth 100000
open Go.ChangeShapes Go.WideShapes Go.ChangeAt Go.RowKit Go.Maps Go.Deep

theorem hs_start {W w : World} {xl : Ld} {b : Kn} {N tm : Nat} (K : KS W w xl b (al0 N) 0 64 0) (T : Hd.TabAt w W.heap.size b.tb tm none 0 []) (A : ∀ d ∈ [b.cb, b.mb, b.kb, b.q, xl.d.ab, xl.d.wb, xl.d.sb, xl.ub, xl.lb], d ≠ b.tb ∧ d ≠ tm ∧ d < w.heap.size) (ht : b.tb ≠ tm) :
    ∃ c, HS W ((w.alloc (.map #[] 0)).alloc (.cells #[.pointer (some ⟨b.cb, 0, none⟩), .slice none 0 0, .map (some w.heap.size), .int .i64 0] 84)) ⟨xl, b, tm, w.heap.size + 1, w.heap.size⟩ (al0 N) [] 0 none 0 (.slice none 0 0) c := by
  have hW := K.st.below.size
  have z1 : (w.alloc (.map #[] 0)).heap.size = w.heap.size + 1 := World.size_alloc _ _
  have bm : ((w.alloc (.map #[] 0)).alloc (.cells #[.pointer (some ⟨b.cb, 0, none⟩), .slice none 0 0, .map (some w.heap.size), .int .i64 0] 84)).heap[w.heap.size + 1]? = some (.cells #[.pointer (some ⟨b.cb, 0, none⟩), .slice none 0 0, .map (some w.heap.size), .int .i64 0] 84 (0, 0)) := by
    have := heap_alloc_new (w.alloc (.map #[] 0)) (.cells #[.pointer (some ⟨b.cb, 0, none⟩), .slice none 0 0, .map (some w.heap.size), .int .i64 0] 84)
    rw [z1] at this
    exact this
  have g : G w ((w.alloc (.map #[] 0)).alloc (.cells #[.pointer (some ⟨b.cb, 0, none⟩), .slice none 0 0, .map (some w.heap.size), .int .i64 0] 84)) := (G.alloc _ _).more _
  have LM : LmAt ((w.alloc (.map #[] 0)).alloc (.cells #[.pointer (some ⟨b.cb, 0, none⟩), .slice none 0 0, .map (some w.heap.size), .int .i64 0] 84)) w.heap.size 0 :=
    ⟨.map [], (World.ownsMap_made w _ _ _).alloc _, fun y _ => ⟨by rw [Maps.has_eq]; simp, fun h => absurd h.2 (by simpa using h.1)⟩⟩
  have z2 : ((w.alloc (.map #[] 0)).alloc (.cells #[.pointer (some ⟨b.cb, 0, none⟩), .slice none 0 0, .map (some w.heap.size), .int .i64 0] 84)).heap.size = w.heap.size + 2 := by rw [World.size_alloc, z1]
  generalize (w.alloc (.map #[] 0)).alloc (.cells #[.pointer (some ⟨b.cb, 0, none⟩), .slice none 0 0, .map (some w.heap.size), .int .i64 0] 84) = w2 at *
  have hc : ∀ i : Nat, w2.cell? ⟨w.heap.size + 1, i, none⟩ = #[Value.pointer (some ⟨b.cb, 0, none⟩), .slice none 0 0, .map (some w.heap.size), .int .i64 0][i]? := fun i => by rw [cell_of_row _ _ _ _ _ _ bm]
  have l1 := T.tlt
  have l2 := T.mlt
  have F : ∀ d ∈ [b.cb, b.mb, b.kb, b.q, xl.d.ab, xl.d.wb, xl.d.sb, xl.ub, xl.lb], ∀ u v : Nat, (if d = b.tb then 3 else if d = tm then 4 else if d = w.heap.size + 1 then 6 else if d = w.heap.size then 7 else if d ∈ [b.cb, b.mb, b.kb, b.q] then u else v) = if d ∈ [b.cb, b.mb, b.kb, b.q] then u else v := fun d hd u v => by
    obtain ⟨a1, a2, a3⟩ := A d hd
    rw [if_neg a1, if_neg a2, if_neg (by omega), if_neg (by omega)]
  have F1 : ∀ d ∈ [xl.d.ab, xl.d.wb, xl.d.sb, xl.ub, xl.lb], d ∉ [b.cb, b.mb, b.kb, b.q] := fun d hd hm => by
    obtain ⟨_, _, k1, k2, k3, k4, k5⟩ := K.ap d hm
    simp only [List.mem_cons, List.not_mem_nil, or_false] at hd
    rcases hd with e | e | e | e | e
    · exact k4 e
    · exact k1 e
    · exact k2 e
    · exact k3 e
    · exact k5 e
  refine ⟨fun d => if d = b.tb then 3 else if d = tm then 4 else if d = w.heap.size + 1 then 6 else if d = w.heap.size then 7 else if d ∈ [b.cb, b.mb, b.kb, b.q] then 2 else 1, K.gr g, T.grown g, hc 0, hc 1, hc 2, hc 3, fun i => by simp [World.frozen?, bm], World.ownsRow_nil _ _ _ _, LM, ⟨by simp only; omega, by simp only; omega⟩, by simp only; omega, ?_, ?_, ?_, ?_, (fun a ea => by cases ea), ?_, ?_, (fun k hk => by cases hk)⟩
  · refine ⟨?_, ?_, ?_, ?_, ?_⟩
    · exact (F _ (by simp) 2 1).trans (if_neg (F1 _ (by simp)))
    · exact (F _ (by simp) 2 1).trans (if_neg (F1 _ (by simp)))
    · exact (F _ (by simp) 2 1).trans (if_neg (F1 _ (by simp)))
    · exact (F _ (by simp) 2 1).trans (if_neg (F1 _ (by simp)))
    · exact (F _ (by simp) 2 1).trans (if_neg (F1 _ (by simp)))
  · refine ⟨?_, ?_, ?_, ?_⟩
    · exact (F _ (by simp) 2 1).trans (if_pos (by simp))
    · exact (F _ (by simp) 2 1).trans (if_pos (by simp))
    · exact (F _ (by simp) 2 1).trans (if_pos (by simp))
    · exact (F _ (by simp) 2 1).trans (if_pos (by simp))
  · exact if_pos rfl
  · show (if tm = b.tb then 3 else _) = 4
    rw [if_neg (Ne.symm ht), if_pos rfl]
  · show (if w.heap.size + 1 = b.tb then 3 else if w.heap.size + 1 = tm then 4 else if w.heap.size + 1 = w.heap.size + 1 then 6 else _) = 6
    rw [if_neg (by omega), if_neg (by omega), if_pos rfl]
  · show (if w.heap.size = b.tb then 3 else if w.heap.size = tm then 4 else if w.heap.size = w.heap.size + 1 then 6 else if w.heap.size = w.heap.size then 7 else _) = 7
    rw [if_neg (by omega), if_neg (by omega), if_neg (by omega), if_pos rfl]
set_option maxHeartbeats 2000000 in
theorem h_new {W : World} (N : Nat) (h0 : 8 ≤ N) (h1 : N ≤ 512) (ht : Hid (Tab W)) (rb off cp : Nat) (ls : List Hd.Shp) (n : Nat) (hn : n = ls.length) (hlen : n ≤ 1000) (HG : Hid (∀ s ∈ ls, s.Fit ∧ s.good = true)) (ND : Hid ls.Nodup) (hb : rb < W.heap.size)
    (HE : Hid (∀ i s, ls[i]? = some s → W.cell? ⟨rb, off + i * 3, none⟩ = some (.int .i64 s.k) ∧ W.cell? ⟨rb, off + i * 3 + 1, none⟩ = some (.int .i64 s.f) ∧ W.cell? ⟨rb, off + i * 3 + 2, none⟩ = some (.int .u64 (s.m : Int)))) :
    Calls Tryz.prog 9 #[.int .i64 (N : Int), .slice (some ⟨rb, off, none⟩) n cp] W fun e w' => ∃ x, e = .returned (.tuple #[.pointer (some ⟨x.hb, 0, none⟩), .int .i64 0]) ∧ ∃ ao cap nv c, HS W w' x (al0 N) ls n ao cap nv c := by
  have hmm := @run_makeMap Tryz.prog
  have KN := hide (k_newT (W := W) (w := W) N h0 h1 (hide (Below.refl _ _)) ht)
  have hnn := hide hn
  replace h0 := hide h0
  replace h1 := hide h1
  clear hn
  go_enter Tryz.func9, Tryz.ntmps9
  go_wp2_with fail
  refine (unhide KN).mono ?_
  rintro e w1 ⟨xl, b, tm, rfl, K1, T1, A1, ht1⟩
  clear KN
  have KK := hide (And.intro K1 (And.intro T1 (And.intro A1 ht1)))
  clear K1 T1 A1 ht1
  go_wp2_with fail
  go_loopw [25] (fun c wr => ∃ t : Nat, t ≤ n ∧ c = .int .i64 t ∧ Hid (G w1 wr)) (fun c _ => n - (intOf c).toNat)
  case atStart => exact ⟨0, Nat.zero_le _, rfl, hide (G.refl _)⟩
  case round =>
    obtain ⟨t, htn, rfl, g⟩ := hrel
    by_cases hj : t = n
    · have hj' : n = t := hj.symm
      subst hj'
      clear hj
      obtain ⟨wa, hwa⟩ : ∃ wa, wa = wr := ⟨_, rfl⟩
      rw [← hwa] at g ⊢
      clear hwa
      have ST := hide (hs_start ((unhide KK).1.gr (unhide g)) ((unhide KK).2.1.grown (unhide g)) (fun d hd => ⟨((unhide KK).2.2.1 d hd).1, ((unhide KK).2.2.1 d hd).2.1, Nat.lt_of_lt_of_le ((unhide KK).2.2.1 d hd).2.2 (unhide g).size⟩) (unhide KK).2.2.2)
      obtain ⟨x, hx⟩ : ∃ x : Hx, x = ⟨xl, b, tm, wa.heap.size + 1, wa.heap.size⟩ := ⟨_, rfl⟩
      have xb : x.hb = wa.heap.size + 1 := by rw [hx]
      have xc : x.b.cb = b.cb := by rw [hx]
      rw [← hx] at ST
      clear hx g KK
      replace xb := hide xb
      replace xc := hide xc
      go_wp2_with fail
      go_loopw [39] (fun c wr => ∃ t : Nat, t ≤ n ∧ c = .int .i64 t ∧ Hid (∃ ao cap nv c, HS W wr x (al0 N) (ls.take t) t ao cap nv c)) (fun c _ => n - (intOf c).toNat)
      case atStart =>
        refine ⟨0, Nat.zero_le _, rfl, hide ?_⟩
        obtain ⟨c, S⟩ := unhide ST
        exact ⟨none, 0, .slice none 0 0, c, S⟩
      case round =>
        obtain ⟨t, htn, rfl, SS⟩ := hrel
        clear ST
        by_cases hj : t = n
        · have hj' : n = t := hj.symm
          subst hj'
          go_wp2_with fail
          go_ret2
          obtain ⟨ao, cap, nv, c, S⟩ := unhide SS
          refine ⟨x, by rw [unhide xb]; rfl, ao, cap, nv, c, ?_⟩
          rw [List.take_of_length_le (by have := unhide hnn; omega)] at S
          exact S
        · have hjl : (t : Int) < (n : Int) := by omega
          obtain ⟨s, hs⟩ : ∃ s, ls[t]? = some s := ⟨ls[t]'(by have := unhide hnn; omega), List.getElem?_eq_getElem _⟩
          obtain ⟨ao, cap, nv, c, S⟩ := unhide SS
          clear SS
          have hbw : Below W.heap.size W wr := S.ks.st.below
          have hbk : rb < wr.heap.size := Nat.lt_of_lt_of_le hb hbw.size
          have y0 := (hbw.cell (p := ⟨rb, off + t * 3, none⟩) hb).trans (unhide HE t s hs).1
          have y1 := (hbw.cell (p := ⟨rb, off + t * 3 + 1, none⟩) hb).trans (unhide HE t s hs).2.1
          have y2 := (hbw.cell (p := ⟨rb, off + t * 3 + 2, none⟩) hb).trans (unhide HE t s hs).2.2
          obtain ⟨hfit, hgood⟩ := unhide HG s (List.mem_of_getElem? hs)
          have hnot : s ∉ ls.take t := fun hm => by
            obtain ⟨q, hq⟩ := List.getElem?_of_mem hm
            rw [List.getElem?_take] at hq
            split at hq
            · rename_i hqt
              have := (List.getElem?_inj (i := q) (j := t) (by have := unhide hnn; omega) (unhide ND)).1 (hq.trans hs.symm)
              omega
            · cases hq
          have htl : (ls.take t).length = t := by rw [List.length_take]; have := unhide hnn; omega
          have hadd : Hd.addS (ls.take t) s = ls.take (t + 1) := by
            unfold Hd.addS
            rw [if_pos ⟨hgood, hnot⟩, List.take_add_one, hs]
            rfl
          have hV : Hd.numV (ls.take t) s = (t : Int) := by
            unfold Hd.numV
            rw [if_pos hgood, List.idxOf_eq_length hnot, htl]
          have hE0 : Hd.numE s = 0 := by unfold Hd.numE; rw [if_pos hgood]
          obtain ⟨W1, hW1⟩ : ∃ W1, W1 = wr.alloc (.cells #[.int .i64 s.k, .int .i64 s.f, .int .u64 (s.m : Int)] 29) := ⟨_, rfl⟩
          have g1 : G wr W1 := by rw [hW1]; exact G.alloc _ _
          have e1 : W1.heap[wr.heap.size]? = some (.cells #[.int .i64 s.k, .int .i64 s.f, .int .u64 (s.m : Int)] 29) := by rw [hW1]; exact heap_alloc_new wr _
          have z1 : wr.heap.size < W1.heap.size := by rw [hW1, World.size_alloc]; omega
          have BX : Hid (∀ y : World, y.heap[wr.heap.size]? = W1.heap[wr.heap.size]? → y.cell? ⟨wr.heap.size, 0, none⟩ = some (.int .i64 s.k) ∧ y.cell? ⟨wr.heap.size, 1, none⟩ = some (.int .i64 s.f) ∧ y.cell? ⟨wr.heap.size, 2, none⟩ = some (.int .u64 (s.m : Int))) := hide fun y hy => by
            have e := hy.trans e1
            exact ⟨by rw [cell_of_row _ _ _ _ _ _ e]; rfl, by rw [cell_of_row _ _ _ _ _ _ e]; rfl, by rw [cell_of_row _ _ _ _ _ _ e]; rfl⟩
          have HH : Hid (∀ y, G W1 y → HS W y x (al0 N) (ls.take t) t ao cap nv (fun d => if wr.heap.size ≤ d then 9 else c d)) := hide fun y g => (S.gr (g1.trans g)).recol wr S
          have TB : Hid (∀ y, G W1 y → Calls Tryz.prog 33 #[.pointer (some ⟨b.cb, 0, none⟩)] y fun e w' => e = .returned (.pointer (some ⟨x.b.tb, 0, none⟩)) ∧ w' = y) := hide fun y g => by
            rw [← unhide xc]
            exact k_table (hide (unhide HH y g).ks)
          have NB : Hid (∀ y, G W1 y → Calls Tryz.prog 34 #[.pointer (some ⟨x.b.tb, 0, none⟩), .agg #[.int .i64 s.k, .int .i64 s.f, .int .u64 (s.m : Int)]] y fun e w' => e = .returned (.tuple #[.int .i64 (t : Int), .int .i64 0]) ∧ Hid ((∃ ao' cap' c', HS W w' x (al0 N) (ls.take (t + 1)) t ao' cap' nv c') ∧ w'.heap[wr.heap.size]? = W1.heap[wr.heap.size]?)) := hide fun y g => by
            refine (hs_number (unhide HH y g) s hfit (by rw [htl]; omega)).mono ?_
            rintro e w' ⟨he, ⟨ao', cap', c', S⟩, hk⟩
            rw [hadd] at S
            rw [hV, hE0] at he
            exact ⟨he, hide ⟨⟨ao', cap', c', S⟩, (hk _ (by have := g.size; omega) (by simp) (by simp) (by simp)).trans (g.block _ z1)⟩⟩
          have LS : Hid (∀ w2 : World, (∃ ao' cap' c', HS W w2 x (al0 N) (ls.take (t + 1)) t ao' cap' nv c') → Calls Tryz.prog 35 #[.pointer (some ⟨wa.heap.size + 1, 0, none⟩), .int .i64 (t : Int)] w2 fun r w' => r = .returned (.int .i64 (t : Int)) ∧ Hid (∃ ao cap nv c, HS W w' x (al0 N) (ls.take (t + 1)) (t + 1) ao cap nv c)) := hide fun w2 ⟨ao', cap', c', S⟩ => by
            rw [← unhide xb]
            refine (h_list (hide S) (by omega)).mono ?_
            rintro r w' ⟨hr, nv', c'', S'⟩
            exact ⟨hr, hide ⟨ao', cap', nv', c'', S'⟩⟩
          obtain ⟨sk, hsk⟩ : ∃ sk, sk = s.k := ⟨_, rfl⟩
          obtain ⟨sf, hsf⟩ : ∃ sf, sf = s.f := ⟨_, rfl⟩
          obtain ⟨sm, hsm⟩ : ∃ sm, sm = s.m := ⟨_, rfl⟩
          rw [← hsk, ← hsf, ← hsm] at NB BX hW1
          rw [← hsk] at y0
          rw [← hsf] at y1
          rw [← hsm] at y2
          clear hsk hsf hsm e1 S hbw hfit hgood hnot htl hadd hV hE0 HH hs hj
          replace g1 := hide g1
          replace z1 := hide z1
          go_upto_region 14 with fail
          rw [← hW1]
          clear hW1 y0 y1 y2 hbk
          refine wp_region_noPanic ?_
          refine wp_region_held_drew (S := fun (y : World) => y.heap[wr.heap.size]? = W1.heap[wr.heap.size]?) (by kernel_rfl) rfl (fun hHeld => ?_)
          obtain ⟨y1, hy1⟩ : ∃ y, y = W1.drew := ⟨_, rfl⟩
          have gy : G W1 y1 := by rw [hy1]; exact G.drewN W1 1
          rw [← hy1] at hHeld ⊢
          clear hy1
          refine wpAnyH_take (i := 0) (v := .pointer (some ⟨b.cb, 0, none⟩)) rfl (by kernel_rfl) (by kernel_rfl) (by kernel_rfl) (fun _ _ _ h => h) (Or.inl ⟨by rfl, fun w hSw => by go_simp⟩) (by assumption) ?_
          try simp only [Act.put, List.getElem_toArray, List.getElem_cons_zero, List.setIfInBounds_toArray, List.set_cons_zero, List.set_cons_succ]
          refine wpAnyH_take (i := 2) (v := .agg #[.int .i64 sk, .int .i64 sf, .int .u64 (sm : Int)]) rfl (by kernel_rfl) (by kernel_rfl) (by kernel_rfl) (fun _ _ _ h => h) (Or.inl ⟨by rfl, fun w hSw => by obtain ⟨t0, t1, t2⟩ := unhide BX w hSw; go_simp⟩) (by assumption) ?_
          try simp only [Act.put, List.getElem_toArray, List.getElem_cons_succ, List.getElem_cons_zero, List.setIfInBounds_toArray, List.set_cons_zero, List.set_cons_succ]
          refine wpAnyH_ready (rs := [1]) (by kernel_rfl) (by simp) ?_
          refine AllReadyH.cons rfl (fun K hK => ?_) AllReadyH.nil
          go_simp
          refine (unhide TB y1 gy).mono ?_
          rintro e w9 ⟨rfl, hw9⟩
          rw [hw9]
          clear hw9 w9
          go_wp2_with fail
          refine hK.out _ _ hHeld (fun hH9 => ?_)
          clear hK K hH9
          try simp only [Act.put, List.getElem_toArray, List.getElem_cons_succ, List.getElem_cons_zero, List.setIfInBounds_toArray, List.set_cons_zero, List.set_cons_succ]
          refine wpAnyH_ready (rs := [3]) (by kernel_rfl) (by simp) ?_
          refine AllReadyH.cons rfl (fun K hK => ?_) AllReadyH.nil
          go_simp
          refine (unhide NB y1 gy).mono ?_
          rintro e w2 ⟨rfl, S2⟩
          go_wp2_with fail
          have hS2 := (unhide S2).2
          refine hK.out _ _ hS2 (fun hH9 => ?_)
          clear hK K
          try simp only [Act.put, List.getElem_toArray, List.getElem_cons_succ, List.getElem_cons_zero, List.setIfInBounds_toArray, List.set_cons_zero, List.set_cons_succ]
          refine wpAnyH_take (i := 4) (v := .tuple #[.int .i64 (t : Int), .int .i64 0]) rfl (by kernel_rfl) (by kernel_rfl) (by kernel_rfl) (fun _ _ _ h => h) (Or.inl ⟨by rfl, fun w hSw => by go_simp⟩) (by assumption) ?_
          try simp only [Act.put, List.getElem_toArray, List.getElem_cons_succ, List.getElem_cons_zero, List.setIfInBounds_toArray, List.set_cons_zero, List.set_cons_succ]
          refine wpAnyH_take (i := 5) (v := .int .i64 (t : Int)) rfl (by kernel_rfl) (by kernel_rfl) (by kernel_rfl) (fun _ _ _ h => h) (Or.inl ⟨by rfl, fun w hSw => by go_simp⟩) (by assumption) ?_
          try simp only [Act.put, List.getElem_toArray, List.getElem_cons_succ, List.getElem_cons_zero, List.setIfInBounds_toArray, List.set_cons_zero, List.set_cons_succ]
          refine wpAnyH_take (i := 6) (v := .int .i64 0) rfl (by kernel_rfl) (by kernel_rfl) (by kernel_rfl) (fun _ _ _ h => h) (Or.inl ⟨by rfl, fun w hSw => by go_simp⟩) (by assumption) ?_
          try simp only [Act.put, List.getElem_toArray, List.getElem_cons_succ, List.getElem_cons_zero, List.setIfInBounds_toArray, List.set_cons_zero, List.set_cons_succ]
          refine wpAnyH_take (i := 7) (v := .int .i64 (t : Int)) rfl (by kernel_rfl) (by kernel_rfl) (by kernel_rfl) (fun _ _ _ h => h) (Or.inl ⟨by rfl, fun w hSw => by go_simp⟩) (by assumption) ?_
          try simp only [Act.put, List.getElem_toArray, List.getElem_cons_succ, List.getElem_cons_zero, List.setIfInBounds_toArray, List.set_cons_zero, List.set_cons_succ]
          refine wpAnyH_take (i := 8) (v := .int .i64 0) rfl (by kernel_rfl) (by kernel_rfl) (by kernel_rfl) (fun _ _ _ h => h) (Or.inl ⟨by rfl, fun w hSw => by go_simp⟩) (by assumption) ?_
          try simp only [Act.put, List.getElem_toArray, List.getElem_cons_succ, List.getElem_cons_zero, List.setIfInBounds_toArray, List.set_cons_zero, List.set_cons_succ]
          refine wpAnyH_done (by kernel_rfl) (NoPanic.normal ?_) _
          have CL := hide (unhide LS w2 (unhide S2).1)
          clear hHeld gy TB NB BX hS2 hH9 S2 LS g1 z1
          go_wp2_with fail
          refine (unhide CL).mono ?_
          rintro r w4 ⟨rfl, FE⟩
          clear CL
          go_wp2_with fail
          go_round
          case rel => exact ⟨t + 1, by omega, by go_num, FE⟩
          case measure => simp [intOf]; omega
    · have hjl : (t : Int) < (n : Int) := by omega
      obtain ⟨s, hs⟩ : ∃ s, ls[t]? = some s := ⟨ls[t]'(by have := unhide hnn; omega), List.getElem?_eq_getElem _⟩
      have hgood : Hd.goodB s.k s.f s.m = true := (unhide HG s (List.mem_of_getElem? hs)).2
      have hbw : Below W.heap.size W wr := Below.trans (unhide KK).1.st.below ((unhide g).mono (unhide KK).1.st.below.size)
      have hbk : rb < wr.heap.size := Nat.lt_of_lt_of_le hb hbw.size
      have y0 := (hbw.cell (p := ⟨rb, off + t * 3, none⟩) hb).trans (unhide HE t s hs).1
      have y1 := (hbw.cell (p := ⟨rb, off + t * 3 + 1, none⟩) hb).trans (unhide HE t s hs).2.1
      have y2 := (hbw.cell (p := ⟨rb, off + t * 3 + 2, none⟩) hb).trans (unhide HE t s hs).2.2
      clear hj hs hbw
      go_wp2_with fail
      refine (Hd.good_any _ _ _ _).mono ?_
      rintro e w2 ⟨rfl, hw2⟩
      have g2 : Hid (G w1 w2) := hide (by rw [hw2]; exact (((unhide g).more _).more _))
      rw [hgood]
      clear hw2 hgood y0 y1 y2 hbk g
      go_wp2_with fail
      go_round
      case rel => exact ⟨t + 1, by omega, by go_num, g2⟩
      case measure => simp [intOf]; omega

end Go.Proofs.YtbfgengmojdamaaGreatDoor

/- Package heap: what awake's calls come to, reckoned. -/
namespace Go.Proofs.YtbfgengmojdamaaGreatDoor
set_option maxRecDepth 100000
open Go.ChangeShapes Go.WideShapes Go.ChangeAt Go.RowKit Go.Maps Go.Deep

def ls3 : List Hd.Shp := [⟨0, 2, 2⟩, ⟨1, 0, 0⟩, ⟨1, 0, 1⟩]
theorem ls3_ok : ∀ s ∈ ls3, s.Fit ∧ s.good = true := by
  intro s hs
  simp only [ls3, List.mem_cons, List.not_mem_nil, or_false] at hs
  rcases hs with rfl | rfl | rfl <;> exact ⟨⟨by decide, by decide, by decide⟩, by decide⟩
theorem ls3_nd : ls3.Nodup := by decide
/-- Behind Make(0, 3), Make(1, 4), Set(a, 0, 9), Put(b, 2, 5). -/
def qt1 : Al := ((al0 8).take 3).1
def q1 : Al := ⟨qt1.a.writeA 64 0 (Hd.pkV 3 0 0), qt1.u⟩
def qt2 : Al := (q1.take 4).1
def q2 : Al := ⟨qt2.a.writeA 68 0 (Hd.pkV 4 1 1), qt2.u⟩
def q3 : Al := ⟨q2.a.writeA 64 (wrap64 (0 + 1)) 9, q2.u⟩
def q4 : Al := ⟨q3.a.writeA 68 (wrap64 (2 + 1)) 5, q3.u⟩
theorem tr_of {p : Al × Int × Int} {v e : Int} (h : p.2 = (v, e)) : p = (p.1, v, e) := by rw [← h]
theorem q_t1 : (al0 8).take 3 = (qt1, 64, 0) := tr_of (by decide +kernel)
theorem q_t2 : q1.take 4 = (qt2, 68, 0) := tr_of (by decide +kernel)
theorem q_g1 : getT q2 ls3 64 1 true = (0, 0) := by decide +kernel
theorem q_s1 : getT q2 ls3 64 0 false = (0, 0) := by decide +kernel
theorem q_g2 : getT q3 ls3 64 0 false = (9, 0) := by decide +kernel
theorem q_p1 : atT q3 ls3 68 2 false = (0, 0) := by decide +kernel
theorem q_a1 : atT q4 ls3 68 2 false = (5, 0) := by decide +kernel
theorem q_l1 : lenT q4 ls3 68 = (3, 0) := by decide +kernel
theorem q_o1 : ofP q4 ls3 64 = some (3, 0, 0, ⟨0, 2, 2⟩) := by decide +kernel
theorem q_n1 : Hd.numV ls3 ⟨1, 0, 0⟩ = 1 ∧ Hd.numE ⟨1, 0, 0⟩ = 0 ∧ Hd.addS ls3 ⟨1, 0, 0⟩ = ls3 := by decide +kernel
-- HeapKnown's
theorem q_k1 : getT q2 ls3 0 0 false = (0, 1) := by decide +kernel
theorem q_k2 : getT q2 ls3 64 0 true = (0, 1) := by decide +kernel
theorem q_k3 : getT q2 ls3 64 2 false = (0, 1) := by decide +kernel
theorem q_k4 : atT q2 ls3 68 3 false = (0, 2) := by decide +kernel
theorem q_k5 : atT q2 ls3 68 (-1) false = (0, 2) := by decide +kernel
theorem q_k6 : atT q2 ls3 64 0 false = (0, 1) := by decide +kernel
theorem q_k7 : lenT q2 ls3 64 = (0, 1) := by decide +kernel
theorem q_n2 : Hd.numV ls3 ⟨3, 0, 0⟩ = 3 ∧ Hd.numE ⟨3, 0, 0⟩ = 0 := by decide +kernel
theorem q_n3 (l : List Hd.Shp) : Hd.numV l ⟨7, 0, 0⟩ = 0 ∧ Hd.numE ⟨7, 0, 0⟩ = 1 := ⟨rfl, rfl⟩
end Go.Proofs.YtbfgengmojdamaaGreatDoor

/- Package gantlinelaw14's small calls on a Heap of 8 spans with the law's shapes. -/
namespace Go.Proofs.YtbfgengmojdamaaGreatDoor
set_option maxRecDepth 100000
open Go.ChangeShapes Go.WideShapes Go.ChangeAt Go.RowKit Go.Maps Go.Deep

def shp3 : Obj := .cells #[.int .i64 0, .int .i64 2, .int .u64 2, .int .i64 1, .int .i64 0, .int .u64 0, .int .i64 1, .int .i64 0, .int .u64 1] 29
theorem shp3_at (w : World) : ∀ i s, ls3[i]? = some s → (w.alloc shp3).cell? ⟨w.heap.size, 0 + i * 3, none⟩ = some (.int .i64 s.k) ∧ (w.alloc shp3).cell? ⟨w.heap.size, 0 + i * 3 + 1, none⟩ = some (.int .i64 s.f) ∧ (w.alloc shp3).cell? ⟨w.heap.size, 0 + i * 3 + 2, none⟩ = some (.int .u64 (s.m : Int)) := by
  intro i s hs
  unfold shp3
  rw [World.cell?_alloc_new, World.cell?_alloc_new, World.cell?_alloc_new]
  match i, hs with
  | 0, hs => cases hs; exact ⟨rfl, rfl, rfl⟩
  | 1, hs => cases hs; exact ⟨rfl, rfl, rfl⟩
  | 2, hs => cases hs; exact ⟨rfl, rfl, rfl⟩
  | i + 3, hs => simp [ls3] at hs
theorem shapes14 (w : World) : Calls Tryz.prog 10 #[] w fun r w' => r = .returned (.slice (some ⟨w.heap.size, 0, none⟩) 3 3) ∧ w' = w.alloc shp3 := by
  unfold shp3
  go_enter Tryz.func10, Tryz.ntmps10
  go_wp2_with fail
  go_ret
  exact ⟨rfl, rfl⟩
theorem new14 (w w1 : World) (hw : w1 = w.alloc shp3) (ht : Tab w) : Calls Tryz.prog 9 #[.int .i64 8, .slice (some ⟨w.heap.size, 0, none⟩) 3 3] w1 fun e w' => ∃ x, e = .returned (.tuple #[.pointer (some ⟨x.hb, 0, none⟩), .int .i64 0]) ∧ ∃ ao cap nv c, HS w1 w' x (al0 8) ls3 3 ao cap nv c := by
  subst hw
  exact h_new 8 (by decide) (by decide) (hide (Tab.later ht (G.alloc _ _))) w.heap.size 0 3 ls3 3 rfl (by decide) (hide ls3_ok) (hide ls3_nd) (by rw [World.size_alloc]; omega) (hide (shp3_at w))
section
variable {W w : World} {x : Hx} {al : Al} {ao : Option Addr} {cap : Nat} {nv : Value} {c : Nat → Nat}
theorem mk1 (h : Hid (HS W w x (al0 8) ls3 3 ao cap nv c)) (rv : Value) : Calls Tryz.prog 11 #[.pointer (some ⟨x.hb, 0, none⟩), .int .i64 0, .int .i64 3, rv] w fun r w' => r = .returned (.tuple #[.int .i64 64, .int .i64 0]) ∧ HS W w' x q1 ls3 3 ao cap nv c :=
  h_make h 0 (by decide) ⟨0, 2, 2⟩ rfl 3 64 (by decide) (by decide) qt1 (hide q_t1) rv
theorem mk2 (h : Hid (HS W w x q1 ls3 3 ao cap nv c)) (rv : Value) : Calls Tryz.prog 11 #[.pointer (some ⟨x.hb, 0, none⟩), .int .i64 1, .int .i64 4, rv] w fun r w' => r = .returned (.tuple #[.int .i64 68, .int .i64 0]) ∧ HS W w' x q2 ls3 3 ao cap nv c :=
  h_make h 1 (by decide) ⟨1, 0, 0⟩ rfl 4 68 (by decide) (by decide) qt2 (hide q_t2) rv
theorem get14 (a f : Int) (ad : Bool) (v t : Int) (e : getT al ls3 a f ad = (v, t)) (h : Hid (HS W w x al ls3 3 ao cap nv c)) : Calls Tryz.prog 12 #[.pointer (some ⟨x.hb, 0, none⟩), .int .i64 a, .int .i64 f, .bool ad] w fun r w' => r = .returned (.tuple #[.int .i64 v, .int .i64 t]) ∧ HS W w' x al ls3 3 ao cap nv c :=
  (h_get h a f ad).mono fun _ _ hh => by rw [e] at hh; exact ⟨hh.1, (unhide h).gr hh.2⟩
theorem at14 (a f : Int) (ad : Bool) (v t : Int) (e : atT al ls3 a f ad = (v, t)) (h : Hid (HS W w x al ls3 3 ao cap nv c)) : Calls Tryz.prog 13 #[.pointer (some ⟨x.hb, 0, none⟩), .int .i64 a, .int .i64 f, .bool ad] w fun r w' => r = .returned (.tuple #[.int .i64 v, .int .i64 t]) ∧ HS W w' x al ls3 3 ao cap nv c :=
  (h_at h a f ad).mono fun _ _ hh => by rw [e] at hh; exact ⟨hh.1, (unhide h).gr hh.2⟩
theorem len14 (a v t : Int) (e : lenT al ls3 a = (v, t)) (h : Hid (HS W w x al ls3 3 ao cap nv c)) : Calls Tryz.prog 14 #[.pointer (some ⟨x.hb, 0, none⟩), .int .i64 a] w fun r w' => r = .returned (.tuple #[.int .i64 v, .int .i64 t]) ∧ HS W w' x al ls3 3 ao cap nv c :=
  (h_len h a).mono fun _ _ hh => by rw [e] at hh; exact ⟨hh.1, (unhide h).gr hh.2⟩
theorem st1 (h : Hid (HS W w x q2 ls3 3 ao cap nv c)) : Calls Tryz.prog 30 #[.pointer (some ⟨x.hb, 0, none⟩), .int .i64 64, .int .i64 0, .int .i64 9, .bool false, .bool true, .int .i64 1] w fun r w' => r = .returned (.int .i64 0) ∧ HS W w' x q3 ls3 3 ao cap nv c :=
  (h_set h 64 0 9 false true 1).mono fun _ _ hh => by rw [q_s1, if_pos rfl] at hh; exact hh
theorem pt1 (h : Hid (HS W w x q3 ls3 3 ao cap nv c)) : Calls Tryz.prog 22 #[.pointer (some ⟨x.hb, 0, none⟩), .int .i64 68, .int .i64 2, .int .i64 5, .bool false, .bool true, .int .i64 1] w fun r w' => r = .returned (.int .i64 0) ∧ HS W w' x q4 ls3 3 ao cap nv c :=
  (h_put h 68 2 5 false true 1).mono fun _ _ hh => by rw [q_p1, if_pos rfl] at hh; exact hh
theorem of1 (h : Hid (HS W w x q4 ls3 3 ao cap nv c)) : Calls Tryz.prog 18 #[.pointer (some ⟨x.hb, 0, none⟩), .int .i64 64] w fun r w' => r = .returned (.tuple #[.agg #[.int .i64 3, .int .i64 0, .int .i64 0], .agg #[.int .i64 0, .int .i64 2, .int .u64 2], .bool true]) ∧ HS W w' x q4 ls3 3 ao cap nv c :=
  (h_of h 64).mono fun _ _ hh => by rw [q_o1] at hh; exact ⟨hh.1, (unhide h).gr hh.2⟩
theorem ad1 (h : Hid (HS W w x al ls3 3 ao cap nv c)) : Calls Tryz.prog 15 #[.pointer (some ⟨x.hb, 0, none⟩), .agg #[.int .i64 1, .int .i64 0, .int .u64 0]] w fun r w' => r = .returned (.tuple #[.int .i64 1, .int .i64 0]) ∧ (∃ ao cap nv c, HS W w' x al ls3 3 ao cap nv c) ∧ KpD w c w' :=
  (h_add h rfl (by decide) ⟨1, 0, 0⟩ ⟨by decide, by decide, by decide⟩).mono fun _ _ hh => by
    obtain ⟨hr, ⟨n', ao', cap', nv', c', hn', S⟩, hk⟩ := hh
    rw [q_n1.2.2] at S hn'
    rw [q_n1.1, q_n1.2.1] at hr
    subst hn'
    exact ⟨hr, ⟨ao', cap', nv', c', S⟩, hk (by decide)⟩
end
end Go.Proofs.YtbfgengmojdamaaGreatDoor
