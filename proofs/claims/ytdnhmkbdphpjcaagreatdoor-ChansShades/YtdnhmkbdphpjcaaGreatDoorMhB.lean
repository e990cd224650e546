/- Here, one behind the other: HpAdd, HpNew, HpNew2, CzV, CzV2, CzV3, CzV4, CzV5, CzV6, CzV7, CzV8, CzH, CzStep, HpG, HpG2, CzSt, CzShP. -/
import Derived.Test.YtdnhmkbdphpjcaaGreatDoorMhA
import Derived.Deep.DeepCutAuto
import Derived.Deep.RegionHeld3
import Derived.Test.YtdnhmkbdphpjcaaGreatDoorGreyQ
import Derived.Maps.OwnSet
import Derived.Maps.OwnOps
/- Package heap: list, Add. -/
namespace Go.Proofs.YtdnhmkbdphpjcaaGreatDoor
set_option maxRecDepth 100000
open Go.ChangeShapes Go.WideShapes Go.ChangeAt Go.RowKit Go.Maps Go.Deep

theorem info_intH : (Tryz.prog.info? 3).map (fun i => (i.zero, i.size, i.bytes)) = some (some (.int .i64 0), 1, 8) := by kernel_rfl
theorem zero_intH (w : World) : (zeroValue 3).run Tryz.prog w = .ok (.int .i64 0) w := by kernel_rfl
theorem wpl_aph {ops : Array Oper} {rest : List Oper} {o : Oper} {a : Act} {w : World} {Q : Exit → Act → World → Prop} (hgd : o.guard = none) (s x : Operand) (t : TypeId) (ho : o.op = .call { callee := .builtin .append, args := #[s, x], argTypes := #[t, t] })
    (vs vx : Value) (hs : a.eval s = vs) (hx : a.eval x = vx) (v' : Value) (w' : World) (hrun : (Builtin.append_ #[t, t] o.type #[vs, vx]).run Tryz.prog w = .ok v' w') (h : wpList Tryz.prog ops Q rest (a.put o.dst v') w') : wpList Tryz.prog ops Q (o :: rest) a w := by
  refine wpList_plain hgd fun K hK => ?_
  unfold Oper.wp execOp
  simp only [ho, resolve, invoke, builtin, Sem.run_bind, Sem.run_pure, Result.andThen_ok, List.map_toArray, List.map_cons, List.map_nil, hs, hx, hrun]
  exact hK _ _ h
theorem nrL_succ (n : Nat) : nrL (n + 1) = nrL n ++ [.int .i64 (n : Int)] := by
  unfold nrL
  rw [List.range_succ, List.map_append]
  rfl
theorem nr_app {w : World} {B n : Nat} {v : Value} (h : NrAt w B v n) (hB : B ≤ w.heap.size) (hn : n ≤ 1000000) :
    ∃ v' w', (Builtin.append_ #[75, 75] 75 #[v, .slice (some ⟨w.heap.size, 0, none⟩) 1 1]).run Tryz.prog (w.alloc (.cells #[.int .i64 (n : Int)] 3)) = .ok v' w' ∧ NrAt w' B v' (n + 1) ∧ (w.alloc (.cells #[.int .i64 (n : Int)] 3)).grownBy w' v.ownBlock ∧ (v'.ownBlock = v.ownBlock ∨ v'.ownBlock = some (w.heap.size + 1)) := by
  obtain ⟨i, hi, hz, hs, hb⟩ := info_parts info_intH
  have ga := G.alloc w (.cells #[.int .i64 (n : Int)] 3)
  have h2 : NrAt (w.alloc (.cells #[.int .i64 (n : Int)] 3)) B v n := by
    rcases h.2 with h0 | ⟨g, cp, cur, e1, e2, e3, e4⟩
    · exact ⟨h.1, Or.inl h0⟩
    · refine ⟨h.1, Or.inr ⟨g, cp, cur, e1, e2, ?_, e4⟩⟩
      have hlt : g < w.heap.size := by
        rcases Nat.lt_or_ge g w.heap.size with hh | hh
        · exact hh
        · rw [Array.getElem?_eq_none hh] at e3; cases e3
      rw [ga.block g hlt]; exact e3
  obtain ⟨v', w', hrun, r1, r2, _, r4⟩ := run_append_own_at (P := Tryz.prog) (w.alloc (.cells #[.int .i64 (n : Int)] 3)) B 75 75 3 i _ 1 8 Tryz.underlying75 hi hz hs hb rfl (by decide) v n _ h2 ⟨w.heap.size, 0, none⟩ 1 1 [.int .i64 (n : Int)] rfl (fun j u hj => by
      rw [Addr.add_lit, cell_of_row _ _ _ _ _ _ (heap_alloc_new w _), Nat.zero_add]
      simpa using hj) (fun u hu => by simp at hu; subst hu; rfl) (by unfold maxLen; omega) (by omega) (Nat.le_trans hB ga.size)
  refine ⟨v', w', hrun, ?_, r2, ?_⟩
  · show w'.ownsRow B 3 1 v' (n + 1) (nrL (n + 1))
    rw [nrL_succ]
    exact r1
  · rw [World.size_alloc] at r4; exact r4
section
variable {W w : World} {x : Hx} {al : Al} {l : List Hd.Shp} {n : Nat} {ao : Option Addr} {cap : Nat} {nv : Value} {c : Nat → Nat}
theorem HS.nlo (h : HS W w x al l n ao cap nv c) : ∀ k, nv.ownBlock = some k → W.heap.size ≤ k := fun k hk => by
  rcases h.num.2 with ⟨e, _⟩ | ⟨g, cp, cur, e, h2, _⟩
  · rw [e] at hk; cases hk
  · rw [e] at hk
    obtain rfl : g = k := by simpa [Value.ownBlock] using hk
    exact h2
theorem HS.listed {w2 w4 : World} {v' : Value} (h : HS W w x al l n ao cap nv c) (g2 : (w.alloc (.cells #[.int .i64 (n : Int)] 3)).grownBy w2 nv.ownBlock) (r : NrAt w2 W.heap.size v' (n + 1)) (ob : v'.ownBlock = nv.ownBlock ∨ v'.ownBlock = some (w.heap.size + 1)) (g4 : (w2.setCell ⟨x.hb, 1, none⟩ v').grownBy w4 (some x.lm)) (m4 : LmAt w4 x.lm (n + 1)) :
    ∃ c', HS W w4 x al l (n + 1) ao cap v' c' := by
  have ga := G.alloc w (.cells #[.int .i64 (n : Int)] 3)
  have s2 := g2.size
  have s4 := g4.size
  rw [World.size_alloc] at s2
  rw [World.size_setCell] at s4
  have hl := h.hlt
  have lo := h.lo
  have hne : x.hb ≠ x.lm := fun e => by have := h.c6; rw [e, h.c7] at this; omega
  have k2 : ∀ d, d < w.heap.size → c d ≠ 8 → w2.heap[d]? = w.heap[d]? := fun d hd h8 => (g2.block d (by rw [World.size_alloc]; omega) (fun e => h8 (h.c8 d e.symm))).trans (ga.block d hd)
  have k4 : ∀ d, d < w2.heap.size → d ≠ x.hb → d ≠ x.lm → w4.heap[d]? = w2.heap[d]? := fun d hd h6 h7 => (g4.block d (by rw [World.size_setCell]; exact hd) (fun e => h7 (Option.some.inj e))).trans (Below.heap_setCell _ _ _ _ (by simpa using h6))
  have k : ∀ d, d < w.heap.size → c d ≠ 6 → c d ≠ 7 → c d ≠ 8 → w4.heap[d]? = w.heap[d]? := fun d hd h6 h7 h8 => (k4 d (by omega) (fun e => h6 (by rw [e]; exact h.c6)) (fun e => h7 (by rw [e]; exact h.c7))).trans (k2 d hd h8)
  have kh2 := k2 x.hb hl (by rw [h.c6]; decide)
  have kh4 : w4.heap[x.hb]? = (w2.setCell ⟨x.hb, 1, none⟩ v').heap[x.hb]? := g4.block x.hb (by rw [World.size_setCell]; omega) (fun e => hne (Option.some.inj e))
  have hcell : ∀ i u, i ≠ 1 → w.cell? ⟨x.hb, i, none⟩ = some u → w4.cell? ⟨x.hb, i, none⟩ = some u := fun i u hi hu => (World.cell?_of_block (a := ⟨x.hb, i, none⟩) kh4).trans ((cell_other _ (Or.inr hi)).trans ((World.cell?_of_block (a := ⟨x.hb, i, none⟩) kh2).trans hu))
  have hb : Below W.heap.size W w4 := by
    refine Below.trans h.ks.st.below ⟨g4.os.trans (g2.os.trans ga.os), g4.tape.trans (g2.tape.trans ga.tape), g4.output.trans (g2.output.trans ga.output), by omega, fun d hd => ?_⟩
    have hdw : d < w.heap.size := Nat.lt_of_lt_of_le hd h.ks.st.below.size
    refine (k4 d (by omega) (by omega) (by omega)).trans ((g2.block d (by rw [World.size_alloc]; omega) (fun e => ?_)).trans (ga.block d hdw))
    have := h.nlo d e.symm
    omega
  have ks := h.cyc hb (by omega) (fun d hd hc => k d hd (by omega) (by omega) (by omega))
  have cc : ∀ d, d < w.heap.size → (fun d => if w.heap.size ≤ d then 8 else c d) d = c d := fun d hd => if_neg (by omega)
  obtain ⟨l1, l2, l3, l4, l5⟩ := h.alt
  obtain ⟨a1, a2, a3, a4, a5⟩ := h.cA
  obtain ⟨e1, e2, e3, e4⟩ := h.cC
  have q1 : ∀ q, v'.ownBlock = some q → q ≠ x.hb ∧ q ≠ x.lm ∧ q < w2.heap.size := fun q hq => by
    have hlt : q < w2.heap.size := by
      rcases r.2 with ⟨e, _⟩ | ⟨g, cp, cur, e, _, h3, _⟩
      · rw [e] at hq; cases hq
      · rw [e] at hq
        obtain rfl : g = q := by simpa [Value.ownBlock] using hq
        rcases Nat.lt_or_ge g w2.heap.size with hh | hh
        · exact hh
        · rw [Array.getElem?_eq_none hh] at h3; cases h3
    have hlm := h.lt
    rcases ob with e | e
    · rw [e] at hq
      have h8 := h.c8 q hq
      exact ⟨fun e => by rw [e, h.c6] at h8; omega, fun e => by rw [e, h.c7] at h8; omega, hlt⟩
    · rw [e] at hq
      have := Option.some.inj hq
      exact ⟨by omega, by omega, hlt⟩
  refine ⟨fun d => if w.heap.size ≤ d then 8 else c d, ⟨ks, h.tab.kept (k _ h.tab.tlt (by rw [h.c3]; decide) (by rw [h.c3]; decide) (by rw [h.c3]; decide)) (k _ h.tab.mlt (by rw [h.c4]; decide) (by rw [h.c4]; decide) (by rw [h.c4]; decide)) (fun a ha => k _ (h.tab.aoB a ha).2 (by rw [h.c5 a ha]; decide) (by rw [h.c5 a ha]; decide) (by rw [h.c5 a ha]; decide)), hcell 0 _ (by decide) h.h0, (World.cell?_of_block (a := ⟨x.hb, 1, none⟩) kh4).trans (cell_same _ ((World.cell?_of_block (a := ⟨x.hb, 1, none⟩) kh2).trans h.h1)), hcell 2 _ (by decide) h.h2, hcell 3 _ (by decide) h.h3, fun i => (World.frozen?_of_block (a := ⟨x.hb, i, none⟩) kh4).trans ((World.frozen?_setCell _ _ _ _).trans ((World.frozen?_of_block (a := ⟨x.hb, i, none⟩) kh2).trans (h.hf i))), nr_kept r (fun q hq => k4 q (q1 q hq).2.2 (q1 q hq).1 (q1 q hq).2.1), m4, h.lo, by have := h.lt; omega, ⟨(cc _ l1).trans a1, (cc _ l2).trans a2, (cc _ l3).trans a3, (cc _ l4).trans a4, (cc _ l5).trans a5⟩, ⟨(cc _ (h.ks.ap _ (by simp)).1).trans e1, (cc _ (h.ks.ap _ (by simp)).1).trans e2, (cc _ (h.ks.ap _ (by simp)).1).trans e3, (cc _ (h.ks.ap _ (by simp)).1).trans e4⟩, (cc _ h.tab.tlt).trans h.c3, (cc _ h.tab.mlt).trans h.c4, fun a ea => (cc _ (h.tab.aoB a ea).2).trans (h.c5 a ea), (cc _ h.hlt).trans h.c6, (cc _ h.lt).trans h.c7, fun q hq => ?_⟩⟩
  rcases ob with e | e
  · rw [e] at hq; exact (cc _ (h.nlt q hq)).trans (h.c8 q hq)
  · rw [e] at hq
    have := Option.some.inj hq
    exact if_pos (by omega)
theorem LmAt.put {w' : World} {lm : Nat} {D : DataW Unit} (hn : n ≤ 1000000) (hD : ∀ y : Int, wfN y → Maps.has D (.int .i64 y) = decide (0 ≤ y ∧ y < (n : Int)) ∧ (0 ≤ y ∧ y < (n : Int) → D.atKey (.int .i64 y) (.lit (.int .i64 0)) = .lit (.int .i64 y))) (hi : w.ownsMap Tryz.prog 3 (plainElem Tryz.prog 3) lm n D) (hm : w'.ownsMap Tryz.prog 3 (plainElem Tryz.prog 3) lm (n + 1) (D.put (.int .i64 (n : Int)) (.lit (.int .i64 (n : Int))))) : LmAt w' lm (n + 1) := by
  refine ⟨_, hm, fun y hy => ?_⟩
  have hwn : wfN (n : Int) := WalkArith.wf_i64 (n := (n : Int)) (by omega)
  by_cases e : y = (n : Int)
  · subst e
    rw [Maps.has_put_same hi.isMap (keyI.key (keyOf_int_mk Tryz.underlying3 hwn))]
    refine ⟨by simp; omega, fun _ => ?_⟩
    rw [atKey_put_same hi.isMap (keyI.key (keyOf_int_mk Tryz.underlying3 hwn))]
  · have hne : (Lit.int .i64 y) ≠ (Lit.int .i64 (n : Int)) := by simpa using e
    rw [Maps.has_put_other (by simpa using e), (hD y hy).1]
    refine ⟨by simp only [decide_eq_decide]; omega, fun hlt => ?_⟩
    rw [atKey_put_other (by simpa using e)]
    exact (hD y hy).2 (by omega)
set_option maxHeartbeats 1000000 in
theorem h_list (h : Hid (HS W w x al l n ao cap nv c)) (hn : n ≤ 1000) : Calls Tryz.prog 33 #[.pointer (some ⟨x.hb, 0, none⟩), .int .i64 (n : Int)] w fun r w' => r = .returned (.int .i64 (n : Int)) ∧ ∃ nv' c', HS W w' x al l (n + 1) ao cap nv' c' := by
  obtain ⟨oa, cp, hv⟩ := (unhide h).num.shape
  obtain ⟨v', w2, hrun, r2, g2, ob⟩ := nr_app (unhide h).num (unhide h).ks.st.below.size (by omega)
  obtain ⟨oa', cp', hv'⟩ := r2.shape
  subst hv'
  obtain ⟨D, hD, hK⟩ := (unhide h).mp
  have h1 := (unhide h).h1
  have f1 := (unhide h).hf 1
  have h2 := (unhide h).h2
  have ga := G.alloc w (.cells #[.int .i64 (n : Int)] 3)
  have h1a := ga.cell h1
  have s2 := g2.size
  rw [World.size_alloc] at s2
  have kh2 : w2.heap[x.hb]? = w.heap[x.hb]? := (g2.block x.hb (by rw [World.size_alloc]; have := (unhide h).hlt; omega) (fun e => by have := (unhide h).c8 _ e.symm; rw [(unhide h).c6] at this; omega)).trans (ga.block x.hb (unhide h).hlt)
  have kl2 : w2.heap[x.lm]? = w.heap[x.lm]? := (g2.block x.lm (by rw [World.size_alloc]; have := (unhide h).lt; omega) (fun e => by have := (unhide h).c8 _ e.symm; rw [(unhide h).c7] at this; omega)).trans (ga.block x.lm (unhide h).lt)
  have q1 := (World.cell?_of_block (a := ⟨x.hb, 1, none⟩) kh2).trans h1
  have qf := (World.frozen?_of_block (a := ⟨x.hb, 1, none⟩) kh2).trans f1
  have hne : x.lm ≠ x.hb := fun e => by have := (unhide h).c7; rw [e, (unhide h).c6] at this; omega
  obtain ⟨w3, hw3⟩ : ∃ w3, w3 = w2.setCell ⟨x.hb, 1, none⟩ (.slice oa' (n + 1) cp') := ⟨_, rfl⟩
  have q2 : w3.cell? ⟨x.hb, 2, none⟩ = some (.map (some x.lm)) := by rw [hw3]; exact (cell_other _ (Or.inr (by decide))).trans ((World.cell?_of_block (a := ⟨x.hb, 2, none⟩) kh2).trans h2)
  have D3 : w3.ownsMap Tryz.prog 3 (plainElem Tryz.prog 3) x.lm n D := by
    obtain ⟨es, clock, hb, r⟩ := hD
    exact ⟨es, clock, by rw [hw3, Below.heap_setCell _ _ _ _ (by simpa using hne), kl2]; exact hb, r⟩
  have hwn : wfN (n : Int) := WalkArith.wf_i64 (n := (n : Int)) (by omega)
  have hkey : keyOf Tryz.prog 3 (.int .i64 (n : Int)) = some (.int .i64 (n : Int)) := keyOf_int_mk Tryz.underlying3 hwn
  have hhas : Maps.has D (.int .i64 (n : Int)) = false := by rw [(hK _ hwn).1]; simp
  have hval : plainElem (H := Unit) Tryz.prog 3 (.int .i64 (n : Int)) = some (.lit (.int .i64 (n : Int)), []) := plainElem_int Tryz.underlying3 hwn
  have FIN : Hid (∀ w4, w4.ownsMap Tryz.prog 3 (plainElem Tryz.prog 3) x.lm (n + 1) (D.put (.int .i64 (n : Int)) (.lit (.int .i64 (n : Int)))) → w3.grownBy w4 (some x.lm) → ∃ nv' c', HS W w4 x al l (n + 1) ao cap nv' c') := hide fun w4 m4 g4 => by
    rw [hw3] at g4
    obtain ⟨c', S⟩ := (unhide h).listed g2 r2 ob g4 (LmAt.put (by omega) hK hD m4)
    exact ⟨_, c', S⟩
  have hnm : n < maxLen := by unfold maxLen; omega
  rw [hv] at h1 h1a hrun q1
  replace hw3' := hide hw3
  clear h hv r2 g2 ob hD hK ga s2 kh2 kl2 hne hwn f1
  replace hn := hide hn
  go_enter Tryz.func33, Tryz.ntmps33
  go_upto_region 3 with (at_builtin; refine wpl_aph rfl (.tmp 17) (.tmp 19) 75 rfl _ _ rfl rfl _ _ hrun ?_)
  rw [← hw3]
  clear hw3 hrun q1 qf h1 h1a h2
  go_upto_region 4 with (at_lookup; refine wpList_lookup_own_ok_int _ rfl _ _ 74 rfl 3 3 .i64 keyI Tryz.underlying74 Tryz.underlying3 (zero_intH _) x.lm n D rfl D3 _ _ rfl hkey ?_; intro cc hat hwc; rw [hhas])
  go_wp2_with (at_mapUpdate; refine wpList_mapUpdate_own _ rfl _ _ _ 74 rfl 3 3 keyI Tryz.underlying74 (plainElem (H := Unit) Tryz.prog 3) x.lm n D rfl D3 hnm _ _ _ rfl rfl hkey _ [] hval ?_; intro w4 hm4 hg4; have S4 := hide (unhide FIN w4 hm4 hg4); clear hm4 hg4 FIN)
  go_ret
  exact ⟨rfl, unhide S4⟩
end
end Go.Proofs.YtdnhmkbdphpjcaaGreatDoor

/- Package heap: Add, New. -/
namespace Go.Proofs.YtdnhmkbdphpjcaaGreatDoor
set_option maxRecDepth 100000
open Go.ChangeShapes Go.WideShapes Go.ChangeAt Go.RowKit Go.Maps Go.Deep

section
variable {W w : World} {x : Hx} {al : Al} {l : List Hd.Shp} {n : Nat} {ao : Option Addr} {cap : Nat} {nv : Value} {c : Nat → Nat}
/-- The table is asked for a shape's number. -/
theorem hs_number (h : HS W w x al l n ao cap nv c) (s : Hd.Shp) (hs : s.Fit) (hlen : l.length < 65536) : Calls Tryz.prog 32 #[.pointer (some ⟨x.b.tb, 0, none⟩), .agg #[.int .i64 s.k, .int .i64 s.f, .int .u64 (s.m : Int)]] w fun e w' => e = .returned (.tuple #[.int .i64 (Hd.numV l s), .int .i64 (Hd.numE s)]) ∧ (∃ ao' cap' c', HS W w' x al (Hd.addS l s) n ao' cap' nv c') ∧ ∀ d, d < w.heap.size → c d ≠ 3 → c d ≠ 4 → c d ≠ 5 → w'.heap[d]? = w.heap[d]? := by
  refine (Hd.number_any w W.heap.size x.b.tb x.tm ao cap l s h.tab hs hlen h.ks.st.below.size).mono ?_
  rintro e w' ⟨ao', cap', he, T, tu, ha⟩
  obtain ⟨c', S⟩ := h.number T tu ha
  exact ⟨he, ⟨ao', cap', c', S⟩, fun d hd n3 n4 n5 => tu.block d hd (fun e => n3 (by rw [e]; exact h.c3)) (fun e => n4 (by rw [e]; exact h.c4)) (fun a ea e => n5 (by rw [e]; exact h.c5 a ea))⟩
/-- New blocks may be given any owner. -/
theorem HS.recol (h : HS W w x al l n ao cap nv c) (w0 : World) (h0 : HS W w0 x al l n ao cap nv c) : HS W w x al l n ao cap nv (fun d => if w0.heap.size ≤ d then 9 else c d) := by
  have cc : ∀ d, d < w0.heap.size → (fun d => if w0.heap.size ≤ d then 9 else c d) d = c d := fun d hd => if_neg (by omega)
  obtain ⟨l1, l2, l3, l4, l5⟩ := h0.alt
  obtain ⟨a1, a2, a3, a4, a5⟩ := h.cA
  obtain ⟨e1, e2, e3, e4⟩ := h.cC
  exact ⟨h.ks, h.tab, h.h0, h.h1, h.h2, h.h3, h.hf, h.num, h.mp, h.lo, h.lt, ⟨(cc _ l1).trans a1, (cc _ l2).trans a2, (cc _ l3).trans a3, (cc _ l4).trans a4, (cc _ l5).trans a5⟩, ⟨(cc _ (h0.ks.ap _ (by simp)).1).trans e1, (cc _ (h0.ks.ap _ (by simp)).1).trans e2, (cc _ (h0.ks.ap _ (by simp)).1).trans e3, (cc _ (h0.ks.ap _ (by simp)).1).trans e4⟩, (cc _ h0.tab.tlt).trans h.c3, (cc _ h0.tab.mlt).trans h.c4, fun a ea => (cc _ (h0.tab.aoB a ea).2).trans (h.c5 a ea), (cc _ h0.hlt).trans h.c6, (cc _ h0.lt).trans h.c7, fun q hq => (cc _ (h0.nlt q hq)).trans (h.c8 q hq)⟩
/-- What is not the table's is as it was. -/
def KpD (w : World) (c : Nat → Nat) (w' : World) : Prop := ∀ d, d < w.heap.size → c d ≠ 3 → c d ≠ 4 → c d ≠ 5 → w'.heap[d]? = w.heap[d]?
def AddK (w : World) (c : Nat → Nat) (l : List Hd.Shp) (s : Hd.Shp) (w' : World) : Prop := s ∈ l → KpD w c w'
end
end Go.Proofs.YtdnhmkbdphpjcaaGreatDoor

/- Package heap: New. -/
namespace Go.Proofs.YtdnhmkbdphpjcaaGreatDoor
set_option maxRecDepth 100000
open Go.ChangeShapes Go.WideShapes Go.ChangeAt Go.RowKit Go.Maps Go.Deep

theorem hs_start {W w : World} {xl : Ld} {b : Kn} {N tm : Nat} (K : KS W w xl b (al0 N) 0 64 0) (T : Hd.TabAt w W.heap.size b.tb tm none 0 []) (A : ∀ d ∈ [b.cb, b.mb, b.kb, b.q, xl.d.ab, xl.d.wb, xl.d.sb, xl.ub, xl.lb], d ≠ b.tb ∧ d ≠ tm ∧ d < w.heap.size) (ht : b.tb ≠ tm) :
    ∃ c, HS W ((w.alloc (.map #[] 0)).alloc (.cells #[.pointer (some ⟨b.cb, 0, none⟩), .slice none 0 0, .map (some w.heap.size), .int .i64 0] 77)) ⟨xl, b, tm, w.heap.size + 1, w.heap.size⟩ (al0 N) [] 0 none 0 (.slice none 0 0) c := by
  have hW := K.st.below.size
  have z1 : (w.alloc (.map #[] 0)).heap.size = w.heap.size + 1 := World.size_alloc _ _
  have bm : ((w.alloc (.map #[] 0)).alloc (.cells #[.pointer (some ⟨b.cb, 0, none⟩), .slice none 0 0, .map (some w.heap.size), .int .i64 0] 77)).heap[w.heap.size + 1]? = some (.cells #[.pointer (some ⟨b.cb, 0, none⟩), .slice none 0 0, .map (some w.heap.size), .int .i64 0] 77 (0, 0)) := by
    have := heap_alloc_new (w.alloc (.map #[] 0)) (.cells #[.pointer (some ⟨b.cb, 0, none⟩), .slice none 0 0, .map (some w.heap.size), .int .i64 0] 77)
    rw [z1] at this
    exact this
  have g : G w ((w.alloc (.map #[] 0)).alloc (.cells #[.pointer (some ⟨b.cb, 0, none⟩), .slice none 0 0, .map (some w.heap.size), .int .i64 0] 77)) := (G.alloc _ _).more _
  have LM : LmAt ((w.alloc (.map #[] 0)).alloc (.cells #[.pointer (some ⟨b.cb, 0, none⟩), .slice none 0 0, .map (some w.heap.size), .int .i64 0] 77)) w.heap.size 0 :=
    ⟨.map [], (World.ownsMap_made w _ _ _).alloc _, fun y _ => ⟨by rw [Maps.has_eq]; simp, fun h => absurd h.2 (by simpa using h.1)⟩⟩
  have z2 : ((w.alloc (.map #[] 0)).alloc (.cells #[.pointer (some ⟨b.cb, 0, none⟩), .slice none 0 0, .map (some w.heap.size), .int .i64 0] 77)).heap.size = w.heap.size + 2 := by rw [World.size_alloc, z1]
  generalize (w.alloc (.map #[] 0)).alloc (.cells #[.pointer (some ⟨b.cb, 0, none⟩), .slice none 0 0, .map (some w.heap.size), .int .i64 0] 77) = w2 at *
  have hc : ∀ i : Nat, w2.cell? ⟨w.heap.size + 1, i, none⟩ = #[Value.pointer (some ⟨b.cb, 0, none⟩), .slice none 0 0, .map (some w.heap.size), .int .i64 0][i]? := fun i => by rw [cell_of_row _ _ _ _ _ _ bm]
  have l1 := T.tlt
  have l2 := T.mlt
  have F : ∀ d ∈ [b.cb, b.mb, b.kb, b.q, xl.d.ab, xl.d.wb, xl.d.sb, xl.ub, xl.lb], ∀ u v : Nat, (if d = b.tb then 3 else if d = tm then 4 else if d = w.heap.size + 1 then 6 else if d = w.heap.size then 7 else if d ∈ [b.cb, b.mb, b.kb, b.q] then u else v) = if d ∈ [b.cb, b.mb, b.kb, b.q] then u else v := fun d hd u v => by
    obtain ⟨a1, a2, a3⟩ := A d hd
    rw [if_neg a1, if_neg a2, if_neg (by omega), if_neg (by omega)]
  have F1 : ∀ d ∈ [xl.d.ab, xl.d.wb, xl.d.sb, xl.ub, xl.lb], d ∉ [b.cb, b.mb, b.kb, b.q] := fun d hd hm => by
    obtain ⟨_, _, k1, k2, k3, k4, k5⟩ := K.ap d hm
    simp only [List.mem_cons, List.not_mem_nil, or_false] at hd
    rcases hd with e | e | e | e | e
    · exact k4 e
    · exact k1 e
    · exact k2 e
    · exact k3 e
    · exact k5 e
  refine ⟨fun d => if d = b.tb then 3 else if d = tm then 4 else if d = w.heap.size + 1 then 6 else if d = w.heap.size then 7 else if d ∈ [b.cb, b.mb, b.kb, b.q] then 2 else 1, K.gr g, T.grown g, hc 0, hc 1, hc 2, hc 3, fun i => by simp [World.frozen?, bm], World.ownsRow_nil _ _ _ _, LM, ⟨by simp only; omega, by simp only; omega⟩, by simp only; omega, ?_, ?_, ?_, ?_, (fun a ea => by cases ea), ?_, ?_, (fun k hk => by cases hk)⟩
  · refine ⟨?_, ?_, ?_, ?_, ?_⟩
    · exact (F _ (by simp) 2 1).trans (if_neg (F1 _ (by simp)))
    · exact (F _ (by simp) 2 1).trans (if_neg (F1 _ (by simp)))
    · exact (F _ (by simp) 2 1).trans (if_neg (F1 _ (by simp)))
    · exact (F _ (by simp) 2 1).trans (if_neg (F1 _ (by simp)))
    · exact (F _ (by simp) 2 1).trans (if_neg (F1 _ (by simp)))
  · refine ⟨?_, ?_, ?_, ?_⟩
    · exact (F _ (by simp) 2 1).trans (if_pos (by simp))
    · exact (F _ (by simp) 2 1).trans (if_pos (by simp))
    · exact (F _ (by simp) 2 1).trans (if_pos (by simp))
    · exact (F _ (by simp) 2 1).trans (if_pos (by simp))
  · exact if_pos rfl
  · show (if tm = b.tb then 3 else _) = 4
    rw [if_neg (Ne.symm ht), if_pos rfl]
  · show (if w.heap.size + 1 = b.tb then 3 else if w.heap.size + 1 = tm then 4 else if w.heap.size + 1 = w.heap.size + 1 then 6 else _) = 6
    rw [if_neg (by omega), if_neg (by omega), if_pos rfl]
  · show (if w.heap.size = b.tb then 3 else if w.heap.size = tm then 4 else if w.heap.size = w.heap.size + 1 then 6 else if w.heap.size = w.heap.size then 7 else _) = 7
    rw [if_neg (by omega), if_neg (by omega), if_neg (by omega), if_pos rfl]
set_option maxHeartbeats 2000000 in
theorem h_new {W : World} (N : Nat) (h0 : 8 ≤ N) (h1 : N ≤ 512) (ht : Hid (Tab W)) (rb off cp : Nat) (ls : List Hd.Shp) (n : Nat) (hn : n = ls.length) (hlen : n ≤ 1000) (HG : Hid (∀ s ∈ ls, s.Fit ∧ s.good = true)) (ND : Hid ls.Nodup) (hb : rb < W.heap.size)
    (HE : Hid (∀ i s, ls[i]? = some s → W.cell? ⟨rb, off + i * 3, none⟩ = some (.int .i64 s.k) ∧ W.cell? ⟨rb, off + i * 3 + 1, none⟩ = some (.int .i64 s.f) ∧ W.cell? ⟨rb, off + i * 3 + 2, none⟩ = some (.int .u64 (s.m : Int)))) :
    Calls Tryz.prog 9 #[.int .i64 (N : Int), .slice (some ⟨rb, off, none⟩) n cp] W fun e w' => ∃ x, e = .returned (.tuple #[.pointer (some ⟨x.hb, 0, none⟩), .int .i64 0]) ∧ ∃ ao cap nv c, HS W w' x (al0 N) ls n ao cap nv c := by
  have hmm := @run_makeMap Tryz.prog
  have KN := hide (k_newT (W := W) (w := W) N h0 h1 (hide (Below.refl _ _)) ht)
  have hnn := hide hn
  replace h0 := hide h0
  replace h1 := hide h1
  clear hn
  go_enter Tryz.func9, Tryz.ntmps9
  go_wp2_with fail
  refine (unhide KN).mono ?_
  rintro e w1 ⟨xl, b, tm, rfl, K1, T1, A1, ht1⟩
  clear KN
  have KK := hide (And.intro K1 (And.intro T1 (And.intro A1 ht1)))
  clear K1 T1 A1 ht1
  go_wp2_with fail
  go_loopw [25] (fun c wr => ∃ t : Nat, t ≤ n ∧ c = .int .i64 t ∧ Hid (G w1 wr)) (fun c _ => n - (intOf c).toNat)
  case atStart => exact ⟨0, Nat.zero_le _, rfl, hide (G.refl _)⟩
  case round =>
    obtain ⟨t, htn, rfl, g⟩ := hrel
    by_cases hj : t = n
    · have hj' : n = t := hj.symm
      subst hj'
      clear hj
      obtain ⟨wa, hwa⟩ : ∃ wa, wa = wr := ⟨_, rfl⟩
      rw [← hwa] at g ⊢
      clear hwa
      have ST := hide (hs_start ((unhide KK).1.gr (unhide g)) ((unhide KK).2.1.grown (unhide g)) (fun d hd => ⟨((unhide KK).2.2.1 d hd).1, ((unhide KK).2.2.1 d hd).2.1, Nat.lt_of_lt_of_le ((unhide KK).2.2.1 d hd).2.2 (unhide g).size⟩) (unhide KK).2.2.2)
      obtain ⟨x, hx⟩ : ∃ x : Hx, x = ⟨xl, b, tm, wa.heap.size + 1, wa.heap.size⟩ := ⟨_, rfl⟩
      have xb : x.hb = wa.heap.size + 1 := by rw [hx]
      have xc : x.b.cb = b.cb := by rw [hx]
      rw [← hx] at ST
      clear hx g KK
      replace xb := hide xb
      replace xc := hide xc
      go_wp2_with fail
      go_loopw [39] (fun c wr => ∃ t : Nat, t ≤ n ∧ c = .int .i64 t ∧ Hid (∃ ao cap nv c, HS W wr x (al0 N) (ls.take t) t ao cap nv c)) (fun c _ => n - (intOf c).toNat)
      case atStart =>
        refine ⟨0, Nat.zero_le _, rfl, hide ?_⟩
        obtain ⟨c, S⟩ := unhide ST
        exact ⟨none, 0, .slice none 0 0, c, S⟩
      case round =>
        obtain ⟨t, htn, rfl, SS⟩ := hrel
        clear ST
        by_cases hj : t = n
        · have hj' : n = t := hj.symm
          subst hj'
          go_wp2_with fail
          go_ret2
          obtain ⟨ao, cap, nv, c, S⟩ := unhide SS
          refine ⟨x, by rw [unhide xb]; rfl, ao, cap, nv, c, ?_⟩
          rw [List.take_of_length_le (by have := unhide hnn; omega)] at S
          exact S
        · have hjl : (t : Int) < (n : Int) := by omega
          obtain ⟨s, hs⟩ : ∃ s, ls[t]? = some s := ⟨ls[t]'(by have := unhide hnn; omega), List.getElem?_eq_getElem _⟩
          obtain ⟨ao, cap, nv, c, S⟩ := unhide SS
          clear SS
          have hbw : Below W.heap.size W wr := S.ks.st.below
          have hbk : rb < wr.heap.size := Nat.lt_of_lt_of_le hb hbw.size
          have y0 := (hbw.cell (p := ⟨rb, off + t * 3, none⟩) hb).trans (unhide HE t s hs).1
          have y1 := (hbw.cell (p := ⟨rb, off + t * 3 + 1, none⟩) hb).trans (unhide HE t s hs).2.1
          have y2 := (hbw.cell (p := ⟨rb, off + t * 3 + 2, none⟩) hb).trans (unhide HE t s hs).2.2
          obtain ⟨hfit, hgood⟩ := unhide HG s (List.mem_of_getElem? hs)
          have hnot : s ∉ ls.take t := fun hm => by
            obtain ⟨q, hq⟩ := List.getElem?_of_mem hm
            rw [List.getElem?_take] at hq
            split at hq
            · rename_i hqt
              have := (List.getElem?_inj (i := q) (j := t) (by have := unhide hnn; omega) (unhide ND)).1 (hq.trans hs.symm)
              omega
            · cases hq
          have htl : (ls.take t).length = t := by rw [List.length_take]; have := unhide hnn; omega
          have hadd : Hd.addS (ls.take t) s = ls.take (t + 1) := by
            unfold Hd.addS
            rw [if_pos ⟨hgood, hnot⟩, List.take_add_one, hs]
            rfl
          have hV : Hd.numV (ls.take t) s = (t : Int) := by
            unfold Hd.numV
            rw [if_pos hgood, List.idxOf_eq_length hnot, htl]
          have hE0 : Hd.numE s = 0 := by unfold Hd.numE; rw [if_pos hgood]
          obtain ⟨W1, hW1⟩ : ∃ W1, W1 = wr.alloc (.cells #[.int .i64 s.k, .int .i64 s.f, .int .u64 (s.m : Int)] 72) := ⟨_, rfl⟩
          have g1 : G wr W1 := by rw [hW1]; exact G.alloc _ _
          have e1 : W1.heap[wr.heap.size]? = some (.cells #[.int .i64 s.k, .int .i64 s.f, .int .u64 (s.m : Int)] 72) := by rw [hW1]; exact heap_alloc_new wr _
          have z1 : wr.heap.size < W1.heap.size := by rw [hW1, World.size_alloc]; omega
          have BX : Hid (∀ y : World, y.heap[wr.heap.size]? = W1.heap[wr.heap.size]? → y.cell? ⟨wr.heap.size, 0, none⟩ = some (.int .i64 s.k) ∧ y.cell? ⟨wr.heap.size, 1, none⟩ = some (.int .i64 s.f) ∧ y.cell? ⟨wr.heap.size, 2, none⟩ = some (.int .u64 (s.m : Int))) := hide fun y hy => by
            have e := hy.trans e1
            exact ⟨by rw [cell_of_row _ _ _ _ _ _ e]; rfl, by rw [cell_of_row _ _ _ _ _ _ e]; rfl, by rw [cell_of_row _ _ _ _ _ _ e]; rfl⟩
          have HH : Hid (∀ y, G W1 y → HS W y x (al0 N) (ls.take t) t ao cap nv (fun d => if wr.heap.size ≤ d then 9 else c d)) := hide fun y g => (S.gr (g1.trans g)).recol wr S
          have TB : Hid (∀ y, G W1 y → Calls Tryz.prog 31 #[.pointer (some ⟨b.cb, 0, none⟩)] y fun e w' => e = .returned (.pointer (some ⟨x.b.tb, 0, none⟩)) ∧ w' = y) := hide fun y g => by
            rw [← unhide xc]
            exact k_table (hide (unhide HH y g).ks)
          have NB : Hid (∀ y, G W1 y → Calls Tryz.prog 32 #[.pointer (some ⟨x.b.tb, 0, none⟩), .agg #[.int .i64 s.k, .int .i64 s.f, .int .u64 (s.m : Int)]] y fun e w' => e = .returned (.tuple #[.int .i64 (t : Int), .int .i64 0]) ∧ Hid ((∃ ao' cap' c', HS W w' x (al0 N) (ls.take (t + 1)) t ao' cap' nv c') ∧ w'.heap[wr.heap.size]? = W1.heap[wr.heap.size]?)) := hide fun y g => by
            refine (hs_number (unhide HH y g) s hfit (by rw [htl]; omega)).mono ?_
            rintro e w' ⟨he, ⟨ao', cap', c', S⟩, hk⟩
            rw [hadd] at S
            rw [hV, hE0] at he
            exact ⟨he, hide ⟨⟨ao', cap', c', S⟩, (hk _ (by have := g.size; omega) (by simp) (by simp) (by simp)).trans (g.block _ z1)⟩⟩
          have LS : Hid (∀ w2 : World, (∃ ao' cap' c', HS W w2 x (al0 N) (ls.take (t + 1)) t ao' cap' nv c') → Calls Tryz.prog 33 #[.pointer (some ⟨wa.heap.size + 1, 0, none⟩), .int .i64 (t : Int)] w2 fun r w' => r = .returned (.int .i64 (t : Int)) ∧ Hid (∃ ao cap nv c, HS W w' x (al0 N) (ls.take (t + 1)) (t + 1) ao cap nv c)) := hide fun w2 ⟨ao', cap', c', S⟩ => by
            rw [← unhide xb]
            refine (h_list (hide S) (by omega)).mono ?_
            rintro r w' ⟨hr, nv', c'', S'⟩
            exact ⟨hr, hide ⟨ao', cap', nv', c'', S'⟩⟩
          obtain ⟨sk, hsk⟩ : ∃ sk, sk = s.k := ⟨_, rfl⟩
          obtain ⟨sf, hsf⟩ : ∃ sf, sf = s.f := ⟨_, rfl⟩
          obtain ⟨sm, hsm⟩ : ∃ sm, sm = s.m := ⟨_, rfl⟩
          rw [← hsk, ← hsf, ← hsm] at NB BX hW1
          rw [← hsk] at y0
          rw [← hsf] at y1
          rw [← hsm] at y2
          clear hsk hsf hsm e1 S hbw hfit hgood hnot htl hadd hV hE0 HH hs hj
          replace g1 := hide g1
          replace z1 := hide z1
          go_upto_region 14 with fail
          rw [← hW1]
          clear hW1 y0 y1 y2 hbk
          refine wp_region_noPanic ?_
          refine wp_region_held_drew (S := fun (y : World) => y.heap[wr.heap.size]? = W1.heap[wr.heap.size]?) (by kernel_rfl) rfl (fun hHeld => ?_)
          obtain ⟨y1, hy1⟩ : ∃ y, y = W1.drew := ⟨_, rfl⟩
          have gy : G W1 y1 := by rw [hy1]; exact G.drewN W1 1
          rw [← hy1] at hHeld ⊢
          clear hy1
          refine wpAnyH_take (i := 0) (v := .pointer (some ⟨b.cb, 0, none⟩)) rfl (by kernel_rfl) (by kernel_rfl) (by kernel_rfl) (fun _ _ _ h => h) (Or.inl ⟨by rfl, fun w hSw => by go_simp⟩) (by assumption) ?_
          try simp only [Act.put, List.getElem_toArray, List.getElem_cons_zero, List.setIfInBounds_toArray, List.set_cons_zero, List.set_cons_succ]
          refine wpAnyH_take (i := 2) (v := .agg #[.int .i64 sk, .int .i64 sf, .int .u64 (sm : Int)]) rfl (by kernel_rfl) (by kernel_rfl) (by kernel_rfl) (fun _ _ _ h => h) (Or.inl ⟨by rfl, fun w hSw => by obtain ⟨t0, t1, t2⟩ := unhide BX w hSw; go_simp⟩) (by assumption) ?_
          try simp only [Act.put, List.getElem_toArray, List.getElem_cons_succ, List.getElem_cons_zero, List.setIfInBounds_toArray, List.set_cons_zero, List.set_cons_succ]
          refine wpAnyH_ready (rs := [1]) (by kernel_rfl) (by simp) ?_
          refine AllReadyH.cons rfl (fun K hK => ?_) AllReadyH.nil
          go_simp
          refine (unhide TB y1 gy).mono ?_
          rintro e w9 ⟨rfl, hw9⟩
          rw [hw9]
          clear hw9 w9
          go_wp2_with fail
          refine hK.out _ _ hHeld (fun hH9 => ?_)
          clear hK K hH9
          try simp only [Act.put, List.getElem_toArray, List.getElem_cons_succ, List.getElem_cons_zero, List.setIfInBounds_toArray, List.set_cons_zero, List.set_cons_succ]
          refine wpAnyH_ready (rs := [3]) (by kernel_rfl) (by simp) ?_
          refine AllReadyH.cons rfl (fun K hK => ?_) AllReadyH.nil
          go_simp
          refine (unhide NB y1 gy).mono ?_
          rintro e w2 ⟨rfl, S2⟩
          go_wp2_with fail
          have hS2 := (unhide S2).2
          refine hK.out _ _ hS2 (fun hH9 => ?_)
          clear hK K
          try simp only [Act.put, List.getElem_toArray, List.getElem_cons_succ, List.getElem_cons_zero, List.setIfInBounds_toArray, List.set_cons_zero, List.set_cons_succ]
          refine wpAnyH_take (i := 4) (v := .tuple #[.int .i64 (t : Int), .int .i64 0]) rfl (by kernel_rfl) (by kernel_rfl) (by kernel_rfl) (fun _ _ _ h => h) (Or.inl ⟨by rfl, fun w hSw => by go_simp⟩) (by assumption) ?_
          try simp only [Act.put, List.getElem_toArray, List.getElem_cons_succ, List.getElem_cons_zero, List.setIfInBounds_toArray, List.set_cons_zero, List.set_cons_succ]
          refine wpAnyH_take (i := 5) (v := .int .i64 (t : Int)) rfl (by kernel_rfl) (by kernel_rfl) (by kernel_rfl) (fun _ _ _ h => h) (Or.inl ⟨by rfl, fun w hSw => by go_simp⟩) (by assumption) ?_
          try simp only [Act.put, List.getElem_toArray, List.getElem_cons_succ, List.getElem_cons_zero, List.setIfInBounds_toArray, List.set_cons_zero, List.set_cons_succ]
          refine wpAnyH_take (i := 6) (v := .int .i64 0) rfl (by kernel_rfl) (by kernel_rfl) (by kernel_rfl) (fun _ _ _ h => h) (Or.inl ⟨by rfl, fun w hSw => by go_simp⟩) (by assumption) ?_
          try simp only [Act.put, List.getElem_toArray, List.getElem_cons_succ, List.getElem_cons_zero, List.setIfInBounds_toArray, List.set_cons_zero, List.set_cons_succ]
          refine wpAnyH_take (i := 7) (v := .int .i64 (t : Int)) rfl (by kernel_rfl) (by kernel_rfl) (by kernel_rfl) (fun _ _ _ h => h) (Or.inl ⟨by rfl, fun w hSw => by go_simp⟩) (by assumption) ?_
          try simp only [Act.put, List.getElem_toArray, List.getElem_cons_succ, List.getElem_cons_zero, List.setIfInBounds_toArray, List.set_cons_zero, List.set_cons_succ]
          refine wpAnyH_take (i := 8) (v := .int .i64 0) rfl (by kernel_rfl) (by kernel_rfl) (by kernel_rfl) (fun _ _ _ h => h) (Or.inl ⟨by rfl, fun w hSw => by go_simp⟩) (by assumption) ?_
          try simp only [Act.put, List.getElem_toArray, List.getElem_cons_succ, List.getElem_cons_zero, List.setIfInBounds_toArray, List.set_cons_zero, List.set_cons_succ]
          refine wpAnyH_done (by kernel_rfl) (NoPanic.normal ?_) _
          have CL := hide (unhide LS w2 (unhide S2).1)
          clear hHeld gy TB NB BX hS2 hH9 S2 LS g1 z1
          go_wp2_with fail
          refine (unhide CL).mono ?_
          rintro r w4 ⟨rfl, FE⟩
          clear CL
          go_wp2_with fail
          go_round
          case rel => exact ⟨t + 1, by omega, by go_num, FE⟩
          case measure => simp [intOf]; omega
    · have hjl : (t : Int) < (n : Int) := by omega
      obtain ⟨s, hs⟩ : ∃ s, ls[t]? = some s := ⟨ls[t]'(by have := unhide hnn; omega), List.getElem?_eq_getElem _⟩
      have hgood : Hd.goodB s.k s.f s.m = true := (unhide HG s (List.mem_of_getElem? hs)).2
      have hbw : Below W.heap.size W wr := Below.trans (unhide KK).1.st.below ((unhide g).mono (unhide KK).1.st.below.size)
      have hbk : rb < wr.heap.size := Nat.lt_of_lt_of_le hb hbw.size
      have y0 := (hbw.cell (p := ⟨rb, off + t * 3, none⟩) hb).trans (unhide HE t s hs).1
      have y1 := (hbw.cell (p := ⟨rb, off + t * 3 + 1, none⟩) hb).trans (unhide HE t s hs).2.1
      have y2 := (hbw.cell (p := ⟨rb, off + t * 3 + 2, none⟩) hb).trans (unhide HE t s hs).2.2
      clear hj hs hbw
      go_wp2_with fail
      refine (Hd.good_any _ _ _ _).mono ?_
      rintro e w2 ⟨rfl, hw2⟩
      have g2 : Hid (G w1 w2) := hide (by rw [hw2]; exact (((unhide g).more _).more _))
      rw [hgood]
      clear hw2 hgood y0 y1 y2 hbk g
      go_wp2_with fail
      go_round
      case rel => exact ⟨t + 1, by omega, by go_num, g2⟩
      case measure => simp [intOf]; omega

end Go.Proofs.YtdnhmkbdphpjcaaGreatDoor

/- Package chans, over any view of a heap: the channel's own small calls. -/
namespace Go.Proofs.YtdnhmkbdphpjcaaGreatDoor
set_option maxRecDepth 100000
open Go.ChangeShapes Go.WideShapes Go.ChangeAt Go.RowKit Go.Maps Go.Deep

theorem box4 {w1 W2 : World} {v0 v1 v2 v3 : Value} (hW2 : W2 = w1.alloc (.cells #[v0, v1, v2, v3] 87)) : G w1 W2 ∧ ∀ y o o', (∀ d, o d → d < w1.heap.size) → Fr o o' W2 y → y.cell? ⟨w1.heap.size, 0, none⟩ = some v0 ∧ y.cell? ⟨w1.heap.size, 1, none⟩ = some v1 ∧ y.cell? ⟨w1.heap.size, 2, none⟩ = some v2 ∧ y.cell? ⟨w1.heap.size, 3, none⟩ = some v3 := by
  refine ⟨by rw [hW2]; exact G.alloc _ _, fun y o o' ho f => ?_⟩
  have hl : w1.heap.size < W2.heap.size := by rw [hW2, World.size_alloc]; omega
  have hn : ¬ o w1.heap.size := fun h => Nat.lt_irrefl _ (ho _ h)
  refine ⟨f.cell hl hn ?_, f.cell hl hn ?_, f.cell hl hn ?_, f.cell hl hn ?_⟩ <;> (rw [hW2]; exact World.cell?_alloc_new _ _ _ _)
abbrev chv (po : Option Addr) (a F : Int) (b : Bool) : Value := .agg #[.pointer po, .int .i64 a, .int .i64 F, .bool b]
theorem c_has (w : World) (po : Option Addr) (a F f : Int) (b : Bool) : Calls Tryz.prog 61 #[chv po a F b, .int .i64 f] w fun e w' => e = .returned (.bool (decide (0 ≤ f) && decide (f < F))) ∧ G w w' := by
  obtain ⟨W2, hW2⟩ : ∃ W2, W2 = w.alloc (.cells #[.pointer po, .int .i64 a, .int .i64 F, .bool b] 87) := ⟨_, rfl⟩
  obtain ⟨g2, bx⟩ := box4 hW2
  obtain ⟨b0, b1, b2, b3⟩ := bx W2 (fun _ => False) (fun _ => False) (fun _ h => h.elim) (Fr.of_G (G.refl _))
  replace g2 := hide g2
  clear bx
  by_cases h0 : 0 ≤ f
  · rw [decide_eq_true h0]
    go_enter Tryz.func61, Tryz.ntmps61
    go_upto_region 1 with fail
    rw [← hW2]
    clear hW2
    go_wp2_with fail
    go_ret
    exact ⟨by simp, unhide g2⟩
  · rw [decide_eq_false h0]
    go_enter Tryz.func61, Tryz.ntmps61
    go_upto_region 1 with fail
    rw [← hW2]
    clear hW2
    go_wp2_with fail
    go_ret
    exact ⟨by simp, unhide g2⟩
/-- No such field: 0. -/
theorem c_get_out (w : World) (po : Option Addr) (a F f : Int) (b : Bool) (hf : (decide (0 ≤ f) && decide (f < F)) = false) : Calls Tryz.prog 36 #[chv po a F b, .int .i64 f] w fun e w' => e = .returned (.int .i64 0) ∧ G w w' := by
  obtain ⟨W2, hW2⟩ : ∃ W2, W2 = w.alloc (.cells #[.pointer po, .int .i64 a, .int .i64 F, .bool b] 87) := ⟨_, rfl⟩
  obtain ⟨g2, bx⟩ := box4 hW2
  obtain ⟨b0, b1, b2, b3⟩ := bx W2 (fun _ => False) (fun _ => False) (fun _ h => h.elim) (Fr.of_G (G.refl _))
  replace g2 := hide g2
  have C := hide (c_has W2 po a F f b)
  rw [hf] at C
  clear bx hf
  go_enter Tryz.func36, Tryz.ntmps36
  go_upto_region 1 with fail
  rw [← hW2]
  clear hW2
  go_wp2_with fail
  refine (unhide C).mono ?_
  rintro e w3 ⟨rfl, g3⟩
  have g4 := hide ((unhide g2).trans g3)
  clear C g3
  go_wp2_with fail
  go_ret
  exact ⟨rfl, unhide g4⟩
section
variable {γ : Type} {V : World → Al → γ → Prop} {own : γ → Nat → Prop} {hb cb ab : Nat} {l : List Hd.Shp} {w : World} {al : Al} {g : γ}
/-- A field. -/
theorem c_get (H : Hid (HV V own hb cb ab l)) (h : Hid (V w al g)) (a F f : Int) (b : Bool) (hf : (decide (0 ≤ f) && decide (f < F)) = true) (f1 : Int) (h1 : wrap64 (1 + f) = f1) : Calls Tryz.prog 36 #[chv (some ⟨hb, 0, none⟩) a F b, .int .i64 f] w fun e w' => e = .returned (.int .i64 (al.a.readV a f1)) ∧ G w w' := by
  obtain ⟨W2, hW2⟩ : ∃ W2, W2 = w.alloc (.cells #[.pointer (some ⟨hb, 0, none⟩), .int .i64 a, .int .i64 F, .bool b] 87) := ⟨_, rfl⟩
  obtain ⟨g2, bx⟩ := box4 hW2
  have BX : Hid (∀ y, G W2 y → y.cell? ⟨w.heap.size, 0, none⟩ = some (.pointer (some ⟨hb, 0, none⟩)) ∧ y.cell? ⟨w.heap.size, 1, none⟩ = some (.int .i64 a) ∧ y.cell? ⟨w.heap.size, 2, none⟩ = some (.int .i64 F) ∧ y.cell? ⟨w.heap.size, 3, none⟩ = some (.bool b)) := hide fun y gy => bx y (fun _ => False) (fun _ => False) (fun _ h => h.elim) (Fr.of_G gy)
  obtain ⟨b0, b1, b2, b3⟩ := unhide BX W2 (G.refl _)
  have GW : Hid (∀ y, G W2 y → G w y) := hide fun y gy => g2.trans gy
  have C := hide (c_has W2 (some ⟨hb, 0, none⟩) a F f b)
  have C1 : Hid (∀ y, (G W2 y ∧ y.cell? ⟨w.heap.size, 0, none⟩ = some (.pointer (some ⟨hb, 0, none⟩)) ∧ y.cell? ⟨w.heap.size, 1, none⟩ = some (.int .i64 a)) → Calls Tryz.prog 20 #[.pointer (some ⟨hb, 0, none⟩)] y fun e w' => e = .returned (.pointer (some ⟨cb, 0, none⟩)) ∧ G y w') := hide fun y gy => ((unhide H).cyc y al g ((unhide H).gr _ _ _ _ (unhide h) (g2.trans gy.1))).mono fun _ _ hh => ⟨hh.1, by rw [hh.2]; exact G.refl _⟩
  have C2 : Hid (∀ y, (G W2 y ∧ y.cell? ⟨w.heap.size, 0, none⟩ = some (.pointer (some ⟨hb, 0, none⟩)) ∧ y.cell? ⟨w.heap.size, 1, none⟩ = some (.int .i64 a)) → Calls Tryz.prog 22 #[.pointer (some ⟨cb, 0, none⟩)] y fun e w' => e = .returned (.pointer (some ⟨ab, 0, none⟩)) ∧ G y w') := hide fun y gy => ((unhide H).arena y al g ((unhide H).gr _ _ _ _ (unhide h) (g2.trans gy.1))).mono fun _ _ hh => ⟨hh.1, by rw [hh.2]; exact G.refl _⟩
  have C3 : Hid (∀ y, (G W2 y ∧ y.cell? ⟨w.heap.size, 0, none⟩ = some (.pointer (some ⟨hb, 0, none⟩)) ∧ y.cell? ⟨w.heap.size, 1, none⟩ = some (.int .i64 a)) → Calls Tryz.prog 62 #[.pointer (some ⟨ab, 0, none⟩), .int .i64 a, .int .i64 (IntKind.i64.wrap (1 + f))] y fun e w' => e = .returned (.tuple #[.int .i64 (al.a.readV a f1), .int .i64 (al.a.readE a f1)]) ∧ G y w') := hide fun y gy => by
    have e : IntKind.i64.wrap (1 + f) = f1 := by rw [← h1, IntKind.wrap_i64]; unfold wrap64; omega
    rw [e]
    exact (unhide H).read y al g a f1 ((unhide H).gr _ _ _ _ (unhide h) (g2.trans gy.1))
  rw [hf] at C
  generalize al.a.readV a f1 = rv at C3 ⊢
  generalize al.a.readE a f1 = re at C3
  clear bx hf g2 h H h1
  go_enter Tryz.func36, Tryz.ntmps36
  go_upto_region 1 with fail
  rw [← hW2]
  clear hW2
  go_wp2_with fail
  refine (unhide C).mono ?_
  rintro e w3 ⟨rfl, g3⟩
  obtain ⟨b0, b1, b2, b3⟩ := unhide BX w3 g3
  have KD : Hid (G W2 w3.drew ∧ w3.drew.cell? ⟨w.heap.size, 0, none⟩ = some (.pointer (some ⟨hb, 0, none⟩)) ∧ w3.drew.cell? ⟨w.heap.size, 1, none⟩ = some (.int .i64 a)) := hide ⟨g3.drew, (unhide BX _ g3.drew).1, (unhide BX _ g3.drew).2.1⟩
  have KC : Hid (∀ x y, (G W2 x ∧ x.cell? ⟨w.heap.size, 0, none⟩ = some (.pointer (some ⟨hb, 0, none⟩)) ∧ x.cell? ⟨w.heap.size, 1, none⟩ = some (.int .i64 a)) → G x y → (G W2 y ∧ y.cell? ⟨w.heap.size, 0, none⟩ = some (.pointer (some ⟨hb, 0, none⟩)) ∧ y.cell? ⟨w.heap.size, 1, none⟩ = some (.int .i64 a))) := hide fun x y hx gx => ⟨hx.1.trans gx, gx.cell hx.2.1, gx.cell hx.2.2⟩
  clear C g3
  go_wp2_with fail
  go_region_held3 (fun x => G W2 x ∧ x.cell? ⟨w.heap.size, 0, none⟩ = some (.pointer (some ⟨hb, 0, none⟩)) ∧ x.cell? ⟨w.heap.size, 1, none⟩ = some (.int .i64 a))
    (first | assumption | exact unhide KD | exact unhide KC _ _ (by assumption) (by assumption))
    ((first
      | (go_at_call 20; refine (unhide C1 _ ?_).mono ?_; assumption; rintro e x4 ⟨rfl, hg4⟩)
      | (go_at_call 22; refine (unhide C2 _ ?_).mono ?_; assumption; rintro e x5 ⟨rfl, hg5⟩)
      | (go_at_call 62; refine (unhide C3 _ ?_).mono ?_; assumption; rintro e x6 ⟨rfl, hg6⟩)))
  all_goals
    go_wp2_with fail
    go_ret
    exact ⟨rfl, unhide GW _ (by assumption : G W2 _ ∧ _).1⟩
end
end Go.Proofs.YtdnhmkbdphpjcaaGreatDoor

/- Package chans, over any view of a heap: find, set, round, closed. -/
namespace Go.Proofs.YtdnhmkbdphpjcaaGreatDoor
set_option maxRecDepth 100000
open Go.ChangeShapes Go.WideShapes Go.ChangeAt Go.RowKit Go.Maps Go.Deep

theorem put4 {w w2 : World} {s : Nat} (hs : w.heap.size ≤ s) (g : G w w2) {u0 u1 u2 u3 : Value} (a0 : w2.cell? ⟨s, 0, none⟩ = some u0) (a1 : w2.cell? ⟨s, 1, none⟩ = some u1) (a2 : w2.cell? ⟨s, 2, none⟩ = some u2) (a3 : w2.cell? ⟨s, 3, none⟩ = some u3) (v0 v1 v2 v3 : Value) (Y : World) (hY : Y = (((w2.setCell ⟨s, 0, none⟩ v0).setCell ⟨s, 1, none⟩ v1).setCell ⟨s, 2, none⟩ v2).setCell ⟨s, 3, none⟩ v3) :
    Y.cell? ⟨s, 0, none⟩ = some v0 ∧ Y.cell? ⟨s, 1, none⟩ = some v1 ∧ Y.cell? ⟨s, 2, none⟩ = some v2 ∧ Y.cell? ⟨s, 3, none⟩ = some v3 ∧ G w Y := by
  have o : ∀ (y : World) (i j : Nat) (v u : Value), i ≠ j → y.cell? ⟨s, i, none⟩ = some u → (y.setCell ⟨s, j, none⟩ v).cell? ⟨s, i, none⟩ = some u := fun y i j v u hn h => by rw [cell_other _ (Or.inr hn)]; exact h
  have q0 := cell_same v0 a0
  have q1 := cell_same v1 (o w2 1 0 v0 _ (by decide) a1)
  have q2 := cell_same v2 (o _ 2 1 v1 _ (by decide) (o w2 2 0 v0 _ (by decide) a2))
  have q3 := cell_same v3 (o _ 3 2 v2 _ (by decide) (o _ 3 1 v1 _ (by decide) (o w2 3 0 v0 _ (by decide) a3)))
  rw [hY]
  exact ⟨o _ 0 3 v3 _ (by decide) (o _ 0 2 v2 _ (by decide) (o _ 0 1 v1 _ (by decide) q0)), o _ 1 3 v3 _ (by decide) (o _ 1 2 v2 _ (by decide) q1), o _ 2 3 v3 _ (by decide) q2, q3, G.set (G.set (G.set (G.set g _ _ hs) _ _ hs) _ _ hs) _ _ hs⟩
section
variable {γ : Type} {V : World → Al → γ → Prop} {own : γ → Nat → Prop} {hb cb ab : Nat} {l : List Hd.Shp} {w : World} {al : Al} {g : γ}
set_option maxHeartbeats 1000000 in
/-- There is none. -/
theorem c_find_no (H : Hid (HV V own hb cb ab l)) (h : Hid (V w al g)) (a : Int) (ho : ofP al l a = none) : Calls Tryz.prog 35 #[.pointer (some ⟨hb, 0, none⟩), .int .i64 a] w fun e w' => e = .returned (.tuple #[chv none 0 0 false, .bool false]) ∧ G w w' := by
  obtain ⟨W1, hW1⟩ : ∃ W1, W1 = w.alloc (.cells #[.pointer none, .int .i64 0, .int .i64 0, .bool false] 87) := ⟨_, rfl⟩
  obtain ⟨g1, bx⟩ := box4 hW1
  have hz : w.heap.size < W1.heap.size := by rw [hW1, World.size_alloc]; omega
  have fz : ∀ y, G W1 y → ∀ i, y.frozen? ⟨w.heap.size, i, none⟩ = false := fun y gy i => by
    have e0 : W1.heap[w.heap.size]? = some (.cells #[.pointer none, .int .i64 0, .int .i64 0, .bool false] 87) := by rw [hW1]; exact heap_alloc_new w _
    have e := (gy.block _ hz).trans e0
    simp [World.frozen?, e]
  have BX : Hid (∀ y, G W1 y → (y.cell? ⟨w.heap.size, 0, none⟩ = some (.pointer none) ∧ y.cell? ⟨w.heap.size, 1, none⟩ = some (.int .i64 0) ∧ y.cell? ⟨w.heap.size, 2, none⟩ = some (.int .i64 0) ∧ y.cell? ⟨w.heap.size, 3, none⟩ = some (.bool false)) ∧ (∀ i, y.frozen? ⟨w.heap.size, i, none⟩ = false)) := hide fun y gy => ⟨bx y (fun _ => False) (fun _ => False) (fun _ h => h.elim) (Fr.of_G gy), fz y gy⟩
  have CO := hide ((unhide H).of_ W1 al g a ((unhide H).gr _ _ _ _ (unhide h) g1))
  rw [ho] at CO
  simp only [ofV] at CO
  replace g1 := hide g1
  clear bx ho hz fz H h
  go_enter Tryz.func35, Tryz.ntmps35
  go_upto_region 1 with fail
  rw [← hW1]
  clear hW1
  go_wp2_with fail
  refine (unhide CO).mono ?_
  rintro e w1 ⟨rfl, g2⟩
  clear CO
  go_upto_region 2 with fail
  obtain ⟨W2, hW2⟩ : ∃ W2, W2 = (w1.alloc (.cells #[.int .i64 0, .int .i64 0, .int .i64 0] 128)).alloc (.cells #[.int .i64 0, .int .i64 0, .int .u64 0] 72) := ⟨_, rfl⟩
  rw [← hW2]
  have g3 : G W1 W2 := g2.trans (by rw [hW2]; exact ((G.refl w1).more _).more _)
  obtain ⟨⟨b0, b1, b2, b3⟩, bf⟩ := unhide BX W2 g3
  have FIN : Hid (∀ Y, Y = (((W2.setCell ⟨w.heap.size, 0, none⟩ (.pointer none)).setCell ⟨w.heap.size, 1, none⟩ (.int .i64 0)).setCell ⟨w.heap.size, 2, none⟩ (.int .i64 0)).setCell ⟨w.heap.size, 3, none⟩ (.bool false) → _) := hide fun Y hY => put4 (Nat.le_refl _) ((unhide g1).trans g3) b0 b1 b2 b3 _ _ _ _ Y hY
  clear hW2 g2 g3
  go_wp2_with fail
  obtain ⟨Y, hY⟩ : ∃ Y, Y = (((W2.setCell ⟨w.heap.size, 0, none⟩ (.pointer none)).setCell ⟨w.heap.size, 1, none⟩ (.int .i64 0)).setCell ⟨w.heap.size, 2, none⟩ (.int .i64 0)).setCell ⟨w.heap.size, 3, none⟩ (.bool false) := ⟨_, rfl⟩
  obtain ⟨y0, y1, y2, y3, gY⟩ := unhide FIN Y hY
  rw [← hY]
  refine bodyPost_ret (by simp [results, Tryz.results35, go_sem, y0, y1, y2, y3]; try rfl) rfl ?_
  exact ⟨rfl, gY⟩
set_option maxHeartbeats 1000000 in
theorem c_find (H : Hid (HV V own hb cb ab l)) (h : Hid (V w al g)) (a F sh : Int) (s : Hd.Shp) (adr : Bool) (ho : ofP al l a = some (F + 1, 3, sh, s)) (hh : Hd.holdsB s.k s.m 4 6 = adr) : Calls Tryz.prog 35 #[.pointer (some ⟨hb, 0, none⟩), .int .i64 a] w fun e w' => e = .returned (.tuple #[chv (some ⟨hb, 0, none⟩) a F adr, .bool true]) ∧ G w w' := by
  obtain ⟨W1, hW1⟩ : ∃ W1, W1 = w.alloc (.cells #[.pointer none, .int .i64 0, .int .i64 0, .bool false] 87) := ⟨_, rfl⟩
  obtain ⟨g1, bx⟩ := box4 hW1
  have hz : w.heap.size < W1.heap.size := by rw [hW1, World.size_alloc]; omega
  have fz : ∀ y, G W1 y → ∀ i, y.frozen? ⟨w.heap.size, i, none⟩ = false := fun y gy i => by
    have e0 : W1.heap[w.heap.size]? = some (.cells #[.pointer none, .int .i64 0, .int .i64 0, .bool false] 87) := by rw [hW1]; exact heap_alloc_new w _
    have e := (gy.block _ hz).trans e0
    simp [World.frozen?, e]
  have BX : Hid (∀ y, G W1 y → (y.cell? ⟨w.heap.size, 0, none⟩ = some (.pointer none) ∧ y.cell? ⟨w.heap.size, 1, none⟩ = some (.int .i64 0) ∧ y.cell? ⟨w.heap.size, 2, none⟩ = some (.int .i64 0) ∧ y.cell? ⟨w.heap.size, 3, none⟩ = some (.bool false)) ∧ (∀ i, y.frozen? ⟨w.heap.size, i, none⟩ = false)) := hide fun y gy => ⟨bx y (fun _ => False) (fun _ => False) (fun _ h => h.elim) (Fr.of_G gy), fz y gy⟩
  have CO := hide ((unhide H).of_ W1 al g a ((unhide H).gr _ _ _ _ (unhide h) g1))
  obtain ⟨⟨hw1, hw2⟩, hmem⟩ := ofP_some ho
  have hm64 := (unhide H).fit s hmem
  rw [ho] at CO
  simp only [ofV] at CO
  have hw : wrap64 (F + 1 - 1) = F := by unfold wrap64; omega
  generalize F + 1 = F1 at CO hw
  obtain ⟨sk, hsk⟩ : ∃ sk, sk = s.k := ⟨_, rfl⟩
  obtain ⟨sf, hsf⟩ : ∃ sf, sf = s.f := ⟨_, rfl⟩
  obtain ⟨sm, hsm⟩ : ∃ sm, sm = s.m := ⟨_, rfl⟩
  rw [← hsk, ← hsf, ← hsm] at CO
  rw [← hsk, ← hsm] at hh
  rw [← hsm] at hm64
  have CH := hide (fun x => Hd.holds_any sk sf sm 4 6 x hm64 (by decide))
  rw [hh] at CH
  replace g1 := hide g1
  clear bx ho hz fz H h hw1 hw2 hmem hm64 hsk hsf hsm hh
  go_enter Tryz.func35, Tryz.ntmps35
  go_upto_region 1 with fail
  rw [← hW1]
  clear hW1
  go_wp2_with fail
  refine (unhide CO).mono ?_
  rintro e w1 ⟨rfl, g2⟩
  clear CO
  go_upto_region 2 with fail
  obtain ⟨W2, hW2⟩ : ∃ W2, W2 = (w1.alloc (.cells #[.int .i64 F1, .int .i64 3, .int .i64 sh] 128)).alloc (.cells #[.int .i64 sk, .int .i64 sf, .int .u64 (sm : Int)] 72) := ⟨_, rfl⟩
  rw [← hW2]
  obtain ⟨gq, BQ⟩ := two_box w1 F1 3 sh sk sf sm W2 hW2
  have g3 : Hid (G W1 W2) := hide (g2.trans gq)
  obtain ⟨⟨a0, a1, a2⟩, ⟨e0, e1, e2⟩⟩ := BQ W2 (G.refl _)
  replace BQ := hide BQ
  clear hW2 g2 gq
  go_wp2_with fail
  refine (unhide CH _).mono ?_
  rintro e w3 ⟨rfl, g4⟩
  obtain ⟨⟨a0, a1, a2⟩, _⟩ := unhide BQ w3 g4
  have g5 : G W1 w3 := (unhide g3).trans g4
  obtain ⟨⟨b0, b1, b2, b3⟩, bf⟩ := unhide BX w3 g5
  have FIN : Hid (∀ Y, Y = (((w3.setCell ⟨w.heap.size, 0, none⟩ (.pointer (some ⟨hb, 0, none⟩))).setCell ⟨w.heap.size, 1, none⟩ (.int .i64 a)).setCell ⟨w.heap.size, 2, none⟩ (.int .i64 F)).setCell ⟨w.heap.size, 3, none⟩ (.bool adr) → _) := hide fun Y hY => put4 (Nat.le_refl _) ((unhide g1).trans g5) b0 b1 b2 b3 _ _ _ _ Y hY
  clear g4 g5 CH BQ e0 e1 e2
  go_wp2_with fail
  obtain ⟨Y, hY⟩ : ∃ Y, Y = (((w3.setCell ⟨w.heap.size, 0, none⟩ (.pointer (some ⟨hb, 0, none⟩))).setCell ⟨w.heap.size, 1, none⟩ (.int .i64 a)).setCell ⟨w.heap.size, 2, none⟩ (.int .i64 F)).setCell ⟨w.heap.size, 3, none⟩ (.bool adr) := ⟨_, rfl⟩
  obtain ⟨y0, y1, y2, y3, gY⟩ := unhide FIN Y hY
  rw [← hY]
  refine bodyPost_ret (by simp [results, Tryz.results35, go_sem, y0, y1, y2, y3]; try rfl) rfl ?_
  exact ⟨rfl, gY⟩
end
end Go.Proofs.YtdnhmkbdphpjcaaGreatDoor

/- Package chans, over any view of a heap: set, round, closed, swap. -/
namespace Go.Proofs.YtdnhmkbdphpjcaaGreatDoor
set_option maxRecDepth 100000
open Go.ChangeShapes Go.WideShapes Go.ChangeAt Go.RowKit Go.Maps Go.Deep

section
variable {γ : Type} {V : World → Al → γ → Prop} {own : γ → Nat → Prop} {hb cb ab : Nat} {l : List Hd.Shp} {w : World} {al : Al} {g : γ}
set_option maxHeartbeats 1000000 in
theorem c_set (H : Hid (HV V own hb cb ab l)) (h : Hid (V w al g)) (a F f v : Int) (b : Bool) (hf : (decide (0 ≤ f) && decide (f < F)) = true) (f1 : Int) (h1 : wrap64 (1 + f) = f1) (hE : al.a.readE a f1 = 0) : Calls Tryz.prog 38 #[chv (some ⟨hb, 0, none⟩) a F b, .int .i64 f, .int .i64 v] w fun e w' => e = .returned (.bool true) ∧ V w' ⟨al.a.writeA a f1 v, al.u⟩ g ∧ Fr (own g) (own g) w w' := by
  obtain ⟨W2, hW2⟩ : ∃ W2, W2 = w.alloc (.cells #[.pointer (some ⟨hb, 0, none⟩), .int .i64 a, .int .i64 F, .bool b] 87) := ⟨_, rfl⟩
  obtain ⟨g2, bx⟩ := box4 hW2
  have hlt := (unhide H).lt _ _ _ (unhide h)
  have BX : Hid (∀ y, Fr (own g) (own g) W2 y → y.cell? ⟨w.heap.size, 0, none⟩ = some (.pointer (some ⟨hb, 0, none⟩)) ∧ y.cell? ⟨w.heap.size, 1, none⟩ = some (.int .i64 a) ∧ y.cell? ⟨w.heap.size, 2, none⟩ = some (.int .i64 F) ∧ y.cell? ⟨w.heap.size, 3, none⟩ = some (.bool b)) := hide fun y f => bx y (own g) (own g) hlt f
  obtain ⟨b0, b1, b2, b3⟩ := unhide BX W2 (Fr.of_G (G.refl _))
  have CH : Hid (∀ y, (y.cell? ⟨w.heap.size, 0, none⟩ = some (.pointer (some ⟨hb, 0, none⟩)) ∧ y.cell? ⟨w.heap.size, 1, none⟩ = some (.int .i64 a) ∧ y.cell? ⟨w.heap.size, 2, none⟩ = some (.int .i64 F) ∧ y.cell? ⟨w.heap.size, 3, none⟩ = some (.bool b)) → Calls Tryz.prog 61 #[chv (some ⟨hb, 0, none⟩) a F b, .int .i64 f] y fun e w' => e = .returned (.bool true) ∧ G y w') := hide fun y _ => by
    have := c_has y (some ⟨hb, 0, none⟩) a F f b
    rw [hf] at this
    exact this
  have C1 : Hid (∀ y, G W2 y → Calls Tryz.prog 20 #[.pointer (some ⟨hb, 0, none⟩)] y fun e w' => e = .returned (.pointer (some ⟨cb, 0, none⟩)) ∧ w' = y) := hide fun y gy => (unhide H).cyc y al g ((unhide H).gr _ _ _ _ (unhide h) (g2.trans gy))
  have C2 : Hid (∀ y, G W2 y → Calls Tryz.prog 22 #[.pointer (some ⟨cb, 0, none⟩)] y fun e w' => e = .returned (.pointer (some ⟨ab, 0, none⟩)) ∧ w' = y) := hide fun y gy => (unhide H).arena y al g ((unhide H).gr _ _ _ _ (unhide h) (g2.trans gy))
  have C3 : Hid (∀ y, G W2 y → Calls Tryz.prog 34 #[.pointer (some ⟨ab, 0, none⟩), .int .i64 a, .int .i64 (IntKind.i64.wrap (1 + f)), .int .i64 v] y fun e w' => e = .returned (.int .i64 0) ∧ Hid (V w' ⟨al.a.writeA a f1 v, al.u⟩ g ∧ Fr (own g) (own g) W2 w')) := hide fun y gy => by
    have e : IntKind.i64.wrap (1 + f) = f1 := by rw [← h1, IntKind.wrap_i64]; unfold wrap64; omega
    rw [e]
    refine ((unhide H).write y al g a f1 v ((unhide H).gr _ _ _ _ (unhide h) (g2.trans gy))).mono fun _ _ hh => ?_
    rw [hE] at hh
    exact ⟨hh.1, hide ⟨hh.2.1, (Fr.of_G gy).trans hh.2.2⟩⟩
  have FW : Hid (∀ y, Fr (own g) (own g) W2 y → Fr (own g) (own g) w y) := hide fun y f => (Fr.of_G g2).trans f
  obtain ⟨al', hal⟩ : ∃ al', al' = (⟨al.a.writeA a f1 v, al.u⟩ : Al) := ⟨_, rfl⟩
  rw [← hal] at C3 ⊢
  have KD : Hid (W2.drew.cell? ⟨w.heap.size, 0, none⟩ = some (.pointer (some ⟨hb, 0, none⟩)) ∧ W2.drew.cell? ⟨w.heap.size, 1, none⟩ = some (.int .i64 a) ∧ W2.drew.cell? ⟨w.heap.size, 2, none⟩ = some (.int .i64 F) ∧ W2.drew.cell? ⟨w.heap.size, 3, none⟩ = some (.bool b)) := hide (unhide BX _ (Fr.of_G (G.refl _).drew))
  have KC : Hid (∀ x y : World, (x.cell? ⟨w.heap.size, 0, none⟩ = some (.pointer (some ⟨hb, 0, none⟩)) ∧ x.cell? ⟨w.heap.size, 1, none⟩ = some (.int .i64 a) ∧ x.cell? ⟨w.heap.size, 2, none⟩ = some (.int .i64 F) ∧ x.cell? ⟨w.heap.size, 3, none⟩ = some (.bool b)) → G x y → (y.cell? ⟨w.heap.size, 0, none⟩ = some (.pointer (some ⟨hb, 0, none⟩)) ∧ y.cell? ⟨w.heap.size, 1, none⟩ = some (.int .i64 a) ∧ y.cell? ⟨w.heap.size, 2, none⟩ = some (.int .i64 F) ∧ y.cell? ⟨w.heap.size, 3, none⟩ = some (.bool b))) := hide fun x y hx gx => ⟨gx.cell hx.1, gx.cell hx.2.1, gx.cell hx.2.2.1, gx.cell hx.2.2.2⟩
  clear bx hf g2 h H h1 hE hal hlt
  go_enter Tryz.func38, Tryz.ntmps38
  go_upto_region 1 with fail
  rw [← hW2]
  clear hW2
  go_region_held3 (fun x => x.cell? ⟨w.heap.size, 0, none⟩ = some (.pointer (some ⟨hb, 0, none⟩)) ∧ x.cell? ⟨w.heap.size, 1, none⟩ = some (.int .i64 a) ∧ x.cell? ⟨w.heap.size, 2, none⟩ = some (.int .i64 F) ∧ x.cell? ⟨w.heap.size, 3, none⟩ = some (.bool b))
    (first | assumption | exact unhide KD | exact unhide KC _ _ (by assumption) (by assumption))
    ((first
      | (go_at_call 61; refine (unhide CH _ ?_).mono ?_; assumption; rintro e x3 ⟨rfl, hg3⟩; have gW3 := (G.refl W2).drew.trans hg3)
      | (go_at_call 20; refine (unhide C1 _ gW3).mono ?_; rintro e x4 ⟨rfl, rfl⟩)
      | (go_at_call 22; refine (unhide C2 _ gW3).mono ?_; rintro e x5 ⟨rfl, rfl⟩)
      | (go_at_call 34; refine (unhide C3 _ gW3).mono ?_; rintro e x6 ⟨rfl, h6⟩; have S6 := unhide BX x6 (unhide h6).2)))
  all_goals
    go_wp2_with fail
    go_ret
    exact ⟨rfl, (unhide h6).1, unhide FW _ (unhide h6).2⟩
/-- The place in the ring. -/
theorem c_round (H : Hid (HV V own hb cb ab l)) (h : Hid (V w al g)) (a F : Int) (b : Bool) (hF : 0 < F) (R far z : Int) (hR : al.a.readV a 1 = R) (h1 : 1 ≤ R) (hz : Int.tmod far R = z) : Calls Tryz.prog 39 #[chv (some ⟨hb, 0, none⟩) a F b, .int .i64 far] w fun e w' => e = .returned (.int .i64 z) ∧ G w w' := by
  obtain ⟨W2, hW2⟩ : ∃ W2, W2 = w.alloc (.cells #[.pointer (some ⟨hb, 0, none⟩), .int .i64 a, .int .i64 F, .bool b] 87) := ⟨_, rfl⟩
  obtain ⟨g2, bx⟩ := box4 hW2
  obtain ⟨b0, b1, b2, b3⟩ := bx W2 (fun _ => False) (fun _ => False) (fun _ h => h.elim) (Fr.of_G (G.refl _))
  have C := hide (c_get H (hide ((unhide H).gr _ _ _ _ (unhide h) g2)) a F 0 b (by simp [hF]) 1 (by decide +kernel))
  rw [hR] at C
  have hR0 : ¬ R = 0 := by omega
  have hd : decide (R < 1) = false := by simp; omega
  replace g2 := hide g2
  clear bx H h hR hF
  go_enter Tryz.func39, Tryz.ntmps39
  go_upto_region 1 with fail
  rw [← hW2]
  clear hW2
  go_wp2_with fail
  refine (unhide C).mono ?_
  rintro e w3 ⟨rfl, g3⟩
  have g4 := hide ((unhide g2).trans g3)
  clear C g3
  go_wp2_with fail
  go_ret
  exact ⟨by rw [← hz]; rfl, unhide g4⟩
theorem c_closed (H : Hid (HV V own hb cb ab l)) (h : Hid (V w al g)) (a F : Int) (b : Bool) (hF : 3 < F) (cl : Bool) (hc : al.a.readV a 4 = if cl = true then 1 else 0) : Calls Tryz.prog 40 #[chv (some ⟨hb, 0, none⟩) a F b] w fun e w' => e = .returned (.bool cl) ∧ G w w' := by
  obtain ⟨W2, hW2⟩ : ∃ W2, W2 = w.alloc (.cells #[.pointer (some ⟨hb, 0, none⟩), .int .i64 a, .int .i64 F, .bool b] 87) := ⟨_, rfl⟩
  obtain ⟨g2, bx⟩ := box4 hW2
  obtain ⟨b0, b1, b2, b3⟩ := bx W2 (fun _ => False) (fun _ => False) (fun _ h => h.elim) (Fr.of_G (G.refl _))
  have C := hide (c_get H (hide ((unhide H).gr _ _ _ _ (unhide h) g2)) a F 3 b (by simp [hF]) 4 (by decide +kernel))
  rw [hc] at C
  replace g2 := hide g2
  clear bx H h hc hF
  cases cl
  · go_enter Tryz.func40, Tryz.ntmps40
    go_upto_region 1 with fail
    rw [← hW2]
    clear hW2
    go_wp2_with fail
    refine (unhide C).mono ?_
    rintro e w3 ⟨rfl, g3⟩
    have g4 := hide ((unhide g2).trans g3)
    clear C g3
    go_wp2_with fail
    go_ret
    exact ⟨rfl, unhide g4⟩
  · go_enter Tryz.func40, Tryz.ntmps40
    go_upto_region 1 with fail
    rw [← hW2]
    clear hW2
    go_wp2_with fail
    refine (unhide C).mono ?_
    rintro e w3 ⟨rfl, g3⟩
    have g4 := hide ((unhide g2).trans g3)
    clear C g3
    go_wp2_with fail
    go_ret
    exact ⟨rfl, unhide g4⟩
end
end Go.Proofs.YtdnhmkbdphpjcaaGreatDoor

/- Package chans, over any view of a heap: swap; Room, Count, Closed, Is, Close, where there is none and where there is one. -/
namespace Go.Proofs.YtdnhmkbdphpjcaaGreatDoor
set_option maxRecDepth 100000
open Go.ChangeShapes Go.WideShapes Go.ChangeAt Go.RowKit Go.Maps Go.Deep

section
variable {γ : Type} {V : World → Al → γ → Prop} {own : γ → Nat → Prop} {hb cb ab : Nat} {l : List Hd.Shp} {w : World} {al : Al} {g : γ}
set_option maxHeartbeats 1000000 in
theorem c_swap (H : Hid (HV V own hb cb ab l)) (h : Hid (V w al g)) (a F : Int) (b : Bool) (R far z v id : Int) (hR : al.a.readV a 1 = R) (h1 : 1 ≤ R) (hz : Int.tmod far R = z) (hz0 : 0 ≤ z) (hzF : 4 + z < F) (hF9 : F ≤ 64) (hE : al.a.readE a (5 + z) = 0) (al2 : Al) (Pg : γ → Prop)
    (hB : b = true → BarC V own cb ⟨al.a.writeA a (5 + z) v, al.u⟩ g (al.a.readV a (5 + z)) v id al2 Pg) (hN : b = false → al2 = ⟨al.a.writeA a (5 + z) v, al.u⟩ ∧ Pg g) :
    Calls Tryz.prog 37 #[chv (some ⟨hb, 0, none⟩) a F b, .int .i64 far, .int .i64 v, .int .i64 id] w fun e w' => e = .returned (.tuple #[.int .i64 (al.a.readV a (5 + z)), .bool true]) ∧ ∃ g2, Pg g2 ∧ V w' al2 g2 ∧ Fr (own g) (own g2) w w' := by
  obtain ⟨W2, hW2⟩ : ∃ W2, W2 = w.alloc (.cells #[.pointer (some ⟨hb, 0, none⟩), .int .i64 a, .int .i64 F, .bool b] 87) := ⟨_, rfl⟩
  obtain ⟨gw, bx⟩ := box4 hW2
  have hlt := (unhide H).lt _ _ _ (unhide h)
  have BX : Hid (∀ y, Fr (own g) (own g) W2 y → y.cell? ⟨w.heap.size, 0, none⟩ = some (.pointer (some ⟨hb, 0, none⟩)) ∧ y.cell? ⟨w.heap.size, 1, none⟩ = some (.int .i64 a) ∧ y.cell? ⟨w.heap.size, 2, none⟩ = some (.int .i64 F) ∧ y.cell? ⟨w.heap.size, 3, none⟩ = some (.bool b)) := hide fun y f => bx y (own g) (own g) hlt f
  obtain ⟨b0, b1, b2, b3⟩ := unhide BX W2 (Fr.of_G (G.refl _))
  have VG : Hid (∀ y, G W2 y → V y al g) := hide fun y gy => (unhide H).gr _ _ _ _ (unhide h) (gw.trans gy)
  have CR := hide (c_round H (hide (unhide VG W2 (G.refl _))) a F b (by omega) R far z hR h1 hz)
  have hd : decide (z < 0) = false := by simp; omega
  obtain ⟨f, hf⟩ : ∃ f, 4 + z = f := ⟨_, rfl⟩
  have hw4 : wrap64 (4 + z) = f := by unfold wrap64; omega
  have hfd : (decide (0 ≤ f) && decide (f < F)) = true := by simp; omega
  have hw1 : wrap64 (1 + f) = 5 + z := by unfold wrap64; omega
  have CG : Hid (∀ y, G W2 y → Calls Tryz.prog 36 #[chv (some ⟨hb, 0, none⟩) a F b, .int .i64 f] y fun e w' => e = .returned (.int .i64 (al.a.readV a (5 + z))) ∧ G y w') := hide fun y gy => c_get H (hide (unhide VG y gy)) a F f b hfd (5 + z) hw1
  have CS : Hid (∀ y, G W2 y → Calls Tryz.prog 38 #[chv (some ⟨hb, 0, none⟩) a F b, .int .i64 f, .int .i64 v] y fun e w' => e = .returned (.bool true) ∧ Hid (V w' ⟨al.a.writeA a (5 + z) v, al.u⟩ g ∧ Fr (own g) (own g) W2 w')) := hide fun y gy => (c_set H (hide (unhide VG y gy)) a F f v b hfd (5 + z) hw1 hE).mono fun _ _ hh => ⟨hh.1, hide ⟨hh.2.1, (Fr.of_G gy).trans hh.2.2⟩⟩
  have CC : Hid (∀ y, V y ⟨al.a.writeA a (5 + z) v, al.u⟩ g → Calls Tryz.prog 20 #[.pointer (some ⟨hb, 0, none⟩)] y fun e w' => e = .returned (.pointer (some ⟨cb, 0, none⟩)) ∧ w' = y) := hide fun y hy => (unhide H).cyc y _ g hy
  have FW : Hid (∀ y o', Fr (own g) o' W2 y → Fr (own g) o' w y) := hide fun y o' f => (Fr.of_G gw).trans f
  unfold BarC at hB
  generalize al.a.readV a (5 + z) = old at CG hB ⊢
  generalize (⟨al.a.writeA a (5 + z) v, al.u⟩ : Al) = al1 at CS CC hB hN
  clear bx hlt H h hR h1 hz hz0 hzF hF9 hE gw VG hf hfd hw1
  cases b
  · obtain ⟨rfl, pg⟩ := hN rfl
    replace pg := hide pg
    clear hB hN CC
    go_enter Tryz.func37, Tryz.ntmps37
    go_upto_region 1 with fail
    rw [← hW2]
    clear hW2
    go_wp2_with fail
    refine (unhide CR).mono ?_
    rintro e w3 ⟨rfl, g3⟩
    obtain ⟨b0, b1, b2, b3⟩ := unhide BX w3 (Fr.of_G g3)
    have CG3 := hide (unhide CG w3 g3)
    replace g3 := hide g3
    clear CR CG
    go_wp2_with fail
    refine (unhide CG3).mono ?_
    rintro e w4 ⟨rfl, g4⟩
    have g5 := (unhide g3).trans g4
    obtain ⟨b0, b1, b2, b3⟩ := unhide BX w4 (Fr.of_G g5)
    have CS3 := hide (unhide CS w4 g5)
    clear CG3 CS g4 g5 g3
    go_wp2_with fail
    refine (unhide CS3).mono ?_
    rintro e w5 ⟨rfl, h5⟩
    obtain ⟨b0, b1, b2, b3⟩ := unhide BX w5 (unhide h5).2
    clear CS3
    go_wp2_with fail
    go_ret2
    exact ⟨rfl, g, unhide pg, (unhide h5).1, unhide FW _ _ (unhide h5).2⟩
  · have CB := hide (hB rfl)
    clear hB hN
    go_enter Tryz.func37, Tryz.ntmps37
    go_upto_region 1 with fail
    rw [← hW2]
    clear hW2
    go_wp2_with fail
    refine (unhide CR).mono ?_
    rintro e w3 ⟨rfl, g3⟩
    obtain ⟨b0, b1, b2, b3⟩ := unhide BX w3 (Fr.of_G g3)
    have CG3 := hide (unhide CG w3 g3)
    replace g3 := hide g3
    clear CR CG
    go_wp2_with fail
    refine (unhide CG3).mono ?_
    rintro e w4 ⟨rfl, g4⟩
    have g5 := (unhide g3).trans g4
    obtain ⟨b0, b1, b2, b3⟩ := unhide BX w4 (Fr.of_G g5)
    have CS3 := hide (unhide CS w4 g5)
    clear CG3 CS g4 g5 g3
    go_wp2_with fail
    refine (unhide CS3).mono ?_
    rintro e w5 ⟨rfl, h5⟩
    obtain ⟨b0, b1, b2, b3⟩ := unhide BX w5 (unhide h5).2
    have CC5 := hide (unhide CC w5 (unhide h5).1)
    have CB5 := hide (unhide CB w5 (unhide h5).1)
    clear CS3 CC CB
    go_wp2_with fail
    refine (unhide CC5).mono ?_
    rintro e w6 ⟨rfl, hw6⟩
    rw [hw6]
    clear hw6 w6 CC5
    go_wp2_with fail
    refine (unhide CB5).mono ?_
    rintro e w7 ⟨rfl, g2, pg, h7, f7⟩
    have h8 := hide (And.intro pg (And.intro h7 (unhide FW _ _ ((unhide h5).2.trans f7))))
    clear CB5 h7 f7 pg
    go_wp2_with fail
    go_ret2
    exact ⟨rfl, g2, unhide h8⟩
end
end Go.Proofs.YtdnhmkbdphpjcaaGreatDoor

/- Package chans, over any view of a heap: Room, Count, Closed, Is, Close. -/
namespace Go.Proofs.YtdnhmkbdphpjcaaGreatDoor
set_option maxRecDepth 100000
open Go.ChangeShapes Go.WideShapes Go.ChangeAt Go.RowKit Go.Maps Go.Deep

section
variable {γ : Type} {V : World → Al → γ → Prop} {own : γ → Nat → Prop} {hb cb ab : Nat} {l : List Hd.Shp} {w : World} {al : Al} {g : γ} {a : Int} {R f : Nat} {adr cl : Bool} {q : List Int}
theorem Cz.rd (h : Cz al l a R adr) (j : Nat) (hj : j < R + 5) : al.a.readV a (j : Int) = al.a.wd (a + j) ∧ al.a.readE a (j : Int) = 0 := by
  unfold Ab.readV Ab.readE
  rw [if_pos (h.inw j hj), if_pos (h.inw j hj)]
  exact ⟨rfl, rfl⟩
theorem Cz.wr (h : Cz al l a R adr) (j : Nat) (hj : j < R + 5) (v : Int) : al.a.writeA a (j : Int) v = al.a.write (a + j) v := if_pos (h.inw j hj)
/-- The one that was found, in a box of the caller's own. -/
theorem c_found (H : Hid (HV V own hb cb ab l)) (h : Hid (V w al g)) (C : Cz al l a R adr) : Calls Tryz.prog 35 #[.pointer (some ⟨hb, 0, none⟩), .int .i64 a] w fun e w1 => e = .returned (.tuple #[chv (some ⟨hb, 0, none⟩) a ((R : Int) + 4) adr, .bool true]) ∧
    Hid (∀ W2, W2 = w1.alloc (.cells #[.pointer (some ⟨hb, 0, none⟩), .int .i64 a, .int .i64 ((R : Int) + 4), .bool adr] 87) → G w W2 ∧ V W2 al g ∧ ∀ y o', Fr (own g) o' W2 y → y.cell? ⟨w1.heap.size, 0, none⟩ = some (.pointer (some ⟨hb, 0, none⟩)) ∧ y.cell? ⟨w1.heap.size, 1, none⟩ = some (.int .i64 a) ∧ y.cell? ⟨w1.heap.size, 2, none⟩ = some (.int .i64 ((R : Int) + 4)) ∧ y.cell? ⟨w1.heap.size, 3, none⟩ = some (.bool adr)) := by
  obtain ⟨sh, s, ho, hh⟩ := C.of_
  rw [show (R : Int) + 5 = (R : Int) + 4 + 1 by omega] at ho
  refine (c_find H h a _ sh s adr ho hh).mono fun e w1 he => ⟨he.1, hide fun W2 hW2 => ?_⟩
  obtain ⟨g2, bx⟩ := box4 hW2
  have V1 := (unhide H).gr _ _ _ _ (unhide h) he.2
  exact ⟨he.2.trans g2, (unhide H).gr _ _ _ _ V1 g2, fun y o' f => bx y (own g) o' ((unhide H).lt _ _ _ V1) f⟩
theorem c_found_no (H : Hid (HV V own hb cb ab l)) (h : Hid (V w al g)) (ho : ofP al l a = none) : Calls Tryz.prog 35 #[.pointer (some ⟨hb, 0, none⟩), .int .i64 a] w fun e w1 => e = .returned (.tuple #[chv none 0 0 false, .bool false]) ∧
    Hid (∀ W2, W2 = w1.alloc (.cells #[.pointer none, .int .i64 0, .int .i64 0, .bool false] 87) → G w W2 ∧ ∀ y, G W2 y → y.cell? ⟨w1.heap.size, 0, none⟩ = some (.pointer none) ∧ y.cell? ⟨w1.heap.size, 1, none⟩ = some (.int .i64 0) ∧ y.cell? ⟨w1.heap.size, 2, none⟩ = some (.int .i64 0) ∧ y.cell? ⟨w1.heap.size, 3, none⟩ = some (.bool false)) := by
  refine (c_find_no H h a ho).mono fun e w1 he => ⟨he.1, hide fun W2 hW2 => ?_⟩
  obtain ⟨g2, bx⟩ := box4 hW2
  exact ⟨he.2.trans g2, fun y gy => bx y (fun _ => False) (fun _ => False) (fun _ h => h.elim) (Fr.of_G gy)⟩
theorem c_room (H : Hid (HV V own hb cb ab l)) (h : Hid (V w al g)) (C : Cz al l a R adr) : Calls Tryz.prog 16 #[.pointer (some ⟨hb, 0, none⟩), .int .i64 a] w fun e w' => e = .returned (.int .i64 (R : Int)) ∧ G w w' := by
  have CF := hide (c_found H h C)
  have hv := (C.rd 1 (by omega)).1
  have CG : Hid (∀ y, V y al g → Calls Tryz.prog 36 #[chv (some ⟨hb, 0, none⟩) a ((R : Int) + 4) adr, .int .i64 0] y fun e w' => e = .returned (.int .i64 (R : Int)) ∧ G y w') := hide fun y hy => by
    have := c_get H (hide hy) a ((R : Int) + 4) 0 adr (by simp; omega) 1 (by decide +kernel)
    rw [show al.a.readV a 1 = _ from hv, show al.a.wd (a + (1 : Nat)) = _ from C.room] at this
    exact this
  generalize (R : Int) = rn at CF CG ⊢
  generalize rn + 4 = F at CF CG
  clear H h C hv
  go_enter Tryz.func16, Tryz.ntmps16
  go_wp2_with fail
  refine (unhide CF).mono ?_
  rintro e w1 ⟨rfl, B1⟩
  clear CF
  go_upto_region 2 with fail
  obtain ⟨W2, hW2⟩ : ∃ W2, W2 = w1.alloc (.cells #[.pointer (some ⟨hb, 0, none⟩), .int .i64 a, .int .i64 F, .bool adr] 87) := ⟨_, rfl⟩
  obtain ⟨g2, V2, BX⟩ := unhide B1 W2 hW2
  obtain ⟨b0, b1, b2, b3⟩ := BX W2 (own g) (Fr.of_G (G.refl _))
  rw [← hW2]
  have C2 := hide (unhide CG W2 V2)
  replace g2 := hide g2
  clear hW2 BX B1 V2 CG
  go_wp2_with fail
  refine (unhide C2).mono ?_
  rintro e w3 ⟨rfl, g3⟩
  have g4 := hide ((unhide g2).trans g3)
  clear C2 g3
  go_wp2_with fail
  go_ret
  exact ⟨rfl, unhide g4⟩
theorem c_room_no (H : Hid (HV V own hb cb ab l)) (h : Hid (V w al g)) (ho : ofP al l a = none) : Calls Tryz.prog 16 #[.pointer (some ⟨hb, 0, none⟩), .int .i64 a] w fun e w' => e = .returned (.int .i64 0) ∧ G w w' := by
  have CF := hide (c_found_no H h ho)
  clear H h ho
  go_enter Tryz.func16, Tryz.ntmps16
  go_wp2_with fail
  refine (unhide CF).mono ?_
  rintro e w1 ⟨rfl, B1⟩
  clear CF
  go_upto_region 2 with fail
  obtain ⟨W2, hW2⟩ : ∃ W2, W2 = w1.alloc (.cells #[.pointer none, .int .i64 0, .int .i64 0, .bool false] 87) := ⟨_, rfl⟩
  obtain ⟨g2, BX⟩ := unhide B1 W2 hW2
  obtain ⟨b0, b1, b2, b3⟩ := BX W2 (G.refl _)
  rw [← hW2]
  have C2 := hide (c_get_out W2 none 0 0 0 false (by decide))
  replace g2 := hide g2
  clear hW2 BX B1
  go_wp2_with fail
  refine (unhide C2).mono ?_
  rintro e w3 ⟨rfl, g3⟩
  have g4 := hide ((unhide g2).trans g3)
  clear C2 g3
  go_wp2_with fail
  go_ret
  exact ⟨rfl, unhide g4⟩
theorem c_count (H : Hid (HV V own hb cb ab l)) (h : Hid (V w al g)) (C : Cz al l a R adr) (Q : Cq al.a a R f q cl) : Calls Tryz.prog 17 #[.pointer (some ⟨hb, 0, none⟩), .int .i64 a] w fun e w' => e = .returned (.int .i64 (q.length : Int)) ∧ G w w' := by
  have CF := hide (c_found H h C)
  have hv := (C.rd 2 (by omega)).1
  have CG : Hid (∀ y, V y al g → Calls Tryz.prog 36 #[chv (some ⟨hb, 0, none⟩) a ((R : Int) + 4) adr, .int .i64 1] y fun e w' => e = .returned (.int .i64 (q.length : Int)) ∧ G y w') := hide fun y hy => by
    have := c_get H (hide hy) a ((R : Int) + 4) 1 adr (by simp; omega) 2 (by decide +kernel)
    rw [show al.a.readV a 2 = _ from hv, show al.a.wd (a + (2 : Nat)) = _ from Q.cnt] at this
    exact this
  generalize (q.length : Int) = rn at CG ⊢
  generalize (R : Int) + 4 = F at CF CG
  clear H h C hv Q
  go_enter Tryz.func17, Tryz.ntmps17
  go_wp2_with fail
  refine (unhide CF).mono ?_
  rintro e w1 ⟨rfl, B1⟩
  clear CF
  go_upto_region 2 with fail
  obtain ⟨W2, hW2⟩ : ∃ W2, W2 = w1.alloc (.cells #[.pointer (some ⟨hb, 0, none⟩), .int .i64 a, .int .i64 F, .bool adr] 87) := ⟨_, rfl⟩
  obtain ⟨g2, V2, BX⟩ := unhide B1 W2 hW2
  obtain ⟨b0, b1, b2, b3⟩ := BX W2 (own g) (Fr.of_G (G.refl _))
  rw [← hW2]
  have C2 := hide (unhide CG W2 V2)
  replace g2 := hide g2
  clear hW2 BX B1 V2 CG
  go_wp2_with fail
  refine (unhide C2).mono ?_
  rintro e w3 ⟨rfl, g3⟩
  have g4 := hide ((unhide g2).trans g3)
  clear C2 g3
  go_wp2_with fail
  go_ret
  exact ⟨rfl, unhide g4⟩
theorem c_count_no (H : Hid (HV V own hb cb ab l)) (h : Hid (V w al g)) (ho : ofP al l a = none) : Calls Tryz.prog 17 #[.pointer (some ⟨hb, 0, none⟩), .int .i64 a] w fun e w' => e = .returned (.int .i64 0) ∧ G w w' := by
  have CF := hide (c_found_no H h ho)
  clear H h ho
  go_enter Tryz.func17, Tryz.ntmps17
  go_wp2_with fail
  refine (unhide CF).mono ?_
  rintro e w1 ⟨rfl, B1⟩
  clear CF
  go_upto_region 2 with fail
  obtain ⟨W2, hW2⟩ : ∃ W2, W2 = w1.alloc (.cells #[.pointer none, .int .i64 0, .int .i64 0, .bool false] 87) := ⟨_, rfl⟩
  obtain ⟨g2, BX⟩ := unhide B1 W2 hW2
  obtain ⟨b0, b1, b2, b3⟩ := BX W2 (G.refl _)
  rw [← hW2]
  have C2 := hide (c_get_out W2 none 0 0 1 false (by decide))
  replace g2 := hide g2
  clear hW2 BX B1
  go_wp2_with fail
  refine (unhide C2).mono ?_
  rintro e w3 ⟨rfl, g3⟩
  have g4 := hide ((unhide g2).trans g3)
  clear C2 g3
  go_wp2_with fail
  go_ret
  exact ⟨rfl, unhide g4⟩
theorem Cz.shut (C : Cz al l a R adr) (Q : Cq al.a a R f q cl) : al.a.readV a 4 = if cl = true then 1 else 0 := ((C.rd 4 (by omega)).1).trans Q.shut
theorem c_shut (H : Hid (HV V own hb cb ab l)) (h : Hid (V w al g)) (C : Cz al l a R adr) (Q : Cq al.a a R f q cl) : Calls Tryz.prog 15 #[.pointer (some ⟨hb, 0, none⟩), .int .i64 a] w fun e w' => e = .returned (.bool cl) ∧ G w w' := by
  have CF := hide (c_found H h C)
  have CG : Hid (∀ y, V y al g → Calls Tryz.prog 40 #[chv (some ⟨hb, 0, none⟩) a ((R : Int) + 4) adr] y fun e w' => e = .returned (.bool cl) ∧ G y w') := hide fun y hy => c_closed H (hide hy) a _ adr (by omega) cl (C.shut Q)
  generalize (R : Int) + 4 = F at CF CG
  clear H h C Q
  go_enter Tryz.func15, Tryz.ntmps15
  go_wp2_with fail
  refine (unhide CF).mono ?_
  rintro e w1 ⟨rfl, B1⟩
  clear CF
  go_upto_region 2 with fail
  obtain ⟨W2, hW2⟩ : ∃ W2, W2 = w1.alloc (.cells #[.pointer (some ⟨hb, 0, none⟩), .int .i64 a, .int .i64 F, .bool adr] 87) := ⟨_, rfl⟩
  obtain ⟨g2, V2, BX⟩ := unhide B1 W2 hW2
  obtain ⟨b0, b1, b2, b3⟩ := BX W2 (own g) (Fr.of_G (G.refl _))
  rw [← hW2]
  have C2 := hide (unhide CG W2 V2)
  replace g2 := hide g2
  clear hW2 BX B1 V2 CG
  go_wp2_with fail
  refine (unhide C2).mono ?_
  rintro e w3 ⟨rfl, g3⟩
  have g4 := hide ((unhide g2).trans g3)
  clear C2 g3
  go_wp2_with fail
  go_ret
  exact ⟨rfl, unhide g4⟩
theorem c_shut_no (H : Hid (HV V own hb cb ab l)) (h : Hid (V w al g)) (ho : ofP al l a = none) : Calls Tryz.prog 15 #[.pointer (some ⟨hb, 0, none⟩), .int .i64 a] w fun e w' => e = .returned (.bool true) ∧ G w w' := by
  have CF := hide (c_found_no H h ho)
  clear H h ho
  go_enter Tryz.func15, Tryz.ntmps15
  go_wp2_with fail
  refine (unhide CF).mono ?_
  rintro e w1 ⟨rfl, B1⟩
  clear CF
  go_upto_region 2 with fail
  obtain ⟨W2, hW2⟩ : ∃ W2, W2 = w1.alloc (.cells #[.pointer none, .int .i64 0, .int .i64 0, .bool false] 87) := ⟨_, rfl⟩
  obtain ⟨g2, BX⟩ := unhide B1 W2 hW2
  rw [← hW2]
  replace g2 := hide g2
  clear hW2 BX B1
  go_wp2_with fail
  go_ret
  exact ⟨rfl, unhide g2⟩
theorem c_is (H : Hid (HV V own hb cb ab l)) (h : Hid (V w al g)) (C : Cz al l a R adr) (b : Bool) : Calls Tryz.prog 18 #[.pointer (some ⟨hb, 0, none⟩), .int .i64 a, .bool b] w fun e w' => e = .returned (.bool (adr == b)) ∧ G w w' := by
  have CF := hide (c_found H h C)
  generalize (R : Int) + 4 = F at CF
  clear H h C
  go_enter Tryz.func18, Tryz.ntmps18
  go_wp2_with fail
  refine (unhide CF).mono ?_
  rintro e w1 ⟨rfl, B1⟩
  clear CF
  go_upto_region 2 with fail
  obtain ⟨W2, hW2⟩ : ∃ W2, W2 = w1.alloc (.cells #[.pointer (some ⟨hb, 0, none⟩), .int .i64 a, .int .i64 F, .bool adr] 87) := ⟨_, rfl⟩
  obtain ⟨g2, V2, BX⟩ := unhide B1 W2 hW2
  obtain ⟨b0, b1, b2, b3⟩ := BX W2 (own g) (Fr.of_G (G.refl _))
  rw [← hW2]
  replace g2 := hide g2
  clear hW2 BX B1 V2
  go_wp2_with fail
  go_ret
  exact ⟨by simp, unhide g2⟩
theorem c_is_no (H : Hid (HV V own hb cb ab l)) (h : Hid (V w al g)) (ho : ofP al l a = none) (b : Bool) : Calls Tryz.prog 18 #[.pointer (some ⟨hb, 0, none⟩), .int .i64 a, .bool b] w fun e w' => e = .returned (.bool false) ∧ G w w' := by
  have CF := hide (c_found_no H h ho)
  clear H h ho
  go_enter Tryz.func18, Tryz.ntmps18
  go_wp2_with fail
  refine (unhide CF).mono ?_
  rintro e w1 ⟨rfl, B1⟩
  clear CF
  go_upto_region 2 with fail
  obtain ⟨W2, hW2⟩ : ∃ W2, W2 = w1.alloc (.cells #[.pointer none, .int .i64 0, .int .i64 0, .bool false] 87) := ⟨_, rfl⟩
  obtain ⟨g2, BX⟩ := unhide B1 W2 hW2
  rw [← hW2]
  replace g2 := hide g2
  clear hW2 BX B1
  go_wp2_with fail
  go_ret
  exact ⟨rfl, unhide g2⟩
end
end Go.Proofs.YtdnhmkbdphpjcaaGreatDoor

/- Package chans, over any view of a heap: Close, Push. -/
namespace Go.Proofs.YtdnhmkbdphpjcaaGreatDoor
set_option maxRecDepth 100000
open Go.ChangeShapes Go.WideShapes Go.ChangeAt Go.RowKit Go.Maps Go.Deep

section
variable {γ : Type} {V : World → Al → γ → Prop} {own : γ → Nat → Prop} {hb cb ab : Nat} {l : List Hd.Shp} {w : World} {al : Al} {g : γ} {a : Int} {R f : Nat} {adr cl : Bool} {q : List Int}
theorem c_close_no (H : Hid (HV V own hb cb ab l)) (h : Hid (V w al g)) (ho : ofP al l a = none) : Calls Tryz.prog 14 #[.pointer (some ⟨hb, 0, none⟩), .int .i64 a] w fun e w' => e = .returned (.bool false) ∧ G w w' := by
  have CF := hide (c_found_no H h ho)
  clear H h ho
  go_enter Tryz.func14, Tryz.ntmps14
  go_wp2_with fail
  refine (unhide CF).mono ?_
  rintro e w1 ⟨rfl, B1⟩
  clear CF
  go_upto_region 2 with fail
  obtain ⟨W2, hW2⟩ : ∃ W2, W2 = w1.alloc (.cells #[.pointer none, .int .i64 0, .int .i64 0, .bool false] 87) := ⟨_, rfl⟩
  obtain ⟨g2, BX⟩ := unhide B1 W2 hW2
  rw [← hW2]
  replace g2 := hide g2
  clear hW2 BX B1
  go_wp2_with fail
  go_ret
  exact ⟨rfl, unhide g2⟩
theorem c_close_shut (H : Hid (HV V own hb cb ab l)) (h : Hid (V w al g)) (C : Cz al l a R adr) (Q : Cq al.a a R f q true) : Calls Tryz.prog 14 #[.pointer (some ⟨hb, 0, none⟩), .int .i64 a] w fun e w' => e = .returned (.bool false) ∧ G w w' := by
  have CF := hide (c_found H h C)
  have CG : Hid (∀ y, V y al g → Calls Tryz.prog 40 #[chv (some ⟨hb, 0, none⟩) a ((R : Int) + 4) adr] y fun e w' => e = .returned (.bool true) ∧ G y w') := hide fun y hy => c_closed H (hide hy) a _ adr (by omega) true (C.shut Q)
  generalize (R : Int) + 4 = F at CF CG
  clear H h C Q
  go_enter Tryz.func14, Tryz.ntmps14
  go_wp2_with fail
  refine (unhide CF).mono ?_
  rintro e w1 ⟨rfl, B1⟩
  clear CF
  go_upto_region 2 with fail
  obtain ⟨W2, hW2⟩ : ∃ W2, W2 = w1.alloc (.cells #[.pointer (some ⟨hb, 0, none⟩), .int .i64 a, .int .i64 F, .bool adr] 87) := ⟨_, rfl⟩
  obtain ⟨g2, V2, BX⟩ := unhide B1 W2 hW2
  obtain ⟨b0, b1, b2, b3⟩ := BX W2 (own g) (Fr.of_G (G.refl _))
  rw [← hW2]
  have C2 := hide (unhide CG W2 V2)
  replace g2 := hide g2
  clear hW2 BX B1 V2 CG
  go_wp2_with fail
  refine (unhide C2).mono ?_
  rintro e w3 ⟨rfl, g3⟩
  have g4 := hide ((unhide g2).trans g3)
  clear C2 g3
  go_wp2_with fail
  go_ret
  exact ⟨rfl, unhide g4⟩
theorem c_close (H : Hid (HV V own hb cb ab l)) (h : Hid (V w al g)) (C : Cz al l a R adr) (Q : Cq al.a a R f q false) : Calls Tryz.prog 14 #[.pointer (some ⟨hb, 0, none⟩), .int .i64 a] w fun e w' => e = .returned (.bool true) ∧ V w' ⟨al.a.write (a + 4) 1, al.u⟩ g ∧ Fr (own g) (own g) w w' := by
  have CF := hide (c_found H h C)
  have CG : Hid (∀ y, V y al g → Calls Tryz.prog 40 #[chv (some ⟨hb, 0, none⟩) a ((R : Int) + 4) adr] y fun e w' => e = .returned (.bool false) ∧ G y w') := hide fun y hy => c_closed H (hide hy) a _ adr (by omega) false (C.shut Q)
  have CS : Hid (∀ y, V y al g → Calls Tryz.prog 38 #[chv (some ⟨hb, 0, none⟩) a ((R : Int) + 4) adr, .int .i64 3, .int .i64 1] y fun e w' => e = .returned (.bool true) ∧ Hid (V w' ⟨al.a.write (a + 4) 1, al.u⟩ g ∧ Fr (own g) (own g) y w')) := hide fun y hy => by
    have := c_set H (hide hy) a ((R : Int) + 4) 3 1 adr (by simp; omega) 4 (by decide +kernel) (C.rd 4 (by omega)).2
    rw [show al.a.writeA a 4 1 = _ from C.wr 4 (by omega) 1] at this
    exact this.mono fun _ _ hh => ⟨hh.1, hide hh.2⟩
  have VG : Hid (∀ y y', V y al g → G y y' → V y' al g) := hide fun y y' hy gy => (unhide H).gr _ _ _ _ hy gy
  generalize (⟨al.a.write (a + 4) 1, al.u⟩ : Al) = al1 at CS ⊢
  generalize (R : Int) + 4 = F at CF CG CS
  clear H h C Q
  go_enter Tryz.func14, Tryz.ntmps14
  go_wp2_with fail
  refine (unhide CF).mono ?_
  rintro e w1 ⟨rfl, B1⟩
  clear CF
  go_upto_region 2 with fail
  obtain ⟨W2, hW2⟩ : ∃ W2, W2 = w1.alloc (.cells #[.pointer (some ⟨hb, 0, none⟩), .int .i64 a, .int .i64 F, .bool adr] 87) := ⟨_, rfl⟩
  obtain ⟨g2, V2, BX⟩ := unhide B1 W2 hW2
  obtain ⟨b0, b1, b2, b3⟩ := BX W2 (own g) (Fr.of_G (G.refl _))
  rw [← hW2]
  have C2 := hide (unhide CG W2 V2)
  replace V2 := hide V2
  replace g2 := hide g2
  replace BX := hide BX
  clear hW2 B1 CG
  go_wp2_with fail
  refine (unhide C2).mono ?_
  rintro e w3 ⟨rfl, g3⟩
  obtain ⟨b0, b1, b2, b3⟩ := unhide BX w3 (own g) (Fr.of_G g3)
  have C3 := hide (unhide CS w3 (unhide VG _ _ (unhide V2) g3))
  have g4 := hide ((unhide g2).trans g3)
  clear C2 g3 CS VG
  go_wp2_with fail
  refine (unhide C3).mono ?_
  rintro e w5 ⟨rfl, h5⟩
  clear C3
  go_wp2_with fail
  go_ret
  exact ⟨rfl, (unhide h5).1, (Fr.of_G (unhide g4)).trans (unhide h5).2⟩
theorem c_push_no (H : Hid (HV V own hb cb ab l)) (h : Hid (V w al g)) (ho : ofP al l a = none) (v id : Int) : Calls Tryz.prog 13 #[.pointer (some ⟨hb, 0, none⟩), .int .i64 a, .int .i64 v, .int .i64 id] w fun e w' => e = .returned (.bool false) ∧ G w w' := by
  have CF := hide (c_found_no H h ho)
  clear H h ho
  go_enter Tryz.func13, Tryz.ntmps13
  go_wp2_with fail
  refine (unhide CF).mono ?_
  rintro e w1 ⟨rfl, B1⟩
  clear CF
  go_upto_region 2 with fail
  obtain ⟨W2, hW2⟩ : ∃ W2, W2 = w1.alloc (.cells #[.pointer none, .int .i64 0, .int .i64 0, .bool false] 87) := ⟨_, rfl⟩
  obtain ⟨g2, BX⟩ := unhide B1 W2 hW2
  obtain ⟨b0, b1, b2, b3⟩ := BX W2 (G.refl _)
  rw [← hW2]
  have C2 := hide (c_get_out W2 none 0 0 1 false (by decide))
  replace g2 := hide g2
  clear hW2 BX B1
  go_wp2_with fail
  refine (unhide C2).mono ?_
  rintro e w3 ⟨rfl, g3⟩
  have g4 := hide ((unhide g2).trans g3)
  clear C2 g3
  go_wp2_with fail
  go_ret
  exact ⟨rfl, unhide g4⟩
set_option maxHeartbeats 1000000 in
theorem c_push_full (H : Hid (HV V own hb cb ab l)) (h : Hid (V w al g)) (C : Cz al l a R adr) (Q : Cq al.a a R f q cl) (hl : cl = true ∨ R ≤ q.length) (v id : Int) : Calls Tryz.prog 13 #[.pointer (some ⟨hb, 0, none⟩), .int .i64 a, .int .i64 v, .int .i64 id] w fun e w' => e = .returned (.bool false) ∧ G w w' := by
  have CF := hide (c_found H h C)
  have CG : Hid (∀ y, V y al g → Calls Tryz.prog 40 #[chv (some ⟨hb, 0, none⟩) a ((R : Int) + 4) adr] y fun e w' => e = .returned (.bool cl) ∧ G y w') := hide fun y hy => c_closed H (hide hy) a _ adr (by omega) cl (C.shut Q)
  have CN : Hid (∀ y, V y al g → Calls Tryz.prog 36 #[chv (some ⟨hb, 0, none⟩) a ((R : Int) + 4) adr, .int .i64 1] y fun e w' => e = .returned (.int .i64 (q.length : Int)) ∧ G y w') := hide fun y hy => by
    have := c_get H (hide hy) a ((R : Int) + 4) 1 adr (by simp; omega) 2 (by decide +kernel)
    rw [show al.a.readV a 2 = _ from (C.rd 2 (by omega)).1, show al.a.wd (a + (2 : Nat)) = _ from Q.cnt] at this
    exact this
  have CR : Hid (∀ y, V y al g → Calls Tryz.prog 36 #[chv (some ⟨hb, 0, none⟩) a ((R : Int) + 4) adr, .int .i64 0] y fun e w' => e = .returned (.int .i64 (R : Int)) ∧ G y w') := hide fun y hy => by
    have := c_get H (hide hy) a ((R : Int) + 4) 0 adr (by simp; omega) 1 (by decide +kernel)
    rw [show al.a.readV a 1 = _ from (C.rd 1 (by omega)).1, show al.a.wd (a + (1 : Nat)) = _ from C.room] at this
    exact this
  have VG : Hid (∀ y y', V y al g → G y y' → V y' al g) := hide fun y y' hy gy => (unhide H).gr _ _ _ _ hy gy
  have hl' : cl = true ∨ (R : Int) ≤ (q.length : Int) := by
    rcases hl with e | e
    · exact Or.inl e
    · exact Or.inr (by omega)
  generalize (R : Int) + 4 = F at CF CG CN CR
  generalize (R : Int) = rn at CR hl'
  generalize (q.length : Int) = cn at CN hl'
  clear H h C Q hl
  cases cl
  · have hle : rn ≤ cn := by
      rcases hl' with e | e
      · cases e
      · exact e
    clear hl'
    go_enter Tryz.func13, Tryz.ntmps13
    go_wp2_with fail
    refine (unhide CF).mono ?_
    rintro e w1 ⟨rfl, B1⟩
    clear CF
    go_upto_region 2 with fail
    obtain ⟨W2, hW2⟩ : ∃ W2, W2 = w1.alloc (.cells #[.pointer (some ⟨hb, 0, none⟩), .int .i64 a, .int .i64 F, .bool adr] 87) := ⟨_, rfl⟩
    obtain ⟨g2, V2, BX⟩ := unhide B1 W2 hW2
    obtain ⟨b0, b1, b2, b3⟩ := BX W2 (own g) (Fr.of_G (G.refl _))
    rw [← hW2]
    have C2 := hide (unhide CN W2 V2)
    replace V2 := hide V2
    replace g2 := hide g2
    replace BX := hide BX
    clear hW2 B1 CN
    go_wp2_with fail
    refine (unhide C2).mono ?_
    rintro e w3 ⟨rfl, g3⟩
    obtain ⟨b0, b1, b2, b3⟩ := unhide BX w3 (own g) (Fr.of_G g3)
    have V3 := unhide VG _ _ (unhide V2) g3
    have C3 := hide (unhide CG w3 V3)
    replace V3 := hide V3
    replace g3 := hide g3
    clear C2 CG
    go_wp2_with fail
    refine (unhide C3).mono ?_
    rintro e w4 ⟨rfl, g4⟩
    have g4' := (unhide g3).trans g4
    obtain ⟨b0, b1, b2, b3⟩ := unhide BX w4 (own g) (Fr.of_G g4')
    have C4 := hide (unhide CR w4 (unhide VG _ _ (unhide V3) g4))
    have g5 := hide ((unhide g2).trans g4')
    clear C3 CR g4 g4'
    go_wp2_with fail
    refine (unhide C4).mono ?_
    rintro e w5 ⟨rfl, g6⟩
    have g7 := hide ((unhide g5).trans g6)
    clear C4 g6
    go_wp2_with fail
    go_ret
    exact ⟨rfl, unhide g7⟩
  · clear hl' CR
    go_enter Tryz.func13, Tryz.ntmps13
    go_wp2_with fail
    refine (unhide CF).mono ?_
    rintro e w1 ⟨rfl, B1⟩
    clear CF
    go_upto_region 2 with fail
    obtain ⟨W2, hW2⟩ : ∃ W2, W2 = w1.alloc (.cells #[.pointer (some ⟨hb, 0, none⟩), .int .i64 a, .int .i64 F, .bool adr] 87) := ⟨_, rfl⟩
    obtain ⟨g2, V2, BX⟩ := unhide B1 W2 hW2
    obtain ⟨b0, b1, b2, b3⟩ := BX W2 (own g) (Fr.of_G (G.refl _))
    rw [← hW2]
    have C2 := hide (unhide CN W2 V2)
    replace V2 := hide V2
    replace g2 := hide g2
    replace BX := hide BX
    clear hW2 B1 CN
    go_wp2_with fail
    refine (unhide C2).mono ?_
    rintro e w3 ⟨rfl, g3⟩
    obtain ⟨b0, b1, b2, b3⟩ := unhide BX w3 (own g) (Fr.of_G g3)
    have C3 := hide (unhide CG w3 (unhide VG _ _ (unhide V2) g3))
    have g4 := hide ((unhide g2).trans g3)
    clear C2 CG g3
    go_wp2_with fail
    refine (unhide C3).mono ?_
    rintro e w4 ⟨rfl, g5⟩
    have g6 := hide ((unhide g4).trans g5)
    clear C3 g5
    go_wp2_with fail
    go_ret
    exact ⟨rfl, unhide g6⟩
end
end Go.Proofs.YtdnhmkbdphpjcaaGreatDoor

/- Package chans, over any view of a heap: Push and Pop. -/
namespace Go.Proofs.YtdnhmkbdphpjcaaGreatDoor
set_option maxRecDepth 100000
open Go.ChangeShapes Go.WideShapes Go.ChangeAt Go.RowKit Go.Maps Go.Deep

theorem tmod_nat (m n : Nat) : Int.tmod (m : Int) (n : Int) = ((m % n : Nat) : Int) := (Int.ofNat_tmod m n).symm
section
variable {γ : Type} {V : World → Al → γ → Prop} {own : γ → Nat → Prop} {hb cb ab : Nat} {l : List Hd.Shp} {w : World} {al : Al} {g : γ} {a : Int} {R f : Nat} {adr cl : Bool} {q : List Int}
/-- A thing is put at a place of the ring. -/
theorem c_swapR (H : Hid (HV V own hb cb ab l)) (C : Cz al l a R adr) (far z : Nat) (hz : far % R = z) (hR : 0 < R) (v id : Int) (al2 : Al) (Pg : γ → Prop)
    (hB : adr = true → BarC V own cb ⟨al.a.write (a + (5 + (z : Int))) v, al.u⟩ g (al.a.wd (a + (5 + (z : Int)))) v id al2 Pg) (hN : adr = false → al2 = ⟨al.a.write (a + (5 + (z : Int))) v, al.u⟩ ∧ Pg g) (y : World) (hy : V y al g) :
    Calls Tryz.prog 37 #[chv (some ⟨hb, 0, none⟩) a ((R : Int) + 4) adr, .int .i64 (far : Int), .int .i64 v, .int .i64 id] y fun e w' => e = .returned (.tuple #[.int .i64 (al.a.wd (a + (5 + (z : Int)))), .bool true]) ∧ ∃ g2, Pg g2 ∧ V w' al2 g2 ∧ Fr (own g) (own g2) y w' := by
  have hzR : z < R := by rw [← hz]; exact Nat.mod_lt _ hR
  have r0 := C.r0
  have e5 : ((5 + z : Nat) : Int) = 5 + (z : Int) := by omega
  have h1 := C.rd (5 + z) (by omega)
  have h2 := C.wr (5 + z) (by omega) v
  rw [e5] at h1 h2
  have h3 := c_swap H (hide hy) a ((R : Int) + 4) adr (R : Int) (far : Int) (z : Int) v id ((C.rd 1 (by omega)).1.trans C.room) (by omega) (by rw [tmod_nat, hz]) (by omega) (by omega) (by omega) h1.2 al2 Pg (by rw [h1.1, h2]; exact hB) (by rw [h2]; exact hN)
  rw [h1.1] at h3
  exact h3
set_option maxHeartbeats 2000000 in
theorem c_push (H : Hid (HV V own hb cb ab l)) (h : Hid (V w al g)) (C : Cz al l a R adr) (Q : Cq al.a a R f q false) (hl : q.length < R) (v id : Int) (al2 : Al) (Pg : γ → Prop)
    (hB : adr = true → BarC V own cb ⟨al.a.write (a + (5 + ((f + q.length) % R : Nat))) v, al.u⟩ g (al.a.wd (a + (5 + ((f + q.length) % R : Nat)))) v id al2 Pg) (hN : adr = false → al2 = ⟨al.a.write (a + (5 + ((f + q.length) % R : Nat))) v, al.u⟩ ∧ Pg g) (C2 : Cz al2 l a R adr) :
    Calls Tryz.prog 13 #[.pointer (some ⟨hb, 0, none⟩), .int .i64 a, .int .i64 v, .int .i64 id] w fun e w' => e = .returned (.bool true) ∧ ∃ g2, Pg g2 ∧ V w' ⟨al2.a.write (a + 2) ((q.length : Int) + 1), al2.u⟩ g2 ∧ Fr (own g) (own g2) w w' := by
  have CF := hide (c_found H h C)
  have hfl := Q.fl (by omega)
  have r0 := C.r0
  have CG : Hid (∀ y, V y al g → Calls Tryz.prog 40 #[chv (some ⟨hb, 0, none⟩) a ((R : Int) + 4) adr] y fun e w' => e = .returned (.bool false) ∧ G y w') := hide fun y hy => c_closed H (hide hy) a _ adr (by omega) false (C.shut Q)
  have CN : Hid (∀ y, V y al g → Calls Tryz.prog 36 #[chv (some ⟨hb, 0, none⟩) a ((R : Int) + 4) adr, .int .i64 1] y fun e w' => e = .returned (.int .i64 (q.length : Int)) ∧ G y w') := hide fun y hy => by
    have := c_get H (hide hy) a ((R : Int) + 4) 1 adr (by simp; omega) 2 (by decide +kernel)
    rw [show al.a.readV a 2 = _ from (C.rd 2 (by omega)).1, show al.a.wd (a + (2 : Nat)) = _ from Q.cnt] at this
    exact this
  have CR : Hid (∀ y, V y al g → Calls Tryz.prog 36 #[chv (some ⟨hb, 0, none⟩) a ((R : Int) + 4) adr, .int .i64 0] y fun e w' => e = .returned (.int .i64 (R : Int)) ∧ G y w') := hide fun y hy => by
    have := c_get H (hide hy) a ((R : Int) + 4) 0 adr (by simp; omega) 1 (by decide +kernel)
    rw [show al.a.readV a 1 = _ from (C.rd 1 (by omega)).1, show al.a.wd (a + (1 : Nat)) = _ from C.room] at this
    exact this
  have CT : Hid (∀ y, V y al g → Calls Tryz.prog 36 #[chv (some ⟨hb, 0, none⟩) a ((R : Int) + 4) adr, .int .i64 2] y fun e w' => e = .returned (.int .i64 (f : Int)) ∧ G y w') := hide fun y hy => by
    have := c_get H (hide hy) a ((R : Int) + 4) 2 adr (by simp; omega) 3 (by decide +kernel)
    rw [show al.a.readV a 3 = _ from (C.rd 3 (by omega)).1, show al.a.wd (a + (3 : Nat)) = _ from Q.fst] at this
    exact this
  have CW : Hid (∀ y, V y al g → Calls Tryz.prog 37 #[chv (some ⟨hb, 0, none⟩) a ((R : Int) + 4) adr, .int .i64 (IntKind.i64.wrap ((f : Int) + (q.length : Int))), .int .i64 v, .int .i64 id] y fun e w' => (∃ old, e = .returned (.tuple #[.int .i64 old, .bool true])) ∧ Hid (∃ g2, Pg g2 ∧ V w' al2 g2 ∧ Fr (own g) (own g2) y w')) := hide fun y hy => by
    have e : IntKind.i64.wrap ((f : Int) + (q.length : Int)) = ((f + q.length : Nat) : Int) := by rw [IntKind.wrap_i64]; omega
    rw [e]
    exact (c_swapR H C (f + q.length) _ rfl (by omega) v id al2 Pg hB hN y hy).mono fun _ _ hh => ⟨⟨_, hh.1⟩, hide hh.2⟩
  have CS : Hid (∀ y g2, V y al2 g2 → Calls Tryz.prog 38 #[chv (some ⟨hb, 0, none⟩) a ((R : Int) + 4) adr, .int .i64 1, .int .i64 ((q.length : Int) + 1)] y fun e w' => e = .returned (.bool true) ∧ Hid (V w' ⟨al2.a.write (a + 2) ((q.length : Int) + 1), al2.u⟩ g2 ∧ Fr (own g2) (own g2) y w')) := hide fun y g2 hy => by
    have := c_set H (hide hy) a ((R : Int) + 4) 1 ((q.length : Int) + 1) adr (by simp; omega) 2 (by decide +kernel) (C2.rd 2 (by omega)).2
    rw [show al2.a.writeA a 2 ((q.length : Int) + 1) = _ from C2.wr 2 (by omega) _] at this
    exact this.mono fun _ _ hh => ⟨hh.1, hide hh.2⟩
  have VG : Hid (∀ y y', V y al g → G y y' → V y' al g) := hide fun y y' hy gy => (unhide H).gr _ _ _ _ hy gy
  have hd : ¬ (R : Int) ≤ (q.length : Int) := by omega
  obtain ⟨cn1, hc1⟩ : ∃ c, c = (q.length : Int) + 1 := ⟨_, rfl⟩
  have hw : wrap64 ((q.length : Int) + 1) = cn1 := by rw [hc1]; unfold wrap64; omega
  rw [← hc1] at CS ⊢
  clear hc1
  generalize (⟨al2.a.write (a + 2) cn1, al2.u⟩ : Al) = al3 at CS ⊢
  generalize (R : Int) + 4 = F at CF CG CN CR CT CW CS
  generalize (R : Int) = rn at CR hd
  generalize (q.length : Int) = cn at CN CW CS hd hw
  generalize (f : Int) = fn at CT CW
  clear H h C Q hl hB hN C2 hfl r0
  go_enter Tryz.func13, Tryz.ntmps13
  go_wp2_with fail
  refine (unhide CF).mono ?_
  rintro e w1 ⟨rfl, B1⟩
  clear CF
  go_upto_region 2 with fail
  obtain ⟨W2, hW2⟩ : ∃ W2, W2 = w1.alloc (.cells #[.pointer (some ⟨hb, 0, none⟩), .int .i64 a, .int .i64 F, .bool adr] 87) := ⟨_, rfl⟩
  obtain ⟨gw, V2, BX⟩ := unhide B1 W2 hW2
  obtain ⟨b0, b1, b2, b3⟩ := BX W2 (own g) (Fr.of_G (G.refl _))
  rw [← hW2]
  have K2 := hide (unhide CN W2 V2)
  replace V2 : Hid (∀ y, G W2 y → V y al g) := hide fun y gy => unhide VG _ _ V2 gy
  replace gw := hide gw
  replace BX := hide BX
  clear hW2 B1 CN VG
  go_wp2_with fail
  refine (unhide K2).mono ?_
  rintro e w3 ⟨rfl, g3⟩
  obtain ⟨b0, b1, b2, b3⟩ := unhide BX w3 (own g) (Fr.of_G g3)
  have K3 := hide (unhide CG w3 (unhide V2 _ g3))
  replace g3 := hide g3
  clear K2 CG
  go_wp2_with fail
  refine (unhide K3).mono ?_
  rintro e w4 ⟨rfl, g4⟩
  have g4' := (unhide g3).trans g4
  obtain ⟨b0, b1, b2, b3⟩ := unhide BX w4 (own g) (Fr.of_G g4')
  have K4 := hide (unhide CR w4 (unhide V2 _ g4'))
  replace g4' := hide g4'
  clear K3 CR g4 g3
  go_wp2_with fail
  refine (unhide K4).mono ?_
  rintro e w5 ⟨rfl, g5⟩
  have g5' := (unhide g4').trans g5
  clear K4 g4' g5
  have KD : Hid (w5.drew.cell? ⟨w1.heap.size, 0, none⟩ = some (.pointer (some ⟨hb, 0, none⟩)) ∧ w5.drew.cell? ⟨w1.heap.size, 1, none⟩ = some (.int .i64 a) ∧ w5.drew.cell? ⟨w1.heap.size, 2, none⟩ = some (.int .i64 F) ∧ w5.drew.cell? ⟨w1.heap.size, 3, none⟩ = some (.bool adr)) := hide (unhide BX _ _ (Fr.of_G g5'.drew))
  have KC : Hid (∀ x y : World, (x.cell? ⟨w1.heap.size, 0, none⟩ = some (.pointer (some ⟨hb, 0, none⟩)) ∧ x.cell? ⟨w1.heap.size, 1, none⟩ = some (.int .i64 a) ∧ x.cell? ⟨w1.heap.size, 2, none⟩ = some (.int .i64 F) ∧ x.cell? ⟨w1.heap.size, 3, none⟩ = some (.bool adr)) → G x y → (y.cell? ⟨w1.heap.size, 0, none⟩ = some (.pointer (some ⟨hb, 0, none⟩)) ∧ y.cell? ⟨w1.heap.size, 1, none⟩ = some (.int .i64 a) ∧ y.cell? ⟨w1.heap.size, 2, none⟩ = some (.int .i64 F) ∧ y.cell? ⟨w1.heap.size, 3, none⟩ = some (.bool adr))) := hide fun x y hx gx => ⟨gx.cell hx.1, gx.cell hx.2.1, gx.cell hx.2.2.1, gx.cell hx.2.2.2⟩
  obtain ⟨b0, b1, b2, b3⟩ := unhide BX w5 (own g) (Fr.of_G g5')
  have gd := g5'.drew
  replace g5' := hide g5'
  go_upto_region 5 with fail
  go_region_held3 (fun x => x.cell? ⟨w1.heap.size, 0, none⟩ = some (.pointer (some ⟨hb, 0, none⟩)) ∧ x.cell? ⟨w1.heap.size, 1, none⟩ = some (.int .i64 a) ∧ x.cell? ⟨w1.heap.size, 2, none⟩ = some (.int .i64 F) ∧ x.cell? ⟨w1.heap.size, 3, none⟩ = some (.bool adr))
    (first | assumption | exact unhide KD | exact unhide KC _ _ (by assumption) (by assumption))
    ((first
      | (go_at_call 36; refine (unhide CT _ (unhide V2 _ gd)).mono ?_; rintro e x6 ⟨rfl, hg6⟩; have gW6 := gd.trans hg6)
      | (go_at_call 37; refine (unhide CW _ (unhide V2 _ gW6)).mono ?_; rintro e x7 ⟨⟨old, rfl⟩, h7⟩; obtain ⟨g2, pg, v7, f7'⟩ := unhide h7; have f7 := (Fr.of_G (o := own g) gW6).trans f7'; have S7 := unhide BX x7 _ f7)))
  all_goals
    have K8 := hide (unhide CS x7 g2 v7)
    replace f7 := hide f7
    replace pg := hide pg
    clear v7 f7' h7
    obtain ⟨b0, b1, b2, b3⟩ := S7
    go_wp2_with fail
    refine (unhide K8).mono ?_
    rintro e w9 ⟨rfl, h9⟩
    clear K8
    go_wp2_with fail
    go_ret
    exact ⟨rfl, g2, unhide pg, (unhide h9).1, (Fr.of_G (unhide gw)).trans ((unhide f7).trans (unhide h9).2)⟩
end
end Go.Proofs.YtdnhmkbdphpjcaaGreatDoor

/- Package chans, over any view of a heap: Pop. -/
namespace Go.Proofs.YtdnhmkbdphpjcaaGreatDoor
set_option maxRecDepth 100000
open Go.ChangeShapes Go.WideShapes Go.ChangeAt Go.RowKit Go.Maps Go.Deep

section
variable {γ : Type} {V : World → Al → γ → Prop} {own : γ → Nat → Prop} {hb cb ab : Nat} {l : List Hd.Shp} {w : World} {al : Al} {g : γ} {a : Int} {R f : Nat} {adr cl : Bool} {q : List Int}
set_option maxHeartbeats 1000000 in
theorem c_pop_no (H : Hid (HV V own hb cb ab l)) (h : Hid (V w al g)) (ho : ofP al l a = none) : Calls Tryz.prog 12 #[.pointer (some ⟨hb, 0, none⟩), .int .i64 a] w fun e w' => e = .returned (.tuple #[.int .i64 0, .bool false]) ∧ G w w' := by
  have CF := hide (c_found_no H h ho)
  clear H h ho
  go_enter Tryz.func12, Tryz.ntmps12
  go_wp2_with fail
  refine (unhide CF).mono ?_
  rintro e w1 ⟨rfl, B1⟩
  clear CF
  go_upto_region 2 with fail
  obtain ⟨W2, hW2⟩ : ∃ W2, W2 = w1.alloc (.cells #[.pointer none, .int .i64 0, .int .i64 0, .bool false] 87) := ⟨_, rfl⟩
  obtain ⟨gw, BX⟩ := unhide B1 W2 hW2
  obtain ⟨b0, b1, b2, b3⟩ := BX W2 (G.refl _)
  rw [← hW2]
  replace gw := hide gw
  clear hW2 B1
  have C1 : Hid (∀ y : World, (y.cell? ⟨w1.heap.size, 0, none⟩ = some (.pointer none) ∧ y.cell? ⟨w1.heap.size, 1, none⟩ = some (.int .i64 0) ∧ y.cell? ⟨w1.heap.size, 2, none⟩ = some (.int .i64 0) ∧ y.cell? ⟨w1.heap.size, 3, none⟩ = some (.bool false)) → Calls Tryz.prog 36 #[chv none 0 0 false, .int .i64 1] y fun e w' => e = .returned (.int .i64 0) ∧ G y w') := hide fun y _ => c_get_out y none 0 0 1 false (by decide)
  have C2 : Hid (∀ y : World, (y.cell? ⟨w1.heap.size, 0, none⟩ = some (.pointer none) ∧ y.cell? ⟨w1.heap.size, 1, none⟩ = some (.int .i64 0) ∧ y.cell? ⟨w1.heap.size, 2, none⟩ = some (.int .i64 0) ∧ y.cell? ⟨w1.heap.size, 3, none⟩ = some (.bool false)) → Calls Tryz.prog 36 #[chv none 0 0 false, .int .i64 2] y fun e w' => e = .returned (.int .i64 0) ∧ G y w') := hide fun y _ => c_get_out y none 0 0 2 false (by decide)
  have KD : Hid (W2.drew.cell? ⟨w1.heap.size, 0, none⟩ = some (.pointer none) ∧ W2.drew.cell? ⟨w1.heap.size, 1, none⟩ = some (.int .i64 0) ∧ W2.drew.cell? ⟨w1.heap.size, 2, none⟩ = some (.int .i64 0) ∧ W2.drew.cell? ⟨w1.heap.size, 3, none⟩ = some (.bool false)) := hide (BX _ (G.refl _).drew)
  have KC : Hid (∀ x y : World, (x.cell? ⟨w1.heap.size, 0, none⟩ = some (.pointer none) ∧ x.cell? ⟨w1.heap.size, 1, none⟩ = some (.int .i64 0) ∧ x.cell? ⟨w1.heap.size, 2, none⟩ = some (.int .i64 0) ∧ x.cell? ⟨w1.heap.size, 3, none⟩ = some (.bool false)) → G x y → (y.cell? ⟨w1.heap.size, 0, none⟩ = some (.pointer none) ∧ y.cell? ⟨w1.heap.size, 1, none⟩ = some (.int .i64 0) ∧ y.cell? ⟨w1.heap.size, 2, none⟩ = some (.int .i64 0) ∧ y.cell? ⟨w1.heap.size, 3, none⟩ = some (.bool false))) := hide fun x y hx gx => ⟨gx.cell hx.1, gx.cell hx.2.1, gx.cell hx.2.2.1, gx.cell hx.2.2.2⟩
  clear BX
  go_region_held3 (fun x => x.cell? ⟨w1.heap.size, 0, none⟩ = some (.pointer none) ∧ x.cell? ⟨w1.heap.size, 1, none⟩ = some (.int .i64 0) ∧ x.cell? ⟨w1.heap.size, 2, none⟩ = some (.int .i64 0) ∧ x.cell? ⟨w1.heap.size, 3, none⟩ = some (.bool false))
    (first | assumption | exact unhide KD | exact unhide KC _ _ (by assumption) (by assumption))
    ((first
      | (go_at_call_of 36 (Value.int IntKind.i64 1); refine (unhide C1 _ ?_).mono ?_; assumption; rintro e x3 ⟨rfl, hg3⟩)
      | (go_at_call_of 36 (Value.int IntKind.i64 2); refine (unhide C2 _ ?_).mono ?_; assumption; rintro e x4 ⟨rfl, hg4⟩)))
  all_goals
    have g5 := hide ((unhide gw).trans (((G.refl W2).drew.trans hg3).trans hg4))
    go_wp2_with fail
    go_ret2
    exact ⟨rfl, unhide g5⟩
set_option maxHeartbeats 1000000 in
theorem c_pop_empty (H : Hid (HV V own hb cb ab l)) (h : Hid (V w al g)) (C : Cz al l a R adr) (Q : Cq al.a a R f [] cl) : Calls Tryz.prog 12 #[.pointer (some ⟨hb, 0, none⟩), .int .i64 a] w fun e w' => e = .returned (.tuple #[.int .i64 0, .bool false]) ∧ G w w' := by
  have CF := hide (c_found H h C)
  have CN : Hid (∀ y, V y al g → Calls Tryz.prog 36 #[chv (some ⟨hb, 0, none⟩) a ((R : Int) + 4) adr, .int .i64 1] y fun e w' => e = .returned (.int .i64 0) ∧ G y w') := hide fun y hy => by
    have := c_get H (hide hy) a ((R : Int) + 4) 1 adr (by simp; omega) 2 (by decide +kernel)
    rw [show al.a.readV a 2 = _ from (C.rd 2 (by omega)).1, show al.a.wd (a + (2 : Nat)) = _ from Q.cnt] at this
    exact this
  have CT : Hid (∀ y, V y al g → Calls Tryz.prog 36 #[chv (some ⟨hb, 0, none⟩) a ((R : Int) + 4) adr, .int .i64 2] y fun e w' => e = .returned (.int .i64 (f : Int)) ∧ G y w') := hide fun y hy => by
    have := c_get H (hide hy) a ((R : Int) + 4) 2 adr (by simp; omega) 3 (by decide +kernel)
    rw [show al.a.readV a 3 = _ from (C.rd 3 (by omega)).1, show al.a.wd (a + (3 : Nat)) = _ from Q.fst] at this
    exact this
  have VG : Hid (∀ y y', V y al g → G y y' → V y' al g) := hide fun y y' hy gy => (unhide H).gr _ _ _ _ hy gy
  generalize (R : Int) + 4 = F at CF CN CT
  generalize (f : Int) = fn at CT
  clear H h C Q
  go_enter Tryz.func12, Tryz.ntmps12
  go_wp2_with fail
  refine (unhide CF).mono ?_
  rintro e w1 ⟨rfl, B1⟩
  clear CF
  go_upto_region 2 with fail
  obtain ⟨W2, hW2⟩ : ∃ W2, W2 = w1.alloc (.cells #[.pointer (some ⟨hb, 0, none⟩), .int .i64 a, .int .i64 F, .bool adr] 87) := ⟨_, rfl⟩
  obtain ⟨gw, V2, BX⟩ := unhide B1 W2 hW2
  obtain ⟨b0, b1, b2, b3⟩ := BX W2 (own g) (Fr.of_G (G.refl _))
  rw [← hW2]
  replace V2 : Hid (∀ y, G W2 y → V y al g) := hide fun y gy => unhide VG _ _ V2 gy
  replace gw := hide gw
  clear hW2 B1 VG
  have KD : Hid (W2.drew.cell? ⟨w1.heap.size, 0, none⟩ = some (.pointer (some ⟨hb, 0, none⟩)) ∧ W2.drew.cell? ⟨w1.heap.size, 1, none⟩ = some (.int .i64 a) ∧ W2.drew.cell? ⟨w1.heap.size, 2, none⟩ = some (.int .i64 F) ∧ W2.drew.cell? ⟨w1.heap.size, 3, none⟩ = some (.bool adr)) := hide (BX _ (own g) (Fr.of_G (G.refl _).drew))
  have KC : Hid (∀ x y : World, (x.cell? ⟨w1.heap.size, 0, none⟩ = some (.pointer (some ⟨hb, 0, none⟩)) ∧ x.cell? ⟨w1.heap.size, 1, none⟩ = some (.int .i64 a) ∧ x.cell? ⟨w1.heap.size, 2, none⟩ = some (.int .i64 F) ∧ x.cell? ⟨w1.heap.size, 3, none⟩ = some (.bool adr)) → G x y → (y.cell? ⟨w1.heap.size, 0, none⟩ = some (.pointer (some ⟨hb, 0, none⟩)) ∧ y.cell? ⟨w1.heap.size, 1, none⟩ = some (.int .i64 a) ∧ y.cell? ⟨w1.heap.size, 2, none⟩ = some (.int .i64 F) ∧ y.cell? ⟨w1.heap.size, 3, none⟩ = some (.bool adr))) := hide fun x y hx gx => ⟨gx.cell hx.1, gx.cell hx.2.1, gx.cell hx.2.2.1, gx.cell hx.2.2.2⟩
  replace BX := hide BX
  have gd := (G.refl W2).drew
  go_region_held3 (fun x => x.cell? ⟨w1.heap.size, 0, none⟩ = some (.pointer (some ⟨hb, 0, none⟩)) ∧ x.cell? ⟨w1.heap.size, 1, none⟩ = some (.int .i64 a) ∧ x.cell? ⟨w1.heap.size, 2, none⟩ = some (.int .i64 F) ∧ x.cell? ⟨w1.heap.size, 3, none⟩ = some (.bool adr))
    (first | assumption | exact unhide KD | exact unhide KC _ _ (by assumption) (by assumption))
    ((first
      | (go_at_call_of 36 (Value.int IntKind.i64 1); refine (unhide CN _ (unhide V2 _ gd)).mono ?_; rintro e x3 ⟨rfl, hg3⟩; have gW3 := gd.trans hg3)
      | (go_at_call_of 36 (Value.int IntKind.i64 2); refine (unhide CT _ (unhide V2 _ gW3)).mono ?_; rintro e x4 ⟨rfl, hg4⟩; have gW4 := gW3.trans hg4)))
  all_goals
    have g5 := hide ((unhide gw).trans gW4)
    clear KD KC gd hg3 gW3 hg4 gW4
    go_wp2_with fail
    go_ret2
    exact ⟨rfl, unhide g5⟩
set_option maxHeartbeats 2000000 in
theorem c_pop {v : Int} (H : Hid (HV V own hb cb ab l)) (h : Hid (V w al g)) (C : Cz al l a R adr) (Q : Cq al.a a R f (v :: q) cl) (al2 : Al) (Pg : γ → Prop)
    (hB : adr = true → BarC V own cb ⟨al.a.write (a + (5 + (f : Int))) 0, al.u⟩ g v 0 (-1) al2 Pg) (hN : adr = false → al2 = ⟨al.a.write (a + (5 + (f : Int))) 0, al.u⟩ ∧ Pg g) (C2 : Cz al2 l a R adr) :
    Calls Tryz.prog 12 #[.pointer (some ⟨hb, 0, none⟩), .int .i64 a] w fun e w' => e = .returned (.tuple #[.int .i64 v, .bool true]) ∧ ∃ g2, Pg g2 ∧ V w' ⟨(al2.a.write (a + 3) (((f + 1) % R : Nat) : Int)).write (a + 2) (((v :: q).length : Int) - 1), al2.u⟩ g2 ∧ Fr (own g) (own g2) w w' := by
  have CF := hide (c_found H h C)
  have hlen := Q.len
  rw [List.length_cons] at hlen
  have hfl := Q.fl (by omega)
  have r0 := C.r0
  have hv := Q.pop.1
  have CN : Hid (∀ y, V y al g → Calls Tryz.prog 36 #[chv (some ⟨hb, 0, none⟩) a ((R : Int) + 4) adr, .int .i64 1] y fun e w' => e = .returned (.int .i64 ((v :: q).length : Int)) ∧ G y w') := hide fun y hy => by
    have := c_get H (hide hy) a ((R : Int) + 4) 1 adr (by simp; omega) 2 (by decide +kernel)
    rw [show al.a.readV a 2 = _ from (C.rd 2 (by omega)).1, show al.a.wd (a + (2 : Nat)) = _ from Q.cnt] at this
    exact this
  have CT : Hid (∀ y, V y al g → Calls Tryz.prog 36 #[chv (some ⟨hb, 0, none⟩) a ((R : Int) + 4) adr, .int .i64 2] y fun e w' => e = .returned (.int .i64 (f : Int)) ∧ G y w') := hide fun y hy => by
    have := c_get H (hide hy) a ((R : Int) + 4) 2 adr (by simp; omega) 3 (by decide +kernel)
    rw [show al.a.readV a 3 = _ from (C.rd 3 (by omega)).1, show al.a.wd (a + (3 : Nat)) = _ from Q.fst] at this
    exact this
  have VG : Hid (∀ y y', V y al g → G y y' → V y' al g) := hide fun y y' hy gy => (unhide H).gr _ _ _ _ hy gy
  have VG2 : Hid (∀ y y' g2, V y al2 g2 → G y y' → V y' al2 g2) := hide fun y y' g2 hy gy => (unhide H).gr _ _ _ _ hy gy
  have CW : Hid (∀ y, V y al g → Calls Tryz.prog 37 #[chv (some ⟨hb, 0, none⟩) a ((R : Int) + 4) adr, .int .i64 (f : Int), .int .i64 0, .int .i64 (-1)] y fun e w' => e = .returned (.tuple #[.int .i64 v, .bool true]) ∧ Hid (∃ g2, Pg g2 ∧ V w' al2 g2 ∧ Fr (own g) (own g2) y w')) := hide fun y hy => by
    have := c_swapR H C f f (Nat.mod_eq_of_lt hfl) (by omega) 0 (-1) al2 Pg (by rw [hv]; exact hB) hN y hy
    rw [hv] at this
    exact this.mono fun _ _ hh => ⟨hh.1, hide hh.2⟩
  have CR : Hid (∀ y g2, V y al2 g2 → Calls Tryz.prog 39 #[chv (some ⟨hb, 0, none⟩) a ((R : Int) + 4) adr, .int .i64 (IntKind.i64.wrap ((f : Int) + 1))] y fun e w' => e = .returned (.int .i64 (((f + 1) % R : Nat) : Int)) ∧ G y w' ∧ Hid (V w' al2 g2)) := hide fun y g2 hy => by
    have e : IntKind.i64.wrap ((f : Int) + 1) = ((f + 1 : Nat) : Int) := by rw [IntKind.wrap_i64]; omega
    rw [e]
    exact (c_round H (hide hy) a ((R : Int) + 4) adr (by omega) (R : Int) _ _ ((C2.rd 1 (by omega)).1.trans C2.room) (by omega) (tmod_nat _ _)).mono fun _ _ hh => ⟨hh.1, hh.2, hide ((unhide H).gr _ _ _ _ hy hh.2)⟩
  obtain ⟨f3, hf3⟩ : ∃ c, c = (((f + 1) % R : Nat) : Int) := ⟨_, rfl⟩
  rw [← hf3] at CR ⊢
  have C3 : Cz ⟨al2.a.write (a + 3) f3, al2.u⟩ l a R adr := C2.write (by omega) (by omega)
  have CS : Hid (∀ y g2, V y al2 g2 → Calls Tryz.prog 38 #[chv (some ⟨hb, 0, none⟩) a ((R : Int) + 4) adr, .int .i64 2, .int .i64 f3] y fun e w' => e = .returned (.bool true) ∧ Hid (V w' ⟨al2.a.write (a + 3) f3, al2.u⟩ g2 ∧ Fr (own g2) (own g2) y w')) := hide fun y g2 hy => by
    have := c_set H (hide hy) a ((R : Int) + 4) 2 f3 adr (by simp; omega) 3 (by decide +kernel) (C2.rd 3 (by omega)).2
    rw [show al2.a.writeA a 3 f3 = _ from C2.wr 3 (by omega) _] at this
    exact this.mono fun _ _ hh => ⟨hh.1, hide hh.2⟩
  obtain ⟨cn1, hc1⟩ : ∃ c, c = ((v :: q).length : Int) - 1 := ⟨_, rfl⟩
  have hw : wrap64 (((v :: q).length : Int) - 1) = cn1 := by rw [hc1]; unfold wrap64; rw [List.length_cons]; omega
  have hd : ¬ ((v :: q).length : Int) < 1 := by rw [List.length_cons]; omega
  rw [← hc1]
  clear hc1
  have CS1 : Hid (∀ y g2, V y ⟨al2.a.write (a + 3) f3, al2.u⟩ g2 → Calls Tryz.prog 38 #[chv (some ⟨hb, 0, none⟩) a ((R : Int) + 4) adr, .int .i64 1, .int .i64 cn1] y fun e w' => e = .returned (.bool true) ∧ Hid (V w' ⟨(al2.a.write (a + 3) f3).write (a + 2) cn1, al2.u⟩ g2 ∧ Fr (own g2) (own g2) y w')) := hide fun y g2 hy => by
    have := c_set H (hide hy) a ((R : Int) + 4) 1 cn1 adr (by simp; omega) 2 (by decide +kernel) (C3.rd 2 (by omega)).2
    rw [show (al2.a.write (a + 3) f3).writeA a 2 cn1 = _ from C3.wr 2 (by omega) _] at this
    exact this.mono fun _ _ hh => ⟨hh.1, hide hh.2⟩
  generalize (⟨(al2.a.write (a + 3) f3).write (a + 2) cn1, al2.u⟩ : Al) = al4 at CS1 ⊢
  generalize (⟨al2.a.write (a + 3) f3, al2.u⟩ : Al) = al3 at CS CS1
  generalize (R : Int) + 4 = F at CF CN CT CW CR CS CS1
  generalize ((v :: q).length : Int) = cn at CN hw hd
  generalize (f : Int) = fn at CT CW CR
  clear H h C Q hB hN C2 C3 hfl r0 hlen hv hf3
  go_enter Tryz.func12, Tryz.ntmps12
  go_wp2_with fail
  refine (unhide CF).mono ?_
  rintro e w1 ⟨rfl, B1⟩
  clear CF
  go_upto_region 2 with fail
  obtain ⟨W2, hW2⟩ : ∃ W2, W2 = w1.alloc (.cells #[.pointer (some ⟨hb, 0, none⟩), .int .i64 a, .int .i64 F, .bool adr] 87) := ⟨_, rfl⟩
  obtain ⟨gw, V2, BX⟩ := unhide B1 W2 hW2
  obtain ⟨b0, b1, b2, b3⟩ := BX W2 (own g) (Fr.of_G (G.refl _))
  rw [← hW2]
  replace V2 : Hid (∀ y, G W2 y → V y al g) := hide fun y gy => unhide VG _ _ V2 gy
  replace gw := hide gw
  clear hW2 B1 VG
  have KD : Hid (W2.drew.cell? ⟨w1.heap.size, 0, none⟩ = some (.pointer (some ⟨hb, 0, none⟩)) ∧ W2.drew.cell? ⟨w1.heap.size, 1, none⟩ = some (.int .i64 a) ∧ W2.drew.cell? ⟨w1.heap.size, 2, none⟩ = some (.int .i64 F) ∧ W2.drew.cell? ⟨w1.heap.size, 3, none⟩ = some (.bool adr)) := hide (BX _ (own g) (Fr.of_G (G.refl _).drew))
  have KC : Hid (∀ x y : World, (x.cell? ⟨w1.heap.size, 0, none⟩ = some (.pointer (some ⟨hb, 0, none⟩)) ∧ x.cell? ⟨w1.heap.size, 1, none⟩ = some (.int .i64 a) ∧ x.cell? ⟨w1.heap.size, 2, none⟩ = some (.int .i64 F) ∧ x.cell? ⟨w1.heap.size, 3, none⟩ = some (.bool adr)) → G x y → (y.cell? ⟨w1.heap.size, 0, none⟩ = some (.pointer (some ⟨hb, 0, none⟩)) ∧ y.cell? ⟨w1.heap.size, 1, none⟩ = some (.int .i64 a) ∧ y.cell? ⟨w1.heap.size, 2, none⟩ = some (.int .i64 F) ∧ y.cell? ⟨w1.heap.size, 3, none⟩ = some (.bool adr))) := hide fun x y hx gx => ⟨gx.cell hx.1, gx.cell hx.2.1, gx.cell hx.2.2.1, gx.cell hx.2.2.2⟩
  replace BX := hide BX
  have gd := (G.refl W2).drew
  go_region_held3 (fun x => x.cell? ⟨w1.heap.size, 0, none⟩ = some (.pointer (some ⟨hb, 0, none⟩)) ∧ x.cell? ⟨w1.heap.size, 1, none⟩ = some (.int .i64 a) ∧ x.cell? ⟨w1.heap.size, 2, none⟩ = some (.int .i64 F) ∧ x.cell? ⟨w1.heap.size, 3, none⟩ = some (.bool adr))
    (first | assumption | exact unhide KD | exact unhide KC _ _ (by assumption) (by assumption))
    ((first
      | (go_at_call_of 36 (Value.int IntKind.i64 1); refine (unhide CN _ (unhide V2 _ gd)).mono ?_; rintro e x3 ⟨rfl, hg3⟩; have gW3 := gd.trans hg3)
      | (go_at_call_of 36 (Value.int IntKind.i64 2); refine (unhide CT _ (unhide V2 _ gW3)).mono ?_; rintro e x4 ⟨rfl, hg4⟩; have gW4 := gW3.trans hg4)))
  all_goals
    clear KD KC gd hg3 gW3 hg4
    obtain ⟨b0, b1, b2, b3⟩ := unhide BX x4 (own g) (Fr.of_G gW4)
    have K5 := hide (unhide CW x4 (unhide V2 _ gW4))
    replace gW4 := hide gW4
    go_wp2_with fail
    refine (unhide K5).mono ?_
    rintro e w5 ⟨rfl, h5⟩
    clear K5
    obtain ⟨g2, pg, v5, f5'⟩ := unhide h5
    have f5 := (Fr.of_G (o := own g) (unhide gW4)).trans f5'
    replace pg := hide pg
    obtain ⟨b0, b1, b2, b3⟩ := unhide BX w5 (own g2) f5
    have V5 : Hid (∀ y, G w5 y → V y al2 g2) := hide fun y gy => unhide VG2 _ _ g2 v5 gy
    have BX5 : Hid (∀ y, Fr (own g2) (own g2) w5 y → (y.cell? ⟨w1.heap.size, 0, none⟩ = some (.pointer (some ⟨hb, 0, none⟩)) ∧ y.cell? ⟨w1.heap.size, 1, none⟩ = some (.int .i64 a) ∧ y.cell? ⟨w1.heap.size, 2, none⟩ = some (.int .i64 F) ∧ y.cell? ⟨w1.heap.size, 3, none⟩ = some (.bool adr))) := hide fun y fy => unhide BX y (own g2) (f5.trans fy)
    replace f5 := hide f5
    clear v5 f5' h5
    have KD : Hid (w5.drew.cell? ⟨w1.heap.size, 0, none⟩ = some (.pointer (some ⟨hb, 0, none⟩)) ∧ w5.drew.cell? ⟨w1.heap.size, 1, none⟩ = some (.int .i64 a) ∧ w5.drew.cell? ⟨w1.heap.size, 2, none⟩ = some (.int .i64 F) ∧ w5.drew.cell? ⟨w1.heap.size, 3, none⟩ = some (.bool adr)) := hide (unhide BX5 _ (Fr.of_G (G.refl _).drew))
    have KC : Hid (∀ x y : World, (x.cell? ⟨w1.heap.size, 0, none⟩ = some (.pointer (some ⟨hb, 0, none⟩)) ∧ x.cell? ⟨w1.heap.size, 1, none⟩ = some (.int .i64 a) ∧ x.cell? ⟨w1.heap.size, 2, none⟩ = some (.int .i64 F) ∧ x.cell? ⟨w1.heap.size, 3, none⟩ = some (.bool adr)) → G x y → (y.cell? ⟨w1.heap.size, 0, none⟩ = some (.pointer (some ⟨hb, 0, none⟩)) ∧ y.cell? ⟨w1.heap.size, 1, none⟩ = some (.int .i64 a) ∧ y.cell? ⟨w1.heap.size, 2, none⟩ = some (.int .i64 F) ∧ y.cell? ⟨w1.heap.size, 3, none⟩ = some (.bool adr))) := hide fun x y hx gx => ⟨gx.cell hx.1, gx.cell hx.2.1, gx.cell hx.2.2.1, gx.cell hx.2.2.2⟩
    have gd := (G.refl w5).drew
    go_upto_region 8 with fail
    go_region_held3 (fun x => x.cell? ⟨w1.heap.size, 0, none⟩ = some (.pointer (some ⟨hb, 0, none⟩)) ∧ x.cell? ⟨w1.heap.size, 1, none⟩ = some (.int .i64 a) ∧ x.cell? ⟨w1.heap.size, 2, none⟩ = some (.int .i64 F) ∧ x.cell? ⟨w1.heap.size, 3, none⟩ = some (.bool adr))
      (first | assumption | exact unhide KD | exact unhide KC _ _ (by assumption) (by assumption))
      ((first
        | (go_at_call 39; refine (unhide CR _ g2 (unhide V5 _ gd)).mono ?_; rintro e x6 ⟨rfl, hg6, hv6⟩; have gW6 := gd.trans hg6)
        | (go_at_call 38; refine (unhide CS _ g2 (unhide hv6)).mono ?_; rintro e x7 ⟨rfl, h7⟩; have f7 := (Fr.of_G (o := own g2) gW6).trans (unhide h7).2; have S7 := unhide BX5 x7 f7)))
    all_goals
      clear KD KC gd hg6
      obtain ⟨b0, b1, b2, b3⟩ := S7
      have K8 := hide (unhide CS1 x7 g2 (unhide h7).1)
      replace f7 := hide f7
      go_wp2_with fail
      refine (unhide K8).mono ?_
      rintro e w9 ⟨rfl, h9⟩
      clear K8
      go_wp2_with fail
      go_ret2
      exact ⟨rfl, g2, unhide pg, (unhide h9).1, (Fr.of_G (unhide gw)).trans ((unhide f5).trans ((unhide f7).trans (unhide h9).2))⟩
end
end Go.Proofs.YtdnhmkbdphpjcaaGreatDoor

/- Package chans over a Heap while no collection goes on: the view; Make; what awake's calls and ChansRing's come to. -/
namespace Go.Proofs.YtdnhmkbdphpjcaaGreatDoor
set_option maxRecDepth 100000
open Go.ChangeShapes Go.WideShapes Go.ChangeAt Go.RowKit Go.Maps Go.Deep

/-- The blocks that an arena's and an allocator's calls turn. -/
abbrev ownH (x : Hx) (_ : Unit) (d : Nat) : Prop := d = x.xl.d.wb ∨ d = x.xl.d.sb ∨ d = x.xl.ub
section
variable {W w : World} {x : Hx} {al : Al} {l : List Hd.Shp} {n : Nat} {ao : Option Addr} {cap : Nat} {nv : Value} {c : Nat → Nat}
theorem fr_of_tn {w' : World} (t : TnL w w' x.xl) : Fr (ownH x ()) (ownH x ()) w w' := ⟨t.size, fun d hd ho => t.block d hd (fun e => ho (Or.inl e)) (fun e => ho (Or.inr (Or.inl e))) (fun e => ho (Or.inr (Or.inr e))), fun _ h => Or.inl h⟩
theorem hv_hs (W : World) (x : Hx) (l : List Hd.Shp) (n : Nat) (ao : Option Addr) (cap : Nat) (nv : Value) (c : Nat → Nat) (hf : ∀ s ∈ l, s.m < 18446744073709551616) : HV (fun w al (_ : Unit) => HS W w x al l n ao cap nv c) (ownH x) x.hb x.b.cb x.xl.d.ab l := by
  refine ⟨fun w al _ a h => h_of (hide h) a, fun w w' al _ h g => h.gr g, fun w al _ h d hd => ?_, fun w al _ h => h_cycle (hide h), fun w al _ h => k_arena (hide h.ks), fun w al _ a i h => (ls_read (hide h.ks.st) a i).mono fun _ _ hh => ⟨hh.1, hh.2.2⟩, fun w al _ a i v h => (ls_write (hide h.ks.st) a i v).mono fun _ _ hh => ⟨hh.1, h.turn hh.2.1 hh.2.2, fr_of_tn hh.2.2⟩, hf⟩
  obtain ⟨_, l2, l3, l4, _⟩ := h.alt
  rcases hd with rfl | rfl | rfl
  · exact l2
  · exact l3
  · exact l4
theorem bar_hs (W : World) (x : Hx) (l : List Hd.Shp) (n : Nat) (ao : Option Addr) (cap : Nat) (nv : Value) (c : Nat → Nat) (al : Al) (o v id : Int) : BarC (fun w al (_ : Unit) => HS W w x al l n ao cap nv c) (ownH x) x.b.cb al () o v id al (fun _ => True) := fun y hy =>
  (k_barrier0 (hide hy.ks) o v id).mono fun _ _ hh => ⟨hh.1, (), trivial, by rw [hh.2]; exact hy, by rw [hh.2]; exact Fr.of_G (G.refl _)⟩
theorem c_make_size (w : World) (hb : Nat) (k R : Int) (rv : Value) (h : R < 0 ∨ 59 < R) : Calls Tryz.prog 11 #[.pointer (some ⟨hb, 0, none⟩), .int .i64 k, .int .i64 R, rv] w fun e w' => e = .returned (.tuple #[.int .i64 0, .int .i64 5, .int .i64 0]) ∧ w' = w := by
  by_cases h0 : R < 0
  · clear h
    go_enter Tryz.func11, Tryz.ntmps11
    go_wp2_with fail
    go_returns
    exact ⟨rfl, rfl⟩
  · have h1 : 59 < R := by omega
    have d0 : decide (R < 0) = false := by simp; omega
    clear h h0
    go_enter Tryz.func11, Tryz.ntmps11
    go_wp2_with fail
    go_returns
    exact ⟨rfl, rfl⟩
theorem c_make_bad (h : Hid (HS W w x al l n ao cap nv c)) (k R : Int) (hk : k < 0 ∨ (n : Int) ≤ k) (h0 : 0 ≤ R) (h1 : R ≤ 59) (rv : Value) : Calls Tryz.prog 11 #[.pointer (some ⟨x.hb, 0, none⟩), .int .i64 k, .int .i64 R, rv] w fun e w' => e = .returned (.tuple #[.int .i64 0, .int .i64 0, .int .i64 1]) ∧ w' = w := by
  have d0 : decide (R < 0) = false := by simp; omega
  have d1 : decide (59 < R) = false := by simp; omega
  obtain ⟨R5, hR5⟩ : ∃ r, r = R + 5 := ⟨_, rfl⟩
  have hw : wrap64 (R + 5) = R5 := by rw [hR5]; unfold wrap64; omega
  have C := hide (h_make_bad h k R5 (by omega) rv)
  clear h hk h0 h1 hR5
  go_enter Tryz.func11, Tryz.ntmps11
  go_wp2_with fail
  refine (unhide C).mono ?_
  rintro e w1 ⟨rfl, hw1⟩
  rw [hw1]
  clear hw1 C w1
  go_wp2_with fail
  go_returns
  exact ⟨rfl, rfl⟩
set_option maxHeartbeats 1000000 in
theorem c_make (h : Hid (HS W w x al l n ao cap nv c)) (k : Nat) (hk : k < n) (s : Hd.Shp) (hs : l[k]? = some s) (R : Nat) (h1 : R ≤ 59) (v : Int) (al' : Al) (hR : Hid (al.take ((R : Int) + 5) = (al', v, 0))) (rv : Value) : Calls Tryz.prog 11 #[.pointer (some ⟨x.hb, 0, none⟩), .int .i64 (k : Int), .int .i64 (R : Int), rv] w fun e w' => e = .returned (.tuple #[.int .i64 v, .int .i64 0, .int .i64 0]) ∧ HS W w' x ⟨(al'.a.writeA v 0 (Hd.pkV ((R : Int) + 5) s.k (k : Int))).writeA v 1 (R : Int), al'.u⟩ l n ao cap nv c ∧ Kp3 w c w' := by
  have d0 : decide ((R : Int) < 0) = false := by simp
  have d1 : decide (59 < (R : Int)) = false := by simp; omega
  have C := hide (h_makeK h k hk s hs ((R : Int) + 5) v (by omega) (by omega) al' hR rv)
  obtain ⟨R5, hR5⟩ : ∃ r, r = (R : Int) + 5 := ⟨_, rfl⟩
  have hw : wrap64 ((R : Int) + 5) = R5 := by rw [hR5]; unfold wrap64; omega
  rw [← hR5] at C ⊢
  generalize al'.a.writeA v 0 (Hd.pkV R5 s.k (k : Int)) = a2 at C ⊢
  have CC : Hid (∀ y, HS W y x ⟨a2, al'.u⟩ l n ao cap nv c → Calls Tryz.prog 20 #[.pointer (some ⟨x.hb, 0, none⟩)] y fun e w' => e = .returned (.pointer (some ⟨x.b.cb, 0, none⟩)) ∧ w' = y) := hide fun y hy => h_cycle (hide hy)
  have CA : Hid (∀ y, HS W y x ⟨a2, al'.u⟩ l n ao cap nv c → Calls Tryz.prog 22 #[.pointer (some ⟨x.b.cb, 0, none⟩)] y fun e w' => e = .returned (.pointer (some ⟨x.xl.d.ab, 0, none⟩)) ∧ w' = y) := hide fun y hy => k_arena (hide hy.ks)
  have CW : Hid (∀ y, HS W y x ⟨a2, al'.u⟩ l n ao cap nv c → Kp3 w c y → Calls Tryz.prog 34 #[.pointer (some ⟨x.xl.d.ab, 0, none⟩), .int .i64 v, .int .i64 1, .int .i64 (R : Int)] y fun e w' => (∃ r, e = .returned (.int .i64 r)) ∧ Hid (HS W w' x ⟨a2.writeA v 1 (R : Int), al'.u⟩ l n ao cap nv c ∧ Kp3 w c w')) := hide fun y hy hk => (ls_write (hide hy.ks.st) v 1 (R : Int)).mono fun _ _ hh => ⟨⟨_, hh.1⟩, hide ⟨hy.turn hh.2.1 hh.2.2, hk.trans (hy.kp hh.2.2)⟩⟩
  generalize (R : Int) = rn at d0 d1 hw CW ⊢
  clear h hk hs h1 hR hR5
  go_enter Tryz.func11, Tryz.ntmps11
  go_wp2_with fail
  refine (unhide C).mono ?_
  rintro e w1 ⟨rfl, S1, k1⟩
  have C1 := hide (unhide CC w1 S1)
  have C2 := hide (unhide CA w1 S1)
  have C3 := hide (unhide CW w1 S1 k1)
  clear C CC CA CW S1 k1
  go_wp2_with fail
  refine (unhide C1).mono ?_
  rintro e w2 ⟨rfl, hw2⟩
  rw [hw2]
  clear hw2 C1 w2
  go_wp2_with fail
  refine (unhide C2).mono ?_
  rintro e w2 ⟨rfl, hw2⟩
  rw [hw2]
  clear hw2 C2 w2
  go_wp2_with fail
  refine (unhide C3).mono ?_
  rintro e w3 ⟨⟨r, rfl⟩, S3⟩
  clear C3
  go_wp2_with fail
  go_returns
  exact ⟨rfl, unhide S3⟩
end
/-! ### the law's shapes; a channel made first -/
def ls5 : List Hd.Shp := [⟨3, 0, 0⟩, ⟨3, 0, 1⟩, ⟨0, 0, 0⟩]
theorem ls5_ok : ∀ s ∈ ls5, s.Fit ∧ s.good = true := by
  intro s hs
  simp only [ls5, List.mem_cons, List.not_mem_nil, or_false] at hs
  rcases hs with rfl | rfl | rfl <;> exact ⟨⟨by decide, by decide, by decide⟩, by decide⟩
theorem ls5_nd : ls5.Nodup := by decide
theorem ls5_m : ∀ s ∈ ls5, s.m < 18446744073709551616 := fun s hs => (ls5_ok s hs).1.m0
def shp5 : Obj := .cells #[.int .i64 3, .int .i64 0, .int .u64 0, .int .i64 3, .int .i64 0, .int .u64 1, .int .i64 0, .int .i64 0, .int .u64 0] 72
theorem shp5_at (w : World) : ∀ i s, ls5[i]? = some s → (w.alloc shp5).cell? ⟨w.heap.size, 0 + i * 3, none⟩ = some (.int .i64 s.k) ∧ (w.alloc shp5).cell? ⟨w.heap.size, 0 + i * 3 + 1, none⟩ = some (.int .i64 s.f) ∧ (w.alloc shp5).cell? ⟨w.heap.size, 0 + i * 3 + 2, none⟩ = some (.int .u64 (s.m : Int)) := by
  intro i s hs
  unfold shp5
  rw [World.cell?_alloc_new, World.cell?_alloc_new, World.cell?_alloc_new]
  match i, hs with
  | 0, hs => cases hs; exact ⟨rfl, rfl, rfl⟩
  | 1, hs => cases hs; exact ⟨rfl, rfl, rfl⟩
  | 2, hs => cases hs; exact ⟨rfl, rfl, rfl⟩
  | i + 3, hs => simp [ls5] at hs
theorem shapes15 (w : World) : Calls Tryz.prog 10 #[] w fun r w' => r = .returned (.slice (some ⟨w.heap.size, 0, none⟩) 3 3) ∧ w' = w.alloc shp5 := by
  unfold shp5
  go_enter Tryz.func10, Tryz.ntmps10
  go_wp2_with fail
  go_ret
  exact ⟨rfl, rfl⟩
theorem new15 (N : Nat) (h8 : 8 ≤ N) (h5 : N ≤ 512) (w w1 : World) (hw : w1 = w.alloc shp5) (ht : Tab w) : Calls Tryz.prog 9 #[.int .i64 (N : Int), .slice (some ⟨w.heap.size, 0, none⟩) 3 3] w1 fun e w' => ∃ x, e = .returned (.tuple #[.pointer (some ⟨x.hb, 0, none⟩), .int .i64 0]) ∧ ∃ ao cap nv c, HS w1 w' x (al0 N) ls5 3 ao cap nv c := by
  subst hw
  exact h_new N h8 h5 (hide (Tab.later ht (G.alloc _ _))) w.heap.size 0 3 ls5 3 rfl (by decide) (hide ls5_ok) (hide ls5_nd) (by rw [World.size_alloc]; omega) (hide (shp5_at w))
/-- Behind Make(0, R), the first call on a heap of 8 spans. -/
def rt (R : Nat) : Al := ((al0 8).take ((R : Int) + 5)).1
def rq (R : Nat) : Al := ⟨((rt R).a.writeA 64 0 (Hd.pkV ((R : Int) + 5) 3 0)).writeA 64 1 (R : Int), (rt R).u⟩
theorem trz_of {p : Al × Int × Int} {v e : Int} (h : p.2 = (v, e)) : p = (p.1, v, e) := by rw [← h]
theorem rt_take : ∀ R : Fin 60, ((al0 8).take ((R.1 : Int) + 5)).2 = (64, 0) := by decide +kernel
def ofB3 (n : Int) : Option (Int × Int × Int × Hd.Shp) → Bool
  | some (a, b, c, s) => decide (a = n) && decide (b = 3) && decide (c = 0) && decide (s.k = 3) && decide (s.f = 0) && decide (s.m = 0)
  | none => false
theorem ofB3_eq {n : Int} : ∀ {o : Option (Int × Int × Int × Hd.Shp)}, ofB3 n o = true → o = some (n, 3, 0, ⟨3, 0, 0⟩)
  | none, h => by cases h
  | some (a, b, c, s), h => by
    simp only [ofB3, Bool.and_eq_true, decide_eq_true_eq] at h
    obtain ⟨⟨⟨⟨⟨rfl, rfl⟩, rfl⟩, h1⟩, h2⟩, h3⟩ := h
    obtain ⟨k, f, m⟩ := s
    obtain rfl : k = 3 := h1
    obtain rfl : f = 0 := h2
    obtain rfl : m = 0 := h3
    rfl
theorem rq_of1 : ∀ R : Fin 60, ofB3 ((R.1 : Int) + 5) (ofP (rq R.1) ls5 64) = true := by decide +kernel
theorem rq_in : ∀ R : Fin 60, ∀ k : Fin 64, k.1 < R.1 + 5 → (rq R.1).a.inW 64 (k.1 : Int) = true := by decide +kernel
theorem rq_wd : ∀ R : Fin 60, (rq R.1).a.wd (64 + 1) = (R.1 : Int) ∧ (rq R.1).a.wd (64 + 2) = 0 ∧ (rq R.1).a.wd (64 + 3) = 0 ∧ (rq R.1).a.wd (64 + 4) = 0 := by decide +kernel
theorem rq_cz (R : Nat) (h : R ≤ 59) : Cz (rq R) ls5 64 R false :=
  ⟨⟨0, ⟨3, 0, 0⟩, ofB3_eq (rq_of1 ⟨R, by omega⟩), by decide⟩, fun j hj => rq_in ⟨R, by omega⟩ ⟨j, by omega⟩ hj, (rq_wd ⟨R, by omega⟩).1, h⟩
theorem rq_cq (R : Nat) (h : R ≤ 59) : Cq (rq R).a 64 R 0 [] false :=
  ⟨(rq_wd ⟨R, by omega⟩).2.1, (rq_wd ⟨R, by omega⟩).2.2.1, (rq_wd ⟨R, by omega⟩).2.2.2, Nat.zero_le _, Nat.zero_le _, fun h => h, fun i v hi => by simp at hi⟩
end Go.Proofs.YtdnhmkbdphpjcaaGreatDoor

/- One channel of numbers on a Heap while no collection goes on: its calls. -/
namespace Go.Proofs.YtdnhmkbdphpjcaaGreatDoor
set_option maxRecDepth 100000
open Go.ChangeShapes Go.WideShapes Go.ChangeAt Go.RowKit Go.Maps Go.Deep

/-- A Heap with a channel of numbers at a: what is in it. -/
def ChS (W : World) (x : Hx) (n : Nat) (ao : Option Addr) (cap : Nat) (nv : Value) (c : Nat → Nat) (a : Int) (R : Nat) (q : List Int) (cl : Bool) (w : World) : Prop :=
  ∃ al f, HS W w x al ls5 n ao cap nv c ∧ Cz al ls5 a R false ∧ Cq al.a a R f q cl
section
variable {W w : World} {x : Hx} {n : Nat} {ao : Option Addr} {cap : Nat} {nv : Value} {c : Nat → Nat} {a : Int} {R : Nat} {q : List Int} {cl : Bool}
theorem ChS.gr {w' : World} (h : ChS W x n ao cap nv c a R q cl w) (g : G w w') : ChS W x n ao cap nv c a R q cl w' := by
  obtain ⟨al, f, S, C, Q⟩ := h
  exact ⟨al, f, S.gr g, C, Q⟩
theorem ChS.below (h : ChS W x n ao cap nv c a R q cl w) : Below W.heap.size W w := by
  obtain ⟨al, f, S, C, Q⟩ := h
  exact S.ks.st.below
theorem s_push (h : Hid (ChS W x n ao cap nv c a R q false w)) (hl : q.length < R) (v id : Int) : Calls Tryz.prog 13 #[.pointer (some ⟨x.hb, 0, none⟩), .int .i64 a, .int .i64 v, .int .i64 id] w fun e w' => e = .returned (.bool true) ∧ ChS W x n ao cap nv c a R (q ++ [v]) false w' ∧ Fr (ownH x ()) (ownH x ()) w w' := by
  obtain ⟨al, f, S, C, Q⟩ := unhide h
  refine (c_push (hide (hv_hs W x ls5 n ao cap nv c ls5_m)) (g := ()) (hide S) C Q hl v id _ (fun _ => True) (fun e => by cases e) (fun _ => ⟨rfl, trivial⟩) (C.write (by omega) (by omega))).mono ?_
  rintro e w' ⟨he, g2, _, S2, F2⟩
  exact ⟨he, ⟨_, f, S2, C.push q.length v, Q.push hl v⟩, F2⟩
theorem s_push_full (h : Hid (ChS W x n ao cap nv c a R q cl w)) (hl : cl = true ∨ R ≤ q.length) (v id : Int) : Calls Tryz.prog 13 #[.pointer (some ⟨x.hb, 0, none⟩), .int .i64 a, .int .i64 v, .int .i64 id] w fun e w' => e = .returned (.bool false) ∧ G w w' := by
  obtain ⟨al, f, S, C, Q⟩ := unhide h
  exact c_push_full (hide (hv_hs W x ls5 n ao cap nv c ls5_m)) (g := ()) (hide S) C Q hl v id
theorem s_pop {v : Int} (h : Hid (ChS W x n ao cap nv c a R (v :: q) cl w)) : Calls Tryz.prog 12 #[.pointer (some ⟨x.hb, 0, none⟩), .int .i64 a] w fun e w' => e = .returned (.tuple #[.int .i64 v, .bool true]) ∧ ChS W x n ao cap nv c a R q cl w' ∧ Fr (ownH x ()) (ownH x ()) w w' := by
  obtain ⟨al, f, S, C, Q⟩ := unhide h
  refine (c_pop (hide (hv_hs W x ls5 n ao cap nv c ls5_m)) (g := ()) (hide S) C Q _ (fun _ => True) (fun e => by cases e) (fun _ => ⟨rfl, trivial⟩) (C.write (by omega) (by omega))).mono ?_
  rintro e w' ⟨he, g2, _, S2, F2⟩
  exact ⟨he, ⟨_, _, S2, C.pop _, Q.pop.2⟩, F2⟩
theorem s_pop_empty (h : Hid (ChS W x n ao cap nv c a R [] cl w)) : Calls Tryz.prog 12 #[.pointer (some ⟨x.hb, 0, none⟩), .int .i64 a] w fun e w' => e = .returned (.tuple #[.int .i64 0, .bool false]) ∧ G w w' := by
  obtain ⟨al, f, S, C, Q⟩ := unhide h
  exact c_pop_empty (hide (hv_hs W x ls5 n ao cap nv c ls5_m)) (g := ()) (hide S) C Q
theorem s_close (h : Hid (ChS W x n ao cap nv c a R q false w)) : Calls Tryz.prog 14 #[.pointer (some ⟨x.hb, 0, none⟩), .int .i64 a] w fun e w' => e = .returned (.bool true) ∧ ChS W x n ao cap nv c a R q true w' ∧ Fr (ownH x ()) (ownH x ()) w w' := by
  obtain ⟨al, f, S, C, Q⟩ := unhide h
  exact (c_close (hide (hv_hs W x ls5 n ao cap nv c ls5_m)) (g := ()) (hide S) C Q).mono fun _ _ hh => ⟨hh.1, ⟨_, f, hh.2.1, C.close, Q.close⟩, hh.2.2⟩
theorem s_close_shut (h : Hid (ChS W x n ao cap nv c a R q true w)) : Calls Tryz.prog 14 #[.pointer (some ⟨x.hb, 0, none⟩), .int .i64 a] w fun e w' => e = .returned (.bool false) ∧ G w w' := by
  obtain ⟨al, f, S, C, Q⟩ := unhide h
  exact c_close_shut (hide (hv_hs W x ls5 n ao cap nv c ls5_m)) (g := ()) (hide S) C Q
theorem s_count (h : Hid (ChS W x n ao cap nv c a R q cl w)) : Calls Tryz.prog 17 #[.pointer (some ⟨x.hb, 0, none⟩), .int .i64 a] w fun e w' => e = .returned (.int .i64 (q.length : Int)) ∧ G w w' := by
  obtain ⟨al, f, S, C, Q⟩ := unhide h
  exact c_count (hide (hv_hs W x ls5 n ao cap nv c ls5_m)) (g := ()) (hide S) C Q
theorem s_room (h : Hid (ChS W x n ao cap nv c a R q cl w)) : Calls Tryz.prog 16 #[.pointer (some ⟨x.hb, 0, none⟩), .int .i64 a] w fun e w' => e = .returned (.int .i64 (R : Int)) ∧ G w w' := by
  obtain ⟨al, f, S, C, Q⟩ := unhide h
  exact c_room (hide (hv_hs W x ls5 n ao cap nv c ls5_m)) (g := ()) (hide S) C
theorem s_closed (h : Hid (ChS W x n ao cap nv c a R q cl w)) : Calls Tryz.prog 15 #[.pointer (some ⟨x.hb, 0, none⟩), .int .i64 a] w fun e w' => e = .returned (.bool cl) ∧ G w w' := by
  obtain ⟨al, f, S, C, Q⟩ := unhide h
  exact c_shut (hide (hv_hs W x ls5 n ao cap nv c ls5_m)) (g := ()) (hide S) C Q
theorem s_is (h : Hid (ChS W x n ao cap nv c a R q cl w)) (b : Bool) : Calls Tryz.prog 18 #[.pointer (some ⟨x.hb, 0, none⟩), .int .i64 a, .bool b] w fun e w' => e = .returned (.bool (false == b)) ∧ G w w' := by
  obtain ⟨al, f, S, C, Q⟩ := unhide h
  exact c_is (hide (hv_hs W x ls5 n ao cap nv c ls5_m)) (g := ()) (hide S) C b
/-- Made first on a heap of 8 spans. -/
theorem s_make (h : Hid (HS W w x (al0 8) ls5 3 ao cap nv c)) (R : Nat) (hR : R ≤ 59) (rv : Value) : Calls Tryz.prog 11 #[.pointer (some ⟨x.hb, 0, none⟩), .int .i64 0, .int .i64 (R : Int), rv] w fun e w' => e = .returned (.tuple #[.int .i64 64, .int .i64 0, .int .i64 0]) ∧ ChS W x 3 ao cap nv c 64 R [] false w' ∧ Kp3 w c w' :=
  (c_make h 0 (by decide) ⟨3, 0, 0⟩ rfl R hR 64 (rt R) (hide (trz_of (rt_take ⟨R, by omega⟩))) rv).mono fun _ _ hh => ⟨hh.1, ⟨rq R, 0, hh.2.1, rq_cz R hR, rq_cq R hR⟩, hh.2.2⟩
end
end Go.Proofs.YtdnhmkbdphpjcaaGreatDoor

/- A Heap in memory, whatever its collector does: the black stacks, the grey ones; Shade, Black, Barrier, Left. -/
namespace Go.Proofs.YtdnhmkbdphpjcaaGreatDoor
set_option maxRecDepth 100000
open Go.ChangeShapes Go.WideShapes Go.ChangeAt Go.RowKit Go.Maps Go.ChangeMaps Go.MapKept Go.Deep

/-- The black stacks' map. -/
def BkAt (w : World) (mb : Nat) (bk : List Int) : Prop := ∃ D : DataW Unit, w.ownsMap Tryz.prog 3 unitElem mb bk.length D ∧ ∀ y, wfN y → Maps.has D (.int .i64 y) = decide (y ∈ bk)
theorem BkAt.kept {w w' : World} {mb : Nat} {bk : List Int} (h : BkAt w mb bk) (e : w'.heap[mb]? = w.heap[mb]?) : BkAt w' mb bk := by
  obtain ⟨D, ⟨es, c, hb, r⟩, hh⟩ := h
  exact ⟨D, ⟨es, c, e.trans hb, r⟩, hh⟩
theorem BkAt.lt {w : World} {mb : Nat} {bk : List Int} (h : BkAt w mb bk) : mb < w.heap.size := by
  obtain ⟨D, ⟨es, c, hb, r⟩, hh⟩ := h
  rcases Nat.lt_or_ge mb w.heap.size with h1 | h1
  · exact h1
  · rw [Array.getElem?_eq_none h1] at hb; cases hb
/-- The Cycle's own cells. -/
structure CbAt (w : World) (x : Hx) (ph kept done : Int) : Prop where
  c0 : w.cell? ⟨x.b.cb, 0, none⟩ = some (.pointer (some ⟨x.xl.d.ab, 0, none⟩))
  c1 : w.cell? ⟨x.b.cb, 1, none⟩ = some (.pointer (some ⟨x.xl.lb, 0, none⟩))
  c2 : w.cell? ⟨x.b.cb, 2, none⟩ = some (.pointer (some ⟨x.b.tb, 0, none⟩))
  c3 : w.cell? ⟨x.b.cb, 3, none⟩ = some (.pointer (some ⟨x.b.kb, 0, none⟩))
  c4 : w.cell? ⟨x.b.cb, 4, none⟩ = some (.int .i64 ph)
  c5 : w.cell? ⟨x.b.cb, 5, none⟩ = some (.map (some x.b.mb))
  c6 : w.cell? ⟨x.b.cb, 6, none⟩ = some (.int .i64 kept)
  c7 : w.cell? ⟨x.b.cb, 7, none⟩ = some (.int .i64 done)
  fz : ∀ i, w.frozen? ⟨x.b.cb, i, none⟩ = false
theorem CbAt.kept {w w' : World} {x : Hx} {ph kept done : Int} (h : CbAt w x ph kept done) (e : w'.heap[x.b.cb]? = w.heap[x.b.cb]?) : CbAt w' x ph kept done :=
  ⟨(World.cell?_of_block (a := ⟨x.b.cb, 0, none⟩) e).trans h.c0, (World.cell?_of_block (a := ⟨x.b.cb, 1, none⟩) e).trans h.c1, (World.cell?_of_block (a := ⟨x.b.cb, 2, none⟩) e).trans h.c2, (World.cell?_of_block (a := ⟨x.b.cb, 3, none⟩) e).trans h.c3, (World.cell?_of_block (a := ⟨x.b.cb, 4, none⟩) e).trans h.c4, (World.cell?_of_block (a := ⟨x.b.cb, 5, none⟩) e).trans h.c5, (World.cell?_of_block (a := ⟨x.b.cb, 6, none⟩) e).trans h.c6, (World.cell?_of_block (a := ⟨x.b.cb, 7, none⟩) e).trans h.c7, fun i => (World.frozen?_of_block (a := ⟨x.b.cb, i, none⟩) e).trans (h.fz i)⟩
theorem CbAt.phase {w : World} {x : Hx} {ph kept done : Int} (h : CbAt w x ph kept done) (p : Int) : CbAt (w.setCell ⟨x.b.cb, 4, none⟩ (.int .i64 p)) x p kept done :=
  ⟨cellO (by decide) h.c0, cellO (by decide) h.c1, cellO (by decide) h.c2, cellO (by decide) h.c3, cell_same _ h.c4, cellO (by decide) h.c5, cellO (by decide) h.c6, cellO (by decide) h.c7, fun i => by rw [World.frozen?_setCell]; exact h.fz i⟩
/-- A Heap: c: whose block is it: 1 arena and allocator's rows, 16 their heads, 2 the Cycle, 12 the marker, 13 the black ones, 14 and 15 the queue, 3 table, 4 its map, 5 its row, 6 the Heap, 7 least, 8 numbers. -/
structure HG (W w : World) (x : Hx) (al : Al) (l : List Hd.Shp) (n : Nat) (ao : Option Addr) (cap : Nat) (nv : Value) (c : Nat → Nat) (ph kept done fc : Int) (bk gl : List Int) (qs : List Nat) : Prop where
  st : StL W w x.xl al
  cb : CbAt w x ph kept done
  mp : BkAt w x.b.mb bk
  k0 : w.cell? ⟨x.b.kb, 0, none⟩ = some (.pointer (some ⟨x.xl.d.ab, 0, none⟩))
  k2 : w.cell? ⟨x.b.kb, 2, none⟩ = some (.pointer (some ⟨x.b.q, 0, none⟩))
  que : Gy.QL w x.b.q qs gl
  tab : Hd.TabAt w W.heap.size x.b.tb x.tm ao cap l
  h0 : w.cell? ⟨x.hb, 0, none⟩ = some (.pointer (some ⟨x.b.cb, 0, none⟩))
  h1 : w.cell? ⟨x.hb, 1, none⟩ = some nv
  h2 : w.cell? ⟨x.hb, 2, none⟩ = some (.map (some x.lm))
  h3 : w.cell? ⟨x.hb, 3, none⟩ = some (.int .i64 fc)
  hf : ∀ i, w.frozen? ⟨x.hb, i, none⟩ = false
  num : NrAt w W.heap.size nv n
  lmp : LmAt w x.lm n
  lo : W.heap.size ≤ x.b.cb ∧ W.heap.size ≤ x.b.kb ∧ W.heap.size ≤ x.b.mb ∧ W.heap.size ≤ x.b.q ∧ W.heap.size ≤ x.hb ∧ W.heap.size ≤ x.lm
  lq : ∀ d ∈ qs, W.heap.size ≤ d
  lt : x.lm < w.heap.size
  a1 : c x.xl.d.wb = 1 ∧ c x.xl.d.sb = 1 ∧ c x.xl.ub = 1
  a2 : c x.xl.d.ab = 16 ∧ c x.xl.lb = 16
  kc : c x.b.cb = 2 ∧ c x.b.kb = 12 ∧ c x.b.mb = 13 ∧ c x.b.q = 14
  cq : ∀ d ∈ qs, c d = 15
  c3 : c x.b.tb = 3
  c4 : c x.tm = 4
  c5 : ∀ a, ao = some a → c a.block = 5
  c6 : c x.hb = 6
  c7 : c x.lm = 7
  c8 : ∀ k, nv.ownBlock = some k → c k = 8
section
variable {W w w' : World} {x : Hx} {al al' : Al} {l : List Hd.Shp} {n : Nat} {ao : Option Addr} {cap : Nat} {nv : Value} {c c' : Nat → Nat} {ph kept done fc ph' kept' done' : Int} {bk gl bk' gl' : List Int} {qs qs' : List Nat}
theorem HG.hB (h : HG W w x al l n ao cap nv c ph kept done fc bk gl qs) : HB W w x al l ao cap := ⟨h.st, h.cb.c0, h.cb.c2, h.tab, h.h0⟩
theorem HG.alt (h : HG W w x al l n ao cap nv c ph kept done fc bk gl qs) : x.xl.d.ab < w.heap.size ∧ x.xl.d.wb < w.heap.size ∧ x.xl.d.sb < w.heap.size ∧ x.xl.ub < w.heap.size ∧ x.xl.lb < w.heap.size :=
  ⟨h.st.st.at_.lt0, h.st.st.at_.lt1 h.st.st.n8, h.st.st.at_.lt2 h.st.st.n8, h.st.lt1, h.st.lt0⟩
theorem HG.clt (h : HG W w x al l n ao cap nv c ph kept done fc bk gl qs) : x.b.cb < w.heap.size ∧ x.b.kb < w.heap.size ∧ x.b.mb < w.heap.size ∧ x.b.q < w.heap.size ∧ x.hb < w.heap.size :=
  ⟨World.block_lt_of_cell? w _ h.cb.c0, World.block_lt_of_cell? w _ h.k0, h.mp.lt, h.que.lt, World.block_lt_of_cell? w _ h.h0⟩
theorem HG.nlt (h : HG W w x al l n ao cap nv c ph kept done fc bk gl qs) : ∀ k, nv.ownBlock = some k → k < w.heap.size := fun k hk => by
  rcases h.num.2 with ⟨e, _⟩ | ⟨g, cp, cur, e, _, h3, _⟩
  · rw [e] at hk; cases hk
  · rw [e] at hk
    obtain rfl : g = k := by simpa [Value.ownBlock] using hk
    rcases Nat.lt_or_ge g w.heap.size with hh | hh
    · exact hh
    · rw [Array.getElem?_eq_none hh] at h3; cases h3
/-- What else it has is as it was. -/
theorem HG.re (h : HG W w x al l n ao cap nv c ph kept done fc bk gl qs) (hs : w.heap.size ≤ w'.heap.size) (st : StL W w' x.xl al')
    (kp : ∀ d, d < w.heap.size → c d ≠ 1 → c d ≠ 2 → c d ≠ 13 → c d ≠ 14 → c d ≠ 15 → w'.heap[d]? = w.heap[d]?) (cb : CbAt w' x ph' kept' done') (mp : BkAt w' x.b.mb bk') (que : Gy.QL w' x.b.q qs' gl')
    (hc : ∀ d, d < w.heap.size → c' d = c d) (hq : ∀ d ∈ qs', c' d = 15 ∧ W.heap.size ≤ d) : HG W w' x al' l n ao cap nv c' ph' kept' done' fc bk' gl' qs' := by
  obtain ⟨l1, l2, l3, l4, l5⟩ := h.alt
  obtain ⟨e1, e2, e3, e4, e5⟩ := h.clt
  obtain ⟨a1, a2, a3⟩ := h.a1
  obtain ⟨b1, b2⟩ := h.a2
  obtain ⟨k1, k2, k3, k4⟩ := h.kc
  have kk := kp x.b.kb e2 (by omega) (by omega) (by omega) (by omega) (by omega)
  have kh := kp x.hb e5 (by rw [h.c6]; decide) (by rw [h.c6]; decide) (by rw [h.c6]; decide) (by rw [h.c6]; decide) (by rw [h.c6]; decide)
  exact ⟨st, cb, mp, (World.cell?_of_block (a := ⟨x.b.kb, 0, none⟩) kk).trans h.k0, (World.cell?_of_block (a := ⟨x.b.kb, 2, none⟩) kk).trans h.k2, que,
    h.tab.kept (kp _ h.tab.tlt (by rw [h.c3]; decide) (by rw [h.c3]; decide) (by rw [h.c3]; decide) (by rw [h.c3]; decide) (by rw [h.c3]; decide)) (kp _ h.tab.mlt (by rw [h.c4]; decide) (by rw [h.c4]; decide) (by rw [h.c4]; decide) (by rw [h.c4]; decide) (by rw [h.c4]; decide)) (fun a ha => kp _ (h.tab.aoB a ha).2 (by rw [h.c5 a ha]; decide) (by rw [h.c5 a ha]; decide) (by rw [h.c5 a ha]; decide) (by rw [h.c5 a ha]; decide) (by rw [h.c5 a ha]; decide)),
    (World.cell?_of_block (a := ⟨x.hb, 0, none⟩) kh).trans h.h0, (World.cell?_of_block (a := ⟨x.hb, 1, none⟩) kh).trans h.h1, (World.cell?_of_block (a := ⟨x.hb, 2, none⟩) kh).trans h.h2, (World.cell?_of_block (a := ⟨x.hb, 3, none⟩) kh).trans h.h3, fun i => (World.frozen?_of_block (a := ⟨x.hb, i, none⟩) kh).trans (h.hf i),
    nr_kept h.num (fun q hq => kp q (h.nlt q hq) (by rw [h.c8 q hq]; decide) (by rw [h.c8 q hq]; decide) (by rw [h.c8 q hq]; decide) (by rw [h.c8 q hq]; decide) (by rw [h.c8 q hq]; decide)), h.lmp.kept (kp _ h.lt (by rw [h.c7]; decide) (by rw [h.c7]; decide) (by rw [h.c7]; decide) (by rw [h.c7]; decide) (by rw [h.c7]; decide)),
    h.lo, fun d hd => (hq d hd).2, Nat.lt_of_lt_of_le h.lt hs, ⟨(hc _ l2).trans a1, (hc _ l3).trans a2, (hc _ l4).trans a3⟩, ⟨(hc _ l1).trans b1, (hc _ l5).trans b2⟩, ⟨(hc _ e1).trans k1, (hc _ e2).trans k2, (hc _ e3).trans k3, (hc _ e4).trans k4⟩, fun d hd => (hq d hd).1,
    (hc _ h.tab.tlt).trans h.c3, (hc _ h.tab.mlt).trans h.c4, fun a ha => (hc _ (h.tab.aoB a ha).2).trans (h.c5 a ha), (hc _ e5).trans h.c6, (hc _ h.lt).trans h.c7, fun q hq => (hc _ (h.nlt q hq)).trans (h.c8 q hq)⟩
theorem HG.hq (h : HG W w x al l n ao cap nv c ph kept done fc bk gl qs) : ∀ d ∈ qs, c d = 15 ∧ W.heap.size ≤ d := fun d hd => ⟨h.cq d hd, h.lq d hd⟩
theorem HG.gr (h : HG W w x al l n ao cap nv c ph kept done fc bk gl qs) (g : G w w') : HG W w' x al l n ao cap nv c ph kept done fc bk gl qs :=
  h.re g.size (h.st.G g) (fun d hd _ _ _ _ _ => g.block d hd) (h.cb.kept (g.block _ h.clt.1)) (h.mp.kept (g.block _ h.clt.2.2.1)) (h.que.grown g) (fun _ _ => rfl) h.hq
/-- The arena's rows, the allocator's. -/
theorem HG.turn (h : HG W w x al l n ao cap nv c ph kept done fc bk gl qs) (s : StL W w' x.xl al') (t : TnL w w' x.xl) : HG W w' x al' l n ao cap nv c ph kept done fc bk gl qs := by
  obtain ⟨a1, a2, a3⟩ := h.a1
  obtain ⟨k1, k2, k3, k4⟩ := h.kc
  obtain ⟨e1, e2, e3, e4, e5⟩ := h.clt
  have kp : ∀ d, d < w.heap.size → c d ≠ 1 → w'.heap[d]? = w.heap[d]? := fun d hd n1 => t.block d hd (fun e => n1 (by rw [e]; exact a1)) (fun e => n1 (by rw [e]; exact a2)) (fun e => n1 (by rw [e]; exact a3))
  exact h.re t.size s (fun d hd n1 _ _ _ _ => kp d hd n1) (h.cb.kept (kp _ e1 (by omega))) (h.mp.kept (kp _ e3 (by omega))) (h.que.kept (kp _ e4 (by omega)) (fun d hd => kp d (h.que.ltb d hd) (by rw [h.cq d hd]; decide))) (fun _ _ => rfl) h.hq
/-- A block that is not the arena's is turned: the arena is as it was. -/
theorem HG.stk (h : HG W w x al l n ao cap nv c ph kept done fc bk gl qs) (hb : Below W.heap.size W w') (kp : ∀ d, d < w.heap.size → c d = 1 ∨ c d = 16 → w'.heap[d]? = w.heap[d]?) : StL W w' x.xl al := by
  obtain ⟨a1, a2, a3⟩ := h.a1
  obtain ⟨b1, b2⟩ := h.a2
  obtain ⟨l1, l2, l3, l4, l5⟩ := h.alt
  refine h.st.kept hb fun d hd => ?_
  rcases hd with rfl | rfl | rfl | rfl | rfl
  · exact kp _ l1 (Or.inr b1)
  · exact kp _ l2 (Or.inl a1)
  · exact kp _ l3 (Or.inl a2)
  · exact kp _ l4 (Or.inl a3)
  · exact kp _ l5 (Or.inr b2)
/-- The queue has been turned. -/
theorem HG.queue (h : HG W w x al l n ao cap nv c ph kept done fc bk gl qs) (L : Gy.Left w w' x.b.q qs gl') : ∃ c' qs', (∀ d, d < w.heap.size → c' d = c d) ∧ (∀ d ∈ qs', d ∈ qs ∨ w.heap.size ≤ d) ∧ HG W w' x al l n ao cap nv c' ph kept done fc bk gl' qs' := by
  obtain ⟨qs', Q, t, hn⟩ := L
  obtain ⟨k1, k2, k3, k4⟩ := h.kc
  obtain ⟨e1, e2, e3, e4, e5⟩ := h.clt
  have kp : ∀ d, d < w.heap.size → c d ≠ 14 → c d ≠ 15 → w'.heap[d]? = w.heap[d]? := fun d hd n1 n2 => t.block d hd (fun e => n1 (by rw [e]; exact k4)) (fun e => n2 (h.cq d e))
  have hb : Below W.heap.size W w' := by
    refine Below.trans h.st.below ⟨t.os, t.tape, t.output, t.size, fun d hd => ?_⟩
    have hd' : d < w.heap.size := Nat.lt_of_lt_of_le hd h.st.below.size
    refine t.block d hd' (fun e => ?_) (fun e => ?_)
    · have := h.lo; omega
    · have := h.lq d e; omega
  have cc : ∀ d, d < w.heap.size → (fun d => if w.heap.size ≤ d then 15 else c d) d = c d := fun d hd => if_neg (by omega)
  refine ⟨fun d => if w.heap.size ≤ d then 15 else c d, qs', cc, hn, h.re t.size (h.stk hb fun d hd hc => kp d hd (by omega) (by omega)) (fun d hd _ _ _ n1 n2 => kp d hd n1 n2) (h.cb.kept (kp _ e1 (by omega) (by omega))) (h.mp.kept (kp _ e3 (by omega) (by omega))) Q cc fun d hd => ?_⟩
  rcases hn d hd with e | e
  · exact ⟨(cc d (h.que.ltb d e)).trans (h.cq d e), h.lq d e⟩
  · exact ⟨if_pos e, Nat.le_trans h.st.below.size e⟩
/-- The phase is another. -/
theorem HG.phase (h : HG W w x al l n ao cap nv c ph kept done fc bk gl qs) (p : Int) : HG W (w.setCell ⟨x.b.cb, 4, none⟩ (.int .i64 p)) x al l n ao cap nv c p kept done fc bk gl qs := by
  obtain ⟨k1, k2, k3, k4⟩ := h.kc
  obtain ⟨e1, e2, e3, e4, e5⟩ := h.clt
  have kp : ∀ d, c d ≠ 2 → (w.setCell ⟨x.b.cb, 4, none⟩ (.int .i64 p)).heap[d]? = w.heap[d]? := fun d n2 => Below.heap_setCell _ _ _ _ (by show d ≠ x.b.cb; intro e; exact n2 (by rw [e]; exact k1))
  exact h.re (by rw [World.size_setCell]; exact Nat.le_refl _) (h.stk (h.st.below.setCell h.lo.1 _) fun d _ hc => kp d (by omega)) (fun d _ _ n2 _ _ _ => kp d n2) (h.cb.phase p) (h.mp.kept (kp _ (by omega))) (h.que.kept (kp _ (by omega)) (fun d hd => kp d (by rw [h.cq d hd]; decide))) (fun _ _ => rfl) h.hq
/-- The map of the black ones has been turned. -/
theorem HG.mapped (h : HG W w x al l n ao cap nv c ph kept done fc bk gl qs) (hb : Below W.heap.size W w') (hs : w.heap.size ≤ w'.heap.size) (kp : ∀ d, d < w.heap.size → d ≠ x.b.mb → w'.heap[d]? = w.heap[d]?) (mp : BkAt w' x.b.mb bk') : HG W w' x al l n ao cap nv c ph kept done fc bk' gl qs := by
  obtain ⟨k1, k2, k3, k4⟩ := h.kc
  obtain ⟨e1, e2, e3, e4, e5⟩ := h.clt
  have kp' : ∀ d, d < w.heap.size → c d ≠ 13 → w'.heap[d]? = w.heap[d]? := fun d hd n => kp d hd (fun e => n (by rw [e]; exact k3))
  exact h.re hs (h.stk hb fun d hd hc => kp' d hd (by omega)) (fun d hd _ _ n _ _ => kp' d hd n) (h.cb.kept (kp' _ e1 (by omega))) mp (h.que.kept (kp' _ e4 (by omega)) (fun d hd => kp' d (h.que.ltb d hd) (by rw [h.cq d hd]; decide))) (fun _ _ => rfl) h.hq
/-- While no collection goes on, and none is black. -/
theorem HS.hG (h : HS W w x al l n ao cap nv c) : ∃ c', HG W w x al l n ao cap nv c' 0 64 0 0 [] [] [] := by
  obtain ⟨a1, a2, a3, a4, a5⟩ := h.cA
  obtain ⟨k1, k2, k3, k4⟩ := h.cC
  have hkq : x.b.kb ≠ x.b.q := fun e => by
    obtain ⟨f, cc, hq, _⟩ := h.ks.que
    have h1 := h.ks.k0
    rw [e, hq.c0] at h1
    simp at h1
  obtain ⟨n1, n2, n3⟩ := h.ks.nd
  obtain ⟨n4, n5⟩ := h.ks.nm
  have ap := fun d hd => (h.ks.ap d hd).2
  have p1 := ap x.b.cb (by simp)
  have p2 := ap x.b.mb (by simp)
  have p3 := ap x.b.kb (by simp)
  have p4 := ap x.b.q (by simp)
  have m01 := h.ks.st.st.at_.n01
  have m02 := h.ks.st.st.at_.n02
  have m0 := h.ks.st.n0
  have m1 := h.ks.st.n1
  have m2 := h.ks.st.n2
  have mpx : BkAt w x.b.mb [] := by
    obtain ⟨cl, hcl⟩ := h.ks.mp
    exact ⟨.map [], ⟨#[], cl, hcl, ⟨by simp, stamped_empty cl, by simp⟩, Nat.le_refl _, rfl⟩, fun y _ => by simp [Maps.has]⟩
  obtain ⟨c', hc'⟩ : ∃ c' : Nat → Nat, c' = fun d => if d = x.xl.d.ab ∨ d = x.xl.lb then 16 else if d = x.b.kb then 12 else if d = x.b.mb then 13 else if d = x.b.q then 14 else c d := ⟨_, rfl⟩
  have old : ∀ d, c d ≠ 1 → c d ≠ 2 → c' d = c d := fun d d1 d2 => by
    rw [hc']
    simp only
    rw [if_neg (fun e => by rcases e with e | e <;> rw [e] at d1 <;> omega), if_neg (fun e => by rw [e] at d2; omega), if_neg (fun e => by rw [e] at d2; omega), if_neg (fun e => by rw [e] at d2; omega)]
  have same : ∀ d, d ≠ x.xl.d.ab → d ≠ x.xl.lb → d ≠ x.b.kb → d ≠ x.b.mb → d ≠ x.b.q → c' d = c d := fun d d1 d2 d3 d4 d5 => by
    rw [hc']
    simp only
    rw [if_neg (fun e => by rcases e with e | e; exact d1 e; exact d2 e), if_neg d3, if_neg d4, if_neg d5]
  have e16 : ∀ d, d = x.xl.d.ab ∨ d = x.xl.lb → c' d = 16 := fun d e => by rw [hc']; simp only; rw [if_pos e]
  have e12 : c' x.b.kb = 12 := by rw [hc']; simp only; rw [if_neg (fun e => by rcases e with e | e; exact p3.2.2.2.2.1 e; exact p3.2.2.2.2.2 e), if_pos trivial]
  have e13 : c' x.b.mb = 13 := by rw [hc']; simp only; rw [if_neg (fun e => by rcases e with e | e; exact p2.2.2.2.2.1 e; exact p2.2.2.2.2.2 e), if_neg n4, if_pos trivial]
  have e14 : c' x.b.q = 14 := by rw [hc']; simp only; rw [if_neg (fun e => by rcases e with e | e; exact p4.2.2.2.2.1 e; exact p4.2.2.2.2.2 e), if_neg (Ne.symm hkq), if_neg (Ne.symm n5), if_pos trivial]
  refine ⟨c', h.ks.st, ⟨h.ks.c0, h.ks.c1, h.ks.c2, h.ks.c3, h.ks.c4, h.ks.c5, h.ks.c6, h.ks.c7, h.ks.fz⟩, mpx, h.ks.k0, h.ks.k2, h.ks.que, h.tab, h.h0, h.h1, h.h2, h.h3, h.hf, h.num, h.mp, ⟨p1.1, p3.1, p2.1, p4.1, h.lo.1, h.lo.2⟩, fun d hd => (by cases hd), h.lt, ⟨?_, ?_, ?_⟩, ⟨e16 _ (Or.inl rfl), e16 _ (Or.inr rfl)⟩, ⟨?_, e12, e13, e14⟩, fun d hd => (by cases hd), ?_, ?_, fun a ha => ?_, ?_, ?_, fun k hk => ?_⟩
  · exact (same _ (Ne.symm m01) (Ne.symm m1.1) (Ne.symm p3.2.1) (Ne.symm p2.2.1) (Ne.symm p4.2.1)).trans a2
  · exact (same _ (Ne.symm m02) (Ne.symm m1.2) (Ne.symm p3.2.2.1) (Ne.symm p2.2.2.1) (Ne.symm p4.2.2.1)).trans a3
  · exact (same _ m2.1 (Ne.symm m0) (Ne.symm p3.2.2.2.1) (Ne.symm p2.2.2.2.1) (Ne.symm p4.2.2.2.1)).trans a4
  · exact (same _ p1.2.2.2.2.1 p1.2.2.2.2.2 n2 n1 n3).trans k1
  · exact (old _ (by rw [h.c3]; decide) (by rw [h.c3]; decide)).trans h.c3
  · exact (old _ (by rw [h.c4]; decide) (by rw [h.c4]; decide)).trans h.c4
  · exact (old _ (by rw [h.c5 a ha]; decide) (by rw [h.c5 a ha]; decide)).trans (h.c5 a ha)
  · exact (old _ (by rw [h.c6]; decide) (by rw [h.c6]; decide)).trans h.c6
  · exact (old _ (by rw [h.c7]; decide) (by rw [h.c7]; decide)).trans h.c7
  · exact (old _ (by rw [h.c8 k hk]; decide) (by rw [h.c8 k hk]; decide)).trans (h.c8 k hk)
end
end Go.Proofs.YtdnhmkbdphpjcaaGreatDoor

/- A Heap in memory, whatever its collector does: Shade, Black, Barrier, Left; the view. -/
namespace Go.Proofs.YtdnhmkbdphpjcaaGreatDoor
set_option maxRecDepth 100000
open Go.ChangeShapes Go.WideShapes Go.ChangeAt Go.RowKit Go.Maps Go.ChangeMaps Go.MapKept Go.Deep

theorem keyB : Keyed Tryz.prog 3 := int_keyed Tryz.underlying3
theorem zero_unitB (w : World) : (zeroValue 61).run Tryz.prog w = .ok (.agg #[]) w := by kernel_rfl
/-- What of it changes. -/
structure Gq where
  c : Nat → Nat
  gl : List Int
  qs : List Nat
/-- The blocks that its calls turn. -/
def ownG (x : Hx) (g : Gq) (d : Nat) : Prop := d = x.xl.d.wb ∨ d = x.xl.d.sb ∨ d = x.xl.ub ∨ d = x.b.cb ∨ d = x.b.mb ∨ d = x.b.q ∨ d ∈ g.qs
section
variable {W w w' : World} {x : Hx} {al al' : Al} {l : List Hd.Shp} {n : Nat} {ao : Option Addr} {cap : Nat} {nv : Value} {ph kept done fc : Int} {bk : List Int} {g : Gq}
abbrev HGq (W : World) (x : Hx) (l : List Hd.Shp) (n : Nat) (ao : Option Addr) (cap : Nat) (nv : Value) (ph kept done fc : Int) (bk : List Int) (w : World) (al : Al) (g : Gq) : Prop := HG W w x al l n ao cap nv g.c ph kept done fc bk g.gl g.qs
theorem frg_tn (t : TnL w w' x.xl) : Fr (ownG x g) (ownG x g) w w' := ⟨t.size, fun d hd ho => t.block d hd (fun e => ho (Or.inl e)) (fun e => ho (Or.inr (Or.inl e))) (fun e => ho (Or.inr (Or.inr (Or.inl e)))), fun _ h => Or.inl h⟩
theorem hv_hg (W : World) (x : Hx) (l : List Hd.Shp) (n : Nat) (ao : Option Addr) (cap : Nat) (nv : Value) (ph kept done fc : Int) (bk : List Int) (hf : ∀ s ∈ l, s.m < 18446744073709551616) : HV (HGq W x l n ao cap nv ph kept done fc bk) (ownG x) x.hb x.b.cb x.xl.d.ab l := by
  refine ⟨fun w al _ a h => hb_of (hide h.hB) a, fun w w' al _ h g => h.gr g, fun w al _ h d hd => ?_, fun w al _ h => hb_cycle (hide h.hB), fun w al _ h => b_arena (hide h.hB), fun w al _ a i h => (ls_read (hide h.st) a i).mono fun _ _ hh => ⟨hh.1, hh.2.2⟩, fun w al _ a i v h => (ls_write (hide h.st) a i v).mono fun _ _ hh => ⟨hh.1, h.turn hh.2.1 hh.2.2, frg_tn hh.2.2⟩, hf⟩
  obtain ⟨_, l2, l3, l4, _⟩ := h.alt
  obtain ⟨e1, e2, e3, e4, e5⟩ := h.clt
  rcases hd with rfl | rfl | rfl | rfl | rfl | rfl | hd
  · exact l2
  · exact l3
  · exact l4
  · exact e1
  · exact e3
  · exact e4
  · exact h.que.ltb d hd
/-- Shading, plainly. -/
def shA (al : Al) (y : Int) : Al := ⟨al.a.markA y, al.u⟩
def shG (al : Al) (gl : List Int) (y : Int) : List Int := if al.a.markB y = true then gl ++ [y] else gl
theorem g_shade (h : Hid (HGq W x l n ao cap nv ph kept done fc bk w al g)) (hn : g.gl.length ≤ 900000) (y : Int) : Calls Tryz.prog 72 #[.pointer (some ⟨x.b.kb, 0, none⟩), .int .i64 y] w fun e w' => e = .returned (.bool (al.a.markB y)) ∧ ∃ g2 : Gq, g2.gl = shG al g.gl y ∧ HGq W x l n ao cap nv ph kept done fc bk w' (shA al y) g2 ∧ Fr (ownG x g) (ownG x g2) w w' := by
  have k0 := (unhide h).k0
  have CM : Hid (Calls Tryz.prog 81 #[.pointer (some ⟨x.xl.d.ab, 0, none⟩), .int .i64 y] w fun e w' => e = .returned (.bool (al.a.markB y)) ∧ Hid (HGq W x l n ao cap nv ph kept done fc bk w' (shA al y) g ∧ Fr (ownG x g) (ownG x g) w w')) := hide ((ls_mark (hide (unhide h).st) y).mono fun _ _ hh => ⟨hh.1, hide ⟨(unhide h).turn hh.2.1 hh.2.2, frg_tn hh.2.2⟩⟩)
  have CQ : Hid (∀ y1, HGq W x l n ao cap nv ph kept done fc bk y1 (shA al y) g → Calls Tryz.prog 88 #[.pointer (some ⟨x.b.q, 0, none⟩), .int .i64 y] y1 fun e w' => e = .returned (.tuple #[]) ∧ Hid (∃ g2 : Gq, g2.gl = g.gl ++ [y] ∧ HGq W x l n ao cap nv ph kept done fc bk w' (shA al y) g2 ∧ Fr (ownG x g) (ownG x g2) y1 w')) := hide fun y1 hy => (Gy.q_add hy.que hn y).mono fun _ _ hh => by
    obtain ⟨c', qs', hc, hq, S⟩ := hy.queue hh.2
    obtain ⟨_, _, t, _⟩ := hh.2
    refine ⟨hh.1, hide ⟨⟨c', g.gl ++ [y], qs'⟩, rfl, S, t.size, fun d hd ho => t.block d hd (fun e => ho (Or.inr (Or.inr (Or.inr (Or.inr (Or.inr (Or.inl e))))))) (fun e => ho (Or.inr (Or.inr (Or.inr (Or.inr (Or.inr (Or.inr e))))))), fun d hd => ?_⟩⟩
    rcases hd with e | e | e | e | e | e | e
    · exact Or.inl (Or.inl e)
    · exact Or.inl (Or.inr (Or.inl e))
    · exact Or.inl (Or.inr (Or.inr (Or.inl e)))
    · exact Or.inl (Or.inr (Or.inr (Or.inr (Or.inl e))))
    · exact Or.inl (Or.inr (Or.inr (Or.inr (Or.inr (Or.inl e)))))
    · exact Or.inl (Or.inr (Or.inr (Or.inr (Or.inr (Or.inr (Or.inl e))))))
    · rcases hq d e with e | e
      · exact Or.inl (Or.inr (Or.inr (Or.inr (Or.inr (Or.inr (Or.inr e))))))
      · exact Or.inr e
  have HK : Hid (∀ y1, HGq W x l n ao cap nv ph kept done fc bk y1 (shA al y) g → y1.cell? ⟨x.b.kb, 2, none⟩ = some (.pointer (some ⟨x.b.q, 0, none⟩))) := hide fun y1 hy => hy.k2
  unfold shG
  generalize al.a.markB y = mb at CM ⊢
  clear h hn
  cases mb
  · go_enter Tryz.func72, Tryz.ntmps72
    go_wp2_with fail
    refine (unhide CM).mono ?_
    rintro e w1 ⟨rfl, h1⟩
    clear CM CQ HK
    go_wp2_with fail
    go_ret
    exact ⟨rfl, g, rfl, (unhide h1).1, (unhide h1).2⟩
  · go_enter Tryz.func72, Tryz.ntmps72
    go_wp2_with fail
    refine (unhide CM).mono ?_
    rintro e w1 ⟨rfl, h1⟩
    have k2 := unhide HK w1 (unhide h1).1
    have CQ1 := hide (unhide CQ w1 (unhide h1).1)
    clear CM CQ HK
    go_wp2_with fail
    refine (unhide CQ1).mono ?_
    rintro e w2 ⟨rfl, h2⟩
    clear CQ1
    go_wp2_with fail
    go_ret
    obtain ⟨g2, e2, S2, f2⟩ := unhide h2
    exact ⟨rfl, g2, e2, S2, (unhide h1).2.trans f2⟩
theorem g_black (h : Hid (HGq W x l n ao cap nv ph kept done fc bk w al g)) (i : Int) (hi : wfN i) : Calls Tryz.prog 50 #[.pointer (some ⟨x.b.cb, 0, none⟩), .int .i64 i] w fun e w' => e = .returned (.bool (decide (i ∈ bk))) ∧ G w w' := by
  have c5 := (unhide h).cb.c5
  obtain ⟨D, hD, hh⟩ := (unhide h).mp
  have ow := hide hD
  have hI := hh i hi
  clear hh hD
  go_enter Tryz.func50, Tryz.ntmps50
  go_wp2_with (at_lookup; refine wpList_lookup_own_unit _ rfl _ _ 97 rfl 3 61 keyB Tryz.underlying97 (zero_unitB _) x.b.mb _ D rfl (unhide ow) _ (.int .i64 i) rfl (keyOf_int_mk Tryz.underlying3 hi) ?_; rw [hI])
  go_ret
  exact ⟨rfl, G.alloc _ _⟩
theorem g_shades (h : Hid (HGq W x l n ao cap nv ph kept done fc bk w al g)) : Calls Tryz.prog 48 #[.pointer (some ⟨x.b.cb, 0, none⟩)] w fun e w' => e = .returned (.bool (ph == 1 || ph == 2)) ∧ w' = w := by
  have c4 := (unhide h).cb.c4
  cases h1 : ph == 1
  · go_enter Tryz.func48, Tryz.ntmps48
    go_wp2_with fail
    go_ret
    exact ⟨by simp, rfl⟩
  · go_enter Tryz.func48, Tryz.ntmps48
    go_wp2_with fail
    go_ret
    exact ⟨by simp, rfl⟩
theorem g_marker (h : Hid (HGq W x l n ao cap nv ph kept done fc bk w al g)) : Calls Tryz.prog 27 #[.pointer (some ⟨x.b.cb, 0, none⟩)] w fun e w' => e = .returned (.pointer (some ⟨x.b.kb, 0, none⟩)) ∧ w' = w := by
  have c3 := (unhide h).cb.c3
  go_enter Tryz.func27, Tryz.ntmps27
  go_wp2_with fail
  go_ret
  exact ⟨rfl, rfl⟩
theorem g_left (h : Hid (HGq W x l n ao cap nv ph kept done fc bk w al g)) : Calls Tryz.prog 28 #[.pointer (some ⟨x.b.kb, 0, none⟩)] w fun e w' => e = .returned (.int .i64 (g.gl.length : Int)) ∧ w' = w := by
  have k2 := (unhide h).k2
  have C := hide (Gy.q_len (unhide h).que)
  generalize (g.gl.length : Int) = z at C ⊢
  clear h
  go_enter Tryz.func28, Tryz.ntmps28
  go_wp2_with fail
  refine (unhide C).mono ?_
  rintro e w1 ⟨rfl, hw⟩
  rw [hw]
  clear hw C w1
  go_wp2_with fail
  go_ret
  exact ⟨rfl, rfl⟩
/-- While roots are shaded and things are looked at. -/
def baA (al : Al) (bk : List Int) (old v id : Int) : Al := if id ∈ bk then shA al old else shA (shA al old) v
def baG (al : Al) (bk gl : List Int) (old v id : Int) : List Int := if id ∈ bk then shG al gl old else shG (shA al old) (shG al gl old) v
theorem shG_len (al : Al) (gl : List Int) (y : Int) : (shG al gl y).length ≤ gl.length + 1 := by
  unfold shG
  split
  · rw [List.length_append, List.length_singleton]; exact Nat.le_refl _
  · exact Nat.le_succ _
set_option maxHeartbeats 1000000 in
theorem g_barrier (hp : (ph == 1 || ph == 2) = true) (h : Hid (HGq W x l n ao cap nv ph kept done fc bk w al g)) (hn : g.gl.length ≤ 800000) (old v id : Int) (hi : wfN id) : Calls Tryz.prog 63 #[.pointer (some ⟨x.b.cb, 0, none⟩), .int .i64 old, .int .i64 v, .int .i64 id] w fun e w' => e = .returned (.tuple #[]) ∧ ∃ g2 : Gq, g2.gl = baG al bk g.gl old v id ∧ HGq W x l n ao cap nv ph kept done fc bk w' (baA al bk old v id) g2 ∧ Fr (ownG x g) (ownG x g2) w w' := by
  have CS := hide (g_shades h)
  rw [hp] at CS
  have c3 := (unhide h).cb.c3
  have C1 := hide (g_shade h (by omega) old)
  generalize al.a.markB old = mo at C1
  have C2 : Hid (∀ y1 g1, g1.gl = shG al g.gl old → HGq W x l n ao cap nv ph kept done fc bk y1 (shA al old) g1 → Calls Tryz.prog 50 #[.pointer (some ⟨x.b.cb, 0, none⟩), .int .i64 id] y1 fun e w' => e = .returned (.bool (decide (id ∈ bk))) ∧ Hid (HGq W x l n ao cap nv ph kept done fc bk w' (shA al old) g1 ∧ G y1 w')) := hide fun y1 g1 _ hy => (g_black (hide hy) id hi).mono fun _ _ hh => ⟨hh.1, hide ⟨hy.gr hh.2, hh.2⟩⟩
  have C3 : Hid (∀ y1 g1, g1.gl = shG al g.gl old → HGq W x l n ao cap nv ph kept done fc bk y1 (shA al old) g1 → Calls Tryz.prog 72 #[.pointer (some ⟨x.b.kb, 0, none⟩), .int .i64 v] y1 fun e w' => (∃ r, e = .returned (.bool r)) ∧ Hid (∃ g2 : Gq, g2.gl = shG (shA al old) (shG al g.gl old) v ∧ HGq W x l n ao cap nv ph kept done fc bk w' (shA (shA al old) v) g2 ∧ Fr (ownG x g1) (ownG x g2) y1 w')) := hide fun y1 g1 e1 hy => by
    have := g_shade (hide hy) (by rw [e1]; have := shG_len al g.gl old; omega) v
    rw [e1] at this
    exact this.mono fun _ _ hh => ⟨⟨_, hh.1⟩, hide hh.2⟩
  have HC : Hid (∀ y1 g1, HGq W x l n ao cap nv ph kept done fc bk y1 (shA al old) g1 → y1.cell? ⟨x.b.cb, 3, none⟩ = some (.pointer (some ⟨x.b.kb, 0, none⟩))) := hide fun y1 g1 hy => hy.cb.c3
  by_cases hb : id ∈ bk
  · rw [show baA al bk old v id = shA al old from if_pos hb, show baG al bk g.gl old v id = shG al g.gl old from if_pos hb]
    rw [decide_eq_true hb] at C2
    clear h hn hp C3 HC hb
    go_enter Tryz.func63, Tryz.ntmps63
    go_wp2_with fail
    refine (unhide CS).mono ?_
    rintro e w1 ⟨rfl, hw⟩
    rw [hw]
    clear hw CS w1
    go_wp2_with fail
    refine (unhide C1).mono ?_
    rintro e w2 ⟨rfl, g2, e2, S2, f2⟩
    have K2 := hide (unhide C2 w2 g2 e2 S2)
    have F2 := hide (And.intro e2 f2)
    clear C1 C2 e2 S2 f2
    go_wp2_with fail
    refine (unhide K2).mono ?_
    rintro e w3 ⟨rfl, h3⟩
    clear K2
    go_wp2_with fail
    go_end0
    exact ⟨rfl, g2, (unhide F2).1, (unhide h3).1, (unhide F2).2.g (unhide h3).2⟩
  · rw [show baA al bk old v id = shA (shA al old) v from if_neg hb, show baG al bk g.gl old v id = shG (shA al old) (shG al g.gl old) v from if_neg hb]
    rw [decide_eq_false hb] at C2
    clear h hn hp hb
    go_enter Tryz.func63, Tryz.ntmps63
    go_wp2_with fail
    refine (unhide CS).mono ?_
    rintro e w1 ⟨rfl, hw⟩
    rw [hw]
    clear hw CS w1
    go_wp2_with fail
    refine (unhide C1).mono ?_
    rintro e w2 ⟨rfl, g2, e2, S2, f2⟩
    have K2 := hide (unhide C2 w2 g2 e2 S2)
    have F2 := hide (And.intro e2 f2)
    clear C1 C2 e2 S2 f2
    go_wp2_with fail
    refine (unhide K2).mono ?_
    rintro e w3 ⟨rfl, h3⟩
    have d3 := unhide HC w3 g2 (unhide h3).1
    have K3 := hide (unhide C3 w3 g2 (unhide F2).1 (unhide h3).1)
    clear K2 C3 HC
    go_wp2_with fail
    refine (unhide K3).mono ?_
    rintro e w4 ⟨⟨r4, rfl⟩, h4⟩
    clear K3
    go_wp2_with fail
    go_end0
    obtain ⟨g4, e4, S4, f4⟩ := unhide h4
    exact ⟨rfl, g4, e4, S4, ((unhide F2).2.g (unhide h3).2).trans f4⟩
end
end Go.Proofs.YtdnhmkbdphpjcaaGreatDoor

/- A collection is begun, and its one stack looked at, while nothing is held: Start, Scan with package gantlinelaw15's stacked. -/
namespace Go.Proofs.YtdnhmkbdphpjcaaGreatDoor
set_option maxRecDepth 100000
open Go.ChangeShapes Go.WideShapes Go.ChangeAt Go.RowKit Go.Maps Go.ChangeMaps Go.MapKept Go.Deep

theorem sk_globals (w : World) (p : Option Addr) : Calls Tryz.prog 140 #[.pointer p] w fun e w' => e = .returned (.slice none 0 0) ∧ w' = w := by
  go_enter Tryz.func140, Tryz.ntmps140
  go_wp2_with fail
  go_ret
  exact ⟨rfl, rfl⟩
theorem sk_stack (w : World) (p : Option Addr) (i : Int) : Calls Tryz.prog 141 #[.pointer p, .int .i64 i] w fun e w' => e = .returned (.slice none 0 0) ∧ w' = w := by
  go_enter Tryz.func141, Tryz.ntmps141
  go_wp2_with fail
  go_ret
  exact ⟨rfl, rfl⟩
theorem sk_stacks (w : World) (p : Option Addr) : Calls Tryz.prog 142 #[.pointer p] w fun e w' => e = .returned (.slice (some ⟨w.heap.size, 0, none⟩) 1 1) ∧ w' = w.alloc (.cells #[.int .i64 1] 3) := by
  go_enter Tryz.func142, Tryz.ntmps142
  go_wp2_with fail
  go_ret
  exact ⟨rfl, rfl⟩
theorem idx_one (w : World) (b : Nat) (h : w.cell? ⟨b, 0, none⟩ = some (.int .i64 1)) : Calls Tryz.prog 73 #[.slice (some ⟨b, 0, none⟩) 1 1, .int .i64 1] w fun e w' => e = .returned (.int .i64 0) ∧ w' = w := by
  go_enter Tryz.func73, Tryz.ntmps73
  go_wp2_with fail
  refine wp_loop_rounds 1 ?_
  rw [rounds_succ]
  go_wp2_with fail
  go_ret
  exact ⟨rfl, rfl⟩
theorem has_one (w : World) (b : Nat) (h : w.cell? ⟨b, 0, none⟩ = some (.int .i64 1)) : Calls Tryz.prog 49 #[.slice (some ⟨b, 0, none⟩) 1 1, .int .i64 1] w fun e w' => e = .returned (.bool true) ∧ w' = w := by
  have C := hide (idx_one w b h)
  clear h
  go_enter Tryz.func49, Tryz.ntmps49
  go_wp2_with fail
  refine (unhide C).mono ?_
  rintro e w1 ⟨rfl, hw⟩
  rw [hw]
  clear hw C w1
  go_wp2_with fail
  go_ret
  exact ⟨rfl, rfl⟩
theorem g_shadeAll0 (w : World) (cb : Nat) (ao : Option Addr) (cap : Nat) : Calls Tryz.prog 47 #[.pointer (some ⟨cb, 0, none⟩), .slice ao 0 cap] w fun e w' => e = .returned (.tuple #[]) ∧ w' = w := by
  go_enter Tryz.func47, Tryz.ntmps47
  go_wp2_with fail
  go_loopw [8] (fun c wr => c = .int .i64 0 ∧ Hid (wr = w)) (fun _ _ => 0)
  case atStart => exact ⟨rfl, hide rfl⟩
  case round =>
    obtain ⟨rfl, hw⟩ := hrel
    have hw' := unhide hw
    subst hw'
    go_wp2_with fail
    go_end0
    exact ⟨rfl, rfl⟩
/-- clear of a map. -/
theorem run_clearB {w : World} {mb clock : Nat} {es : Array MapEntry} (hb : w.heap[mb]? = some (.map es clock)) : (Builtin.clear_ #[97] 0 #[.map (some mb)]).run Tryz.prog w = .ok (.tuple #[]) (setBlock w mb (.map #[] clock)) := by
  simp [Builtin.clear_, run_underlying Tryz.underlying97, MapKept.run_getObj_map hb, MapKept.run_setObj_map _ hb, Result.andThen, setBlock]
section
variable {W w w' : World} {x : Hx} {al al' : Al} {l : List Hd.Shp} {n : Nat} {ao : Option Addr} {cap : Nat} {nv : Value} {ph kept done fc : Int} {bk : List Int} {g : Gq}
theorem HG.cleared {c : Nat → Nat} {gl : List Int} {qs : List Nat} {es : Array MapEntry} {cl : Nat} (h : HG W w x al l n ao cap nv c ph kept done fc bk gl qs) (hc : w.heap[x.b.mb]? = some (.map es cl)) : HG W (setBlock w x.b.mb (.map #[] cl)) x al l n ao cap nv c ph kept done fc [] gl qs ∧ Fr (ownG x ⟨c, gl, qs⟩) (ownG x ⟨c, gl, qs⟩) w (setBlock w x.b.mb (.map #[] cl)) := by
  have k : ∀ d, d ≠ x.b.mb → (setBlock w x.b.mb (.map #[] cl)).heap[d]? = w.heap[d]? := fun d hd => heap_setBlock_other hc _ hd
  have hsz : (setBlock w x.b.mb (.map #[] cl)).heap.size = w.heap.size := by unfold setBlock; simp
  have lo := h.lo
  have bl : Below W.heap.size W (setBlock w x.b.mb (.map #[] cl)) := ⟨h.st.below.os, h.st.below.tape, h.st.below.output, by rw [hsz]; exact h.st.below.size, fun d hd => (k d (by omega)).trans (h.st.below.block d hd)⟩
  refine ⟨h.mapped bl (by rw [hsz]; exact Nat.le_refl _) (fun d _ hd => k d hd) ?_, by rw [hsz]; exact Nat.le_refl _, fun d _ ho => k d (fun e => ho (Or.inr (Or.inr (Or.inr (Or.inr (Or.inl e)))))), fun _ h => Or.inl h⟩
  exact ⟨.map [], ⟨#[], cl, heap_setBlock_same hc _, ⟨by simp, stamped_empty cl, by simp⟩, Nat.le_refl _, rfl⟩, fun y _ => by simp [Maps.has]⟩
theorem fr_cb (i : Nat) (v : Value) : Fr (ownG x g) (ownG x g) w (w.setCell ⟨x.b.cb, i, none⟩ v) := ⟨by rw [World.size_setCell]; exact Nat.le_refl _, fun d _ ho => Below.heap_setCell _ _ _ _ (by show d ≠ x.b.cb; intro e; exact ho (Or.inr (Or.inr (Or.inr (Or.inl e))))), fun _ h => Or.inl h⟩
set_option maxHeartbeats 1000000 in
theorem g_start (h : Hid (HGq W x l n ao cap nv 0 kept done fc bk w al g)) (p : Option Addr) : Calls Tryz.prog 25 #[.pointer (some ⟨x.b.cb, 0, none⟩), .iface 60 (.pointer p)] w fun e w' => e = .returned (.bool true) ∧ HGq W x l n ao cap nv 1 kept done fc [] w' ⟨al.a.clear, al.u⟩ g ∧ Fr (ownG x g) (ownG x g) w w' := by
  have c4 := (unhide h).cb.c4
  have c0 := (unhide h).cb.c0
  have C := hide (l_clear (hide (unhide h).st))
  go_enter Tryz.func25, Tryz.ntmps25
  go_wp2_with fail
  refine (unhide C).mono ?_
  rintro r w1 ⟨rfl, s1, t1⟩
  have h1 := (unhide h).turn s1 t1
  have h2 := h1.phase 1
  have d4 := h1.cb.c4
  have f4 := h1.cb.fz 4
  have d5 := h2.cb.c5
  obtain ⟨es, cl, hc⟩ : ∃ es cl, (w1.setCell ⟨x.b.cb, 4, none⟩ (.int .i64 1)).heap[x.b.mb]? = some (.map es cl) := by
    obtain ⟨D, ⟨es, cl, hb, _⟩, _⟩ := h2.mp
    exact ⟨es, cl, hb⟩
  have hrun := run_clearB hc
  obtain ⟨h3, f3⟩ := h2.cleared hc
  have F3 := hide (And.intro h3 ((frg_tn (g := g) t1).trans ((fr_cb 4 (.int .i64 1)).trans f3)))
  obtain ⟨w2, hw2⟩ : ∃ w2, setBlock (w1.setCell ⟨x.b.cb, 4, none⟩ (.int .i64 1)) x.b.mb (.map #[] cl) = w2 := ⟨_, rfl⟩
  rw [hw2] at F3 hrun
  clear C s1 t1 c4 c0 hc hw2 h1 h2 h3 f3
  go_wp2_with fail
  refine (sk_globals _ _).mono ?_
  rintro r w3 ⟨rfl, hw3⟩
  rw [hw3]
  clear hw3 w3
  go_wp2_with fail
  refine (g_shadeAll0 _ _ _ _).mono ?_
  rintro r w4 ⟨rfl, hw4⟩
  rw [hw4]
  clear hw4 w4
  go_wp2_with fail
  go_ret
  exact ⟨rfl, (unhide F3).1, (unhide F3).2⟩
set_option maxHeartbeats 1000000 in
theorem g_blacken (h : Hid (HGq W x l n ao cap nv ph kept done fc bk w al g)) (hk : bk.length ≤ 1000) (p : Option Addr) : Calls Tryz.prog 51 #[.pointer (some ⟨x.b.cb, 0, none⟩), .iface 60 (.pointer p), .int .i64 1] w fun e w' => e = .returned (.tuple #[]) ∧ HGq W x l n ao cap nv ph kept done fc (bk ++ [1]) w' al g ∧ Fr (ownG x g) (ownG x g) w w' := by
  have c5 := (unhide h).cb.c5
  obtain ⟨D, hD, hh⟩ := (unhide h).mp
  have hw1 : wfN 1 := WalkArith.wf_i64 (n := 1) (by decide)
  have hkey : keyOf Tryz.prog 3 (.int .i64 1) = some (.int .i64 1) := keyOf_int_mk Tryz.underlying3 hw1
  have hnm : bk.length < maxLen := by unfold maxLen; omega
  have FIN : Hid (∀ w4, w4.ownsMap (H := Unit) Tryz.prog 3 unitElem x.b.mb (bk.length + 1) (D.put (.int .i64 1) (.agg [])) → w.grownBy w4 (some x.b.mb) → HGq W x l n ao cap nv ph kept done fc (bk ++ [1]) w4 al g ∧ Fr (ownG x g) (ownG x g) w w4) := hide fun w4 m4 g4 => by
    have kp : ∀ d, d < w.heap.size → d ≠ x.b.mb → w4.heap[d]? = w.heap[d]? := fun d hd hne => g4.block d hd (fun e => hne (Option.some.inj e))
    have lo := (unhide h).lo
    have hbl : Below W.heap.size W w4 := Below.trans (unhide h).st.below ⟨g4.os, g4.tape, g4.output, g4.size, fun d hd => kp d (Nat.lt_of_lt_of_le hd (unhide h).st.below.size) (by omega)⟩
    refine ⟨(unhide h).mapped hbl g4.size kp ⟨_, by rw [List.length_append]; exact m4, fun y hy => ?_⟩, g4.size, fun d hd ho => kp d hd (fun e => ho (Or.inr (Or.inr (Or.inr (Or.inr (Or.inl e)))))), fun _ h => Or.inl h⟩
    by_cases e : y = 1
    · subst e
      rw [Maps.has_put_same hD.isMap (keyB.key hkey)]
      simp
    · rw [Maps.has_put_other (by simpa using e), hh y hy]
      simp [e]
  have ow := hide hD
  clear hh hD h hk
  go_enter Tryz.func51, Tryz.ntmps51
  go_wp2_with fail
  refine (sk_stack _ _ _).mono ?_
  rintro r w1 ⟨rfl, hw1'⟩
  rw [hw1']
  clear hw1' w1
  go_wp2_with fail
  refine (g_shadeAll0 _ _ _ _).mono ?_
  rintro r w2 ⟨rfl, hw2⟩
  rw [hw2]
  clear hw2 w2
  go_wp2_with (at_mapUpdate; refine wpList_mapUpdate_own _ rfl _ _ _ 97 rfl 3 61 keyB Tryz.underlying97 (unitElem (H := Unit)) x.b.mb bk.length D rfl (unhide ow) hnm _ _ _ rfl rfl hkey _ [] unitElem_mk ?_; intro w4 hm4 hg4; have S4 := hide (unhide FIN w4 hm4 hg4); clear hm4 hg4 FIN)
  go_end0
  exact ⟨rfl, unhide S4⟩
set_option maxHeartbeats 1000000 in
theorem g_scan (hp : (ph == 1 || ph == 2) = true) (h : Hid (HGq W x l n ao cap nv ph kept done fc bk w al g)) (hb : (1 : Int) ∉ bk) (hk : bk.length ≤ 1000) (p : Option Addr) : Calls Tryz.prog 26 #[.pointer (some ⟨x.b.cb, 0, none⟩), .iface 60 (.pointer p), .int .i64 1] w fun e w' => e = .returned (.bool true) ∧ HGq W x l n ao cap nv ph kept done fc (bk ++ [1]) w' al g ∧ Fr (ownG x g) (ownG x g) w w' := by
  have CS := hide (g_shades h)
  rw [hp] at CS
  obtain ⟨W2, hW2⟩ : ∃ W2, W2 = w.alloc (.cells #[.int .i64 1] 3) := ⟨_, rfl⟩
  have g2 : G w W2 := by rw [hW2]; exact G.alloc _ _
  have q2 : W2.cell? ⟨w.heap.size, 0, none⟩ = some (.int .i64 1) := by rw [hW2]; exact World.cell?_alloc_new _ _ _ 0
  have h2 := hide ((unhide h).gr g2)
  have CH := hide (has_one W2 w.heap.size q2)
  have CB := hide (g_black h2 1 (WalkArith.wf_i64 (n := 1) (by decide)))
  rw [decide_eq_false hb] at CB
  have CK : Hid (∀ y, G W2 y → Calls Tryz.prog 51 #[.pointer (some ⟨x.b.cb, 0, none⟩), .iface 60 (.pointer p), .int .i64 1] y fun e w' => e = .returned (.tuple #[]) ∧ Hid (HGq W x l n ao cap nv ph kept done fc (bk ++ [1]) w' al g ∧ Fr (ownG x g) (ownG x g) w w')) := hide fun y gy => (g_blacken (hide ((unhide h2).gr gy)) hk p).mono fun _ _ hh => ⟨hh.1, hide ⟨hh.2.1, (Fr.of_G (g2.trans gy)).trans hh.2.2⟩⟩
  clear h h2 hb hk hp q2 g2
  go_enter Tryz.func26, Tryz.ntmps26
  go_wp2_with fail
  refine (unhide CS).mono ?_
  rintro r w1 ⟨rfl, hw⟩
  rw [hw]
  clear hw CS w1
  go_wp2_with fail
  refine (sk_stacks _ _).mono ?_
  rintro r w1 ⟨rfl, hw⟩
  rw [hw, ← hW2]
  clear hw w1 hW2
  go_wp2_with fail
  refine (unhide CH).mono ?_
  rintro r w1 ⟨rfl, hw⟩
  rw [hw]
  clear hw CH w1
  go_wp2_with fail
  refine (unhide CB).mono ?_
  rintro r w3 ⟨rfl, g3⟩
  have K3 := hide (unhide CK w3 g3)
  clear CB CK g3
  go_wp2_with fail
  refine (unhide K3).mono ?_
  rintro r w4 ⟨rfl, h4⟩
  clear K3
  go_wp2_with fail
  go_ret
  exact ⟨rfl, unhide h4⟩
end
end Go.Proofs.YtdnhmkbdphpjcaaGreatDoor

/- ChansShades: what the calls come to, and the channel's calls while a collection goes on. -/
namespace Go.Proofs.YtdnhmkbdphpjcaaGreatDoor
set_option maxRecDepth 100000
open Go.ChangeShapes Go.WideShapes Go.ChangeAt Go.RowKit Go.Maps Go.Deep

theorem markA_wd (a : Ab) (y z : Int) : (a.markA y).wd z = a.wd z := by unfold Ab.markA; split <;> rfl
theorem markA_inW (a : Ab) (y p i : Int) : (a.markA y).inW p i = a.inW p i := by unfold Ab.markA; split <;> rfl
theorem ofP_same {al al' : Al} (h1 : ∀ z, al'.a.wd z = al.a.wd z) (h2 : ∀ p i, al'.a.inW p i = al.a.inW p i) (l : List Hd.Shp) (a : Int) : ofP al' l a = ofP al l a := by
  unfold ofP Ab.readE Ab.readV
  simp only [h1, h2]
section
variable {al al' : Al} {l : List Hd.Shp} {a : Int} {R f : Nat} {adr cl : Bool} {q : List Int}
theorem Cz.same (h : Cz al l a R adr) (h1 : ∀ z, al'.a.wd z = al.a.wd z) (h2 : ∀ p i, al'.a.inW p i = al.a.inW p i) : Cz al' l a R adr :=
  ⟨by rw [ofP_same h1 h2]; exact h.of_, fun j hj => (h2 _ _).trans (h.inw j hj), (h1 _).trans h.room, h.r0⟩
theorem Cq.same (h : Cq al.a a R f q cl) (h1 : ∀ z, al'.a.wd z = al.a.wd z) : Cq al'.a a R f q cl :=
  ⟨(h1 _).trans h.cnt, (h1 _).trans h.fst, (h1 _).trans h.shut, h.len, h.fR, h.fl, fun i v hi => (h1 _).trans (h.at_ i v hi)⟩
theorem Cz.sh (h : Cz al l a R adr) (y : Int) : Cz (shA al y) l a R adr := h.same (fun _ => markA_wd _ _ _) fun _ _ => markA_inW _ _ _ _
theorem Cz.ba (h : Cz al l a R adr) (bk : List Int) (o v id : Int) : Cz (baA al bk o v id) l a R adr := by
  unfold baA
  split
  · exact h.sh o
  · exact (h.sh o).sh v
theorem Cz.clr (h : Cz al l a R adr) : Cz ⟨al.a.clear, al.u⟩ l a R adr := h.same (fun _ => rfl) fun _ _ => rfl
theorem Cq.clr (h : Cq al.a a R f q cl) : Cq (⟨al.a.clear, al.u⟩ : Al).a a R f q cl := h.same (al := al) fun _ => rfl
end
/-! ### the law's things -/
def zk (adr : Bool) : Nat := if adr = true then 1 else 0
def zsh (adr : Bool) : Hd.Shp := if adr = true then ⟨3, 0, 1⟩ else ⟨3, 0, 0⟩
def zt1 : Al := ((al0 8).take 7).1
def zq1 (adr : Bool) : Al := ⟨(zt1.a.writeA 64 0 (Hd.pkV 7 3 (zk adr : Int))).writeA 64 1 2, zt1.u⟩
def zt2 (adr : Bool) : Al := ((zq1 adr).take 1).1
def zq2 (adr : Bool) : Al := ⟨(zt2 adr).a.writeA 128 0 (Hd.pkV 1 0 2), (zt2 adr).u⟩
def zt3 (adr : Bool) : Al := ((zq2 adr).take 1).1
def zq3 (adr : Bool) : Al := ⟨(zt3 adr).a.writeA 130 0 (Hd.pkV 1 0 2), (zt3 adr).u⟩
def zq4 (adr : Bool) : Al := ⟨pushB (zq3 adr).a 64 2 0 0 128, (zq3 adr).u⟩
def zq5 (adr : Bool) : Al := ⟨(zq4 adr).a.clear, (zq4 adr).u⟩
theorem z_t1 : ((al0 8).take 7).2 = (64, 0) := by decide +kernel
theorem z_t2 : ∀ b : Bool, ((zq1 b).take 1).2 = (128, 0) := by decide +kernel
theorem z_t3 : ∀ b : Bool, ((zq2 b).take 1).2 = (130, 0) := by decide +kernel
def ofBz (b : Bool) : Option (Int × Int × Int × Hd.Shp) → Bool
  | some (n, k, c, s) => decide (n = 7) && decide (k = 3) && decide (c = (zk b : Int)) && decide (s.k = (zsh b).k) && decide (s.f = (zsh b).f) && decide (s.m = (zsh b).m)
  | none => false
theorem ofBz_eq {b : Bool} : ∀ {o : Option (Int × Int × Int × Hd.Shp)}, ofBz b o = true → o = some (7, 3, (zk b : Int), zsh b)
  | none, h => by cases h
  | some (n, k, c, s), h => by
    simp only [ofBz, Bool.and_eq_true, decide_eq_true_eq] at h
    obtain ⟨⟨⟨⟨⟨rfl, rfl⟩, rfl⟩, h1⟩, h2⟩, h3⟩ := h
    obtain ⟨k, f, m⟩ := s
    have e1 : k = (zsh b).k := h1
    have e2 : f = (zsh b).f := h2
    have e3 : m = (zsh b).m := h3
    subst e1; subst e2; subst e3
    rfl
theorem z_of : ∀ b : Bool, ofBz b (ofP (zq3 b) ls5 64) = true := by decide +kernel
theorem z_in : ∀ b : Bool, ∀ k : Fin 7, (zq3 b).a.inW 64 (k.1 : Int) = true := by decide +kernel
theorem z_wd : ∀ b : Bool, (zq3 b).a.wd (64 + 1) = 2 ∧ (zq3 b).a.wd (64 + 2) = 0 ∧ (zq3 b).a.wd (64 + 3) = 0 ∧ (zq3 b).a.wd (64 + 4) = 0 := by decide +kernel
theorem z_ho : ∀ b : Bool, Hd.holdsB (zsh b).k (zsh b).m 4 6 = b := by decide +kernel
theorem z_cz (b : Bool) : Cz (zq3 b) ls5 64 2 b := ⟨⟨_, _, ofBz_eq (z_of b), z_ho b⟩, fun j hj => z_in b ⟨j, by omega⟩, (z_wd b).1, by decide⟩
theorem z_cq (b : Bool) : Cq (zq3 b).a 64 2 0 [] false := ⟨(z_wd b).2.1, (z_wd b).2.2.1, (z_wd b).2.2.2, by decide, by decide, fun h => h, fun i v hi => by simp at hi⟩
/-- What is grey behind Pop, behind the second Push. -/
def zgp (adr : Bool) (ph : Int) (bk : List Int) (al : Al) : List Int := if adr = true ∧ ph = 1 then baG ⟨al.a.write (64 + (5 + ((0 : Nat) : Int))) 0, al.u⟩ bk [] 128 0 (-1) else []
def zgu (adr : Bool) (ph : Int) (bk : List Int) (al : Al) : List Int := if adr = true ∧ ph = 1 then baG ⟨al.a.write (64 + (5 + ((0 + 1) % 2 : Nat))) 130, al.u⟩ bk [] (al.a.wd (64 + (5 + ((0 + 1) % 2 : Nat)))) 130 1 else []
theorem z_g1 : ∀ b : Bool, (zgp b 0 [] (zq4 b)).length = 0 ∧ (zgp b 1 [] (zq5 b)).length = (if b = true then 1 else 0) ∧ (zgp b 1 [1] (zq5 b)).length = (if b = true then 1 else 0) := by decide +kernel
theorem z_g2 : ∀ b : Bool, (zgu b 0 [] (zq4 b)).length = 0 ∧ (zgu b 1 [] (zq5 b)).length = (if b = true then 1 else 0) ∧ (zgu b 1 [1] (zq5 b)).length = 0 := by decide +kernel
/-- A Heap with the law's channel: what is in it; none is grey. -/
def ZS (W : World) (x : Hx) (ao : Option Addr) (cap : Nat) (nv : Value) (adr : Bool) (ph : Int) (bk : List Int) (al : Al) (w : World) : Prop :=
  ∃ g : Gq, g.gl = [] ∧ HGq W x ls5 3 ao cap nv ph 64 0 0 bk w al g ∧ Cz al ls5 64 2 adr ∧ Cq al.a 64 2 0 [128] false
/-- So many are grey. -/
def ZE (W : World) (x : Hx) (ao : Option Addr) (cap : Nat) (nv : Value) (ph : Int) (bk : List Int) (k : Nat) (w : World) : Prop :=
  ∃ al, ∃ g : Gq, g.gl.length = k ∧ HGq W x ls5 3 ao cap nv ph 64 0 0 bk w al g
section
variable {W w : World} {x : Hx} {ao : Option Addr} {cap : Nat} {nv : Value} {c : Nat → Nat} {adr : Bool} {ph : Int} {bk : List Int} {al : Al}
theorem g_barrier0 {g : Gq} {l : List Hd.Shp} {n : Nat} {kept done fc : Int} (hp : (ph == 1 || ph == 2) = false) (h : Hid (HGq W x l n ao cap nv ph kept done fc bk w al g)) (old v id : Int) : Calls Tryz.prog 63 #[.pointer (some ⟨x.b.cb, 0, none⟩), .int .i64 old, .int .i64 v, .int .i64 id] w fun e w' => e = .returned (.tuple #[]) ∧ w' = w := by
  have CS := hide (g_shades h)
  rw [hp] at CS
  clear h hp
  go_enter Tryz.func63, Tryz.ntmps63
  go_wp2_with fail
  refine (unhide CS).mono ?_
  rintro e w1 ⟨rfl, hw⟩
  rw [hw]
  clear hw CS w1
  go_wp2_with fail
  go_returns
  exact ⟨rfl, rfl⟩
theorem z_make1 (adr : Bool) (h : Hid (HS W w x (al0 8) ls5 3 ao cap nv c)) (rv : Value) : Calls Tryz.prog 11 #[.pointer (some ⟨x.hb, 0, none⟩), .int .i64 (zk adr : Int), .int .i64 2, rv] w fun e w' => e = .returned (.tuple #[.int .i64 64, .int .i64 0, .int .i64 0]) ∧ HS W w' x (zq1 adr) ls5 3 ao cap nv c := by
  have := c_make h (zk adr) (by cases adr <;> decide) (zsh adr) (by cases adr <;> rfl) 2 (by decide) 64 zt1 (hide (trz_of z_t1)) rv
  refine this.mono fun _ _ hh => ⟨hh.1, ?_⟩
  have e : (zsh adr).k = 3 := by cases adr <;> rfl
  have h2 := hh.2.1
  rw [e] at h2
  exact h2
theorem z_make2 (adr : Bool) (h : Hid (HS W w x (zq1 adr) ls5 3 ao cap nv c)) (rv : Value) : Calls Tryz.prog 19 #[.pointer (some ⟨x.hb, 0, none⟩), .int .i64 2, .int .i64 1, rv] w fun e w' => e = .returned (.tuple #[.int .i64 128, .int .i64 0]) ∧ HS W w' x (zq2 adr) ls5 3 ao cap nv c :=
  h_make h 2 (by decide) ⟨0, 0, 0⟩ rfl 1 128 (by decide) (by decide) (zt2 adr) (hide (trz_of (z_t2 adr))) rv
theorem z_make3 (adr : Bool) (h : Hid (HS W w x (zq2 adr) ls5 3 ao cap nv c)) (rv : Value) : Calls Tryz.prog 19 #[.pointer (some ⟨x.hb, 0, none⟩), .int .i64 2, .int .i64 1, rv] w fun e w' => e = .returned (.tuple #[.int .i64 130, .int .i64 0]) ∧ HS W w' x (zq3 adr) ls5 3 ao cap nv c :=
  h_make h 2 (by decide) ⟨0, 0, 0⟩ rfl 1 130 (by decide) (by decide) (zt3 adr) (hide (trz_of (z_t3 adr))) rv
theorem z_push1 (adr : Bool) (h : Hid (HS W w x (zq3 adr) ls5 3 ao cap nv c)) : Calls Tryz.prog 13 #[.pointer (some ⟨x.hb, 0, none⟩), .int .i64 64, .int .i64 128, .int .i64 1] w fun e w' => e = .returned (.bool true) ∧ ZS W x ao cap nv adr 0 [] (zq4 adr) w' := by
  refine (c_push (hide (hv_hs W x ls5 3 ao cap nv c ls5_m)) (g := ()) h (z_cz adr) (z_cq adr) (by decide) 128 1 _ (fun _ => True) (fun _ => bar_hs W x ls5 3 ao cap nv c _ _ _ _) (fun _ => ⟨rfl, trivial⟩) ((z_cz adr).write (by decide) (by decide))).mono ?_
  rintro e w' ⟨he, g2, _, S2, _⟩
  obtain ⟨c', G2⟩ := S2.hG
  exact ⟨he, ⟨c', [], []⟩, rfl, G2, (z_cz adr).push 0 128, (z_cq adr).push (by decide) 128⟩
theorem z_start (adr : Bool) (h : Hid (ZS W x ao cap nv adr 0 [] (zq4 adr) w)) (p : Option Addr) : Calls Tryz.prog 25 #[.pointer (some ⟨x.b.cb, 0, none⟩), .iface 60 (.pointer p)] w fun e w' => e = .returned (.bool true) ∧ ZS W x ao cap nv adr 1 [] (zq5 adr) w' := by
  obtain ⟨g, eg, S, C, Q⟩ := unhide h
  exact (g_start (hide S) p).mono fun _ _ hh => ⟨hh.1, g, eg, hh.2.1, C.clr, Q.clr⟩
theorem z_scan (adr : Bool) (h : Hid (ZS W x ao cap nv adr 1 [] (zq5 adr) w)) (p : Option Addr) : Calls Tryz.prog 26 #[.pointer (some ⟨x.b.cb, 0, none⟩), .iface 60 (.pointer p), .int .i64 1] w fun e w' => e = .returned (.bool true) ∧ ZS W x ao cap nv adr 1 [1] (zq5 adr) w' := by
  obtain ⟨g, eg, S, C, Q⟩ := unhide h
  exact (g_scan rfl (hide S) (by simp) (by simp) p).mono fun _ _ hh => ⟨hh.1, g, eg, hh.2.1, C, Q⟩
theorem z_cycle (h : Hid (ZS W x ao cap nv adr ph bk al w)) : Calls Tryz.prog 20 #[.pointer (some ⟨x.hb, 0, none⟩)] w fun e w' => e = .returned (.pointer (some ⟨x.b.cb, 0, none⟩)) ∧ w' = w := by
  obtain ⟨g, eg, S, C, Q⟩ := unhide h
  exact hb_cycle (hide S.hB)
theorem bar_zs (hp : ph = 0 ∨ ph = 1) {g : Gq} (hg : g.gl = []) (al : Al) (old v id : Int) (hi : wfN id) : BarC (HGq W x ls5 3 ao cap nv ph 64 0 0 bk) (ownG x) x.b.cb al g old v id (if ph = 1 then baA al bk old v id else al) (fun g2 => g2.gl = if ph = 1 then baG al bk [] old v id else []) := by
  intro y hy
  rcases hp with rfl | rfl
  · refine (g_barrier0 rfl (hide hy) old v id).mono fun _ _ hh => ⟨hh.1, g, by rw [if_neg (by decide)]; exact hg, ?_, ?_⟩
    · rw [hh.2, if_neg (by decide)]; exact hy
    · rw [hh.2]; exact Fr.of_G (G.refl _)
  · refine (g_barrier rfl (hide hy) (by rw [hg]; decide) old v id hi).mono ?_
    rintro e w' ⟨he, g2, e2, S2, f2⟩
    rw [hg] at e2
    exact ⟨he, g2, by rw [if_pos rfl]; exact e2, by rw [if_pos rfl]; exact S2, f2⟩
theorem z_pop (hp : ph = 0 ∨ ph = 1) (h : Hid (ZS W x ao cap nv adr ph bk al w)) (k : Nat) (hk : (zgp adr ph bk al).length = k) : Calls Tryz.prog 12 #[.pointer (some ⟨x.hb, 0, none⟩), .int .i64 64] w fun e w' => e = .returned (.tuple #[.int .i64 128, .bool true]) ∧ ZE W x ao cap nv ph bk k w' := by
  obtain ⟨g, eg, S, C, Q⟩ := unhide h
  have H := hide (hv_hg W x ls5 3 ao cap nv ph 64 0 0 bk ls5_m)
  subst hk
  have C1 : Cz ⟨al.a.write (64 + (5 + ((0 : Nat) : Int))) 0, al.u⟩ ls5 64 2 adr := C.write (by decide) (by decide)
  cases adr
  · refine (c_pop H (hide S) C Q _ (fun g2 => g2.gl = []) (fun e => by cases e) (fun _ => ⟨rfl, eg⟩) C1).mono ?_
    rintro e w' ⟨he, g2, e2, S2, _⟩
    exact ⟨he, _, g2, by rw [e2]; rfl, S2⟩
  · refine (c_pop H (hide S) C Q _ _ (fun _ => bar_zs hp eg _ _ _ _ (WalkArith.wf_i64 (n := -1) (by decide))) (fun e => by cases e) ?_).mono ?_
    · split
      · exact C1.ba _ _ _ _
      · exact C1
    · rintro e w' ⟨he, g2, e2, S2, _⟩
      refine ⟨he, _, g2, ?_, S2⟩
      rw [e2]
      unfold zgp
      rcases hp with rfl | rfl <;> rfl
theorem z_push2 (hp : ph = 0 ∨ ph = 1) (h : Hid (ZS W x ao cap nv adr ph bk al w)) (k : Nat) (hk : (zgu adr ph bk al).length = k) : Calls Tryz.prog 13 #[.pointer (some ⟨x.hb, 0, none⟩), .int .i64 64, .int .i64 130, .int .i64 1] w fun e w' => e = .returned (.bool true) ∧ ZE W x ao cap nv ph bk k w' := by
  obtain ⟨g, eg, S, C, Q⟩ := unhide h
  have H := hide (hv_hg W x ls5 3 ao cap nv ph 64 0 0 bk ls5_m)
  subst hk
  have C1 : Cz ⟨al.a.write (64 + (5 + ((0 + 1) % 2 : Nat))) 130, al.u⟩ ls5 64 2 adr := C.write (by decide) (by decide)
  cases adr
  · refine (c_push H (hide S) C Q (by decide) 130 1 _ (fun g2 => g2.gl = []) (fun e => by cases e) (fun _ => ⟨rfl, eg⟩) C1).mono ?_
    rintro e w' ⟨he, g2, e2, S2, _⟩
    exact ⟨he, _, g2, by rw [e2]; rfl, S2⟩
  · refine (c_push H (hide S) C Q (by decide) 130 1 _ _ (fun _ => bar_zs hp eg _ _ _ _ (WalkArith.wf_i64 (n := 1) (by decide))) (fun e => by cases e) ?_).mono ?_
    · split
      · exact C1.ba _ _ _ _
      · exact C1
    · rintro e w' ⟨he, g2, e2, S2, _⟩
      refine ⟨he, _, g2, ?_, S2⟩
      rw [e2]
      unfold zgu
      rcases hp with rfl | rfl <;> rfl
theorem z_marker {k : Nat} (h : Hid (ZE W x ao cap nv ph bk k w)) : Calls Tryz.prog 27 #[.pointer (some ⟨x.b.cb, 0, none⟩)] w fun e w' => e = .returned (.pointer (some ⟨x.b.kb, 0, none⟩)) ∧ w' = w := by
  obtain ⟨al, g, eg, S⟩ := unhide h
  exact g_marker (hide S)
theorem z_left {k : Nat} (h : Hid (ZE W x ao cap nv ph bk k w)) : Calls Tryz.prog 28 #[.pointer (some ⟨x.b.kb, 0, none⟩)] w fun e w' => e = .returned (.int .i64 (k : Int)) ∧ w' = w := by
  obtain ⟨al, g, eg, S⟩ := unhide h
  subst eg
  exact g_left (hide S)
theorem ZE.below {k : Nat} (h : ZE W x ao cap nv ph bk k w) : Below W.heap.size W w := by
  obtain ⟨al, g, eg, S⟩ := h
  exact S.st.below
end
end Go.Proofs.YtdnhmkbdphpjcaaGreatDoor
