/- Package fresh: what is known behind an instruction's node. -/
import Derived.Test.YtiangegoglfpeaaDoorFrBeh
namespace Go.Proofs.YtiangegoglfpeaaDoor
set_option maxRecDepth 100000
open Go.RowKit Go.Maps Go.ChangeShapes Go.WideShapes Go.ChangeAt Go.Deep

theorem dec_t (L t : Nat) (h : t < L) : L - (intOf (.int .i64 ((t + 1 : Nat) : Int))).toNat < L - (intOf (.int .i64 (t : Int))).toNat := by
  show L - ((t + 1 : Nat) : Int).toNat < L - (t : Int).toNat
  omega
theorem getD_bd {l : List Nat} (h : ∀ x ∈ l, x < 18446744073709551616) (i : Nat) : l.getD i 0 < 18446744073709551616 := by
  rw [List.getD_eq_getElem?_getD]
  cases e : l[i]? with
  | none => decide
  | some z => exact h z (List.mem_of_getElem? e)
set_option maxHeartbeats 2000000 in
theorem behind_in {W0 : World} {M : Nat → Prop} {B gB ab wb N : Nat} {z : Gk} {m : Md} {f : Fn} {S R : List Nat} {w : World} {s : FSt} {P : Nat → Nat} {qv : Value} (st : StA W0 z m f S R) (h : GI W0 M B gB ab wb N (gC z m f ab wb N) w s P qv) (n : Nat) (k : Kn) (hn : n < N) (ha : s.A.getD n none = some k) (i : In) (hin : f.is[n]? = some i) :
    Calls Tryd.prog 37 #[.pointer (some ⟨gB, 0, none⟩), .int .i64 (n : Int)] w fun e w' => e = .returned (.agg (knC (bhP m f S R n k)).toArray) ∧ G w w' := by
  have hlt : n < f.is.length := (List.getElem?_eq_some_iff.1 hin).1
  have eb : bhP m f S R n k = if i.op = 41 then selK S R (covP m.ca.length i.a i.b) (k.pass m i) else k.pass m i := by unfold bhP; rw [hin]
  rw [eb]
  have GC := hide (gc_cells h.q.s)
  obtain ⟨_, _, _, _, _, _, _, _, _, _, _, c11, _, _, _, _, c16, _⟩ := unhide GC
  obtain ⟨ca, kj, _⟩ := h.a1 n k hn ha
  have okI := st.oi i (List.mem_of_getElem? hin)
  obtain ⟨ib, io, eio, hic⟩ := rowI_get st.hi n i hin
  have CO : Hid (∀ x, Calls Tryd.prog 52 #[agT m.ca.length z.ao z.ac z.sb (2 * m.ca.length) z.s2 z.rb (2 * m.ca.length) z.r2, agI i] x (FTo x (covP m.ca.length i.a i.b))) := hide fun x => cover_any x m.ca.length z.ao z.ac z.sb (2 * m.ca.length) z.s2 z.rb (2 * m.ca.length) z.r2 i okI.2.1 okI.2.2.1 st.nc
  have CV := covP_mem m.ca.length i.a i.b
  have CVL : (covP m.ca.length i.a i.b).length ≤ 5000000 := by
    have hc := st.nc
    unfold covP
    split
    · simp
    · have := cov_len (2 * m.ca.length + 1) (m.ca.length + i.a.toNat) (m.ca.length + i.a.toNat + i.b.toNat) []
      simp at this
      omega
  generalize covP m.ca.length i.a i.b = cov at CO CV CVL ⊢
  have PA : Hid (∀ X b1, G W0 X → W0.heap.size ≤ b1 → KnAt X b1 k → Calls Tryd.prog 51 #[.pointer (some ⟨b1, 0, none⟩), agM m z.so z.sc z.go z.gc z.co z.cc z.ao z.ac z.fo z.fc, agI i] X fun e w' => e = .returned (.tuple #[]) ∧ KnAt w' b1 (k.pass m i) ∧ TrD X w' (· = b1)) := hide fun X b1 g hb hk => pass_any ⟨g, hb, st.ht, st.hw, Nat.le_trans st.two hb⟩ hk m z.so z.sc z.go z.gc z.co z.cc z.ao z.ac z.fo z.fc st.hm st.nc i okI
  have okp := kj.ok.pass m i
  generalize k.pass m i = kp at PA okp ⊢
  obtain ⟨ks, hks⟩ : ∃ ks, selK S R cov kp = ks := ⟨_, rfl⟩
  rw [hks]
  replace hks := hide hks
  have G0 := h.g
  have hnI : (n : Int) < (N : Int) := by omega
  have hn0 : (0 : Int) ≤ (n : Int) := by omega
  have hlI : (n : Int) < (f.is.length : Int) := by omega
  have hge : ¬ (f.is.length : Int) ≤ (n : Int) := by omega
  have hd : decide ((f.is.length : Int) ≤ (n : Int)) = false := decide_eq_false hge
  obtain ⟨op, A, Bb, Cc, Dd⟩ := i
  simp only at *
  rw [eio] at c11
  replace hic := hide hic
  replace kj := hide kj
  replace st := hide st
  replace okp := hide okp
  replace okI := hide okI
  replace G0 := hide G0
  have HR : Hid (∀ x, G w x → GI W0 M B gB ab wb N (gC z m f ab wb N) x s P qv) := hide fun x g => h.keep g
  replace h := hide h
  replace CV := hide CV
  clear ha eb hin eio hn hlt
  generalize f.is.length = L at c11 hge hd hlI
  go_enter Tryd.func37, Tryd.ntmps37
  go_upto_region 1 with (refine wpl_alk rfl rfl ?_; intro w1 g1 k1 z1; replace g1 := hide g1; replace k1 := hide k1; replace z1 := hide z1)
  try simp only [Act.put, List.setIfInBounds_toArray, List.set_cons_zero, List.set_cons_succ]
  have d16 := (unhide g1).cell c16
  have da := (unhide g1).cell ca
  have j1 := hide ((unhide kj).g (unhide g1))
  clear c16 ca
  go_upto_region 2 with (first
    | (refine wpl_ldk rfl (.tmp 16) rfl (P n) k rfl (unhide j1) ?_)
    | (refine wpl_alk rfl rfl ?_; intro w2 g2 k2 z2; replace g2 := hide g2; replace k2 := hide k2; replace z2 := hide z2)
    | (refine wpl_stk rfl (.tmp 5) (.tmp 17) rfl w1.heap.size Kn.zero k rfl rfl (unhide k2) (unhide j1).ok ?_; intro w3 k3 t3 z3; replace k3 := hide k3; replace t3 := hide t3; replace z3 := hide z3))
  try simp only [Act.put, List.setIfInBounds_toArray, List.set_cons_zero, List.set_cons_succ]
  have g13 : G w1 w3 := new_g (unhide g2) (unhide t3)
  have gg : Hid (G w w3) := hide ((unhide g1).trans g13)
  have e11 := g13.cell ((unhide g1).cell c11)
  have kk := hide ((unhide k1).g g13)
  obtain ⟨x0, x1, x2, x3, x4⟩ := unhide hic w3 ((unhide G0).trans (unhide gg))
  have hb1 : Hid (w.heap.size < w1.heap.size ∧ w1.heap.size < w3.heap.size) := hide ⟨by rw [unhide z1]; omega, by rw [unhide z3, unhide z2]; omega⟩
  clear d16 da j1 c11 g2 k2 z2 t3 z3 g13 kj z1
  go_upto_region 5 with fail
  obtain ⟨w4, hw4⟩ : ∃ x, x = w3.alloc (.cells #[.int .i64 op, .int .i64 A, .int .i64 Bb, .int .i64 Cc, .int .i64 Dd] 37) := ⟨_, rfl⟩
  have g34 : G w3 w4 := by rw [hw4]; exact G.alloc _ _
  have BX : ∀ (j : Nat) (v : Value), (#[.int .i64 op, .int .i64 A, .int .i64 Bb, .int .i64 Cc, .int .i64 Dd] : Array Value)[j]? = some v → w4.cell? ⟨w3.heap.size, j, none⟩ = some v := fun j v hv => by
    rw [hw4, cell_of_row _ _ _ _ _ _ (heap_alloc_new w3 _)]; exact hv
  rw [← hw4]
  have sz4 : Hid (w4.heap.size = w3.heap.size + 1) := hide (by rw [hw4, World.size_alloc])
  have y0 := BX 0 _ rfl
  have y1 := BX 1 _ rfl
  have y2 := BX 2 _ rfl
  have y3 := BX 3 _ rfl
  have y4 := BX 4 _ rfl
  have g04 := (unhide gg).trans g34
  obtain ⟨q0, q1, q2, q3, q4, q5, _⟩ := unhide GC
  replace q0 := g04.cell q0
  replace q1 := g04.cell q1
  replace q2 := g04.cell q2
  replace q3 := g04.cell q3
  replace q4 := g04.cell q4
  replace q5 := g04.cell q5
  have k4 := hide ((unhide k3).g g34)
  have CPw : Hid (∀ x, G w4 x → Calls Tryd.prog 51 #[.pointer (some ⟨w1.heap.size, 0, none⟩), agM m z.so z.sc z.go z.gc z.co z.cc z.ao z.ac z.fo z.fc, agI ⟨op, A, Bb, Cc, Dd⟩] x fun e w' => e = .returned (.tuple #[]) ∧ KnAt w' w1.heap.size kp ∧ TrD w4 w' (· = w1.heap.size)) := hide fun x g => (unhide PA x w1.heap.size ((unhide G0).trans (g04.trans g)) (Nat.le_trans (unhide G0).size (Nat.le_of_lt (unhide hb1).1)) ((unhide k4).g g)).mono fun _ _ r => ⟨r.1, r.2.1, (TrD.of_G _ g).trans r.2.2⟩
  have REST : Hid (∀ x, TrD w4 x (· = w1.heap.size) → G w x ∧ KnAt x w.heap.size Kn.zero ∧ (∀ (j : Nat) (v : Value), (#[.int .i64 op, .int .i64 A, .int .i64 Bb, .int .i64 Cc, .int .i64 Dd] : Array Value)[j]? = some v → x.cell? ⟨w3.heap.size, j, none⟩ = some v)) := hide fun x t => ⟨⟨t.os.trans g04.os, t.tape.trans g04.tape, t.output.trans g04.output, Nat.le_trans g04.size t.size, fun b hb => (t.block b (Nat.lt_of_lt_of_le hb g04.size) (by have := (unhide hb1).1; omega)).trans (g04.block b hb)⟩, ((unhide kk).g g34).tr t (by have := (unhide hb1).1; omega), fun j v hv => t.cell (BX j v hv) (show ¬ w3.heap.size = w1.heap.size by have := (unhide hb1).2; omega)⟩
  replace g34 := hide g34
  replace g04 := hide g04
  clear hw4 BX x0 x1 x2 x3 x4 e11 PA kk k3 k1
  go_cut [] (fun wx => Hid (KnAt wx w1.heap.size kp ∧ TrD w4 wx (· = w1.heap.size)))
  case first =>
    go_region_with (refine (unhide CPw _ (by first | exact G.refl _ | exact (G.refl _).drew | exact (G.refl _).drew.drew)).mono ?_; rintro e w5 ⟨rfl, r5⟩; replace r5 := hide r5)
    all_goals
      go_wp2_with fail
      go_meet
      exact r5
  case rest =>
    obtain ⟨gc, kz, BX⟩ := unhide REST wc (unhide hcut).2
    have y0 := BX 0 _ rfl
    have y1 := BX 1 _ rfl
    have y2 := BX 2 _ rfl
    have y3 := BX 3 _ rfl
    have y4 := BX 4 _ rfl
    replace kz := hide kz
    replace gc := hide gc
    clear CPw q0 q1 q2 q3 q4 q5 k4 BX
    by_cases h41 : op = 41
    · subst h41
      obtain ⟨_, _, _, _, _, _, _, _, _, _, _, _, _, q13, q14, q15, _⟩ := unhide GC
      replace q13 := (unhide gc).cell q13
      replace q14 := (unhide gc).cell q14
      replace q15 := (unhide gc).cell q15
      have COw : Hid (∀ x, G wc x → Calls Tryd.prog 52 #[agT m.ca.length z.ao z.ac z.sb (2 * m.ca.length) z.s2 z.rb (2 * m.ca.length) z.r2, agI ⟨41, A, Bb, Cc, Dd⟩] x fun e w' => ∃ v, e = .returned v ∧ (∃ ao c, v = .slice ao cov.length c) ∧ NwL wc.heap.size w' v cov ∧ G wc w') := hide fun x g => (unhide CO x).mono fun _ _ r => by
        obtain ⟨v, h1, h2, h3⟩ := r
        obtain ⟨ao, c, e, _⟩ := h2.1
        exact ⟨v, h1, ⟨ao, c, e⟩, h2.mono g.size, g.trans h3⟩
      have NX : Hid (∀ x v, NwL wc.heap.size x v cov ∧ G wc x → KnAt x w1.heap.size kp ∧ G w x ∧ KnAt x w.heap.size Kn.zero ∧ x.cell? ⟨gB, 14, none⟩ = some (.slice z.sb (2 * m.ca.length) z.s2) ∧ x.cell? ⟨gB, 15, none⟩ = some (.slice z.rb (2 * m.ca.length) z.r2) ∧ NwL (w1.heap.size + 1) x v cov) := hide fun x v r => ⟨(unhide hcut).1.g r.2, (unhide gc).trans r.2, (unhide kz).g r.2, r.2.cell q14, r.2.cell q15, r.1.mono (unhide hcut).1.lt⟩
      go_upto_region 7 with fail
      go_cut [49, 50, 51] (fun v49 v50 v51 wx => ∃ ao c, v49 = .slice ao cov.length c ∧ v50 = .int .i64 (cov.length : Int) ∧ v51 = .int .i64 0 ∧ Hid (KnAt wx w1.heap.size kp ∧ G w wx ∧ KnAt wx w.heap.size Kn.zero ∧ wx.cell? ⟨gB, 14, none⟩ = some (.slice z.sb (2 * m.ca.length) z.s2) ∧ wx.cell? ⟨gB, 15, none⟩ = some (.slice z.rb (2 * m.ca.length) z.r2) ∧ NwL (w1.heap.size + 1) wx (.slice ao cov.length c) cov))
      case first =>
        go_region_with (refine (unhide COw _ (by first | exact G.refl _ | exact (G.refl _).drew | exact (G.refl _).drew.drew)).mono ?_; rintro e w6 ⟨v, rfl, ⟨ao6, c6, rfl⟩, i6, g6⟩; have r6 := hide (unhide NX w6 _ ⟨i6, g6⟩); clear i6 g6)
        all_goals
          go_wp2_with fail
          go_meet
          exact ⟨_, _, rfl, rfl, rfl, r6⟩
      case rest =>
        obtain ⟨lo, lc, rfl, rfl, rfl, HC⟩ := hcut
        clear NX COw q13 q14 q15 kz gc y0 y1 y2 y3 y4
        obtain ⟨kw, gw, kz, q14, q15, nw⟩ := unhide HC
        obtain ⟨ao', c', e', _, hget⟩ := nw.1.get
        injection e' with e1 _ e3
        subst e1 e3
        have gne : ¬ gB = w1.heap.size := by have h8 : gB < w.heap.size := World.block_lt_of_cell? w _ (unhide GC).1; have := (unhide hb1).1; omega
        have gz : G W0 wc := (unhide G0).trans gw
        have RS : Hid (∀ (t : Nat) (wr : World), t < cov.length → TrD wc wr (· = w1.heap.size) → ∃ (b off x : Nat), lo = some ⟨b, off, none⟩ ∧ wr.cell? ⟨b, off + t, none⟩ = some (.int .i64 (x : Int)) ∧ x < 2 * m.ca.length ∧ (∃ b2 o2, z.sb = some ⟨b2, o2, none⟩ ∧ wr.cell? ⟨b2, o2 + x, none⟩ = some (.int .u64 ((S.getD x 0 : Nat) : Int))) ∧ (∃ b2 o2, z.rb = some ⟨b2, o2, none⟩ ∧ ∀ wq, TrD wc wq (· = w1.heap.size) → wq.cell? ⟨b2, o2 + x, none⟩ = some (.int .u64 ((R.getD x 0 : Nat) : Int))) ∧ wr.cell? ⟨gB, 14, none⟩ = some (.slice z.sb (2 * m.ca.length) z.s2) ∧ (∀ wq, TrD wc wq (· = w1.heap.size) → wq.cell? ⟨gB, 15, none⟩ = some (.slice z.rb (2 * m.ca.length) z.r2)) ∧ (∀ k0, selK S R (cov.take (t + 1)) k0 = ((selK S R (cov.take t) k0).hand (S.getD x 0)).forget (R.getD x 0))) := hide fun t wr ht tr => by
          obtain ⟨b, off, a, e, ha, hx⟩ := hget t ht
          obtain ⟨a1, a2⟩ := unhide CV a (List.mem_of_getElem? ha)
          obtain ⟨x, rfl⟩ : ∃ x : Nat, a = x := ⟨a.toNat, by omega⟩
          have hxl : x < 2 * m.ca.length := by omega
          have hbl : w1.heap.size + 1 ≤ b := nw.2 ⟨b, off, none⟩ _ _ (by rw [e])
          obtain ⟨b2, o2, es, hs⟩ := rowU_get (unhide st).hs x hxl
          obtain ⟨b3, o3, er, hr⟩ := rowU_get (unhide st).hr x hxl
          have lows : ∀ (bb oo : Nat) (v : Value), W0.cell? ⟨bb, oo, none⟩ = some v → ¬ bb = w1.heap.size := fun bb oo v hv e => by have := World.block_lt_of_cell? W0 _ hv; have := (unhide G0).size; have := (unhide hb1).1; simp at *; omega
          refine ⟨b, off, x, e, tr.cell (hx wc (G.refl _)) (show ¬ b = w1.heap.size by omega), hxl, ⟨b2, o2, es, tr.cell (hs wc gz) (lows b2 _ _ (hs W0 (G.refl _)))⟩, ⟨b3, o3, er, fun wq tq => tq.cell (hr wc gz) (lows b3 _ _ (hr W0 (G.refl _)))⟩, tr.cell q14 gne, fun wq tq => tq.cell q15 gne, fun k0 => ?_⟩
          rw [List.take_add_one, ha]
          exact sel_snoc S R (cov.take t) (x : Int) k0
        have FX : Hid (∀ wr, KnAt wr w1.heap.size (selK S R cov kp) ∧ TrD wc wr (· = w1.heap.size) → G w wr ∧ KnAt wr w.heap.size Kn.zero) := hide fun wr r => ⟨⟨r.2.os.trans gw.os, r.2.tape.trans gw.tape, r.2.output.trans gw.output, Nat.le_trans gw.size r.2.size, fun b hb => (r.2.block b (Nat.lt_of_lt_of_le hb gw.size) (by have := (unhide hb1).1; omega)).trans (gw.block b hb)⟩, kz.tr r.2 (by have := (unhide hb1).1; omega)⟩
        have FG : Hid (∀ (wr : World) (u : Nat) (kk : Kn), u < 18446744073709551616 → KnAt wr w1.heap.size kk → TrD wc wr (· = w1.heap.size) → Calls Tryd.prog 54 #[.pointer (some ⟨w1.heap.size, 0, none⟩), .int .u64 (u : Int)] wr fun e w' => e = .returned (.tuple #[]) ∧ KnAt w' w1.heap.size (kk.forget u) ∧ TrD wr w' (· = w1.heap.size)) := hide fun wr u kk hu hk tr => by
          have g0 : G W0 wr := ⟨tr.os.trans gz.os, tr.tape.trans gz.tape, tr.output.trans gz.output, Nat.le_trans gz.size tr.size, fun b hb => (tr.block b (Nat.lt_of_lt_of_le hb gz.size) (by have := (unhide hb1).1; have := (unhide G0).size; omega)).trans (gz.block b hb)⟩
          exact forget_any hk u hu ((unhide st).ht.g g0) (by have := (unhide st).two; have := (unhide hb1).1; have := (unhide G0).size; omega)
        have J0 : Hid (KnAt wc w1.heap.size (selK S R (cov.take 0) kp) ∧ TrD wc wc (· = w1.heap.size)) := hide ⟨kw, TrD.refl _ _⟩
        have SB : Hid (∀ x, S.getD x 0 < 18446744073709551616 ∧ R.getD x 0 < 18446744073709551616) := hide fun x => ⟨getD_bd (unhide st).hso x, getD_bd (unhide st).hro x⟩
        obtain ⟨Lc, hLc⟩ : ∃ Lc, cov.length = Lc := ⟨_, rfl⟩
        have FT : Hid (cov.take Lc = cov) := hide (by rw [← hLc]; exact List.take_of_length_le (Nat.le_refl _))
        rw [hLc] at RS CVL ⊢
        clear hget nw q14 q15 gz gw kw kz HC hLc
        replace CVL := hide CVL
        go_wp2_with fail
        go_loopw [51] (fun v51 wr => ∃ t : Nat, t ≤ Lc ∧ v51 = .int .i64 t ∧ Hid (KnAt wr w1.heap.size (selK S R (cov.take t) kp) ∧ TrD wc wr (· = w1.heap.size))) (fun v51 _ => Lc - (intOf v51).toNat)
        case atStart => exact ⟨0, Nat.zero_le _, rfl, J0⟩
        case round =>
          obtain ⟨t, ht, rfl, HW⟩ := hrel
          clear J0
          by_cases hlt : t < Lc
          · obtain ⟨b, off, x, rfl, cx, hxl, ⟨b2, o2, es, cs⟩, ⟨b3, o3, er, cr⟩, c14, c15, ek⟩ := unhide RS t wr hlt (unhide HW).2
            rw [es] at c14
            rw [er] at c15
            have CH := hide (hand_any (unhide HW).1 (S.getD x 0) (unhide SB x).1)
            have hxI : (x : Int) < ((2 * m.ca.length : Nat) : Int) := by omega
            have hx0 : (0 : Int) ≤ (x : Int) := by omega
            have htI : (t : Int) < (Lc : Int) := by omega
            have ht0 : (0 : Int) ≤ (t : Int) := by omega
            have wt : wrap64 ((t : Int) + 1) = ((t + 1 : Nat) : Int) := by have := unhide CVL; unfold wrap64; omega
            replace cr := hide cr
            replace c15 := hide c15
            replace ek := hide ek
            have hsr := unhide SB x
            generalize S.getD x 0 = u1 at cs CH ek hsr
            generalize R.getD x 0 = u2 at cr ek hsr
            obtain ⟨n2, hn2⟩ : ∃ n2, 2 * m.ca.length = n2 := ⟨_, rfl⟩
            rw [hn2] at c14 c15 hxI
            clear RS FX hxl
            go_wp2_with fail
            refine (unhide CH).mono ?_
            rintro e w7 ⟨rfl, k7, t7⟩
            have tt := (unhide HW).2.trans t7
            have e15 := unhide c15 w7 tt
            have er7 := unhide cr w7 tt
            have CF := hide (unhide FG w7 u2 _ hsr.2 k7 tt)
            replace tt := hide tt
            replace k7 := hide k7
            replace t7 := hide t7
            clear CH c14 cs cx
            go_wp2_with fail
            refine (unhide CF).mono ?_
            rintro e w8 ⟨rfl, k8, t8⟩
            have NW : Hid (KnAt w8 w1.heap.size (selK S R (cov.take (t + 1)) kp) ∧ TrD wc w8 (· = w1.heap.size)) := hide ⟨by rw [unhide ek kp]; exact k8, (unhide tt).trans t8⟩
            replace k8 := hide k8
            replace t8 := hide t8
            clear CF e15 er7 HW k7 t7 tt
            go_wp2_with fail
            go_roundw
            case rel => exact ⟨t + 1, Nat.succ_le_of_lt hlt, by rw [wt], NW⟩
            case measure =>
              rw [wt]
              exact dec_t Lc t hlt
          · obtain rfl : t = Lc := Nat.le_antisymm ht (Nat.le_of_not_lt hlt)
            have HX := unhide HW
            rw [unhide FT] at HX
            obtain ⟨gf, kf⟩ := unhide FX wr HX
            rw [unhide hks] at HX
            have kx := hide HX.1
            replace gf := hide gf
            replace kf := hide kf
            have hltI : ¬ (t : Int) < (t : Int) := Int.lt_irrefl _
            clear HW HX RS FX FG
            go_upto_region 13 with fail
            clear hltI ht hlt hd hge hlI hnI hn0 FT SB CV CVL hks GC HR h okp okI G0 st REST CO g1 hic hb1 sz4 gg g04 g34
            refine wp_region_list ?_
            refine wpl_ldk rfl (.tmp 5) rfl w1.heap.size ks rfl (unhide kx) ?_
            simp only [Act.put, List.setIfInBounds_toArray, List.set_cons_zero, List.set_cons_succ]
            refine wpl_stk rfl (.tmp 4) (.tmp 74) rfl w.heap.size Kn.zero ks rfl rfl (unhide kf) (unhide kx).ok ?_
            intro w9 k9 t9 z9
            replace k9 := hide k9
            replace t9 := hide t9
            replace z9 := hide z9
            clear kx kf
            go_wp2_with fail
            refine bodyPost_ret (res_known rfl _ _ _ _ rfl (unhide k9)) rfl ?_
            exact ⟨rfl, new_g (unhide gf) (unhide t9)⟩
    · have h41b : (op == 41) = false := beq_eq_false_iff_ne.2 h41
      go_wp2_with (first
        | (refine wpl_ldk rfl (.tmp 5) rfl w1.heap.size kp rfl (unhide hcut).1 ?_)
        | (refine wpl_stk rfl (.tmp 4) (.tmp 74) rfl w.heap.size Kn.zero kp rfl rfl (unhide kz) (unhide okp) ?_; intro w9 k9 t9 z9; replace k9 := hide k9; replace t9 := hide t9; replace z9 := hide z9))
      refine bodyPost_ret (res_known rfl _ _ _ _ rfl (unhide k9)) rfl ?_
      exact ⟨rfl, new_g (unhide gc) (unhide t9)⟩
end Go.Proofs.YtiangegoglfpeaaDoor
