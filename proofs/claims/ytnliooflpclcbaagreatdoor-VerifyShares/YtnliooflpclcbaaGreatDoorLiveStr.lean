/- stretchNode of package live. -/
import Derived.Test.YtnliooflpclcbaaGreatDoorLiveStP
import Derived.Test.YtnliooflpclcbaaGreatDoorLiveInts
namespace Go.Proofs.YtnliooflpclcbaaGreatDoor
set_option maxRecDepth 100000
open Go.RowKit Go.Maps Go.ChangeShapes Go.WideShapes Go.ChangeAt Go.Deep

/-- A graph's module and function, as they lie in its box. -/
def hdV (m : Md) (so : Option Addr) (sc : Nat) (go : Option Addr) (gc : Nat) (co : Option Addr) (cc : Nat) (ao : Option Addr) (ac : Nat) (fo : Option Addr) (fc : Nat) (f : Fn) (ko : Option Addr) (kc : Nat) (io : Option Addr) (ic : Nat) (mo : Option Addr) (mc : Nat) : List Value :=
  [.slice so m.sh.length sc, .slice go m.gl.length gc, .slice co m.co.length cc, .slice ao m.ca.length ac, .slice fo m.fn.length fc, .int .i64 m.main, .int .i64 f.p, .int .i64 f.c, .int .i64 f.s, .int .i64 f.r, .slice ko f.ks.length kc, .slice io f.is.length ic, .slice mo f.ms.length mc]
def StTo (B gB mb rb n0 : Nat) (hd : List Value) (m : Md) (w : World) (ns : List Nd) (l : List Sc) (E : List Nat) (s : Sc) (e : Ending) (w' : World) : Prop :=
  ∃ rb' cap' ns' l' q, e = .returned (.int .i64 ((n0 + q : Nat) : Int)) ∧ GX w' B gB mb rb' cap' n0 hd ns' l' E ∧ Tg w w' gB mb rb rb' ∧ StOK m n0 ns' l' ∧ StMore s.2 ns l ns' l' ∧ l'[q]? = some s ∧ l'.length ≤ l.length + ndN s.2
def StC (W : World) (gB mb n0 : Nat) (hd : List Value) (m : Md) (c : Nat) : Prop :=
  ∀ (w : World) (rb cap : Nat) (ns : List Nd) (l : List Sc) (E : List Nat) (a : Nat), GX w W.heap.size gB mb rb cap n0 hd ns l E → G W w → (∀ b ∈ E, b < w.heap.size) → StOK m n0 ns l → 1 ≤ c → a + c ≤ m.ca.length → n0 + l.length + ndN c ≤ 1000000 →
    Calls Tryz.prog 58 #[.pointer (some ⟨gB, 0, none⟩), .agg #[.int .i64 (a : Int), .int .i64 (c : Int)]] w (StTo W.heap.size gB mb rb n0 hd m w ns l E (a, c))
theorem idx_get {l : List Sc} {s : Sc} (h : s ∈ l) : l[l.idxOf s]? = some s := by
  have h1 := List.idxOf_lt_length_of_mem h
  rw [List.getElem?_eq_getElem h1, List.getElem_idxOf]
set_option maxHeartbeats 1000000 in
theorem stretch_old (w W : World) (gB mb rb cap n0 : Nat) (hd : List Value) (m : Md) (ns : List Nd) (l : List Sc) (E : List Nat) (a c : Nat) (H : GX w W.heap.size gB mb rb cap n0 hd ns l E) (HO : StOK m n0 ns l) (hac : a + c ≤ 1000000) (hm : (a, c) ∈ l) :
    Calls Tryz.prog 58 #[.pointer (some ⟨gB, 0, none⟩), .agg #[.int .i64 (a : Int), .int .i64 (c : Int)]] w (StTo W.heap.size gB mb rb n0 hd m w ns l E (a, c)) := by
  obtain ⟨W1, hW1⟩ : ∃ W1, W1 = w.alloc (.cells #[.int .i64 (a : Int), .int .i64 (c : Int)] 110) := ⟨_, rfl⟩
  have g1 : G w W1 := by rw [hW1]; exact G.alloc _ _
  have H1 := H.g g1
  obtain ⟨_, c14, _⟩ := H1.cells
  have hl : ∀ k, (Instr.lookup 59 (.map (some mb)) (.agg #[.int .i64 (a : Int), .int .i64 (c : Int)]) true).run Tryz.prog (W1.drewN k) = .ok (.tuple #[.int .i64 ((n0 + l.idxOf (a, c) : Nat) : Int), .bool true]) (W1.drewN k) := fun k => by
    have := (H1.g (G.drewN W1 k)).look (a, c) ⟨by show a ≤ 10000000; omega, by show c ≤ 10000000; omega⟩
    rw [if_pos hm, decide_eq_true hm] at this
    exact this
  have K : Hid (∀ k, StTo W.heap.size gB mb rb n0 hd m w ns l E (a, c) (.returned (.int .i64 ((n0 + l.idxOf (a, c) : Nat) : Int))) (W1.drewN k)) := hide fun k =>
    ⟨rb, cap, ns, l, l.idxOf (a, c), rfl, H1.g (G.drewN W1 k), Tg.of_G (g1.trans (G.drewN W1 k)), HO, StMore.refl _ _ _, idx_get hm, by omega⟩
  obtain ⟨V, hV⟩ : ∃ V : Int, V = ((n0 + l.idxOf (a, c) : Nat) : Int) := ⟨_, rfl⟩
  rw [← hV] at hl K
  have s0 : W1.cell? ⟨w.heap.size, 0, none⟩ = some (.int .i64 (a : Int)) := by rw [hW1]; simp [go_sem]
  have s1 : W1.cell? ⟨w.heap.size, 1, none⟩ = some (.int .i64 (c : Int)) := by rw [hW1]; simp [go_sem]
  clear H H1 HO g1 hm hV
  go_enter Tryz.func58, Tryz.ntmps58
  go_upto_region 1 with fail
  rw [← hW1]
  clear hW1
  go_quiet (fail)
  go_wp2_with fail
  refine bodyPost_ret (by simp [results, Tryz.results58, go_sem]; try rfl) rfl ?_
  exact unhide K _
/-- What is known where the new node is ready. -/
structure StI (W w wx : World) (gB mb rb n0 : Nat) (hd : List Value) (m : Md) (ns : List Nd) (l : List Sc) (E : List Nat) (a c nB rb1 cap1 : Nat) (ns1 : List Nd) (l1 : List Sc) (xo : Option Addr) (xn xc : Nat) (n : Nd) : Prop where
  gx : GX wx W.heap.size gB mb rb1 cap1 n0 hd ns1 l1 (E ++ [w.heap.size, nB])
  tg : Tg w wx gB mb rb rb1
  ok : StOK m n0 ns1 l1
  mo : StMore c ns l ns1 l1
  ni : (a, c) ∉ l1
  ln : l1.length + 1 ≤ l.length + ndN c
  nd : StNd m n0 l1 l1.length (a, c) n
  z : IsZ (Pz gB mb rb1 (E ++ [w.heap.size, nB])) wx (.slice xo xn xc) n.2.2
  s0 : wx.cell? ⟨w.heap.size, 0, none⟩ = some (.int .i64 (a : Int))
  s1 : wx.cell? ⟨w.heap.size, 1, none⟩ = some (.int .i64 (c : Int))
  c0 : wx.cell? ⟨nB, 0, none⟩ = some (.int .u64 (n.1 : Int))
  c1 : wx.cell? ⟨nB, 1, none⟩ = some (.int .u64 (n.2.1 : Int))
  c2 : wx.cell? ⟨nB, 2, none⟩ = some (.slice xo xn xc)
  sb : w.heap.size ≠ rb1
  nb : nB ≠ rb1
--<NEW
theorem GX.setN {w : World} {B gB mb rb cap n0 : Nat} {hd : List Value} {ns : List Nd} {l : List Sc} {E : List Nat} (h : GX w B gB mb rb cap n0 hd ns l E) (b o : Nat) (vs : List Value) (hb : b ∈ E) (h1 : b ≠ gB) (h2 : b ≠ mb) (h3 : b ≠ rb) : GX (setN w b o vs) B gB mb rb cap n0 hd ns l E :=
  h.move (setN_heap _ _ _ _ _ (fun e => h1 e.symm)) (setN_heap _ _ _ _ _ (fun e => h2 e.symm)) (setN_heap _ _ _ _ _ (fun e => h3 e.symm)) (by rw [setN_size]; exact Nat.le_refl _) (fun k _ hk => ⟨setN_heap _ _ _ _ _ (fun e => hk (Or.inr (Or.inr (Or.inr (by rw [e]; exact hb))))), fun hm => hk (Or.inr (Or.inr (Or.inr hm)))⟩)
theorem setN_os : ∀ (vs : List Value) (w : World) (b o : Nat), (setN w b o vs).os = w.os ∧ (setN w b o vs).tape = w.tape ∧ (setN w b o vs).output = w.output
  | [], _, _, _ => ⟨rfl, rfl, rfl⟩
  | _ :: vs, _, b, o => setN_os vs _ b (o + 1)
theorem Tg.setN {w w' : World} {gB mb rb rb' : Nat} (h : Tg w w' gB mb rb rb') (b o : Nat) (vs : List Value) (hb : w.heap.size ≤ b) : Tg w (setN w' b o vs) gB mb rb rb' :=
  ⟨(setN_os vs w' b o).1.trans h.os, (setN_os vs w' b o).2.1.trans h.tape, (setN_os vs w' b o).2.2.trans h.output, by rw [setN_size]; exact h.size, fun k h1 h2 h3 h4 => (setN_heap _ _ _ _ _ (by omega)).trans (h.block k h1 h2 h3 h4), h.lies⟩
theorem IsZ.setN {gB mb rb : Nat} {E : List Nat} {w : World} {v : Value} {l : List Int} (h : IsZ (Pz gB mb rb E) w v l) (b o : Nat) (vs : List Value) (hb : b ∈ E) : IsZ (Pz gB mb rb E) (setN w b o vs) v l :=
  h.move (by rw [setN_size]; exact Nat.le_refl _) (fun k _ hk => ⟨setN_heap _ _ _ _ _ (fun e => hk (Or.inr (Or.inr (Or.inr (by rw [e]; exact hb))))), hk⟩)
set_option maxHeartbeats 4000000 in
theorem stretch_new (CN : CaseC) (w W : World) (gB mb rb cap n0 : Nat) (m : Md) (so : Option Addr) (sc : Nat) (go : Option Addr) (gc : Nat) (co : Option Addr) (cc : Nat) (ao : Option Addr) (ac : Nat) (fo : Option Addr) (fc : Nat) (f : Fn) (ko : Option Addr) (kc : Nat) (io : Option Addr) (ic : Nat) (mo : Option Addr) (mc : Nat)
    (r4 : RowAt elCa W ao m.ca.length ac m.ca) (oc : ∀ s ∈ m.ca, oCa s) (hcl : m.ca.length ≤ 1000000) (hn0 : n0 = f.is.length) (ns : List Nd) (l : List Sc) (E : List Nat) (a c : Nat) (IH : ∀ c', c' < c → StC W gB mb n0 (hdV m so sc go gc co cc ao ac fo fc f ko kc io ic mo mc) m c')
    (H : GX w W.heap.size gB mb rb cap n0 (hdV m so sc go gc co cc ao ac fo fc f ko kc io ic mo mc) ns l E) (gW : G W w) (hE : ∀ b ∈ E, b < w.heap.size) (HO : StOK m n0 ns l) (h1 : 1 ≤ c) (hac : a + c ≤ m.ca.length) (hN : n0 + l.length + ndN c ≤ 1000000) (hm : (a, c) ∉ l) :
    Calls Tryz.prog 58 #[.pointer (some ⟨gB, 0, none⟩), .agg #[.int .i64 (a : Int), .int .i64 (c : Int)]] w (StTo W.heap.size gB mb rb n0 (hdV m so sc go gc co cc ao ac fo fc f ko kc io ic mo mc) m w ns l E (a, c)) := by
  obtain ⟨hd, hhd⟩ : ∃ hd, hd = (hdV m so sc go gc co cc ao ac fo fc f ko kc io ic mo mc) := ⟨_, rfl⟩
  rw [← hhd] at IH H ⊢
  obtain ⟨W1, hW1⟩ : ∃ W1, W1 = w.alloc (.cells #[.int .i64 (a : Int), .int .i64 (c : Int)] 110) := ⟨_, rfl⟩
  have g1 : G w W1 := by rw [hW1]; exact G.alloc _ _
  have H1 := H.g g1
  obtain ⟨_, c14, _⟩ := H1.cells
  have hl : ∀ k, (Instr.lookup 59 (.map (some mb)) (.agg #[.int .i64 (a : Int), .int .i64 (c : Int)]) true).run Tryz.prog (W1.drewN k) = .ok (.tuple #[.int .i64 0, .bool false]) (W1.drewN k) := fun k => by
    have := (H1.g (G.drewN W1 k)).look (a, c) ⟨by show a ≤ 10000000; omega, by show c ≤ 10000000; omega⟩
    rw [if_neg hm, decide_eq_false hm] at this
    exact this
  have s0 : W1.cell? ⟨w.heap.size, 0, none⟩ = some (.int .i64 (a : Int)) := by rw [hW1]; simp [go_sem]
  have s1 : W1.cell? ⟨w.heap.size, 1, none⟩ = some (.int .i64 (c : Int)) := by rw [hW1]; simp [go_sem]
  have hs1 : W1.heap.size = w.heap.size + 1 := by rw [hW1]; exact World.size_alloc _ _
  have hgl := H.gl
  have hml := H.ml
  have hrl := H.rl
  replace H := hide H
  replace HO := hide HO
  replace gW := hide gW
  replace hN := hide hN
  replace hE := hide hE
  replace IH := hide IH
  replace oc := hide oc
  replace r4 := hide r4
  replace g1 := hide g1
  replace hs1 := hide hs1
  replace hm := hide hm
  replace hcl := hide hcl
  replace hac := hide hac
  replace hn0 := hide hn0
  replace hhd := hide hhd
  replace hgl := hide hgl
  replace hml := hide hml
  replace hrl := hide hrl
  replace CN := hide CN
  clear H1
  go_enter Tryz.func58, Tryz.ntmps58
  go_upto_region 1 with fail
  rw [← hW1]
  clear hW1
  go_quiet (fail)
  go_upto_region 5 with fail
  obtain ⟨W2, hW2⟩ : ∃ W2, W2 = (W1.drewN nq).alloc (.cells #[.int .u64 0, .int .u64 0, .slice none 0 0] 57) := ⟨_, rfl⟩
  have g2 : G W1 W2 := by rw [hW2]; exact (G.drewN W1 nq).more _
  have hs2 : W2.heap.size = W1.heap.size + 1 := by rw [hW2]; exact World.size_alloc _ _
  have t0 := g2.cell s0
  have t1 := g2.cell s1
  have hnew : ((W1.drewN nq).alloc (.cells #[.int .u64 0, .int .u64 0, .slice none 0 0] 57)).heap[W1.heap.size]? = some (.cells #[.int .u64 0, .int .u64 0, .slice none 0 0] 57) := heap_alloc_new (W1.drewN nq) _
  have NZ : Hid (∀ x, G W2 x → (x.cell? ⟨W1.heap.size, 0, none⟩ = some (.int .u64 0) ∧ x.frozen? ⟨W1.heap.size, 0, none⟩ = false) ∧ (x.cell? ⟨W1.heap.size, 1, none⟩ = some (.int .u64 0) ∧ x.frozen? ⟨W1.heap.size, 1, none⟩ = false) ∧ (x.cell? ⟨W1.heap.size, 2, none⟩ = some (.slice none 0 0) ∧ x.frozen? ⟨W1.heap.size, 2, none⟩ = false)) := hide fun x g => ⟨⟨g.cell (by rw [hW2, cell_of_row _ W1.heap.size _ _ _ _ hnew]; rfl), (World.frozen?_of_block (g.block W1.heap.size (by omega))).trans (by rw [hW2]; unfold World.frozen?; rw [hnew]; simp)⟩, ⟨g.cell (by rw [hW2, cell_of_row _ W1.heap.size _ _ _ _ hnew]; rfl), (World.frozen?_of_block (g.block W1.heap.size (by omega))).trans (by rw [hW2]; unfold World.frozen?; rw [hnew]; simp)⟩, ⟨g.cell (by rw [hW2, cell_of_row _ W1.heap.size _ _ _ _ hnew]; rfl), (World.frozen?_of_block (g.block W1.heap.size (by omega))).trans (by rw [hW2]; unfold World.frozen?; rw [hnew]; simp)⟩⟩
  clear hnew
  obtain ⟨nB, hnB⟩ : ∃ nB, nB = W1.heap.size := ⟨_, rfl⟩
  rw [← hnB] at NZ
  have H2 := hide ((unhide H).more ((unhide g1).trans g2) [w.heap.size, nB] (fun b hb => by have := unhide hs1; simp at hb; omega))
  replace g2 := hide g2
  replace hs2 := hide hs2
  rw [← hW2, ← hnB]
  replace hnB := hide hnB
  clear hW2 c14 hl
  go_upto_if 25 with fail
  go_cut [7] (fun q wx => q = .pointer (some ⟨nB, 0, none⟩) ∧ ∃ rb1 cap1 ns1 l1 xo xn xc n, Hid (StI W w wx gB mb rb n0 hd m ns l E a c nB rb1 cap1 ns1 l1 xo xn xc n))
  case first =>
    by_cases hc1 : c = 1
    · subst hc1
      have hca : a < m.ca.length := by have := unhide hac; omega
      obtain ⟨b, off, s, cs, rfl, hs, ecs, hcs⟩ := row_get (unhide r4) hca
      have ecs : cs = [.int .i64 s.k, .int .i64 s.c, .int .i64 s.v, .int .i64 s.t] := ecs
      subst ecs
      have hcellsH := (unhide H).cells.2.2.2
      have hhd2 := unhide hhd
      have KP : Hid (∀ x, G W1 x → G W1 x ∧ x.cell? ⟨gB, 3, none⟩ = some (.slice (some ⟨b, off, none⟩) m.ca.length ac) ∧ x.cell? ⟨w.heap.size, 0, none⟩ = some (.int .i64 (a : Int)) ∧ x.cell? ⟨b, off + a * 4, none⟩ = some (.int .i64 s.k) ∧ x.cell? ⟨b, off + a * 4 + 1, none⟩ = some (.int .i64 s.c) ∧ x.cell? ⟨b, off + a * 4 + 2, none⟩ = some (.int .i64 s.v) ∧ x.cell? ⟨b, off + a * 4 + 3, none⟩ = some (.int .i64 s.t)) := hide fun x g => by
        have gx := (unhide g1).trans g
        have gy := (unhide gW).trans gx
        exact ⟨g, gx.cell (hcellsH 3 _ (by rw [hhd2]; rfl)), g.cell s0, hcs x gy 0 _ rfl, hcs x gy 1 _ rfl, hcs x gy 2 _ rfl, hcs x gy 3 _ rfl⟩
      have CK : Hid (∀ x, G W1 x → Calls Tryz.prog 73 #[.pointer (some ⟨gB, 0, none⟩), .agg #[.int .i64 s.k, .int .i64 s.c, .int .i64 s.v, .int .i64 s.t]] x (NdTo x (caseNd n0 s).1 (caseNd n0 s).2.1 (caseNd n0 s).2.2)) := hide fun x g => by
        have gx := (unhide g1).trans g
        have := unhide CN x gB f ko kc io ic mo mc (gx.cell (hcellsH 6 _ (by rw [hhd2]; rfl))) (gx.cell (hcellsH 7 _ (by rw [hhd2]; rfl))) (gx.cell (hcellsH 8 _ (by rw [hhd2]; rfl))) (gx.cell (hcellsH 9 _ (by rw [hhd2]; rfl))) (gx.cell (hcellsH 10 _ (by rw [hhd2]; rfl))) (gx.cell (hcellsH 11 _ (by rw [hhd2]; rfl))) (gx.cell (hcellsH 12 _ (by rw [hhd2]; rfl))) s.k s.c s.v s.t (unhide oc s (List.mem_of_getElem? hs))
        rw [← unhide hn0] at this
        exact this
      have FIN : Hid (∀ y y1 xo xn xc, G W2 y → NwL y.heap.size y1 (.slice xo xn xc) (caseNd n0 s).2.2 → G y y1 → G W1 (setN y1 nB 0 [.int .u64 ((caseNd n0 s).1 : Int), .int .u64 ((caseNd n0 s).2.1 : Int), .slice xo xn xc]) ∧ StI W w (setN y1 nB 0 [.int .u64 ((caseNd n0 s).1 : Int), .int .u64 ((caseNd n0 s).2.1 : Int), .slice xo xn xc]) gB mb rb n0 hd m ns l E a 1 nB rb cap ns l xo xn xc (caseNd n0 s)) := hide fun y y1 xo xn xc gy hnw gy1 => by
        have e1 := unhide hs1
        have e2 := unhide hs2
        have e3 := unhide hnB
        have e4 := unhide hgl
        have e5 := unhide hml
        have e6 := unhide hrl
        have gz := gy.trans gy1
        have gzs := gz.size
        obtain ⟨⟨z0, _⟩, ⟨z1, _⟩, ⟨z2, _⟩⟩ := unhide NZ y1 gz
        have hcell : ∀ i, i < 3 → (y1.cell? ⟨nB, 0 + i, none⟩).isSome = true := fun i hi => by
          match i, hi with
          | 0, _ => rw [Nat.zero_add, z0]; rfl
          | 1, _ => rw [Nat.zero_add, z1]; rfl
          | 2, _ => rw [Nat.zero_add, z2]; rfl
        have gW1 : G W1 (setN y1 nB 0 [.int .u64 ((caseNd n0 s).1 : Int), .int .u64 ((caseNd n0 s).2.1 : Int), .slice xo xn xc]) := setN_G _ (by omega) _ _ _ ((unhide g2).trans gz)
        refine ⟨gW1, ⟨((unhide H2).g gz).setN nB 0 _ (by simp) (by omega) (by omega) (by omega), Tg.of_G (setN_G _ (by omega) _ _ _ ((unhide g1).trans ((unhide g2).trans gz))), unhide HO, StMore.refl _ _ _, unhide hm, by have := ndN_pos 1; omega, ⟨Nat.le_refl _, unhide hac, Or.inl ⟨rfl, s, hs, rfl⟩⟩, ?_, gW1.cell s0, gW1.cell s1, setN_in _ _ _ 0 0 _ rfl hcell, setN_in _ _ _ 0 1 _ rfl hcell, setN_in _ _ _ 0 2 _ rfl hcell, by omega, by omega⟩⟩
        refine (nwl_isz hnw (fun b hb => ?_)).setN nB 0 _ (by simp)
        have e7 := gy.size
        rcases hb with hb | hb | hb | hb
        · omega
        · omega
        · omega
        · rcases List.mem_append.1 hb with hb | hb
          · have := unhide hE b hb; omega
          · simp at hb; omega
      obtain ⟨A1, hA1⟩ : ∃ A1, A1 = (caseNd n0 s).1 := ⟨_, rfl⟩
      obtain ⟨A2, hA2⟩ : ∃ A2, A2 = (caseNd n0 s).2.1 := ⟨_, rfl⟩
      obtain ⟨A3, hA3⟩ : ∃ A3, A3 = (caseNd n0 s).2.2 := ⟨_, rfl⟩
      rw [← hA1, ← hA2, ← hA3] at FIN
      rw [← hA1, ← hA2, ← hA3] at CK
      have hai : (a : Int) < (m.ca.length : Int) := by omega
      have haw : Hid (a ≤ 1000000) := hide (by have := unhide hcl; omega)
      have gd : Hid (G W2 W2.drew) := hide ((G.refl W2).drew)
      have gd1 : Hid (G W1 W2.drew) := hide ((unhide g2).trans (unhide gd))
      clear hcs hs hcellsH hhd2 hA1 hA2 hA3 t0 t1 s0 s1 h1
      go_wp2_with fail
      refine wp_region_noPanic ?_
      refine wp_region_held_drew (S := fun x => G W1 x ∧ x.cell? ⟨gB, 3, none⟩ = some (.slice (some ⟨b, off, none⟩) m.ca.length ac) ∧ x.cell? ⟨w.heap.size, 0, none⟩ = some (.int .i64 (a : Int)) ∧ x.cell? ⟨b, off + a * 4, none⟩ = some (.int .i64 s.k) ∧ x.cell? ⟨b, off + a * 4 + 1, none⟩ = some (.int .i64 s.c) ∧ x.cell? ⟨b, off + a * 4 + 2, none⟩ = some (.int .i64 s.v) ∧ x.cell? ⟨b, off + a * 4 + 3, none⟩ = some (.int .i64 s.t)) (by kernel_rfl) (unhide KP _ (unhide gd1)) (fun hHeld => ?_)
      obtain ⟨y0, hy0⟩ : ∃ y, y = W2.drew := ⟨_, rfl⟩
      rw [← hy0] at hHeld gd ⊢
      clear hy0 gd1
      refine wpAnyH_take (i := 0) (v := .pointer (some ⟨gB, 0, none⟩)) rfl (by kernel_rfl) (by kernel_rfl) (by kernel_rfl) (fun _ _ _ h => h) (Or.inl ⟨by rfl, fun w hSw => by obtain ⟨t0, t1, t2, t3, t4, t5, t6⟩ := hSw; go_simp⟩) (by assumption) ?_
      try simp only [Act.put, List.getElem_toArray, List.getElem_cons_zero, List.setIfInBounds_toArray, List.set_cons_zero, List.set_cons_succ]
      refine wpAnyH_take (i := 1) (v := .pointer (some ⟨gB, 0, none⟩)) rfl (by kernel_rfl) (by kernel_rfl) (by kernel_rfl) (fun _ _ _ h => h) (Or.inl ⟨by rfl, fun w hSw => by obtain ⟨t0, t1, t2, t3, t4, t5, t6⟩ := hSw; go_simp⟩) (by assumption) ?_
      try simp only [Act.put, List.getElem_toArray, List.getElem_cons_succ, List.getElem_cons_zero, List.setIfInBounds_toArray, List.set_cons_zero, List.set_cons_succ]
      refine wpAnyH_take (i := 2) (v := .pointer (some ⟨gB, 0, none⟩)) rfl (by kernel_rfl) (by kernel_rfl) (by kernel_rfl) (fun _ _ _ h => h) (Or.inl ⟨by rfl, fun w hSw => by obtain ⟨t0, t1, t2, t3, t4, t5, t6⟩ := hSw; go_simp⟩) (by assumption) ?_
      try simp only [Act.put, List.getElem_toArray, List.getElem_cons_succ, List.getElem_cons_zero, List.setIfInBounds_toArray, List.set_cons_zero, List.set_cons_succ]
      refine wpAnyH_take (i := 3) (v := .pointer (some ⟨gB, 0, none⟩)) rfl (by kernel_rfl) (by kernel_rfl) (by kernel_rfl) (fun _ _ _ h => h) (Or.inl ⟨by rfl, fun w hSw => by obtain ⟨t0, t1, t2, t3, t4, t5, t6⟩ := hSw; go_simp⟩) (by assumption) ?_
      try simp only [Act.put, List.getElem_toArray, List.getElem_cons_succ, List.getElem_cons_zero, List.setIfInBounds_toArray, List.set_cons_zero, List.set_cons_succ]
      refine wpAnyH_take (i := 4) (v := .pointer (some ⟨gB, 3, none⟩)) rfl (by kernel_rfl) (by kernel_rfl) (by kernel_rfl) (fun _ _ _ h => h) (Or.inl ⟨by rfl, fun w hSw => by obtain ⟨t0, t1, t2, t3, t4, t5, t6⟩ := hSw; go_simp⟩) (by assumption) ?_
      try simp only [Act.put, List.getElem_toArray, List.getElem_cons_succ, List.getElem_cons_zero, List.setIfInBounds_toArray, List.set_cons_zero, List.set_cons_succ]
      refine wpAnyH_take (i := 5) (v := .slice (some ⟨b, off, none⟩) m.ca.length ac) rfl (by kernel_rfl) (by kernel_rfl) (by kernel_rfl) (fun _ _ _ h => h) (Or.inl ⟨by rfl, fun w hSw => by obtain ⟨t0, t1, t2, t3, t4, t5, t6⟩ := hSw; go_simp⟩) (by assumption) ?_
      try simp only [Act.put, List.getElem_toArray, List.getElem_cons_succ, List.getElem_cons_zero, List.setIfInBounds_toArray, List.set_cons_zero, List.set_cons_succ]
      refine wpAnyH_take (i := 6) (v := .pointer (some ⟨w.heap.size, 0, none⟩)) rfl (by kernel_rfl) (by kernel_rfl) (by kernel_rfl) (fun _ _ _ h => h) (Or.inl ⟨by rfl, fun w hSw => by obtain ⟨t0, t1, t2, t3, t4, t5, t6⟩ := hSw; go_simp⟩) (by assumption) ?_
      try simp only [Act.put, List.getElem_toArray, List.getElem_cons_succ, List.getElem_cons_zero, List.setIfInBounds_toArray, List.set_cons_zero, List.set_cons_succ]
      refine wpAnyH_take (i := 7) (v := .int .i64 (a : Int)) rfl (by kernel_rfl) (by kernel_rfl) (by kernel_rfl) (fun _ _ _ h => h) (Or.inl ⟨by rfl, fun w hSw => by obtain ⟨t0, t1, t2, t3, t4, t5, t6⟩ := hSw; go_simp⟩) (by assumption) ?_
      try simp only [Act.put, List.getElem_toArray, List.getElem_cons_succ, List.getElem_cons_zero, List.setIfInBounds_toArray, List.set_cons_zero, List.set_cons_succ]
      refine wpAnyH_take (i := 8) (v := .pointer (some ⟨b, off + a * 4, none⟩)) rfl (by kernel_rfl) (by kernel_rfl) (by kernel_rfl) (fun _ _ _ h => h) (Or.inl ⟨by rfl, fun w hSw => by obtain ⟨t0, t1, t2, t3, t4, t5, t6⟩ := hSw; go_simp⟩) (by assumption) ?_
      try simp only [Act.put, List.getElem_toArray, List.getElem_cons_succ, List.getElem_cons_zero, List.setIfInBounds_toArray, List.set_cons_zero, List.set_cons_succ]
      refine wpAnyH_take (i := 9) (v := .agg #[.int .i64 s.k, .int .i64 s.c, .int .i64 s.v, .int .i64 s.t]) rfl (by kernel_rfl) (by kernel_rfl) (by kernel_rfl) (fun _ _ _ h => h) (Or.inl ⟨by rfl, fun w hSw => by obtain ⟨t0, t1, t2, t3, t4, t5, t6⟩ := hSw; go_simp⟩) (by assumption) ?_
      try simp only [Act.put, List.getElem_toArray, List.getElem_cons_succ, List.getElem_cons_zero, List.setIfInBounds_toArray, List.set_cons_zero, List.set_cons_succ]
      refine wpAnyH_ready (rs := [10]) (by kernel_rfl) (by simp) ?_
      refine AllReadyH.cons rfl (fun K hK => ?_) AllReadyH.nil
      go_simp
      refine (unhide CK y0 hHeld.1).mono ?_
      rintro e y1 ⟨xo, xn, xc, rfl, hnw, hg⟩
      go_wp2_with fail
      refine hK.out _ _ (unhide KP _ (hHeld.1.trans hg)) (fun hH1 => ?_)
      clear hK K
      try simp only [Act.put, List.getElem_toArray, List.getElem_cons_succ, List.getElem_cons_zero, List.setIfInBounds_toArray, List.set_cons_zero, List.set_cons_succ]
      obtain ⟨gf, ST⟩ := unhide FIN y0 y1 xo xn xc (unhide gd) hnw hg
      obtain ⟨⟨z0, f0⟩, ⟨z1, f1⟩, ⟨z2, f2⟩⟩ := unhide NZ y1 ((unhide gd).trans hg)
      replace ST := hide ST
      replace gf := hide gf
      clear hnw hg hHeld gd FIN
      refine wpAnyH_ready (rs := [11]) (by kernel_rfl) (by simp) ?_
      refine AllReadyH.cons rfl (fun K hK => ?_) AllReadyH.nil
      go_simp
      refine hK.out _ _ (unhide KP _ (unhide gf)) (fun hH2 => ?_)
      clear hK K
      try simp only [Act.put, List.getElem_toArray, List.getElem_cons_succ, List.getElem_cons_zero, List.setIfInBounds_toArray, List.set_cons_zero, List.set_cons_succ]
      refine wpAnyH_done (by kernel_rfl) (NoPanic.normal ?_) _
      go_wp2_with fail
      go_meet
      exact ⟨rfl, rb, cap, ns, l, xo, xn, xc, _, ST⟩
    · have h2 : 2 ≤ c := by omega
      have hcM : c ≤ 1000000 := by have := unhide hcl; have := unhide hac; omega
      have PW := hide (powerBelow_any W2 c h2 hcM)
      have b1 : ((c : Int) == 1) = false := beq_eq_false_iff_ne.2 (by omega)
      have C1 : Hid (∀ p k : Nat, p < c → c ≤ 2 * p → p = 2 ^ k → Calls Tryz.prog 58 #[.pointer (some ⟨gB, 0, none⟩), .agg #[.int .i64 (a : Int), .int .i64 (p : Int)]] W2 (StTo W.heap.size gB mb rb n0 hd m W2 ns l (E ++ [w.heap.size, nB]) (a, p))) := hide fun p k p1 p2 pk => by
        have e1 := unhide hs1
        have e2 := unhide hs2
        have e3 := unhide hnB
        have hnd := ndN_half p1 p2 pk
        have := unhide hN
        have := unhide hac
        refine unhide IH p p1 W2 rb cap ns l _ a (unhide H2) ((unhide gW).trans ((unhide g1).trans (unhide g2))) (fun b hb => ?_) (unhide HO) (by omega) (by omega) (by omega)
        rcases List.mem_append.1 hb with hb | hb
        · have := unhide hE b hb; omega
        · simp at hb; omega
      have C2 : Hid (∀ p k x1 rb1 cap1 ns1 l1 (q1 : Nat), p < c → c ≤ 2 * p → p = 2 ^ k → GX x1 W.heap.size gB mb rb1 cap1 n0 hd ns1 l1 (E ++ [w.heap.size, nB]) → Tg W2 x1 gB mb rb rb1 → StOK m n0 ns1 l1 → l1.length ≤ l.length + ndN p → Calls Tryz.prog 58 #[.pointer (some ⟨gB, 0, none⟩), .agg #[.int .i64 ((a : Int) + (c : Int) - (p : Int)), .int .i64 (p : Int)]] x1 (StTo W.heap.size gB mb rb1 n0 hd m x1 ns1 l1 (E ++ [w.heap.size, nB]) (a + c - p, p))) := hide fun p k x1 rb1 cap1 ns1 l1 q1 p1 p2 pk hG hT hO hL => by
        have e1 := unhide hs1
        have e2 := unhide hs2
        have e3 := unhide hnB
        have hnd := ndN_half p1 p2 pk
        have := unhide hN
        have := unhide hac
        have e4 := hT.size
        have key := unhide IH p p1 x1 rb1 cap1 ns1 l1 _ (a + c - p) hG (hT.G ((unhide gW).trans ((unhide g1).trans (unhide g2))) hG.b1 hG.b2 (unhide hrl).1) (fun b hb => ?_) hO (by omega) (by omega) (by omega)
        · have e : (((a + c - p : Nat) : Int)) = (a : Int) + (c : Int) - (p : Int) := by omega
          rw [e] at key
          exact key
        · rcases List.mem_append.1 hb with hb | hb
          · have := unhide hE b hb; omega
          · simp at hb; omega
      have FIN : Hid (∀ (p k : Nat) x1 rb1 (cap1 : Nat) ns1 l1 (q1 : Nat) x2 rb2 cap2 ns2 l2 (q2 : Nat), p < c → c ≤ 2 * p → p = 2 ^ k → Tg W2 x1 gB mb rb rb1 → StMore p ns l ns1 l1 → l1[q1]? = some (a, p) → l1.length ≤ l.length + ndN p → GX x2 W.heap.size gB mb rb2 cap2 n0 hd ns2 l2 (E ++ [w.heap.size, nB]) → Tg x1 x2 gB mb rb1 rb2 → StOK m n0 ns2 l2 → StMore p ns1 l1 ns2 l2 → l2[q2]? = some (a + c - p, p) → l2.length ≤ l1.length + ndN p →
          StI W w (setN (x2.alloc (.cells #[.int .i64 ((n0 + q1 : Nat) : Int), .int .i64 ((n0 + q2 : Nat) : Int)] 3)) nB 0 [.int .u64 0, .int .u64 18446744073709551615, .slice (some ⟨x2.heap.size, 0, none⟩) 2 2]) gB mb rb n0 hd m ns l E a c nB rb2 cap2 ns2 l2 (some ⟨x2.heap.size, 0, none⟩) 2 2 (0, allU, [((n0 + q1 : Nat) : Int), ((n0 + q2 : Nat) : Int)])) := hide fun p k x1 rb1 cap1 ns1 l1 q1 x2 rb2 cap2 ns2 l2 q2 p1 p2 pk T1 M1 Q1 L1 G2 T2 O2 M2 Q2 L2 => by
        have e1 := unhide hs1
        have e2 := unhide hs2
        have e3 := unhide hnB
        have e4 := unhide hgl
        have e5 := unhide hml
        have e6 := unhide hrl
        have hnd := ndN_half p1 p2 pk
        have e7 := T1.size
        have e8 := T2.size
        have g2l := G2.gl
        have m2l := G2.ml
        have r2l := G2.rl
        have TT := T1.trans T2
        have ga := G.alloc x2 (.cells #[.int .i64 ((n0 + q1 : Nat) : Int), .int .i64 ((n0 + q2 : Nat) : Int)] 3)
        have hnr : ∀ b, w.heap.size ≤ b → b < W2.heap.size → b ≠ gB ∧ b ≠ mb ∧ b ≠ rb ∧ b ≠ rb2 := fun b b1 b2 => by
          refine ⟨by omega, by omega, by omega, ?_⟩
          rcases TT.lies with e | e <;> omega
        have keep : ∀ b, w.heap.size ≤ b → b < W2.heap.size → (x2.alloc (.cells #[.int .i64 ((n0 + q1 : Nat) : Int), .int .i64 ((n0 + q2 : Nat) : Int)] 3)).heap[b]? = W2.heap[b]? := fun b b1 b2 => by
          obtain ⟨d1, d2, d3, _⟩ := hnr b b1 b2
          exact (ga.block b (by omega)).trans (TT.block b b2 d1 d2 d3)
        obtain ⟨⟨z0, _⟩, ⟨z1, _⟩, ⟨z2, _⟩⟩ := unhide NZ W2 (G.refl W2)
        have kc : ∀ b i v, w.heap.size ≤ b → W2.cell? ⟨b, i, none⟩ = some v → (x2.alloc (.cells #[.int .i64 ((n0 + q1 : Nat) : Int), .int .i64 ((n0 + q2 : Nat) : Int)] 3)).cell? ⟨b, i, none⟩ = some v := fun b i v b1 hv => (World.cell?_of_block (a := ⟨b, i, none⟩) (keep b b1 (World.block_lt_of_cell? W2 _ hv))).trans hv
        have hcell : ∀ i, i < 3 → ((x2.alloc (.cells #[.int .i64 ((n0 + q1 : Nat) : Int), .int .i64 ((n0 + q2 : Nat) : Int)] 3)).cell? ⟨nB, 0 + i, none⟩).isSome = true := fun i hi => by
          match i, hi with
          | 0, _ => rw [Nat.zero_add, kc nB 0 _ (by omega) z0]; rfl
          | 1, _ => rw [Nat.zero_add, kc nB 1 _ (by omega) z1]; rfl
          | 2, _ => rw [Nat.zero_add, kc nB 2 _ (by omega) z2]; rfl
        obtain ⟨d1, d2, d3, d4⟩ := hnr nB (by omega) (by omega)
        refine ⟨(G2.g ga).setN nB 0 _ (by simp) d1 d2 d4, (((Tg.of_G ((unhide g1).trans (unhide g2))).trans TT).trans (Tg.of_G ga)).setN nB 0 _ (by omega), O2, (M1.trans M2).mono (by omega), ((M1.trans M2).mono (Nat.le_refl p)).notin (unhide hm) p1, by omega, ⟨unhide (hide h1), unhide hac, Or.inr ⟨h2, p, q1, q2, p1, p2, ?_, ?_, M2.get Q1, Q2, rfl⟩⟩, ?_, ?_, ?_, setN_in _ _ _ 0 0 _ rfl hcell, setN_in _ _ _ 0 1 _ rfl hcell, setN_in _ _ _ 0 2 _ rfl hcell, (hnr w.heap.size (Nat.le_refl _) (by omega)).2.2.2, d4⟩
        · exact (List.getElem?_eq_some_iff.1 (M2.get Q1)).1
        · exact (List.getElem?_eq_some_iff.1 Q2).1
        · refine (nwl_isz (nwl_new x2 [((n0 + q1 : Nat) : Int), ((n0 + q2 : Nat) : Int)] (by show 2 ≤ maxLen; decide)) (fun b hb => ?_)).setN nB 0 _ (by simp)
          rcases hb with hb | hb | hb | hb
          · omega
          · omega
          · omega
          · rcases List.mem_append.1 hb with hb | hb
            · have := unhide hE b hb; omega
            · simp at hb; omega
        · have := kc w.heap.size 0 _ (Nat.le_refl _) t0
          rw [World.cell?_of_block (a := ⟨w.heap.size, 0, none⟩) (setN_heap _ _ nB 0 w.heap.size (by omega))]
          exact this
        · have := kc w.heap.size 1 _ (Nat.le_refl _) t1
          rw [World.cell?_of_block (a := ⟨w.heap.size, 1, none⟩) (setN_heap _ _ nB 0 w.heap.size (by omega))]
          exact this
      have SB : Hid (∀ x1 rb1, Tg W2 x1 gB mb rb rb1 → x1.cell? ⟨w.heap.size, 0, none⟩ = some (.int .i64 (a : Int)) ∧ x1.cell? ⟨w.heap.size, 1, none⟩ = some (.int .i64 (c : Int))) := hide fun x1 rb1 T1 => by
        have e4 := unhide hgl
        have e5 := unhide hml
        have e6 := unhide hrl
        exact ⟨T1.cell (by omega) (by omega) (by omega) t0, T1.cell (by omega) (by omega) (by omega) t1⟩
      have NB : Hid (∀ x1 rb1 x2 rb2 (o : Obj), Tg W2 x1 gB mb rb rb1 → Tg x1 x2 gB mb rb1 rb2 → ((x2.alloc o).cell? ⟨nB, 0, none⟩ = some (.int .u64 0) ∧ (x2.alloc o).frozen? ⟨nB, 0, none⟩ = false) ∧ ((x2.alloc o).cell? ⟨nB, 1, none⟩ = some (.int .u64 0) ∧ (x2.alloc o).frozen? ⟨nB, 1, none⟩ = false) ∧ ((x2.alloc o).cell? ⟨nB, 2, none⟩ = some (.slice none 0 0) ∧ (x2.alloc o).frozen? ⟨nB, 2, none⟩ = false)) := hide fun x1 rb1 x2 rb2 o T1 T2 => by
        have e1 := unhide hs1
        have e2 := unhide hs2
        have e3 := unhide hnB
        have e4 := unhide hgl
        have e5 := unhide hml
        have e6 := unhide hrl
        obtain ⟨⟨z0, f0⟩, ⟨z1, f1⟩, ⟨z2, f2⟩⟩ := unhide NZ W2 (G.refl W2)
        have TT := (T1.trans T2).trans (Tg.of_G (G.alloc x2 o))
        exact ⟨⟨TT.cell (by omega) (by omega) (by omega) z0, (TT.fro (by omega) (by omega) (by omega) (by omega)).trans f0⟩, ⟨TT.cell (by omega) (by omega) (by omega) z1, (TT.fro (by omega) (by omega) (by omega) (by omega)).trans f1⟩, ⟨TT.cell (by omega) (by omega) (by omega) z2, (TT.fro (by omega) (by omega) (by omega) (by omega)).trans f2⟩⟩
      have WR : Hid (∀ p : Nat, p < c → wrap64 ((a : Int) + (c : Int)) = (a : Int) + (c : Int) ∧ wrap64 ((a : Int) + (c : Int) - (p : Int)) = (a : Int) + (c : Int) - (p : Int)) := hide fun p hp => by
        have := unhide hac
        have := unhide hcl
        unfold wrap64
        omega
      clear s0 s1 h1 H2 NZ
      replace hcM := hide hcM
      replace h2 := hide h2
      replace hc1 := hide hc1
      go_wp2_with fail
      refine (unhide PW).mono ?_
      rintro e wp ⟨pw, rfl, hwp, p1, p2, kk, pk⟩
      subst hwp
      obtain ⟨w1, w2⟩ := unhide WR pw p1
      have D1 := hide (unhide C1 pw kk p1 p2 pk)
      replace C2 := hide (fun x1 rb1 cap1 ns1 l1 q1 => unhide C2 pw kk x1 rb1 cap1 ns1 l1 q1 p1 p2 pk)
      replace FIN := hide (fun x1 rb1 cap1 ns1 l1 q1 x2 rb2 cap2 ns2 l2 q2 => unhide FIN pw kk x1 rb1 cap1 ns1 l1 q1 x2 rb2 cap2 ns2 l2 q2 p1 p2 pk)
      clear PW C1 WR p1 p2 pk
      go_wp2_with fail
      refine (unhide D1).mono ?_
      rintro e x1 ⟨rb1, cap1, ns1, l1, q1, rfl, G1, T1, O1, M1, Q1, L1⟩
      obtain ⟨u0, u1⟩ := unhide SB x1 rb1 T1
      have D2 := hide (unhide C2 x1 rb1 cap1 ns1 l1 q1 G1 T1 O1 L1)
      replace T1 := hide T1
      replace M1 := hide M1
      replace Q1 := hide Q1
      replace L1 := hide L1
      obtain ⟨v1, hv1⟩ : ∃ v1 : Int, v1 = ((n0 + q1 : Nat) : Int) := ⟨_, rfl⟩
      rw [← hv1]
      replace hv1 := hide hv1
      clear D1 C2 SB G1 O1 t0 t1
      go_wp2_with fail
      refine (unhide D2).mono ?_
      rintro e x2 ⟨rb2, cap2, ns2, l2, q2, rfl, G2, T2, O2, M2, Q2, L2⟩
      have ST := hide (unhide FIN x1 rb1 cap1 ns1 l1 q1 x2 rb2 cap2 ns2 l2 q2 (unhide T1) (unhide M1) (unhide Q1) (unhide L1) G2 T2 O2 M2 Q2 L2)
      obtain ⟨v2, hv2⟩ : ∃ v2 : Int, v2 = ((n0 + q2 : Nat) : Int) := ⟨_, rfl⟩
      rw [← hv2]
      have ST2 : Hid (StI W w (setN (x2.alloc (.cells #[.int .i64 v1, .int .i64 v2] 3)) nB 0 [.int .u64 0, .int .u64 18446744073709551615, .slice (some ⟨x2.heap.size, 0, none⟩) 2 2]) gB mb rb n0 hd m ns l E a c nB rb2 cap2 ns2 l2 (some ⟨x2.heap.size, 0, none⟩) 2 2 (0, allU, [((n0 + q1 : Nat) : Int), ((n0 + q2 : Nat) : Int)])) := hide (by rw [unhide hv1, hv2]; exact unhide ST)
      obtain ⟨⟨z0, f0⟩, ⟨z1, f1⟩, ⟨z2, f2⟩⟩ := unhide NB x1 rb1 x2 rb2 (.cells #[.int .i64 v1, .int .i64 v2] 3) (unhide T1) T2
      clear D2 FIN G2 T2 O2 M2 Q2 L2 T1 M1 Q1 L1 ST hv1 hv2 NB u0 u1 w1 w2 b1
      go_wp2_with fail
      go_meet
      exact ⟨rfl, rb2, cap2, ns2, l2, _, _, _, _, ST2⟩
  case rest =>
    obtain ⟨rfl, rb1, cap1, ns1, l1, xo, xn, xc, n, ST⟩ := hcut
    obtain ⟨c13, c14, f13, _⟩ := (unhide ST).gx.cells
    obtain ⟨A1, hA1⟩ : ∃ A1, A1 = n.1 := ⟨_, rfl⟩
    obtain ⟨A2, hA2⟩ : ∃ A2, A2 = n.2.1 := ⟨_, rfl⟩
    have n0c := (unhide ST).c0
    have n1c := (unhide ST).c1
    have n2c := (unhide ST).c2
    rw [← hA1] at n0c
    rw [← hA2] at n1c
    have hlen := (unhide ST).ok.len
    obtain ⟨NL, hNL⟩ : ∃ NL, NL = ns1.length := ⟨_, rfl⟩
    have hnbg : Hid (nB ≠ gB ∧ nB ≠ mb ∧ nB ≠ rb1 ∧ w.heap.size ≠ gB ∧ w.heap.size ≠ mb) := hide (by
      have e1 := unhide hs1
      have e3 := unhide hnB
      have e4 := unhide hgl
      have e5 := unhide hml
      exact ⟨by omega, by omega, (unhide ST).nb, by omega, by omega⟩)
    have hwr : Hid (w.heap.size ≠ rb1) := hide (unhide ST).sb
    have AP : Hid (∀ y, G wc y → ∃ rb' cap' x3, (Builtin.append_ #[58, 58] 58 #[.slice (some ⟨rb1, 0, none⟩) NL cap1, .slice (some ⟨y.heap.size, 0, none⟩) 1 1]).run Tryz.prog (y.alloc (.cells #[.int .u64 (A1 : Int), .int .u64 (A2 : Int), .slice xo xn xc] 57)) = .ok (.slice (some ⟨rb', 0, none⟩) (NL + 1) cap') x3 ∧ x3.cell? ⟨gB, 13, none⟩ = some (.slice (some ⟨rb1, 0, none⟩) NL cap1) ∧ x3.frozen? ⟨gB, 13, none⟩ = false ∧ (x3.cell? ⟨nB, 0, none⟩ = some (.int .u64 (A1 : Int)) ∧ x3.cell? ⟨nB, 1, none⟩ = some (.int .u64 (A2 : Int)) ∧ x3.cell? ⟨nB, 2, none⟩ = some (.slice xo xn xc)) ∧ ((x3.setCell ⟨gB, 13, none⟩ (.slice (some ⟨rb', 0, none⟩) (NL + 1) cap')).cell? ⟨nB, 0, none⟩ = some (.int .u64 (A1 : Int)) ∧ (x3.setCell ⟨gB, 13, none⟩ (.slice (some ⟨rb', 0, none⟩) (NL + 1) cap')).cell? ⟨nB, 1, none⟩ = some (.int .u64 (A2 : Int)) ∧ (x3.setCell ⟨gB, 13, none⟩ (.slice (some ⟨rb', 0, none⟩) (NL + 1) cap')).cell? ⟨nB, 2, none⟩ = some (.slice xo xn xc)) ∧ GX (x3.setCell ⟨gB, 13, none⟩ (.slice (some ⟨rb', 0, none⟩) (NL + 1) cap')) W.heap.size gB mb rb' cap' n0 hd (ns1 ++ [n]) l1 (E ++ [w.heap.size, nB]) ∧ Tg w (x3.setCell ⟨gB, 13, none⟩ (.slice (some ⟨rb', 0, none⟩) (NL + 1) cap')) gB mb rb rb' ∧ (x3.setCell ⟨gB, 13, none⟩ (.slice (some ⟨rb', 0, none⟩) (NL + 1) cap')).cell? ⟨w.heap.size, 0, none⟩ = some (.int .i64 (a : Int)) ∧ (x3.setCell ⟨gB, 13, none⟩ (.slice (some ⟨rb', 0, none⟩) (NL + 1) cap')).cell? ⟨w.heap.size, 1, none⟩ = some (.int .i64 (c : Int)) ∧ w.heap.size ≠ rb') := hide fun y gy => by
      have X := unhide ST
      have hz := X.z.move gy.size (fun b b1 b2 => ⟨gy.block b b1, b2⟩)
      have := unhide hN
      have := X.ln
      have hWy : W.heap.size ≤ y.heap.size := by have := X.gx.gl; have := X.gx.b1; have := gy.size; omega
      obtain ⟨rb', cap', x3, r1, r2, r3, r4, r5⟩ := (X.gx.g gy).app (by omega) hWy n.1 n.2.1 xo xn xc n.2.2 hz
      rw [← hNL, ← hA1, ← hA2] at r1
      rw [← hNL] at r2 r4 r5
      obtain ⟨q1, q2, q3, q4, q5⟩ := unhide hnbg
      have back : ∀ i v, wc.cell? ⟨nB, i, none⟩ = some v → (x3.setCell ⟨gB, 13, none⟩ (.slice (some ⟨rb', 0, none⟩) (NL + 1) cap')).cell? ⟨nB, i, none⟩ = some v := fun i v hv => r5.cell q1 q2 q3 (gy.cell hv)
      have back2 : ∀ i v, wc.cell? ⟨nB, i, none⟩ = some v → x3.cell? ⟨nB, i, none⟩ = some v := fun i v hv => by
        have := back i v hv
        rwa [cell_other _ (Or.inl q1)] at this
      exact ⟨rb', cap', x3, r1, r2, r3, ⟨back2 0 _ n0c, back2 1 _ n1c, back2 2 _ n2c⟩, ⟨back 0 _ n0c, back 1 _ n1c, back 2 _ n2c⟩, r4, (X.tg.trans (Tg.of_G gy)).trans r5, r5.cell q4 q5 (unhide hwr) (gy.cell X.s0), r5.cell q4 q5 (unhide hwr) (gy.cell X.s1), fun e => by
        have h3 := World.block_lt_of_cell? wc _ X.s0
        have h4 := gy.size
        have h5 := unhide hwr
        rcases r5.lies with e7 | e7
        · exact h5 (e.trans e7)
        · replace h3 : w.heap.size < wc.heap.size := h3
          omega⟩
    rw [← hNL] at c13 hlen
    replace hlen := hide hlen
    clear hA1 hA2 hNL s0 s1 t0 t1 h1
    go_upto_region 12 with fail
    go_cut [11] (fun q wx => q = .int .i64 (NL : Int) ∧ ∃ rb2 cap2, Hid (GX wx W.heap.size gB mb rb2 cap2 n0 hd (ns1 ++ [n]) l1 (E ++ [w.heap.size, nB]) ∧ Tg w wx gB mb rb rb2 ∧ wx.cell? ⟨w.heap.size, 0, none⟩ = some (.int .i64 (a : Int)) ∧ wx.cell? ⟨w.heap.size, 1, none⟩ = some (.int .i64 (c : Int)) ∧ w.heap.size ≠ rb2))
    case first =>
      have gd : Hid (G wc wc.drew) := hide ((G.refl wc).drew)
      refine wp_region_noPanic ?_
      refine wp_region_held_drew (S := fun x => x.cell? ⟨nB, 0, none⟩ = some (.int .u64 (A1 : Int)) ∧ x.cell? ⟨nB, 1, none⟩ = some (.int .u64 (A2 : Int)) ∧ x.cell? ⟨nB, 2, none⟩ = some (.slice xo xn xc)) (by kernel_rfl) ⟨(unhide gd).cell n0c, (unhide gd).cell n1c, (unhide gd).cell n2c⟩ (fun hHeld => ?_)
      obtain ⟨y0, hy0⟩ : ∃ y, y = wc.drew := ⟨_, rfl⟩
      rw [← hy0] at hHeld gd ⊢
      obtain ⟨rb', cap', x3, hrun, k13, fk, hS3, hS4, FG⟩ := unhide AP y0 (unhide gd)
      have d13 := (unhide gd).cell c13
      have e13 := (G.alloc y0 (.cells #[.int .u64 (A1 : Int), .int .u64 (A2 : Int), .slice xo xn xc] 57)).cell d13
      have hSa : (y0.alloc (.cells #[.int .u64 (A1 : Int), .int .u64 (A2 : Int), .slice xo xn xc] 57)).cell? ⟨nB, 0, none⟩ = some (.int .u64 (A1 : Int)) ∧ (y0.alloc (.cells #[.int .u64 (A1 : Int), .int .u64 (A2 : Int), .slice xo xn xc] 57)).cell? ⟨nB, 1, none⟩ = some (.int .u64 (A2 : Int)) ∧ (y0.alloc (.cells #[.int .u64 (A1 : Int), .int .u64 (A2 : Int), .slice xo xn xc] 57)).cell? ⟨nB, 2, none⟩ = some (.slice xo xn xc) := ⟨(G.alloc y0 _).cell hHeld.1, (G.alloc y0 _).cell hHeld.2.1, (G.alloc y0 _).cell hHeld.2.2⟩
      replace FG := hide FG
      replace hS3 := hide hS3
      replace hS4 := hide hS4
      replace hSa := hide hSa
      clear hy0 gd AP n0c n1c n2c c13 c14 f13
      refine wpAnyH_take (i := 0) (v := .pointer (some ⟨gB, 0, none⟩)) rfl (by kernel_rfl) (by kernel_rfl) (by kernel_rfl) (fun _ _ _ h => h) (Or.inl ⟨by rfl, fun w hSw => by obtain ⟨t0, t1, t2⟩ := hSw; go_simp⟩) (by assumption) ?_
      try simp only [Act.put, List.getElem_toArray, List.getElem_cons_zero, List.setIfInBounds_toArray, List.set_cons_zero, List.set_cons_succ]
      refine wpAnyH_take (i := 1) (v := .pointer (some ⟨gB, 0, none⟩)) rfl (by kernel_rfl) (by kernel_rfl) (by kernel_rfl) (fun _ _ _ h => h) (Or.inl ⟨by rfl, fun w hSw => by obtain ⟨t0, t1, t2⟩ := hSw; go_simp⟩) (by assumption) ?_
      try simp only [Act.put, List.getElem_toArray, List.getElem_cons_succ, List.getElem_cons_zero, List.setIfInBounds_toArray, List.set_cons_zero, List.set_cons_succ]
      refine wpAnyH_take (i := 2) (v := .pointer (some ⟨gB, 0, none⟩)) rfl (by kernel_rfl) (by kernel_rfl) (by kernel_rfl) (fun _ _ _ h => h) (Or.inl ⟨by rfl, fun w hSw => by obtain ⟨t0, t1, t2⟩ := hSw; go_simp⟩) (by assumption) ?_
      try simp only [Act.put, List.getElem_toArray, List.getElem_cons_succ, List.getElem_cons_zero, List.setIfInBounds_toArray, List.set_cons_zero, List.set_cons_succ]
      refine wpAnyH_take (i := 3) (v := .pointer (some ⟨gB, 13, none⟩)) rfl (by kernel_rfl) (by kernel_rfl) (by kernel_rfl) (fun _ _ _ h => h) (Or.inl ⟨by rfl, fun w hSw => by obtain ⟨t0, t1, t2⟩ := hSw; go_simp⟩) (by assumption) ?_
      try simp only [Act.put, List.getElem_toArray, List.getElem_cons_succ, List.getElem_cons_zero, List.setIfInBounds_toArray, List.set_cons_zero, List.set_cons_succ]
      refine wpAnyH_take (i := 5) (v := .agg #[.int .u64 (A1 : Int), .int .u64 (A2 : Int), .slice xo xn xc]) rfl (by kernel_rfl) (by kernel_rfl) (by kernel_rfl) (fun _ _ _ h => h) (Or.inl ⟨by rfl, fun w hSw => by obtain ⟨t0, t1, t2⟩ := hSw; go_simp⟩) (by assumption) ?_
      try simp only [Act.put, List.getElem_toArray, List.getElem_cons_succ, List.getElem_cons_zero, List.setIfInBounds_toArray, List.set_cons_zero, List.set_cons_succ]
      refine wpAnyH_ready (rs := [4, 6]) (by kernel_rfl) (by simp) ?_
      refine AllReadyH.cons rfl (fun K hK => ?_) (AllReadyH.cons rfl (fun K hK => ?_) AllReadyH.nil)
      · go_simp
        refine hK.out _ _ hHeld (fun hH => ?_)
        clear hK K
        try simp only [Act.put, List.getElem_toArray, List.getElem_cons_succ, List.getElem_cons_zero, List.setIfInBounds_toArray, List.set_cons_zero, List.set_cons_succ]
        refine wpAnyH_ready (rs := [6]) (by kernel_rfl) (by simp) ?_
        refine AllReadyH.cons rfl (fun K hK => ?_) AllReadyH.nil
        go_simp
        refine hK.out _ _ (unhide hSa) (fun hH => ?_)
        clear hK K
        try simp only [Act.put, List.getElem_toArray, List.getElem_cons_succ, List.getElem_cons_zero, List.setIfInBounds_toArray, List.set_cons_zero, List.set_cons_succ]
        refine wpAnyH_ready (rs := [7]) (by kernel_rfl) (by simp) ?_
        refine AllReadyH.cons rfl (fun K hK => ?_) AllReadyH.nil
        refine step_app rfl (.tmp 70) (.tmp 72) 58 rfl _ _ rfl rfl _ _ hrun ?_
        refine hK.out _ _ (unhide hS3) (fun hH => ?_)
        clear hK K
        try simp only [Act.put, List.getElem_toArray, List.getElem_cons_succ, List.getElem_cons_zero, List.setIfInBounds_toArray, List.set_cons_zero, List.set_cons_succ]
        refine wpAnyH_take (i := 8) (v := .pointer (some ⟨gB, 0, none⟩)) rfl (by kernel_rfl) (by kernel_rfl) (by kernel_rfl) (fun _ _ _ h => h) (Or.inl ⟨by rfl, fun w hSw => by obtain ⟨t0, t1, t2⟩ := hSw; go_simp⟩) (by assumption) ?_
        try simp only [Act.put, List.getElem_toArray, List.getElem_cons_succ, List.getElem_cons_zero, List.setIfInBounds_toArray, List.set_cons_zero, List.set_cons_succ]
        refine wpAnyH_take (i := 9) (v := .pointer (some ⟨gB, 13, none⟩)) rfl (by kernel_rfl) (by kernel_rfl) (by kernel_rfl) (fun _ _ _ h => h) (Or.inl ⟨by rfl, fun w hSw => by obtain ⟨t0, t1, t2⟩ := hSw; go_simp⟩) (by assumption) ?_
        try simp only [Act.put, List.getElem_toArray, List.getElem_cons_succ, List.getElem_cons_zero, List.setIfInBounds_toArray, List.set_cons_zero, List.set_cons_succ]
        refine wpAnyH_ready (rs := [10]) (by kernel_rfl) (by simp) ?_
        refine AllReadyH.cons rfl (fun K hK => ?_) AllReadyH.nil
        go_simp
        refine hK.out _ _ (unhide hS4) (fun hH => ?_)
        clear hK K
        try simp only [Act.put, List.getElem_toArray, List.getElem_cons_succ, List.getElem_cons_zero, List.setIfInBounds_toArray, List.set_cons_zero, List.set_cons_succ]
        refine wpAnyH_done (by kernel_rfl) (NoPanic.normal ?_) _
        go_wp2_with fail
        go_meet
        exact ⟨rfl, rb', cap', FG⟩
      · go_simp
        refine hK.out _ _ (unhide hSa) (fun hH => ?_)
        clear hK K
        try simp only [Act.put, List.getElem_toArray, List.getElem_cons_succ, List.getElem_cons_zero, List.setIfInBounds_toArray, List.set_cons_zero, List.set_cons_succ]
        refine wpAnyH_ready (rs := [4]) (by kernel_rfl) (by simp) ?_
        refine AllReadyH.cons rfl (fun K hK => ?_) AllReadyH.nil
        go_simp
        refine hK.out _ _ (unhide hSa) (fun hH => ?_)
        clear hK K
        try simp only [Act.put, List.getElem_toArray, List.getElem_cons_succ, List.getElem_cons_zero, List.setIfInBounds_toArray, List.set_cons_zero, List.set_cons_succ]
        refine wpAnyH_ready (rs := [7]) (by kernel_rfl) (by simp) ?_
        refine AllReadyH.cons rfl (fun K hK => ?_) AllReadyH.nil
        refine step_app rfl (.tmp 70) (.tmp 72) 58 rfl _ _ rfl rfl _ _ hrun ?_
        refine hK.out _ _ (unhide hS3) (fun hH => ?_)
        clear hK K
        try simp only [Act.put, List.getElem_toArray, List.getElem_cons_succ, List.getElem_cons_zero, List.setIfInBounds_toArray, List.set_cons_zero, List.set_cons_succ]
        refine wpAnyH_take (i := 8) (v := .pointer (some ⟨gB, 0, none⟩)) rfl (by kernel_rfl) (by kernel_rfl) (by kernel_rfl) (fun _ _ _ h => h) (Or.inl ⟨by rfl, fun w hSw => by obtain ⟨t0, t1, t2⟩ := hSw; go_simp⟩) (by assumption) ?_
        try simp only [Act.put, List.getElem_toArray, List.getElem_cons_succ, List.getElem_cons_zero, List.setIfInBounds_toArray, List.set_cons_zero, List.set_cons_succ]
        refine wpAnyH_take (i := 9) (v := .pointer (some ⟨gB, 13, none⟩)) rfl (by kernel_rfl) (by kernel_rfl) (by kernel_rfl) (fun _ _ _ h => h) (Or.inl ⟨by rfl, fun w hSw => by obtain ⟨t0, t1, t2⟩ := hSw; go_simp⟩) (by assumption) ?_
        try simp only [Act.put, List.getElem_toArray, List.getElem_cons_succ, List.getElem_cons_zero, List.setIfInBounds_toArray, List.set_cons_zero, List.set_cons_succ]
        refine wpAnyH_ready (rs := [10]) (by kernel_rfl) (by simp) ?_
        refine AllReadyH.cons rfl (fun K hK => ?_) AllReadyH.nil
        go_simp
        refine hK.out _ _ (unhide hS4) (fun hH => ?_)
        clear hK K
        try simp only [Act.put, List.getElem_toArray, List.getElem_cons_succ, List.getElem_cons_zero, List.setIfInBounds_toArray, List.set_cons_zero, List.set_cons_succ]
        refine wpAnyH_done (by kernel_rfl) (NoPanic.normal ?_) _
        go_wp2_with fail
        go_meet
        exact ⟨rfl, rb', cap', FG⟩
    case rest =>
      obtain ⟨rfl, rb2, cap2, FG⟩ := hcut
      have gd : Hid (G wc wc.drew) := hide ((G.refl wc).drew)
      have NT : Hid (∃ w1, (Instr.mapUpdate 59 (.map (some mb)) (.agg #[.int .i64 (a : Int), .int .i64 (c : Int)]) (.int .i64 (NL : Int))).run Tryz.prog wc.drew = .ok () w1 ∧ (w1.cell? ⟨gB, 14, none⟩ = some (.map (some mb)) ∧ w1.cell? ⟨w.heap.size, 0, none⟩ = some (.int .i64 (a : Int)) ∧ w1.cell? ⟨w.heap.size, 1, none⟩ = some (.int .i64 (c : Int))) ∧ StTo W.heap.size gB mb rb n0 hd m w ns l E (a, c) (.returned (.int .i64 (NL : Int))) w1) := hide (by
        obtain ⟨G1, T1, v0, v1, hw2⟩ := unhide FG
        have X := unhide ST
        have := unhide hN
        have := unhide hcl
        have := unhide hac
        have := X.ln
        have e := unhide hlen
        obtain ⟨w1, r1, r2, r3⟩ := (G1.g (unhide gd)).note (a, c) ⟨by show a ≤ 10000000; omega, by show c ≤ 10000000; omega⟩ X.ni (by omega)
        have eN : ((n0 + l1.length : Nat) : Int) = (NL : Int) := by rw [e]
        rw [eN] at r1
        obtain ⟨q1, q2, q3, q4, q5⟩ := unhide hnbg
        refine ⟨w1, r1, ⟨r2.cells.2.1, r3.cell q4 q5 hw2 ((unhide gd).cell v0), r3.cell q4 q5 hw2 ((unhide gd).cell v1)⟩, ?_⟩
        refine ⟨rb2, cap2, ns1 ++ [n], l1 ++ [(a, c)], l1.length, ?_, r2.less (fun b hb => List.mem_append.2 (Or.inl hb)), (T1.trans (Tg.of_G (unhide gd))).trans r3, X.ok.add X.nd, X.mo.trans (StMore.one _ _ _ _ _ (Nat.le_refl _)), by simp, ?_⟩
        · rw [e]
        · rw [List.length_append]; exact X.ln)
      obtain ⟨w1, hrun, hS1, FIN⟩ := unhide NT
      obtain ⟨G1, T1, v0, v1, hw2⟩ := unhide FG
      have k14 := G1.cells.2.1
      replace hS1 := hide hS1
      replace FIN := hide FIN
      go_upto_region 13 with fail
      refine wp_region_noPanic ?_
      refine wp_region_held_drew (S := fun x => x.cell? ⟨gB, 14, none⟩ = some (.map (some mb)) ∧ x.cell? ⟨w.heap.size, 0, none⟩ = some (.int .i64 (a : Int)) ∧ x.cell? ⟨w.heap.size, 1, none⟩ = some (.int .i64 (c : Int))) (by kernel_rfl) ⟨(unhide gd).cell k14, (unhide gd).cell v0, (unhide gd).cell v1⟩ (fun hHeld => ?_)
      obtain ⟨y0, hy0⟩ : ∃ y, y = wc.drew := ⟨_, rfl⟩
      rw [← hy0] at hHeld hrun ⊢
      clear hy0 gd NT FG G1 T1 v0 v1 k14 ST AP hw2
      refine wpAnyH_take (i := 0) (v := .pointer (some ⟨gB, 0, none⟩)) rfl (by kernel_rfl) (by kernel_rfl) (by kernel_rfl) (fun _ _ _ h => h) (Or.inl ⟨by rfl, fun w hSw => by obtain ⟨t0, t1, t2⟩ := hSw; go_simp⟩) (by assumption) ?_
      try simp only [Act.put, List.getElem_toArray, List.getElem_cons_zero, List.setIfInBounds_toArray, List.set_cons_zero, List.set_cons_succ]
      refine wpAnyH_take (i := 1) (v := .pointer (some ⟨gB, 0, none⟩)) rfl (by kernel_rfl) (by kernel_rfl) (by kernel_rfl) (fun _ _ _ h => h) (Or.inl ⟨by rfl, fun w hSw => by obtain ⟨t0, t1, t2⟩ := hSw; go_simp⟩) (by assumption) ?_
      try simp only [Act.put, List.getElem_toArray, List.getElem_cons_succ, List.getElem_cons_zero, List.setIfInBounds_toArray, List.set_cons_zero, List.set_cons_succ]
      refine wpAnyH_take (i := 2) (v := .pointer (some ⟨gB, 14, none⟩)) rfl (by kernel_rfl) (by kernel_rfl) (by kernel_rfl) (fun _ _ _ h => h) (Or.inl ⟨by rfl, fun w hSw => by obtain ⟨t0, t1, t2⟩ := hSw; go_simp⟩) (by assumption) ?_
      try simp only [Act.put, List.getElem_toArray, List.getElem_cons_succ, List.getElem_cons_zero, List.setIfInBounds_toArray, List.set_cons_zero, List.set_cons_succ]
      refine wpAnyH_take (i := 3) (v := .map (some mb)) rfl (by kernel_rfl) (by kernel_rfl) (by kernel_rfl) (fun _ _ _ h => h) (Or.inl ⟨by rfl, fun w hSw => by obtain ⟨t0, t1, t2⟩ := hSw; go_simp⟩) (by assumption) ?_
      try simp only [Act.put, List.getElem_toArray, List.getElem_cons_succ, List.getElem_cons_zero, List.setIfInBounds_toArray, List.set_cons_zero, List.set_cons_succ]
      refine wpAnyH_take (i := 4) (v := .agg #[.int .i64 (a : Int), .int .i64 (c : Int)]) rfl (by kernel_rfl) (by kernel_rfl) (by kernel_rfl) (fun _ _ _ h => h) (Or.inl ⟨by rfl, fun w hSw => by obtain ⟨t0, t1, t2⟩ := hSw; go_simp⟩) (by assumption) ?_
      try simp only [Act.put, List.getElem_toArray, List.getElem_cons_succ, List.getElem_cons_zero, List.setIfInBounds_toArray, List.set_cons_zero, List.set_cons_succ]
      refine wpAnyH_take (i := 5) (v := .int .i64 (NL : Int)) rfl (by kernel_rfl) (by kernel_rfl) (by kernel_rfl) (fun _ _ _ h => h) (Or.inl ⟨by rfl, fun w hSw => by obtain ⟨t0, t1, t2⟩ := hSw; go_simp⟩) (by assumption) ?_
      try simp only [Act.put, List.getElem_toArray, List.getElem_cons_succ, List.getElem_cons_zero, List.setIfInBounds_toArray, List.set_cons_zero, List.set_cons_succ]
      refine wpAnyH_ready (rs := [6]) (by kernel_rfl) (by simp) ?_
      refine AllReadyH.cons rfl (fun K hK => ?_) AllReadyH.nil
      go_simp
      refine hK.out _ _ (unhide hS1) (fun hH => ?_)
      clear hK K
      try simp only [Act.put, List.getElem_toArray, List.getElem_cons_succ, List.getElem_cons_zero, List.setIfInBounds_toArray, List.set_cons_zero, List.set_cons_succ]
      refine wpAnyH_done (by kernel_rfl) (NoPanic.normal ?_) _
      go_wp2_with fail
      refine bodyPost_ret (by simp [results, Tryz.results58, go_sem]; try rfl) rfl ?_
      exact unhide FIN
theorem stretch_all (CN : CaseC) (W : World) (gB mb n0 : Nat) (m : Md) (so : Option Addr) (sc : Nat) (go : Option Addr) (gc : Nat) (co : Option Addr) (cc : Nat) (ao : Option Addr) (ac : Nat) (fo : Option Addr) (fc : Nat) (f : Fn) (ko : Option Addr) (kc : Nat) (io : Option Addr) (ic : Nat) (mo : Option Addr) (mc : Nat)
    (r4 : RowAt elCa W ao m.ca.length ac m.ca) (oc : ∀ s ∈ m.ca, oCa s) (hcl : m.ca.length ≤ 1000000) (hn0 : n0 = f.is.length) : ∀ c, StC W gB mb n0 (hdV m so sc go gc co cc ao ac fo fc f ko kc io ic mo mc) m c := by
  intro c
  induction c using Nat.strongRecOn with
  | ind c ih =>
    intro w rb cap ns l E a H gW hE HO h1 hac hN
    by_cases hm : (a, c) ∈ l
    · exact stretch_old w W gB mb rb cap n0 _ m ns l E a c H HO (by omega) hm
    · exact stretch_new CN w W gB mb rb cap n0 m so sc go gc co cc ao ac fo fc f ko kc io ic mo mc r4 oc hcl hn0 ns l E a c ih H gW hE HO h1 hac hN hm
end Go.Proofs.YtnliooflpclcbaaGreatDoor
