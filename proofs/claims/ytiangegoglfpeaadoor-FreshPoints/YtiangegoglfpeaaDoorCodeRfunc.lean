/- gantlineref17.Func: a function told as the document's own. -/
import Derived.Test.YtiangegoglfpeaaDoorCodeGr
import Derived.Test.YtiangegoglfpeaaDoorCodeRinstr
import Derived.Deep.DeepCutAuto
namespace Go.Proofs.YtiangegoglfpeaaDoor
set_option maxRecDepth 100000
open Go.RowKit Go.Maps Go.ChangeShapes Go.WideShapes Go.ChangeAt Go.Deep

theorem step_app {ops : Array Oper} {o : Oper} {a : Act} {w : World} {K : Act → World → Prop} {Q : Exit → Act → World → Prop} {E : Prop} (hg : o.guard = none) (s x : Operand) (t : TypeId) (hop : o.op = Op.call { callee := Callee.builtin Builtin.append, args := #[s, x], argTypes := #[t, t] }) (vs vx : Value) (hs : a.eval s = vs) (hx : a.eval x = vx) (v' : Value) (w' : World)
    (hrun : (Builtin.append_ #[t, t] o.type #[vs, vx]).run Tryd.prog w = .ok v' w') (hK : K (a.put o.dst v') w') : if Region.wanted o (yielded ops a.tmps) = true then Oper.wp Tryd.prog o a w K Q else E := by
  have hw : Region.wanted o (yielded ops a.tmps) = true := by simp [Region.wanted, hg]
  rw [if_pos hw]
  unfold Oper.wp
  simp [execOp, hop, resolve, invoke, builtin, hs, hx, hrun, Result.andThen]
  exact hK
theorem app_bool {x : World} {ao : Option Addr} {n c : Nat} {l : List Bool} (hr : RowAt elB x ao n c l) (hn : n ≤ 10000000) (eb : Nat) :
    ∃ b c' x', (Builtin.append_ #[24, 24] 24 #[.slice (some ⟨eb, 0, none⟩) 0 0, .slice ao n c]).run Tryd.prog x = .ok (.slice (some ⟨b, 0, none⟩) n c') x' ∧ G x x' ∧ RowAt elB x' (some ⟨b, 0, none⟩) n c' l ∧ (n = 0 ∨ (b = x.heap.size ∧ b < x'.heap.size)) := by
  obtain ⟨i, hi, hz, hs, hb⟩ := info_parts info_bool
  exact app_new Value.bool (fun _ => rfl) 24 4 i _ Tryd.underlying24 hi hz hs (by rw [hb]; decide) hr hn eb _
theorem app_u64 {x : World} {ao : Option Addr} {n c : Nat} {l : List Nat} (hr : RowAt elU x ao n c l) (hn : n ≤ 10000000) (eb : Nat) :
    ∃ b c' x', (Builtin.append_ #[31, 31] 31 #[.slice (some ⟨eb, 0, none⟩) 0 0, .slice ao n c]).run Tryd.prog x = .ok (.slice (some ⟨b, 0, none⟩) n c') x' ∧ G x x' ∧ RowAt elU x' (some ⟨b, 0, none⟩) n c' l ∧ (n = 0 ∨ (b = x.heap.size ∧ b < x'.heap.size)) := by
  obtain ⟨i, hi, hz, hs, hb⟩ := info_parts info_uint64
  exact app_new (fun u : Nat => Value.int .u64 (u : Int)) (fun _ => rfl) 31 57 i _ Tryd.underlying31 hi hz hs (by rw [hb]; decide) hr hn eb _
theorem row_own {α : Type} {E : El α} (hE : ∀ w w' a cs, E.cs w a cs → E.cs w' a cs) {w w' : World} {b n c : Nat} {l : List α} (h : RowAt E w (some ⟨b, 0, none⟩) n c l) (hd : n = 0 ∨ w'.heap[b]? = w.heap[b]?) (hs : w.heap.size ≤ w'.heap.size) : RowAt E w' (some ⟨b, 0, none⟩) n c l := by
  refine ⟨h.1, h.2.1, h.2.2.1, ?_⟩
  rcases hd with hd | hd
  · exact Or.inl hd
  rcases h.2.2.2 with h0 | ⟨b', off, e, hb, hc⟩
  · exact Or.inl h0
  · cases e
    refine Or.inr ⟨b, 0, rfl, by omega, fun i a hi => ?_⟩
    obtain ⟨cs, h1, h2⟩ := hc i a hi
    exact ⟨cs, hE _ _ _ _ h1, h2.kept hd⟩
/-- The document's function, its code still to come. -/
structure FnG (W1 : World) (a : Fn) (gb b1 c1 b2 c2 : Nat) (x : World) : Prop where
  lo : W1.heap.size ≤ gb
  lt : gb < x.heap.size
  cs : CellsAt x gb 0 [.int .i64 a.p, .int .i64 a.c, .int .i64 a.s, .int .i64 a.r, .slice (some ⟨b1, 0, none⟩) a.ks.length c1, .slice none 0 0, .slice (some ⟨b2, 0, none⟩) a.ms.length c2]
  fz : ∀ j, j < 7 → x.frozen? ⟨gb, j, none⟩ = false
  r1 : RowAt elB x (some ⟨b1, 0, none⟩) a.ks.length c1 a.ks
  r2 : RowAt elU x (some ⟨b2, 0, none⟩) a.ms.length c2 a.ms
  d1 : a.ks.length = 0 ∨ (b1 ≠ gb ∧ W1.heap.size ≤ b1)
  d2 : a.ms.length = 0 ∨ (b2 ≠ gb ∧ W1.heap.size ≤ b2)
  g : G W1 x
theorem setN_G {w : World} (b : Nat) (hb : w.heap.size ≤ b) : ∀ (vs : List Value) (W : World) (off : Nat), G w W → G w (setN W b off vs)
  | [], _, _, h => h
  | v :: vs, _, off, h => setN_G b hb vs _ (off + 1) (G.set h b off v hb)
theorem fn_leaf {W1 Y y : World} {a : Fn} {gb b1 c1 b2 c2 : Nat} (hg : G W1 y) (hgb : W1.heap.size ≤ gb) (hY : gb = Y.heap.size) (hz : G (Y.alloc (.cells #[.int .i64 0, .int .i64 0, .int .i64 0, .int .i64 0, .slice none 0 0, .slice none 0 0, .slice none 0 0] 50)) y) (R1 : RowAt elB y (some ⟨b1, 0, none⟩) a.ks.length c1 a.ks) (R2 : RowAt elU y (some ⟨b2, 0, none⟩) a.ms.length c2 a.ms) (d1 : a.ks.length = 0 ∨ (b1 ≠ gb ∧ W1.heap.size ≤ b1)) (d2 : a.ms.length = 0 ∨ (b2 ≠ gb ∧ W1.heap.size ≤ b2)) :
    FnG W1 a gb b1 c1 b2 c2 (setN y gb 0 [.int .i64 a.p, .int .i64 a.c, .int .i64 a.s, .int .i64 a.r, .slice (some ⟨b1, 0, none⟩) a.ks.length c1, .slice none 0 0, .slice (some ⟨b2, 0, none⟩) a.ms.length c2]) := by
  subst hY
  have hlt : Y.heap.size < y.heap.size := by have := hz.size; rw [World.size_alloc] at this; omega
  have hbk := hz.block Y.heap.size (by rw [World.size_alloc]; omega)
  have hnew := heap_alloc_new Y (.cells #[.int .i64 0, .int .i64 0, .int .i64 0, .int .i64 0, .slice none 0 0, .slice none 0 0, .slice none 0 0] 50)
  have hcell : ∀ i, i < 7 → (y.cell? ⟨Y.heap.size, 0 + i, none⟩).isSome = true := fun i hi => by
    rw [Nat.zero_add, World.cell?_of_block (a := ⟨Y.heap.size, i, none⟩) hbk, cell_of_row _ _ i _ _ _ hnew]
    match i, hi with
    | 0, _ => rfl
    | 1, _ => rfl
    | 2, _ => rfl
    | 3, _ => rfl
    | 4, _ => rfl
    | 5, _ => rfl
    | 6, _ => rfl
  refine ⟨hgb, by rw [setN_size]; exact hlt, fun j v hj => setN_in _ _ _ _ j v hj hcell, fun j _ => ?_, ?_, ?_, d1, d2, setN_G _ hgb _ _ _ hg⟩
  · rw [setN_fro, World.frozen?_of_block (a := ⟨Y.heap.size, j, none⟩) hbk]
    unfold World.frozen?
    rw [hnew]
    simp
  · exact row_own (fun _ _ _ _ h => h) R1 (d1.imp id fun h => setN_heap _ _ _ _ _ h.1) (by rw [setN_size]; exact Nat.le_refl _)
  · exact row_own (fun _ _ _ _ h => h) R2 (d2.imp id fun h => setN_heap _ _ _ _ _ h.1) (by rw [setN_size]; exact Nat.le_refl _)


/-- An instruction's cells. -/
abbrev flI (i : In) : List Value := [.int .i64 i.op, .int .i64 i.a, .int .i64 i.b, .int .i64 i.c, .int .i64 i.d]
theorem flI_at : ∀ (l : List In) (i : Nat) (a : In), l[i]? = some a → ∀ j v, (flI a)[j]? = some v → (l.flatMap flI)[i * 5 + j]? = some v
  | [], _, _, h, _, _, _ => by simp at h
  | x :: l, 0, a, h, j, v, hv => by
    simp at h
    subst h
    have hj := (List.getElem?_eq_some_iff.1 hv).1
    rw [Nat.zero_mul, Nat.zero_add, List.flatMap_cons, List.getElem?_append_left hj]
    exact hv
  | x :: l, i + 1, a, h, j, v, hv => by
    have h2 : l[i]? = some a := by simpa using h
    have := flI_at l i a h2 j v hv
    rw [List.flatMap_cons, List.getElem?_append_right (by simp; omega)]
    have e : (i + 1) * 5 + j - (flI x).length = i * 5 + j := by simp; omega
    rw [e]
    exact this
theorem own_rowIn {w : World} {B : Nat} {v : Value} {n : Nat} {l : List In} (h : w.ownsRow B 79 5 v n (l.flatMap flI)) (hl : l.length = n) :
    ∃ ao c, v = .slice ao n c ∧ RowAt elIn w ao n c l ∧ (n = 0 ∨ ∃ g, ao = some ⟨g, 0, none⟩ ∧ B ≤ g) := by
  rcases h.2 with ⟨rfl, rfl⟩ | ⟨g, cap, cur, rfl, h2, h3, h4, h5, h6, h7⟩
  · obtain rfl : l = [] := List.eq_nil_of_length_eq_zero hl
    exact ⟨none, 0, rfl, RowAt.nil w, Or.inl rfl⟩
  · have hlt : g < w.heap.size := by
      rcases Nat.lt_or_ge g w.heap.size with hh | hh
      · exact hh
      · rw [Array.getElem?_eq_none hh] at h3; cases h3
    refine ⟨some ⟨g, 0, none⟩, cap, rfl, ⟨hl, Nat.le_trans h4 h5, (fun e => by cases e), Or.inr ⟨g, 0, rfl, hlt, fun i a hi => ⟨flI a, rfl, fun j u hj => ?_⟩⟩⟩, Or.inr ⟨g, rfl, h2⟩⟩
    have hq := flI_at l i a hi j u hj
    rw [← h7, List.getElem?_take] at hq
    split at hq
    · rw [cell_of_row _ _ _ _ _ _ h3, Nat.zero_add]
      simpa [elIn] using hq
    · cases hq
theorem row_blk {α : Type} {E : El α} (hE : ∀ w w' a cs, E.cs w a cs → E.cs w' a cs) {w w' : World} {ao : Option Addr} {n c : Nat} {l : List α} (h : RowAt E w ao n c l) (hd : n = 0 ∨ ∃ b, ao = some ⟨b, 0, none⟩ ∧ w'.heap[b]? = w.heap[b]?) (hs : w.heap.size ≤ w'.heap.size) : RowAt E w' ao n c l := by
  rcases hd with hd | ⟨b, rfl, hd⟩
  · exact ⟨h.1, h.2.1, h.2.2.1, Or.inl hd⟩
  · exact row_own hE h (Or.inr hd) hs
theorem info_rinstr : (Tryd.prog.info? 79).map (fun i => (i.zero, i.size, i.bytes)) = some (some (.agg #[.int .i64 0, .int .i64 0, .int .i64 0, .int .i64 0, .int .i64 0]), 5, 40) := by kernel_rfl
theorem fn_fin {W1 wc wr : World} {a : Fn} {gb b1 c1 b2 c2 : Nat} {v : Value} (F : FnG W1 a gb b1 c1 b2 c2 wc) (H : GrL 79 5 wc gb 5 [.int .i64 a.p, .int .i64 a.c, .int .i64 a.s, .int .i64 a.r, .slice (some ⟨b1, 0, none⟩) a.ks.length c1, .slice none 0 0, .slice (some ⟨b2, 0, none⟩) a.ms.length c2] a.is.length (a.is.flatMap flI) v wr) (rb : Nat) (hrb : rb < W1.heap.size) :
    ∃ vo vc, v = .slice vo a.is.length vc ∧ ∀ w2, KeepFrom W1.heap.size (setN wr rb 0 [.int .i64 a.p, .int .i64 a.c, .int .i64 a.s, .int .i64 a.r, .slice (some ⟨b1, 0, none⟩) a.ks.length c1, v, .slice (some ⟨b2, 0, none⟩) a.ms.length c2]) w2 → FnCells w2 a [.int .i64 a.p, .int .i64 a.c, .int .i64 a.s, .int .i64 a.r, .slice (some ⟨b1, 0, none⟩) a.ks.length c1, v, .slice (some ⟨b2, 0, none⟩) a.ms.length c2] := by
  obtain ⟨vo, vc, rfl, R, hd⟩ := own_rowIn H.own rfl
  have hW := F.g.size
  have hsz := H.size
  refine ⟨vo, vc, rfl, fun w2 kw => ?_⟩
  have kz : wr.heap.size ≤ w2.heap.size := by have := kw.2; rw [setN_size] at this; exact this
  have kb : ∀ b, W1.heap.size ≤ b → b < wr.heap.size → w2.heap[b]? = wr.heap[b]? := fun b h1 h2 => (kw.1 b h1 (by rw [setN_size]; exact h2)).trans (setN_heap _ _ _ _ _ (by omega))
  refine ⟨some ⟨b1, 0, none⟩, c1, vo, vc, some ⟨b2, 0, none⟩, c2, rfl, ?_, ?_, ?_⟩
  · have hb : a.ks.length = 0 ∨ b1 < wc.heap.size := by
      rcases F.r1.2.2.2 with h | ⟨b, off, e, h, _⟩
      · exact Or.inl h
      · cases e; exact Or.inr h
    refine row_own (fun _ _ _ _ h => h) F.r1 ?_ (by omega)
    rcases hb with hb | hb
    · exact Or.inl hb
    · rcases F.d1 with hd | ⟨h1, h2⟩
      · exact Or.inl hd
      · exact Or.inr ((kb b1 h2 (by omega)).trans (H.bl b1 hb h1))
  · refine row_blk (fun _ _ _ _ h => h) R ?_ kz
    rcases hd with hd | ⟨g, rfl, hg⟩
    · exact Or.inl hd
    · rcases R.2.2.2 with h | ⟨b, off, e, h, _⟩
      · exact Or.inl h
      · cases e
        exact Or.inr ⟨_, rfl, kb _ (by omega) h⟩
  · have hb : a.ms.length = 0 ∨ b2 < wc.heap.size := by
      rcases F.r2.2.2.2 with h | ⟨b, off, e, h, _⟩
      · exact Or.inl h
      · cases e; exact Or.inr h
    refine row_own (fun _ _ _ _ h => h) F.r2 ?_ (by omega)
    rcases hb with hb | hb
    · exact Or.inl hb
    · rcases F.d2 with hd | ⟨h1, h2⟩
      · exact Or.inl hd
      · exact Or.inr ((kb b2 h2 (by omega)).trans (H.bl b2 hb h1))


set_option maxHeartbeats 4000000 in
theorem rfunc (w : World) (a : Fn) (ko : Option Addr) (kc : Nat) (io : Option Addr) (ic : Nat) (mo : Option Addr) (mc : Nat) (r1 : RowAt elB w ko a.ks.length kc a.ks) (r2 : RowAt elIn w io a.is.length ic a.is) (r3 : RowAt elU w mo a.ms.length mc a.ms) (n1 : a.ks.length ≤ 10000000) (n2 : a.is.length ≤ 10000000) (n3 : a.ms.length ≤ 10000000) :
    Calls Tryd.prog 13 #[.agg #[.int .i64 a.p, .int .i64 a.c, .int .i64 a.s, .int .i64 a.r, .slice ko a.ks.length kc, .slice io a.is.length ic, .slice mo a.ms.length mc]] w fun e w' => ∃ cs, e = .returned (.agg cs.toArray) ∧ (∀ w2, KeepFrom w.heap.size w' w2 → FnCells w2 a cs) ∧ G w w' := by
  go_enter Tryd.func13, Tryd.ntmps13
  go_upto_region 1 with fail
  obtain ⟨W1, hW1⟩ : ∃ W1, W1 = ((w.alloc (.cells #[.int .i64 a.p, .int .i64 a.c, .int .i64 a.s, .int .i64 a.r, .slice ko a.ks.length kc, .slice io a.is.length ic, .slice mo a.ms.length mc] 33)).alloc (.cells #[.int .i64 0, .int .i64 0, .int .i64 0, .int .i64 0, .slice none 0 0, .slice none 0 0, .slice none 0 0] 50)) := ⟨_, rfl⟩
  have g1 : G w W1 := by rw [hW1]; exact ((G.refl w).more _).more _
  have hs1 : W1.heap.size = w.heap.size + 2 := by rw [hW1, World.size_alloc, World.size_alloc]
  have KP : Hid (∀ x, G W1 x → G W1 x ∧ x.cell? ⟨w.heap.size, 0, none⟩ = some (.int .i64 a.p) ∧ x.cell? ⟨w.heap.size, 1, none⟩ = some (.int .i64 a.c) ∧ x.cell? ⟨w.heap.size, 2, none⟩ = some (.int .i64 a.s) ∧ x.cell? ⟨w.heap.size, 3, none⟩ = some (.int .i64 a.r) ∧ x.cell? ⟨w.heap.size, 4, none⟩ = some (.slice ko a.ks.length kc) ∧ x.cell? ⟨w.heap.size, 5, none⟩ = some (.slice io a.is.length ic) ∧ x.cell? ⟨w.heap.size, 6, none⟩ = some (.slice mo a.ms.length mc)) := hide fun x g => ⟨g, g.cell (by rw [hW1]; simp [go_sem]), g.cell (by rw [hW1]; simp [go_sem]), g.cell (by rw [hW1]; simp [go_sem]), g.cell (by rw [hW1]; simp [go_sem]), g.cell (by rw [hW1]; simp [go_sem]), g.cell (by rw [hW1]; simp [go_sem]), g.cell (by rw [hW1]; simp [go_sem])⟩
  have A1 : Hid (∀ x, G W1 x → ∀ eb, _) := hide fun x g eb => app_bool (r1.g okB (g1.trans g)) n1 eb
  have A2 : Hid (∀ x, G W1 x → ∀ eb, _) := hide fun x g eb => app_u64 (r3.g okU (g1.trans g)) n3 eb
  have KR : Hid (∀ x, G W1 x → (x.cell? ⟨w.heap.size + 1, 0, none⟩ = some (.int .i64 0) ∧ x.frozen? ⟨w.heap.size + 1, 0, none⟩ = false) ∧ (x.cell? ⟨w.heap.size + 1, 1, none⟩ = some (.int .i64 0) ∧ x.frozen? ⟨w.heap.size + 1, 1, none⟩ = false) ∧ (x.cell? ⟨w.heap.size + 1, 2, none⟩ = some (.int .i64 0) ∧ x.frozen? ⟨w.heap.size + 1, 2, none⟩ = false) ∧ (x.cell? ⟨w.heap.size + 1, 3, none⟩ = some (.int .i64 0) ∧ x.frozen? ⟨w.heap.size + 1, 3, none⟩ = false) ∧ (x.cell? ⟨w.heap.size + 1, 4, none⟩ = some (.slice none 0 0) ∧ x.frozen? ⟨w.heap.size + 1, 4, none⟩ = false) ∧ (x.cell? ⟨w.heap.size + 1, 5, none⟩ = some (.slice none 0 0) ∧ x.frozen? ⟨w.heap.size + 1, 5, none⟩ = false) ∧ (x.cell? ⟨w.heap.size + 1, 6, none⟩ = some (.slice none 0 0) ∧ x.frozen? ⟨w.heap.size + 1, 6, none⟩ = false)) := hide fun x g => ⟨⟨g.cell (by rw [hW1]; simp [go_sem]), (World.frozen?_of_block (g.block (w.heap.size + 1) (by omega))).trans (by rw [hW1]; simp [go_sem])⟩, ⟨g.cell (by rw [hW1]; simp [go_sem]), (World.frozen?_of_block (g.block (w.heap.size + 1) (by omega))).trans (by rw [hW1]; simp [go_sem])⟩, ⟨g.cell (by rw [hW1]; simp [go_sem]), (World.frozen?_of_block (g.block (w.heap.size + 1) (by omega))).trans (by rw [hW1]; simp [go_sem])⟩, ⟨g.cell (by rw [hW1]; simp [go_sem]), (World.frozen?_of_block (g.block (w.heap.size + 1) (by omega))).trans (by rw [hW1]; simp [go_sem])⟩, ⟨g.cell (by rw [hW1]; simp [go_sem]), (World.frozen?_of_block (g.block (w.heap.size + 1) (by omega))).trans (by rw [hW1]; simp [go_sem])⟩, ⟨g.cell (by rw [hW1]; simp [go_sem]), (World.frozen?_of_block (g.block (w.heap.size + 1) (by omega))).trans (by rw [hW1]; simp [go_sem])⟩, ⟨g.cell (by rw [hW1]; simp [go_sem]), (World.frozen?_of_block (g.block (w.heap.size + 1) (by omega))).trans (by rw [hW1]; simp [go_sem])⟩⟩
  rw [← hW1]
  replace hs1 := hide hs1
  replace g1 := hide g1
  replace r2 := hide r2
  clear hW1 r1 r3
  go_cut [3] (fun p wx => ∃ gb b1 c1 b2 c2, p = .pointer (some ⟨gb, 0, none⟩) ∧ Hid (FnG W1 a gb b1 c1 b2 c2 wx))
  case first =>
    refine wp_region_noPanic ?_
    refine wp_region_held_drew (S := fun x => G W1 x ∧ x.cell? ⟨w.heap.size, 0, none⟩ = some (.int .i64 a.p) ∧ x.cell? ⟨w.heap.size, 1, none⟩ = some (.int .i64 a.c) ∧ x.cell? ⟨w.heap.size, 2, none⟩ = some (.int .i64 a.s) ∧ x.cell? ⟨w.heap.size, 3, none⟩ = some (.int .i64 a.r) ∧ x.cell? ⟨w.heap.size, 4, none⟩ = some (.slice ko a.ks.length kc) ∧ x.cell? ⟨w.heap.size, 5, none⟩ = some (.slice io a.is.length ic) ∧ x.cell? ⟨w.heap.size, 6, none⟩ = some (.slice mo a.ms.length mc)) (by kernel_rfl) (unhide KP _ ((G.refl W1).drew)) (fun hHeld => ?_)
    obtain ⟨y0, hy0⟩ : ∃ y, y = W1.drew := ⟨_, rfl⟩
    have s0 : Hid (y0.heap.size = W1.heap.size) := hide (by rw [hy0]; rfl)
    rw [← hy0] at hHeld ⊢
    clear hy0
    refine wpAnyH_take (i := 0) (v := .pointer (some ⟨w.heap.size, 0, none⟩)) rfl (by kernel_rfl) (by kernel_rfl) (by kernel_rfl) (fun _ _ _ h => h) (Or.inl ⟨by rfl, fun w hSw => by obtain ⟨t0, t1, t2, t3, t4, t5, t6, t7⟩ := hSw; go_simp⟩) (by assumption) ?_
    try simp only [Act.put, List.getElem_toArray, List.getElem_cons_zero, List.setIfInBounds_toArray, List.set_cons_zero, List.set_cons_succ]
    refine wpAnyH_take (i := 1) (v := .int .i64 a.p) rfl (by kernel_rfl) (by kernel_rfl) (by kernel_rfl) (fun _ _ _ h => h) (Or.inl ⟨by rfl, fun w hSw => by obtain ⟨t0, t1, t2, t3, t4, t5, t6, t7⟩ := hSw; go_simp⟩) (by assumption) ?_
    try simp only [Act.put, List.getElem_toArray, List.getElem_cons_succ, List.getElem_cons_zero, List.setIfInBounds_toArray, List.set_cons_zero, List.set_cons_succ]
    refine wpAnyH_take (i := 2) (v := .pointer (some ⟨w.heap.size, 1, none⟩)) rfl (by kernel_rfl) (by kernel_rfl) (by kernel_rfl) (fun _ _ _ h => h) (Or.inl ⟨by rfl, fun w hSw => by obtain ⟨t0, t1, t2, t3, t4, t5, t6, t7⟩ := hSw; go_simp⟩) (by assumption) ?_
    try simp only [Act.put, List.getElem_toArray, List.getElem_cons_succ, List.getElem_cons_zero, List.setIfInBounds_toArray, List.set_cons_zero, List.set_cons_succ]
    refine wpAnyH_take (i := 3) (v := .int .i64 a.c) rfl (by kernel_rfl) (by kernel_rfl) (by kernel_rfl) (fun _ _ _ h => h) (Or.inl ⟨by rfl, fun w hSw => by obtain ⟨t0, t1, t2, t3, t4, t5, t6, t7⟩ := hSw; go_simp⟩) (by assumption) ?_
    try simp only [Act.put, List.getElem_toArray, List.getElem_cons_succ, List.getElem_cons_zero, List.setIfInBounds_toArray, List.set_cons_zero, List.set_cons_succ]
    refine wpAnyH_take (i := 4) (v := .pointer (some ⟨w.heap.size, 2, none⟩)) rfl (by kernel_rfl) (by kernel_rfl) (by kernel_rfl) (fun _ _ _ h => h) (Or.inl ⟨by rfl, fun w hSw => by obtain ⟨t0, t1, t2, t3, t4, t5, t6, t7⟩ := hSw; go_simp⟩) (by assumption) ?_
    try simp only [Act.put, List.getElem_toArray, List.getElem_cons_succ, List.getElem_cons_zero, List.setIfInBounds_toArray, List.set_cons_zero, List.set_cons_succ]
    refine wpAnyH_take (i := 5) (v := .int .i64 a.s) rfl (by kernel_rfl) (by kernel_rfl) (by kernel_rfl) (fun _ _ _ h => h) (Or.inl ⟨by rfl, fun w hSw => by obtain ⟨t0, t1, t2, t3, t4, t5, t6, t7⟩ := hSw; go_simp⟩) (by assumption) ?_
    try simp only [Act.put, List.getElem_toArray, List.getElem_cons_succ, List.getElem_cons_zero, List.setIfInBounds_toArray, List.set_cons_zero, List.set_cons_succ]
    refine wpAnyH_take (i := 6) (v := .pointer (some ⟨w.heap.size, 3, none⟩)) rfl (by kernel_rfl) (by kernel_rfl) (by kernel_rfl) (fun _ _ _ h => h) (Or.inl ⟨by rfl, fun w hSw => by obtain ⟨t0, t1, t2, t3, t4, t5, t6, t7⟩ := hSw; go_simp⟩) (by assumption) ?_
    try simp only [Act.put, List.getElem_toArray, List.getElem_cons_succ, List.getElem_cons_zero, List.setIfInBounds_toArray, List.set_cons_zero, List.set_cons_succ]
    refine wpAnyH_take (i := 7) (v := .int .i64 a.r) rfl (by kernel_rfl) (by kernel_rfl) (by kernel_rfl) (fun _ _ _ h => h) (Or.inl ⟨by rfl, fun w hSw => by obtain ⟨t0, t1, t2, t3, t4, t5, t6, t7⟩ := hSw; go_simp⟩) (by assumption) ?_
    try simp only [Act.put, List.getElem_toArray, List.getElem_cons_succ, List.getElem_cons_zero, List.setIfInBounds_toArray, List.set_cons_zero, List.set_cons_succ]
    refine wpAnyH_take (i := 9) (v := .pointer (some ⟨w.heap.size, 4, none⟩)) rfl (by kernel_rfl) (by kernel_rfl) (by kernel_rfl) (fun _ _ _ h => h) (Or.inl ⟨by rfl, fun w hSw => by obtain ⟨t0, t1, t2, t3, t4, t5, t6, t7⟩ := hSw; go_simp⟩) (by assumption) ?_
    try simp only [Act.put, List.getElem_toArray, List.getElem_cons_succ, List.getElem_cons_zero, List.setIfInBounds_toArray, List.set_cons_zero, List.set_cons_succ]
    refine wpAnyH_take (i := 10) (v := .slice ko a.ks.length kc) rfl (by kernel_rfl) (by kernel_rfl) (by kernel_rfl) (fun _ _ _ h => h) (Or.inl ⟨by rfl, fun w hSw => by obtain ⟨t0, t1, t2, t3, t4, t5, t6, t7⟩ := hSw; go_simp⟩) (by assumption) ?_
    try simp only [Act.put, List.getElem_toArray, List.getElem_cons_succ, List.getElem_cons_zero, List.setIfInBounds_toArray, List.set_cons_zero, List.set_cons_succ]
    refine wpAnyH_take (i := 13) (v := .pointer (some ⟨w.heap.size, 6, none⟩)) rfl (by kernel_rfl) (by kernel_rfl) (by kernel_rfl) (fun _ _ _ h => h) (Or.inl ⟨by rfl, fun w hSw => by obtain ⟨t0, t1, t2, t3, t4, t5, t6, t7⟩ := hSw; go_simp⟩) (by assumption) ?_
    try simp only [Act.put, List.getElem_toArray, List.getElem_cons_succ, List.getElem_cons_zero, List.setIfInBounds_toArray, List.set_cons_zero, List.set_cons_succ]
    refine wpAnyH_take (i := 14) (v := .slice mo a.ms.length mc) rfl (by kernel_rfl) (by kernel_rfl) (by kernel_rfl) (fun _ _ _ h => h) (Or.inl ⟨by rfl, fun w hSw => by obtain ⟨t0, t1, t2, t3, t4, t5, t6, t7⟩ := hSw; go_simp⟩) (by assumption) ?_
    try simp only [Act.put, List.getElem_toArray, List.getElem_cons_succ, List.getElem_cons_zero, List.setIfInBounds_toArray, List.set_cons_zero, List.set_cons_succ]
    refine wpAnyH_ready (rs := [8, 12, 17]) (by kernel_rfl) (by simp) ?_
    refine AllReadyH.cons rfl (fun K hK => ?_) (AllReadyH.cons rfl (fun K hK => ?_) (AllReadyH.cons rfl (fun K hK => ?_) AllReadyH.nil))
    · go_simp
      refine hK.out _ _ (unhide KP _ (hHeld.1.more _)) (fun hHeld => ?_)
      clear hK K
      try simp only [Act.put, List.getElem_toArray, List.getElem_cons_succ, List.getElem_cons_zero, List.setIfInBounds_toArray, List.set_cons_zero, List.set_cons_succ]
      obtain ⟨y1, hy1⟩ : ∃ y, y = y0.alloc (.cells #[] 4) := ⟨_, rfl⟩
      have s1 : Hid (y1.heap.size = y0.heap.size + 1) := hide (by rw [hy1]; exact World.size_alloc _ _)
      have q1 : Hid (G y0 y1) := hide (by rw [hy1]; exact G.alloc _ _)
      rw [← hy1] at hHeld ⊢
      clear hy1
      refine wpAnyH_ready (rs := [11, 12, 17]) (by kernel_rfl) (by simp) ?_
      refine AllReadyH.cons rfl (fun K hK => ?_) (AllReadyH.cons rfl (fun K hK => ?_) (AllReadyH.cons rfl (fun K hK => ?_) AllReadyH.nil))
      · obtain ⟨b1, c1, y2, hrun, hg, hR1, hd1⟩ := unhide A1 y1 hHeld.1 y0.heap.size
        refine step_app rfl (.tmp 13) (.tmp 15) 24 rfl _ _ rfl rfl _ _ hrun ?_
        refine hK.out _ _ (unhide KP _ (hHeld.1.trans hg)) (fun hHeld => ?_)
        clear hK K hrun
        try simp only [Act.put, List.getElem_toArray, List.getElem_cons_succ, List.getElem_cons_zero, List.setIfInBounds_toArray, List.set_cons_zero, List.set_cons_succ]
        have s2 : Hid (y1.heap.size ≤ y2.heap.size) := hide hg.size
        have q2 : Hid (G y1 y2) := hide hg
        replace hR1 := hide hR1
        replace hd1 := hide hd1
        clear hg
        refine wpAnyH_ready (rs := [12, 17]) (by kernel_rfl) (by simp) ?_
        refine AllReadyH.cons rfl (fun K hK => ?_) (AllReadyH.cons rfl (fun K hK => ?_) AllReadyH.nil)
        · go_simp
          refine hK.out _ _ (unhide KP _ (hHeld.1.more _)) (fun hHeld => ?_)
          clear hK K
          try simp only [Act.put, List.getElem_toArray, List.getElem_cons_succ, List.getElem_cons_zero, List.setIfInBounds_toArray, List.set_cons_zero, List.set_cons_succ]
          obtain ⟨y3, hy3⟩ : ∃ y, y = y2.alloc (.cells #[] 57) := ⟨_, rfl⟩
          have s3 : Hid (y3.heap.size = y2.heap.size + 1) := hide (by rw [hy3]; exact World.size_alloc _ _)
          have q3 : Hid (G y2 y3) := hide (by rw [hy3]; exact G.alloc _ _)
          rw [← hy3] at hHeld ⊢
          clear hy3
          refine wpAnyH_ready (rs := [15, 17]) (by kernel_rfl) (by simp) ?_
          refine AllReadyH.cons rfl (fun K hK => ?_) (AllReadyH.cons rfl (fun K hK => ?_) AllReadyH.nil)
          · obtain ⟨b2, c2, y4, hrun, hg, hR2, hd2⟩ := unhide A2 y3 hHeld.1 y2.heap.size
            refine step_app rfl (.tmp 17) (.tmp 19) 31 rfl _ _ rfl rfl _ _ hrun ?_
            refine hK.out _ _ (unhide KP _ (hHeld.1.trans hg)) (fun hHeld => ?_)
            clear hK K hrun
            try simp only [Act.put, List.getElem_toArray, List.getElem_cons_succ, List.getElem_cons_zero, List.setIfInBounds_toArray, List.set_cons_zero, List.set_cons_succ]
            have s4 : Hid (y3.heap.size ≤ y4.heap.size) := hide hg.size
            have q4 : Hid (G y3 y4) := hide hg
            replace hR2 := hide hR2
            replace hd2 := hide hd2
            clear hg
            refine wpAnyH_take (i := 16) (v := .agg #[.int .i64 a.p, .int .i64 a.c, .int .i64 a.s, .int .i64 a.r, .slice (some ⟨b1, 0, none⟩) a.ks.length c1, .slice none 0 0, .slice (some ⟨b2, 0, none⟩) a.ms.length c2]) rfl (by kernel_rfl) (by kernel_rfl) (by kernel_rfl) (fun _ _ _ h => h) (Or.inl ⟨by rfl, fun w hSw => by obtain ⟨t0, t1, t2, t3, t4, t5, t6, t7⟩ := hSw; go_simp⟩) (by assumption) ?_
            try simp only [Act.put, List.getElem_toArray, List.getElem_cons_succ, List.getElem_cons_zero, List.setIfInBounds_toArray, List.set_cons_zero, List.set_cons_succ]
            refine wpAnyH_ready (rs := [17]) (by kernel_rfl) (by simp) ?_
            refine AllReadyH.cons rfl (fun K hK => ?_) AllReadyH.nil
            go_simp
            refine hK.out _ _ (unhide KP _ (hHeld.1.more _)) (fun hHeld => ?_)
            clear hK K
            try simp only [Act.put, List.getElem_toArray, List.getElem_cons_succ, List.getElem_cons_zero, List.setIfInBounds_toArray, List.set_cons_zero, List.set_cons_succ]
            obtain ⟨y5, hy5⟩ : ∃ y, y = y4.alloc (.cells #[.int .i64 0, .int .i64 0, .int .i64 0, .int .i64 0, .slice none 0 0, .slice none 0 0, .slice none 0 0] 50) := ⟨_, rfl⟩
            have s5 : Hid (y5.heap.size = y4.heap.size + 1) := hide (by rw [hy5]; exact World.size_alloc _ _)
            have q5 : Hid (G y4 y5) := hide (by rw [hy5]; exact G.alloc _ _)
            have qz : Hid (G (y4.alloc (.cells #[.int .i64 0, .int .i64 0, .int .i64 0, .int .i64 0, .slice none 0 0, .slice none 0 0, .slice none 0 0] 50)) y5) := hide (by rw [hy5]; exact G.refl _)
            rw [← hy5] at hHeld ⊢
            clear hy5
            refine wpAnyH_ready (rs := [18]) (by kernel_rfl) (by simp) ?_
            refine AllReadyH.cons rfl (fun K hK => ?_) AllReadyH.nil
            have R1 := (unhide hR1).g okB (((unhide q3).trans (unhide q4)).trans (unhide q5))
            have R2 := (unhide hR2).g okU (unhide q5)
            have d1 : a.ks.length = 0 ∨ (b1 ≠ y4.heap.size ∧ W1.heap.size ≤ b1) := (unhide hd1).imp id (fun h => by have u0 := unhide s0; have u1 := unhide s1; have u2 := unhide s2; have u3 := unhide s3; have u4 := unhide s4; have u5 := unhide s5; omega)
            have d2 : a.ms.length = 0 ∨ (b2 ≠ y4.heap.size ∧ W1.heap.size ≤ b2) := (unhide hd2).imp id (fun h => by have u0 := unhide s0; have u1 := unhide s1; have u2 := unhide s2; have u3 := unhide s3; have u4 := unhide s4; have u5 := unhide s5; omega)
            have hgb : W1.heap.size ≤ y4.heap.size := by have u0 := unhide s0; have u1 := unhide s1; have u2 := unhide s2; have u3 := unhide s3; have u4 := unhide s4; have u5 := unhide s5; omega
            have L := hide (fn_leaf hHeld.1 hgb rfl (unhide qz) R1 R2 d1 d2)
            have z0 := (unhide qz).cell (x := ⟨y4.heap.size, 0, none⟩) (v := .int .i64 0) (by simp [go_sem])
            have f0 : y5.frozen? ⟨y4.heap.size, 0, none⟩ = false := (World.frozen?_of_block ((unhide qz).block y4.heap.size (by rw [World.size_alloc]; omega))).trans (by simp [go_sem])
            have z1 := (unhide qz).cell (x := ⟨y4.heap.size, 1, none⟩) (v := .int .i64 0) (by simp [go_sem])
            have f1 : y5.frozen? ⟨y4.heap.size, 1, none⟩ = false := (World.frozen?_of_block ((unhide qz).block y4.heap.size (by rw [World.size_alloc]; omega))).trans (by simp [go_sem])
            have z2 := (unhide qz).cell (x := ⟨y4.heap.size, 2, none⟩) (v := .int .i64 0) (by simp [go_sem])
            have f2 : y5.frozen? ⟨y4.heap.size, 2, none⟩ = false := (World.frozen?_of_block ((unhide qz).block y4.heap.size (by rw [World.size_alloc]; omega))).trans (by simp [go_sem])
            have z3 := (unhide qz).cell (x := ⟨y4.heap.size, 3, none⟩) (v := .int .i64 0) (by simp [go_sem])
            have f3 : y5.frozen? ⟨y4.heap.size, 3, none⟩ = false := (World.frozen?_of_block ((unhide qz).block y4.heap.size (by rw [World.size_alloc]; omega))).trans (by simp [go_sem])
            have z4 := (unhide qz).cell (x := ⟨y4.heap.size, 4, none⟩) (v := .slice none 0 0) (by simp [go_sem])
            have f4 : y5.frozen? ⟨y4.heap.size, 4, none⟩ = false := (World.frozen?_of_block ((unhide qz).block y4.heap.size (by rw [World.size_alloc]; omega))).trans (by simp [go_sem])
            have z5 := (unhide qz).cell (x := ⟨y4.heap.size, 5, none⟩) (v := .slice none 0 0) (by simp [go_sem])
            have f5 : y5.frozen? ⟨y4.heap.size, 5, none⟩ = false := (World.frozen?_of_block ((unhide qz).block y4.heap.size (by rw [World.size_alloc]; omega))).trans (by simp [go_sem])
            have z6 := (unhide qz).cell (x := ⟨y4.heap.size, 6, none⟩) (v := .slice none 0 0) (by simp [go_sem])
            have f6 : y5.frozen? ⟨y4.heap.size, 6, none⟩ = false := (World.frozen?_of_block ((unhide qz).block y4.heap.size (by rw [World.size_alloc]; omega))).trans (by simp [go_sem])
            clear R1 R2 d1 d2 hgb
            go_simp
            refine hK.out _ _ (unhide KP _ (unhide L).g) (fun hHeld => ?_)
            clear hK K
            try simp only [Act.put, List.getElem_toArray, List.getElem_cons_succ, List.getElem_cons_zero, List.setIfInBounds_toArray, List.set_cons_zero, List.set_cons_succ]
            refine wpAnyH_done (by kernel_rfl) (NoPanic.normal ?_) _
            go_wp2_with fail
            go_meet
            exact ⟨_, b1, c1, b2, c2, rfl, L⟩
          · go_simp
            refine hK.out _ _ (unhide KP _ (hHeld.1.more _)) (fun hHeld => ?_)
            clear hK K
            try simp only [Act.put, List.getElem_toArray, List.getElem_cons_succ, List.getElem_cons_zero, List.setIfInBounds_toArray, List.set_cons_zero, List.set_cons_succ]
            obtain ⟨y4, hy4⟩ : ∃ y, y = y3.alloc (.cells #[.int .i64 0, .int .i64 0, .int .i64 0, .int .i64 0, .slice none 0 0, .slice none 0 0, .slice none 0 0] 50) := ⟨_, rfl⟩
            have s4 : Hid (y4.heap.size = y3.heap.size + 1) := hide (by rw [hy4]; exact World.size_alloc _ _)
            have q4 : Hid (G y3 y4) := hide (by rw [hy4]; exact G.alloc _ _)
            have qz : Hid (G (y3.alloc (.cells #[.int .i64 0, .int .i64 0, .int .i64 0, .int .i64 0, .slice none 0 0, .slice none 0 0, .slice none 0 0] 50)) y4) := hide (by rw [hy4]; exact G.refl _)
            rw [← hy4] at hHeld ⊢
            clear hy4
            refine wpAnyH_ready (rs := [15]) (by kernel_rfl) (by simp) ?_
            refine AllReadyH.cons rfl (fun K hK => ?_) AllReadyH.nil
            obtain ⟨b2, c2, y5, hrun, hg, hR2, hd2⟩ := unhide A2 y4 hHeld.1 y2.heap.size
            refine step_app rfl (.tmp 17) (.tmp 19) 31 rfl _ _ rfl rfl _ _ hrun ?_
            refine hK.out _ _ (unhide KP _ (hHeld.1.trans hg)) (fun hHeld => ?_)
            clear hK K hrun
            try simp only [Act.put, List.getElem_toArray, List.getElem_cons_succ, List.getElem_cons_zero, List.setIfInBounds_toArray, List.set_cons_zero, List.set_cons_succ]
            have s5 : Hid (y4.heap.size ≤ y5.heap.size) := hide hg.size
            have q5 : Hid (G y4 y5) := hide hg
            replace hR2 := hide hR2
            replace hd2 := hide hd2
            clear hg
            refine wpAnyH_take (i := 16) (v := .agg #[.int .i64 a.p, .int .i64 a.c, .int .i64 a.s, .int .i64 a.r, .slice (some ⟨b1, 0, none⟩) a.ks.length c1, .slice none 0 0, .slice (some ⟨b2, 0, none⟩) a.ms.length c2]) rfl (by kernel_rfl) (by kernel_rfl) (by kernel_rfl) (fun _ _ _ h => h) (Or.inl ⟨by rfl, fun w hSw => by obtain ⟨t0, t1, t2, t3, t4, t5, t6, t7⟩ := hSw; go_simp⟩) (by assumption) ?_
            try simp only [Act.put, List.getElem_toArray, List.getElem_cons_succ, List.getElem_cons_zero, List.setIfInBounds_toArray, List.set_cons_zero, List.set_cons_succ]
            refine wpAnyH_ready (rs := [18]) (by kernel_rfl) (by simp) ?_
            refine AllReadyH.cons rfl (fun K hK => ?_) AllReadyH.nil
            have R1 := (unhide hR1).g okB (((unhide q3).trans (unhide q4)).trans (unhide q5))
            have R2 := (unhide hR2).g okU (G.refl _)
            have d1 : a.ks.length = 0 ∨ (b1 ≠ y3.heap.size ∧ W1.heap.size ≤ b1) := (unhide hd1).imp id (fun h => by have u0 := unhide s0; have u1 := unhide s1; have u2 := unhide s2; have u3 := unhide s3; have u4 := unhide s4; have u5 := unhide s5; omega)
            have d2 : a.ms.length = 0 ∨ (b2 ≠ y3.heap.size ∧ W1.heap.size ≤ b2) := (unhide hd2).imp id (fun h => by have u0 := unhide s0; have u1 := unhide s1; have u2 := unhide s2; have u3 := unhide s3; have u4 := unhide s4; have u5 := unhide s5; omega)
            have hgb : W1.heap.size ≤ y3.heap.size := by have u0 := unhide s0; have u1 := unhide s1; have u2 := unhide s2; have u3 := unhide s3; have u4 := unhide s4; have u5 := unhide s5; omega
            have L := hide (fn_leaf hHeld.1 hgb rfl ((unhide qz).trans (unhide q5)) R1 R2 d1 d2)
            have z0 := ((unhide qz).trans (unhide q5)).cell (x := ⟨y3.heap.size, 0, none⟩) (v := .int .i64 0) (by simp [go_sem])
            have f0 : y5.frozen? ⟨y3.heap.size, 0, none⟩ = false := (World.frozen?_of_block (((unhide qz).trans (unhide q5)).block y3.heap.size (by rw [World.size_alloc]; omega))).trans (by simp [go_sem])
            have z1 := ((unhide qz).trans (unhide q5)).cell (x := ⟨y3.heap.size, 1, none⟩) (v := .int .i64 0) (by simp [go_sem])
            have f1 : y5.frozen? ⟨y3.heap.size, 1, none⟩ = false := (World.frozen?_of_block (((unhide qz).trans (unhide q5)).block y3.heap.size (by rw [World.size_alloc]; omega))).trans (by simp [go_sem])
            have z2 := ((unhide qz).trans (unhide q5)).cell (x := ⟨y3.heap.size, 2, none⟩) (v := .int .i64 0) (by simp [go_sem])
            have f2 : y5.frozen? ⟨y3.heap.size, 2, none⟩ = false := (World.frozen?_of_block (((unhide qz).trans (unhide q5)).block y3.heap.size (by rw [World.size_alloc]; omega))).trans (by simp [go_sem])
            have z3 := ((unhide qz).trans (unhide q5)).cell (x := ⟨y3.heap.size, 3, none⟩) (v := .int .i64 0) (by simp [go_sem])
            have f3 : y5.frozen? ⟨y3.heap.size, 3, none⟩ = false := (World.frozen?_of_block (((unhide qz).trans (unhide q5)).block y3.heap.size (by rw [World.size_alloc]; omega))).trans (by simp [go_sem])
            have z4 := ((unhide qz).trans (unhide q5)).cell (x := ⟨y3.heap.size, 4, none⟩) (v := .slice none 0 0) (by simp [go_sem])
            have f4 : y5.frozen? ⟨y3.heap.size, 4, none⟩ = false := (World.frozen?_of_block (((unhide qz).trans (unhide q5)).block y3.heap.size (by rw [World.size_alloc]; omega))).trans (by simp [go_sem])
            have z5 := ((unhide qz).trans (unhide q5)).cell (x := ⟨y3.heap.size, 5, none⟩) (v := .slice none 0 0) (by simp [go_sem])
            have f5 : y5.frozen? ⟨y3.heap.size, 5, none⟩ = false := (World.frozen?_of_block (((unhide qz).trans (unhide q5)).block y3.heap.size (by rw [World.size_alloc]; omega))).trans (by simp [go_sem])
            have z6 := ((unhide qz).trans (unhide q5)).cell (x := ⟨y3.heap.size, 6, none⟩) (v := .slice none 0 0) (by simp [go_sem])
            have f6 : y5.frozen? ⟨y3.heap.size, 6, none⟩ = false := (World.frozen?_of_block (((unhide qz).trans (unhide q5)).block y3.heap.size (by rw [World.size_alloc]; omega))).trans (by simp [go_sem])
            clear R1 R2 d1 d2 hgb
            go_simp
            refine hK.out _ _ (unhide KP _ (unhide L).g) (fun hHeld => ?_)
            clear hK K
            try simp only [Act.put, List.getElem_toArray, List.getElem_cons_succ, List.getElem_cons_zero, List.setIfInBounds_toArray, List.set_cons_zero, List.set_cons_succ]
            refine wpAnyH_done (by kernel_rfl) (NoPanic.normal ?_) _
            go_wp2_with fail
            go_meet
            exact ⟨_, b1, c1, b2, c2, rfl, L⟩
        · go_simp
          refine hK.out _ _ (unhide KP _ (hHeld.1.more _)) (fun hHeld => ?_)
          clear hK K
          try simp only [Act.put, List.getElem_toArray, List.getElem_cons_succ, List.getElem_cons_zero, List.setIfInBounds_toArray, List.set_cons_zero, List.set_cons_succ]
          obtain ⟨y3, hy3⟩ : ∃ y, y = y2.alloc (.cells #[.int .i64 0, .int .i64 0, .int .i64 0, .int .i64 0, .slice none 0 0, .slice none 0 0, .slice none 0 0] 50) := ⟨_, rfl⟩
          have s3 : Hid (y3.heap.size = y2.heap.size + 1) := hide (by rw [hy3]; exact World.size_alloc _ _)
          have q3 : Hid (G y2 y3) := hide (by rw [hy3]; exact G.alloc _ _)
          have qz : Hid (G (y2.alloc (.cells #[.int .i64 0, .int .i64 0, .int .i64 0, .int .i64 0, .slice none 0 0, .slice none 0 0, .slice none 0 0] 50)) y3) := hide (by rw [hy3]; exact G.refl _)
          rw [← hy3] at hHeld ⊢
          clear hy3
          refine wpAnyH_ready (rs := [12]) (by kernel_rfl) (by simp) ?_
          refine AllReadyH.cons rfl (fun K hK => ?_) AllReadyH.nil
          go_simp
          refine hK.out _ _ (unhide KP _ (hHeld.1.more _)) (fun hHeld => ?_)
          clear hK K
          try simp only [Act.put, List.getElem_toArray, List.getElem_cons_succ, List.getElem_cons_zero, List.setIfInBounds_toArray, List.set_cons_zero, List.set_cons_succ]
          obtain ⟨y4, hy4⟩ : ∃ y, y = y3.alloc (.cells #[] 57) := ⟨_, rfl⟩
          have s4 : Hid (y4.heap.size = y3.heap.size + 1) := hide (by rw [hy4]; exact World.size_alloc _ _)
          have q4 : Hid (G y3 y4) := hide (by rw [hy4]; exact G.alloc _ _)
          rw [← hy4] at hHeld ⊢
          clear hy4
          refine wpAnyH_ready (rs := [15]) (by kernel_rfl) (by simp) ?_
          refine AllReadyH.cons rfl (fun K hK => ?_) AllReadyH.nil
          obtain ⟨b2, c2, y5, hrun, hg, hR2, hd2⟩ := unhide A2 y4 hHeld.1 y3.heap.size
          refine step_app rfl (.tmp 17) (.tmp 19) 31 rfl _ _ rfl rfl _ _ hrun ?_
          refine hK.out _ _ (unhide KP _ (hHeld.1.trans hg)) (fun hHeld => ?_)
          clear hK K hrun
          try simp only [Act.put, List.getElem_toArray, List.getElem_cons_succ, List.getElem_cons_zero, List.setIfInBounds_toArray, List.set_cons_zero, List.set_cons_succ]
          have s5 : Hid (y4.heap.size ≤ y5.heap.size) := hide hg.size
          have q5 : Hid (G y4 y5) := hide hg
          replace hR2 := hide hR2
          replace hd2 := hide hd2
          clear hg
          refine wpAnyH_take (i := 16) (v := .agg #[.int .i64 a.p, .int .i64 a.c, .int .i64 a.s, .int .i64 a.r, .slice (some ⟨b1, 0, none⟩) a.ks.length c1, .slice none 0 0, .slice (some ⟨b2, 0, none⟩) a.ms.length c2]) rfl (by kernel_rfl) (by kernel_rfl) (by kernel_rfl) (fun _ _ _ h => h) (Or.inl ⟨by rfl, fun w hSw => by obtain ⟨t0, t1, t2, t3, t4, t5, t6, t7⟩ := hSw; go_simp⟩) (by assumption) ?_
          try simp only [Act.put, List.getElem_toArray, List.getElem_cons_succ, List.getElem_cons_zero, List.setIfInBounds_toArray, List.set_cons_zero, List.set_cons_succ]
          refine wpAnyH_ready (rs := [18]) (by kernel_rfl) (by simp) ?_
          refine AllReadyH.cons rfl (fun K hK => ?_) AllReadyH.nil
          have R1 := (unhide hR1).g okB (((unhide q3).trans (unhide q4)).trans (unhide q5))
          have R2 := (unhide hR2).g okU (G.refl _)
          have d1 : a.ks.length = 0 ∨ (b1 ≠ y2.heap.size ∧ W1.heap.size ≤ b1) := (unhide hd1).imp id (fun h => by have u0 := unhide s0; have u1 := unhide s1; have u2 := unhide s2; have u3 := unhide s3; have u4 := unhide s4; have u5 := unhide s5; omega)
          have d2 : a.ms.length = 0 ∨ (b2 ≠ y2.heap.size ∧ W1.heap.size ≤ b2) := (unhide hd2).imp id (fun h => by have u0 := unhide s0; have u1 := unhide s1; have u2 := unhide s2; have u3 := unhide s3; have u4 := unhide s4; have u5 := unhide s5; omega)
          have hgb : W1.heap.size ≤ y2.heap.size := by have u0 := unhide s0; have u1 := unhide s1; have u2 := unhide s2; have u3 := unhide s3; have u4 := unhide s4; have u5 := unhide s5; omega
          have L := hide (fn_leaf hHeld.1 hgb rfl ((unhide qz).trans ((unhide q4).trans (unhide q5))) R1 R2 d1 d2)
          have z0 := ((unhide qz).trans ((unhide q4).trans (unhide q5))).cell (x := ⟨y2.heap.size, 0, none⟩) (v := .int .i64 0) (by simp [go_sem])
          have f0 : y5.frozen? ⟨y2.heap.size, 0, none⟩ = false := (World.frozen?_of_block (((unhide qz).trans ((unhide q4).trans (unhide q5))).block y2.heap.size (by rw [World.size_alloc]; omega))).trans (by simp [go_sem])
          have z1 := ((unhide qz).trans ((unhide q4).trans (unhide q5))).cell (x := ⟨y2.heap.size, 1, none⟩) (v := .int .i64 0) (by simp [go_sem])
          have f1 : y5.frozen? ⟨y2.heap.size, 1, none⟩ = false := (World.frozen?_of_block (((unhide qz).trans ((unhide q4).trans (unhide q5))).block y2.heap.size (by rw [World.size_alloc]; omega))).trans (by simp [go_sem])
          have z2 := ((unhide qz).trans ((unhide q4).trans (unhide q5))).cell (x := ⟨y2.heap.size, 2, none⟩) (v := .int .i64 0) (by simp [go_sem])
          have f2 : y5.frozen? ⟨y2.heap.size, 2, none⟩ = false := (World.frozen?_of_block (((unhide qz).trans ((unhide q4).trans (unhide q5))).block y2.heap.size (by rw [World.size_alloc]; omega))).trans (by simp [go_sem])
          have z3 := ((unhide qz).trans ((unhide q4).trans (unhide q5))).cell (x := ⟨y2.heap.size, 3, none⟩) (v := .int .i64 0) (by simp [go_sem])
          have f3 : y5.frozen? ⟨y2.heap.size, 3, none⟩ = false := (World.frozen?_of_block (((unhide qz).trans ((unhide q4).trans (unhide q5))).block y2.heap.size (by rw [World.size_alloc]; omega))).trans (by simp [go_sem])
          have z4 := ((unhide qz).trans ((unhide q4).trans (unhide q5))).cell (x := ⟨y2.heap.size, 4, none⟩) (v := .slice none 0 0) (by simp [go_sem])
          have f4 : y5.frozen? ⟨y2.heap.size, 4, none⟩ = false := (World.frozen?_of_block (((unhide qz).trans ((unhide q4).trans (unhide q5))).block y2.heap.size (by rw [World.size_alloc]; omega))).trans (by simp [go_sem])
          have z5 := ((unhide qz).trans ((unhide q4).trans (unhide q5))).cell (x := ⟨y2.heap.size, 5, none⟩) (v := .slice none 0 0) (by simp [go_sem])
          have f5 : y5.frozen? ⟨y2.heap.size, 5, none⟩ = false := (World.frozen?_of_block (((unhide qz).trans ((unhide q4).trans (unhide q5))).block y2.heap.size (by rw [World.size_alloc]; omega))).trans (by simp [go_sem])
          have z6 := ((unhide qz).trans ((unhide q4).trans (unhide q5))).cell (x := ⟨y2.heap.size, 6, none⟩) (v := .slice none 0 0) (by simp [go_sem])
          have f6 : y5.frozen? ⟨y2.heap.size, 6, none⟩ = false := (World.frozen?_of_block (((unhide qz).trans ((unhide q4).trans (unhide q5))).block y2.heap.size (by rw [World.size_alloc]; omega))).trans (by simp [go_sem])
          clear R1 R2 d1 d2 hgb
          go_simp
          refine hK.out _ _ (unhide KP _ (unhide L).g) (fun hHeld => ?_)
          clear hK K
          try simp only [Act.put, List.getElem_toArray, List.getElem_cons_succ, List.getElem_cons_zero, List.setIfInBounds_toArray, List.set_cons_zero, List.set_cons_succ]
          refine wpAnyH_done (by kernel_rfl) (NoPanic.normal ?_) _
          go_wp2_with fail
          go_meet
          exact ⟨_, b1, c1, b2, c2, rfl, L⟩
      · go_simp
        refine hK.out _ _ (unhide KP _ (hHeld.1.more _)) (fun hHeld => ?_)
        clear hK K
        try simp only [Act.put, List.getElem_toArray, List.getElem_cons_succ, List.getElem_cons_zero, List.setIfInBounds_toArray, List.set_cons_zero, List.set_cons_succ]
        obtain ⟨y2, hy2⟩ : ∃ y, y = y1.alloc (.cells #[] 57) := ⟨_, rfl⟩
        have s2 : Hid (y2.heap.size = y1.heap.size + 1) := hide (by rw [hy2]; exact World.size_alloc _ _)
        have q2 : Hid (G y1 y2) := hide (by rw [hy2]; exact G.alloc _ _)
        rw [← hy2] at hHeld ⊢
        clear hy2
        refine wpAnyH_ready (rs := [11, 17]) (by kernel_rfl) (by simp) ?_
        refine AllReadyH.cons rfl (fun K hK => ?_) (AllReadyH.cons rfl (fun K hK => ?_) AllReadyH.nil)
        · obtain ⟨b1, c1, y3, hrun, hg, hR1, hd1⟩ := unhide A1 y2 hHeld.1 y0.heap.size
          refine step_app rfl (.tmp 13) (.tmp 15) 24 rfl _ _ rfl rfl _ _ hrun ?_
          refine hK.out _ _ (unhide KP _ (hHeld.1.trans hg)) (fun hHeld => ?_)
          clear hK K hrun
          try simp only [Act.put, List.getElem_toArray, List.getElem_cons_succ, List.getElem_cons_zero, List.setIfInBounds_toArray, List.set_cons_zero, List.set_cons_succ]
          have s3 : Hid (y2.heap.size ≤ y3.heap.size) := hide hg.size
          have q3 : Hid (G y2 y3) := hide hg
          replace hR1 := hide hR1
          replace hd1 := hide hd1
          clear hg
          refine wpAnyH_ready (rs := [15, 17]) (by kernel_rfl) (by simp) ?_
          refine AllReadyH.cons rfl (fun K hK => ?_) (AllReadyH.cons rfl (fun K hK => ?_) AllReadyH.nil)
          · obtain ⟨b2, c2, y4, hrun, hg, hR2, hd2⟩ := unhide A2 y3 hHeld.1 y1.heap.size
            refine step_app rfl (.tmp 17) (.tmp 19) 31 rfl _ _ rfl rfl _ _ hrun ?_
            refine hK.out _ _ (unhide KP _ (hHeld.1.trans hg)) (fun hHeld => ?_)
            clear hK K hrun
            try simp only [Act.put, List.getElem_toArray, List.getElem_cons_succ, List.getElem_cons_zero, List.setIfInBounds_toArray, List.set_cons_zero, List.set_cons_succ]
            have s4 : Hid (y3.heap.size ≤ y4.heap.size) := hide hg.size
            have q4 : Hid (G y3 y4) := hide hg
            replace hR2 := hide hR2
            replace hd2 := hide hd2
            clear hg
            refine wpAnyH_take (i := 16) (v := .agg #[.int .i64 a.p, .int .i64 a.c, .int .i64 a.s, .int .i64 a.r, .slice (some ⟨b1, 0, none⟩) a.ks.length c1, .slice none 0 0, .slice (some ⟨b2, 0, none⟩) a.ms.length c2]) rfl (by kernel_rfl) (by kernel_rfl) (by kernel_rfl) (fun _ _ _ h => h) (Or.inl ⟨by rfl, fun w hSw => by obtain ⟨t0, t1, t2, t3, t4, t5, t6, t7⟩ := hSw; go_simp⟩) (by assumption) ?_
            try simp only [Act.put, List.getElem_toArray, List.getElem_cons_succ, List.getElem_cons_zero, List.setIfInBounds_toArray, List.set_cons_zero, List.set_cons_succ]
            refine wpAnyH_ready (rs := [17]) (by kernel_rfl) (by simp) ?_
            refine AllReadyH.cons rfl (fun K hK => ?_) AllReadyH.nil
            go_simp
            refine hK.out _ _ (unhide KP _ (hHeld.1.more _)) (fun hHeld => ?_)
            clear hK K
            try simp only [Act.put, List.getElem_toArray, List.getElem_cons_succ, List.getElem_cons_zero, List.setIfInBounds_toArray, List.set_cons_zero, List.set_cons_succ]
            obtain ⟨y5, hy5⟩ : ∃ y, y = y4.alloc (.cells #[.int .i64 0, .int .i64 0, .int .i64 0, .int .i64 0, .slice none 0 0, .slice none 0 0, .slice none 0 0] 50) := ⟨_, rfl⟩
            have s5 : Hid (y5.heap.size = y4.heap.size + 1) := hide (by rw [hy5]; exact World.size_alloc _ _)
            have q5 : Hid (G y4 y5) := hide (by rw [hy5]; exact G.alloc _ _)
            have qz : Hid (G (y4.alloc (.cells #[.int .i64 0, .int .i64 0, .int .i64 0, .int .i64 0, .slice none 0 0, .slice none 0 0, .slice none 0 0] 50)) y5) := hide (by rw [hy5]; exact G.refl _)
            rw [← hy5] at hHeld ⊢
            clear hy5
            refine wpAnyH_ready (rs := [18]) (by kernel_rfl) (by simp) ?_
            refine AllReadyH.cons rfl (fun K hK => ?_) AllReadyH.nil
            have R1 := (unhide hR1).g okB ((unhide q4).trans (unhide q5))
            have R2 := (unhide hR2).g okU (unhide q5)
            have d1 : a.ks.length = 0 ∨ (b1 ≠ y4.heap.size ∧ W1.heap.size ≤ b1) := (unhide hd1).imp id (fun h => by have u0 := unhide s0; have u1 := unhide s1; have u2 := unhide s2; have u3 := unhide s3; have u4 := unhide s4; have u5 := unhide s5; omega)
            have d2 : a.ms.length = 0 ∨ (b2 ≠ y4.heap.size ∧ W1.heap.size ≤ b2) := (unhide hd2).imp id (fun h => by have u0 := unhide s0; have u1 := unhide s1; have u2 := unhide s2; have u3 := unhide s3; have u4 := unhide s4; have u5 := unhide s5; omega)
            have hgb : W1.heap.size ≤ y4.heap.size := by have u0 := unhide s0; have u1 := unhide s1; have u2 := unhide s2; have u3 := unhide s3; have u4 := unhide s4; have u5 := unhide s5; omega
            have L := hide (fn_leaf hHeld.1 hgb rfl (unhide qz) R1 R2 d1 d2)
            have z0 := (unhide qz).cell (x := ⟨y4.heap.size, 0, none⟩) (v := .int .i64 0) (by simp [go_sem])
            have f0 : y5.frozen? ⟨y4.heap.size, 0, none⟩ = false := (World.frozen?_of_block ((unhide qz).block y4.heap.size (by rw [World.size_alloc]; omega))).trans (by simp [go_sem])
            have z1 := (unhide qz).cell (x := ⟨y4.heap.size, 1, none⟩) (v := .int .i64 0) (by simp [go_sem])
            have f1 : y5.frozen? ⟨y4.heap.size, 1, none⟩ = false := (World.frozen?_of_block ((unhide qz).block y4.heap.size (by rw [World.size_alloc]; omega))).trans (by simp [go_sem])
            have z2 := (unhide qz).cell (x := ⟨y4.heap.size, 2, none⟩) (v := .int .i64 0) (by simp [go_sem])
            have f2 : y5.frozen? ⟨y4.heap.size, 2, none⟩ = false := (World.frozen?_of_block ((unhide qz).block y4.heap.size (by rw [World.size_alloc]; omega))).trans (by simp [go_sem])
            have z3 := (unhide qz).cell (x := ⟨y4.heap.size, 3, none⟩) (v := .int .i64 0) (by simp [go_sem])
            have f3 : y5.frozen? ⟨y4.heap.size, 3, none⟩ = false := (World.frozen?_of_block ((unhide qz).block y4.heap.size (by rw [World.size_alloc]; omega))).trans (by simp [go_sem])
            have z4 := (unhide qz).cell (x := ⟨y4.heap.size, 4, none⟩) (v := .slice none 0 0) (by simp [go_sem])
            have f4 : y5.frozen? ⟨y4.heap.size, 4, none⟩ = false := (World.frozen?_of_block ((unhide qz).block y4.heap.size (by rw [World.size_alloc]; omega))).trans (by simp [go_sem])
            have z5 := (unhide qz).cell (x := ⟨y4.heap.size, 5, none⟩) (v := .slice none 0 0) (by simp [go_sem])
            have f5 : y5.frozen? ⟨y4.heap.size, 5, none⟩ = false := (World.frozen?_of_block ((unhide qz).block y4.heap.size (by rw [World.size_alloc]; omega))).trans (by simp [go_sem])
            have z6 := (unhide qz).cell (x := ⟨y4.heap.size, 6, none⟩) (v := .slice none 0 0) (by simp [go_sem])
            have f6 : y5.frozen? ⟨y4.heap.size, 6, none⟩ = false := (World.frozen?_of_block ((unhide qz).block y4.heap.size (by rw [World.size_alloc]; omega))).trans (by simp [go_sem])
            clear R1 R2 d1 d2 hgb
            go_simp
            refine hK.out _ _ (unhide KP _ (unhide L).g) (fun hHeld => ?_)
            clear hK K
            try simp only [Act.put, List.getElem_toArray, List.getElem_cons_succ, List.getElem_cons_zero, List.setIfInBounds_toArray, List.set_cons_zero, List.set_cons_succ]
            refine wpAnyH_done (by kernel_rfl) (NoPanic.normal ?_) _
            go_wp2_with fail
            go_meet
            exact ⟨_, b1, c1, b2, c2, rfl, L⟩
          · go_simp
            refine hK.out _ _ (unhide KP _ (hHeld.1.more _)) (fun hHeld => ?_)
            clear hK K
            try simp only [Act.put, List.getElem_toArray, List.getElem_cons_succ, List.getElem_cons_zero, List.setIfInBounds_toArray, List.set_cons_zero, List.set_cons_succ]
            obtain ⟨y4, hy4⟩ : ∃ y, y = y3.alloc (.cells #[.int .i64 0, .int .i64 0, .int .i64 0, .int .i64 0, .slice none 0 0, .slice none 0 0, .slice none 0 0] 50) := ⟨_, rfl⟩
            have s4 : Hid (y4.heap.size = y3.heap.size + 1) := hide (by rw [hy4]; exact World.size_alloc _ _)
            have q4 : Hid (G y3 y4) := hide (by rw [hy4]; exact G.alloc _ _)
            have qz : Hid (G (y3.alloc (.cells #[.int .i64 0, .int .i64 0, .int .i64 0, .int .i64 0, .slice none 0 0, .slice none 0 0, .slice none 0 0] 50)) y4) := hide (by rw [hy4]; exact G.refl _)
            rw [← hy4] at hHeld ⊢
            clear hy4
            refine wpAnyH_ready (rs := [15]) (by kernel_rfl) (by simp) ?_
            refine AllReadyH.cons rfl (fun K hK => ?_) AllReadyH.nil
            obtain ⟨b2, c2, y5, hrun, hg, hR2, hd2⟩ := unhide A2 y4 hHeld.1 y1.heap.size
            refine step_app rfl (.tmp 17) (.tmp 19) 31 rfl _ _ rfl rfl _ _ hrun ?_
            refine hK.out _ _ (unhide KP _ (hHeld.1.trans hg)) (fun hHeld => ?_)
            clear hK K hrun
            try simp only [Act.put, List.getElem_toArray, List.getElem_cons_succ, List.getElem_cons_zero, List.setIfInBounds_toArray, List.set_cons_zero, List.set_cons_succ]
            have s5 : Hid (y4.heap.size ≤ y5.heap.size) := hide hg.size
            have q5 : Hid (G y4 y5) := hide hg
            replace hR2 := hide hR2
            replace hd2 := hide hd2
            clear hg
            refine wpAnyH_take (i := 16) (v := .agg #[.int .i64 a.p, .int .i64 a.c, .int .i64 a.s, .int .i64 a.r, .slice (some ⟨b1, 0, none⟩) a.ks.length c1, .slice none 0 0, .slice (some ⟨b2, 0, none⟩) a.ms.length c2]) rfl (by kernel_rfl) (by kernel_rfl) (by kernel_rfl) (fun _ _ _ h => h) (Or.inl ⟨by rfl, fun w hSw => by obtain ⟨t0, t1, t2, t3, t4, t5, t6, t7⟩ := hSw; go_simp⟩) (by assumption) ?_
            try simp only [Act.put, List.getElem_toArray, List.getElem_cons_succ, List.getElem_cons_zero, List.setIfInBounds_toArray, List.set_cons_zero, List.set_cons_succ]
            refine wpAnyH_ready (rs := [18]) (by kernel_rfl) (by simp) ?_
            refine AllReadyH.cons rfl (fun K hK => ?_) AllReadyH.nil
            have R1 := (unhide hR1).g okB ((unhide q4).trans (unhide q5))
            have R2 := (unhide hR2).g okU (G.refl _)
            have d1 : a.ks.length = 0 ∨ (b1 ≠ y3.heap.size ∧ W1.heap.size ≤ b1) := (unhide hd1).imp id (fun h => by have u0 := unhide s0; have u1 := unhide s1; have u2 := unhide s2; have u3 := unhide s3; have u4 := unhide s4; have u5 := unhide s5; omega)
            have d2 : a.ms.length = 0 ∨ (b2 ≠ y3.heap.size ∧ W1.heap.size ≤ b2) := (unhide hd2).imp id (fun h => by have u0 := unhide s0; have u1 := unhide s1; have u2 := unhide s2; have u3 := unhide s3; have u4 := unhide s4; have u5 := unhide s5; omega)
            have hgb : W1.heap.size ≤ y3.heap.size := by have u0 := unhide s0; have u1 := unhide s1; have u2 := unhide s2; have u3 := unhide s3; have u4 := unhide s4; have u5 := unhide s5; omega
            have L := hide (fn_leaf hHeld.1 hgb rfl ((unhide qz).trans (unhide q5)) R1 R2 d1 d2)
            have z0 := ((unhide qz).trans (unhide q5)).cell (x := ⟨y3.heap.size, 0, none⟩) (v := .int .i64 0) (by simp [go_sem])
            have f0 : y5.frozen? ⟨y3.heap.size, 0, none⟩ = false := (World.frozen?_of_block (((unhide qz).trans (unhide q5)).block y3.heap.size (by rw [World.size_alloc]; omega))).trans (by simp [go_sem])
            have z1 := ((unhide qz).trans (unhide q5)).cell (x := ⟨y3.heap.size, 1, none⟩) (v := .int .i64 0) (by simp [go_sem])
            have f1 : y5.frozen? ⟨y3.heap.size, 1, none⟩ = false := (World.frozen?_of_block (((unhide qz).trans (unhide q5)).block y3.heap.size (by rw [World.size_alloc]; omega))).trans (by simp [go_sem])
            have z2 := ((unhide qz).trans (unhide q5)).cell (x := ⟨y3.heap.size, 2, none⟩) (v := .int .i64 0) (by simp [go_sem])
            have f2 : y5.frozen? ⟨y3.heap.size, 2, none⟩ = false := (World.frozen?_of_block (((unhide qz).trans (unhide q5)).block y3.heap.size (by rw [World.size_alloc]; omega))).trans (by simp [go_sem])
            have z3 := ((unhide qz).trans (unhide q5)).cell (x := ⟨y3.heap.size, 3, none⟩) (v := .int .i64 0) (by simp [go_sem])
            have f3 : y5.frozen? ⟨y3.heap.size, 3, none⟩ = false := (World.frozen?_of_block (((unhide qz).trans (unhide q5)).block y3.heap.size (by rw [World.size_alloc]; omega))).trans (by simp [go_sem])
            have z4 := ((unhide qz).trans (unhide q5)).cell (x := ⟨y3.heap.size, 4, none⟩) (v := .slice none 0 0) (by simp [go_sem])
            have f4 : y5.frozen? ⟨y3.heap.size, 4, none⟩ = false := (World.frozen?_of_block (((unhide qz).trans (unhide q5)).block y3.heap.size (by rw [World.size_alloc]; omega))).trans (by simp [go_sem])
            have z5 := ((unhide qz).trans (unhide q5)).cell (x := ⟨y3.heap.size, 5, none⟩) (v := .slice none 0 0) (by simp [go_sem])
            have f5 : y5.frozen? ⟨y3.heap.size, 5, none⟩ = false := (World.frozen?_of_block (((unhide qz).trans (unhide q5)).block y3.heap.size (by rw [World.size_alloc]; omega))).trans (by simp [go_sem])
            have z6 := ((unhide qz).trans (unhide q5)).cell (x := ⟨y3.heap.size, 6, none⟩) (v := .slice none 0 0) (by simp [go_sem])
            have f6 : y5.frozen? ⟨y3.heap.size, 6, none⟩ = false := (World.frozen?_of_block (((unhide qz).trans (unhide q5)).block y3.heap.size (by rw [World.size_alloc]; omega))).trans (by simp [go_sem])
            clear R1 R2 d1 d2 hgb
            go_simp
            refine hK.out _ _ (unhide KP _ (unhide L).g) (fun hHeld => ?_)
            clear hK K
            try simp only [Act.put, List.getElem_toArray, List.getElem_cons_succ, List.getElem_cons_zero, List.setIfInBounds_toArray, List.set_cons_zero, List.set_cons_succ]
            refine wpAnyH_done (by kernel_rfl) (NoPanic.normal ?_) _
            go_wp2_with fail
            go_meet
            exact ⟨_, b1, c1, b2, c2, rfl, L⟩
        · go_simp
          refine hK.out _ _ (unhide KP _ (hHeld.1.more _)) (fun hHeld => ?_)
          clear hK K
          try simp only [Act.put, List.getElem_toArray, List.getElem_cons_succ, List.getElem_cons_zero, List.setIfInBounds_toArray, List.set_cons_zero, List.set_cons_succ]
          obtain ⟨y3, hy3⟩ : ∃ y, y = y2.alloc (.cells #[.int .i64 0, .int .i64 0, .int .i64 0, .int .i64 0, .slice none 0 0, .slice none 0 0, .slice none 0 0] 50) := ⟨_, rfl⟩
          have s3 : Hid (y3.heap.size = y2.heap.size + 1) := hide (by rw [hy3]; exact World.size_alloc _ _)
          have q3 : Hid (G y2 y3) := hide (by rw [hy3]; exact G.alloc _ _)
          have qz : Hid (G (y2.alloc (.cells #[.int .i64 0, .int .i64 0, .int .i64 0, .int .i64 0, .slice none 0 0, .slice none 0 0, .slice none 0 0] 50)) y3) := hide (by rw [hy3]; exact G.refl _)
          rw [← hy3] at hHeld ⊢
          clear hy3
          refine wpAnyH_ready (rs := [11]) (by kernel_rfl) (by simp) ?_
          refine AllReadyH.cons rfl (fun K hK => ?_) AllReadyH.nil
          obtain ⟨b1, c1, y4, hrun, hg, hR1, hd1⟩ := unhide A1 y3 hHeld.1 y0.heap.size
          refine step_app rfl (.tmp 13) (.tmp 15) 24 rfl _ _ rfl rfl _ _ hrun ?_
          refine hK.out _ _ (unhide KP _ (hHeld.1.trans hg)) (fun hHeld => ?_)
          clear hK K hrun
          try simp only [Act.put, List.getElem_toArray, List.getElem_cons_succ, List.getElem_cons_zero, List.setIfInBounds_toArray, List.set_cons_zero, List.set_cons_succ]
          have s4 : Hid (y3.heap.size ≤ y4.heap.size) := hide hg.size
          have q4 : Hid (G y3 y4) := hide hg
          replace hR1 := hide hR1
          replace hd1 := hide hd1
          clear hg
          refine wpAnyH_ready (rs := [15]) (by kernel_rfl) (by simp) ?_
          refine AllReadyH.cons rfl (fun K hK => ?_) AllReadyH.nil
          obtain ⟨b2, c2, y5, hrun, hg, hR2, hd2⟩ := unhide A2 y4 hHeld.1 y1.heap.size
          refine step_app rfl (.tmp 17) (.tmp 19) 31 rfl _ _ rfl rfl _ _ hrun ?_
          refine hK.out _ _ (unhide KP _ (hHeld.1.trans hg)) (fun hHeld => ?_)
          clear hK K hrun
          try simp only [Act.put, List.getElem_toArray, List.getElem_cons_succ, List.getElem_cons_zero, List.setIfInBounds_toArray, List.set_cons_zero, List.set_cons_succ]
          have s5 : Hid (y4.heap.size ≤ y5.heap.size) := hide hg.size
          have q5 : Hid (G y4 y5) := hide hg
          replace hR2 := hide hR2
          replace hd2 := hide hd2
          clear hg
          refine wpAnyH_take (i := 16) (v := .agg #[.int .i64 a.p, .int .i64 a.c, .int .i64 a.s, .int .i64 a.r, .slice (some ⟨b1, 0, none⟩) a.ks.length c1, .slice none 0 0, .slice (some ⟨b2, 0, none⟩) a.ms.length c2]) rfl (by kernel_rfl) (by kernel_rfl) (by kernel_rfl) (fun _ _ _ h => h) (Or.inl ⟨by rfl, fun w hSw => by obtain ⟨t0, t1, t2, t3, t4, t5, t6, t7⟩ := hSw; go_simp⟩) (by assumption) ?_
          try simp only [Act.put, List.getElem_toArray, List.getElem_cons_succ, List.getElem_cons_zero, List.setIfInBounds_toArray, List.set_cons_zero, List.set_cons_succ]
          refine wpAnyH_ready (rs := [18]) (by kernel_rfl) (by simp) ?_
          refine AllReadyH.cons rfl (fun K hK => ?_) AllReadyH.nil
          have R1 := (unhide hR1).g okB (unhide q5)
          have R2 := (unhide hR2).g okU (G.refl _)
          have d1 : a.ks.length = 0 ∨ (b1 ≠ y2.heap.size ∧ W1.heap.size ≤ b1) := (unhide hd1).imp id (fun h => by have u0 := unhide s0; have u1 := unhide s1; have u2 := unhide s2; have u3 := unhide s3; have u4 := unhide s4; have u5 := unhide s5; omega)
          have d2 : a.ms.length = 0 ∨ (b2 ≠ y2.heap.size ∧ W1.heap.size ≤ b2) := (unhide hd2).imp id (fun h => by have u0 := unhide s0; have u1 := unhide s1; have u2 := unhide s2; have u3 := unhide s3; have u4 := unhide s4; have u5 := unhide s5; omega)
          have hgb : W1.heap.size ≤ y2.heap.size := by have u0 := unhide s0; have u1 := unhide s1; have u2 := unhide s2; have u3 := unhide s3; have u4 := unhide s4; have u5 := unhide s5; omega
          have L := hide (fn_leaf hHeld.1 hgb rfl ((unhide qz).trans ((unhide q4).trans (unhide q5))) R1 R2 d1 d2)
          have z0 := ((unhide qz).trans ((unhide q4).trans (unhide q5))).cell (x := ⟨y2.heap.size, 0, none⟩) (v := .int .i64 0) (by simp [go_sem])
          have f0 : y5.frozen? ⟨y2.heap.size, 0, none⟩ = false := (World.frozen?_of_block (((unhide qz).trans ((unhide q4).trans (unhide q5))).block y2.heap.size (by rw [World.size_alloc]; omega))).trans (by simp [go_sem])
          have z1 := ((unhide qz).trans ((unhide q4).trans (unhide q5))).cell (x := ⟨y2.heap.size, 1, none⟩) (v := .int .i64 0) (by simp [go_sem])
          have f1 : y5.frozen? ⟨y2.heap.size, 1, none⟩ = false := (World.frozen?_of_block (((unhide qz).trans ((unhide q4).trans (unhide q5))).block y2.heap.size (by rw [World.size_alloc]; omega))).trans (by simp [go_sem])
          have z2 := ((unhide qz).trans ((unhide q4).trans (unhide q5))).cell (x := ⟨y2.heap.size, 2, none⟩) (v := .int .i64 0) (by simp [go_sem])
          have f2 : y5.frozen? ⟨y2.heap.size, 2, none⟩ = false := (World.frozen?_of_block (((unhide qz).trans ((unhide q4).trans (unhide q5))).block y2.heap.size (by rw [World.size_alloc]; omega))).trans (by simp [go_sem])
          have z3 := ((unhide qz).trans ((unhide q4).trans (unhide q5))).cell (x := ⟨y2.heap.size, 3, none⟩) (v := .int .i64 0) (by simp [go_sem])
          have f3 : y5.frozen? ⟨y2.heap.size, 3, none⟩ = false := (World.frozen?_of_block (((unhide qz).trans ((unhide q4).trans (unhide q5))).block y2.heap.size (by rw [World.size_alloc]; omega))).trans (by simp [go_sem])
          have z4 := ((unhide qz).trans ((unhide q4).trans (unhide q5))).cell (x := ⟨y2.heap.size, 4, none⟩) (v := .slice none 0 0) (by simp [go_sem])
          have f4 : y5.frozen? ⟨y2.heap.size, 4, none⟩ = false := (World.frozen?_of_block (((unhide qz).trans ((unhide q4).trans (unhide q5))).block y2.heap.size (by rw [World.size_alloc]; omega))).trans (by simp [go_sem])
          have z5 := ((unhide qz).trans ((unhide q4).trans (unhide q5))).cell (x := ⟨y2.heap.size, 5, none⟩) (v := .slice none 0 0) (by simp [go_sem])
          have f5 : y5.frozen? ⟨y2.heap.size, 5, none⟩ = false := (World.frozen?_of_block (((unhide qz).trans ((unhide q4).trans (unhide q5))).block y2.heap.size (by rw [World.size_alloc]; omega))).trans (by simp [go_sem])
          have z6 := ((unhide qz).trans ((unhide q4).trans (unhide q5))).cell (x := ⟨y2.heap.size, 6, none⟩) (v := .slice none 0 0) (by simp [go_sem])
          have f6 : y5.frozen? ⟨y2.heap.size, 6, none⟩ = false := (World.frozen?_of_block (((unhide qz).trans ((unhide q4).trans (unhide q5))).block y2.heap.size (by rw [World.size_alloc]; omega))).trans (by simp [go_sem])
          clear R1 R2 d1 d2 hgb
          go_simp
          refine hK.out _ _ (unhide KP _ (unhide L).g) (fun hHeld => ?_)
          clear hK K
          try simp only [Act.put, List.getElem_toArray, List.getElem_cons_succ, List.getElem_cons_zero, List.setIfInBounds_toArray, List.set_cons_zero, List.set_cons_succ]
          refine wpAnyH_done (by kernel_rfl) (NoPanic.normal ?_) _
          go_wp2_with fail
          go_meet
          exact ⟨_, b1, c1, b2, c2, rfl, L⟩
      · go_simp
        refine hK.out _ _ (unhide KP _ (hHeld.1.more _)) (fun hHeld => ?_)
        clear hK K
        try simp only [Act.put, List.getElem_toArray, List.getElem_cons_succ, List.getElem_cons_zero, List.setIfInBounds_toArray, List.set_cons_zero, List.set_cons_succ]
        obtain ⟨y2, hy2⟩ : ∃ y, y = y1.alloc (.cells #[.int .i64 0, .int .i64 0, .int .i64 0, .int .i64 0, .slice none 0 0, .slice none 0 0, .slice none 0 0] 50) := ⟨_, rfl⟩
        have s2 : Hid (y2.heap.size = y1.heap.size + 1) := hide (by rw [hy2]; exact World.size_alloc _ _)
        have q2 : Hid (G y1 y2) := hide (by rw [hy2]; exact G.alloc _ _)
        have qz : Hid (G (y1.alloc (.cells #[.int .i64 0, .int .i64 0, .int .i64 0, .int .i64 0, .slice none 0 0, .slice none 0 0, .slice none 0 0] 50)) y2) := hide (by rw [hy2]; exact G.refl _)
        rw [← hy2] at hHeld ⊢
        clear hy2
        refine wpAnyH_ready (rs := [11, 12]) (by kernel_rfl) (by simp) ?_
        refine AllReadyH.cons rfl (fun K hK => ?_) (AllReadyH.cons rfl (fun K hK => ?_) AllReadyH.nil)
        · obtain ⟨b1, c1, y3, hrun, hg, hR1, hd1⟩ := unhide A1 y2 hHeld.1 y0.heap.size
          refine step_app rfl (.tmp 13) (.tmp 15) 24 rfl _ _ rfl rfl _ _ hrun ?_
          refine hK.out _ _ (unhide KP _ (hHeld.1.trans hg)) (fun hHeld => ?_)
          clear hK K hrun
          try simp only [Act.put, List.getElem_toArray, List.getElem_cons_succ, List.getElem_cons_zero, List.setIfInBounds_toArray, List.set_cons_zero, List.set_cons_succ]
          have s3 : Hid (y2.heap.size ≤ y3.heap.size) := hide hg.size
          have q3 : Hid (G y2 y3) := hide hg
          replace hR1 := hide hR1
          replace hd1 := hide hd1
          clear hg
          refine wpAnyH_ready (rs := [12]) (by kernel_rfl) (by simp) ?_
          refine AllReadyH.cons rfl (fun K hK => ?_) AllReadyH.nil
          go_simp
          refine hK.out _ _ (unhide KP _ (hHeld.1.more _)) (fun hHeld => ?_)
          clear hK K
          try simp only [Act.put, List.getElem_toArray, List.getElem_cons_succ, List.getElem_cons_zero, List.setIfInBounds_toArray, List.set_cons_zero, List.set_cons_succ]
          obtain ⟨y4, hy4⟩ : ∃ y, y = y3.alloc (.cells #[] 57) := ⟨_, rfl⟩
          have s4 : Hid (y4.heap.size = y3.heap.size + 1) := hide (by rw [hy4]; exact World.size_alloc _ _)
          have q4 : Hid (G y3 y4) := hide (by rw [hy4]; exact G.alloc _ _)
          rw [← hy4] at hHeld ⊢
          clear hy4
          refine wpAnyH_ready (rs := [15]) (by kernel_rfl) (by simp) ?_
          refine AllReadyH.cons rfl (fun K hK => ?_) AllReadyH.nil
          obtain ⟨b2, c2, y5, hrun, hg, hR2, hd2⟩ := unhide A2 y4 hHeld.1 y3.heap.size
          refine step_app rfl (.tmp 17) (.tmp 19) 31 rfl _ _ rfl rfl _ _ hrun ?_
          refine hK.out _ _ (unhide KP _ (hHeld.1.trans hg)) (fun hHeld => ?_)
          clear hK K hrun
          try simp only [Act.put, List.getElem_toArray, List.getElem_cons_succ, List.getElem_cons_zero, List.setIfInBounds_toArray, List.set_cons_zero, List.set_cons_succ]
          have s5 : Hid (y4.heap.size ≤ y5.heap.size) := hide hg.size
          have q5 : Hid (G y4 y5) := hide hg
          replace hR2 := hide hR2
          replace hd2 := hide hd2
          clear hg
          refine wpAnyH_take (i := 16) (v := .agg #[.int .i64 a.p, .int .i64 a.c, .int .i64 a.s, .int .i64 a.r, .slice (some ⟨b1, 0, none⟩) a.ks.length c1, .slice none 0 0, .slice (some ⟨b2, 0, none⟩) a.ms.length c2]) rfl (by kernel_rfl) (by kernel_rfl) (by kernel_rfl) (fun _ _ _ h => h) (Or.inl ⟨by rfl, fun w hSw => by obtain ⟨t0, t1, t2, t3, t4, t5, t6, t7⟩ := hSw; go_simp⟩) (by assumption) ?_
          try simp only [Act.put, List.getElem_toArray, List.getElem_cons_succ, List.getElem_cons_zero, List.setIfInBounds_toArray, List.set_cons_zero, List.set_cons_succ]
          refine wpAnyH_ready (rs := [18]) (by kernel_rfl) (by simp) ?_
          refine AllReadyH.cons rfl (fun K hK => ?_) AllReadyH.nil
          have R1 := (unhide hR1).g okB ((unhide q4).trans (unhide q5))
          have R2 := (unhide hR2).g okU (G.refl _)
          have d1 : a.ks.length = 0 ∨ (b1 ≠ y1.heap.size ∧ W1.heap.size ≤ b1) := (unhide hd1).imp id (fun h => by have u0 := unhide s0; have u1 := unhide s1; have u2 := unhide s2; have u3 := unhide s3; have u4 := unhide s4; have u5 := unhide s5; omega)
          have d2 : a.ms.length = 0 ∨ (b2 ≠ y1.heap.size ∧ W1.heap.size ≤ b2) := (unhide hd2).imp id (fun h => by have u0 := unhide s0; have u1 := unhide s1; have u2 := unhide s2; have u3 := unhide s3; have u4 := unhide s4; have u5 := unhide s5; omega)
          have hgb : W1.heap.size ≤ y1.heap.size := by have u0 := unhide s0; have u1 := unhide s1; have u2 := unhide s2; have u3 := unhide s3; have u4 := unhide s4; have u5 := unhide s5; omega
          have L := hide (fn_leaf hHeld.1 hgb rfl ((unhide qz).trans (((unhide q3).trans (unhide q4)).trans (unhide q5))) R1 R2 d1 d2)
          have z0 := ((unhide qz).trans (((unhide q3).trans (unhide q4)).trans (unhide q5))).cell (x := ⟨y1.heap.size, 0, none⟩) (v := .int .i64 0) (by simp [go_sem])
          have f0 : y5.frozen? ⟨y1.heap.size, 0, none⟩ = false := (World.frozen?_of_block (((unhide qz).trans (((unhide q3).trans (unhide q4)).trans (unhide q5))).block y1.heap.size (by rw [World.size_alloc]; omega))).trans (by simp [go_sem])
          have z1 := ((unhide qz).trans (((unhide q3).trans (unhide q4)).trans (unhide q5))).cell (x := ⟨y1.heap.size, 1, none⟩) (v := .int .i64 0) (by simp [go_sem])
          have f1 : y5.frozen? ⟨y1.heap.size, 1, none⟩ = false := (World.frozen?_of_block (((unhide qz).trans (((unhide q3).trans (unhide q4)).trans (unhide q5))).block y1.heap.size (by rw [World.size_alloc]; omega))).trans (by simp [go_sem])
          have z2 := ((unhide qz).trans (((unhide q3).trans (unhide q4)).trans (unhide q5))).cell (x := ⟨y1.heap.size, 2, none⟩) (v := .int .i64 0) (by simp [go_sem])
          have f2 : y5.frozen? ⟨y1.heap.size, 2, none⟩ = false := (World.frozen?_of_block (((unhide qz).trans (((unhide q3).trans (unhide q4)).trans (unhide q5))).block y1.heap.size (by rw [World.size_alloc]; omega))).trans (by simp [go_sem])
          have z3 := ((unhide qz).trans (((unhide q3).trans (unhide q4)).trans (unhide q5))).cell (x := ⟨y1.heap.size, 3, none⟩) (v := .int .i64 0) (by simp [go_sem])
          have f3 : y5.frozen? ⟨y1.heap.size, 3, none⟩ = false := (World.frozen?_of_block (((unhide qz).trans (((unhide q3).trans (unhide q4)).trans (unhide q5))).block y1.heap.size (by rw [World.size_alloc]; omega))).trans (by simp [go_sem])
          have z4 := ((unhide qz).trans (((unhide q3).trans (unhide q4)).trans (unhide q5))).cell (x := ⟨y1.heap.size, 4, none⟩) (v := .slice none 0 0) (by simp [go_sem])
          have f4 : y5.frozen? ⟨y1.heap.size, 4, none⟩ = false := (World.frozen?_of_block (((unhide qz).trans (((unhide q3).trans (unhide q4)).trans (unhide q5))).block y1.heap.size (by rw [World.size_alloc]; omega))).trans (by simp [go_sem])
          have z5 := ((unhide qz).trans (((unhide q3).trans (unhide q4)).trans (unhide q5))).cell (x := ⟨y1.heap.size, 5, none⟩) (v := .slice none 0 0) (by simp [go_sem])
          have f5 : y5.frozen? ⟨y1.heap.size, 5, none⟩ = false := (World.frozen?_of_block (((unhide qz).trans (((unhide q3).trans (unhide q4)).trans (unhide q5))).block y1.heap.size (by rw [World.size_alloc]; omega))).trans (by simp [go_sem])
          have z6 := ((unhide qz).trans (((unhide q3).trans (unhide q4)).trans (unhide q5))).cell (x := ⟨y1.heap.size, 6, none⟩) (v := .slice none 0 0) (by simp [go_sem])
          have f6 : y5.frozen? ⟨y1.heap.size, 6, none⟩ = false := (World.frozen?_of_block (((unhide qz).trans (((unhide q3).trans (unhide q4)).trans (unhide q5))).block y1.heap.size (by rw [World.size_alloc]; omega))).trans (by simp [go_sem])
          clear R1 R2 d1 d2 hgb
          go_simp
          refine hK.out _ _ (unhide KP _ (unhide L).g) (fun hHeld => ?_)
          clear hK K
          try simp only [Act.put, List.getElem_toArray, List.getElem_cons_succ, List.getElem_cons_zero, List.setIfInBounds_toArray, List.set_cons_zero, List.set_cons_succ]
          refine wpAnyH_done (by kernel_rfl) (NoPanic.normal ?_) _
          go_wp2_with fail
          go_meet
          exact ⟨_, b1, c1, b2, c2, rfl, L⟩
        · go_simp
          refine hK.out _ _ (unhide KP _ (hHeld.1.more _)) (fun hHeld => ?_)
          clear hK K
          try simp only [Act.put, List.getElem_toArray, List.getElem_cons_succ, List.getElem_cons_zero, List.setIfInBounds_toArray, List.set_cons_zero, List.set_cons_succ]
          obtain ⟨y3, hy3⟩ : ∃ y, y = y2.alloc (.cells #[] 57) := ⟨_, rfl⟩
          have s3 : Hid (y3.heap.size = y2.heap.size + 1) := hide (by rw [hy3]; exact World.size_alloc _ _)
          have q3 : Hid (G y2 y3) := hide (by rw [hy3]; exact G.alloc _ _)
          rw [← hy3] at hHeld ⊢
          clear hy3
          refine wpAnyH_ready (rs := [11]) (by kernel_rfl) (by simp) ?_
          refine AllReadyH.cons rfl (fun K hK => ?_) AllReadyH.nil
          obtain ⟨b1, c1, y4, hrun, hg, hR1, hd1⟩ := unhide A1 y3 hHeld.1 y0.heap.size
          refine step_app rfl (.tmp 13) (.tmp 15) 24 rfl _ _ rfl rfl _ _ hrun ?_
          refine hK.out _ _ (unhide KP _ (hHeld.1.trans hg)) (fun hHeld => ?_)
          clear hK K hrun
          try simp only [Act.put, List.getElem_toArray, List.getElem_cons_succ, List.getElem_cons_zero, List.setIfInBounds_toArray, List.set_cons_zero, List.set_cons_succ]
          have s4 : Hid (y3.heap.size ≤ y4.heap.size) := hide hg.size
          have q4 : Hid (G y3 y4) := hide hg
          replace hR1 := hide hR1
          replace hd1 := hide hd1
          clear hg
          refine wpAnyH_ready (rs := [15]) (by kernel_rfl) (by simp) ?_
          refine AllReadyH.cons rfl (fun K hK => ?_) AllReadyH.nil
          obtain ⟨b2, c2, y5, hrun, hg, hR2, hd2⟩ := unhide A2 y4 hHeld.1 y2.heap.size
          refine step_app rfl (.tmp 17) (.tmp 19) 31 rfl _ _ rfl rfl _ _ hrun ?_
          refine hK.out _ _ (unhide KP _ (hHeld.1.trans hg)) (fun hHeld => ?_)
          clear hK K hrun
          try simp only [Act.put, List.getElem_toArray, List.getElem_cons_succ, List.getElem_cons_zero, List.setIfInBounds_toArray, List.set_cons_zero, List.set_cons_succ]
          have s5 : Hid (y4.heap.size ≤ y5.heap.size) := hide hg.size
          have q5 : Hid (G y4 y5) := hide hg
          replace hR2 := hide hR2
          replace hd2 := hide hd2
          clear hg
          refine wpAnyH_take (i := 16) (v := .agg #[.int .i64 a.p, .int .i64 a.c, .int .i64 a.s, .int .i64 a.r, .slice (some ⟨b1, 0, none⟩) a.ks.length c1, .slice none 0 0, .slice (some ⟨b2, 0, none⟩) a.ms.length c2]) rfl (by kernel_rfl) (by kernel_rfl) (by kernel_rfl) (fun _ _ _ h => h) (Or.inl ⟨by rfl, fun w hSw => by obtain ⟨t0, t1, t2, t3, t4, t5, t6, t7⟩ := hSw; go_simp⟩) (by assumption) ?_
          try simp only [Act.put, List.getElem_toArray, List.getElem_cons_succ, List.getElem_cons_zero, List.setIfInBounds_toArray, List.set_cons_zero, List.set_cons_succ]
          refine wpAnyH_ready (rs := [18]) (by kernel_rfl) (by simp) ?_
          refine AllReadyH.cons rfl (fun K hK => ?_) AllReadyH.nil
          have R1 := (unhide hR1).g okB (unhide q5)
          have R2 := (unhide hR2).g okU (G.refl _)
          have d1 : a.ks.length = 0 ∨ (b1 ≠ y1.heap.size ∧ W1.heap.size ≤ b1) := (unhide hd1).imp id (fun h => by have u0 := unhide s0; have u1 := unhide s1; have u2 := unhide s2; have u3 := unhide s3; have u4 := unhide s4; have u5 := unhide s5; omega)
          have d2 : a.ms.length = 0 ∨ (b2 ≠ y1.heap.size ∧ W1.heap.size ≤ b2) := (unhide hd2).imp id (fun h => by have u0 := unhide s0; have u1 := unhide s1; have u2 := unhide s2; have u3 := unhide s3; have u4 := unhide s4; have u5 := unhide s5; omega)
          have hgb : W1.heap.size ≤ y1.heap.size := by have u0 := unhide s0; have u1 := unhide s1; have u2 := unhide s2; have u3 := unhide s3; have u4 := unhide s4; have u5 := unhide s5; omega
          have L := hide (fn_leaf hHeld.1 hgb rfl ((unhide qz).trans (((unhide q3).trans (unhide q4)).trans (unhide q5))) R1 R2 d1 d2)
          have z0 := ((unhide qz).trans (((unhide q3).trans (unhide q4)).trans (unhide q5))).cell (x := ⟨y1.heap.size, 0, none⟩) (v := .int .i64 0) (by simp [go_sem])
          have f0 : y5.frozen? ⟨y1.heap.size, 0, none⟩ = false := (World.frozen?_of_block (((unhide qz).trans (((unhide q3).trans (unhide q4)).trans (unhide q5))).block y1.heap.size (by rw [World.size_alloc]; omega))).trans (by simp [go_sem])
          have z1 := ((unhide qz).trans (((unhide q3).trans (unhide q4)).trans (unhide q5))).cell (x := ⟨y1.heap.size, 1, none⟩) (v := .int .i64 0) (by simp [go_sem])
          have f1 : y5.frozen? ⟨y1.heap.size, 1, none⟩ = false := (World.frozen?_of_block (((unhide qz).trans (((unhide q3).trans (unhide q4)).trans (unhide q5))).block y1.heap.size (by rw [World.size_alloc]; omega))).trans (by simp [go_sem])
          have z2 := ((unhide qz).trans (((unhide q3).trans (unhide q4)).trans (unhide q5))).cell (x := ⟨y1.heap.size, 2, none⟩) (v := .int .i64 0) (by simp [go_sem])
          have f2 : y5.frozen? ⟨y1.heap.size, 2, none⟩ = false := (World.frozen?_of_block (((unhide qz).trans (((unhide q3).trans (unhide q4)).trans (unhide q5))).block y1.heap.size (by rw [World.size_alloc]; omega))).trans (by simp [go_sem])
          have z3 := ((unhide qz).trans (((unhide q3).trans (unhide q4)).trans (unhide q5))).cell (x := ⟨y1.heap.size, 3, none⟩) (v := .int .i64 0) (by simp [go_sem])
          have f3 : y5.frozen? ⟨y1.heap.size, 3, none⟩ = false := (World.frozen?_of_block (((unhide qz).trans (((unhide q3).trans (unhide q4)).trans (unhide q5))).block y1.heap.size (by rw [World.size_alloc]; omega))).trans (by simp [go_sem])
          have z4 := ((unhide qz).trans (((unhide q3).trans (unhide q4)).trans (unhide q5))).cell (x := ⟨y1.heap.size, 4, none⟩) (v := .slice none 0 0) (by simp [go_sem])
          have f4 : y5.frozen? ⟨y1.heap.size, 4, none⟩ = false := (World.frozen?_of_block (((unhide qz).trans (((unhide q3).trans (unhide q4)).trans (unhide q5))).block y1.heap.size (by rw [World.size_alloc]; omega))).trans (by simp [go_sem])
          have z5 := ((unhide qz).trans (((unhide q3).trans (unhide q4)).trans (unhide q5))).cell (x := ⟨y1.heap.size, 5, none⟩) (v := .slice none 0 0) (by simp [go_sem])
          have f5 : y5.frozen? ⟨y1.heap.size, 5, none⟩ = false := (World.frozen?_of_block (((unhide qz).trans (((unhide q3).trans (unhide q4)).trans (unhide q5))).block y1.heap.size (by rw [World.size_alloc]; omega))).trans (by simp [go_sem])
          have z6 := ((unhide qz).trans (((unhide q3).trans (unhide q4)).trans (unhide q5))).cell (x := ⟨y1.heap.size, 6, none⟩) (v := .slice none 0 0) (by simp [go_sem])
          have f6 : y5.frozen? ⟨y1.heap.size, 6, none⟩ = false := (World.frozen?_of_block (((unhide qz).trans (((unhide q3).trans (unhide q4)).trans (unhide q5))).block y1.heap.size (by rw [World.size_alloc]; omega))).trans (by simp [go_sem])
          clear R1 R2 d1 d2 hgb
          go_simp
          refine hK.out _ _ (unhide KP _ (unhide L).g) (fun hHeld => ?_)
          clear hK K
          try simp only [Act.put, List.getElem_toArray, List.getElem_cons_succ, List.getElem_cons_zero, List.setIfInBounds_toArray, List.set_cons_zero, List.set_cons_succ]
          refine wpAnyH_done (by kernel_rfl) (NoPanic.normal ?_) _
          go_wp2_with fail
          go_meet
          exact ⟨_, b1, c1, b2, c2, rfl, L⟩
    · go_simp
      refine hK.out _ _ (unhide KP _ (hHeld.1.more _)) (fun hHeld => ?_)
      clear hK K
      try simp only [Act.put, List.getElem_toArray, List.getElem_cons_succ, List.getElem_cons_zero, List.setIfInBounds_toArray, List.set_cons_zero, List.set_cons_succ]
      obtain ⟨y1, hy1⟩ : ∃ y, y = y0.alloc (.cells #[] 57) := ⟨_, rfl⟩
      have s1 : Hid (y1.heap.size = y0.heap.size + 1) := hide (by rw [hy1]; exact World.size_alloc _ _)
      have q1 : Hid (G y0 y1) := hide (by rw [hy1]; exact G.alloc _ _)
      rw [← hy1] at hHeld ⊢
      clear hy1
      refine wpAnyH_ready (rs := [8, 17]) (by kernel_rfl) (by simp) ?_
      refine AllReadyH.cons rfl (fun K hK => ?_) (AllReadyH.cons rfl (fun K hK => ?_) AllReadyH.nil)
      · go_simp
        refine hK.out _ _ (unhide KP _ (hHeld.1.more _)) (fun hHeld => ?_)
        clear hK K
        try simp only [Act.put, List.getElem_toArray, List.getElem_cons_succ, List.getElem_cons_zero, List.setIfInBounds_toArray, List.set_cons_zero, List.set_cons_succ]
        obtain ⟨y2, hy2⟩ : ∃ y, y = y1.alloc (.cells #[] 4) := ⟨_, rfl⟩
        have s2 : Hid (y2.heap.size = y1.heap.size + 1) := hide (by rw [hy2]; exact World.size_alloc _ _)
        have q2 : Hid (G y1 y2) := hide (by rw [hy2]; exact G.alloc _ _)
        rw [← hy2] at hHeld ⊢
        clear hy2
        refine wpAnyH_ready (rs := [11, 17]) (by kernel_rfl) (by simp) ?_
        refine AllReadyH.cons rfl (fun K hK => ?_) (AllReadyH.cons rfl (fun K hK => ?_) AllReadyH.nil)
        · obtain ⟨b1, c1, y3, hrun, hg, hR1, hd1⟩ := unhide A1 y2 hHeld.1 y1.heap.size
          refine step_app rfl (.tmp 13) (.tmp 15) 24 rfl _ _ rfl rfl _ _ hrun ?_
          refine hK.out _ _ (unhide KP _ (hHeld.1.trans hg)) (fun hHeld => ?_)
          clear hK K hrun
          try simp only [Act.put, List.getElem_toArray, List.getElem_cons_succ, List.getElem_cons_zero, List.setIfInBounds_toArray, List.set_cons_zero, List.set_cons_succ]
          have s3 : Hid (y2.heap.size ≤ y3.heap.size) := hide hg.size
          have q3 : Hid (G y2 y3) := hide hg
          replace hR1 := hide hR1
          replace hd1 := hide hd1
          clear hg
          refine wpAnyH_ready (rs := [15, 17]) (by kernel_rfl) (by simp) ?_
          refine AllReadyH.cons rfl (fun K hK => ?_) (AllReadyH.cons rfl (fun K hK => ?_) AllReadyH.nil)
          · obtain ⟨b2, c2, y4, hrun, hg, hR2, hd2⟩ := unhide A2 y3 hHeld.1 y0.heap.size
            refine step_app rfl (.tmp 17) (.tmp 19) 31 rfl _ _ rfl rfl _ _ hrun ?_
            refine hK.out _ _ (unhide KP _ (hHeld.1.trans hg)) (fun hHeld => ?_)
            clear hK K hrun
            try simp only [Act.put, List.getElem_toArray, List.getElem_cons_succ, List.getElem_cons_zero, List.setIfInBounds_toArray, List.set_cons_zero, List.set_cons_succ]
            have s4 : Hid (y3.heap.size ≤ y4.heap.size) := hide hg.size
            have q4 : Hid (G y3 y4) := hide hg
            replace hR2 := hide hR2
            replace hd2 := hide hd2
            clear hg
            refine wpAnyH_take (i := 16) (v := .agg #[.int .i64 a.p, .int .i64 a.c, .int .i64 a.s, .int .i64 a.r, .slice (some ⟨b1, 0, none⟩) a.ks.length c1, .slice none 0 0, .slice (some ⟨b2, 0, none⟩) a.ms.length c2]) rfl (by kernel_rfl) (by kernel_rfl) (by kernel_rfl) (fun _ _ _ h => h) (Or.inl ⟨by rfl, fun w hSw => by obtain ⟨t0, t1, t2, t3, t4, t5, t6, t7⟩ := hSw; go_simp⟩) (by assumption) ?_
            try simp only [Act.put, List.getElem_toArray, List.getElem_cons_succ, List.getElem_cons_zero, List.setIfInBounds_toArray, List.set_cons_zero, List.set_cons_succ]
            refine wpAnyH_ready (rs := [17]) (by kernel_rfl) (by simp) ?_
            refine AllReadyH.cons rfl (fun K hK => ?_) AllReadyH.nil
            go_simp
            refine hK.out _ _ (unhide KP _ (hHeld.1.more _)) (fun hHeld => ?_)
            clear hK K
            try simp only [Act.put, List.getElem_toArray, List.getElem_cons_succ, List.getElem_cons_zero, List.setIfInBounds_toArray, List.set_cons_zero, List.set_cons_succ]
            obtain ⟨y5, hy5⟩ : ∃ y, y = y4.alloc (.cells #[.int .i64 0, .int .i64 0, .int .i64 0, .int .i64 0, .slice none 0 0, .slice none 0 0, .slice none 0 0] 50) := ⟨_, rfl⟩
            have s5 : Hid (y5.heap.size = y4.heap.size + 1) := hide (by rw [hy5]; exact World.size_alloc _ _)
            have q5 : Hid (G y4 y5) := hide (by rw [hy5]; exact G.alloc _ _)
            have qz : Hid (G (y4.alloc (.cells #[.int .i64 0, .int .i64 0, .int .i64 0, .int .i64 0, .slice none 0 0, .slice none 0 0, .slice none 0 0] 50)) y5) := hide (by rw [hy5]; exact G.refl _)
            rw [← hy5] at hHeld ⊢
            clear hy5
            refine wpAnyH_ready (rs := [18]) (by kernel_rfl) (by simp) ?_
            refine AllReadyH.cons rfl (fun K hK => ?_) AllReadyH.nil
            have R1 := (unhide hR1).g okB ((unhide q4).trans (unhide q5))
            have R2 := (unhide hR2).g okU (unhide q5)
            have d1 : a.ks.length = 0 ∨ (b1 ≠ y4.heap.size ∧ W1.heap.size ≤ b1) := (unhide hd1).imp id (fun h => by have u0 := unhide s0; have u1 := unhide s1; have u2 := unhide s2; have u3 := unhide s3; have u4 := unhide s4; have u5 := unhide s5; omega)
            have d2 : a.ms.length = 0 ∨ (b2 ≠ y4.heap.size ∧ W1.heap.size ≤ b2) := (unhide hd2).imp id (fun h => by have u0 := unhide s0; have u1 := unhide s1; have u2 := unhide s2; have u3 := unhide s3; have u4 := unhide s4; have u5 := unhide s5; omega)
            have hgb : W1.heap.size ≤ y4.heap.size := by have u0 := unhide s0; have u1 := unhide s1; have u2 := unhide s2; have u3 := unhide s3; have u4 := unhide s4; have u5 := unhide s5; omega
            have L := hide (fn_leaf hHeld.1 hgb rfl (unhide qz) R1 R2 d1 d2)
            have z0 := (unhide qz).cell (x := ⟨y4.heap.size, 0, none⟩) (v := .int .i64 0) (by simp [go_sem])
            have f0 : y5.frozen? ⟨y4.heap.size, 0, none⟩ = false := (World.frozen?_of_block ((unhide qz).block y4.heap.size (by rw [World.size_alloc]; omega))).trans (by simp [go_sem])
            have z1 := (unhide qz).cell (x := ⟨y4.heap.size, 1, none⟩) (v := .int .i64 0) (by simp [go_sem])
            have f1 : y5.frozen? ⟨y4.heap.size, 1, none⟩ = false := (World.frozen?_of_block ((unhide qz).block y4.heap.size (by rw [World.size_alloc]; omega))).trans (by simp [go_sem])
            have z2 := (unhide qz).cell (x := ⟨y4.heap.size, 2, none⟩) (v := .int .i64 0) (by simp [go_sem])
            have f2 : y5.frozen? ⟨y4.heap.size, 2, none⟩ = false := (World.frozen?_of_block ((unhide qz).block y4.heap.size (by rw [World.size_alloc]; omega))).trans (by simp [go_sem])
            have z3 := (unhide qz).cell (x := ⟨y4.heap.size, 3, none⟩) (v := .int .i64 0) (by simp [go_sem])
            have f3 : y5.frozen? ⟨y4.heap.size, 3, none⟩ = false := (World.frozen?_of_block ((unhide qz).block y4.heap.size (by rw [World.size_alloc]; omega))).trans (by simp [go_sem])
            have z4 := (unhide qz).cell (x := ⟨y4.heap.size, 4, none⟩) (v := .slice none 0 0) (by simp [go_sem])
            have f4 : y5.frozen? ⟨y4.heap.size, 4, none⟩ = false := (World.frozen?_of_block ((unhide qz).block y4.heap.size (by rw [World.size_alloc]; omega))).trans (by simp [go_sem])
            have z5 := (unhide qz).cell (x := ⟨y4.heap.size, 5, none⟩) (v := .slice none 0 0) (by simp [go_sem])
            have f5 : y5.frozen? ⟨y4.heap.size, 5, none⟩ = false := (World.frozen?_of_block ((unhide qz).block y4.heap.size (by rw [World.size_alloc]; omega))).trans (by simp [go_sem])
            have z6 := (unhide qz).cell (x := ⟨y4.heap.size, 6, none⟩) (v := .slice none 0 0) (by simp [go_sem])
            have f6 : y5.frozen? ⟨y4.heap.size, 6, none⟩ = false := (World.frozen?_of_block ((unhide qz).block y4.heap.size (by rw [World.size_alloc]; omega))).trans (by simp [go_sem])
            clear R1 R2 d1 d2 hgb
            go_simp
            refine hK.out _ _ (unhide KP _ (unhide L).g) (fun hHeld => ?_)
            clear hK K
            try simp only [Act.put, List.getElem_toArray, List.getElem_cons_succ, List.getElem_cons_zero, List.setIfInBounds_toArray, List.set_cons_zero, List.set_cons_succ]
            refine wpAnyH_done (by kernel_rfl) (NoPanic.normal ?_) _
            go_wp2_with fail
            go_meet
            exact ⟨_, b1, c1, b2, c2, rfl, L⟩
          · go_simp
            refine hK.out _ _ (unhide KP _ (hHeld.1.more _)) (fun hHeld => ?_)
            clear hK K
            try simp only [Act.put, List.getElem_toArray, List.getElem_cons_succ, List.getElem_cons_zero, List.setIfInBounds_toArray, List.set_cons_zero, List.set_cons_succ]
            obtain ⟨y4, hy4⟩ : ∃ y, y = y3.alloc (.cells #[.int .i64 0, .int .i64 0, .int .i64 0, .int .i64 0, .slice none 0 0, .slice none 0 0, .slice none 0 0] 50) := ⟨_, rfl⟩
            have s4 : Hid (y4.heap.size = y3.heap.size + 1) := hide (by rw [hy4]; exact World.size_alloc _ _)
            have q4 : Hid (G y3 y4) := hide (by rw [hy4]; exact G.alloc _ _)
            have qz : Hid (G (y3.alloc (.cells #[.int .i64 0, .int .i64 0, .int .i64 0, .int .i64 0, .slice none 0 0, .slice none 0 0, .slice none 0 0] 50)) y4) := hide (by rw [hy4]; exact G.refl _)
            rw [← hy4] at hHeld ⊢
            clear hy4
            refine wpAnyH_ready (rs := [15]) (by kernel_rfl) (by simp) ?_
            refine AllReadyH.cons rfl (fun K hK => ?_) AllReadyH.nil
            obtain ⟨b2, c2, y5, hrun, hg, hR2, hd2⟩ := unhide A2 y4 hHeld.1 y0.heap.size
            refine step_app rfl (.tmp 17) (.tmp 19) 31 rfl _ _ rfl rfl _ _ hrun ?_
            refine hK.out _ _ (unhide KP _ (hHeld.1.trans hg)) (fun hHeld => ?_)
            clear hK K hrun
            try simp only [Act.put, List.getElem_toArray, List.getElem_cons_succ, List.getElem_cons_zero, List.setIfInBounds_toArray, List.set_cons_zero, List.set_cons_succ]
            have s5 : Hid (y4.heap.size ≤ y5.heap.size) := hide hg.size
            have q5 : Hid (G y4 y5) := hide hg
            replace hR2 := hide hR2
            replace hd2 := hide hd2
            clear hg
            refine wpAnyH_take (i := 16) (v := .agg #[.int .i64 a.p, .int .i64 a.c, .int .i64 a.s, .int .i64 a.r, .slice (some ⟨b1, 0, none⟩) a.ks.length c1, .slice none 0 0, .slice (some ⟨b2, 0, none⟩) a.ms.length c2]) rfl (by kernel_rfl) (by kernel_rfl) (by kernel_rfl) (fun _ _ _ h => h) (Or.inl ⟨by rfl, fun w hSw => by obtain ⟨t0, t1, t2, t3, t4, t5, t6, t7⟩ := hSw; go_simp⟩) (by assumption) ?_
            try simp only [Act.put, List.getElem_toArray, List.getElem_cons_succ, List.getElem_cons_zero, List.setIfInBounds_toArray, List.set_cons_zero, List.set_cons_succ]
            refine wpAnyH_ready (rs := [18]) (by kernel_rfl) (by simp) ?_
            refine AllReadyH.cons rfl (fun K hK => ?_) AllReadyH.nil
            have R1 := (unhide hR1).g okB ((unhide q4).trans (unhide q5))
            have R2 := (unhide hR2).g okU (G.refl _)
            have d1 : a.ks.length = 0 ∨ (b1 ≠ y3.heap.size ∧ W1.heap.size ≤ b1) := (unhide hd1).imp id (fun h => by have u0 := unhide s0; have u1 := unhide s1; have u2 := unhide s2; have u3 := unhide s3; have u4 := unhide s4; have u5 := unhide s5; omega)
            have d2 : a.ms.length = 0 ∨ (b2 ≠ y3.heap.size ∧ W1.heap.size ≤ b2) := (unhide hd2).imp id (fun h => by have u0 := unhide s0; have u1 := unhide s1; have u2 := unhide s2; have u3 := unhide s3; have u4 := unhide s4; have u5 := unhide s5; omega)
            have hgb : W1.heap.size ≤ y3.heap.size := by have u0 := unhide s0; have u1 := unhide s1; have u2 := unhide s2; have u3 := unhide s3; have u4 := unhide s4; have u5 := unhide s5; omega
            have L := hide (fn_leaf hHeld.1 hgb rfl ((unhide qz).trans (unhide q5)) R1 R2 d1 d2)
            have z0 := ((unhide qz).trans (unhide q5)).cell (x := ⟨y3.heap.size, 0, none⟩) (v := .int .i64 0) (by simp [go_sem])
            have f0 : y5.frozen? ⟨y3.heap.size, 0, none⟩ = false := (World.frozen?_of_block (((unhide qz).trans (unhide q5)).block y3.heap.size (by rw [World.size_alloc]; omega))).trans (by simp [go_sem])
            have z1 := ((unhide qz).trans (unhide q5)).cell (x := ⟨y3.heap.size, 1, none⟩) (v := .int .i64 0) (by simp [go_sem])
            have f1 : y5.frozen? ⟨y3.heap.size, 1, none⟩ = false := (World.frozen?_of_block (((unhide qz).trans (unhide q5)).block y3.heap.size (by rw [World.size_alloc]; omega))).trans (by simp [go_sem])
            have z2 := ((unhide qz).trans (unhide q5)).cell (x := ⟨y3.heap.size, 2, none⟩) (v := .int .i64 0) (by simp [go_sem])
            have f2 : y5.frozen? ⟨y3.heap.size, 2, none⟩ = false := (World.frozen?_of_block (((unhide qz).trans (unhide q5)).block y3.heap.size (by rw [World.size_alloc]; omega))).trans (by simp [go_sem])
            have z3 := ((unhide qz).trans (unhide q5)).cell (x := ⟨y3.heap.size, 3, none⟩) (v := .int .i64 0) (by simp [go_sem])
            have f3 : y5.frozen? ⟨y3.heap.size, 3, none⟩ = false := (World.frozen?_of_block (((unhide qz).trans (unhide q5)).block y3.heap.size (by rw [World.size_alloc]; omega))).trans (by simp [go_sem])
            have z4 := ((unhide qz).trans (unhide q5)).cell (x := ⟨y3.heap.size, 4, none⟩) (v := .slice none 0 0) (by simp [go_sem])
            have f4 : y5.frozen? ⟨y3.heap.size, 4, none⟩ = false := (World.frozen?_of_block (((unhide qz).trans (unhide q5)).block y3.heap.size (by rw [World.size_alloc]; omega))).trans (by simp [go_sem])
            have z5 := ((unhide qz).trans (unhide q5)).cell (x := ⟨y3.heap.size, 5, none⟩) (v := .slice none 0 0) (by simp [go_sem])
            have f5 : y5.frozen? ⟨y3.heap.size, 5, none⟩ = false := (World.frozen?_of_block (((unhide qz).trans (unhide q5)).block y3.heap.size (by rw [World.size_alloc]; omega))).trans (by simp [go_sem])
            have z6 := ((unhide qz).trans (unhide q5)).cell (x := ⟨y3.heap.size, 6, none⟩) (v := .slice none 0 0) (by simp [go_sem])
            have f6 : y5.frozen? ⟨y3.heap.size, 6, none⟩ = false := (World.frozen?_of_block (((unhide qz).trans (unhide q5)).block y3.heap.size (by rw [World.size_alloc]; omega))).trans (by simp [go_sem])
            clear R1 R2 d1 d2 hgb
            go_simp
            refine hK.out _ _ (unhide KP _ (unhide L).g) (fun hHeld => ?_)
            clear hK K
            try simp only [Act.put, List.getElem_toArray, List.getElem_cons_succ, List.getElem_cons_zero, List.setIfInBounds_toArray, List.set_cons_zero, List.set_cons_succ]
            refine wpAnyH_done (by kernel_rfl) (NoPanic.normal ?_) _
            go_wp2_with fail
            go_meet
            exact ⟨_, b1, c1, b2, c2, rfl, L⟩
        · go_simp
          refine hK.out _ _ (unhide KP _ (hHeld.1.more _)) (fun hHeld => ?_)
          clear hK K
          try simp only [Act.put, List.getElem_toArray, List.getElem_cons_succ, List.getElem_cons_zero, List.setIfInBounds_toArray, List.set_cons_zero, List.set_cons_succ]
          obtain ⟨y3, hy3⟩ : ∃ y, y = y2.alloc (.cells #[.int .i64 0, .int .i64 0, .int .i64 0, .int .i64 0, .slice none 0 0, .slice none 0 0, .slice none 0 0] 50) := ⟨_, rfl⟩
          have s3 : Hid (y3.heap.size = y2.heap.size + 1) := hide (by rw [hy3]; exact World.size_alloc _ _)
          have q3 : Hid (G y2 y3) := hide (by rw [hy3]; exact G.alloc _ _)
          have qz : Hid (G (y2.alloc (.cells #[.int .i64 0, .int .i64 0, .int .i64 0, .int .i64 0, .slice none 0 0, .slice none 0 0, .slice none 0 0] 50)) y3) := hide (by rw [hy3]; exact G.refl _)
          rw [← hy3] at hHeld ⊢
          clear hy3
          refine wpAnyH_ready (rs := [11]) (by kernel_rfl) (by simp) ?_
          refine AllReadyH.cons rfl (fun K hK => ?_) AllReadyH.nil
          obtain ⟨b1, c1, y4, hrun, hg, hR1, hd1⟩ := unhide A1 y3 hHeld.1 y1.heap.size
          refine step_app rfl (.tmp 13) (.tmp 15) 24 rfl _ _ rfl rfl _ _ hrun ?_
          refine hK.out _ _ (unhide KP _ (hHeld.1.trans hg)) (fun hHeld => ?_)
          clear hK K hrun
          try simp only [Act.put, List.getElem_toArray, List.getElem_cons_succ, List.getElem_cons_zero, List.setIfInBounds_toArray, List.set_cons_zero, List.set_cons_succ]
          have s4 : Hid (y3.heap.size ≤ y4.heap.size) := hide hg.size
          have q4 : Hid (G y3 y4) := hide hg
          replace hR1 := hide hR1
          replace hd1 := hide hd1
          clear hg
          refine wpAnyH_ready (rs := [15]) (by kernel_rfl) (by simp) ?_
          refine AllReadyH.cons rfl (fun K hK => ?_) AllReadyH.nil
          obtain ⟨b2, c2, y5, hrun, hg, hR2, hd2⟩ := unhide A2 y4 hHeld.1 y0.heap.size
          refine step_app rfl (.tmp 17) (.tmp 19) 31 rfl _ _ rfl rfl _ _ hrun ?_
          refine hK.out _ _ (unhide KP _ (hHeld.1.trans hg)) (fun hHeld => ?_)
          clear hK K hrun
          try simp only [Act.put, List.getElem_toArray, List.getElem_cons_succ, List.getElem_cons_zero, List.setIfInBounds_toArray, List.set_cons_zero, List.set_cons_succ]
          have s5 : Hid (y4.heap.size ≤ y5.heap.size) := hide hg.size
          have q5 : Hid (G y4 y5) := hide hg
          replace hR2 := hide hR2
          replace hd2 := hide hd2
          clear hg
          refine wpAnyH_take (i := 16) (v := .agg #[.int .i64 a.p, .int .i64 a.c, .int .i64 a.s, .int .i64 a.r, .slice (some ⟨b1, 0, none⟩) a.ks.length c1, .slice none 0 0, .slice (some ⟨b2, 0, none⟩) a.ms.length c2]) rfl (by kernel_rfl) (by kernel_rfl) (by kernel_rfl) (fun _ _ _ h => h) (Or.inl ⟨by rfl, fun w hSw => by obtain ⟨t0, t1, t2, t3, t4, t5, t6, t7⟩ := hSw; go_simp⟩) (by assumption) ?_
          try simp only [Act.put, List.getElem_toArray, List.getElem_cons_succ, List.getElem_cons_zero, List.setIfInBounds_toArray, List.set_cons_zero, List.set_cons_succ]
          refine wpAnyH_ready (rs := [18]) (by kernel_rfl) (by simp) ?_
          refine AllReadyH.cons rfl (fun K hK => ?_) AllReadyH.nil
          have R1 := (unhide hR1).g okB (unhide q5)
          have R2 := (unhide hR2).g okU (G.refl _)
          have d1 : a.ks.length = 0 ∨ (b1 ≠ y2.heap.size ∧ W1.heap.size ≤ b1) := (unhide hd1).imp id (fun h => by have u0 := unhide s0; have u1 := unhide s1; have u2 := unhide s2; have u3 := unhide s3; have u4 := unhide s4; have u5 := unhide s5; omega)
          have d2 : a.ms.length = 0 ∨ (b2 ≠ y2.heap.size ∧ W1.heap.size ≤ b2) := (unhide hd2).imp id (fun h => by have u0 := unhide s0; have u1 := unhide s1; have u2 := unhide s2; have u3 := unhide s3; have u4 := unhide s4; have u5 := unhide s5; omega)
          have hgb : W1.heap.size ≤ y2.heap.size := by have u0 := unhide s0; have u1 := unhide s1; have u2 := unhide s2; have u3 := unhide s3; have u4 := unhide s4; have u5 := unhide s5; omega
          have L := hide (fn_leaf hHeld.1 hgb rfl ((unhide qz).trans ((unhide q4).trans (unhide q5))) R1 R2 d1 d2)
          have z0 := ((unhide qz).trans ((unhide q4).trans (unhide q5))).cell (x := ⟨y2.heap.size, 0, none⟩) (v := .int .i64 0) (by simp [go_sem])
          have f0 : y5.frozen? ⟨y2.heap.size, 0, none⟩ = false := (World.frozen?_of_block (((unhide qz).trans ((unhide q4).trans (unhide q5))).block y2.heap.size (by rw [World.size_alloc]; omega))).trans (by simp [go_sem])
          have z1 := ((unhide qz).trans ((unhide q4).trans (unhide q5))).cell (x := ⟨y2.heap.size, 1, none⟩) (v := .int .i64 0) (by simp [go_sem])
          have f1 : y5.frozen? ⟨y2.heap.size, 1, none⟩ = false := (World.frozen?_of_block (((unhide qz).trans ((unhide q4).trans (unhide q5))).block y2.heap.size (by rw [World.size_alloc]; omega))).trans (by simp [go_sem])
          have z2 := ((unhide qz).trans ((unhide q4).trans (unhide q5))).cell (x := ⟨y2.heap.size, 2, none⟩) (v := .int .i64 0) (by simp [go_sem])
          have f2 : y5.frozen? ⟨y2.heap.size, 2, none⟩ = false := (World.frozen?_of_block (((unhide qz).trans ((unhide q4).trans (unhide q5))).block y2.heap.size (by rw [World.size_alloc]; omega))).trans (by simp [go_sem])
          have z3 := ((unhide qz).trans ((unhide q4).trans (unhide q5))).cell (x := ⟨y2.heap.size, 3, none⟩) (v := .int .i64 0) (by simp [go_sem])
          have f3 : y5.frozen? ⟨y2.heap.size, 3, none⟩ = false := (World.frozen?_of_block (((unhide qz).trans ((unhide q4).trans (unhide q5))).block y2.heap.size (by rw [World.size_alloc]; omega))).trans (by simp [go_sem])
          have z4 := ((unhide qz).trans ((unhide q4).trans (unhide q5))).cell (x := ⟨y2.heap.size, 4, none⟩) (v := .slice none 0 0) (by simp [go_sem])
          have f4 : y5.frozen? ⟨y2.heap.size, 4, none⟩ = false := (World.frozen?_of_block (((unhide qz).trans ((unhide q4).trans (unhide q5))).block y2.heap.size (by rw [World.size_alloc]; omega))).trans (by simp [go_sem])
          have z5 := ((unhide qz).trans ((unhide q4).trans (unhide q5))).cell (x := ⟨y2.heap.size, 5, none⟩) (v := .slice none 0 0) (by simp [go_sem])
          have f5 : y5.frozen? ⟨y2.heap.size, 5, none⟩ = false := (World.frozen?_of_block (((unhide qz).trans ((unhide q4).trans (unhide q5))).block y2.heap.size (by rw [World.size_alloc]; omega))).trans (by simp [go_sem])
          have z6 := ((unhide qz).trans ((unhide q4).trans (unhide q5))).cell (x := ⟨y2.heap.size, 6, none⟩) (v := .slice none 0 0) (by simp [go_sem])
          have f6 : y5.frozen? ⟨y2.heap.size, 6, none⟩ = false := (World.frozen?_of_block (((unhide qz).trans ((unhide q4).trans (unhide q5))).block y2.heap.size (by rw [World.size_alloc]; omega))).trans (by simp [go_sem])
          clear R1 R2 d1 d2 hgb
          go_simp
          refine hK.out _ _ (unhide KP _ (unhide L).g) (fun hHeld => ?_)
          clear hK K
          try simp only [Act.put, List.getElem_toArray, List.getElem_cons_succ, List.getElem_cons_zero, List.setIfInBounds_toArray, List.set_cons_zero, List.set_cons_succ]
          refine wpAnyH_done (by kernel_rfl) (NoPanic.normal ?_) _
          go_wp2_with fail
          go_meet
          exact ⟨_, b1, c1, b2, c2, rfl, L⟩
      · go_simp
        refine hK.out _ _ (unhide KP _ (hHeld.1.more _)) (fun hHeld => ?_)
        clear hK K
        try simp only [Act.put, List.getElem_toArray, List.getElem_cons_succ, List.getElem_cons_zero, List.setIfInBounds_toArray, List.set_cons_zero, List.set_cons_succ]
        obtain ⟨y2, hy2⟩ : ∃ y, y = y1.alloc (.cells #[.int .i64 0, .int .i64 0, .int .i64 0, .int .i64 0, .slice none 0 0, .slice none 0 0, .slice none 0 0] 50) := ⟨_, rfl⟩
        have s2 : Hid (y2.heap.size = y1.heap.size + 1) := hide (by rw [hy2]; exact World.size_alloc _ _)
        have q2 : Hid (G y1 y2) := hide (by rw [hy2]; exact G.alloc _ _)
        have qz : Hid (G (y1.alloc (.cells #[.int .i64 0, .int .i64 0, .int .i64 0, .int .i64 0, .slice none 0 0, .slice none 0 0, .slice none 0 0] 50)) y2) := hide (by rw [hy2]; exact G.refl _)
        rw [← hy2] at hHeld ⊢
        clear hy2
        refine wpAnyH_ready (rs := [8]) (by kernel_rfl) (by simp) ?_
        refine AllReadyH.cons rfl (fun K hK => ?_) AllReadyH.nil
        go_simp
        refine hK.out _ _ (unhide KP _ (hHeld.1.more _)) (fun hHeld => ?_)
        clear hK K
        try simp only [Act.put, List.getElem_toArray, List.getElem_cons_succ, List.getElem_cons_zero, List.setIfInBounds_toArray, List.set_cons_zero, List.set_cons_succ]
        obtain ⟨y3, hy3⟩ : ∃ y, y = y2.alloc (.cells #[] 4) := ⟨_, rfl⟩
        have s3 : Hid (y3.heap.size = y2.heap.size + 1) := hide (by rw [hy3]; exact World.size_alloc _ _)
        have q3 : Hid (G y2 y3) := hide (by rw [hy3]; exact G.alloc _ _)
        rw [← hy3] at hHeld ⊢
        clear hy3
        refine wpAnyH_ready (rs := [11]) (by kernel_rfl) (by simp) ?_
        refine AllReadyH.cons rfl (fun K hK => ?_) AllReadyH.nil
        obtain ⟨b1, c1, y4, hrun, hg, hR1, hd1⟩ := unhide A1 y3 hHeld.1 y2.heap.size
        refine step_app rfl (.tmp 13) (.tmp 15) 24 rfl _ _ rfl rfl _ _ hrun ?_
        refine hK.out _ _ (unhide KP _ (hHeld.1.trans hg)) (fun hHeld => ?_)
        clear hK K hrun
        try simp only [Act.put, List.getElem_toArray, List.getElem_cons_succ, List.getElem_cons_zero, List.setIfInBounds_toArray, List.set_cons_zero, List.set_cons_succ]
        have s4 : Hid (y3.heap.size ≤ y4.heap.size) := hide hg.size
        have q4 : Hid (G y3 y4) := hide hg
        replace hR1 := hide hR1
        replace hd1 := hide hd1
        clear hg
        refine wpAnyH_ready (rs := [15]) (by kernel_rfl) (by simp) ?_
        refine AllReadyH.cons rfl (fun K hK => ?_) AllReadyH.nil
        obtain ⟨b2, c2, y5, hrun, hg, hR2, hd2⟩ := unhide A2 y4 hHeld.1 y0.heap.size
        refine step_app rfl (.tmp 17) (.tmp 19) 31 rfl _ _ rfl rfl _ _ hrun ?_
        refine hK.out _ _ (unhide KP _ (hHeld.1.trans hg)) (fun hHeld => ?_)
        clear hK K hrun
        try simp only [Act.put, List.getElem_toArray, List.getElem_cons_succ, List.getElem_cons_zero, List.setIfInBounds_toArray, List.set_cons_zero, List.set_cons_succ]
        have s5 : Hid (y4.heap.size ≤ y5.heap.size) := hide hg.size
        have q5 : Hid (G y4 y5) := hide hg
        replace hR2 := hide hR2
        replace hd2 := hide hd2
        clear hg
        refine wpAnyH_take (i := 16) (v := .agg #[.int .i64 a.p, .int .i64 a.c, .int .i64 a.s, .int .i64 a.r, .slice (some ⟨b1, 0, none⟩) a.ks.length c1, .slice none 0 0, .slice (some ⟨b2, 0, none⟩) a.ms.length c2]) rfl (by kernel_rfl) (by kernel_rfl) (by kernel_rfl) (fun _ _ _ h => h) (Or.inl ⟨by rfl, fun w hSw => by obtain ⟨t0, t1, t2, t3, t4, t5, t6, t7⟩ := hSw; go_simp⟩) (by assumption) ?_
        try simp only [Act.put, List.getElem_toArray, List.getElem_cons_succ, List.getElem_cons_zero, List.setIfInBounds_toArray, List.set_cons_zero, List.set_cons_succ]
        refine wpAnyH_ready (rs := [18]) (by kernel_rfl) (by simp) ?_
        refine AllReadyH.cons rfl (fun K hK => ?_) AllReadyH.nil
        have R1 := (unhide hR1).g okB (unhide q5)
        have R2 := (unhide hR2).g okU (G.refl _)
        have d1 : a.ks.length = 0 ∨ (b1 ≠ y1.heap.size ∧ W1.heap.size ≤ b1) := (unhide hd1).imp id (fun h => by have u0 := unhide s0; have u1 := unhide s1; have u2 := unhide s2; have u3 := unhide s3; have u4 := unhide s4; have u5 := unhide s5; omega)
        have d2 : a.ms.length = 0 ∨ (b2 ≠ y1.heap.size ∧ W1.heap.size ≤ b2) := (unhide hd2).imp id (fun h => by have u0 := unhide s0; have u1 := unhide s1; have u2 := unhide s2; have u3 := unhide s3; have u4 := unhide s4; have u5 := unhide s5; omega)
        have hgb : W1.heap.size ≤ y1.heap.size := by have u0 := unhide s0; have u1 := unhide s1; have u2 := unhide s2; have u3 := unhide s3; have u4 := unhide s4; have u5 := unhide s5; omega
        have L := hide (fn_leaf hHeld.1 hgb rfl ((unhide qz).trans (((unhide q3).trans (unhide q4)).trans (unhide q5))) R1 R2 d1 d2)
        have z0 := ((unhide qz).trans (((unhide q3).trans (unhide q4)).trans (unhide q5))).cell (x := ⟨y1.heap.size, 0, none⟩) (v := .int .i64 0) (by simp [go_sem])
        have f0 : y5.frozen? ⟨y1.heap.size, 0, none⟩ = false := (World.frozen?_of_block (((unhide qz).trans (((unhide q3).trans (unhide q4)).trans (unhide q5))).block y1.heap.size (by rw [World.size_alloc]; omega))).trans (by simp [go_sem])
        have z1 := ((unhide qz).trans (((unhide q3).trans (unhide q4)).trans (unhide q5))).cell (x := ⟨y1.heap.size, 1, none⟩) (v := .int .i64 0) (by simp [go_sem])
        have f1 : y5.frozen? ⟨y1.heap.size, 1, none⟩ = false := (World.frozen?_of_block (((unhide qz).trans (((unhide q3).trans (unhide q4)).trans (unhide q5))).block y1.heap.size (by rw [World.size_alloc]; omega))).trans (by simp [go_sem])
        have z2 := ((unhide qz).trans (((unhide q3).trans (unhide q4)).trans (unhide q5))).cell (x := ⟨y1.heap.size, 2, none⟩) (v := .int .i64 0) (by simp [go_sem])
        have f2 : y5.frozen? ⟨y1.heap.size, 2, none⟩ = false := (World.frozen?_of_block (((unhide qz).trans (((unhide q3).trans (unhide q4)).trans (unhide q5))).block y1.heap.size (by rw [World.size_alloc]; omega))).trans (by simp [go_sem])
        have z3 := ((unhide qz).trans (((unhide q3).trans (unhide q4)).trans (unhide q5))).cell (x := ⟨y1.heap.size, 3, none⟩) (v := .int .i64 0) (by simp [go_sem])
        have f3 : y5.frozen? ⟨y1.heap.size, 3, none⟩ = false := (World.frozen?_of_block (((unhide qz).trans (((unhide q3).trans (unhide q4)).trans (unhide q5))).block y1.heap.size (by rw [World.size_alloc]; omega))).trans (by simp [go_sem])
        have z4 := ((unhide qz).trans (((unhide q3).trans (unhide q4)).trans (unhide q5))).cell (x := ⟨y1.heap.size, 4, none⟩) (v := .slice none 0 0) (by simp [go_sem])
        have f4 : y5.frozen? ⟨y1.heap.size, 4, none⟩ = false := (World.frozen?_of_block (((unhide qz).trans (((unhide q3).trans (unhide q4)).trans (unhide q5))).block y1.heap.size (by rw [World.size_alloc]; omega))).trans (by simp [go_sem])
        have z5 := ((unhide qz).trans (((unhide q3).trans (unhide q4)).trans (unhide q5))).cell (x := ⟨y1.heap.size, 5, none⟩) (v := .slice none 0 0) (by simp [go_sem])
        have f5 : y5.frozen? ⟨y1.heap.size, 5, none⟩ = false := (World.frozen?_of_block (((unhide qz).trans (((unhide q3).trans (unhide q4)).trans (unhide q5))).block y1.heap.size (by rw [World.size_alloc]; omega))).trans (by simp [go_sem])
        have z6 := ((unhide qz).trans (((unhide q3).trans (unhide q4)).trans (unhide q5))).cell (x := ⟨y1.heap.size, 6, none⟩) (v := .slice none 0 0) (by simp [go_sem])
        have f6 : y5.frozen? ⟨y1.heap.size, 6, none⟩ = false := (World.frozen?_of_block (((unhide qz).trans (((unhide q3).trans (unhide q4)).trans (unhide q5))).block y1.heap.size (by rw [World.size_alloc]; omega))).trans (by simp [go_sem])
        clear R1 R2 d1 d2 hgb
        go_simp
        refine hK.out _ _ (unhide KP _ (unhide L).g) (fun hHeld => ?_)
        clear hK K
        try simp only [Act.put, List.getElem_toArray, List.getElem_cons_succ, List.getElem_cons_zero, List.setIfInBounds_toArray, List.set_cons_zero, List.set_cons_succ]
        refine wpAnyH_done (by kernel_rfl) (NoPanic.normal ?_) _
        go_wp2_with fail
        go_meet
        exact ⟨_, b1, c1, b2, c2, rfl, L⟩
    · go_simp
      refine hK.out _ _ (unhide KP _ (hHeld.1.more _)) (fun hHeld => ?_)
      clear hK K
      try simp only [Act.put, List.getElem_toArray, List.getElem_cons_succ, List.getElem_cons_zero, List.setIfInBounds_toArray, List.set_cons_zero, List.set_cons_succ]
      obtain ⟨y1, hy1⟩ : ∃ y, y = y0.alloc (.cells #[.int .i64 0, .int .i64 0, .int .i64 0, .int .i64 0, .slice none 0 0, .slice none 0 0, .slice none 0 0] 50) := ⟨_, rfl⟩
      have s1 : Hid (y1.heap.size = y0.heap.size + 1) := hide (by rw [hy1]; exact World.size_alloc _ _)
      have q1 : Hid (G y0 y1) := hide (by rw [hy1]; exact G.alloc _ _)
      have qz : Hid (G (y0.alloc (.cells #[.int .i64 0, .int .i64 0, .int .i64 0, .int .i64 0, .slice none 0 0, .slice none 0 0, .slice none 0 0] 50)) y1) := hide (by rw [hy1]; exact G.refl _)
      rw [← hy1] at hHeld ⊢
      clear hy1
      refine wpAnyH_ready (rs := [8, 12]) (by kernel_rfl) (by simp) ?_
      refine AllReadyH.cons rfl (fun K hK => ?_) (AllReadyH.cons rfl (fun K hK => ?_) AllReadyH.nil)
      · go_simp
        refine hK.out _ _ (unhide KP _ (hHeld.1.more _)) (fun hHeld => ?_)
        clear hK K
        try simp only [Act.put, List.getElem_toArray, List.getElem_cons_succ, List.getElem_cons_zero, List.setIfInBounds_toArray, List.set_cons_zero, List.set_cons_succ]
        obtain ⟨y2, hy2⟩ : ∃ y, y = y1.alloc (.cells #[] 4) := ⟨_, rfl⟩
        have s2 : Hid (y2.heap.size = y1.heap.size + 1) := hide (by rw [hy2]; exact World.size_alloc _ _)
        have q2 : Hid (G y1 y2) := hide (by rw [hy2]; exact G.alloc _ _)
        rw [← hy2] at hHeld ⊢
        clear hy2
        refine wpAnyH_ready (rs := [11, 12]) (by kernel_rfl) (by simp) ?_
        refine AllReadyH.cons rfl (fun K hK => ?_) (AllReadyH.cons rfl (fun K hK => ?_) AllReadyH.nil)
        · obtain ⟨b1, c1, y3, hrun, hg, hR1, hd1⟩ := unhide A1 y2 hHeld.1 y1.heap.size
          refine step_app rfl (.tmp 13) (.tmp 15) 24 rfl _ _ rfl rfl _ _ hrun ?_
          refine hK.out _ _ (unhide KP _ (hHeld.1.trans hg)) (fun hHeld => ?_)
          clear hK K hrun
          try simp only [Act.put, List.getElem_toArray, List.getElem_cons_succ, List.getElem_cons_zero, List.setIfInBounds_toArray, List.set_cons_zero, List.set_cons_succ]
          have s3 : Hid (y2.heap.size ≤ y3.heap.size) := hide hg.size
          have q3 : Hid (G y2 y3) := hide hg
          replace hR1 := hide hR1
          replace hd1 := hide hd1
          clear hg
          refine wpAnyH_ready (rs := [12]) (by kernel_rfl) (by simp) ?_
          refine AllReadyH.cons rfl (fun K hK => ?_) AllReadyH.nil
          go_simp
          refine hK.out _ _ (unhide KP _ (hHeld.1.more _)) (fun hHeld => ?_)
          clear hK K
          try simp only [Act.put, List.getElem_toArray, List.getElem_cons_succ, List.getElem_cons_zero, List.setIfInBounds_toArray, List.set_cons_zero, List.set_cons_succ]
          obtain ⟨y4, hy4⟩ : ∃ y, y = y3.alloc (.cells #[] 57) := ⟨_, rfl⟩
          have s4 : Hid (y4.heap.size = y3.heap.size + 1) := hide (by rw [hy4]; exact World.size_alloc _ _)
          have q4 : Hid (G y3 y4) := hide (by rw [hy4]; exact G.alloc _ _)
          rw [← hy4] at hHeld ⊢
          clear hy4
          refine wpAnyH_ready (rs := [15]) (by kernel_rfl) (by simp) ?_
          refine AllReadyH.cons rfl (fun K hK => ?_) AllReadyH.nil
          obtain ⟨b2, c2, y5, hrun, hg, hR2, hd2⟩ := unhide A2 y4 hHeld.1 y3.heap.size
          refine step_app rfl (.tmp 17) (.tmp 19) 31 rfl _ _ rfl rfl _ _ hrun ?_
          refine hK.out _ _ (unhide KP _ (hHeld.1.trans hg)) (fun hHeld => ?_)
          clear hK K hrun
          try simp only [Act.put, List.getElem_toArray, List.getElem_cons_succ, List.getElem_cons_zero, List.setIfInBounds_toArray, List.set_cons_zero, List.set_cons_succ]
          have s5 : Hid (y4.heap.size ≤ y5.heap.size) := hide hg.size
          have q5 : Hid (G y4 y5) := hide hg
          replace hR2 := hide hR2
          replace hd2 := hide hd2
          clear hg
          refine wpAnyH_take (i := 16) (v := .agg #[.int .i64 a.p, .int .i64 a.c, .int .i64 a.s, .int .i64 a.r, .slice (some ⟨b1, 0, none⟩) a.ks.length c1, .slice none 0 0, .slice (some ⟨b2, 0, none⟩) a.ms.length c2]) rfl (by kernel_rfl) (by kernel_rfl) (by kernel_rfl) (fun _ _ _ h => h) (Or.inl ⟨by rfl, fun w hSw => by obtain ⟨t0, t1, t2, t3, t4, t5, t6, t7⟩ := hSw; go_simp⟩) (by assumption) ?_
          try simp only [Act.put, List.getElem_toArray, List.getElem_cons_succ, List.getElem_cons_zero, List.setIfInBounds_toArray, List.set_cons_zero, List.set_cons_succ]
          refine wpAnyH_ready (rs := [18]) (by kernel_rfl) (by simp) ?_
          refine AllReadyH.cons rfl (fun K hK => ?_) AllReadyH.nil
          have R1 := (unhide hR1).g okB ((unhide q4).trans (unhide q5))
          have R2 := (unhide hR2).g okU (G.refl _)
          have d1 : a.ks.length = 0 ∨ (b1 ≠ y0.heap.size ∧ W1.heap.size ≤ b1) := (unhide hd1).imp id (fun h => by have u0 := unhide s0; have u1 := unhide s1; have u2 := unhide s2; have u3 := unhide s3; have u4 := unhide s4; have u5 := unhide s5; omega)
          have d2 : a.ms.length = 0 ∨ (b2 ≠ y0.heap.size ∧ W1.heap.size ≤ b2) := (unhide hd2).imp id (fun h => by have u0 := unhide s0; have u1 := unhide s1; have u2 := unhide s2; have u3 := unhide s3; have u4 := unhide s4; have u5 := unhide s5; omega)
          have hgb : W1.heap.size ≤ y0.heap.size := by have u0 := unhide s0; have u1 := unhide s1; have u2 := unhide s2; have u3 := unhide s3; have u4 := unhide s4; have u5 := unhide s5; omega
          have L := hide (fn_leaf hHeld.1 hgb rfl ((unhide qz).trans ((((unhide q2).trans (unhide q3)).trans (unhide q4)).trans (unhide q5))) R1 R2 d1 d2)
          have z0 := ((unhide qz).trans ((((unhide q2).trans (unhide q3)).trans (unhide q4)).trans (unhide q5))).cell (x := ⟨y0.heap.size, 0, none⟩) (v := .int .i64 0) (by simp [go_sem])
          have f0 : y5.frozen? ⟨y0.heap.size, 0, none⟩ = false := (World.frozen?_of_block (((unhide qz).trans ((((unhide q2).trans (unhide q3)).trans (unhide q4)).trans (unhide q5))).block y0.heap.size (by rw [World.size_alloc]; omega))).trans (by simp [go_sem])
          have z1 := ((unhide qz).trans ((((unhide q2).trans (unhide q3)).trans (unhide q4)).trans (unhide q5))).cell (x := ⟨y0.heap.size, 1, none⟩) (v := .int .i64 0) (by simp [go_sem])
          have f1 : y5.frozen? ⟨y0.heap.size, 1, none⟩ = false := (World.frozen?_of_block (((unhide qz).trans ((((unhide q2).trans (unhide q3)).trans (unhide q4)).trans (unhide q5))).block y0.heap.size (by rw [World.size_alloc]; omega))).trans (by simp [go_sem])
          have z2 := ((unhide qz).trans ((((unhide q2).trans (unhide q3)).trans (unhide q4)).trans (unhide q5))).cell (x := ⟨y0.heap.size, 2, none⟩) (v := .int .i64 0) (by simp [go_sem])
          have f2 : y5.frozen? ⟨y0.heap.size, 2, none⟩ = false := (World.frozen?_of_block (((unhide qz).trans ((((unhide q2).trans (unhide q3)).trans (unhide q4)).trans (unhide q5))).block y0.heap.size (by rw [World.size_alloc]; omega))).trans (by simp [go_sem])
          have z3 := ((unhide qz).trans ((((unhide q2).trans (unhide q3)).trans (unhide q4)).trans (unhide q5))).cell (x := ⟨y0.heap.size, 3, none⟩) (v := .int .i64 0) (by simp [go_sem])
          have f3 : y5.frozen? ⟨y0.heap.size, 3, none⟩ = false := (World.frozen?_of_block (((unhide qz).trans ((((unhide q2).trans (unhide q3)).trans (unhide q4)).trans (unhide q5))).block y0.heap.size (by rw [World.size_alloc]; omega))).trans (by simp [go_sem])
          have z4 := ((unhide qz).trans ((((unhide q2).trans (unhide q3)).trans (unhide q4)).trans (unhide q5))).cell (x := ⟨y0.heap.size, 4, none⟩) (v := .slice none 0 0) (by simp [go_sem])
          have f4 : y5.frozen? ⟨y0.heap.size, 4, none⟩ = false := (World.frozen?_of_block (((unhide qz).trans ((((unhide q2).trans (unhide q3)).trans (unhide q4)).trans (unhide q5))).block y0.heap.size (by rw [World.size_alloc]; omega))).trans (by simp [go_sem])
          have z5 := ((unhide qz).trans ((((unhide q2).trans (unhide q3)).trans (unhide q4)).trans (unhide q5))).cell (x := ⟨y0.heap.size, 5, none⟩) (v := .slice none 0 0) (by simp [go_sem])
          have f5 : y5.frozen? ⟨y0.heap.size, 5, none⟩ = false := (World.frozen?_of_block (((unhide qz).trans ((((unhide q2).trans (unhide q3)).trans (unhide q4)).trans (unhide q5))).block y0.heap.size (by rw [World.size_alloc]; omega))).trans (by simp [go_sem])
          have z6 := ((unhide qz).trans ((((unhide q2).trans (unhide q3)).trans (unhide q4)).trans (unhide q5))).cell (x := ⟨y0.heap.size, 6, none⟩) (v := .slice none 0 0) (by simp [go_sem])
          have f6 : y5.frozen? ⟨y0.heap.size, 6, none⟩ = false := (World.frozen?_of_block (((unhide qz).trans ((((unhide q2).trans (unhide q3)).trans (unhide q4)).trans (unhide q5))).block y0.heap.size (by rw [World.size_alloc]; omega))).trans (by simp [go_sem])
          clear R1 R2 d1 d2 hgb
          go_simp
          refine hK.out _ _ (unhide KP _ (unhide L).g) (fun hHeld => ?_)
          clear hK K
          try simp only [Act.put, List.getElem_toArray, List.getElem_cons_succ, List.getElem_cons_zero, List.setIfInBounds_toArray, List.set_cons_zero, List.set_cons_succ]
          refine wpAnyH_done (by kernel_rfl) (NoPanic.normal ?_) _
          go_wp2_with fail
          go_meet
          exact ⟨_, b1, c1, b2, c2, rfl, L⟩
        · go_simp
          refine hK.out _ _ (unhide KP _ (hHeld.1.more _)) (fun hHeld => ?_)
          clear hK K
          try simp only [Act.put, List.getElem_toArray, List.getElem_cons_succ, List.getElem_cons_zero, List.setIfInBounds_toArray, List.set_cons_zero, List.set_cons_succ]
          obtain ⟨y3, hy3⟩ : ∃ y, y = y2.alloc (.cells #[] 57) := ⟨_, rfl⟩
          have s3 : Hid (y3.heap.size = y2.heap.size + 1) := hide (by rw [hy3]; exact World.size_alloc _ _)
          have q3 : Hid (G y2 y3) := hide (by rw [hy3]; exact G.alloc _ _)
          rw [← hy3] at hHeld ⊢
          clear hy3
          refine wpAnyH_ready (rs := [11]) (by kernel_rfl) (by simp) ?_
          refine AllReadyH.cons rfl (fun K hK => ?_) AllReadyH.nil
          obtain ⟨b1, c1, y4, hrun, hg, hR1, hd1⟩ := unhide A1 y3 hHeld.1 y1.heap.size
          refine step_app rfl (.tmp 13) (.tmp 15) 24 rfl _ _ rfl rfl _ _ hrun ?_
          refine hK.out _ _ (unhide KP _ (hHeld.1.trans hg)) (fun hHeld => ?_)
          clear hK K hrun
          try simp only [Act.put, List.getElem_toArray, List.getElem_cons_succ, List.getElem_cons_zero, List.setIfInBounds_toArray, List.set_cons_zero, List.set_cons_succ]
          have s4 : Hid (y3.heap.size ≤ y4.heap.size) := hide hg.size
          have q4 : Hid (G y3 y4) := hide hg
          replace hR1 := hide hR1
          replace hd1 := hide hd1
          clear hg
          refine wpAnyH_ready (rs := [15]) (by kernel_rfl) (by simp) ?_
          refine AllReadyH.cons rfl (fun K hK => ?_) AllReadyH.nil
          obtain ⟨b2, c2, y5, hrun, hg, hR2, hd2⟩ := unhide A2 y4 hHeld.1 y2.heap.size
          refine step_app rfl (.tmp 17) (.tmp 19) 31 rfl _ _ rfl rfl _ _ hrun ?_
          refine hK.out _ _ (unhide KP _ (hHeld.1.trans hg)) (fun hHeld => ?_)
          clear hK K hrun
          try simp only [Act.put, List.getElem_toArray, List.getElem_cons_succ, List.getElem_cons_zero, List.setIfInBounds_toArray, List.set_cons_zero, List.set_cons_succ]
          have s5 : Hid (y4.heap.size ≤ y5.heap.size) := hide hg.size
          have q5 : Hid (G y4 y5) := hide hg
          replace hR2 := hide hR2
          replace hd2 := hide hd2
          clear hg
          refine wpAnyH_take (i := 16) (v := .agg #[.int .i64 a.p, .int .i64 a.c, .int .i64 a.s, .int .i64 a.r, .slice (some ⟨b1, 0, none⟩) a.ks.length c1, .slice none 0 0, .slice (some ⟨b2, 0, none⟩) a.ms.length c2]) rfl (by kernel_rfl) (by kernel_rfl) (by kernel_rfl) (fun _ _ _ h => h) (Or.inl ⟨by rfl, fun w hSw => by obtain ⟨t0, t1, t2, t3, t4, t5, t6, t7⟩ := hSw; go_simp⟩) (by assumption) ?_
          try simp only [Act.put, List.getElem_toArray, List.getElem_cons_succ, List.getElem_cons_zero, List.setIfInBounds_toArray, List.set_cons_zero, List.set_cons_succ]
          refine wpAnyH_ready (rs := [18]) (by kernel_rfl) (by simp) ?_
          refine AllReadyH.cons rfl (fun K hK => ?_) AllReadyH.nil
          have R1 := (unhide hR1).g okB (unhide q5)
          have R2 := (unhide hR2).g okU (G.refl _)
          have d1 : a.ks.length = 0 ∨ (b1 ≠ y0.heap.size ∧ W1.heap.size ≤ b1) := (unhide hd1).imp id (fun h => by have u0 := unhide s0; have u1 := unhide s1; have u2 := unhide s2; have u3 := unhide s3; have u4 := unhide s4; have u5 := unhide s5; omega)
          have d2 : a.ms.length = 0 ∨ (b2 ≠ y0.heap.size ∧ W1.heap.size ≤ b2) := (unhide hd2).imp id (fun h => by have u0 := unhide s0; have u1 := unhide s1; have u2 := unhide s2; have u3 := unhide s3; have u4 := unhide s4; have u5 := unhide s5; omega)
          have hgb : W1.heap.size ≤ y0.heap.size := by have u0 := unhide s0; have u1 := unhide s1; have u2 := unhide s2; have u3 := unhide s3; have u4 := unhide s4; have u5 := unhide s5; omega
          have L := hide (fn_leaf hHeld.1 hgb rfl ((unhide qz).trans ((((unhide q2).trans (unhide q3)).trans (unhide q4)).trans (unhide q5))) R1 R2 d1 d2)
          have z0 := ((unhide qz).trans ((((unhide q2).trans (unhide q3)).trans (unhide q4)).trans (unhide q5))).cell (x := ⟨y0.heap.size, 0, none⟩) (v := .int .i64 0) (by simp [go_sem])
          have f0 : y5.frozen? ⟨y0.heap.size, 0, none⟩ = false := (World.frozen?_of_block (((unhide qz).trans ((((unhide q2).trans (unhide q3)).trans (unhide q4)).trans (unhide q5))).block y0.heap.size (by rw [World.size_alloc]; omega))).trans (by simp [go_sem])
          have z1 := ((unhide qz).trans ((((unhide q2).trans (unhide q3)).trans (unhide q4)).trans (unhide q5))).cell (x := ⟨y0.heap.size, 1, none⟩) (v := .int .i64 0) (by simp [go_sem])
          have f1 : y5.frozen? ⟨y0.heap.size, 1, none⟩ = false := (World.frozen?_of_block (((unhide qz).trans ((((unhide q2).trans (unhide q3)).trans (unhide q4)).trans (unhide q5))).block y0.heap.size (by rw [World.size_alloc]; omega))).trans (by simp [go_sem])
          have z2 := ((unhide qz).trans ((((unhide q2).trans (unhide q3)).trans (unhide q4)).trans (unhide q5))).cell (x := ⟨y0.heap.size, 2, none⟩) (v := .int .i64 0) (by simp [go_sem])
          have f2 : y5.frozen? ⟨y0.heap.size, 2, none⟩ = false := (World.frozen?_of_block (((unhide qz).trans ((((unhide q2).trans (unhide q3)).trans (unhide q4)).trans (unhide q5))).block y0.heap.size (by rw [World.size_alloc]; omega))).trans (by simp [go_sem])
          have z3 := ((unhide qz).trans ((((unhide q2).trans (unhide q3)).trans (unhide q4)).trans (unhide q5))).cell (x := ⟨y0.heap.size, 3, none⟩) (v := .int .i64 0) (by simp [go_sem])
          have f3 : y5.frozen? ⟨y0.heap.size, 3, none⟩ = false := (World.frozen?_of_block (((unhide qz).trans ((((unhide q2).trans (unhide q3)).trans (unhide q4)).trans (unhide q5))).block y0.heap.size (by rw [World.size_alloc]; omega))).trans (by simp [go_sem])
          have z4 := ((unhide qz).trans ((((unhide q2).trans (unhide q3)).trans (unhide q4)).trans (unhide q5))).cell (x := ⟨y0.heap.size, 4, none⟩) (v := .slice none 0 0) (by simp [go_sem])
          have f4 : y5.frozen? ⟨y0.heap.size, 4, none⟩ = false := (World.frozen?_of_block (((unhide qz).trans ((((unhide q2).trans (unhide q3)).trans (unhide q4)).trans (unhide q5))).block y0.heap.size (by rw [World.size_alloc]; omega))).trans (by simp [go_sem])
          have z5 := ((unhide qz).trans ((((unhide q2).trans (unhide q3)).trans (unhide q4)).trans (unhide q5))).cell (x := ⟨y0.heap.size, 5, none⟩) (v := .slice none 0 0) (by simp [go_sem])
          have f5 : y5.frozen? ⟨y0.heap.size, 5, none⟩ = false := (World.frozen?_of_block (((unhide qz).trans ((((unhide q2).trans (unhide q3)).trans (unhide q4)).trans (unhide q5))).block y0.heap.size (by rw [World.size_alloc]; omega))).trans (by simp [go_sem])
          have z6 := ((unhide qz).trans ((((unhide q2).trans (unhide q3)).trans (unhide q4)).trans (unhide q5))).cell (x := ⟨y0.heap.size, 6, none⟩) (v := .slice none 0 0) (by simp [go_sem])
          have f6 : y5.frozen? ⟨y0.heap.size, 6, none⟩ = false := (World.frozen?_of_block (((unhide qz).trans ((((unhide q2).trans (unhide q3)).trans (unhide q4)).trans (unhide q5))).block y0.heap.size (by rw [World.size_alloc]; omega))).trans (by simp [go_sem])
          clear R1 R2 d1 d2 hgb
          go_simp
          refine hK.out _ _ (unhide KP _ (unhide L).g) (fun hHeld => ?_)
          clear hK K
          try simp only [Act.put, List.getElem_toArray, List.getElem_cons_succ, List.getElem_cons_zero, List.setIfInBounds_toArray, List.set_cons_zero, List.set_cons_succ]
          refine wpAnyH_done (by kernel_rfl) (NoPanic.normal ?_) _
          go_wp2_with fail
          go_meet
          exact ⟨_, b1, c1, b2, c2, rfl, L⟩
      · go_simp
        refine hK.out _ _ (unhide KP _ (hHeld.1.more _)) (fun hHeld => ?_)
        clear hK K
        try simp only [Act.put, List.getElem_toArray, List.getElem_cons_succ, List.getElem_cons_zero, List.setIfInBounds_toArray, List.set_cons_zero, List.set_cons_succ]
        obtain ⟨y2, hy2⟩ : ∃ y, y = y1.alloc (.cells #[] 57) := ⟨_, rfl⟩
        have s2 : Hid (y2.heap.size = y1.heap.size + 1) := hide (by rw [hy2]; exact World.size_alloc _ _)
        have q2 : Hid (G y1 y2) := hide (by rw [hy2]; exact G.alloc _ _)
        rw [← hy2] at hHeld ⊢
        clear hy2
        refine wpAnyH_ready (rs := [8]) (by kernel_rfl) (by simp) ?_
        refine AllReadyH.cons rfl (fun K hK => ?_) AllReadyH.nil
        go_simp
        refine hK.out _ _ (unhide KP _ (hHeld.1.more _)) (fun hHeld => ?_)
        clear hK K
        try simp only [Act.put, List.getElem_toArray, List.getElem_cons_succ, List.getElem_cons_zero, List.setIfInBounds_toArray, List.set_cons_zero, List.set_cons_succ]
        obtain ⟨y3, hy3⟩ : ∃ y, y = y2.alloc (.cells #[] 4) := ⟨_, rfl⟩
        have s3 : Hid (y3.heap.size = y2.heap.size + 1) := hide (by rw [hy3]; exact World.size_alloc _ _)
        have q3 : Hid (G y2 y3) := hide (by rw [hy3]; exact G.alloc _ _)
        rw [← hy3] at hHeld ⊢
        clear hy3
        refine wpAnyH_ready (rs := [11]) (by kernel_rfl) (by simp) ?_
        refine AllReadyH.cons rfl (fun K hK => ?_) AllReadyH.nil
        obtain ⟨b1, c1, y4, hrun, hg, hR1, hd1⟩ := unhide A1 y3 hHeld.1 y2.heap.size
        refine step_app rfl (.tmp 13) (.tmp 15) 24 rfl _ _ rfl rfl _ _ hrun ?_
        refine hK.out _ _ (unhide KP _ (hHeld.1.trans hg)) (fun hHeld => ?_)
        clear hK K hrun
        try simp only [Act.put, List.getElem_toArray, List.getElem_cons_succ, List.getElem_cons_zero, List.setIfInBounds_toArray, List.set_cons_zero, List.set_cons_succ]
        have s4 : Hid (y3.heap.size ≤ y4.heap.size) := hide hg.size
        have q4 : Hid (G y3 y4) := hide hg
        replace hR1 := hide hR1
        replace hd1 := hide hd1
        clear hg
        refine wpAnyH_ready (rs := [15]) (by kernel_rfl) (by simp) ?_
        refine AllReadyH.cons rfl (fun K hK => ?_) AllReadyH.nil
        obtain ⟨b2, c2, y5, hrun, hg, hR2, hd2⟩ := unhide A2 y4 hHeld.1 y1.heap.size
        refine step_app rfl (.tmp 17) (.tmp 19) 31 rfl _ _ rfl rfl _ _ hrun ?_
        refine hK.out _ _ (unhide KP _ (hHeld.1.trans hg)) (fun hHeld => ?_)
        clear hK K hrun
        try simp only [Act.put, List.getElem_toArray, List.getElem_cons_succ, List.getElem_cons_zero, List.setIfInBounds_toArray, List.set_cons_zero, List.set_cons_succ]
        have s5 : Hid (y4.heap.size ≤ y5.heap.size) := hide hg.size
        have q5 : Hid (G y4 y5) := hide hg
        replace hR2 := hide hR2
        replace hd2 := hide hd2
        clear hg
        refine wpAnyH_take (i := 16) (v := .agg #[.int .i64 a.p, .int .i64 a.c, .int .i64 a.s, .int .i64 a.r, .slice (some ⟨b1, 0, none⟩) a.ks.length c1, .slice none 0 0, .slice (some ⟨b2, 0, none⟩) a.ms.length c2]) rfl (by kernel_rfl) (by kernel_rfl) (by kernel_rfl) (fun _ _ _ h => h) (Or.inl ⟨by rfl, fun w hSw => by obtain ⟨t0, t1, t2, t3, t4, t5, t6, t7⟩ := hSw; go_simp⟩) (by assumption) ?_
        try simp only [Act.put, List.getElem_toArray, List.getElem_cons_succ, List.getElem_cons_zero, List.setIfInBounds_toArray, List.set_cons_zero, List.set_cons_succ]
        refine wpAnyH_ready (rs := [18]) (by kernel_rfl) (by simp) ?_
        refine AllReadyH.cons rfl (fun K hK => ?_) AllReadyH.nil
        have R1 := (unhide hR1).g okB (unhide q5)
        have R2 := (unhide hR2).g okU (G.refl _)
        have d1 : a.ks.length = 0 ∨ (b1 ≠ y0.heap.size ∧ W1.heap.size ≤ b1) := (unhide hd1).imp id (fun h => by have u0 := unhide s0; have u1 := unhide s1; have u2 := unhide s2; have u3 := unhide s3; have u4 := unhide s4; have u5 := unhide s5; omega)
        have d2 : a.ms.length = 0 ∨ (b2 ≠ y0.heap.size ∧ W1.heap.size ≤ b2) := (unhide hd2).imp id (fun h => by have u0 := unhide s0; have u1 := unhide s1; have u2 := unhide s2; have u3 := unhide s3; have u4 := unhide s4; have u5 := unhide s5; omega)
        have hgb : W1.heap.size ≤ y0.heap.size := by have u0 := unhide s0; have u1 := unhide s1; have u2 := unhide s2; have u3 := unhide s3; have u4 := unhide s4; have u5 := unhide s5; omega
        have L := hide (fn_leaf hHeld.1 hgb rfl ((unhide qz).trans ((((unhide q2).trans (unhide q3)).trans (unhide q4)).trans (unhide q5))) R1 R2 d1 d2)
        have z0 := ((unhide qz).trans ((((unhide q2).trans (unhide q3)).trans (unhide q4)).trans (unhide q5))).cell (x := ⟨y0.heap.size, 0, none⟩) (v := .int .i64 0) (by simp [go_sem])
        have f0 : y5.frozen? ⟨y0.heap.size, 0, none⟩ = false := (World.frozen?_of_block (((unhide qz).trans ((((unhide q2).trans (unhide q3)).trans (unhide q4)).trans (unhide q5))).block y0.heap.size (by rw [World.size_alloc]; omega))).trans (by simp [go_sem])
        have z1 := ((unhide qz).trans ((((unhide q2).trans (unhide q3)).trans (unhide q4)).trans (unhide q5))).cell (x := ⟨y0.heap.size, 1, none⟩) (v := .int .i64 0) (by simp [go_sem])
        have f1 : y5.frozen? ⟨y0.heap.size, 1, none⟩ = false := (World.frozen?_of_block (((unhide qz).trans ((((unhide q2).trans (unhide q3)).trans (unhide q4)).trans (unhide q5))).block y0.heap.size (by rw [World.size_alloc]; omega))).trans (by simp [go_sem])
        have z2 := ((unhide qz).trans ((((unhide q2).trans (unhide q3)).trans (unhide q4)).trans (unhide q5))).cell (x := ⟨y0.heap.size, 2, none⟩) (v := .int .i64 0) (by simp [go_sem])
        have f2 : y5.frozen? ⟨y0.heap.size, 2, none⟩ = false := (World.frozen?_of_block (((unhide qz).trans ((((unhide q2).trans (unhide q3)).trans (unhide q4)).trans (unhide q5))).block y0.heap.size (by rw [World.size_alloc]; omega))).trans (by simp [go_sem])
        have z3 := ((unhide qz).trans ((((unhide q2).trans (unhide q3)).trans (unhide q4)).trans (unhide q5))).cell (x := ⟨y0.heap.size, 3, none⟩) (v := .int .i64 0) (by simp [go_sem])
        have f3 : y5.frozen? ⟨y0.heap.size, 3, none⟩ = false := (World.frozen?_of_block (((unhide qz).trans ((((unhide q2).trans (unhide q3)).trans (unhide q4)).trans (unhide q5))).block y0.heap.size (by rw [World.size_alloc]; omega))).trans (by simp [go_sem])
        have z4 := ((unhide qz).trans ((((unhide q2).trans (unhide q3)).trans (unhide q4)).trans (unhide q5))).cell (x := ⟨y0.heap.size, 4, none⟩) (v := .slice none 0 0) (by simp [go_sem])
        have f4 : y5.frozen? ⟨y0.heap.size, 4, none⟩ = false := (World.frozen?_of_block (((unhide qz).trans ((((unhide q2).trans (unhide q3)).trans (unhide q4)).trans (unhide q5))).block y0.heap.size (by rw [World.size_alloc]; omega))).trans (by simp [go_sem])
        have z5 := ((unhide qz).trans ((((unhide q2).trans (unhide q3)).trans (unhide q4)).trans (unhide q5))).cell (x := ⟨y0.heap.size, 5, none⟩) (v := .slice none 0 0) (by simp [go_sem])
        have f5 : y5.frozen? ⟨y0.heap.size, 5, none⟩ = false := (World.frozen?_of_block (((unhide qz).trans ((((unhide q2).trans (unhide q3)).trans (unhide q4)).trans (unhide q5))).block y0.heap.size (by rw [World.size_alloc]; omega))).trans (by simp [go_sem])
        have z6 := ((unhide qz).trans ((((unhide q2).trans (unhide q3)).trans (unhide q4)).trans (unhide q5))).cell (x := ⟨y0.heap.size, 6, none⟩) (v := .slice none 0 0) (by simp [go_sem])
        have f6 : y5.frozen? ⟨y0.heap.size, 6, none⟩ = false := (World.frozen?_of_block (((unhide qz).trans ((((unhide q2).trans (unhide q3)).trans (unhide q4)).trans (unhide q5))).block y0.heap.size (by rw [World.size_alloc]; omega))).trans (by simp [go_sem])
        clear R1 R2 d1 d2 hgb
        go_simp
        refine hK.out _ _ (unhide KP _ (unhide L).g) (fun hHeld => ?_)
        clear hK K
        try simp only [Act.put, List.getElem_toArray, List.getElem_cons_succ, List.getElem_cons_zero, List.setIfInBounds_toArray, List.set_cons_zero, List.set_cons_succ]
        refine wpAnyH_done (by kernel_rfl) (NoPanic.normal ?_) _
        go_wp2_with fail
        go_meet
        exact ⟨_, b1, c1, b2, c2, rfl, L⟩
  case rest =>
    obtain ⟨gb, b1, c1, b2, c2, rfl, F⟩ := hcut
    have ST : Hid (GrL 79 5 wc gb 5 [.int .i64 a.p, .int .i64 a.c, .int .i64 a.s, .int .i64 a.r, .slice (some ⟨b1, 0, none⟩) a.ks.length c1, .slice none 0 0, .slice (some ⟨b2, 0, none⟩) a.ms.length c2] 0 ((a.is.take 0).flatMap flI) (.slice none 0 0) wc) := hide (gr_start (unhide F).cs rfl (unhide F).fz)
    have RD : Hid (∀ (k : Nat) (wr : World) (v : Value), k < a.is.length → GrL 79 5 wc gb 5 [.int .i64 a.p, .int .i64 a.c, .int .i64 a.s, .int .i64 a.r, .slice (some ⟨b1, 0, none⟩) a.ks.length c1, .slice none 0 0, .slice (some ⟨b2, 0, none⟩) a.ms.length c2] k ((a.is.take k).flatMap flI) v wr → ∃ (b off : Nat) (i : In), io = some ⟨b, off, none⟩ ∧ wr.cell? ⟨gb, 5, none⟩ = some v ∧ (∀ x, G W1 x → G W1 x ∧ x.cell? ⟨w.heap.size, 5, none⟩ = some (.slice (some ⟨b, off, none⟩) a.is.length ic) ∧ x.cell? ⟨b, off + k * 5, none⟩ = some (.int .i64 i.op) ∧ x.cell? ⟨b, off + k * 5 + 1, none⟩ = some (.int .i64 i.a) ∧ x.cell? ⟨b, off + k * 5 + 2, none⟩ = some (.int .i64 i.b) ∧ x.cell? ⟨b, off + k * 5 + 3, none⟩ = some (.int .i64 i.c) ∧ x.cell? ⟨b, off + k * 5 + 4, none⟩ = some (.int .i64 i.d)) ∧
        (∀ x2, G wr x2 → ∀ nb, (∀ q u, ([.int .i64 i.op, .int .i64 i.a, .int .i64 i.b, .int .i64 i.c, .int .i64 i.d] : List Value)[q]? = some u → x2.cell? ((⟨nb, 0, none⟩ : Addr).add q) = some u) → ∃ gn cn x3, (Builtin.append_ #[48, 48] 48 #[v, .slice (some ⟨nb, 0, none⟩) 1 1]).run Tryd.prog x2 = .ok (.slice (some ⟨gn, 0, none⟩) (k + 1) cn) x3 ∧ G W1 x3 ∧ x3.cell? ⟨gb, 5, none⟩ = some v ∧ x3.frozen? ⟨gb, 5, none⟩ = false ∧ GrL 79 5 wc gb 5 [.int .i64 a.p, .int .i64 a.c, .int .i64 a.s, .int .i64 a.r, .slice (some ⟨b1, 0, none⟩) a.ks.length c1, .slice none 0 0, .slice (some ⟨b2, 0, none⟩) a.ms.length c2] (k + 1) ((a.is.take (k + 1)).flatMap flI) (.slice (some ⟨gn, 0, none⟩) (k + 1) cn) (x3.setCell ⟨gb, 5, none⟩ (.slice (some ⟨gn, 0, none⟩) (k + 1) cn)))) := hide fun k wr v hk H => by
      obtain ⟨b, off, i, cs, rfl, ha, ecs, hcs⟩ := row_get (unhide r2) hk
      have ecs : cs = [.int .i64 i.op, .int .i64 i.a, .int .i64 i.b, .int .i64 i.c, .int .i64 i.d] := ecs
      subst ecs
      have h5 := H.cells 5 v rfl
      refine ⟨b, off, i, rfl, h5, fun x g => ?_, fun x2 g2 nb hc => ?_⟩
      · have gx := (unhide g1).trans g
        exact ⟨g, (unhide KP x g).2.2.2.2.2.2.1, hcs x gx 0 _ rfl, hcs x gx 1 _ rfl, hcs x gx 2 _ rfl, hcs x gx 3 _ rfl, hcs x gx 4 _ rfl⟩
      · obtain ⟨ii, hi, hz, hs, hb⟩ := info_parts info_rinstr
        have := gr_app Tryd.underlying48 hi hz hs hb rfl (by decide) (by decide) H (unhide F).lt (by simp) g2 nb [.int .i64 i.op, .int .i64 i.a, .int .i64 i.b, .int .i64 i.c, .int .i64 i.d] rfl hc (by simp [Value.oneCell']) (by omega) (unhide F).g (unhide F).lo
        have e : (a.is.take (k + 1)).flatMap flI = (a.is.take k).flatMap flI ++ [.int .i64 i.op, .int .i64 i.a, .int .i64 i.b, .int .i64 i.c, .int .i64 i.d] := by rw [List.take_add_one, ha]; simp
        rw [e]
        obtain ⟨v', x3, p1, p2, p3, p4, p5⟩ := this
        rcases p5.own.2 with ⟨_, h0⟩ | ⟨gn, cn, cur, rfl, _⟩
        · omega
        · exact ⟨gn, cn, x3, p1, p2, p3, p4, p5⟩
    have EN : Hid (∀ (wr : World) (v : Value), GrL 79 5 wc gb 5 [.int .i64 a.p, .int .i64 a.c, .int .i64 a.s, .int .i64 a.r, .slice (some ⟨b1, 0, none⟩) a.ks.length c1, .slice none 0 0, .slice (some ⟨b2, 0, none⟩) a.ms.length c2] a.is.length ((a.is.take a.is.length).flatMap flI) v wr → G W1 wr ∧ wr.cell? ⟨gb, 0, none⟩ = some (.int .i64 a.p) ∧ wr.cell? ⟨gb, 1, none⟩ = some (.int .i64 a.c) ∧ wr.cell? ⟨gb, 2, none⟩ = some (.int .i64 a.s) ∧ wr.cell? ⟨gb, 3, none⟩ = some (.int .i64 a.r) ∧ wr.cell? ⟨gb, 4, none⟩ = some (.slice (some ⟨b1, 0, none⟩) a.ks.length c1) ∧ wr.cell? ⟨gb, 5, none⟩ = some (v) ∧ wr.cell? ⟨gb, 6, none⟩ = some (.slice (some ⟨b2, 0, none⟩) a.ms.length c2) ∧ ∃ vo vc, v = .slice vo a.is.length vc ∧ ∀ w2, KeepFrom W1.heap.size (setN wr (w.heap.size + 1) 0 [.int .i64 a.p, .int .i64 a.c, .int .i64 a.s, .int .i64 a.r, .slice (some ⟨b1, 0, none⟩) a.ks.length c1, v, .slice (some ⟨b2, 0, none⟩) a.ms.length c2]) w2 → FnCells w2 a [.int .i64 a.p, .int .i64 a.c, .int .i64 a.s, .int .i64 a.r, .slice (some ⟨b1, 0, none⟩) a.ks.length c1, v, .slice (some ⟨b2, 0, none⟩) a.ms.length c2]) := hide fun wr v H => by
      rw [List.take_of_length_le (Nat.le_refl _)] at H
      have hs := unhide hs1
      exact ⟨H.g (unhide F).g (unhide F).lo, H.cells 0 _ rfl, H.cells 1 _ rfl, H.cells 2 _ rfl, H.cells 3 _ rfl, H.cells 4 _ rfl, H.cells 5 _ rfl, H.cells 6 _ rfl, fn_fin (unhide F) H _ (by omega)⟩
    have BX : Hid (∀ wr v k, GrL 79 5 wc gb 5 [.int .i64 a.p, .int .i64 a.c, .int .i64 a.s, .int .i64 a.r, .slice (some ⟨b1, 0, none⟩) a.ks.length c1, .slice none 0 0, .slice (some ⟨b2, 0, none⟩) a.ms.length c2] k ((a.is.take k).flatMap flI) v wr → G W1 wr ∧ wr.cell? ⟨w.heap.size, 5, none⟩ = some (.slice io a.is.length ic)) := hide fun wr v k H => ⟨H.g (unhide F).g (unhide F).lo, (unhide KP wr (H.g (unhide F).g (unhide F).lo)).2.2.2.2.2.2.1⟩
    have hgbl : W1.heap.size ≤ gb := (unhide F).lo
    clear F r2 n1 n3 A1 A2
    have IN := hide (fun (x : World) (i : In) => rinstr_any x i)
    go_wp2_with fail
    go_loopw [4] (fun i wr => ∃ (k : Nat) (v : Value), k ≤ a.is.length ∧ i = .int .i64 k ∧ Hid (GrL 79 5 wc gb 5 [.int .i64 a.p, .int .i64 a.c, .int .i64 a.s, .int .i64 a.r, .slice (some ⟨b1, 0, none⟩) a.ks.length c1, .slice none 0 0, .slice (some ⟨b2, 0, none⟩) a.ms.length c2] k ((a.is.take k).flatMap flI) v wr)) (fun i _ => a.is.length - (intOf i).toNat)
    case atStart => exact ⟨0, _, Nat.zero_le _, rfl, ST⟩
    case round =>
      obtain ⟨k, v, hk, rfl, H⟩ := hrel
      obtain ⟨gWr, hC⟩ := unhide BX wr v k (unhide H)
      replace gWr := hide gWr
      clear ST
      by_cases hlt : k < a.is.length
      · obtain ⟨b, off, i, rfl, hv, KE, AP⟩ := unhide RD k wr v hlt (unhide H)
        replace KE := hide KE
        replace AP := hide AP
        have hk0 : (0 : Int) ≤ (k : Int) := by omega
        have hkn : (k : Int) < (a.is.length : Int) := by omega
        have hgl := hgbl
        clear RD EN BX KR H
        go_wp2_with fail
        refine wp_region_noPanic ?_
        refine wp_region_held_drew (S := fun x => G W1 x ∧ x.cell? ⟨w.heap.size, 5, none⟩ = some (.slice (some ⟨b, off, none⟩) a.is.length ic) ∧ x.cell? ⟨b, off + k * 5, none⟩ = some (.int .i64 i.op) ∧ x.cell? ⟨b, off + k * 5 + 1, none⟩ = some (.int .i64 i.a) ∧ x.cell? ⟨b, off + k * 5 + 2, none⟩ = some (.int .i64 i.b) ∧ x.cell? ⟨b, off + k * 5 + 3, none⟩ = some (.int .i64 i.c) ∧ x.cell? ⟨b, off + k * 5 + 4, none⟩ = some (.int .i64 i.d)) (by kernel_rfl) (unhide KE _ (unhide gWr).drew) (fun hHeld => ?_)
        obtain ⟨y0, hy0⟩ : ∃ y, y = wr.drew := ⟨_, rfl⟩
        have q0 : Hid (G wr y0) := hide (by rw [hy0]; exact (G.refl wr).drew)
        rw [← hy0] at hHeld ⊢
        clear hy0 hC
        refine wpAnyH_take (i := 0) (v := .pointer (some ⟨gb, 5, none⟩)) rfl (by kernel_rfl) (by kernel_rfl) (by kernel_rfl) (fun _ _ _ h => h) (Or.inl ⟨by rfl, fun w hSw => by obtain ⟨t0, t1, t2, t3, t4, t5, t6⟩ := hSw; go_simp⟩) (by assumption) ?_
        try simp only [Act.put, List.getElem_toArray, List.getElem_cons_zero, List.setIfInBounds_toArray, List.set_cons_zero, List.set_cons_succ]
        refine wpAnyH_take (i := 2) (v := .pointer (some ⟨w.heap.size, 5, none⟩)) rfl (by kernel_rfl) (by kernel_rfl) (by kernel_rfl) (fun _ _ _ h => h) (Or.inl ⟨by rfl, fun w hSw => by obtain ⟨t0, t1, t2, t3, t4, t5, t6⟩ := hSw; go_simp⟩) (by assumption) ?_
        try simp only [Act.put, List.getElem_toArray, List.getElem_cons_succ, List.getElem_cons_zero, List.setIfInBounds_toArray, List.set_cons_zero, List.set_cons_succ]
        refine wpAnyH_take (i := 3) (v := .slice (some ⟨b, off, none⟩) a.is.length ic) rfl (by kernel_rfl) (by kernel_rfl) (by kernel_rfl) (fun _ _ _ h => h) (Or.inl ⟨by rfl, fun w hSw => by obtain ⟨t0, t1, t2, t3, t4, t5, t6⟩ := hSw; go_simp⟩) (by assumption) ?_
        try simp only [Act.put, List.getElem_toArray, List.getElem_cons_succ, List.getElem_cons_zero, List.setIfInBounds_toArray, List.set_cons_zero, List.set_cons_succ]
        refine wpAnyH_take (i := 4) (v := .int .i64 (k : Int)) rfl (by kernel_rfl) (by kernel_rfl) (by kernel_rfl) (fun _ _ _ h => h) (Or.inl ⟨by rfl, fun w hSw => by obtain ⟨t0, t1, t2, t3, t4, t5, t6⟩ := hSw; go_simp⟩) (by assumption) ?_
        try simp only [Act.put, List.getElem_toArray, List.getElem_cons_succ, List.getElem_cons_zero, List.setIfInBounds_toArray, List.set_cons_zero, List.set_cons_succ]
        refine wpAnyH_take (i := 5) (v := .pointer (some ⟨b, off + k * 5, none⟩)) rfl (by kernel_rfl) (by kernel_rfl) (by kernel_rfl) (fun _ _ _ h => h) (Or.inl ⟨by rfl, fun w hSw => by obtain ⟨t0, t1, t2, t3, t4, t5, t6⟩ := hSw; go_simp⟩) (by assumption) ?_
        try simp only [Act.put, List.getElem_toArray, List.getElem_cons_succ, List.getElem_cons_zero, List.setIfInBounds_toArray, List.set_cons_zero, List.set_cons_succ]
        refine wpAnyH_take (i := 6) (v := .agg #[.int .i64 i.op, .int .i64 i.a, .int .i64 i.b, .int .i64 i.c, .int .i64 i.d]) rfl (by kernel_rfl) (by kernel_rfl) (by kernel_rfl) (fun _ _ _ h => h) (Or.inl ⟨by rfl, fun w hSw => by obtain ⟨t0, t1, t2, t3, t4, t5, t6⟩ := hSw; go_simp⟩) (by assumption) ?_
        try simp only [Act.put, List.getElem_toArray, List.getElem_cons_succ, List.getElem_cons_zero, List.setIfInBounds_toArray, List.set_cons_zero, List.set_cons_succ]
        refine wpAnyH_ready (rs := [1, 7]) (by kernel_rfl) (by simp) ?_
        refine AllReadyH.cons rfl (fun K hK => ?_) (AllReadyH.cons rfl (fun K hK => ?_) AllReadyH.nil)
        · have hl := (unhide q0).cell hv
          go_simp
          refine hK.out _ _ hHeld (fun hHeld => ?_)
          clear hK K hl
          try simp only [Act.put, List.getElem_toArray, List.getElem_cons_succ, List.getElem_cons_zero, List.setIfInBounds_toArray, List.set_cons_zero, List.set_cons_succ]
          refine wpAnyH_ready (rs := [7]) (by kernel_rfl) (by simp) ?_
          refine AllReadyH.cons rfl (fun K hK => ?_) AllReadyH.nil
          go_simp
          refine (unhide IN _ i).mono ?_
          rintro e y1 ⟨rfl, hg⟩
          go_wp2_with fail
          refine hK.out _ _ (unhide KE _ (hHeld.1.trans hg)) (fun hHeld => ?_)
          clear hK K
          try simp only [Act.put, List.getElem_toArray, List.getElem_cons_succ, List.getElem_cons_zero, List.setIfInBounds_toArray, List.set_cons_zero, List.set_cons_succ]
          have q1 : Hid (G y0 y1) := hide hg
          clear hg
          refine wpAnyH_ready (rs := [8]) (by kernel_rfl) (by simp) ?_
          refine AllReadyH.cons rfl (fun K hK => ?_) AllReadyH.nil
          go_simp
          refine hK.out _ _ (unhide KE _ (hHeld.1.more _)) (fun hHeld => ?_)
          clear hK K
          try simp only [Act.put, List.getElem_toArray, List.getElem_cons_succ, List.getElem_cons_zero, List.setIfInBounds_toArray, List.set_cons_zero, List.set_cons_succ]
          obtain ⟨y2, hy2⟩ : ∃ y, y = y1.alloc (.cells #[.int .i64 i.op, .int .i64 i.a, .int .i64 i.b, .int .i64 i.c, .int .i64 i.d] 79) := ⟨_, rfl⟩
          have q2 : Hid (G y1 y2) := hide (by rw [hy2]; exact G.alloc _ _)
          have qn : Hid (∀ q u, ([.int .i64 i.op, .int .i64 i.a, .int .i64 i.b, .int .i64 i.c, .int .i64 i.d] : List Value)[q]? = some u → y2.cell? ((⟨y1.heap.size, 0, none⟩ : Addr).add q) = some u) := hide (fun q u hq => by rw [hy2, Addr.add_lit, Nat.zero_add, cell_of_row _ _ _ _ _ _ (heap_alloc_new y1 _)]; simpa using hq)
          rw [← hy2] at hHeld ⊢
          clear hy2
          refine wpAnyH_ready (rs := [9]) (by kernel_rfl) (by simp) ?_
          refine AllReadyH.cons rfl (fun K hK => ?_) AllReadyH.nil
          obtain ⟨gn, cn, y3, hrun, hgW, hcv, hfv, HG⟩ := unhide AP y2 (((unhide q0).trans (unhide q1)).trans (unhide q2)) y1.heap.size (unhide qn)
          replace HG := hide HG
          refine step_app rfl (.tmp 30) (.tmp 37) 48 rfl _ _ rfl rfl _ _ hrun ?_
          refine hK.out _ _ (unhide KE _ hgW) (fun hHeld => ?_)
          clear hK K hrun
          try simp only [Act.put, List.getElem_toArray, List.getElem_cons_succ, List.getElem_cons_zero, List.setIfInBounds_toArray, List.set_cons_zero, List.set_cons_succ]
          refine wpAnyH_take (i := 10) (v := .pointer (some ⟨gb, 5, none⟩)) rfl (by kernel_rfl) (by kernel_rfl) (by kernel_rfl) (fun _ _ _ h => h) (Or.inl ⟨by rfl, fun w hSw => by obtain ⟨t0, t1, t2, t3, t4, t5, t6⟩ := hSw; go_simp⟩) (by assumption) ?_
          try simp only [Act.put, List.getElem_toArray, List.getElem_cons_succ, List.getElem_cons_zero, List.setIfInBounds_toArray, List.set_cons_zero, List.set_cons_succ]
          refine wpAnyH_ready (rs := [11]) (by kernel_rfl) (by simp) ?_
          refine AllReadyH.cons rfl (fun K hK => ?_) AllReadyH.nil
          go_simp
          refine hK.out _ _ (unhide KE _ (G.set hgW _ _ _ hgl)) (fun hHeld => ?_)
          clear hK K hcv hfv
          try simp only [Act.put, List.getElem_toArray, List.getElem_cons_succ, List.getElem_cons_zero, List.setIfInBounds_toArray, List.set_cons_zero, List.set_cons_succ]
          refine wpAnyH_done (by kernel_rfl) (NoPanic.normal ?_) _
          clear hHeld hgW
          go_wp2_with fail
          go_roundw
          case rel => exact ⟨k + 1, _, by omega, by go_num, HG⟩
          case measure => simp [intOf]; omega
        · go_simp
          refine (unhide IN _ i).mono ?_
          rintro e y1 ⟨rfl, hg⟩
          go_wp2_with fail
          refine hK.out _ _ (unhide KE _ (hHeld.1.trans hg)) (fun hHeld => ?_)
          clear hK K
          try simp only [Act.put, List.getElem_toArray, List.getElem_cons_succ, List.getElem_cons_zero, List.setIfInBounds_toArray, List.set_cons_zero, List.set_cons_succ]
          have q1 : Hid (G y0 y1) := hide hg
          clear hg
          refine wpAnyH_ready (rs := [1, 8]) (by kernel_rfl) (by simp) ?_
          refine AllReadyH.cons rfl (fun K hK => ?_) (AllReadyH.cons rfl (fun K hK => ?_) AllReadyH.nil)
          · have hl := ((unhide q0).trans (unhide q1)).cell hv
            go_simp
            refine hK.out _ _ hHeld (fun hHeld => ?_)
            clear hK K hl
            try simp only [Act.put, List.getElem_toArray, List.getElem_cons_succ, List.getElem_cons_zero, List.setIfInBounds_toArray, List.set_cons_zero, List.set_cons_succ]
            refine wpAnyH_ready (rs := [8]) (by kernel_rfl) (by simp) ?_
            refine AllReadyH.cons rfl (fun K hK => ?_) AllReadyH.nil
            go_simp
            refine hK.out _ _ (unhide KE _ (hHeld.1.more _)) (fun hHeld => ?_)
            clear hK K
            try simp only [Act.put, List.getElem_toArray, List.getElem_cons_succ, List.getElem_cons_zero, List.setIfInBounds_toArray, List.set_cons_zero, List.set_cons_succ]
            obtain ⟨y2, hy2⟩ : ∃ y, y = y1.alloc (.cells #[.int .i64 i.op, .int .i64 i.a, .int .i64 i.b, .int .i64 i.c, .int .i64 i.d] 79) := ⟨_, rfl⟩
            have q2 : Hid (G y1 y2) := hide (by rw [hy2]; exact G.alloc _ _)
            have qn : Hid (∀ q u, ([.int .i64 i.op, .int .i64 i.a, .int .i64 i.b, .int .i64 i.c, .int .i64 i.d] : List Value)[q]? = some u → y2.cell? ((⟨y1.heap.size, 0, none⟩ : Addr).add q) = some u) := hide (fun q u hq => by rw [hy2, Addr.add_lit, Nat.zero_add, cell_of_row _ _ _ _ _ _ (heap_alloc_new y1 _)]; simpa using hq)
            rw [← hy2] at hHeld ⊢
            clear hy2
            refine wpAnyH_ready (rs := [9]) (by kernel_rfl) (by simp) ?_
            refine AllReadyH.cons rfl (fun K hK => ?_) AllReadyH.nil
            obtain ⟨gn, cn, y3, hrun, hgW, hcv, hfv, HG⟩ := unhide AP y2 (((unhide q0).trans (unhide q1)).trans (unhide q2)) y1.heap.size (unhide qn)
            replace HG := hide HG
            refine step_app rfl (.tmp 30) (.tmp 37) 48 rfl _ _ rfl rfl _ _ hrun ?_
            refine hK.out _ _ (unhide KE _ hgW) (fun hHeld => ?_)
            clear hK K hrun
            try simp only [Act.put, List.getElem_toArray, List.getElem_cons_succ, List.getElem_cons_zero, List.setIfInBounds_toArray, List.set_cons_zero, List.set_cons_succ]
            refine wpAnyH_take (i := 10) (v := .pointer (some ⟨gb, 5, none⟩)) rfl (by kernel_rfl) (by kernel_rfl) (by kernel_rfl) (fun _ _ _ h => h) (Or.inl ⟨by rfl, fun w hSw => by obtain ⟨t0, t1, t2, t3, t4, t5, t6⟩ := hSw; go_simp⟩) (by assumption) ?_
            try simp only [Act.put, List.getElem_toArray, List.getElem_cons_succ, List.getElem_cons_zero, List.setIfInBounds_toArray, List.set_cons_zero, List.set_cons_succ]
            refine wpAnyH_ready (rs := [11]) (by kernel_rfl) (by simp) ?_
            refine AllReadyH.cons rfl (fun K hK => ?_) AllReadyH.nil
            go_simp
            refine hK.out _ _ (unhide KE _ (G.set hgW _ _ _ hgl)) (fun hHeld => ?_)
            clear hK K hcv hfv
            try simp only [Act.put, List.getElem_toArray, List.getElem_cons_succ, List.getElem_cons_zero, List.setIfInBounds_toArray, List.set_cons_zero, List.set_cons_succ]
            refine wpAnyH_done (by kernel_rfl) (NoPanic.normal ?_) _
            clear hHeld hgW
            go_wp2_with fail
            go_roundw
            case rel => exact ⟨k + 1, _, by omega, by go_num, HG⟩
            case measure => simp [intOf]; omega
          · go_simp
            refine hK.out _ _ (unhide KE _ (hHeld.1.more _)) (fun hHeld => ?_)
            clear hK K
            try simp only [Act.put, List.getElem_toArray, List.getElem_cons_succ, List.getElem_cons_zero, List.setIfInBounds_toArray, List.set_cons_zero, List.set_cons_succ]
            obtain ⟨y2, hy2⟩ : ∃ y, y = y1.alloc (.cells #[.int .i64 i.op, .int .i64 i.a, .int .i64 i.b, .int .i64 i.c, .int .i64 i.d] 79) := ⟨_, rfl⟩
            have q2 : Hid (G y1 y2) := hide (by rw [hy2]; exact G.alloc _ _)
            have qn : Hid (∀ q u, ([.int .i64 i.op, .int .i64 i.a, .int .i64 i.b, .int .i64 i.c, .int .i64 i.d] : List Value)[q]? = some u → y2.cell? ((⟨y1.heap.size, 0, none⟩ : Addr).add q) = some u) := hide (fun q u hq => by rw [hy2, Addr.add_lit, Nat.zero_add, cell_of_row _ _ _ _ _ _ (heap_alloc_new y1 _)]; simpa using hq)
            rw [← hy2] at hHeld ⊢
            clear hy2
            refine wpAnyH_ready (rs := [1]) (by kernel_rfl) (by simp) ?_
            refine AllReadyH.cons rfl (fun K hK => ?_) AllReadyH.nil
            have hl := (((unhide q0).trans (unhide q1)).trans (unhide q2)).cell hv
            go_simp
            refine hK.out _ _ hHeld (fun hHeld => ?_)
            clear hK K hl
            try simp only [Act.put, List.getElem_toArray, List.getElem_cons_succ, List.getElem_cons_zero, List.setIfInBounds_toArray, List.set_cons_zero, List.set_cons_succ]
            refine wpAnyH_ready (rs := [9]) (by kernel_rfl) (by simp) ?_
            refine AllReadyH.cons rfl (fun K hK => ?_) AllReadyH.nil
            obtain ⟨gn, cn, y3, hrun, hgW, hcv, hfv, HG⟩ := unhide AP y2 (((unhide q0).trans (unhide q1)).trans (unhide q2)) y1.heap.size (unhide qn)
            replace HG := hide HG
            refine step_app rfl (.tmp 30) (.tmp 37) 48 rfl _ _ rfl rfl _ _ hrun ?_
            refine hK.out _ _ (unhide KE _ hgW) (fun hHeld => ?_)
            clear hK K hrun
            try simp only [Act.put, List.getElem_toArray, List.getElem_cons_succ, List.getElem_cons_zero, List.setIfInBounds_toArray, List.set_cons_zero, List.set_cons_succ]
            refine wpAnyH_take (i := 10) (v := .pointer (some ⟨gb, 5, none⟩)) rfl (by kernel_rfl) (by kernel_rfl) (by kernel_rfl) (fun _ _ _ h => h) (Or.inl ⟨by rfl, fun w hSw => by obtain ⟨t0, t1, t2, t3, t4, t5, t6⟩ := hSw; go_simp⟩) (by assumption) ?_
            try simp only [Act.put, List.getElem_toArray, List.getElem_cons_succ, List.getElem_cons_zero, List.setIfInBounds_toArray, List.set_cons_zero, List.set_cons_succ]
            refine wpAnyH_ready (rs := [11]) (by kernel_rfl) (by simp) ?_
            refine AllReadyH.cons rfl (fun K hK => ?_) AllReadyH.nil
            go_simp
            refine hK.out _ _ (unhide KE _ (G.set hgW _ _ _ hgl)) (fun hHeld => ?_)
            clear hK K hcv hfv
            try simp only [Act.put, List.getElem_toArray, List.getElem_cons_succ, List.getElem_cons_zero, List.setIfInBounds_toArray, List.set_cons_zero, List.set_cons_succ]
            refine wpAnyH_done (by kernel_rfl) (NoPanic.normal ?_) _
            clear hHeld hgW
            go_wp2_with fail
            go_roundw
            case rel => exact ⟨k + 1, _, by omega, by go_num, HG⟩
            case measure => simp [intOf]; omega
      · obtain rfl : k = a.is.length := by omega
        obtain ⟨gw2, e0, e1, e2, e3, e4, e5, e6, vo, vc, rfl, FC⟩ := unhide EN wr v (unhide H)
        obtain ⟨⟨z0, f0⟩, ⟨z1, f1⟩, ⟨z2, f2⟩, ⟨z3, f3⟩, ⟨z4, f4⟩, ⟨z5, f5⟩, ⟨z6, f6⟩⟩ := unhide KR wr gw2
        have QC : CellsAt (setN wr (w.heap.size + 1) 0 [.int .i64 a.p, .int .i64 a.c, .int .i64 a.s, .int .i64 a.r, .slice (some ⟨b1, 0, none⟩) a.ks.length c1, .slice vo a.is.length vc, .slice (some ⟨b2, 0, none⟩) a.ms.length c2]) (w.heap.size + 1) 0 [.int .i64 a.p, .int .i64 a.c, .int .i64 a.s, .int .i64 a.r, .slice (some ⟨b1, 0, none⟩) a.ks.length c1, .slice vo a.is.length vc, .slice (some ⟨b2, 0, none⟩) a.ms.length c2] := fun j u hj => setN_in _ _ _ _ j u hj (fun i hi => by
          rw [Nat.zero_add]
          match i, hi with
          | 0, _ => rw [z0]; rfl
          | 1, _ => rw [z1]; rfl
          | 2, _ => rw [z2]; rfl
          | 3, _ => rw [z3]; rfl
          | 4, _ => rw [z4]; rfl
          | 5, _ => rw [z5]; rfl
          | 6, _ => rw [z6]; rfl)
        have eS : setN wr (w.heap.size + 1) 0 [.int .i64 a.p, .int .i64 a.c, .int .i64 a.s, .int .i64 a.r, .slice (some ⟨b1, 0, none⟩) a.ks.length c1, .slice vo a.is.length vc, .slice (some ⟨b2, 0, none⟩) a.ms.length c2] = (((((((wr.setCell ⟨w.heap.size + 1, 0, none⟩ (.int .i64 a.p)).setCell ⟨w.heap.size + 1, 1, none⟩ (.int .i64 a.c)).setCell ⟨w.heap.size + 1, 2, none⟩ (.int .i64 a.s)).setCell ⟨w.heap.size + 1, 3, none⟩ (.int .i64 a.r)).setCell ⟨w.heap.size + 1, 4, none⟩ (.slice (some ⟨b1, 0, none⟩) a.ks.length c1)).setCell ⟨w.heap.size + 1, 5, none⟩ (.slice vo a.is.length vc)).setCell ⟨w.heap.size + 1, 6, none⟩ (.slice (some ⟨b2, 0, none⟩) a.ms.length c2)) := rfl
        have GS : G w (((((((wr.setCell ⟨w.heap.size + 1, 0, none⟩ (.int .i64 a.p)).setCell ⟨w.heap.size + 1, 1, none⟩ (.int .i64 a.c)).setCell ⟨w.heap.size + 1, 2, none⟩ (.int .i64 a.s)).setCell ⟨w.heap.size + 1, 3, none⟩ (.int .i64 a.r)).setCell ⟨w.heap.size + 1, 4, none⟩ (.slice (some ⟨b1, 0, none⟩) a.ks.length c1)).setCell ⟨w.heap.size + 1, 5, none⟩ (.slice vo a.is.length vc)).setCell ⟨w.heap.size + 1, 6, none⟩ (.slice (some ⟨b2, 0, none⟩) a.ms.length c2)) := by
          rw [← eS]
          exact setN_G (w := w) (w.heap.size + 1) (by omega) _ wr 0 ((unhide g1).trans gw2)
        rw [eS] at QC FC
        clear eS
        have cc0 : (((((((wr.setCell ⟨w.heap.size + 1, 0, none⟩ (.int .i64 a.p)).setCell ⟨w.heap.size + 1, 1, none⟩ (.int .i64 a.c)).setCell ⟨w.heap.size + 1, 2, none⟩ (.int .i64 a.s)).setCell ⟨w.heap.size + 1, 3, none⟩ (.int .i64 a.r)).setCell ⟨w.heap.size + 1, 4, none⟩ (.slice (some ⟨b1, 0, none⟩) a.ks.length c1)).setCell ⟨w.heap.size + 1, 5, none⟩ (.slice vo a.is.length vc)).setCell ⟨w.heap.size + 1, 6, none⟩ (.slice (some ⟨b2, 0, none⟩) a.ms.length c2)).cell? ⟨w.heap.size + 1, 0, none⟩ = some (.int .i64 a.p) := QC 0 _ rfl
        have cc1 : (((((((wr.setCell ⟨w.heap.size + 1, 0, none⟩ (.int .i64 a.p)).setCell ⟨w.heap.size + 1, 1, none⟩ (.int .i64 a.c)).setCell ⟨w.heap.size + 1, 2, none⟩ (.int .i64 a.s)).setCell ⟨w.heap.size + 1, 3, none⟩ (.int .i64 a.r)).setCell ⟨w.heap.size + 1, 4, none⟩ (.slice (some ⟨b1, 0, none⟩) a.ks.length c1)).setCell ⟨w.heap.size + 1, 5, none⟩ (.slice vo a.is.length vc)).setCell ⟨w.heap.size + 1, 6, none⟩ (.slice (some ⟨b2, 0, none⟩) a.ms.length c2)).cell? ⟨w.heap.size + 1, 1, none⟩ = some (.int .i64 a.c) := QC 1 _ rfl
        have cc2 : (((((((wr.setCell ⟨w.heap.size + 1, 0, none⟩ (.int .i64 a.p)).setCell ⟨w.heap.size + 1, 1, none⟩ (.int .i64 a.c)).setCell ⟨w.heap.size + 1, 2, none⟩ (.int .i64 a.s)).setCell ⟨w.heap.size + 1, 3, none⟩ (.int .i64 a.r)).setCell ⟨w.heap.size + 1, 4, none⟩ (.slice (some ⟨b1, 0, none⟩) a.ks.length c1)).setCell ⟨w.heap.size + 1, 5, none⟩ (.slice vo a.is.length vc)).setCell ⟨w.heap.size + 1, 6, none⟩ (.slice (some ⟨b2, 0, none⟩) a.ms.length c2)).cell? ⟨w.heap.size + 1, 2, none⟩ = some (.int .i64 a.s) := QC 2 _ rfl
        have cc3 : (((((((wr.setCell ⟨w.heap.size + 1, 0, none⟩ (.int .i64 a.p)).setCell ⟨w.heap.size + 1, 1, none⟩ (.int .i64 a.c)).setCell ⟨w.heap.size + 1, 2, none⟩ (.int .i64 a.s)).setCell ⟨w.heap.size + 1, 3, none⟩ (.int .i64 a.r)).setCell ⟨w.heap.size + 1, 4, none⟩ (.slice (some ⟨b1, 0, none⟩) a.ks.length c1)).setCell ⟨w.heap.size + 1, 5, none⟩ (.slice vo a.is.length vc)).setCell ⟨w.heap.size + 1, 6, none⟩ (.slice (some ⟨b2, 0, none⟩) a.ms.length c2)).cell? ⟨w.heap.size + 1, 3, none⟩ = some (.int .i64 a.r) := QC 3 _ rfl
        have cc4 : (((((((wr.setCell ⟨w.heap.size + 1, 0, none⟩ (.int .i64 a.p)).setCell ⟨w.heap.size + 1, 1, none⟩ (.int .i64 a.c)).setCell ⟨w.heap.size + 1, 2, none⟩ (.int .i64 a.s)).setCell ⟨w.heap.size + 1, 3, none⟩ (.int .i64 a.r)).setCell ⟨w.heap.size + 1, 4, none⟩ (.slice (some ⟨b1, 0, none⟩) a.ks.length c1)).setCell ⟨w.heap.size + 1, 5, none⟩ (.slice vo a.is.length vc)).setCell ⟨w.heap.size + 1, 6, none⟩ (.slice (some ⟨b2, 0, none⟩) a.ms.length c2)).cell? ⟨w.heap.size + 1, 4, none⟩ = some (.slice (some ⟨b1, 0, none⟩) a.ks.length c1) := QC 4 _ rfl
        have cc5 : (((((((wr.setCell ⟨w.heap.size + 1, 0, none⟩ (.int .i64 a.p)).setCell ⟨w.heap.size + 1, 1, none⟩ (.int .i64 a.c)).setCell ⟨w.heap.size + 1, 2, none⟩ (.int .i64 a.s)).setCell ⟨w.heap.size + 1, 3, none⟩ (.int .i64 a.r)).setCell ⟨w.heap.size + 1, 4, none⟩ (.slice (some ⟨b1, 0, none⟩) a.ks.length c1)).setCell ⟨w.heap.size + 1, 5, none⟩ (.slice vo a.is.length vc)).setCell ⟨w.heap.size + 1, 6, none⟩ (.slice (some ⟨b2, 0, none⟩) a.ms.length c2)).cell? ⟨w.heap.size + 1, 5, none⟩ = some (.slice vo a.is.length vc) := QC 5 _ rfl
        have cc6 : (((((((wr.setCell ⟨w.heap.size + 1, 0, none⟩ (.int .i64 a.p)).setCell ⟨w.heap.size + 1, 1, none⟩ (.int .i64 a.c)).setCell ⟨w.heap.size + 1, 2, none⟩ (.int .i64 a.s)).setCell ⟨w.heap.size + 1, 3, none⟩ (.int .i64 a.r)).setCell ⟨w.heap.size + 1, 4, none⟩ (.slice (some ⟨b1, 0, none⟩) a.ks.length c1)).setCell ⟨w.heap.size + 1, 5, none⟩ (.slice vo a.is.length vc)).setCell ⟨w.heap.size + 1, 6, none⟩ (.slice (some ⟨b2, 0, none⟩) a.ms.length c2)).cell? ⟨w.heap.size + 1, 6, none⟩ = some (.slice (some ⟨b2, 0, none⟩) a.ms.length c2) := QC 6 _ rfl
        have FC2 := fun w2 (kw : KeepFrom w.heap.size (((((((wr.setCell ⟨w.heap.size + 1, 0, none⟩ (.int .i64 a.p)).setCell ⟨w.heap.size + 1, 1, none⟩ (.int .i64 a.c)).setCell ⟨w.heap.size + 1, 2, none⟩ (.int .i64 a.s)).setCell ⟨w.heap.size + 1, 3, none⟩ (.int .i64 a.r)).setCell ⟨w.heap.size + 1, 4, none⟩ (.slice (some ⟨b1, 0, none⟩) a.ks.length c1)).setCell ⟨w.heap.size + 1, 5, none⟩ (.slice vo a.is.length vc)).setCell ⟨w.heap.size + 1, 6, none⟩ (.slice (some ⟨b2, 0, none⟩) a.ms.length c2)) w2) => FC w2 (kw.mono (unhide g1).size)
        have FI := hide (show (∀ w2, KeepFrom w.heap.size (((((((wr.setCell ⟨w.heap.size + 1, 0, none⟩ (.int .i64 a.p)).setCell ⟨w.heap.size + 1, 1, none⟩ (.int .i64 a.c)).setCell ⟨w.heap.size + 1, 2, none⟩ (.int .i64 a.s)).setCell ⟨w.heap.size + 1, 3, none⟩ (.int .i64 a.r)).setCell ⟨w.heap.size + 1, 4, none⟩ (.slice (some ⟨b1, 0, none⟩) a.ks.length c1)).setCell ⟨w.heap.size + 1, 5, none⟩ (.slice vo a.is.length vc)).setCell ⟨w.heap.size + 1, 6, none⟩ (.slice (some ⟨b2, 0, none⟩) a.ms.length c2)) w2 → FnCells w2 a [.int .i64 a.p, .int .i64 a.c, .int .i64 a.s, .int .i64 a.r, .slice (some ⟨b1, 0, none⟩) a.ks.length c1, .slice vo a.is.length vc, .slice (some ⟨b2, 0, none⟩) a.ms.length c2]) ∧ G w (((((((wr.setCell ⟨w.heap.size + 1, 0, none⟩ (.int .i64 a.p)).setCell ⟨w.heap.size + 1, 1, none⟩ (.int .i64 a.c)).setCell ⟨w.heap.size + 1, 2, none⟩ (.int .i64 a.s)).setCell ⟨w.heap.size + 1, 3, none⟩ (.int .i64 a.r)).setCell ⟨w.heap.size + 1, 4, none⟩ (.slice (some ⟨b1, 0, none⟩) a.ks.length c1)).setCell ⟨w.heap.size + 1, 5, none⟩ (.slice vo a.is.length vc)).setCell ⟨w.heap.size + 1, 6, none⟩ (.slice (some ⟨b2, 0, none⟩) a.ms.length c2)) from ⟨FC2, GS⟩)
        clear GS
        clear QC FC FC2 gw2 gWr H EN RD BX KR KP IN
        go_wp2_with fail
        refine bodyPost_ret (by simp [results, Tryd.results13, go_sem, cc0, cc1, cc2, cc3, cc4, cc5, cc6]; try rfl) rfl ?_
        exact ⟨_, rfl, unhide FI⟩
end Go.Proofs.YtiangegoglfpeaaDoor
