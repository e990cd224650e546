/- A graph in the making: its box, the row of its nodes, the map of its stretches. -/
import Derived.Test.YtnliooflpclcbaaGreatDoorLiveAhd
import Derived.Test.YtnliooflpclcbaaGreatDoorLiveNw
import Derived.Test.YtnliooflpclcbaaGreatDoorLiveFC
import Derived.DeepKeys4
import Derived.MapViews
import Derived.Maps.OwnSet
namespace Go.Proofs.YtnliooflpclcbaaGreatDoor
set_option maxRecDepth 100000
open Go.RowKit Go.Maps Go.ChangeShapes Go.WideShapes Go.ChangeAt Go.Deep

theorem laidOut10 : laidOutB Tryz.prog = true := by kernel_rfl
/-- A stretch of cases: its first, how many. -/
abbrev Sc : Type := Nat × Nat
def Sc.cells (s : Sc) : List Value := [.int .i64 (s.1 : Int), .int .i64 (s.2 : Int)]
def Sc.val (s : Sc) : Value := .agg #[.int .i64 (s.1 : Int), .int .i64 (s.2 : Int)]
def Sc.Fit (s : Sc) : Prop := s.1 ≤ 10000000 ∧ s.2 ≤ 10000000
theorem cells_str : Tryz.prog.cellsOf 110 = 2 := by kernel_rfl
theorem cells_i : Tryz.prog.cellsOf 3 = 1 := by kernel_rfl
theorem row_str : (110 : TypeId) < Tryz.prog.types.size := of_decide_eq_true (by kernel_rfl)
theorem deep_str : Tryz.prog.keyTypeAt (Tryz.prog.types.size + 1) 110 = true := by kernel_rfl
theorem wide_str : (match Tryz.prog.underlying 110 with | some (.array _ _) | some (.struct _) => true | _ => false) = true := by kernel_rfl
theorem keyedS : Keyed Tryz.prog 110 := Keyed.of_law (deep_law_laid laidOut10 (m := 3) (by omega) row_str (by kernel_rfl) wide_str)
theorem wfn {n : Nat} (h : n ≤ 10000000) : (Lit.int .i64 (n : Int)).wf = true := WalkArith.wf_i64 (n := (n : Int)) (by omega)
theorem trod_sc {H : Type} {enc : TypeId × Value → H} {w : World} {base : Nat} {spare : Nat → Bool} {held : Bool} (s : Sc) (h : s.Fit) :
    DataW.trod enc Tryz.prog w base spare held 2 110 s.cells = some (.agg [.lit (.int .i64 (s.1 : Int)), .lit (.int .i64 (s.2 : Int))], []) := by
  have := trod_struct2_mk (enc := enc) (w := w) (base := base) (spare := spare) (held := held) (n := 1) (cs := s.cells) (y0 := (.lit (.int .i64 (s.1 : Int)), [])) (y1 := (.lit (.int .i64 (s.2 : Int)), []))
    Tryz.underlying110 (by rw [cells_str]; rfl)
    (by simpa [cells_i, Sc.cells] using trod_int_mk 0 Tryz.underlying3 (wfn h.1))
    (by simpa [cells_i, Sc.cells] using trod_int_mk 0 Tryz.underlying3 (wfn h.2))
  simpa using this
theorem Trod_sc {H : Type} {enc : TypeId × Value → H} {w : World} {base : Nat} {spare : Nat → Bool} {held : Bool} (s : Sc) (h : s.Fit) :
    DataW.Trod enc Tryz.prog w base spare held 110 s.val (.agg [.lit (.int .i64 (s.1 : Int)), .lit (.int .i64 (s.2 : Int))]) [] :=
  ⟨2, by simpa [Sc.val, Value.cells, Sc.cells] using trod_sc s h⟩
/-- The key that a stretch is. -/
def Sc.key (s : Sc) : Lit := (DataW.agg (H := Unit) [.lit (.int .i64 (s.1 : Int)), .lit (.int .i64 (s.2 : Int))]).asKey
theorem formed_sc (s : Sc) : s.val.formed Tryz.prog 110 = true := by
  simp [Sc.val, Value.formed, Tryz.underlying110, cells_str]
theorem keyOf_sc (s : Sc) (h : s.Fit) (w : World) : keyOf Tryz.prog 110 s.val = some s.key :=
  (keyOf_asKey deep_str wide_str (formed_sc s) (Trod_sc (enc := fun _ => ()) (w := w) (base := 0) (spare := fun _ => false) (held := false) s h)).1
theorem sc_inj {s t : Sc} (h : s.val = t.val) : s = t := by
  simp [Sc.val] at h
  obtain ⟨h1, h2⟩ := h
  exact Prod.ext (by omega) (by omega)
theorem sckey_inj {s t : Sc} (hs : s.Fit) (ht : t.Fit) (w : World) (h : s.key = t.key) : s = t :=
  sc_inj (keyedS.inj (keyOf_sc s hs w) (by rw [h]; exact keyOf_sc t ht w))

/-- Blocks that are not P are as they were. -/
structure Kz (P : Nat → Prop) (w w' : World) : Prop where
  size : w.heap.size ≤ w'.heap.size
  block : ∀ b, b < w.heap.size → ¬ P b → w'.heap[b]? = w.heap[b]?
/-- Ints that lie in blocks that are not P. -/
def IsZ (P : Nat → Prop) (w : World) (v : Value) (l : List Int) : Prop := ∀ w', Kz P w w' → IsL w' v l
theorem IsZ.move {P P' : Nat → Prop} {w w' : World} {v : Value} {l : List Int} (h : IsZ P w v l) (hs : w.heap.size ≤ w'.heap.size) (hb : ∀ b, b < w.heap.size → ¬ P b → w'.heap[b]? = w.heap[b]? ∧ ¬ P' b) : IsZ P' w' v l :=
  fun w2 k => h w2 ⟨Nat.le_trans hs k.size, fun b h1 h2 => (k.block b (Nat.lt_of_lt_of_le h1 hs) (hb b h1 h2).2).trans (hb b h1 h2).1⟩
theorem IsZ.isl {P : Nat → Prop} {w : World} {v : Value} {l : List Int} (h : IsZ P w v l) : IsL w v l := h w ⟨Nat.le_refl _, fun _ _ _ => rfl⟩
theorem nwl_isz {B : Nat} {P : Nat → Prop} {w : World} {v : Value} {l : List Int} (h : NwL B w v l) (hP : ∀ b, P b → b < B) : IsZ P w v l := fun w' k => by
  obtain ⟨⟨ao, c, rfl, h1, hr⟩, hn⟩ := h
  refine ⟨ao, c, rfl, h1, hr.1, hr.2.1, hr.2.2.1, ?_⟩
  rcases hr.2.2.2 with h0 | ⟨b, off, rfl, hb, hc⟩
  · exact Or.inl h0
  · have hB : B ≤ b := hn _ _ _ rfl
    refine Or.inr ⟨b, off, rfl, Nat.lt_of_lt_of_le hb k.size, fun i a hi => ?_⟩
    obtain ⟨cs, g1, g2⟩ := hc i a hi
    exact ⟨cs, g1, g2.kept (k.block b hb (fun hp => by have := hP b hp; omega))⟩

/-- A node: what is read, what is kept, what follows. -/
abbrev Nd : Type := Nat × Nat × List Int
def Pz (gB mb rb : Nat) (E : List Nat) : Nat → Prop := fun b => b = gB ∨ b = mb ∨ b = rb ∨ b ∈ E
/-- A graph in the making, in the box gB (all from block B on; E: blocks beside that no node leads to). -/
structure GX (w : World) (B gB mb rb cap n0 : Nat) (hd : List Value) (ns : List Nd) (l : List Sc) (E : List Nat) : Prop where
  hl : hd.length = 13
  blk : w.heap[gB]? = some (.cells (hd ++ [Value.slice (some ⟨rb, 0, none⟩) ns.length cap, Value.map (some mb)]).toArray 61 (0, 0))
  b1 : B ≤ gB
  b2 : B ≤ mb
  n1 : gB ≠ mb
  n2 : gB ≠ rb
  n3 : mb ≠ rb
  row : ∃ xs, w.ownsRow B 57 3 (.slice (some ⟨rb, 0, none⟩) ns.length cap) ns.length xs ∧ ∀ i n, ns[i]? = some n → ∃ v, xs[i * 3]? = some (.int .u64 (n.1 : Int)) ∧ xs[i * 3 + 1]? = some (.int .u64 (n.2.1 : Int)) ∧ xs[i * 3 + 2]? = some v ∧ IsZ (Pz gB mb rb E) w v n.2.2
  map : ∃ D : DataW Unit, w.ownsMap Tryz.prog 110 (plainElem Tryz.prog 3) mb l.length D ∧ (∀ s : Sc, s.Fit → Maps.has D s.key = decide (s ∈ l)) ∧ ∀ s : Sc, s ∈ l → D.atKey s.key (.lit (.int .i64 0)) = .lit (.int .i64 ((n0 + l.idxOf s : Nat) : Int))
  fit : ∀ s ∈ l, s.Fit
section
variable {w : World} {B gB mb rb cap n0 : Nat} {hd : List Value} {ns : List Nd} {l : List Sc} {E : List Nat}
theorem GX.gl (h : GX w B gB mb rb cap n0 hd ns l E) : gB < w.heap.size := (Array.getElem?_eq_some_iff.1 h.blk).1
theorem GX.ml (h : GX w B gB mb rb cap n0 hd ns l E) : mb < w.heap.size := by
  obtain ⟨D, h1, _⟩ := h.map
  exact h1.lt
theorem GX.rl (h : GX w B gB mb rb cap n0 hd ns l E) : B ≤ rb ∧ rb < w.heap.size := by
  obtain ⟨xs, h1, _⟩ := h.row
  exact h1.lt rb rfl
theorem GX.cells (h : GX w B gB mb rb cap n0 hd ns l E) : w.cell? ⟨gB, 13, none⟩ = some (.slice (some ⟨rb, 0, none⟩) ns.length cap) ∧ w.cell? ⟨gB, 14, none⟩ = some (.map (some mb)) ∧ w.frozen? ⟨gB, 13, none⟩ = false ∧ ∀ i v, hd[i]? = some v → w.cell? ⟨gB, i, none⟩ = some v := by
  have hl := h.hl
  refine ⟨?_, ?_, ?_, fun i v hv => ?_⟩
  · rw [cell_of_row _ _ _ _ _ _ h.blk, List.getElem?_toArray, List.getElem?_append_right (by omega), hl]
    rfl
  · rw [cell_of_row _ _ _ _ _ _ h.blk, List.getElem?_toArray, List.getElem?_append_right (by omega), hl]
    rfl
  · unfold World.frozen?
    rw [h.blk]
    simp
  · rw [cell_of_row _ _ _ _ _ _ h.blk, List.getElem?_toArray, List.getElem?_append_left (List.getElem?_eq_some_iff.1 hv).1]
    exact hv
theorem GX.move (h : GX w B gB mb rb cap n0 hd ns l E) {w' : World} {E' : List Nat} (h1 : w'.heap[gB]? = w.heap[gB]?) (h2 : w'.heap[mb]? = w.heap[mb]?) (h3 : w'.heap[rb]? = w.heap[rb]?) (hs : w.heap.size ≤ w'.heap.size) (hb : ∀ b, b < w.heap.size → ¬ Pz gB mb rb E b → w'.heap[b]? = w.heap[b]? ∧ b ∉ E') : GX w' B gB mb rb cap n0 hd ns l E' := by
  refine ⟨h.hl, h1.trans h.blk, h.b1, h.b2, h.n1, h.n2, h.n3, ?_, ?_, h.fit⟩
  · obtain ⟨xs, o, hx⟩ := h.row
    refine ⟨xs, ⟨o.1, ?_⟩, fun i n hi => ?_⟩
    · rcases o.2 with hn | ⟨g, c, cur, e, hb2, hg, rest⟩
      · exact Or.inl hn
      · refine Or.inr ⟨g, c, cur, e, hb2, ?_, rest⟩
        injection e with e
        injection e with e
        injection e with e
        subst e
        exact h3.trans hg
    · obtain ⟨v, x0, x1, x2, hz⟩ := hx i n hi
      refine ⟨v, x0, x1, x2, hz.move hs (fun b b1 b2 => ⟨(hb b b1 b2).1, fun hp => ?_⟩)⟩
      have hne := (hb b b1 b2).2
      rcases hp with hp | hp | hp | hp
      · exact b2 (Or.inl hp)
      · exact b2 (Or.inr (Or.inl hp))
      · exact b2 (Or.inr (Or.inr (Or.inl hp)))
      · exact hne hp
  · obtain ⟨D, ⟨es, clock, hb2, r⟩, hD⟩ := h.map
    exact ⟨D, ⟨es, clock, h2.trans hb2, r⟩, hD⟩
/-- New blocks may be beside. -/
theorem GX.more (h : GX w B gB mb rb cap n0 hd ns l E) {w' : World} (g : G w w') (N : List Nat) (hN : ∀ b ∈ N, w.heap.size ≤ b) : GX w' B gB mb rb cap n0 hd ns l (E ++ N) :=
  h.move (g.block _ h.gl) (g.block _ h.ml) (g.block _ h.rl.2) g.size (fun b h1 h2 => ⟨g.block b h1, fun hm => by
    rcases List.mem_append.1 hm with hm | hm
    · exact h2 (Or.inr (Or.inr (Or.inr hm)))
    · have := hN b hm; omega⟩)
theorem GX.g (h : GX w B gB mb rb cap n0 hd ns l E) {w' : World} (g : G w w') : GX w' B gB mb rb cap n0 hd ns l E := by
  have := h.more g [] (fun b hb => by cases hb)
  rwa [List.append_nil] at this
theorem GX.less (h : GX w B gB mb rb cap n0 hd ns l E) {E' : List Nat} (hE : ∀ b ∈ E', b ∈ E) : GX w B gB mb rb cap n0 hd ns l E' :=
  h.move rfl rfl rfl (Nat.le_refl _) (fun b _ h2 => ⟨rfl, fun hm => h2 (Or.inr (Or.inr (Or.inr (hE b hm))))⟩)
/-- A cell of a block beside is written. -/
theorem GX.set (h : GX w B gB mb rb cap n0 hd ns l E) (b i : Nat) (v : Value) (hb : b ∈ E) (h1 : b ≠ gB) (h2 : b ≠ mb) (h3 : b ≠ rb) : GX (w.setCell ⟨b, i, none⟩ v) B gB mb rb cap n0 hd ns l E :=
  h.move (heap_set _ _ (fun e => h1 e.symm)) (heap_set _ _ (fun e => h2 e.symm)) (heap_set _ _ (fun e => h3 e.symm)) (by rw [World.size_setCell]; exact Nat.le_refl _) (fun k _ hk => ⟨heap_set _ _ (fun e => hk (Or.inr (Or.inr (Or.inr (by have e : k = b := e; rw [e]; exact hb))))), fun hm => hk (Or.inr (Or.inr (Or.inr hm)))⟩)
/-- What a call that makes the graph more may have turned. -/
structure Tg (w w' : World) (gB mb rb rb' : Nat) : Prop where
  os : w'.os = w.os
  tape : w'.tape = w.tape
  output : w'.output = w.output
  size : w.heap.size ≤ w'.heap.size
  block : ∀ k, k < w.heap.size → k ≠ gB → k ≠ mb → k ≠ rb → w'.heap[k]? = w.heap[k]?
  lies : rb' = rb ∨ w.heap.size ≤ rb'
theorem Tg.of_G {w w' : World} {gB mb rb : Nat} (g : G w w') : Tg w w' gB mb rb rb := ⟨g.os, g.tape, g.output, g.size, fun k hk _ _ _ => g.block k hk, Or.inl rfl⟩
theorem Tg.trans {w w1 w2 : World} {gB mb rb rb1 rb2 : Nat} (h : Tg w w1 gB mb rb rb1) (k : Tg w1 w2 gB mb rb1 rb2) : Tg w w2 gB mb rb rb2 := by
  refine ⟨k.os.trans h.os, k.tape.trans h.tape, k.output.trans h.output, Nat.le_trans h.size k.size, fun b h1 h2 h3 h4 => ?_, ?_⟩
  · refine (k.block b (Nat.lt_of_lt_of_le h1 h.size) h2 h3 (fun e => ?_)).trans (h.block b h1 h2 h3 h4)
    rcases h.lies with e2 | e2
    · exact h4 (e.trans e2)
    · omega
  · have := h.size
    rcases k.lies with e | e
    · rcases h.lies with e2 | e2
      · exact Or.inl (e.trans e2)
      · exact Or.inr (by omega)
    · exact Or.inr (by omega)
theorem Tg.G {W w w' : World} {gB mb rb rb' : Nat} (h : Tg w w' gB mb rb rb') (g : G W w) (h1 : W.heap.size ≤ gB) (h2 : W.heap.size ≤ mb) (h3 : W.heap.size ≤ rb) : G W w' :=
  ⟨h.os.trans g.os, h.tape.trans g.tape, h.output.trans g.output, Nat.le_trans g.size h.size, fun k hk => (h.block k (Nat.lt_of_lt_of_le hk g.size) (by omega) (by omega) (by omega)).trans (g.block k hk)⟩
/-- A box of one's own, made behind w, keeps what it holds. -/
theorem Tg.cell {w w' : World} {gB mb rb rb' : Nat} (h : Tg w w' gB mb rb rb') {b i : Nat} {v : Value} (h1 : b ≠ gB) (h2 : b ≠ mb) (h3 : b ≠ rb) (hc : w.cell? ⟨b, i, none⟩ = some v) : w'.cell? ⟨b, i, none⟩ = some v :=
  (World.cell?_of_block (h.block b (World.block_lt_of_cell? w _ hc) h1 h2 h3)).trans hc
theorem Tg.fro {w w' : World} {gB mb rb rb' : Nat} (h : Tg w w' gB mb rb rb') {b i : Nat} (hb : b < w.heap.size) (h1 : b ≠ gB) (h2 : b ≠ mb) (h3 : b ≠ rb) : w'.frozen? ⟨b, i, none⟩ = w.frozen? ⟨b, i, none⟩ :=
  World.frozen?_of_block (a := ⟨b, i, none⟩) (h.block b hb h1 h2 h3)
theorem Tg.set {w w' : World} {gB mb rb rb' : Nat} (h : Tg w w' gB mb rb rb') (b i : Nat) (v : Value) (hb : w.heap.size ≤ b) : Tg w (w'.setCell ⟨b, i, none⟩ v) gB mb rb rb' :=
  ⟨h.os, h.tape, h.output, by rw [World.size_setCell]; exact h.size, fun k h1 h2 h3 h4 => (heap_set _ _ (by show k ≠ b; omega)).trans (h.block k h1 h2 h3 h4), h.lies⟩
theorem box_set (h : hd.length = 13) (a b v : Value) : (hd ++ [a, b]).toArray.setIfInBounds 13 v = (hd ++ [v, b]).toArray := by
  rw [List.setIfInBounds_toArray, List.set_append, if_neg (by omega), h]
  rfl
/-- A node is written. -/
theorem GX.put (h : GX w B gB mb rb cap n0 hd ns l E) (pc : Nat) (hp : pc < ns.length) (a k : Nat) (v : Value) (nx : List Int) (hz : IsZ (Pz gB mb rb E) w v nx) :
    GX (setN w rb (pc * 3) [.int .u64 (a : Int), .int .u64 (k : Int), v]) B gB mb rb cap n0 hd (ns.set pc (a, k, nx)) l E ∧ Tg w (setN w rb (pc * 3) [.int .u64 (a : Int), .int .u64 (k : Int), v]) gB mb rb rb := by
  obtain ⟨xs, o, hx⟩ := h.row
  have hxl : xs.length = ns.length * 3 := o.1
  have o1 := (o.stored (pc * 3) (.int .u64 (a : Int))).1
  have o2 := (o1.stored (pc * 3 + 1) (.int .u64 (k : Int))).1
  have o3 := (o2.stored (pc * 3 + 2) v).1
  have hb : ∀ b, b ≠ rb → (setN w rb (pc * 3) [.int .u64 (a : Int), .int .u64 (k : Int), v]).heap[b]? = w.heap[b]? := fun b hb => setN_heap _ _ _ _ _ hb
  refine ⟨⟨h.hl, by rw [hb gB h.n2, List.length_set]; exact h.blk, h.b1, h.b2, h.n1, h.n2, h.n3, ⟨_, by rw [List.length_set]; exact o3, fun i n hi => ?_⟩, ?_, h.fit⟩, ⟨rfl, rfl, rfl, by rw [setN_size]; exact Nat.le_refl _, fun b _ _ _ h4 => hb b h4, Or.inl rfl⟩⟩
  · have mv : ∀ u q, IsZ (Pz gB mb rb E) w u q → IsZ (Pz gB mb rb E) (setN w rb (pc * 3) [.int .u64 (a : Int), .int .u64 (k : Int), v]) u q := fun u q hu => hu.move (by rw [setN_size]; exact Nat.le_refl _) (fun b _ h2 => ⟨hb b (fun e => h2 (Or.inr (Or.inr (Or.inl e)))), h2⟩)
    by_cases e : i = pc
    · subst e
      rw [List.getElem?_set_self hp] at hi
      cases hi
      refine ⟨v, ?_, ?_, ?_, mv _ _ hz⟩
      · rw [List.getElem?_set_ne (by omega), List.getElem?_set_ne (by omega), List.getElem?_set_self (by omega)]
      · rw [List.getElem?_set_ne (by omega), List.getElem?_set_self (by rw [List.length_set]; omega)]
      · rw [List.getElem?_set_self (by rw [List.length_set, List.length_set]; omega)]
    · rw [List.getElem?_set_ne (fun e2 => e e2.symm)] at hi
      obtain ⟨u, x0, x1, x2, hu⟩ := hx i n hi
      refine ⟨u, ?_, ?_, ?_, mv _ _ hu⟩
      · rw [List.getElem?_set_ne (by omega), List.getElem?_set_ne (by omega), List.getElem?_set_ne (by omega)]; exact x0
      · rw [List.getElem?_set_ne (by omega), List.getElem?_set_ne (by omega), List.getElem?_set_ne (by omega)]; exact x1
      · rw [List.getElem?_set_ne (by omega), List.getElem?_set_ne (by omega), List.getElem?_set_ne (by omega)]; exact x2
  · obtain ⟨D, ⟨es, clock, hb2, r⟩, hD⟩ := h.map
    exact ⟨D, ⟨es, clock, (hb mb h.n3).trans hb2, r⟩, hD⟩
theorem info_node : (Tryz.prog.info? 57).map (fun i => (i.zero, i.size, i.bytes)) = some (some (.agg #[.int .u64 0, .int .u64 0, .slice none 0 0]), 3, 40) := by kernel_rfl
/-- One more node. -/
theorem GX.app (h : GX w B gB mb rb cap n0 hd ns l E) (hn : ns.length < 1000000) (hB : B ≤ w.heap.size) (a k : Nat) (xo : Option Addr) (xn xc : Nat) (nx : List Int) (hz : IsZ (Pz gB mb rb E) w (.slice xo xn xc) nx) :
    ∃ rb' cap' x3, (Builtin.append_ #[58, 58] 58 #[.slice (some ⟨rb, 0, none⟩) ns.length cap, .slice (some ⟨w.heap.size, 0, none⟩) 1 1]).run Tryz.prog (w.alloc (.cells #[.int .u64 (a : Int), .int .u64 (k : Int), .slice xo xn xc] 57)) = .ok (.slice (some ⟨rb', 0, none⟩) (ns.length + 1) cap') x3
      ∧ x3.cell? ⟨gB, 13, none⟩ = some (.slice (some ⟨rb, 0, none⟩) ns.length cap) ∧ x3.frozen? ⟨gB, 13, none⟩ = false
      ∧ GX (x3.setCell ⟨gB, 13, none⟩ (.slice (some ⟨rb', 0, none⟩) (ns.length + 1) cap')) B gB mb rb' cap' n0 hd (ns ++ [(a, k, nx)]) l E ∧ Tg w (x3.setCell ⟨gB, 13, none⟩ (.slice (some ⟨rb', 0, none⟩) (ns.length + 1) cap')) gB mb rb rb' := by
  obtain ⟨i, hi, hz0, hs, hb⟩ := info_parts info_node
  have ga := G.alloc w (.cells #[.int .u64 (a : Int), .int .u64 (k : Int), .slice xo xn xc] 57)
  have h2 := h.g ga
  have hz2 : IsZ (Pz gB mb rb E) (w.alloc (.cells #[.int .u64 (a : Int), .int .u64 (k : Int), .slice xo xn xc] 57)) (.slice xo xn xc) nx := hz.move ga.size (fun b h1 h2 => ⟨ga.block b h1, h2⟩)
  obtain ⟨xs, o, hx⟩ := h2.row
  have hsz : (w.alloc (.cells #[.int .u64 (a : Int), .int .u64 (k : Int), .slice xo xn xc] 57)).heap.size = w.heap.size + 1 := World.size_alloc _ _
  obtain ⟨v', x3, hrun, r1, r2, _, r4⟩ := run_append_own_at (P := Tryz.prog) (w.alloc (.cells #[.int .u64 (a : Int), .int .u64 (k : Int), .slice xo xn xc] 57)) B 58 58 57 i _ 3 40 Tryz.underlying58 hi hz0 hs hb rfl (by decide) _ ns.length xs o ⟨w.heap.size, 0, none⟩ 1 1 [.int .u64 (a : Int), .int .u64 (k : Int), .slice xo xn xc] rfl
    (fun q u hq => by
      rw [Addr.add_lit, cell_of_row _ _ _ _ _ _ (heap_alloc_new w _), Nat.zero_add]
      simpa using hq) (fun u hu => by
      simp at hu
      rcases hu with rfl | rfl | rfl <;> rfl) (by unfold maxLen; omega) (by omega) (by omega)
  have hxl : xs.length = ns.length * 3 := o.1
  obtain ⟨rb', cap', cur, rfl, q2, q3, q4⟩ : ∃ g c cur, v' = .slice (some ⟨g, 0, none⟩) (ns.length + 1) c ∧ B ≤ g ∧ x3.heap[g]? = some (.cells cur 57 (0, 0)) ∧ True := by
    rcases r1.2 with ⟨_, h0⟩ | ⟨g, c, cur, e, q2, q3, _⟩
    · omega
    · exact ⟨g, c, cur, e, q2, q3, trivial⟩
  have hs3 := r2.size
  have hrl := h.rl
  have hgl := h.gl
  have hml := h.ml
  have r4' : rb' = rb ∨ rb' = w.heap.size + 1 := by
    rcases r4 with r4 | r4
    · left; simpa [Value.ownBlock] using r4
    · right; simpa [Value.ownBlock, hsz] using r4
  have hbk : ∀ b, b < w.heap.size → b ≠ rb → x3.heap[b]? = w.heap[b]? := fun b b1 b2 => (r2.block b (by omega) (by simpa [Value.ownBlock] using b2)).trans (ga.block b b1)
  have hne : gB ≠ rb' := by
    have := h.n2
    omega
  have hgb := hbk gB hgl h.n2
  have hsame : (x3.setCell ⟨gB, 13, none⟩ (.slice (some ⟨rb', 0, none⟩) (ns.length + 1) cap')).heap[gB]? = some (.cells (hd ++ [Value.slice (some ⟨rb', 0, none⟩) (ns.length + 1) cap', Value.map (some mb)]).toArray 61 (0, 0)) := by
    rw [← box_set h.hl (.slice (some ⟨rb, 0, none⟩) ns.length cap)]
    exact heap_setCell_same x3 gB 13 _ _ _ (hgb.trans h.blk)
  refine ⟨rb', cap', x3, hrun, (World.cell?_of_block (a := ⟨gB, 13, none⟩) hgb).trans h.cells.1, (World.frozen?_of_block (a := ⟨gB, 13, none⟩) hgb).trans h.cells.2.2.1, ⟨h.hl, ?_, h.b1, h.b2, h.n1, hne, ?_, ⟨xs ++ [.int .u64 (a : Int), .int .u64 (k : Int), .slice xo xn xc], ?_, fun i n hi => ?_⟩, ?_, h.fit⟩, ⟨r2.os, r2.tape, r2.output, by rw [World.size_setCell]; omega, fun b b1 b2 b3 b4 => (heap_set _ _ b2).trans (hbk b b1 b4), by omega⟩⟩
  · rw [List.length_append]
    exact hsame
  · have := h.n3
    omega
  · rw [List.length_append]
    refine ⟨r1.1, ?_⟩
    rcases r1.2 with hn | ⟨g, c, cur, e, hb2, hg, rest⟩
    · exact Or.inl hn
    · refine Or.inr ⟨g, c, cur, e, hb2, ?_, rest⟩
      injection e with e
      injection e with e
      injection e with e
      subst e
      exact (heap_set _ _ (fun e => hne e.symm)).trans hg
  · have key : ∀ u q, IsZ (Pz gB mb rb E) (w.alloc (.cells #[.int .u64 (a : Int), .int .u64 (k : Int), .slice xo xn xc] 57)) u q → IsZ (Pz gB mb rb' E) (x3.setCell ⟨gB, 13, none⟩ (.slice (some ⟨rb', 0, none⟩) (ns.length + 1) cap')) u q := fun u q hu => by
      refine hu.move (by rw [World.size_setCell]; exact hs3) (fun b b1 b2 => ⟨?_, fun hp => ?_⟩)
      · exact (heap_set _ _ (fun e => b2 (Or.inl e))).trans (r2.block b b1 (fun e => b2 (Or.inr (Or.inr (Or.inl (by simpa [Value.ownBlock] using e))))))
      · rcases hp with hp | hp | hp | hp
        · exact b2 (Or.inl hp)
        · exact b2 (Or.inr (Or.inl hp))
        · rcases r4' with e | e
          · exact b2 (Or.inr (Or.inr (Or.inl (hp.trans e))))
          · omega
        · exact b2 (Or.inr (Or.inr (Or.inr hp)))
    by_cases hil : i < ns.length
    · rw [List.getElem?_append_left hil] at hi
      obtain ⟨u, x0, x1, x2, hu⟩ := hx i n hi
      exact ⟨u, by rw [List.getElem?_append_left (by omega)]; exact x0, by rw [List.getElem?_append_left (by omega)]; exact x1, by rw [List.getElem?_append_left (by omega)]; exact x2, key _ _ hu⟩
    · have hi2 : i < (ns ++ [(a, k, nx)]).length := (List.getElem?_eq_some_iff.1 hi).1
      simp at hi2
      obtain rfl : i = ns.length := by omega
      simp at hi
      subst hi
      refine ⟨.slice xo xn xc, ?_, ?_, ?_, key _ _ hz2⟩
      · rw [List.getElem?_append_right (by omega), hxl, Nat.sub_self]; rfl
      · rw [List.getElem?_append_right (by omega), hxl, Nat.add_sub_cancel_left]; rfl
      · rw [List.getElem?_append_right (by omega), hxl, Nat.add_sub_cancel_left]; rfl
  · obtain ⟨D, ⟨es, clock, hb2, r⟩, hD⟩ := h.map
    exact ⟨D, ⟨es, clock, (heap_set _ _ (fun e => h.n1 e.symm)).trans ((hbk mb hml h.n3).trans hb2), r⟩, hD⟩
theorem zero_i (w : World) : (zeroValue 3).run Tryz.prog w = .ok (.int .i64 0) w := by kernel_rfl
theorem GX.look (h : GX w B gB mb rb cap n0 hd ns l E) (s : Sc) (hs : s.Fit) :
    (Instr.lookup 59 (.map (some mb)) s.val true).run Tryz.prog w = .ok (.tuple #[.int .i64 (if s ∈ l then ((n0 + l.idxOf s : Nat) : Int) else 0), .bool (decide (s ∈ l))]) w := by
  obtain ⟨D, hown, hhas, hat⟩ := h.map
  obtain ⟨v, ps, hrun, hv⟩ := hown.look_ok keyedS Tryz.underlying59 (zero_i w) (plainElem_int Tryz.underlying3 (by decide)) (keyOf_sc s hs w)
  rw [hrun, hhas s hs]
  by_cases hm : s ∈ l
  · rw [hat s hm] at hv
    obtain ⟨c, rfl, hc, _⟩ := plainElem_int_inv Tryz.underlying3 hv
    have e : c = ((n0 + l.idxOf s : Nat) : Int) := by simp at hc; omega
    rw [if_pos hm, e]
  · have h0 : Maps.has D s.key = false := by rw [hhas s hs]; simpa using hm
    rw [atKey_of_not_has h0] at hv
    obtain ⟨c, rfl, hc, _⟩ := plainElem_int_inv Tryz.underlying3 hv
    simp at hc
    rw [if_neg hm, hc.1]
/-- A stretch is noted. -/
theorem GX.note (h : GX w B gB mb rb cap n0 hd ns l E) (s : Sc) (hs : s.Fit) (hn : s ∉ l) (hl : n0 + l.length ≤ 10000000) :
    ∃ w1, (Instr.mapUpdate 59 (.map (some mb)) s.val (.int .i64 ((n0 + l.length : Nat) : Int))).run Tryz.prog w = .ok () w1 ∧ GX w1 B gB mb rb cap n0 hd ns (l ++ [s]) E ∧ Tg w w1 gB mb rb rb := by
  obtain ⟨D, hown, hhas, hat⟩ := h.map
  obtain ⟨w1, hrun, hown1, hg1⟩ := hown.update keyedS Tryz.underlying59 (by unfold maxLen; omega) (keyOf_sc s hs w) (plainElem_int Tryz.underlying3 (wfn hl))
  have hb : ∀ b, b < w.heap.size → b ≠ mb → w1.heap[b]? = w.heap[b]? := fun b b1 b2 => hg1.block b b1 (by simpa using b2)
  have hm := h.n3
  have hk : WideAt.IsKeyLit s.key := keyedS.key (keyOf_sc s hs w)
  refine ⟨w1, hrun, ⟨h.hl, (hb gB h.gl h.n1).trans h.blk, h.b1, h.b2, h.n1, h.n2, h.n3, ?_, ⟨_, by rw [List.length_append]; exact hown1, fun t ht => ?_, fun t ht => ?_⟩, fun t ht => ?_⟩, ⟨hg1.os, hg1.tape, hg1.output, hg1.size, fun b b1 _ b3 _ => hb b b1 b3, Or.inl rfl⟩⟩
  · obtain ⟨xs, o, hx⟩ := h.row
    refine ⟨xs, ⟨o.1, ?_⟩, fun i n hi => ?_⟩
    · rcases o.2 with hn | ⟨g, c, cur, e, hb2, hg, rest⟩
      · exact Or.inl hn
      · refine Or.inr ⟨g, c, cur, e, hb2, ?_, rest⟩
        injection e with e
        injection e with e
        injection e with e
        subst e
        exact (hb rb h.rl.2 (fun e => hm e.symm)).trans hg
    · obtain ⟨v, x0, x1, x2, hz⟩ := hx i n hi
      exact ⟨v, x0, x1, x2, hz.move hg1.size (fun b b1 b2 => ⟨hb b b1 (fun e => b2 (Or.inr (Or.inl e))), b2⟩)⟩
  · by_cases e : t = s
    · subst e
      rw [has_put_same hown.isMap hk]
      simp
    · rw [has_put_other (fun e2 => e (sckey_inj ht hs w e2)), hhas t ht]
      simp [e]
  · by_cases e : t = s
    · subst e
      rw [atKey_put_same hown.isMap hk, List.idxOf_append, if_neg hn]
      simp
    · have ht' : t ∈ l := by simpa [e] using ht
      rw [atKey_put_other (fun e2 => e (sckey_inj (h.fit t ht') hs w e2)), hat t ht', List.idxOf_append, if_pos ht']
  · rcases List.mem_append.1 ht with ht | ht
    · exact h.fit t ht
    · simp at ht; rw [ht]; exact hs
end
end Go.Proofs.YtnliooflpclcbaaGreatDoor
