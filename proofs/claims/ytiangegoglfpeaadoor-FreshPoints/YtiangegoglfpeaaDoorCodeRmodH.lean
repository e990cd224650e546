/- What the walk of gantlineref17.Module asks for. -/
import Derived.Test.YtiangegoglfpeaaDoorCodeGr2
import Derived.Test.YtiangegoglfpeaaDoorCodeRfunc
namespace Go.Proofs.YtiangegoglfpeaaDoor
set_option maxRecDepth 100000
open Go.RowKit Go.Maps Go.ChangeShapes Go.WideShapes Go.ChangeAt Go.Deep

theorem wpl_run {ops : Array Oper} {rest : List Oper} {o : Oper} {a : Act} {w : World} {Q : Exit → Act → World → Prop} (hgd : o.guard = none) (s x : Operand) (t : TypeId) (ho : o.op = .call { callee := .builtin .append, args := #[s, x], argTypes := #[t, t] })
    (vs vx : Value) (hs : a.eval s = vs) (hx : a.eval x = vx) (v' : Value) (w' : World) (hrun : (Builtin.append_ #[t, t] o.type #[vs, vx]).run Tryd.prog w = .ok v' w') (h : wpList Tryd.prog ops Q rest (a.put o.dst v') w') : wpList Tryd.prog ops Q (o :: rest) a w := by
  refine wpList_plain hgd fun K hK => ?_
  unfold Oper.wp execOp
  simp only [ho, resolve, invoke, builtin, Sem.run_bind, Sem.run_pure, Result.andThen_ok, List.map_toArray, List.map_cons, List.map_nil, hs, hx, hrun]
  exact hK _ _ h
theorem app_i64 {x : World} {ao : Option Addr} {n c : Nat} {l : List Int} (hr : RowAt elI x ao n c l) (hn : n ≤ 10000000) (eb : Nat) :
    ∃ b c' x', (Builtin.append_ #[25, 25] 25 #[.slice (some ⟨eb, 0, none⟩) 0 0, .slice ao n c]).run Tryd.prog x = .ok (.slice (some ⟨b, 0, none⟩) n c') x' ∧ G x x' ∧ RowAt elI x' (some ⟨b, 0, none⟩) n c' l ∧ (n = 0 ∨ (b = x.heap.size ∧ b < x'.heap.size)) := by
  obtain ⟨i, hi, hz, hs, hb⟩ := info_parts info_int64
  exact app_new (Value.int .i64) (fun _ => rfl) 25 2 i _ Tryd.underlying25 hi hz hs (by rw [hb]; decide) hr hn eb _
theorem keep_new {wr yc yd x2 w' : World} (g0 : G wr yc) (g1 : G yd x2) (k : KeepFrom wr.heap.size x2 w') : KeepFrom yc.heap.size yd w' :=
  ⟨fun b h1 h2 => (k.1 b (Nat.le_trans g0.size h1) (Nat.lt_of_lt_of_le h2 g1.size)).trans (g1.block b h2), Nat.le_trans g1.size k.2⟩
/-- The box of the document's module, with these cells. -/
structure MdS (W1 : World) (gb : Nat) (cs : List Value) (x : World) : Prop where
  lo : W1.heap.size ≤ gb
  lt : gb < x.heap.size
  cl : CellsAt x gb 0 cs
  fz : ∀ j, j < cs.length → x.frozen? ⟨gb, j, none⟩ = false
  g : G W1 x
theorem md_end {α : Type} {E : El α} {ty : Nat} {W1 wc : World} {gb j : Nat} {cs : List Value} {l : List α} {v : Value} {x : World} (F : MdS W1 gb cs wc) (h : GrE E ty W1.heap.size wc gb j cs l v x) :
    ∃ ao c, v = .slice ao l.length c ∧ RowX W1.heap.size gb E x ao l.length c l ∧ MdS W1 gb (cs.set j v) x ∧ Kx W1.heap.size gb none wc x := by
  obtain ⟨ao, c, e, h1, h2, h3, h4, h5⟩ := gre_end h F.lo F.lt
  obtain ⟨xs, hL, _⟩ := h
  exact ⟨ao, c, e, h1, ⟨F.lo, h5, h2, (fun j hj => h3 j (by rw [List.length_set] at hj; exact hj)), hL.g F.g F.lo⟩, h4⟩
theorem md_leaf {W1 Y y : World} {m : Md} {gb b1 c1 b2 c2 : Nat} (hg : G W1 y) (hgb : W1.heap.size ≤ gb) (hY : gb = Y.heap.size) (hz : G (Y.alloc (.cells #[.slice none 0 0, .slice none 0 0, .slice none 0 0, .slice none 0 0, .slice none 0 0, .int .i64 0] 46)) y) (R1 : RowAt elB y (some ⟨b1, 0, none⟩) m.gl.length c1 m.gl) (R2 : RowAt elI y (some ⟨b2, 0, none⟩) m.co.length c2 m.co) (d1 : m.gl.length = 0 ∨ (b1 ≠ gb ∧ W1.heap.size ≤ b1)) (d2 : m.co.length = 0 ∨ (b2 ≠ gb ∧ W1.heap.size ≤ b2)) :
    MdS W1 gb [.slice none 0 0, .slice (some ⟨b1, 0, none⟩) m.gl.length c1, .slice (some ⟨b2, 0, none⟩) m.co.length c2, .slice none 0 0, .slice none 0 0, .int .i64 m.main] (setN y gb 0 [.slice none 0 0, .slice (some ⟨b1, 0, none⟩) m.gl.length c1, .slice (some ⟨b2, 0, none⟩) m.co.length c2, .slice none 0 0, .slice none 0 0, .int .i64 m.main]) ∧ RowX W1.heap.size gb elB (setN y gb 0 [.slice none 0 0, .slice (some ⟨b1, 0, none⟩) m.gl.length c1, .slice (some ⟨b2, 0, none⟩) m.co.length c2, .slice none 0 0, .slice none 0 0, .int .i64 m.main]) (some ⟨b1, 0, none⟩) m.gl.length c1 m.gl ∧ RowX W1.heap.size gb elI (setN y gb 0 [.slice none 0 0, .slice (some ⟨b1, 0, none⟩) m.gl.length c1, .slice (some ⟨b2, 0, none⟩) m.co.length c2, .slice none 0 0, .slice none 0 0, .int .i64 m.main]) (some ⟨b2, 0, none⟩) m.co.length c2 m.co := by
  subst hY
  have hlt : Y.heap.size < y.heap.size := by have := hz.size; rw [World.size_alloc] at this; omega
  have hbk := hz.block Y.heap.size (by rw [World.size_alloc]; omega)
  have hnew := heap_alloc_new Y (.cells #[.slice none 0 0, .slice none 0 0, .slice none 0 0, .slice none 0 0, .slice none 0 0, .int .i64 0] 46)
  have hcell : ∀ i, i < 6 → (y.cell? ⟨Y.heap.size, 0 + i, none⟩).isSome = true := fun i hi => by
    rw [Nat.zero_add, World.cell?_of_block (a := ⟨Y.heap.size, i, none⟩) hbk, cell_of_row _ _ i _ _ _ hnew]
    match i, hi with
    | 0, _ => rfl
    | 1, _ => rfl
    | 2, _ => rfl
    | 3, _ => rfl
    | 4, _ => rfl
    | 5, _ => rfl
  refine ⟨⟨hgb, by rw [setN_size]; exact hlt, fun j v hj => setN_in _ _ _ _ j v hj hcell, fun j _ => ?_, setN_G _ hgb _ _ _ hg⟩, ?_, ?_⟩
  · rw [setN_fro, World.frozen?_of_block (a := ⟨Y.heap.size, j, none⟩) hbk]
    unfold World.frozen?
    rw [hnew]
    simp
  · exact RowX.new (fun _ _ _ _ h => h) (row_own (fun _ _ _ _ h => h) R1 (d1.imp id fun h => setN_heap _ _ _ _ _ h.1) (by rw [setN_size]; exact Nat.le_refl _)) d1
  · exact RowX.new (fun _ _ _ _ h => h) (row_own (fun _ _ _ _ h => h) R2 (d2.imp id fun h => setN_heap _ _ _ _ _ h.1) (by rw [setN_size]; exact Nat.le_refl _)) d2
theorem info_rshape : (Tryd.prog.info? 77).map (fun i => (i.zero, i.size, i.bytes)) = some (some (.agg #[.int .i64 0, .int .i64 0, .int .u64 0]), 3, 24) := by kernel_rfl
theorem info_rcase : (Tryd.prog.info? 78).map (fun i => (i.zero, i.size, i.bytes)) = some (some (.agg #[.int .i64 0, .int .i64 0, .int .i64 0, .int .i64 0]), 4, 32) := by kernel_rfl
theorem info_rfunc : (Tryd.prog.info? 50).map (fun i => (i.zero, i.size, i.bytes)) = some (some (.agg #[.int .i64 0, .int .i64 0, .int .i64 0, .int .i64 0, .slice none 0 0, .slice none 0 0, .slice none 0 0]), 7, 104) := by kernel_rfl
theorem take_one {α : Type} (l : List α) (k : Nat) (a : α) (h : l[k]? = some a) : l.take (k + 1) = l.take k ++ [a] := by rw [List.take_add_one, h]; rfl
theorem take_len {α : Type} (l : List α) (k : Nat) (h : k ≤ l.length) : (l.take k).length = k := by rw [List.length_take]; omega

theorem md_rows {lo gb : Nat} {w w' : World} {sh : List Sp} {gl : List Bool} {co : List Int} {ca : List Ca} {fn : List Fn} {so go io ao fo : Option Addr} {sn sc gn gc cn cc an ac fn' fc : Nat} (k : Kx lo gb none w w')
    (h1 : RowX lo gb elSp w so sn sc sh) (h2 : RowX lo gb elB w go gn gc gl) (h3 : RowX lo gb elI w io cn cc co) (h4 : RowX lo gb elCa w ao an ac ca) (h5 : RowX lo gb elFn w fo fn' fc fn) : RowAt elSp w' so sn sc sh ∧ RowAt elB w' go gn gc gl ∧ RowAt elI w' io cn cc co ∧ RowAt elCa w' ao an ac ca ∧ RowAt elFn w' fo fn' fc fn :=
  ⟨h1 w' k, h2 w' k, h3 w' k, h4 w' k, h5 w' k⟩
end Go.Proofs.YtiangegoglfpeaaDoor
