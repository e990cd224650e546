/- What the walk of gantlineref17.Module asks for. -/
import Derived.Test.YtnliooflpclcbaaGreatDoorCodeGr2
import Derived.Test.YtnliooflpclcbaaGreatDoorCodeRfunc
namespace Go.Proofs.YtnliooflpclcbaaGreatDoor
set_option maxRecDepth 100000
open Go.RowKit Go.Maps Go.ChangeShapes Go.WideShapes Go.ChangeAt Go.Deep

theorem wpl_run {ops : Array Oper} {rest : List Oper} {o : Oper} {a : Act} {w : World} {Q : Exit → Act → World → Prop} (hgd : o.guard = none) (s x : Operand) (t : TypeId) (ho : o.op = .call { callee := .builtin .append, args := #[s, x], argTypes := #[t, t] })
    (vs vx : Value) (hs : a.eval s = vs) (hx : a.eval x = vx) (v' : Value) (w' : World) (hrun : (Builtin.append_ #[t, t] o.type #[vs, vx]).run Tryz.prog w = .ok v' w') (h : wpList Tryz.prog ops Q rest (a.put o.dst v') w') : wpList Tryz.prog ops Q (o :: rest) a w := by
  refine wpList_plain hgd fun K hK => ?_
  unfold Oper.wp execOp
  simp only [ho, resolve, invoke, builtin, Sem.run_bind, Sem.run_pure, Result.andThen_ok, List.map_toArray, List.map_cons, List.map_nil, hs, hx, hrun]
  exact hK _ _ h
theorem app_i64 {x : World} {ao : Option Addr} {n c : Nat} {l : List Int} (hr : RowAt elI x ao n c l) (hn : n ≤ 10000000) (eb : Nat) :
    ∃ b c' x', (Builtin.append_ #[29, 29] 29 #[.slice (some ⟨eb, 0, none⟩) 0 0, .slice ao n c]).run Tryz.prog x = .ok (.slice (some ⟨b, 0, none⟩) n c') x' ∧ G x x' ∧ RowAt elI x' (some ⟨b, 0, none⟩) n c' l ∧ (n = 0 ∨ (b = x.heap.size ∧ b < x'.heap.size)) := by
  obtain ⟨i, hi, hz, hs, hb⟩ := info_parts info_int64
  exact app_new (Value.int .i64) (fun _ => rfl) 29 2 i _ Tryz.underlying29 hi hz hs (by rw [hb]; decide) hr hn eb _
theorem keep_new {wr yc yd x2 w' : World} (g0 : G wr yc) (g1 : G yd x2) (k : KeepFrom wr.heap.size x2 w') : KeepFrom yc.heap.size yd w' :=
  ⟨fun b h1 h2 => (k.1 b (Nat.le_trans g0.size h1) (Nat.lt_of_lt_of_le h2 g1.size)).trans (g1.block b h2), Nat.le_trans g1.size k.2⟩
/-- The box of the document's module, with these cells. -/
structure MdS (W1 : World) (gb : Nat) (cs : List Value) (x : World) : Prop where
  lo : W1.heap.size ≤ gb
  lt : gb < x.heap.size
  cl : CellsAt x gb 0 cs
  fz : ∀ j, j < cs.length → x.frozen? ⟨gb, j, none⟩ = false
  g : G W1 x
theorem md_end {α : Type} {E : El α} {ty : Nat} {W1 wc : World} {gb j : Nat} {cs : List Value} {l : List α} {v : Value} {x : World} (F : MdS W1 gb cs wc) (h : GrE E ty W1.heap.size wc gb j cs l v x) :
    ∃ ao c, v = .slice ao l.length c ∧ RowX W1.heap.size gb E x ao l.length c l ∧ MdS W1 gb (cs.set j v) x ∧ Kx W1.heap.size gb none wc x := by
  obtain ⟨ao, c, e, h1, h2, h3, h4, h5⟩ := gre_end h F.lo F.lt
  obtain ⟨xs, hL, _⟩ := h
  exact ⟨ao, c, e, h1, ⟨F.lo, h5, h2, (fun j hj => h3 j (by rw [List.length_set] at hj; exact hj)), hL.g F.g F.lo⟩, h4⟩
theorem take_one {α : Type} (l : List α) (k : Nat) (a : α) (h : l[k]? = some a) : l.take (k + 1) = l.take k ++ [a] := by rw [List.take_add_one, h]; rfl
theorem take_len {α : Type} (l : List α) (k : Nat) (h : k ≤ l.length) : (l.take k).length = k := by rw [List.length_take]; omega

theorem md_rows {lo gb : Nat} {w w' : World} {sh : List Sp} {gl : List Bool} {co : List Int} {ca : List Ca} {fn : List Fn} {so go io ao fo : Option Addr} {sn sc gn gc cn cc an ac fn' fc : Nat} (k : Kx lo gb none w w')
    (h1 : RowX lo gb elSp w so sn sc sh) (h2 : RowX lo gb elB w go gn gc gl) (h3 : RowX lo gb elI w io cn cc co) (h4 : RowX lo gb elCa w ao an ac ca) (h5 : RowX lo gb elFn w fo fn' fc fn) : RowAt elSp w' so sn sc sh ∧ RowAt elB w' go gn gc gl ∧ RowAt elI w' io cn cc co ∧ RowAt elCa w' ao an ac ca ∧ RowAt elFn w' fo fn' fc fn :=
  ⟨h1 w' k, h2 w' k, h3 w' k, h4 w' k, h5 w' k⟩
end Go.Proofs.YtnliooflpclcbaaGreatDoor
