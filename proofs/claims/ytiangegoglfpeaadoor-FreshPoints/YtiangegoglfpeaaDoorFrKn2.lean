/- Package fresh: two ways meet; the states of the first slots. -/
import Derived.Test.YtiangegoglfpeaaDoorFrKn
import Derived.Deep.WholeRow
namespace Go.Proofs.YtiangegoglfpeaaDoor
set_option maxRecDepth 100000
open Go.RowKit Go.Maps Go.ChangeShapes Go.WideShapes Go.ChangeAt Go.Deep

theorem info_known2 : (Tryd.prog.info? 73).map (fun i => (i.zero, i.size)) = some (some (.agg (knC Kn.zero).toArray), 66) := by kernel_rfl
theorem zero_known (w : World) : (zeroValue 73).run Tryd.prog w = .ok (.agg (knC Kn.zero).toArray) w := (zero_of_info info_known2).1 w
/-- A new place for it, laid anew. -/
theorem store_known (w : World) (Z : Array Value) (k : Kn) (hk : k.Ok) (hZ : Z.size = 66) : (Instr.storeAt 73 (.pointer (some ⟨w.heap.size, 0, none⟩)) (.agg (knC k).toArray)).run Tryd.prog (w.alloc (.cells Z 73)) = .ok () (w.alloc (.cells (knC k).toArray 73)) :=
  run_storeAt_new w _ Z _ (by rw [List.size_toArray, knC_len hk]; exact info_known) (by rw [hZ, List.size_toArray, knC_len hk]) (by have := kn_one k; simpa using this)
theorem KnAt.new (w : World) (k : Kn) (hk : k.Ok) : KnAt (w.alloc (.cells (knC k).toArray 73)) w.heap.size k := by
  have hc : ∀ j, (w.alloc (.cells (knC k).toArray 73)).cell? ⟨w.heap.size, j, none⟩ = (knC k)[j]? := fun j => by
    rw [cell_of_row _ _ _ _ _ _ (heap_alloc_new w _)]
    simp
  refine ⟨fun j v hv => by rw [Nat.zero_add, hc]; exact hv, fun j hj => ⟨?_, ?_⟩, hk⟩
  · rw [Nat.zero_add, hc, List.getElem?_eq_getElem (by rw [knC_len hk]; exact hj)]
    rfl
  · unfold World.frozen?
    rw [show (w.alloc (.cells (knC k).toArray 73)).heap[(⟨w.heap.size, 0 + j, none⟩ : Addr).block]? = _ from heap_alloc_new w _]
    simp
/-! How the walk meets them. -/
theorem wpl_ldk {ops : Array Oper} {rest : List Oper} {op : Oper} {a : Act} {w : World} {Q : Exit → Act → World → Prop} (hgd : op.guard = none) (x : Operand) (ho : op.op = .load 73 x) (b : Nat) (k : Kn) (hx : a.eval x = .pointer (some ⟨b, 0, none⟩)) (h : KnAt w b k)
    (hn : wpList Tryd.prog ops Q rest (a.put op.dst (.agg (knC k).toArray)) w) : wpList Tryd.prog ops Q (op :: rest) a w :=
  wpList_load_mid hgd 73 x ho b 0 hx (knC k) _ h.r Tryd.underlying73 rfl (by rw [knC_len h.ok]; exact info_known) hn
theorem set_known {w : World} {b : Nat} {k k' : Kn} (h : KnAt w b k) (hk : k'.Ok) : KnAt (w.setCells b 0 (knC k')) b k' :=
  ⟨World.rangeAt_setCells_same _ _ _ _ (by rw [knC_len hk]; exact h.t), World.there_setCells h.t _ _ _, hk⟩
theorem setCells_heap (b : Nat) : ∀ (vs : List Value) (o : Nat) (w : World), (∀ k, k ≠ b → (w.setCells b o vs).heap[k]? = w.heap[k]?) ∧ (w.setCells b o vs).heap.size = w.heap.size ∧ (w.setCells b o vs).os = w.os ∧ (w.setCells b o vs).tape = w.tape ∧ (w.setCells b o vs).output = w.output
  | [], _, _ => ⟨fun _ _ => rfl, rfl, rfl, rfl, rfl⟩
  | v :: vs, o, w => by
    obtain ⟨h1, h2, h3, h4, h5⟩ := setCells_heap b vs (o + 1) (w.setCell ⟨b, o, none⟩ v)
    exact ⟨fun k hk => (h1 k hk).trans (heap_set _ _ hk), h2.trans (World.size_setCell _ _ _), h3, h4, h5⟩
theorem wpl_stk {ops : Array Oper} {rest : List Oper} {op : Oper} {a : Act} {w : World} {Q : Exit → Act → World → Prop} (hgd : op.guard = none) (x y : Operand) (ho : op.op = .store 73 x y) (b : Nat) (k k' : Kn) (hx : a.eval x = .pointer (some ⟨b, 0, none⟩)) (hy : a.eval y = .agg (knC k').toArray) (h : KnAt w b k) (hk : k'.Ok)
    (hn : ∀ w1, KnAt w1 b k' → TrD w w1 (· = b) → w1.heap.size = w.heap.size → wpList Tryd.prog ops Q rest (a.put op.dst undef) w1) : wpList Tryd.prog ops Q (op :: rest) a w := by
  have hs : (knC k').toArray.size = 66 := by rw [List.size_toArray, knC_len hk]
  obtain ⟨h1, h2, h3, h4, h5⟩ := setCells_heap b (knC k') 0 w
  exact wpList_store_mid hgd 73 x y ho b 0 (knC k').toArray hx hy (by rw [hs]; exact h.t) (by rw [hs]; exact info_known) (by have := kn_one k'; simpa using this)
    (hn _ (set_known h hk) ⟨h3, h4, h5, Nat.le_of_eq h2.symm, fun k _ hne => h1 k hne⟩ h2)
theorem wp_alk {op : Oper} {a : Act} {w : World} {K : Act → World → Prop} {Q : Exit → Act → World → Prop} (ho : op.op = .alloc 73)
    (hn : K (a.put op.dst (.pointer (some ⟨w.heap.size, 0, none⟩))) (w.alloc (.cells (knC Kn.zero).toArray 73))) : op.wp Tryd.prog a w K Q := by
  unfold Oper.wp execOp
  simp only [ho]
  have hz := zero_known w
  simp [Instr.alloc, newVar, newRow, Sem.run_bind, hz, Value.cells, go_sem]
  exact hn
theorem wpl_alk {ops : Array Oper} {rest : List Oper} {op : Oper} {a : Act} {w : World} {Q : Exit → Act → World → Prop} (hgd : op.guard = none) (ho : op.op = .alloc 73)
    (hn : ∀ w1, G w w1 → KnAt w1 w.heap.size Kn.zero → w1.heap.size = w.heap.size + 1 → wpList Tryd.prog ops Q rest (a.put op.dst (.pointer (some ⟨w.heap.size, 0, none⟩))) w1) : wpList Tryd.prog ops Q (op :: rest) a w :=
  wpList_plain hgd fun _ hK => wp_alk ho (hK _ _ (hn _ (G.alloc w _) (KnAt.new w Kn.zero Kn.zero_ok) (by rw [World.size_alloc])))
theorem new_g {w w1 w2 : World} (g : G w w1) (t : TrD w1 w2 (· = w.heap.size)) : G w w2 := ⟨t.os.trans g.os, t.tape.trans g.tape, t.output.trans g.output, Nat.le_trans g.size t.size, fun k hk => (t.block k (Nat.lt_of_lt_of_le hk g.size) (by omega)).trans (g.block k hk)⟩
/-! Two of them are held against each other. -/
theorem all_range_eqN : ∀ (xs ys : List Nat), xs.length = ys.length → ((List.range xs.length).all fun i => xs.getD i 0 == ys.getD i 0) = (xs == ys)
  | [], [], _ => rfl
  | x :: xs, y :: ys, h => by
    have ih := all_range_eqN xs ys (by simpa using h)
    rw [List.length_cons, List.range_succ_eq_map, List.all_cons, List.all_map]
    simp only [List.getD_cons_zero, Function.comp_def, List.getD_cons_succ, ih]
    simp [List.cons_beq_cons]
  | [], _ :: _, h => by simp at h
  | _ :: _, [], h => by simp at h
theorem eq_words (w : World) (d : Nat) (xs ys : List Nat) (hx : xs.length = 64) (hy : ys.length = 64) :
    (Op.equalIn (d + 2) 71 (.agg (xs.map fun x : Nat => Value.int .u64 (x : Int)).toArray) (.agg (ys.map fun x : Nat => Value.int .u64 (x : Int)).toArray)).run Tryd.prog w = .ok (xs == ys) w := by
  have hsz : ∀ w, (sizeOf 57).run Tryd.prog w = .ok 1 w := fun w => by kernel_rfl
  have ht := Tryd.underlying71
  have he := Tryd.underlying57
  rw [← all_range_eqN xs ys (hx.trans hy.symm), hx, List.range_eq_range', Op.equalIn]
  simp only [Sem.run_bind, run_underlying ht, Result.andThen_ok, hsz, Std.Legacy.Range.forIn_eq_forIn_range', Std.Legacy.Range.size, Nat.sub_zero, Nat.add_sub_cancel, Nat.div_one]
  have hl : ∀ i ∈ List.range' 0 64 1, i < 64 := fun i hi => by simpa using (List.mem_range'_1.1 hi).2
  generalize List.range' 0 64 1 = l at hl ⊢
  induction l with
  | nil => simp
  | cons i l ih =>
    have hi : i < 64 := hl i (by simp)
    have px : (part 57 (xs.map fun x : Nat => Value.int .u64 (x : Int)).toArray (i * 1)).run Tryd.prog w = .ok (.int .u64 ((xs.getD i 0 : Nat) : Int)) w := by
      simp [part, isAgg, run_underlying he, List.getD, List.getElem?_eq_getElem (show i < xs.length by omega)]
    have py : (part 57 (ys.map fun x : Nat => Value.int .u64 (x : Int)).toArray (i * 1)).run Tryd.prog w = .ok (.int .u64 ((ys.getD i 0 : Nat) : Int)) w := by
      simp [part, isAgg, run_underlying he, List.getD, List.getElem?_eq_getElem (show i < ys.length by omega)]
    have pe : (Op.equalIn (d + 1) 57 (.int .u64 ((xs.getD i 0 : Nat) : Int)) (.int .u64 ((ys.getD i 0 : Nat) : Int))).run Tryd.prog w = .ok (xs.getD i 0 == ys.getD i 0) w := by
      rw [run_equalIn_int w d 57 .u64 .u64 _ _ he]
      congr 1
      rw [Bool.eq_iff_iff]
      simp
      omega
    simp only [List.forIn_cons, Sem.run_bind, px, py, pe, Result.andThen_ok, List.all_cons]
    cases hb : (xs.getD i 0 == ys.getD i 0)
    · simp
    · simp only [Bool.not_true, Bool.false_eq_true, if_false, Sem.run_pure, Result.andThen_ok, Bool.true_and]
      exact ih fun j hj => hl j (by simp [hj])
theorem kp0 (w : World) (q : Kn) : (part 57 (knC q).toArray 0).run Tryd.prog w = .ok (.int .u64 (q.y : Int)) w := by simp [part, isAgg, run_underlying Tryd.underlying57, knC]
theorem kp1 (w : World) (q : Kn) : (part 57 (knC q).toArray 1).run Tryd.prog w = .ok (.int .u64 (q.o : Int)) w := by simp [part, isAgg, run_underlying Tryd.underlying57, knC]
theorem ex_known (q : Kn) (hq : q.Ok) : (knC q).toArray.extract 2 66 = (q.ws.map fun x : Nat => Value.int .u64 (x : Int)).toArray := by
  simp [knC]
  rw [List.take_of_length_le (by simp [hq.n])]
theorem agg64 (w : World) : (isAgg 71).run Tryd.prog w = .ok true w := by
  unfold isAgg
  rw [Sem.run_bind, run_underlying Tryd.underlying71 w]
  rfl
theorem size64 (w : World) : (sizeOf 71).run Tryd.prog w = .ok 64 w := by kernel_rfl
theorem kp2 (w : World) (q : Kn) (hq : q.Ok) : (part 71 (knC q).toArray 2).run Tryd.prog w = .ok (.agg (q.ws.map fun x : Nat => Value.int .u64 (x : Int)).toArray) w := by
  simp only [part, Sem.run_bind, agg64, size64, Result.andThen_ok, if_true, ex_known q hq, Sem.run_pure]
theorem ki (d : Nat) (w : World) (a b : Nat) : (Op.equalIn (d + 1) 57 (.int .u64 (a : Int)) (.int .u64 (b : Int))).run Tryd.prog w = .ok (a == b) w := by
  rw [run_equalIn_int w d 57 .u64 .u64 _ _ Tryd.underlying57]
  congr 1
  rw [Bool.eq_iff_iff]
  simp
  omega
theorem stood_known : Tryd.prog.stoodInHeld 73 = false := by kernel_rfl
theorem eqf (d : Nat) (w : World) (k j : Kn) (hk : k.Ok) (hj : j.Ok) (f0 f1 f2 : Field) (n0 : f0.name ≠ "_") (n1 : f1.name ≠ "_") (n2 : f2.name ≠ "_") (t0 : f0.type = 57) (t1 : f1.type = 57) (t2 : f2.type = 71) (o0 : f0.offset = 0) (o1 : f1.offset = 1) (o2 : f2.offset = 2) :
    (Op.eqFields (d + 2) (knC k).toArray (knC j).toArray [f0, f1, f2]).run Tryd.prog w = .ok (k.eq j) w := by
  have i0 : (Op.equalIn (d + 2) 57 (.int .u64 (k.y : Int)) (.int .u64 (j.y : Int))).run Tryd.prog w = .ok (k.y == j.y) w := ki (d + 1) w k.y j.y
  have i1 : (Op.equalIn (d + 2) 57 (.int .u64 (k.o : Int)) (.int .u64 (j.o : Int))).run Tryd.prog w = .ok (k.o == j.o) w := ki (d + 1) w k.o j.o
  have i2 := eq_words w d k.ws j.ws hk.n hj.n
  have q2 := kp2 w k hk
  have q3 := kp2 w j hj
  have q0 := kp0 w k
  have q1 := kp0 w j
  have r0 := kp1 w k
  have r1 := kp1 w j
  unfold Kn.eq
  generalize (k.y == j.y) = b0 at i0 ⊢
  generalize (k.o == j.o) = b1 at i1 ⊢
  generalize (k.ws == j.ws) = b2 at i2 ⊢
  rw [Op.eqFields, if_pos n0, t0, o0]
  simp only [Sem.run_bind, q0, q1, i0, Result.andThen_ok]
  cases b0
  · simp only [Bool.not_false, if_true, Bool.false_and, Sem.run_pure]
  · simp only [Bool.not_true, Bool.false_eq_true, if_false, Bool.true_and]
    rw [Op.eqFields, if_pos n1, t1, o1]
    simp only [Sem.run_bind, r0, r1, i1, Result.andThen_ok]
    cases b1
    · simp only [Bool.not_false, if_true, Bool.false_and, Sem.run_pure]
    · simp only [Bool.not_true, Bool.false_eq_true, if_false, Bool.true_and]
      rw [Op.eqFields, if_pos n2, t2, o2]
      rw [Sem.run_bind, q2, Result.andThen_ok, Sem.run_bind, q3, Result.andThen_ok, Sem.run_bind, i2, Result.andThen_ok]
      cases b2
      · rw [if_pos (by decide), Sem.run_pure]
      · rw [if_neg (by decide), Op.eqFields, Sem.run_pure]
theorem eq_struct_fs (d : Nat) (w : World) (xs ys : Array Value) (fs : Array Field) (hu : Tryd.prog.underlying 73 = some (.struct fs)) : (Op.equalIn (d + 1) 73 (.agg xs) (.agg ys)).run Tryd.prog w = (Op.eqFields d xs ys fs.toList).run Tryd.prog w := by
  have e : Tryd.prog.fieldsOf 73 = fs := by unfold Program.fieldsOf; rw [hu]
  rw [run_equalIn_struct w d _ _ _ (by rw [e]; exact hu) stood_known, e]
theorem eq_known_d (d : Nat) (w : World) (k j : Kn) (hk : k.Ok) (hj : j.Ok) : (Op.equalIn (d + 3) 73 (.agg (knC k).toArray) (.agg (knC j).toArray)).run Tryd.prog w = .ok (k.eq j) w :=
  (eq_struct_fs (d + 2) w _ _ _ Tryd.underlying73).trans (eqf d w k j hk hj _ _ _ (by decide) (by decide) (by decide) rfl rfl rfl rfl rfl rfl)
theorem eq_known (w : World) (k j : Kn) (hk : k.Ok) (hj : j.Ok) : (Op.equalIn 10000 73 (.agg (knC k).toArray) (.agg (knC j).toArray)).run Tryd.prog w = .ok (k.eq j) w := eq_known_d 9997 w k j hk hj
end Go.Proofs.YtiangegoglfpeaaDoor
