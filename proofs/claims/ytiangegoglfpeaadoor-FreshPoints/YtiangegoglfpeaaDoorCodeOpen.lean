/- A module that came in, opened. -/
import Derived.Test.YtiangegoglfpeaaDoorCodeMem
namespace Go.Proofs.YtiangegoglfpeaaDoor
set_option maxRecDepth 100000
open Go.RowKit Go.Maps Go.ChangeShapes Go.WideShapes Go.ChangeAt Go.Deep

section
variable {H : Type} {enc : TypeId × Value → H} {w : World} {base b0 : Nat} {spare : Nat → Bool} {held : Bool} {r : Reach} {v : Value} {d : DataW H} {ps : List MemPlace}
theorem trod_fields {t : TypeId} {fs : Array Field} {fuel : Nat} {cs : List Value} {x : DataW H × List MemPlace} (ht : Tryd.prog.underlying t = some (.struct fs)) (h : DataW.trod enc Tryd.prog w base spare held fuel t cs = some x) :
    cs.length = Tryd.prog.cellsOf t ∧ ∃ n, ∀ (i : Nat) (f : Field), fs.toList[i]? = some f → ∃ y, DataW.trod enc Tryd.prog w base spare held n f.type ((cs.drop f.offset).take (Tryd.prog.cellsOf f.type)) = some y := by
  obtain ⟨xs, n, _, _, hl, hlen, hf⟩ := DataW.trod_struct ht h
  refine ⟨hl, n, fun i f hi => ?_⟩
  have h1 := hf i f (by rw [← Array.getElem?_toList]; exact hi)
  have h2 : i < xs.length := by
    rw [hlen]
    have := (List.getElem?_eq_some_iff.1 hi).1
    simpa using this
  rw [List.getElem?_eq_getElem h2] at h1
  exact ⟨_, h1⟩
theorem spot_none {a : Addr} {v : Value} (h : w.cell? a = some v) : a = ⟨a.block, a.off, none⟩ := by
  obtain ⟨b, o, sp⟩ := a
  cases sp with
  | none => rfl
  | some x =>
    unfold World.cell? at h
    split at h <;> simp at h
/-- A row of things, opened. -/
theorem open_row {α : Type} {E : El α} {t e : TypeId} {ok : α → Prop} {fuel : Nat} {cs : List Value} {x : DataW H × List MemPlace} (ht : Tryd.prog.underlying t = some (.slice e)) (hc : Tryd.prog.cellsOf e = E.sz) (eok : E.Ok) (a0 : α)
    (hel : ∀ fuel cs x, DataW.trod enc Tryd.prog w base spare held fuel e cs = some x → ∃ a, E.cs w a cs ∧ ok a)
    (h : DataW.trod enc Tryd.prog w base spare held fuel t cs = some x) : ∃ ao n c l, cs = [.slice ao n c] ∧ RowAt E w ao n c l ∧ ∀ a ∈ l, ok a := by
  rcases open_slice ht h with ⟨hcs, _⟩ | ⟨a, len, cap, m, n, D, Pl, hcs, _, hl, hm, em, _, hee⟩
  · exact ⟨none, 0, 0, [], hcs, RowAt.nil w, fun a ha => by cases ha⟩
  · have hlm : len ≤ m := by rw [em]; split <;> omega
    rw [hc] at hee
    have hs : ∀ i, i < len → ∃ q : α × List Value, w.cells? base (a.add (i * E.sz)) E.sz = some q.2 ∧ E.cs w q.1 q.2 ∧ ok q.1 := by
      intro i hi
      obtain ⟨cs', h1, h2⟩ := hee i (by omega)
      obtain ⟨s, h3, h4⟩ := hel _ _ _ h2
      exact ⟨(s, cs'), h1, h3, h4⟩
    have : Inhabited (α × List Value) := ⟨(a0, [])⟩
    obtain ⟨S, hS⟩ := choose_lt hs
    refine ⟨some a, len, cap, (List.range len).map fun i => (S i).1, hcs, ⟨by simp, by omega, (fun e => by cases e), ?_⟩, fun b hb => ?_⟩
    · by_cases h0 : len = 0
      · exact Or.inl h0
      right
      have hcc : ∀ i, i < len → ∀ j, j < E.sz → w.cell? ((a.add (i * E.sz)).add j) = (S i).2[j]? := fun i hi j hj => (World.cells?_some (hS i hi).1).2.2 j hj
      have hlen : ∀ i, i < len → (S i).2.length = E.sz := fun i hi => eok.len _ _ _ (hS i hi).2.1
      have hp := eok.pos
      have hz := hcc 0 (by omega) 0 hp
      rw [List.getElem?_eq_getElem (by rw [hlen 0 (by omega)]; exact hp)] at hz
      have ea := spot_none hz
      obtain ⟨ab, aoff, asp⟩ := a
      have hsp : asp = none := by simpa [Addr.add] using congrArg Addr.spot ea
      subst hsp
      have hb : ab < w.heap.size := by
        have := World.block_lt_of_cell? w _ hz
        simpa [Addr.add] using this
      refine ⟨ab, aoff, rfl, hb, fun i q hi => ?_⟩
      have hil : i < len := by
        have := (List.getElem?_eq_some_iff.1 hi).1
        simpa using this
      obtain rfl : (S i).1 = q := by simpa [hil] using hi
      refine ⟨(S i).2, (hS i hil).2.1, fun j u hj => ?_⟩
      have hjl : j < E.sz := by
        have := (List.getElem?_eq_some_iff.1 hj).1
        rw [hlen i hil] at this
        exact this
      have := hcc i hil j hjl
      rw [Addr.add_lit, Addr.add_lit] at this
      rw [this, hj]
    · simp at hb
      obtain ⟨i, hi, rfl⟩ := hb
      exact (hS i hi).2.2

theorem cells_int : Tryd.prog.cellsOf 3 = 1 := by kernel_rfl
theorem cells_u64 : Tryd.prog.cellsOf 57 = 1 := by kernel_rfl
theorem cells_i64 : Tryd.prog.cellsOf 2 = 1 := by kernel_rfl
theorem cells_bool : Tryd.prog.cellsOf 4 = 1 := by kernel_rfl
theorem cells_bools : Tryd.prog.cellsOf 24 = 1 := by kernel_rfl
theorem cells_i64s : Tryd.prog.cellsOf 25 = 1 := by kernel_rfl
theorem cells_u64s : Tryd.prog.cellsOf 31 = 1 := by kernel_rfl
theorem cells_shapes : Tryd.prog.cellsOf 23 = 1 := by kernel_rfl
theorem cells_cases : Tryd.prog.cellsOf 26 = 1 := by kernel_rfl
theorem cells_instrs : Tryd.prog.cellsOf 30 = 1 := by kernel_rfl
theorem cells_funcs : Tryd.prog.cellsOf 27 = 1 := by kernel_rfl
theorem cells_shape : Tryd.prog.cellsOf 64 = 3 := by kernel_rfl
theorem cells_case : Tryd.prog.cellsOf 66 = 4 := by kernel_rfl
theorem cells_instr : Tryd.prog.cellsOf 37 = 5 := by kernel_rfl
theorem cells_func : Tryd.prog.cellsOf 33 = 7 := by kernel_rfl
theorem cells_module : Tryd.prog.cellsOf 29 = 6 := by kernel_rfl

theorem oI_wf {k : Int} (h : (Lit.int .i64 k).wf = true) : oI k := bounds_i64 h
theorem of_int {fuel : Nat} {cs : List Value} {x : DataW H × List MemPlace} (h : DataW.trod enc Tryd.prog w base spare held fuel 3 cs = some x) : ∃ a, cs = [.int .i64 a] ∧ oI a := by
  obtain ⟨a, e, _, hw⟩ := DataW.trod_int Tryd.underlying3 h
  exact ⟨a, e, oI_wf hw⟩
theorem of_i64 {fuel : Nat} {cs : List Value} {x : DataW H × List MemPlace} (h : DataW.trod enc Tryd.prog w base spare held fuel 2 cs = some x) : ∃ a, elI.cs w a cs ∧ oI a := by
  obtain ⟨a, e, _, hw⟩ := DataW.trod_int Tryd.underlying2 h
  exact ⟨a, e, oI_wf hw⟩
theorem of_u64 {fuel : Nat} {cs : List Value} {x : DataW H × List MemPlace} (h : DataW.trod enc Tryd.prog w base spare held fuel 57 cs = some x) : ∃ a, elU.cs w a cs ∧ oU a := by
  obtain ⟨a, e, _, hw⟩ := DataW.trod_int Tryd.underlying57 h
  have hb := bounds_u64 hw
  obtain ⟨u, rfl⟩ := Int.eq_ofNat_of_zero_le hb.1
  exact ⟨u, e, by unfold oU; omega⟩
theorem of_bool {fuel : Nat} {cs : List Value} {x : DataW H × List MemPlace} (h : DataW.trod enc Tryd.prog w base spare held fuel 4 cs = some x) : ∃ a, elB.cs w a cs ∧ oB a := by
  obtain ⟨a, e, _⟩ := DataW.trod_bool Tryd.underlying4 h
  exact ⟨a, e, trivial⟩
theorem of_shape {fuel : Nat} {cs : List Value} {x : DataW H × List MemPlace} (h : DataW.trod enc Tryd.prog w base spare held fuel 64 cs = some x) : ∃ a, elSp.cs w a cs ∧ oSp a := by
  obtain ⟨hl, n, hf⟩ := trod_fields Tryd.underlying64 h
  rw [cells_shape] at hl
  obtain ⟨y0, t0⟩ := hf 0 _ rfl
  obtain ⟨y1, t1⟩ := hf 1 _ rfl
  obtain ⟨y2, t2⟩ := hf 2 _ rfl
  match cs, hl with
  | [x0, x1, x2], _ =>
    simp only [cells_int, cells_u64, List.take, List.drop] at t0 t1 t2
    obtain ⟨a, e0, w0⟩ := of_int t0
    obtain ⟨b, e1, w1⟩ := of_int t1
    obtain ⟨c, e2, w2⟩ := of_u64 t2
    simp [elU] at e0 e1 e2
    subst e0 e1 e2
    exact ⟨⟨a, b, c⟩, rfl, w0, w1, w2⟩
theorem of_case {fuel : Nat} {cs : List Value} {x : DataW H × List MemPlace} (h : DataW.trod enc Tryd.prog w base spare held fuel 66 cs = some x) : ∃ a, elCa.cs w a cs ∧ oCa a := by
  obtain ⟨hl, n, hf⟩ := trod_fields Tryd.underlying66 h
  rw [cells_case] at hl
  obtain ⟨y0, t0⟩ := hf 0 _ rfl
  obtain ⟨y1, t1⟩ := hf 1 _ rfl
  obtain ⟨y2, t2⟩ := hf 2 _ rfl
  obtain ⟨y3, t3⟩ := hf 3 _ rfl
  match cs, hl with
  | [x0, x1, x2, x3], _ =>
    simp only [cells_int, List.take, List.drop] at t0 t1 t2 t3
    obtain ⟨a, e0, w0⟩ := of_int t0
    obtain ⟨b, e1, w1⟩ := of_int t1
    obtain ⟨c, e2, w2⟩ := of_int t2
    obtain ⟨d, e3, w3⟩ := of_int t3
    simp at e0 e1 e2 e3
    subst e0 e1 e2 e3
    exact ⟨⟨a, b, c, d⟩, rfl, w0, w1, w2, w3⟩
theorem of_instr {fuel : Nat} {cs : List Value} {x : DataW H × List MemPlace} (h : DataW.trod enc Tryd.prog w base spare held fuel 37 cs = some x) : ∃ a, elIn.cs w a cs ∧ oIn a := by
  obtain ⟨hl, n, hf⟩ := trod_fields Tryd.underlying37 h
  rw [cells_instr] at hl
  obtain ⟨y0, t0⟩ := hf 0 _ rfl
  obtain ⟨y1, t1⟩ := hf 1 _ rfl
  obtain ⟨y2, t2⟩ := hf 2 _ rfl
  obtain ⟨y3, t3⟩ := hf 3 _ rfl
  obtain ⟨y4, t4⟩ := hf 4 _ rfl
  match cs, hl with
  | [x0, x1, x2, x3, x4], _ =>
    simp only [cells_int, List.take, List.drop] at t0 t1 t2 t3 t4
    obtain ⟨a, e0, w0⟩ := of_int t0
    obtain ⟨b, e1, w1⟩ := of_int t1
    obtain ⟨c, e2, w2⟩ := of_int t2
    obtain ⟨d, e3, w3⟩ := of_int t3
    obtain ⟨e, e4, w4⟩ := of_int t4
    simp at e0 e1 e2 e3 e4
    subst e0 e1 e2 e3 e4
    exact ⟨⟨a, b, c, d, e⟩, rfl, w0, w1, w2, w3, w4⟩
theorem big_len {n : Nat} (h : n ≤ maxLen) : oU n := by unfold oU maxLen at *; omega
theorem of_func {fuel : Nat} {cs : List Value} {x : DataW H × List MemPlace} (h : DataW.trod enc Tryd.prog w base spare held fuel 33 cs = some x) : ∃ a, elFn.cs w a cs ∧ oFn a := by
  obtain ⟨hl, n, hf⟩ := trod_fields Tryd.underlying33 h
  rw [cells_func] at hl
  obtain ⟨y0, t0⟩ := hf 0 _ rfl
  obtain ⟨y1, t1⟩ := hf 1 _ rfl
  obtain ⟨y2, t2⟩ := hf 2 _ rfl
  obtain ⟨y3, t3⟩ := hf 3 _ rfl
  obtain ⟨y4, t4⟩ := hf 4 _ rfl
  obtain ⟨y5, t5⟩ := hf 5 _ rfl
  obtain ⟨y6, t6⟩ := hf 6 _ rfl
  match cs, hl with
  | [x0, x1, x2, x3, x4, x5, x6], _ =>
    simp only [cells_int, cells_bools, cells_instrs, cells_u64s, List.take, List.drop] at t0 t1 t2 t3 t4 t5 t6
    obtain ⟨a, e0, w0⟩ := of_int t0
    obtain ⟨b, e1, w1⟩ := of_int t1
    obtain ⟨c, e2, w2⟩ := of_int t2
    obtain ⟨d, e3, w3⟩ := of_int t3
    obtain ⟨ko, kn, kc, kl, e4, kr, kk⟩ := open_row (E := elB) Tryd.underlying24 cells_bool okB false (fun _ _ _ h => of_bool h) t4
    obtain ⟨io, i_n, ic, il, e5, ir, ik⟩ := open_row (E := elIn) Tryd.underlying30 cells_instr okIn ⟨0, 0, 0, 0, 0⟩ (fun _ _ _ h => of_instr h) t5
    obtain ⟨mo, mn, mc, ml, e6, mr, mk⟩ := open_row (E := elU) Tryd.underlying31 cells_u64 okU 0 (fun _ _ _ h => of_u64 h) t6
    simp at e0 e1 e2 e3 e4 e5 e6
    subst e0 e1 e2 e3 e4 e5 e6
    obtain rfl := kr.1
    obtain rfl := ir.1
    obtain rfl := mr.1
    exact ⟨⟨a, b, c, d, kl, il, ml⟩, ⟨ko, kc, io, ic, mo, mc, rfl, kr, ir, mr⟩, w0, w1, w2, w3, ⟨big_len kr.2.1, kk⟩, ⟨big_len ir.2.1, ik⟩, ⟨big_len mr.2.1, mk⟩⟩
theorem open_module (hval : Value.okWide Tryd.prog w r b0 29 v) (hd : DataW.Trod enc Tryd.prog w base spare held 29 v d ps) : ∃ m, ModAt w v m ∧ oMd m := by
  obtain ⟨cs, rfl, hsz⟩ := okWide_struct Tryd.underlying29 hval
  rw [cells_module] at hsz
  obtain ⟨fuel, h⟩ := hd
  obtain ⟨_, n, hf⟩ := trod_fields Tryd.underlying29 h
  obtain ⟨y0, t0⟩ := hf 0 _ rfl
  obtain ⟨y1, t1⟩ := hf 1 _ rfl
  obtain ⟨y2, t2⟩ := hf 2 _ rfl
  obtain ⟨y3, t3⟩ := hf 3 _ rfl
  obtain ⟨y4, t4⟩ := hf 4 _ rfl
  obtain ⟨y5, t5⟩ := hf 5 _ rfl
  obtain ⟨l⟩ := cs
  match l, hsz with
  | [x0, x1, x2, x3, x4, x5], _ =>
    simp only [Value.cells, cells_shapes, cells_bools, cells_i64s, cells_cases, cells_funcs, cells_int, List.take, List.drop] at t0 t1 t2 t3 t4 t5
    obtain ⟨so, sn, sc, sl, e0, r0, k0⟩ := open_row (E := elSp) Tryd.underlying23 cells_shape okSp ⟨0, 0, 0⟩ (fun _ _ _ h => of_shape h) t0
    obtain ⟨go, gn, gc, gl, e1, r1, k1⟩ := open_row (E := elB) Tryd.underlying24 cells_bool okB false (fun _ _ _ h => of_bool h) t1
    obtain ⟨co, cn, cc, cl, e2, r2, k2⟩ := open_row (E := elI) Tryd.underlying25 cells_i64 okI 0 (fun _ _ _ h => of_i64 h) t2
    obtain ⟨ao, an, ac, al, e3, r3, k3⟩ := open_row (E := elCa) Tryd.underlying26 cells_case okCa ⟨0, 0, 0, 0⟩ (fun _ _ _ h => of_case h) t3
    obtain ⟨fo, fn, fc, fl, e4, r4, k4⟩ := open_row (E := elFn) Tryd.underlying27 cells_func okFn ⟨0, 0, 0, 0, [], [], []⟩ (fun _ _ _ h => of_func h) t4
    obtain ⟨a, e5, w5⟩ := of_int t5
    simp at e0 e1 e2 e3 e4 e5
    subst e0 e1 e2 e3 e4 e5
    obtain rfl := r0.1
    obtain rfl := r1.1
    obtain rfl := r2.1
    obtain rfl := r3.1
    obtain rfl := r4.1
    exact ⟨⟨sl, gl, cl, al, fl, a⟩, ⟨so, sc, go, gc, co, cc, ao, ac, fo, fc, rfl, r0, r1, r2, r3, r4⟩, ⟨big_len r0.2.1, k0⟩, ⟨big_len r1.2.1, k1⟩, ⟨big_len r2.2.1, k2⟩, ⟨big_len r3.2.1, k3⟩, ⟨big_len r4.2.1, k4⟩, w5⟩
theorem open_instr (hval : Value.okWide Tryd.prog w r b0 37 v) (hd : DataW.Trod enc Tryd.prog w base spare held 37 v d ps) : ∃ s : In, v = .agg #[.int .i64 s.op, .int .i64 s.a, .int .i64 s.b, .int .i64 s.c, .int .i64 s.d] ∧ oIn s := by
  obtain ⟨cs, rfl, hsz⟩ := okWide_struct Tryd.underlying37 hval
  obtain ⟨fuel, h⟩ := hd
  obtain ⟨l⟩ := cs
  obtain ⟨s, hs, ok⟩ := of_instr h
  have hs : l = [.int .i64 s.op, .int .i64 s.a, .int .i64 s.b, .int .i64 s.c, .int .i64 s.d] := hs
  subst hs
  exact ⟨s, rfl, ok⟩
end
end Go.Proofs.YtiangegoglfpeaaDoor
