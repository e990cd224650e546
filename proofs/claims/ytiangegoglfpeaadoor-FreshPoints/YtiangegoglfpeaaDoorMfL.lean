/- Here, one behind the other: LiveApp, LiveOpen, CodeBig, FrLw. -/
import Derived.Test.YtiangegoglfpeaaDoorLiveFC
import Derived.Test.YtiangegoglfpeaaDoorCodeOpen
import Derived.SizedLaws
import Derived.Test.YtiangegoglfpeaaDoorCodeMem
/- append([]code.Func{f}, m.Funcs...). -/
namespace Go.Proofs.YtiangegoglfpeaaDoor
set_option maxRecDepth 100000
open Go.RowKit Go.Maps Go.ChangeShapes Go.WideShapes Go.ChangeAt Go.Deep

/-- The cells of a row, one behind the other. -/
theorem row_cellsA {α : Type} {E : El α} (ok : E.Ok) {w : World} {b off n c : Nat} {l : List α} (h : RowAt E w (some ⟨b, off, none⟩) n c l) :
    ∃ xs : List Value, xs.length = n * E.sz ∧ (∀ j u, xs[j]? = some u → w.cell? ⟨b, off + j, none⟩ = some u) ∧ ∀ i a, l[i]? = some a → ∃ cs, E.cs w a cs ∧ ∀ q u, cs[q]? = some u → xs[i * E.sz + q]? = some u := by
  have hl := h.1
  rcases h.2.2.2 with h0 | ⟨b', o', e, hb, hc⟩
  · subst h0
    obtain rfl : l = [] := List.eq_nil_of_length_eq_zero hl
    exact ⟨[], by simp, fun j u hj => by simp at hj, fun i a hi => by simp at hi⟩
  · cases e
    have hp := ok.pos
    have ex : ∀ j, j < n * E.sz → ∃ u, w.cell? ⟨b, off + j, none⟩ = some u := fun j hj => by
      have hi : j / E.sz < n := Nat.div_lt_of_lt_mul (by rw [Nat.mul_comm]; exact hj)
      obtain ⟨a, ha⟩ : ∃ a, l[j / E.sz]? = some a := ⟨l[j / E.sz]'(by omega), List.getElem?_eq_getElem _⟩
      obtain ⟨cs, e1, e2⟩ := hc _ a ha
      have hq : j % E.sz < cs.length := by rw [ok.len _ _ _ e1]; exact Nat.mod_lt _ hp
      have := e2 (j % E.sz) cs[j % E.sz] (List.getElem?_eq_getElem hq)
      have hjd : off + j / E.sz * E.sz + j % E.sz = off + j := by
        have := Nat.div_add_mod j E.sz
        rw [Nat.mul_comm] at this
        omega
      rw [hjd] at this
      exact ⟨_, this⟩
    refine ⟨(List.range (n * E.sz)).map (fun j => (w.cell? ⟨b, off + j, none⟩).getD undef), by simp, fun j u hj => ?_, fun i a hi => ?_⟩
    · have hjn : j < n * E.sz := by have := (List.getElem?_eq_some_iff.1 hj).1; simpa using this
      rw [List.getElem?_map, List.getElem?_range hjn] at hj
      obtain ⟨v, hv⟩ := ex j hjn
      have hj' : some ((w.cell? ⟨b, off + j, none⟩).getD undef) = some u := hj
      rw [hv] at hj' ⊢
      exact hj'
    · obtain ⟨cs, e1, e2⟩ := hc i a hi
      have hil : i < n := by have := (List.getElem?_eq_some_iff.1 hi).1; omega
      refine ⟨cs, e1, fun q u hq => ?_⟩
      have hql : q < E.sz := by have := (List.getElem?_eq_some_iff.1 hq).1; rw [ok.len _ _ _ e1] at this; exact this
      have hlt : i * E.sz + q < n * E.sz := by
        have := Nat.mul_le_mul_right E.sz (show i + 1 ≤ n by omega)
        rw [Nat.add_mul, Nat.one_mul] at this
        omega
      rw [List.getElem?_map, List.getElem?_range hlt]
      have := e2 q u hq
      rw [Nat.add_assoc] at this
      show some ((w.cell? ⟨b, off + (i * E.sz + q), none⟩).getD undef) = some u
      rw [this]
      rfl
theorem fn_one {w : World} {a : Fn} {cs : List Value} (h : FnCells w a cs) : ∀ u ∈ cs, u.oneCell' = true := by
  obtain ⟨ko, kc, io, ic, mo, mc, rfl, _⟩ := h
  intro u hu
  simp at hu
  rcases hu with rfl | rfl | rfl | rfl | rfl | rfl | rfl <;> rfl
theorem app_front {w0 w : World} (g0 : G w0 w) {f : Fn} {cs : List Value} (hcs : FnCells w0 f cs) {fo : Option Addr} {n fc : Nat} {l : List Fn} (hr : RowAt elFn w0 fo n fc l) (hn : n * 104 ≤ 140737488351232) :
    ∃ b c' x', (Builtin.append_ #[27, 27] 27 #[.slice (some ⟨w.heap.size, 0, none⟩) 1 1, .slice fo n fc]).run Tryd.prog (w.alloc (.cells cs.toArray 33)) = .ok (.slice (some ⟨b, 0, none⟩) (n + 1) c') x' ∧ G w x' ∧ w.heap.size ≤ b ∧ b < x'.heap.size ∧ ∀ w2, G w0 w2 → w2.heap[b]? = x'.heap[b]? → b < w2.heap.size → RowAt elFn w2 (some ⟨b, 0, none⟩) (n + 1) c' (f :: l) := by
  obtain ⟨i, hi, hz, hs, hb⟩ := info_parts info_func
  have hl := hr.1
  have ga := G.alloc w (.cells cs.toArray 33)
  have hcl : cs.length = 7 := okFn.len _ _ _ hcs
  have o1 : (w.alloc (.cells cs.toArray 33)).ownsRow w.heap.size 33 7 (.slice (some ⟨w.heap.size, 0, none⟩) 1 1) 1 cs := by
    have := World.ownsRow_lit (base := w.heap.size) (e := 33) (size := 7) w cs.toArray 1 (Nat.le_refl _) (by unfold maxLen; omega) (by simp [hcl])
    simpa using this
  have fin : ∀ (x' : World) (b c' : Nat) (news : List Value), x'.ownsRow w.heap.size 33 7 (.slice (some ⟨b, 0, none⟩) (n + 1) c') (n + 1) (cs ++ news) → (∀ i a, l[i]? = some a → ∃ c, FnCells w0 a c ∧ ∀ q u, c[q]? = some u → news[i * 7 + q]? = some u) → ∀ w2, G w0 w2 → w2.heap[b]? = x'.heap[b]? → b < w2.heap.size → RowAt elFn w2 (some ⟨b, 0, none⟩) (n + 1) c' (f :: l) := fun x' b c' news o hnews w2 g hbk hbl => by
    refine ⟨by simp [hl], by unfold maxLen; omega, (fun e => by cases e), Or.inr ⟨b, 0, rfl, hbl, fun i a hi => ?_⟩⟩
    have key : ∃ c, FnCells w0 a c ∧ ∀ q u, c[q]? = some u → (cs ++ news)[i * 7 + q]? = some u := by
      cases i with
      | zero =>
        simp at hi
        subst hi
        refine ⟨cs, hcs, fun q u hq => ?_⟩
        rw [Nat.zero_mul, Nat.zero_add, List.getElem?_append_left (List.getElem?_eq_some_iff.1 hq).1]
        exact hq
      | succ i =>
        have hi' : l[i]? = some a := by simpa using hi
        obtain ⟨c, e1, e2⟩ := hnews i a hi'
        refine ⟨c, e1, fun q u hq => ?_⟩
        have := e2 q u hq
        rw [List.getElem?_append_right (by omega), hcl, show (i + 1) * 7 + q - 7 = i * 7 + q by omega]
        exact this
    obtain ⟨c, e1, e2⟩ := key
    refine ⟨c, okFn.g _ _ _ _ e1 (fun b hb => g.block b hb) g.size, fun q u hq => ?_⟩
    have h5 := e2 q u hq
    have hlt : i * 7 + q < (n + 1) * 7 := by have := (List.getElem?_eq_some_iff.1 h5).1; rw [o.1] at this; exact this
    show w2.cell? ⟨b, 0 + i * 7 + q, none⟩ = some u
    rw [Nat.zero_add, World.cell?_of_block (a := ⟨b, i * 7 + q, none⟩) hbk, o.cellAt _ hlt]
    exact h5
  cases fo with
  | none =>
    have hfc : fc = 0 := hr.2.2.1 rfl
    have hn0 : n = 0 := by
      rcases hr.2.2.2 with h0 | ⟨b, off, e, _⟩
      · exact h0
      · cases e
    subst hfc
    subst hn0
    obtain rfl : l = [] := List.eq_nil_of_length_eq_zero hl
    refine ⟨w.heap.size, 1, _, run_append_owned_none (P := Tryd.prog) (w := w.alloc (.cells cs.toArray 33)) w.heap.size 27 27 33 i 7 Tryd.underlying27 hi _ _ _ o1, ga, Nat.le_refl _, by rw [World.size_alloc]; omega, fin _ _ _ [] (by simpa using o1) (fun i a hi => by simp at hi)⟩
  | some ad =>
    obtain ⟨news, hnl, hnc, hne⟩ : ∃ news : List Value, news.length = n * 7 ∧ (∀ j u, news[j]? = some u → w0.cell? (ad.add j) = some u) ∧ ∀ i a, l[i]? = some a → ∃ c, FnCells w0 a c ∧ ∀ q u, c[q]? = some u → news[i * 7 + q]? = some u := by
      rcases hr.2.2.2 with h0 | ⟨b, off, e, _⟩
      · subst h0
        obtain rfl : l = [] := List.eq_nil_of_length_eq_zero hl
        exact ⟨[], by simp, fun j u hj => by simp at hj, fun i a hi => by simp at hi⟩
      · cases e
        obtain ⟨xs, h1, h2, h3⟩ := row_cellsA okFn hr
        exact ⟨xs, h1, fun j u hj => by rw [Addr.add_lit]; exact h2 j u hj, h3⟩
    have hone : ∀ u ∈ news, u.oneCell' = true := fun u hu => by
      obtain ⟨j, hj⟩ := List.mem_iff_getElem?.1 hu
      have hjl := (List.getElem?_eq_some_iff.1 hj).1
      rw [hnl] at hjl
      obtain ⟨a, ha⟩ : ∃ a, l[j / 7]? = some a := ⟨l[j / 7]'(by omega), List.getElem?_eq_getElem _⟩
      obtain ⟨c, e1, e2⟩ := hne _ a ha
      have hc7 : c.length = 7 := okFn.len _ _ _ e1
      have hq : j % 7 < c.length := by omega
      have := e2 (j % 7) c[j % 7] (List.getElem?_eq_getElem hq)
      rw [show j / 7 * 7 + j % 7 = j by omega, hj] at this
      injection this with this
      rw [this]
      exact fn_one e1 _ (List.getElem_mem hq)
    obtain ⟨v', x', hrun, q1, q2, _, q4⟩ := run_append_own_at (P := Tryd.prog) (w.alloc (.cells cs.toArray 33)) w.heap.size 27 27 33 i _ 7 104 Tryd.underlying27 hi hz hs hb rfl (by decide) (.slice (some ⟨w.heap.size, 0, none⟩) 1 1) 1 cs o1 ad n fc news hnl (fun j u hj => ga.cell (g0.cell (hnc j u hj))) hone (by unfold maxLen; omega) (by omega) ga.size
    obtain ⟨b, c', rfl, hbb⟩ : ∃ b c', v' = .slice (some ⟨b, 0, none⟩) (1 + n) c' ∧ w.heap.size ≤ b := by
      rcases q1.2 with ⟨_, h0⟩ | ⟨g, cap, cur, e, hb, _⟩
      · omega
      · exact ⟨g, cap, e, hb⟩
    have gx : G w x' := ⟨q2.os.trans ga.os, q2.tape.trans ga.tape, q2.output.trans ga.output, Nat.le_trans ga.size q2.size, fun k hk => (q2.block k (Nat.lt_of_lt_of_le hk ga.size) (by simp [Value.ownBlock]; omega)).trans (ga.block k hk)⟩
    rw [Nat.add_comm 1 n] at hrun q1
    exact ⟨b, c', x', hrun, gx, hbb, (q1.lt b rfl).2, fin x' b c' news q1 hne⟩
end Go.Proofs.YtiangegoglfpeaaDoor

/- What came in, opened: a module with its room, a function, ints. -/
namespace Go.Proofs.YtiangegoglfpeaaDoor
set_option maxRecDepth 100000
open Go.RowKit Go.Maps Go.ChangeShapes Go.WideShapes Go.ChangeAt Go.Deep

theorem own : ownKnob Tryd.prog.godebug = none := by kernel_rfl
theorem laidOut : laidOutB Tryd.prog = true := by kernel_rfl
theorem bytes_func : Tryd.prog.bytesOf 33 = 104 := by kernel_rfl
section
variable {H : Type} {enc : TypeId × Value → H} {w : World} {base b0 : Nat} {spare : Nat → Bool} {held : Bool} {r : Reach} {v : Value} {d : DataW H} {ps : List MemPlace}
theorem row_cap {t e : TypeId} {fuel : Nat} {ao : Option Addr} {n c : Nat} {x : DataW H × List MemPlace} (ht : Tryd.prog.underlying t = some (.slice e)) (h : DataW.trod enc Tryd.prog w base spare held fuel t [.slice ao n c] = some x) : n ≤ c := by
  rcases open_slice ht h with ⟨hcs, _⟩ | ⟨a, len, cap, m, k, D, Pl, hcs, _, hl, _⟩
  · simp at hcs
    omega
  · simp at hcs
    omega
theorem row_weight {t e : TypeId} {fuel : Nat} {ao : Option Addr} {n c : Nat} {x : DataW H × List MemPlace} (ht : Tryd.prog.underlying t = some (.slice e)) (h : DataW.trod enc Tryd.prog w base spare held fuel t [.slice ao n c] = some x) (hw : ∀ k ∈ x.1.weights Tryd.prog t, k ≤ reachBytes) : n * Tryd.prog.bytesOf e ≤ reachBytes := by
  rcases open_slice ht h with ⟨hcs, _⟩ | ⟨a, len, cap, m, k, D, Pl, hcs, _, hl, _, _, rfl, _⟩
  · simp at hcs
    rw [hcs.2.1, Nat.zero_mul]
    exact Nat.zero_le _
  · simp at hcs
    have := hw ((len + (m - len)) * Tryd.prog.bytesOf e) (by simp [DataW.weights, ht])
    rw [hcs.2.1]
    exact Nat.le_trans (Nat.mul_le_mul_right _ (Nat.le_add_right _ _)) this
theorem open_modr (hval : Value.okWide Tryd.prog w r b0 29 v) (hd : DataW.Trod enc Tryd.prog w base spare held 29 v d ps) (hw : ∀ k ∈ d.weights Tryd.prog 29, k ≤ reachBytes) :
    ∃ (m : Md) (so : Option Addr) (sc : Nat) (go : Option Addr) (gc : Nat) (co : Option Addr) (cc : Nat) (ao : Option Addr) (ac : Nat) (fo : Option Addr) (fc : Nat), v = agM m so sc go gc co cc ao ac fo fc ∧ ModR w m so sc go gc co cc ao ac fo fc ∧ oMd m ∧ m.fn.length * 104 ≤ reachBytes := by
  obtain ⟨cs, rfl, hsz⟩ := okWide_struct Tryd.underlying29 hval
  rw [cells_module] at hsz
  obtain ⟨fuel, h⟩ := hd
  obtain ⟨xs, n, hx, hx2, hl0, hlen, hf0⟩ := DataW.trod_struct Tryd.underlying29 h
  obtain ⟨_, n', hf⟩ := trod_fields Tryd.underlying29 h
  obtain ⟨y0, t0⟩ := hf 0 _ rfl
  obtain ⟨y1, t1⟩ := hf 1 _ rfl
  obtain ⟨y2, t2⟩ := hf 2 _ rfl
  obtain ⟨y3, t3⟩ := hf 3 _ rfl
  obtain ⟨y5, t5⟩ := hf 5 _ rfl
  have hlen6 : xs.length = 6 := hlen
  obtain ⟨x4, hx4⟩ : ∃ x4, xs[4]? = some x4 := ⟨xs[4], List.getElem?_eq_getElem (by omega)⟩
  have t4 : DataW.trod enc Tryd.prog w base spare held n 27 ((((Value.agg cs).cells.toList).drop 4).take (Tryd.prog.cellsOf 27)) = xs[4]? := hf0 4 _ rfl
  rw [hx4] at t4
  have hd : d = .agg (xs.map (·.1)) := congrArg Prod.fst hx2
  have hw4 : ∀ k ∈ x4.1.weights Tryd.prog 27, k ≤ reachBytes := fun k hk => by
    refine hw k ?_
    rw [hd]
    simp only [DataW.weights, Tryd.underlying29]
    exact DataW.weights_mem_each (j := 4) (t := 27) (d := x4.1) rfl (by simp [hx4]) k hk
  obtain ⟨l⟩ := cs
  match l, hsz with
  | [x0, x1, x2, x3, x4', x5], _ =>
    simp only [Value.cells, cells_shapes, cells_bools, cells_i64s, cells_cases, cells_funcs, cells_int, List.take, List.drop] at t0 t1 t2 t3 t4 t5
    obtain ⟨so, sn, sc, sl, e0, r0, k0⟩ := open_row (E := elSp) Tryd.underlying23 cells_shape okSp ⟨0, 0, 0⟩ (fun _ _ _ h => of_shape h) t0
    obtain ⟨go, gn, gc, gl, e1, r1, k1⟩ := open_row (E := elB) Tryd.underlying24 cells_bool okB false (fun _ _ _ h => of_bool h) t1
    obtain ⟨co, cn, cc, cl, e2, r2, k2⟩ := open_row (E := elI) Tryd.underlying25 cells_i64 okI 0 (fun _ _ _ h => of_i64 h) t2
    obtain ⟨ao, an, ac, al, e3, r3, k3⟩ := open_row (E := elCa) Tryd.underlying26 cells_case okCa ⟨0, 0, 0, 0⟩ (fun _ _ _ h => of_case h) t3
    obtain ⟨fo, fn, fc, fl, e4, r4, k4⟩ := open_row (E := elFn) Tryd.underlying27 cells_func okFn ⟨0, 0, 0, 0, [], [], []⟩ (fun _ _ _ h => of_func h) t4
    obtain ⟨a, e5, w5⟩ := of_int t5
    simp at e0 e1 e2 e3 e4 e5
    subst e0 e1 e2 e3 e4 e5
    have hcap := row_cap Tryd.underlying26 t3
    have hwt := row_weight Tryd.underlying27 t4 hw4
    rw [bytes_func] at hwt
    obtain rfl := r0.1
    obtain rfl := r1.1
    obtain rfl := r2.1
    obtain rfl := r3.1
    obtain rfl := r4.1
    exact ⟨⟨sl, gl, cl, al, fl, a⟩, so, sc, go, gc, co, cc, ao, ac, fo, fc, rfl, ⟨r0, r1, r2, r3, r4, hcap⟩, ⟨⟨big_len r0.2.1, k0⟩, ⟨big_len r1.2.1, k1⟩, ⟨big_len r2.2.1, k2⟩, ⟨big_len r3.2.1, k3⟩, ⟨big_len r4.2.1, k4⟩, w5⟩, hwt⟩
theorem open_fn (hval : Value.okWide Tryd.prog w r b0 33 v) (hd : DataW.Trod enc Tryd.prog w base spare held 33 v d ps) :
    ∃ (f : Fn) (ko : Option Addr) (kc : Nat) (io : Option Addr) (ic : Nat) (mo : Option Addr) (mc : Nat), v = .agg #[.int .i64 f.p, .int .i64 f.c, .int .i64 f.s, .int .i64 f.r, .slice ko f.ks.length kc, .slice io f.is.length ic, .slice mo f.ms.length mc] ∧ RowAt elB w ko f.ks.length kc f.ks ∧ RowAt elIn w io f.is.length ic f.is ∧ RowAt elU w mo f.ms.length mc f.ms ∧ oFn f := by
  obtain ⟨cs, rfl, hsz⟩ := okWide_struct Tryd.underlying33 hval
  obtain ⟨fuel, h⟩ := hd
  obtain ⟨l⟩ := cs
  obtain ⟨f, hs, ok⟩ := of_func h
  obtain ⟨ko, kc, io, ic, mo, mc, e, h1, h2, h3⟩ : FnCells w f l := hs
  subst e
  exact ⟨f, ko, kc, io, ic, mo, mc, rfl, h1, h2, h3, ok⟩
theorem open_il (hval : Value.okWide Tryd.prog w r b0 100 v) (hd : DataW.Trod enc Tryd.prog w base spare held 100 v d ps) : ∃ ao n c l, v = .slice ao n c ∧ RowAt elI w ao n c l ∧ n ≤ c ∧ ∀ a ∈ l, oI a := by
  obtain ⟨ao, len, cap, rfl⟩ := okWide_slice Tryd.underlying100 hval
  obtain ⟨fuel, h⟩ := hd
  have h' : DataW.trod enc Tryd.prog w base spare held fuel 100 [.slice ao len cap] = some (d, ps) := h
  obtain ⟨a, n, c, l, e, hr, hk⟩ := open_row (E := elI) Tryd.underlying100 cells_int okI 0 (fun _ _ _ h => of_int h) h'
  simp at e
  obtain ⟨rfl, rfl, rfl⟩ := e
  exact ⟨_, _, _, l, rfl, hr, row_cap Tryd.underlying100 h', hk⟩
end
end Go.Proofs.YtiangegoglfpeaaDoor

/- gantlineref17.Big. -/
namespace Go.Proofs.YtiangegoglfpeaaDoor
set_option maxRecDepth 100000
open Go.RowKit Go.Maps Go.ChangeShapes Go.WideShapes Go.ChangeAt Go.Deep

/-- A function that is not big; a module that is not. -/
def smFn (f : Fn) : Prop := f.is.length ≤ 200 ∧ f.ms.length ≤ 300 ∧ f.ks.length ≤ 100
def smMd (m : Md) : Prop := m.sh.length ≤ 40 ∧ m.gl.length ≤ 300 ∧ m.co.length ≤ 100 ∧ m.ca.length ≤ 60 ∧ m.fn.length ≤ 20 ∧ ∀ f ∈ m.fn, smFn f
/-- What Big tells. -/
def BigTo (m : Md) (w w' : World) (e : Ending) : Prop := ∃ q : Bool, e = .returned (.bool q) ∧ (q = false → smMd m) ∧ G w w'

set_option maxHeartbeats 2000000 in
theorem big_raw (w : World) (m : Md) (so : Option Addr) (sc : Nat) (go : Option Addr) (gc : Nat) (co : Option Addr) (cc : Nat) (ao : Option Addr) (ac : Nat) (fo : Option Addr) (fc : Nat) (r5 : RowAt elFn w fo m.fn.length fc m.fn) :
    Calls Tryd.prog 11 #[.agg #[.slice so m.sh.length sc, .slice go m.gl.length gc, .slice co m.co.length cc, .slice ao m.ca.length ac, .slice fo m.fn.length fc, .int .i64 m.main]] w fun e w' => BigTo m w w' e := by
  obtain ⟨n1, hn1⟩ : ∃ n, n = m.sh.length := ⟨_, rfl⟩
  obtain ⟨n2, hn2⟩ : ∃ n, n = m.gl.length := ⟨_, rfl⟩
  obtain ⟨n3, hn3⟩ : ∃ n, n = m.co.length := ⟨_, rfl⟩
  obtain ⟨n4, hn4⟩ : ∃ n, n = m.ca.length := ⟨_, rfl⟩
  obtain ⟨n5, hn5⟩ : ∃ n, n = m.fn.length := ⟨_, rfl⟩
  have B := hide (fun x (gx : G w x) => (show BigTo m w x (.returned (.bool true)) from ⟨true, rfl, (fun h => by cases h), gx⟩))
  have YS := hide (fun x (gx : G w x) (h : smMd m) => (show BigTo m w x (.returned (.bool false)) from ⟨false, rfl, fun _ => h, gx⟩))
  rw [← hn5] at r5
  have hmax : n5 ≤ 9223372036854775807 := r5.2.1
  have R5 := hide r5
  rw [← hn1, ← hn2, ← hn3, ← hn4, ← hn5]
  have HN := hide (show n1 = m.sh.length ∧ n2 = m.gl.length ∧ n3 = m.co.length ∧ n4 = m.ca.length ∧ n5 = m.fn.length from ⟨hn1, hn2, hn3, hn4, hn5⟩)
  clear r5 hn1 hn2 hn3 hn4 hn5
  by_cases h0 : 40 < n1
  · have hi0 : (40 : Int) < (n1 : Int) := by omega
    clear R5 YS
    go_enter Tryd.func11, Tryd.ntmps11
    go_wp2_with fail
    go_ret
    exact unhide B _ ((G.refl w).more _)
  have hi0 : ¬ (40 : Int) < (n1 : Int) := by omega
  by_cases h1 : 300 < n2
  · have hi1 : (300 : Int) < (n2 : Int) := by omega
    clear R5 YS
    go_enter Tryd.func11, Tryd.ntmps11
    go_wp2_with fail
    go_ret
    exact unhide B _ ((G.refl w).more _)
  have hi1 : ¬ (300 : Int) < (n2 : Int) := by omega
  by_cases h2 : 100 < n3
  · have hi2 : (100 : Int) < (n3 : Int) := by omega
    clear R5 YS
    go_enter Tryd.func11, Tryd.ntmps11
    go_wp2_with fail
    go_ret
    exact unhide B _ ((G.refl w).more _)
  have hi2 : ¬ (100 : Int) < (n3 : Int) := by omega
  by_cases h3 : 60 < n4
  · have hi3 : (60 : Int) < (n4 : Int) := by omega
    clear R5 YS
    go_enter Tryd.func11, Tryd.ntmps11
    go_wp2_with fail
    go_ret
    exact unhide B _ ((G.refl w).more _)
  have hi3 : ¬ (60 : Int) < (n4 : Int) := by omega
  by_cases h4 : 20 < n5
  · have hi4 : (20 : Int) < (n5 : Int) := by omega
    clear R5 YS
    go_enter Tryd.func11, Tryd.ntmps11
    go_wp2_with fail
    go_ret
    exact unhide B _ ((G.refl w).more _)
  have hi4 : ¬ (20 : Int) < (n5 : Int) := by omega
  have RD : Hid (∀ k, k < n5 → ∃ (f : Fn) (b off : Nat) (ko : Option Addr) (kc : Nat) (io : Option Addr) (ic : Nat) (mo : Option Addr) (mc : Nat), m.fn[k]? = some f ∧ fo = some ⟨b, off, none⟩ ∧ (∀ o, (w.alloc o).cell? ⟨b, off + k * 7 + 4, none⟩ = some (.slice ko f.ks.length kc)) ∧ (∀ o, (w.alloc o).cell? ⟨b, off + k * 7 + 5, none⟩ = some (.slice io f.is.length ic)) ∧ ∀ o, (w.alloc o).cell? ⟨b, off + k * 7 + 6, none⟩ = some (.slice mo f.ms.length mc)) := hide fun k hk => by
    have h5 := unhide R5
    rcases h5.2.2.2 with hz | ⟨b, off, e, hb, hc⟩
    · omega
    obtain ⟨x, hx⟩ : ∃ x, m.fn[k]? = some x := ⟨m.fn[k]'(by have := h5.1; omega), List.getElem?_eq_getElem _⟩
    obtain ⟨cs, ⟨ko, kc, io, ic, mo, mc, ecs, _⟩, hcs⟩ := hc k x hx
    subst ecs
    exact ⟨x, b, off, ko, kc, io, ic, mo, mc, hx, e, fun o => (G.alloc w o).cell (hcs 4 _ rfl), fun o => (G.alloc w o).cell (hcs 5 _ rfl), fun o => (G.alloc w o).cell (hcs 6 _ rfl)⟩
  have ND : Hid ((∀ f ∈ m.fn, smFn f) → smMd m) := hide fun h => by
    obtain ⟨e1, e2, e3, e4, e5⟩ := unhide HN
    exact ⟨by omega, by omega, by omega, by omega, by omega, h⟩
  have AL : Hid ((∀ (i : Nat) f, i < n5 → m.fn[i]? = some f → smFn f) → ∀ f ∈ m.fn, smFn f) := hide fun h f hf => by
    obtain ⟨i, hi⟩ := List.mem_iff_getElem?.1 hf
    have h5 := (List.getElem?_eq_some_iff.1 hi).1
    exact h i f (by have := (unhide HN).2.2.2.2; omega) hi
  clear R5 HN
  go_enter Tryd.func11, Tryd.ntmps11
  go_wp2_with fail
  go_loop [3] (fun i => ∃ k : Nat, k ≤ n5 ∧ i = .int .i64 k ∧ Hid (∀ (j : Nat) f, j < k → m.fn[j]? = some f → smFn f)) (fun i => n5 - (intOf i).toNat)
  case atStart => exact ⟨0, Nat.zero_le _, rfl, hide (fun j f hj => by omega)⟩
  case round =>
    obtain ⟨k, hk, rfl, HA⟩ := hrel
    by_cases hlt : k < n5
    · obtain ⟨f, b, off, ko, kc, io, ic, mo, mc, hf, rfl, q4, q5, q6⟩ := unhide RD k hlt
      obtain ⟨a1, ha1⟩ : ∃ a, a = f.is.length := ⟨_, rfl⟩
      obtain ⟨a2, ha2⟩ : ∃ a, a = f.ms.length := ⟨_, rfl⟩
      obtain ⟨a3, ha3⟩ : ∃ a, a = f.ks.length := ⟨_, rfl⟩
      rw [← ha3] at q4
      rw [← ha1] at q5
      rw [← ha2] at q6
      have NX : Hid (a1 ≤ 200 → a2 ≤ 300 → a3 ≤ 100 → ∀ (j : Nat) g, j < k + 1 → m.fn[j]? = some g → smFn g) := hide fun e1 e2 e3 j g hj hg => by
        by_cases e : j = k
        · rw [e, hf] at hg
          rw [← Option.some.inj hg]
          exact ⟨by omega, by omega, by omega⟩
        · exact unhide HA j g (by omega) hg
      clear hf ha1 ha2 ha3 RD HA
      by_cases t0 : 200 < a1
      · have ti0 : (200 : Int) < (a1 : Int) := by omega
        clear YS ND AL NX
        go_wp2_with fail
        go_ret
        exact unhide B _ ((G.refl w).more _)
      have ti0 : ¬ (200 : Int) < (a1 : Int) := by omega
      by_cases t1 : 300 < a2
      · have ti1 : (300 : Int) < (a2 : Int) := by omega
        clear YS ND AL NX
        go_wp2_with fail
        go_ret
        exact unhide B _ ((G.refl w).more _)
      have ti1 : ¬ (300 : Int) < (a2 : Int) := by omega
      by_cases t2 : 100 < a3
      · have ti2 : (100 : Int) < (a3 : Int) := by omega
        clear YS ND AL NX
        go_wp2_with fail
        go_ret
        exact unhide B _ ((G.refl w).more _)
      have ti2 : ¬ (100 : Int) < (a3 : Int) := by omega
      have HA2 := hide (unhide NX (by omega) (by omega) (by omega))
      clear NX
      go_wp2_with fail
      go_round
      case rel => exact ⟨k + 1, by omega, by go_num, HA2⟩
      case measure => simp [intOf]; omega
    · obtain rfl : k = n5 := by omega
      have F := hide (unhide ND (unhide AL (unhide HA)))
      clear HA RD ND AL
      go_wp2_with fail
      go_ret
      exact unhide YS _ ((G.refl w).more _) (unhide F)
theorem big_any (w : World) (v : Value) (m : Md) (h : ModAt w v m) : Calls Tryd.prog 11 #[v] w fun e w' => BigTo m w w' e := by
  obtain ⟨so, sc, go, gc, co, cc, ao, ac, fo, fc, rfl, _, _, _, _, r5⟩ := h
  exact big_raw w m so sc go gc co cc ao ac fo fc r5
end Go.Proofs.YtiangegoglfpeaaDoor

/- A function is set in front of a module's, the module is not great. -/
namespace Go.Proofs.YtiangegoglfpeaaDoor
set_option maxRecDepth 100000
open Go.RowKit Go.Maps Go.ChangeShapes Go.WideShapes Go.ChangeAt Go.Deep

/-- The module with that function in front. -/
def md2 (m : Md) (f : Fn) : Md := ⟨m.sh, m.gl, m.co, m.ca, f :: m.fn, m.main⟩
/-- The law's two boxes and all that lies behind them. -/
structure LwI (w W0 X : World) (m : Md) (so : Option Addr) (sc : Nat) (go : Option Addr) (gc : Nat) (co : Option Addr) (cc : Nat) (ao : Option Addr) (ac : Nat) (f : Fn) (ko : Option Addr) (kc : Nat) (io : Option Addr) (ic : Nat) (mo : Option Addr) (mc : Nat) (b c' : Nat) : Prop where
  g : G w X
  box : ∀ x, G X x → x.cell? ⟨w.heap.size, 0, none⟩ = some (.slice so m.sh.length sc) ∧ x.cell? ⟨w.heap.size, 1, none⟩ = some (.slice go m.gl.length gc) ∧ x.cell? ⟨w.heap.size, 2, none⟩ = some (.slice co m.co.length cc) ∧ x.cell? ⟨w.heap.size, 3, none⟩ = some (.slice ao m.ca.length ac) ∧ x.cell? ⟨w.heap.size, 4, none⟩ = some (.slice (some ⟨b, 0, none⟩) (m.fn.length + 1) c') ∧ x.cell? ⟨w.heap.size, 5, none⟩ = some (.int .i64 m.main) ∧ x.cell? ⟨w.heap.size + 1, 0, none⟩ = some (.int .i64 f.p) ∧ x.cell? ⟨w.heap.size + 1, 1, none⟩ = some (.int .i64 f.c) ∧ x.cell? ⟨w.heap.size + 1, 2, none⟩ = some (.int .i64 f.s) ∧ x.cell? ⟨w.heap.size + 1, 3, none⟩ = some (.int .i64 f.r) ∧ x.cell? ⟨w.heap.size + 1, 4, none⟩ = some (.slice ko f.ks.length kc) ∧ x.cell? ⟨w.heap.size + 1, 5, none⟩ = some (.slice io f.is.length ic) ∧ x.cell? ⟨w.heap.size + 1, 6, none⟩ = some (.slice mo f.ms.length mc)
  mr : ModR X (md2 m f) so sc go gc co cc ao ac (some ⟨b, 0, none⟩) c'
  rk : RowAt elB X ko f.ks.length kc f.ks
  ri : RowAt elIn X io f.is.length ic f.is
  rm : RowAt elU X mo f.ms.length mc f.ms
  old : ∀ k, k < W0.heap.size → k ≠ w.heap.size → X.heap[k]? = W0.heap[k]?
  siz : W0.heap.size ≤ X.heap.size
theorem law_pre (w W0 : World) (m : Md) (so : Option Addr) (sc : Nat) (go : Option Addr) (gc : Nat) (co : Option Addr) (cc : Nat) (ao : Option Addr) (ac : Nat) (fo : Option Addr) (fc : Nat) (f : Fn) (ko : Option Addr) (kc : Nat) (io : Option Addr) (ic : Nat) (mo : Option Addr) (mc : Nat) (hm : ModR w m so sc go gc co cc ao ac fo fc) (rk : RowAt elB w ko f.ks.length kc f.ks) (ri : RowAt elIn w io f.is.length ic f.is) (rm : RowAt elU w mo f.ms.length mc f.ms) (hlen : m.fn.length * 104 ≤ reachBytes) (g0 : G w W0) (m0 : W0.cell? ⟨w.heap.size, 0, none⟩ = some (.slice so m.sh.length sc)) (m1 : W0.cell? ⟨w.heap.size, 1, none⟩ = some (.slice go m.gl.length gc)) (m2 : W0.cell? ⟨w.heap.size, 2, none⟩ = some (.slice co m.co.length cc)) (m3 : W0.cell? ⟨w.heap.size, 3, none⟩ = some (.slice ao m.ca.length ac)) (m4 : W0.cell? ⟨w.heap.size, 4, none⟩ = some (.slice fo m.fn.length fc)) (m5 : W0.cell? ⟨w.heap.size, 5, none⟩ = some (.int .i64 m.main)) (f0 : W0.cell? ⟨w.heap.size + 1, 0, none⟩ = some (.int .i64 f.p)) (f1 : W0.cell? ⟨w.heap.size + 1, 1, none⟩ = some (.int .i64 f.c)) (f2 : W0.cell? ⟨w.heap.size + 1, 2, none⟩ = some (.int .i64 f.s)) (f3 : W0.cell? ⟨w.heap.size + 1, 3, none⟩ = some (.int .i64 f.r)) (f4 : W0.cell? ⟨w.heap.size + 1, 4, none⟩ = some (.slice ko f.ks.length kc)) (f5 : W0.cell? ⟨w.heap.size + 1, 5, none⟩ = some (.slice io f.is.length ic)) (f6 : W0.cell? ⟨w.heap.size + 1, 6, none⟩ = some (.slice mo f.ms.length mc)) (fz : W0.frozen? ⟨w.heap.size, 4, none⟩ = false) (x1 : World) (g1 : G W0 x1) :
    ∃ b c' x2, (Builtin.append_ #[27, 27] 27 #[.slice (some ⟨x1.heap.size, 0, none⟩) 1 1, .slice fo m.fn.length fc]).run Tryd.prog (x1.alloc (.cells #[.int .i64 f.p, .int .i64 f.c, .int .i64 f.s, .int .i64 f.r, .slice ko f.ks.length kc, .slice io f.is.length ic, .slice mo f.ms.length mc] 33)) = .ok (.slice (some ⟨b, 0, none⟩) (m.fn.length + 1) c') x2 ∧ x2.cell? ⟨w.heap.size, 4, none⟩ = some (.slice fo m.fn.length fc) ∧ x2.frozen? ⟨w.heap.size, 4, none⟩ = false ∧ LwI w W0 (x2.setCell ⟨w.heap.size, 4, none⟩ (.slice (some ⟨b, 0, none⟩) (m.fn.length + 1) c')) m so sc go gc co cc ao ac f ko kc io ic mo mc b c' := by
  have g01 := g0.trans g1
  have hb0 : w.heap.size < W0.heap.size := World.block_lt_of_cell? W0 _ m0
  have hb1 : w.heap.size + 1 < W0.heap.size := World.block_lt_of_cell? W0 _ f0
  have hFn : FnCells w f [.int .i64 f.p, .int .i64 f.c, .int .i64 f.s, .int .i64 f.r, .slice ko f.ks.length kc, .slice io f.is.length ic, .slice mo f.ms.length mc] := ⟨ko, kc, io, ic, mo, mc, rfl, rk, ri, rm⟩
  obtain ⟨b, c', x2, hrun, g12, hbb, hbl, hrow⟩ := app_front g01 hFn hm.r5 (by unfold reachBytes at hlen; omega)
  have gx2 := g01.trans g12
  have gW := g1.trans g12
  have hs1 := g1.size
  obtain ⟨X, hX⟩ : ∃ X, X = x2.setCell ⟨w.heap.size, 4, none⟩ (.slice (some ⟨b, 0, none⟩) (m.fn.length + 1) c') := ⟨_, rfl⟩
  have hgX : G w X := by rw [hX]; exact G.set gx2 _ _ _ (Nat.le_refl _)
  have hne : ∀ k, k ≠ w.heap.size → X.heap[k]? = x2.heap[k]? := fun k hk => by rw [hX]; exact heap_set _ _ hk
  have hsz : X.heap.size = x2.heap.size := by rw [hX]; exact World.size_setCell _ _ _
  have c4 := gW.cell m4
  have cm : ∀ i v, i ≠ 4 → W0.cell? ⟨w.heap.size, i, none⟩ = some v → X.cell? ⟨w.heap.size, i, none⟩ = some v := fun i v hi hv => by rw [hX, cell_other _ (Or.inr hi)]; exact gW.cell hv
  have c4' : X.cell? ⟨w.heap.size, 4, none⟩ = some (.slice (some ⟨b, 0, none⟩) (m.fn.length + 1) c') := by rw [hX]; exact cell_same _ c4
  have cf : ∀ i v, W0.cell? ⟨w.heap.size + 1, i, none⟩ = some v → X.cell? ⟨w.heap.size + 1, i, none⟩ = some v := fun i v hv => by rw [hX, cell_other _ (Or.inl (by omega))]; exact gW.cell hv
  have hrow2 := hrow X hgX (hne b (by omega)) (by omega)
  refine ⟨b, c', x2, hrun, c4, (World.frozen?_of_block (a := ⟨w.heap.size, 4, none⟩) (gW.block _ hb0)).trans fz, ?_⟩
  rw [← hX]
  refine ⟨hgX, fun x g => ⟨g.cell (cm 0 _ (by decide) m0), g.cell (cm 1 _ (by decide) m1), g.cell (cm 2 _ (by decide) m2), g.cell (cm 3 _ (by decide) m3), g.cell c4', g.cell (cm 5 _ (by decide) m5), g.cell (cf 0 _ f0), g.cell (cf 1 _ f1), g.cell (cf 2 _ f2), g.cell (cf 3 _ f3), g.cell (cf 4 _ f4), g.cell (cf 5 _ f5), g.cell (cf 6 _ f6)⟩, ⟨hm.r1.g okSp hgX, hm.r2.g okB hgX, hm.r3.g okI hgX, hm.r4.g okCa hgX, hrow2, hm.cap⟩, rk.g okB hgX, ri.g okIn hgX, rm.g okU hgX, fun k hk hkn => (hne k hkn).trans (gW.block k hk), by have := gW.size; omega⟩
/-- What a module that is not great allows. -/
theorem sm_bounds {m : Md} {f : Fn} (h : smMd (md2 m f)) : f.is.length * (4 * m.ca.length) + f.is.length ≤ 100000 ∧ m.ca.length ≤ 60 ∧ f.ks.length ≤ 1000000 ∧ f.is.length ≤ 200 := by
  obtain ⟨_, _, _, h4, _, h6⟩ := h
  obtain ⟨f1, f2, f3⟩ := h6 f (by simp [md2])
  replace h4 : m.ca.length ≤ 60 := h4
  have h7 : f.is.length * (4 * m.ca.length) ≤ 200 * 240 := Nat.mul_le_mul (by omega) (by omega)
  exact ⟨by omega, h4, by omega, by omega⟩
theorem oM_ca {m : Md} {f : Fn} (h : oMd m) : ∀ s ∈ (md2 m f).ca, oCa s := h.2.2.2.1.2
theorem oF_is {f : Fn} (h : oFn f) : ∀ i ∈ f.is, oIn i := h.2.2.2.2.2.1.2
section
variable {w W0 X : World} {m : Md} {so : Option Addr} {sc : Nat} {go : Option Addr} {gc : Nat} {co : Option Addr} {cc : Nat} {ao : Option Addr} {ac : Nat} {f : Fn} {ko : Option Addr} {kc : Nat} {io : Option Addr} {ic : Nat} {mo : Option Addr} {mc b c' : Nat}
theorem lw_big (h : LwI w W0 X m so sc go gc co cc ao ac f ko kc io ic mo mc b c') : Calls Tryd.prog 11 #[.agg #[.slice so m.sh.length sc, .slice go m.gl.length gc, .slice co m.co.length cc, .slice ao m.ca.length ac, .slice (some ⟨b, 0, none⟩) (m.fn.length + 1) c', .int .i64 m.main]] X fun e w' => BigTo (md2 m f) X w' e :=
  big_raw X (md2 m f) so sc go gc co cc ao ac (some ⟨b, 0, none⟩) c' h.mr.r5
end
end Go.Proofs.YtiangegoglfpeaaDoor
