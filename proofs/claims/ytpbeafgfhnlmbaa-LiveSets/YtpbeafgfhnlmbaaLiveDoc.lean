/- The document's own ways, there, Follows (gantlineref9). -/
import Derived.Test.YtpbeafgfhnlmbaaLiveRC
import Derived.Test.YtpbeafgfhnlmbaaLiveFlw
import Derived.Test.YtpbeafgfhnlmbaaCodeRmodH
namespace Go.Proofs.Ytpbeafgfhnlmbaa
set_option maxRecDepth 100000
open Go.RowKit Go.Maps Go.ChangeShapes Go.WideShapes Go.ChangeAt Go.Deep

/-- A way: where to, a slot that is written. -/
abbrev Wy : Type := Int × Int
def wyC (s : Wy) : List Value := [.int .i64 s.1, .int .i64 s.2]
def elW : El Wy := ⟨2, fun _ s cs => cs = [.int .i64 s.1, .int .i64 s.2]⟩
theorem okW : elW.Ok := ⟨by decide, fun _ _ _ h => by rw [show _ = _ from h]; rfl, fun _ _ _ _ h _ _ => h⟩
def IsW (w : World) (v : Value) (l : List Wy) : Prop := ∃ ao c, v = .slice ao l.length c ∧ RowAt elW w ao l.length c l
theorem IsW.g {w w' : World} {v : Value} {l : List Wy} (h : IsW w v l) (g : G w w') : IsW w' v l := by
  obtain ⟨ao, c, e, h2⟩ := h
  exact ⟨ao, c, e, h2.g okW g⟩
theorem isw_nil (w : World) : IsW w (.slice none 0 0) [] := ⟨none, 0, rfl, RowAt.nil w⟩
theorem wflat_get : ∀ (l : List Wy) (i q : Nat) (s : Wy) (u : Value), l[i]? = some s → (wyC s)[q]? = some u → (l.flatMap wyC)[i * 2 + q]? = some u
  | [], i, q, s, u, h, _ => by simp at h
  | x :: l, 0, q, s, u, h, hq => by
    simp at h
    subst h
    rw [List.flatMap_cons, Nat.zero_mul, Nat.zero_add, List.getElem?_append_left (List.getElem?_eq_some_iff.1 hq).1]
    exact hq
  | x :: l, i + 1, q, s, u, h, hq => by
    have h' : l[i]? = some s := by simpa using h
    have ih := wflat_get l i q s u h' hq
    rw [List.flatMap_cons, List.getElem?_append_right (by simp [wyC]; omega)]
    have : (i + 1) * 2 + q - (wyC x).length = i * 2 + q := by simp [wyC]; omega
    rw [this]
    exact ih
theorem wflat_len : ∀ l : List Wy, (l.flatMap wyC).length = l.length * 2
  | [] => rfl
  | x :: l => by
    have := wflat_len l
    rw [List.flatMap_cons, List.length_append, this, List.length_cons]
    simp [wyC]
    omega
theorem isw_new (x : World) (l : List Wy) (h : l.length ≤ 1000) : IsW (x.alloc (.cells (l.flatMap wyC).toArray 92)) (.slice (some ⟨x.heap.size, 0, none⟩) l.length l.length) l := by
  refine ⟨_, _, rfl, rfl, by unfold maxLen; omega, (fun e => by cases e), Or.inr ⟨x.heap.size, 0, rfl, by rw [World.size_alloc]; omega, fun i a hi => ⟨wyC a, rfl, fun q u hq => ?_⟩⟩⟩
  show (x.alloc (.cells (l.flatMap wyC).toArray 92)).cell? ⟨x.heap.size, 0 + i * 2 + q, none⟩ = some u
  rw [cell_of_row _ _ _ _ _ _ (heap_alloc_new x _), Nat.zero_add]
  simpa using wflat_get l i q a u hi hq
/-- A row of ways of the call's own. -/
def OwnW (w : World) (B : Nat) (v : Value) (l : List Wy) : Prop := w.ownsRow B 92 2 v l.length (l.flatMap wyC)
theorem ownw_nil (w : World) (B : Nat) : OwnW w B (.slice none 0 0) [] := ⟨by simp, Or.inl ⟨rfl, rfl⟩⟩
theorem OwnW.isw {w : World} {B : Nat} {v : Value} {l : List Wy} (h : OwnW w B v l) : IsW w v l := by
  unfold OwnW at h
  rcases h.2 with ⟨rfl, e2⟩ | ⟨g, cap, cur, rfl, h2, h3, h4, h5, h6, h7⟩
  · obtain rfl : l = [] := List.eq_nil_of_length_eq_zero e2
    exact isw_nil w
  · have hlt : g < w.heap.size := (Array.getElem?_eq_some_iff.1 h3).1
    refine ⟨some ⟨g, 0, none⟩, cap, rfl, rfl, Nat.le_trans h4 h5, (fun e => by cases e), Or.inr ⟨g, 0, rfl, hlt, fun i a hi => ⟨wyC a, rfl, fun q u hq => ?_⟩⟩⟩
    have h8 := wflat_get l i q a u hi hq
    rw [← h7, List.getElem?_take] at h8
    split at h8
    · show w.cell? ⟨g, 0 + i * 2 + q, none⟩ = some u
      rw [cell_of_row _ _ _ _ _ _ h3, Nat.zero_add]
      simpa using h8
    · cases h8
theorem info_way : (Try.prog.info? 92).map (fun i => (i.zero, i.size, i.bytes)) = some (some (.agg #[.int .i64 0, .int .i64 0]), 2, 16) := by kernel_rfl
theorem ownw_app1 {w : World} {B : Nat} {v : Value} {l : List Wy} (a s : Int) (h : OwnW w B v l) (hB : B ≤ w.heap.size) (hn : l.length < 1000000) :
    ∃ v' w', (Builtin.append_ #[89, 89] 89 #[v, .slice (some ⟨w.heap.size, 0, none⟩) 1 1]).run Try.prog (w.alloc (.cells #[.int .i64 a, .int .i64 s] 92)) = .ok v' w' ∧ OwnW w' B v' (l ++ [(a, s)]) ∧ Below B w w' := by
  obtain ⟨i, hi, hz, hs, hb⟩ := info_parts info_way
  have ga := G.alloc w (.cells #[.int .i64 a, .int .i64 s] 92)
  have h2 : (w.alloc (.cells #[.int .i64 a, .int .i64 s] 92)).ownsRow B 92 2 v l.length (l.flatMap wyC) := own_kept h (fun b _ hb => ga.block b hb)
  obtain ⟨v', w', hrun, r1, r2, _, r4⟩ := run_append_own_at (P := Try.prog) (w.alloc (.cells #[.int .i64 a, .int .i64 s] 92)) B 89 89 92 i _ 2 16 Try.underlying89 hi hz hs hb rfl (by decide) v l.length _ h2 ⟨w.heap.size, 0, none⟩ 1 1 [.int .i64 a, .int .i64 s] rfl
    (fun q u hq => by
      rw [Addr.add_lit, cell_of_row _ _ _ _ _ _ (heap_alloc_new w _), Nat.zero_add]
      simpa using hq) (fun u hu => by simp at hu; rcases hu with rfl | rfl <;> rfl) (by unfold maxLen; omega) (by omega) (Nat.le_trans hB ga.size)
  have hbo := own_blk h2
  refine ⟨v', w', hrun, ?_, Below.grown (Below.mono ga hB) r2 (Nat.le_trans hB ga.size) (fun q hq => hbo q hq)⟩
  show w'.ownsRow B 92 2 v' (l ++ [(a, s)]).length ((l ++ [(a, s)]).flatMap wyC)
  rw [List.length_append, List.flatMap_append]
  exact r1
/-- All ways of an instruction. -/
def waysP (m : Md) (i : In) (pc : Int) : List Wy :=
  if i.op = 18 then [(i.a, -1)] else if i.op = 19 then [(i.b, -1), (pc + 1, -1)] else if i.op = 22 then [] else if i.op = 44 then [] else if i.op = 41 then (casesP m i.a i.b).map (fun c => (c.t, if c.k = 0 then c.v else -1)) else [(pc + 1, -1)]
theorem ways_fst (m : Md) (i : In) (pc : Int) : (waysP m i pc).map Prod.fst = folT m i pc := by
  unfold waysP folT
  by_cases h1 : i.op = 18
  · rw [if_pos h1, if_pos h1]; rfl
  rw [if_neg h1, if_neg h1]
  by_cases h2 : i.op = 19
  · rw [if_pos h2, if_pos h2]; rfl
  rw [if_neg h2, if_neg h2]
  by_cases h3 : i.op = 22
  · rw [if_pos h3, if_pos h3]; rfl
  rw [if_neg h3, if_neg h3]
  by_cases h4 : i.op = 44
  · rw [if_pos h4, if_pos h4]; rfl
  rw [if_neg h4, if_neg h4]
  by_cases h5 : i.op = 41
  · rw [if_pos h5, if_pos h5, List.map_map]; rfl
  rw [if_neg h5, if_neg h5]; rfl
/-- Those that are there. -/
def thereP (n : Nat) (l : List Wy) : List Wy := l.filter (fun s => inC n s.1)
def WTo (x : World) (l : List Wy) (e : Ending) (w' : World) : Prop := ∃ v, e = .returned v ∧ IsW w' v l ∧ G x w'
theorem IsW.get {w : World} {v : Value} {l : List Wy} (h : IsW w v l) : ∃ ao c, v = .slice ao l.length c ∧ ∀ k, k < l.length → ∃ b off s, ao = some ⟨b, off, none⟩ ∧ l[k]? = some s ∧ ∀ x, G w x → x.cell? ⟨b, off + k * 2, none⟩ = some (.int .i64 s.1) ∧ x.cell? ⟨b, off + k * 2 + 1, none⟩ = some (.int .i64 s.2) := by
  obtain ⟨ao, c, e, hr⟩ := h
  refine ⟨ao, c, e, fun k hk => ?_⟩
  obtain ⟨b, off, s, cs, e2, ha, ecs, hcs⟩ := row_get hr hk
  have ecs : cs = [.int .i64 s.1, .int .i64 s.2] := ecs
  subst ecs
  exact ⟨b, off, s, e2, ha, fun x g => ⟨hcs x g 0 _ rfl, hcs x g 1 _ rfl⟩⟩
theorem dec_ltW (L j : Nat) (h : j < L) : L - (intOf (.int .i64 ((j : Int) + 1))).toNat < L - (intOf (.int .i64 (j : Int))).toNat := by
  show L - ((j : Int) + 1).toNat < L - (j : Int).toNat
  omega
def wyOf (c : Ca) : Wy := (c.t, if c.k = 0 then c.v else -1)
theorem below_gg {x1 y y' : World} (r3 : Below x1.heap.size y y') (g : G x1 y) : G x1 y' := ⟨r3.os.trans g.os, r3.tape.trans g.tape, r3.output.trans g.output, Nat.le_trans g.size r3.size, fun b hb => (r3.block b hb).trans (g.block b hb)⟩
theorem way_app {x1 y : World} {v : Value} {l : List Wy} (a s : Int) (h : OwnW y x1.heap.size v l) (hl : l.length < 1000000) (g : G x1 y) :
    ∃ v' y', (Builtin.append_ #[89, 89] 89 #[v, .slice (some ⟨y.heap.size, 0, none⟩) 1 1]).run Try.prog (y.alloc (.cells #[.int .i64 a, .int .i64 s] 92)) = .ok v' y' ∧ OwnW y' x1.heap.size v' (l ++ [(a, s)]) ∧ G x1 y' := by
  obtain ⟨v', w', r1, r2, r3⟩ := ownw_app1 a s h g.size hl
  exact ⟨v', w', r1, r2, below_gg r3 g⟩
/-- A round of the walk over a select's cases. -/
theorem way_step {x1 : World} {qo : Option Addr} {n qc : Nat} {l : List Ca} (hr : RowAt elCa x1 qo n qc l) (hn : n < 1000000) (k : Nat) (wr : World) (vb : Value) (hk : k < n) (H : OwnW wr x1.heap.size vb ((l.take k).map wyOf) ∧ G x1 wr) :
    ∃ (b off : Nat) (s : Ca), qo = some ⟨b, off, none⟩ ∧ wr.cell? ⟨b, off + k * 4, none⟩ = some (.int .i64 s.k) ∧ wr.cell? ⟨b, off + k * 4 + 2, none⟩ = some (.int .i64 s.v) ∧ wr.cell? ⟨b, off + k * 4 + 3, none⟩ = some (.int .i64 s.t) ∧
      ∃ v' y', (Builtin.append_ #[89, 89] 89 #[vb, .slice (some ⟨wr.heap.size, 0, none⟩) 1 1]).run Try.prog (wr.alloc (.cells #[.int .i64 s.t, .int .i64 (if s.k = 0 then s.v else -1)] 92)) = .ok v' y' ∧ OwnW y' x1.heap.size v' ((l.take (k + 1)).map wyOf) ∧ G x1 y' := by
  obtain ⟨b, off, s, cs, e, ha, ecs, hcs⟩ := row_get hr hk
  have ecs : cs = [.int .i64 s.k, .int .i64 s.c, .int .i64 s.v, .int .i64 s.t] := ecs
  subst ecs
  have ht : (l.take (k + 1)).map wyOf = (l.take k).map wyOf ++ [wyOf s] := by rw [List.take_add_one, ha]; simp
  have hlen : ((l.take k).map wyOf).length < 1000000 := by rw [List.length_map, List.length_take]; omega
  obtain ⟨v', y', r1, r2, r3⟩ := way_app s.t (if s.k = 0 then s.v else -1) H.1 hlen H.2
  refine ⟨b, off, s, e, hcs wr H.2 0 _ rfl, hcs wr H.2 2 _ rfl, hcs wr H.2 3 _ rfl, v', y', r1, ?_, r3⟩
  rw [ht]
  exact r2

set_option maxHeartbeats 2000000 in
theorem rways_18 (w : World) (m : Md) (so : Option Addr) (sc : Nat) (go : Option Addr) (gc : Nat) (co : Option Addr) (cc : Nat) (ao : Option Addr) (ac : Nat) (fo : Option Addr) (fc : Nat) (f : Fn) (ko : Option Addr) (kc : Nat) (io : Option Addr) (ic : Nat) (mo : Option Addr) (mc : Nat) (hi : RowAt elIn w io f.is.length ic f.is) (j : Nat) (A B C D : Int) (hj : f.is[j]? = some ⟨18, A, B, C, D⟩) :
    Calls Try.prog 48 #[agM m so sc go gc co cc ao ac fo fc, agF f ko kc io ic mo mc, .int .i64 (j : Int)] w (WTo w (waysP m ⟨18, A, B, C, D⟩ (j : Int))) := by
  have hlt := (List.getElem?_eq_some_iff.1 hj).1
  obtain ⟨b, off, i', cs, rfl, ha, ecs, hcs⟩ := row_get hi hlt
  obtain rfl : ⟨18, A, B, C, D⟩ = i' := Option.some.inj (hj.symm.trans ha)
  have ecs : cs = [.int .i64 18, .int .i64 A, .int .i64 B, .int .i64 C, .int .i64 D] := ecs
  subst ecs
  have hmx : f.is.length ≤ maxLen := hi.2.1
  unfold maxLen at hmx
  have hji : (j : Int) < (f.is.length : Int) := by omega
  have hjw : wrap64 ((j : Int) + 1) = (j : Int) + 1 := by unfold wrap64; omega
  obtain ⟨W2, hW2⟩ : ∃ W2, W2 = ((w.alloc (.cells #[.slice so m.sh.length sc, .slice go m.gl.length gc, .slice co m.co.length cc, .slice ao m.ca.length ac, .slice fo m.fn.length fc, .int .i64 m.main] 48)).alloc (.cells #[.int .i64 f.p, .int .i64 f.c, .int .i64 f.s, .int .i64 f.r, .slice ko f.ks.length kc, .slice (some ⟨b, off, none⟩) f.is.length ic, .slice mo f.ms.length mc] 52)) := ⟨_, rfl⟩
  have gW2 : G w W2 := by rw [hW2]; exact (G.alloc _ _).more _
  have x0 : W2.cell? ⟨b, off + j * 5, none⟩ = some (.int .i64 18) := hcs W2 gW2 0 _ rfl
  have x1 : W2.cell? ⟨b, off + j * 5 + 1, none⟩ = some (.int .i64 A) := hcs W2 gW2 1 _ rfl
  have x2 : W2.cell? ⟨b, off + j * 5 + 2, none⟩ = some (.int .i64 B) := hcs W2 gW2 2 _ rfl
  have x3 : W2.cell? ⟨b, off + j * 5 + 3, none⟩ = some (.int .i64 C) := hcs W2 gW2 3 _ rfl
  have x4 : W2.cell? ⟨b, off + j * 5 + 4, none⟩ = some (.int .i64 D) := hcs W2 gW2 4 _ rfl
  have y5 : W2.cell? ⟨w.heap.size + 1, 5, none⟩ = some (.slice (some ⟨b, off, none⟩) f.is.length ic) := by rw [hW2]; simp [go_sem]
  obtain ⟨W3, hW3⟩ : ∃ W3, W3 = W2.alloc (.cells #[.int .i64 18, .int .i64 A, .int .i64 B, .int .i64 C, .int .i64 D] 54) := ⟨_, rfl⟩
  have hs2 : W2.heap.size = w.heap.size + 1 + 1 := by rw [hW2, World.size_alloc, World.size_alloc]
  have gW : Hid (G w W3) := hide (by rw [hW3]; exact gW2.more _)
  have m0 : W3.cell? ⟨w.heap.size, 0, none⟩ = some (.slice so m.sh.length sc) := by rw [hW3, hW2]; simp [go_sem]
  have m1 : W3.cell? ⟨w.heap.size, 1, none⟩ = some (.slice go m.gl.length gc) := by rw [hW3, hW2]; simp [go_sem]
  have m2 : W3.cell? ⟨w.heap.size, 2, none⟩ = some (.slice co m.co.length cc) := by rw [hW3, hW2]; simp [go_sem]
  have m3 : W3.cell? ⟨w.heap.size, 3, none⟩ = some (.slice ao m.ca.length ac) := by rw [hW3, hW2]; simp [go_sem]
  have m4 : W3.cell? ⟨w.heap.size, 4, none⟩ = some (.slice fo m.fn.length fc) := by rw [hW3, hW2]; simp [go_sem]
  have m5 : W3.cell? ⟨w.heap.size, 5, none⟩ = some (.int .i64 m.main) := by rw [hW3, hW2]; simp [go_sem]
  have i0 : W3.cell? ⟨w.heap.size + 1 + 1, 0, none⟩ = some (.int .i64 18) := by rw [hW3, ← hs2]; simp [go_sem]
  have i1 : W3.cell? ⟨w.heap.size + 1 + 1, 1, none⟩ = some (.int .i64 A) := by rw [hW3, ← hs2]; simp [go_sem]
  have i2 : W3.cell? ⟨w.heap.size + 1 + 1, 2, none⟩ = some (.int .i64 B) := by rw [hW3, ← hs2]; simp [go_sem]
  have i3 : W3.cell? ⟨w.heap.size + 1 + 1, 3, none⟩ = some (.int .i64 C) := by rw [hW3, ← hs2]; simp [go_sem]
  have i4 : W3.cell? ⟨w.heap.size + 1 + 1, 4, none⟩ = some (.int .i64 D) := by rw [hW3, ← hs2]; simp [go_sem]
  have K : Hid (WTo w (waysP m ⟨18, A, B, C, D⟩ (j : Int)) (.returned (.slice (some ⟨W3.heap.size, 0, none⟩) 1 1)) (W3.alloc (.cells #[.int .i64 A, .int .i64 (-1)] 92))) := hide (by
    rw [show waysP m ⟨18, A, B, C, D⟩ (j : Int) = [(A, -1)] by rfl]
    exact ⟨_, rfl, isw_new W3 [(A, -1)] (by simp), (unhide gW).more _⟩)
  clear hi hj ha hcs gW2 hlt
  unfold agM agF
  replace hW2 := hide hW2
  replace hW3 := hide hW3
  replace hs2 := hide hs2
  go_enter Try.func48, Try.ntmps48
  go_upto_region 1 with fail
  rw [← unhide hW2]
  clear hW2
  go_upto_region 2 with fail
  rw [← unhide hW3, unhide hs2]
  clear hW3 hs2 x0 x1 x2 x3 x4 y5
  go_wp2_with fail
  refine bodyPost_ret (by simp [results, Try.results48, go_sem]; try rfl) rfl ?_
  exact unhide K
set_option maxHeartbeats 2000000 in
theorem rways_19 (w : World) (m : Md) (so : Option Addr) (sc : Nat) (go : Option Addr) (gc : Nat) (co : Option Addr) (cc : Nat) (ao : Option Addr) (ac : Nat) (fo : Option Addr) (fc : Nat) (f : Fn) (ko : Option Addr) (kc : Nat) (io : Option Addr) (ic : Nat) (mo : Option Addr) (mc : Nat) (hi : RowAt elIn w io f.is.length ic f.is) (j : Nat) (A B C D : Int) (hj : f.is[j]? = some ⟨19, A, B, C, D⟩) :
    Calls Try.prog 48 #[agM m so sc go gc co cc ao ac fo fc, agF f ko kc io ic mo mc, .int .i64 (j : Int)] w (WTo w (waysP m ⟨19, A, B, C, D⟩ (j : Int))) := by
  have hlt := (List.getElem?_eq_some_iff.1 hj).1
  obtain ⟨b, off, i', cs, rfl, ha, ecs, hcs⟩ := row_get hi hlt
  obtain rfl : ⟨19, A, B, C, D⟩ = i' := Option.some.inj (hj.symm.trans ha)
  have ecs : cs = [.int .i64 19, .int .i64 A, .int .i64 B, .int .i64 C, .int .i64 D] := ecs
  subst ecs
  have hmx : f.is.length ≤ maxLen := hi.2.1
  unfold maxLen at hmx
  have hji : (j : Int) < (f.is.length : Int) := by omega
  have hjw : wrap64 ((j : Int) + 1) = (j : Int) + 1 := by unfold wrap64; omega
  obtain ⟨W2, hW2⟩ : ∃ W2, W2 = ((w.alloc (.cells #[.slice so m.sh.length sc, .slice go m.gl.length gc, .slice co m.co.length cc, .slice ao m.ca.length ac, .slice fo m.fn.length fc, .int .i64 m.main] 48)).alloc (.cells #[.int .i64 f.p, .int .i64 f.c, .int .i64 f.s, .int .i64 f.r, .slice ko f.ks.length kc, .slice (some ⟨b, off, none⟩) f.is.length ic, .slice mo f.ms.length mc] 52)) := ⟨_, rfl⟩
  have gW2 : G w W2 := by rw [hW2]; exact (G.alloc _ _).more _
  have x0 : W2.cell? ⟨b, off + j * 5, none⟩ = some (.int .i64 19) := hcs W2 gW2 0 _ rfl
  have x1 : W2.cell? ⟨b, off + j * 5 + 1, none⟩ = some (.int .i64 A) := hcs W2 gW2 1 _ rfl
  have x2 : W2.cell? ⟨b, off + j * 5 + 2, none⟩ = some (.int .i64 B) := hcs W2 gW2 2 _ rfl
  have x3 : W2.cell? ⟨b, off + j * 5 + 3, none⟩ = some (.int .i64 C) := hcs W2 gW2 3 _ rfl
  have x4 : W2.cell? ⟨b, off + j * 5 + 4, none⟩ = some (.int .i64 D) := hcs W2 gW2 4 _ rfl
  have y5 : W2.cell? ⟨w.heap.size + 1, 5, none⟩ = some (.slice (some ⟨b, off, none⟩) f.is.length ic) := by rw [hW2]; simp [go_sem]
  obtain ⟨W3, hW3⟩ : ∃ W3, W3 = W2.alloc (.cells #[.int .i64 19, .int .i64 A, .int .i64 B, .int .i64 C, .int .i64 D] 54) := ⟨_, rfl⟩
  have hs2 : W2.heap.size = w.heap.size + 1 + 1 := by rw [hW2, World.size_alloc, World.size_alloc]
  have gW : Hid (G w W3) := hide (by rw [hW3]; exact gW2.more _)
  have m0 : W3.cell? ⟨w.heap.size, 0, none⟩ = some (.slice so m.sh.length sc) := by rw [hW3, hW2]; simp [go_sem]
  have m1 : W3.cell? ⟨w.heap.size, 1, none⟩ = some (.slice go m.gl.length gc) := by rw [hW3, hW2]; simp [go_sem]
  have m2 : W3.cell? ⟨w.heap.size, 2, none⟩ = some (.slice co m.co.length cc) := by rw [hW3, hW2]; simp [go_sem]
  have m3 : W3.cell? ⟨w.heap.size, 3, none⟩ = some (.slice ao m.ca.length ac) := by rw [hW3, hW2]; simp [go_sem]
  have m4 : W3.cell? ⟨w.heap.size, 4, none⟩ = some (.slice fo m.fn.length fc) := by rw [hW3, hW2]; simp [go_sem]
  have m5 : W3.cell? ⟨w.heap.size, 5, none⟩ = some (.int .i64 m.main) := by rw [hW3, hW2]; simp [go_sem]
  have i0 : W3.cell? ⟨w.heap.size + 1 + 1, 0, none⟩ = some (.int .i64 19) := by rw [hW3, ← hs2]; simp [go_sem]
  have i1 : W3.cell? ⟨w.heap.size + 1 + 1, 1, none⟩ = some (.int .i64 A) := by rw [hW3, ← hs2]; simp [go_sem]
  have i2 : W3.cell? ⟨w.heap.size + 1 + 1, 2, none⟩ = some (.int .i64 B) := by rw [hW3, ← hs2]; simp [go_sem]
  have i3 : W3.cell? ⟨w.heap.size + 1 + 1, 3, none⟩ = some (.int .i64 C) := by rw [hW3, ← hs2]; simp [go_sem]
  have i4 : W3.cell? ⟨w.heap.size + 1 + 1, 4, none⟩ = some (.int .i64 D) := by rw [hW3, ← hs2]; simp [go_sem]
  have K : Hid (WTo w (waysP m ⟨19, A, B, C, D⟩ (j : Int)) (.returned (.slice (some ⟨W3.heap.size, 0, none⟩) 2 2)) (W3.alloc (.cells #[.int .i64 B, .int .i64 (-1), .int .i64 ((j : Int) + 1), .int .i64 (-1)] 92))) := hide (by
    rw [show waysP m ⟨19, A, B, C, D⟩ (j : Int) = [(B, -1), (((j : Int) + 1), -1)] by rfl]
    exact ⟨_, rfl, isw_new W3 [(B, -1), (((j : Int) + 1), -1)] (by simp), (unhide gW).more _⟩)
  clear hi hj ha hcs gW2 hlt
  unfold agM agF
  replace hW2 := hide hW2
  replace hW3 := hide hW3
  replace hs2 := hide hs2
  go_enter Try.func48, Try.ntmps48
  go_upto_region 1 with fail
  rw [← unhide hW2]
  clear hW2
  go_upto_region 2 with fail
  rw [← unhide hW3, unhide hs2]
  clear hW3 hs2 x0 x1 x2 x3 x4 y5
  go_wp2_with fail
  refine bodyPost_ret (by simp [results, Try.results48, go_sem]; try rfl) rfl ?_
  exact unhide K
set_option maxHeartbeats 2000000 in
theorem rways_22 (w : World) (m : Md) (so : Option Addr) (sc : Nat) (go : Option Addr) (gc : Nat) (co : Option Addr) (cc : Nat) (ao : Option Addr) (ac : Nat) (fo : Option Addr) (fc : Nat) (f : Fn) (ko : Option Addr) (kc : Nat) (io : Option Addr) (ic : Nat) (mo : Option Addr) (mc : Nat) (hi : RowAt elIn w io f.is.length ic f.is) (j : Nat) (A B C D : Int) (hj : f.is[j]? = some ⟨22, A, B, C, D⟩) :
    Calls Try.prog 48 #[agM m so sc go gc co cc ao ac fo fc, agF f ko kc io ic mo mc, .int .i64 (j : Int)] w (WTo w (waysP m ⟨22, A, B, C, D⟩ (j : Int))) := by
  have hlt := (List.getElem?_eq_some_iff.1 hj).1
  obtain ⟨b, off, i', cs, rfl, ha, ecs, hcs⟩ := row_get hi hlt
  obtain rfl : ⟨22, A, B, C, D⟩ = i' := Option.some.inj (hj.symm.trans ha)
  have ecs : cs = [.int .i64 22, .int .i64 A, .int .i64 B, .int .i64 C, .int .i64 D] := ecs
  subst ecs
  have hmx : f.is.length ≤ maxLen := hi.2.1
  unfold maxLen at hmx
  have hji : (j : Int) < (f.is.length : Int) := by omega
  have hjw : wrap64 ((j : Int) + 1) = (j : Int) + 1 := by unfold wrap64; omega
  obtain ⟨W2, hW2⟩ : ∃ W2, W2 = ((w.alloc (.cells #[.slice so m.sh.length sc, .slice go m.gl.length gc, .slice co m.co.length cc, .slice ao m.ca.length ac, .slice fo m.fn.length fc, .int .i64 m.main] 48)).alloc (.cells #[.int .i64 f.p, .int .i64 f.c, .int .i64 f.s, .int .i64 f.r, .slice ko f.ks.length kc, .slice (some ⟨b, off, none⟩) f.is.length ic, .slice mo f.ms.length mc] 52)) := ⟨_, rfl⟩
  have gW2 : G w W2 := by rw [hW2]; exact (G.alloc _ _).more _
  have x0 : W2.cell? ⟨b, off + j * 5, none⟩ = some (.int .i64 22) := hcs W2 gW2 0 _ rfl
  have x1 : W2.cell? ⟨b, off + j * 5 + 1, none⟩ = some (.int .i64 A) := hcs W2 gW2 1 _ rfl
  have x2 : W2.cell? ⟨b, off + j * 5 + 2, none⟩ = some (.int .i64 B) := hcs W2 gW2 2 _ rfl
  have x3 : W2.cell? ⟨b, off + j * 5 + 3, none⟩ = some (.int .i64 C) := hcs W2 gW2 3 _ rfl
  have x4 : W2.cell? ⟨b, off + j * 5 + 4, none⟩ = some (.int .i64 D) := hcs W2 gW2 4 _ rfl
  have y5 : W2.cell? ⟨w.heap.size + 1, 5, none⟩ = some (.slice (some ⟨b, off, none⟩) f.is.length ic) := by rw [hW2]; simp [go_sem]
  obtain ⟨W3, hW3⟩ : ∃ W3, W3 = W2.alloc (.cells #[.int .i64 22, .int .i64 A, .int .i64 B, .int .i64 C, .int .i64 D] 54) := ⟨_, rfl⟩
  have hs2 : W2.heap.size = w.heap.size + 1 + 1 := by rw [hW2, World.size_alloc, World.size_alloc]
  have gW : Hid (G w W3) := hide (by rw [hW3]; exact gW2.more _)
  have m0 : W3.cell? ⟨w.heap.size, 0, none⟩ = some (.slice so m.sh.length sc) := by rw [hW3, hW2]; simp [go_sem]
  have m1 : W3.cell? ⟨w.heap.size, 1, none⟩ = some (.slice go m.gl.length gc) := by rw [hW3, hW2]; simp [go_sem]
  have m2 : W3.cell? ⟨w.heap.size, 2, none⟩ = some (.slice co m.co.length cc) := by rw [hW3, hW2]; simp [go_sem]
  have m3 : W3.cell? ⟨w.heap.size, 3, none⟩ = some (.slice ao m.ca.length ac) := by rw [hW3, hW2]; simp [go_sem]
  have m4 : W3.cell? ⟨w.heap.size, 4, none⟩ = some (.slice fo m.fn.length fc) := by rw [hW3, hW2]; simp [go_sem]
  have m5 : W3.cell? ⟨w.heap.size, 5, none⟩ = some (.int .i64 m.main) := by rw [hW3, hW2]; simp [go_sem]
  have i0 : W3.cell? ⟨w.heap.size + 1 + 1, 0, none⟩ = some (.int .i64 22) := by rw [hW3, ← hs2]; simp [go_sem]
  have i1 : W3.cell? ⟨w.heap.size + 1 + 1, 1, none⟩ = some (.int .i64 A) := by rw [hW3, ← hs2]; simp [go_sem]
  have i2 : W3.cell? ⟨w.heap.size + 1 + 1, 2, none⟩ = some (.int .i64 B) := by rw [hW3, ← hs2]; simp [go_sem]
  have i3 : W3.cell? ⟨w.heap.size + 1 + 1, 3, none⟩ = some (.int .i64 C) := by rw [hW3, ← hs2]; simp [go_sem]
  have i4 : W3.cell? ⟨w.heap.size + 1 + 1, 4, none⟩ = some (.int .i64 D) := by rw [hW3, ← hs2]; simp [go_sem]
  have K : Hid (WTo w (waysP m ⟨22, A, B, C, D⟩ (j : Int)) (.returned (.slice none 0 0)) W3) := hide (by
    rw [show waysP m ⟨22, A, B, C, D⟩ (j : Int) = [] from rfl]
    exact ⟨_, rfl, isw_nil W3, unhide gW⟩)
  clear hi hj ha hcs gW2 hlt
  unfold agM agF
  replace hW2 := hide hW2
  replace hW3 := hide hW3
  replace hs2 := hide hs2
  go_enter Try.func48, Try.ntmps48
  go_upto_region 1 with fail
  rw [← unhide hW2]
  clear hW2
  go_upto_region 2 with fail
  rw [← unhide hW3, unhide hs2]
  clear hW3 hs2 x0 x1 x2 x3 x4 y5
  go_wp2_with fail
  refine bodyPost_ret (by simp [results, Try.results48, go_sem]; try rfl) rfl ?_
  exact unhide K
set_option maxHeartbeats 2000000 in
theorem rways_44 (w : World) (m : Md) (so : Option Addr) (sc : Nat) (go : Option Addr) (gc : Nat) (co : Option Addr) (cc : Nat) (ao : Option Addr) (ac : Nat) (fo : Option Addr) (fc : Nat) (f : Fn) (ko : Option Addr) (kc : Nat) (io : Option Addr) (ic : Nat) (mo : Option Addr) (mc : Nat) (hi : RowAt elIn w io f.is.length ic f.is) (j : Nat) (A B C D : Int) (hj : f.is[j]? = some ⟨44, A, B, C, D⟩) :
    Calls Try.prog 48 #[agM m so sc go gc co cc ao ac fo fc, agF f ko kc io ic mo mc, .int .i64 (j : Int)] w (WTo w (waysP m ⟨44, A, B, C, D⟩ (j : Int))) := by
  have hlt := (List.getElem?_eq_some_iff.1 hj).1
  obtain ⟨b, off, i', cs, rfl, ha, ecs, hcs⟩ := row_get hi hlt
  obtain rfl : ⟨44, A, B, C, D⟩ = i' := Option.some.inj (hj.symm.trans ha)
  have ecs : cs = [.int .i64 44, .int .i64 A, .int .i64 B, .int .i64 C, .int .i64 D] := ecs
  subst ecs
  have hmx : f.is.length ≤ maxLen := hi.2.1
  unfold maxLen at hmx
  have hji : (j : Int) < (f.is.length : Int) := by omega
  have hjw : wrap64 ((j : Int) + 1) = (j : Int) + 1 := by unfold wrap64; omega
  obtain ⟨W2, hW2⟩ : ∃ W2, W2 = ((w.alloc (.cells #[.slice so m.sh.length sc, .slice go m.gl.length gc, .slice co m.co.length cc, .slice ao m.ca.length ac, .slice fo m.fn.length fc, .int .i64 m.main] 48)).alloc (.cells #[.int .i64 f.p, .int .i64 f.c, .int .i64 f.s, .int .i64 f.r, .slice ko f.ks.length kc, .slice (some ⟨b, off, none⟩) f.is.length ic, .slice mo f.ms.length mc] 52)) := ⟨_, rfl⟩
  have gW2 : G w W2 := by rw [hW2]; exact (G.alloc _ _).more _
  have x0 : W2.cell? ⟨b, off + j * 5, none⟩ = some (.int .i64 44) := hcs W2 gW2 0 _ rfl
  have x1 : W2.cell? ⟨b, off + j * 5 + 1, none⟩ = some (.int .i64 A) := hcs W2 gW2 1 _ rfl
  have x2 : W2.cell? ⟨b, off + j * 5 + 2, none⟩ = some (.int .i64 B) := hcs W2 gW2 2 _ rfl
  have x3 : W2.cell? ⟨b, off + j * 5 + 3, none⟩ = some (.int .i64 C) := hcs W2 gW2 3 _ rfl
  have x4 : W2.cell? ⟨b, off + j * 5 + 4, none⟩ = some (.int .i64 D) := hcs W2 gW2 4 _ rfl
  have y5 : W2.cell? ⟨w.heap.size + 1, 5, none⟩ = some (.slice (some ⟨b, off, none⟩) f.is.length ic) := by rw [hW2]; simp [go_sem]
  obtain ⟨W3, hW3⟩ : ∃ W3, W3 = W2.alloc (.cells #[.int .i64 44, .int .i64 A, .int .i64 B, .int .i64 C, .int .i64 D] 54) := ⟨_, rfl⟩
  have hs2 : W2.heap.size = w.heap.size + 1 + 1 := by rw [hW2, World.size_alloc, World.size_alloc]
  have gW : Hid (G w W3) := hide (by rw [hW3]; exact gW2.more _)
  have m0 : W3.cell? ⟨w.heap.size, 0, none⟩ = some (.slice so m.sh.length sc) := by rw [hW3, hW2]; simp [go_sem]
  have m1 : W3.cell? ⟨w.heap.size, 1, none⟩ = some (.slice go m.gl.length gc) := by rw [hW3, hW2]; simp [go_sem]
  have m2 : W3.cell? ⟨w.heap.size, 2, none⟩ = some (.slice co m.co.length cc) := by rw [hW3, hW2]; simp [go_sem]
  have m3 : W3.cell? ⟨w.heap.size, 3, none⟩ = some (.slice ao m.ca.length ac) := by rw [hW3, hW2]; simp [go_sem]
  have m4 : W3.cell? ⟨w.heap.size, 4, none⟩ = some (.slice fo m.fn.length fc) := by rw [hW3, hW2]; simp [go_sem]
  have m5 : W3.cell? ⟨w.heap.size, 5, none⟩ = some (.int .i64 m.main) := by rw [hW3, hW2]; simp [go_sem]
  have i0 : W3.cell? ⟨w.heap.size + 1 + 1, 0, none⟩ = some (.int .i64 44) := by rw [hW3, ← hs2]; simp [go_sem]
  have i1 : W3.cell? ⟨w.heap.size + 1 + 1, 1, none⟩ = some (.int .i64 A) := by rw [hW3, ← hs2]; simp [go_sem]
  have i2 : W3.cell? ⟨w.heap.size + 1 + 1, 2, none⟩ = some (.int .i64 B) := by rw [hW3, ← hs2]; simp [go_sem]
  have i3 : W3.cell? ⟨w.heap.size + 1 + 1, 3, none⟩ = some (.int .i64 C) := by rw [hW3, ← hs2]; simp [go_sem]
  have i4 : W3.cell? ⟨w.heap.size + 1 + 1, 4, none⟩ = some (.int .i64 D) := by rw [hW3, ← hs2]; simp [go_sem]
  have K : Hid (WTo w (waysP m ⟨44, A, B, C, D⟩ (j : Int)) (.returned (.slice none 0 0)) W3) := hide (by
    rw [show waysP m ⟨44, A, B, C, D⟩ (j : Int) = [] from rfl]
    exact ⟨_, rfl, isw_nil W3, unhide gW⟩)
  clear hi hj ha hcs gW2 hlt
  unfold agM agF
  replace hW2 := hide hW2
  replace hW3 := hide hW3
  replace hs2 := hide hs2
  go_enter Try.func48, Try.ntmps48
  go_upto_region 1 with fail
  rw [← unhide hW2]
  clear hW2
  go_upto_region 2 with fail
  rw [← unhide hW3, unhide hs2]
  clear hW3 hs2 x0 x1 x2 x3 x4 y5
  go_wp2_with fail
  refine bodyPost_ret (by simp [results, Try.results48, go_sem]; try rfl) rfl ?_
  exact unhide K
set_option maxHeartbeats 2000000 in
theorem rways_else (w : World) (m : Md) (so : Option Addr) (sc : Nat) (go : Option Addr) (gc : Nat) (co : Option Addr) (cc : Nat) (ao : Option Addr) (ac : Nat) (fo : Option Addr) (fc : Nat) (f : Fn) (ko : Option Addr) (kc : Nat) (io : Option Addr) (ic : Nat) (mo : Option Addr) (mc : Nat) (hi : RowAt elIn w io f.is.length ic f.is) (j : Nat) (op A B C D : Int) (hj : f.is[j]? = some ⟨op, A, B, C, D⟩) (h18 : op ≠ 18) (h19 : op ≠ 19) (h22 : op ≠ 22) (h44 : op ≠ 44) (h41 : op ≠ 41) :
    Calls Try.prog 48 #[agM m so sc go gc co cc ao ac fo fc, agF f ko kc io ic mo mc, .int .i64 (j : Int)] w (WTo w (waysP m ⟨op, A, B, C, D⟩ (j : Int))) := by
  have hlt := (List.getElem?_eq_some_iff.1 hj).1
  obtain ⟨b, off, i', cs, rfl, ha, ecs, hcs⟩ := row_get hi hlt
  obtain rfl : ⟨op, A, B, C, D⟩ = i' := Option.some.inj (hj.symm.trans ha)
  have ecs : cs = [.int .i64 op, .int .i64 A, .int .i64 B, .int .i64 C, .int .i64 D] := ecs
  subst ecs
  have hmx : f.is.length ≤ maxLen := hi.2.1
  unfold maxLen at hmx
  have hji : (j : Int) < (f.is.length : Int) := by omega
  have hjw : wrap64 ((j : Int) + 1) = (j : Int) + 1 := by unfold wrap64; omega
  obtain ⟨W2, hW2⟩ : ∃ W2, W2 = ((w.alloc (.cells #[.slice so m.sh.length sc, .slice go m.gl.length gc, .slice co m.co.length cc, .slice ao m.ca.length ac, .slice fo m.fn.length fc, .int .i64 m.main] 48)).alloc (.cells #[.int .i64 f.p, .int .i64 f.c, .int .i64 f.s, .int .i64 f.r, .slice ko f.ks.length kc, .slice (some ⟨b, off, none⟩) f.is.length ic, .slice mo f.ms.length mc] 52)) := ⟨_, rfl⟩
  have gW2 : G w W2 := by rw [hW2]; exact (G.alloc _ _).more _
  have x0 : W2.cell? ⟨b, off + j * 5, none⟩ = some (.int .i64 op) := hcs W2 gW2 0 _ rfl
  have x1 : W2.cell? ⟨b, off + j * 5 + 1, none⟩ = some (.int .i64 A) := hcs W2 gW2 1 _ rfl
  have x2 : W2.cell? ⟨b, off + j * 5 + 2, none⟩ = some (.int .i64 B) := hcs W2 gW2 2 _ rfl
  have x3 : W2.cell? ⟨b, off + j * 5 + 3, none⟩ = some (.int .i64 C) := hcs W2 gW2 3 _ rfl
  have x4 : W2.cell? ⟨b, off + j * 5 + 4, none⟩ = some (.int .i64 D) := hcs W2 gW2 4 _ rfl
  have y5 : W2.cell? ⟨w.heap.size + 1, 5, none⟩ = some (.slice (some ⟨b, off, none⟩) f.is.length ic) := by rw [hW2]; simp [go_sem]
  obtain ⟨W3, hW3⟩ : ∃ W3, W3 = W2.alloc (.cells #[.int .i64 op, .int .i64 A, .int .i64 B, .int .i64 C, .int .i64 D] 54) := ⟨_, rfl⟩
  have hs2 : W2.heap.size = w.heap.size + 1 + 1 := by rw [hW2, World.size_alloc, World.size_alloc]
  have gW : Hid (G w W3) := hide (by rw [hW3]; exact gW2.more _)
  have m0 : W3.cell? ⟨w.heap.size, 0, none⟩ = some (.slice so m.sh.length sc) := by rw [hW3, hW2]; simp [go_sem]
  have m1 : W3.cell? ⟨w.heap.size, 1, none⟩ = some (.slice go m.gl.length gc) := by rw [hW3, hW2]; simp [go_sem]
  have m2 : W3.cell? ⟨w.heap.size, 2, none⟩ = some (.slice co m.co.length cc) := by rw [hW3, hW2]; simp [go_sem]
  have m3 : W3.cell? ⟨w.heap.size, 3, none⟩ = some (.slice ao m.ca.length ac) := by rw [hW3, hW2]; simp [go_sem]
  have m4 : W3.cell? ⟨w.heap.size, 4, none⟩ = some (.slice fo m.fn.length fc) := by rw [hW3, hW2]; simp [go_sem]
  have m5 : W3.cell? ⟨w.heap.size, 5, none⟩ = some (.int .i64 m.main) := by rw [hW3, hW2]; simp [go_sem]
  have i0 : W3.cell? ⟨w.heap.size + 1 + 1, 0, none⟩ = some (.int .i64 op) := by rw [hW3, ← hs2]; simp [go_sem]
  have i1 : W3.cell? ⟨w.heap.size + 1 + 1, 1, none⟩ = some (.int .i64 A) := by rw [hW3, ← hs2]; simp [go_sem]
  have i2 : W3.cell? ⟨w.heap.size + 1 + 1, 2, none⟩ = some (.int .i64 B) := by rw [hW3, ← hs2]; simp [go_sem]
  have i3 : W3.cell? ⟨w.heap.size + 1 + 1, 3, none⟩ = some (.int .i64 C) := by rw [hW3, ← hs2]; simp [go_sem]
  have i4 : W3.cell? ⟨w.heap.size + 1 + 1, 4, none⟩ = some (.int .i64 D) := by rw [hW3, ← hs2]; simp [go_sem]
  have K : Hid (WTo w (waysP m ⟨op, A, B, C, D⟩ (j : Int)) (.returned (.slice (some ⟨W3.heap.size, 0, none⟩) 1 1)) (W3.alloc (.cells #[.int .i64 ((j : Int) + 1), .int .i64 (-1)] 92))) := hide (by
    rw [show waysP m ⟨op, A, B, C, D⟩ (j : Int) = [(((j : Int) + 1), -1)] by unfold waysP; simp [h18, h19, h22, h44, h41]]
    exact ⟨_, rfl, isw_new W3 [(((j : Int) + 1), -1)] (by simp), (unhide gW).more _⟩)
  have q18 : (op == 18) = false := beq_eq_false_iff_ne.2 h18
  have q19 : (op == 19) = false := beq_eq_false_iff_ne.2 h19
  have q22 : (op == 22) = false := beq_eq_false_iff_ne.2 h22
  have q44 : (op == 44) = false := beq_eq_false_iff_ne.2 h44
  have q41 : (op == 41) = false := beq_eq_false_iff_ne.2 h41
  clear h18 h19 h22 h44 h41
  clear hi hj ha hcs gW2 hlt
  unfold agM agF
  replace hW2 := hide hW2
  replace hW3 := hide hW3
  replace hs2 := hide hs2
  go_enter Try.func48, Try.ntmps48
  go_upto_region 1 with fail
  rw [← unhide hW2]
  clear hW2
  go_upto_region 2 with fail
  rw [← unhide hW3, unhide hs2]
  clear hW3 hs2 x0 x1 x2 x3 x4 y5
  go_wp2_with fail
  refine bodyPost_ret (by simp [results, Try.results48, go_sem]; try rfl) rfl ?_
  exact unhide K
set_option maxHeartbeats 2000000 in
theorem rways_41 (w : World) (m : Md) (so : Option Addr) (sc : Nat) (go : Option Addr) (gc : Nat) (co : Option Addr) (cc : Nat) (ao : Option Addr) (ac : Nat) (fo : Option Addr) (fc : Nat) (h : ModR w m so sc go gc co cc ao ac fo fc) (f : Fn) (ko : Option Addr) (kc : Nat) (io : Option Addr) (ic : Nat) (mo : Option Addr) (mc : Nat) (hi : RowAt elIn w io f.is.length ic f.is) (j : Nat) (A B C D : Int) (hj : f.is[j]? = some ⟨41, A, B, C, D⟩) (oA : oI A) (oB : oI B) (hn : m.ca.length < 1000000) :
    Calls Try.prog 48 #[agM m so sc go gc co cc ao ac fo fc, agF f ko kc io ic mo mc, .int .i64 (j : Int)] w (WTo w (waysP m ⟨41, A, B, C, D⟩ (j : Int))) := by
  have hlt := (List.getElem?_eq_some_iff.1 hj).1
  obtain ⟨b, off, i', cs, rfl, ha, ecs, hcs⟩ := row_get hi hlt
  obtain rfl : ⟨41, A, B, C, D⟩ = i' := Option.some.inj (hj.symm.trans ha)
  have ecs : cs = [.int .i64 41, .int .i64 A, .int .i64 B, .int .i64 C, .int .i64 D] := ecs
  subst ecs
  have hmx : f.is.length ≤ maxLen := hi.2.1
  unfold maxLen at hmx
  have hji : (j : Int) < (f.is.length : Int) := by omega
  have hjw : wrap64 ((j : Int) + 1) = (j : Int) + 1 := by unfold wrap64; omega
  obtain ⟨W2, hW2⟩ : ∃ W2, W2 = ((w.alloc (.cells #[.slice so m.sh.length sc, .slice go m.gl.length gc, .slice co m.co.length cc, .slice ao m.ca.length ac, .slice fo m.fn.length fc, .int .i64 m.main] 48)).alloc (.cells #[.int .i64 f.p, .int .i64 f.c, .int .i64 f.s, .int .i64 f.r, .slice ko f.ks.length kc, .slice (some ⟨b, off, none⟩) f.is.length ic, .slice mo f.ms.length mc] 52)) := ⟨_, rfl⟩
  have gW2 : G w W2 := by rw [hW2]; exact (G.alloc _ _).more _
  have x0 : W2.cell? ⟨b, off + j * 5, none⟩ = some (.int .i64 41) := hcs W2 gW2 0 _ rfl
  have x1 : W2.cell? ⟨b, off + j * 5 + 1, none⟩ = some (.int .i64 A) := hcs W2 gW2 1 _ rfl
  have x2 : W2.cell? ⟨b, off + j * 5 + 2, none⟩ = some (.int .i64 B) := hcs W2 gW2 2 _ rfl
  have x3 : W2.cell? ⟨b, off + j * 5 + 3, none⟩ = some (.int .i64 C) := hcs W2 gW2 3 _ rfl
  have x4 : W2.cell? ⟨b, off + j * 5 + 4, none⟩ = some (.int .i64 D) := hcs W2 gW2 4 _ rfl
  have y5 : W2.cell? ⟨w.heap.size + 1, 5, none⟩ = some (.slice (some ⟨b, off, none⟩) f.is.length ic) := by rw [hW2]; simp [go_sem]
  obtain ⟨W3, hW3⟩ : ∃ W3, W3 = W2.alloc (.cells #[.int .i64 41, .int .i64 A, .int .i64 B, .int .i64 C, .int .i64 D] 54) := ⟨_, rfl⟩
  have hs2 : W2.heap.size = w.heap.size + 1 + 1 := by rw [hW2, World.size_alloc, World.size_alloc]
  have gW : Hid (G w W3) := hide (by rw [hW3]; exact gW2.more _)
  have m0 : W3.cell? ⟨w.heap.size, 0, none⟩ = some (.slice so m.sh.length sc) := by rw [hW3, hW2]; simp [go_sem]
  have m1 : W3.cell? ⟨w.heap.size, 1, none⟩ = some (.slice go m.gl.length gc) := by rw [hW3, hW2]; simp [go_sem]
  have m2 : W3.cell? ⟨w.heap.size, 2, none⟩ = some (.slice co m.co.length cc) := by rw [hW3, hW2]; simp [go_sem]
  have m3 : W3.cell? ⟨w.heap.size, 3, none⟩ = some (.slice ao m.ca.length ac) := by rw [hW3, hW2]; simp [go_sem]
  have m4 : W3.cell? ⟨w.heap.size, 4, none⟩ = some (.slice fo m.fn.length fc) := by rw [hW3, hW2]; simp [go_sem]
  have m5 : W3.cell? ⟨w.heap.size, 5, none⟩ = some (.int .i64 m.main) := by rw [hW3, hW2]; simp [go_sem]
  have i0 : W3.cell? ⟨w.heap.size + 1 + 1, 0, none⟩ = some (.int .i64 41) := by rw [hW3, ← hs2]; simp [go_sem]
  have i1 : W3.cell? ⟨w.heap.size + 1 + 1, 1, none⟩ = some (.int .i64 A) := by rw [hW3, ← hs2]; simp [go_sem]
  have i2 : W3.cell? ⟨w.heap.size + 1 + 1, 2, none⟩ = some (.int .i64 B) := by rw [hW3, ← hs2]; simp [go_sem]
  have i3 : W3.cell? ⟨w.heap.size + 1 + 1, 3, none⟩ = some (.int .i64 C) := by rw [hW3, ← hs2]; simp [go_sem]
  have i4 : W3.cell? ⟨w.heap.size + 1 + 1, 4, none⟩ = some (.int .i64 D) := by rw [hW3, ← hs2]; simp [go_sem]
  have CO := hide (rcases_any W3 m so sc go gc co cc ao ac fo fc (h.g (unhide gW)) ⟨41, A, B, C, D⟩ oA oB)
  unfold agM agI at CO
  have HL : Hid ((casesP m A B).length < 1000000) := hide (by unfold casesP; split; simp; rw [List.length_take, List.length_drop]; omega)
  have FT : Hid (waysP m ⟨41, A, B, C, D⟩ (j : Int) = (casesP m A B).map wyOf) := hide (by rfl)
  clear h hn oA oB
  clear hi hj ha hcs gW2 hlt
  unfold agM agF
  replace hW2 := hide hW2
  replace hW3 := hide hW3
  replace hs2 := hide hs2
  go_enter Try.func48, Try.ntmps48
  go_upto_region 1 with fail
  rw [← unhide hW2]
  clear hW2
  go_upto_region 2 with fail
  rw [← unhide hW3, unhide hs2]
  clear hW3 hs2 x0 x1 x2 x3 x4 y5
  go_wp2_with fail
  refine (unhide CO).mono ?_
  rintro e x1 ⟨qo, qc, q, rfl, hr, hg1⟩
  have hlb := unhide HL
  have STEP := hide (way_step hr hlb)
  have ST : Hid (OwnW x1 x1.heap.size (.slice none 0 0) (((casesP m A B).take 0).map wyOf) ∧ G x1 x1) := hide ⟨ownw_nil _ _, G.refl x1⟩
  have FIN : Hid (∀ wr vb, (OwnW wr x1.heap.size vb (((casesP m A B).take (casesP m A B).length).map wyOf) ∧ G x1 wr) → WTo w (waysP m ⟨41, A, B, C, D⟩ (j : Int)) (.returned vb) wr) := hide fun wr vb HW => by
    rw [List.take_of_length_le (Nat.le_refl _)] at HW
    rw [unhide FT]
    exact ⟨vb, rfl, HW.1.isw, ((unhide gW).trans hg1).trans HW.2⟩
  obtain ⟨l, hl⟩ : ∃ l, l = casesP m A B := ⟨_, rfl⟩
  rw [← hl] at STEP ST FIN hlb ⊢
  obtain ⟨n, hln⟩ : ∃ n, n = l.length := ⟨_, rfl⟩
  rw [← hln] at STEP FIN hlb ⊢
  clear CO hr hg1 hl hln FT HL gW m0 m1 m2 m3 m4 m5 i0 i1 i2 i3 i4
  go_wp2_with fail
  go_loopw [8, 11, 12] (fun b i _ wr => ∃ k : Nat, k ≤ n ∧ i = .int .i64 k ∧ Hid (OwnW wr x1.heap.size b ((l.take k).map wyOf) ∧ G x1 wr)) (fun _ i _ _ => n - (intOf i).toNat)
  case atStart => exact ⟨0, Nat.zero_le _, rfl, ST⟩
  case round =>
    obtain ⟨k, hk, rfl, HW⟩ := hrel
    clear ST
    by_cases hlt : k < n
    · have hki : (k : Int) < (n : Int) := by omega
      have hw : wrap64 ((k : Int) + 1) = (k : Int) + 1 := by unfold wrap64; omega
      obtain ⟨b, off, s, rfl, c0, c2, c3, AP⟩ := unhide STEP k wr _ hlt (unhide HW)
      clear STEP FIN HW
      by_cases h0 : s.k = 0
      · rw [if_pos h0] at AP
        replace AP := hide AP
        rw [h0] at c0
        go_wp2_with (at_builtin; obtain ⟨v1, y1, hrun, HG⟩ := unhide AP; replace HG := hide HG; refine wpl_run rfl (.tmp 63) (.tmp 71) 89 rfl _ _ rfl rfl _ _ hrun ?_; clear hrun AP)
        go_roundw
        case rel => exact ⟨k + 1, hlt, by go_num, HG⟩
        case measure => exact dec_ltW n k hlt
      · rw [if_neg h0] at AP
        replace AP := hide AP
        have b0 : (s.k == 0) = false := beq_eq_false_iff_ne.2 h0
        go_wp2_with (at_builtin; obtain ⟨v1, y1, hrun, HG⟩ := unhide AP; replace HG := hide HG; refine wpl_run rfl (.tmp 63) (.tmp 71) 89 rfl _ _ rfl rfl _ _ hrun ?_; clear hrun AP)
        go_roundw
        case rel => exact ⟨k + 1, hlt, by go_num, HG⟩
        case measure => exact dec_ltW n k hlt
    · obtain rfl : k = n := by omega
      have K := hide (unhide FIN wr _ (unhide HW))
      clear HW FIN STEP
      go_wp2_with fail
      refine bodyPost_ret (by simp [results, Try.results48, go_sem]; try rfl) rfl ?_
      exact unhide K
theorem rways_any (w : World) (m : Md) (so : Option Addr) (sc : Nat) (go : Option Addr) (gc : Nat) (co : Option Addr) (cc : Nat) (ao : Option Addr) (ac : Nat) (fo : Option Addr) (fc : Nat) (h : ModR w m so sc go gc co cc ao ac fo fc) (f : Fn) (ko : Option Addr) (kc : Nat) (io : Option Addr) (ic : Nat) (mo : Option Addr) (mc : Nat) (hi : RowAt elIn w io f.is.length ic f.is) (hf : ∀ i ∈ f.is, oIn i) (hn : m.ca.length < 1000000) (j : Nat) (i : In) (hj : f.is[j]? = some i) :
    Calls Try.prog 48 #[agM m so sc go gc co cc ao ac fo fc, agF f ko kc io ic mo mc, .int .i64 (j : Int)] w (WTo w (waysP m i (j : Int))) := by
  have oi := hf i (List.mem_of_getElem? hj)
  obtain ⟨op, A, B, C, D⟩ := i
  by_cases h18 : op = 18
  · subst h18; exact rways_18 w m so sc go gc co cc ao ac fo fc f ko kc io ic mo mc hi j A B C D hj
  by_cases h19 : op = 19
  · subst h19; exact rways_19 w m so sc go gc co cc ao ac fo fc f ko kc io ic mo mc hi j A B C D hj
  by_cases h22 : op = 22
  · subst h22; exact rways_22 w m so sc go gc co cc ao ac fo fc f ko kc io ic mo mc hi j A B C D hj
  by_cases h44 : op = 44
  · subst h44; exact rways_44 w m so sc go gc co cc ao ac fo fc f ko kc io ic mo mc hi j A B C D hj
  by_cases h41 : op = 41
  · subst h41; exact rways_41 w m so sc go gc co cc ao ac fo fc h f ko kc io ic mo mc hi j A B C D hj oi.2.1 oi.2.2.1 hn
  exact rways_else w m so sc go gc co cc ao ac fo fc f ko kc io ic mo mc hi j op A B C D hj h18 h19 h22 h44 h41
theorem waysP_len (m : Md) (i : In) (pc : Int) (hn : m.ca.length < 1000000) : (waysP m i pc).length < 1000000 := by
  unfold waysP
  have HL : (casesP m i.a i.b).length < 1000000 := by unfold casesP; split; simp; rw [List.length_take, List.length_drop]; omega
  repeat' split
  all_goals simp
  all_goals exact HL
theorem own_drew {x1 wr : World} {v : Value} {l : List Wy} (h : OwnW wr x1.heap.size v l ∧ G x1 wr) (q : Nat) : OwnW (wr.drewN q) x1.heap.size v l ∧ G x1 (wr.drewN q) :=
  ⟨own_kept h.1 (fun b _ hb => (G.drewN wr q).block b hb), h.2.trans (G.drewN wr q)⟩
/-- A round of the walk over ways. -/
theorem there_step {x1 : World} {v : Value} {l : List Wy} (hr : IsW x1 v l) (hn : l.length < 1000000) : ∃ (qo : Option Addr) (qc : Nat), v = .slice qo l.length qc ∧ ∀ (N : Nat) (k : Nat), k < l.length →
    ∃ (b off : Nat) (a s : Int), qo = some ⟨b, off, none⟩ ∧ (∀ y, G x1 y → y.cell? ⟨b, off + k * 2, none⟩ = some (.int .i64 a) ∧ y.cell? ⟨b, off + k * 2 + 1, none⟩ = some (.int .i64 s)) ∧ ∀ (wr : World) (vb : Value), (OwnW wr x1.heap.size vb (thereP N (l.take k)) ∧ G x1 wr) →
      (¬ (0 ≤ a ∧ a < (N : Int)) → OwnW wr x1.heap.size vb (thereP N (l.take (k + 1))) ∧ G x1 wr) ∧
      ((0 ≤ a ∧ a < (N : Int)) → ∃ v' y', (Builtin.append_ #[89, 89] 89 #[vb, .slice (some ⟨wr.heap.size, 0, none⟩) 1 1]).run Try.prog (wr.alloc (.cells #[.int .i64 a, .int .i64 s] 92)) = .ok v' y' ∧ OwnW y' x1.heap.size v' (thereP N (l.take (k + 1))) ∧ G x1 y') := by
  obtain ⟨qo, qc, e, hg⟩ := hr.get
  refine ⟨qo, qc, e, fun N k hk => ?_⟩
  obtain ⟨b, off, s, e2, ha, hcs⟩ := hg k hk
  have ht : thereP N (l.take (k + 1)) = thereP N (l.take k) ++ (if inC N s.1 then [s] else []) := by
    unfold thereP
    rw [List.take_add_one, ha, List.filter_append]
    congr 1
    by_cases hc : inC N s.1 = true
    · simp [hc]
    · simp [hc]
  have hlen : (thereP N (l.take k)).length < 1000000 := by
    have h1 : (thereP N (l.take k)).length ≤ (l.take k).length := List.length_filter_le _ _
    rw [List.length_take] at h1
    omega
  refine ⟨b, off, s.1, s.2, e2, hcs, fun wr vb H => ⟨fun hc => ?_, fun hc => ?_⟩⟩
  · rw [ht, if_neg (by unfold inC; simp; omega), List.append_nil]
    exact H
  · obtain ⟨v', y', r1, r2, r3⟩ := way_app s.1 s.2 H.1 hlen H.2
    refine ⟨v', y', r1, ?_, r3⟩
    rw [ht, if_pos (by unfold inC; simp; omega)]
    exact r2
set_option maxHeartbeats 2000000 in
theorem rthere_any (w : World) (m : Md) (so : Option Addr) (sc : Nat) (go : Option Addr) (gc : Nat) (co : Option Addr) (cc : Nat) (ao : Option Addr) (ac : Nat) (fo : Option Addr) (fc : Nat) (h : ModR w m so sc go gc co cc ao ac fo fc) (f : Fn) (ko : Option Addr) (kc : Nat) (io : Option Addr) (ic : Nat) (mo : Option Addr) (mc : Nat) (hi : RowAt elIn w io f.is.length ic f.is) (hf : ∀ i ∈ f.is, oIn i) (hn : m.ca.length < 1000000) (j : Nat) (i : In) (hj : f.is[j]? = some i) :
    Calls Try.prog 38 #[agM m so sc go gc co cc ao ac fo fc, agF f ko kc io ic mo mc, .int .i64 (j : Int)] w (WTo w (thereP f.is.length (waysP m i (j : Int)))) := by
  obtain ⟨W2, hW2⟩ : ∃ W2, W2 = ((w.alloc (.cells #[.slice so m.sh.length sc, .slice go m.gl.length gc, .slice co m.co.length cc, .slice ao m.ca.length ac, .slice fo m.fn.length fc, .int .i64 m.main] 48)).alloc (.cells #[.int .i64 f.p, .int .i64 f.c, .int .i64 f.s, .int .i64 f.r, .slice ko f.ks.length kc, .slice io f.is.length ic, .slice mo f.ms.length mc] 52)) := ⟨_, rfl⟩
  have gW : G w W2 := by rw [hW2]; exact (G.alloc _ _).more _
  have CO := hide (rways_any W2 m so sc go gc co cc ao ac fo fc (h.g gW) f ko kc io ic mo mc (hi.g okIn gW) hf hn j i hj)
  unfold agM agF at CO
  have HL : Hid ((waysP m i (j : Int)).length < 1000000) := hide (waysP_len m i (j : Int) hn)
  obtain ⟨WL, hWL⟩ : ∃ WL, WL = waysP m i (j : Int) := ⟨_, rfl⟩
  obtain ⟨N, hN⟩ : ∃ N, N = f.is.length := ⟨_, rfl⟩
  have hNm : N ≤ maxLen := by rw [hN]; exact hi.2.1
  unfold maxLen at hNm
  have GW := hide gW
  have m0 : W2.cell? ⟨w.heap.size, 0, none⟩ = some (.slice so m.sh.length sc) := by rw [hW2]; simp [go_sem]
  have m1 : W2.cell? ⟨w.heap.size, 1, none⟩ = some (.slice go m.gl.length gc) := by rw [hW2]; simp [go_sem]
  have m2 : W2.cell? ⟨w.heap.size, 2, none⟩ = some (.slice co m.co.length cc) := by rw [hW2]; simp [go_sem]
  have m3 : W2.cell? ⟨w.heap.size, 3, none⟩ = some (.slice ao m.ca.length ac) := by rw [hW2]; simp [go_sem]
  have m4 : W2.cell? ⟨w.heap.size, 4, none⟩ = some (.slice fo m.fn.length fc) := by rw [hW2]; simp [go_sem]
  have m5 : W2.cell? ⟨w.heap.size, 5, none⟩ = some (.int .i64 m.main) := by rw [hW2]; simp [go_sem]
  have f0 : W2.cell? ⟨w.heap.size + 1, 0, none⟩ = some (.int .i64 f.p) := by rw [hW2]; simp [go_sem]
  have f1 : W2.cell? ⟨w.heap.size + 1, 1, none⟩ = some (.int .i64 f.c) := by rw [hW2]; simp [go_sem]
  have f2 : W2.cell? ⟨w.heap.size + 1, 2, none⟩ = some (.int .i64 f.s) := by rw [hW2]; simp [go_sem]
  have f3 : W2.cell? ⟨w.heap.size + 1, 3, none⟩ = some (.int .i64 f.r) := by rw [hW2]; simp [go_sem]
  have f4 : W2.cell? ⟨w.heap.size + 1, 4, none⟩ = some (.slice ko f.ks.length kc) := by rw [hW2]; simp [go_sem]
  have f5 : W2.cell? ⟨w.heap.size + 1, 5, none⟩ = some (.slice io f.is.length ic) := by rw [hW2]; simp [go_sem]
  have f6 : W2.cell? ⟨w.heap.size + 1, 6, none⟩ = some (.slice mo f.ms.length mc) := by rw [hW2]; simp [go_sem]
  have FB : Hid (∀ x, G W2 x → x.cell? ⟨w.heap.size + 1, 5, none⟩ = some (.slice io f.is.length ic)) := hide (fun x g => g.cell f5)
  rw [← hWL] at CO HL ⊢
  unfold agM agF
  rw [← hN] at CO FB f5 hW2 ⊢
  clear h gW hn hf hi hj hWL hN
  replace hW2 := hide hW2
  go_enter Try.func38, Try.ntmps38
  go_upto_region 1 with fail
  rw [← unhide hW2]
  clear hW2
  go_wp2_with fail
  refine (unhide CO).mono ?_
  rintro e x1 ⟨wv, rfl, hr, hg1⟩
  obtain ⟨qo, qc, hwv, STEP⟩ := there_step hr (unhide HL)
  have ST : Hid (OwnW x1 x1.heap.size (.slice none 0 0) (thereP N (WL.take 0)) ∧ G x1 x1) := hide ⟨ownw_nil _ _, G.refl x1⟩
  have FIN : Hid (∀ wr vb, (OwnW wr x1.heap.size vb (thereP N (WL.take WL.length)) ∧ G x1 wr) → WTo w (thereP N WL) (.returned vb) wr) := hide fun wr vb HW => by
    rw [List.take_of_length_le (Nat.le_refl _)] at HW
    exact ⟨vb, rfl, HW.1.isw, ((unhide GW).trans hg1).trans HW.2⟩
  have FB2 : Hid (∀ x, G x1 x → x.cell? ⟨w.heap.size + 1, 5, none⟩ = some (.slice io N ic)) := hide (fun x g => unhide FB x (hg1.trans g))
  have hlb := unhide HL
  obtain ⟨n, hln⟩ : ∃ n, n = WL.length := ⟨_, rfl⟩
  rw [← hln] at STEP FIN hlb hwv
  subst hwv
  replace STEP := hide STEP
  clear CO hr hg1 hln HL GW FB m0 m1 m2 m3 m4 m5 f0 f1 f2 f3 f4 f5 f6
  go_wp2_with fail
  go_loopw [7, 9] (fun b i wr => ∃ k : Nat, k ≤ n ∧ i = .int .i64 k ∧ Hid (OwnW wr x1.heap.size b (thereP N (WL.take k)) ∧ G x1 wr)) (fun _ i _ => n - (intOf i).toNat)
  case atStart => exact ⟨0, Nat.zero_le _, rfl, ST⟩
  case round =>
    obtain ⟨k, hk, rfl, HW⟩ := hrel
    clear ST
    by_cases hlt : k < n
    · have hki : (k : Int) < (n : Int) := by omega
      have hw : wrap64 ((k : Int) + 1) = (k : Int) + 1 := by unfold wrap64; omega
      obtain ⟨b, off, a, s, rfl, hc, S⟩ := unhide STEP N k hlt
      obtain ⟨c0, c1⟩ := hc wr (unhide HW).2
      have HQ := fun q => own_drew (unhide HW) q
      have S0 := fun q => (S _ _ (HQ q)).1
      have S1 := fun q => (S _ _ (HQ q)).2
      clear hc S HQ
      have f5 := unhide FB2 wr (unhide HW).2
      clear STEP FIN HW FB2
      by_cases h0 : 0 ≤ a
      · have b0 : decide (0 ≤ a) = true := decide_eq_true h0
        by_cases h1 : a < (N : Int)
        · have b1 : decide (a < (N : Int)) = true := decide_eq_true h1
          have AP := hide (fun q => S1 q ⟨h0, h1⟩)
          clear S0 S1
          go_upto_region 6 with fail
          go_quiet (fail)
          go_wp2_with (at_builtin; obtain ⟨v1, y1, hrun, HG⟩ := unhide AP _; replace HG := hide HG; refine wpl_run rfl (.tmp 37) (.tmp 42) 89 rfl _ _ rfl rfl _ _ hrun ?_; clear hrun AP)
          go_roundw
          case rel => exact ⟨k + 1, hlt, by go_num, HG⟩
          case measure => exact dec_ltW n k hlt
        · have b1 : decide (a < (N : Int)) = false := decide_eq_false h1
          have HG := hide (fun q => S0 q (fun h => h1 h.2))
          clear S0 S1
          go_upto_region 6 with fail
          go_quiet (fail)
          go_wp2_with fail
          go_roundw
          case rel => exact ⟨k + 1, hlt, by go_num, hide (unhide HG _)⟩
          case measure => exact dec_ltW n k hlt
      · have b0 : decide (0 ≤ a) = false := decide_eq_false h0
        have HG := hide (fun q => S0 q (fun h => h0 h.1))
        clear S0 S1
        go_upto_region 6 with fail
        go_quiet (fail)
        go_wp2_with fail
        go_roundw
        case rel => exact ⟨k + 1, hlt, by go_num, hide (unhide HG _)⟩
        case measure => exact dec_ltW n k hlt
    · obtain rfl : k = n := by omega
      have K := hide (unhide FIN wr _ (unhide HW))
      clear HW FIN STEP FB2
      go_wp2_with fail
      refine bodyPost_ret (by simp [results, Try.results38, go_sem]; try rfl) rfl ?_
      exact unhide K
theorem plP_next (t : Nat) (L : List Int) : plP (t + 1) L = plP t L ++ (if (t : Int) ∈ L then [(t : Int)] else []) := by
  unfold plP
  rw [List.range_succ, List.filter_append, List.map_append]
  congr 1
  by_cases h : (t : Int) ∈ L
  · simp [h]
  · simp [h]
theorem plP_zero (L : List Int) : plP 0 L = [] := by simp [plP]
theorem plP_there (N : Nat) (l : List Wy) : plP N ((thereP N l).map Prod.fst) = plP N (l.map Prod.fst) := by
  unfold plP
  congr 1
  apply List.filter_congr
  intro k hk
  rw [List.mem_range] at hk
  have : ((k : Int) ∈ (thereP N l).map Prod.fst) ↔ ((k : Int) ∈ l.map Prod.fst) := by
    unfold thereP
    simp only [List.mem_map, List.mem_filter]
    constructor
    · rintro ⟨x, ⟨h1, _⟩, h2⟩; exact ⟨x, h1, h2⟩
    · rintro ⟨x, h1, h2⟩; exact ⟨x, ⟨h1, by rw [h2]; unfold inC; simp; omega⟩, h2⟩
  simp only [this]
theorem plP_lenN (t : Nat) (L : List Int) : (plP t L).length ≤ t := by
  unfold plP
  rw [List.length_map]
  have := List.length_filter_le (fun (k : Nat) => decide ((k : Int) ∈ L)) (List.range t)
  rw [List.length_range] at this
  exact this
theorem int_step {x1 y : World} {v : Value} {l : List Int} (a : Int) (h : OwnL y x1.heap.size v l) (hl : l.length < 10000000) (g : G x1 y) : ∃ v' y', (Builtin.append_ #[32, 32] 32 #[v, .slice (some ⟨y.heap.size, 0, none⟩) 1 1]).run Try.prog (y.alloc (.cells #[.int .i64 a] 3)) = .ok v' y' ∧ OwnL y' x1.heap.size v' (l ++ [a]) ∧ G x1 y' := by
  obtain ⟨v', w', r1, r2, r3⟩ := own_app1 a h g.size hl
  exact ⟨v', w', r1, r2, below_gg r3 g⟩
set_option maxHeartbeats 1000000 in
theorem rfollows_out (w : World) (m : Md) (so : Option Addr) (sc : Nat) (go : Option Addr) (gc : Nat) (co : Option Addr) (cc : Nat) (ao : Option Addr) (ac : Nat) (fo : Option Addr) (fc : Nat) (f : Fn) (ko : Option Addr) (kc : Nat) (io : Option Addr) (ic : Nat) (mo : Option Addr) (mc : Nat) (pc : Int) (hp : pc < 0 ∨ (f.is.length : Int) ≤ pc) :
    Calls Try.prog 20 #[agM m so sc go gc co cc ao ac fo fc, agF f ko kc io ic mo mc, .int .i64 pc] w (LTo w (flP m f pc)) := by
  have e : flP m f pc = [] := by
    unfold flP
    by_cases h0 : pc < 0
    · rw [if_pos h0]
    · rw [if_neg h0, List.getElem?_eq_none (by omega)]
  have K : Hid (∀ x, G w x → LTo w (flP m f pc) (.returned (.slice none 0 0)) x) := hide (fun x g => by rw [e]; exact ⟨_, rfl, isl_nil x, g⟩)
  clear e
  unfold agM agF
  by_cases h0 : pc < 0
  · clear hp
    go_enter Try.func20, Try.ntmps20
    go_wp2_with fail
    refine bodyPost_ret (by simp [results, Try.results20, go_sem]; try rfl) rfl ?_
    exact unhide K _ ((G.alloc _ _).more _)
  · have h1 : (f.is.length : Int) ≤ pc := by omega
    clear hp
    go_enter Try.func20, Try.ntmps20
    go_wp2_with fail
    refine bodyPost_ret (by simp [results, Try.results20, go_sem]; try rfl) rfl ?_
    exact unhide K _ ((G.alloc _ _).more _)
set_option maxHeartbeats 2000000 in
theorem rfollows_in (w : World) (m : Md) (so : Option Addr) (sc : Nat) (go : Option Addr) (gc : Nat) (co : Option Addr) (cc : Nat) (ao : Option Addr) (ac : Nat) (fo : Option Addr) (fc : Nat) (h : ModR w m so sc go gc co cc ao ac fo fc) (f : Fn) (ko : Option Addr) (kc : Nat) (io : Option Addr) (ic : Nat) (mo : Option Addr) (mc : Nat) (hi : RowAt elIn w io f.is.length ic f.is) (hf : ∀ i ∈ f.is, oIn i) (hn : m.ca.length < 1000000) (hl : f.is.length < 1000000) (j : Nat) (i : In) (hj : f.is[j]? = some i) :
    Calls Try.prog 20 #[agM m so sc go gc co cc ao ac fo fc, agF f ko kc io ic mo mc, .int .i64 (j : Int)] w (LTo w (flP m f (j : Int))) := by
  obtain ⟨W2, hW2⟩ : ∃ W2, W2 = ((w.alloc (.cells #[.slice so m.sh.length sc, .slice go m.gl.length gc, .slice co m.co.length cc, .slice ao m.ca.length ac, .slice fo m.fn.length fc, .int .i64 m.main] 48)).alloc (.cells #[.int .i64 f.p, .int .i64 f.c, .int .i64 f.s, .int .i64 f.r, .slice ko f.ks.length kc, .slice io f.is.length ic, .slice mo f.ms.length mc] 52)) := ⟨_, rfl⟩
  have gW : G w W2 := by rw [hW2]; exact (G.alloc _ _).more _
  have CO := hide (rthere_any W2 m so sc go gc co cc ao ac fo fc (h.g gW) f ko kc io ic mo mc (hi.g okIn gW) hf hn j i hj)
  unfold agM agF at CO
  have FE : Hid (flP m f (j : Int) = plP f.is.length ((thereP f.is.length (waysP m i (j : Int))).map Prod.fst)) := hide (by
    rw [plP_there, ways_fst]
    unfold flP
    rw [if_neg (by omega), Int.toNat_natCast, hj])
  have HL : Hid ((thereP f.is.length (waysP m i (j : Int))).length < 1000000) := hide (Nat.lt_of_le_of_lt (List.length_filter_le _ _) (waysP_len m i (j : Int) hn))
  have hjl := (List.getElem?_eq_some_iff.1 hj).1
  obtain ⟨R, hR⟩ : ∃ R, R = flP m f (j : Int) := ⟨_, rfl⟩
  obtain ⟨N, hN⟩ : ∃ N, N = f.is.length := ⟨_, rfl⟩
  obtain ⟨WL, hWL⟩ : ∃ WL, WL = thereP f.is.length (waysP m i (j : Int)) := ⟨_, rfl⟩
  have hji : (j : Int) < (N : Int) := by rw [hN]; omega
  have hNm : N < 1000000 := by rw [hN]; exact hl
  have GW := hide gW
  have m0 : W2.cell? ⟨w.heap.size, 0, none⟩ = some (.slice so m.sh.length sc) := by rw [hW2]; simp [go_sem]
  have m1 : W2.cell? ⟨w.heap.size, 1, none⟩ = some (.slice go m.gl.length gc) := by rw [hW2]; simp [go_sem]
  have m2 : W2.cell? ⟨w.heap.size, 2, none⟩ = some (.slice co m.co.length cc) := by rw [hW2]; simp [go_sem]
  have m3 : W2.cell? ⟨w.heap.size, 3, none⟩ = some (.slice ao m.ca.length ac) := by rw [hW2]; simp [go_sem]
  have m4 : W2.cell? ⟨w.heap.size, 4, none⟩ = some (.slice fo m.fn.length fc) := by rw [hW2]; simp [go_sem]
  have m5 : W2.cell? ⟨w.heap.size, 5, none⟩ = some (.int .i64 m.main) := by rw [hW2]; simp [go_sem]
  have f0 : W2.cell? ⟨w.heap.size + 1, 0, none⟩ = some (.int .i64 f.p) := by rw [hW2]; simp [go_sem]
  have f1 : W2.cell? ⟨w.heap.size + 1, 1, none⟩ = some (.int .i64 f.c) := by rw [hW2]; simp [go_sem]
  have f2 : W2.cell? ⟨w.heap.size + 1, 2, none⟩ = some (.int .i64 f.s) := by rw [hW2]; simp [go_sem]
  have f3 : W2.cell? ⟨w.heap.size + 1, 3, none⟩ = some (.int .i64 f.r) := by rw [hW2]; simp [go_sem]
  have f4 : W2.cell? ⟨w.heap.size + 1, 4, none⟩ = some (.slice ko f.ks.length kc) := by rw [hW2]; simp [go_sem]
  have f5 : W2.cell? ⟨w.heap.size + 1, 5, none⟩ = some (.slice io f.is.length ic) := by rw [hW2]; simp [go_sem]
  have f6 : W2.cell? ⟨w.heap.size + 1, 6, none⟩ = some (.slice mo f.ms.length mc) := by rw [hW2]; simp [go_sem]
  have FB : Hid (∀ x, G W2 x → x.cell? ⟨w.heap.size + 1, 5, none⟩ = some (.slice io f.is.length ic)) := hide (fun x g => g.cell f5)
  rw [← hWL] at CO HL FE
  rw [← hR] at FE ⊢
  unfold agM agF
  rw [← hN] at CO FB FE f5 hW2 ⊢
  clear h gW hn hf hi hj hWL hN hR hjl hl
  replace hW2 := hide hW2
  go_enter Try.func20, Try.ntmps20
  go_upto_region 1 with fail
  rw [← unhide hW2]
  clear hW2
  go_wp2_with fail
  refine (unhide CO).mono ?_
  rintro e x1 ⟨wv, rfl, hr, hg1⟩
  obtain ⟨qo, qc, hwv, hget⟩ := hr.get
  obtain ⟨n, hln⟩ : ∃ n, n = WL.length := ⟨_, rfl⟩
  have hlb : n < 1000000 := by rw [hln]; exact unhide HL
  have ST : Hid (OwnL x1 x1.heap.size (.slice none 0 0) (plP 0 (WL.map Prod.fst)) ∧ G x1 x1) := hide ⟨by rw [plP_zero]; exact ownl_nil _ _, G.refl x1⟩
  have FIN : Hid (∀ wr vb, (OwnL wr x1.heap.size vb (plP N (WL.map Prod.fst)) ∧ G x1 wr) → LTo w R (.returned vb) wr) := hide fun wr vb HW => by
    rw [unhide FE]
    exact ⟨vb, rfl, HW.1.isl, ((unhide GW).trans hg1).trans HW.2⟩
  have FB2 : Hid (∀ x, G x1 x → x.cell? ⟨w.heap.size + 1, 5, none⟩ = some (.slice io N ic)) := hide (fun x g => unhide FB x (hg1.trans g))
  have GE : Hid (∀ k, k < n → ∃ (b off : Nat) (a : Int), qo = some ⟨b, off, none⟩ ∧ (∀ x, G x1 x → x.cell? ⟨b, off + k * 2, none⟩ = some (.int .i64 a)) ∧ (WL.map Prod.fst)[k]? = some a) := hide fun k hk => by
    obtain ⟨b, off, s, e2, ha, hcs⟩ := hget k (by omega)
    exact ⟨b, off, s.1, e2, fun x g => (hcs x g).1, by rw [List.getElem?_map, ha]; rfl⟩
  obtain ⟨L, hL⟩ : ∃ L, L = WL.map Prod.fst := ⟨_, rfl⟩
  have LN : Hid (L.length = n) := hide (by rw [hL, List.length_map, hln])
  rw [← hL] at ST FIN GE
  rw [← hln] at hwv
  subst hwv
  have AP : Hid (∀ (t : Nat) (wr : World) (vb : Value), t < N → (OwnL wr x1.heap.size vb (plP t L) ∧ G x1 wr) → (t : Int) ∈ L → ∃ v' y', (Builtin.append_ #[32, 32] 32 #[vb, .slice (some ⟨wr.heap.size, 0, none⟩) 1 1]).run Try.prog (wr.alloc (.cells #[.int .i64 (t : Int)] 3)) = .ok v' y' ∧ OwnL y' x1.heap.size v' (plP (t + 1) L) ∧ G x1 y') := hide fun t wr vb ht H hm => by
    have hp := plP_lenN t L
    obtain ⟨v', y', r1, r2, r3⟩ := int_step (t : Int) H.1 (by omega) H.2
    exact ⟨v', y', r1, by rw [plP_next, if_pos hm]; exact r2, r3⟩
  have NX : Hid (∀ (t : Nat) (wr : World) (vb : Value), (OwnL wr x1.heap.size vb (plP t L) ∧ G x1 wr) → ¬ (t : Int) ∈ L → OwnL wr x1.heap.size vb (plP (t + 1) L) ∧ G x1 wr) := hide fun t wr vb H hm => by
    rw [plP_next, if_neg hm, List.append_nil]
    exact H
  clear CO hr hget hg1 hln HL GW FB FE hL m0 m1 m2 m3 m4 m5 f0 f1 f2 f3 f4 f5 f6
  go_wp2_with fail
  go_loopw [7, 9, 10] (fun b i _ wr => ∃ t : Nat, t ≤ N ∧ i = .int .i64 t ∧ Hid (OwnL wr x1.heap.size b (plP t L) ∧ G x1 wr)) (fun _ i _ _ => N - (intOf i).toNat)
  case atStart => exact ⟨0, Nat.zero_le _, rfl, ST⟩
  case round =>
    obtain ⟨t, ht, rfl, HW⟩ := hrel
    clear ST
    have f5 := unhide FB2 wr (unhide HW).2
    by_cases htl : t < N
    · have hti : (t : Int) < (N : Int) := by omega
      have htw : wrap64 ((t : Int) + 1) = (t : Int) + 1 := by unfold wrap64; omega
      have AP2 := hide (fun wr vb => unhide AP t wr vb htl)
      have NX2 := hide (fun wr vb => unhide NX t wr vb)
      clear FIN AP NX
      go_wp2_with fail
      go_loopw [7, 10] (fun b i wx => ∃ k : Nat, k ≤ n ∧ i = .int .i64 k ∧ Hid (OwnL wx x1.heap.size b (plP t L) ∧ G x1 wx) ∧ Hid (∀ q, q < k → L[q]? ≠ some (t : Int))) (fun _ i _ => n - (intOf i).toNat)
      case atStart => exact ⟨0, Nat.zero_le _, rfl, HW, hide (fun q hq => by omega)⟩
      case round =>
        clear HW f5
        obtain ⟨k, hk, rfl, HW, HK⟩ := hrel
        have f5 := unhide FB2 wr (unhide HW).2
        by_cases hlt : k < n
        · have hki : (k : Int) < (n : Int) := by omega
          have hkw : wrap64 ((k : Int) + 1) = (k : Int) + 1 := by unfold wrap64; omega
          obtain ⟨b, off, a, rfl, hc, ha⟩ := unhide GE k hlt
          have c0 := hc _ (unhide HW).2
          clear hc GE
          by_cases hat : a = (t : Int)
          · subst hat
            have A3 := hide (unhide AP2 _ _ (unhide HW) (List.mem_of_getElem? ha))
            clear AP2 NX2 HW HK FB2
            go_wp2_with (at_builtin; obtain ⟨v1, y1, hrun, HG⟩ := unhide A3; replace HG := hide HG; refine wpl_run rfl (.tmp 44) (.tmp 46) 32 rfl _ _ rfl rfl _ _ hrun ?_; clear hrun A3)
            go_roundw
            case rel => exact ⟨t + 1, htl, by go_num, HG⟩
            case measure => exact dec_ltW N t htl
          · have bat : (a == (t : Int)) = false := beq_eq_false_iff_ne.2 hat
            have HK2 := hide (fun q (hq : q < k + 1) => show L[q]? ≠ some (t : Int) by
              by_cases hqk : q < k
              · exact (unhide HK) q hqk
              · obtain rfl : q = k := by omega
                rw [ha]
                exact fun h => hat (Option.some.inj h))
            clear AP2 NX2 HK FB2
            go_wp2_with fail
            go_roundw
            case rel => exact ⟨k + 1, hlt, by go_num, HW, HK2⟩
            case measure => exact dec_ltW n k hlt
        · obtain rfl : k = n := by omega
          have HG := hide (unhide NX2 _ _ (unhide HW) (fun hm => by
            obtain ⟨q, hq, e⟩ := List.mem_iff_getElem.1 hm
            exact (unhide HK) q (by have := unhide LN; omega) (by rw [List.getElem?_eq_getElem hq, e])))
          clear AP2 NX2 HW HK GE FB2
          go_wp2_with fail
          go_roundw
          case rel => exact ⟨t + 1, htl, by go_num, HG⟩
          case measure => exact dec_ltW N t htl
    · obtain rfl : t = N := by omega
      have K := hide (unhide FIN wr _ (unhide HW))
      clear HW FIN FB2 AP NX GE
      go_wp2_with fail
      refine bodyPost_ret (by simp [results, Try.results20, go_sem]; try rfl) rfl ?_
      exact unhide K
theorem rfollows_any (w : World) (m : Md) (so : Option Addr) (sc : Nat) (go : Option Addr) (gc : Nat) (co : Option Addr) (cc : Nat) (ao : Option Addr) (ac : Nat) (fo : Option Addr) (fc : Nat) (h : ModR w m so sc go gc co cc ao ac fo fc) (f : Fn) (ko : Option Addr) (kc : Nat) (io : Option Addr) (ic : Nat) (mo : Option Addr) (mc : Nat) (hi : RowAt elIn w io f.is.length ic f.is) (hf : ∀ i ∈ f.is, oIn i) (hn : m.ca.length < 1000000) (hl : f.is.length < 1000000) (pc : Int) :
    Calls Try.prog 20 #[agM m so sc go gc co cc ao ac fo fc, agF f ko kc io ic mo mc, .int .i64 pc] w (LTo w (flP m f pc)) := by
  by_cases hp : pc < 0 ∨ (f.is.length : Int) ≤ pc
  · exact rfollows_out w m so sc go gc co cc ao ac fo fc f ko kc io ic mo mc pc hp
  · obtain ⟨j, rfl⟩ : ∃ j : Nat, pc = j := ⟨pc.toNat, by omega⟩
    obtain ⟨i, hj⟩ : ∃ i, f.is[j]? = some i := ⟨f.is[j]'(by omega), List.getElem?_eq_getElem _⟩
    exact rfollows_in w m so sc go gc co cc ao ac fo fc h f ko kc io ic mo mc hi hf hn hl j i hj
end Go.Proofs.Ytpbeafgfhnlmbaa
