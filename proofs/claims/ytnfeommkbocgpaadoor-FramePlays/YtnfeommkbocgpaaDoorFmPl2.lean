/- laid of gantlinelaw13; acts and numbers that came in. -/
import Derived.Test.YtnfeommkbocgpaaDoorFmPl
namespace Go.Proofs.YtnfeommkbocgpaaDoor
open Go.RowKit Go.Maps Go.ChangeShapes Go.WideShapes Go.ChangeAt Go.Deep

theorem lay_copyd (y : World) (d S : Nat) (hS : S ≤ 64) (hg : y.heap[d]? = some (.cells (mkC S) 2 (0, 0))) {ao : Option Addr} {n c : Nat} {l : List Int} (hr : RowAt elI y ao n c l) (hn : n ≤ S) (ty : TypeId) :
    ∃ v' y2, (Builtin.copy_ #[29, 29] ty #[.slice (some ⟨d, 0, none⟩) S S, .slice ao n c]).run Tryd.prog y = .ok v' y2 ∧ y2.ownsRow d 2 1 (.slice (some ⟨d, 0, none⟩) S S) S ((laidL S l).map (Value.int .i64)) ∧ TrB y y2 (fun k => k = d) := by
  have hln := hr.1
  have hsz : (Tryd.prog.info? 2).map (·.size) = some 1 := by kernel_rfl
  have hms : (mkC S).size = S := by have := congrArg List.length (mkC_list S); simpa using this
  by_cases h0 : n = 0
  · subst h0
    obtain rfl : l = [] := List.eq_nil_of_length_eq_zero hln
    refine ⟨_, _, run_copy_none (P := Tryd.prog) _ 29 29 ty 2 _ ao S S 0 c Tryd.underlying29 hsz (Nat.zero_min _), ⟨by rw [List.length_map, laidL_len (Nat.zero_le _)]; omega, Or.inr ⟨d, S, mkC S, rfl, Nat.le_refl _, hg, Nat.le_refl _, by unfold maxLen; omega, by rw [hms]; omega, ?_⟩⟩, TrB.refl y _⟩
    rw [mkC_list]
    unfold laidL
    simp
  · rcases hr.2.2.2 with hz0 | ⟨b, off, rfl, hbl, hc⟩
    · exact absurd hz0 h0
    have hrun := run_copy_row (P := Tryd.prog) y 29 29 ty 2 d 0 S S ⟨b, off, none⟩ n c (mkC S) 2 (l.map (Value.int .i64)) Tryd.underlying29 hsz hg (by rw [List.length_map, hln]; exact (Nat.min_eq_left hn).symm)
      (fun j u hj => by
        rw [List.getElem?_map] at hj
        obtain ⟨z, hz1, rfl⟩ := Option.map_eq_some_iff.1 hj
        obtain ⟨cs, ecs, hcs⟩ := hc j z hz1
        have ecs : cs = [.int .i64 z] := ecs
        subst ecs
        have h4 := hcs 0 _ rfl
        rw [Addr.add_lit]
        simpa [elI] using h4) (by rw [List.length_map, hln, hms]; omega) (fun u hu => by obtain ⟨z, _, rfl⟩ := List.mem_map.1 hu; rfl)
    refine ⟨_, _, hrun, ⟨by rw [List.length_map, laidL_len (by omega)]; omega, Or.inr ⟨d, S, _, rfl, Nat.le_refl _, setRow_heap _ _ _ _ _ _ hg, Nat.le_refl _, by unfold maxLen; omega, ?_, ?_⟩⟩, ⟨rfl, rfl, rfl, ?_, fun k _ hd => setRow_other _ _ _ _ hd⟩⟩
    · rw [mkC_list]
      simp [hln]
      omega
    · rw [mkC_list]
      simp only [List.take_zero, List.nil_append, Nat.zero_add, List.length_map, List.drop_replicate]
      unfold laidL
      rw [List.map_append, List.map_replicate]
      exact List.take_of_length_le (by simp; omega)
    · simp [World.setRow]
/-- A frame that laid answers. -/
def LdTo (w : World) (S : Nat) (l : List Int) (b : Nat) (w' : World) : Prop := w'.ownsRow w.heap.size 2 1 (.slice (some ⟨b, 0, none⟩) S S) S ((laidL S l).map (Value.int .i64)) ∧ G w w'
set_option maxHeartbeats 2000000 in
theorem laid_any {w : World} {mv : Value} {m : Md} (hm : ModAt w mv m) {f : Fn} (k : Int) (hf : fmAt m k = some f) {ao : Option Addr} {n c : Nat} {l : List Int} (hr : RowAt elI w ao n c l) (ht : tkP f n = true) (S : Nat) (hS : f.s = S) :
    Calls Tryd.prog 15 #[mv, .int .i64 k, .slice ao n c] w fun e w' => ∃ b, e = .returned (agFr k 0 b S S) ∧ LdTo w S l b w' := by
  have hs2 : f.s ≤ 64 ∧ (n : Int) ≤ f.s := by unfold tkP at ht; simp at ht; omega
  obtain ⟨so, sc, go, gc, co, cc, mo_, mc_, fo, fc, rfl, _, _, _, _, r5⟩ := hm
  obtain ⟨j, rfl, ha⟩ := fmAt_in hf
  have hj : j < m.fn.length := (List.getElem?_eq_some_iff.1 ha).1
  obtain ⟨b, off, a, cs, rfl, ha', ecs, hcs⟩ := row_get r5 hj
  obtain rfl : a = f := Option.some.inj (ha'.symm.trans ha)
  obtain ⟨ko, kc, io, ic, mo, mc, rfl, _⟩ := ecs
  have c2 : w.cell? ⟨b, off + j * 7 + 2, none⟩ = some (.int .i64 (S : Int)) := by
    have := hcs w (G.refl w) 2 _ rfl
    rw [← hS]
    exact this
  have hbl : b < w.heap.size := World.block_lt_of_cell? w _ c2
  have hji : (j : Int) < (m.fn.length : Int) := by omega
  have hmk := mk_slots S (by omega)
  have CP : Hid (∀ o1 o2 o3, ∃ v' y2, (Builtin.copy_ #[29, 29] 3 #[.slice (some ⟨w.heap.size + 1 + 1, 0, none⟩) S S, .slice ao n c]).run Tryd.prog ((((w.alloc o1).alloc o2).alloc (.cells (mkC S) 2)).alloc o3) = .ok v' y2 ∧ Hid (y2.ownsRow (w.heap.size + 1 + 1) 2 1 (.slice (some ⟨w.heap.size + 1 + 1, 0, none⟩) S S) S ((laidL S l).map (Value.int .i64)) ∧ TrB ((((w.alloc o1).alloc o2).alloc (.cells (mkC S) 2)).alloc o3) y2 (fun k => k = w.heap.size + 1 + 1))) := hide fun o1 o2 o3 => by
    have s2 : ((w.alloc o1).alloc o2).heap.size = w.heap.size + 1 + 1 := by rw [World.size_alloc, World.size_alloc]
    have hn := heap_alloc_new ((w.alloc o1).alloc o2) (.cells (mkC S) 2)
    rw [s2] at hn
    obtain ⟨v', y2, h1, h2, h3⟩ := lay_copyd ((((w.alloc o1).alloc o2).alloc (.cells (mkC S) 2)).alloc o3) (w.heap.size + 1 + 1) S (by omega) (((G.alloc _ o3).block _ (by rw [World.size_alloc, s2]; omega)).trans hn) (hr.g okI ((((G.alloc w o1).more _).more _).more _)) (by omega) 3
    exact ⟨v', y2, h1, hide ⟨h2, h3⟩⟩
  generalize mkC S = CC at hmk CP
  have FI : Hid (∀ o1 o2 o3 y2, y2.ownsRow (w.heap.size + 1 + 1) 2 1 (.slice (some ⟨w.heap.size + 1 + 1, 0, none⟩) S S) S ((laidL S l).map (Value.int .i64)) ∧ TrB ((((w.alloc o1).alloc o2).alloc (.cells CC 2)).alloc o3) y2 (fun k => k = w.heap.size + 1 + 1) → ∀ v1 v2 v3, LdTo w S l (w.heap.size + 1 + 1) (((y2.setCell ⟨w.heap.size + 1, 0, none⟩ v1).setCell ⟨w.heap.size + 1, 1, none⟩ v2).setCell ⟨w.heap.size + 1, 2, none⟩ v3)) := hide fun o1 o2 o3 y2 h v1 v2 v3 => by
    have gw : G w ((((w.alloc o1).alloc o2).alloc (.cells CC 2)).alloc o3) := ((((G.alloc w o1).more _).more _).more _)
    have gy : G w y2 := ⟨h.2.os.trans gw.os, h.2.tape.trans gw.tape, h.2.output.trans gw.output, Nat.le_trans gw.size h.2.size, fun q hq => (h.2.block q (Nat.lt_of_lt_of_le hq gw.size) (by omega)).trans (gw.block q hq)⟩
    refine ⟨?_, ((gy.set _ _ _ (by omega)).set _ _ _ (by omega)).set _ _ _ (by omega)⟩
    have h1 := own_keep1 (w' := ((y2.setCell ⟨w.heap.size + 1, 0, none⟩ v1).setCell ⟨w.heap.size + 1, 1, none⟩ v2).setCell ⟨w.heap.size + 1, 2, none⟩ v3) h.1 (by
      rw [heap_set _ _ (show w.heap.size + 1 + 1 ≠ w.heap.size + 1 by omega), heap_set _ _ (show w.heap.size + 1 + 1 ≠ w.heap.size + 1 by omega), heap_set _ _ (show w.heap.size + 1 + 1 ≠ w.heap.size + 1 by omega)])
    refine ⟨h1.1, ?_⟩
    rcases h1.2 with h' | ⟨g', cap', cur, h', hb2, hr⟩
    · exact Or.inl h'
    · exact Or.inr ⟨g', cap', cur, h', by omega, hr⟩
  clear hcs r5 hr ht hf ha ha' hs2 hS
  unfold agFr
  go_enter Tryd.func15, Tryd.ntmps15
  go_upto_region 2 with fail
  obtain ⟨v1, y2, hrun, HY⟩ := unhide CP (.cells #[.slice so m.sh.length sc, .slice go m.gl.length gc, .slice co m.co.length cc, .slice mo_ m.ca.length mc_, .slice (some ⟨b, off, none⟩) m.fn.length fc, .int .i64 m.main] 33) (.cells #[.int .i64 0, .int .i64 0, .slice none 0 0] 46) (.cells #[.int .i64 (j : Int), .int .i64 0, .slice (some ⟨w.heap.size + 1 + 1, 0, none⟩) S S] 46)
  have e0 := (unhide HY).2.cell (x := ⟨w.heap.size + 1 + 1 + 1, 0, none⟩) (v := .int .i64 (j : Int)) (by simp [go_sem]) (show ¬ w.heap.size + 1 + 1 + 1 = w.heap.size + 1 + 1 by omega)
  have e1 := (unhide HY).2.cell (x := ⟨w.heap.size + 1 + 1 + 1, 1, none⟩) (v := .int .i64 0) (by simp [go_sem]) (show ¬ w.heap.size + 1 + 1 + 1 = w.heap.size + 1 + 1 by omega)
  have e2 := (unhide HY).2.cell (x := ⟨w.heap.size + 1 + 1 + 1, 2, none⟩) (v := .slice (some ⟨w.heap.size + 1 + 1, 0, none⟩) S S) (by simp [go_sem]) (show ¬ w.heap.size + 1 + 1 + 1 = w.heap.size + 1 + 1 by omega)
  have r0 := (unhide HY).2.cell (x := ⟨w.heap.size + 1, 0, none⟩) (v := .int .i64 0) (by simp [go_sem]) (show ¬ w.heap.size + 1 = w.heap.size + 1 + 1 by omega)
  have r1 := (unhide HY).2.cell (x := ⟨w.heap.size + 1, 1, none⟩) (v := .int .i64 0) (by simp [go_sem]) (show ¬ w.heap.size + 1 = w.heap.size + 1 + 1 by omega)
  have r2 := (unhide HY).2.cell (x := ⟨w.heap.size + 1, 2, none⟩) (v := .slice none 0 0) (by simp [go_sem]) (show ¬ w.heap.size + 1 = w.heap.size + 1 + 1 by omega)
  have fz : ∀ i, y2.frozen? ⟨w.heap.size + 1, i, none⟩ = false := fun i => (World.frozen?_of_block (a := ⟨w.heap.size + 1, i, none⟩) ((unhide HY).2.block _ (by show w.heap.size + 1 < _; rw [World.size_alloc, World.size_alloc, World.size_alloc, World.size_alloc]; omega) (show ¬ w.heap.size + 1 = w.heap.size + 1 + 1 by omega))).trans (by simp [go_sem])
  have q0 := fz 0
  have q1 := fz 1
  have q2 := fz 2
  have FK := hide (unhide FI _ _ _ y2 (unhide HY))
  clear fz HY FI CP c2 hbl
  go_wp2_with (refine wpl_copyr rfl (.tmp 18) (.tmp 19) 29 rfl _ _ rfl rfl _ _ hrun ?_)
  refine bodyPost_ret (by simp [results, Tryd.results15, go_sem, r0, r1, r2]; try rfl) rfl ?_
  exact ⟨_, rfl, unhide FK _ _ _⟩
/-- An act. -/
structure Ac where
  op : Int
  fn : Int
  n : Int
  v : Int
  ar : List Int
def elAc : El Ac := ⟨5, fun w a cs => ∃ ao c, cs = [.int .i64 a.op, .int .i64 a.fn, .int .i64 a.n, .int .i64 a.v, .slice ao a.ar.length c] ∧ RowAt elI w ao a.ar.length c a.ar⟩
theorem okAc : elAc.Ok := by
  refine ⟨by decide, ?_, ?_⟩
  · rintro w a cs ⟨ao, c, e, _⟩
    rw [e]; rfl
  · rintro w w' a cs ⟨ao, c, e, h⟩ g hs
    exact ⟨ao, c, e, h.kept okI g hs⟩
def oAc (a : Ac) : Prop := oI a.n ∧ oI a.v
section
variable {H : Type} {enc : TypeId × Value → H} {w : World} {base b0 : Nat} {spare : Nat → Bool} {held : Bool} {r : Reach} {v : Value} {d : DataW H} {ps : List MemPlace}
theorem cells_act : Tryd.prog.cellsOf 50 = 5 := by kernel_rfl
theorem of_act {fuel : Nat} {cs : List Value} {x : DataW H × List MemPlace} (h : DataW.trod enc Tryd.prog w base spare held fuel 50 cs = some x) : ∃ a, elAc.cs w a cs ∧ oAc a := by
  obtain ⟨hl, n, hf⟩ := trod_fields Tryd.underlying50 h
  rw [cells_act] at hl
  obtain ⟨y0, t0⟩ := hf 0 _ rfl
  obtain ⟨y1, t1⟩ := hf 1 _ rfl
  obtain ⟨y2, t2⟩ := hf 2 _ rfl
  obtain ⟨y3, t3⟩ := hf 3 _ rfl
  obtain ⟨y4, t4⟩ := hf 4 _ rfl
  match cs, hl with
  | [x0, x1, x2, x3, x4], _ =>
    simp only [cells_int, cells_i64, cells_i64s, List.take, List.drop] at t0 t1 t2 t3 t4
    obtain ⟨a, e0, w0⟩ := of_int t0
    obtain ⟨b, e1, w1⟩ := of_int t1
    obtain ⟨c, e2, w2⟩ := of_int t2
    obtain ⟨d, e3, w3⟩ := of_i64 t3
    obtain ⟨ko, kn, kc, kl, e4, kr, kk⟩ := open_row (E := elI) Tryd.underlying29 cells_i64 okI 0 (fun _ _ _ h => of_i64 h) t4
    simp [elI] at e0 e1 e2 e3 e4
    subst e0 e1 e2 e3 e4
    obtain rfl := kr.1
    exact ⟨⟨a, b, c, d, kl⟩, ⟨ko, kc, rfl, kr⟩, w2, w3⟩
theorem open_acts (hval : Value.okWide Tryd.prog w r b0 38 v) (hd : DataW.Trod enc Tryd.prog w base spare held 38 v d ps) : ∃ ao n c l, v = .slice ao n c ∧ RowAt elAc w ao n c l := by
  obtain ⟨ao, len, cap, rfl⟩ := okWide_slice Tryd.underlying38 hval
  obtain ⟨fuel, hf⟩ := hd
  obtain ⟨ao', n', c', l, e, hr, _⟩ := open_row (E := elAc) Tryd.underlying38 cells_act okAc ⟨0, 0, 0, 0, []⟩ (fun _ _ _ h => of_act h) hf
  simp [Value.cells] at e
  obtain ⟨rfl, rfl, rfl⟩ := e
  exact ⟨_, _, _, l, rfl, hr⟩
theorem open_i64s (hval : Value.okWide Tryd.prog w r b0 29 v) (hd : DataW.Trod enc Tryd.prog w base spare held 29 v d ps) : ∃ ao n c l, v = .slice ao n c ∧ RowAt elI w ao n c l := by
  obtain ⟨ao, len, cap, rfl⟩ := okWide_slice Tryd.underlying29 hval
  obtain ⟨fuel, hf⟩ := hd
  obtain ⟨ao', n', c', l, e, hr, _⟩ := open_row (E := elI) Tryd.underlying29 cells_i64 okI 0 (fun _ _ _ h => of_i64 h) hf
  simp [Value.cells] at e
  obtain ⟨rfl, rfl, rfl⟩ := e
  exact ⟨_, _, _, l, rfl, hr⟩
end
end Go.Proofs.YtnfeommkbocgpaaDoor
