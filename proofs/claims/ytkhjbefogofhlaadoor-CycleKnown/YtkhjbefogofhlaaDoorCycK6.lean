/- The program's Cycle while nothing is held: Start, Dies, Black. -/
import Derived.Test.YtkhjbefogofhlaaDoorCycK5
import Derived.Maps.OwnSet
import Derived.Maps.OwnOps
namespace Go.Proofs.YtkhjbefogofhlaaDoor
set_option maxRecDepth 100000
open Go.ChangeShapes Go.WideShapes Go.ChangeAt Go.RowKit Go.Maps Go.ChangeMaps Go.MapKept

theorem keyK : Keyed Tryd.prog 3 := int_keyed Tryd.underlying3
theorem zero_unitK (w : World) : (zeroValue 61).run Tryd.prog w = .ok (.agg #[]) w := by kernel_rfl
/-- clear of a map. -/
theorem run_clear {w : World} {mb clock : Nat} {es : Array MapEntry} (hb : w.heap[mb]? = some (.map es clock)) : (Builtin.clear_ #[54] 0 #[.map (some mb)]).run Tryd.prog w = .ok (.tuple #[]) (setBlock w mb (.map #[] clock)) := by
  simp [Builtin.clear_, run_underlying Tryd.underlying54, MapKept.run_getObj_map hb, MapKept.run_setObj_map _ hb, Result.andThen, setBlock]
section
variable {W w w' : World} {xl : Ld} {b : Kn} {hb : Nat} {al : Al} {ph kept done : Int} {s s' : Pk}
theorem KS.owns (h : KS W w xl b al ph kept done) : w.ownsMap (H := Unit) Tryd.prog 3 unitElem b.mb 0 (.map []) := by
  obtain ⟨c, hc⟩ := h.mp
  exact ⟨#[], c, hc, ⟨by simp, stamped_empty c, by simp⟩, Nat.le_refl _, rfl⟩
theorem KS.map (h : KS W w xl b al ph kept done) (c' : Nat) : KS W (setBlock w b.mb (.map #[] c')) xl b al ph kept done := by
  obtain ⟨c, hc⟩ := h.mp
  have k : ∀ d, d ≠ b.mb → (setBlock w b.mb (.map #[] c')).heap[d]? = w.heap[d]? := fun d hd => heap_setBlock_other hc _ hd
  obtain ⟨q1, q2, q3, q4, q5, q6, q7⟩ := h.ap b.mb (by simp)
  have hsz : (setBlock w b.mb (.map #[] c')).heap.size = w.heap.size := by unfold setBlock; simp
  have kl := k xl.lb (Ne.symm q7)
  have ku := k xl.ub (Ne.symm q5)
  have kc := k b.cb h.nd.1
  have kk := k b.kb (Ne.symm h.nm.1)
  have bl : Below W.heap.size W (setBlock w b.mb (.map #[] c')) := ⟨h.st.below.os, h.st.below.tape, h.st.below.output, by rw [hsz]; exact h.st.below.size, fun d hd => (k d (by omega)).trans (h.st.below.block d hd)⟩
  exact ⟨⟨⟨h.st.st.at_.kept (k _ (Ne.symm q6)) (k _ (Ne.symm q3)) (k _ (Ne.symm q4)), h.st.st.good, bl, h.st.st.tab⟩, (World.cell?_of_block (a := ⟨xl.lb, 0, none⟩) kl).trans h.st.c0, (World.cell?_of_block (a := ⟨xl.lb, 1, none⟩) kl).trans h.st.c1, fun s hs => (World.cell?_of_block (a := ⟨xl.ub, s, none⟩) ku).trans (h.st.us s hs),
    fun i => (World.frozen?_of_block (a := ⟨xl.ub, i, none⟩) ku).trans (h.st.fu i), h.st.b0, h.st.b1, h.st.n0, h.st.n1, h.st.n2⟩,
    (World.cell?_of_block (a := ⟨b.cb, 0, none⟩) kc).trans h.c0, (World.cell?_of_block (a := ⟨b.cb, 1, none⟩) kc).trans h.c1, (World.cell?_of_block (a := ⟨b.cb, 2, none⟩) kc).trans h.c2, (World.cell?_of_block (a := ⟨b.cb, 3, none⟩) kc).trans h.c3, (World.cell?_of_block (a := ⟨b.cb, 4, none⟩) kc).trans h.c4, (World.cell?_of_block (a := ⟨b.cb, 5, none⟩) kc).trans h.c5, (World.cell?_of_block (a := ⟨b.cb, 6, none⟩) kc).trans h.c6, (World.cell?_of_block (a := ⟨b.cb, 7, none⟩) kc).trans h.c7,
    fun i => (World.frozen?_of_block (a := ⟨b.cb, i, none⟩) kc).trans (h.fz i), ⟨c', heap_setBlock_same hc _⟩, (World.cell?_of_block (a := ⟨b.kb, 0, none⟩) kk).trans h.k0, (World.cell?_of_block (a := ⟨b.kb, 2, none⟩) kk).trans h.k2, h.que.kept (k _ (Ne.symm h.nm.2)) (fun d hd => by cases hd), fun d hd => by rw [hsz]; exact h.ap d hd, h.nd, h.nm⟩
theorem KH.map (h : KH W w xl b hb s) (c' : Nat) : KH W (setBlock w b.mb (.map #[] c')) xl b hb s := by
  obtain ⟨c, hc⟩ := h.ks.mp
  exact ⟨h.ks.map c', h.hd.block (heap_setBlock_other hc _ h.ne.2.1), by unfold setBlock; simp; exact h.lt, h.ne⟩
theorem k_black (h : Hid (KS W w xl b al ph kept done)) (i : Int) (hi : (Lit.int .i64 i).wf = true) : Calls Tryd.prog 19 #[.pointer (some ⟨b.cb, 0, none⟩), .int .i64 i] w fun e w' => e = .returned (.bool false) ∧ G w w' := by
  have c5 := (unhide h).c5
  have ow := hide (unhide h).owns
  go_enter Tryd.func19, Tryd.ntmps19
  go_wp2_with (at_lookup; refine wpList_lookup_own_unit _ rfl _ _ 54 rfl 3 61 keyK Tryd.underlying54 (zero_unitK _) b.mb 0 (.map []) rfl (unhide ow) _ (.int .i64 i) rfl (keyOf_int_mk Tryd.underlying3 hi) ?_)
  go_ret
  exact ⟨rfl, G.alloc _ _⟩
theorem k_dies (h : Hid (KH W w xl b hb s)) (i : Int) (hi : (Lit.int .i64 i).wf = true) : Calls Tryd.prog 15 #[.pointer (some ⟨b.cb, 0, none⟩), .int .i64 i] w fun e w' => e = .returned (.tuple #[]) ∧ KH W w' xl b hb s := by
  have c5 := (unhide h).ks.c5
  have ow := hide (unhide h).ks.owns
  go_enter Tryd.func15, Tryd.ntmps15
  go_wp2_with (at_delete; refine wpList_delete_own _ rfl _ _ 54 3 rfl 61 keyK Tryd.underlying54 _ b.mb 0 (.map []) rfl (unhide ow) _ (.int .i64 i) rfl (keyOf_int_mk Tryd.underlying3 hi) ?_; intro w1 ow1 tu1)
  obtain ⟨es, c, es', c', hb0, hw1⟩ := tu1
  obtain ⟨es2, c2, hb2, _, hz, _⟩ := ow1
  have e1 : es2 = #[] := Array.eq_empty_of_size_eq_zero (by omega)
  rw [hw1, heap_setBlock_same hb0] at hb2
  obtain ⟨e2, e3⟩ : es' = es2 ∧ c' = c2 := by injection hb2 with hb2; injection hb2 with h1 h2; exact ⟨h1, h2⟩
  rw [e2, e1] at hw1
  have h1 := (unhide h).map c'
  rw [← hw1] at h1
  go_end0
  exact ⟨rfl, h1⟩
theorem k_start0 (h : Hid (KH W w xl b hb s)) (hp : s.ph = 0) : Calls Tryd.prog 7 #[.pointer (some ⟨b.cb, 0, none⟩), .iface 27 (.pointer (some ⟨hb, 0, none⟩))] w fun e w' => e = .returned (.bool true) ∧ KH W w' xl b hb ⟨⟨s.al.a.clear, s.al.u⟩, 1, s.kept, s.done⟩ := by
  have c4 := (unhide h).ks.c4
  rw [hp] at c4
  have c0 := (unhide h).ks.c0
  have C := hide (l_clear (hide (unhide h).ks.st))
  go_enter Tryd.func7, Tryd.ntmps7
  go_wp2_with fail
  refine (unhide C).mono ?_
  rintro r w1 ⟨rfl, s1, t1⟩
  have h1 := hide ((unhide h).turn (s' := ⟨⟨s.al.a.clear, s.al.u⟩, s.ph, s.kept, s.done⟩) ((unhide h).ks.turn s1 t1) t1)
  have h2 := hide ((unhide h1).set (s' := ⟨⟨s.al.a.clear, s.al.u⟩, 1, s.kept, s.done⟩) 4 (.int .i64 1) ((unhide h1).ks.phase 1))
  have d4 := (unhide h1).ks.c4
  have f4 := (unhide h1).ks.fz 4
  have d5 := (unhide h2).ks.c5
  obtain ⟨c, hc⟩ := (unhide h2).ks.mp
  have hrun := run_clear hc
  have h3 := hide ((unhide h2).map c)
  obtain ⟨w2, hw2⟩ : ∃ w2, setBlock (w1.setCell ⟨b.cb, 4, none⟩ (.int .i64 1)) b.mb (.map #[] c) = w2 := ⟨_, rfl⟩
  rw [hw2] at h3 hrun
  have CG := hide (h_globals (unhide h3).hd)
  clear C s1 t1 c4 c0 hc hw2
  go_wp2_with fail
  refine (unhide CG).mono ?_
  rintro r w3 ⟨⟨ao, cap, rfl⟩, g3⟩
  have h4 := hide ((unhide h3).gr g3)
  have CA := hide (k_shadeAll (hide (unhide h4).ks) ao cap)
  clear CG g3
  go_wp2_with fail
  refine (unhide CA).mono ?_
  rintro r w4 ⟨rfl, hw4⟩
  subst hw4
  clear CA
  go_wp2_with fail
  go_ret
  exact ⟨rfl, unhide h4⟩
end
end Go.Proofs.YtkhjbefogofhlaaDoor
