/- FramePlays: the walk of the statement over the contracts of package frame. -/
import Derived.Test.YtnfeommkbocgpaaDoorFmPlI
namespace Go.Proofs.YtnfeommkbocgpaaDoor
open Go.RowKit Go.Maps Go.ChangeShapes Go.WideShapes Go.ChangeAt Go.Deep

theorem PlE.jmp {m : Md} {L L2 : List Fr} {f f2 : Fr} {k : Nat} (h : PlE m (L ++ [f]) (L2 ++ [f2]) k) (p : Int) : PlE m (L ++ [jmpFr f p]) (L2 ++ [jmpFr f2 p]) (k + 1) := by
  obtain ⟨h1, h2, h3, h4⟩ := h.last
  have hl := h.len
  simp at hl
  refine (PlE.app ⟨h1.pe, h1.sl, h1.fn, (by omega : L.length ≤ k)⟩ ?_ h3 h4)
  have e : f2.fn = f.fn ∧ f2.pc = f.pc ∧ f2.sl = f.sl := by simpa [pf] using h2
  obtain ⟨e1, e2, e3⟩ := e
  simp [pf, jmpFr, e1, e3]
theorem PlE.setf {m : Md} {L L2 : List Fr} {f f2 : Fr} {k : Nat} (h : PlE m (L ++ [f]) (L2 ++ [f2]) k) (j : Int) (x : Int) : PlE m (L ++ [setFr f j x]) (L2 ++ [setFr f2 j x]) (k + 1) := by
  obtain ⟨h1, h2, h3, h4⟩ := h.last
  have hl := h.len
  simp at hl
  have e : f2.fn = f.fn ∧ f2.pc = f.pc ∧ f2.sl = f.sl := by simpa [pf] using h2
  obtain ⟨e1, e2, e3⟩ := e
  refine (PlE.app ⟨h1.pe, h1.sl, h1.fn, (by omega : L.length ≤ k)⟩ ?_ ?_ ?_)
  · unfold setFr
    rw [e3]
    split <;> simp [pf, e1, e2, e3]
  · unfold setFr; split <;> simpa using h3
  · unfold setFr; split <;> exact h4
/-- A builtin's operation by its run. -/
theorem op_app {o : Oper} {a : Act} {w : World} {K : Act → World → Prop} {Q : Exit → Act → World → Prop} (s x : Operand) (t : TypeId) (ho : o.op = .call { callee := .builtin .append, args := #[s, x], argTypes := #[t, t] })
    (vs vx : Value) (hs : a.eval s = vs) (hx : a.eval x = vx) (v' : Value) (w' : World) (hrun : (Builtin.append_ #[t, t] o.type #[vs, vx]).run Tryd.prog w = .ok v' w') (h : K (a.put o.dst v') w') : Oper.wp Tryd.prog o a w K Q := by
  unfold Oper.wp execOp
  simp only [ho, resolve, invoke, builtin, Sem.run_bind, Sem.run_pure, Result.andThen_ok, List.map_toArray, List.map_cons, List.map_nil, hs, hx, hrun]
  exact h
set_option maxRecDepth 100000 in
set_option maxHeartbeats 4000000 in
theorem plays_core (m : Md) (fn : Int) (ao : Option Addr) (n c : Nat) (args : List Int) (lo : Option Addr) (ln lc : Nat) (l : List Ac) (W : World) (hT : RowsAt W)
    (so : Option Addr) (sc : Nat) (go : Option Addr) (gc : Nat) (co : Option Addr) (cc : Nat) (mo_ : Option Addr) (mc_ : Nat) (fo : Option Addr) (fc : Nat)
    (hM : ModAt W (.agg #[.slice so m.sh.length sc, .slice go m.gl.length gc, .slice co m.co.length cc, .slice mo_ m.ca.length mc_, .slice fo m.fn.length fc, .int .i64 m.main]) m) (r5 : RowAt elFn W fo m.fn.length fc m.fn)
    (oM : oMd m) (ha : RowAt elI W ao n c args) (hl : RowAt elAc W lo ln lc l) :
    Calls Tryd.prog 4 #[.agg #[.slice so m.sh.length sc, .slice go m.gl.length gc, .slice co m.co.length cc, .slice mo_ m.ca.length mc_, .slice fo m.fn.length fc, .int .i64 m.main], .int .i64 fn, .slice ao n c, .slice lo ln lc] W fun e w' => e = .returned (.bool true) ∧ G W w' := by
  obtain ⟨W1, hW1⟩ : ∃ W1, W1 = W.alloc (.cells #[.slice so m.sh.length sc, .slice go m.gl.length gc, .slice co m.co.length cc, .slice mo_ m.ca.length mc_, .slice fo m.fn.length fc, .int .i64 m.main] 33) := ⟨_, rfl⟩
  have gW : G W W1 := by rw [hW1]; exact G.alloc W _
  have MB : Hid (∀ x, G W1 x → x.cell? ⟨W.heap.size, 0, none⟩ = some (.slice so m.sh.length sc) ∧ x.cell? ⟨W.heap.size, 1, none⟩ = some (.slice go m.gl.length gc) ∧ x.cell? ⟨W.heap.size, 2, none⟩ = some (.slice co m.co.length cc) ∧ x.cell? ⟨W.heap.size, 3, none⟩ = some (.slice mo_ m.ca.length mc_) ∧ x.cell? ⟨W.heap.size, 4, none⟩ = some (.slice fo m.fn.length fc) ∧ x.cell? ⟨W.heap.size, 5, none⟩ = some (.int .i64 m.main)) := hide fun x g => by
    have e : ∀ i v, W1.cell? ⟨W.heap.size, i, none⟩ = some v → x.cell? ⟨W.heap.size, i, none⟩ = some v := fun i v hv => g.cell hv
    refine ⟨e 0 _ ?_, e 1 _ ?_, e 2 _ ?_, e 3 _ ?_, e 4 _ ?_, e 5 _ ?_⟩
    all_goals (rw [hW1, cell_of_row _ _ _ _ _ _ (heap_alloc_new W _)]; rfl)
  have AW := hide (awake13 W1 (hT.g gW))
  have BG : Hid (∀ x, G W1 x → Calls Tryd.prog 13 #[.agg #[.slice so m.sh.length sc, .slice go m.gl.length gc, .slice co m.co.length cc, .slice mo_ m.ca.length mc_, .slice fo m.fn.length fc, .int .i64 m.main]] x fun e w' => BigTo m x w' e) := hide fun x g => big_any x _ m (hM.g (gW.trans g))
  replace gW := hide gW
  replace hT := hide hT
  replace hM := hide hM
  replace oM := hide oM
  replace ha := hide ha
  replace hl := hide hl
  replace r5 := hide r5
  go_enter Tryd.func4, Tryd.ntmps4
  go_upto_region 1 with fail
  rw [← hW1]
  clear hW1
  go_wp2_with fail
  refine (unhide AW).mono ?_
  rintro e w1 ⟨rfl, g1⟩
  have G1 := hide g1
  obtain ⟨c0, c1, c2, c3, c4, c5⟩ := unhide MB w1 g1
  clear g1 AW
  go_wp2_with fail
  refine (unhide BG _ (unhide G1)).mono ?_
  rintro e w2 ⟨q, rfl, hq, g2⟩
  have G2 := hide ((unhide G1).trans g2)
  have GE := hide ((unhide gW).trans (unhide G2))
  clear g2 BG G1 c0 c1 c2 c3 c4 c5
  cases q
  rotate_left
  · clear hq
    go_wp2_with fail
    go_ret
    exact ⟨rfl, unhide GE⟩
  have sm := hide (hq rfl)
  clear hq
  by_cases hl6 : 60 < ln
  · have hi : (60 : Int) < (ln : Int) := by omega
    go_wp2_with fail
    go_ret
    exact ⟨rfl, unhide GE⟩
  have hi6 : ¬ (60 : Int) < (ln : Int) := by omega
  by_cases hn1 : 100 < n
  · have hi : (100 : Int) < (n : Int) := by omega
    go_wp2_with fail
    go_ret
    exact ⟨rfl, unhide GE⟩
  have hi1 : ¬ (100 : Int) < (n : Int) := by omega
  have HL6 := hide hl6
  have HN1 := hide hn1
  clear hl6 hn1
  obtain ⟨_, _, _, _, m4, _⟩ := unhide MB w2 (unhide G2)
  have RD : Hid (∀ k, k < m.fn.length → ∃ (f : Fn) (b off : Nat), m.fn[k]? = some f ∧ fo = some ⟨b, off, none⟩ ∧ w2.cell? ⟨b, off + k * 7, none⟩ = some (.int .i64 f.p) ∧ w2.cell? ⟨b, off + k * 7 + 1, none⟩ = some (.int .i64 f.c)) := hide fun k hk => by
    obtain ⟨b, off, a, cs, e, hx, ecs, hcs⟩ := row_get (unhide r5) hk
    obtain ⟨ko, kc, io, ic, mo, mc, rfl, _⟩ := ecs
    have hy := hcs w2 (unhide GE)
    exact ⟨a, b, off, hx, e, hy 0 _ rfl, hy 1 _ rfl⟩
  obtain ⟨FN, hFN⟩ : ∃ FN, FN = m.fn.length := ⟨_, rfl⟩
  have HFN := hide hFN
  have hFN2 : (FN : Int) ≤ 20 := by have := (unhide sm).2.2.2.2.1; omega
  rw [← hFN] at m4 RD
  go_wp2_with fail
  rw [← hFN]
  clear hFN
  go_loop [9] (fun i => ∃ k : Nat, k ≤ FN ∧ i = .int .i64 k ∧ Hid (∀ (j : Nat) f, j < k → m.fn[j]? = some f → 0 ≤ f.p ∧ f.p ≤ 64 ∧ 0 ≤ f.c ∧ f.c ≤ 64)) (fun i => FN - (intOf i).toNat)
  case atStart => exact ⟨0, Nat.zero_le _, rfl, hide (fun j f hj => by omega)⟩
  case round =>
    obtain ⟨k, hk, rfl, HA⟩ := hrel
    by_cases hlt : k < FN
    · obtain ⟨f, b, off, hf, rfl, d0, d1⟩ := unhide RD k hlt
      obtain ⟨fp, hfp⟩ : ∃ fp, fp = f.p := ⟨_, rfl⟩
      obtain ⟨fq, hfq⟩ : ∃ fq, fq = f.c := ⟨_, rfl⟩
      rw [← hfp] at d0
      rw [← hfq] at d1
      have NX : Hid (0 ≤ fp → fp ≤ 64 → 0 ≤ fq → fq ≤ 64 → ∀ (j : Nat) g, j < k + 1 → m.fn[j]? = some g → 0 ≤ g.p ∧ g.p ≤ 64 ∧ 0 ≤ g.c ∧ g.c ≤ 64) := hide fun e1 e2 e3 e4 j g hj hg => by
        by_cases e : j = k
        · rw [e, hf] at hg
          rw [← Option.some.inj hg, ← hfp, ← hfq]
          exact ⟨e1, e2, e3, e4⟩
        · exact unhide HA j g (by omega) hg
      have hli : (k : Int) < (FN : Int) := by omega
      clear hf hfp hfq RD HA
      by_cases t0 : fp < 0
      · clear NX
        go_wp2_with fail
        go_ret
        exact ⟨rfl, unhide GE⟩
      by_cases t1 : 64 < fp
      · clear NX
        go_wp2_with fail
        go_ret
        exact ⟨rfl, unhide GE⟩
      by_cases t2 : fq < 0
      · clear NX
        go_wp2_with fail
        go_ret
        exact ⟨rfl, unhide GE⟩
      by_cases t3 : 64 < fq
      · clear NX
        go_wp2_with fail
        go_ret
        exact ⟨rfl, unhide GE⟩
      have HA2 := hide (unhide NX (by omega) (by omega) (by omega) (by omega))
      clear NX
      go_wp2_with fail
      go_round
      case rel => exact ⟨k + 1, by omega, by go_num, HA2⟩
      case measure => simp [intOf]; omega
    · obtain rfl : k = FN := by omega
      have PC : Hid (PcOk m) := hide fun f hf => by
        obtain ⟨i, hi⟩ := List.mem_iff_getElem?.1 hf
        exact unhide HA i f (by have := (List.getElem?_eq_some_iff.1 hi).1; have := unhide HFN; omega) hi
      clear HA RD
      have MB2 : Hid (∀ x, G w2 x → x.cell? ⟨W.heap.size, 0, none⟩ = some (.slice so m.sh.length sc) ∧ x.cell? ⟨W.heap.size, 1, none⟩ = some (.slice go m.gl.length gc) ∧ x.cell? ⟨W.heap.size, 2, none⟩ = some (.slice co m.co.length cc) ∧ x.cell? ⟨W.heap.size, 3, none⟩ = some (.slice mo_ m.ca.length mc_) ∧ x.cell? ⟨W.heap.size, 4, none⟩ = some (.slice fo k fc) ∧ x.cell? ⟨W.heap.size, 5, none⟩ = some (.int .i64 m.main)) := hide fun x g => by rw [unhide HFN]; exact unhide MB x ((unhide G2).trans g)
      obtain ⟨mv, hmv⟩ : ∃ mv, mv = (Value.agg #[.slice so m.sh.length sc, .slice go m.gl.length gc, .slice co m.co.length cc, .slice mo_ m.ca.length mc_, .slice fo k fc, .int .i64 m.main]) := ⟨_, rfl⟩
      have MM : Hid (∀ x, G w2 x → ModAt x mv m) := hide fun x g => by rw [hmv, unhide HFN]; exact (unhide hM).g ((unhide GE).trans g)
      have AA : Hid (∀ x, G w2 x → RowAt elI x ao n c args) := hide fun x g => (unhide ha).g okI ((unhide GE).trans g)
      have AP : Hid (∀ x, G w2 x → ∃ b c' x', (Builtin.append_ #[29, 29] 29 #[.slice (some ⟨x.heap.size, 0, none⟩) 0 0, .slice ao n c]).run Tryd.prog (x.alloc (.cells #[] 2)) = .ok (.slice (some ⟨b, 0, none⟩) n c') x' ∧ G x x' ∧ RowAt elI x' (some ⟨b, 0, none⟩) n c' args) := hide fun x g => by
        obtain ⟨i, hi, hz, hs, hb⟩ := info_parts info_int64
        have hr := (unhide AA x g).g okI (G.alloc x (.cells #[] 2))
        obtain ⟨b, c', x', h1, h2, h3, _⟩ := app_new (Value.int .i64) (fun _ => rfl) 29 2 i _ Tryd.underlying29 hi hz hs (by rw [hb]; decide) hr (by have := unhide HN1; omega) x.heap.size 29
        exact ⟨b, c', x', h1, (G.alloc x _).trans h2, h3⟩
      have OP : Hid (∀ f, f ∈ m.fn → oI f.p) := hide fun f hf => ((unhide oM).2.2.2.2.1.2 f hf).1
      have OU : Hid (∀ f ∈ m.fn, ∀ x ∈ f.ms, oU x) := hide fun f hf => ((unhide oM).2.2.2.2.1.2 f hf).2.2.2.2.2.2.2
      have MY : Hid (∀ x, G w2 x → ∀ (q : Int) (ao' : Option Addr) (n' c' : Nat), Calls Tryd.prog 14 #[mv, .int .i64 q, .slice ao' n' c'] x fun e w' => e = .returned (.bool (mayB m q n')) ∧ G x w') := hide fun x g q ao' n' c' => may_any x mv m (unhide MM x g) (unhide PC) q ao' n' c'
      cases hmay : mayB m fn n
      · have NB : Hid (∀ x b c', G w2 x → Calls Tryd.prog 8 #[.agg #[.slice so m.sh.length sc, .slice go m.gl.length gc, .slice co m.co.length cc, .slice mo_ m.ca.length mc_, .slice fo k fc, .int .i64 m.main], .int .i64 fn, .slice (some ⟨b, 0, none⟩) n c'] x fun e w' => e = .returned (.tuple #[.pointer none, .int .i64 1]) ∧ G x w') := hide fun x b c' g => by
          rw [← hmv]
          exact new_bad (unhide MM x g) fn _ n c' (by have := unhide HN1; omega) (fun f hf => by unfold mayB at hmay; rw [hf] at hmay; exact hmay) (fun f hf => unhide OP f (fmAt_mem hf))
        have MF : Hid (∀ x, G w2 x → Calls Tryd.prog 14 #[.agg #[.slice so m.sh.length sc, .slice go m.gl.length gc, .slice co m.co.length cc, .slice mo_ m.ca.length mc_, .slice fo k fc, .int .i64 m.main], .int .i64 fn, .slice ao n c] x fun e w' => e = .returned (.bool false) ∧ G x w') := hide fun x g => by rw [← hmv, ← hmay]; exact unhide MY x g fn ao n c
        clear hmay
        go_wp2_with fail
        refine wp_region_noPanic ?_
        refine wp_region_held_drew (S := fun x => G w2 x) (by kernel_rfl) (G.drewN w2 1) (fun hHeld => ?_)
        obtain ⟨y1, hy1⟩ : ∃ y, y = w2.drew := ⟨_, rfl⟩
        rw [← hy1] at hHeld ⊢
        clear hy1
        refine wpAnyH_take (i := 0) (v := .agg #[.slice so m.sh.length sc, .slice go m.gl.length gc, .slice co m.co.length cc, .slice mo_ m.ca.length mc_, .slice fo k fc, .int .i64 m.main]) rfl (by kernel_rfl) (by kernel_rfl) (by kernel_rfl) (fun _ _ _ h => h) (Or.inl ⟨by rfl, fun w hSw => by obtain ⟨c0, c1, c2, c3, c4, c5⟩ := unhide MB2 w hSw; go_simp⟩) (by assumption) ?_
        try simp only [Act.put, List.getElem_toArray, List.getElem_cons_zero, List.setIfInBounds_toArray, List.set_cons_zero, List.set_cons_succ]
        refine wpAnyH_take (i := 1) (v := .int .i64 fn) rfl (by kernel_rfl) (by kernel_rfl) (by kernel_rfl) (fun _ _ _ h => h) (Or.inl ⟨by rfl, fun w hSw => by go_simp⟩) (by assumption) ?_
        try simp only [Act.put, List.getElem_toArray, List.getElem_cons_succ, List.getElem_cons_zero, List.setIfInBounds_toArray, List.set_cons_zero, List.set_cons_succ]
        refine wpAnyH_take (i := 3) (v := .slice ao n c) rfl (by kernel_rfl) (by kernel_rfl) (by kernel_rfl) (fun _ _ _ h => h) (Or.inl ⟨by rfl, fun w hSw => by go_simp⟩) (by assumption) ?_
        try simp only [Act.put, List.getElem_toArray, List.getElem_cons_succ, List.getElem_cons_zero, List.setIfInBounds_toArray, List.set_cons_zero, List.set_cons_succ]
        refine wpAnyH_ready (rs := [2]) (by kernel_rfl) (by simp) ?_
        refine AllReadyH.cons rfl (fun K hK => ?_) AllReadyH.nil
        go_simp
        obtain ⟨b, c', x', hrun, hgx, hrx⟩ := unhide AP y1 hHeld
        refine hK.out _ _ (hHeld.more _) (fun hH1 => ?_)
        clear hK K
        try simp only [Act.put, List.getElem_toArray, List.getElem_cons_succ, List.getElem_cons_zero, List.setIfInBounds_toArray, List.set_cons_zero, List.set_cons_succ]
        refine wpAnyH_ready (rs := [4]) (by kernel_rfl) (by simp) ?_
        refine AllReadyH.cons rfl (fun K hK => ?_) AllReadyH.nil
        rw [if_pos (by rfl)]
        refine op_app (.tmp 74) (.tmp 75) 29 rfl _ _ rfl rfl _ _ hrun ?_
        have hH2 := hHeld.trans hgx
        refine hK.out _ _ hH2 (fun hH3 => ?_)
        clear hK K hrun
        try simp only [Act.put, List.getElem_toArray, List.getElem_cons_succ, List.getElem_cons_zero, List.setIfInBounds_toArray, List.set_cons_zero, List.set_cons_succ]
        refine wpAnyH_ready (rs := [5]) (by kernel_rfl) (by simp) ?_
        refine AllReadyH.cons rfl (fun K hK => ?_) AllReadyH.nil
        go_simp
        refine (unhide NB x' b c' hH2).mono ?_
        rintro e w3 ⟨rfl, g3⟩
        go_wp2_with fail
        have hH4 := hH2.trans g3
        refine hK.out _ _ hH4 (fun hH5 => ?_)
        clear hK K
        try simp only [Act.put, List.getElem_toArray, List.getElem_cons_succ, List.getElem_cons_zero, List.setIfInBounds_toArray, List.set_cons_zero, List.set_cons_succ]
        refine wpAnyH_take (i := 6) (v := .tuple #[.pointer none, .int .i64 1]) rfl (by kernel_rfl) (by kernel_rfl) (by kernel_rfl) (fun _ _ _ h => h) (Or.inl ⟨by rfl, fun w hSw => by go_simp⟩) (by assumption) ?_
        try simp only [Act.put, List.getElem_toArray, List.getElem_cons_succ, List.getElem_cons_zero, List.setIfInBounds_toArray, List.set_cons_zero, List.set_cons_succ]
        refine wpAnyH_take (i := 7) (v := .pointer none) rfl (by kernel_rfl) (by kernel_rfl) (by kernel_rfl) (fun _ _ _ h => h) (Or.inl ⟨by rfl, fun w hSw => by go_simp⟩) (by assumption) ?_
        try simp only [Act.put, List.getElem_toArray, List.getElem_cons_succ, List.getElem_cons_zero, List.setIfInBounds_toArray, List.set_cons_zero, List.set_cons_succ]
        refine wpAnyH_take (i := 8) (v := .int .i64 1) rfl (by kernel_rfl) (by kernel_rfl) (by kernel_rfl) (fun _ _ _ h => h) (Or.inl ⟨by rfl, fun w hSw => by go_simp⟩) (by assumption) ?_
        try simp only [Act.put, List.getElem_toArray, List.getElem_cons_succ, List.getElem_cons_zero, List.setIfInBounds_toArray, List.set_cons_zero, List.set_cons_succ]
        refine wpAnyH_take (i := 9) (v := .pointer none) rfl (by kernel_rfl) (by kernel_rfl) (by kernel_rfl) (fun _ _ _ h => h) (Or.inl ⟨by rfl, fun w hSw => by go_simp⟩) (by assumption) ?_
        try simp only [Act.put, List.getElem_toArray, List.getElem_cons_succ, List.getElem_cons_zero, List.setIfInBounds_toArray, List.set_cons_zero, List.set_cons_succ]
        refine wpAnyH_take (i := 10) (v := .int .i64 1) rfl (by kernel_rfl) (by kernel_rfl) (by kernel_rfl) (fun _ _ _ h => h) (Or.inl ⟨by rfl, fun w hSw => by go_simp⟩) (by assumption) ?_
        try simp only [Act.put, List.getElem_toArray, List.getElem_cons_succ, List.getElem_cons_zero, List.setIfInBounds_toArray, List.set_cons_zero, List.set_cons_succ]
        refine wpAnyH_done (by kernel_rfl) (NoPanic.normal ?_) _
        obtain ⟨c0, c1, c2, c3, c4, c5⟩ := unhide MB2 w3 hH4
        replace hH4 := hide hH4
        clear NB AP MB2 hHeld hH1 hH2 hH3 hH5 hgx hrx g3
        go_wp2_with fail
        refine (unhide MF _ (unhide hH4)).mono ?_
        rintro e w4 ⟨rfl, g4⟩
        have G4 := hide ((unhide GE).trans ((unhide hH4).trans g4))
        clear g4 MF c0 c1 c2 c3 c4 c5
        go_wp2_with fail
        go_ret
        exact ⟨rfl, unhide G4⟩
      · obtain ⟨f, hf, ht⟩ : ∃ f, fmAt m fn = some f ∧ tkP f n = true := by
          unfold mayB at hmay
          cases hq : fmAt m fn with
          | none => rw [hq] at hmay; cases hmay
          | some f => rw [hq] at hmay; exact ⟨f, rfl, hmay⟩
        have hS0 : 0 ≤ f.s ∧ f.s ≤ 64 ∧ (n : Int) ≤ f.s := by unfold tkP at ht; simp at ht; omega
        obtain ⟨S, hS⟩ : ∃ S : Nat, f.s = S := ⟨f.s.toNat, by omega⟩
        have NW : Hid (∀ x b c', G w2 x → RowAt elI x (some ⟨b, 0, none⟩) n c' args → Calls Tryd.prog 8 #[.agg #[.slice so m.sh.length sc, .slice go m.gl.length gc, .slice co m.co.length cc, .slice mo_ m.ca.length mc_, .slice fo k fc, .int .i64 m.main], .int .i64 fn, .slice (some ⟨b, 0, none⟩) n c'] x fun e w' => ∃ s v sb, e = .returned (.tuple #[.pointer (some ⟨s, 0, none⟩), .int .i64 0]) ∧ Hid (SK w' x.heap.size s v [⟨fn, 0, sb, (laidL S args).length, laidL S args⟩]) ∧ G x w') := hide fun x b c' g hr => by
          rw [← hmv]
          have := new_ok (unhide MM x g) fn hf hr ht (unhide OP f (fmAt_mem hf))
          rw [hS, Int.toNat_natCast] at this
          exact this
        have MF : Hid (∀ x, G w2 x → Calls Tryd.prog 14 #[.agg #[.slice so m.sh.length sc, .slice go m.gl.length gc, .slice co m.co.length cc, .slice mo_ m.ca.length mc_, .slice fo k fc, .int .i64 m.main], .int .i64 fn, .slice ao n c] x fun e w' => e = .returned (.bool true) ∧ G x w') := hide fun x g => by rw [← hmv, ← hmay]; exact unhide MY x g fn ao n c
        have LD : Hid (∀ x, G w2 x → Calls Tryd.prog 15 #[.agg #[.slice so m.sh.length sc, .slice go m.gl.length gc, .slice co m.co.length cc, .slice mo_ m.ca.length mc_, .slice fo k fc, .int .i64 m.main], .int .i64 fn, .slice ao n c] x fun e w' => ∃ b, e = .returned (.agg #[.int .i64 fn, .int .i64 0, .slice (some ⟨b, 0, none⟩) S S]) ∧ Hid (LdTo x S args b w')) := hide fun x g => by rw [← hmv]; exact laid_any (unhide MM x g) fn hf (unhide AA x g) ht S hS
        have hlS : Hid (args.length ≤ S) := hide (by have := (unhide ha).1; omega)
        have E0 : Hid (∀ sb b2, PlE m [⟨fn, 0, sb, (laidL S args).length, laidL S args⟩] [⟨fn, 0, b2, S, laidL S args⟩] 1) := hide fun sb b2 => ⟨rfl, fun g hg => by simp at hg; subst hg; simp only; rw [laidL_len (unhide hlS)]; omega, fun g hg => by simp at hg; subst hg; exact ⟨f, hf⟩, Nat.le_refl _⟩
        clear hmay hf ht hS0 hS
        go_wp2_with fail
        refine wp_region_noPanic ?_
        refine wp_region_held_drew (S := fun x => G w2 x) (by kernel_rfl) (G.drewN w2 1) (fun hHeld => ?_)
        obtain ⟨y1, hy1⟩ : ∃ y, y = w2.drew := ⟨_, rfl⟩
        rw [← hy1] at hHeld ⊢
        clear hy1
        refine wpAnyH_take (i := 0) (v := .agg #[.slice so m.sh.length sc, .slice go m.gl.length gc, .slice co m.co.length cc, .slice mo_ m.ca.length mc_, .slice fo k fc, .int .i64 m.main]) rfl (by kernel_rfl) (by kernel_rfl) (by kernel_rfl) (fun _ _ _ h => h) (Or.inl ⟨by rfl, fun w hSw => by obtain ⟨c0, c1, c2, c3, c4, c5⟩ := unhide MB2 w hSw; go_simp⟩) (by assumption) ?_
        try simp only [Act.put, List.getElem_toArray, List.getElem_cons_zero, List.setIfInBounds_toArray, List.set_cons_zero, List.set_cons_succ]
        refine wpAnyH_take (i := 1) (v := .int .i64 fn) rfl (by kernel_rfl) (by kernel_rfl) (by kernel_rfl) (fun _ _ _ h => h) (Or.inl ⟨by rfl, fun w hSw => by go_simp⟩) (by assumption) ?_
        try simp only [Act.put, List.getElem_toArray, List.getElem_cons_succ, List.getElem_cons_zero, List.setIfInBounds_toArray, List.set_cons_zero, List.set_cons_succ]
        refine wpAnyH_take (i := 3) (v := .slice ao n c) rfl (by kernel_rfl) (by kernel_rfl) (by kernel_rfl) (fun _ _ _ h => h) (Or.inl ⟨by rfl, fun w hSw => by go_simp⟩) (by assumption) ?_
        try simp only [Act.put, List.getElem_toArray, List.getElem_cons_succ, List.getElem_cons_zero, List.setIfInBounds_toArray, List.set_cons_zero, List.set_cons_succ]
        refine wpAnyH_ready (rs := [2]) (by kernel_rfl) (by simp) ?_
        refine AllReadyH.cons rfl (fun K hK => ?_) AllReadyH.nil
        go_simp
        obtain ⟨b, c', x', hrun, hgx, hrx⟩ := unhide AP y1 hHeld
        refine hK.out _ _ (hHeld.more _) (fun hH1 => ?_)
        clear hK K
        try simp only [Act.put, List.getElem_toArray, List.getElem_cons_succ, List.getElem_cons_zero, List.setIfInBounds_toArray, List.set_cons_zero, List.set_cons_succ]
        refine wpAnyH_ready (rs := [4]) (by kernel_rfl) (by simp) ?_
        refine AllReadyH.cons rfl (fun K hK => ?_) AllReadyH.nil
        rw [if_pos (by rfl)]
        refine op_app (.tmp 74) (.tmp 75) 29 rfl _ _ rfl rfl _ _ hrun ?_
        have hH2 := hHeld.trans hgx
        refine hK.out _ _ hH2 (fun hH3 => ?_)
        clear hK K hrun
        try simp only [Act.put, List.getElem_toArray, List.getElem_cons_succ, List.getElem_cons_zero, List.setIfInBounds_toArray, List.set_cons_zero, List.set_cons_succ]
        refine wpAnyH_ready (rs := [5]) (by kernel_rfl) (by simp) ?_
        refine AllReadyH.cons rfl (fun K hK => ?_) AllReadyH.nil
        go_simp
        refine (unhide NW x' b c' hH2 hrx).mono ?_
        rintro e w3 ⟨s, v, sb, rfl, SK3, g3⟩
        go_wp2_with fail
        have hH4 := hH2.trans g3
        refine hK.out _ _ hH4 (fun hH5 => ?_)
        clear hK K
        try simp only [Act.put, List.getElem_toArray, List.getElem_cons_succ, List.getElem_cons_zero, List.setIfInBounds_toArray, List.set_cons_zero, List.set_cons_succ]
        refine wpAnyH_take (i := 6) (v := .tuple #[.pointer (some ⟨s, 0, none⟩), .int .i64 0]) rfl (by kernel_rfl) (by kernel_rfl) (by kernel_rfl) (fun _ _ _ h => h) (Or.inl ⟨by rfl, fun w hSw => by go_simp⟩) (by assumption) ?_
        try simp only [Act.put, List.getElem_toArray, List.getElem_cons_succ, List.getElem_cons_zero, List.setIfInBounds_toArray, List.set_cons_zero, List.set_cons_succ]
        refine wpAnyH_take (i := 7) (v := .pointer (some ⟨s, 0, none⟩)) rfl (by kernel_rfl) (by kernel_rfl) (by kernel_rfl) (fun _ _ _ h => h) (Or.inl ⟨by rfl, fun w hSw => by go_simp⟩) (by assumption) ?_
        try simp only [Act.put, List.getElem_toArray, List.getElem_cons_succ, List.getElem_cons_zero, List.setIfInBounds_toArray, List.set_cons_zero, List.set_cons_succ]
        refine wpAnyH_take (i := 8) (v := .int .i64 0) rfl (by kernel_rfl) (by kernel_rfl) (by kernel_rfl) (fun _ _ _ h => h) (Or.inl ⟨by rfl, fun w hSw => by go_simp⟩) (by assumption) ?_
        try simp only [Act.put, List.getElem_toArray, List.getElem_cons_succ, List.getElem_cons_zero, List.setIfInBounds_toArray, List.set_cons_zero, List.set_cons_succ]
        refine wpAnyH_take (i := 9) (v := .pointer (some ⟨s, 0, none⟩)) rfl (by kernel_rfl) (by kernel_rfl) (by kernel_rfl) (fun _ _ _ h => h) (Or.inl ⟨by rfl, fun w hSw => by go_simp⟩) (by assumption) ?_
        try simp only [Act.put, List.getElem_toArray, List.getElem_cons_succ, List.getElem_cons_zero, List.setIfInBounds_toArray, List.set_cons_zero, List.set_cons_succ]
        refine wpAnyH_take (i := 10) (v := .int .i64 0) rfl (by kernel_rfl) (by kernel_rfl) (by kernel_rfl) (fun _ _ _ h => h) (Or.inl ⟨by rfl, fun w hSw => by go_simp⟩) (by assumption) ?_
        try simp only [Act.put, List.getElem_toArray, List.getElem_cons_succ, List.getElem_cons_zero, List.setIfInBounds_toArray, List.set_cons_zero, List.set_cons_succ]
        refine wpAnyH_done (by kernel_rfl) (NoPanic.normal ?_) _
        obtain ⟨c0, c1, c2, c3, c4, c5⟩ := unhide MB2 w3 hH4
        obtain ⟨B, hB⟩ : ∃ B, B = x'.heap.size := ⟨_, rfl⟩
        rw [← hB] at SK3
        have HB := hide (show w2.heap.size ≤ B ∧ B ≤ w3.heap.size from ⟨by rw [hB]; exact hH2.size, by rw [hB]; exact g3.size⟩)
        replace hH4 := hide hH4
        clear NW hHeld hH1 hH2 hH3 hH5 hgx hrx g3 hB
        go_wp2_with fail
        refine (unhide MF _ (unhide hH4)).mono ?_
        rintro e w4 ⟨rfl, g4⟩
        have H4 := hide ((unhide hH4).trans g4)
        have SK4 := hide ((unhide SK3).g g4)
        have HB4 := hide (show w2.heap.size ≤ B ∧ B ≤ w4.heap.size from ⟨(unhide HB).1, Nat.le_trans (unhide HB).2 g4.size⟩)
        clear MF g4 hH4 SK3 HB c0 c1 c2 c3 c4 c5
        obtain ⟨c0, c1, c2, c3, c4, c5⟩ := unhide MB2 w4 (unhide H4)
        go_wp2_with fail
        refine (unhide LD _ (unhide H4)).mono ?_
        rintro e w5 ⟨b2, rfl, HLD⟩
        clear LD c0 c1 c2 c3 c4 c5
        have PJ := hide (pl_start (unhide SK4) (unhide HB4).1 (unhide HB4).2 (unhide H4) fn S args (unhide hlS) b2 (unhide HLD))
        have PE := hide (unhide E0 sb b2)
        have ST : Hid (∃ v L L2, PlJ w2 (w5.alloc (.cells #[.int .i64 fn, .int .i64 0, .slice (some ⟨b2, 0, none⟩) S S] 46)) B s v L (.slice (some ⟨w5.heap.size, 0, none⟩) 1 1) L2 ∧ PlE m L L2 (0 + 1)) := hide ⟨_, _, _, unhide PJ, unhide PE⟩
        clear PJ PE E0 HLD HB4 SK4 H4 hlS
        go_wp2_with fail
        go_loopw [12, 13] (fun fv i wr => ∃ t : Nat, t ≤ ln ∧ i = .int .i64 t ∧ Hid (∃ v L L2, PlJ w2 wr B s v L fv L2 ∧ PlE m L L2 (t + 1))) (fun _ i _ => ln - (intOf i).toNat)
        case atStart => exact ⟨0, Nat.zero_le _, rfl, ST⟩
        case round =>
          obtain ⟨t, ht, rfl, HP⟩ := hrel
          clear ST
          by_cases htl : t < ln
          · obtain ⟨lb, loff, a, cs, rfl, hat, ecs, hcs⟩ := row_get (unhide hl) htl
            obtain ⟨ao', c', rfl, har⟩ := ecs
            obtain ⟨v, L, L2, PJ, PE⟩ := unhide HP
            obtain ⟨ao2, c2', hv2, hv2s⟩ := PJ.rk.v
            subst hv2
            have gWr : G W wr := (unhide GE).trans PJ.g
            have hx := hcs wr gWr
            have a0 := hx 0 _ rfl
            have a1 := hx 1 _ rfl
            have a2 := hx 2 _ rfl
            have a3 := hx 3 _ rfl
            have a4 := hx 4 _ rfl
            change wr.cell? ⟨lb, loff + t * 5, none⟩ = _ at a0
            change wr.cell? ⟨lb, loff + t * 5 + 1, none⟩ = _ at a1
            change wr.cell? ⟨lb, loff + t * 5 + 2, none⟩ = _ at a2
            change wr.cell? ⟨lb, loff + t * 5 + 3, none⟩ = _ at a3
            change wr.cell? ⟨lb, loff + t * 5 + 4, none⟩ = _ at a4
            obtain ⟨aop, afn, an, av, aar⟩ := a
            simp only at a0 a1 a2 a3 a4 har
            obtain ⟨N2, hN2⟩ : ∃ N2, N2 = L2.length := ⟨_, rfl⟩
            obtain ⟨A, hA⟩ : ∃ A, A = aar.length := ⟨_, rfl⟩
            rw [← hA] at a4 har
            have hlen := PE.len2
            have hlL := PE.len
            have ht60 : t < 60 := by have := unhide HL6; omega
            obtain ⟨wa, hwa⟩ : ∃ wa, wa = wr.alloc (.cells #[.int .i64 aop, .int .i64 afn, .int .i64 an, .int .i64 av, .slice ao' A c'] 50) := ⟨_, rfl⟩
            have ga : G wr wa := by rw [hwa]; exact G.alloc _ _
            have BX : Hid (∀ x D, TrB wa x D → ¬ D wr.heap.size → x.cell? ⟨wr.heap.size, 0, none⟩ = some (.int .i64 aop) ∧ x.cell? ⟨wr.heap.size, 1, none⟩ = some (.int .i64 afn) ∧ x.cell? ⟨wr.heap.size, 2, none⟩ = some (.int .i64 an) ∧ x.cell? ⟨wr.heap.size, 3, none⟩ = some (.int .i64 av) ∧ x.cell? ⟨wr.heap.size, 4, none⟩ = some (.slice ao' A c')) := hide fun x D h hd => by
              refine ⟨h.cell ?_ hd, h.cell ?_ hd, h.cell ?_ hd, h.cell ?_ hd, h.cell ?_ hd⟩
              all_goals (rw [hwa, cell_of_row _ _ _ _ _ _ (heap_alloc_new wr _)]; rfl)
            have PJa := hide (PJ.gr ga)
            have NSK : Hid (¬ SKb s v L wr.heap.size ∧ ¬ RKb (.slice ao2 L2.length c2') L2 wr.heap.size) := hide ⟨fun hb => by have := (PJ.sk.lt _ hb).1; omega, fun hb => by have := (PJ.rk.lt _ hb).1; omega⟩
            replace har := hide har
            have HTL : Hid (∀ x fv, (∃ v L L2, PlJ w2 x B s v L fv L2 ∧ PlE m L L2 (t + 1 + 1)) → x.cell? ⟨W.heap.size, 0, none⟩ = some (.slice so m.sh.length sc) ∧ x.cell? ⟨W.heap.size, 1, none⟩ = some (.slice go m.gl.length gc) ∧ x.cell? ⟨W.heap.size, 2, none⟩ = some (.slice co m.co.length cc) ∧ x.cell? ⟨W.heap.size, 3, none⟩ = some (.slice mo_ m.ca.length mc_) ∧ x.cell? ⟨W.heap.size, 4, none⟩ = some (.slice fo k fc) ∧ x.cell? ⟨W.heap.size, 5, none⟩ = some (.int .i64 m.main) ∧
                Calls Tryd.prog 19 #[.agg #[.slice so m.sh.length sc, .slice go m.gl.length gc, .slice co m.co.length cc, .slice mo_ m.ca.length mc_, .slice fo k fc, .int .i64 m.main], .pointer (some ⟨s, 0, none⟩), fv] x fun e w' => e = .returned (.bool true) ∧ Hid (∃ v L L2, PlJ w2 w' B s v L fv L2 ∧ PlE m L L2 (t + 1 + 1))) := hide fun x fv ⟨v, L, L2, h, e⟩ => by
              obtain ⟨h0, h1, h2, h3, h4, h5⟩ := unhide MB2 x h.g
              refine ⟨h0, h1, h2, h3, h4, h5, ?_⟩
              rw [← hmv]
              refine (pl_held h e (by omega) (unhide MM x h.g) (unhide OU) ((unhide hT).g ((unhide GE).trans h.g))).mono ?_
              rintro e' w' ⟨rfl, g⟩
              exact ⟨rfl, hide ⟨v, L, L2, h.gr g, e⟩⟩
            have hwt : wrap64 ((t : Int) + 1) = ((t + 1 : Nat) : Int) := by unfold wrap64; omega
            have hltr : lb < wr.heap.size := World.block_lt_of_cell? wr _ a0
            replace PE := hide PE
            have HLL := hide (show L2.length = L.length ∧ L.length ≤ t + 1 ∧ t < 60 from ⟨hlen, hlL, ht60⟩)
            rw [← hN2]
            replace hA := hide hA
            clear HP hcs hx hat PJ gWr hlen hlL
            go_upto_region 20 with fail
            rw [← hwa]
            clear hwa a0 a1 a2 a3 a4 hltr
            obtain ⟨b0, b1, b2', b3, b4⟩ := unhide BX wa (fun _ => False) (TrB.refl wa _) (fun h => h)
            by_cases hop0 : aop = 0
            · subst hop0
              by_cases hA1 : 100 < A
              · have GF := hide ((unhide GE).trans (unhide PJa).g)
                go_wp2_with fail
                go_ret
                exact ⟨rfl, unhide GF⟩
              · have PK : Hid (PlJ w2 wa B s v L (.slice ao2 N2 c2') L2) := by rw [hN2]; exact PJa
                replace hN2 := hide hN2
                clear PJa hv2s
                have AQ : Hid (∀ x, G w2 x → RowAt elI x ao' A c' aar) := hide fun x g => (unhide har).g okI ((unhide GE).trans g)
                have AP2 : Hid (∀ x, G w2 x → ∃ b c9 x', (Builtin.append_ #[29, 29] 29 #[.slice (some ⟨x.heap.size, 0, none⟩) 0 0, .slice ao' A c']).run Tryd.prog (x.alloc (.cells #[] 2)) = .ok (.slice (some ⟨b, 0, none⟩) A c9) x' ∧ G x x' ∧ RowAt elI x' (some ⟨b, 0, none⟩) A c9 aar) := hide fun x g => by
                  obtain ⟨i, hi, hz, hs, hb⟩ := info_parts info_int64
                  have hr := (unhide AQ x g).g okI (G.alloc x (.cells #[] 2))
                  obtain ⟨b, c9, x', h1, h2, h3, _⟩ := app_new (Value.int .i64) (fun _ => rfl) 29 2 i _ Tryd.underlying29 hi hz hs (by rw [hb]; decide) hr (by omega) x.heap.size 29
                  exact ⟨b, c9, x', h1, (G.alloc x _).trans h2, h3⟩
                have SG : Hid (∀ x, G wa x → G w2 x ∧ TrB wa x (SKb s v L)) := hide fun x g => ⟨(unhide PK).g.trans g, TrB.of_G _ g⟩
                cases hmay : mayB m afn A
                · have NB : Hid (∀ x b c9, G wa x → Calls Tryd.prog 10 #[.pointer (some ⟨s, 0, none⟩), .agg #[.slice so m.sh.length sc, .slice go m.gl.length gc, .slice co m.co.length cc, .slice mo_ m.ca.length mc_, .slice fo k fc, .int .i64 m.main], .int .i64 afn, .slice (some ⟨b, 0, none⟩) A c9] x fun e w' => e = .returned (.int .i64 1) ∧ G x w') := hide fun x b c9 g => by
                    rw [← hmv]
                    exact call_bad ((unhide PK).sk.g g) (unhide MM x ((unhide PK).g.trans g)) afn _ A c9 (by omega) (fun f hf => by unfold mayB at hmay; rw [hf] at hmay; exact hmay) (by have := unhide HLL; omega) (fun f hf => unhide OP f (fmAt_mem hf))
                  have MF : Hid (∀ x, G wa x → Calls Tryd.prog 14 #[.agg #[.slice so m.sh.length sc, .slice go m.gl.length gc, .slice co m.co.length cc, .slice mo_ m.ca.length mc_, .slice fo k fc, .int .i64 m.main], .int .i64 afn, .slice ao' A c'] x fun e w' => e = .returned (.bool false) ∧ G x w') := hide fun x g => by rw [← hmv, ← hmay]; exact unhide MY x ((unhide PK).g.trans g) afn ao' A c'
                  clear hmay
                  go_wp2_with fail
                  clear b0 b1 b2' b3 b4
                  refine wp_region_noPanic ?_
                  refine wp_region_held_drew (S := fun x => G w2 x ∧ TrB wa x (SKb s v L)) (by kernel_rfl) (unhide SG _ (G.drewN wa 1)) (fun hHeld => ?_)
                  obtain ⟨y1, hy1⟩ : ∃ y, y = wa.drew := ⟨_, rfl⟩
                  have gy : G wa y1 := by rw [hy1]; exact G.drewN wa 1
                  rw [← hy1] at hHeld ⊢
                  clear hy1
                  refine wpAnyH_take (i := 0) (v := .pointer (some ⟨s, 0, none⟩)) rfl (by kernel_rfl) (by kernel_rfl) (by kernel_rfl) (fun _ _ _ h => h) (Or.inl ⟨by rfl, fun w hSw => by go_simp⟩) (by assumption) ?_
                  try simp only [Act.put, List.getElem_toArray, List.getElem_cons_zero, List.setIfInBounds_toArray, List.set_cons_zero, List.set_cons_succ]
                  refine wpAnyH_take (i := 1) (v := .agg #[.slice so m.sh.length sc, .slice go m.gl.length gc, .slice co m.co.length cc, .slice mo_ m.ca.length mc_, .slice fo k fc, .int .i64 m.main]) rfl (by kernel_rfl) (by kernel_rfl) (by kernel_rfl) (fun _ _ _ h => h) (Or.inl ⟨by rfl, fun w hSw => by obtain ⟨c0, c1, c2, c3, c4, c5⟩ := unhide MB2 w hSw.1; go_simp⟩) (by assumption) ?_
                  try simp only [Act.put, List.getElem_toArray, List.getElem_cons_succ, List.getElem_cons_zero, List.setIfInBounds_toArray, List.set_cons_zero, List.set_cons_succ]
                  refine wpAnyH_take (i := 2) (v := .pointer (some ⟨wr.heap.size, 1, none⟩)) rfl (by kernel_rfl) (by kernel_rfl) (by kernel_rfl) (fun _ _ _ h => h) (Or.inl ⟨by rfl, fun w hSw => by go_simp⟩) (by assumption) ?_
                  try simp only [Act.put, List.getElem_toArray, List.getElem_cons_succ, List.getElem_cons_zero, List.setIfInBounds_toArray, List.set_cons_zero, List.set_cons_succ]
                  refine wpAnyH_take (i := 3) (v := .int .i64 afn) rfl (by kernel_rfl) (by kernel_rfl) (by kernel_rfl) (fun _ _ _ h => h) (Or.inl ⟨by rfl, fun w hSw => by obtain ⟨b0, b1, b2', b3, b4⟩ := unhide BX w _ hSw.2 (unhide NSK).1; go_simp⟩) (by assumption) ?_
                  try simp only [Act.put, List.getElem_toArray, List.getElem_cons_succ, List.getElem_cons_zero, List.setIfInBounds_toArray, List.set_cons_zero, List.set_cons_succ]
                  refine wpAnyH_take (i := 5) (v := .pointer (some ⟨wr.heap.size, 4, none⟩)) rfl (by kernel_rfl) (by kernel_rfl) (by kernel_rfl) (fun _ _ _ h => h) (Or.inl ⟨by rfl, fun w hSw => by go_simp⟩) (by assumption) ?_
                  try simp only [Act.put, List.getElem_toArray, List.getElem_cons_succ, List.getElem_cons_zero, List.setIfInBounds_toArray, List.set_cons_zero, List.set_cons_succ]
                  refine wpAnyH_take (i := 6) (v := .slice ao' A c') rfl (by kernel_rfl) (by kernel_rfl) (by kernel_rfl) (fun _ _ _ h => h) (Or.inl ⟨by rfl, fun w hSw => by obtain ⟨b0, b1, b2', b3, b4⟩ := unhide BX w _ hSw.2 (unhide NSK).1; go_simp⟩) (by assumption) ?_
                  try simp only [Act.put, List.getElem_toArray, List.getElem_cons_succ, List.getElem_cons_zero, List.setIfInBounds_toArray, List.set_cons_zero, List.set_cons_succ]
                  refine wpAnyH_ready (rs := [4]) (by kernel_rfl) (by simp) ?_
                  refine AllReadyH.cons rfl (fun K hK => ?_) AllReadyH.nil
                  go_simp
                  obtain ⟨b, c9, x', hrun, hgx, hrx⟩ := unhide AP2 y1 hHeld.1
                  refine hK.out _ _ (unhide SG _ (gy.more _)) (fun hH1 => ?_)
                  clear hK K
                  try simp only [Act.put, List.getElem_toArray, List.getElem_cons_succ, List.getElem_cons_zero, List.setIfInBounds_toArray, List.set_cons_zero, List.set_cons_succ]
                  refine wpAnyH_ready (rs := [7]) (by kernel_rfl) (by simp) ?_
                  refine AllReadyH.cons rfl (fun K hK => ?_) AllReadyH.nil
                  rw [if_pos (by rfl)]
                  refine op_app (.tmp 163) (.tmp 165) 29 rfl _ _ rfl rfl _ _ hrun ?_
                  have gx := gy.trans hgx
                  refine hK.out _ _ (unhide SG _ gx) (fun hH3 => ?_)
                  clear hK K hrun
                  try simp only [Act.put, List.getElem_toArray, List.getElem_cons_succ, List.getElem_cons_zero, List.setIfInBounds_toArray, List.set_cons_zero, List.set_cons_succ]
                  refine wpAnyH_ready (rs := [8]) (by kernel_rfl) (by simp) ?_
                  refine AllReadyH.cons rfl (fun K hK => ?_) AllReadyH.nil
                  go_simp
                  refine (unhide NB x' b c9 gx).mono ?_
                  rintro e w3 ⟨rfl, g3⟩
                  go_wp2_with fail
                  have gx3 := gx.trans g3
                  refine hK.out _ _ (unhide SG _ gx3) (fun hH5 => ?_)
                  clear hK K
                  try simp only [Act.put, List.getElem_toArray, List.getElem_cons_succ, List.getElem_cons_zero, List.setIfInBounds_toArray, List.set_cons_zero, List.set_cons_succ]
                  refine wpAnyH_take (i := 9) (v := .int .i64 1) rfl (by kernel_rfl) (by kernel_rfl) (by kernel_rfl) (fun _ _ _ h => h) (Or.inl ⟨by rfl, fun w hSw => by go_simp⟩) (by assumption) ?_
                  try simp only [Act.put, List.getElem_toArray, List.getElem_cons_succ, List.getElem_cons_zero, List.setIfInBounds_toArray, List.set_cons_zero, List.set_cons_succ]
                  refine wpAnyH_done (by kernel_rfl) (NoPanic.normal ?_) _
                  obtain ⟨c0, c1, c2, c3, c4, c5⟩ := unhide MB2 w3 (unhide SG _ gx3).1
                  obtain ⟨b0, b1, b2', b3, b4⟩ := unhide BX w3 _ (unhide SG _ gx3).2 (unhide NSK).1
                  replace gx3 := hide gx3
                  clear hHeld hH1 hH3 hH5 gx g3 gy hgx hrx
                  go_wp2_with fail
                  refine (unhide MF w3 (unhide gx3)).mono ?_
                  rintro e w4 ⟨rfl, g4⟩
                  have HT1 := hide (unhide HTL w4 (.slice ao2 N2 c2') ⟨v, L, L2, (unhide PK).gr ((unhide gx3).trans g4), (unhide PE).more (by omega)⟩)
                  clear c0 c1 c2 c3 c4 c5 b0 b1 b2' b3 b4 g4 MF NB
                  obtain ⟨c0, c1, c2, c3, c4, c5, CH⟩ := unhide HT1
                  replace CH := hide CH
                  clear HT1 HTL
                  go_wp2_with fail
                  refine (unhide CH).mono ?_
                  rintro e w10 ⟨rfl, HP⟩
                  clear CH c0 c1 c2 c3 c4 c5
                  go_wp2_with fail
                  go_roundw
                  case rel => exact ⟨t + 1, by omega, congrArg _ (by omega), HP⟩
                  case measure => simp only [intOf]; omega
                · obtain ⟨f, hf, ht⟩ : ∃ f, fmAt m afn = some f ∧ tkP f A = true := by
                    unfold mayB at hmay
                    cases hq : fmAt m afn with
                    | none => rw [hq] at hmay; cases hmay
                    | some f => rw [hq] at hmay; exact ⟨f, rfl, hmay⟩
                  have hS0 : 0 ≤ f.s ∧ f.s ≤ 64 ∧ (A : Int) ≤ f.s := by unfold tkP at ht; simp at ht; omega
                  obtain ⟨S, hS⟩ : ∃ S : Nat, f.s = S := ⟨f.s.toNat, by omega⟩
                  have hlS : Hid (aar.length ≤ S) := hide (by have := unhide hA; omega)
                  have NB : Hid (∀ x b c9, G wa x → RowAt elI x (some ⟨b, 0, none⟩) A c9 aar → Calls Tryd.prog 10 #[.pointer (some ⟨s, 0, none⟩), .agg #[.slice so m.sh.length sc, .slice go m.gl.length gc, .slice co m.co.length cc, .slice mo_ m.ca.length mc_, .slice fo k fc, .int .i64 m.main], .int .i64 afn, .slice (some ⟨b, 0, none⟩) A c9] x fun e w' => e = .returned (.int .i64 0) ∧ Hid (∃ sb v', PlJ w2 w' B s v' (L ++ [⟨afn, 0, sb, (laidL S aar).length, laidL S aar⟩]) (.slice ao2 N2 c2') L2 ∧ TrB wa w' (SKb s v L))) := hide fun x b c9 g hr => by
                    rw [← hmv]
                    have := call_ok ((unhide PK).sk.g g) (Nat.le_trans (unhide PK).hB g.size) (unhide MM x ((unhide PK).g.trans g)) afn hf hr ht (by have := unhide HLL; omega) (unhide OP f (fmAt_mem hf))
                    rw [hS, Int.toNat_natCast] at this
                    refine this.mono ?_
                    rintro e w' ⟨rfl, sb, v', _, h1, h2⟩
                    exact ⟨rfl, hide ⟨sb, v', ((unhide PK).gr g).mv h1 h2, (TrB.of_G _ g).trans h2.tr (fun _ _ h => h)⟩⟩
                  have MF : Hid (∀ x, G w2 x → Calls Tryd.prog 14 #[.agg #[.slice so m.sh.length sc, .slice go m.gl.length gc, .slice co m.co.length cc, .slice mo_ m.ca.length mc_, .slice fo k fc, .int .i64 m.main], .int .i64 afn, .slice ao' A c'] x fun e w' => e = .returned (.bool true) ∧ G x w') := hide fun x g => by rw [← hmv, ← hmay]; exact unhide MY x g afn ao' A c'
                  have LD : Hid (∀ x, G w2 x → Calls Tryd.prog 15 #[.agg #[.slice so m.sh.length sc, .slice go m.gl.length gc, .slice co m.co.length cc, .slice mo_ m.ca.length mc_, .slice fo k fc, .int .i64 m.main], .int .i64 afn, .slice ao' A c'] x fun e w' => ∃ b, e = .returned (.agg #[.int .i64 afn, .int .i64 0, .slice (some ⟨b, 0, none⟩) S S]) ∧ Hid (LdTo x S aar b w')) := hide fun x g => by rw [← hmv]; exact laid_any (unhide MM x g) afn hf (unhide AQ x g) ht S hS
                  have E0 : Hid (∀ sb b2, PlE m (L ++ [⟨afn, 0, sb, (laidL S aar).length, laidL S aar⟩]) (L2 ++ [⟨afn, 0, b2, S, laidL S aar⟩]) (t + 1 + 1)) := hide fun sb b2 => (unhide PE).app rfl (by simp only; rw [laidL_len (unhide hlS)]; omega) ⟨f, hf⟩
                  clear hmay hf ht hS0 hS
                  go_wp2_with fail
                  clear b0 b1 b2' b3 b4
                  refine wp_region_noPanic ?_
                  refine wp_region_held_drew (S := fun x => G w2 x ∧ TrB wa x (SKb s v L)) (by kernel_rfl) (unhide SG _ (G.drewN wa 1)) (fun hHeld => ?_)
                  obtain ⟨y1, hy1⟩ : ∃ y, y = wa.drew := ⟨_, rfl⟩
                  have gy : G wa y1 := by rw [hy1]; exact G.drewN wa 1
                  rw [← hy1] at hHeld ⊢
                  clear hy1
                  refine wpAnyH_take (i := 0) (v := .pointer (some ⟨s, 0, none⟩)) rfl (by kernel_rfl) (by kernel_rfl) (by kernel_rfl) (fun _ _ _ h => h) (Or.inl ⟨by rfl, fun w hSw => by go_simp⟩) (by assumption) ?_
                  try simp only [Act.put, List.getElem_toArray, List.getElem_cons_zero, List.setIfInBounds_toArray, List.set_cons_zero, List.set_cons_succ]
                  refine wpAnyH_take (i := 1) (v := .agg #[.slice so m.sh.length sc, .slice go m.gl.length gc, .slice co m.co.length cc, .slice mo_ m.ca.length mc_, .slice fo k fc, .int .i64 m.main]) rfl (by kernel_rfl) (by kernel_rfl) (by kernel_rfl) (fun _ _ _ h => h) (Or.inl ⟨by rfl, fun w hSw => by obtain ⟨c0, c1, c2, c3, c4, c5⟩ := unhide MB2 w hSw.1; go_simp⟩) (by assumption) ?_
                  try simp only [Act.put, List.getElem_toArray, List.getElem_cons_succ, List.getElem_cons_zero, List.setIfInBounds_toArray, List.set_cons_zero, List.set_cons_succ]
                  refine wpAnyH_take (i := 2) (v := .pointer (some ⟨wr.heap.size, 1, none⟩)) rfl (by kernel_rfl) (by kernel_rfl) (by kernel_rfl) (fun _ _ _ h => h) (Or.inl ⟨by rfl, fun w hSw => by go_simp⟩) (by assumption) ?_
                  try simp only [Act.put, List.getElem_toArray, List.getElem_cons_succ, List.getElem_cons_zero, List.setIfInBounds_toArray, List.set_cons_zero, List.set_cons_succ]
                  refine wpAnyH_take (i := 3) (v := .int .i64 afn) rfl (by kernel_rfl) (by kernel_rfl) (by kernel_rfl) (fun _ _ _ h => h) (Or.inl ⟨by rfl, fun w hSw => by obtain ⟨b0, b1, b2', b3, b4⟩ := unhide BX w _ hSw.2 (unhide NSK).1; go_simp⟩) (by assumption) ?_
                  try simp only [Act.put, List.getElem_toArray, List.getElem_cons_succ, List.getElem_cons_zero, List.setIfInBounds_toArray, List.set_cons_zero, List.set_cons_succ]
                  refine wpAnyH_take (i := 5) (v := .pointer (some ⟨wr.heap.size, 4, none⟩)) rfl (by kernel_rfl) (by kernel_rfl) (by kernel_rfl) (fun _ _ _ h => h) (Or.inl ⟨by rfl, fun w hSw => by go_simp⟩) (by assumption) ?_
                  try simp only [Act.put, List.getElem_toArray, List.getElem_cons_succ, List.getElem_cons_zero, List.setIfInBounds_toArray, List.set_cons_zero, List.set_cons_succ]
                  refine wpAnyH_take (i := 6) (v := .slice ao' A c') rfl (by kernel_rfl) (by kernel_rfl) (by kernel_rfl) (fun _ _ _ h => h) (Or.inl ⟨by rfl, fun w hSw => by obtain ⟨b0, b1, b2', b3, b4⟩ := unhide BX w _ hSw.2 (unhide NSK).1; go_simp⟩) (by assumption) ?_
                  try simp only [Act.put, List.getElem_toArray, List.getElem_cons_succ, List.getElem_cons_zero, List.setIfInBounds_toArray, List.set_cons_zero, List.set_cons_succ]
                  refine wpAnyH_ready (rs := [4]) (by kernel_rfl) (by simp) ?_
                  refine AllReadyH.cons rfl (fun K hK => ?_) AllReadyH.nil
                  go_simp
                  obtain ⟨b, c9, x', hrun, hgx, hrx⟩ := unhide AP2 y1 hHeld.1
                  refine hK.out _ _ (unhide SG _ (gy.more _)) (fun hH1 => ?_)
                  clear hK K
                  try simp only [Act.put, List.getElem_toArray, List.getElem_cons_succ, List.getElem_cons_zero, List.setIfInBounds_toArray, List.set_cons_zero, List.set_cons_succ]
                  refine wpAnyH_ready (rs := [7]) (by kernel_rfl) (by simp) ?_
                  refine AllReadyH.cons rfl (fun K hK => ?_) AllReadyH.nil
                  rw [if_pos (by rfl)]
                  refine op_app (.tmp 163) (.tmp 165) 29 rfl _ _ rfl rfl _ _ hrun ?_
                  have gx := gy.trans hgx
                  refine hK.out _ _ (unhide SG _ gx) (fun hH3 => ?_)
                  clear hK K hrun
                  try simp only [Act.put, List.getElem_toArray, List.getElem_cons_succ, List.getElem_cons_zero, List.setIfInBounds_toArray, List.set_cons_zero, List.set_cons_succ]
                  refine wpAnyH_ready (rs := [8]) (by kernel_rfl) (by simp) ?_
                  refine AllReadyH.cons rfl (fun K hK => ?_) AllReadyH.nil
                  go_simp
                  refine (unhide NB x' b c9 gx hrx).mono ?_
                  rintro e w3 ⟨rfl, J3⟩
                  go_wp2_with fail
                  have S3 : G w2 w3 ∧ TrB wa w3 (SKb s v L) := by obtain ⟨sb, v', h, h'⟩ := unhide J3; exact ⟨h.g, h'⟩
                  refine hK.out _ _ S3 (fun hH5 => ?_)
                  clear hK K
                  try simp only [Act.put, List.getElem_toArray, List.getElem_cons_succ, List.getElem_cons_zero, List.setIfInBounds_toArray, List.set_cons_zero, List.set_cons_succ]
                  refine wpAnyH_take (i := 9) (v := .int .i64 0) rfl (by kernel_rfl) (by kernel_rfl) (by kernel_rfl) (fun _ _ _ h => h) (Or.inl ⟨by rfl, fun w hSw => by go_simp⟩) (by assumption) ?_
                  try simp only [Act.put, List.getElem_toArray, List.getElem_cons_succ, List.getElem_cons_zero, List.setIfInBounds_toArray, List.set_cons_zero, List.set_cons_succ]
                  refine wpAnyH_done (by kernel_rfl) (NoPanic.normal ?_) _
                  obtain ⟨c0, c1, c2, c3, c4, c5⟩ := unhide MB2 w3 S3.1
                  obtain ⟨b0, b1, b2', b3, b4⟩ := unhide BX w3 _ S3.2 (unhide NSK).1
                  replace S3 := hide S3
                  clear hHeld hH1 hH3 hH5 gx gy hgx hrx
                  go_wp2_with fail
                  refine (unhide MF w3 (unhide S3).1).mono ?_
                  rintro e w4 ⟨rfl, g4⟩
                  have S4 : Hid (G w2 w4 ∧ TrB wa w4 (SKb s v L)) := hide ⟨(unhide S3).1.trans g4, (unhide S3).2.more g4⟩
                  have J4 : Hid (∃ sb v', PlJ w2 w4 B s v' (L ++ [⟨afn, 0, sb, (laidL S aar).length, laidL S aar⟩]) (.slice ao2 N2 c2') L2) := hide (by obtain ⟨sb, v', h, _⟩ := unhide J3; exact ⟨sb, v', h.gr g4⟩)
                  clear c0 c1 c2 c3 c4 c5 b0 b1 b2' b3 b4 g4 MF NB S3 J3
                  obtain ⟨c0, c1, c2, c3, c4, c5⟩ := unhide MB2 w4 (unhide S4).1
                  obtain ⟨b0, b1, b2', b3, b4⟩ := unhide BX w4 _ (unhide S4).2 (unhide NSK).1
                  go_wp2_with fail
                  refine (unhide LD w4 (unhide S4).1).mono ?_
                  rintro e w5 ⟨b2, rfl, HLD⟩
                  clear LD c0 c1 c2 c3 c4 c5 b0 b1 b2' b3 b4
                  obtain ⟨sb, v', J⟩ := unhide J4
                  obtain ⟨kb2, c9', x3, hrun, J5⟩ := J.app afn S aar (unhide hlS) b2 (unhide HLD) (by have := unhide HLL; omega)
                  rw [← unhide hN2] at hrun J5
                  have HT1 := hide (unhide HTL x3 (.slice (some ⟨kb2, 0, none⟩) (N2 + 1) c9') ⟨v', _, _, J5, unhide E0 sb b2⟩)
                  clear J J4 J5 HLD HTL
                  obtain ⟨c0, c1, c2, c3, c4, c5, CH⟩ := unhide HT1
                  replace CH := hide CH
                  clear HT1
                  go_wp2_with (at_builtin; refine wpl_apr rfl (.tmp 179) (.tmp 186) 48 rfl _ _ rfl rfl _ _ hrun ?_)
                  refine (unhide CH).mono ?_
                  rintro e w10 ⟨rfl, HP⟩
                  clear CH c0 c1 c2 c3 c4 c5
                  go_wp2_with fail
                  go_roundw
                  case rel => exact ⟨t + 1, by omega, congrArg _ (by omega), HP⟩
                  case measure => simp only [intOf]; omega
            rcases List.eq_nil_or_concat L2 with hL20 | ⟨L2a, f2, hL2⟩
            · subst hL20
              have hL0 : L = [] := (unhide PE).nil
              subst hL0
              have hz : N2 = 0 := hN2
              clear hN2
              subst hz
              by_cases hop1 : aop = 1
              · subst hop1
                have CR : Hid (Calls Tryd.prog 16 #[.pointer (some ⟨s, 0, none⟩)] wa fun e w' => e = .returned (.bool false) ∧ w' = wa) := hide (s_return_none (unhide PJa).sk)
                have HT1 := hide (unhide HTL wa (.slice ao2 0 c2') ⟨v, [], [], unhide PJa, (unhide PE).more (by omega)⟩)
                obtain ⟨c0, c1, c2, c3, c4, c5, CH⟩ := unhide HT1
                replace CH := hide CH
                clear HT1
                clear HTL
                go_wp2_with fail
                refine (unhide CR).mono ?_
                rintro e w9 ⟨rfl, rfl⟩
                clear CR
                go_wp2_with fail
                refine (unhide CH).mono ?_
                rintro e w10 ⟨rfl, HP⟩
                clear CH c0 c1 c2 c3 c4 c5
                go_wp2_with fail
                go_roundw
                case rel => exact ⟨t + 1, by omega, congrArg _ (by omega), HP⟩
                case measure => simp only [intOf]; omega
              by_cases hop2 : aop = 2
              · subst hop2
                have CR : Hid (Calls Tryd.prog 17 #[.pointer (some ⟨s, 0, none⟩), .int .i64 an] wa fun e w' => e = .returned (.tuple #[]) ∧ Hid (PlJ w2 w' B s v [] (.slice ao2 0 c2') [])) := hide ((s_jump (unhide PJa).sk (by simp) an).mono (by
                  rintro e w' ⟨rfl, h1, h2⟩
                  exact ⟨rfl, hide ((unhide PJa).mv h1 h2)⟩))
                go_wp2_with fail
                refine (unhide CR).mono ?_
                rintro e w9 ⟨rfl, J9⟩
                clear CR
                have HT1 := hide (unhide HTL w9 (.slice ao2 0 c2') ⟨v, [], [], unhide J9, (unhide PE).more (by omega)⟩)
                obtain ⟨c0, c1, c2, c3, c4, c5, CH⟩ := unhide HT1
                replace CH := hide CH
                clear HT1
                clear HTL J9 b0 b1 b2' b3 b4
                go_wp2_with fail
                refine (unhide CH).mono ?_
                rintro e w10 ⟨rfl, HP⟩
                clear CH c0 c1 c2 c3 c4 c5
                go_wp2_with fail
                go_roundw
                case rel => exact ⟨t + 1, by omega, congrArg _ (by omega), HP⟩
                case measure => simp only [intOf]; omega
              have CR : Hid (Calls Tryd.prog 18 #[.pointer (some ⟨s, 0, none⟩), .int .i64 an, .int .i64 av] wa fun e w' => e = .returned (.tuple #[]) ∧ Hid (PlJ w2 w' B s v [] (.slice ao2 0 c2') [])) := hide ((s_set (unhide PJa).sk (by simp) an av).mono (by
                rintro e w' ⟨rfl, h1, h2⟩
                exact ⟨rfl, hide ((unhide PJa).mv h1 h2)⟩))
              go_wp2_with fail
              refine (unhide CR).mono ?_
              rintro e w9 ⟨rfl, J9⟩
              clear CR
              have HT1 := hide (unhide HTL w9 (.slice ao2 0 c2') ⟨v, [], [], unhide J9, (unhide PE).more (by omega)⟩)
              obtain ⟨c0, c1, c2, c3, c4, c5, CH⟩ := unhide HT1
              clear CH HT1
              have CH : Hid (∀ nq, _) := hide fun nq => (unhide HTL (w9.drewN nq) (.slice ao2 0 c2') ⟨v, [], [], (unhide J9).gr (G.drewN w9 nq), (unhide PE).more (by omega)⟩).2.2.2.2.2.2
              clear HTL J9 b0 b1 b2' b3 b4
              go_wp2_with fail
              go_quiet (fail)
              go_wp2_with fail
              refine (unhide CH nq).mono ?_
              rintro e w10 ⟨rfl, HP⟩
              clear CH c0 c1 c2 c3 c4 c5
              go_wp2_with fail
              go_roundw
              case rel => exact ⟨t + 1, by omega, congrArg _ (by omega), HP⟩
              case measure => simp only [intOf]; omega
            · rw [List.concat_eq_append] at hL2
              subst hL2
              obtain ⟨La, f, hL⟩ : ∃ La f, L = La ++ [f] := by
                rcases List.eq_nil_or_concat L with h | ⟨a, b, h⟩
                · have := (unhide HLL).1
                  rw [h] at this
                  simp at this
                · exact ⟨a, b, by rw [h, List.concat_eq_append]⟩
              subst hL
              obtain ⟨kb, rfl⟩ := hv2s (by simp)
              obtain ⟨Na, hNa⟩ : ∃ Na, Na = L2a.length := ⟨_, rfl⟩
              obtain rfl : N2 = Na + 1 := by rw [hN2, hNa]; simp
              have hLa : La.length = Na ∧ Na ≤ 900 := by
                have := unhide HLL
                simp at this
                omega
              obtain ⟨hLa, hN9⟩ := hLa
              have PK : Hid (PlJ w2 wa B s v (La ++ [f]) (.slice (some ⟨kb, 0, none⟩) (Na + 1) c2') (L2a ++ [f2])) := by rw [hN2]; exact PJa
              have hcc : Na + 1 ≤ c2' := by
                rcases (unhide PK).rk.own.2 with ⟨h', _⟩ | ⟨g', cap', cur, h', hb, hg, h4, _⟩
                · cases h'
                · simp only [Value.slice.injEq] at h'
                  obtain ⟨_, _, rfl⟩ := h'
                  rw [hNa]
                  simpa using h4
              clear hN2 hv2s PJa
              replace hNa := hide hNa
              by_cases hop1 : aop = 1
              · subst hop1
                have CR : Hid (Calls Tryd.prog 16 #[.pointer (some ⟨s, 0, none⟩)] wa fun e w' => e = .returned (.bool (decide (0 < Na))) ∧ Hid (∃ v', PlJ w2 w' B s v' La (.slice (some ⟨kb, 0, none⟩) Na c2') L2a)) := hide (by
                  rw [← hLa]
                  refine (s_return (unhide PK).sk (by omega)).mono ?_
                  rintro e w' ⟨rfl, v', h1, h2⟩
                  refine ⟨rfl, hide ⟨v', ?_⟩⟩
                  rw [hLa, unhide hNa]
                  exact ((unhide PK).mv h1 h2).pop2)
                by_cases hp : 0 < Na
                · rw [decide_eq_true hp] at CR
                  go_wp2_with fail
                  refine (unhide CR).mono ?_
                  rintro e w9 ⟨rfl, J9⟩
                  clear CR
                  have HT1 := hide (unhide HTL w9 (.slice (some ⟨kb, 0, none⟩) Na c2') (by obtain ⟨v', h⟩ := unhide J9; exact ⟨v', La, L2a, h, (unhide PE).last.1.more (by omega)⟩))
                  obtain ⟨c0, c1, c2, c3, c4, c5, CH⟩ := unhide HT1
                  replace CH := hide CH
                  clear HT1
                  clear HTL J9 b0 b1 b2' b3 b4
                  go_wp2_with fail
                  refine (unhide CH).mono ?_
                  rintro e w10 ⟨rfl, HP⟩
                  clear CH c0 c1 c2 c3 c4 c5
                  go_wp2_with fail
                  go_roundw
                  case rel => exact ⟨t + 1, by omega, congrArg _ (by omega), HP⟩
                  case measure => simp only [intOf]; omega
                · rw [decide_eq_false hp] at CR
                  go_wp2_with fail
                  refine (unhide CR).mono ?_
                  rintro e w9 ⟨rfl, J9⟩
                  clear CR
                  have HT1 := hide (unhide HTL w9 (.slice (some ⟨kb, 0, none⟩) Na c2') (by obtain ⟨v', h⟩ := unhide J9; exact ⟨v', La, L2a, h, (unhide PE).last.1.more (by omega)⟩))
                  obtain ⟨c0, c1, c2, c3, c4, c5, CH⟩ := unhide HT1
                  replace CH := hide CH
                  clear HT1
                  clear HTL J9 b0 b1 b2' b3 b4
                  go_wp2_with fail
                  refine (unhide CH).mono ?_
                  rintro e w10 ⟨rfl, HP⟩
                  clear CH c0 c1 c2 c3 c4 c5
                  go_wp2_with fail
                  go_roundw
                  case rel => exact ⟨t + 1, by omega, congrArg _ (by omega), HP⟩
                  case measure => simp only [intOf]; omega
              by_cases hop2 : aop = 2
              · subst hop2
                have CR : Hid (Calls Tryd.prog 17 #[.pointer (some ⟨s, 0, none⟩), .int .i64 an] wa fun e w' => e = .returned (.tuple #[]) ∧ Hid (PlJ w2 w' B s v (La ++ [jmpFr f an]) (.slice (some ⟨kb, 0, none⟩) (Na + 1) c2') (L2a ++ [f2]) ∧ TrB wa w' (SKb s v (La ++ [f])))) := hide ((s_jump (unhide PK).sk (by simp; omega) an).mono (by
                  rintro e w' ⟨rfl, h1, h2⟩
                  rw [jmpP_app] at h1 h2
                  exact ⟨rfl, hide ⟨(unhide PK).mv h1 h2, h2.tr⟩⟩))
                go_wp2_with fail
                refine (unhide CR).mono ?_
                rintro e w9 ⟨rfl, J9⟩
                clear CR b0 b1 b2' b3 b4
                obtain ⟨b0, b1, b2', b3, b4⟩ := unhide BX w9 _ (unhide J9).2 (unhide NSK).1
                have hg := (unhide J9).1.rk.get (last_get L2a f2)
                rw [← unhide hNa] at hg
                have f1 := (unhide J9).1.rk.fro (Na * 3 + 1)
                obtain ⟨d0, d1, d2⟩ := hg
                have HT1 := hide (unhide HTL (w9.setCell ⟨kb, Na * 3 + 1, none⟩ (.int .i64 an)) (.slice (some ⟨kb, 0, none⟩) (Na + 1) c2') (by
                  refine ⟨v, _, _, ?_, PlE.jmp (unhide PE) an⟩
                  rw [unhide hNa]
                  rw [unhide hNa] at J9
                  exact (unhide J9).1.jump2 an))
                obtain ⟨c0, c1, c2, c3, c4, c5, CH⟩ := unhide HT1
                replace CH := hide CH
                clear HT1
                clear HTL J9
                go_wp2_with fail
                refine (unhide CH).mono ?_
                rintro e w10 ⟨rfl, HP⟩
                clear CH c0 c1 c2 c3 c4 c5
                go_wp2_with fail
                go_roundw
                case rel => exact ⟨t + 1, by omega, congrArg _ (by omega), HP⟩
                case measure => simp only [intOf]; omega
              have CR : Hid (Calls Tryd.prog 18 #[.pointer (some ⟨s, 0, none⟩), .int .i64 an, .int .i64 av] wa fun e w' => e = .returned (.tuple #[]) ∧ Hid (PlJ w2 w' B s v (La ++ [setFr f an av]) (.slice (some ⟨kb, 0, none⟩) (Na + 1) c2') (L2a ++ [f2]) ∧ TrB wa w' (SKb s v (La ++ [f])))) := hide ((s_set (unhide PK).sk (by simp; omega) an av).mono (by
                rintro e w' ⟨rfl, h1, h2⟩
                rw [setP_app] at h1 h2
                exact ⟨rfl, hide ⟨(unhide PK).mv h1 h2, h2.tr⟩⟩))
              have PE2 := hide (PlE.setf (unhide PE) an av)
              go_wp2_with fail
              refine (unhide CR).mono ?_
              rintro e w9 ⟨rfl, J9⟩
              clear CR b0 b1 b2' b3 b4
              obtain ⟨b0, b1, b2', b3, b4⟩ := unhide BX w9 _ (unhide J9).2 (unhide NSK).1
              have hg := (unhide J9).1.rk.get (last_get L2a f2)
              rw [← unhide hNa] at hg
              obtain ⟨d0, d1, d2⟩ := hg
              obtain ⟨S2, hS2⟩ : ∃ S2, S2 = f2.sl.length := ⟨_, rfl⟩
              rw [← hS2] at d2
              by_cases hout : an < 0 ∨ (S2 : Int) ≤ an
              · have e9 : PlE m (La ++ [setFr f an av]) (L2a ++ [f2]) (t + 1 + 1) := by
                  have e := unhide PE2
                  rw [show setFr f2 an av = f2 from if_pos (by rw [← hS2]; exact hout)] at e
                  exact e
                replace hS2 := hide hS2
                obtain ⟨c0, c1, c2, c3, c4, c5, _⟩ := unhide HTL w9 (.slice (some ⟨kb, 0, none⟩) (Na + 1) c2') ⟨v, _, _, (unhide J9).1, e9⟩
                have CH : Hid (∀ nq, _) := hide fun nq => (unhide HTL (w9.drewN nq) (.slice (some ⟨kb, 0, none⟩) (Na + 1) c2') ⟨v, _, _, (unhide J9).1.gr (G.drewN w9 nq), e9⟩).2.2.2.2.2.2
                clear HTL J9 e9
                by_cases h0 : an < 0
                · clear hout
                  have h0' : ¬ (0 : Int) ≤ an := by omega
                  have h0d : decide ((0 : Int) ≤ an) = false := decide_eq_false h0'
                  go_wp2_with fail
                  go_quiet (fail)
                  go_wp2_with fail
                  refine (unhide CH nq).mono ?_
                  rintro e w10 ⟨rfl, HP⟩
                  clear CH c0 c1 c2 c3 c4 c5
                  go_wp2_with fail
                  go_roundw
                  case rel => exact ⟨t + 1, by omega, congrArg _ (by omega), HP⟩
                  case measure => simp only [intOf]; omega
                · obtain ⟨j, rfl⟩ : ∃ j : Nat, an = (j : Int) := ⟨an.toNat, by omega⟩
                  have h1 : ¬ j < S2 := by omega
                  clear hout h0
                  go_wp2_with fail
                  go_quiet (fail)
                  go_wp2_with fail
                  refine (unhide CH nq).mono ?_
                  rintro e w10 ⟨rfl, HP⟩
                  clear CH c0 c1 c2 c3 c4 c5
                  go_wp2_with fail
                  go_roundw
                  case rel => exact ⟨t + 1, by omega, congrArg _ (by omega), HP⟩
                  case measure => simp only [intOf]; omega
              · obtain ⟨j, rfl⟩ : ∃ j : Nat, an = (j : Int) := ⟨an.toNat, by omega⟩
                have hj : j < S2 := by omega
                have hsl := (unhide J9).1.rk.slot (last_mem L2a f2) (List.getElem?_eq_getElem (show j < f2.sl.length by rw [← hS2]; exact hj))
                have hsf := (unhide J9).1.rk.sfro (last_mem L2a f2) j
                generalize f2.sl[j]'(by rw [← hS2]; exact hj) = x0 at hsl
                have e9 : Hid (PlE m (La ++ [setFr f (j : Int) av]) (L2a ++ [⟨f2.fn, f2.pc, f2.sb, f2.sc, f2.sl.set j av⟩]) (t + 1 + 1)) := hide (by
                  have e := unhide PE2
                  rw [show setFr f2 (j : Int) av = ⟨f2.fn, f2.pc, f2.sb, f2.sc, f2.sl.set j av⟩ from if_neg (by rw [← hS2]; exact hout)] at e
                  exact e)
                replace hS2 := hide hS2
                clear hout
                go_wp2_with fail
                go_quiet (fail)
                go_wp2_with fail
                go_region
                obtain ⟨w11, hw11⟩ : ∃ w11, w11 = (w9.drewN (nq + 1)).setCell ⟨f2.sb, j, none⟩ (.int .i64 av) := ⟨_, rfl⟩
                rw [← hw11]
                have HT1 := hide (unhide HTL w11 (.slice (some ⟨kb, 0, none⟩) (Na + 1) c2') ⟨v, _, _, (by rw [hw11]; exact ((unhide J9).1.gr (G.drewN w9 (nq + 1))).set2 j av), unhide e9⟩)
                obtain ⟨c0, c1, c2, c3, c4, c5, CH⟩ := unhide HT1
                replace CH := hide CH
                clear HT1 HTL J9 hw11 hsl hsf d0 d1 d2 b0 b1 b2' b3 b4
                go_wp2_with fail
                refine (unhide CH).mono ?_
                rintro e w10 ⟨rfl, HP⟩
                clear CH c0 c1 c2 c3 c4 c5
                go_wp2_with fail
                go_roundw
                case rel => exact ⟨t + 1, by omega, congrArg _ (by omega), HP⟩
                case measure => simp only [intOf]; omega
          · obtain rfl : t = ln := by omega
            have GF := hide (by obtain ⟨v, L, L2, h, _⟩ := unhide HP; exact (unhide GE).trans h.g : Hid (G W wr))
            clear HP
            go_wp2_with fail
            go_ret
            exact ⟨rfl, unhide (unhide GF)⟩
end Go.Proofs.YtnfeommkbocgpaaDoor
