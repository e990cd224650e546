/- A writer of package code in memory; its number, signed, truth. -/
import Derived.Test.YtdekhnfncecacaaDoorCodeLay
import Derived.Test.YtdekhnfncecacaaDoorCodeP
namespace Go.Proofs.YtdekhnfncecacaaDoor
set_option maxRecDepth 100000
open Go.RowKit Go.Maps Go.ChangeShapes Go.WideShapes Go.ChangeAt Go.Deep

/-- Bytes of the call's own: a row that may be written on, or one that is full. -/
def OwnR (w : World) (B g cap : Nat) (zs : List Int) : Prop := w.ownsRow B 5 1 (.slice (some ⟨g, 0, none⟩) zs.length cap) zs.length (zs.map (Value.int .u8))
  ∨ (cap = zs.length ∧ B ≤ g ∧ g < w.heap.size ∧ ∀ (j : Nat) v, (zs.map (Value.int .u8))[j]? = some v → w.cell? ⟨g, j, none⟩ = some v)
theorem OwnR.gB {w : World} {B g cap : Nat} {zs : List Int} (h : OwnR w B g cap zs) : B ≤ g := by
  rcases h with h | ⟨_, h, _⟩
  · rcases h.2 with ⟨e, _⟩ | ⟨g0, c0, cur, e, hB, _⟩
    · simp at e
    · simp at e; omega
  · exact h
theorem OwnR.glt {w : World} {B g cap : Nat} {zs : List Int} (h : OwnR w B g cap zs) : g < w.heap.size := by
  rcases h with h | ⟨_, _, h, _⟩
  · rcases h.2 with ⟨e, _⟩ | ⟨g0, c0, cur, e, _, hh, _⟩
    · simp at e
    · simp at e
      rw [e.1]
      exact (Array.getElem?_eq_some_iff.1 hh).1
  · exact h
theorem OwnR.kept {w w' : World} {B g cap : Nat} {zs : List Int} (h : OwnR w B g cap zs) (e : w'.heap[g]? = w.heap[g]?) (hs : w.heap.size ≤ w'.heap.size) : OwnR w' B g cap zs := by
  rcases h with h | ⟨h1, h2, h3, h4⟩
  · refine Or.inl ⟨h.1, ?_⟩
    rcases h.2 with ⟨e1, _⟩ | ⟨g0, c1, cur, e1, hB, hh, r⟩
    · simp at e1
    · simp at e1
      obtain ⟨rfl, rfl⟩ := e1
      exact Or.inr ⟨g, cap, cur, rfl, hB, e.trans hh, r⟩
  · exact Or.inr ⟨h1, h2, by omega, fun j v hv => (World.cell?_of_block e).trans (h4 j v hv)⟩
theorem OwnR.row {w : World} {B g cap : Nat} {zs : List Int} (h : OwnR w B g cap zs) (hb : Byt zs) : Row w (some ⟨g, 0, none⟩) zs.length zs := by
  refine ⟨rfl, hb, Or.inr ⟨g, 0, rfl, fun i hi => ?_⟩⟩
  rw [Nat.zero_add]
  rcases h with h | ⟨_, _, _, h4⟩
  · obtain ⟨g', cap', e1, _, hz, _, hc⟩ := own_form h (by simp)
    simp at e1
    rw [e1.1]
    exact hc i hi
  · refine h4 i _ ?_
    simp [List.getElem?_eq_getElem hi]

/-- append onto bytes of the call's own, as one step of a region that draws. -/
theorem step_append_wr {ops : Array Oper} {o : Oper} {a : Act} {w : World} {K : Act → World → Prop} {Q : Exit → Act → World → Prop} {E : Prop}
    (hg : o.guard = none) (s x : Operand) (hop : o.op = Op.call { callee := Callee.builtin Builtin.append, args := #[s, x], argTypes := #[31, 31] })
    (B g cap : Nat) (zs : List Int) (hs : a.eval s = .slice (some ⟨g, 0, none⟩) zs.length cap) (hown : OwnR w B g cap zs)
    (ad : Addr) (c : Nat) (ys : List Int) (hx : a.eval x = .slice (some ad) ys.length c) (hc : ∀ j u, (ys.map (Value.int .u8))[j]? = some u → w.cell? (ad.add j) = some u)
    (hm : 0 < ys.length) (b2 : zs.length + ys.length ≤ 140737488355328) (hbase : B ≤ w.heap.size)
    (hK : ∀ g' cap' w', OwnR w' B g' cap' (zs ++ ys) → w.grownBy w' (some g) → (g' = g ∨ w.heap.size ≤ g') → K (a.put o.dst (.slice (some ⟨g', 0, none⟩) (zs.length + ys.length) cap')) w') :
    if Region.wanted o (yielded ops a.tmps) = true then Oper.wp Tryd.prog o a w K Q else E := by
  obtain ⟨i0, hi, hz0, hz1, hz2⟩ := info_parts u8info
  have hw : Region.wanted o (yielded ops a.tmps) = true := by simp [Region.wanted, hg]
  have hmk : ∀ B' v' w', B ≤ B' → w'.ownsRow B' 5 1 v' (zs.length + ys.length) (zs.map (Value.int .u8) ++ ys.map (Value.int .u8)) → ∃ g' cap', v' = .slice (some ⟨g', 0, none⟩) (zs.length + ys.length) cap' ∧ B' ≤ g' ∧ OwnR w' B g' cap' (zs ++ ys) := by
    intro B' v' w' hBB r1
    rcases r1.2 with ⟨_, h0⟩ | ⟨g', cap', cur, rfl, hB, hh, r⟩
    · omega
    · refine ⟨g', cap', rfl, hB, Or.inl ?_⟩
      rw [List.length_append, List.map_append]
      exact ⟨r1.1, Or.inr ⟨g', cap', cur, rfl, by omega, hh, r⟩⟩
  rw [if_pos hw]
  rcases hown with hown | ⟨h1, h2, h3, h4⟩
  · obtain ⟨v', w', hrun, r1, r2, _, r4⟩ := run_append_own_at (P := Tryd.prog) w B 31 o.type 5 i0 (.int .u8 0) 1 1 Tryd.underlying31 hi hz0 hz1 hz2 rfl (by decide) _ zs.length _ hown ad ys.length c _ (by simp) hc (ints_oneCell _ _) (by unfold maxLen; omega) (by omega) hbase
    obtain ⟨g', cap', rfl, _, ho⟩ := hmk B v' w' (Nat.le_refl _) r1
    unfold Oper.wp
    simp [execOp, hop, resolve, invoke, builtin, hs, hx, hrun, Result.andThen]
    refine hK g' cap' w' ho (by simpa [Value.ownBlock] using r2) ?_
    rcases r4 with r4 | r4
    · left; simpa [Value.ownBlock] using r4
    · right
      simp [Value.ownBlock] at r4
      omega
  · obtain ⟨v', w', hrun, r1, r2⟩ := run_append_arg_grows (P := Tryd.prog) w 31 o.type 5 i0 (.int .u8 0) 1 1 Tryd.underlying31 hi hz0 hz1 hz2 rfl (by decide) ⟨g, 0, none⟩ zs.length cap (zs.map (Value.int .u8)) (by simp)
      (fun j u hj => by rw [Addr.add_lit, Nat.zero_add]; exact h4 j u hj) ad ys.length c _ (by simp) hc (by omega) (by unfold maxLen; omega) (by omega)
    obtain ⟨g', cap', rfl, hB, ho⟩ := hmk w.heap.size v' w' hbase r1
    unfold Oper.wp
    simp [execOp, hop, resolve, invoke, builtin, hs, hx, hrun, Result.andThen]
    exact hK g' cap' w' ho ⟨r2.os, r2.tape, r2.output, r2.size, fun k hk _ => r2.block k hk (fun h => by cases h)⟩ (Or.inr hB)

/-- The writer at block wb: its bytes lie in block g, a block of the call's own (from B on). -/
structure WrAt (w : World) (B wb g cap : Nat) (bs : List Int) : Prop where
  c0 : w.cell? ⟨wb, 0, none⟩ = some (.slice (some ⟨g, 0, none⟩) bs.length cap)
  fz : w.frozen? ⟨wb, 0, none⟩ = false
  own : OwnR w B g cap bs
  ne : g ≠ wb
  hB : B ≤ wb
theorem WrAt.lt {w : World} {B wb g cap : Nat} {bs : List Int} (h : WrAt w B wb g cap bs) : wb < w.heap.size := World.block_lt_of_cell? w _ h.c0
theorem WrAt.gB {w : World} {B wb g cap : Nat} {bs : List Int} (h : WrAt w B wb g cap bs) : B ≤ g := h.own.gB
theorem WrAt.glt {w : World} {B wb g cap : Nat} {bs : List Int} (h : WrAt w B wb g cap bs) : g < w.heap.size := h.own.glt
/-- w' is w but for the writer's block, the bytes' block, and new ones. -/
structure Tw (w w' : World) (wb g g' : Nat) : Prop where
  os : w'.os = w.os
  tape : w'.tape = w.tape
  output : w'.output = w.output
  size : w.heap.size ≤ w'.heap.size
  block : ∀ k, k < w.heap.size → k ≠ wb → k ≠ g → w'.heap[k]? = w.heap[k]?
  own : g' = g ∨ w.heap.size ≤ g'
theorem Tw.trans {w w1 w2 : World} {wb g g1 g2 : Nat} (h : Tw w w1 wb g g1) (k : Tw w1 w2 wb g1 g2) : Tw w w2 wb g g2 := by
  refine ⟨k.os.trans h.os, k.tape.trans h.tape, k.output.trans h.output, Nat.le_trans h.size k.size, fun b h1 h2 h3 => ?_, ?_⟩
  · have hg : b ≠ g1 := by rcases h.own with e | e <;> omega
    exact (k.block b (Nat.lt_of_lt_of_le h1 h.size) h2 hg).trans (h.block b h1 h2 h3)
  · have := h.size
    rcases k.own with e | e
    · rw [e]; exact h.own
    · exact Or.inr (by omega)
theorem Tw.of_G {w w' : World} (wb g : Nat) (h : G w w') : Tw w w' wb g g := ⟨h.os, h.tape, h.output, h.size, fun k hk _ _ => h.block k hk, Or.inl rfl⟩
theorem Tw.refl (w : World) (wb g : Nat) : Tw w w wb g g := Tw.of_G wb g (G.refl w)
theorem Tw.below {w w' : World} {B wb g g' : Nat} (h : Tw w w' wb g g') (hB : B ≤ w.heap.size) (h1 : B ≤ wb) (h2 : B ≤ g) : Below B w w' :=
  ⟨h.os, h.tape, h.output, h.size, fun k hk => h.block k (by omega) (by omega) (by omega)⟩
theorem WrAt.g {w w' : World} {B wb g cap : Nat} {bs : List Int} (h : WrAt w B wb g cap bs) (gg : G w w') : WrAt w' B wb g cap bs := by
  have e := gg.block wb h.lt
  have eg := gg.block g h.glt
  exact ⟨(World.cell?_of_block e).trans h.c0, (World.frozen?_of_block e).trans h.fz, h.own.kept eg gg.size, h.ne, h.hB⟩
/-- What a writer's call leaves. -/
def WrTo (w w' : World) (B wb g : Nat) (bs : List Int) : Prop := ∃ g' cap', WrAt w' B wb g' cap' bs ∧ Tw w w' wb g g'

/-- What Put answers, when it is handed nothing. -/
def PutN (w w' : World) (u : Nat) : Prop := G w w' ∧ ∀ (j : Nat) v, ((eU u).map (Value.int .u8))[j]? = some v → w'.cell? ⟨w.heap.size, j, none⟩ = some v
theorem put_nil (u : Nat) (w : World) (hu : oU u) : Calls Tryd.prog 74 #[.slice none 0 0, .int .u64 (u : Int)] w fun e w' => e = .returned (.slice (some ⟨w.heap.size, 0, none⟩) (eU u).length 10) ∧ PutN w w' u := by
  refine (put_any none 0 0 u [] w ⟨rfl, fun h => absurd h (by decide)⟩ hu (by decide)).mono ?_
  rintro e w' ⟨rfl, h1, h2⟩
  refine ⟨by unfold eU; simp, h2, fun j v hj => ?_⟩
  obtain ⟨g', cap', e1, _, hz, _, hc⟩ := own_form h1 (by simp)
  simp at e1
  have hjl : j < (encF 9 u).length := by
    have := (List.getElem?_eq_some_iff.1 hj).1
    simpa [eU] using this
  have := hc j (by simpa using hjl)
  rw [e1.1, this]
  simp [eU, List.getElem?_eq_getElem hjl] at hj
  simp [List.getElem?_eq_getElem hjl, hj]

theorem PutN.undrew {w w' : World} {u : Nat} (h : PutN w.drew w' u) : PutN w w' u := ⟨(G.refl w).drew.trans h.1, h.2⟩
theorem PutN.src {w w' : World} {u : Nat} (h : PutN w w' u) : ∀ (j : Nat) v, ((eU u).map (Value.int .u8))[j]? = some v → w'.cell? ((⟨w.heap.size, 0, none⟩ : Addr).add j) = some v := fun j v hv => by
  rw [Addr.add_lit, Nat.zero_add]
  exact h.2 j v hv
theorem wr_fin {w w1 w3 : World} {B wb g cap g2 cap2 u : Nat} {bs : List Int} (h : WrAt w B wb g cap bs) (hp : PutN w w1 u) (hr : OwnR w3 B g2 cap2 (bs ++ eU u))
    (hg : w1.grownBy w3 (some g)) (hat : g2 = g ∨ w1.heap.size ≤ g2) :
    WrTo w (w3.setCell ⟨wb, 0, none⟩ (.slice (some ⟨g2, 0, none⟩) (bs.length + (eU u).length) cap2)) B wb g (bs ++ eU u) := by
  have hlt := h.lt
  have hs1 := hp.1.size
  have hs3 := hg.size
  have ewb : w3.heap[wb]? = w.heap[wb]? := (hg.block wb (by omega) (fun e => by simp at e; exact h.ne e.symm)).trans (hp.1.block wb hlt)
  have hgw : g2 ≠ wb := by
    rcases hat with e | e
    · rw [e]; exact h.ne
    · omega
  refine ⟨g2, cap2, ⟨?_, ?_, ?_, hgw, h.hB⟩, ⟨?_, ?_, ?_, ?_, fun k hk h1 h2 => ?_, ?_⟩⟩
  · rw [List.length_append]; exact cell_same _ ((World.cell?_of_block ewb).trans h.c0)
  · rw [World.frozen?_setCell]; exact (World.frozen?_of_block ewb).trans h.fz
  · exact hr.kept (heap_set _ _ hgw) (by rw [World.size_setCell]; exact Nat.le_refl _)
  · exact hg.os.trans hp.1.os
  · exact hg.tape.trans hp.1.tape
  · exact hg.output.trans hp.1.output
  · rw [World.size_setCell]; omega
  · rw [heap_set _ _ h1]
    exact (hg.block k (by omega) (fun e => by simp at e; omega)).trans (hp.1.block k hk)
  · rcases hat with e | e
    · exact Or.inl e
    · exact Or.inr (by omega)

set_option maxHeartbeats 1000000 in
theorem w_number (w : World) (B wb g cap u : Nat) (bs : List Int) (h : WrAt w B wb g cap bs) (hu : oU u) (hn : bs.length ≤ 20000000) (hBw : B ≤ w.heap.size) :
    Calls Tryd.prog 51 #[.pointer (some ⟨wb, 0, none⟩), .int .u64 (u : Int)] w fun e w' => e = .returned (.tuple #[]) ∧ WrTo w w' B wb g (bs ++ eU u) := by
  have c0 := h.c0
  have fz := h.fz
  have hlt := h.lt
  have hglt := h.glt
  have hne := h.ne
  have HL := hide (encF_len 9 u)
  have P := hide (fun w' => put_nil u w' hu)
  have FIN := hide (fun w1 w3 g2 cap2 => @wr_fin w w1 w3 B wb g cap g2 cap2 u bs h)
  have HOW := hide (fun w1 (hg : G w w1) => (h.g hg).own)
  have HW := hide (fun w1 (hg : G w w1) => (h.g hg).c0)
  have HK : Hid (∀ w1 w3, G w w1 → w1.grownBy w3 (some g) → w3.cell? ⟨wb, 0, none⟩ = some (.slice (some ⟨g, 0, none⟩) bs.length cap) ∧ w3.frozen? ⟨wb, 0, none⟩ = false) := hide fun w1 w3 hp hg => by
    have := hp.size
    have e : w3.heap[wb]? = w.heap[wb]? := (hg.block wb (by omega) (fun e => by simp at e; exact hne e.symm)).trans (hp.block wb hlt)
    exact ⟨(World.cell?_of_block e).trans c0, (World.frozen?_of_block e).trans fz⟩
  clear h
  obtain ⟨hL1, hL2⟩ := unhide HL
  change 1 ≤ (eU u).length at hL1
  change (eU u).length ≤ 9 + 1 at hL2
  clear HL
  go_enter Tryd.func51, Tryd.ntmps51
  go_wp2_with fail
  go_region_law (first
    | (refine step_append_wr rfl (.tmp 8) (.tmp 10) rfl B g cap bs (by simp [Act.eval]) (unhide HOW w1 (unhide hp).1) ⟨w.heap.size, 0, none⟩ 10 (eU u) (by simp [Act.eval]) (unhide hp).src (by omega) (by omega) (Nat.le_trans hBw (unhide hp).1.size) ?_; intro g2 cap2 w3 hr3 hg3 hat3; obtain ⟨k3, f3⟩ := unhide HK w1 w3 (unhide hp).1 hg3; have F3 := hide (unhide FIN w1 w3 g2 cap2 (unhide hp) hr3 hg3 hat3); clear hr3 hg3 hat3)
    | (go_simp; go_wp2_with (go_at_call 74; refine (unhide P _).mono ?_; rintro e w1 ⟨rfl, hp0⟩; have hp : Hid (PutN w w1 u) := (by first | exact hp0 | exact hp0.undrew); have k1 := unhide HW w1 (unhide hp).1; clear hp0)))
  all_goals
    go_wp2_with fail
    go_end0
    exact ⟨rfl, unhide F3⟩
end Go.Proofs.YtdekhnfncecacaaDoor
