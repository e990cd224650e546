/- Here, one behind the other: HpG, HpG2, HpSt, HpSet, HpShP, HpShA, HpShB, HpSh. -/
import Derived.Test.YtmifehomglilmaaGreatDoorMhA
import Derived.Test.YtmifehomglilmaaGreatDoorGreyQ
import Derived.Maps.OwnSet
import Derived.Maps.OwnOps
/- A Heap in memory, whatever its collector does: the black stacks, the grey ones; Shade, Black, Barrier, Left. -/
namespace Go.Proofs.YtmifehomglilmaaGreatDoor
set_option maxRecDepth 100000
open Go.ChangeShapes Go.WideShapes Go.ChangeAt Go.RowKit Go.Maps Go.ChangeMaps Go.MapKept Go.Deep

/-- The black stacks' map. -/
def BkAt (w : World) (mb : Nat) (bk : List Int) : Prop := ∃ D : DataW Unit, w.ownsMap Tryz.prog 3 unitElem mb bk.length D ∧ ∀ y, wfN y → Maps.has D (.int .i64 y) = decide (y ∈ bk)
theorem BkAt.kept {w w' : World} {mb : Nat} {bk : List Int} (h : BkAt w mb bk) (e : w'.heap[mb]? = w.heap[mb]?) : BkAt w' mb bk := by
  obtain ⟨D, ⟨es, c, hb, r⟩, hh⟩ := h
  exact ⟨D, ⟨es, c, e.trans hb, r⟩, hh⟩
theorem BkAt.lt {w : World} {mb : Nat} {bk : List Int} (h : BkAt w mb bk) : mb < w.heap.size := by
  obtain ⟨D, ⟨es, c, hb, r⟩, hh⟩ := h
  rcases Nat.lt_or_ge mb w.heap.size with h1 | h1
  · exact h1
  · rw [Array.getElem?_eq_none h1] at hb; cases hb
/-- The Cycle's own cells. -/
structure CbAt (w : World) (x : Hx) (ph kept done : Int) : Prop where
  c0 : w.cell? ⟨x.b.cb, 0, none⟩ = some (.pointer (some ⟨x.xl.d.ab, 0, none⟩))
  c1 : w.cell? ⟨x.b.cb, 1, none⟩ = some (.pointer (some ⟨x.xl.lb, 0, none⟩))
  c2 : w.cell? ⟨x.b.cb, 2, none⟩ = some (.pointer (some ⟨x.b.tb, 0, none⟩))
  c3 : w.cell? ⟨x.b.cb, 3, none⟩ = some (.pointer (some ⟨x.b.kb, 0, none⟩))
  c4 : w.cell? ⟨x.b.cb, 4, none⟩ = some (.int .i64 ph)
  c5 : w.cell? ⟨x.b.cb, 5, none⟩ = some (.map (some x.b.mb))
  c6 : w.cell? ⟨x.b.cb, 6, none⟩ = some (.int .i64 kept)
  c7 : w.cell? ⟨x.b.cb, 7, none⟩ = some (.int .i64 done)
  fz : ∀ i, w.frozen? ⟨x.b.cb, i, none⟩ = false
theorem CbAt.kept {w w' : World} {x : Hx} {ph kept done : Int} (h : CbAt w x ph kept done) (e : w'.heap[x.b.cb]? = w.heap[x.b.cb]?) : CbAt w' x ph kept done :=
  ⟨(World.cell?_of_block (a := ⟨x.b.cb, 0, none⟩) e).trans h.c0, (World.cell?_of_block (a := ⟨x.b.cb, 1, none⟩) e).trans h.c1, (World.cell?_of_block (a := ⟨x.b.cb, 2, none⟩) e).trans h.c2, (World.cell?_of_block (a := ⟨x.b.cb, 3, none⟩) e).trans h.c3, (World.cell?_of_block (a := ⟨x.b.cb, 4, none⟩) e).trans h.c4, (World.cell?_of_block (a := ⟨x.b.cb, 5, none⟩) e).trans h.c5, (World.cell?_of_block (a := ⟨x.b.cb, 6, none⟩) e).trans h.c6, (World.cell?_of_block (a := ⟨x.b.cb, 7, none⟩) e).trans h.c7, fun i => (World.frozen?_of_block (a := ⟨x.b.cb, i, none⟩) e).trans (h.fz i)⟩
theorem CbAt.phase {w : World} {x : Hx} {ph kept done : Int} (h : CbAt w x ph kept done) (p : Int) : CbAt (w.setCell ⟨x.b.cb, 4, none⟩ (.int .i64 p)) x p kept done :=
  ⟨cellO (by decide) h.c0, cellO (by decide) h.c1, cellO (by decide) h.c2, cellO (by decide) h.c3, cell_same _ h.c4, cellO (by decide) h.c5, cellO (by decide) h.c6, cellO (by decide) h.c7, fun i => by rw [World.frozen?_setCell]; exact h.fz i⟩
/-- A Heap: c: whose block is it: 1 arena and allocator's rows, 16 their heads, 2 the Cycle, 12 the marker, 13 the black ones, 14 and 15 the queue, 3 table, 4 its map, 5 its row, 6 the Heap, 7 least, 8 numbers. -/
structure HG (W w : World) (x : Hx) (al : Al) (l : List Hd.Shp) (n : Nat) (ao : Option Addr) (cap : Nat) (nv : Value) (c : Nat → Nat) (ph kept done fc : Int) (bk gl : List Int) (qs : List Nat) : Prop where
  st : StL W w x.xl al
  cb : CbAt w x ph kept done
  mp : BkAt w x.b.mb bk
  k0 : w.cell? ⟨x.b.kb, 0, none⟩ = some (.pointer (some ⟨x.xl.d.ab, 0, none⟩))
  k2 : w.cell? ⟨x.b.kb, 2, none⟩ = some (.pointer (some ⟨x.b.q, 0, none⟩))
  que : Gy.QL w x.b.q qs gl
  tab : Hd.TabAt w W.heap.size x.b.tb x.tm ao cap l
  h0 : w.cell? ⟨x.hb, 0, none⟩ = some (.pointer (some ⟨x.b.cb, 0, none⟩))
  h1 : w.cell? ⟨x.hb, 1, none⟩ = some nv
  h2 : w.cell? ⟨x.hb, 2, none⟩ = some (.map (some x.lm))
  h3 : w.cell? ⟨x.hb, 3, none⟩ = some (.int .i64 fc)
  hf : ∀ i, w.frozen? ⟨x.hb, i, none⟩ = false
  num : NrAt w W.heap.size nv n
  lmp : LmAt w x.lm n
  lo : W.heap.size ≤ x.b.cb ∧ W.heap.size ≤ x.b.kb ∧ W.heap.size ≤ x.b.mb ∧ W.heap.size ≤ x.b.q ∧ W.heap.size ≤ x.hb ∧ W.heap.size ≤ x.lm
  lq : ∀ d ∈ qs, W.heap.size ≤ d
  lt : x.lm < w.heap.size
  a1 : c x.xl.d.wb = 1 ∧ c x.xl.d.sb = 1 ∧ c x.xl.ub = 1
  a2 : c x.xl.d.ab = 16 ∧ c x.xl.lb = 16
  kc : c x.b.cb = 2 ∧ c x.b.kb = 12 ∧ c x.b.mb = 13 ∧ c x.b.q = 14
  cq : ∀ d ∈ qs, c d = 15
  c3 : c x.b.tb = 3
  c4 : c x.tm = 4
  c5 : ∀ a, ao = some a → c a.block = 5
  c6 : c x.hb = 6
  c7 : c x.lm = 7
  c8 : ∀ k, nv.ownBlock = some k → c k = 8
section
variable {W w w' : World} {x : Hx} {al al' : Al} {l : List Hd.Shp} {n : Nat} {ao : Option Addr} {cap : Nat} {nv : Value} {c c' : Nat → Nat} {ph kept done fc ph' kept' done' : Int} {bk gl bk' gl' : List Int} {qs qs' : List Nat}
theorem HG.hB (h : HG W w x al l n ao cap nv c ph kept done fc bk gl qs) : HB W w x al l ao cap := ⟨h.st, h.cb.c0, h.cb.c2, h.tab, h.h0⟩
theorem HG.alt (h : HG W w x al l n ao cap nv c ph kept done fc bk gl qs) : x.xl.d.ab < w.heap.size ∧ x.xl.d.wb < w.heap.size ∧ x.xl.d.sb < w.heap.size ∧ x.xl.ub < w.heap.size ∧ x.xl.lb < w.heap.size :=
  ⟨h.st.st.at_.lt0, h.st.st.at_.lt1 h.st.st.n8, h.st.st.at_.lt2 h.st.st.n8, h.st.lt1, h.st.lt0⟩
theorem HG.clt (h : HG W w x al l n ao cap nv c ph kept done fc bk gl qs) : x.b.cb < w.heap.size ∧ x.b.kb < w.heap.size ∧ x.b.mb < w.heap.size ∧ x.b.q < w.heap.size ∧ x.hb < w.heap.size :=
  ⟨World.block_lt_of_cell? w _ h.cb.c0, World.block_lt_of_cell? w _ h.k0, h.mp.lt, h.que.lt, World.block_lt_of_cell? w _ h.h0⟩
theorem HG.nlt (h : HG W w x al l n ao cap nv c ph kept done fc bk gl qs) : ∀ k, nv.ownBlock = some k → k < w.heap.size := fun k hk => by
  rcases h.num.2 with ⟨e, _⟩ | ⟨g, cp, cur, e, _, h3, _⟩
  · rw [e] at hk; cases hk
  · rw [e] at hk
    obtain rfl : g = k := by simpa [Value.ownBlock] using hk
    rcases Nat.lt_or_ge g w.heap.size with hh | hh
    · exact hh
    · rw [Array.getElem?_eq_none hh] at h3; cases h3
/-- What else it has is as it was. -/
theorem HG.re (h : HG W w x al l n ao cap nv c ph kept done fc bk gl qs) (hs : w.heap.size ≤ w'.heap.size) (st : StL W w' x.xl al')
    (kp : ∀ d, d < w.heap.size → c d ≠ 1 → c d ≠ 2 → c d ≠ 13 → c d ≠ 14 → c d ≠ 15 → w'.heap[d]? = w.heap[d]?) (cb : CbAt w' x ph' kept' done') (mp : BkAt w' x.b.mb bk') (que : Gy.QL w' x.b.q qs' gl')
    (hc : ∀ d, d < w.heap.size → c' d = c d) (hq : ∀ d ∈ qs', c' d = 15 ∧ W.heap.size ≤ d) : HG W w' x al' l n ao cap nv c' ph' kept' done' fc bk' gl' qs' := by
  obtain ⟨l1, l2, l3, l4, l5⟩ := h.alt
  obtain ⟨e1, e2, e3, e4, e5⟩ := h.clt
  obtain ⟨a1, a2, a3⟩ := h.a1
  obtain ⟨b1, b2⟩ := h.a2
  obtain ⟨k1, k2, k3, k4⟩ := h.kc
  have kk := kp x.b.kb e2 (by omega) (by omega) (by omega) (by omega) (by omega)
  have kh := kp x.hb e5 (by rw [h.c6]; decide) (by rw [h.c6]; decide) (by rw [h.c6]; decide) (by rw [h.c6]; decide) (by rw [h.c6]; decide)
  exact ⟨st, cb, mp, (World.cell?_of_block (a := ⟨x.b.kb, 0, none⟩) kk).trans h.k0, (World.cell?_of_block (a := ⟨x.b.kb, 2, none⟩) kk).trans h.k2, que,
    h.tab.kept (kp _ h.tab.tlt (by rw [h.c3]; decide) (by rw [h.c3]; decide) (by rw [h.c3]; decide) (by rw [h.c3]; decide) (by rw [h.c3]; decide)) (kp _ h.tab.mlt (by rw [h.c4]; decide) (by rw [h.c4]; decide) (by rw [h.c4]; decide) (by rw [h.c4]; decide) (by rw [h.c4]; decide)) (fun a ha => kp _ (h.tab.aoB a ha).2 (by rw [h.c5 a ha]; decide) (by rw [h.c5 a ha]; decide) (by rw [h.c5 a ha]; decide) (by rw [h.c5 a ha]; decide) (by rw [h.c5 a ha]; decide)),
    (World.cell?_of_block (a := ⟨x.hb, 0, none⟩) kh).trans h.h0, (World.cell?_of_block (a := ⟨x.hb, 1, none⟩) kh).trans h.h1, (World.cell?_of_block (a := ⟨x.hb, 2, none⟩) kh).trans h.h2, (World.cell?_of_block (a := ⟨x.hb, 3, none⟩) kh).trans h.h3, fun i => (World.frozen?_of_block (a := ⟨x.hb, i, none⟩) kh).trans (h.hf i),
    nr_kept h.num (fun q hq => kp q (h.nlt q hq) (by rw [h.c8 q hq]; decide) (by rw [h.c8 q hq]; decide) (by rw [h.c8 q hq]; decide) (by rw [h.c8 q hq]; decide) (by rw [h.c8 q hq]; decide)), h.lmp.kept (kp _ h.lt (by rw [h.c7]; decide) (by rw [h.c7]; decide) (by rw [h.c7]; decide) (by rw [h.c7]; decide) (by rw [h.c7]; decide)),
    h.lo, fun d hd => (hq d hd).2, Nat.lt_of_lt_of_le h.lt hs, ⟨(hc _ l2).trans a1, (hc _ l3).trans a2, (hc _ l4).trans a3⟩, ⟨(hc _ l1).trans b1, (hc _ l5).trans b2⟩, ⟨(hc _ e1).trans k1, (hc _ e2).trans k2, (hc _ e3).trans k3, (hc _ e4).trans k4⟩, fun d hd => (hq d hd).1,
    (hc _ h.tab.tlt).trans h.c3, (hc _ h.tab.mlt).trans h.c4, fun a ha => (hc _ (h.tab.aoB a ha).2).trans (h.c5 a ha), (hc _ e5).trans h.c6, (hc _ h.lt).trans h.c7, fun q hq => (hc _ (h.nlt q hq)).trans (h.c8 q hq)⟩
theorem HG.hq (h : HG W w x al l n ao cap nv c ph kept done fc bk gl qs) : ∀ d ∈ qs, c d = 15 ∧ W.heap.size ≤ d := fun d hd => ⟨h.cq d hd, h.lq d hd⟩
theorem HG.gr (h : HG W w x al l n ao cap nv c ph kept done fc bk gl qs) (g : G w w') : HG W w' x al l n ao cap nv c ph kept done fc bk gl qs :=
  h.re g.size (h.st.G g) (fun d hd _ _ _ _ _ => g.block d hd) (h.cb.kept (g.block _ h.clt.1)) (h.mp.kept (g.block _ h.clt.2.2.1)) (h.que.grown g) (fun _ _ => rfl) h.hq
/-- The arena's rows, the allocator's. -/
theorem HG.turn (h : HG W w x al l n ao cap nv c ph kept done fc bk gl qs) (s : StL W w' x.xl al') (t : TnL w w' x.xl) : HG W w' x al' l n ao cap nv c ph kept done fc bk gl qs := by
  obtain ⟨a1, a2, a3⟩ := h.a1
  obtain ⟨k1, k2, k3, k4⟩ := h.kc
  obtain ⟨e1, e2, e3, e4, e5⟩ := h.clt
  have kp : ∀ d, d < w.heap.size → c d ≠ 1 → w'.heap[d]? = w.heap[d]? := fun d hd n1 => t.block d hd (fun e => n1 (by rw [e]; exact a1)) (fun e => n1 (by rw [e]; exact a2)) (fun e => n1 (by rw [e]; exact a3))
  exact h.re t.size s (fun d hd n1 _ _ _ _ => kp d hd n1) (h.cb.kept (kp _ e1 (by omega))) (h.mp.kept (kp _ e3 (by omega))) (h.que.kept (kp _ e4 (by omega)) (fun d hd => kp d (h.que.ltb d hd) (by rw [h.cq d hd]; decide))) (fun _ _ => rfl) h.hq
/-- A block that is not the arena's is turned: the arena is as it was. -/
theorem HG.stk (h : HG W w x al l n ao cap nv c ph kept done fc bk gl qs) (hb : Below W.heap.size W w') (kp : ∀ d, d < w.heap.size → c d = 1 ∨ c d = 16 → w'.heap[d]? = w.heap[d]?) : StL W w' x.xl al := by
  obtain ⟨a1, a2, a3⟩ := h.a1
  obtain ⟨b1, b2⟩ := h.a2
  obtain ⟨l1, l2, l3, l4, l5⟩ := h.alt
  refine h.st.kept hb fun d hd => ?_
  rcases hd with rfl | rfl | rfl | rfl | rfl
  · exact kp _ l1 (Or.inr b1)
  · exact kp _ l2 (Or.inl a1)
  · exact kp _ l3 (Or.inl a2)
  · exact kp _ l4 (Or.inl a3)
  · exact kp _ l5 (Or.inr b2)
/-- The queue has been turned. -/
theorem HG.queue (h : HG W w x al l n ao cap nv c ph kept done fc bk gl qs) (L : Gy.Left w w' x.b.q qs gl') : ∃ c' qs', (∀ d, d < w.heap.size → c' d = c d) ∧ (∀ d ∈ qs', d ∈ qs ∨ w.heap.size ≤ d) ∧ HG W w' x al l n ao cap nv c' ph kept done fc bk gl' qs' := by
  obtain ⟨qs', Q, t, hn⟩ := L
  obtain ⟨k1, k2, k3, k4⟩ := h.kc
  obtain ⟨e1, e2, e3, e4, e5⟩ := h.clt
  have kp : ∀ d, d < w.heap.size → c d ≠ 14 → c d ≠ 15 → w'.heap[d]? = w.heap[d]? := fun d hd n1 n2 => t.block d hd (fun e => n1 (by rw [e]; exact k4)) (fun e => n2 (h.cq d e))
  have hb : Below W.heap.size W w' := by
    refine Below.trans h.st.below ⟨t.os, t.tape, t.output, t.size, fun d hd => ?_⟩
    have hd' : d < w.heap.size := Nat.lt_of_lt_of_le hd h.st.below.size
    refine t.block d hd' (fun e => ?_) (fun e => ?_)
    · have := h.lo; omega
    · have := h.lq d e; omega
  have cc : ∀ d, d < w.heap.size → (fun d => if w.heap.size ≤ d then 15 else c d) d = c d := fun d hd => if_neg (by omega)
  refine ⟨fun d => if w.heap.size ≤ d then 15 else c d, qs', cc, hn, h.re t.size (h.stk hb fun d hd hc => kp d hd (by omega) (by omega)) (fun d hd _ _ _ n1 n2 => kp d hd n1 n2) (h.cb.kept (kp _ e1 (by omega) (by omega))) (h.mp.kept (kp _ e3 (by omega) (by omega))) Q cc fun d hd => ?_⟩
  rcases hn d hd with e | e
  · exact ⟨(cc d (h.que.ltb d e)).trans (h.cq d e), h.lq d e⟩
  · exact ⟨if_pos e, Nat.le_trans h.st.below.size e⟩
/-- The phase is another. -/
theorem HG.phase (h : HG W w x al l n ao cap nv c ph kept done fc bk gl qs) (p : Int) : HG W (w.setCell ⟨x.b.cb, 4, none⟩ (.int .i64 p)) x al l n ao cap nv c p kept done fc bk gl qs := by
  obtain ⟨k1, k2, k3, k4⟩ := h.kc
  obtain ⟨e1, e2, e3, e4, e5⟩ := h.clt
  have kp : ∀ d, c d ≠ 2 → (w.setCell ⟨x.b.cb, 4, none⟩ (.int .i64 p)).heap[d]? = w.heap[d]? := fun d n2 => Below.heap_setCell _ _ _ _ (by show d ≠ x.b.cb; intro e; exact n2 (by rw [e]; exact k1))
  exact h.re (by rw [World.size_setCell]; exact Nat.le_refl _) (h.stk (h.st.below.setCell h.lo.1 _) fun d _ hc => kp d (by omega)) (fun d _ _ n2 _ _ _ => kp d n2) (h.cb.phase p) (h.mp.kept (kp _ (by omega))) (h.que.kept (kp _ (by omega)) (fun d hd => kp d (by rw [h.cq d hd]; decide))) (fun _ _ => rfl) h.hq
/-- The map of the black ones has been turned. -/
theorem HG.mapped (h : HG W w x al l n ao cap nv c ph kept done fc bk gl qs) (hb : Below W.heap.size W w') (hs : w.heap.size ≤ w'.heap.size) (kp : ∀ d, d < w.heap.size → d ≠ x.b.mb → w'.heap[d]? = w.heap[d]?) (mp : BkAt w' x.b.mb bk') : HG W w' x al l n ao cap nv c ph kept done fc bk' gl qs := by
  obtain ⟨k1, k2, k3, k4⟩ := h.kc
  obtain ⟨e1, e2, e3, e4, e5⟩ := h.clt
  have kp' : ∀ d, d < w.heap.size → c d ≠ 13 → w'.heap[d]? = w.heap[d]? := fun d hd n => kp d hd (fun e => n (by rw [e]; exact k3))
  exact h.re hs (h.stk hb fun d hd hc => kp' d hd (by omega)) (fun d hd _ _ n _ _ => kp' d hd n) (h.cb.kept (kp' _ e1 (by omega))) mp (h.que.kept (kp' _ e4 (by omega)) (fun d hd => kp' d (h.que.ltb d hd) (by rw [h.cq d hd]; decide))) (fun _ _ => rfl) h.hq
/-- While no collection goes on, and none is black. -/
theorem HS.hG (h : HS W w x al l n ao cap nv c) : ∃ c', HG W w x al l n ao cap nv c' 0 64 0 0 [] [] [] := by
  obtain ⟨a1, a2, a3, a4, a5⟩ := h.cA
  obtain ⟨k1, k2, k3, k4⟩ := h.cC
  have hkq : x.b.kb ≠ x.b.q := fun e => by
    obtain ⟨f, cc, hq, _⟩ := h.ks.que
    have h1 := h.ks.k0
    rw [e, hq.c0] at h1
    simp at h1
  obtain ⟨n1, n2, n3⟩ := h.ks.nd
  obtain ⟨n4, n5⟩ := h.ks.nm
  have ap := fun d hd => (h.ks.ap d hd).2
  have p1 := ap x.b.cb (by simp)
  have p2 := ap x.b.mb (by simp)
  have p3 := ap x.b.kb (by simp)
  have p4 := ap x.b.q (by simp)
  have m01 := h.ks.st.st.at_.n01
  have m02 := h.ks.st.st.at_.n02
  have m0 := h.ks.st.n0
  have m1 := h.ks.st.n1
  have m2 := h.ks.st.n2
  have mpx : BkAt w x.b.mb [] := by
    obtain ⟨cl, hcl⟩ := h.ks.mp
    exact ⟨.map [], ⟨#[], cl, hcl, ⟨by simp, stamped_empty cl, by simp⟩, Nat.le_refl _, rfl⟩, fun y _ => by simp [Maps.has]⟩
  obtain ⟨c', hc'⟩ : ∃ c' : Nat → Nat, c' = fun d => if d = x.xl.d.ab ∨ d = x.xl.lb then 16 else if d = x.b.kb then 12 else if d = x.b.mb then 13 else if d = x.b.q then 14 else c d := ⟨_, rfl⟩
  have old : ∀ d, c d ≠ 1 → c d ≠ 2 → c' d = c d := fun d d1 d2 => by
    rw [hc']
    simp only
    rw [if_neg (fun e => by rcases e with e | e <;> rw [e] at d1 <;> omega), if_neg (fun e => by rw [e] at d2; omega), if_neg (fun e => by rw [e] at d2; omega), if_neg (fun e => by rw [e] at d2; omega)]
  have same : ∀ d, d ≠ x.xl.d.ab → d ≠ x.xl.lb → d ≠ x.b.kb → d ≠ x.b.mb → d ≠ x.b.q → c' d = c d := fun d d1 d2 d3 d4 d5 => by
    rw [hc']
    simp only
    rw [if_neg (fun e => by rcases e with e | e; exact d1 e; exact d2 e), if_neg d3, if_neg d4, if_neg d5]
  have e16 : ∀ d, d = x.xl.d.ab ∨ d = x.xl.lb → c' d = 16 := fun d e => by rw [hc']; simp only; rw [if_pos e]
  have e12 : c' x.b.kb = 12 := by rw [hc']; simp only; rw [if_neg (fun e => by rcases e with e | e; exact p3.2.2.2.2.1 e; exact p3.2.2.2.2.2 e), if_pos trivial]
  have e13 : c' x.b.mb = 13 := by rw [hc']; simp only; rw [if_neg (fun e => by rcases e with e | e; exact p2.2.2.2.2.1 e; exact p2.2.2.2.2.2 e), if_neg n4, if_pos trivial]
  have e14 : c' x.b.q = 14 := by rw [hc']; simp only; rw [if_neg (fun e => by rcases e with e | e; exact p4.2.2.2.2.1 e; exact p4.2.2.2.2.2 e), if_neg (Ne.symm hkq), if_neg (Ne.symm n5), if_pos trivial]
  refine ⟨c', h.ks.st, ⟨h.ks.c0, h.ks.c1, h.ks.c2, h.ks.c3, h.ks.c4, h.ks.c5, h.ks.c6, h.ks.c7, h.ks.fz⟩, mpx, h.ks.k0, h.ks.k2, h.ks.que, h.tab, h.h0, h.h1, h.h2, h.h3, h.hf, h.num, h.mp, ⟨p1.1, p3.1, p2.1, p4.1, h.lo.1, h.lo.2⟩, fun d hd => (by cases hd), h.lt, ⟨?_, ?_, ?_⟩, ⟨e16 _ (Or.inl rfl), e16 _ (Or.inr rfl)⟩, ⟨?_, e12, e13, e14⟩, fun d hd => (by cases hd), ?_, ?_, fun a ha => ?_, ?_, ?_, fun k hk => ?_⟩
  · exact (same _ (Ne.symm m01) (Ne.symm m1.1) (Ne.symm p3.2.1) (Ne.symm p2.2.1) (Ne.symm p4.2.1)).trans a2
  · exact (same _ (Ne.symm m02) (Ne.symm m1.2) (Ne.symm p3.2.2.1) (Ne.symm p2.2.2.1) (Ne.symm p4.2.2.1)).trans a3
  · exact (same _ m2.1 (Ne.symm m0) (Ne.symm p3.2.2.2.1) (Ne.symm p2.2.2.2.1) (Ne.symm p4.2.2.2.1)).trans a4
  · exact (same _ p1.2.2.2.2.1 p1.2.2.2.2.2 n2 n1 n3).trans k1
  · exact (old _ (by rw [h.c3]; decide) (by rw [h.c3]; decide)).trans h.c3
  · exact (old _ (by rw [h.c4]; decide) (by rw [h.c4]; decide)).trans h.c4
  · exact (old _ (by rw [h.c5 a ha]; decide) (by rw [h.c5 a ha]; decide)).trans (h.c5 a ha)
  · exact (old _ (by rw [h.c6]; decide) (by rw [h.c6]; decide)).trans h.c6
  · exact (old _ (by rw [h.c7]; decide) (by rw [h.c7]; decide)).trans h.c7
  · exact (old _ (by rw [h.c8 k hk]; decide) (by rw [h.c8 k hk]; decide)).trans (h.c8 k hk)
end
end Go.Proofs.YtmifehomglilmaaGreatDoor

/- A Heap in memory, whatever its collector does: Shade, Black, Barrier, Left; the view. -/
namespace Go.Proofs.YtmifehomglilmaaGreatDoor
set_option maxRecDepth 100000
open Go.ChangeShapes Go.WideShapes Go.ChangeAt Go.RowKit Go.Maps Go.ChangeMaps Go.MapKept Go.Deep

theorem keyB : Keyed Tryz.prog 3 := int_keyed Tryz.underlying3
theorem zero_unitB (w : World) : (zeroValue 64).run Tryz.prog w = .ok (.agg #[]) w := by kernel_rfl
/-- What of it changes. -/
structure Gq where
  c : Nat → Nat
  gl : List Int
  qs : List Nat
/-- The blocks that its calls turn. -/
def ownG (x : Hx) (g : Gq) (d : Nat) : Prop := d = x.xl.d.wb ∨ d = x.xl.d.sb ∨ d = x.xl.ub ∨ d = x.b.cb ∨ d = x.b.mb ∨ d = x.b.q ∨ d ∈ g.qs
section
variable {W w w' : World} {x : Hx} {al al' : Al} {l : List Hd.Shp} {n : Nat} {ao : Option Addr} {cap : Nat} {nv : Value} {ph kept done fc : Int} {bk : List Int} {g : Gq}
abbrev HGq (W : World) (x : Hx) (l : List Hd.Shp) (n : Nat) (ao : Option Addr) (cap : Nat) (nv : Value) (ph kept done fc : Int) (bk : List Int) (w : World) (al : Al) (g : Gq) : Prop := HG W w x al l n ao cap nv g.c ph kept done fc bk g.gl g.qs
theorem frg_tn (t : TnL w w' x.xl) : Fr (ownG x g) (ownG x g) w w' := ⟨t.size, fun d hd ho => t.block d hd (fun e => ho (Or.inl e)) (fun e => ho (Or.inr (Or.inl e))) (fun e => ho (Or.inr (Or.inr (Or.inl e)))), fun _ h => Or.inl h⟩
theorem hv_hg (W : World) (x : Hx) (l : List Hd.Shp) (n : Nat) (ao : Option Addr) (cap : Nat) (nv : Value) (ph kept done fc : Int) (bk : List Int) (hf : ∀ s ∈ l, s.m < 18446744073709551616) : HV (HGq W x l n ao cap nv ph kept done fc bk) (ownG x) x.hb x.b.cb x.xl.d.ab l := by
  refine ⟨fun w al _ a h => hb_of (hide h.hB) a, fun w w' al _ h g => h.gr g, fun w al _ h d hd => ?_, fun w al _ h => hb_cycle (hide h.hB), fun w al _ h => b_arena (hide h.hB), fun w al _ a i h => (ls_read (hide h.st) a i).mono fun _ _ hh => ⟨hh.1, hh.2.2⟩, fun w al _ a i v h => (ls_write (hide h.st) a i v).mono fun _ _ hh => ⟨hh.1, h.turn hh.2.1 hh.2.2, frg_tn hh.2.2⟩, hf⟩
  obtain ⟨_, l2, l3, l4, _⟩ := h.alt
  obtain ⟨e1, e2, e3, e4, e5⟩ := h.clt
  rcases hd with rfl | rfl | rfl | rfl | rfl | rfl | hd
  · exact l2
  · exact l3
  · exact l4
  · exact e1
  · exact e3
  · exact e4
  · exact h.que.ltb d hd
/-- Shading, plainly. -/
def shA (al : Al) (y : Int) : Al := ⟨al.a.markA y, al.u⟩
def shG (al : Al) (gl : List Int) (y : Int) : List Int := if al.a.markB y = true then gl ++ [y] else gl
theorem g_shade (h : Hid (HGq W x l n ao cap nv ph kept done fc bk w al g)) (hn : g.gl.length ≤ 900000) (y : Int) : Calls Tryz.prog 67 #[.pointer (some ⟨x.b.kb, 0, none⟩), .int .i64 y] w fun e w' => e = .returned (.bool (al.a.markB y)) ∧ ∃ g2 : Gq, g2.gl = shG al g.gl y ∧ HGq W x l n ao cap nv ph kept done fc bk w' (shA al y) g2 ∧ Fr (ownG x g) (ownG x g2) w w' := by
  have k0 := (unhide h).k0
  have CM : Hid (Calls Tryz.prog 74 #[.pointer (some ⟨x.xl.d.ab, 0, none⟩), .int .i64 y] w fun e w' => e = .returned (.bool (al.a.markB y)) ∧ Hid (HGq W x l n ao cap nv ph kept done fc bk w' (shA al y) g ∧ Fr (ownG x g) (ownG x g) w w')) := hide ((ls_mark (hide (unhide h).st) y).mono fun _ _ hh => ⟨hh.1, hide ⟨(unhide h).turn hh.2.1 hh.2.2, frg_tn hh.2.2⟩⟩)
  have CQ : Hid (∀ y1, HGq W x l n ao cap nv ph kept done fc bk y1 (shA al y) g → Calls Tryz.prog 79 #[.pointer (some ⟨x.b.q, 0, none⟩), .int .i64 y] y1 fun e w' => e = .returned (.tuple #[]) ∧ Hid (∃ g2 : Gq, g2.gl = g.gl ++ [y] ∧ HGq W x l n ao cap nv ph kept done fc bk w' (shA al y) g2 ∧ Fr (ownG x g) (ownG x g2) y1 w')) := hide fun y1 hy => (Gy.q_add hy.que hn y).mono fun _ _ hh => by
    obtain ⟨c', qs', hc, hq, S⟩ := hy.queue hh.2
    obtain ⟨_, _, t, _⟩ := hh.2
    refine ⟨hh.1, hide ⟨⟨c', g.gl ++ [y], qs'⟩, rfl, S, t.size, fun d hd ho => t.block d hd (fun e => ho (Or.inr (Or.inr (Or.inr (Or.inr (Or.inr (Or.inl e))))))) (fun e => ho (Or.inr (Or.inr (Or.inr (Or.inr (Or.inr (Or.inr e))))))), fun d hd => ?_⟩⟩
    rcases hd with e | e | e | e | e | e | e
    · exact Or.inl (Or.inl e)
    · exact Or.inl (Or.inr (Or.inl e))
    · exact Or.inl (Or.inr (Or.inr (Or.inl e)))
    · exact Or.inl (Or.inr (Or.inr (Or.inr (Or.inl e))))
    · exact Or.inl (Or.inr (Or.inr (Or.inr (Or.inr (Or.inl e)))))
    · exact Or.inl (Or.inr (Or.inr (Or.inr (Or.inr (Or.inr (Or.inl e))))))
    · rcases hq d e with e | e
      · exact Or.inl (Or.inr (Or.inr (Or.inr (Or.inr (Or.inr (Or.inr e))))))
      · exact Or.inr e
  have HK : Hid (∀ y1, HGq W x l n ao cap nv ph kept done fc bk y1 (shA al y) g → y1.cell? ⟨x.b.kb, 2, none⟩ = some (.pointer (some ⟨x.b.q, 0, none⟩))) := hide fun y1 hy => hy.k2
  unfold shG
  generalize al.a.markB y = mb at CM ⊢
  clear h hn
  cases mb
  · go_enter Tryz.func67, Tryz.ntmps67
    go_wp2_with fail
    refine (unhide CM).mono ?_
    rintro e w1 ⟨rfl, h1⟩
    clear CM CQ HK
    go_wp2_with fail
    go_ret
    exact ⟨rfl, g, rfl, (unhide h1).1, (unhide h1).2⟩
  · go_enter Tryz.func67, Tryz.ntmps67
    go_wp2_with fail
    refine (unhide CM).mono ?_
    rintro e w1 ⟨rfl, h1⟩
    have k2 := unhide HK w1 (unhide h1).1
    have CQ1 := hide (unhide CQ w1 (unhide h1).1)
    clear CM CQ HK
    go_wp2_with fail
    refine (unhide CQ1).mono ?_
    rintro e w2 ⟨rfl, h2⟩
    clear CQ1
    go_wp2_with fail
    go_ret
    obtain ⟨g2, e2, S2, f2⟩ := unhide h2
    exact ⟨rfl, g2, e2, S2, (unhide h1).2.trans f2⟩
theorem g_black (h : Hid (HGq W x l n ao cap nv ph kept done fc bk w al g)) (i : Int) (hi : wfN i) : Calls Tryz.prog 51 #[.pointer (some ⟨x.b.cb, 0, none⟩), .int .i64 i] w fun e w' => e = .returned (.bool (decide (i ∈ bk))) ∧ G w w' := by
  have c5 := (unhide h).cb.c5
  obtain ⟨D, hD, hh⟩ := (unhide h).mp
  have ow := hide hD
  have hI := hh i hi
  clear hh hD
  go_enter Tryz.func51, Tryz.ntmps51
  go_wp2_with (at_lookup; refine wpList_lookup_own_unit _ rfl _ _ 104 rfl 3 64 keyB Tryz.underlying104 (zero_unitB _) x.b.mb _ D rfl (unhide ow) _ (.int .i64 i) rfl (keyOf_int_mk Tryz.underlying3 hi) ?_; rw [hI])
  go_ret
  exact ⟨rfl, G.alloc _ _⟩
theorem g_shades (h : Hid (HGq W x l n ao cap nv ph kept done fc bk w al g)) : Calls Tryz.prog 49 #[.pointer (some ⟨x.b.cb, 0, none⟩)] w fun e w' => e = .returned (.bool (ph == 1 || ph == 2)) ∧ w' = w := by
  have c4 := (unhide h).cb.c4
  cases h1 : ph == 1
  · go_enter Tryz.func49, Tryz.ntmps49
    go_wp2_with fail
    go_ret
    exact ⟨by simp, rfl⟩
  · go_enter Tryz.func49, Tryz.ntmps49
    go_wp2_with fail
    go_ret
    exact ⟨by simp, rfl⟩
theorem g_marker (h : Hid (HGq W x l n ao cap nv ph kept done fc bk w al g)) : Calls Tryz.prog 24 #[.pointer (some ⟨x.b.cb, 0, none⟩)] w fun e w' => e = .returned (.pointer (some ⟨x.b.kb, 0, none⟩)) ∧ w' = w := by
  have c3 := (unhide h).cb.c3
  go_enter Tryz.func24, Tryz.ntmps24
  go_wp2_with fail
  go_ret
  exact ⟨rfl, rfl⟩
theorem g_left (h : Hid (HGq W x l n ao cap nv ph kept done fc bk w al g)) : Calls Tryz.prog 25 #[.pointer (some ⟨x.b.kb, 0, none⟩)] w fun e w' => e = .returned (.int .i64 (g.gl.length : Int)) ∧ w' = w := by
  have k2 := (unhide h).k2
  have C := hide (Gy.q_len (unhide h).que)
  generalize (g.gl.length : Int) = z at C ⊢
  clear h
  go_enter Tryz.func25, Tryz.ntmps25
  go_wp2_with fail
  refine (unhide C).mono ?_
  rintro e w1 ⟨rfl, hw⟩
  rw [hw]
  clear hw C w1
  go_wp2_with fail
  go_ret
  exact ⟨rfl, rfl⟩
/-- While roots are shaded and things are looked at. -/
def baA (al : Al) (bk : List Int) (old v id : Int) : Al := if id ∈ bk then shA al old else shA (shA al old) v
def baG (al : Al) (bk gl : List Int) (old v id : Int) : List Int := if id ∈ bk then shG al gl old else shG (shA al old) (shG al gl old) v
theorem shG_len (al : Al) (gl : List Int) (y : Int) : (shG al gl y).length ≤ gl.length + 1 := by
  unfold shG
  split
  · rw [List.length_append, List.length_singleton]; exact Nat.le_refl _
  · exact Nat.le_succ _
set_option maxHeartbeats 1000000 in
theorem g_barrier (hp : (ph == 1 || ph == 2) = true) (h : Hid (HGq W x l n ao cap nv ph kept done fc bk w al g)) (hn : g.gl.length ≤ 800000) (old v id : Int) (hi : wfN id) : Calls Tryz.prog 66 #[.pointer (some ⟨x.b.cb, 0, none⟩), .int .i64 old, .int .i64 v, .int .i64 id] w fun e w' => e = .returned (.tuple #[]) ∧ ∃ g2 : Gq, g2.gl = baG al bk g.gl old v id ∧ HGq W x l n ao cap nv ph kept done fc bk w' (baA al bk old v id) g2 ∧ Fr (ownG x g) (ownG x g2) w w' := by
  have CS := hide (g_shades h)
  rw [hp] at CS
  have c3 := (unhide h).cb.c3
  have C1 := hide (g_shade h (by omega) old)
  generalize al.a.markB old = mo at C1
  have C2 : Hid (∀ y1 g1, g1.gl = shG al g.gl old → HGq W x l n ao cap nv ph kept done fc bk y1 (shA al old) g1 → Calls Tryz.prog 51 #[.pointer (some ⟨x.b.cb, 0, none⟩), .int .i64 id] y1 fun e w' => e = .returned (.bool (decide (id ∈ bk))) ∧ Hid (HGq W x l n ao cap nv ph kept done fc bk w' (shA al old) g1 ∧ G y1 w')) := hide fun y1 g1 _ hy => (g_black (hide hy) id hi).mono fun _ _ hh => ⟨hh.1, hide ⟨hy.gr hh.2, hh.2⟩⟩
  have C3 : Hid (∀ y1 g1, g1.gl = shG al g.gl old → HGq W x l n ao cap nv ph kept done fc bk y1 (shA al old) g1 → Calls Tryz.prog 67 #[.pointer (some ⟨x.b.kb, 0, none⟩), .int .i64 v] y1 fun e w' => (∃ r, e = .returned (.bool r)) ∧ Hid (∃ g2 : Gq, g2.gl = shG (shA al old) (shG al g.gl old) v ∧ HGq W x l n ao cap nv ph kept done fc bk w' (shA (shA al old) v) g2 ∧ Fr (ownG x g1) (ownG x g2) y1 w')) := hide fun y1 g1 e1 hy => by
    have := g_shade (hide hy) (by rw [e1]; have := shG_len al g.gl old; omega) v
    rw [e1] at this
    exact this.mono fun _ _ hh => ⟨⟨_, hh.1⟩, hide hh.2⟩
  have HC : Hid (∀ y1 g1, HGq W x l n ao cap nv ph kept done fc bk y1 (shA al old) g1 → y1.cell? ⟨x.b.cb, 3, none⟩ = some (.pointer (some ⟨x.b.kb, 0, none⟩))) := hide fun y1 g1 hy => hy.cb.c3
  by_cases hb : id ∈ bk
  · rw [show baA al bk old v id = shA al old from if_pos hb, show baG al bk g.gl old v id = shG al g.gl old from if_pos hb]
    rw [decide_eq_true hb] at C2
    clear h hn hp C3 HC hb
    go_enter Tryz.func66, Tryz.ntmps66
    go_wp2_with fail
    refine (unhide CS).mono ?_
    rintro e w1 ⟨rfl, hw⟩
    rw [hw]
    clear hw CS w1
    go_wp2_with fail
    refine (unhide C1).mono ?_
    rintro e w2 ⟨rfl, g2, e2, S2, f2⟩
    have K2 := hide (unhide C2 w2 g2 e2 S2)
    have F2 := hide (And.intro e2 f2)
    clear C1 C2 e2 S2 f2
    go_wp2_with fail
    refine (unhide K2).mono ?_
    rintro e w3 ⟨rfl, h3⟩
    clear K2
    go_wp2_with fail
    go_end0
    exact ⟨rfl, g2, (unhide F2).1, (unhide h3).1, (unhide F2).2.g (unhide h3).2⟩
  · rw [show baA al bk old v id = shA (shA al old) v from if_neg hb, show baG al bk g.gl old v id = shG (shA al old) (shG al g.gl old) v from if_neg hb]
    rw [decide_eq_false hb] at C2
    clear h hn hp hb
    go_enter Tryz.func66, Tryz.ntmps66
    go_wp2_with fail
    refine (unhide CS).mono ?_
    rintro e w1 ⟨rfl, hw⟩
    rw [hw]
    clear hw CS w1
    go_wp2_with fail
    refine (unhide C1).mono ?_
    rintro e w2 ⟨rfl, g2, e2, S2, f2⟩
    have K2 := hide (unhide C2 w2 g2 e2 S2)
    have F2 := hide (And.intro e2 f2)
    clear C1 C2 e2 S2 f2
    go_wp2_with fail
    refine (unhide K2).mono ?_
    rintro e w3 ⟨rfl, h3⟩
    have d3 := unhide HC w3 g2 (unhide h3).1
    have K3 := hide (unhide C3 w3 g2 (unhide F2).1 (unhide h3).1)
    clear K2 C3 HC
    go_wp2_with fail
    refine (unhide K3).mono ?_
    rintro e w4 ⟨⟨r4, rfl⟩, h4⟩
    clear K3
    go_wp2_with fail
    go_end0
    obtain ⟨g4, e4, S4, f4⟩ := unhide h4
    exact ⟨rfl, g4, e4, S4, ((unhide F2).2.g (unhide h3).2).trans f4⟩
theorem g_barrier0 (hp : (ph == 1 || ph == 2) = false) (h : Hid (HGq W x l n ao cap nv ph kept done fc bk w al g)) (old v id : Int) : Calls Tryz.prog 66 #[.pointer (some ⟨x.b.cb, 0, none⟩), .int .i64 old, .int .i64 v, .int .i64 id] w fun e w' => e = .returned (.tuple #[]) ∧ w' = w := by
  have CS := hide (g_shades h)
  rw [hp] at CS
  clear h hp
  go_enter Tryz.func66, Tryz.ntmps66
  go_wp2_with fail
  refine (unhide CS).mono ?_
  rintro e w1 ⟨rfl, hw⟩
  rw [hw]
  clear hw CS w1
  go_wp2_with fail
  go_returns
  exact ⟨rfl, rfl⟩
end
end Go.Proofs.YtmifehomglilmaaGreatDoor

/- A collection is begun, and its one stack looked at, while nothing is held: Start, Scan with package gantlinelaw14's stacked. -/
namespace Go.Proofs.YtmifehomglilmaaGreatDoor
set_option maxRecDepth 100000
open Go.ChangeShapes Go.WideShapes Go.ChangeAt Go.RowKit Go.Maps Go.ChangeMaps Go.MapKept Go.Deep

theorem sk_globals (w : World) (p : Option Addr) : Calls Tryz.prog 141 #[.pointer p] w fun e w' => e = .returned (.slice none 0 0) ∧ w' = w := by
  go_enter Tryz.func141, Tryz.ntmps141
  go_wp2_with fail
  go_ret
  exact ⟨rfl, rfl⟩
theorem sk_stack (w : World) (p : Option Addr) (i : Int) : Calls Tryz.prog 142 #[.pointer p, .int .i64 i] w fun e w' => e = .returned (.slice none 0 0) ∧ w' = w := by
  go_enter Tryz.func142, Tryz.ntmps142
  go_wp2_with fail
  go_ret
  exact ⟨rfl, rfl⟩
theorem sk_stacks (w : World) (p : Option Addr) : Calls Tryz.prog 143 #[.pointer p] w fun e w' => e = .returned (.slice (some ⟨w.heap.size, 0, none⟩) 1 1) ∧ w' = w.alloc (.cells #[.int .i64 1] 3) := by
  go_enter Tryz.func143, Tryz.ntmps143
  go_wp2_with fail
  go_ret
  exact ⟨rfl, rfl⟩
theorem idx_one (w : World) (b : Nat) (h : w.cell? ⟨b, 0, none⟩ = some (.int .i64 1)) : Calls Tryz.prog 68 #[.slice (some ⟨b, 0, none⟩) 1 1, .int .i64 1] w fun e w' => e = .returned (.int .i64 0) ∧ w' = w := by
  go_enter Tryz.func68, Tryz.ntmps68
  go_wp2_with fail
  refine wp_loop_rounds 1 ?_
  rw [rounds_succ]
  go_wp2_with fail
  go_ret
  exact ⟨rfl, rfl⟩
theorem has_one (w : World) (b : Nat) (h : w.cell? ⟨b, 0, none⟩ = some (.int .i64 1)) : Calls Tryz.prog 50 #[.slice (some ⟨b, 0, none⟩) 1 1, .int .i64 1] w fun e w' => e = .returned (.bool true) ∧ w' = w := by
  have C := hide (idx_one w b h)
  clear h
  go_enter Tryz.func50, Tryz.ntmps50
  go_wp2_with fail
  refine (unhide C).mono ?_
  rintro e w1 ⟨rfl, hw⟩
  rw [hw]
  clear hw C w1
  go_wp2_with fail
  go_ret
  exact ⟨rfl, rfl⟩
theorem g_shadeAll0 (w : World) (cb : Nat) (ao : Option Addr) (cap : Nat) : Calls Tryz.prog 48 #[.pointer (some ⟨cb, 0, none⟩), .slice ao 0 cap] w fun e w' => e = .returned (.tuple #[]) ∧ w' = w := by
  go_enter Tryz.func48, Tryz.ntmps48
  go_wp2_with fail
  go_loopw [8] (fun c wr => c = .int .i64 0 ∧ Hid (wr = w)) (fun _ _ => 0)
  case atStart => exact ⟨rfl, hide rfl⟩
  case round =>
    obtain ⟨rfl, hw⟩ := hrel
    have hw' := unhide hw
    subst hw'
    go_wp2_with fail
    go_end0
    exact ⟨rfl, rfl⟩
/-- clear of a map. -/
theorem run_clearB {w : World} {mb clock : Nat} {es : Array MapEntry} (hb : w.heap[mb]? = some (.map es clock)) : (Builtin.clear_ #[104] 0 #[.map (some mb)]).run Tryz.prog w = .ok (.tuple #[]) (setBlock w mb (.map #[] clock)) := by
  simp [Builtin.clear_, run_underlying Tryz.underlying104, MapKept.run_getObj_map hb, MapKept.run_setObj_map _ hb, Result.andThen, setBlock]
section
variable {W w w' : World} {x : Hx} {al al' : Al} {l : List Hd.Shp} {n : Nat} {ao : Option Addr} {cap : Nat} {nv : Value} {ph kept done fc : Int} {bk : List Int} {g : Gq}
theorem HG.cleared {c : Nat → Nat} {gl : List Int} {qs : List Nat} {es : Array MapEntry} {cl : Nat} (h : HG W w x al l n ao cap nv c ph kept done fc bk gl qs) (hc : w.heap[x.b.mb]? = some (.map es cl)) : HG W (setBlock w x.b.mb (.map #[] cl)) x al l n ao cap nv c ph kept done fc [] gl qs ∧ Fr (ownG x ⟨c, gl, qs⟩) (ownG x ⟨c, gl, qs⟩) w (setBlock w x.b.mb (.map #[] cl)) := by
  have k : ∀ d, d ≠ x.b.mb → (setBlock w x.b.mb (.map #[] cl)).heap[d]? = w.heap[d]? := fun d hd => heap_setBlock_other hc _ hd
  have hsz : (setBlock w x.b.mb (.map #[] cl)).heap.size = w.heap.size := by unfold setBlock; simp
  have lo := h.lo
  have bl : Below W.heap.size W (setBlock w x.b.mb (.map #[] cl)) := ⟨h.st.below.os, h.st.below.tape, h.st.below.output, by rw [hsz]; exact h.st.below.size, fun d hd => (k d (by omega)).trans (h.st.below.block d hd)⟩
  refine ⟨h.mapped bl (by rw [hsz]; exact Nat.le_refl _) (fun d _ hd => k d hd) ?_, by rw [hsz]; exact Nat.le_refl _, fun d _ ho => k d (fun e => ho (Or.inr (Or.inr (Or.inr (Or.inr (Or.inl e)))))), fun _ h => Or.inl h⟩
  exact ⟨.map [], ⟨#[], cl, heap_setBlock_same hc _, ⟨by simp, stamped_empty cl, by simp⟩, Nat.le_refl _, rfl⟩, fun y _ => by simp [Maps.has]⟩
theorem fr_cb (i : Nat) (v : Value) : Fr (ownG x g) (ownG x g) w (w.setCell ⟨x.b.cb, i, none⟩ v) := ⟨by rw [World.size_setCell]; exact Nat.le_refl _, fun d _ ho => Below.heap_setCell _ _ _ _ (by show d ≠ x.b.cb; intro e; exact ho (Or.inr (Or.inr (Or.inr (Or.inl e))))), fun _ h => Or.inl h⟩
set_option maxHeartbeats 1000000 in
theorem g_start (h : Hid (HGq W x l n ao cap nv 0 kept done fc bk w al g)) (p : Option Addr) : Calls Tryz.prog 22 #[.pointer (some ⟨x.b.cb, 0, none⟩), .iface 63 (.pointer p)] w fun e w' => e = .returned (.bool true) ∧ HGq W x l n ao cap nv 1 kept done fc [] w' ⟨al.a.clear, al.u⟩ g ∧ Fr (ownG x g) (ownG x g) w w' := by
  have c4 := (unhide h).cb.c4
  have c0 := (unhide h).cb.c0
  have C := hide (l_clear (hide (unhide h).st))
  go_enter Tryz.func22, Tryz.ntmps22
  go_wp2_with fail
  refine (unhide C).mono ?_
  rintro r w1 ⟨rfl, s1, t1⟩
  have h1 := (unhide h).turn s1 t1
  have h2 := h1.phase 1
  have d4 := h1.cb.c4
  have f4 := h1.cb.fz 4
  have d5 := h2.cb.c5
  obtain ⟨es, cl, hc⟩ : ∃ es cl, (w1.setCell ⟨x.b.cb, 4, none⟩ (.int .i64 1)).heap[x.b.mb]? = some (.map es cl) := by
    obtain ⟨D, ⟨es, cl, hb, _⟩, _⟩ := h2.mp
    exact ⟨es, cl, hb⟩
  have hrun := run_clearB hc
  obtain ⟨h3, f3⟩ := h2.cleared hc
  have F3 := hide (And.intro h3 ((frg_tn (g := g) t1).trans ((fr_cb 4 (.int .i64 1)).trans f3)))
  obtain ⟨w2, hw2⟩ : ∃ w2, setBlock (w1.setCell ⟨x.b.cb, 4, none⟩ (.int .i64 1)) x.b.mb (.map #[] cl) = w2 := ⟨_, rfl⟩
  rw [hw2] at F3 hrun
  clear C s1 t1 c4 c0 hc hw2 h1 h2 h3 f3
  go_wp2_with fail
  refine (sk_globals _ _).mono ?_
  rintro r w3 ⟨rfl, hw3⟩
  rw [hw3]
  clear hw3 w3
  go_wp2_with fail
  refine (g_shadeAll0 _ _ _ _).mono ?_
  rintro r w4 ⟨rfl, hw4⟩
  rw [hw4]
  clear hw4 w4
  go_wp2_with fail
  go_ret
  exact ⟨rfl, (unhide F3).1, (unhide F3).2⟩
set_option maxHeartbeats 1000000 in
theorem g_blacken (h : Hid (HGq W x l n ao cap nv ph kept done fc bk w al g)) (hk : bk.length ≤ 1000) (p : Option Addr) : Calls Tryz.prog 52 #[.pointer (some ⟨x.b.cb, 0, none⟩), .iface 63 (.pointer p), .int .i64 1] w fun e w' => e = .returned (.tuple #[]) ∧ HGq W x l n ao cap nv ph kept done fc (bk ++ [1]) w' al g ∧ Fr (ownG x g) (ownG x g) w w' := by
  have c5 := (unhide h).cb.c5
  obtain ⟨D, hD, hh⟩ := (unhide h).mp
  have hw1 : wfN 1 := WalkArith.wf_i64 (n := 1) (by decide)
  have hkey : keyOf Tryz.prog 3 (.int .i64 1) = some (.int .i64 1) := keyOf_int_mk Tryz.underlying3 hw1
  have hnm : bk.length < maxLen := by unfold maxLen; omega
  have FIN : Hid (∀ w4, w4.ownsMap (H := Unit) Tryz.prog 3 unitElem x.b.mb (bk.length + 1) (D.put (.int .i64 1) (.agg [])) → w.grownBy w4 (some x.b.mb) → HGq W x l n ao cap nv ph kept done fc (bk ++ [1]) w4 al g ∧ Fr (ownG x g) (ownG x g) w w4) := hide fun w4 m4 g4 => by
    have kp : ∀ d, d < w.heap.size → d ≠ x.b.mb → w4.heap[d]? = w.heap[d]? := fun d hd hne => g4.block d hd (fun e => hne (Option.some.inj e))
    have lo := (unhide h).lo
    have hbl : Below W.heap.size W w4 := Below.trans (unhide h).st.below ⟨g4.os, g4.tape, g4.output, g4.size, fun d hd => kp d (Nat.lt_of_lt_of_le hd (unhide h).st.below.size) (by omega)⟩
    refine ⟨(unhide h).mapped hbl g4.size kp ⟨_, by rw [List.length_append]; exact m4, fun y hy => ?_⟩, g4.size, fun d hd ho => kp d hd (fun e => ho (Or.inr (Or.inr (Or.inr (Or.inr (Or.inl e)))))), fun _ h => Or.inl h⟩
    by_cases e : y = 1
    · subst e
      rw [Maps.has_put_same hD.isMap (keyB.key hkey)]
      simp
    · rw [Maps.has_put_other (by simpa using e), hh y hy]
      simp [e]
  have ow := hide hD
  clear hh hD h hk
  go_enter Tryz.func52, Tryz.ntmps52
  go_wp2_with fail
  refine (sk_stack _ _ _).mono ?_
  rintro r w1 ⟨rfl, hw1'⟩
  rw [hw1']
  clear hw1' w1
  go_wp2_with fail
  refine (g_shadeAll0 _ _ _ _).mono ?_
  rintro r w2 ⟨rfl, hw2⟩
  rw [hw2]
  clear hw2 w2
  go_wp2_with (at_mapUpdate; refine wpList_mapUpdate_own _ rfl _ _ _ 104 rfl 3 64 keyB Tryz.underlying104 (unitElem (H := Unit)) x.b.mb bk.length D rfl (unhide ow) hnm _ _ _ rfl rfl hkey _ [] unitElem_mk ?_; intro w4 hm4 hg4; have S4 := hide (unhide FIN w4 hm4 hg4); clear hm4 hg4 FIN)
  go_end0
  exact ⟨rfl, unhide S4⟩
set_option maxHeartbeats 1000000 in
theorem g_scan (hp : (ph == 1 || ph == 2) = true) (h : Hid (HGq W x l n ao cap nv ph kept done fc bk w al g)) (hb : (1 : Int) ∉ bk) (hk : bk.length ≤ 1000) (p : Option Addr) : Calls Tryz.prog 23 #[.pointer (some ⟨x.b.cb, 0, none⟩), .iface 63 (.pointer p), .int .i64 1] w fun e w' => e = .returned (.bool true) ∧ HGq W x l n ao cap nv ph kept done fc (bk ++ [1]) w' al g ∧ Fr (ownG x g) (ownG x g) w w' := by
  have CS := hide (g_shades h)
  rw [hp] at CS
  obtain ⟨W2, hW2⟩ : ∃ W2, W2 = w.alloc (.cells #[.int .i64 1] 3) := ⟨_, rfl⟩
  have g2 : G w W2 := by rw [hW2]; exact G.alloc _ _
  have q2 : W2.cell? ⟨w.heap.size, 0, none⟩ = some (.int .i64 1) := by rw [hW2]; exact World.cell?_alloc_new _ _ _ 0
  have h2 := hide ((unhide h).gr g2)
  have CH := hide (has_one W2 w.heap.size q2)
  have CB := hide (g_black h2 1 (WalkArith.wf_i64 (n := 1) (by decide)))
  rw [decide_eq_false hb] at CB
  have CK : Hid (∀ y, G W2 y → Calls Tryz.prog 52 #[.pointer (some ⟨x.b.cb, 0, none⟩), .iface 63 (.pointer p), .int .i64 1] y fun e w' => e = .returned (.tuple #[]) ∧ Hid (HGq W x l n ao cap nv ph kept done fc (bk ++ [1]) w' al g ∧ Fr (ownG x g) (ownG x g) w w')) := hide fun y gy => (g_blacken (hide ((unhide h2).gr gy)) hk p).mono fun _ _ hh => ⟨hh.1, hide ⟨hh.2.1, (Fr.of_G (g2.trans gy)).trans hh.2.2⟩⟩
  clear h h2 hb hk hp q2 g2
  go_enter Tryz.func23, Tryz.ntmps23
  go_wp2_with fail
  refine (unhide CS).mono ?_
  rintro r w1 ⟨rfl, hw⟩
  rw [hw]
  clear hw CS w1
  go_wp2_with fail
  refine (sk_stacks _ _).mono ?_
  rintro r w1 ⟨rfl, hw⟩
  rw [hw, ← hW2]
  clear hw w1 hW2
  go_wp2_with fail
  refine (unhide CH).mono ?_
  rintro r w1 ⟨rfl, hw⟩
  rw [hw]
  clear hw CH w1
  go_wp2_with fail
  refine (unhide CB).mono ?_
  rintro r w3 ⟨rfl, g3⟩
  have K3 := hide (unhide CK w3 g3)
  clear CB CK g3
  go_wp2_with fail
  refine (unhide K3).mono ?_
  rintro r w4 ⟨rfl, h4⟩
  clear K3
  go_wp2_with fail
  go_ret
  exact ⟨rfl, unhide h4⟩
end
end Go.Proofs.YtmifehomglilmaaGreatDoor

/- Package heap, over any view: write, Set, Put; package gantlinelaw14's write.do. -/
namespace Go.Proofs.YtmifehomglilmaaGreatDoor
set_option maxRecDepth 100000
open Go.ChangeShapes Go.WideShapes Go.ChangeAt Go.RowKit Go.Maps Go.Deep

section
variable {γ : Type} {V : World → Al → γ → Prop} {own : γ → Nat → Prop} {W : World} {x : Hx} {l : List Hd.Shp} {ao : Option Addr} {cap : Nat} {w : World} {al : Al} {g : γ}
theorem hv_write (VB : Hid (∀ w al g, V w al g → HB W w x al l ao cap)) (H : Hid (HV V own x.hb x.b.cb x.xl.d.ab l)) (h : Hid (V w al g)) (a f old v : Int) (tb : Bool) (id : Int) (al1 : Al) (Pg : γ → Prop) (hB : tb = true → BarC V own x.b.cb al g old v id al1 Pg) (hN : tb = false → al1 = al ∧ Pg g) :
    Calls Tryz.prog 43 #[.pointer (some ⟨x.hb, 0, none⟩), .int .i64 a, .int .i64 f, .int .i64 old, .int .i64 v, .bool tb, .int .i64 id] w fun e w' => e = .returned (.tuple #[]) ∧ ∃ g2, Pg g2 ∧ V w' ⟨al1.a.writeA a (wrap64 (f + 1)) v, al1.u⟩ g2 ∧ Fr (own g) (own g2) w w' := by
  have h0 := (unhide VB _ _ _ (unhide h)).h0
  have H0 : Hid (∀ y g1, V y al1 g1 → y.cell? ⟨x.hb, 0, none⟩ = some (.pointer (some ⟨x.b.cb, 0, none⟩))) := hide fun y g1 hy => (unhide VB _ _ _ hy).h0
  have CA : Hid (∀ y g1, V y al1 g1 → Calls Tryz.prog 35 #[.pointer (some ⟨x.b.cb, 0, none⟩)] y fun e w' => e = .returned (.pointer (some ⟨x.xl.d.ab, 0, none⟩)) ∧ w' = y) := hide fun y g1 hy => (unhide H).arena y _ _ hy
  have CW : Hid (∀ y g1, V y al1 g1 → Calls Tryz.prog 36 #[.pointer (some ⟨x.xl.d.ab, 0, none⟩), .int .i64 a, .int .i64 (wrap64 (f + 1)), .int .i64 v] y fun e w' => (∃ r, e = .returned (.int .i64 r)) ∧ Hid (V w' ⟨al1.a.writeA a (wrap64 (f + 1)) v, al1.u⟩ g1 ∧ Fr (own g1) (own g1) y w')) := hide fun y g1 hy => ((unhide H).write y _ _ a (wrap64 (f + 1)) v hy).mono fun _ _ hh => ⟨⟨_, hh.1⟩, hide hh.2⟩
  generalize (⟨al1.a.writeA a (wrap64 (f + 1)) v, al1.u⟩ : Al) = al2 at CW ⊢
  unfold BarC at hB
  cases tb
  · obtain ⟨rfl, pg⟩ := hN rfl
    have C1 := hide (unhide CA w g (unhide h))
    have C2 := hide (unhide CW w g (unhide h))
    replace pg := hide pg
    clear hB hN CA CW H0 h H VB
    go_enter Tryz.func43, Tryz.ntmps43
    go_wp2_with fail
    refine (unhide C1).mono ?_
    rintro e w1 ⟨rfl, hw⟩
    rw [hw]
    clear hw C1 w1
    go_wp2_with fail
    refine (unhide C2).mono ?_
    rintro e w2 ⟨⟨r, rfl⟩, h2⟩
    clear C2
    go_wp2_with fail
    go_end0
    exact ⟨rfl, g, unhide pg, (unhide h2).1, (unhide h2).2⟩
  · have CB := hide (hB rfl w (unhide h))
    clear hB hN h H VB
    go_enter Tryz.func43, Tryz.ntmps43
    go_wp2_with fail
    refine (unhide CB).mono ?_
    rintro e w1 ⟨rfl, g1, pg, v1, f1⟩
    have d0 := unhide H0 w1 g1 v1
    have C1 := hide (unhide CA w1 g1 v1)
    have C2 := hide (unhide CW w1 g1 v1)
    replace pg := hide pg
    replace f1 := hide f1
    clear CB CA CW H0 v1 h0
    go_wp2_with fail
    refine (unhide C1).mono ?_
    rintro e w2 ⟨rfl, hw⟩
    rw [hw]
    clear hw C1 w2
    go_wp2_with fail
    refine (unhide C2).mono ?_
    rintro e w2 ⟨⟨r, rfl⟩, h2⟩
    clear C2
    go_wp2_with fail
    go_end0
    exact ⟨rfl, g1, unhide pg, (unhide h2).1, (unhide f1).trans (unhide h2).2⟩
theorem hv_set (VB : Hid (∀ w al g, V w al g → HB W w x al l ao cap)) (H : Hid (HV V own x.hb x.b.cb x.xl.d.ab l)) (h : Hid (V w al g)) (a f v : Int) (ad br : Bool) (id old : Int) (hT : getT al l a f ad = (old, 0)) (al1 : Al) (Pg : γ → Prop) (hB : (ad && br) = true → BarC V own x.b.cb al g old v id al1 Pg) (hN : (ad && br) = false → al1 = al ∧ Pg g) :
    Calls Tryz.prog 27 #[.pointer (some ⟨x.hb, 0, none⟩), .int .i64 a, .int .i64 f, .int .i64 v, .bool ad, .bool br, .int .i64 id] w fun e w' => e = .returned (.int .i64 0) ∧ ∃ g2, Pg g2 ∧ V w' ⟨al1.a.writeA a (wrap64 (f + 1)) v, al1.u⟩ g2 ∧ Fr (own g) (own g2) w w' := by
  have CG := hide (hb_get (hide (unhide VB _ _ _ (unhide h))) a f ad)
  rw [hT] at CG
  have CW : Hid (∀ y, G w y → Calls Tryz.prog 43 #[.pointer (some ⟨x.hb, 0, none⟩), .int .i64 a, .int .i64 f, .int .i64 old, .int .i64 v, .bool (ad && br), .int .i64 id] y fun e w' => e = .returned (.tuple #[]) ∧ Hid (∃ g2, Pg g2 ∧ V w' ⟨al1.a.writeA a (wrap64 (f + 1)) v, al1.u⟩ g2 ∧ Fr (own g) (own g2) w w')) := hide fun y gy => (hv_write VB H (hide ((unhide H).gr _ _ _ _ (unhide h) gy)) a f old v (ad && br) id al1 Pg hB hN).mono fun _ _ hh => ⟨hh.1, hide (by
    obtain ⟨g2, p2, v2, f2⟩ := hh.2
    exact ⟨g2, p2, v2, (Fr.of_G gy).trans f2⟩)⟩
  generalize (⟨al1.a.writeA a (wrap64 (f + 1)) v, al1.u⟩ : Al) = al2 at CW ⊢
  clear hB hN h H VB hT
  cases ad
  · go_enter Tryz.func27, Tryz.ntmps27
    go_wp2_with fail
    refine (unhide CG).mono ?_
    rintro e w1 ⟨rfl, g1⟩
    have C2 := hide (unhide CW w1 g1)
    clear CG CW g1
    go_wp2_with fail
    refine (unhide C2).mono ?_
    rintro e w2 ⟨rfl, h2⟩
    clear C2
    go_wp2_with fail
    go_ret
    exact ⟨rfl, unhide h2⟩
  · go_enter Tryz.func27, Tryz.ntmps27
    go_wp2_with fail
    refine (unhide CG).mono ?_
    rintro e w1 ⟨rfl, g1⟩
    have C2 := hide (unhide CW w1 g1)
    clear CG CW g1
    go_wp2_with fail
    refine (unhide C2).mono ?_
    rintro e w2 ⟨rfl, h2⟩
    clear C2
    go_wp2_with fail
    go_ret
    exact ⟨rfl, unhide h2⟩
theorem hv_put (VB : Hid (∀ w al g, V w al g → HB W w x al l ao cap)) (H : Hid (HV V own x.hb x.b.cb x.xl.d.ab l)) (h : Hid (V w al g)) (a f v : Int) (ad br : Bool) (id old : Int) (hT : atT al l a f ad = (old, 0)) (al1 : Al) (Pg : γ → Prop) (hB : (ad && br) = true → BarC V own x.b.cb al g old v id al1 Pg) (hN : (ad && br) = false → al1 = al ∧ Pg g) :
    Calls Tryz.prog 17 #[.pointer (some ⟨x.hb, 0, none⟩), .int .i64 a, .int .i64 f, .int .i64 v, .bool ad, .bool br, .int .i64 id] w fun e w' => e = .returned (.int .i64 0) ∧ ∃ g2, Pg g2 ∧ V w' ⟨al1.a.writeA a (wrap64 (f + 1)) v, al1.u⟩ g2 ∧ Fr (own g) (own g2) w w' := by
  have CG := hide (hb_at (hide (unhide VB _ _ _ (unhide h))) a f ad)
  rw [hT] at CG
  have CW : Hid (∀ y, G w y → Calls Tryz.prog 43 #[.pointer (some ⟨x.hb, 0, none⟩), .int .i64 a, .int .i64 f, .int .i64 old, .int .i64 v, .bool (ad && br), .int .i64 id] y fun e w' => e = .returned (.tuple #[]) ∧ Hid (∃ g2, Pg g2 ∧ V w' ⟨al1.a.writeA a (wrap64 (f + 1)) v, al1.u⟩ g2 ∧ Fr (own g) (own g2) w w')) := hide fun y gy => (hv_write VB H (hide ((unhide H).gr _ _ _ _ (unhide h) gy)) a f old v (ad && br) id al1 Pg hB hN).mono fun _ _ hh => ⟨hh.1, hide (by
    obtain ⟨g2, p2, v2, f2⟩ := hh.2
    exact ⟨g2, p2, v2, (Fr.of_G gy).trans f2⟩)⟩
  generalize (⟨al1.a.writeA a (wrap64 (f + 1)) v, al1.u⟩ : Al) = al2 at CW ⊢
  clear hB hN h H VB hT
  cases ad
  · go_enter Tryz.func17, Tryz.ntmps17
    go_wp2_with fail
    refine (unhide CG).mono ?_
    rintro e w1 ⟨rfl, g1⟩
    have C2 := hide (unhide CW w1 g1)
    clear CG CW g1
    go_wp2_with fail
    refine (unhide C2).mono ?_
    rintro e w2 ⟨rfl, h2⟩
    clear C2
    go_wp2_with fail
    go_ret
    exact ⟨rfl, unhide h2⟩
  · go_enter Tryz.func17, Tryz.ntmps17
    go_wp2_with fail
    refine (unhide CG).mono ?_
    rintro e w1 ⟨rfl, g1⟩
    have C2 := hide (unhide CW w1 g1)
    clear CG CW g1
    go_wp2_with fail
    refine (unhide C2).mono ?_
    rintro e w2 ⟨rfl, h2⟩
    clear C2
    go_wp2_with fail
    go_ret
    exact ⟨rfl, unhide h2⟩
end
/-- write.do: the box is the call's own. -/
theorem w_do {w : World} {P : Ending → World → Prop} (hb : Nat) (a f : Int) (li ad : Bool) (v : Int) (br : Bool) (id : Int)
    (C : Hid (∀ y, G w y → if li = true then Calls Tryz.prog 17 #[.pointer (some ⟨hb, 0, none⟩), .int .i64 a, .int .i64 f, .int .i64 v, .bool ad, .bool br, .int .i64 id] y (fun e w' => e = .returned (.int .i64 0) ∧ P e w') else Calls Tryz.prog 27 #[.pointer (some ⟨hb, 0, none⟩), .int .i64 a, .int .i64 f, .int .i64 v, .bool ad, .bool br, .int .i64 id] y (fun e w' => e = .returned (.int .i64 0) ∧ P e w'))) :
    Calls Tryz.prog 21 #[.agg #[.pointer (some ⟨hb, 0, none⟩), .int .i64 a, .int .i64 f, .bool li, .bool ad], .int .i64 v, .bool br, .int .i64 id] w fun e w' => e = .returned (.int .i64 0) ∧ P e w' := by
  obtain ⟨W2, hW2⟩ : ∃ W2, W2 = w.alloc (.cells #[.pointer (some ⟨hb, 0, none⟩), .int .i64 a, .int .i64 f, .bool li, .bool ad] 67) := ⟨_, rfl⟩
  have g2 : G w W2 := by rw [hW2]; exact G.alloc _ _
  have b0 : W2.cell? ⟨w.heap.size, 0, none⟩ = some (.pointer (some ⟨hb, 0, none⟩)) := by rw [hW2]; exact World.cell?_alloc_new _ _ _ 0
  have b1 : W2.cell? ⟨w.heap.size, 1, none⟩ = some (.int .i64 a) := by rw [hW2]; exact World.cell?_alloc_new _ _ _ 1
  have b2 : W2.cell? ⟨w.heap.size, 2, none⟩ = some (.int .i64 f) := by rw [hW2]; exact World.cell?_alloc_new _ _ _ 2
  have b3 : W2.cell? ⟨w.heap.size, 3, none⟩ = some (.bool li) := by rw [hW2]; exact World.cell?_alloc_new _ _ _ 3
  have b4 : W2.cell? ⟨w.heap.size, 4, none⟩ = some (.bool ad) := by rw [hW2]; exact World.cell?_alloc_new _ _ _ 4
  have C2 := hide (unhide C W2 g2)
  clear C g2
  cases li
  · simp only [Bool.false_eq_true, if_false] at C2
    go_enter Tryz.func21, Tryz.ntmps21
    go_upto_region 1 with fail
    rw [← hW2]
    clear hW2
    go_wp2_with fail
    refine (unhide C2).mono ?_
    rintro e w2 ⟨rfl, h2⟩
    replace h2 := hide h2
    clear C2
    go_wp2_with fail
    go_ret
    exact ⟨rfl, unhide h2⟩
  · simp only [if_true] at C2
    go_enter Tryz.func21, Tryz.ntmps21
    go_upto_region 1 with fail
    rw [← hW2]
    clear hW2
    go_wp2_with fail
    refine (unhide C2).mono ?_
    rintro e w2 ⟨rfl, h2⟩
    replace h2 := hide h2
    clear C2
    go_wp2_with fail
    go_ret
    exact ⟨rfl, unhide h2⟩
end Go.Proofs.YtmifehomglilmaaGreatDoor

/- HeapShades: what the calls come to; write.do while a collection goes on. -/
namespace Go.Proofs.YtmifehomglilmaaGreatDoor
set_option maxRecDepth 100000
open Go.ChangeShapes Go.WideShapes Go.ChangeAt Go.RowKit Go.Maps Go.Deep

/-- The thing that is written into: by list or not, number or not. -/
def yk (li nu : Bool) : Nat := if li = true then (if nu = true then 1 else 2) else 0
def yw (li : Bool) : Nat := if li = true then 4 else 3
def yf (li nu : Bool) : Int := if nu = true then 0 else if li = true then 2 else 1
def ysh (li nu : Bool) : Hd.Shp := if li = true then (if nu = true then ⟨1, 0, 0⟩ else ⟨1, 0, 1⟩) else ⟨0, 2, 2⟩
def yt1 (li : Bool) : Al := ((al0 8).take (yw li : Int)).1
def yq1 (li nu : Bool) : Al := ⟨(yt1 li).a.writeA 64 0 (Hd.pkV (yw li : Int) (ysh li nu).k (yk li nu : Int)), (yt1 li).u⟩
def yt2 (li nu : Bool) : Al := ((yq1 li nu).take 2).1
def yq2 (li nu : Bool) : Al := ⟨(yt2 li nu).a.writeA 128 0 (Hd.pkV 2 1 1), (yt2 li nu).u⟩
def yt3 (li nu : Bool) : Al := ((yq2 li nu).take 3).1
def yq3 (li nu : Bool) : Al := ⟨(yt3 li nu).a.writeA 68 0 (Hd.pkV 3 1 1), (yt3 li nu).u⟩
def yq4 (li nu : Bool) : Al := ⟨(yq3 li nu).a.writeA 64 (wrap64 (yf li nu + 1)) 128, (yq3 li nu).u⟩
def yq5 (li nu : Bool) : Al := ⟨(yq4 li nu).a.clear, (yq4 li nu).u⟩
theorem y_t1 : ∀ li : Bool, ((al0 8).take (yw li : Int)).2 = (64, 0) := by decide +kernel
theorem y_t2 : ∀ li nu : Bool, ((yq1 li nu).take 2).2 = (128, 0) := by decide +kernel
theorem y_t3 : ∀ li nu : Bool, ((yq2 li nu).take 3).2 = (68, 0) := by decide +kernel
/-- What stood there. -/
def rdY (li nu : Bool) (al : Al) : Int × Int := if li = true then atT al ls3 64 (yf li nu) (!nu) else getT al ls3 64 (yf li nu) (!nu)
theorem y_r3 : ∀ li nu : Bool, rdY li nu (yq3 li nu) = (0, 0) := by decide +kernel
theorem y_r4 : ∀ li nu : Bool, rdY li nu (yq4 li nu) = (128, 0) := by decide +kernel
theorem y_r5 : ∀ li nu : Bool, rdY li nu (yq5 li nu) = (128, 0) := by decide +kernel
theorem y_g : ∀ li nu : Bool, (baG (yq5 li nu) [] [] 128 68 1).length = 2 ∧ (baG (yq5 li nu) [1] [] 128 68 1).length = 1 := by decide +kernel
theorem ls3_m : ∀ s ∈ ls3, s.m < 18446744073709551616 := fun s hs => (ls3_ok s hs).1.m0
/-- The box of the law's own. -/
structure BxY (bx : Nat) (hb : Nat) (li nu : Bool) (w : World) : Prop where
  b0 : w.cell? ⟨bx, 0, none⟩ = some (.pointer (some ⟨hb, 0, none⟩))
  b1 : w.cell? ⟨bx, 1, none⟩ = some (.int .i64 64)
  b2 : w.cell? ⟨bx, 2, none⟩ = some (.int .i64 (yf li nu))
  b3 : w.cell? ⟨bx, 3, none⟩ = some (.bool li)
  b4 : w.cell? ⟨bx, 4, none⟩ = some (.bool (!nu))
theorem BxY.fr {bx hb : Nat} {li nu : Bool} {w w' : World} {o o' : Nat → Prop} (h : BxY bx hb li nu w) (f : Fr o o' w w') (ho : ¬ o bx) : BxY bx hb li nu w' := by
  have hl := World.block_lt_of_cell? w _ h.b0
  exact ⟨f.cell hl ho h.b0, f.cell hl ho h.b1, f.cell hl ho h.b2, f.cell hl ho h.b3, f.cell hl ho h.b4⟩
/-- A Heap, the law's box beside it; k: so many are grey. -/
def YS (W : World) (x : Hx) (ao : Option Addr) (cap : Nat) (nv : Value) (li nu : Bool) (bx : Nat) (ph : Int) (bk : List Int) (al : Al) (k : Nat) (w : World) : Prop :=
  ∃ g : Gq, g.gl.length = k ∧ HGq W x ls3 3 ao cap nv ph 64 0 0 bk w al g ∧ ¬ ownG x g bx ∧ BxY bx x.hb li nu w
section
variable {W w : World} {x : Hx} {ao : Option Addr} {cap : Nat} {nv : Value} {c : Nat → Nat} {li nu : Bool} {bx : Nat} {ph : Int} {bk : List Int} {al : Al}
theorem fr_not {o o' : Nat → Prop} {w w' : World} (f : Fr o o' w w') (hl : bx < w.heap.size) (h : ¬ o bx) : ¬ o' bx := fun h' => by
  rcases f.more bx h' with e | e
  · exact h e
  · omega
theorem y_make1 (li nu : Bool) (h : Hid (HS W w x (al0 8) ls3 3 ao cap nv c)) (rv : Value) : Calls Tryz.prog 9 #[.pointer (some ⟨x.hb, 0, none⟩), .int .i64 (yk li nu : Int), .int .i64 (yw li : Int), rv] w fun e w' => e = .returned (.tuple #[.int .i64 64, .int .i64 0]) ∧ HS W w' x (yq1 li nu) ls3 3 ao cap nv c :=
  h_make h (yk li nu) (by cases li <;> cases nu <;> decide) (ysh li nu) (by cases li <;> cases nu <;> rfl) (yw li : Int) 64 (by cases li <;> decide) (by cases li <;> decide) (yt1 li) (hide (tr_of (y_t1 li))) rv
theorem y_make2 (li nu : Bool) (h : Hid (HS W w x (yq1 li nu) ls3 3 ao cap nv c)) (rv : Value) : Calls Tryz.prog 9 #[.pointer (some ⟨x.hb, 0, none⟩), .int .i64 1, .int .i64 2, rv] w fun e w' => e = .returned (.tuple #[.int .i64 128, .int .i64 0]) ∧ HS W w' x (yq2 li nu) ls3 3 ao cap nv c :=
  h_make h 1 (by decide) ⟨1, 0, 0⟩ rfl 2 128 (by decide) (by decide) (yt2 li nu) (hide (tr_of (y_t2 li nu))) rv
theorem y_make3 (li nu : Bool) (h : Hid (HS W w x (yq2 li nu) ls3 3 ao cap nv c)) (rv : Value) : Calls Tryz.prog 9 #[.pointer (some ⟨x.hb, 0, none⟩), .int .i64 1, .int .i64 3, rv] w fun e w' => e = .returned (.tuple #[.int .i64 68, .int .i64 0]) ∧ HS W w' x (yq3 li nu) ls3 3 ao cap nv c :=
  h_make h 1 (by decide) ⟨1, 0, 0⟩ rfl 3 68 (by decide) (by decide) (yt3 li nu) (hide (tr_of (y_t3 li nu))) rv
/-- The box is laid. -/
theorem y_box (h : HS W w x (yq3 li nu) ls3 3 ao cap nv c) : YS W x ao cap nv li nu w.heap.size 0 [] (yq3 li nu) 0 (w.alloc (.cells #[.pointer (some ⟨x.hb, 0, none⟩), .int .i64 64, .int .i64 (yf li nu), .bool li, .bool (!nu)] 67)) := by
  obtain ⟨c', G2⟩ := h.hG
  have H := hv_hg W x ls3 3 ao cap nv 0 64 0 0 [] ls3_m
  refine ⟨⟨c', [], []⟩, rfl, G2.gr (G.alloc _ _), fun ho => Nat.lt_irrefl _ (H.lt w _ ⟨c', [], []⟩ G2 _ ho), ?_⟩
  exact ⟨World.cell?_alloc_new _ _ _ 0, World.cell?_alloc_new _ _ _ 1, World.cell?_alloc_new _ _ _ 2, World.cell?_alloc_new _ _ _ 3, World.cell?_alloc_new _ _ _ 4⟩
theorem bar_ys (hp : ph = 0 ∨ ph = 1) {g : Gq} (hg : g.gl.length = 0) (al : Al) (old v id : Int) (hi : wfN id) : BarC (HGq W x ls3 3 ao cap nv ph 64 0 0 bk) (ownG x) x.b.cb al g old v id (if ph = 1 then baA al bk old v id else al) (fun g2 => g2.gl = if ph = 1 then baG al bk [] old v id else []) := by
  have hg' : g.gl = [] := List.length_eq_zero_iff.1 hg
  intro y hy
  rcases hp with rfl | rfl
  · refine (g_barrier0 rfl (hide hy) old v id).mono fun _ _ hh => ⟨hh.1, g, by rw [if_neg (by decide)]; exact hg', ?_, ?_⟩
    · rw [hh.2, if_neg (by decide)]; exact hy
    · rw [hh.2]; exact Fr.of_G (G.refl _)
  · refine (g_barrier rfl (hide hy) (by rw [hg']; decide) old v id hi).mono ?_
    rintro e w' ⟨he, g2, e2, S2, f2⟩
    rw [hg'] at e2
    exact ⟨he, g2, by rw [if_pos rfl]; exact e2, by rw [if_pos rfl]; exact S2, f2⟩
/-- One write. -/
theorem y_do (hp : ph = 0 ∨ ph = 1) (h : Hid (YS W x ao cap nv li nu bx ph bk al 0 w)) (v old : Int) (hr : rdY li nu al = (old, 0)) (br : Bool) (k : Nat) (al2 : Al) (hk : (if (!nu && br) = true ∧ ph = 1 then (baG al bk [] old v 1).length else 0) = k)
    (ha : al2 = ⟨(if (!nu && br) = true ∧ ph = 1 then baA al bk old v 1 else al).a.writeA 64 (wrap64 (yf li nu + 1)) v, (if (!nu && br) = true ∧ ph = 1 then baA al bk old v 1 else al).u⟩) :
    Calls Tryz.prog 21 #[.agg #[.pointer (some ⟨x.hb, 0, none⟩), .int .i64 64, .int .i64 (yf li nu), .bool li, .bool (!nu)], .int .i64 v, .bool br, .int .i64 1] w fun e w' => e = .returned (.int .i64 0) ∧ YS W x ao cap nv li nu bx ph bk al2 k w' := by
  obtain ⟨g, eg, S, no, BX⟩ := unhide h
  have H := hide (hv_hg W x ls3 3 ao cap nv ph 64 0 0 bk ls3_m)
  have VB : Hid (∀ w al g, HGq W x ls3 3 ao cap nv ph 64 0 0 bk w al g → HB W w x al ls3 ao cap) := hide fun _ _ _ hy => hy.hB
  have hl := World.block_lt_of_cell? w _ BX.b0
  have w1 : wfN 1 := WalkArith.wf_i64 (n := 1) (by decide)
  subst ha
  subst hk
  refine w_do (P := fun e w' => YS W x ao cap nv li nu bx ph bk _ _ w') x.hb 64 (yf li nu) li (!nu) v br 1 (hide fun y gy => ?_)
  have Sy := S.gr gy
  -- what is known behind the write
  have fin : ∀ (al1 : Al) (w' : World) (g2 : Gq), g2.gl.length = (if (!nu && br) = true ∧ ph = 1 then (baG al bk [] old v 1).length else 0) → HGq W x ls3 3 ao cap nv ph 64 0 0 bk w' al1 g2 → Fr (ownG x g) (ownG x g2) y w' → YS W x ao cap nv li nu bx ph bk al1 (if (!nu && br) = true ∧ ph = 1 then (baG al bk [] old v 1).length else 0) w' := fun al1 w' g2 e2 S2 f2 =>
    ⟨g2, e2, S2, fr_not ((Fr.of_G (o := ownG x g) gy).trans f2) hl no, BX.fr ((Fr.of_G (o := ownG x g) gy).trans f2) no⟩
  have bar : (!nu && br) = true → BarC (HGq W x ls3 3 ao cap nv ph 64 0 0 bk) (ownG x) x.b.cb al g old v 1 (if (!nu && br) = true ∧ ph = 1 then baA al bk old v 1 else al) (fun g2 => g2.gl.length = if (!nu && br) = true ∧ ph = 1 then (baG al bk [] old v 1).length else 0) := fun ht => by
    have hb := bar_ys (W := W) (x := x) (ao := ao) (cap := cap) (nv := nv) (bk := bk) hp eg al old v 1 w1
    rcases hp with rfl | rfl
    · rw [if_neg (by rintro ⟨_, e⟩; exact absurd e (by decide)), if_neg (by rintro ⟨_, e⟩; exact absurd e (by decide))]
      intro y2 hy2
      refine (hb y2 hy2).mono ?_
      rintro e w' ⟨he, g2, e2, S2, f2⟩
      exact ⟨he, g2, by show g2.gl.length = _; rw [e2]; rfl, S2, f2⟩
    · rw [if_pos ⟨ht, rfl⟩, if_pos ⟨ht, rfl⟩]
      intro y2 hy2
      refine (hb y2 hy2).mono ?_
      rintro e w' ⟨he, g2, e2, S2, f2⟩
      exact ⟨he, g2, by show g2.gl.length = _; rw [e2]; rfl, S2, f2⟩
  have nob : (!nu && br) = false → (if (!nu && br) = true ∧ ph = 1 then baA al bk old v 1 else al) = al ∧ g.gl.length = (if (!nu && br) = true ∧ ph = 1 then (baG al bk [] old v 1).length else 0) := fun ht => by
    rw [ht]
    exact ⟨if_neg (by simp), by rw [if_neg (by simp)]; exact eg⟩
  cases li
  · rw [if_neg (by decide)]
    refine (hv_set VB H (hide Sy) 64 (yf false nu) v (!nu) br 1 old hr _ _ bar nob).mono ?_
    rintro e w' ⟨he, g2, e2, S2, f2⟩
    exact ⟨he, fin _ w' g2 e2 S2 f2⟩
  · rw [if_pos rfl]
    refine (hv_put VB H (hide Sy) 64 (yf true nu) v (!nu) br 1 old hr _ _ bar nob).mono ?_
    rintro e w' ⟨he, g2, e2, S2, f2⟩
    exact ⟨he, fin _ w' g2 e2 S2 f2⟩
theorem y_do1 (li nu : Bool) (h : Hid (YS W x ao cap nv li nu bx 0 [] (yq3 li nu) 0 w)) : Calls Tryz.prog 21 #[.agg #[.pointer (some ⟨x.hb, 0, none⟩), .int .i64 64, .int .i64 (yf li nu), .bool li, .bool (!nu)], .int .i64 128, .bool false, .int .i64 1] w fun e w' => e = .returned (.int .i64 0) ∧ YS W x ao cap nv li nu bx 0 [] (yq4 li nu) 0 w' :=
  y_do (Or.inl rfl) h 128 0 (y_r3 li nu) false 0 _ (by rw [if_neg (by simp)]) (by rw [if_neg (by simp)]; rfl)
theorem y_start (h : Hid (YS W x ao cap nv li nu bx 0 [] (yq4 li nu) 0 w)) (p : Option Addr) : Calls Tryz.prog 22 #[.pointer (some ⟨x.b.cb, 0, none⟩), .iface 63 (.pointer p)] w fun e w' => e = .returned (.bool true) ∧ YS W x ao cap nv li nu bx 1 [] (yq5 li nu) 0 w' := by
  obtain ⟨g, eg, S, no, BX⟩ := unhide h
  have hl := World.block_lt_of_cell? w _ BX.b0
  exact (g_start (hide S) p).mono fun _ _ hh => ⟨hh.1, g, eg, hh.2.1, no, BX.fr hh.2.2 no⟩
theorem y_scan (h : Hid (YS W x ao cap nv li nu bx 1 [] al 0 w)) (p : Option Addr) : Calls Tryz.prog 23 #[.pointer (some ⟨x.b.cb, 0, none⟩), .iface 63 (.pointer p), .int .i64 1] w fun e w' => e = .returned (.bool true) ∧ YS W x ao cap nv li nu bx 1 [1] al 0 w' := by
  obtain ⟨g, eg, S, no, BX⟩ := unhide h
  exact (g_scan rfl (hide S) (by simp) (by simp) p).mono fun _ _ hh => ⟨hh.1, g, eg, hh.2.1, no, BX.fr hh.2.2 no⟩
theorem y_cycle {k : Nat} (h : Hid (YS W x ao cap nv li nu bx ph bk al k w)) : Calls Tryz.prog 19 #[.pointer (some ⟨x.hb, 0, none⟩)] w fun e w' => e = .returned (.pointer (some ⟨x.b.cb, 0, none⟩)) ∧ w' = w := by
  obtain ⟨g, eg, S, no, BX⟩ := unhide h
  exact hb_cycle (hide S.hB)
theorem y_marker {k : Nat} (h : Hid (YS W x ao cap nv li nu bx ph bk al k w)) : Calls Tryz.prog 24 #[.pointer (some ⟨x.b.cb, 0, none⟩)] w fun e w' => e = .returned (.pointer (some ⟨x.b.kb, 0, none⟩)) ∧ w' = w := by
  obtain ⟨g, eg, S, no, BX⟩ := unhide h
  exact g_marker (hide S)
theorem y_left {k : Nat} (h : Hid (YS W x ao cap nv li nu bx ph bk al k w)) : Calls Tryz.prog 25 #[.pointer (some ⟨x.b.kb, 0, none⟩)] w fun e w' => e = .returned (.int .i64 (k : Int)) ∧ w' = w := by
  obtain ⟨g, eg, S, no, BX⟩ := unhide h
  have := g_left (hide S)
  rw [eg] at this
  exact this
theorem YS.below {k : Nat} (h : YS W x ao cap nv li nu bx ph bk al k w) : Below W.heap.size W w := by
  obtain ⟨g, eg, S, no, BX⟩ := h
  exact S.st.below
theorem YS.box {k : Nat} (h : YS W x ao cap nv li nu bx ph bk al k w) : BxY bx x.hb li nu w := by
  obtain ⟨g, eg, S, no, BX⟩ := h
  exact BX
/-- The second write: off; on; black. -/
theorem y_off (br : Bool) (h : Hid (YS W x ao cap nv li nu bx 0 [] (yq4 li nu) 0 w)) : Calls Tryz.prog 21 #[.agg #[.pointer (some ⟨x.hb, 0, none⟩), .int .i64 64, .int .i64 (yf li nu), .bool li, .bool (!nu)], .int .i64 68, .bool br, .int .i64 1] w fun e w' => e = .returned (.int .i64 0) ∧ ∃ al2, YS W x ao cap nv li nu bx 0 [] al2 0 w' :=
  (y_do (Or.inl rfl) h 68 128 (y_r4 li nu) br 0 _ (by rw [if_neg (by rintro ⟨_, e⟩; exact absurd e (by decide))]) rfl).mono fun _ _ hh => ⟨hh.1, _, hh.2⟩
theorem y_on (br : Bool) (h : Hid (YS W x ao cap nv li nu bx 1 [] (yq5 li nu) 0 w)) (k : Nat) (hk : (if (!nu && br) = true then 2 else 0) = k) : Calls Tryz.prog 21 #[.agg #[.pointer (some ⟨x.hb, 0, none⟩), .int .i64 64, .int .i64 (yf li nu), .bool li, .bool (!nu)], .int .i64 68, .bool br, .int .i64 1] w fun e w' => e = .returned (.int .i64 0) ∧ ∃ al2, YS W x ao cap nv li nu bx 1 [] al2 k w' :=
  (y_do (Or.inr rfl) h 68 128 (y_r5 li nu) br k _ (by rw [(y_g li nu).1, ← hk]; simp) rfl).mono fun _ _ hh => ⟨hh.1, _, hh.2⟩
theorem y_blk (br : Bool) (h : Hid (YS W x ao cap nv li nu bx 1 [1] (yq5 li nu) 0 w)) (k : Nat) (hk : (if (!nu && br) = true then 1 else 0) = k) : Calls Tryz.prog 21 #[.agg #[.pointer (some ⟨x.hb, 0, none⟩), .int .i64 64, .int .i64 (yf li nu), .bool li, .bool (!nu)], .int .i64 68, .bool br, .int .i64 1] w fun e w' => e = .returned (.int .i64 0) ∧ ∃ al2, YS W x ao cap nv li nu bx 1 [1] al2 k w' :=
  (y_do (Or.inr rfl) h 68 128 (y_r5 li nu) br k _ (by rw [(y_g li nu).2, ← hk]; simp) rfl).mono fun _ _ hh => ⟨hh.1, _, hh.2⟩
end
end Go.Proofs.YtmifehomglilmaaGreatDoor

/- HeapShades of package gantlinelaw14 answers true: none goes on. -/
namespace Go.Proofs.YtmifehomglilmaaGreatDoor
set_option maxRecDepth 100000
open Go.ChangeShapes Go.WideShapes Go.ChangeAt Go.RowKit Go.Maps Go.Deep

set_option maxHeartbeats 2000000 in
set_option maxRecDepth 100000 in
theorem hs_00000 (w : World) (ht : Tab w) (CA : Hid (Calls Tryz.prog 6 #[] w fun e w' => e = .returned (.bool true) ∧ G w w')) : Calls Tryz.prog 5 #[.bool false, .bool false, .bool false, .bool false, .bool false] w fun e w' => e = .returned (.bool true) ∧ G w w' := by
  replace ht := hide ht
  go_enter Tryz.func5, Tryz.ntmps5
  go_wp2_with fail
  refine (unhide CA).mono ?_
  rintro e w0 ⟨rfl, g0⟩
  replace g0 := hide g0
  clear CA
  go_wp2_with fail
  refine (shapes14 _).mono ?_
  rintro e w1 ⟨rfl, hw1⟩
  have CN := hide (new14 w0 w1 hw1 (Tab.later (unhide ht) (unhide g0)))
  have g1 : Hid (G w w1) := hide ((unhide g0).trans (by rw [hw1]; exact G.alloc _ _))
  clear hw1 g0 ht
  go_wp2_with fail
  refine (unhide CN).mono ?_
  rintro e w2 ⟨x, rfl, ao, cap, nv, c, S0⟩
  have FIN : Hid (∀ y : World, Below w1.heap.size w1 y → G w y) := hide fun y b => Below.trans (unhide g1) (b.mono (unhide g1).size)
  have S1 := hide (S0.gr (G.alloc w2 (.cells #[] 65)))
  have C := hide (y_make1 false false S1)
  clear S0 CN g1
  go_wp2_with fail
  refine (unhide C _).mono ?_
  rintro e w3 ⟨rfl, S3⟩
  clear C S1
  have C := hide (y_make2 false false (hide S3))
  clear S3
  go_wp2_with fail
  refine (unhide C _).mono ?_
  rintro e w4 ⟨rfl, S4⟩
  clear C
  have C := hide (y_make3 false false (hide S4))
  clear S4
  go_wp2_with fail
  refine (unhide C _).mono ?_
  rintro e w5 ⟨rfl, S5⟩
  clear C
  go_upto_region 20 with fail
  have S6' := y_box S5
  obtain ⟨W6, hW6⟩ : ∃ W6, W6 = w5.alloc (.cells #[.pointer (some ⟨x.hb, 0, none⟩), .int .i64 64, .int .i64 1, .bool false, .bool true] 67) := ⟨_, rfl⟩
  have S6 : Hid (YS w1 x ao cap nv false false w5.heap.size 0 [] (yq3 false false) 0 W6) := hide (by rw [hW6]; exact S6')
  rw [← hW6]
  clear S6' S5 hW6
  have b0 : _ = some (Value.pointer (some ⟨x.hb, 0, none⟩)) := (unhide S6).box.b0
  have b1 : _ = some (Value.int .i64 64) := (unhide S6).box.b1
  have b2 : _ = some (Value.int .i64 1) := (unhide S6).box.b2
  have b3 : _ = some (Value.bool false) := (unhide S6).box.b3
  have b4 : _ = some (Value.bool true) := (unhide S6).box.b4
  have C := hide (y_do1 false false S6)
  clear S6
  go_wp2_with fail
  refine (unhide C).mono ?_
  rintro e w7 ⟨rfl, S7⟩
  replace S7 := hide S7
  clear C b0 b1 b2 b3 b4
  have C := hide (y_cycle S7)
  go_wp2_with fail
  refine (unhide C).mono ?_
  rintro e w9 ⟨rfl, hw9⟩
  rw [hw9]
  clear C hw9 w9
  have C := hide (y_marker S7)
  go_wp2_with fail
  refine (unhide C).mono ?_
  rintro e w11 ⟨rfl, hw⟩
  rw [hw]
  clear C hw w11
  have C := hide (y_left S7)
  go_wp2_with fail
  refine (unhide C).mono ?_
  rintro e w11 ⟨rfl, hw⟩
  rw [hw]
  clear C hw w11
  have b0 : _ = some (Value.pointer (some ⟨x.hb, 0, none⟩)) := (unhide S7).box.b0
  have b1 : _ = some (Value.int .i64 64) := (unhide S7).box.b1
  have b2 : _ = some (Value.int .i64 1) := (unhide S7).box.b2
  have b3 : _ = some (Value.bool false) := (unhide S7).box.b3
  have b4 : _ = some (Value.bool true) := (unhide S7).box.b4
  have C := hide (y_off false S7)
  clear S7
  go_wp2_with fail
  refine (unhide C).mono ?_
  rintro e w12 ⟨rfl, al2, S12⟩
  replace S12 := hide S12
  clear C b0 b1 b2 b3 b4
  have C := hide (y_marker S12)
  go_wp2_with fail
  refine (unhide C).mono ?_
  rintro e w11 ⟨rfl, hw⟩
  rw [hw]
  clear C hw w11
  have C := hide (y_left S12)
  go_wp2_with fail
  refine (unhide C).mono ?_
  rintro e w11 ⟨rfl, hw⟩
  rw [hw]
  clear C hw w11
  have F := hide (unhide FIN _ (unhide S12).below)
  clear S12 FIN
  go_wp2_with fail
  go_ret
  exact ⟨rfl, unhide F⟩
set_option maxHeartbeats 2000000 in
set_option maxRecDepth 100000 in
theorem hs_00010 (w : World) (ht : Tab w) (CA : Hid (Calls Tryz.prog 6 #[] w fun e w' => e = .returned (.bool true) ∧ G w w')) : Calls Tryz.prog 5 #[.bool false, .bool false, .bool false, .bool true, .bool false] w fun e w' => e = .returned (.bool true) ∧ G w w' := by
  replace ht := hide ht
  go_enter Tryz.func5, Tryz.ntmps5
  go_wp2_with fail
  refine (unhide CA).mono ?_
  rintro e w0 ⟨rfl, g0⟩
  replace g0 := hide g0
  clear CA
  go_wp2_with fail
  refine (shapes14 _).mono ?_
  rintro e w1 ⟨rfl, hw1⟩
  have CN := hide (new14 w0 w1 hw1 (Tab.later (unhide ht) (unhide g0)))
  have g1 : Hid (G w w1) := hide ((unhide g0).trans (by rw [hw1]; exact G.alloc _ _))
  clear hw1 g0 ht
  go_wp2_with fail
  refine (unhide CN).mono ?_
  rintro e w2 ⟨x, rfl, ao, cap, nv, c, S0⟩
  have FIN : Hid (∀ y : World, Below w1.heap.size w1 y → G w y) := hide fun y b => Below.trans (unhide g1) (b.mono (unhide g1).size)
  have S1 := hide (S0.gr (G.alloc w2 (.cells #[] 65)))
  have C := hide (y_make1 false true S1)
  clear S0 CN g1
  go_wp2_with fail
  refine (unhide C _).mono ?_
  rintro e w3 ⟨rfl, S3⟩
  clear C S1
  have C := hide (y_make2 false true (hide S3))
  clear S3
  go_wp2_with fail
  refine (unhide C _).mono ?_
  rintro e w4 ⟨rfl, S4⟩
  clear C
  have C := hide (y_make3 false true (hide S4))
  clear S4
  go_wp2_with fail
  refine (unhide C _).mono ?_
  rintro e w5 ⟨rfl, S5⟩
  clear C
  go_upto_region 20 with fail
  have S6' := y_box S5
  obtain ⟨W6, hW6⟩ : ∃ W6, W6 = w5.alloc (.cells #[.pointer (some ⟨x.hb, 0, none⟩), .int .i64 64, .int .i64 0, .bool false, .bool false] 67) := ⟨_, rfl⟩
  have S6 : Hid (YS w1 x ao cap nv false true w5.heap.size 0 [] (yq3 false true) 0 W6) := hide (by rw [hW6]; exact S6')
  rw [← hW6]
  clear S6' S5 hW6
  have b0 : _ = some (Value.pointer (some ⟨x.hb, 0, none⟩)) := (unhide S6).box.b0
  have b1 : _ = some (Value.int .i64 64) := (unhide S6).box.b1
  have b2 : _ = some (Value.int .i64 0) := (unhide S6).box.b2
  have b3 : _ = some (Value.bool false) := (unhide S6).box.b3
  have b4 : _ = some (Value.bool false) := (unhide S6).box.b4
  have C := hide (y_do1 false true S6)
  clear S6
  go_wp2_with fail
  refine (unhide C).mono ?_
  rintro e w7 ⟨rfl, S7⟩
  replace S7 := hide S7
  clear C b0 b1 b2 b3 b4
  have C := hide (y_cycle S7)
  go_wp2_with fail
  refine (unhide C).mono ?_
  rintro e w9 ⟨rfl, hw9⟩
  rw [hw9]
  clear C hw9 w9
  have C := hide (y_marker S7)
  go_wp2_with fail
  refine (unhide C).mono ?_
  rintro e w11 ⟨rfl, hw⟩
  rw [hw]
  clear C hw w11
  have C := hide (y_left S7)
  go_wp2_with fail
  refine (unhide C).mono ?_
  rintro e w11 ⟨rfl, hw⟩
  rw [hw]
  clear C hw w11
  have b0 : _ = some (Value.pointer (some ⟨x.hb, 0, none⟩)) := (unhide S7).box.b0
  have b1 : _ = some (Value.int .i64 64) := (unhide S7).box.b1
  have b2 : _ = some (Value.int .i64 0) := (unhide S7).box.b2
  have b3 : _ = some (Value.bool false) := (unhide S7).box.b3
  have b4 : _ = some (Value.bool false) := (unhide S7).box.b4
  have C := hide (y_off false S7)
  clear S7
  go_wp2_with fail
  refine (unhide C).mono ?_
  rintro e w12 ⟨rfl, al2, S12⟩
  replace S12 := hide S12
  clear C b0 b1 b2 b3 b4
  have C := hide (y_marker S12)
  go_wp2_with fail
  refine (unhide C).mono ?_
  rintro e w11 ⟨rfl, hw⟩
  rw [hw]
  clear C hw w11
  have C := hide (y_left S12)
  go_wp2_with fail
  refine (unhide C).mono ?_
  rintro e w11 ⟨rfl, hw⟩
  rw [hw]
  clear C hw w11
  have F := hide (unhide FIN _ (unhide S12).below)
  clear S12 FIN
  go_wp2_with fail
  go_ret
  exact ⟨rfl, unhide F⟩
set_option maxHeartbeats 2000000 in
set_option maxRecDepth 100000 in
theorem hs_00100 (w : World) (ht : Tab w) (CA : Hid (Calls Tryz.prog 6 #[] w fun e w' => e = .returned (.bool true) ∧ G w w')) : Calls Tryz.prog 5 #[.bool false, .bool false, .bool true, .bool false, .bool false] w fun e w' => e = .returned (.bool true) ∧ G w w' := by
  replace ht := hide ht
  go_enter Tryz.func5, Tryz.ntmps5
  go_wp2_with fail
  refine (unhide CA).mono ?_
  rintro e w0 ⟨rfl, g0⟩
  replace g0 := hide g0
  clear CA
  go_wp2_with fail
  refine (shapes14 _).mono ?_
  rintro e w1 ⟨rfl, hw1⟩
  have CN := hide (new14 w0 w1 hw1 (Tab.later (unhide ht) (unhide g0)))
  have g1 : Hid (G w w1) := hide ((unhide g0).trans (by rw [hw1]; exact G.alloc _ _))
  clear hw1 g0 ht
  go_wp2_with fail
  refine (unhide CN).mono ?_
  rintro e w2 ⟨x, rfl, ao, cap, nv, c, S0⟩
  have FIN : Hid (∀ y : World, Below w1.heap.size w1 y → G w y) := hide fun y b => Below.trans (unhide g1) (b.mono (unhide g1).size)
  have S1 := hide (S0.gr (G.alloc w2 (.cells #[] 65)))
  have C := hide (y_make1 true false S1)
  clear S0 CN g1
  go_wp2_with fail
  refine (unhide C _).mono ?_
  rintro e w3 ⟨rfl, S3⟩
  clear C S1
  have C := hide (y_make2 true false (hide S3))
  clear S3
  go_wp2_with fail
  refine (unhide C _).mono ?_
  rintro e w4 ⟨rfl, S4⟩
  clear C
  have C := hide (y_make3 true false (hide S4))
  clear S4
  go_wp2_with fail
  refine (unhide C _).mono ?_
  rintro e w5 ⟨rfl, S5⟩
  clear C
  go_upto_region 20 with fail
  have S6' := y_box S5
  obtain ⟨W6, hW6⟩ : ∃ W6, W6 = w5.alloc (.cells #[.pointer (some ⟨x.hb, 0, none⟩), .int .i64 64, .int .i64 2, .bool true, .bool true] 67) := ⟨_, rfl⟩
  have S6 : Hid (YS w1 x ao cap nv true false w5.heap.size 0 [] (yq3 true false) 0 W6) := hide (by rw [hW6]; exact S6')
  rw [← hW6]
  clear S6' S5 hW6
  have b0 : _ = some (Value.pointer (some ⟨x.hb, 0, none⟩)) := (unhide S6).box.b0
  have b1 : _ = some (Value.int .i64 64) := (unhide S6).box.b1
  have b2 : _ = some (Value.int .i64 2) := (unhide S6).box.b2
  have b3 : _ = some (Value.bool true) := (unhide S6).box.b3
  have b4 : _ = some (Value.bool true) := (unhide S6).box.b4
  have C := hide (y_do1 true false S6)
  clear S6
  go_wp2_with fail
  refine (unhide C).mono ?_
  rintro e w7 ⟨rfl, S7⟩
  replace S7 := hide S7
  clear C b0 b1 b2 b3 b4
  have C := hide (y_cycle S7)
  go_wp2_with fail
  refine (unhide C).mono ?_
  rintro e w9 ⟨rfl, hw9⟩
  rw [hw9]
  clear C hw9 w9
  have C := hide (y_marker S7)
  go_wp2_with fail
  refine (unhide C).mono ?_
  rintro e w11 ⟨rfl, hw⟩
  rw [hw]
  clear C hw w11
  have C := hide (y_left S7)
  go_wp2_with fail
  refine (unhide C).mono ?_
  rintro e w11 ⟨rfl, hw⟩
  rw [hw]
  clear C hw w11
  have b0 : _ = some (Value.pointer (some ⟨x.hb, 0, none⟩)) := (unhide S7).box.b0
  have b1 : _ = some (Value.int .i64 64) := (unhide S7).box.b1
  have b2 : _ = some (Value.int .i64 2) := (unhide S7).box.b2
  have b3 : _ = some (Value.bool true) := (unhide S7).box.b3
  have b4 : _ = some (Value.bool true) := (unhide S7).box.b4
  have C := hide (y_off false S7)
  clear S7
  go_wp2_with fail
  refine (unhide C).mono ?_
  rintro e w12 ⟨rfl, al2, S12⟩
  replace S12 := hide S12
  clear C b0 b1 b2 b3 b4
  have C := hide (y_marker S12)
  go_wp2_with fail
  refine (unhide C).mono ?_
  rintro e w11 ⟨rfl, hw⟩
  rw [hw]
  clear C hw w11
  have C := hide (y_left S12)
  go_wp2_with fail
  refine (unhide C).mono ?_
  rintro e w11 ⟨rfl, hw⟩
  rw [hw]
  clear C hw w11
  have F := hide (unhide FIN _ (unhide S12).below)
  clear S12 FIN
  go_wp2_with fail
  go_ret
  exact ⟨rfl, unhide F⟩
set_option maxHeartbeats 2000000 in
set_option maxRecDepth 100000 in
theorem hs_00110 (w : World) (ht : Tab w) (CA : Hid (Calls Tryz.prog 6 #[] w fun e w' => e = .returned (.bool true) ∧ G w w')) : Calls Tryz.prog 5 #[.bool false, .bool false, .bool true, .bool true, .bool false] w fun e w' => e = .returned (.bool true) ∧ G w w' := by
  replace ht := hide ht
  go_enter Tryz.func5, Tryz.ntmps5
  go_wp2_with fail
  refine (unhide CA).mono ?_
  rintro e w0 ⟨rfl, g0⟩
  replace g0 := hide g0
  clear CA
  go_wp2_with fail
  refine (shapes14 _).mono ?_
  rintro e w1 ⟨rfl, hw1⟩
  have CN := hide (new14 w0 w1 hw1 (Tab.later (unhide ht) (unhide g0)))
  have g1 : Hid (G w w1) := hide ((unhide g0).trans (by rw [hw1]; exact G.alloc _ _))
  clear hw1 g0 ht
  go_wp2_with fail
  refine (unhide CN).mono ?_
  rintro e w2 ⟨x, rfl, ao, cap, nv, c, S0⟩
  have FIN : Hid (∀ y : World, Below w1.heap.size w1 y → G w y) := hide fun y b => Below.trans (unhide g1) (b.mono (unhide g1).size)
  have S1 := hide (S0.gr (G.alloc w2 (.cells #[] 65)))
  have C := hide (y_make1 true true S1)
  clear S0 CN g1
  go_wp2_with fail
  refine (unhide C _).mono ?_
  rintro e w3 ⟨rfl, S3⟩
  clear C S1
  have C := hide (y_make2 true true (hide S3))
  clear S3
  go_wp2_with fail
  refine (unhide C _).mono ?_
  rintro e w4 ⟨rfl, S4⟩
  clear C
  have C := hide (y_make3 true true (hide S4))
  clear S4
  go_wp2_with fail
  refine (unhide C _).mono ?_
  rintro e w5 ⟨rfl, S5⟩
  clear C
  go_upto_region 20 with fail
  have S6' := y_box S5
  obtain ⟨W6, hW6⟩ : ∃ W6, W6 = w5.alloc (.cells #[.pointer (some ⟨x.hb, 0, none⟩), .int .i64 64, .int .i64 0, .bool true, .bool false] 67) := ⟨_, rfl⟩
  have S6 : Hid (YS w1 x ao cap nv true true w5.heap.size 0 [] (yq3 true true) 0 W6) := hide (by rw [hW6]; exact S6')
  rw [← hW6]
  clear S6' S5 hW6
  have b0 : _ = some (Value.pointer (some ⟨x.hb, 0, none⟩)) := (unhide S6).box.b0
  have b1 : _ = some (Value.int .i64 64) := (unhide S6).box.b1
  have b2 : _ = some (Value.int .i64 0) := (unhide S6).box.b2
  have b3 : _ = some (Value.bool true) := (unhide S6).box.b3
  have b4 : _ = some (Value.bool false) := (unhide S6).box.b4
  have C := hide (y_do1 true true S6)
  clear S6
  go_wp2_with fail
  refine (unhide C).mono ?_
  rintro e w7 ⟨rfl, S7⟩
  replace S7 := hide S7
  clear C b0 b1 b2 b3 b4
  have C := hide (y_cycle S7)
  go_wp2_with fail
  refine (unhide C).mono ?_
  rintro e w9 ⟨rfl, hw9⟩
  rw [hw9]
  clear C hw9 w9
  have C := hide (y_marker S7)
  go_wp2_with fail
  refine (unhide C).mono ?_
  rintro e w11 ⟨rfl, hw⟩
  rw [hw]
  clear C hw w11
  have C := hide (y_left S7)
  go_wp2_with fail
  refine (unhide C).mono ?_
  rintro e w11 ⟨rfl, hw⟩
  rw [hw]
  clear C hw w11
  have b0 : _ = some (Value.pointer (some ⟨x.hb, 0, none⟩)) := (unhide S7).box.b0
  have b1 : _ = some (Value.int .i64 64) := (unhide S7).box.b1
  have b2 : _ = some (Value.int .i64 0) := (unhide S7).box.b2
  have b3 : _ = some (Value.bool true) := (unhide S7).box.b3
  have b4 : _ = some (Value.bool false) := (unhide S7).box.b4
  have C := hide (y_off false S7)
  clear S7
  go_wp2_with fail
  refine (unhide C).mono ?_
  rintro e w12 ⟨rfl, al2, S12⟩
  replace S12 := hide S12
  clear C b0 b1 b2 b3 b4
  have C := hide (y_marker S12)
  go_wp2_with fail
  refine (unhide C).mono ?_
  rintro e w11 ⟨rfl, hw⟩
  rw [hw]
  clear C hw w11
  have C := hide (y_left S12)
  go_wp2_with fail
  refine (unhide C).mono ?_
  rintro e w11 ⟨rfl, hw⟩
  rw [hw]
  clear C hw w11
  have F := hide (unhide FIN _ (unhide S12).below)
  clear S12 FIN
  go_wp2_with fail
  go_ret
  exact ⟨rfl, unhide F⟩
set_option maxHeartbeats 2000000 in
set_option maxRecDepth 100000 in
theorem hs_01000 (w : World) (ht : Tab w) (CA : Hid (Calls Tryz.prog 6 #[] w fun e w' => e = .returned (.bool true) ∧ G w w')) : Calls Tryz.prog 5 #[.bool false, .bool true, .bool false, .bool false, .bool false] w fun e w' => e = .returned (.bool true) ∧ G w w' := by
  replace ht := hide ht
  go_enter Tryz.func5, Tryz.ntmps5
  go_wp2_with fail
  refine (unhide CA).mono ?_
  rintro e w0 ⟨rfl, g0⟩
  replace g0 := hide g0
  clear CA
  go_wp2_with fail
  refine (shapes14 _).mono ?_
  rintro e w1 ⟨rfl, hw1⟩
  have CN := hide (new14 w0 w1 hw1 (Tab.later (unhide ht) (unhide g0)))
  have g1 : Hid (G w w1) := hide ((unhide g0).trans (by rw [hw1]; exact G.alloc _ _))
  clear hw1 g0 ht
  go_wp2_with fail
  refine (unhide CN).mono ?_
  rintro e w2 ⟨x, rfl, ao, cap, nv, c, S0⟩
  have FIN : Hid (∀ y : World, Below w1.heap.size w1 y → G w y) := hide fun y b => Below.trans (unhide g1) (b.mono (unhide g1).size)
  have S1 := hide (S0.gr (G.alloc w2 (.cells #[] 65)))
  have C := hide (y_make1 false false S1)
  clear S0 CN g1
  go_wp2_with fail
  refine (unhide C _).mono ?_
  rintro e w3 ⟨rfl, S3⟩
  clear C S1
  have C := hide (y_make2 false false (hide S3))
  clear S3
  go_wp2_with fail
  refine (unhide C _).mono ?_
  rintro e w4 ⟨rfl, S4⟩
  clear C
  have C := hide (y_make3 false false (hide S4))
  clear S4
  go_wp2_with fail
  refine (unhide C _).mono ?_
  rintro e w5 ⟨rfl, S5⟩
  clear C
  go_upto_region 20 with fail
  have S6' := y_box S5
  obtain ⟨W6, hW6⟩ : ∃ W6, W6 = w5.alloc (.cells #[.pointer (some ⟨x.hb, 0, none⟩), .int .i64 64, .int .i64 1, .bool false, .bool true] 67) := ⟨_, rfl⟩
  have S6 : Hid (YS w1 x ao cap nv false false w5.heap.size 0 [] (yq3 false false) 0 W6) := hide (by rw [hW6]; exact S6')
  rw [← hW6]
  clear S6' S5 hW6
  have b0 : _ = some (Value.pointer (some ⟨x.hb, 0, none⟩)) := (unhide S6).box.b0
  have b1 : _ = some (Value.int .i64 64) := (unhide S6).box.b1
  have b2 : _ = some (Value.int .i64 1) := (unhide S6).box.b2
  have b3 : _ = some (Value.bool false) := (unhide S6).box.b3
  have b4 : _ = some (Value.bool true) := (unhide S6).box.b4
  have C := hide (y_do1 false false S6)
  clear S6
  go_wp2_with fail
  refine (unhide C).mono ?_
  rintro e w7 ⟨rfl, S7⟩
  replace S7 := hide S7
  clear C b0 b1 b2 b3 b4
  have C := hide (y_cycle S7)
  go_wp2_with fail
  refine (unhide C).mono ?_
  rintro e w9 ⟨rfl, hw9⟩
  rw [hw9]
  clear C hw9 w9
  have C := hide (y_marker S7)
  go_wp2_with fail
  refine (unhide C).mono ?_
  rintro e w11 ⟨rfl, hw⟩
  rw [hw]
  clear C hw w11
  have C := hide (y_left S7)
  go_wp2_with fail
  refine (unhide C).mono ?_
  rintro e w11 ⟨rfl, hw⟩
  rw [hw]
  clear C hw w11
  have b0 : _ = some (Value.pointer (some ⟨x.hb, 0, none⟩)) := (unhide S7).box.b0
  have b1 : _ = some (Value.int .i64 64) := (unhide S7).box.b1
  have b2 : _ = some (Value.int .i64 1) := (unhide S7).box.b2
  have b3 : _ = some (Value.bool false) := (unhide S7).box.b3
  have b4 : _ = some (Value.bool true) := (unhide S7).box.b4
  have C := hide (y_off true S7)
  clear S7
  go_wp2_with fail
  refine (unhide C).mono ?_
  rintro e w12 ⟨rfl, al2, S12⟩
  replace S12 := hide S12
  clear C b0 b1 b2 b3 b4
  have C := hide (y_marker S12)
  go_wp2_with fail
  refine (unhide C).mono ?_
  rintro e w11 ⟨rfl, hw⟩
  rw [hw]
  clear C hw w11
  have C := hide (y_left S12)
  go_wp2_with fail
  refine (unhide C).mono ?_
  rintro e w11 ⟨rfl, hw⟩
  rw [hw]
  clear C hw w11
  have F := hide (unhide FIN _ (unhide S12).below)
  clear S12 FIN
  go_wp2_with fail
  go_ret
  exact ⟨rfl, unhide F⟩
set_option maxHeartbeats 2000000 in
set_option maxRecDepth 100000 in
theorem hs_01010 (w : World) (ht : Tab w) (CA : Hid (Calls Tryz.prog 6 #[] w fun e w' => e = .returned (.bool true) ∧ G w w')) : Calls Tryz.prog 5 #[.bool false, .bool true, .bool false, .bool true, .bool false] w fun e w' => e = .returned (.bool true) ∧ G w w' := by
  replace ht := hide ht
  go_enter Tryz.func5, Tryz.ntmps5
  go_wp2_with fail
  refine (unhide CA).mono ?_
  rintro e w0 ⟨rfl, g0⟩
  replace g0 := hide g0
  clear CA
  go_wp2_with fail
  refine (shapes14 _).mono ?_
  rintro e w1 ⟨rfl, hw1⟩
  have CN := hide (new14 w0 w1 hw1 (Tab.later (unhide ht) (unhide g0)))
  have g1 : Hid (G w w1) := hide ((unhide g0).trans (by rw [hw1]; exact G.alloc _ _))
  clear hw1 g0 ht
  go_wp2_with fail
  refine (unhide CN).mono ?_
  rintro e w2 ⟨x, rfl, ao, cap, nv, c, S0⟩
  have FIN : Hid (∀ y : World, Below w1.heap.size w1 y → G w y) := hide fun y b => Below.trans (unhide g1) (b.mono (unhide g1).size)
  have S1 := hide (S0.gr (G.alloc w2 (.cells #[] 65)))
  have C := hide (y_make1 false true S1)
  clear S0 CN g1
  go_wp2_with fail
  refine (unhide C _).mono ?_
  rintro e w3 ⟨rfl, S3⟩
  clear C S1
  have C := hide (y_make2 false true (hide S3))
  clear S3
  go_wp2_with fail
  refine (unhide C _).mono ?_
  rintro e w4 ⟨rfl, S4⟩
  clear C
  have C := hide (y_make3 false true (hide S4))
  clear S4
  go_wp2_with fail
  refine (unhide C _).mono ?_
  rintro e w5 ⟨rfl, S5⟩
  clear C
  go_upto_region 20 with fail
  have S6' := y_box S5
  obtain ⟨W6, hW6⟩ : ∃ W6, W6 = w5.alloc (.cells #[.pointer (some ⟨x.hb, 0, none⟩), .int .i64 64, .int .i64 0, .bool false, .bool false] 67) := ⟨_, rfl⟩
  have S6 : Hid (YS w1 x ao cap nv false true w5.heap.size 0 [] (yq3 false true) 0 W6) := hide (by rw [hW6]; exact S6')
  rw [← hW6]
  clear S6' S5 hW6
  have b0 : _ = some (Value.pointer (some ⟨x.hb, 0, none⟩)) := (unhide S6).box.b0
  have b1 : _ = some (Value.int .i64 64) := (unhide S6).box.b1
  have b2 : _ = some (Value.int .i64 0) := (unhide S6).box.b2
  have b3 : _ = some (Value.bool false) := (unhide S6).box.b3
  have b4 : _ = some (Value.bool false) := (unhide S6).box.b4
  have C := hide (y_do1 false true S6)
  clear S6
  go_wp2_with fail
  refine (unhide C).mono ?_
  rintro e w7 ⟨rfl, S7⟩
  replace S7 := hide S7
  clear C b0 b1 b2 b3 b4
  have C := hide (y_cycle S7)
  go_wp2_with fail
  refine (unhide C).mono ?_
  rintro e w9 ⟨rfl, hw9⟩
  rw [hw9]
  clear C hw9 w9
  have C := hide (y_marker S7)
  go_wp2_with fail
  refine (unhide C).mono ?_
  rintro e w11 ⟨rfl, hw⟩
  rw [hw]
  clear C hw w11
  have C := hide (y_left S7)
  go_wp2_with fail
  refine (unhide C).mono ?_
  rintro e w11 ⟨rfl, hw⟩
  rw [hw]
  clear C hw w11
  have b0 : _ = some (Value.pointer (some ⟨x.hb, 0, none⟩)) := (unhide S7).box.b0
  have b1 : _ = some (Value.int .i64 64) := (unhide S7).box.b1
  have b2 : _ = some (Value.int .i64 0) := (unhide S7).box.b2
  have b3 : _ = some (Value.bool false) := (unhide S7).box.b3
  have b4 : _ = some (Value.bool false) := (unhide S7).box.b4
  have C := hide (y_off true S7)
  clear S7
  go_wp2_with fail
  refine (unhide C).mono ?_
  rintro e w12 ⟨rfl, al2, S12⟩
  replace S12 := hide S12
  clear C b0 b1 b2 b3 b4
  have C := hide (y_marker S12)
  go_wp2_with fail
  refine (unhide C).mono ?_
  rintro e w11 ⟨rfl, hw⟩
  rw [hw]
  clear C hw w11
  have C := hide (y_left S12)
  go_wp2_with fail
  refine (unhide C).mono ?_
  rintro e w11 ⟨rfl, hw⟩
  rw [hw]
  clear C hw w11
  have F := hide (unhide FIN _ (unhide S12).below)
  clear S12 FIN
  go_wp2_with fail
  go_ret
  exact ⟨rfl, unhide F⟩
set_option maxHeartbeats 2000000 in
set_option maxRecDepth 100000 in
theorem hs_01100 (w : World) (ht : Tab w) (CA : Hid (Calls Tryz.prog 6 #[] w fun e w' => e = .returned (.bool true) ∧ G w w')) : Calls Tryz.prog 5 #[.bool false, .bool true, .bool true, .bool false, .bool false] w fun e w' => e = .returned (.bool true) ∧ G w w' := by
  replace ht := hide ht
  go_enter Tryz.func5, Tryz.ntmps5
  go_wp2_with fail
  refine (unhide CA).mono ?_
  rintro e w0 ⟨rfl, g0⟩
  replace g0 := hide g0
  clear CA
  go_wp2_with fail
  refine (shapes14 _).mono ?_
  rintro e w1 ⟨rfl, hw1⟩
  have CN := hide (new14 w0 w1 hw1 (Tab.later (unhide ht) (unhide g0)))
  have g1 : Hid (G w w1) := hide ((unhide g0).trans (by rw [hw1]; exact G.alloc _ _))
  clear hw1 g0 ht
  go_wp2_with fail
  refine (unhide CN).mono ?_
  rintro e w2 ⟨x, rfl, ao, cap, nv, c, S0⟩
  have FIN : Hid (∀ y : World, Below w1.heap.size w1 y → G w y) := hide fun y b => Below.trans (unhide g1) (b.mono (unhide g1).size)
  have S1 := hide (S0.gr (G.alloc w2 (.cells #[] 65)))
  have C := hide (y_make1 true false S1)
  clear S0 CN g1
  go_wp2_with fail
  refine (unhide C _).mono ?_
  rintro e w3 ⟨rfl, S3⟩
  clear C S1
  have C := hide (y_make2 true false (hide S3))
  clear S3
  go_wp2_with fail
  refine (unhide C _).mono ?_
  rintro e w4 ⟨rfl, S4⟩
  clear C
  have C := hide (y_make3 true false (hide S4))
  clear S4
  go_wp2_with fail
  refine (unhide C _).mono ?_
  rintro e w5 ⟨rfl, S5⟩
  clear C
  go_upto_region 20 with fail
  have S6' := y_box S5
  obtain ⟨W6, hW6⟩ : ∃ W6, W6 = w5.alloc (.cells #[.pointer (some ⟨x.hb, 0, none⟩), .int .i64 64, .int .i64 2, .bool true, .bool true] 67) := ⟨_, rfl⟩
  have S6 : Hid (YS w1 x ao cap nv true false w5.heap.size 0 [] (yq3 true false) 0 W6) := hide (by rw [hW6]; exact S6')
  rw [← hW6]
  clear S6' S5 hW6
  have b0 : _ = some (Value.pointer (some ⟨x.hb, 0, none⟩)) := (unhide S6).box.b0
  have b1 : _ = some (Value.int .i64 64) := (unhide S6).box.b1
  have b2 : _ = some (Value.int .i64 2) := (unhide S6).box.b2
  have b3 : _ = some (Value.bool true) := (unhide S6).box.b3
  have b4 : _ = some (Value.bool true) := (unhide S6).box.b4
  have C := hide (y_do1 true false S6)
  clear S6
  go_wp2_with fail
  refine (unhide C).mono ?_
  rintro e w7 ⟨rfl, S7⟩
  replace S7 := hide S7
  clear C b0 b1 b2 b3 b4
  have C := hide (y_cycle S7)
  go_wp2_with fail
  refine (unhide C).mono ?_
  rintro e w9 ⟨rfl, hw9⟩
  rw [hw9]
  clear C hw9 w9
  have C := hide (y_marker S7)
  go_wp2_with fail
  refine (unhide C).mono ?_
  rintro e w11 ⟨rfl, hw⟩
  rw [hw]
  clear C hw w11
  have C := hide (y_left S7)
  go_wp2_with fail
  refine (unhide C).mono ?_
  rintro e w11 ⟨rfl, hw⟩
  rw [hw]
  clear C hw w11
  have b0 : _ = some (Value.pointer (some ⟨x.hb, 0, none⟩)) := (unhide S7).box.b0
  have b1 : _ = some (Value.int .i64 64) := (unhide S7).box.b1
  have b2 : _ = some (Value.int .i64 2) := (unhide S7).box.b2
  have b3 : _ = some (Value.bool true) := (unhide S7).box.b3
  have b4 : _ = some (Value.bool true) := (unhide S7).box.b4
  have C := hide (y_off true S7)
  clear S7
  go_wp2_with fail
  refine (unhide C).mono ?_
  rintro e w12 ⟨rfl, al2, S12⟩
  replace S12 := hide S12
  clear C b0 b1 b2 b3 b4
  have C := hide (y_marker S12)
  go_wp2_with fail
  refine (unhide C).mono ?_
  rintro e w11 ⟨rfl, hw⟩
  rw [hw]
  clear C hw w11
  have C := hide (y_left S12)
  go_wp2_with fail
  refine (unhide C).mono ?_
  rintro e w11 ⟨rfl, hw⟩
  rw [hw]
  clear C hw w11
  have F := hide (unhide FIN _ (unhide S12).below)
  clear S12 FIN
  go_wp2_with fail
  go_ret
  exact ⟨rfl, unhide F⟩
set_option maxHeartbeats 2000000 in
set_option maxRecDepth 100000 in
theorem hs_01110 (w : World) (ht : Tab w) (CA : Hid (Calls Tryz.prog 6 #[] w fun e w' => e = .returned (.bool true) ∧ G w w')) : Calls Tryz.prog 5 #[.bool false, .bool true, .bool true, .bool true, .bool false] w fun e w' => e = .returned (.bool true) ∧ G w w' := by
  replace ht := hide ht
  go_enter Tryz.func5, Tryz.ntmps5
  go_wp2_with fail
  refine (unhide CA).mono ?_
  rintro e w0 ⟨rfl, g0⟩
  replace g0 := hide g0
  clear CA
  go_wp2_with fail
  refine (shapes14 _).mono ?_
  rintro e w1 ⟨rfl, hw1⟩
  have CN := hide (new14 w0 w1 hw1 (Tab.later (unhide ht) (unhide g0)))
  have g1 : Hid (G w w1) := hide ((unhide g0).trans (by rw [hw1]; exact G.alloc _ _))
  clear hw1 g0 ht
  go_wp2_with fail
  refine (unhide CN).mono ?_
  rintro e w2 ⟨x, rfl, ao, cap, nv, c, S0⟩
  have FIN : Hid (∀ y : World, Below w1.heap.size w1 y → G w y) := hide fun y b => Below.trans (unhide g1) (b.mono (unhide g1).size)
  have S1 := hide (S0.gr (G.alloc w2 (.cells #[] 65)))
  have C := hide (y_make1 true true S1)
  clear S0 CN g1
  go_wp2_with fail
  refine (unhide C _).mono ?_
  rintro e w3 ⟨rfl, S3⟩
  clear C S1
  have C := hide (y_make2 true true (hide S3))
  clear S3
  go_wp2_with fail
  refine (unhide C _).mono ?_
  rintro e w4 ⟨rfl, S4⟩
  clear C
  have C := hide (y_make3 true true (hide S4))
  clear S4
  go_wp2_with fail
  refine (unhide C _).mono ?_
  rintro e w5 ⟨rfl, S5⟩
  clear C
  go_upto_region 20 with fail
  have S6' := y_box S5
  obtain ⟨W6, hW6⟩ : ∃ W6, W6 = w5.alloc (.cells #[.pointer (some ⟨x.hb, 0, none⟩), .int .i64 64, .int .i64 0, .bool true, .bool false] 67) := ⟨_, rfl⟩
  have S6 : Hid (YS w1 x ao cap nv true true w5.heap.size 0 [] (yq3 true true) 0 W6) := hide (by rw [hW6]; exact S6')
  rw [← hW6]
  clear S6' S5 hW6
  have b0 : _ = some (Value.pointer (some ⟨x.hb, 0, none⟩)) := (unhide S6).box.b0
  have b1 : _ = some (Value.int .i64 64) := (unhide S6).box.b1
  have b2 : _ = some (Value.int .i64 0) := (unhide S6).box.b2
  have b3 : _ = some (Value.bool true) := (unhide S6).box.b3
  have b4 : _ = some (Value.bool false) := (unhide S6).box.b4
  have C := hide (y_do1 true true S6)
  clear S6
  go_wp2_with fail
  refine (unhide C).mono ?_
  rintro e w7 ⟨rfl, S7⟩
  replace S7 := hide S7
  clear C b0 b1 b2 b3 b4
  have C := hide (y_cycle S7)
  go_wp2_with fail
  refine (unhide C).mono ?_
  rintro e w9 ⟨rfl, hw9⟩
  rw [hw9]
  clear C hw9 w9
  have C := hide (y_marker S7)
  go_wp2_with fail
  refine (unhide C).mono ?_
  rintro e w11 ⟨rfl, hw⟩
  rw [hw]
  clear C hw w11
  have C := hide (y_left S7)
  go_wp2_with fail
  refine (unhide C).mono ?_
  rintro e w11 ⟨rfl, hw⟩
  rw [hw]
  clear C hw w11
  have b0 : _ = some (Value.pointer (some ⟨x.hb, 0, none⟩)) := (unhide S7).box.b0
  have b1 : _ = some (Value.int .i64 64) := (unhide S7).box.b1
  have b2 : _ = some (Value.int .i64 0) := (unhide S7).box.b2
  have b3 : _ = some (Value.bool true) := (unhide S7).box.b3
  have b4 : _ = some (Value.bool false) := (unhide S7).box.b4
  have C := hide (y_off true S7)
  clear S7
  go_wp2_with fail
  refine (unhide C).mono ?_
  rintro e w12 ⟨rfl, al2, S12⟩
  replace S12 := hide S12
  clear C b0 b1 b2 b3 b4
  have C := hide (y_marker S12)
  go_wp2_with fail
  refine (unhide C).mono ?_
  rintro e w11 ⟨rfl, hw⟩
  rw [hw]
  clear C hw w11
  have C := hide (y_left S12)
  go_wp2_with fail
  refine (unhide C).mono ?_
  rintro e w11 ⟨rfl, hw⟩
  rw [hw]
  clear C hw w11
  have F := hide (unhide FIN _ (unhide S12).below)
  clear S12 FIN
  go_wp2_with fail
  go_ret
  exact ⟨rfl, unhide F⟩
set_option maxHeartbeats 2000000 in
set_option maxRecDepth 100000 in
theorem hs_10000 (w : World) (ht : Tab w) (CA : Hid (Calls Tryz.prog 6 #[] w fun e w' => e = .returned (.bool true) ∧ G w w')) : Calls Tryz.prog 5 #[.bool true, .bool false, .bool false, .bool false, .bool false] w fun e w' => e = .returned (.bool true) ∧ G w w' := by
  replace ht := hide ht
  go_enter Tryz.func5, Tryz.ntmps5
  go_wp2_with fail
  refine (unhide CA).mono ?_
  rintro e w0 ⟨rfl, g0⟩
  replace g0 := hide g0
  clear CA
  go_wp2_with fail
  refine (shapes14 _).mono ?_
  rintro e w1 ⟨rfl, hw1⟩
  have CN := hide (new14 w0 w1 hw1 (Tab.later (unhide ht) (unhide g0)))
  have g1 : Hid (G w w1) := hide ((unhide g0).trans (by rw [hw1]; exact G.alloc _ _))
  clear hw1 g0 ht
  go_wp2_with fail
  refine (unhide CN).mono ?_
  rintro e w2 ⟨x, rfl, ao, cap, nv, c, S0⟩
  have FIN : Hid (∀ y : World, Below w1.heap.size w1 y → G w y) := hide fun y b => Below.trans (unhide g1) (b.mono (unhide g1).size)
  have S1 := hide (S0.gr (G.alloc w2 (.cells #[] 65)))
  have C := hide (y_make1 false false S1)
  clear S0 CN g1
  go_wp2_with fail
  refine (unhide C _).mono ?_
  rintro e w3 ⟨rfl, S3⟩
  clear C S1
  have C := hide (y_make2 false false (hide S3))
  clear S3
  go_wp2_with fail
  refine (unhide C _).mono ?_
  rintro e w4 ⟨rfl, S4⟩
  clear C
  have C := hide (y_make3 false false (hide S4))
  clear S4
  go_wp2_with fail
  refine (unhide C _).mono ?_
  rintro e w5 ⟨rfl, S5⟩
  clear C
  go_upto_region 20 with fail
  have S6' := y_box S5
  obtain ⟨W6, hW6⟩ : ∃ W6, W6 = w5.alloc (.cells #[.pointer (some ⟨x.hb, 0, none⟩), .int .i64 64, .int .i64 1, .bool false, .bool true] 67) := ⟨_, rfl⟩
  have S6 : Hid (YS w1 x ao cap nv false false w5.heap.size 0 [] (yq3 false false) 0 W6) := hide (by rw [hW6]; exact S6')
  rw [← hW6]
  clear S6' S5 hW6
  have b0 : _ = some (Value.pointer (some ⟨x.hb, 0, none⟩)) := (unhide S6).box.b0
  have b1 : _ = some (Value.int .i64 64) := (unhide S6).box.b1
  have b2 : _ = some (Value.int .i64 1) := (unhide S6).box.b2
  have b3 : _ = some (Value.bool false) := (unhide S6).box.b3
  have b4 : _ = some (Value.bool true) := (unhide S6).box.b4
  have C := hide (y_do1 false false S6)
  clear S6
  go_wp2_with fail
  refine (unhide C).mono ?_
  rintro e w7 ⟨rfl, S7⟩
  replace S7 := hide S7
  clear C b0 b1 b2 b3 b4
  have C := hide (y_cycle S7)
  go_wp2_with fail
  refine (unhide C).mono ?_
  rintro e w9 ⟨rfl, hw9⟩
  rw [hw9]
  clear C hw9 w9
  have C := hide (y_marker S7)
  go_wp2_with fail
  refine (unhide C).mono ?_
  rintro e w11 ⟨rfl, hw⟩
  rw [hw]
  clear C hw w11
  have C := hide (y_left S7)
  go_wp2_with fail
  refine (unhide C).mono ?_
  rintro e w11 ⟨rfl, hw⟩
  rw [hw]
  clear C hw w11
  have b0 : _ = some (Value.pointer (some ⟨x.hb, 0, none⟩)) := (unhide S7).box.b0
  have b1 : _ = some (Value.int .i64 64) := (unhide S7).box.b1
  have b2 : _ = some (Value.int .i64 1) := (unhide S7).box.b2
  have b3 : _ = some (Value.bool false) := (unhide S7).box.b3
  have b4 : _ = some (Value.bool true) := (unhide S7).box.b4
  have C := hide (y_off false S7)
  clear S7
  go_wp2_with fail
  refine (unhide C).mono ?_
  rintro e w12 ⟨rfl, al2, S12⟩
  replace S12 := hide S12
  clear C b0 b1 b2 b3 b4
  have C := hide (y_marker S12)
  go_wp2_with fail
  refine (unhide C).mono ?_
  rintro e w11 ⟨rfl, hw⟩
  rw [hw]
  clear C hw w11
  have C := hide (y_left S12)
  go_wp2_with fail
  refine (unhide C).mono ?_
  rintro e w11 ⟨rfl, hw⟩
  rw [hw]
  clear C hw w11
  have F := hide (unhide FIN _ (unhide S12).below)
  clear S12 FIN
  go_wp2_with fail
  go_ret
  exact ⟨rfl, unhide F⟩
set_option maxHeartbeats 2000000 in
set_option maxRecDepth 100000 in
theorem hs_10010 (w : World) (ht : Tab w) (CA : Hid (Calls Tryz.prog 6 #[] w fun e w' => e = .returned (.bool true) ∧ G w w')) : Calls Tryz.prog 5 #[.bool true, .bool false, .bool false, .bool true, .bool false] w fun e w' => e = .returned (.bool true) ∧ G w w' := by
  replace ht := hide ht
  go_enter Tryz.func5, Tryz.ntmps5
  go_wp2_with fail
  refine (unhide CA).mono ?_
  rintro e w0 ⟨rfl, g0⟩
  replace g0 := hide g0
  clear CA
  go_wp2_with fail
  refine (shapes14 _).mono ?_
  rintro e w1 ⟨rfl, hw1⟩
  have CN := hide (new14 w0 w1 hw1 (Tab.later (unhide ht) (unhide g0)))
  have g1 : Hid (G w w1) := hide ((unhide g0).trans (by rw [hw1]; exact G.alloc _ _))
  clear hw1 g0 ht
  go_wp2_with fail
  refine (unhide CN).mono ?_
  rintro e w2 ⟨x, rfl, ao, cap, nv, c, S0⟩
  have FIN : Hid (∀ y : World, Below w1.heap.size w1 y → G w y) := hide fun y b => Below.trans (unhide g1) (b.mono (unhide g1).size)
  have S1 := hide (S0.gr (G.alloc w2 (.cells #[] 65)))
  have C := hide (y_make1 false true S1)
  clear S0 CN g1
  go_wp2_with fail
  refine (unhide C _).mono ?_
  rintro e w3 ⟨rfl, S3⟩
  clear C S1
  have C := hide (y_make2 false true (hide S3))
  clear S3
  go_wp2_with fail
  refine (unhide C _).mono ?_
  rintro e w4 ⟨rfl, S4⟩
  clear C
  have C := hide (y_make3 false true (hide S4))
  clear S4
  go_wp2_with fail
  refine (unhide C _).mono ?_
  rintro e w5 ⟨rfl, S5⟩
  clear C
  go_upto_region 20 with fail
  have S6' := y_box S5
  obtain ⟨W6, hW6⟩ : ∃ W6, W6 = w5.alloc (.cells #[.pointer (some ⟨x.hb, 0, none⟩), .int .i64 64, .int .i64 0, .bool false, .bool false] 67) := ⟨_, rfl⟩
  have S6 : Hid (YS w1 x ao cap nv false true w5.heap.size 0 [] (yq3 false true) 0 W6) := hide (by rw [hW6]; exact S6')
  rw [← hW6]
  clear S6' S5 hW6
  have b0 : _ = some (Value.pointer (some ⟨x.hb, 0, none⟩)) := (unhide S6).box.b0
  have b1 : _ = some (Value.int .i64 64) := (unhide S6).box.b1
  have b2 : _ = some (Value.int .i64 0) := (unhide S6).box.b2
  have b3 : _ = some (Value.bool false) := (unhide S6).box.b3
  have b4 : _ = some (Value.bool false) := (unhide S6).box.b4
  have C := hide (y_do1 false true S6)
  clear S6
  go_wp2_with fail
  refine (unhide C).mono ?_
  rintro e w7 ⟨rfl, S7⟩
  replace S7 := hide S7
  clear C b0 b1 b2 b3 b4
  have C := hide (y_cycle S7)
  go_wp2_with fail
  refine (unhide C).mono ?_
  rintro e w9 ⟨rfl, hw9⟩
  rw [hw9]
  clear C hw9 w9
  have C := hide (y_marker S7)
  go_wp2_with fail
  refine (unhide C).mono ?_
  rintro e w11 ⟨rfl, hw⟩
  rw [hw]
  clear C hw w11
  have C := hide (y_left S7)
  go_wp2_with fail
  refine (unhide C).mono ?_
  rintro e w11 ⟨rfl, hw⟩
  rw [hw]
  clear C hw w11
  have b0 : _ = some (Value.pointer (some ⟨x.hb, 0, none⟩)) := (unhide S7).box.b0
  have b1 : _ = some (Value.int .i64 64) := (unhide S7).box.b1
  have b2 : _ = some (Value.int .i64 0) := (unhide S7).box.b2
  have b3 : _ = some (Value.bool false) := (unhide S7).box.b3
  have b4 : _ = some (Value.bool false) := (unhide S7).box.b4
  have C := hide (y_off false S7)
  clear S7
  go_wp2_with fail
  refine (unhide C).mono ?_
  rintro e w12 ⟨rfl, al2, S12⟩
  replace S12 := hide S12
  clear C b0 b1 b2 b3 b4
  have C := hide (y_marker S12)
  go_wp2_with fail
  refine (unhide C).mono ?_
  rintro e w11 ⟨rfl, hw⟩
  rw [hw]
  clear C hw w11
  have C := hide (y_left S12)
  go_wp2_with fail
  refine (unhide C).mono ?_
  rintro e w11 ⟨rfl, hw⟩
  rw [hw]
  clear C hw w11
  have F := hide (unhide FIN _ (unhide S12).below)
  clear S12 FIN
  go_wp2_with fail
  go_ret
  exact ⟨rfl, unhide F⟩
set_option maxHeartbeats 2000000 in
set_option maxRecDepth 100000 in
theorem hs_10100 (w : World) (ht : Tab w) (CA : Hid (Calls Tryz.prog 6 #[] w fun e w' => e = .returned (.bool true) ∧ G w w')) : Calls Tryz.prog 5 #[.bool true, .bool false, .bool true, .bool false, .bool false] w fun e w' => e = .returned (.bool true) ∧ G w w' := by
  replace ht := hide ht
  go_enter Tryz.func5, Tryz.ntmps5
  go_wp2_with fail
  refine (unhide CA).mono ?_
  rintro e w0 ⟨rfl, g0⟩
  replace g0 := hide g0
  clear CA
  go_wp2_with fail
  refine (shapes14 _).mono ?_
  rintro e w1 ⟨rfl, hw1⟩
  have CN := hide (new14 w0 w1 hw1 (Tab.later (unhide ht) (unhide g0)))
  have g1 : Hid (G w w1) := hide ((unhide g0).trans (by rw [hw1]; exact G.alloc _ _))
  clear hw1 g0 ht
  go_wp2_with fail
  refine (unhide CN).mono ?_
  rintro e w2 ⟨x, rfl, ao, cap, nv, c, S0⟩
  have FIN : Hid (∀ y : World, Below w1.heap.size w1 y → G w y) := hide fun y b => Below.trans (unhide g1) (b.mono (unhide g1).size)
  have S1 := hide (S0.gr (G.alloc w2 (.cells #[] 65)))
  have C := hide (y_make1 true false S1)
  clear S0 CN g1
  go_wp2_with fail
  refine (unhide C _).mono ?_
  rintro e w3 ⟨rfl, S3⟩
  clear C S1
  have C := hide (y_make2 true false (hide S3))
  clear S3
  go_wp2_with fail
  refine (unhide C _).mono ?_
  rintro e w4 ⟨rfl, S4⟩
  clear C
  have C := hide (y_make3 true false (hide S4))
  clear S4
  go_wp2_with fail
  refine (unhide C _).mono ?_
  rintro e w5 ⟨rfl, S5⟩
  clear C
  go_upto_region 20 with fail
  have S6' := y_box S5
  obtain ⟨W6, hW6⟩ : ∃ W6, W6 = w5.alloc (.cells #[.pointer (some ⟨x.hb, 0, none⟩), .int .i64 64, .int .i64 2, .bool true, .bool true] 67) := ⟨_, rfl⟩
  have S6 : Hid (YS w1 x ao cap nv true false w5.heap.size 0 [] (yq3 true false) 0 W6) := hide (by rw [hW6]; exact S6')
  rw [← hW6]
  clear S6' S5 hW6
  have b0 : _ = some (Value.pointer (some ⟨x.hb, 0, none⟩)) := (unhide S6).box.b0
  have b1 : _ = some (Value.int .i64 64) := (unhide S6).box.b1
  have b2 : _ = some (Value.int .i64 2) := (unhide S6).box.b2
  have b3 : _ = some (Value.bool true) := (unhide S6).box.b3
  have b4 : _ = some (Value.bool true) := (unhide S6).box.b4
  have C := hide (y_do1 true false S6)
  clear S6
  go_wp2_with fail
  refine (unhide C).mono ?_
  rintro e w7 ⟨rfl, S7⟩
  replace S7 := hide S7
  clear C b0 b1 b2 b3 b4
  have C := hide (y_cycle S7)
  go_wp2_with fail
  refine (unhide C).mono ?_
  rintro e w9 ⟨rfl, hw9⟩
  rw [hw9]
  clear C hw9 w9
  have C := hide (y_marker S7)
  go_wp2_with fail
  refine (unhide C).mono ?_
  rintro e w11 ⟨rfl, hw⟩
  rw [hw]
  clear C hw w11
  have C := hide (y_left S7)
  go_wp2_with fail
  refine (unhide C).mono ?_
  rintro e w11 ⟨rfl, hw⟩
  rw [hw]
  clear C hw w11
  have b0 : _ = some (Value.pointer (some ⟨x.hb, 0, none⟩)) := (unhide S7).box.b0
  have b1 : _ = some (Value.int .i64 64) := (unhide S7).box.b1
  have b2 : _ = some (Value.int .i64 2) := (unhide S7).box.b2
  have b3 : _ = some (Value.bool true) := (unhide S7).box.b3
  have b4 : _ = some (Value.bool true) := (unhide S7).box.b4
  have C := hide (y_off false S7)
  clear S7
  go_wp2_with fail
  refine (unhide C).mono ?_
  rintro e w12 ⟨rfl, al2, S12⟩
  replace S12 := hide S12
  clear C b0 b1 b2 b3 b4
  have C := hide (y_marker S12)
  go_wp2_with fail
  refine (unhide C).mono ?_
  rintro e w11 ⟨rfl, hw⟩
  rw [hw]
  clear C hw w11
  have C := hide (y_left S12)
  go_wp2_with fail
  refine (unhide C).mono ?_
  rintro e w11 ⟨rfl, hw⟩
  rw [hw]
  clear C hw w11
  have F := hide (unhide FIN _ (unhide S12).below)
  clear S12 FIN
  go_wp2_with fail
  go_ret
  exact ⟨rfl, unhide F⟩
set_option maxHeartbeats 2000000 in
set_option maxRecDepth 100000 in
theorem hs_10110 (w : World) (ht : Tab w) (CA : Hid (Calls Tryz.prog 6 #[] w fun e w' => e = .returned (.bool true) ∧ G w w')) : Calls Tryz.prog 5 #[.bool true, .bool false, .bool true, .bool true, .bool false] w fun e w' => e = .returned (.bool true) ∧ G w w' := by
  replace ht := hide ht
  go_enter Tryz.func5, Tryz.ntmps5
  go_wp2_with fail
  refine (unhide CA).mono ?_
  rintro e w0 ⟨rfl, g0⟩
  replace g0 := hide g0
  clear CA
  go_wp2_with fail
  refine (shapes14 _).mono ?_
  rintro e w1 ⟨rfl, hw1⟩
  have CN := hide (new14 w0 w1 hw1 (Tab.later (unhide ht) (unhide g0)))
  have g1 : Hid (G w w1) := hide ((unhide g0).trans (by rw [hw1]; exact G.alloc _ _))
  clear hw1 g0 ht
  go_wp2_with fail
  refine (unhide CN).mono ?_
  rintro e w2 ⟨x, rfl, ao, cap, nv, c, S0⟩
  have FIN : Hid (∀ y : World, Below w1.heap.size w1 y → G w y) := hide fun y b => Below.trans (unhide g1) (b.mono (unhide g1).size)
  have S1 := hide (S0.gr (G.alloc w2 (.cells #[] 65)))
  have C := hide (y_make1 true true S1)
  clear S0 CN g1
  go_wp2_with fail
  refine (unhide C _).mono ?_
  rintro e w3 ⟨rfl, S3⟩
  clear C S1
  have C := hide (y_make2 true true (hide S3))
  clear S3
  go_wp2_with fail
  refine (unhide C _).mono ?_
  rintro e w4 ⟨rfl, S4⟩
  clear C
  have C := hide (y_make3 true true (hide S4))
  clear S4
  go_wp2_with fail
  refine (unhide C _).mono ?_
  rintro e w5 ⟨rfl, S5⟩
  clear C
  go_upto_region 20 with fail
  have S6' := y_box S5
  obtain ⟨W6, hW6⟩ : ∃ W6, W6 = w5.alloc (.cells #[.pointer (some ⟨x.hb, 0, none⟩), .int .i64 64, .int .i64 0, .bool true, .bool false] 67) := ⟨_, rfl⟩
  have S6 : Hid (YS w1 x ao cap nv true true w5.heap.size 0 [] (yq3 true true) 0 W6) := hide (by rw [hW6]; exact S6')
  rw [← hW6]
  clear S6' S5 hW6
  have b0 : _ = some (Value.pointer (some ⟨x.hb, 0, none⟩)) := (unhide S6).box.b0
  have b1 : _ = some (Value.int .i64 64) := (unhide S6).box.b1
  have b2 : _ = some (Value.int .i64 0) := (unhide S6).box.b2
  have b3 : _ = some (Value.bool true) := (unhide S6).box.b3
  have b4 : _ = some (Value.bool false) := (unhide S6).box.b4
  have C := hide (y_do1 true true S6)
  clear S6
  go_wp2_with fail
  refine (unhide C).mono ?_
  rintro e w7 ⟨rfl, S7⟩
  replace S7 := hide S7
  clear C b0 b1 b2 b3 b4
  have C := hide (y_cycle S7)
  go_wp2_with fail
  refine (unhide C).mono ?_
  rintro e w9 ⟨rfl, hw9⟩
  rw [hw9]
  clear C hw9 w9
  have C := hide (y_marker S7)
  go_wp2_with fail
  refine (unhide C).mono ?_
  rintro e w11 ⟨rfl, hw⟩
  rw [hw]
  clear C hw w11
  have C := hide (y_left S7)
  go_wp2_with fail
  refine (unhide C).mono ?_
  rintro e w11 ⟨rfl, hw⟩
  rw [hw]
  clear C hw w11
  have b0 : _ = some (Value.pointer (some ⟨x.hb, 0, none⟩)) := (unhide S7).box.b0
  have b1 : _ = some (Value.int .i64 64) := (unhide S7).box.b1
  have b2 : _ = some (Value.int .i64 0) := (unhide S7).box.b2
  have b3 : _ = some (Value.bool true) := (unhide S7).box.b3
  have b4 : _ = some (Value.bool false) := (unhide S7).box.b4
  have C := hide (y_off false S7)
  clear S7
  go_wp2_with fail
  refine (unhide C).mono ?_
  rintro e w12 ⟨rfl, al2, S12⟩
  replace S12 := hide S12
  clear C b0 b1 b2 b3 b4
  have C := hide (y_marker S12)
  go_wp2_with fail
  refine (unhide C).mono ?_
  rintro e w11 ⟨rfl, hw⟩
  rw [hw]
  clear C hw w11
  have C := hide (y_left S12)
  go_wp2_with fail
  refine (unhide C).mono ?_
  rintro e w11 ⟨rfl, hw⟩
  rw [hw]
  clear C hw w11
  have F := hide (unhide FIN _ (unhide S12).below)
  clear S12 FIN
  go_wp2_with fail
  go_ret
  exact ⟨rfl, unhide F⟩
set_option maxHeartbeats 2000000 in
set_option maxRecDepth 100000 in
theorem hs_11000 (w : World) (ht : Tab w) (CA : Hid (Calls Tryz.prog 6 #[] w fun e w' => e = .returned (.bool true) ∧ G w w')) : Calls Tryz.prog 5 #[.bool true, .bool true, .bool false, .bool false, .bool false] w fun e w' => e = .returned (.bool true) ∧ G w w' := by
  replace ht := hide ht
  go_enter Tryz.func5, Tryz.ntmps5
  go_wp2_with fail
  refine (unhide CA).mono ?_
  rintro e w0 ⟨rfl, g0⟩
  replace g0 := hide g0
  clear CA
  go_wp2_with fail
  refine (shapes14 _).mono ?_
  rintro e w1 ⟨rfl, hw1⟩
  have CN := hide (new14 w0 w1 hw1 (Tab.later (unhide ht) (unhide g0)))
  have g1 : Hid (G w w1) := hide ((unhide g0).trans (by rw [hw1]; exact G.alloc _ _))
  clear hw1 g0 ht
  go_wp2_with fail
  refine (unhide CN).mono ?_
  rintro e w2 ⟨x, rfl, ao, cap, nv, c, S0⟩
  have FIN : Hid (∀ y : World, Below w1.heap.size w1 y → G w y) := hide fun y b => Below.trans (unhide g1) (b.mono (unhide g1).size)
  have S1 := hide (S0.gr (G.alloc w2 (.cells #[] 65)))
  have C := hide (y_make1 false false S1)
  clear S0 CN g1
  go_wp2_with fail
  refine (unhide C _).mono ?_
  rintro e w3 ⟨rfl, S3⟩
  clear C S1
  have C := hide (y_make2 false false (hide S3))
  clear S3
  go_wp2_with fail
  refine (unhide C _).mono ?_
  rintro e w4 ⟨rfl, S4⟩
  clear C
  have C := hide (y_make3 false false (hide S4))
  clear S4
  go_wp2_with fail
  refine (unhide C _).mono ?_
  rintro e w5 ⟨rfl, S5⟩
  clear C
  go_upto_region 20 with fail
  have S6' := y_box S5
  obtain ⟨W6, hW6⟩ : ∃ W6, W6 = w5.alloc (.cells #[.pointer (some ⟨x.hb, 0, none⟩), .int .i64 64, .int .i64 1, .bool false, .bool true] 67) := ⟨_, rfl⟩
  have S6 : Hid (YS w1 x ao cap nv false false w5.heap.size 0 [] (yq3 false false) 0 W6) := hide (by rw [hW6]; exact S6')
  rw [← hW6]
  clear S6' S5 hW6
  have b0 : _ = some (Value.pointer (some ⟨x.hb, 0, none⟩)) := (unhide S6).box.b0
  have b1 : _ = some (Value.int .i64 64) := (unhide S6).box.b1
  have b2 : _ = some (Value.int .i64 1) := (unhide S6).box.b2
  have b3 : _ = some (Value.bool false) := (unhide S6).box.b3
  have b4 : _ = some (Value.bool true) := (unhide S6).box.b4
  have C := hide (y_do1 false false S6)
  clear S6
  go_wp2_with fail
  refine (unhide C).mono ?_
  rintro e w7 ⟨rfl, S7⟩
  replace S7 := hide S7
  clear C b0 b1 b2 b3 b4
  have C := hide (y_cycle S7)
  go_wp2_with fail
  refine (unhide C).mono ?_
  rintro e w9 ⟨rfl, hw9⟩
  rw [hw9]
  clear C hw9 w9
  have C := hide (y_marker S7)
  go_wp2_with fail
  refine (unhide C).mono ?_
  rintro e w11 ⟨rfl, hw⟩
  rw [hw]
  clear C hw w11
  have C := hide (y_left S7)
  go_wp2_with fail
  refine (unhide C).mono ?_
  rintro e w11 ⟨rfl, hw⟩
  rw [hw]
  clear C hw w11
  have b0 : _ = some (Value.pointer (some ⟨x.hb, 0, none⟩)) := (unhide S7).box.b0
  have b1 : _ = some (Value.int .i64 64) := (unhide S7).box.b1
  have b2 : _ = some (Value.int .i64 1) := (unhide S7).box.b2
  have b3 : _ = some (Value.bool false) := (unhide S7).box.b3
  have b4 : _ = some (Value.bool true) := (unhide S7).box.b4
  have C := hide (y_off true S7)
  clear S7
  go_wp2_with fail
  refine (unhide C).mono ?_
  rintro e w12 ⟨rfl, al2, S12⟩
  replace S12 := hide S12
  clear C b0 b1 b2 b3 b4
  have C := hide (y_marker S12)
  go_wp2_with fail
  refine (unhide C).mono ?_
  rintro e w11 ⟨rfl, hw⟩
  rw [hw]
  clear C hw w11
  have C := hide (y_left S12)
  go_wp2_with fail
  refine (unhide C).mono ?_
  rintro e w11 ⟨rfl, hw⟩
  rw [hw]
  clear C hw w11
  have F := hide (unhide FIN _ (unhide S12).below)
  clear S12 FIN
  go_wp2_with fail
  go_ret
  exact ⟨rfl, unhide F⟩
set_option maxHeartbeats 2000000 in
set_option maxRecDepth 100000 in
theorem hs_11010 (w : World) (ht : Tab w) (CA : Hid (Calls Tryz.prog 6 #[] w fun e w' => e = .returned (.bool true) ∧ G w w')) : Calls Tryz.prog 5 #[.bool true, .bool true, .bool false, .bool true, .bool false] w fun e w' => e = .returned (.bool true) ∧ G w w' := by
  replace ht := hide ht
  go_enter Tryz.func5, Tryz.ntmps5
  go_wp2_with fail
  refine (unhide CA).mono ?_
  rintro e w0 ⟨rfl, g0⟩
  replace g0 := hide g0
  clear CA
  go_wp2_with fail
  refine (shapes14 _).mono ?_
  rintro e w1 ⟨rfl, hw1⟩
  have CN := hide (new14 w0 w1 hw1 (Tab.later (unhide ht) (unhide g0)))
  have g1 : Hid (G w w1) := hide ((unhide g0).trans (by rw [hw1]; exact G.alloc _ _))
  clear hw1 g0 ht
  go_wp2_with fail
  refine (unhide CN).mono ?_
  rintro e w2 ⟨x, rfl, ao, cap, nv, c, S0⟩
  have FIN : Hid (∀ y : World, Below w1.heap.size w1 y → G w y) := hide fun y b => Below.trans (unhide g1) (b.mono (unhide g1).size)
  have S1 := hide (S0.gr (G.alloc w2 (.cells #[] 65)))
  have C := hide (y_make1 false true S1)
  clear S0 CN g1
  go_wp2_with fail
  refine (unhide C _).mono ?_
  rintro e w3 ⟨rfl, S3⟩
  clear C S1
  have C := hide (y_make2 false true (hide S3))
  clear S3
  go_wp2_with fail
  refine (unhide C _).mono ?_
  rintro e w4 ⟨rfl, S4⟩
  clear C
  have C := hide (y_make3 false true (hide S4))
  clear S4
  go_wp2_with fail
  refine (unhide C _).mono ?_
  rintro e w5 ⟨rfl, S5⟩
  clear C
  go_upto_region 20 with fail
  have S6' := y_box S5
  obtain ⟨W6, hW6⟩ : ∃ W6, W6 = w5.alloc (.cells #[.pointer (some ⟨x.hb, 0, none⟩), .int .i64 64, .int .i64 0, .bool false, .bool false] 67) := ⟨_, rfl⟩
  have S6 : Hid (YS w1 x ao cap nv false true w5.heap.size 0 [] (yq3 false true) 0 W6) := hide (by rw [hW6]; exact S6')
  rw [← hW6]
  clear S6' S5 hW6
  have b0 : _ = some (Value.pointer (some ⟨x.hb, 0, none⟩)) := (unhide S6).box.b0
  have b1 : _ = some (Value.int .i64 64) := (unhide S6).box.b1
  have b2 : _ = some (Value.int .i64 0) := (unhide S6).box.b2
  have b3 : _ = some (Value.bool false) := (unhide S6).box.b3
  have b4 : _ = some (Value.bool false) := (unhide S6).box.b4
  have C := hide (y_do1 false true S6)
  clear S6
  go_wp2_with fail
  refine (unhide C).mono ?_
  rintro e w7 ⟨rfl, S7⟩
  replace S7 := hide S7
  clear C b0 b1 b2 b3 b4
  have C := hide (y_cycle S7)
  go_wp2_with fail
  refine (unhide C).mono ?_
  rintro e w9 ⟨rfl, hw9⟩
  rw [hw9]
  clear C hw9 w9
  have C := hide (y_marker S7)
  go_wp2_with fail
  refine (unhide C).mono ?_
  rintro e w11 ⟨rfl, hw⟩
  rw [hw]
  clear C hw w11
  have C := hide (y_left S7)
  go_wp2_with fail
  refine (unhide C).mono ?_
  rintro e w11 ⟨rfl, hw⟩
  rw [hw]
  clear C hw w11
  have b0 : _ = some (Value.pointer (some ⟨x.hb, 0, none⟩)) := (unhide S7).box.b0
  have b1 : _ = some (Value.int .i64 64) := (unhide S7).box.b1
  have b2 : _ = some (Value.int .i64 0) := (unhide S7).box.b2
  have b3 : _ = some (Value.bool false) := (unhide S7).box.b3
  have b4 : _ = some (Value.bool false) := (unhide S7).box.b4
  have C := hide (y_off true S7)
  clear S7
  go_wp2_with fail
  refine (unhide C).mono ?_
  rintro e w12 ⟨rfl, al2, S12⟩
  replace S12 := hide S12
  clear C b0 b1 b2 b3 b4
  have C := hide (y_marker S12)
  go_wp2_with fail
  refine (unhide C).mono ?_
  rintro e w11 ⟨rfl, hw⟩
  rw [hw]
  clear C hw w11
  have C := hide (y_left S12)
  go_wp2_with fail
  refine (unhide C).mono ?_
  rintro e w11 ⟨rfl, hw⟩
  rw [hw]
  clear C hw w11
  have F := hide (unhide FIN _ (unhide S12).below)
  clear S12 FIN
  go_wp2_with fail
  go_ret
  exact ⟨rfl, unhide F⟩
set_option maxHeartbeats 2000000 in
set_option maxRecDepth 100000 in
theorem hs_11100 (w : World) (ht : Tab w) (CA : Hid (Calls Tryz.prog 6 #[] w fun e w' => e = .returned (.bool true) ∧ G w w')) : Calls Tryz.prog 5 #[.bool true, .bool true, .bool true, .bool false, .bool false] w fun e w' => e = .returned (.bool true) ∧ G w w' := by
  replace ht := hide ht
  go_enter Tryz.func5, Tryz.ntmps5
  go_wp2_with fail
  refine (unhide CA).mono ?_
  rintro e w0 ⟨rfl, g0⟩
  replace g0 := hide g0
  clear CA
  go_wp2_with fail
  refine (shapes14 _).mono ?_
  rintro e w1 ⟨rfl, hw1⟩
  have CN := hide (new14 w0 w1 hw1 (Tab.later (unhide ht) (unhide g0)))
  have g1 : Hid (G w w1) := hide ((unhide g0).trans (by rw [hw1]; exact G.alloc _ _))
  clear hw1 g0 ht
  go_wp2_with fail
  refine (unhide CN).mono ?_
  rintro e w2 ⟨x, rfl, ao, cap, nv, c, S0⟩
  have FIN : Hid (∀ y : World, Below w1.heap.size w1 y → G w y) := hide fun y b => Below.trans (unhide g1) (b.mono (unhide g1).size)
  have S1 := hide (S0.gr (G.alloc w2 (.cells #[] 65)))
  have C := hide (y_make1 true false S1)
  clear S0 CN g1
  go_wp2_with fail
  refine (unhide C _).mono ?_
  rintro e w3 ⟨rfl, S3⟩
  clear C S1
  have C := hide (y_make2 true false (hide S3))
  clear S3
  go_wp2_with fail
  refine (unhide C _).mono ?_
  rintro e w4 ⟨rfl, S4⟩
  clear C
  have C := hide (y_make3 true false (hide S4))
  clear S4
  go_wp2_with fail
  refine (unhide C _).mono ?_
  rintro e w5 ⟨rfl, S5⟩
  clear C
  go_upto_region 20 with fail
  have S6' := y_box S5
  obtain ⟨W6, hW6⟩ : ∃ W6, W6 = w5.alloc (.cells #[.pointer (some ⟨x.hb, 0, none⟩), .int .i64 64, .int .i64 2, .bool true, .bool true] 67) := ⟨_, rfl⟩
  have S6 : Hid (YS w1 x ao cap nv true false w5.heap.size 0 [] (yq3 true false) 0 W6) := hide (by rw [hW6]; exact S6')
  rw [← hW6]
  clear S6' S5 hW6
  have b0 : _ = some (Value.pointer (some ⟨x.hb, 0, none⟩)) := (unhide S6).box.b0
  have b1 : _ = some (Value.int .i64 64) := (unhide S6).box.b1
  have b2 : _ = some (Value.int .i64 2) := (unhide S6).box.b2
  have b3 : _ = some (Value.bool true) := (unhide S6).box.b3
  have b4 : _ = some (Value.bool true) := (unhide S6).box.b4
  have C := hide (y_do1 true false S6)
  clear S6
  go_wp2_with fail
  refine (unhide C).mono ?_
  rintro e w7 ⟨rfl, S7⟩
  replace S7 := hide S7
  clear C b0 b1 b2 b3 b4
  have C := hide (y_cycle S7)
  go_wp2_with fail
  refine (unhide C).mono ?_
  rintro e w9 ⟨rfl, hw9⟩
  rw [hw9]
  clear C hw9 w9
  have C := hide (y_marker S7)
  go_wp2_with fail
  refine (unhide C).mono ?_
  rintro e w11 ⟨rfl, hw⟩
  rw [hw]
  clear C hw w11
  have C := hide (y_left S7)
  go_wp2_with fail
  refine (unhide C).mono ?_
  rintro e w11 ⟨rfl, hw⟩
  rw [hw]
  clear C hw w11
  have b0 : _ = some (Value.pointer (some ⟨x.hb, 0, none⟩)) := (unhide S7).box.b0
  have b1 : _ = some (Value.int .i64 64) := (unhide S7).box.b1
  have b2 : _ = some (Value.int .i64 2) := (unhide S7).box.b2
  have b3 : _ = some (Value.bool true) := (unhide S7).box.b3
  have b4 : _ = some (Value.bool true) := (unhide S7).box.b4
  have C := hide (y_off true S7)
  clear S7
  go_wp2_with fail
  refine (unhide C).mono ?_
  rintro e w12 ⟨rfl, al2, S12⟩
  replace S12 := hide S12
  clear C b0 b1 b2 b3 b4
  have C := hide (y_marker S12)
  go_wp2_with fail
  refine (unhide C).mono ?_
  rintro e w11 ⟨rfl, hw⟩
  rw [hw]
  clear C hw w11
  have C := hide (y_left S12)
  go_wp2_with fail
  refine (unhide C).mono ?_
  rintro e w11 ⟨rfl, hw⟩
  rw [hw]
  clear C hw w11
  have F := hide (unhide FIN _ (unhide S12).below)
  clear S12 FIN
  go_wp2_with fail
  go_ret
  exact ⟨rfl, unhide F⟩
set_option maxHeartbeats 2000000 in
set_option maxRecDepth 100000 in
theorem hs_11110 (w : World) (ht : Tab w) (CA : Hid (Calls Tryz.prog 6 #[] w fun e w' => e = .returned (.bool true) ∧ G w w')) : Calls Tryz.prog 5 #[.bool true, .bool true, .bool true, .bool true, .bool false] w fun e w' => e = .returned (.bool true) ∧ G w w' := by
  replace ht := hide ht
  go_enter Tryz.func5, Tryz.ntmps5
  go_wp2_with fail
  refine (unhide CA).mono ?_
  rintro e w0 ⟨rfl, g0⟩
  replace g0 := hide g0
  clear CA
  go_wp2_with fail
  refine (shapes14 _).mono ?_
  rintro e w1 ⟨rfl, hw1⟩
  have CN := hide (new14 w0 w1 hw1 (Tab.later (unhide ht) (unhide g0)))
  have g1 : Hid (G w w1) := hide ((unhide g0).trans (by rw [hw1]; exact G.alloc _ _))
  clear hw1 g0 ht
  go_wp2_with fail
  refine (unhide CN).mono ?_
  rintro e w2 ⟨x, rfl, ao, cap, nv, c, S0⟩
  have FIN : Hid (∀ y : World, Below w1.heap.size w1 y → G w y) := hide fun y b => Below.trans (unhide g1) (b.mono (unhide g1).size)
  have S1 := hide (S0.gr (G.alloc w2 (.cells #[] 65)))
  have C := hide (y_make1 true true S1)
  clear S0 CN g1
  go_wp2_with fail
  refine (unhide C _).mono ?_
  rintro e w3 ⟨rfl, S3⟩
  clear C S1
  have C := hide (y_make2 true true (hide S3))
  clear S3
  go_wp2_with fail
  refine (unhide C _).mono ?_
  rintro e w4 ⟨rfl, S4⟩
  clear C
  have C := hide (y_make3 true true (hide S4))
  clear S4
  go_wp2_with fail
  refine (unhide C _).mono ?_
  rintro e w5 ⟨rfl, S5⟩
  clear C
  go_upto_region 20 with fail
  have S6' := y_box S5
  obtain ⟨W6, hW6⟩ : ∃ W6, W6 = w5.alloc (.cells #[.pointer (some ⟨x.hb, 0, none⟩), .int .i64 64, .int .i64 0, .bool true, .bool false] 67) := ⟨_, rfl⟩
  have S6 : Hid (YS w1 x ao cap nv true true w5.heap.size 0 [] (yq3 true true) 0 W6) := hide (by rw [hW6]; exact S6')
  rw [← hW6]
  clear S6' S5 hW6
  have b0 : _ = some (Value.pointer (some ⟨x.hb, 0, none⟩)) := (unhide S6).box.b0
  have b1 : _ = some (Value.int .i64 64) := (unhide S6).box.b1
  have b2 : _ = some (Value.int .i64 0) := (unhide S6).box.b2
  have b3 : _ = some (Value.bool true) := (unhide S6).box.b3
  have b4 : _ = some (Value.bool false) := (unhide S6).box.b4
  have C := hide (y_do1 true true S6)
  clear S6
  go_wp2_with fail
  refine (unhide C).mono ?_
  rintro e w7 ⟨rfl, S7⟩
  replace S7 := hide S7
  clear C b0 b1 b2 b3 b4
  have C := hide (y_cycle S7)
  go_wp2_with fail
  refine (unhide C).mono ?_
  rintro e w9 ⟨rfl, hw9⟩
  rw [hw9]
  clear C hw9 w9
  have C := hide (y_marker S7)
  go_wp2_with fail
  refine (unhide C).mono ?_
  rintro e w11 ⟨rfl, hw⟩
  rw [hw]
  clear C hw w11
  have C := hide (y_left S7)
  go_wp2_with fail
  refine (unhide C).mono ?_
  rintro e w11 ⟨rfl, hw⟩
  rw [hw]
  clear C hw w11
  have b0 : _ = some (Value.pointer (some ⟨x.hb, 0, none⟩)) := (unhide S7).box.b0
  have b1 : _ = some (Value.int .i64 64) := (unhide S7).box.b1
  have b2 : _ = some (Value.int .i64 0) := (unhide S7).box.b2
  have b3 : _ = some (Value.bool true) := (unhide S7).box.b3
  have b4 : _ = some (Value.bool false) := (unhide S7).box.b4
  have C := hide (y_off true S7)
  clear S7
  go_wp2_with fail
  refine (unhide C).mono ?_
  rintro e w12 ⟨rfl, al2, S12⟩
  replace S12 := hide S12
  clear C b0 b1 b2 b3 b4
  have C := hide (y_marker S12)
  go_wp2_with fail
  refine (unhide C).mono ?_
  rintro e w11 ⟨rfl, hw⟩
  rw [hw]
  clear C hw w11
  have C := hide (y_left S12)
  go_wp2_with fail
  refine (unhide C).mono ?_
  rintro e w11 ⟨rfl, hw⟩
  rw [hw]
  clear C hw w11
  have F := hide (unhide FIN _ (unhide S12).below)
  clear S12 FIN
  go_wp2_with fail
  go_ret
  exact ⟨rfl, unhide F⟩
end Go.Proofs.YtmifehomglilmaaGreatDoor

/- HeapShades of package gantlinelaw14 answers true: a collection goes on. -/
namespace Go.Proofs.YtmifehomglilmaaGreatDoor
set_option maxRecDepth 100000
open Go.ChangeShapes Go.WideShapes Go.ChangeAt Go.RowKit Go.Maps Go.Deep

set_option maxHeartbeats 2000000 in
set_option maxRecDepth 100000 in
theorem hs_00001 (w : World) (ht : Tab w) (CA : Hid (Calls Tryz.prog 6 #[] w fun e w' => e = .returned (.bool true) ∧ G w w')) : Calls Tryz.prog 5 #[.bool false, .bool false, .bool false, .bool false, .bool true] w fun e w' => e = .returned (.bool true) ∧ G w w' := by
  replace ht := hide ht
  go_enter Tryz.func5, Tryz.ntmps5
  go_wp2_with fail
  refine (unhide CA).mono ?_
  rintro e w0 ⟨rfl, g0⟩
  replace g0 := hide g0
  clear CA
  go_wp2_with fail
  refine (shapes14 _).mono ?_
  rintro e w1 ⟨rfl, hw1⟩
  have CN := hide (new14 w0 w1 hw1 (Tab.later (unhide ht) (unhide g0)))
  have g1 : Hid (G w w1) := hide ((unhide g0).trans (by rw [hw1]; exact G.alloc _ _))
  clear hw1 g0 ht
  go_wp2_with fail
  refine (unhide CN).mono ?_
  rintro e w2 ⟨x, rfl, ao, cap, nv, c, S0⟩
  have FIN : Hid (∀ y : World, Below w1.heap.size w1 y → G w y) := hide fun y b => Below.trans (unhide g1) (b.mono (unhide g1).size)
  have S1 := hide (S0.gr (G.alloc w2 (.cells #[] 65)))
  have C := hide (y_make1 false false S1)
  clear S0 CN g1
  go_wp2_with fail
  refine (unhide C _).mono ?_
  rintro e w3 ⟨rfl, S3⟩
  clear C S1
  have C := hide (y_make2 false false (hide S3))
  clear S3
  go_wp2_with fail
  refine (unhide C _).mono ?_
  rintro e w4 ⟨rfl, S4⟩
  clear C
  have C := hide (y_make3 false false (hide S4))
  clear S4
  go_wp2_with fail
  refine (unhide C _).mono ?_
  rintro e w5 ⟨rfl, S5⟩
  clear C
  go_upto_region 20 with fail
  have S6' := y_box S5
  obtain ⟨W6, hW6⟩ : ∃ W6, W6 = w5.alloc (.cells #[.pointer (some ⟨x.hb, 0, none⟩), .int .i64 64, .int .i64 1, .bool false, .bool true] 67) := ⟨_, rfl⟩
  have S6 : Hid (YS w1 x ao cap nv false false w5.heap.size 0 [] (yq3 false false) 0 W6) := hide (by rw [hW6]; exact S6')
  rw [← hW6]
  clear S6' S5 hW6
  have b0 : _ = some (Value.pointer (some ⟨x.hb, 0, none⟩)) := (unhide S6).box.b0
  have b1 : _ = some (Value.int .i64 64) := (unhide S6).box.b1
  have b2 : _ = some (Value.int .i64 1) := (unhide S6).box.b2
  have b3 : _ = some (Value.bool false) := (unhide S6).box.b3
  have b4 : _ = some (Value.bool true) := (unhide S6).box.b4
  have C := hide (y_do1 false false S6)
  clear S6
  go_wp2_with fail
  refine (unhide C).mono ?_
  rintro e w7 ⟨rfl, S7⟩
  replace S7 := hide S7
  clear C b0 b1 b2 b3 b4
  have C := hide (y_cycle S7)
  go_wp2_with fail
  refine (unhide C).mono ?_
  rintro e w9 ⟨rfl, hw9⟩
  rw [hw9]
  clear C hw9 w9
  have C := hide (y_start S7)
  go_wp2_with fail
  refine (unhide C _).mono ?_
  rintro e w8 ⟨rfl, S8⟩
  replace S8 := hide S8
  clear C S7
  have C := hide (y_marker S8)
  go_wp2_with fail
  refine (unhide C).mono ?_
  rintro e w11 ⟨rfl, hw⟩
  rw [hw]
  clear C hw w11
  have C := hide (y_left S8)
  go_wp2_with fail
  refine (unhide C).mono ?_
  rintro e w11 ⟨rfl, hw⟩
  rw [hw]
  clear C hw w11
  have b0 : _ = some (Value.pointer (some ⟨x.hb, 0, none⟩)) := (unhide S8).box.b0
  have b1 : _ = some (Value.int .i64 64) := (unhide S8).box.b1
  have b2 : _ = some (Value.int .i64 1) := (unhide S8).box.b2
  have b3 : _ = some (Value.bool false) := (unhide S8).box.b3
  have b4 : _ = some (Value.bool true) := (unhide S8).box.b4
  have C := hide (y_on false S8 0 rfl)
  clear S8
  go_wp2_with fail
  refine (unhide C).mono ?_
  rintro e w12 ⟨rfl, al2, S12⟩
  replace S12 := hide S12
  clear C b0 b1 b2 b3 b4
  have C := hide (y_marker S12)
  go_wp2_with fail
  refine (unhide C).mono ?_
  rintro e w11 ⟨rfl, hw⟩
  rw [hw]
  clear C hw w11
  have C := hide (y_left S12)
  go_wp2_with fail
  refine (unhide C).mono ?_
  rintro e w11 ⟨rfl, hw⟩
  rw [hw]
  clear C hw w11
  have F := hide (unhide FIN _ (unhide S12).below)
  clear S12 FIN
  go_wp2_with fail
  go_ret
  exact ⟨rfl, unhide F⟩
set_option maxHeartbeats 2000000 in
set_option maxRecDepth 100000 in
theorem hs_00011 (w : World) (ht : Tab w) (CA : Hid (Calls Tryz.prog 6 #[] w fun e w' => e = .returned (.bool true) ∧ G w w')) : Calls Tryz.prog 5 #[.bool false, .bool false, .bool false, .bool true, .bool true] w fun e w' => e = .returned (.bool true) ∧ G w w' := by
  replace ht := hide ht
  go_enter Tryz.func5, Tryz.ntmps5
  go_wp2_with fail
  refine (unhide CA).mono ?_
  rintro e w0 ⟨rfl, g0⟩
  replace g0 := hide g0
  clear CA
  go_wp2_with fail
  refine (shapes14 _).mono ?_
  rintro e w1 ⟨rfl, hw1⟩
  have CN := hide (new14 w0 w1 hw1 (Tab.later (unhide ht) (unhide g0)))
  have g1 : Hid (G w w1) := hide ((unhide g0).trans (by rw [hw1]; exact G.alloc _ _))
  clear hw1 g0 ht
  go_wp2_with fail
  refine (unhide CN).mono ?_
  rintro e w2 ⟨x, rfl, ao, cap, nv, c, S0⟩
  have FIN : Hid (∀ y : World, Below w1.heap.size w1 y → G w y) := hide fun y b => Below.trans (unhide g1) (b.mono (unhide g1).size)
  have S1 := hide (S0.gr (G.alloc w2 (.cells #[] 65)))
  have C := hide (y_make1 false true S1)
  clear S0 CN g1
  go_wp2_with fail
  refine (unhide C _).mono ?_
  rintro e w3 ⟨rfl, S3⟩
  clear C S1
  have C := hide (y_make2 false true (hide S3))
  clear S3
  go_wp2_with fail
  refine (unhide C _).mono ?_
  rintro e w4 ⟨rfl, S4⟩
  clear C
  have C := hide (y_make3 false true (hide S4))
  clear S4
  go_wp2_with fail
  refine (unhide C _).mono ?_
  rintro e w5 ⟨rfl, S5⟩
  clear C
  go_upto_region 20 with fail
  have S6' := y_box S5
  obtain ⟨W6, hW6⟩ : ∃ W6, W6 = w5.alloc (.cells #[.pointer (some ⟨x.hb, 0, none⟩), .int .i64 64, .int .i64 0, .bool false, .bool false] 67) := ⟨_, rfl⟩
  have S6 : Hid (YS w1 x ao cap nv false true w5.heap.size 0 [] (yq3 false true) 0 W6) := hide (by rw [hW6]; exact S6')
  rw [← hW6]
  clear S6' S5 hW6
  have b0 : _ = some (Value.pointer (some ⟨x.hb, 0, none⟩)) := (unhide S6).box.b0
  have b1 : _ = some (Value.int .i64 64) := (unhide S6).box.b1
  have b2 : _ = some (Value.int .i64 0) := (unhide S6).box.b2
  have b3 : _ = some (Value.bool false) := (unhide S6).box.b3
  have b4 : _ = some (Value.bool false) := (unhide S6).box.b4
  have C := hide (y_do1 false true S6)
  clear S6
  go_wp2_with fail
  refine (unhide C).mono ?_
  rintro e w7 ⟨rfl, S7⟩
  replace S7 := hide S7
  clear C b0 b1 b2 b3 b4
  have C := hide (y_cycle S7)
  go_wp2_with fail
  refine (unhide C).mono ?_
  rintro e w9 ⟨rfl, hw9⟩
  rw [hw9]
  clear C hw9 w9
  have C := hide (y_start S7)
  go_wp2_with fail
  refine (unhide C _).mono ?_
  rintro e w8 ⟨rfl, S8⟩
  replace S8 := hide S8
  clear C S7
  have C := hide (y_marker S8)
  go_wp2_with fail
  refine (unhide C).mono ?_
  rintro e w11 ⟨rfl, hw⟩
  rw [hw]
  clear C hw w11
  have C := hide (y_left S8)
  go_wp2_with fail
  refine (unhide C).mono ?_
  rintro e w11 ⟨rfl, hw⟩
  rw [hw]
  clear C hw w11
  have b0 : _ = some (Value.pointer (some ⟨x.hb, 0, none⟩)) := (unhide S8).box.b0
  have b1 : _ = some (Value.int .i64 64) := (unhide S8).box.b1
  have b2 : _ = some (Value.int .i64 0) := (unhide S8).box.b2
  have b3 : _ = some (Value.bool false) := (unhide S8).box.b3
  have b4 : _ = some (Value.bool false) := (unhide S8).box.b4
  have C := hide (y_on false S8 0 rfl)
  clear S8
  go_wp2_with fail
  refine (unhide C).mono ?_
  rintro e w12 ⟨rfl, al2, S12⟩
  replace S12 := hide S12
  clear C b0 b1 b2 b3 b4
  have C := hide (y_marker S12)
  go_wp2_with fail
  refine (unhide C).mono ?_
  rintro e w11 ⟨rfl, hw⟩
  rw [hw]
  clear C hw w11
  have C := hide (y_left S12)
  go_wp2_with fail
  refine (unhide C).mono ?_
  rintro e w11 ⟨rfl, hw⟩
  rw [hw]
  clear C hw w11
  have F := hide (unhide FIN _ (unhide S12).below)
  clear S12 FIN
  go_wp2_with fail
  go_ret
  exact ⟨rfl, unhide F⟩
set_option maxHeartbeats 2000000 in
set_option maxRecDepth 100000 in
theorem hs_00101 (w : World) (ht : Tab w) (CA : Hid (Calls Tryz.prog 6 #[] w fun e w' => e = .returned (.bool true) ∧ G w w')) : Calls Tryz.prog 5 #[.bool false, .bool false, .bool true, .bool false, .bool true] w fun e w' => e = .returned (.bool true) ∧ G w w' := by
  replace ht := hide ht
  go_enter Tryz.func5, Tryz.ntmps5
  go_wp2_with fail
  refine (unhide CA).mono ?_
  rintro e w0 ⟨rfl, g0⟩
  replace g0 := hide g0
  clear CA
  go_wp2_with fail
  refine (shapes14 _).mono ?_
  rintro e w1 ⟨rfl, hw1⟩
  have CN := hide (new14 w0 w1 hw1 (Tab.later (unhide ht) (unhide g0)))
  have g1 : Hid (G w w1) := hide ((unhide g0).trans (by rw [hw1]; exact G.alloc _ _))
  clear hw1 g0 ht
  go_wp2_with fail
  refine (unhide CN).mono ?_
  rintro e w2 ⟨x, rfl, ao, cap, nv, c, S0⟩
  have FIN : Hid (∀ y : World, Below w1.heap.size w1 y → G w y) := hide fun y b => Below.trans (unhide g1) (b.mono (unhide g1).size)
  have S1 := hide (S0.gr (G.alloc w2 (.cells #[] 65)))
  have C := hide (y_make1 true false S1)
  clear S0 CN g1
  go_wp2_with fail
  refine (unhide C _).mono ?_
  rintro e w3 ⟨rfl, S3⟩
  clear C S1
  have C := hide (y_make2 true false (hide S3))
  clear S3
  go_wp2_with fail
  refine (unhide C _).mono ?_
  rintro e w4 ⟨rfl, S4⟩
  clear C
  have C := hide (y_make3 true false (hide S4))
  clear S4
  go_wp2_with fail
  refine (unhide C _).mono ?_
  rintro e w5 ⟨rfl, S5⟩
  clear C
  go_upto_region 20 with fail
  have S6' := y_box S5
  obtain ⟨W6, hW6⟩ : ∃ W6, W6 = w5.alloc (.cells #[.pointer (some ⟨x.hb, 0, none⟩), .int .i64 64, .int .i64 2, .bool true, .bool true] 67) := ⟨_, rfl⟩
  have S6 : Hid (YS w1 x ao cap nv true false w5.heap.size 0 [] (yq3 true false) 0 W6) := hide (by rw [hW6]; exact S6')
  rw [← hW6]
  clear S6' S5 hW6
  have b0 : _ = some (Value.pointer (some ⟨x.hb, 0, none⟩)) := (unhide S6).box.b0
  have b1 : _ = some (Value.int .i64 64) := (unhide S6).box.b1
  have b2 : _ = some (Value.int .i64 2) := (unhide S6).box.b2
  have b3 : _ = some (Value.bool true) := (unhide S6).box.b3
  have b4 : _ = some (Value.bool true) := (unhide S6).box.b4
  have C := hide (y_do1 true false S6)
  clear S6
  go_wp2_with fail
  refine (unhide C).mono ?_
  rintro e w7 ⟨rfl, S7⟩
  replace S7 := hide S7
  clear C b0 b1 b2 b3 b4
  have C := hide (y_cycle S7)
  go_wp2_with fail
  refine (unhide C).mono ?_
  rintro e w9 ⟨rfl, hw9⟩
  rw [hw9]
  clear C hw9 w9
  have C := hide (y_start S7)
  go_wp2_with fail
  refine (unhide C _).mono ?_
  rintro e w8 ⟨rfl, S8⟩
  replace S8 := hide S8
  clear C S7
  have C := hide (y_marker S8)
  go_wp2_with fail
  refine (unhide C).mono ?_
  rintro e w11 ⟨rfl, hw⟩
  rw [hw]
  clear C hw w11
  have C := hide (y_left S8)
  go_wp2_with fail
  refine (unhide C).mono ?_
  rintro e w11 ⟨rfl, hw⟩
  rw [hw]
  clear C hw w11
  have b0 : _ = some (Value.pointer (some ⟨x.hb, 0, none⟩)) := (unhide S8).box.b0
  have b1 : _ = some (Value.int .i64 64) := (unhide S8).box.b1
  have b2 : _ = some (Value.int .i64 2) := (unhide S8).box.b2
  have b3 : _ = some (Value.bool true) := (unhide S8).box.b3
  have b4 : _ = some (Value.bool true) := (unhide S8).box.b4
  have C := hide (y_on false S8 0 rfl)
  clear S8
  go_wp2_with fail
  refine (unhide C).mono ?_
  rintro e w12 ⟨rfl, al2, S12⟩
  replace S12 := hide S12
  clear C b0 b1 b2 b3 b4
  have C := hide (y_marker S12)
  go_wp2_with fail
  refine (unhide C).mono ?_
  rintro e w11 ⟨rfl, hw⟩
  rw [hw]
  clear C hw w11
  have C := hide (y_left S12)
  go_wp2_with fail
  refine (unhide C).mono ?_
  rintro e w11 ⟨rfl, hw⟩
  rw [hw]
  clear C hw w11
  have F := hide (unhide FIN _ (unhide S12).below)
  clear S12 FIN
  go_wp2_with fail
  go_ret
  exact ⟨rfl, unhide F⟩
set_option maxHeartbeats 2000000 in
set_option maxRecDepth 100000 in
theorem hs_00111 (w : World) (ht : Tab w) (CA : Hid (Calls Tryz.prog 6 #[] w fun e w' => e = .returned (.bool true) ∧ G w w')) : Calls Tryz.prog 5 #[.bool false, .bool false, .bool true, .bool true, .bool true] w fun e w' => e = .returned (.bool true) ∧ G w w' := by
  replace ht := hide ht
  go_enter Tryz.func5, Tryz.ntmps5
  go_wp2_with fail
  refine (unhide CA).mono ?_
  rintro e w0 ⟨rfl, g0⟩
  replace g0 := hide g0
  clear CA
  go_wp2_with fail
  refine (shapes14 _).mono ?_
  rintro e w1 ⟨rfl, hw1⟩
  have CN := hide (new14 w0 w1 hw1 (Tab.later (unhide ht) (unhide g0)))
  have g1 : Hid (G w w1) := hide ((unhide g0).trans (by rw [hw1]; exact G.alloc _ _))
  clear hw1 g0 ht
  go_wp2_with fail
  refine (unhide CN).mono ?_
  rintro e w2 ⟨x, rfl, ao, cap, nv, c, S0⟩
  have FIN : Hid (∀ y : World, Below w1.heap.size w1 y → G w y) := hide fun y b => Below.trans (unhide g1) (b.mono (unhide g1).size)
  have S1 := hide (S0.gr (G.alloc w2 (.cells #[] 65)))
  have C := hide (y_make1 true true S1)
  clear S0 CN g1
  go_wp2_with fail
  refine (unhide C _).mono ?_
  rintro e w3 ⟨rfl, S3⟩
  clear C S1
  have C := hide (y_make2 true true (hide S3))
  clear S3
  go_wp2_with fail
  refine (unhide C _).mono ?_
  rintro e w4 ⟨rfl, S4⟩
  clear C
  have C := hide (y_make3 true true (hide S4))
  clear S4
  go_wp2_with fail
  refine (unhide C _).mono ?_
  rintro e w5 ⟨rfl, S5⟩
  clear C
  go_upto_region 20 with fail
  have S6' := y_box S5
  obtain ⟨W6, hW6⟩ : ∃ W6, W6 = w5.alloc (.cells #[.pointer (some ⟨x.hb, 0, none⟩), .int .i64 64, .int .i64 0, .bool true, .bool false] 67) := ⟨_, rfl⟩
  have S6 : Hid (YS w1 x ao cap nv true true w5.heap.size 0 [] (yq3 true true) 0 W6) := hide (by rw [hW6]; exact S6')
  rw [← hW6]
  clear S6' S5 hW6
  have b0 : _ = some (Value.pointer (some ⟨x.hb, 0, none⟩)) := (unhide S6).box.b0
  have b1 : _ = some (Value.int .i64 64) := (unhide S6).box.b1
  have b2 : _ = some (Value.int .i64 0) := (unhide S6).box.b2
  have b3 : _ = some (Value.bool true) := (unhide S6).box.b3
  have b4 : _ = some (Value.bool false) := (unhide S6).box.b4
  have C := hide (y_do1 true true S6)
  clear S6
  go_wp2_with fail
  refine (unhide C).mono ?_
  rintro e w7 ⟨rfl, S7⟩
  replace S7 := hide S7
  clear C b0 b1 b2 b3 b4
  have C := hide (y_cycle S7)
  go_wp2_with fail
  refine (unhide C).mono ?_
  rintro e w9 ⟨rfl, hw9⟩
  rw [hw9]
  clear C hw9 w9
  have C := hide (y_start S7)
  go_wp2_with fail
  refine (unhide C _).mono ?_
  rintro e w8 ⟨rfl, S8⟩
  replace S8 := hide S8
  clear C S7
  have C := hide (y_marker S8)
  go_wp2_with fail
  refine (unhide C).mono ?_
  rintro e w11 ⟨rfl, hw⟩
  rw [hw]
  clear C hw w11
  have C := hide (y_left S8)
  go_wp2_with fail
  refine (unhide C).mono ?_
  rintro e w11 ⟨rfl, hw⟩
  rw [hw]
  clear C hw w11
  have b0 : _ = some (Value.pointer (some ⟨x.hb, 0, none⟩)) := (unhide S8).box.b0
  have b1 : _ = some (Value.int .i64 64) := (unhide S8).box.b1
  have b2 : _ = some (Value.int .i64 0) := (unhide S8).box.b2
  have b3 : _ = some (Value.bool true) := (unhide S8).box.b3
  have b4 : _ = some (Value.bool false) := (unhide S8).box.b4
  have C := hide (y_on false S8 0 rfl)
  clear S8
  go_wp2_with fail
  refine (unhide C).mono ?_
  rintro e w12 ⟨rfl, al2, S12⟩
  replace S12 := hide S12
  clear C b0 b1 b2 b3 b4
  have C := hide (y_marker S12)
  go_wp2_with fail
  refine (unhide C).mono ?_
  rintro e w11 ⟨rfl, hw⟩
  rw [hw]
  clear C hw w11
  have C := hide (y_left S12)
  go_wp2_with fail
  refine (unhide C).mono ?_
  rintro e w11 ⟨rfl, hw⟩
  rw [hw]
  clear C hw w11
  have F := hide (unhide FIN _ (unhide S12).below)
  clear S12 FIN
  go_wp2_with fail
  go_ret
  exact ⟨rfl, unhide F⟩
set_option maxHeartbeats 2000000 in
set_option maxRecDepth 100000 in
theorem hs_01001 (w : World) (ht : Tab w) (CA : Hid (Calls Tryz.prog 6 #[] w fun e w' => e = .returned (.bool true) ∧ G w w')) : Calls Tryz.prog 5 #[.bool false, .bool true, .bool false, .bool false, .bool true] w fun e w' => e = .returned (.bool true) ∧ G w w' := by
  replace ht := hide ht
  go_enter Tryz.func5, Tryz.ntmps5
  go_wp2_with fail
  refine (unhide CA).mono ?_
  rintro e w0 ⟨rfl, g0⟩
  replace g0 := hide g0
  clear CA
  go_wp2_with fail
  refine (shapes14 _).mono ?_
  rintro e w1 ⟨rfl, hw1⟩
  have CN := hide (new14 w0 w1 hw1 (Tab.later (unhide ht) (unhide g0)))
  have g1 : Hid (G w w1) := hide ((unhide g0).trans (by rw [hw1]; exact G.alloc _ _))
  clear hw1 g0 ht
  go_wp2_with fail
  refine (unhide CN).mono ?_
  rintro e w2 ⟨x, rfl, ao, cap, nv, c, S0⟩
  have FIN : Hid (∀ y : World, Below w1.heap.size w1 y → G w y) := hide fun y b => Below.trans (unhide g1) (b.mono (unhide g1).size)
  have S1 := hide (S0.gr (G.alloc w2 (.cells #[] 65)))
  have C := hide (y_make1 false false S1)
  clear S0 CN g1
  go_wp2_with fail
  refine (unhide C _).mono ?_
  rintro e w3 ⟨rfl, S3⟩
  clear C S1
  have C := hide (y_make2 false false (hide S3))
  clear S3
  go_wp2_with fail
  refine (unhide C _).mono ?_
  rintro e w4 ⟨rfl, S4⟩
  clear C
  have C := hide (y_make3 false false (hide S4))
  clear S4
  go_wp2_with fail
  refine (unhide C _).mono ?_
  rintro e w5 ⟨rfl, S5⟩
  clear C
  go_upto_region 20 with fail
  have S6' := y_box S5
  obtain ⟨W6, hW6⟩ : ∃ W6, W6 = w5.alloc (.cells #[.pointer (some ⟨x.hb, 0, none⟩), .int .i64 64, .int .i64 1, .bool false, .bool true] 67) := ⟨_, rfl⟩
  have S6 : Hid (YS w1 x ao cap nv false false w5.heap.size 0 [] (yq3 false false) 0 W6) := hide (by rw [hW6]; exact S6')
  rw [← hW6]
  clear S6' S5 hW6
  have b0 : _ = some (Value.pointer (some ⟨x.hb, 0, none⟩)) := (unhide S6).box.b0
  have b1 : _ = some (Value.int .i64 64) := (unhide S6).box.b1
  have b2 : _ = some (Value.int .i64 1) := (unhide S6).box.b2
  have b3 : _ = some (Value.bool false) := (unhide S6).box.b3
  have b4 : _ = some (Value.bool true) := (unhide S6).box.b4
  have C := hide (y_do1 false false S6)
  clear S6
  go_wp2_with fail
  refine (unhide C).mono ?_
  rintro e w7 ⟨rfl, S7⟩
  replace S7 := hide S7
  clear C b0 b1 b2 b3 b4
  have C := hide (y_cycle S7)
  go_wp2_with fail
  refine (unhide C).mono ?_
  rintro e w9 ⟨rfl, hw9⟩
  rw [hw9]
  clear C hw9 w9
  have C := hide (y_start S7)
  go_wp2_with fail
  refine (unhide C _).mono ?_
  rintro e w8 ⟨rfl, S8⟩
  replace S8 := hide S8
  clear C S7
  have C := hide (y_marker S8)
  go_wp2_with fail
  refine (unhide C).mono ?_
  rintro e w11 ⟨rfl, hw⟩
  rw [hw]
  clear C hw w11
  have C := hide (y_left S8)
  go_wp2_with fail
  refine (unhide C).mono ?_
  rintro e w11 ⟨rfl, hw⟩
  rw [hw]
  clear C hw w11
  have b0 : _ = some (Value.pointer (some ⟨x.hb, 0, none⟩)) := (unhide S8).box.b0
  have b1 : _ = some (Value.int .i64 64) := (unhide S8).box.b1
  have b2 : _ = some (Value.int .i64 1) := (unhide S8).box.b2
  have b3 : _ = some (Value.bool false) := (unhide S8).box.b3
  have b4 : _ = some (Value.bool true) := (unhide S8).box.b4
  have C := hide (y_on true S8 2 rfl)
  clear S8
  go_wp2_with fail
  refine (unhide C).mono ?_
  rintro e w12 ⟨rfl, al2, S12⟩
  replace S12 := hide S12
  clear C b0 b1 b2 b3 b4
  have C := hide (y_marker S12)
  go_wp2_with fail
  refine (unhide C).mono ?_
  rintro e w11 ⟨rfl, hw⟩
  rw [hw]
  clear C hw w11
  have C := hide (y_left S12)
  go_wp2_with fail
  refine (unhide C).mono ?_
  rintro e w11 ⟨rfl, hw⟩
  rw [hw]
  clear C hw w11
  have F := hide (unhide FIN _ (unhide S12).below)
  clear S12 FIN
  go_wp2_with fail
  go_ret
  exact ⟨rfl, unhide F⟩
set_option maxHeartbeats 2000000 in
set_option maxRecDepth 100000 in
theorem hs_01011 (w : World) (ht : Tab w) (CA : Hid (Calls Tryz.prog 6 #[] w fun e w' => e = .returned (.bool true) ∧ G w w')) : Calls Tryz.prog 5 #[.bool false, .bool true, .bool false, .bool true, .bool true] w fun e w' => e = .returned (.bool true) ∧ G w w' := by
  replace ht := hide ht
  go_enter Tryz.func5, Tryz.ntmps5
  go_wp2_with fail
  refine (unhide CA).mono ?_
  rintro e w0 ⟨rfl, g0⟩
  replace g0 := hide g0
  clear CA
  go_wp2_with fail
  refine (shapes14 _).mono ?_
  rintro e w1 ⟨rfl, hw1⟩
  have CN := hide (new14 w0 w1 hw1 (Tab.later (unhide ht) (unhide g0)))
  have g1 : Hid (G w w1) := hide ((unhide g0).trans (by rw [hw1]; exact G.alloc _ _))
  clear hw1 g0 ht
  go_wp2_with fail
  refine (unhide CN).mono ?_
  rintro e w2 ⟨x, rfl, ao, cap, nv, c, S0⟩
  have FIN : Hid (∀ y : World, Below w1.heap.size w1 y → G w y) := hide fun y b => Below.trans (unhide g1) (b.mono (unhide g1).size)
  have S1 := hide (S0.gr (G.alloc w2 (.cells #[] 65)))
  have C := hide (y_make1 false true S1)
  clear S0 CN g1
  go_wp2_with fail
  refine (unhide C _).mono ?_
  rintro e w3 ⟨rfl, S3⟩
  clear C S1
  have C := hide (y_make2 false true (hide S3))
  clear S3
  go_wp2_with fail
  refine (unhide C _).mono ?_
  rintro e w4 ⟨rfl, S4⟩
  clear C
  have C := hide (y_make3 false true (hide S4))
  clear S4
  go_wp2_with fail
  refine (unhide C _).mono ?_
  rintro e w5 ⟨rfl, S5⟩
  clear C
  go_upto_region 20 with fail
  have S6' := y_box S5
  obtain ⟨W6, hW6⟩ : ∃ W6, W6 = w5.alloc (.cells #[.pointer (some ⟨x.hb, 0, none⟩), .int .i64 64, .int .i64 0, .bool false, .bool false] 67) := ⟨_, rfl⟩
  have S6 : Hid (YS w1 x ao cap nv false true w5.heap.size 0 [] (yq3 false true) 0 W6) := hide (by rw [hW6]; exact S6')
  rw [← hW6]
  clear S6' S5 hW6
  have b0 : _ = some (Value.pointer (some ⟨x.hb, 0, none⟩)) := (unhide S6).box.b0
  have b1 : _ = some (Value.int .i64 64) := (unhide S6).box.b1
  have b2 : _ = some (Value.int .i64 0) := (unhide S6).box.b2
  have b3 : _ = some (Value.bool false) := (unhide S6).box.b3
  have b4 : _ = some (Value.bool false) := (unhide S6).box.b4
  have C := hide (y_do1 false true S6)
  clear S6
  go_wp2_with fail
  refine (unhide C).mono ?_
  rintro e w7 ⟨rfl, S7⟩
  replace S7 := hide S7
  clear C b0 b1 b2 b3 b4
  have C := hide (y_cycle S7)
  go_wp2_with fail
  refine (unhide C).mono ?_
  rintro e w9 ⟨rfl, hw9⟩
  rw [hw9]
  clear C hw9 w9
  have C := hide (y_start S7)
  go_wp2_with fail
  refine (unhide C _).mono ?_
  rintro e w8 ⟨rfl, S8⟩
  replace S8 := hide S8
  clear C S7
  have C := hide (y_marker S8)
  go_wp2_with fail
  refine (unhide C).mono ?_
  rintro e w11 ⟨rfl, hw⟩
  rw [hw]
  clear C hw w11
  have C := hide (y_left S8)
  go_wp2_with fail
  refine (unhide C).mono ?_
  rintro e w11 ⟨rfl, hw⟩
  rw [hw]
  clear C hw w11
  have b0 : _ = some (Value.pointer (some ⟨x.hb, 0, none⟩)) := (unhide S8).box.b0
  have b1 : _ = some (Value.int .i64 64) := (unhide S8).box.b1
  have b2 : _ = some (Value.int .i64 0) := (unhide S8).box.b2
  have b3 : _ = some (Value.bool false) := (unhide S8).box.b3
  have b4 : _ = some (Value.bool false) := (unhide S8).box.b4
  have C := hide (y_on true S8 0 rfl)
  clear S8
  go_wp2_with fail
  refine (unhide C).mono ?_
  rintro e w12 ⟨rfl, al2, S12⟩
  replace S12 := hide S12
  clear C b0 b1 b2 b3 b4
  have C := hide (y_marker S12)
  go_wp2_with fail
  refine (unhide C).mono ?_
  rintro e w11 ⟨rfl, hw⟩
  rw [hw]
  clear C hw w11
  have C := hide (y_left S12)
  go_wp2_with fail
  refine (unhide C).mono ?_
  rintro e w11 ⟨rfl, hw⟩
  rw [hw]
  clear C hw w11
  have F := hide (unhide FIN _ (unhide S12).below)
  clear S12 FIN
  go_wp2_with fail
  go_ret
  exact ⟨rfl, unhide F⟩
set_option maxHeartbeats 2000000 in
set_option maxRecDepth 100000 in
theorem hs_01101 (w : World) (ht : Tab w) (CA : Hid (Calls Tryz.prog 6 #[] w fun e w' => e = .returned (.bool true) ∧ G w w')) : Calls Tryz.prog 5 #[.bool false, .bool true, .bool true, .bool false, .bool true] w fun e w' => e = .returned (.bool true) ∧ G w w' := by
  replace ht := hide ht
  go_enter Tryz.func5, Tryz.ntmps5
  go_wp2_with fail
  refine (unhide CA).mono ?_
  rintro e w0 ⟨rfl, g0⟩
  replace g0 := hide g0
  clear CA
  go_wp2_with fail
  refine (shapes14 _).mono ?_
  rintro e w1 ⟨rfl, hw1⟩
  have CN := hide (new14 w0 w1 hw1 (Tab.later (unhide ht) (unhide g0)))
  have g1 : Hid (G w w1) := hide ((unhide g0).trans (by rw [hw1]; exact G.alloc _ _))
  clear hw1 g0 ht
  go_wp2_with fail
  refine (unhide CN).mono ?_
  rintro e w2 ⟨x, rfl, ao, cap, nv, c, S0⟩
  have FIN : Hid (∀ y : World, Below w1.heap.size w1 y → G w y) := hide fun y b => Below.trans (unhide g1) (b.mono (unhide g1).size)
  have S1 := hide (S0.gr (G.alloc w2 (.cells #[] 65)))
  have C := hide (y_make1 true false S1)
  clear S0 CN g1
  go_wp2_with fail
  refine (unhide C _).mono ?_
  rintro e w3 ⟨rfl, S3⟩
  clear C S1
  have C := hide (y_make2 true false (hide S3))
  clear S3
  go_wp2_with fail
  refine (unhide C _).mono ?_
  rintro e w4 ⟨rfl, S4⟩
  clear C
  have C := hide (y_make3 true false (hide S4))
  clear S4
  go_wp2_with fail
  refine (unhide C _).mono ?_
  rintro e w5 ⟨rfl, S5⟩
  clear C
  go_upto_region 20 with fail
  have S6' := y_box S5
  obtain ⟨W6, hW6⟩ : ∃ W6, W6 = w5.alloc (.cells #[.pointer (some ⟨x.hb, 0, none⟩), .int .i64 64, .int .i64 2, .bool true, .bool true] 67) := ⟨_, rfl⟩
  have S6 : Hid (YS w1 x ao cap nv true false w5.heap.size 0 [] (yq3 true false) 0 W6) := hide (by rw [hW6]; exact S6')
  rw [← hW6]
  clear S6' S5 hW6
  have b0 : _ = some (Value.pointer (some ⟨x.hb, 0, none⟩)) := (unhide S6).box.b0
  have b1 : _ = some (Value.int .i64 64) := (unhide S6).box.b1
  have b2 : _ = some (Value.int .i64 2) := (unhide S6).box.b2
  have b3 : _ = some (Value.bool true) := (unhide S6).box.b3
  have b4 : _ = some (Value.bool true) := (unhide S6).box.b4
  have C := hide (y_do1 true false S6)
  clear S6
  go_wp2_with fail
  refine (unhide C).mono ?_
  rintro e w7 ⟨rfl, S7⟩
  replace S7 := hide S7
  clear C b0 b1 b2 b3 b4
  have C := hide (y_cycle S7)
  go_wp2_with fail
  refine (unhide C).mono ?_
  rintro e w9 ⟨rfl, hw9⟩
  rw [hw9]
  clear C hw9 w9
  have C := hide (y_start S7)
  go_wp2_with fail
  refine (unhide C _).mono ?_
  rintro e w8 ⟨rfl, S8⟩
  replace S8 := hide S8
  clear C S7
  have C := hide (y_marker S8)
  go_wp2_with fail
  refine (unhide C).mono ?_
  rintro e w11 ⟨rfl, hw⟩
  rw [hw]
  clear C hw w11
  have C := hide (y_left S8)
  go_wp2_with fail
  refine (unhide C).mono ?_
  rintro e w11 ⟨rfl, hw⟩
  rw [hw]
  clear C hw w11
  have b0 : _ = some (Value.pointer (some ⟨x.hb, 0, none⟩)) := (unhide S8).box.b0
  have b1 : _ = some (Value.int .i64 64) := (unhide S8).box.b1
  have b2 : _ = some (Value.int .i64 2) := (unhide S8).box.b2
  have b3 : _ = some (Value.bool true) := (unhide S8).box.b3
  have b4 : _ = some (Value.bool true) := (unhide S8).box.b4
  have C := hide (y_on true S8 2 rfl)
  clear S8
  go_wp2_with fail
  refine (unhide C).mono ?_
  rintro e w12 ⟨rfl, al2, S12⟩
  replace S12 := hide S12
  clear C b0 b1 b2 b3 b4
  have C := hide (y_marker S12)
  go_wp2_with fail
  refine (unhide C).mono ?_
  rintro e w11 ⟨rfl, hw⟩
  rw [hw]
  clear C hw w11
  have C := hide (y_left S12)
  go_wp2_with fail
  refine (unhide C).mono ?_
  rintro e w11 ⟨rfl, hw⟩
  rw [hw]
  clear C hw w11
  have F := hide (unhide FIN _ (unhide S12).below)
  clear S12 FIN
  go_wp2_with fail
  go_ret
  exact ⟨rfl, unhide F⟩
set_option maxHeartbeats 2000000 in
set_option maxRecDepth 100000 in
theorem hs_01111 (w : World) (ht : Tab w) (CA : Hid (Calls Tryz.prog 6 #[] w fun e w' => e = .returned (.bool true) ∧ G w w')) : Calls Tryz.prog 5 #[.bool false, .bool true, .bool true, .bool true, .bool true] w fun e w' => e = .returned (.bool true) ∧ G w w' := by
  replace ht := hide ht
  go_enter Tryz.func5, Tryz.ntmps5
  go_wp2_with fail
  refine (unhide CA).mono ?_
  rintro e w0 ⟨rfl, g0⟩
  replace g0 := hide g0
  clear CA
  go_wp2_with fail
  refine (shapes14 _).mono ?_
  rintro e w1 ⟨rfl, hw1⟩
  have CN := hide (new14 w0 w1 hw1 (Tab.later (unhide ht) (unhide g0)))
  have g1 : Hid (G w w1) := hide ((unhide g0).trans (by rw [hw1]; exact G.alloc _ _))
  clear hw1 g0 ht
  go_wp2_with fail
  refine (unhide CN).mono ?_
  rintro e w2 ⟨x, rfl, ao, cap, nv, c, S0⟩
  have FIN : Hid (∀ y : World, Below w1.heap.size w1 y → G w y) := hide fun y b => Below.trans (unhide g1) (b.mono (unhide g1).size)
  have S1 := hide (S0.gr (G.alloc w2 (.cells #[] 65)))
  have C := hide (y_make1 true true S1)
  clear S0 CN g1
  go_wp2_with fail
  refine (unhide C _).mono ?_
  rintro e w3 ⟨rfl, S3⟩
  clear C S1
  have C := hide (y_make2 true true (hide S3))
  clear S3
  go_wp2_with fail
  refine (unhide C _).mono ?_
  rintro e w4 ⟨rfl, S4⟩
  clear C
  have C := hide (y_make3 true true (hide S4))
  clear S4
  go_wp2_with fail
  refine (unhide C _).mono ?_
  rintro e w5 ⟨rfl, S5⟩
  clear C
  go_upto_region 20 with fail
  have S6' := y_box S5
  obtain ⟨W6, hW6⟩ : ∃ W6, W6 = w5.alloc (.cells #[.pointer (some ⟨x.hb, 0, none⟩), .int .i64 64, .int .i64 0, .bool true, .bool false] 67) := ⟨_, rfl⟩
  have S6 : Hid (YS w1 x ao cap nv true true w5.heap.size 0 [] (yq3 true true) 0 W6) := hide (by rw [hW6]; exact S6')
  rw [← hW6]
  clear S6' S5 hW6
  have b0 : _ = some (Value.pointer (some ⟨x.hb, 0, none⟩)) := (unhide S6).box.b0
  have b1 : _ = some (Value.int .i64 64) := (unhide S6).box.b1
  have b2 : _ = some (Value.int .i64 0) := (unhide S6).box.b2
  have b3 : _ = some (Value.bool true) := (unhide S6).box.b3
  have b4 : _ = some (Value.bool false) := (unhide S6).box.b4
  have C := hide (y_do1 true true S6)
  clear S6
  go_wp2_with fail
  refine (unhide C).mono ?_
  rintro e w7 ⟨rfl, S7⟩
  replace S7 := hide S7
  clear C b0 b1 b2 b3 b4
  have C := hide (y_cycle S7)
  go_wp2_with fail
  refine (unhide C).mono ?_
  rintro e w9 ⟨rfl, hw9⟩
  rw [hw9]
  clear C hw9 w9
  have C := hide (y_start S7)
  go_wp2_with fail
  refine (unhide C _).mono ?_
  rintro e w8 ⟨rfl, S8⟩
  replace S8 := hide S8
  clear C S7
  have C := hide (y_marker S8)
  go_wp2_with fail
  refine (unhide C).mono ?_
  rintro e w11 ⟨rfl, hw⟩
  rw [hw]
  clear C hw w11
  have C := hide (y_left S8)
  go_wp2_with fail
  refine (unhide C).mono ?_
  rintro e w11 ⟨rfl, hw⟩
  rw [hw]
  clear C hw w11
  have b0 : _ = some (Value.pointer (some ⟨x.hb, 0, none⟩)) := (unhide S8).box.b0
  have b1 : _ = some (Value.int .i64 64) := (unhide S8).box.b1
  have b2 : _ = some (Value.int .i64 0) := (unhide S8).box.b2
  have b3 : _ = some (Value.bool true) := (unhide S8).box.b3
  have b4 : _ = some (Value.bool false) := (unhide S8).box.b4
  have C := hide (y_on true S8 0 rfl)
  clear S8
  go_wp2_with fail
  refine (unhide C).mono ?_
  rintro e w12 ⟨rfl, al2, S12⟩
  replace S12 := hide S12
  clear C b0 b1 b2 b3 b4
  have C := hide (y_marker S12)
  go_wp2_with fail
  refine (unhide C).mono ?_
  rintro e w11 ⟨rfl, hw⟩
  rw [hw]
  clear C hw w11
  have C := hide (y_left S12)
  go_wp2_with fail
  refine (unhide C).mono ?_
  rintro e w11 ⟨rfl, hw⟩
  rw [hw]
  clear C hw w11
  have F := hide (unhide FIN _ (unhide S12).below)
  clear S12 FIN
  go_wp2_with fail
  go_ret
  exact ⟨rfl, unhide F⟩
set_option maxHeartbeats 2000000 in
set_option maxRecDepth 100000 in
theorem hs_10001 (w : World) (ht : Tab w) (CA : Hid (Calls Tryz.prog 6 #[] w fun e w' => e = .returned (.bool true) ∧ G w w')) : Calls Tryz.prog 5 #[.bool true, .bool false, .bool false, .bool false, .bool true] w fun e w' => e = .returned (.bool true) ∧ G w w' := by
  replace ht := hide ht
  go_enter Tryz.func5, Tryz.ntmps5
  go_wp2_with fail
  refine (unhide CA).mono ?_
  rintro e w0 ⟨rfl, g0⟩
  replace g0 := hide g0
  clear CA
  go_wp2_with fail
  refine (shapes14 _).mono ?_
  rintro e w1 ⟨rfl, hw1⟩
  have CN := hide (new14 w0 w1 hw1 (Tab.later (unhide ht) (unhide g0)))
  have g1 : Hid (G w w1) := hide ((unhide g0).trans (by rw [hw1]; exact G.alloc _ _))
  clear hw1 g0 ht
  go_wp2_with fail
  refine (unhide CN).mono ?_
  rintro e w2 ⟨x, rfl, ao, cap, nv, c, S0⟩
  have FIN : Hid (∀ y : World, Below w1.heap.size w1 y → G w y) := hide fun y b => Below.trans (unhide g1) (b.mono (unhide g1).size)
  have S1 := hide (S0.gr (G.alloc w2 (.cells #[] 65)))
  have C := hide (y_make1 false false S1)
  clear S0 CN g1
  go_wp2_with fail
  refine (unhide C _).mono ?_
  rintro e w3 ⟨rfl, S3⟩
  clear C S1
  have C := hide (y_make2 false false (hide S3))
  clear S3
  go_wp2_with fail
  refine (unhide C _).mono ?_
  rintro e w4 ⟨rfl, S4⟩
  clear C
  have C := hide (y_make3 false false (hide S4))
  clear S4
  go_wp2_with fail
  refine (unhide C _).mono ?_
  rintro e w5 ⟨rfl, S5⟩
  clear C
  go_upto_region 20 with fail
  have S6' := y_box S5
  obtain ⟨W6, hW6⟩ : ∃ W6, W6 = w5.alloc (.cells #[.pointer (some ⟨x.hb, 0, none⟩), .int .i64 64, .int .i64 1, .bool false, .bool true] 67) := ⟨_, rfl⟩
  have S6 : Hid (YS w1 x ao cap nv false false w5.heap.size 0 [] (yq3 false false) 0 W6) := hide (by rw [hW6]; exact S6')
  rw [← hW6]
  clear S6' S5 hW6
  have b0 : _ = some (Value.pointer (some ⟨x.hb, 0, none⟩)) := (unhide S6).box.b0
  have b1 : _ = some (Value.int .i64 64) := (unhide S6).box.b1
  have b2 : _ = some (Value.int .i64 1) := (unhide S6).box.b2
  have b3 : _ = some (Value.bool false) := (unhide S6).box.b3
  have b4 : _ = some (Value.bool true) := (unhide S6).box.b4
  have C := hide (y_do1 false false S6)
  clear S6
  go_wp2_with fail
  refine (unhide C).mono ?_
  rintro e w7 ⟨rfl, S7⟩
  replace S7 := hide S7
  clear C b0 b1 b2 b3 b4
  have C := hide (y_cycle S7)
  go_wp2_with fail
  refine (unhide C).mono ?_
  rintro e w9 ⟨rfl, hw9⟩
  rw [hw9]
  clear C hw9 w9
  have C := hide (y_start S7)
  go_wp2_with fail
  refine (unhide C _).mono ?_
  rintro e w8 ⟨rfl, S8⟩
  replace S8 := hide S8
  clear C S7
  have C := hide (y_scan S8)
  go_wp2_with fail
  refine (unhide C _).mono ?_
  rintro e w8' ⟨rfl, S9⟩
  replace S9 := hide S9
  clear C S8
  have C := hide (y_marker S9)
  go_wp2_with fail
  refine (unhide C).mono ?_
  rintro e w11 ⟨rfl, hw⟩
  rw [hw]
  clear C hw w11
  have C := hide (y_left S9)
  go_wp2_with fail
  refine (unhide C).mono ?_
  rintro e w11 ⟨rfl, hw⟩
  rw [hw]
  clear C hw w11
  have b0 : _ = some (Value.pointer (some ⟨x.hb, 0, none⟩)) := (unhide S9).box.b0
  have b1 : _ = some (Value.int .i64 64) := (unhide S9).box.b1
  have b2 : _ = some (Value.int .i64 1) := (unhide S9).box.b2
  have b3 : _ = some (Value.bool false) := (unhide S9).box.b3
  have b4 : _ = some (Value.bool true) := (unhide S9).box.b4
  have C := hide (y_blk false S9 0 rfl)
  clear S9
  go_wp2_with fail
  refine (unhide C).mono ?_
  rintro e w12 ⟨rfl, al2, S12⟩
  replace S12 := hide S12
  clear C b0 b1 b2 b3 b4
  have C := hide (y_marker S12)
  go_wp2_with fail
  refine (unhide C).mono ?_
  rintro e w11 ⟨rfl, hw⟩
  rw [hw]
  clear C hw w11
  have C := hide (y_left S12)
  go_wp2_with fail
  refine (unhide C).mono ?_
  rintro e w11 ⟨rfl, hw⟩
  rw [hw]
  clear C hw w11
  have F := hide (unhide FIN _ (unhide S12).below)
  clear S12 FIN
  go_wp2_with fail
  go_ret
  exact ⟨rfl, unhide F⟩
set_option maxHeartbeats 2000000 in
set_option maxRecDepth 100000 in
theorem hs_10011 (w : World) (ht : Tab w) (CA : Hid (Calls Tryz.prog 6 #[] w fun e w' => e = .returned (.bool true) ∧ G w w')) : Calls Tryz.prog 5 #[.bool true, .bool false, .bool false, .bool true, .bool true] w fun e w' => e = .returned (.bool true) ∧ G w w' := by
  replace ht := hide ht
  go_enter Tryz.func5, Tryz.ntmps5
  go_wp2_with fail
  refine (unhide CA).mono ?_
  rintro e w0 ⟨rfl, g0⟩
  replace g0 := hide g0
  clear CA
  go_wp2_with fail
  refine (shapes14 _).mono ?_
  rintro e w1 ⟨rfl, hw1⟩
  have CN := hide (new14 w0 w1 hw1 (Tab.later (unhide ht) (unhide g0)))
  have g1 : Hid (G w w1) := hide ((unhide g0).trans (by rw [hw1]; exact G.alloc _ _))
  clear hw1 g0 ht
  go_wp2_with fail
  refine (unhide CN).mono ?_
  rintro e w2 ⟨x, rfl, ao, cap, nv, c, S0⟩
  have FIN : Hid (∀ y : World, Below w1.heap.size w1 y → G w y) := hide fun y b => Below.trans (unhide g1) (b.mono (unhide g1).size)
  have S1 := hide (S0.gr (G.alloc w2 (.cells #[] 65)))
  have C := hide (y_make1 false true S1)
  clear S0 CN g1
  go_wp2_with fail
  refine (unhide C _).mono ?_
  rintro e w3 ⟨rfl, S3⟩
  clear C S1
  have C := hide (y_make2 false true (hide S3))
  clear S3
  go_wp2_with fail
  refine (unhide C _).mono ?_
  rintro e w4 ⟨rfl, S4⟩
  clear C
  have C := hide (y_make3 false true (hide S4))
  clear S4
  go_wp2_with fail
  refine (unhide C _).mono ?_
  rintro e w5 ⟨rfl, S5⟩
  clear C
  go_upto_region 20 with fail
  have S6' := y_box S5
  obtain ⟨W6, hW6⟩ : ∃ W6, W6 = w5.alloc (.cells #[.pointer (some ⟨x.hb, 0, none⟩), .int .i64 64, .int .i64 0, .bool false, .bool false] 67) := ⟨_, rfl⟩
  have S6 : Hid (YS w1 x ao cap nv false true w5.heap.size 0 [] (yq3 false true) 0 W6) := hide (by rw [hW6]; exact S6')
  rw [← hW6]
  clear S6' S5 hW6
  have b0 : _ = some (Value.pointer (some ⟨x.hb, 0, none⟩)) := (unhide S6).box.b0
  have b1 : _ = some (Value.int .i64 64) := (unhide S6).box.b1
  have b2 : _ = some (Value.int .i64 0) := (unhide S6).box.b2
  have b3 : _ = some (Value.bool false) := (unhide S6).box.b3
  have b4 : _ = some (Value.bool false) := (unhide S6).box.b4
  have C := hide (y_do1 false true S6)
  clear S6
  go_wp2_with fail
  refine (unhide C).mono ?_
  rintro e w7 ⟨rfl, S7⟩
  replace S7 := hide S7
  clear C b0 b1 b2 b3 b4
  have C := hide (y_cycle S7)
  go_wp2_with fail
  refine (unhide C).mono ?_
  rintro e w9 ⟨rfl, hw9⟩
  rw [hw9]
  clear C hw9 w9
  have C := hide (y_start S7)
  go_wp2_with fail
  refine (unhide C _).mono ?_
  rintro e w8 ⟨rfl, S8⟩
  replace S8 := hide S8
  clear C S7
  have C := hide (y_scan S8)
  go_wp2_with fail
  refine (unhide C _).mono ?_
  rintro e w8' ⟨rfl, S9⟩
  replace S9 := hide S9
  clear C S8
  have C := hide (y_marker S9)
  go_wp2_with fail
  refine (unhide C).mono ?_
  rintro e w11 ⟨rfl, hw⟩
  rw [hw]
  clear C hw w11
  have C := hide (y_left S9)
  go_wp2_with fail
  refine (unhide C).mono ?_
  rintro e w11 ⟨rfl, hw⟩
  rw [hw]
  clear C hw w11
  have b0 : _ = some (Value.pointer (some ⟨x.hb, 0, none⟩)) := (unhide S9).box.b0
  have b1 : _ = some (Value.int .i64 64) := (unhide S9).box.b1
  have b2 : _ = some (Value.int .i64 0) := (unhide S9).box.b2
  have b3 : _ = some (Value.bool false) := (unhide S9).box.b3
  have b4 : _ = some (Value.bool false) := (unhide S9).box.b4
  have C := hide (y_blk false S9 0 rfl)
  clear S9
  go_wp2_with fail
  refine (unhide C).mono ?_
  rintro e w12 ⟨rfl, al2, S12⟩
  replace S12 := hide S12
  clear C b0 b1 b2 b3 b4
  have C := hide (y_marker S12)
  go_wp2_with fail
  refine (unhide C).mono ?_
  rintro e w11 ⟨rfl, hw⟩
  rw [hw]
  clear C hw w11
  have C := hide (y_left S12)
  go_wp2_with fail
  refine (unhide C).mono ?_
  rintro e w11 ⟨rfl, hw⟩
  rw [hw]
  clear C hw w11
  have F := hide (unhide FIN _ (unhide S12).below)
  clear S12 FIN
  go_wp2_with fail
  go_ret
  exact ⟨rfl, unhide F⟩
set_option maxHeartbeats 2000000 in
set_option maxRecDepth 100000 in
theorem hs_10101 (w : World) (ht : Tab w) (CA : Hid (Calls Tryz.prog 6 #[] w fun e w' => e = .returned (.bool true) ∧ G w w')) : Calls Tryz.prog 5 #[.bool true, .bool false, .bool true, .bool false, .bool true] w fun e w' => e = .returned (.bool true) ∧ G w w' := by
  replace ht := hide ht
  go_enter Tryz.func5, Tryz.ntmps5
  go_wp2_with fail
  refine (unhide CA).mono ?_
  rintro e w0 ⟨rfl, g0⟩
  replace g0 := hide g0
  clear CA
  go_wp2_with fail
  refine (shapes14 _).mono ?_
  rintro e w1 ⟨rfl, hw1⟩
  have CN := hide (new14 w0 w1 hw1 (Tab.later (unhide ht) (unhide g0)))
  have g1 : Hid (G w w1) := hide ((unhide g0).trans (by rw [hw1]; exact G.alloc _ _))
  clear hw1 g0 ht
  go_wp2_with fail
  refine (unhide CN).mono ?_
  rintro e w2 ⟨x, rfl, ao, cap, nv, c, S0⟩
  have FIN : Hid (∀ y : World, Below w1.heap.size w1 y → G w y) := hide fun y b => Below.trans (unhide g1) (b.mono (unhide g1).size)
  have S1 := hide (S0.gr (G.alloc w2 (.cells #[] 65)))
  have C := hide (y_make1 true false S1)
  clear S0 CN g1
  go_wp2_with fail
  refine (unhide C _).mono ?_
  rintro e w3 ⟨rfl, S3⟩
  clear C S1
  have C := hide (y_make2 true false (hide S3))
  clear S3
  go_wp2_with fail
  refine (unhide C _).mono ?_
  rintro e w4 ⟨rfl, S4⟩
  clear C
  have C := hide (y_make3 true false (hide S4))
  clear S4
  go_wp2_with fail
  refine (unhide C _).mono ?_
  rintro e w5 ⟨rfl, S5⟩
  clear C
  go_upto_region 20 with fail
  have S6' := y_box S5
  obtain ⟨W6, hW6⟩ : ∃ W6, W6 = w5.alloc (.cells #[.pointer (some ⟨x.hb, 0, none⟩), .int .i64 64, .int .i64 2, .bool true, .bool true] 67) := ⟨_, rfl⟩
  have S6 : Hid (YS w1 x ao cap nv true false w5.heap.size 0 [] (yq3 true false) 0 W6) := hide (by rw [hW6]; exact S6')
  rw [← hW6]
  clear S6' S5 hW6
  have b0 : _ = some (Value.pointer (some ⟨x.hb, 0, none⟩)) := (unhide S6).box.b0
  have b1 : _ = some (Value.int .i64 64) := (unhide S6).box.b1
  have b2 : _ = some (Value.int .i64 2) := (unhide S6).box.b2
  have b3 : _ = some (Value.bool true) := (unhide S6).box.b3
  have b4 : _ = some (Value.bool true) := (unhide S6).box.b4
  have C := hide (y_do1 true false S6)
  clear S6
  go_wp2_with fail
  refine (unhide C).mono ?_
  rintro e w7 ⟨rfl, S7⟩
  replace S7 := hide S7
  clear C b0 b1 b2 b3 b4
  have C := hide (y_cycle S7)
  go_wp2_with fail
  refine (unhide C).mono ?_
  rintro e w9 ⟨rfl, hw9⟩
  rw [hw9]
  clear C hw9 w9
  have C := hide (y_start S7)
  go_wp2_with fail
  refine (unhide C _).mono ?_
  rintro e w8 ⟨rfl, S8⟩
  replace S8 := hide S8
  clear C S7
  have C := hide (y_scan S8)
  go_wp2_with fail
  refine (unhide C _).mono ?_
  rintro e w8' ⟨rfl, S9⟩
  replace S9 := hide S9
  clear C S8
  have C := hide (y_marker S9)
  go_wp2_with fail
  refine (unhide C).mono ?_
  rintro e w11 ⟨rfl, hw⟩
  rw [hw]
  clear C hw w11
  have C := hide (y_left S9)
  go_wp2_with fail
  refine (unhide C).mono ?_
  rintro e w11 ⟨rfl, hw⟩
  rw [hw]
  clear C hw w11
  have b0 : _ = some (Value.pointer (some ⟨x.hb, 0, none⟩)) := (unhide S9).box.b0
  have b1 : _ = some (Value.int .i64 64) := (unhide S9).box.b1
  have b2 : _ = some (Value.int .i64 2) := (unhide S9).box.b2
  have b3 : _ = some (Value.bool true) := (unhide S9).box.b3
  have b4 : _ = some (Value.bool true) := (unhide S9).box.b4
  have C := hide (y_blk false S9 0 rfl)
  clear S9
  go_wp2_with fail
  refine (unhide C).mono ?_
  rintro e w12 ⟨rfl, al2, S12⟩
  replace S12 := hide S12
  clear C b0 b1 b2 b3 b4
  have C := hide (y_marker S12)
  go_wp2_with fail
  refine (unhide C).mono ?_
  rintro e w11 ⟨rfl, hw⟩
  rw [hw]
  clear C hw w11
  have C := hide (y_left S12)
  go_wp2_with fail
  refine (unhide C).mono ?_
  rintro e w11 ⟨rfl, hw⟩
  rw [hw]
  clear C hw w11
  have F := hide (unhide FIN _ (unhide S12).below)
  clear S12 FIN
  go_wp2_with fail
  go_ret
  exact ⟨rfl, unhide F⟩
set_option maxHeartbeats 2000000 in
set_option maxRecDepth 100000 in
theorem hs_10111 (w : World) (ht : Tab w) (CA : Hid (Calls Tryz.prog 6 #[] w fun e w' => e = .returned (.bool true) ∧ G w w')) : Calls Tryz.prog 5 #[.bool true, .bool false, .bool true, .bool true, .bool true] w fun e w' => e = .returned (.bool true) ∧ G w w' := by
  replace ht := hide ht
  go_enter Tryz.func5, Tryz.ntmps5
  go_wp2_with fail
  refine (unhide CA).mono ?_
  rintro e w0 ⟨rfl, g0⟩
  replace g0 := hide g0
  clear CA
  go_wp2_with fail
  refine (shapes14 _).mono ?_
  rintro e w1 ⟨rfl, hw1⟩
  have CN := hide (new14 w0 w1 hw1 (Tab.later (unhide ht) (unhide g0)))
  have g1 : Hid (G w w1) := hide ((unhide g0).trans (by rw [hw1]; exact G.alloc _ _))
  clear hw1 g0 ht
  go_wp2_with fail
  refine (unhide CN).mono ?_
  rintro e w2 ⟨x, rfl, ao, cap, nv, c, S0⟩
  have FIN : Hid (∀ y : World, Below w1.heap.size w1 y → G w y) := hide fun y b => Below.trans (unhide g1) (b.mono (unhide g1).size)
  have S1 := hide (S0.gr (G.alloc w2 (.cells #[] 65)))
  have C := hide (y_make1 true true S1)
  clear S0 CN g1
  go_wp2_with fail
  refine (unhide C _).mono ?_
  rintro e w3 ⟨rfl, S3⟩
  clear C S1
  have C := hide (y_make2 true true (hide S3))
  clear S3
  go_wp2_with fail
  refine (unhide C _).mono ?_
  rintro e w4 ⟨rfl, S4⟩
  clear C
  have C := hide (y_make3 true true (hide S4))
  clear S4
  go_wp2_with fail
  refine (unhide C _).mono ?_
  rintro e w5 ⟨rfl, S5⟩
  clear C
  go_upto_region 20 with fail
  have S6' := y_box S5
  obtain ⟨W6, hW6⟩ : ∃ W6, W6 = w5.alloc (.cells #[.pointer (some ⟨x.hb, 0, none⟩), .int .i64 64, .int .i64 0, .bool true, .bool false] 67) := ⟨_, rfl⟩
  have S6 : Hid (YS w1 x ao cap nv true true w5.heap.size 0 [] (yq3 true true) 0 W6) := hide (by rw [hW6]; exact S6')
  rw [← hW6]
  clear S6' S5 hW6
  have b0 : _ = some (Value.pointer (some ⟨x.hb, 0, none⟩)) := (unhide S6).box.b0
  have b1 : _ = some (Value.int .i64 64) := (unhide S6).box.b1
  have b2 : _ = some (Value.int .i64 0) := (unhide S6).box.b2
  have b3 : _ = some (Value.bool true) := (unhide S6).box.b3
  have b4 : _ = some (Value.bool false) := (unhide S6).box.b4
  have C := hide (y_do1 true true S6)
  clear S6
  go_wp2_with fail
  refine (unhide C).mono ?_
  rintro e w7 ⟨rfl, S7⟩
  replace S7 := hide S7
  clear C b0 b1 b2 b3 b4
  have C := hide (y_cycle S7)
  go_wp2_with fail
  refine (unhide C).mono ?_
  rintro e w9 ⟨rfl, hw9⟩
  rw [hw9]
  clear C hw9 w9
  have C := hide (y_start S7)
  go_wp2_with fail
  refine (unhide C _).mono ?_
  rintro e w8 ⟨rfl, S8⟩
  replace S8 := hide S8
  clear C S7
  have C := hide (y_scan S8)
  go_wp2_with fail
  refine (unhide C _).mono ?_
  rintro e w8' ⟨rfl, S9⟩
  replace S9 := hide S9
  clear C S8
  have C := hide (y_marker S9)
  go_wp2_with fail
  refine (unhide C).mono ?_
  rintro e w11 ⟨rfl, hw⟩
  rw [hw]
  clear C hw w11
  have C := hide (y_left S9)
  go_wp2_with fail
  refine (unhide C).mono ?_
  rintro e w11 ⟨rfl, hw⟩
  rw [hw]
  clear C hw w11
  have b0 : _ = some (Value.pointer (some ⟨x.hb, 0, none⟩)) := (unhide S9).box.b0
  have b1 : _ = some (Value.int .i64 64) := (unhide S9).box.b1
  have b2 : _ = some (Value.int .i64 0) := (unhide S9).box.b2
  have b3 : _ = some (Value.bool true) := (unhide S9).box.b3
  have b4 : _ = some (Value.bool false) := (unhide S9).box.b4
  have C := hide (y_blk false S9 0 rfl)
  clear S9
  go_wp2_with fail
  refine (unhide C).mono ?_
  rintro e w12 ⟨rfl, al2, S12⟩
  replace S12 := hide S12
  clear C b0 b1 b2 b3 b4
  have C := hide (y_marker S12)
  go_wp2_with fail
  refine (unhide C).mono ?_
  rintro e w11 ⟨rfl, hw⟩
  rw [hw]
  clear C hw w11
  have C := hide (y_left S12)
  go_wp2_with fail
  refine (unhide C).mono ?_
  rintro e w11 ⟨rfl, hw⟩
  rw [hw]
  clear C hw w11
  have F := hide (unhide FIN _ (unhide S12).below)
  clear S12 FIN
  go_wp2_with fail
  go_ret
  exact ⟨rfl, unhide F⟩
set_option maxHeartbeats 2000000 in
set_option maxRecDepth 100000 in
theorem hs_11001 (w : World) (ht : Tab w) (CA : Hid (Calls Tryz.prog 6 #[] w fun e w' => e = .returned (.bool true) ∧ G w w')) : Calls Tryz.prog 5 #[.bool true, .bool true, .bool false, .bool false, .bool true] w fun e w' => e = .returned (.bool true) ∧ G w w' := by
  replace ht := hide ht
  go_enter Tryz.func5, Tryz.ntmps5
  go_wp2_with fail
  refine (unhide CA).mono ?_
  rintro e w0 ⟨rfl, g0⟩
  replace g0 := hide g0
  clear CA
  go_wp2_with fail
  refine (shapes14 _).mono ?_
  rintro e w1 ⟨rfl, hw1⟩
  have CN := hide (new14 w0 w1 hw1 (Tab.later (unhide ht) (unhide g0)))
  have g1 : Hid (G w w1) := hide ((unhide g0).trans (by rw [hw1]; exact G.alloc _ _))
  clear hw1 g0 ht
  go_wp2_with fail
  refine (unhide CN).mono ?_
  rintro e w2 ⟨x, rfl, ao, cap, nv, c, S0⟩
  have FIN : Hid (∀ y : World, Below w1.heap.size w1 y → G w y) := hide fun y b => Below.trans (unhide g1) (b.mono (unhide g1).size)
  have S1 := hide (S0.gr (G.alloc w2 (.cells #[] 65)))
  have C := hide (y_make1 false false S1)
  clear S0 CN g1
  go_wp2_with fail
  refine (unhide C _).mono ?_
  rintro e w3 ⟨rfl, S3⟩
  clear C S1
  have C := hide (y_make2 false false (hide S3))
  clear S3
  go_wp2_with fail
  refine (unhide C _).mono ?_
  rintro e w4 ⟨rfl, S4⟩
  clear C
  have C := hide (y_make3 false false (hide S4))
  clear S4
  go_wp2_with fail
  refine (unhide C _).mono ?_
  rintro e w5 ⟨rfl, S5⟩
  clear C
  go_upto_region 20 with fail
  have S6' := y_box S5
  obtain ⟨W6, hW6⟩ : ∃ W6, W6 = w5.alloc (.cells #[.pointer (some ⟨x.hb, 0, none⟩), .int .i64 64, .int .i64 1, .bool false, .bool true] 67) := ⟨_, rfl⟩
  have S6 : Hid (YS w1 x ao cap nv false false w5.heap.size 0 [] (yq3 false false) 0 W6) := hide (by rw [hW6]; exact S6')
  rw [← hW6]
  clear S6' S5 hW6
  have b0 : _ = some (Value.pointer (some ⟨x.hb, 0, none⟩)) := (unhide S6).box.b0
  have b1 : _ = some (Value.int .i64 64) := (unhide S6).box.b1
  have b2 : _ = some (Value.int .i64 1) := (unhide S6).box.b2
  have b3 : _ = some (Value.bool false) := (unhide S6).box.b3
  have b4 : _ = some (Value.bool true) := (unhide S6).box.b4
  have C := hide (y_do1 false false S6)
  clear S6
  go_wp2_with fail
  refine (unhide C).mono ?_
  rintro e w7 ⟨rfl, S7⟩
  replace S7 := hide S7
  clear C b0 b1 b2 b3 b4
  have C := hide (y_cycle S7)
  go_wp2_with fail
  refine (unhide C).mono ?_
  rintro e w9 ⟨rfl, hw9⟩
  rw [hw9]
  clear C hw9 w9
  have C := hide (y_start S7)
  go_wp2_with fail
  refine (unhide C _).mono ?_
  rintro e w8 ⟨rfl, S8⟩
  replace S8 := hide S8
  clear C S7
  have C := hide (y_scan S8)
  go_wp2_with fail
  refine (unhide C _).mono ?_
  rintro e w8' ⟨rfl, S9⟩
  replace S9 := hide S9
  clear C S8
  have C := hide (y_marker S9)
  go_wp2_with fail
  refine (unhide C).mono ?_
  rintro e w11 ⟨rfl, hw⟩
  rw [hw]
  clear C hw w11
  have C := hide (y_left S9)
  go_wp2_with fail
  refine (unhide C).mono ?_
  rintro e w11 ⟨rfl, hw⟩
  rw [hw]
  clear C hw w11
  have b0 : _ = some (Value.pointer (some ⟨x.hb, 0, none⟩)) := (unhide S9).box.b0
  have b1 : _ = some (Value.int .i64 64) := (unhide S9).box.b1
  have b2 : _ = some (Value.int .i64 1) := (unhide S9).box.b2
  have b3 : _ = some (Value.bool false) := (unhide S9).box.b3
  have b4 : _ = some (Value.bool true) := (unhide S9).box.b4
  have C := hide (y_blk true S9 1 rfl)
  clear S9
  go_wp2_with fail
  refine (unhide C).mono ?_
  rintro e w12 ⟨rfl, al2, S12⟩
  replace S12 := hide S12
  clear C b0 b1 b2 b3 b4
  have C := hide (y_marker S12)
  go_wp2_with fail
  refine (unhide C).mono ?_
  rintro e w11 ⟨rfl, hw⟩
  rw [hw]
  clear C hw w11
  have C := hide (y_left S12)
  go_wp2_with fail
  refine (unhide C).mono ?_
  rintro e w11 ⟨rfl, hw⟩
  rw [hw]
  clear C hw w11
  have F := hide (unhide FIN _ (unhide S12).below)
  clear S12 FIN
  go_wp2_with fail
  go_ret
  exact ⟨rfl, unhide F⟩
set_option maxHeartbeats 2000000 in
set_option maxRecDepth 100000 in
theorem hs_11011 (w : World) (ht : Tab w) (CA : Hid (Calls Tryz.prog 6 #[] w fun e w' => e = .returned (.bool true) ∧ G w w')) : Calls Tryz.prog 5 #[.bool true, .bool true, .bool false, .bool true, .bool true] w fun e w' => e = .returned (.bool true) ∧ G w w' := by
  replace ht := hide ht
  go_enter Tryz.func5, Tryz.ntmps5
  go_wp2_with fail
  refine (unhide CA).mono ?_
  rintro e w0 ⟨rfl, g0⟩
  replace g0 := hide g0
  clear CA
  go_wp2_with fail
  refine (shapes14 _).mono ?_
  rintro e w1 ⟨rfl, hw1⟩
  have CN := hide (new14 w0 w1 hw1 (Tab.later (unhide ht) (unhide g0)))
  have g1 : Hid (G w w1) := hide ((unhide g0).trans (by rw [hw1]; exact G.alloc _ _))
  clear hw1 g0 ht
  go_wp2_with fail
  refine (unhide CN).mono ?_
  rintro e w2 ⟨x, rfl, ao, cap, nv, c, S0⟩
  have FIN : Hid (∀ y : World, Below w1.heap.size w1 y → G w y) := hide fun y b => Below.trans (unhide g1) (b.mono (unhide g1).size)
  have S1 := hide (S0.gr (G.alloc w2 (.cells #[] 65)))
  have C := hide (y_make1 false true S1)
  clear S0 CN g1
  go_wp2_with fail
  refine (unhide C _).mono ?_
  rintro e w3 ⟨rfl, S3⟩
  clear C S1
  have C := hide (y_make2 false true (hide S3))
  clear S3
  go_wp2_with fail
  refine (unhide C _).mono ?_
  rintro e w4 ⟨rfl, S4⟩
  clear C
  have C := hide (y_make3 false true (hide S4))
  clear S4
  go_wp2_with fail
  refine (unhide C _).mono ?_
  rintro e w5 ⟨rfl, S5⟩
  clear C
  go_upto_region 20 with fail
  have S6' := y_box S5
  obtain ⟨W6, hW6⟩ : ∃ W6, W6 = w5.alloc (.cells #[.pointer (some ⟨x.hb, 0, none⟩), .int .i64 64, .int .i64 0, .bool false, .bool false] 67) := ⟨_, rfl⟩
  have S6 : Hid (YS w1 x ao cap nv false true w5.heap.size 0 [] (yq3 false true) 0 W6) := hide (by rw [hW6]; exact S6')
  rw [← hW6]
  clear S6' S5 hW6
  have b0 : _ = some (Value.pointer (some ⟨x.hb, 0, none⟩)) := (unhide S6).box.b0
  have b1 : _ = some (Value.int .i64 64) := (unhide S6).box.b1
  have b2 : _ = some (Value.int .i64 0) := (unhide S6).box.b2
  have b3 : _ = some (Value.bool false) := (unhide S6).box.b3
  have b4 : _ = some (Value.bool false) := (unhide S6).box.b4
  have C := hide (y_do1 false true S6)
  clear S6
  go_wp2_with fail
  refine (unhide C).mono ?_
  rintro e w7 ⟨rfl, S7⟩
  replace S7 := hide S7
  clear C b0 b1 b2 b3 b4
  have C := hide (y_cycle S7)
  go_wp2_with fail
  refine (unhide C).mono ?_
  rintro e w9 ⟨rfl, hw9⟩
  rw [hw9]
  clear C hw9 w9
  have C := hide (y_start S7)
  go_wp2_with fail
  refine (unhide C _).mono ?_
  rintro e w8 ⟨rfl, S8⟩
  replace S8 := hide S8
  clear C S7
  have C := hide (y_scan S8)
  go_wp2_with fail
  refine (unhide C _).mono ?_
  rintro e w8' ⟨rfl, S9⟩
  replace S9 := hide S9
  clear C S8
  have C := hide (y_marker S9)
  go_wp2_with fail
  refine (unhide C).mono ?_
  rintro e w11 ⟨rfl, hw⟩
  rw [hw]
  clear C hw w11
  have C := hide (y_left S9)
  go_wp2_with fail
  refine (unhide C).mono ?_
  rintro e w11 ⟨rfl, hw⟩
  rw [hw]
  clear C hw w11
  have b0 : _ = some (Value.pointer (some ⟨x.hb, 0, none⟩)) := (unhide S9).box.b0
  have b1 : _ = some (Value.int .i64 64) := (unhide S9).box.b1
  have b2 : _ = some (Value.int .i64 0) := (unhide S9).box.b2
  have b3 : _ = some (Value.bool false) := (unhide S9).box.b3
  have b4 : _ = some (Value.bool false) := (unhide S9).box.b4
  have C := hide (y_blk true S9 0 rfl)
  clear S9
  go_wp2_with fail
  refine (unhide C).mono ?_
  rintro e w12 ⟨rfl, al2, S12⟩
  replace S12 := hide S12
  clear C b0 b1 b2 b3 b4
  have C := hide (y_marker S12)
  go_wp2_with fail
  refine (unhide C).mono ?_
  rintro e w11 ⟨rfl, hw⟩
  rw [hw]
  clear C hw w11
  have C := hide (y_left S12)
  go_wp2_with fail
  refine (unhide C).mono ?_
  rintro e w11 ⟨rfl, hw⟩
  rw [hw]
  clear C hw w11
  have F := hide (unhide FIN _ (unhide S12).below)
  clear S12 FIN
  go_wp2_with fail
  go_ret
  exact ⟨rfl, unhide F⟩
set_option maxHeartbeats 2000000 in
set_option maxRecDepth 100000 in
theorem hs_11101 (w : World) (ht : Tab w) (CA : Hid (Calls Tryz.prog 6 #[] w fun e w' => e = .returned (.bool true) ∧ G w w')) : Calls Tryz.prog 5 #[.bool true, .bool true, .bool true, .bool false, .bool true] w fun e w' => e = .returned (.bool true) ∧ G w w' := by
  replace ht := hide ht
  go_enter Tryz.func5, Tryz.ntmps5
  go_wp2_with fail
  refine (unhide CA).mono ?_
  rintro e w0 ⟨rfl, g0⟩
  replace g0 := hide g0
  clear CA
  go_wp2_with fail
  refine (shapes14 _).mono ?_
  rintro e w1 ⟨rfl, hw1⟩
  have CN := hide (new14 w0 w1 hw1 (Tab.later (unhide ht) (unhide g0)))
  have g1 : Hid (G w w1) := hide ((unhide g0).trans (by rw [hw1]; exact G.alloc _ _))
  clear hw1 g0 ht
  go_wp2_with fail
  refine (unhide CN).mono ?_
  rintro e w2 ⟨x, rfl, ao, cap, nv, c, S0⟩
  have FIN : Hid (∀ y : World, Below w1.heap.size w1 y → G w y) := hide fun y b => Below.trans (unhide g1) (b.mono (unhide g1).size)
  have S1 := hide (S0.gr (G.alloc w2 (.cells #[] 65)))
  have C := hide (y_make1 true false S1)
  clear S0 CN g1
  go_wp2_with fail
  refine (unhide C _).mono ?_
  rintro e w3 ⟨rfl, S3⟩
  clear C S1
  have C := hide (y_make2 true false (hide S3))
  clear S3
  go_wp2_with fail
  refine (unhide C _).mono ?_
  rintro e w4 ⟨rfl, S4⟩
  clear C
  have C := hide (y_make3 true false (hide S4))
  clear S4
  go_wp2_with fail
  refine (unhide C _).mono ?_
  rintro e w5 ⟨rfl, S5⟩
  clear C
  go_upto_region 20 with fail
  have S6' := y_box S5
  obtain ⟨W6, hW6⟩ : ∃ W6, W6 = w5.alloc (.cells #[.pointer (some ⟨x.hb, 0, none⟩), .int .i64 64, .int .i64 2, .bool true, .bool true] 67) := ⟨_, rfl⟩
  have S6 : Hid (YS w1 x ao cap nv true false w5.heap.size 0 [] (yq3 true false) 0 W6) := hide (by rw [hW6]; exact S6')
  rw [← hW6]
  clear S6' S5 hW6
  have b0 : _ = some (Value.pointer (some ⟨x.hb, 0, none⟩)) := (unhide S6).box.b0
  have b1 : _ = some (Value.int .i64 64) := (unhide S6).box.b1
  have b2 : _ = some (Value.int .i64 2) := (unhide S6).box.b2
  have b3 : _ = some (Value.bool true) := (unhide S6).box.b3
  have b4 : _ = some (Value.bool true) := (unhide S6).box.b4
  have C := hide (y_do1 true false S6)
  clear S6
  go_wp2_with fail
  refine (unhide C).mono ?_
  rintro e w7 ⟨rfl, S7⟩
  replace S7 := hide S7
  clear C b0 b1 b2 b3 b4
  have C := hide (y_cycle S7)
  go_wp2_with fail
  refine (unhide C).mono ?_
  rintro e w9 ⟨rfl, hw9⟩
  rw [hw9]
  clear C hw9 w9
  have C := hide (y_start S7)
  go_wp2_with fail
  refine (unhide C _).mono ?_
  rintro e w8 ⟨rfl, S8⟩
  replace S8 := hide S8
  clear C S7
  have C := hide (y_scan S8)
  go_wp2_with fail
  refine (unhide C _).mono ?_
  rintro e w8' ⟨rfl, S9⟩
  replace S9 := hide S9
  clear C S8
  have C := hide (y_marker S9)
  go_wp2_with fail
  refine (unhide C).mono ?_
  rintro e w11 ⟨rfl, hw⟩
  rw [hw]
  clear C hw w11
  have C := hide (y_left S9)
  go_wp2_with fail
  refine (unhide C).mono ?_
  rintro e w11 ⟨rfl, hw⟩
  rw [hw]
  clear C hw w11
  have b0 : _ = some (Value.pointer (some ⟨x.hb, 0, none⟩)) := (unhide S9).box.b0
  have b1 : _ = some (Value.int .i64 64) := (unhide S9).box.b1
  have b2 : _ = some (Value.int .i64 2) := (unhide S9).box.b2
  have b3 : _ = some (Value.bool true) := (unhide S9).box.b3
  have b4 : _ = some (Value.bool true) := (unhide S9).box.b4
  have C := hide (y_blk true S9 1 rfl)
  clear S9
  go_wp2_with fail
  refine (unhide C).mono ?_
  rintro e w12 ⟨rfl, al2, S12⟩
  replace S12 := hide S12
  clear C b0 b1 b2 b3 b4
  have C := hide (y_marker S12)
  go_wp2_with fail
  refine (unhide C).mono ?_
  rintro e w11 ⟨rfl, hw⟩
  rw [hw]
  clear C hw w11
  have C := hide (y_left S12)
  go_wp2_with fail
  refine (unhide C).mono ?_
  rintro e w11 ⟨rfl, hw⟩
  rw [hw]
  clear C hw w11
  have F := hide (unhide FIN _ (unhide S12).below)
  clear S12 FIN
  go_wp2_with fail
  go_ret
  exact ⟨rfl, unhide F⟩
set_option maxHeartbeats 2000000 in
set_option maxRecDepth 100000 in
theorem hs_11111 (w : World) (ht : Tab w) (CA : Hid (Calls Tryz.prog 6 #[] w fun e w' => e = .returned (.bool true) ∧ G w w')) : Calls Tryz.prog 5 #[.bool true, .bool true, .bool true, .bool true, .bool true] w fun e w' => e = .returned (.bool true) ∧ G w w' := by
  replace ht := hide ht
  go_enter Tryz.func5, Tryz.ntmps5
  go_wp2_with fail
  refine (unhide CA).mono ?_
  rintro e w0 ⟨rfl, g0⟩
  replace g0 := hide g0
  clear CA
  go_wp2_with fail
  refine (shapes14 _).mono ?_
  rintro e w1 ⟨rfl, hw1⟩
  have CN := hide (new14 w0 w1 hw1 (Tab.later (unhide ht) (unhide g0)))
  have g1 : Hid (G w w1) := hide ((unhide g0).trans (by rw [hw1]; exact G.alloc _ _))
  clear hw1 g0 ht
  go_wp2_with fail
  refine (unhide CN).mono ?_
  rintro e w2 ⟨x, rfl, ao, cap, nv, c, S0⟩
  have FIN : Hid (∀ y : World, Below w1.heap.size w1 y → G w y) := hide fun y b => Below.trans (unhide g1) (b.mono (unhide g1).size)
  have S1 := hide (S0.gr (G.alloc w2 (.cells #[] 65)))
  have C := hide (y_make1 true true S1)
  clear S0 CN g1
  go_wp2_with fail
  refine (unhide C _).mono ?_
  rintro e w3 ⟨rfl, S3⟩
  clear C S1
  have C := hide (y_make2 true true (hide S3))
  clear S3
  go_wp2_with fail
  refine (unhide C _).mono ?_
  rintro e w4 ⟨rfl, S4⟩
  clear C
  have C := hide (y_make3 true true (hide S4))
  clear S4
  go_wp2_with fail
  refine (unhide C _).mono ?_
  rintro e w5 ⟨rfl, S5⟩
  clear C
  go_upto_region 20 with fail
  have S6' := y_box S5
  obtain ⟨W6, hW6⟩ : ∃ W6, W6 = w5.alloc (.cells #[.pointer (some ⟨x.hb, 0, none⟩), .int .i64 64, .int .i64 0, .bool true, .bool false] 67) := ⟨_, rfl⟩
  have S6 : Hid (YS w1 x ao cap nv true true w5.heap.size 0 [] (yq3 true true) 0 W6) := hide (by rw [hW6]; exact S6')
  rw [← hW6]
  clear S6' S5 hW6
  have b0 : _ = some (Value.pointer (some ⟨x.hb, 0, none⟩)) := (unhide S6).box.b0
  have b1 : _ = some (Value.int .i64 64) := (unhide S6).box.b1
  have b2 : _ = some (Value.int .i64 0) := (unhide S6).box.b2
  have b3 : _ = some (Value.bool true) := (unhide S6).box.b3
  have b4 : _ = some (Value.bool false) := (unhide S6).box.b4
  have C := hide (y_do1 true true S6)
  clear S6
  go_wp2_with fail
  refine (unhide C).mono ?_
  rintro e w7 ⟨rfl, S7⟩
  replace S7 := hide S7
  clear C b0 b1 b2 b3 b4
  have C := hide (y_cycle S7)
  go_wp2_with fail
  refine (unhide C).mono ?_
  rintro e w9 ⟨rfl, hw9⟩
  rw [hw9]
  clear C hw9 w9
  have C := hide (y_start S7)
  go_wp2_with fail
  refine (unhide C _).mono ?_
  rintro e w8 ⟨rfl, S8⟩
  replace S8 := hide S8
  clear C S7
  have C := hide (y_scan S8)
  go_wp2_with fail
  refine (unhide C _).mono ?_
  rintro e w8' ⟨rfl, S9⟩
  replace S9 := hide S9
  clear C S8
  have C := hide (y_marker S9)
  go_wp2_with fail
  refine (unhide C).mono ?_
  rintro e w11 ⟨rfl, hw⟩
  rw [hw]
  clear C hw w11
  have C := hide (y_left S9)
  go_wp2_with fail
  refine (unhide C).mono ?_
  rintro e w11 ⟨rfl, hw⟩
  rw [hw]
  clear C hw w11
  have b0 : _ = some (Value.pointer (some ⟨x.hb, 0, none⟩)) := (unhide S9).box.b0
  have b1 : _ = some (Value.int .i64 64) := (unhide S9).box.b1
  have b2 : _ = some (Value.int .i64 0) := (unhide S9).box.b2
  have b3 : _ = some (Value.bool true) := (unhide S9).box.b3
  have b4 : _ = some (Value.bool false) := (unhide S9).box.b4
  have C := hide (y_blk true S9 0 rfl)
  clear S9
  go_wp2_with fail
  refine (unhide C).mono ?_
  rintro e w12 ⟨rfl, al2, S12⟩
  replace S12 := hide S12
  clear C b0 b1 b2 b3 b4
  have C := hide (y_marker S12)
  go_wp2_with fail
  refine (unhide C).mono ?_
  rintro e w11 ⟨rfl, hw⟩
  rw [hw]
  clear C hw w11
  have C := hide (y_left S12)
  go_wp2_with fail
  refine (unhide C).mono ?_
  rintro e w11 ⟨rfl, hw⟩
  rw [hw]
  clear C hw w11
  have F := hide (unhide FIN _ (unhide S12).below)
  clear S12 FIN
  go_wp2_with fail
  go_ret
  exact ⟨rfl, unhide F⟩
end Go.Proofs.YtmifehomglilmaaGreatDoor

/- HeapShades of package gantlinelaw14 answers true. -/
namespace Go.Proofs.YtmifehomglilmaaGreatDoor
set_option maxRecDepth 100000
open Go.ChangeShapes Go.WideShapes Go.ChangeAt Go.RowKit Go.Maps Go.Deep

theorem shades14 (w : World) (ht : Tab w) (b r l n p : Bool) (CA : Hid (Calls Tryz.prog 6 #[] w fun e w' => e = .returned (.bool true) ∧ G w w')) : Calls Tryz.prog 5 #[.bool b, .bool r, .bool l, .bool n, .bool p] w fun e w' => e = .returned (.bool true) ∧ G w w' := by
  cases b <;> cases r <;> cases l <;> cases n <;> cases p
  · exact hs_00000 w ht CA
  · exact hs_00001 w ht CA
  · exact hs_00010 w ht CA
  · exact hs_00011 w ht CA
  · exact hs_00100 w ht CA
  · exact hs_00101 w ht CA
  · exact hs_00110 w ht CA
  · exact hs_00111 w ht CA
  · exact hs_01000 w ht CA
  · exact hs_01001 w ht CA
  · exact hs_01010 w ht CA
  · exact hs_01011 w ht CA
  · exact hs_01100 w ht CA
  · exact hs_01101 w ht CA
  · exact hs_01110 w ht CA
  · exact hs_01111 w ht CA
  · exact hs_10000 w ht CA
  · exact hs_10001 w ht CA
  · exact hs_10010 w ht CA
  · exact hs_10011 w ht CA
  · exact hs_10100 w ht CA
  · exact hs_10101 w ht CA
  · exact hs_10110 w ht CA
  · exact hs_10111 w ht CA
  · exact hs_11000 w ht CA
  · exact hs_11001 w ht CA
  · exact hs_11010 w ht CA
  · exact hs_11011 w ht CA
  · exact hs_11100 w ht CA
  · exact hs_11101 w ht CA
  · exact hs_11110 w ht CA
  · exact hs_11111 w ht CA
end Go.Proofs.YtmifehomglilmaaGreatDoor
