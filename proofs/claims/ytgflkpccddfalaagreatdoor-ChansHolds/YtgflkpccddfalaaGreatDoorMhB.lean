/- Here, one behind the other: HpG, HpG2, MarkPlain, MarkPlain2, MsP, MarkRv, HwObj, GreyAll, GreyAwake, GreyRow, MarkFlds, HwFlds, CycPlain, HwStep, HxCyc, HxCyc2, HxMake, AllocKeepP, AllocFullP, RmP, CwP, CwRun. -/
import Derived.Test.YtgflkpccddfalaaGreatDoorMhA
import Derived.Test.YtgflkpccddfalaaGreatDoorGreyQ
import Derived.Maps.OwnSet
import Derived.Maps.OwnOps
import Derived.Test.YtgflkpccddfalaaGreatDoorGeomPlain
import Derived.Test.YtgflkpccddfalaaGreatDoorHeadPlain
import Derived.Test.YtgflkpccddfalaaGreatDoorArenaMark
import Derived.Test.YtgflkpccddfalaaGreatDoorAllocPlain
import Derived.Test.YtgflkpccddfalaaGreatDoorHeadKeys
import Derived.Deep.DeepCutAuto
import Derived.Test.YtgflkpccddfalaaGreatDoorApartPlain
/- A Heap in memory, whatever its collector does: the black stacks, the grey ones; Shade, Black, Barrier, Left. -/
namespace Go.Proofs.YtgflkpccddfalaaGreatDoor
set_option maxRecDepth 100000
open Go.ChangeShapes Go.WideShapes Go.ChangeAt Go.RowKit Go.Maps Go.ChangeMaps Go.MapKept Go.Deep

/-- The black stacks' map. -/
def BkAt (w : World) (mb : Nat) (bk : List Int) : Prop := ∃ D : DataW Unit, w.ownsMap Tryz.prog 3 unitElem mb bk.length D ∧ ∀ y, wfN y → Maps.has D (.int .i64 y) = decide (y ∈ bk)
theorem BkAt.kept {w w' : World} {mb : Nat} {bk : List Int} (h : BkAt w mb bk) (e : w'.heap[mb]? = w.heap[mb]?) : BkAt w' mb bk := by
  obtain ⟨D, ⟨es, c, hb, r⟩, hh⟩ := h
  exact ⟨D, ⟨es, c, e.trans hb, r⟩, hh⟩
theorem BkAt.lt {w : World} {mb : Nat} {bk : List Int} (h : BkAt w mb bk) : mb < w.heap.size := by
  obtain ⟨D, ⟨es, c, hb, r⟩, hh⟩ := h
  rcases Nat.lt_or_ge mb w.heap.size with h1 | h1
  · exact h1
  · rw [Array.getElem?_eq_none h1] at hb; cases hb
/-- The Cycle's own cells. -/
structure CbAt (w : World) (x : Hx) (ph kept done : Int) : Prop where
  c0 : w.cell? ⟨x.b.cb, 0, none⟩ = some (.pointer (some ⟨x.xl.d.ab, 0, none⟩))
  c1 : w.cell? ⟨x.b.cb, 1, none⟩ = some (.pointer (some ⟨x.xl.lb, 0, none⟩))
  c2 : w.cell? ⟨x.b.cb, 2, none⟩ = some (.pointer (some ⟨x.b.tb, 0, none⟩))
  c3 : w.cell? ⟨x.b.cb, 3, none⟩ = some (.pointer (some ⟨x.b.kb, 0, none⟩))
  c4 : w.cell? ⟨x.b.cb, 4, none⟩ = some (.int .i64 ph)
  c5 : w.cell? ⟨x.b.cb, 5, none⟩ = some (.map (some x.b.mb))
  c6 : w.cell? ⟨x.b.cb, 6, none⟩ = some (.int .i64 kept)
  c7 : w.cell? ⟨x.b.cb, 7, none⟩ = some (.int .i64 done)
  fz : ∀ i, w.frozen? ⟨x.b.cb, i, none⟩ = false
theorem CbAt.kept {w w' : World} {x : Hx} {ph kept done : Int} (h : CbAt w x ph kept done) (e : w'.heap[x.b.cb]? = w.heap[x.b.cb]?) : CbAt w' x ph kept done :=
  ⟨(World.cell?_of_block (a := ⟨x.b.cb, 0, none⟩) e).trans h.c0, (World.cell?_of_block (a := ⟨x.b.cb, 1, none⟩) e).trans h.c1, (World.cell?_of_block (a := ⟨x.b.cb, 2, none⟩) e).trans h.c2, (World.cell?_of_block (a := ⟨x.b.cb, 3, none⟩) e).trans h.c3, (World.cell?_of_block (a := ⟨x.b.cb, 4, none⟩) e).trans h.c4, (World.cell?_of_block (a := ⟨x.b.cb, 5, none⟩) e).trans h.c5, (World.cell?_of_block (a := ⟨x.b.cb, 6, none⟩) e).trans h.c6, (World.cell?_of_block (a := ⟨x.b.cb, 7, none⟩) e).trans h.c7, fun i => (World.frozen?_of_block (a := ⟨x.b.cb, i, none⟩) e).trans (h.fz i)⟩
theorem CbAt.phase {w : World} {x : Hx} {ph kept done : Int} (h : CbAt w x ph kept done) (p : Int) : CbAt (w.setCell ⟨x.b.cb, 4, none⟩ (.int .i64 p)) x p kept done :=
  ⟨cellO (by decide) h.c0, cellO (by decide) h.c1, cellO (by decide) h.c2, cellO (by decide) h.c3, cell_same _ h.c4, cellO (by decide) h.c5, cellO (by decide) h.c6, cellO (by decide) h.c7, fun i => by rw [World.frozen?_setCell]; exact h.fz i⟩
/-- A Heap: c: whose block is it: 1 arena and allocator's rows, 16 their heads, 2 the Cycle, 12 the marker, 13 the black ones, 14 and 15 the queue, 3 table, 4 its map, 5 its row, 6 the Heap, 7 least, 8 numbers. -/
structure HG (W w : World) (x : Hx) (al : Al) (l : List Hd.Shp) (n : Nat) (ao : Option Addr) (cap : Nat) (nv : Value) (c : Nat → Nat) (ph kept done fc : Int) (bk gl : List Int) (qs : List Nat) : Prop where
  st : StL W w x.xl al
  cb : CbAt w x ph kept done
  mp : BkAt w x.b.mb bk
  k0 : w.cell? ⟨x.b.kb, 0, none⟩ = some (.pointer (some ⟨x.xl.d.ab, 0, none⟩))
  k2 : w.cell? ⟨x.b.kb, 2, none⟩ = some (.pointer (some ⟨x.b.q, 0, none⟩))
  k1 : w.cell? ⟨x.b.kb, 1, none⟩ = some (.pointer (some ⟨x.b.tb, 0, none⟩))
  que : Gy.QL w x.b.q qs gl
  tab : Hd.TabAt w W.heap.size x.b.tb x.tm ao cap l
  h0 : w.cell? ⟨x.hb, 0, none⟩ = some (.pointer (some ⟨x.b.cb, 0, none⟩))
  h1 : w.cell? ⟨x.hb, 1, none⟩ = some nv
  h2 : w.cell? ⟨x.hb, 2, none⟩ = some (.map (some x.lm))
  h3 : w.cell? ⟨x.hb, 3, none⟩ = some (.int .i64 fc)
  hf : ∀ i, w.frozen? ⟨x.hb, i, none⟩ = false
  num : NrAt w W.heap.size nv n
  lmp : LmAt w x.lm n
  lo : W.heap.size ≤ x.b.cb ∧ W.heap.size ≤ x.b.kb ∧ W.heap.size ≤ x.b.mb ∧ W.heap.size ≤ x.b.q ∧ W.heap.size ≤ x.hb ∧ W.heap.size ≤ x.lm
  lq : ∀ d ∈ qs, W.heap.size ≤ d
  lt : x.lm < w.heap.size
  a1 : c x.xl.d.wb = 1 ∧ c x.xl.d.sb = 1 ∧ c x.xl.ub = 1
  a2 : c x.xl.d.ab = 16 ∧ c x.xl.lb = 16
  kc : c x.b.cb = 2 ∧ c x.b.kb = 12 ∧ c x.b.mb = 13 ∧ c x.b.q = 14
  cq : ∀ d ∈ qs, c d = 15
  c3 : c x.b.tb = 3
  c4 : c x.tm = 4
  c5 : ∀ a, ao = some a → c a.block = 5
  c6 : c x.hb = 6
  c7 : c x.lm = 7
  c8 : ∀ k, nv.ownBlock = some k → c k = 8
section
variable {W w w' : World} {x : Hx} {al al' : Al} {l : List Hd.Shp} {n : Nat} {ao : Option Addr} {cap : Nat} {nv : Value} {c c' : Nat → Nat} {ph kept done fc ph' kept' done' : Int} {bk gl bk' gl' : List Int} {qs qs' : List Nat}
theorem HG.hB (h : HG W w x al l n ao cap nv c ph kept done fc bk gl qs) : HB W w x al l ao cap := ⟨h.st, h.cb.c0, h.cb.c2, h.tab, h.h0⟩
theorem HG.alt (h : HG W w x al l n ao cap nv c ph kept done fc bk gl qs) : x.xl.d.ab < w.heap.size ∧ x.xl.d.wb < w.heap.size ∧ x.xl.d.sb < w.heap.size ∧ x.xl.ub < w.heap.size ∧ x.xl.lb < w.heap.size :=
  ⟨h.st.st.at_.lt0, h.st.st.at_.lt1 h.st.st.n8, h.st.st.at_.lt2 h.st.st.n8, h.st.lt1, h.st.lt0⟩
theorem HG.clt (h : HG W w x al l n ao cap nv c ph kept done fc bk gl qs) : x.b.cb < w.heap.size ∧ x.b.kb < w.heap.size ∧ x.b.mb < w.heap.size ∧ x.b.q < w.heap.size ∧ x.hb < w.heap.size :=
  ⟨World.block_lt_of_cell? w _ h.cb.c0, World.block_lt_of_cell? w _ h.k0, h.mp.lt, h.que.lt, World.block_lt_of_cell? w _ h.h0⟩
theorem HG.nlt (h : HG W w x al l n ao cap nv c ph kept done fc bk gl qs) : ∀ k, nv.ownBlock = some k → k < w.heap.size := fun k hk => by
  rcases h.num.2 with ⟨e, _⟩ | ⟨g, cp, cur, e, _, h3, _⟩
  · rw [e] at hk; cases hk
  · rw [e] at hk
    obtain rfl : g = k := by simpa [Value.ownBlock] using hk
    rcases Nat.lt_or_ge g w.heap.size with hh | hh
    · exact hh
    · rw [Array.getElem?_eq_none hh] at h3; cases h3
/-- What else it has is as it was. -/
theorem HG.re (h : HG W w x al l n ao cap nv c ph kept done fc bk gl qs) (hs : w.heap.size ≤ w'.heap.size) (st : StL W w' x.xl al')
    (kp : ∀ d, d < w.heap.size → c d ≠ 1 → c d ≠ 2 → c d ≠ 13 → c d ≠ 14 → c d ≠ 15 → w'.heap[d]? = w.heap[d]?) (cb : CbAt w' x ph' kept' done') (mp : BkAt w' x.b.mb bk') (que : Gy.QL w' x.b.q qs' gl')
    (hc : ∀ d, d < w.heap.size → c' d = c d) (hq : ∀ d ∈ qs', c' d = 15 ∧ W.heap.size ≤ d) : HG W w' x al' l n ao cap nv c' ph' kept' done' fc bk' gl' qs' := by
  obtain ⟨l1, l2, l3, l4, l5⟩ := h.alt
  obtain ⟨e1, e2, e3, e4, e5⟩ := h.clt
  obtain ⟨a1, a2, a3⟩ := h.a1
  obtain ⟨b1, b2⟩ := h.a2
  obtain ⟨k1, k2, k3, k4⟩ := h.kc
  have kk := kp x.b.kb e2 (by omega) (by omega) (by omega) (by omega) (by omega)
  have kh := kp x.hb e5 (by rw [h.c6]; decide) (by rw [h.c6]; decide) (by rw [h.c6]; decide) (by rw [h.c6]; decide) (by rw [h.c6]; decide)
  exact ⟨st, cb, mp, (World.cell?_of_block (a := ⟨x.b.kb, 0, none⟩) kk).trans h.k0, (World.cell?_of_block (a := ⟨x.b.kb, 2, none⟩) kk).trans h.k2, (World.cell?_of_block (a := ⟨x.b.kb, 1, none⟩) kk).trans h.k1, que,
    h.tab.kept (kp _ h.tab.tlt (by rw [h.c3]; decide) (by rw [h.c3]; decide) (by rw [h.c3]; decide) (by rw [h.c3]; decide) (by rw [h.c3]; decide)) (kp _ h.tab.mlt (by rw [h.c4]; decide) (by rw [h.c4]; decide) (by rw [h.c4]; decide) (by rw [h.c4]; decide) (by rw [h.c4]; decide)) (fun a ha => kp _ (h.tab.aoB a ha).2 (by rw [h.c5 a ha]; decide) (by rw [h.c5 a ha]; decide) (by rw [h.c5 a ha]; decide) (by rw [h.c5 a ha]; decide) (by rw [h.c5 a ha]; decide)),
    (World.cell?_of_block (a := ⟨x.hb, 0, none⟩) kh).trans h.h0, (World.cell?_of_block (a := ⟨x.hb, 1, none⟩) kh).trans h.h1, (World.cell?_of_block (a := ⟨x.hb, 2, none⟩) kh).trans h.h2, (World.cell?_of_block (a := ⟨x.hb, 3, none⟩) kh).trans h.h3, fun i => (World.frozen?_of_block (a := ⟨x.hb, i, none⟩) kh).trans (h.hf i),
    nr_kept h.num (fun q hq => kp q (h.nlt q hq) (by rw [h.c8 q hq]; decide) (by rw [h.c8 q hq]; decide) (by rw [h.c8 q hq]; decide) (by rw [h.c8 q hq]; decide) (by rw [h.c8 q hq]; decide)), h.lmp.kept (kp _ h.lt (by rw [h.c7]; decide) (by rw [h.c7]; decide) (by rw [h.c7]; decide) (by rw [h.c7]; decide) (by rw [h.c7]; decide)),
    h.lo, fun d hd => (hq d hd).2, Nat.lt_of_lt_of_le h.lt hs, ⟨(hc _ l2).trans a1, (hc _ l3).trans a2, (hc _ l4).trans a3⟩, ⟨(hc _ l1).trans b1, (hc _ l5).trans b2⟩, ⟨(hc _ e1).trans k1, (hc _ e2).trans k2, (hc _ e3).trans k3, (hc _ e4).trans k4⟩, fun d hd => (hq d hd).1,
    (hc _ h.tab.tlt).trans h.c3, (hc _ h.tab.mlt).trans h.c4, fun a ha => (hc _ (h.tab.aoB a ha).2).trans (h.c5 a ha), (hc _ e5).trans h.c6, (hc _ h.lt).trans h.c7, fun q hq => (hc _ (h.nlt q hq)).trans (h.c8 q hq)⟩
theorem HG.hq (h : HG W w x al l n ao cap nv c ph kept done fc bk gl qs) : ∀ d ∈ qs, c d = 15 ∧ W.heap.size ≤ d := fun d hd => ⟨h.cq d hd, h.lq d hd⟩
theorem HG.gr (h : HG W w x al l n ao cap nv c ph kept done fc bk gl qs) (g : G w w') : HG W w' x al l n ao cap nv c ph kept done fc bk gl qs :=
  h.re g.size (h.st.G g) (fun d hd _ _ _ _ _ => g.block d hd) (h.cb.kept (g.block _ h.clt.1)) (h.mp.kept (g.block _ h.clt.2.2.1)) (h.que.grown g) (fun _ _ => rfl) h.hq
/-- The arena's rows, the allocator's. -/
theorem HG.turn (h : HG W w x al l n ao cap nv c ph kept done fc bk gl qs) (s : StL W w' x.xl al') (t : TnL w w' x.xl) : HG W w' x al' l n ao cap nv c ph kept done fc bk gl qs := by
  obtain ⟨a1, a2, a3⟩ := h.a1
  obtain ⟨k1, k2, k3, k4⟩ := h.kc
  obtain ⟨e1, e2, e3, e4, e5⟩ := h.clt
  have kp : ∀ d, d < w.heap.size → c d ≠ 1 → w'.heap[d]? = w.heap[d]? := fun d hd n1 => t.block d hd (fun e => n1 (by rw [e]; exact a1)) (fun e => n1 (by rw [e]; exact a2)) (fun e => n1 (by rw [e]; exact a3))
  exact h.re t.size s (fun d hd n1 _ _ _ _ => kp d hd n1) (h.cb.kept (kp _ e1 (by omega))) (h.mp.kept (kp _ e3 (by omega))) (h.que.kept (kp _ e4 (by omega)) (fun d hd => kp d (h.que.ltb d hd) (by rw [h.cq d hd]; decide))) (fun _ _ => rfl) h.hq
/-- A block that is not the arena's is turned: the arena is as it was. -/
theorem HG.stk (h : HG W w x al l n ao cap nv c ph kept done fc bk gl qs) (hb : Below W.heap.size W w') (kp : ∀ d, d < w.heap.size → c d = 1 ∨ c d = 16 → w'.heap[d]? = w.heap[d]?) : StL W w' x.xl al := by
  obtain ⟨a1, a2, a3⟩ := h.a1
  obtain ⟨b1, b2⟩ := h.a2
  obtain ⟨l1, l2, l3, l4, l5⟩ := h.alt
  refine h.st.kept hb fun d hd => ?_
  rcases hd with rfl | rfl | rfl | rfl | rfl
  · exact kp _ l1 (Or.inr b1)
  · exact kp _ l2 (Or.inl a1)
  · exact kp _ l3 (Or.inl a2)
  · exact kp _ l4 (Or.inl a3)
  · exact kp _ l5 (Or.inr b2)
/-- The queue has been turned. -/
theorem HG.queue (h : HG W w x al l n ao cap nv c ph kept done fc bk gl qs) (L : Gy.Left w w' x.b.q qs gl') : ∃ c' qs', (∀ d, d < w.heap.size → c' d = c d) ∧ (∀ d ∈ qs', d ∈ qs ∨ w.heap.size ≤ d) ∧ HG W w' x al l n ao cap nv c' ph kept done fc bk gl' qs' := by
  obtain ⟨qs', Q, t, hn⟩ := L
  obtain ⟨k1, k2, k3, k4⟩ := h.kc
  obtain ⟨e1, e2, e3, e4, e5⟩ := h.clt
  have kp : ∀ d, d < w.heap.size → c d ≠ 14 → c d ≠ 15 → w'.heap[d]? = w.heap[d]? := fun d hd n1 n2 => t.block d hd (fun e => n1 (by rw [e]; exact k4)) (fun e => n2 (h.cq d e))
  have hb : Below W.heap.size W w' := by
    refine Below.trans h.st.below ⟨t.os, t.tape, t.output, t.size, fun d hd => ?_⟩
    have hd' : d < w.heap.size := Nat.lt_of_lt_of_le hd h.st.below.size
    refine t.block d hd' (fun e => ?_) (fun e => ?_)
    · have := h.lo; omega
    · have := h.lq d e; omega
  have cc : ∀ d, d < w.heap.size → (fun d => if w.heap.size ≤ d then 15 else c d) d = c d := fun d hd => if_neg (by omega)
  refine ⟨fun d => if w.heap.size ≤ d then 15 else c d, qs', cc, hn, h.re t.size (h.stk hb fun d hd hc => kp d hd (by omega) (by omega)) (fun d hd _ _ _ n1 n2 => kp d hd n1 n2) (h.cb.kept (kp _ e1 (by omega) (by omega))) (h.mp.kept (kp _ e3 (by omega) (by omega))) Q cc fun d hd => ?_⟩
  rcases hn d hd with e | e
  · exact ⟨(cc d (h.que.ltb d e)).trans (h.cq d e), h.lq d e⟩
  · exact ⟨if_pos e, Nat.le_trans h.st.below.size e⟩
/-- The phase is another. -/
theorem HG.phase (h : HG W w x al l n ao cap nv c ph kept done fc bk gl qs) (p : Int) : HG W (w.setCell ⟨x.b.cb, 4, none⟩ (.int .i64 p)) x al l n ao cap nv c p kept done fc bk gl qs := by
  obtain ⟨k1, k2, k3, k4⟩ := h.kc
  obtain ⟨e1, e2, e3, e4, e5⟩ := h.clt
  have kp : ∀ d, c d ≠ 2 → (w.setCell ⟨x.b.cb, 4, none⟩ (.int .i64 p)).heap[d]? = w.heap[d]? := fun d n2 => Below.heap_setCell _ _ _ _ (by show d ≠ x.b.cb; intro e; exact n2 (by rw [e]; exact k1))
  exact h.re (by rw [World.size_setCell]; exact Nat.le_refl _) (h.stk (h.st.below.setCell h.lo.1 _) fun d _ hc => kp d (by omega)) (fun d _ _ n2 _ _ _ => kp d n2) (h.cb.phase p) (h.mp.kept (kp _ (by omega))) (h.que.kept (kp _ (by omega)) (fun d hd => kp d (by rw [h.cq d hd]; decide))) (fun _ _ => rfl) h.hq
/-- The map of the black ones has been turned. -/
theorem HG.mapped (h : HG W w x al l n ao cap nv c ph kept done fc bk gl qs) (hb : Below W.heap.size W w') (hs : w.heap.size ≤ w'.heap.size) (kp : ∀ d, d < w.heap.size → d ≠ x.b.mb → w'.heap[d]? = w.heap[d]?) (mp : BkAt w' x.b.mb bk') : HG W w' x al l n ao cap nv c ph kept done fc bk' gl qs := by
  obtain ⟨k1, k2, k3, k4⟩ := h.kc
  obtain ⟨e1, e2, e3, e4, e5⟩ := h.clt
  have kp' : ∀ d, d < w.heap.size → c d ≠ 13 → w'.heap[d]? = w.heap[d]? := fun d hd n => kp d hd (fun e => n (by rw [e]; exact k3))
  exact h.re hs (h.stk hb fun d hd hc => kp' d hd (by omega)) (fun d hd _ _ n _ _ => kp' d hd n) (h.cb.kept (kp' _ e1 (by omega))) mp (h.que.kept (kp' _ e4 (by omega)) (fun d hd => kp' d (h.que.ltb d hd) (by rw [h.cq d hd]; decide))) (fun _ _ => rfl) h.hq
/-- While no collection goes on, and none is black. -/
theorem HS.hG (h : HS W w x al l n ao cap nv c) : ∃ c', HG W w x al l n ao cap nv c' 0 64 0 0 [] [] [] := by
  obtain ⟨a1, a2, a3, a4, a5⟩ := h.cA
  obtain ⟨k1, k2, k3, k4⟩ := h.cC
  have hkq : x.b.kb ≠ x.b.q := fun e => by
    obtain ⟨f, cc, hq, _⟩ := h.ks.que
    have h1 := h.ks.k0
    rw [e, hq.c0] at h1
    simp at h1
  obtain ⟨n1, n2, n3⟩ := h.ks.nd
  obtain ⟨n4, n5⟩ := h.ks.nm
  have ap := fun d hd => (h.ks.ap d hd).2
  have p1 := ap x.b.cb (by simp)
  have p2 := ap x.b.mb (by simp)
  have p3 := ap x.b.kb (by simp)
  have p4 := ap x.b.q (by simp)
  have m01 := h.ks.st.st.at_.n01
  have m02 := h.ks.st.st.at_.n02
  have m0 := h.ks.st.n0
  have m1 := h.ks.st.n1
  have m2 := h.ks.st.n2
  have mpx : BkAt w x.b.mb [] := by
    obtain ⟨cl, hcl⟩ := h.ks.mp
    exact ⟨.map [], ⟨#[], cl, hcl, ⟨by simp, stamped_empty cl, by simp⟩, Nat.le_refl _, rfl⟩, fun y _ => by simp [Maps.has]⟩
  obtain ⟨c', hc'⟩ : ∃ c' : Nat → Nat, c' = fun d => if d = x.xl.d.ab ∨ d = x.xl.lb then 16 else if d = x.b.kb then 12 else if d = x.b.mb then 13 else if d = x.b.q then 14 else c d := ⟨_, rfl⟩
  have old : ∀ d, c d ≠ 1 → c d ≠ 2 → c' d = c d := fun d d1 d2 => by
    rw [hc']
    simp only
    rw [if_neg (fun e => by rcases e with e | e <;> rw [e] at d1 <;> omega), if_neg (fun e => by rw [e] at d2; omega), if_neg (fun e => by rw [e] at d2; omega), if_neg (fun e => by rw [e] at d2; omega)]
  have same : ∀ d, d ≠ x.xl.d.ab → d ≠ x.xl.lb → d ≠ x.b.kb → d ≠ x.b.mb → d ≠ x.b.q → c' d = c d := fun d d1 d2 d3 d4 d5 => by
    rw [hc']
    simp only
    rw [if_neg (fun e => by rcases e with e | e; exact d1 e; exact d2 e), if_neg d3, if_neg d4, if_neg d5]
  have e16 : ∀ d, d = x.xl.d.ab ∨ d = x.xl.lb → c' d = 16 := fun d e => by rw [hc']; simp only; rw [if_pos e]
  have e12 : c' x.b.kb = 12 := by rw [hc']; simp only; rw [if_neg (fun e => by rcases e with e | e; exact p3.2.2.2.2.1 e; exact p3.2.2.2.2.2 e), if_pos trivial]
  have e13 : c' x.b.mb = 13 := by rw [hc']; simp only; rw [if_neg (fun e => by rcases e with e | e; exact p2.2.2.2.2.1 e; exact p2.2.2.2.2.2 e), if_neg n4, if_pos trivial]
  have e14 : c' x.b.q = 14 := by rw [hc']; simp only; rw [if_neg (fun e => by rcases e with e | e; exact p4.2.2.2.2.1 e; exact p4.2.2.2.2.2 e), if_neg (Ne.symm hkq), if_neg (Ne.symm n5), if_pos trivial]
  refine ⟨c', h.ks.st, ⟨h.ks.c0, h.ks.c1, h.ks.c2, h.ks.c3, h.ks.c4, h.ks.c5, h.ks.c6, h.ks.c7, h.ks.fz⟩, mpx, h.ks.k0, h.ks.k2, h.ks.k1, h.ks.que, h.tab, h.h0, h.h1, h.h2, h.h3, h.hf, h.num, h.mp, ⟨p1.1, p3.1, p2.1, p4.1, h.lo.1, h.lo.2⟩, fun d hd => (by cases hd), h.lt, ⟨?_, ?_, ?_⟩, ⟨e16 _ (Or.inl rfl), e16 _ (Or.inr rfl)⟩, ⟨?_, e12, e13, e14⟩, fun d hd => (by cases hd), ?_, ?_, fun a ha => ?_, ?_, ?_, fun k hk => ?_⟩
  · exact (same _ (Ne.symm m01) (Ne.symm m1.1) (Ne.symm p3.2.1) (Ne.symm p2.2.1) (Ne.symm p4.2.1)).trans a2
  · exact (same _ (Ne.symm m02) (Ne.symm m1.2) (Ne.symm p3.2.2.1) (Ne.symm p2.2.2.1) (Ne.symm p4.2.2.1)).trans a3
  · exact (same _ m2.1 (Ne.symm m0) (Ne.symm p3.2.2.2.1) (Ne.symm p2.2.2.2.1) (Ne.symm p4.2.2.2.1)).trans a4
  · exact (same _ p1.2.2.2.2.1 p1.2.2.2.2.2 n2 n1 n3).trans k1
  · exact (old _ (by rw [h.c3]; decide) (by rw [h.c3]; decide)).trans h.c3
  · exact (old _ (by rw [h.c4]; decide) (by rw [h.c4]; decide)).trans h.c4
  · exact (old _ (by rw [h.c5 a ha]; decide) (by rw [h.c5 a ha]; decide)).trans (h.c5 a ha)
  · exact (old _ (by rw [h.c6]; decide) (by rw [h.c6]; decide)).trans h.c6
  · exact (old _ (by rw [h.c7]; decide) (by rw [h.c7]; decide)).trans h.c7
  · exact (old _ (by rw [h.c8 k hk]; decide) (by rw [h.c8 k hk]; decide)).trans (h.c8 k hk)
end
end Go.Proofs.YtgflkpccddfalaaGreatDoor

/- A Heap in memory, whatever its collector does: Shade, Black, Barrier, Left; the view. -/
namespace Go.Proofs.YtgflkpccddfalaaGreatDoor
set_option maxRecDepth 100000
open Go.ChangeShapes Go.WideShapes Go.ChangeAt Go.RowKit Go.Maps Go.ChangeMaps Go.MapKept Go.Deep

theorem keyB : Keyed Tryz.prog 3 := int_keyed Tryz.underlying3
theorem zero_unitB (w : World) : (zeroValue 145).run Tryz.prog w = .ok (.agg #[]) w := by kernel_rfl
/-- What of it changes. -/
structure Gq where
  c : Nat → Nat
  gl : List Int
  qs : List Nat
/-- The blocks that its calls turn. -/
def ownG (x : Hx) (g : Gq) (d : Nat) : Prop := d = x.xl.d.wb ∨ d = x.xl.d.sb ∨ d = x.xl.ub ∨ d = x.b.cb ∨ d = x.b.mb ∨ d = x.b.q ∨ d ∈ g.qs
section
variable {W w w' : World} {x : Hx} {al al' : Al} {l : List Hd.Shp} {n : Nat} {ao : Option Addr} {cap : Nat} {nv : Value} {ph kept done fc : Int} {bk : List Int} {g : Gq}
abbrev HGq (W : World) (x : Hx) (l : List Hd.Shp) (n : Nat) (ao : Option Addr) (cap : Nat) (nv : Value) (ph kept done fc : Int) (bk : List Int) (w : World) (al : Al) (g : Gq) : Prop := HG W w x al l n ao cap nv g.c ph kept done fc bk g.gl g.qs
theorem frg_tn (t : TnL w w' x.xl) : Fr (ownG x g) (ownG x g) w w' := ⟨t.size, fun d hd ho => t.block d hd (fun e => ho (Or.inl e)) (fun e => ho (Or.inr (Or.inl e))) (fun e => ho (Or.inr (Or.inr (Or.inl e)))), fun _ h => Or.inl h⟩
theorem hv_hg (W : World) (x : Hx) (l : List Hd.Shp) (n : Nat) (ao : Option Addr) (cap : Nat) (nv : Value) (ph kept done fc : Int) (bk : List Int) (hf : ∀ s ∈ l, s.m < 18446744073709551616) : HV (HGq W x l n ao cap nv ph kept done fc bk) (ownG x) x.hb x.b.cb x.xl.d.ab l := by
  refine ⟨fun w al _ a h => hb_of (hide h.hB) a, fun w w' al _ h g => h.gr g, fun w al _ h d hd => ?_, fun w al _ h => hb_cycle (hide h.hB), fun w al _ h => b_arena (hide h.hB), fun w al _ a i h => (ls_read (hide h.st) a i).mono fun _ _ hh => ⟨hh.1, hh.2.2⟩, fun w al _ a i v h => (ls_write (hide h.st) a i v).mono fun _ _ hh => ⟨hh.1, h.turn hh.2.1 hh.2.2, frg_tn hh.2.2⟩, hf⟩
  obtain ⟨_, l2, l3, l4, _⟩ := h.alt
  obtain ⟨e1, e2, e3, e4, e5⟩ := h.clt
  rcases hd with rfl | rfl | rfl | rfl | rfl | rfl | hd
  · exact l2
  · exact l3
  · exact l4
  · exact e1
  · exact e3
  · exact e4
  · exact h.que.ltb d hd
/-- Shading, plainly. -/
def shA (al : Al) (y : Int) : Al := ⟨al.a.markA y, al.u⟩
def shG (al : Al) (gl : List Int) (y : Int) : List Int := if al.a.markB y = true then gl ++ [y] else gl
theorem g_shade (h : Hid (HGq W x l n ao cap nv ph kept done fc bk w al g)) (hn : g.gl.length ≤ 900000) (y : Int) : Calls Tryz.prog 69 #[.pointer (some ⟨x.b.kb, 0, none⟩), .int .i64 y] w fun e w' => e = .returned (.bool (al.a.markB y)) ∧ ∃ g2 : Gq, g2.gl = shG al g.gl y ∧ HGq W x l n ao cap nv ph kept done fc bk w' (shA al y) g2 ∧ Fr (ownG x g) (ownG x g2) w w' := by
  have k0 := (unhide h).k0
  have CM : Hid (Calls Tryz.prog 66 #[.pointer (some ⟨x.xl.d.ab, 0, none⟩), .int .i64 y] w fun e w' => e = .returned (.bool (al.a.markB y)) ∧ Hid (HGq W x l n ao cap nv ph kept done fc bk w' (shA al y) g ∧ Fr (ownG x g) (ownG x g) w w')) := hide ((ls_mark (hide (unhide h).st) y).mono fun _ _ hh => ⟨hh.1, hide ⟨(unhide h).turn hh.2.1 hh.2.2, frg_tn hh.2.2⟩⟩)
  have CQ : Hid (∀ y1, HGq W x l n ao cap nv ph kept done fc bk y1 (shA al y) g → Calls Tryz.prog 84 #[.pointer (some ⟨x.b.q, 0, none⟩), .int .i64 y] y1 fun e w' => e = .returned (.tuple #[]) ∧ Hid (∃ g2 : Gq, g2.gl = g.gl ++ [y] ∧ HGq W x l n ao cap nv ph kept done fc bk w' (shA al y) g2 ∧ Fr (ownG x g) (ownG x g2) y1 w')) := hide fun y1 hy => (Gy.q_add hy.que hn y).mono fun _ _ hh => by
    obtain ⟨c', qs', hc, hq, S⟩ := hy.queue hh.2
    obtain ⟨_, _, t, _⟩ := hh.2
    refine ⟨hh.1, hide ⟨⟨c', g.gl ++ [y], qs'⟩, rfl, S, t.size, fun d hd ho => t.block d hd (fun e => ho (Or.inr (Or.inr (Or.inr (Or.inr (Or.inr (Or.inl e))))))) (fun e => ho (Or.inr (Or.inr (Or.inr (Or.inr (Or.inr (Or.inr e))))))), fun d hd => ?_⟩⟩
    rcases hd with e | e | e | e | e | e | e
    · exact Or.inl (Or.inl e)
    · exact Or.inl (Or.inr (Or.inl e))
    · exact Or.inl (Or.inr (Or.inr (Or.inl e)))
    · exact Or.inl (Or.inr (Or.inr (Or.inr (Or.inl e))))
    · exact Or.inl (Or.inr (Or.inr (Or.inr (Or.inr (Or.inl e)))))
    · exact Or.inl (Or.inr (Or.inr (Or.inr (Or.inr (Or.inr (Or.inl e))))))
    · rcases hq d e with e | e
      · exact Or.inl (Or.inr (Or.inr (Or.inr (Or.inr (Or.inr (Or.inr e))))))
      · exact Or.inr e
  have HK : Hid (∀ y1, HGq W x l n ao cap nv ph kept done fc bk y1 (shA al y) g → y1.cell? ⟨x.b.kb, 2, none⟩ = some (.pointer (some ⟨x.b.q, 0, none⟩))) := hide fun y1 hy => hy.k2
  unfold shG
  generalize al.a.markB y = mb at CM ⊢
  clear h hn
  cases mb
  · go_enter Tryz.func69, Tryz.ntmps69
    go_wp2_with fail
    refine (unhide CM).mono ?_
    rintro e w1 ⟨rfl, h1⟩
    clear CM CQ HK
    go_wp2_with fail
    go_ret
    exact ⟨rfl, g, rfl, (unhide h1).1, (unhide h1).2⟩
  · go_enter Tryz.func69, Tryz.ntmps69
    go_wp2_with fail
    refine (unhide CM).mono ?_
    rintro e w1 ⟨rfl, h1⟩
    have k2 := unhide HK w1 (unhide h1).1
    have CQ1 := hide (unhide CQ w1 (unhide h1).1)
    clear CM CQ HK
    go_wp2_with fail
    refine (unhide CQ1).mono ?_
    rintro e w2 ⟨rfl, h2⟩
    clear CQ1
    go_wp2_with fail
    go_ret
    obtain ⟨g2, e2, S2, f2⟩ := unhide h2
    exact ⟨rfl, g2, e2, S2, (unhide h1).2.trans f2⟩
theorem g_black (h : Hid (HGq W x l n ao cap nv ph kept done fc bk w al g)) (i : Int) (hi : wfN i) : Calls Tryz.prog 70 #[.pointer (some ⟨x.b.cb, 0, none⟩), .int .i64 i] w fun e w' => e = .returned (.bool (decide (i ∈ bk))) ∧ G w w' := by
  have c5 := (unhide h).cb.c5
  obtain ⟨D, hD, hh⟩ := (unhide h).mp
  have ow := hide hD
  have hI := hh i hi
  clear hh hD
  go_enter Tryz.func70, Tryz.ntmps70
  go_wp2_with (at_lookup; refine wpList_lookup_own_unit _ rfl _ _ 86 rfl 3 145 keyB Tryz.underlying86 (zero_unitB _) x.b.mb _ D rfl (unhide ow) _ (.int .i64 i) rfl (keyOf_int_mk Tryz.underlying3 hi) ?_; rw [hI])
  go_ret
  exact ⟨rfl, G.alloc _ _⟩
theorem g_shades (h : Hid (HGq W x l n ao cap nv ph kept done fc bk w al g)) : Calls Tryz.prog 65 #[.pointer (some ⟨x.b.cb, 0, none⟩)] w fun e w' => e = .returned (.bool (ph == 1 || ph == 2)) ∧ w' = w := by
  have c4 := (unhide h).cb.c4
  cases h1 : ph == 1
  · go_enter Tryz.func65, Tryz.ntmps65
    go_wp2_with fail
    go_ret
    exact ⟨by simp, rfl⟩
  · go_enter Tryz.func65, Tryz.ntmps65
    go_wp2_with fail
    go_ret
    exact ⟨by simp, rfl⟩
/-- While roots are shaded and things are looked at. -/
def baA (al : Al) (bk : List Int) (old v id : Int) : Al := if id ∈ bk then shA al old else shA (shA al old) v
def baG (al : Al) (bk gl : List Int) (old v id : Int) : List Int := if id ∈ bk then shG al gl old else shG (shA al old) (shG al gl old) v
theorem shG_len (al : Al) (gl : List Int) (y : Int) : (shG al gl y).length ≤ gl.length + 1 := by
  unfold shG
  split
  · rw [List.length_append, List.length_singleton]; exact Nat.le_refl _
  · exact Nat.le_succ _
set_option maxHeartbeats 1000000 in
theorem g_barrier (hp : (ph == 1 || ph == 2) = true) (h : Hid (HGq W x l n ao cap nv ph kept done fc bk w al g)) (hn : g.gl.length ≤ 800000) (old v id : Int) (hi : wfN id) : Calls Tryz.prog 52 #[.pointer (some ⟨x.b.cb, 0, none⟩), .int .i64 old, .int .i64 v, .int .i64 id] w fun e w' => e = .returned (.tuple #[]) ∧ ∃ g2 : Gq, g2.gl = baG al bk g.gl old v id ∧ HGq W x l n ao cap nv ph kept done fc bk w' (baA al bk old v id) g2 ∧ Fr (ownG x g) (ownG x g2) w w' := by
  have CS := hide (g_shades h)
  rw [hp] at CS
  have c3 := (unhide h).cb.c3
  have C1 := hide (g_shade h (by omega) old)
  generalize al.a.markB old = mo at C1
  have C2 : Hid (∀ y1 g1, g1.gl = shG al g.gl old → HGq W x l n ao cap nv ph kept done fc bk y1 (shA al old) g1 → Calls Tryz.prog 70 #[.pointer (some ⟨x.b.cb, 0, none⟩), .int .i64 id] y1 fun e w' => e = .returned (.bool (decide (id ∈ bk))) ∧ Hid (HGq W x l n ao cap nv ph kept done fc bk w' (shA al old) g1 ∧ G y1 w')) := hide fun y1 g1 _ hy => (g_black (hide hy) id hi).mono fun _ _ hh => ⟨hh.1, hide ⟨hy.gr hh.2, hh.2⟩⟩
  have C3 : Hid (∀ y1 g1, g1.gl = shG al g.gl old → HGq W x l n ao cap nv ph kept done fc bk y1 (shA al old) g1 → Calls Tryz.prog 69 #[.pointer (some ⟨x.b.kb, 0, none⟩), .int .i64 v] y1 fun e w' => (∃ r, e = .returned (.bool r)) ∧ Hid (∃ g2 : Gq, g2.gl = shG (shA al old) (shG al g.gl old) v ∧ HGq W x l n ao cap nv ph kept done fc bk w' (shA (shA al old) v) g2 ∧ Fr (ownG x g1) (ownG x g2) y1 w')) := hide fun y1 g1 e1 hy => by
    have := g_shade (hide hy) (by rw [e1]; have := shG_len al g.gl old; omega) v
    rw [e1] at this
    exact this.mono fun _ _ hh => ⟨⟨_, hh.1⟩, hide hh.2⟩
  have HC : Hid (∀ y1 g1, HGq W x l n ao cap nv ph kept done fc bk y1 (shA al old) g1 → y1.cell? ⟨x.b.cb, 3, none⟩ = some (.pointer (some ⟨x.b.kb, 0, none⟩))) := hide fun y1 g1 hy => hy.cb.c3
  by_cases hb : id ∈ bk
  · rw [show baA al bk old v id = shA al old from if_pos hb, show baG al bk g.gl old v id = shG al g.gl old from if_pos hb]
    rw [decide_eq_true hb] at C2
    clear h hn hp C3 HC hb
    go_enter Tryz.func52, Tryz.ntmps52
    go_wp2_with fail
    refine (unhide CS).mono ?_
    rintro e w1 ⟨rfl, hw⟩
    rw [hw]
    clear hw CS w1
    go_wp2_with fail
    refine (unhide C1).mono ?_
    rintro e w2 ⟨rfl, g2, e2, S2, f2⟩
    have K2 := hide (unhide C2 w2 g2 e2 S2)
    have F2 := hide (And.intro e2 f2)
    clear C1 C2 e2 S2 f2
    go_wp2_with fail
    refine (unhide K2).mono ?_
    rintro e w3 ⟨rfl, h3⟩
    clear K2
    go_wp2_with fail
    go_end0
    exact ⟨rfl, g2, (unhide F2).1, (unhide h3).1, (unhide F2).2.g (unhide h3).2⟩
  · rw [show baA al bk old v id = shA (shA al old) v from if_neg hb, show baG al bk g.gl old v id = shG (shA al old) (shG al g.gl old) v from if_neg hb]
    rw [decide_eq_false hb] at C2
    clear h hn hp hb
    go_enter Tryz.func52, Tryz.ntmps52
    go_wp2_with fail
    refine (unhide CS).mono ?_
    rintro e w1 ⟨rfl, hw⟩
    rw [hw]
    clear hw CS w1
    go_wp2_with fail
    refine (unhide C1).mono ?_
    rintro e w2 ⟨rfl, g2, e2, S2, f2⟩
    have K2 := hide (unhide C2 w2 g2 e2 S2)
    have F2 := hide (And.intro e2 f2)
    clear C1 C2 e2 S2 f2
    go_wp2_with fail
    refine (unhide K2).mono ?_
    rintro e w3 ⟨rfl, h3⟩
    have d3 := unhide HC w3 g2 (unhide h3).1
    have K3 := hide (unhide C3 w3 g2 (unhide F2).1 (unhide h3).1)
    clear K2 C3 HC
    go_wp2_with fail
    refine (unhide K3).mono ?_
    rintro e w4 ⟨⟨r4, rfl⟩, h4⟩
    clear K3
    go_wp2_with fail
    go_end0
    obtain ⟨g4, e4, S4, f4⟩ := unhide h4
    exact ⟨rfl, g4, e4, S4, ((unhide F2).2.g (unhide h3).2).trans f4⟩
theorem g_barrier0 (hp : (ph == 1 || ph == 2) = false) (h : Hid (HGq W x l n ao cap nv ph kept done fc bk w al g)) (old v id : Int) : Calls Tryz.prog 52 #[.pointer (some ⟨x.b.cb, 0, none⟩), .int .i64 old, .int .i64 v, .int .i64 id] w fun e w' => e = .returned (.tuple #[]) ∧ w' = w := by
  have CS := hide (g_shades h)
  rw [hp] at CS
  clear h hp
  go_enter Tryz.func52, Tryz.ntmps52
  go_wp2_with fail
  refine (unhide CS).mono ?_
  rintro e w1 ⟨rfl, hw⟩
  rw [hw]
  clear hw CS w1
  go_wp2_with fail
  go_returns
  exact ⟨rfl, rfl⟩
end
end Go.Proofs.YtgflkpccddfalaaGreatDoor

/- PLAIN: what can be come to; marking as chapter 7 tells of it, over any addresses and any fields; no Go in it. -/
namespace Go.Proofs.YtgflkpccddfalaaGreatDoor
set_option maxRecDepth 100000

/-! ### lists -/
theorem nodup_sub {α : Type} [DecidableEq α] : ∀ {l1 l2 : List α}, l1.Nodup → (∀ y, y ∈ l1 → y ∈ l2) → l1.length ≤ l2.length
  | [], _, _, _ => Nat.zero_le _
  | x :: r, l2, h, hs => by
    obtain ⟨hx, hr⟩ := List.nodup_cons.1 h
    have hm := hs x List.mem_cons_self
    have : r.length ≤ (l2.erase x).length := nodup_sub hr fun y hy => by
      have hne : y ≠ x := fun e => hx (e ▸ hy)
      rw [List.mem_erase_of_ne hne]
      exact hs y (List.mem_cons_of_mem _ hy)
    rw [List.length_erase_of_mem hm] at this
    have hp : 0 < l2.length := List.length_pos_of_mem hm
    rw [List.length_cons]
    omega
theorem nodup_len {α : Type} [DecidableEq α] {l1 l2 : List α} (h1 : l1.Nodup) (h2 : l2.Nodup) (h : ∀ y, y ∈ l1 ↔ y ∈ l2) : l1.length = l2.length :=
  Nat.le_antisymm (nodup_sub h1 fun y hy => (h y).1 hy) (nodup_sub h2 fun y hy => (h y).2 hy)
/-- Rising. -/
abbrev Asc (l : List Int) : Prop := l.Pairwise fun x y => x < y
theorem Asc.nodup {l : List Int} (h : Asc l) : l.Nodup := List.Pairwise.imp (fun h => by omega) h
theorem Asc.ext : ∀ {l1 l2 : List Int}, Asc l1 → Asc l2 → (∀ y, y ∈ l1 ↔ y ∈ l2) → l1 = l2
  | [], [], _, _, _ => rfl
  | [], y :: _, _, _, h => by have := (h y).2 List.mem_cons_self; cases this
  | x :: _, [], _, _, h => by have := (h x).1 List.mem_cons_self; cases this
  | x :: r, y :: t, h1, h2, h => by
    obtain ⟨a1, a2⟩ := List.pairwise_cons.1 h1
    obtain ⟨b1, b2⟩ := List.pairwise_cons.1 h2
    have exy : x = y := by
      rcases List.mem_cons.1 ((h x).1 List.mem_cons_self) with e | e
      · exact e
      · rcases List.mem_cons.1 ((h y).2 List.mem_cons_self) with e2 | e2
        · exact e2.symm
        · have := a1 y e2
          have := b1 x e
          omega
    subst exy
    have : r = t := Asc.ext a2 b2 fun z => by
      constructor
      · intro hz
        rcases List.mem_cons.1 ((h z).1 (List.mem_cons_of_mem _ hz)) with e | e
        · have := a1 z hz; omega
        · exact e
      · intro hz
        rcases List.mem_cons.1 ((h z).2 (List.mem_cons_of_mem _ hz)) with e | e
        · have := b1 z hz; omega
        · exact e
    rw [this]

/-! ### what can be come to -/
section
variable (is : Int → Bool) (F : Int → List Int)
/-- It is in whatever holds the roots and is closed. -/
def Rch (S : List Int) (y : Int) : Prop := ∀ P : Int → Prop, (∀ y, y ∈ S → is y = true → P y) → (∀ x y, P x → y ∈ F x → is y = true → P y) → P y
variable {is F}
theorem Rch.root {S : List Int} {y : Int} (h : y ∈ S) (hi : is y = true) : Rch is F S y := fun _ h0 _ => h0 y h hi
theorem Rch.step {S : List Int} {x y : Int} (h : Rch is F S x) (hy : y ∈ F x) (hi : is y = true) : Rch is F S y := fun P h0 h1 => h1 x y (h P h0 h1) hy hi
/-- What holds the roots and is closed holds all. -/
theorem Rch.least {S : List Int} {P : Int → Prop} (h0 : ∀ y, y ∈ S → is y = true → P y) (h1 : ∀ x y, P x → y ∈ F x → is y = true → P y) {y : Int} (r : Rch is F S y) : P y := r P h0 h1
theorem Rch.taken {S : List Int} {y : Int} (h : Rch is F S y) : is y = true := h.least (P := fun y => is y = true) (fun _ _ h => h) (fun _ _ _ _ h => h)
theorem Rch.mono {S T : List Int} (h : ∀ y, y ∈ S → y ∈ T) {y : Int} (r : Rch is F S y) : Rch is F T y := r.least (P := Rch is F T) (fun y a b => Rch.root (h y a) b) (fun _ _ a b c => Rch.step a b c)
theorem Rch.again {S T : List Int} (h : ∀ y, y ∈ T → Rch is F S y) {y : Int} (r : Rch is F T y) : Rch is F S y := r.least (P := Rch is F S) (fun y a _ => h y a) (fun _ _ a b c => Rch.step a b c)

/-! ### marking -/
/-- What is marked, in the order in which it was; what of it is grey. -/
structure Mk where
  m : List Int
  g : List Int
variable (is F)
def Mk.shade (k : Mk) (y : Int) : Mk := if is y = true ∧ y ∉ k.m then ⟨k.m ++ [y], k.g ++ [y]⟩ else k
def Mk.shades (k : Mk) : List Int → Mk
  | [] => k
  | y :: r => Mk.shades (k.shade is y) r
variable {is F}
theorem shade_mem (k : Mk) (y z : Int) : z ∈ (k.shade is y).m ↔ z ∈ k.m ∨ (z = y ∧ is y = true) := by
  unfold Mk.shade
  split
  · rename_i h
    simp only [List.mem_append, List.mem_singleton]
    constructor
    · rintro (e | e)
      · exact Or.inl e
      · exact Or.inr ⟨e, h.1⟩
    · rintro (e | ⟨e, _⟩)
      · exact Or.inl e
      · exact Or.inr e
  · rename_i h
    constructor
    · exact Or.inl
    · rintro (e | ⟨rfl, e⟩)
      · exact e
      · exact Classical.byContradiction fun hn => h ⟨e, hn⟩
theorem shades_mem : ∀ (l : List Int) (k : Mk) (z : Int), z ∈ (k.shades is l).m ↔ z ∈ k.m ∨ (z ∈ l ∧ is z = true)
  | [], k, z => by simp [Mk.shades]
  | y :: r, k, z => by
    rw [Mk.shades, shades_mem r, shade_mem]
    simp only [List.mem_cons]
    constructor
    · rintro ((e | ⟨rfl, e⟩) | ⟨e1, e2⟩)
      · exact Or.inl e
      · exact Or.inr ⟨Or.inl rfl, e⟩
      · exact Or.inr ⟨Or.inr e1, e2⟩
    · rintro (e | ⟨rfl | e1, e2⟩)
      · exact Or.inl (Or.inl e)
      · exact Or.inl (Or.inr ⟨rfl, e2⟩)
      · exact Or.inr ⟨e1, e2⟩

/-- What stays while marking goes on: both lists without doubles, the grey ones marked, so many more than the grey ones. -/
structure MOk (k : Mk) (n : Nat) : Prop where
  gm : ∀ y, y ∈ k.g → y ∈ k.m
  ndm : k.m.Nodup
  ndg : k.g.Nodup
  cnt : n + k.g.length = k.m.length
theorem nodup_snoc {l : List Int} {y : Int} (h : l.Nodup) (hy : y ∉ l) : (l ++ [y]).Nodup := by
  rw [List.nodup_append]
  refine ⟨h, by simp, fun a ha b hb => ?_⟩
  simp at hb
  subst hb
  exact fun e => hy (e ▸ ha)
theorem MOk.shade {k : Mk} {n : Nat} (h : MOk k n) (y : Int) : MOk (k.shade is y) n := by
  unfold Mk.shade
  split
  · rename_i hh
    refine ⟨fun z hz => ?_, nodup_snoc h.ndm hh.2, nodup_snoc h.ndg fun e => hh.2 (h.gm y e), by have := h.cnt; simp; omega⟩
    rcases List.mem_append.1 hz with e | e
    · exact List.mem_append.2 (Or.inl (h.gm z e))
    · exact List.mem_append.2 (Or.inr e)
  · exact h
theorem MOk.shades : ∀ (l : List Int) {k : Mk} {n : Nat}, MOk k n → MOk (k.shades is l) n
  | [], _, _, h => h
  | y :: r, _, _, h => MOk.shades r (h.shade y)
/-- Those that were grey are grey still. -/
theorem shade_grey (k : Mk) (y z : Int) (h : z ∈ k.g) : z ∈ (k.shade is y).g := by
  unfold Mk.shade
  split
  · exact List.mem_append.2 (Or.inl h)
  · exact h
/-- Whatever is newly marked is grey. -/
theorem shade_new (k : Mk) (y z : Int) (h : z ∈ (k.shade is y).m) (hn : z ∉ k.m) : z ∈ (k.shade is y).g := by
  unfold Mk.shade at h ⊢
  split
  · rename_i hh
    rw [if_pos hh] at h
    rcases List.mem_append.1 h with e | e
    · exact absurd e hn
    · exact List.mem_append.2 (Or.inr e)
  · rename_i hh
    rw [if_neg hh] at h
    exact absurd h hn
theorem shades_grey : ∀ (l : List Int) (k : Mk) (z : Int), z ∈ k.g → z ∈ (k.shades is l).g
  | [], _, _, h => h
  | y :: r, k, z, h => shades_grey r _ z (shade_grey k y z h)
theorem shades_new : ∀ (l : List Int) (k : Mk) (z : Int), z ∈ (k.shades is l).m → z ∉ k.m → z ∈ (k.shades is l).g
  | [], _, _, h, hn => absurd h hn
  | y :: r, k, z, h, hn => by
    rw [Mk.shades] at h ⊢
    by_cases e : z ∈ (k.shade is y).m
    · exact shades_grey r _ z (shade_new k y z e hn)
    · exact shades_new r _ z h e

/-- From roots that were shaded: n looked at. -/
structure MInv (S : List Int) (k : Mk) (n : Nat) : Prop where
  ok : MOk k n
  sub : ∀ y, y ∈ k.m → Rch is F S y
  roots : ∀ y, y ∈ S → is y = true → y ∈ k.m
  clo : ∀ x, x ∈ k.m → x ∉ k.g → ∀ y, y ∈ F x → is y = true → y ∈ k.m

theorem minv_start (S : List Int) : MInv (is := is) (F := F) S (Mk.shades is ⟨[], []⟩ S) 0 := by
  have ok : MOk (Mk.shades is ⟨[], []⟩ S) 0 := MOk.shades S ⟨(fun y hy => by cases hy), List.nodup_nil, List.nodup_nil, rfl⟩
  refine ⟨ok, fun y hy => ?_, fun y hy h => (shades_mem S _ y).2 (Or.inr ⟨hy, h⟩), fun x hx hg => absurd (shades_new S _ x hx (by simp)) hg⟩
  rcases (shades_mem S _ y).1 hy with e | ⟨e, h⟩
  · cases e
  · exact .root e h
theorem MInv.step {S : List Int} {m : List Int} {x : Int} {r : List Int} {n : Nat} (h : MInv (is := is) (F := F) S ⟨m, x :: r⟩ n) : MInv (is := is) (F := F) S (Mk.shades is ⟨m, r⟩ (F x)) (n + 1) := by
  obtain ⟨hx, hr⟩ := List.nodup_cons.1 h.ok.ndg
  have hxm : x ∈ m := h.ok.gm x List.mem_cons_self
  have ok0 : MOk ⟨m, r⟩ (n + 1) := ⟨fun y hy => h.ok.gm y (List.mem_cons_of_mem _ hy), h.ok.ndm, hr, by have := h.ok.cnt; simp at this ⊢; omega⟩
  refine ⟨MOk.shades _ ok0, fun y hy => ?_, fun y hy hi => (shades_mem _ _ y).2 (Or.inl (h.roots y hy hi)), fun z hz hg y hy hi => ?_⟩
  · rcases (shades_mem _ _ y).1 hy with e | ⟨e, hi⟩
    · exact h.sub y e
    · exact .step (h.sub x hxm) e hi
  · refine (shades_mem _ _ y).2 ?_
    by_cases e : z = x
    · subst e; exact Or.inr ⟨hy, hi⟩
    · by_cases em : z ∈ m
      · by_cases eg : z ∈ x :: r
        · rcases List.mem_cons.1 eg with e2 | e2
          · exact absurd e2 e
          · exact absurd (shades_grey _ _ z e2) hg
        · exact Or.inl (h.clo z em eg y hy hi)
      · exact absurd (shades_new _ _ z hz em) hg
/-- When none is grey, just what can be come to is marked, and so many were looked at. -/
theorem MInv.done {S m : List Int} {n : Nat} (h : MInv (is := is) (F := F) S ⟨m, []⟩ n) : (∀ y, y ∈ m ↔ Rch is F S y) ∧ n = m.length := by
  refine ⟨fun y => ⟨h.sub y, fun r => ?_⟩, by have := h.ok.cnt; simpa using this⟩
  exact Rch.least (P := fun y => y ∈ m) h.roots (fun x y hx hy hi => h.clo x hx (by simp) y hy hi) r
theorem MInv.few {S m g : List Int} {n : Nat} (h : MInv (is := is) (F := F) S ⟨m, g⟩ n) {A : List Int} (hA : ∀ y, is y = true → y ∈ A) : n ≤ A.length := by
  have h1 := nodup_sub h.ok.ndm fun y hy => hA y (h.sub y hy).taken
  have h2 := h.ok.cnt
  simp only at h1 h2
  omega
end
end Go.Proofs.YtgflkpccddfalaaGreatDoor

/- PLAIN: an object's fields, a marker over an arena; against marking over any addresses. -/
namespace Go.Proofs.YtgflkpccddfalaaGreatDoor
set_option maxRecDepth 100000

/-- The words of the fields that hold addresses, but nought. -/
def fldL (k : Int) (m n : Nat) (wd : Nat → Int) : List Int := (List.range (n - 1)).filterMap fun (f : Nat) => if Hd.holdsB k m (f : Int) (n : Int) = true ∧ wd (1 + f) ≠ 0 then some (wd (1 + f)) else none
/-- P7.1's Fields; the table as kinds and maps by their numbers. -/
def Ab.flds (a : Ab) (T : List (Int × Nat)) (x : Int) : List Int :=
  if a.is x = true ∧ Hd.uokB (a.wd x) = true ∧ Hd.up0 (a.wd x) ≤ gw (a.clsI (gs x)) then
    match T[(Hd.up2 (a.wd x)).toNat]? with
    | some (k, m) => fldL k m (Hd.up0 (a.wd x)).toNat fun i => a.wd (x + i)
    | none => []
  else []

/-! ### marking turns marks alone -/
theorem markA_same (a : Ab) (x : Int) : (a.markA x).n = a.n ∧ (a.markA x).cls = a.cls ∧ (a.markA x).tk = a.tk ∧ (a.markA x).wd = a.wd := by
  unfold Ab.markA
  split
  · exact ⟨rfl, rfl, rfl, rfl⟩
  · exact ⟨rfl, rfl, rfl, rfl⟩
theorem markA_clsI (a : Ab) (x s : Int) : (a.markA x).clsI s = a.clsI s := by
  obtain ⟨e1, e2, _, _⟩ := markA_same a x
  unfold Ab.clsI
  rw [e1, e2]
theorem markA_is (a : Ab) (x y : Int) : (a.markA x).is y = a.is y := by
  unfold Ab.is
  rw [markA_clsI, (markA_same a x).2.2.1]
theorem markA_flds (a : Ab) (T : List (Int × Nat)) (x y : Int) : (a.markA x).flds T y = a.flds T y := by
  unfold Ab.flds
  rw [markA_is, markA_clsI, (markA_same a x).2.2.2]
theorem where_is {a : Ab} (g : a.Good) {x : Int} (h : a.is x = true) : ∃ s p : Nat, 1 ≤ s ∧ s < a.n ∧ 0 ≤ a.cls s ∧ (p : Int) < gp (a.cls s) ∧ x = ga s p (a.cls s) ∧ gs x = s ∧ a.pl x = p := by
  obtain ⟨s, p, h1, h2, h3, h4, _, rfl⟩ := (Ab.is_iff g.ok x).1 h
  have n1 := g.ok.n1
  obtain ⟨_, e1, e2, _⟩ := ga_at (s := s) (p := p) h1 (by omega) h3 (g.ok.cr s).2 h4
  exact ⟨s, p, h1, h2, h3, h4, rfl, e1, by unfold Ab.pl; rw [e1, a.clsI_at h1 h2, e2]⟩
theorem markA_isM {a : Ab} (g : a.Good) {x y : Int} (hx : a.markB x = true) (hy : a.is y = true) : (a.markA x).isM y = (a.isM y || decide (y = x)) := by
  have hxi : a.is x = true := by unfold Ab.markB at hx; simp at hx; exact hx.1
  obtain ⟨s, p, h1, h2, h3, h4, ex, e1, e2⟩ := where_is g hxi
  obtain ⟨t, q, k1, k2, k3, k4, ey, f1, f2⟩ := where_is g hy
  have eA : a.markA x = a.mark s p := by unfold Ab.markA; rw [if_pos hx, e1, e2]; rfl
  have ep : (a.markA x).pl y = q := by unfold Ab.pl at f2 ⊢; rw [markA_clsI]; exact f2
  unfold Ab.isM
  rw [ep, f2, f1, ((a.markA x).I_at (s := t) k1 (by rw [(markA_same a x).1]; exact k2)).2.2, (a.I_at k1 k2).2.2, eA]
  show (upd a.mr s (a.mr s ||| 2 ^ p) t).testBit (q : Int).toNat = _
  have hq : (q : Int).toNat = q := by simp
  rw [hq]
  by_cases e : t = s
  · subst e
    rw [upd_same, Nat.testBit_or, Nat.testBit_two_pow]
    congr 1
    rw [Bool.eq_iff_iff]
    simp only [decide_eq_true_eq]
    constructor
    · intro e; subst e; rw [ex, ey]
    · intro e
      have : (p : Int) = q := by rw [← e2, ← f2, e]
      omega
  · rw [upd_other _ _ e]
    have : ¬ y = x := by
      intro e3
      have : (t : Int) = s := by rw [← f1, ← e1, e3]
      omega
    simp [this]

/-! ### a marker -/
structure Mr where
  a : Ab
  T : List (Int × Nat)
  g : List Int
def Mr.shade (M : Mr) (x : Int) : Mr := if M.a.markB x = true then ⟨M.a.markA x, M.T, M.g ++ [x]⟩ else M
def Mr.shades (M : Mr) : List Int → Mr
  | [] => M
  | y :: r => Mr.shades (M.shade y) r
def Mr.step (M : Mr) : Mr :=
  match M.g with
  | [] => M
  | x :: r => Mr.shades ⟨M.a, M.T, r⟩ (M.a.flds M.T x)
theorem Mr.shade_T (M : Mr) (x : Int) : (M.shade x).T = M.T := by unfold Mr.shade; split <;> rfl
theorem Mr.shade_n (M : Mr) (x : Int) : (M.shade x).a.n = M.a.n := by
  unfold Mr.shade
  split
  · exact (markA_same _ _).1
  · rfl

/-- The marker does as marking over the addresses that are taken, by these fields. -/
structure Sim (is : Int → Bool) (F : Int → List Int) (M : Mr) (k : Mk) : Prop where
  eg : M.g = k.g
  is_ : ∀ z, M.a.is z = is z
  fl : ∀ z, M.a.flds M.T z = F z
  mz : ∀ z, is z = true → (M.a.isM z = true ↔ z ∈ k.m)
  good : M.a.Good
section
variable {is : Int → Bool} {F : Int → List Int} {M : Mr} {k : Mk}
theorem Sim.markB (h : Sim is F M k) (y : Int) : M.a.markB y = true ↔ (is y = true ∧ y ∉ k.m) := by
  unfold Ab.markB
  rw [h.is_ y, Bool.and_eq_true, Bool.not_eq_true']
  constructor
  · rintro ⟨h1, h2⟩
    exact ⟨h1, fun hm => by rw [(h.mz y h1).2 hm] at h2; cases h2⟩
  · rintro ⟨h1, h2⟩
    refine ⟨h1, ?_⟩
    rw [← Bool.not_eq_true]
    exact fun e => h2 ((h.mz y h1).1 e)
theorem Sim.shade (h : Sim is F M k) (y : Int) : Sim is F (M.shade y) (k.shade is y) := by
  unfold Mr.shade Mk.shade
  by_cases hb : M.a.markB y = true
  · have hk := (h.markB y).1 hb
    rw [if_pos hb, if_pos hk]
    refine ⟨by show M.g ++ [y] = k.g ++ [y]; rw [h.eg], fun z => (markA_is _ _ _).trans (h.is_ z), fun z => (markA_flds _ _ _ _).trans (h.fl z), fun z hz => ?_, h.good.markA y⟩
    show (M.a.markA y).isM z = true ↔ z ∈ k.m ++ [y]
    rw [markA_isM h.good hb (by rw [h.is_ z]; exact hz), Bool.or_eq_true, h.mz z hz, List.mem_append, List.mem_singleton, decide_eq_true_eq]
  · have hk : ¬ (is y = true ∧ y ∉ k.m) := fun e => hb ((h.markB y).2 e)
    rw [if_neg hb, if_neg hk]
    exact h
theorem Sim.shades : ∀ (l : List Int) {M : Mr} {k : Mk}, Sim is F M k → Sim is F (M.shades l) (k.shades is l)
  | [], _, _, h => h
  | y :: r, _, _, h => Sim.shades r (h.shade y)
theorem Sim.step {m : List Int} {x : Int} {r : List Int} (h : Sim is F M ⟨m, x :: r⟩) : Sim is F M.step (Mk.shades is ⟨m, r⟩ (F x)) := by
  have e : M.step = Mr.shades ⟨M.a, M.T, r⟩ (F x) := by
    unfold Mr.step
    rw [h.eg]
    simp only
    rw [h.fl x]
  rw [e]
  exact Sim.shades _ ⟨rfl, h.is_, h.fl, h.mz, h.good⟩
end
end Go.Proofs.YtgflkpccddfalaaGreatDoor

/- PLAIN: a marker with its allocator: what it shades, what an object is, what it looks at. -/
namespace Go.Proofs.YtgflkpccddfalaaGreatDoor
set_option maxRecDepth 100000
open Go.ChangeShapes Go.WideShapes Go.ChangeAt Go.RowKit Go.Maps

/-- A marker with its allocator, plain. -/
structure Ms where
  al : Al
  T : List Hd.Shp
  g : List Int
def Ms.shade (M : Ms) (x : Int) : Ms := ⟨⟨M.al.a.markA x, M.al.u⟩, M.T, if M.al.a.markB x = true then M.g ++ [x] else M.g⟩
def tabOf (T : List Hd.Shp) : List (Int × Nat) := T.map fun s => (s.k, s.m)
def Ms.mr (M : Ms) : Mr := ⟨M.al.a, tabOf M.T, M.g⟩
def Ms.flds (M : Ms) (x : Int) : List Int := M.al.a.flds (tabOf M.T) x
def Ms.shades (M : Ms) : List Int → Ms
  | [] => M
  | y :: r => Ms.shades (M.shade y) r
theorem Ms.shade_mr (M : Ms) (x : Int) : (M.shade x).mr = M.mr.shade x := by
  unfold Ms.mr Mr.shade Ms.shade
  simp only
  split
  · rfl
  · rename_i h
    rw [show M.al.a.markA x = M.al.a by unfold Ab.markA; rw [if_neg h]]
theorem Ms.shades_mr : ∀ (l : List Int) (M : Ms), (M.shades l).mr = M.mr.shades l
  | [], _ => rfl
  | y :: r, M => by rw [Ms.shades, Ms.shades_mr r, Ms.shade_mr]; rfl

theorem is_gw {a : Ab} (g : a.Good) {x : Int} (h : a.is x = true) : 2 ≤ gw (a.clsI (gs x)) ∧ gw (a.clsI (gs x)) ≤ 64 := by
  obtain ⟨s, p, h1, h2, h3, h4, ex, e1, e2⟩ := where_is g h
  rw [e1, a.clsI_at h1 h2]
  rcases gw_gp (a.cls s) with ⟨_, e⟩ | ⟨_, e3, e4, _⟩ <;> omega

/-- An object: its shape and how many words it has; no words, if none begins there. -/
def Ms.obj (M : Ms) (x : Int) : Hd.Shp × Nat :=
  if M.al.a.is x = true ∧ Hd.uokB (M.al.a.wd x) = true ∧ Hd.up0 (M.al.a.wd x) ≤ gw (M.al.a.clsI (gs x)) then
    match M.T[(Hd.up2 (M.al.a.wd x)).toNat]? with
    | some s => (s, (Hd.up0 (M.al.a.wd x)).toNat)
    | none => (⟨0, 0, 0⟩, 0)
  else (⟨0, 0, 0⟩, 0)
theorem Ms.flds_obj (M : Ms) (x : Int) : M.flds x = fldL (M.obj x).1.k (M.obj x).1.m (M.obj x).2 fun i => M.al.a.wd (x + i) := by
  unfold Ms.flds Ab.flds Ms.obj
  split
  · rw [tabOf, List.getElem?_map]
    cases M.T[(Hd.up2 (M.al.a.wd x)).toNat]? <;> rfl
  · rfl

/-- The first j of the fields. -/
def fldP (k : Int) (m n : Nat) (wd : Nat → Int) (j : Nat) : List Int := (List.range j).filterMap fun (f : Nat) => if Hd.holdsB k m (f : Int) (n : Int) = true ∧ wd (1 + f) ≠ 0 then some (wd (1 + f)) else none
theorem fldP_all (k : Int) (m n : Nat) (wd : Nat → Int) : fldP k m n wd (n - 1) = fldL k m n wd := rfl
theorem fldP_no {k : Int} {m n : Nat} {wd : Nat → Int} {j : Nat} (h : ¬ (Hd.holdsB k m (j : Int) (n : Int) = true ∧ wd (1 + j) ≠ 0)) : fldP k m n wd (j + 1) = fldP k m n wd j := by
  unfold fldP
  rw [List.range_succ, List.filterMap_append]
  simp only [List.filterMap_cons, List.filterMap_nil, if_neg h, List.append_nil]
theorem fldP_yes {k : Int} {m n : Nat} {wd : Nat → Int} {j : Nat} (h : Hd.holdsB k m (j : Int) (n : Int) = true ∧ wd (1 + j) ≠ 0) : fldP k m n wd (j + 1) = fldP k m n wd j ++ [wd (1 + j)] := by
  unfold fldP
  rw [List.range_succ, List.filterMap_append]
  simp only [List.filterMap_cons, List.filterMap_nil, if_pos h]
theorem fldP_len (k : Int) (m n : Nat) (wd : Nat → Int) (j : Nat) : (fldP k m n wd j).length ≤ j := by
  unfold fldP
  exact Nat.le_trans (List.length_filterMap_le _ _) (by simp)

theorem uok_lo {v : Int} (h : Hd.uokB v = true) : 1 ≤ Hd.up0 v ∧ Hd.up0 v ≤ 64 ∧ 0 ≤ Hd.up2 v := by
  unfold Hd.uokB Hd.hokB at h
  simp only [Bool.and_eq_true, Hd.inB_iff] at h
  omega
theorem Ms.obj_cases (M : Ms) (x : Int) : M.obj x = (⟨0, 0, 0⟩, 0) ∨ ∃ s, s ∈ M.T ∧ M.al.a.is x = true ∧ M.obj x = (s, (Hd.up0 (M.al.a.wd x)).toNat) ∧ 1 ≤ Hd.up0 (M.al.a.wd x) ∧ Hd.up0 (M.al.a.wd x) ≤ 64 ∧ Hd.up0 (M.al.a.wd x) ≤ gw (M.al.a.clsI (gs x)) := by
  unfold Ms.obj
  split
  · rename_i hh
    cases hT : M.T[(Hd.up2 (M.al.a.wd x)).toNat]? with
    | none => exact Or.inl rfl
    | some s =>
      obtain ⟨u1, u2, _⟩ := uok_lo hh.2.1
      exact Or.inr ⟨s, List.mem_of_getElem? hT, hh.1, rfl, u1, u2, hh.2.2⟩
  · exact Or.inl rfl
def Ms.step (M : Ms) : Ms := match M.g with
  | [] => M
  | x :: r => Ms.shades ⟨M.al, M.T, r⟩ (M.flds x)
theorem Ms.shades_snoc : ∀ (l : List Int) (M : Ms) (y : Int), M.shades (l ++ [y]) = (M.shades l).shade y
  | [], _, _ => rfl
  | x :: r, M, y => by rw [List.cons_append]; unfold Ms.shades; exact Ms.shades_snoc r _ y
theorem Ms.shade_g (M : Ms) (y : Int) : (M.shade y).g.length ≤ M.g.length + 1 := by
  unfold Ms.shade
  simp only
  split
  · simp
  · omega
theorem Ms.shades_g : ∀ (l : List Int) (M : Ms), (M.shades l).g.length ≤ M.g.length + l.length
  | [], M => by simp [Ms.shades]
  | x :: r, M => by
    unfold Ms.shades
    have := Ms.shades_g r (M.shade x)
    have := M.shade_g x
    simp
    omega
theorem fldL_len (k : Int) (m n : Nat) (wd : Nat → Int) : (fldL k m n wd).length ≤ n - 1 := by rw [← fldP_all]; exact fldP_len _ _ _ _ _
theorem Ms.flds_len (M : Ms) (x : Int) : (M.flds x).length ≤ 63 := by
  rw [Ms.flds_obj]
  refine Nat.le_trans (fldL_len _ _ _ _) ?_
  rcases M.obj_cases x with e0 | ⟨s, hs, hi, e0, u1, u2, u3⟩ <;> rw [e0] <;> simp only <;> omega
theorem Ms.flds_wd (M : Ms) (x : Int) : ∀ y ∈ M.flds x, ∃ i, y = M.al.a.wd i := by
  intro y hy
  rw [Ms.flds_obj, fldL, List.mem_filterMap] at hy
  obtain ⟨f, _, hf⟩ := hy
  split at hf
  · injection hf with hf; exact ⟨_, hf.symm⟩
  · cases hf

theorem mread_yes {a : Ab} {x i : Int} (h : a.is x = true) (h0 : 0 ≤ i) (h1 : i < gw (a.clsI (gs x))) : a.readE x i = 0 ∧ a.readV x i = a.wd (x + i) := by
  have : a.inW x i = true := by unfold Ab.inW; simp [h, h0, h1]
  unfold Ab.readE Ab.readV
  rw [if_pos this, if_pos this]
  exact ⟨rfl, rfl⟩
theorem mread_no {a : Ab} {x i : Int} (h : ¬ (a.is x = true ∧ 0 ≤ i ∧ i < gw (a.clsI (gs x)))) : a.readE x i = 1 ∧ a.readV x i = 0 := by
  have : ¬ a.inW x i = true := by
    unfold Ab.inW
    simp only [Bool.and_eq_true, decide_eq_true_eq]
    rintro ⟨⟨h1, h2⟩, h3⟩
    exact h ⟨h1, h2, h3⟩
  unfold Ab.readE Ab.readV
  rw [if_neg this, if_neg this]
  exact ⟨rfl, rfl⟩
end Go.Proofs.YtgflkpccddfalaaGreatDoor

/- A variable of three cells. -/
namespace Go.Proofs.YtgflkpccddfalaaGreatDoor
set_option maxRecDepth 100000
open Go.ChangeShapes Go.WideShapes Go.ChangeAt Go.RowKit Go.Maps

theorem G3 {w w1 : World} (g : G w w1) {b : Nat} (hb : w.heap.size ≤ b) (x y z : Value) : G w (((w1.setCell ⟨b, 0, none⟩ x).setCell ⟨b, 1, none⟩ y).setCell ⟨b, 2, none⟩ z) := ((g.setCell hb x).setCell hb y).setCell hb z
/-- A variable of three cells. -/
structure Rv (w : World) (b : Nat) (x y z : Value) : Prop where
  c0 : w.cell? ⟨b, 0, none⟩ = some x
  c1 : w.cell? ⟨b, 1, none⟩ = some y
  c2 : w.cell? ⟨b, 2, none⟩ = some z
  f : ∀ i, w.frozen? ⟨b, i, none⟩ = false
theorem Rv.new (w : World) (x y z : Value) (t : TypeId) : Rv (w.alloc (.cells #[x, y, z] t)) w.heap.size x y z :=
  ⟨World.cell?_alloc_new w _ _ 0, World.cell?_alloc_new w _ _ 1, World.cell?_alloc_new w _ _ 2, fun i => Gy.fz_new w _ _ i⟩
theorem Rv.lt {w : World} {b : Nat} {x y z : Value} (h : Rv w b x y z) : b < w.heap.size := World.block_lt_of_cell? w _ h.c0
theorem Rv.gr {w w' : World} {b : Nat} {x y z : Value} (h : Rv w b x y z) (g : G w w') : Rv w' b x y z :=
  ⟨g.cell h.c0, g.cell h.c1, g.cell h.c2, fun i => (World.frozen?_of_block (a := ⟨b, i, none⟩) (g.block b h.lt)).trans (h.f i)⟩

theorem set0 {w : World} {b : Nat} {u x : Value} (h : w.cell? ⟨b, 0, none⟩ = some u) : (w.setCell ⟨b, 0, none⟩ x).cell? ⟨b, 0, none⟩ = some x := cell_same _ h
theorem set1 {w : World} {b : Nat} {u x y : Value} (h : w.cell? ⟨b, 1, none⟩ = some u) : ((w.setCell ⟨b, 0, none⟩ x).setCell ⟨b, 1, none⟩ y).cell? ⟨b, 1, none⟩ = some y :=
  cell_same (u := u) _ ((cell_other _ (Or.inr (by decide))).trans h)
theorem set2 {w : World} {b : Nat} {u x y z : Value} (h : w.cell? ⟨b, 2, none⟩ = some u) : (((w.setCell ⟨b, 0, none⟩ x).setCell ⟨b, 1, none⟩ y).setCell ⟨b, 2, none⟩ z).cell? ⟨b, 2, none⟩ = some z :=
  cell_same (u := u) _ ((cell_other _ (Or.inr (by decide))).trans ((cell_other _ (Or.inr (by decide))).trans h))
theorem Rv.three {w : World} {b : Nat} {u0 u1 u2 : Value} (h : Rv w b u0 u1 u2) (x y z : Value) : Rv (((w.setCell ⟨b, 0, none⟩ x).setCell ⟨b, 1, none⟩ y).setCell ⟨b, 2, none⟩ z) b x y z :=
  ⟨(cell_other _ (Or.inr (by decide))).trans ((cell_other _ (Or.inr (by decide))).trans (set0 h.c0)), (cell_other _ (Or.inr (by decide))).trans (set1 h.c1), set2 h.c2, fun i => by rw [World.frozen?_setCell, World.frozen?_setCell, World.frozen?_setCell]; exact h.f i⟩

theorem Rv.other {w : World} {b b' : Nat} {u0 u1 u2 : Value} (h : Rv w b u0 u1 u2) (hb : b ≠ b') (x y z : Value) : Rv (((w.setCell ⟨b', 0, none⟩ x).setCell ⟨b', 1, none⟩ y).setCell ⟨b', 2, none⟩ z) b u0 u1 u2 := by
  have k : ∀ i, (((w.setCell ⟨b', 0, none⟩ x).setCell ⟨b', 1, none⟩ y).setCell ⟨b', 2, none⟩ z).cell? ⟨b, i, none⟩ = w.cell? ⟨b, i, none⟩ := fun i => by
    rw [cell_other _ (Or.inl hb), cell_other _ (Or.inl hb), cell_other _ (Or.inl hb)]
  exact ⟨(k 0).trans h.c0, (k 1).trans h.c1, (k 2).trans h.c2, fun i => by rw [World.frozen?_setCell, World.frozen?_setCell, World.frozen?_setCell]; exact h.f i⟩
end Go.Proofs.YtgflkpccddfalaaGreatDoor

/- The contract of mark's object, over what it reads alone. -/
namespace Go.Proofs.YtgflkpccddfalaaGreatDoor
set_option maxRecDepth 100000
open Go.ChangeShapes Go.WideShapes Go.ChangeAt Go.RowKit Go.Maps

/-- What a marker reads: its arena, its table. -/
structure MkB (W w : World) (xl : Ld) (al : Al) (kb tb : Nat) : Prop where
  st : StL W w xl al
  c0 : w.cell? ⟨kb, 0, none⟩ = some (.pointer (some ⟨xl.d.ab, 0, none⟩))
  c1 : w.cell? ⟨kb, 1, none⟩ = some (.pointer (some ⟨tb, 0, none⟩))
theorem MkB.gr {W w w' : World} {xl : Ld} {al : Al} {kb tb : Nat} (h : MkB W w xl al kb tb) (g : G w w') : MkB W w' xl al kb tb := ⟨h.st.G g, g.cell h.c0, g.cell h.c1⟩
section
variable {W w w' : World} {xl : Ld} {al : Al} {kb tb : Nat}
set_option maxHeartbeats 16000000 in
theorem mb_object_core (x v e1 a b c e2 i v3 e3 k f : Int) (m : Nat) (e4 n : Int) (h : Hid (MkB W w xl al kb tb))
    (r1 : Hid (al.a.readV x 0 = v ∧ al.a.readE x 0 = e1)) (r2 : Hid (Hd.ukV v (Hd.up0 v) = a ∧ Hd.ukV v (Hd.up1 v) = b ∧ Hd.ukV v (Hd.up2 v) = c ∧ Hd.ukE v = e2))
    (hi : IntKind.i64.wrap (a - 1) = i) (r3 : Hid (al.a.readV x i = v3 ∧ al.a.readE x i = e3))
    (r4 : Hid ((e1 != 0) = false → (e2 != 0) = false → (e3 != 0) = false → ∀ w1, G w w1 → Calls Tryz.prog 46 #[.pointer (some ⟨tb, 0, none⟩), .int .i64 c] w1 fun r w' => r = .returned (.tuple #[.agg #[.int .i64 k, .int .i64 f, .int .u64 (m : Int)], .int .i64 e4]) ∧ G w1 w'))
    (hs : Hid ((e1 != 0) = true ∧ k = 0 ∧ f = 0 ∧ m = 0 ∧ n = 0 ∨ (e1 != 0) = false ∧ ((e2 != 0) = true ∧ k = 0 ∧ f = 0 ∧ m = 0 ∧ n = 0 ∨ (e2 != 0) = false ∧ ((e3 != 0) = true ∧ k = 0 ∧ f = 0 ∧ m = 0 ∧ n = 0 ∨ (e3 != 0) = false ∧ ((e4 != 0) = true ∧ k = 0 ∧ f = 0 ∧ m = 0 ∧ n = 0 ∨ (e4 != 0) = false ∧ a = n))))) :
    Calls Tryz.prog 106 #[.pointer (some ⟨kb, 0, none⟩), .int .i64 x] w fun r w' => r = .returned (.tuple #[.agg #[.int .i64 k, .int .i64 f, .int .u64 (m : Int)], .int .i64 n]) ∧ G w w' := by
  have C1 : Hid (∀ w1, G w w1 → Calls Tryz.prog 51 #[.pointer (some ⟨xl.d.ab, 0, none⟩), .int .i64 x, .int .i64 0] w1 fun r w' => r = .returned (.tuple #[.int .i64 v, .int .i64 e1]) ∧ G w1 w') := hide fun w1 g1 => by
    have := ls_read (hide ((unhide h).gr g1).st) x 0
    rw [(unhide r1).1, (unhide r1).2] at this
    exact this.mono fun _ _ hh => ⟨hh.1, hh.2.2⟩
  have C3 : Hid (∀ w1, G w w1 → Calls Tryz.prog 51 #[.pointer (some ⟨xl.d.ab, 0, none⟩), .int .i64 x, .int .i64 i] w1 fun r w' => r = .returned (.tuple #[.int .i64 v3, .int .i64 e3]) ∧ G w1 w') := hide fun w1 g1 => by
    have := ls_read (hide ((unhide h).gr g1).st) x i
    rw [(unhide r3).1, (unhide r3).2] at this
    exact this.mono fun _ _ hh => ⟨hh.1, hh.2.2⟩
  have C2 : Hid (∀ w1, Calls Tryz.prog 67 #[.int .i64 v] w1 fun r w' => r = .returned (.tuple #[.agg #[.int .i64 a, .int .i64 b, .int .i64 c], .int .i64 e2]) ∧ G w1 w') := hide fun w1 => by
    have := Hd.unpack_any v w1
    rw [(unhide r2).1, (unhide r2).2.1, (unhide r2).2.2.1, (unhide r2).2.2.2] at this
    exact this
  have c0 := (unhide h).c0
  have hmk : kb < w.heap.size := World.block_lt_of_cell? w _ c0
  have R := hide (Rv.new w (.int .i64 0) (.int .i64 0) (.int .u64 0) 59)
  go_enter Tryz.func106, Tryz.ntmps106
  go_wp2_with fail
  refine (unhide C1 _ (G.alloc w _)).mono ?_
  rintro r w1 ⟨rfl, g1⟩
  have g := hide ((G.alloc w _).trans g1)
  replace R := hide ((unhide R).gr g1)
  obtain ⟨b0, b1, b2, bf⟩ := unhide R
  have f0 := bf 0
  have f1 := bf 1
  have f2 := bf 2
  have c0 := ((unhide h).gr (unhide g)).c0
  clear g1 bf
  rcases unhide hs with ⟨t1, rfl, rfl, rfl, rfl⟩ | ⟨t1, hs2⟩
  · have k0 := set0 (x := .int .i64 0) b0
    have k1 := set1 (x := .int .i64 0) (y := .int .i64 0) b1
    have k2 := set2 (x := .int .i64 0) (y := .int .i64 0) (z := .int .u64 0) b2
    go_wp2_with fail
    try simp only [Exit.inBlock, Exit.then]
    refine bodyPost_ret (by simp [results, Tryz.results106, go_sem, k0, k1, k2]; try rfl) rfl ?_
    exact ⟨rfl, G3 (unhide g) (Nat.le_refl _) _ _ _⟩
  · clear hs
    have hs := hide hs2
    clear hs2
    go_wp2_with fail
    refine (unhide C2 _).mono ?_
    rintro r w2 ⟨rfl, g2⟩
    clear b0 b1 b2 f0 f1 f2 c0
    replace g := hide ((unhide g).trans g2)
    replace R := hide ((unhide R).gr g2)
    obtain ⟨b0, b1, b2, bf⟩ := unhide R
    have f0 := bf 0
    have f1 := bf 1
    have f2 := bf 2
    have c0 := ((unhide h).gr (unhide g)).c0
    clear g2 bf
    have hlt : w.heap.size < w2.heap.size := (unhide R).lt
    rcases unhide hs with ⟨t2, rfl, rfl, rfl, rfl⟩ | ⟨t2, hs2⟩
    · obtain ⟨k0, k1, k2, _⟩ := ((unhide R).three (.int .i64 0) (.int .i64 0) (.int .u64 0)).gr (G.alloc _ (.cells #[.int .i64 a, .int .i64 b, .int .i64 c] 112))
      go_wp2_with fail
      try simp only [Exit.inBlock, Exit.then]
      refine bodyPost_ret (by simp [results, Tryz.results106, go_sem, k0, k1, k2]; try rfl) rfl ?_
      exact ⟨rfl, (G3 (unhide g) (Nat.le_refl _) _ _ _).more _⟩
    · clear hs
      have hs := hide hs2
      clear hs2
      have hk2 : kb < w2.heap.size := World.block_lt_of_cell? _ _ c0
      have Hb := hide (Rv.new w2 (.int .i64 a) (.int .i64 b) (.int .i64 c) 112)
      go_upto_region 7 with fail
      go_cut [9, 10] (fun v9 v10 wx => v9 = .int .i64 v3 ∧ v10 = .int .i64 e3 ∧ Hid (Rv wx w.heap.size (.int .i64 0) (.int .i64 0) (.int .u64 0) ∧ Rv wx w2.heap.size (.int .i64 a) (.int .i64 b) (.int .i64 c) ∧ G w wx))
      case first =>
        go_region_with (go_at_call 51; refine (unhide C3 _ (by first | exact ((unhide g).more _).drew | exact (unhide g).more _ | exact below_drewN ((unhide g).more _) _)).mono ?_; rintro r w3 ⟨rfl, g3⟩; have g3' : G (w2.alloc (.cells #[.int .i64 a, .int .i64 b, .int .i64 c] 112)) w3 := by (first | exact G.trans (G.drew (G.refl _)) g3 | exact g3))
        all_goals
          go_wp2_with fail
          go_meet
          case rel => exact ⟨rfl, rfl, hide ⟨((unhide R).gr (G.alloc _ _)).gr g3', (unhide Hb).gr g3', ((unhide g).more _).trans g3'⟩⟩
      case rest =>
        obtain ⟨rfl, rfl, F3⟩ := hcut
        clear b0 b1 b2 f0 f1 f2 c0 Hb R g hk2 C1 C2 C3
        obtain ⟨b0, b1, b2, bf⟩ := (unhide F3).1
        obtain ⟨q0, q1, q2, _⟩ := (unhide F3).2.1
        have f0 := bf 0
        have f1 := bf 1
        have f2 := bf 2
        have c1 := ((unhide h).gr (unhide F3).2.2).c1
        clear bf
        generalize w2.heap.size = hb at *
        rcases unhide hs with ⟨t3, rfl, rfl, rfl, rfl⟩ | ⟨t3, hs2⟩
        · have k0 := set0 (x := .int .i64 0) b0
          have k1 := set1 (x := .int .i64 0) (y := .int .i64 0) b1
          have k2 := set2 (x := .int .i64 0) (y := .int .i64 0) (z := .int .u64 0) b2
          clear hs
          go_wp2_with fail
          try simp only [Exit.inBlock, Exit.then]
          refine bodyPost_ret (by simp [results, Tryz.results106, go_sem, k0, k1, k2]; try rfl) rfl ?_
          exact ⟨rfl, G3 (unhide F3).2.2 (Nat.le_refl _) _ _ _⟩
        · clear hs
          have hs := hide hs2
          clear hs2
          have hlt3 : w.heap.size < wc.heap.size := (unhide F3).1.lt
          have hlh3 : hb < wc.heap.size := (unhide F3).2.1.lt
          have hk3 : kb < wc.heap.size := World.block_lt_of_cell? _ _ c1
          go_upto_region 10 with fail
          go_cut [7, 11] (fun v7 v11 wx => ∃ sb, v7 = .int .i64 e4 ∧ v11 = .pointer (some ⟨sb, 0, none⟩) ∧ Hid (Rv wx w.heap.size (.int .i64 0) (.int .i64 0) (.int .u64 0) ∧ Rv wx hb (.int .i64 a) (.int .i64 b) (.int .i64 c) ∧ Rv wx sb (.int .i64 k) (.int .i64 f) (.int .u64 (m : Int)) ∧ G w wx))
          case first =>
            go_region_with (first
              | (go_at_call 46; refine (unhide r4 t1 t2 t3 _ (((unhide F3).2.2.more _).drew)).mono ?_; rintro r w4 ⟨rfl, g4⟩; have g4' : G (wc.alloc (.cells #[.int .i64 0, .int .i64 0, .int .u64 0] 59)) w4 := G.trans (G.drew (G.refl _)) g4; have V4 := (Rv.new wc (.int .i64 0) (.int .i64 0) (.int .u64 0) 59).gr g4'; have d0 := V4.c0; have d1 := V4.c1; have d2 := V4.c2; have df0 := V4.f 0; have df1 := V4.f 1; have df2 := V4.f 2; have F5 := hide (⟨(((unhide F3).1.gr (G.alloc _ _)).gr g4').other (b' := wc.heap.size) (by omega) (.int .i64 k) (.int .i64 f) (.int .u64 (m : Int)), (((unhide F3).2.1.gr (G.alloc _ _)).gr g4').other (b' := wc.heap.size) (by omega) (.int .i64 k) (.int .i64 f) (.int .u64 (m : Int)), V4.three (.int .i64 k) (.int .i64 f) (.int .u64 (m : Int)), G3 (((unhide F3).2.2.more _).trans g4') (b := wc.heap.size) (unhide F3).2.2.size (.int .i64 k) (.int .i64 f) (.int .u64 (m : Int))⟩ : _ ∧ _ ∧ _ ∧ _); clear g4 g4' V4)
              | (go_at_call 46; refine (unhide r4 t1 t2 t3 _ ((unhide F3).2.2.drew)).mono ?_; rintro r w4 ⟨rfl, g4⟩; have g4' : G wc w4 := G.trans (G.drew (G.refl _)) g4; have F5 := hide (⟨((unhide F3).1.gr g4').gr (G.alloc _ (.cells #[.int .i64 k, .int .i64 f, .int .u64 (m : Int)] 59)), ((unhide F3).2.1.gr g4').gr (G.alloc _ (.cells #[.int .i64 k, .int .i64 f, .int .u64 (m : Int)] 59)), Rv.new w4 (.int .i64 k) (.int .i64 f) (.int .u64 (m : Int)) 59, ((unhide F3).2.2.trans g4').more (.cells #[.int .i64 k, .int .i64 f, .int .u64 (m : Int)] 59)⟩ : _ ∧ _ ∧ _ ∧ _); clear g4 g4'))
            all_goals
              go_wp2_with fail
              go_meet
              case rel => exact ⟨_, rfl, rfl, F5⟩
          case rest =>
            obtain ⟨sb, rfl, rfl, F5⟩ := hcut
            clear b0 b1 b2 f0 f1 f2 c1 q0 q1 q2 F3 hlt3 hlh3 hk3
            obtain ⟨b0, b1, b2, bf⟩ := (unhide F5).1
            obtain ⟨q0, q1, q2, _⟩ := (unhide F5).2.1
            obtain ⟨d0, d1, d2, _⟩ := (unhide F5).2.2.1
            have f0 := bf 0
            have f1 := bf 1
            have f2 := bf 2
            clear bf
            rcases unhide hs with ⟨t4, rfl, rfl, rfl, rfl⟩ | ⟨t4, rfl⟩
            · have k0 := set0 (x := .int .i64 0) b0
              have k1 := set1 (x := .int .i64 0) (y := .int .i64 0) b1
              have k2 := set2 (x := .int .i64 0) (y := .int .i64 0) (z := .int .u64 0) b2
              clear hs
              go_wp2_with fail
              try simp only [Exit.inBlock, Exit.then]
              refine bodyPost_ret (by simp [results, Tryz.results106, go_sem, k0, k1, k2]; try rfl) rfl ?_
              exact ⟨rfl, G3 (unhide F5).2.2.2 (Nat.le_refl _) _ _ _⟩
            · obtain ⟨K0, K1, K2, _⟩ := (((unhide F5).1.three (.int .i64 k) (.int .i64 f) (.int .u64 (m : Int))).gr (G.drew (G.refl _)))
              obtain ⟨Q0, Q1, Q2, _⟩ := (((unhide F5).2.1.other (b' := w.heap.size) (by omega) (.int .i64 k) (.int .i64 f) (.int .u64 (m : Int))).gr (G.drew (G.refl _)))
              have hne5 : ¬ hb = w.heap.size := by omega
              have KG := hide (G.drew (G3 (unhide F5).2.2.2 (Nat.le_refl _) (.int .i64 k) (.int .i64 f) (.int .u64 (m : Int))))
              clear hs
              go_wp2_with fail
              go_region
              all_goals
                go_wp2_with fail
                try simp only [Exit.inBlock, Exit.then]
                refine bodyPost_ret (by simp [results, Tryz.results106, go_sem, K0, K1, K2]; try rfl) rfl ?_
                exact ⟨rfl, unhide KG⟩
end
end Go.Proofs.YtgflkpccddfalaaGreatDoor

/- The contract of All. -/
namespace Go.Proofs.YtgflkpccddfalaaGreatDoor.Gy
set_option maxRecDepth 100000
open Go.RowKit Go.Maps Go.ChangeShapes Go.WideShapes Go.ChangeAt

theorem info_int64 : (Tryz.prog.info? 2).map (fun i => (i.zero, i.size, i.bytes)) = some (some (.int .i64 0), 1, 8) := by kernel_rfl

/-- The first m of the numbers, as cells. -/
def pre (c : Nat → Int) (f m : Nat) : List Value := (List.range m).map fun i => .int .i64 (c (f + i))
theorem pre_len (c : Nat → Int) (f m : Nat) : (pre c f m).length = m := by simp [pre]
theorem pre_get {c : Nat → Int} {f m i : Nat} (h : i < m) : (pre c f m)[i]? = some (.int .i64 (c (f + i))) := by simp [pre, h]
theorem pre_app (c : Nat → Int) (f m d : Nat) : pre c f m ++ pre c (f + m) d = pre c f (m + d) := by
  apply List.ext_getElem?
  intro i
  rcases Nat.lt_or_ge i m with h | h
  · rw [List.getElem?_append_left (by rw [pre_len]; exact h), pre_get h, pre_get (by omega)]
  · rw [List.getElem?_append_right (by rw [pre_len]; exact h), pre_len]
    rcases Nat.lt_or_ge i (m + d) with h2 | h2
    · rw [pre_get (by omega), pre_get (by omega)]
      congr 3
      omega
    · rw [List.getElem?_eq_none (by rw [pre_len]; omega), List.getElem?_eq_none (by rw [pre_len]; omega)]
theorem pre_one (c : Nat → Int) (f m : Nat) : ∀ u ∈ pre c f m, u.oneCell' = true := by
  intro u hu
  simp [pre] at hu
  obtain ⟨i, _, rfl⟩ := hu
  rfl

def slLen : Value → Nat
  | .slice _ n _ => n
  | _ => 0

/-- While All fills its row. -/
structure AllS (w wr : World) (c : Nat → Int) (f n m : Nat) : Prop where
  row : wr.ownsRow w.heap.size 2 1 (.slice (some ⟨w.heap.size, 0, none⟩) m n) m (pre c f m)
  g : G w wr

theorem grownBy_G {w0 w w' : World} {b : Nat} (g : G w0 w) (h : w.grownBy w' (some b)) (hb : w0.heap.size ≤ b) : G w0 w' :=
  ⟨h.os.trans g.os, h.tape.trans g.tape, h.output.trans g.output, Nat.le_trans g.size h.size, fun k hk => (h.block k (Nat.lt_of_lt_of_le hk g.size) (by simp; omega)).trans (g.block k hk)⟩

theorem mk_all (n : Nat) (hn : n ≤ 1000000) (w : World) : (Instr.makeSlice 31 (.int .i64 0) (.int .i64 (n : Int))).run Tryz.prog w =
    .ok (.slice (some ⟨w.heap.size, 0, none⟩) 0 n) (w.alloc (.cells (madeCells #[.int .i64 0] n) 2)) := by
  obtain ⟨i0, hi0, hz0, hz1, hz2⟩ := info_parts info_int64
  have := run_make (P := Tryz.prog) w 31 2 i0 (.int .i64 0) Tryz.underlying31 hi0 hz0 .i64 .i64 0 (n : Int) (by omega) (by omega) (by rw [hz2]; omega) (by omega)
  rw [this, hz1]
  simp only [Int.toNat_natCast, Nat.mul_one]
  rfl

theorem arr_len : Tryz.prog.arrayLen 151 = 16 := by kernel_rfl
theorem arr_elem : Tryz.prog.elem 151 = 2 := by kernel_rfl
theorem arr_under : Tryz.prog.underlying 151 = some (.array (Tryz.prog.arrayLen 151) (Tryz.prog.elem 151)) := by kernel_rfl
theorem sl_arr (w : World) (b t : Nat) (z : Int) (h0 : t < 16) (h1 : (t : Int) ≤ z) (h2 : z ≤ 16) :
    (Instr.sliceAt 151 (.pointer (some ⟨b, 0, none⟩)) (some (.int .i64 (t : Int))) (some (.int .i64 z)) none).run Tryz.prog w = .ok (.slice (some ⟨b, t, none⟩) (z.toNat - t) (16 - t)) w := by
  obtain ⟨i0, hi0, hz0, hz1, hz2⟩ := info_parts info_int64
  rw [run_sliceAt_array_lh w 151 ⟨b, 0, none⟩ arr_under .i64 .i64 (t : Int) z (by omega) h1 (by rw [arr_len]; omega), arr_elem, arr_len]
  simp [sizeOf, typeInfo, hi0, hz1, Result.andThen, slicedAt]
  rw [if_neg (by omega), Addr.add_lit, Nat.zero_add]

/-- One round of All: a block's numbers behind the others. -/
theorem AllS.app {w wr w' : World} {c : Nat → Int} {f n m d : Nat} (h : AllS w wr c f n m) (hr : w'.ownsRow w.heap.size 2 1 (.slice (some ⟨w.heap.size, 0, none⟩) (m + d) n) (m + d) (pre c f m ++ pre c (f + m) d)) (hg : wr.grownBy w' (some w.heap.size)) : AllS w w' c f n (m + d) :=
  ⟨by rw [pre_app] at hr; exact hr, grownBy_G h.g hg (Nat.le_refl _)⟩

theorem far_cell {w w' : World} {S b i : Nat} (hg : w.grownBy w' (some S)) (h1 : b < S) (h2 : b < w.heap.size) : w'.cell? ⟨b, i, none⟩ = w.cell? ⟨b, i, none⟩ :=
  World.cell?_of_block (hg.block b h2 (by simp; omega))

/-- The numbers xs as cells. -/
def cellsOf (xs : List Int) : List Value := xs.map fun x => .int .i64 x
theorem pre_cells {c : Nat → Int} {f : Nat} {xs : List Int} (h : ∀ i x, xs[i]? = some x → c (f + i) = x) : pre c f xs.length = cellsOf xs := by
  apply List.ext_getElem?
  intro i
  unfold cellsOf
  rw [List.getElem?_map]
  rcases Nat.lt_or_ge i xs.length with e | e
  · rw [pre_get e, List.getElem?_eq_getElem e, h i _ (List.getElem?_eq_getElem e)]; rfl
  · rw [List.getElem?_eq_none (by rw [pre_len]; exact e), List.getElem?_eq_none e]; rfl

end Go.Proofs.YtgflkpccddfalaaGreatDoor.Gy

/- What a law knows of one Queue on its way; awake() answers true. -/
namespace Go.Proofs.YtgflkpccddfalaaGreatDoor.Gy
set_option maxRecDepth 100000
open Go.RowKit Go.Maps Go.ChangeShapes Go.WideShapes Go.ChangeAt

/-- One Queue, the call's own: W is the law's first world. -/
structure Sq (W w : World) (q : Nat) (bs : List Nat) (xs : List Int) : Prop where
  ql : QL w q bs xs
  bq : W.heap.size ≤ q
  bb : ∀ b ∈ bs, W.heap.size ≤ b
  below : Below W.heap.size W w
section
variable {W w w' : World} {q : Nat} {bs : List Nat} {xs ys : List Int} {x : Int}
theorem Sq.g (h : Sq W w q bs xs) (g : G w w') : Sq W w' q bs xs := ⟨h.ql.grown g, h.bq, h.bb, h.below.trans (g.mono h.below.size)⟩
theorem Sq.left (h : Sq W w q bs xs) (l : Left w w' q bs ys) : ∃ bs', Sq W w' q bs' ys ∧ Tq w w' q bs ∧ ∀ b ∈ bs', b ∈ bs ∨ w.heap.size ≤ b := by
  obtain ⟨bs', h1, h2, h3⟩ := l
  refine ⟨bs', ⟨h1, h.bq, fun b hb => ?_, h.below.trans (h2.below h.below.size h.bq h.bb)⟩, h2, h3⟩
  rcases h3 b hb with e | e
  · exact h.bb b e
  · exact Nat.le_trans h.below.size e

/-- The same, whatever its blocks; the blocks D are none of them. -/
def S2 (W w : World) (q : Nat) (xs : List Int) (D : List Nat) : Prop := ∃ bs, Sq W w q bs xs ∧ ∀ d ∈ D, d < w.heap.size ∧ d ≠ q ∧ d ∉ bs
/-- The blocks D are as they were. -/
def Kp (w w' : World) (D : List Nat) : Prop := ∀ d ∈ D, w'.heap[d]? = w.heap[d]?
variable {D : List Nat}
theorem Kp.cell (h : Kp w w' D) {d i : Nat} (hd : d ∈ D) {v : Value} (hc : w.cell? ⟨d, i, none⟩ = some v) : w'.cell? ⟨d, i, none⟩ = some v := (World.cell?_of_block (h d hd)).trans hc
theorem S2.g (h : S2 W w q xs D) (g : G w w') : S2 W w' q xs D := by
  obtain ⟨bs, h, a⟩ := h
  exact ⟨bs, h.g g, fun d hd => ⟨Nat.lt_of_lt_of_le (a d hd).1 g.size, (a d hd).2⟩⟩
theorem S2.kp (h : S2 W w q xs D) (g : G w w') : Kp w w' D := by
  obtain ⟨bs, h, a⟩ := h
  exact fun d hd => g.block d (a d hd).1
theorem S2.below (h : S2 W w q xs D) : Below W.heap.size W w := by obtain ⟨bs, h, _⟩ := h; exact h.below
theorem S2.sub (h : S2 W w q xs D) {E : List Nat} (e : ∀ d ∈ E, d ∈ D) : S2 W w q xs E := by obtain ⟨bs, h, a⟩ := h; exact ⟨bs, h, fun d hd => a d (e d hd)⟩
theorem s2_left {bs : List Nat} (hs : Sq W w q bs xs) (a : ∀ d ∈ D, d < w.heap.size ∧ d ≠ q ∧ d ∉ bs) (l : Left w w' q bs ys) : S2 W w' q ys D ∧ Kp w w' D := by
  obtain ⟨bs', h1, h2, h3⟩ := hs.left l
  refine ⟨⟨bs', h1, fun d hd => ?_⟩, fun d hd => h2.block d (a d hd).1 (a d hd).2.1 (a d hd).2.2⟩
  refine ⟨Nat.lt_of_lt_of_le (a d hd).1 h2.size, (a d hd).2.1, fun hm => ?_⟩
  rcases h3 d hm with e | e
  · exact (a d hd).2.2 e
  · have := (a d hd).1; omega

theorem s_new (g : Hid (G W w)) : Calls Tryz.prog 61 #[] w fun e w' => ∃ q, e = .returned (.pointer (some ⟨q, 0, none⟩)) ∧ S2 W w' q [] [] := by
  refine (q_new w).mono ?_
  rintro e w' ⟨q, rfl, h1, h2, h3⟩
  exact ⟨q, rfl, [], ⟨h1, Nat.le_trans (unhide g).size h2, (fun b hb => by cases hb), (unhide g).trans h3⟩, fun d hd => by cases hd⟩
theorem s_add (h : Hid (S2 W w q xs D)) (hn : xs.length ≤ 900000) (x : Int) : Calls Tryz.prog 84 #[.pointer (some ⟨q, 0, none⟩), .int .i64 x] w fun e w' => e = .returned (.tuple #[]) ∧ S2 W w' q (xs ++ [x]) D ∧ Kp w w' D := by
  obtain ⟨bs, hs, a⟩ := unhide h
  refine (q_add hs.ql hn x).mono ?_
  rintro e w' ⟨rfl, l⟩
  exact ⟨rfl, s2_left hs a l⟩
theorem s_next (h : Hid (S2 W w q (x :: xs) D)) (hn : xs.length ≤ 900000) : Calls Tryz.prog 96 #[.pointer (some ⟨q, 0, none⟩)] w fun e w' => e = .returned (.tuple #[.int .i64 x, .bool true]) ∧ S2 W w' q xs D ∧ Kp w w' D := by
  obtain ⟨bs, hs, a⟩ := unhide h
  refine (q_next hs.ql hn).mono ?_
  rintro e w' ⟨rfl, l⟩
  exact ⟨rfl, s2_left hs a l⟩
theorem s_next_none (h : Hid (S2 W w q [] D)) : Calls Tryz.prog 96 #[.pointer (some ⟨q, 0, none⟩)] w fun e w' => e = .returned (.tuple #[.int .i64 0, .bool false]) ∧ w' = w := by
  obtain ⟨bs, h, _⟩ := unhide h
  exact q_next_none h.ql
theorem row_cell {B g n cap : Nat} (h : w.ownsRow B 2 1 (.slice (some ⟨g, 0, none⟩) n cap) n (cellsOf xs)) {i : Nat} (hi : xs[i]? = some x) : w.cell? ⟨g, i, none⟩ = some (.int .i64 x) := by
  have := World.ownsRow.cells h (g := g) rfl i (.int .i64 x) (by unfold cellsOf; rw [List.getElem?_map, hi]; rfl)
  rw [Addr.add_lit, Nat.zero_add] at this
  exact this
end

end Go.Proofs.YtgflkpccddfalaaGreatDoor.Gy

/- A row of numbers that is cut from the front and grows behind; Nums. -/
namespace Go.Proofs.YtgflkpccddfalaaGreatDoor.Gy
set_option maxRecDepth 100000
open Go.RowKit Go.Maps Go.ChangeShapes Go.WideShapes Go.ChangeAt

/-- The block that a slice lies in. -/
def blk : Option Addr → List Nat
  | none => []
  | some a => [a.block]

/-- The numbers ys lie at ao, in room of the call's own. -/
structure RowW (w : World) (B : Nat) (ao : Option Addr) (cap : Nat) (ys : List Int) : Prop where
  le : ys.length ≤ cap
  cm : cap ≤ maxLen
  at_ : (ao = none ∧ ys = [] ∧ cap = 0) ∨ ∃ g off, ao = some ⟨g, off, none⟩ ∧ B ≤ g ∧ g < w.heap.size ∧ (∀ i x, ys[i]? = some x → w.cell? ⟨g, off + i, none⟩ = some (.int .i64 x)) ∧ (∀ j, j < cap → (w.cell? ⟨g, off + j, none⟩).isSome = true) ∧ (∀ j, w.frozen? ⟨g, j, none⟩ = false)
section
variable {W w w' : World} {B cap : Nat} {ao : Option Addr} {ys : List Int}
theorem RowW.nil (w : World) (B : Nat) : RowW w B none 0 [] := ⟨by simp, by unfold maxLen; omega, Or.inl ⟨rfl, rfl, rfl⟩⟩
theorem RowW.kept (h : RowW w B ao cap ys) (k : Kp w w' (blk ao)) : RowW w' B ao cap ys := by
  refine ⟨h.le, h.cm, ?_⟩
  rcases h.at_ with e | ⟨g, off, rfl, h1, h2, h3, h4, h5⟩
  · exact Or.inl e
  · have hk : w'.heap[g]? = w.heap[g]? := k g (by simp [blk])
    have hlt : g < w'.heap.size := by
      have e := hk
      rw [Array.getElem?_eq_getElem h2] at e
      exact (Array.getElem?_eq_some_iff.1 e).1
    exact Or.inr ⟨g, off, rfl, h1, hlt, fun i x hi => (World.cell?_of_block hk).trans (h3 i x hi), fun j hj => by rw [World.cell?_of_block (a := ⟨g, off + j, none⟩) hk]; exact h4 j hj, fun j => (World.frozen?_of_block (a := ⟨g, j, none⟩) hk).trans (h5 j)⟩
theorem RowW.lo (h : RowW w B ao cap ys) : ∀ d ∈ blk ao, B ≤ d ∧ d < w.heap.size := by
  intro d hd
  rcases h.at_ with ⟨rfl, _⟩ | ⟨g, off, rfl, h1, h2, _⟩
  · cases hd
  · simp [blk] at hd
    subst hd
    exact ⟨h1, h2⟩
theorem RowW.tail {y : Int} (h : RowW w B ao cap (y :: ys)) : ∃ g off, ao = some ⟨g, off, none⟩ ∧ w.cell? ⟨g, off, none⟩ = some (.int .i64 y) ∧ 0 < cap ∧
    RowW w B (if cap = 1 then some ⟨g, off, none⟩ else some ⟨g, off + 1, none⟩) (cap - 1) ys := by
  have hle := h.le
  rw [List.length_cons] at hle
  rcases h.at_ with ⟨_, e, _⟩ | ⟨g, off, rfl, h1, h2, h3, h4, h5⟩
  · cases e
  · refine ⟨g, off, rfl, h3 0 y rfl, by omega, by omega, by have := h.cm; omega, Or.inr ?_⟩
    by_cases e : cap = 1
    · have hy : ys = [] := List.eq_nil_of_length_eq_zero (by omega)
      subst hy
      rw [if_pos e]
      exact ⟨g, off, rfl, h1, h2, fun i x hi => by simp at hi, fun j hj => by omega, h5⟩
    · rw [if_neg e]
      refine ⟨g, off + 1, rfl, h1, h2, fun i x hi => ?_, fun j hj => ?_, h5⟩
      · have := h3 (i + 1) x (by simpa using hi)
        rw [show off + 1 + i = off + (i + 1) by omega]; exact this
      · have := h4 (j + 1) (by omega)
        rw [show off + 1 + j = off + (j + 1) by omega]; exact this

/-- w' is w but for one row, and for new blocks. -/
structure Gx (w w' : World) (ao : Option Addr) : Prop where
  os : w'.os = w.os
  tape : w'.tape = w.tape
  output : w'.output = w.output
  size : w.heap.size ≤ w'.heap.size
  block : ∀ k, k < w.heap.size → k ∉ blk ao → w'.heap[k]? = w.heap[k]?
theorem Gx.of_G (h : G w w') : Gx w w' ao := ⟨h.os, h.tape, h.output, h.size, fun k hk _ => h.block k hk⟩

/-- What append leaves of the row. -/
def App (w w' : World) (B : Nat) (ao ao' : Option Addr) (cap' : Nat) (ys' : List Int) : Prop := RowW w' B ao' cap' ys' ∧ (blk ao' = blk ao ∨ blk ao' = [w.heap.size]) ∧ Gx w w' ao

theorem app_new (hB : B ≤ w.heap.size) (v : Int) (cur : Array Value) (hm : cur.size ≤ maxLen) (hl : ys.length + 1 ≤ cur.size) (hc : ∀ (i : Nat) (x : Int), (ys ++ [v])[i]? = some x → cur[i]? = some (Value.int .i64 x)) :
    App w (w.drew.alloc (.cells cur 2)) B ao (some ⟨w.heap.size, 0, none⟩) cur.size (ys ++ [v]) := by
  have hcell : ∀ i, (w.drew.alloc (.cells cur 2)).cell? ⟨w.heap.size, 0 + i, none⟩ = cur[i]? := fun i => by
    rw [Nat.zero_add]
    exact World.cell?_alloc_new w.drew cur 2 i
  refine ⟨⟨by simp; omega, hm, Or.inr ⟨w.heap.size, 0, rfl, hB, by rw [World.size_alloc]; show w.heap.size < w.heap.size + 1; omega, fun i x hi => (hcell i).trans (hc i x hi), fun j hj => ?_, fun j => fz_new w.drew _ _ j⟩⟩, Or.inr rfl, Gx.of_G ((G.refl w).drew.more _)⟩
  rw [hcell, Array.getElem?_eq_getElem hj]
  rfl

/-- append of one number, in whatever world. -/
theorem run_app (ty : TypeId) (hr : RowW w B ao cap ys) (hB : B ≤ w.heap.size) (xb c : Nat) (v : Int) (hx : w.cell? ⟨xb, 0, none⟩ = some (.int .i64 v)) (hn : ys.length ≤ 1000) :
    ∃ ao' cap' w', (Builtin.append_ #[31, 31] ty #[.slice ao ys.length cap, .slice (some ⟨xb, 0, none⟩) 1 c]).run Tryz.prog w = .ok (.slice ao' (ys.length + 1) cap') w' ∧ App w w' B ao ao' cap' (ys ++ [v]) := by
  obtain ⟨i0, hi0, hz0, hz1, hz2⟩ := info_parts info_int64
  have hs : Src Tryz.prog i0.size 31 (.slice (some ⟨xb, 0, none⟩) 1 c) 1 [.int .i64 v] w := Src.ofSlice w Tryz.underlying31 ⟨xb, 0, none⟩ 1 c [.int .i64 v] (by rw [hz1]; rfl) (fun j u hj => by
    match j, hj with
    | 0, hj =>
      simp at hj
      subst hj
      simpa [Addr.add] using hx) (fun u hu => by simp at hu; subst hu; rfl)
  have hgrow : ∀ (base : Option Addr) (sCap : Nat) (olds : List Value), sCap < ys.length + 1 → (Builtin.firstCells i0.size ys.length (.slice base ys.length sCap)).run Tryz.prog w.drew = .ok olds.toArray w.drew → olds = ys.map (fun x => Value.int .i64 x) →
      ∃ ao' cap' w', (Builtin.append_ #[31, 31] ty #[.slice base ys.length sCap, .slice (some ⟨xb, 0, none⟩) 1 c]).run Tryz.prog w = .ok (.slice ao' (ys.length + 1) cap') w' ∧ App w w' B ao ao' cap' (ys ++ [v]) := by
    rintro base sCap olds hc ho rfl
    have hfit : Builtin.nextslicecap (ys.length + 1) sCap * i0.bytes ≤ 281474976710656 := by rw [hz2]; exact growslice_fits hc (by omega)
    have hrun := run_append_grow_src (P := Tryz.prog) w 31 31 ty 2 i0 (.int .i64 0) Tryz.underlying31 hi0 hz0 base ys.length sCap _ ho _ 1 _ hs hc (by omega) hfit
    have hge := grownCap_ge w (ys.length + 1) sCap 2
    have hle := grownCap_le_maxLen w (ys.length + 1) sCap 2 (by unfold maxLen; omega)
    have hsize : ((ys.map (fun x => Value.int .i64 x) ++ [Value.int .i64 v]).toArray ++ Builtin.zeroCells (Value.int .i64 0).cells (grownCap w (ys.length + 1) sCap 2 - (ys.length + 1))).size = grownCap w (ys.length + 1) sCap 2 := by
      rw [Array.size_append, size_zeroCells]
      simp [Value.cells]
      omega
    have A := app_new (w := w) (ao := ao) hB v ((ys.map (fun x => Value.int .i64 x) ++ [Value.int .i64 v]).toArray ++ Builtin.zeroCells (Value.int .i64 0).cells (grownCap w (ys.length + 1) sCap 2 - (ys.length + 1))) (by rw [hsize]; exact hle) (by rw [hsize]; exact hge) (fun i x hi => by
      have hl : i < (ys ++ [v]).length := (List.getElem?_eq_some_iff.1 hi).1
      rw [Array.getElem?_append_left (by simpa using hl)]
      have e : ys.map (fun x => Value.int .i64 x) ++ [Value.int .i64 v] = (ys ++ [v]).map fun x => Value.int .i64 x := by simp
      rw [e, List.getElem?_toArray, List.getElem?_map, hi]
      rfl)
    rw [hsize] at A
    exact ⟨_, _, _, hrun, A⟩
  rcases hr.at_ with ⟨rfl, rfl, rfl⟩ | ⟨g, off, rfl, h1, h2, h3, h4, h5⟩
  · exact hgrow none 0 [] (by simp) (run_firstCells_none _ _ _ _ _) rfl
  · by_cases hroom : ys.length + 1 ≤ cap
    · have hrun := run_append_room_src (P := Tryz.prog) w 31 31 ty 2 i0 Tryz.underlying31 hi0 g off ys.length cap _ 1 _ hs hroom (fun j hj => by
        simp at hj
        subst hj
        rw [hz1, Nat.mul_one, Nat.add_zero]
        exact h4 _ (by omega)) (fun j _ => h5 _)
      rw [hz1, Nat.mul_one] at hrun
      have e0 : w.setCells g (off + ys.length) [.int .i64 v] = w.setCell ⟨g, off + ys.length, none⟩ (.int .i64 v) := rfl
      rw [e0] at hrun
      have hold := h4 ys.length (by omega)
      obtain ⟨u, hu⟩ := Option.isSome_iff_exists.1 hold
      refine ⟨_, _, _, hrun, ⟨by simp; omega, hr.cm, Or.inr ⟨g, off, rfl, h1, by rw [World.size_setCell]; exact h2, fun i x hi => ?_, fun j hj => ?_, fun j => by rw [World.frozen?_setCell]; exact h5 j⟩⟩, Or.inl rfl, ?_⟩
      · rcases snoc_get hi with ⟨e, hi⟩ | ⟨e, rfl⟩
        · rw [cell_other _ (by omega)]; exact h3 i x hi
        · subst e; exact cell_same _ hu
      · by_cases e : j = ys.length
        · subst e; rw [cell_same _ hu]; rfl
        · rw [cell_other _ (by omega)]; exact h4 j hj
      · refine ⟨rfl, rfl, rfl, by rw [World.size_setCell]; exact Nat.le_refl _, fun k hk hb => heap_set _ _ (fun e => hb (by simp [blk]; exact e))⟩
    · refine hgrow (some ⟨g, off, none⟩) cap _ (by omega) (run_firstCells_some w.drew i0.size ys.length ⟨g, off, none⟩ ys.length cap (ys.map fun x => Value.int .i64 x) (by rw [hz1]; simp) (fun j u hj => ?_)) rfl
      rw [List.getElem?_map] at hj
      obtain ⟨x, hx1, rfl⟩ := Option.map_eq_some_iff.1 hj
      rw [Addr.add_lit]
      exact h3 j x hx1

/-- The same, at the operation. -/
theorem wpl_app {ops : Array Oper} {rest : List Oper} {o : Oper} {a : Act} {Q : Exit → Act → World → Prop} (hgd : o.guard = none) (s x : Operand) (ho : o.op = .call { callee := .builtin .append, args := #[s, x], argTypes := #[31, 31] })
    (k m : Nat) (hk : ys.length = k) (hm : k + 1 = m) (hs : a.eval s = .slice ao k cap) (hr : RowW w B ao cap ys) (hB : B ≤ w.heap.size) (xb c : Nat) (v : Int) (hxe : a.eval x = .slice (some ⟨xb, 0, none⟩) 1 c) (hx : w.cell? ⟨xb, 0, none⟩ = some (.int .i64 v)) (hn : ys.length ≤ 1000)
    (h : ∀ ao' cap' w', App w w' B ao ao' cap' (ys ++ [v]) → wpList Tryz.prog ops Q rest (a.put o.dst (.slice ao' m cap')) w') : wpList Tryz.prog ops Q (o :: rest) a w := by
  subst hk
  subst hm
  refine wpList_plain hgd fun K hK => ?_
  obtain ⟨ao', cap', w', hrun, A⟩ := run_app o.type hr hB xb c v hx hn
  unfold Oper.wp execOp
  simp only [ho, resolve, invoke, builtin, Sem.run_bind, Sem.run_pure, Result.andThen_ok, List.map_toArray, List.map_cons, List.map_nil, hs, hxe, hrun]
  exact hK _ _ (h ao' cap' w' A)
end

/-- Numbers that can be read. -/
def IsI (w : World) (ao : Option Addr) (ys : List Int) : Prop := ys = [] ∨ ∃ g off, ao = some ⟨g, off, none⟩ ∧ g < w.heap.size ∧ ∀ i x, ys[i]? = some x → w.cell? ⟨g, off + i, none⟩ = some (.int .i64 x)
theorem IsI.g {w w' : World} {ao : Option Addr} {ys : List Int} (h : IsI w ao ys) (g : G w w') : IsI w' ao ys := by
  rcases h with h | ⟨b, off, h1, h2, h3⟩
  · exact Or.inl h
  · exact Or.inr ⟨b, off, h1, Nat.lt_of_lt_of_le h2 g.size, fun i x hi => g.cell (h3 i x hi)⟩
theorem IsI.at_ {w : World} {ao : Option Addr} {ys : List Int} (h : IsI w ao ys) {i : Nat} (hi : i < ys.length) : ∃ x g off, ys[i]? = some x ∧ ao = some ⟨g, off, none⟩ ∧ w.cell? ⟨g, off + i, none⟩ = some (.int .i64 x) := by
  rcases h with rfl | ⟨b, off, h1, h2, h3⟩
  · simp at hi
  · exact ⟨_, b, off, List.getElem?_eq_getElem hi, h1, h3 i _ (List.getElem?_eq_getElem hi)⟩
theorem RowW.is {w : World} {B cap : Nat} {ao : Option Addr} {ys : List Int} (h : RowW w B ao cap ys) : IsI w ao ys := by
  rcases h.at_ with ⟨_, h, _⟩ | ⟨g, off, h1, h2, h3, h4, _⟩
  · exact Or.inl h
  · exact Or.inr ⟨g, off, h1, h3, h4⟩

end Go.Proofs.YtgflkpccddfalaaGreatDoor.Gy

/- The contract of mark's Fields. -/
namespace Go.Proofs.YtgflkpccddfalaaGreatDoor
set_option maxRecDepth 100000
open Go.ChangeShapes Go.WideShapes Go.ChangeAt Go.RowKit Go.Maps

/-- While a row is filled, a variable of three cells beside. -/
structure FlS (w wr : World) (sb : Nat) (s : Hd.Shp) (ao : Option Addr) (cap : Nat) (ys : List Int) : Prop where
  g : G w wr
  row : Gy.RowW wr w.heap.size ao cap ys
  sh : Rv wr sb (.int .i64 s.k) (.int .i64 s.f) (.int .u64 (s.m : Int))
  lo : w.heap.size ≤ sb
  nb : sb ∉ Gy.blk ao
section
variable {w wr wr' : World} {sb : Nat} {s : Hd.Shp} {ao ao' : Option Addr} {cap cap' : Nat} {ys ys' : List Int}
theorem FlS.gr (h : FlS w wr sb s ao cap ys) (g : G wr wr') : FlS w wr' sb s ao cap ys :=
  ⟨h.g.trans g, h.row.kept fun d hd => g.block d (h.row.lo d hd).2, h.sh.gr g, h.lo, h.nb⟩
theorem FlS.app (h : FlS w wr sb s ao cap ys) (a : Gy.App wr wr' w.heap.size ao ao' cap' ys') : FlS w wr' sb s ao' cap' ys' := by
  obtain ⟨r, hb, gx⟩ := a
  have ks : wr'.heap[sb]? = wr.heap[sb]? := gx.block sb h.sh.lt h.nb
  refine ⟨⟨gx.os.trans h.g.os, gx.tape.trans h.g.tape, gx.output.trans h.g.output, Nat.le_trans h.g.size gx.size, fun k hk => ?_⟩, r, ?_, h.lo, ?_⟩
  · exact (gx.block k (Nat.lt_of_lt_of_le hk h.g.size) fun hm => by have := (h.row.lo k hm).1; omega).trans (h.g.block k hk)
  · exact ⟨(World.cell?_of_block (a := ⟨sb, 0, none⟩) ks).trans h.sh.c0, (World.cell?_of_block (a := ⟨sb, 1, none⟩) ks).trans h.sh.c1, (World.cell?_of_block (a := ⟨sb, 2, none⟩) ks).trans h.sh.c2, fun i => (World.frozen?_of_block (a := ⟨sb, i, none⟩) ks).trans (h.sh.f i)⟩
  · have := h.sh.lt
    rcases hb with e | e
    · rw [e]; exact h.nb
    · rw [e]; simp; omega
end

set_option maxHeartbeats 4000000 in
theorem m_fields_core (w : World) (mk : Nat) (x : Int) (s : Hd.Shp) (n : Nat) (hn : n ≤ 64) (hm : s.m < 18446744073709551616) (wd : Nat → Int)
    (ho : Hid (∀ w1, G w w1 → Calls Tryz.prog 106 #[.pointer (some ⟨mk, 0, none⟩), .int .i64 x] w1 fun r w' => r = .returned (.tuple #[.agg #[.int .i64 s.k, .int .i64 s.f, .int .u64 (s.m : Int)], .int .i64 (n : Int)]) ∧ G w1 w'))
    (hf : Hid (∀ j : Nat, j < n - 1 → ∀ w1, G w w1 → Calls Tryz.prog 107 #[.pointer (some ⟨mk, 0, none⟩), .int .i64 x, .int .i64 (j : Int)] w1 fun r w' => r = .returned (.int .i64 (wd (1 + j))) ∧ G w1 w')) :
    Calls Tryz.prog 97 #[.pointer (some ⟨mk, 0, none⟩), .int .i64 x] w fun r w' => ∃ ao cap, r = .returned (.slice ao (fldL s.k s.m n wd).length cap) ∧ Gy.RowW w' w.heap.size ao cap (fldL s.k s.m n wd) ∧ G w w' := by
  go_enter Tryz.func97, Tryz.ntmps97
  go_wp2_with fail
  refine (unhide ho _ (G.refl w)).mono ?_
  rintro r w1 ⟨rfl, g1⟩
  have S0 : Hid (FlS w (w1.alloc (.cells #[.int .i64 s.k, .int .i64 s.f, .int .u64 (s.m : Int)] 59)) w1.heap.size s none 0 (fldP s.k s.m n wd 0)) := hide ⟨g1.more _, Gy.RowW.nil _ _, Rv.new _ _ _ _ _, g1.size, by simp [Gy.blk]⟩
  clear g1 ho
  go_wp2_with fail
  generalize w1.heap.size = sb at *
  go_loopw [7, 18] (fun v i wr => ∃ (j : Nat) (ao : Option Addr) (cap k : Nat), v = .slice ao k cap ∧ i = .int .i64 (j : Int) ∧ j ≤ n - 1 ∧ Hid ((fldP s.k s.m n wd j).length = k) ∧ Hid (FlS w wr sb s ao cap (fldP s.k s.m n wd j)))
    (fun _ i _ => n - (intOf i).toNat)
  case atStart => exact ⟨0, none, 0, 0, rfl, rfl, Nat.zero_le _, hide rfl, S0⟩
  case round =>
    obtain ⟨j, ao, cap, k, rfl, rfl, hj, hk, S⟩ := hrel
    clear S0
    obtain ⟨c0, c1, c2, _⟩ := (unhide S).sh
    have hsl := (unhide S).sh.lt
    by_cases hlt : (j : Int) < (n : Int) - 1
    · have C := hide (fun w1 => Hd.holds_any s.k s.f s.m (j : Int) (n : Int) w1 hm (by omega))
      obtain ⟨b, hb⟩ : ∃ b, Hd.holdsB s.k s.m (j : Int) (n : Int) = b := ⟨_, rfl⟩
      rw [hb] at C
      go_wp2_with fail
      refine (unhide C _).mono ?_
      rintro r w2 ⟨rfl, g2⟩
      replace S := hide ((unhide S).gr g2)
      clear c0 c1 c2 g2 C hsl
      cases b
      · go_wp2_with fail
        go_roundw
        case rel => exact ⟨j + 1, ao, cap, k, rfl, by go_num, by omega, hide (by rw [fldP_no (by rw [hb]; simp)]; exact unhide hk), hide (by rw [fldP_no (by rw [hb]; simp)]; exact unhide S)⟩
        case measure => simp [intOf]; omega
      · have CF := hide (unhide hf j (by omega))
        obtain ⟨v, hv⟩ : ∃ v, wd (1 + j) = v := ⟨_, rfl⟩
        rw [hv] at CF
        go_wp2_with fail
        refine (unhide CF _ (unhide S).g).mono ?_
        rintro r w3 ⟨rfl, g3⟩
        replace S := hide ((unhide S).gr g3)
        clear g3 CF
        by_cases hv0 : v = 0
        · subst hv0
          go_wp2_with fail
          go_roundw
          case rel => exact ⟨j + 1, ao, cap, k, rfl, by go_num, by omega, hide (by rw [fldP_no (by rw [hv]; simp)]; exact unhide hk), hide (by rw [fldP_no (by rw [hv]; simp)]; exact unhide S)⟩
          case measure => simp [intOf]; omega
        · have hvb : (v != 0) = true := by simpa using hv0
          have hlen := fldP_len s.k s.m n wd j
          obtain ⟨k2, hk2⟩ : ∃ k2, k + 1 = k2 := ⟨_, rfl⟩
          replace hk2 := hide hk2
          have S4 := hide ((unhide S).gr (G.alloc w3 (.cells #[.int .i64 v] 2)))
          have hx : Hid ((w3.alloc (.cells #[.int .i64 v] 2)).cell? ⟨w3.heap.size, 0, none⟩ = some (.int .i64 v)) := hide (World.cell?_alloc_new _ _ _ 0)
          go_wp2_with (at_builtin; refine Gy.wpl_app rfl _ _ rfl k k2 (unhide hk) (unhide hk2) rfl (unhide S4).row (unhide S4).g.size w3.heap.size 1 v rfl (unhide hx) (by omega) ?_; intro ao4 cap4 w4 A; have S5 := hide ((unhide S4).app A); clear A S4 S hx)
          go_roundw
          case rel => exact ⟨j + 1, ao4, cap4, k2, rfl, by go_num, by omega, hide (by rw [fldP_yes (by rw [hb, hv]; exact ⟨rfl, hv0⟩)]; have := unhide hk; have := unhide hk2; simp; omega), hide (by rw [fldP_yes (by rw [hb, hv]; exact ⟨rfl, hv0⟩), hv]; exact unhide S5)⟩
          case measure => simp [intOf]; omega
    · go_wp2_with fail
      go_ret
      have : j = n - 1 := by omega
      subst this
      rw [fldP_all] at hk S
      exact ⟨ao, cap, by rw [unhide hk]; rfl, (unhide S).row, (unhide S).g⟩
end Go.Proofs.YtgflkpccddfalaaGreatDoor

/- The contracts of mark's object, field, Fields over what they read alone. -/
namespace Go.Proofs.YtgflkpccddfalaaGreatDoor
set_option maxRecDepth 100000
open Go.ChangeShapes Go.WideShapes Go.ChangeAt Go.RowKit Go.Maps

/-- And the table's shapes. -/
structure MkT (W w : World) (xl : Ld) (M : Ms) (kb tb tm : Nat) (ao : Option Addr) (cap : Nat) : Prop where
  b : MkB W w xl M.al kb tb
  tab : Hd.TabAt w W.heap.size tb tm ao cap M.T
theorem MkT.gr {W w w' : World} {xl : Ld} {M : Ms} {kb tb tm : Nat} {ao : Option Addr} {cap : Nat} (h : MkT W w xl M kb tb tm ao cap) (g : G w w') : MkT W w' xl M kb tb tm ao cap := ⟨h.b.gr g, h.tab.grown g⟩
section
variable {W w w' : World} {xl : Ld} {M1 : Ms} {kb tb tm : Nat} {ao : Option Addr} {cap : Nat}
theorem mb_object (h : Hid (MkT W w xl M1 kb tb tm ao cap)) (x : Int) :
    Calls Tryz.prog 106 #[.pointer (some ⟨kb, 0, none⟩), .int .i64 x] w fun r w' => r = .returned (.tuple #[.agg #[.int .i64 (M1.obj x).1.k, .int .i64 (M1.obj x).1.f, .int .u64 ((M1.obj x).1.m : Int)], .int .i64 ((M1.obj x).2 : Int)]) ∧ G w w' := by
  have hg := (unhide h).b.st.st.good
  by_cases h1 : M1.al.a.is x = true
  · obtain ⟨hw2, hw64⟩ := is_gw hg h1
    obtain ⟨r1, r2⟩ := mread_yes (i := 0) h1 (by omega) (by omega)
    rw [Int.add_zero] at r2
    by_cases h2 : Hd.uokB (M1.al.a.wd x) = true
    · obtain ⟨u1, u2, u3⟩ := uok_lo h2
      have ea : Hd.ukV (M1.al.a.wd x) (Hd.up0 (M1.al.a.wd x)) = Hd.up0 (M1.al.a.wd x) := by unfold Hd.ukV; rw [if_pos h2]
      have ec : Hd.ukV (M1.al.a.wd x) (Hd.up2 (M1.al.a.wd x)) = Hd.up2 (M1.al.a.wd x) := by unfold Hd.ukV; rw [if_pos h2]
      have ee : Hd.ukE (M1.al.a.wd x) = 0 := by unfold Hd.ukE; rw [if_pos h2]
      have ei : IntKind.i64.wrap (Hd.up0 (M1.al.a.wd x) - 1) = Hd.up0 (M1.al.a.wd x) - 1 := by rw [IntKind.wrap_i64]; omega
      by_cases h3 : Hd.up0 (M1.al.a.wd x) ≤ gw (M1.al.a.clsI (gs x))
      · obtain ⟨r3, _⟩ := mread_yes (i := Hd.up0 (M1.al.a.wd x) - 1) h1 (by omega) (by omega)
        cases hT : M1.T[(Hd.up2 (M1.al.a.wd x)).toNat]? with
        | none =>
          have eo : M1.obj x = (⟨0, 0, 0⟩, 0) := by unfold Ms.obj; rw [if_pos ⟨h1, h2, h3⟩, hT]
          rw [eo]
          refine mb_object_core x _ _ _ _ _ _ _ _ _ 0 0 0 4 0 (hide (unhide h).b) (hide ⟨rfl, rfl⟩) (hide ⟨rfl, rfl, rfl, rfl⟩) rfl (hide ⟨rfl, rfl⟩) (hide fun _ _ _ w1 g1 => ?_) (hide (Or.inr ⟨by rw [r1]; rfl, Or.inr ⟨by rw [r2, ee]; rfl, Or.inr ⟨by rw [r2, ea, ei, r3]; rfl, Or.inl ⟨rfl, rfl, rfl, rfl, rfl⟩⟩⟩⟩))
          rw [r2, ec]
          have hl : M1.T.length ≤ (Hd.up2 (M1.al.a.wd x)).toNat := List.getElem?_eq_none_iff.1 hT
          exact Hd.shape_no w1 _ _ _ _ _ _ ((unhide h).gr g1).tab _ (Or.inr (by omega))
        | some s =>
          have eo : M1.obj x = (s, (Hd.up0 (M1.al.a.wd x)).toNat) := by unfold Ms.obj; rw [if_pos ⟨h1, h2, h3⟩, hT]
          rw [eo]
          refine mb_object_core x _ _ _ _ _ _ _ _ _ s.k s.f s.m 0 _ (hide (unhide h).b) (hide ⟨rfl, rfl⟩) (hide ⟨rfl, rfl, rfl, rfl⟩) rfl (hide ⟨rfl, rfl⟩) (hide fun _ _ _ w1 g1 => ?_) (hide (Or.inr ⟨by rw [r1]; rfl, Or.inr ⟨by rw [r2, ee]; rfl, Or.inr ⟨by rw [r2, ea, ei, r3]; rfl, Or.inr ⟨rfl, by rw [r2, ea]; show _ = ((Hd.up0 (M1.al.a.wd x)).toNat : Int); omega⟩⟩⟩⟩))
          rw [r2, ec]
          have := Hd.shape_yes w1 _ _ _ _ _ _ ((unhide h).gr g1).tab _ s hT
          rw [Int.toNat_of_nonneg u3] at this
          exact this
      · obtain ⟨r3, _⟩ := mread_no (a := M1.al.a) (x := x) (i := Hd.up0 (M1.al.a.wd x) - 1) (fun hh => by omega)
        have eo : M1.obj x = (⟨0, 0, 0⟩, 0) := by unfold Ms.obj; rw [if_neg fun hh => h3 hh.2.2]
        rw [eo]
        exact mb_object_core x _ _ _ _ _ _ _ _ _ 0 0 0 0 0 (hide (unhide h).b) (hide ⟨rfl, rfl⟩) (hide ⟨rfl, rfl, rfl, rfl⟩) rfl (hide ⟨rfl, rfl⟩) (hide fun _ _ t => absurd t (by rw [r2, ea, ei, r3]; decide)) (hide (Or.inr ⟨by rw [r1]; rfl, Or.inr ⟨by rw [r2, ee]; rfl, Or.inl ⟨by rw [r2, ea, ei, r3]; rfl, rfl, rfl, rfl, rfl⟩⟩⟩))
    · have ee : Hd.ukE (M1.al.a.wd x) = 3 := by unfold Hd.ukE; rw [if_neg h2]
      have eo : M1.obj x = (⟨0, 0, 0⟩, 0) := by unfold Ms.obj; rw [if_neg fun hh => h2 hh.2.1]
      rw [eo]
      exact mb_object_core x _ _ _ _ _ _ _ _ _ 0 0 0 0 0 (hide (unhide h).b) (hide ⟨rfl, rfl⟩) (hide ⟨rfl, rfl, rfl, rfl⟩) rfl (hide ⟨rfl, rfl⟩) (hide fun _ t => absurd t (by rw [r2, ee]; decide)) (hide (Or.inr ⟨by rw [r1]; rfl, Or.inl ⟨by rw [r2, ee]; rfl, rfl, rfl, rfl, rfl⟩⟩))
  · obtain ⟨r1, _⟩ := mread_no (a := M1.al.a) (x := x) (i := 0) (fun hh => h1 hh.1)
    have eo : M1.obj x = (⟨0, 0, 0⟩, 0) := by unfold Ms.obj; rw [if_neg fun hh => h1 hh.1]
    rw [eo]
    exact mb_object_core x _ _ _ _ _ _ _ _ _ 0 0 0 0 0 (hide (unhide h).b) (hide ⟨rfl, rfl⟩) (hide ⟨rfl, rfl, rfl, rfl⟩) rfl (hide ⟨rfl, rfl⟩) (hide fun t => absurd t (by rw [r1]; decide)) (hide (Or.inl ⟨by rw [r1]; rfl, rfl, rfl, rfl, rfl⟩))

set_option maxHeartbeats 400000 in
theorem mb_field (h : Hid (MkB W w xl M1.al kb tb)) (x : Int) (j : Nat) (hj : j ≤ 100) (v : Int) (hv : Hid (M1.al.a.readV x ((j : Int) + 1) = v)) :
    Calls Tryz.prog 107 #[.pointer (some ⟨kb, 0, none⟩), .int .i64 x, .int .i64 (j : Int)] w fun r w' => r = .returned (.int .i64 v) ∧ G w w' := by
  have c0 := (unhide h).c0
  have C := hide (ls_read (hide (unhide h).st) x ((j : Int) + 1))
  rw [unhide hv] at C
  generalize M1.al.a.readE x ((j : Int) + 1) = er at *
  clear h hv
  go_enter Tryz.func107, Tryz.ntmps107
  go_wp2_with fail
  refine (unhide C).mono ?_
  rintro r w1 ⟨rfl, _, g⟩
  replace g := hide g
  go_wp2_with fail
  go_ret
  exact ⟨rfl, unhide g⟩

theorem mb_fields (h : Hid (MkT W w xl M1 kb tb tm ao cap)) (x : Int) :
    Calls Tryz.prog 97 #[.pointer (some ⟨kb, 0, none⟩), .int .i64 x] w fun r w' => ∃ ao cap, r = .returned (.slice ao (M1.flds x).length cap) ∧ Gy.RowW w' w.heap.size ao cap (M1.flds x) ∧ G w w' := by
  have hx := unhide h
  have ho := hide fun w1 (g1 : G w w1) => mb_object (hide (hx.gr g1)) x
  rw [Ms.flds_obj]
  rcases M1.obj_cases x with e0 | ⟨s, hs, hi, e0, u1, u2, u3⟩
  · rw [e0] at ho ⊢
    exact m_fields_core w kb x _ 0 (by omega) (by decide) _ ho (hide fun j hj => absurd hj (by omega))
  · rw [e0] at ho ⊢
    exact m_fields_core w kb x s _ (by omega) (hx.tab.fit s hs).m0 _ ho (hide fun j hj w1 g1 => mb_field (hide (hx.gr g1).b) x j (by omega) _ (hide (by
      rw [(mread_yes (i := (j : Int) + 1) hi (by omega) (by omega)).2]
      congr 1
      omega)))

end
end Go.Proofs.YtgflkpccddfalaaGreatDoor

/- PLAIN: a collection, step by step (chapter 8), over a marker with its allocator. -/
namespace Go.Proofs.YtgflkpccddfalaaGreatDoor
set_option maxRecDepth 100000

/-- Whom it serves: globals, the stacks' numbers, what each holds. -/
structure Rt where
  g : List Int
  ids : List Int
  st : Int → List Int
/-- A collection: bk: the black stacks, each once, in whatever order. -/
structure Cy where
  M : Ms
  ph : Int
  bk : List Int
  kept : Int
  done : Int
def Cy.on (c : Cy) : Bool := c.ph == 1 || c.ph == 2
def Cy.shades (c : Cy) (l : List Int) : Cy := { c with M := c.M.shades l }
def Cy.add (c : Cy) (id : Int) : Cy := if id ∈ c.bk then c else { c with bk := c.bk ++ [id] }
/-- The least stack that is not black. -/
def leastW (bk : List Int) : List Int → Option Int
  | [] => none
  | i :: r => match leastW bk r with
    | none => if i ∈ bk then none else some i
    | some j => if i ∈ bk then some j else some (min i j)
def Cy.startC (c : Cy) (r : Rt) : Cy := if c.ph = 0 then (({ c with M := ⟨⟨c.M.al.a.clear, c.M.al.u⟩, c.M.T, c.M.g⟩, ph := 1, bk := [] } : Cy)).shades r.g else c
def Cy.look (c : Cy) (r : Rt) (id : Int) : Cy := (c.shades (r.st id)).add id
def Cy.scanB (c : Cy) (r : Rt) (id : Int) : Bool := c.on && decide (id ∈ r.ids) && !decide (id ∈ c.bk)
def Cy.scanC (c : Cy) (r : Rt) (id : Int) : Cy := if c.scanB r id = true then c.look r id else c
def Cy.sweepC (c : Cy) : Cy :=
  if (leastU c.M.al.u c.M.al.a.n 0).isSome = true then { c with M := ⟨c.M.al.sweepOne, c.M.T, c.M.g⟩ }
  else { c with M := ⟨c.M.al.sweepOne, c.M.T, c.M.g⟩, ph := 0, done := c.done + 1, kept := max (c.M.al.sweepOne.a.used c.M.al.sweepOne.a.n) 64 }
def Cy.stepC (c : Cy) (r : Rt) : Cy :=
  if c.ph = 1 then (match leastW c.bk r.ids with
    | some id => c.look r id
    | none => { c with ph := 2 })
  else if c.ph = 2 then (match c.M.g with
    | _ :: _ => { c with M := c.M.step }
    | [] => match leastW c.bk r.ids with
      | some _ => { c with ph := 1 }
      | none => { c with M := ⟨c.M.al.stale, c.M.T, c.M.g⟩, ph := 3 })
  else if c.ph = 3 then c.sweepC
  else c
def Cy.barrier (c : Cy) (old fresh id : Int) : Cy := if c.on = true then (if id ∈ c.bk then c.shades [old] else c.shades [old, fresh]) else c
def Cy.born (c : Cy) (id : Int) : Cy := if c.on = true then c.add id else c
def Cy.dies (c : Cy) (id : Int) : Cy := { c with bk := c.bk.filter fun i => i != id }
def Cy.takeC (c : Cy) (n : Int) : Cy :=
  if (c.M.al.take n).2.2 = 0 ∧ c.on = true then { c with M := ⟨⟨(c.M.al.take n).1.a.markA (c.M.al.take n).2.1, (c.M.al.take n).1.u⟩, c.M.T, c.M.g⟩ }
  else { c with M := ⟨(c.M.al.take n).1, c.M.T, c.M.g⟩ }
def Cy.wants (c : Cy) : Bool := c.ph == 0 && decide (2 * c.kept ≤ c.M.al.a.used c.M.al.a.n)

/-! ### the least that is not black -/
theorem leastW_some {bk : List Int} : ∀ {l : List Int} {i : Int}, leastW bk l = some i → i ∈ l ∧ i ∉ bk ∧ ∀ j ∈ l, j ∉ bk → i ≤ j
  | [], _, h => by cases h
  | k :: r, i, h => by
    unfold leastW at h
    rcases hr : leastW bk r with _ | j
    · rw [hr] at h
      simp only at h
      split at h
      · cases h
      · rename_i hk
        injection h with h
        subst h
        refine ⟨List.mem_cons_self, hk, fun j hj hn => ?_⟩
        rcases List.mem_cons.1 hj with e | e
        · omega
        · exact absurd hr (by
            have : ∀ {l : List Int} {j : Int}, j ∈ l → j ∉ bk → leastW bk l ≠ none := by
              intro l
              induction l with
              | nil => intro j hj; cases hj
              | cons a t ih =>
                intro j hj hn h0
                unfold leastW at h0
                rcases ht : leastW bk t with _ | q
                · rw [ht] at h0
                  simp only at h0
                  split at h0
                  · rename_i ha
                    rcases List.mem_cons.1 hj with e | e
                    · subst e; exact hn ha
                    · exact ih e hn ht
                  · cases h0
                · rw [ht] at h0
                  simp only at h0
                  split at h0 <;> cases h0
            exact this e hn)
    · obtain ⟨h1, h2, h3⟩ := leastW_some hr
      rw [hr] at h
      simp only at h
      split at h
      · rename_i hk
        injection h with h
        subst h
        refine ⟨List.mem_cons_of_mem _ h1, h2, fun q hq hn => ?_⟩
        rcases List.mem_cons.1 hq with e | e
        · subst e; exact absurd hk hn
        · exact h3 q e hn
      · rename_i hk
        injection h with h
        subst h
        refine ⟨?_, ?_, fun q hq hn => ?_⟩
        · rcases Int.le_total k j with hl | hl
          · rw [Int.min_eq_left hl]; exact List.mem_cons_self
          · rw [Int.min_eq_right hl]; exact List.mem_cons_of_mem _ h1
        · rcases Int.le_total k j with hl | hl
          · rw [Int.min_eq_left hl]; exact hk
          · rw [Int.min_eq_right hl]; exact h2
        · rcases List.mem_cons.1 hq with e | e
          · subst e; exact Int.min_le_left _ _
          · have := h3 q e hn; have := Int.min_le_right k j; omega
theorem leastW_none {bk : List Int} : ∀ {l : List Int}, leastW bk l = none → ∀ j ∈ l, j ∈ bk
  | [], _, j, hj => by cases hj
  | k :: r, h, j, hj => by
    unfold leastW at h
    rcases hr : leastW bk r with _ | q
    · rw [hr] at h
      simp only at h
      split at h
      · rename_i hk
        rcases List.mem_cons.1 hj with e | e
        · subst e; exact hk
        · exact leastW_none hr j e
      · cases h
    · rw [hr] at h
      simp only at h
      split at h <;> cases h
/-! ### many steps -/
/-- Numbers that it never comes to. -/
structure Cy.Fits (C : Cy) : Prop where
  g : C.M.g.length ≤ 10000
  b : C.bk.length ≤ 1000
  d : 0 ≤ C.done ∧ C.done ≤ 1000000
def Cy.stepsC (C : Cy) (R : Rt) : Nat → Cy
  | 0 => C
  | j + 1 => (C.stepsC R j).stepC R
/-- So many steps till it is off. -/
structure Cy.Runs (C : Cy) (R : Rt) (J : Nat) : Prop where
  on : ∀ j, j < J → (C.stepsC R j).ph = 1 ∨ (C.stepsC R j).ph = 2 ∨ (C.stepsC R j).ph = 3
  off : (C.stepsC R J).ph = 0
  fit : ∀ j, j < J → (C.stepsC R j).Fits
theorem stepsC_succ (C : Cy) (R : Rt) : ∀ j, (C.stepC R).stepsC R j = C.stepsC R (j + 1)
  | 0 => rfl
  | j + 1 => by
    show ((C.stepC R).stepsC R j).stepC R = (C.stepsC R (j + 1)).stepC R
    rw [stepsC_succ C R j]
theorem Cy.Runs.cons {C : Cy} {R : Rt} {J : Nat} (on : C.ph = 1 ∨ C.ph = 2 ∨ C.ph = 3) (fit : C.Fits) (h : (C.stepC R).Runs R J) : C.Runs R (J + 1) := by
  refine ⟨fun j hj => ?_, by rw [← stepsC_succ]; exact h.off, fun j hj => ?_⟩
  · cases j with
    | zero => exact on
    | succ j => rw [← stepsC_succ]; exact h.on j (by omega)
  · cases j with
    | zero => exact fit
    | succ j => rw [← stepsC_succ]; exact h.fit j (by omega)
end Go.Proofs.YtgflkpccddfalaaGreatDoor

/- A Heap in memory whose collector is a plain Cy: Shade, mark's Step, shadeAll. -/
namespace Go.Proofs.YtgflkpccddfalaaGreatDoor
set_option maxRecDepth 100000
open Go.ChangeShapes Go.WideShapes Go.ChangeAt Go.RowKit Go.Maps Go.ChangeMaps Go.MapKept Go.Deep

/-- The blocks that its calls turn. -/
def ownQ (x : Hx) (qs : List Nat) (d : Nat) : Prop := d = x.xl.d.wb ∨ d = x.xl.d.sb ∨ d = x.xl.ub ∨ d = x.b.cb ∨ d = x.b.mb ∨ d = x.b.q ∨ d ∈ qs
/-- A Heap whose collector is at C. -/
def HC (W : World) (x : Hx) (n : Nat) (ao : Option Addr) (cap : Nat) (nv : Value) (fc : Int) (w : World) (C : Cy) (qs : List Nat) : Prop :=
  ∃ c, HG W w x C.M.al C.M.T n ao cap nv c C.ph C.kept C.done fc C.bk C.M.g qs
def Cy.shadeC (C : Cy) (y : Int) : Cy := { C with M := C.M.shade y }
theorem Cy.shades_snoc (C : Cy) (l : List Int) (y : Int) : C.shades (l ++ [y]) = (C.shades l).shadeC y := by
  unfold Cy.shades Cy.shadeC
  rw [Ms.shades_snoc]
section
variable {W w w' : World} {x : Hx} {n : Nat} {ao : Option Addr} {cap : Nat} {nv : Value} {fc : Int} {C : Cy} {qs : List Nat}
theorem HC.gr (h : HC W x n ao cap nv fc w C qs) (g : G w w') : HC W x n ao cap nv fc w' C qs := by
  obtain ⟨c, H⟩ := h
  exact ⟨c, H.gr g⟩
theorem HC.lt (h : HC W x n ao cap nv fc w C qs) {d : Nat} (hd : ownQ x qs d) : d < w.heap.size := by
  obtain ⟨c, H⟩ := h
  obtain ⟨_, l2, l3, l4, _⟩ := H.alt
  obtain ⟨e1, e2, e3, e4, e5⟩ := H.clt
  rcases hd with rfl | rfl | rfl | rfl | rfl | rfl | hd
  · exact l2
  · exact l3
  · exact l4
  · exact e1
  · exact e3
  · exact e4
  · exact H.que.ltb d hd
theorem HC.mk (h : HC W x n ao cap nv fc w C qs) : MkT W w x.xl C.M x.b.kb x.b.tb x.tm ao cap := by
  obtain ⟨c, H⟩ := h
  exact ⟨⟨H.st, H.k0, H.k1⟩, H.tab⟩
theorem c_shade (h : Hid (HC W x n ao cap nv fc w C qs)) (hn : C.M.g.length ≤ 900000) (y : Int) : Calls Tryz.prog 69 #[.pointer (some ⟨x.b.kb, 0, none⟩), .int .i64 y] w fun e w' => e = .returned (.bool (C.M.al.a.markB y)) ∧ ∃ qs', HC W x n ao cap nv fc w' (C.shadeC y) qs' ∧ Fr (ownQ x qs) (ownQ x qs') w w' := by
  obtain ⟨c, H⟩ := unhide h
  refine (g_shade (g := ⟨c, C.M.g, qs⟩) (hide H) hn y).mono ?_
  rintro e w' ⟨he, g2, e2, S, F⟩
  have S' : HG W w' x (shA C.M.al y) C.M.T n ao cap nv g2.c C.ph C.kept C.done fc C.bk g2.gl g2.qs := S
  rw [e2] at S'
  exact ⟨he, g2.qs, ⟨g2.c, S'⟩, F⟩
theorem c_mstep_none (h : Hid (HC W x n ao cap nv fc w C qs)) (h0 : C.M.g = []) : Calls Tryz.prog 87 #[.pointer (some ⟨x.b.kb, 0, none⟩)] w fun r w' => r = .returned (.bool false) ∧ w' = w := by
  obtain ⟨c, H⟩ := unhide h
  have c2 := H.k2
  have q := H.que
  rw [h0] at q
  have CN := hide (Gy.q_next_none q)
  clear H q h
  go_enter Tryz.func87, Tryz.ntmps87
  go_wp2_with fail
  refine (unhide CN).mono ?_
  rintro r w1 ⟨rfl, rfl⟩
  go_wp2_with fail
  go_ret
  exact ⟨rfl, rfl⟩
theorem Fr.queue {w w' : World} {gl : List Int} {qs : List Nat} (L : Gy.Left w w' x.b.q qs gl) : ∃ qs', (∀ d ∈ qs', d ∈ qs ∨ w.heap.size ≤ d) ∧ Fr (ownQ x qs) (ownQ x qs') w w' := by
  obtain ⟨qs', Q, t, hn⟩ := L
  refine ⟨qs', hn, t.size, fun d hd ho => t.block d hd (fun e => ho (Or.inr (Or.inr (Or.inr (Or.inr (Or.inr (Or.inl e))))))) (fun e => ho (Or.inr (Or.inr (Or.inr (Or.inr (Or.inr (Or.inr e))))))), fun d hd => ?_⟩
  rcases hd with e | e | e | e | e | e | e
  · exact Or.inl (Or.inl e)
  · exact Or.inl (Or.inr (Or.inl e))
  · exact Or.inl (Or.inr (Or.inr (Or.inl e)))
  · exact Or.inl (Or.inr (Or.inr (Or.inr (Or.inl e))))
  · exact Or.inl (Or.inr (Or.inr (Or.inr (Or.inr (Or.inl e)))))
  · exact Or.inl (Or.inr (Or.inr (Or.inr (Or.inr (Or.inr (Or.inl e))))))
  · rcases hn d e with e | e
    · exact Or.inl (Or.inr (Or.inr (Or.inr (Or.inr (Or.inr (Or.inr e))))))
    · exact Or.inr e
/-- A row that is none of its blocks. -/
structure Sd (x : Hx) (qs : List Nat) (w : World) (bo : Option Addr) (ys : List Int) : Prop where
  is : Gy.IsI w bo ys
  no : ∀ d ∈ Gy.blk bo, d < w.heap.size ∧ ¬ ownQ x qs d
theorem Sd.fr {qs' : List Nat} {bo : Option Addr} {ys : List Int} (h : Sd x qs w bo ys) (F : Fr (ownQ x qs) (ownQ x qs') w w') : Sd x qs' w' bo ys := by
  refine ⟨?_, fun d hd => ⟨Nat.lt_of_lt_of_le (h.no d hd).1 F.size, fun ho => ?_⟩⟩
  · rcases h.is with e | ⟨g, off, rfl, h2, h3⟩
    · exact Or.inl e
    · have hg := h.no g (by simp [Gy.blk])
      exact Or.inr ⟨g, off, rfl, Nat.lt_of_lt_of_le h2 F.size, fun i y hi => (World.cell?_of_block (a := ⟨g, off + i, none⟩) (F.kept g hg.1 hg.2)).trans (h3 i y hi)⟩
  · rcases F.more d ho with e | e
    · exact (h.no d hd).2 e
    · have := (h.no d hd).1; omega
set_option maxHeartbeats 2000000 in
theorem c_mstep_some (h : Hid (HC W x n ao cap nv fc w C qs)) {y : Int} {rs : List Int} (h0 : Hid (C.M.g = y :: rs)) (hn : rs.length ≤ 100000) : Calls Tryz.prog 87 #[.pointer (some ⟨x.b.kb, 0, none⟩)] w fun r w' => r = .returned (.bool true) ∧ ∃ qs', HC W x n ao cap nv fc w' { C with M := C.M.step } qs' ∧ Fr (ownQ x qs) (ownQ x qs') w w' := by
  obtain ⟨c, H⟩ := unhide h
  have c2 := H.k2
  have q := H.que
  rw [unhide h0] at q
  have CN : Hid (Calls Tryz.prog 96 #[.pointer (some ⟨x.b.q, 0, none⟩)] w fun e w' => e = .returned (.tuple #[.int .i64 y, .bool true]) ∧ ∃ qs', HC W x n ao cap nv fc w' { C with M := ⟨C.M.al, C.M.T, rs⟩ } qs' ∧ Fr (ownQ x qs) (ownQ x qs') w w') := hide ((Gy.q_next q (by omega)).mono fun e w' hh => by
    obtain ⟨c', qs', hc, hq, S⟩ := H.queue hh.2
    obtain ⟨qq, Q, t, hnq⟩ := hh.2
    exact ⟨hh.1, qs', ⟨c', S⟩, t.size, fun d hd ho => t.block d hd (fun e => ho (Or.inr (Or.inr (Or.inr (Or.inr (Or.inr (Or.inl e))))))) (fun e => ho (Or.inr (Or.inr (Or.inr (Or.inr (Or.inr (Or.inr e))))))), fun d hd => by
      rcases hd with e | e | e | e | e | e | e
      · exact Or.inl (Or.inl e)
      · exact Or.inl (Or.inr (Or.inl e))
      · exact Or.inl (Or.inr (Or.inr (Or.inl e)))
      · exact Or.inl (Or.inr (Or.inr (Or.inr (Or.inl e))))
      · exact Or.inl (Or.inr (Or.inr (Or.inr (Or.inr (Or.inl e)))))
      · exact Or.inl (Or.inr (Or.inr (Or.inr (Or.inr (Or.inr (Or.inl e))))))
      · rcases hq d e with e | e
        · exact Or.inl (Or.inr (Or.inr (Or.inr (Or.inr (Or.inr (Or.inr e))))))
        · exact Or.inr e⟩)
  have eM : Hid (C.M.step = Ms.shades ⟨C.M.al, C.M.T, rs⟩ (C.M.flds y)) := hide (by unfold Ms.step; rw [unhide h0])
  have hfl := C.M.flds_len y
  obtain ⟨ys, hys⟩ : ∃ ys, C.M.flds y = ys := ⟨_, rfl⟩
  rw [unhide eM, hys]
  rw [hys] at hfl
  obtain ⟨k, hk⟩ : ∃ k, ys.length = k := ⟨_, rfl⟩
  rw [hk] at hfl
  obtain ⟨C0, hC0⟩ : ∃ C0 : Cy, C0 = { C with M := ⟨C.M.al, C.M.T, rs⟩ } := ⟨_, rfl⟩
  have eC : ({ C with M := Ms.shades ⟨C.M.al, C.M.T, rs⟩ ys } : Cy) = C0.shades ys := by rw [hC0]; rfl
  have eF : C0.M.flds y = ys := by rw [hC0]; exact hys
  have eG : C0.M.g.length ≤ 100000 := by rw [hC0]; exact hn
  rw [← hC0] at CN
  rw [eC]
  replace hk := hide hk
  replace hfl := hide hfl
  replace eF := hide eF
  replace eG := hide eG
  clear H q h eM hC0 eC hys h0 hn
  go_enter Tryz.func87, Tryz.ntmps87
  go_wp2_with fail
  refine (unhide CN).mono ?_
  rintro r w1 ⟨rfl, qs1, X1, F1⟩
  have CF := mb_fields (hide X1.mk) y
  rw [unhide eF, unhide hk] at CF
  replace CF := hide CF
  replace X1 := hide X1
  replace F1 := hide F1
  clear CN
  go_wp2_with fail
  refine (unhide CF).mono ?_
  rintro r w2 ⟨bo, bc, rfl, R2, g2⟩
  have X2 : Hid (HC W x n ao cap nv fc w2 (C0.shades (ys.take 0)) qs1) := hide (by rw [List.take_zero]; exact (unhide X1).gr g2)
  have S2 : Hid (Sd x qs1 w2 bo ys) := hide ⟨R2.is, fun d hd => ⟨(R2.lo d hd).2, fun ho => by have := (R2.lo d hd).1; have := (unhide X1).lt ho; omega⟩⟩
  have F2 : Hid (Fr (ownQ x qs) (ownQ x qs1) w w2) := hide ((unhide F1).g g2)
  clear CF R2 g2 X1 F1
  go_wp2_with fail
  go_loopw [21] (fun i wr => ∃ (j : Nat) (qj : List Nat), i = .int .i64 (j : Int) ∧ j ≤ k ∧ Hid (HC W x n ao cap nv fc wr (C0.shades (ys.take j)) qj) ∧ Hid (Sd x qj wr bo ys) ∧ Hid (Fr (ownQ x qs) (ownQ x qj) w wr))
    (fun i _ => k - (intOf i).toNat)
  case atStart => exact ⟨0, qs1, rfl, Nat.zero_le _, X2, S2, F2⟩
  case round =>
    obtain ⟨j, qj, rfl, hj, X, S, F⟩ := hrel
    clear X2 S2 F2
    by_cases hlt : j < k
    · obtain ⟨z, g, off, hy, rfl, cy⟩ := (unhide S).is.at_ (i := j) (by have := unhide hk; omega)
      have hT : Hid (ys.take (j + 1) = ys.take j ++ [z]) := hide (by rw [List.take_add_one, hy]; rfl)
      have hg : (C0.shades (ys.take j)).M.g.length ≤ 900000 := by
        have h1 := Ms.shades_g (ys.take j) C0.M
        have h2 : (C0.shades (ys.take j)).M.g.length ≤ C0.M.g.length + (ys.take j).length := h1
        rw [List.length_take] at h2
        have := unhide eG
        have := unhide hfl
        omega
      have CS := hide (c_shade X hg z)
      rw [← Cy.shades_snoc, ← unhide hT] at CS
      clear hy hg hT
      generalize (C0.shades (ys.take j)).M.al.a.markB z = bb at *
      go_wp2_with fail
      refine (unhide CS).mono ?_
      rintro r w3 ⟨rfl, q3, X3, F3⟩
      have S3 := hide ((unhide S).fr F3)
      have F4 := hide ((unhide F).trans F3)
      replace X3 := hide X3
      have hj1 := unhide hfl
      clear CS cy X S F F3
      go_wp2_with fail
      go_roundw
      case rel => exact ⟨j + 1, q3, by go_num, by omega, X3, S3, F4⟩
      case measure => simp [intOf]; omega
    · go_wp2_with fail
      go_ret
      have : j = k := by omega
      subst this
      rw [List.take_of_length_le (by have := unhide hk; omega)] at X
      exact ⟨rfl, qj, unhide X, unhide F⟩
set_option maxHeartbeats 2000000 in
theorem c_shadeAll (h : Hid (HC W x n ao cap nv fc w C qs)) {bo : Option Addr} {bc k : Nat} {ys : List Int} (hk : ys.length = k) (hk6 : k ≤ 100000) (hS : Hid (Sd x qs w bo ys)) (hg : C.M.g.length ≤ 100000) : Calls Tryz.prog 55 #[.pointer (some ⟨x.b.cb, 0, none⟩), .slice bo k bc] w fun r w' => r = .returned (.tuple #[]) ∧ ∃ qs', HC W x n ao cap nv fc w' (C.shades ys) qs' ∧ Fr (ownQ x qs) (ownQ x qs') w w' := by
  have C3 : Hid (∀ y D q, HC W x n ao cap nv fc y D q → y.cell? ⟨x.b.cb, 3, none⟩ = some (.pointer (some ⟨x.b.kb, 0, none⟩))) := hide fun y D q hy => by
    obtain ⟨c, H⟩ := hy
    exact H.cb.c3
  replace hk := hide hk
  replace hk6 := hide hk6
  replace hg := hide hg
  have X2 : Hid (HC W x n ao cap nv fc w (C.shades (ys.take 0)) qs) := hide (by rw [List.take_zero]; exact unhide h)
  clear h
  go_enter Tryz.func55, Tryz.ntmps55
  go_wp2_with fail
  go_loopw [8] (fun i wr => ∃ (j : Nat) (qj : List Nat), i = .int .i64 (j : Int) ∧ j ≤ k ∧ Hid (HC W x n ao cap nv fc wr (C.shades (ys.take j)) qj) ∧ Hid (Sd x qj wr bo ys) ∧ Hid (Fr (ownQ x qs) (ownQ x qj) w wr))
    (fun i _ => k - (intOf i).toNat)
  case atStart => exact ⟨0, qs, rfl, Nat.zero_le _, X2, hS, hide (Fr.of_G (G.refl _))⟩
  case round =>
    obtain ⟨j, qj, rfl, hj, X, S, F⟩ := hrel
    clear X2 hS
    by_cases hlt : j < k
    · obtain ⟨z, g, off, hy, rfl, cy⟩ := (unhide S).is.at_ (i := j) (by have := unhide hk; omega)
      have hT : Hid (ys.take (j + 1) = ys.take j ++ [z]) := hide (by rw [List.take_add_one, hy]; rfl)
      have hg9 : (C.shades (ys.take j)).M.g.length ≤ 900000 := by
        have h1 := Ms.shades_g (ys.take j) C.M
        have h2 : (C.shades (ys.take j)).M.g.length ≤ C.M.g.length + (ys.take j).length := h1
        rw [List.length_take] at h2
        have := unhide hg
        have := unhide hk6
        omega
      have CS := hide (c_shade X hg9 z)
      have c3 := unhide C3 _ _ _ (unhide X)
      rw [← Cy.shades_snoc, ← unhide hT] at CS
      clear hy hg9 hT
      generalize (C.shades (ys.take j)).M.al.a.markB z = bb at *
      go_wp2_with fail
      refine (unhide CS).mono ?_
      rintro r w3 ⟨rfl, q3, X3, F3⟩
      have S3 := hide ((unhide S).fr F3)
      have F4 := hide ((unhide F).trans F3)
      replace X3 := hide X3
      have hj1 := unhide hk6
      clear CS cy X S F F3 c3
      go_wp2_with fail
      go_roundw
      case rel => exact ⟨j + 1, q3, by go_num, by omega, X3, S3, F4⟩
      case measure => simp [intOf]; omega
    · go_wp2_with fail
      go_returns
      have : j = k := by omega
      subst this
      rw [List.take_of_length_le (by have := unhide hk; omega)] at X
      exact ⟨rfl, qj, unhide X, unhide F⟩
end
end Go.Proofs.YtgflkpccddfalaaGreatDoor

/- The collector's calls over a plain Cy, for roots of one type: Start, leastNotBlack, blacken, the steps, finish, Whole. -/
namespace Go.Proofs.YtgflkpccddfalaaGreatDoor
set_option maxRecDepth 100000
open Go.ChangeShapes Go.WideShapes Go.ChangeAt Go.RowKit Go.Maps Go.ChangeMaps Go.MapKept Go.Deep

/-- A new row. -/
structure NwR (y w' : World) (bo : Option Addr) (ys : List Int) : Prop where
  is : Gy.IsI w' bo ys
  lo : ∀ d ∈ Gy.blk bo, y.heap.size ≤ d ∧ d < w'.heap.size
  g : G y w'
/-- Whom it serves: RS: they lie there, none of it in the collector's own blocks. -/
structure Rts (x : Hx) (R : Rt) (p : Option Addr) (RS : List Nat → World → Prop) : Prop where
  fr : ∀ qs qs' y y', RS qs y → Fr (ownQ x qs) (ownQ x qs') y y' → RS qs' y'
  gl : ∀ qs y, RS qs y → Calls Tryz.prog 127 #[.pointer p] y fun e w' => ∃ bo bc, e = .returned (.slice bo R.g.length bc) ∧ NwR y w' bo R.g
  sk : ∀ qs y, RS qs y → Calls Tryz.prog 129 #[.pointer p] y fun e w' => ∃ bo bc, e = .returned (.slice bo R.ids.length bc) ∧ NwR y w' bo R.ids
  st : ∀ qs y id, RS qs y → Calls Tryz.prog 128 #[.pointer p, .int .i64 id] y fun e w' => ∃ bo bc, e = .returned (.slice bo (R.st id).length bc) ∧ NwR y w' bo (R.st id)
  n1 : R.g.length ≤ 10000
  n2 : R.ids.length ≤ 1000
  n3 : ∀ id, (R.st id).length ≤ 10000
  wf : ∀ id ∈ R.ids, wfN id
theorem run_clearC {w : World} {mb clock : Nat} {es : Array MapEntry} (hb : w.heap[mb]? = some (.map es clock)) : (Builtin.clear_ #[86] 0 #[.map (some mb)]).run Tryz.prog w = .ok (.tuple #[]) (setBlock w mb (.map #[] clock)) := by
  simp [Builtin.clear_, run_underlying Tryz.underlying86, MapKept.run_getObj_map hb, MapKept.run_setObj_map _ hb, Result.andThen, setBlock]
section
variable {W w w' : World} {x : Hx} {n : Nat} {ao : Option Addr} {cap : Nat} {nv : Value} {fc : Int} {C : Cy} {qs : List Nat} {R : Rt} {p : Option Addr} {RS : List Nat → World → Prop}
theorem NwR.sd {y : World} {bo : Option Addr} {ys : List Int} (h : NwR y w' bo ys) (H : HC W x n ao cap nv fc y C qs) : Sd x qs w' bo ys :=
  ⟨h.is, fun d hd => ⟨(h.lo d hd).2, fun ho => by have := (h.lo d hd).1; have := H.lt ho; omega⟩⟩
theorem frq_cb (i : Nat) (v : Value) : Fr (ownQ x qs) (ownQ x qs) w (w.setCell ⟨x.b.cb, i, none⟩ v) := ⟨by rw [World.size_setCell]; exact Nat.le_refl _, fun d _ ho => Below.heap_setCell _ _ _ _ (by show d ≠ x.b.cb; intro e; exact ho (Or.inr (Or.inr (Or.inr (Or.inl e))))), fun _ h => Or.inl h⟩
theorem frq_tn (t : TnL w w' x.xl) : Fr (ownQ x qs) (ownQ x qs) w w' := ⟨t.size, fun d hd ho => t.block d hd (fun e => ho (Or.inl e)) (fun e => ho (Or.inr (Or.inl e))) (fun e => ho (Or.inr (Or.inr (Or.inl e)))), fun _ h => Or.inl h⟩
theorem HG.cbs {al : Al} {l : List Hd.Shp} {c : Nat → Nat} {ph kept done ph' kept' done' : Int} {bk gl : List Int} (h : HG W w x al l n ao cap nv c ph kept done fc bk gl qs) (i : Nat) (v : Value) (cb' : CbAt (w.setCell ⟨x.b.cb, i, none⟩ v) x ph' kept' done') : HG W (w.setCell ⟨x.b.cb, i, none⟩ v) x al l n ao cap nv c ph' kept' done' fc bk gl qs := by
  obtain ⟨k1, k2, k3, k4⟩ := h.kc
  obtain ⟨e1, e2, e3, e4, e5⟩ := h.clt
  have kp : ∀ d, c d ≠ 2 → (w.setCell ⟨x.b.cb, i, none⟩ v).heap[d]? = w.heap[d]? := fun d n2 => Below.heap_setCell _ _ _ _ (by show d ≠ x.b.cb; intro e; exact n2 (by rw [e]; exact k1))
  exact h.re (by rw [World.size_setCell]; exact Nat.le_refl _) (h.stk (h.st.below.setCell h.lo.1 _) fun d _ hc => kp d (by omega)) (fun d _ _ n2 _ _ _ => kp d n2) cb' (h.mp.kept (kp _ (by omega))) (h.que.kept (kp _ (by omega)) (fun d hd => kp d (by rw [h.cq d hd]; decide))) (fun _ _ => rfl) h.hq
theorem CbAt.keep6 {ph kept done : Int} (h : CbAt w x ph kept done) (v : Int) : CbAt (w.setCell ⟨x.b.cb, 6, none⟩ (.int .i64 v)) x ph v done :=
  ⟨cellO (by decide) h.c0, cellO (by decide) h.c1, cellO (by decide) h.c2, cellO (by decide) h.c3, cellO (by decide) h.c4, cellO (by decide) h.c5, cell_same _ h.c6, cellO (by decide) h.c7, fun i => by rw [World.frozen?_setCell]; exact h.fz i⟩
theorem CbAt.done7 {ph kept done : Int} (h : CbAt w x ph kept done) (v : Int) : CbAt (w.setCell ⟨x.b.cb, 7, none⟩ (.int .i64 v)) x ph kept v :=
  ⟨cellO (by decide) h.c0, cellO (by decide) h.c1, cellO (by decide) h.c2, cellO (by decide) h.c3, cellO (by decide) h.c4, cellO (by decide) h.c5, cellO (by decide) h.c6, cell_same _ h.c7, fun i => by rw [World.frozen?_setCell]; exact h.fz i⟩
theorem HC.phase (h : HC W x n ao cap nv fc w C qs) (q : Int) : HC W x n ao cap nv fc (w.setCell ⟨x.b.cb, 4, none⟩ (.int .i64 q)) { C with ph := q } qs := by
  obtain ⟨c, H⟩ := h
  exact ⟨c, H.phase q⟩
theorem HC.done7 (h : HC W x n ao cap nv fc w C qs) (q : Int) : HC W x n ao cap nv fc (w.setCell ⟨x.b.cb, 7, none⟩ (.int .i64 q)) { C with done := q } qs := by
  obtain ⟨c, H⟩ := h
  exact ⟨c, H.cbs 7 _ (H.cb.done7 q)⟩
theorem HC.keep6 (h : HC W x n ao cap nv fc w C qs) (q : Int) : HC W x n ao cap nv fc (w.setCell ⟨x.b.cb, 6, none⟩ (.int .i64 q)) { C with kept := q } qs := by
  obtain ⟨c, H⟩ := h
  exact ⟨c, H.cbs 6 _ (H.cb.keep6 q)⟩
theorem HC.cb (h : HC W x n ao cap nv fc w C qs) : CbAt w x C.ph C.kept C.done := by
  obtain ⟨c, H⟩ := h
  exact H.cb
theorem HC.st (h : HC W x n ao cap nv fc w C qs) : StL W w x.xl C.M.al := by
  obtain ⟨c, H⟩ := h
  exact H.st
theorem HC.turn (h : HC W x n ao cap nv fc w C qs) {al' : Al} (s : StL W w' x.xl al') (t : TnL w w' x.xl) : HC W x n ao cap nv fc w' { C with M := ⟨al', C.M.T, C.M.g⟩ } qs := by
  obtain ⟨c, H⟩ := h
  exact ⟨c, H.turn s t⟩
theorem HC.cleared {es : Array MapEntry} {cl : Nat} (h : HC W x n ao cap nv fc w C qs) (hc : w.heap[x.b.mb]? = some (.map es cl)) : HC W x n ao cap nv fc (setBlock w x.b.mb (.map #[] cl)) { C with bk := [] } qs ∧ Fr (ownQ x qs) (ownQ x qs) w (setBlock w x.b.mb (.map #[] cl)) := by
  obtain ⟨c, h⟩ := h
  have k : ∀ d, d ≠ x.b.mb → (setBlock w x.b.mb (.map #[] cl)).heap[d]? = w.heap[d]? := fun d hd => heap_setBlock_other hc _ hd
  have hsz : (setBlock w x.b.mb (.map #[] cl)).heap.size = w.heap.size := by unfold setBlock; simp
  have lo := h.lo
  have bl : Below W.heap.size W (setBlock w x.b.mb (.map #[] cl)) := ⟨h.st.below.os, h.st.below.tape, h.st.below.output, by rw [hsz]; exact h.st.below.size, fun d hd => (k d (by omega)).trans (h.st.below.block d hd)⟩
  refine ⟨⟨c, h.mapped bl (by rw [hsz]; exact Nat.le_refl _) (fun d _ hd => k d hd) ?_⟩, by rw [hsz]; exact Nat.le_refl _, fun d _ ho => k d (fun e => ho (Or.inr (Or.inr (Or.inr (Or.inr (Or.inl e)))))), fun _ h => Or.inl h⟩
  exact ⟨.map [], ⟨#[], cl, heap_setBlock_same hc _, ⟨by simp, stamped_empty cl, by simp⟩, Nat.le_refl _, rfl⟩, fun y _ => by simp [Maps.has]⟩
set_option maxHeartbeats 1000000 in
theorem c_start (h : Hid (HC W x n ao cap nv fc w C qs)) (h0 : C.ph = 0) (T : Hid (Rts x R p RS)) (hR : Hid (RS qs w)) (hg : C.M.g.length ≤ 10000) : Calls Tryz.prog 36 #[.pointer (some ⟨x.b.cb, 0, none⟩), .iface 30 (.pointer p)] w fun e w' => e = .returned (.bool true) ∧ ∃ qs', HC W x n ao cap nv fc w' (C.startC R) qs' ∧ Fr (ownQ x qs) (ownQ x qs') w w' := by
  have c4 := (unhide h).cb.c4
  rw [h0] at c4
  have c0 := (unhide h).cb.c0
  have CC := hide (l_clear (hide (unhide h).st))
  have eS : C.startC R = (({ C with M := ⟨⟨C.M.al.a.clear, C.M.al.u⟩, C.M.T, C.M.g⟩, ph := 1, bk := [] } : Cy)).shades R.g := if_pos h0
  rw [eS]
  clear eS h0
  replace hg := hide hg
  go_enter Tryz.func36, Tryz.ntmps36
  go_wp2_with fail
  refine (unhide CC).mono ?_
  rintro r w1 ⟨rfl, s1, t1⟩
  have h1 := (unhide h).turn s1 t1
  have h2 := h1.phase 1
  have d4 := h1.cb.c4
  have f4 := h1.cb.fz 4
  have d5 := h2.cb.c5
  obtain ⟨es, cl, hc⟩ : ∃ es cl, (w1.setCell ⟨x.b.cb, 4, none⟩ (.int .i64 1)).heap[x.b.mb]? = some (.map es cl) := by
    obtain ⟨c9, H9⟩ := h2
    obtain ⟨D, ⟨es, cl, hb, _⟩, _⟩ := H9.mp
    exact ⟨es, cl, hb⟩
  have hrun := run_clearC hc
  obtain ⟨h3, f3⟩ := h2.cleared hc
  have F3 := hide ((frq_tn t1).trans ((frq_cb 4 (.int .i64 1)).trans f3))
  obtain ⟨w2, hw2⟩ : ∃ w2, setBlock (w1.setCell ⟨x.b.cb, 4, none⟩ (.int .i64 1)) x.b.mb (.map #[] cl) = w2 := ⟨_, rfl⟩
  rw [hw2] at F3 hrun h3
  have CG := hide ((unhide T).gl qs w2 ((unhide T).fr _ _ _ _ (unhide hR) (unhide F3)))
  replace h3 := hide h3
  clear CC s1 t1 c4 c0 hc hw2 h1 h2 f3
  go_wp2_with fail
  refine (unhide CG).mono ?_
  rintro r w3 ⟨bo, bc, rfl, N3⟩
  have CA := hide (c_shadeAll (bc := bc) (ys := R.g) (hide ((unhide h3).gr N3.g)) rfl (by have := (unhide T).n1; omega) (hide (N3.sd (unhide h3))) (by show C.M.g.length ≤ 100000; have := unhide hg; omega))
  have F4 := hide ((unhide F3).g N3.g)
  clear CG N3 h3 F3
  go_wp2_with fail
  refine (unhide CA).mono ?_
  rintro r w4 ⟨rfl, q4, X4, F5⟩
  have X5 := hide X4
  have F6 := hide ((unhide F4).trans F5)
  clear CA X4 F5 F4
  go_wp2_with fail
  go_ret
  exact ⟨rfl, q4, unhide X5, unhide F6⟩
/-! ### the least that is not black -/
def lwS (o : Option Int) (i : Int) : Option Int := match o with | none => some i | some m => some (min m i)
theorem leastW_snoc (bk : List Int) : ∀ (l : List Int) (i : Int), leastW bk (l ++ [i]) = if i ∈ bk then leastW bk l else lwS (leastW bk l) i
  | [], i => by
    show (match leastW bk [] with | none => if i ∈ bk then none else some i | some j => if i ∈ bk then some j else some (min i j)) = _
    simp only [leastW, lwS]
  | k :: r, i => by
    rw [List.cons_append, leastW, leastW_snoc bk r i, leastW]
    rcases hr : leastW bk r with _ | m
    · by_cases hi : i ∈ bk
      · simp only [if_pos hi, lwS]
      · simp only [if_neg hi, lwS]
        by_cases hk : k ∈ bk
        · simp only [if_pos hk]
        · simp only [if_neg hk]
    · by_cases hi : i ∈ bk
      · simp only [if_pos hi, lwS]
      · simp only [if_neg hi, lwS]
        by_cases hk : k ∈ bk
        · simp only [if_pos hk]
        · simp only [if_neg hk]
          rw [Int.min_assoc]
def lwV (o : Option Int) : Int := match o with | none => 0 | some m => m
def lwB (o : Option Int) : Bool := match o with | none => false | some _ => true
set_option maxHeartbeats 2000000 in
theorem c_least (h : Hid (HC W x n ao cap nv fc w C qs)) (T : Hid (Rts x R p RS)) (hR : Hid (RS qs w)) : Calls Tryz.prog 85 #[.pointer (some ⟨x.b.cb, 0, none⟩), .iface 30 (.pointer p)] w fun e w' => e = .returned (.tuple #[.int .i64 (lwV (leastW C.bk R.ids)), .bool (lwB (leastW C.bk R.ids))]) ∧ G w w' := by
  have CS := hide ((unhide T).sk qs w (unhide hR))
  have CB : Hid (∀ y, G w y → ∀ id ∈ R.ids, Calls Tryz.prog 70 #[.pointer (some ⟨x.b.cb, 0, none⟩), .int .i64 id] y fun e w' => e = .returned (.bool (decide (id ∈ C.bk))) ∧ G y w') := hide fun y gy id hi => by
    obtain ⟨c, H⟩ := unhide h
    exact g_black (g := ⟨c, C.M.g, qs⟩) (hide (H.gr gy)) id ((unhide T).wf id hi)
  obtain ⟨N, hN⟩ : ∃ N, R.ids.length = N := ⟨_, rfl⟩
  have hN1 : N ≤ 1000 := by rw [← hN]; exact (unhide T).n2
  rw [hN] at CS
  replace hN := hide hN
  obtain ⟨bk, hbk⟩ : ∃ bk, C.bk = bk := ⟨_, rfl⟩
  obtain ⟨ids, hids⟩ : ∃ ids, R.ids = ids := ⟨_, rfl⟩
  rw [hbk, hids] at CB ⊢
  rw [hids] at CS hN
  clear hbk hids h T hR
  obtain ⟨zv, hzv⟩ : ∃ z, lwV (leastW bk ids) = z := ⟨_, rfl⟩
  obtain ⟨zb, hzb⟩ : ∃ z, lwB (leastW bk ids) = z := ⟨_, rfl⟩
  rw [hzv, hzb]
  replace hzv := hide hzv
  replace hzb := hide hzb
  go_enter Tryz.func85, Tryz.ntmps85
  go_wp2_with fail
  refine (unhide CS).mono ?_
  rintro r w1 ⟨bo, bc, rfl, N1⟩
  replace N1 := hide N1
  clear CS
  go_wp2_with fail
  go_loopw [6, 7, 13] (fun u v c wr => ∃ j : Nat, c = .int .i64 (j : Int) ∧ j ≤ N ∧ Hid (u = .int .i64 (lwV (leastW bk (ids.take j))) ∧ v = .bool (lwB (leastW bk (ids.take j)))) ∧ Hid (G w1 wr)) (fun _ _ c _ => N - (intOf c).toNat)
  case atStart => exact ⟨0, rfl, Nat.zero_le _, hide ⟨rfl, rfl⟩, hide (G.refl _)⟩
  case round =>
    obtain ⟨j, rfl, hj, huv, g1⟩ := hrel
    obtain ⟨lw, hlw⟩ : ∃ lw, leastW bk (ids.take j) = lw := ⟨_, rfl⟩
    rw [hlw] at huv
    obtain ⟨hu, hv⟩ := unhide huv
    subst hu hv
    clear huv
    by_cases hlt : j < N
    · obtain ⟨i, g, off, hi, rfl, ci⟩ := ((unhide N1).is.g (unhide g1)).at_ (i := j) (by have := unhide hN; omega)
      have hT : Hid (leastW bk (ids.take (j + 1)) = if i ∈ bk then lw else lwS lw i) := hide (by rw [List.take_add_one, hi]; show leastW bk (ids.take j ++ [i]) = _; rw [leastW_snoc, hlw])
      have CB1 := unhide CB _ ((unhide N1).g.trans (unhide g1)) i (List.mem_of_getElem? hi)
      replace hi := hide hi
      replace hlw := hide hlw
      by_cases hb : i ∈ bk
      · rw [decide_eq_true hb] at CB1
        rw [if_pos hb] at hT
        replace CB1 := hide CB1
        clear hb
        go_wp2_with fail
        refine (unhide CB1).mono ?_
        rintro r w2 ⟨rfl, g2⟩
        have g3 := hide ((unhide g1).trans g2)
        clear CB1 g2 ci
        go_wp2_with fail
        go_roundw
        case rel => exact ⟨j + 1, by go_num, by omega, hide (by rw [unhide hT]; exact ⟨rfl, rfl⟩), g3⟩
        case measure => simp [intOf]; omega
      · rw [decide_eq_false hb] at CB1
        rw [if_neg hb] at hT
        replace CB1 := hide CB1
        clear hb
        cases lw with
        | none =>
          simp only [lwV, lwB] at *
          go_wp2_with fail
          refine (unhide CB1).mono ?_
          rintro r w2 ⟨rfl, g2⟩
          have g3 := hide ((unhide g1).trans g2)
          clear CB1 g2 ci
          go_wp2_with fail
          go_roundw
          case rel => exact ⟨j + 1, by go_num, by omega, hide (by rw [unhide hT]; exact ⟨rfl, rfl⟩), g3⟩
          case measure => simp [intOf]; omega
        | some m =>
          simp only [lwV, lwB] at *
          by_cases him : i < m
          · have dm : decide (i < m) = true := by simpa using him
            go_wp2_with fail
            refine (unhide CB1).mono ?_
            rintro r w2 ⟨rfl, g2⟩
            have g3 := hide ((unhide g1).trans g2)
            clear CB1 g2 ci
            go_wp2_with fail
            go_roundw
            case rel => exact ⟨j + 1, by go_num, by omega, hide (by rw [unhide hT]; unfold lwS; simp only; rw [Int.min_eq_right (by omega)]; exact ⟨rfl, by first | rfl | trivial⟩), g3⟩
            case measure => simp [intOf]; omega
          · have dm : decide (i < m) = false := by simpa using him
            go_wp2_with fail
            refine (unhide CB1).mono ?_
            rintro r w2 ⟨rfl, g2⟩
            have g3 := hide ((unhide g1).trans g2)
            clear CB1 g2 ci
            go_wp2_with fail
            go_roundw
            case rel => exact ⟨j + 1, by go_num, by omega, hide (by rw [unhide hT]; unfold lwS; simp only; rw [Int.min_eq_left (by omega)]; exact ⟨rfl, by first | rfl | trivial⟩), g3⟩
            case measure => simp [intOf]; omega
    · have e : ids.take j = ids := List.take_of_length_le (by have := unhide hN; omega)
      rw [e] at hlw
      subst hlw
      rw [unhide hzv, unhide hzb]
      have F := hide ((unhide N1).g.trans (unhide g1))
      clear N1 g1 e
      go_wp2_with fail
      go_ret2
      exact ⟨rfl, unhide F⟩
set_option maxHeartbeats 1000000 in
theorem c_blacken (h : Hid (HC W x n ao cap nv fc w C qs)) (T : Hid (Rts x R p RS)) (hR : Hid (RS qs w)) (hg : C.M.g.length ≤ 10000) (hk : C.bk.length ≤ 1000) (id : Int) (hw : wfN id) (hb : id ∉ C.bk) : Calls Tryz.prog 86 #[.pointer (some ⟨x.b.cb, 0, none⟩), .iface 30 (.pointer p), .int .i64 id] w fun e w' => e = .returned (.tuple #[]) ∧ ∃ qs', HC W x n ao cap nv fc w' (C.look R id) qs' ∧ Fr (ownQ x qs) (ownQ x qs') w w' := by
  have CK := hide ((unhide T).st qs w id (unhide hR))
  have FIN : Hid (∀ (y : World) q, HC W x n ao cap nv fc y (C.shades (R.st id)) q → y.cell? ⟨x.b.cb, 5, none⟩ = some (.map (some x.b.mb)) ∧ ∃ D : DataW Unit, y.ownsMap Tryz.prog 3 unitElem x.b.mb C.bk.length D ∧ ∀ w4, w4.ownsMap (H := Unit) Tryz.prog 3 unitElem x.b.mb (C.bk.length + 1) (D.put (.int .i64 id) (.agg [])) → y.grownBy w4 (some x.b.mb) → HC W x n ao cap nv fc w4 (C.look R id) q ∧ Fr (ownQ x q) (ownQ x q) y w4) := hide fun y q hy => by
    have hc5 := hy.cb.c5
    obtain ⟨c, H⟩ := hy
    obtain ⟨D, hD, hh⟩ := H.mp
    have hkey : keyOf Tryz.prog 3 (.int .i64 id) = some (.int .i64 id) := keyOf_int_mk Tryz.underlying3 hw
    refine ⟨hc5, D, hD, fun w4 m4 g4 => ?_⟩
    have kp : ∀ d, d < y.heap.size → d ≠ x.b.mb → w4.heap[d]? = y.heap[d]? := fun d hd hne => g4.block d hd (fun e => hne (Option.some.inj e))
    have lo := H.lo
    have hbl : Below W.heap.size W w4 := Below.trans H.st.below ⟨g4.os, g4.tape, g4.output, g4.size, fun d hd => kp d (Nat.lt_of_lt_of_le hd H.st.below.size) (by omega)⟩
    have eL : C.look R id = { C.shades (R.st id) with bk := C.bk ++ [id] } := by
      unfold Cy.look Cy.add
      exact if_neg hb
    rw [eL]
    refine ⟨⟨c, H.mapped (bk' := C.bk ++ [id]) hbl g4.size kp ⟨_, by rw [List.length_append]; exact m4, fun z hz => ?_⟩⟩, g4.size, fun d hd ho => kp d hd (fun e => ho (Or.inr (Or.inr (Or.inr (Or.inr (Or.inl e)))))), fun _ h => Or.inl h⟩
    by_cases e : z = id
    · subst e
      rw [Maps.has_put_same hD.isMap (keyB.key hkey)]
      simp
    · rw [Maps.has_put_other (by simpa using e), hh z hz]
      show decide (z ∈ C.bk) = _
      simp [e]
  have hkey : keyOf Tryz.prog 3 (.int .i64 id) = some (.int .i64 id) := keyOf_int_mk Tryz.underlying3 hw
  have hnm : C.bk.length < maxLen := by unfold maxLen; omega
  obtain ⟨K, hK⟩ : ∃ K, (R.st id).length = K := ⟨_, rfl⟩
  have hK1 : Hid (K ≤ 10000) := hide (by rw [← hK]; exact (unhide T).n3 id)
  rw [hK] at CK
  replace hK := hide hK
  replace hg := hide hg
  clear T hR hb hk
  go_enter Tryz.func86, Tryz.ntmps86
  go_wp2_with fail
  refine (unhide CK).mono ?_
  rintro r w1 ⟨bo, bc, rfl, N1⟩
  have CA := hide (c_shadeAll (bc := bc) (ys := R.st id) (hide ((unhide h).gr N1.g)) (unhide hK) (by have := unhide hK1; omega) (hide (N1.sd (unhide h))) (by have := unhide hg; omega))
  have F1 := hide (Fr.of_G (o := ownQ x qs) N1.g)
  clear CK N1 h
  go_wp2_with fail
  refine (unhide CA).mono ?_
  rintro r w2 ⟨rfl, q2, X2, F2⟩
  obtain ⟨c5, D, hD, hF⟩ := unhide FIN w2 q2 X2
  have F3 := hide ((unhide F1).trans F2)
  replace hF := hide hF
  replace hD := hide hD
  clear CA X2 F2 F1 FIN
  go_wp2_with (at_mapUpdate; refine wpList_mapUpdate_own _ rfl _ _ _ 86 rfl 3 145 keyB Tryz.underlying86 (unitElem (H := Unit)) x.b.mb C.bk.length D rfl (unhide hD) hnm _ _ _ rfl rfl hkey _ [] unitElem_mk ?_; intro w4 hm4 hg4; have S4 := hide (unhide hF w4 hm4 hg4); clear hm4 hg4 hF)
  go_end0
  exact ⟨rfl, q2, (unhide S4).1, (unhide F3).trans (unhide S4).2⟩
end
end Go.Proofs.YtgflkpccddfalaaGreatDoor

/- The collector's steps over a plain Cy, for roots of one type: Step, finish, Whole. -/
namespace Go.Proofs.YtgflkpccddfalaaGreatDoor
set_option maxRecDepth 100000
open Go.ChangeShapes Go.WideShapes Go.ChangeAt Go.RowKit Go.Maps Go.ChangeMaps Go.MapKept Go.Deep

section
variable {W w w' : World} {x : Hx} {n : Nat} {ao : Option Addr} {cap : Nat} {nv : Value} {fc : Int} {C : Cy} {qs : List Nat} {R : Rt} {p : Option Addr} {RS : List Nat → World → Prop}
set_option maxHeartbeats 1000000 in
theorem c_stepRoots (h : Hid (HC W x n ao cap nv fc w C qs)) (h1 : C.ph = 1) (T : Hid (Rts x R p RS)) (hR : Hid (RS qs w)) (hf : C.Fits) : Calls Tryz.prog 71 #[.pointer (some ⟨x.b.cb, 0, none⟩), .iface 30 (.pointer p)] w fun e w' => e = .returned (.tuple #[]) ∧ ∃ qs', HC W x n ao cap nv fc w' (C.stepC R) qs' ∧ Fr (ownQ x qs) (ownQ x qs') w w' := by
  have CL := c_least h T hR
  have eS : C.stepC R = (match leastW C.bk R.ids with | some id => C.look R id | none => { C with ph := 2 }) := if_pos h1
  rw [eS]
  cases hl : leastW C.bk R.ids with
  | none =>
    rw [hl] at CL
    simp only [lwV, lwB] at CL
    replace CL := hide CL
    clear eS h1 hf
    go_enter Tryz.func71, Tryz.ntmps71
    go_wp2_with fail
    refine (unhide CL).mono ?_
    rintro r w1 ⟨rfl, g1⟩
    have H1 := (unhide h).gr g1
    have c4 := H1.cb.c4
    have f4 := H1.cb.fz 4
    have X := hide (And.intro (H1.phase 2) ((Fr.of_G (o := ownQ x qs) g1).trans (frq_cb 4 (.int .i64 2))))
    clear CL g1 H1
    go_wp2_with fail
    go_end0
    exact ⟨rfl, qs, (unhide X).1, (unhide X).2⟩
  | some id =>
    rw [hl] at CL
    simp only [lwV, lwB] at CL
    replace CL := hide CL
    obtain ⟨m1, m2, _⟩ := leastW_some hl
    have hw := (unhide T).wf id m1
    have CB : Hid (∀ y, G w y → Calls Tryz.prog 86 #[.pointer (some ⟨x.b.cb, 0, none⟩), .iface 30 (.pointer p), .int .i64 id] y fun e w' => e = .returned (.tuple #[]) ∧ Hid (∃ qs', HC W x n ao cap nv fc w' (C.look R id) qs' ∧ Fr (ownQ x qs) (ownQ x qs') w w')) := hide fun y gy => (c_blacken (hide ((unhide h).gr gy)) T (hide ((unhide T).fr _ _ _ _ (unhide hR) (Fr.of_G gy))) hf.g hf.b id hw m2).mono fun _ _ hh => ⟨hh.1, hide (by
      obtain ⟨q2, X2, F2⟩ := hh.2
      exact ⟨q2, X2, (Fr.of_G gy).trans F2⟩)⟩
    clear eS h1 hf hl m1 m2 hw h T hR
    go_enter Tryz.func71, Tryz.ntmps71
    go_wp2_with fail
    refine (unhide CL).mono ?_
    rintro r w1 ⟨rfl, g1⟩
    have CB1 := hide (unhide CB w1 g1)
    clear CL g1 CB
    go_wp2_with fail
    refine (unhide CB1).mono ?_
    rintro r w2 ⟨rfl, X⟩
    clear CB1
    go_wp2_with fail
    go_end0
    exact ⟨rfl, unhide X⟩
set_option maxHeartbeats 1000000 in
theorem c_stepMark (h : Hid (HC W x n ao cap nv fc w C qs)) (h1 : C.ph = 2) (T : Hid (Rts x R p RS)) (hR : Hid (RS qs w)) (hf : C.Fits) : Calls Tryz.prog 72 #[.pointer (some ⟨x.b.cb, 0, none⟩), .iface 30 (.pointer p)] w fun e w' => e = .returned (.tuple #[]) ∧ ∃ qs', HC W x n ao cap nv fc w' (C.stepC R) qs' ∧ Fr (ownQ x qs) (ownQ x qs') w w' := by
  have c3 := (unhide h).cb.c3
  have eS : C.stepC R = (match C.M.g with | _ :: _ => { C with M := C.M.step } | [] => match leastW C.bk R.ids with | some _ => { C with ph := 1 } | none => { C with M := ⟨C.M.al.stale, C.M.T, C.M.g⟩, ph := 3 }) := by
    unfold Cy.stepC
    rw [if_neg (by omega), if_pos h1]
    all_goals (cases C.M.g <;> first | rfl | (cases leastW C.bk R.ids <;> rfl))
  rw [eS]
  cases hg : C.M.g with
  | cons y rs =>
    have CM := hide (c_mstep_some h (hide hg) (by have := hf.g; rw [hg, List.length_cons] at this; omega))
    clear eS h1 hf h T hR
    go_enter Tryz.func72, Tryz.ntmps72
    go_wp2_with fail
    refine (unhide CM).mono ?_
    rintro r w1 ⟨rfl, X⟩
    replace X := hide X
    clear CM
    go_wp2_with fail
    go_returns
    exact ⟨rfl, unhide X⟩
  | nil =>
    have CM := hide (c_mstep_none h hg)
    have CL := c_least h T hR
    simp only
    cases hl : leastW C.bk R.ids with
    | some id =>
      rw [hl] at CL
      simp only [lwV, lwB] at CL
      replace CL := hide CL
      clear eS h1 hf T hR hl
      go_enter Tryz.func72, Tryz.ntmps72
      go_wp2_with fail
      refine (unhide CM).mono ?_
      rintro r w1 ⟨rfl, hw1⟩
      subst hw1
      clear CM
      go_wp2_with fail
      refine (unhide CL).mono ?_
      rintro r w2 ⟨rfl, g1⟩
      have H1 := (unhide h).gr g1
      have c4 := H1.cb.c4
      have f4 := H1.cb.fz 4
      have X := hide (And.intro (H1.phase 1) ((Fr.of_G (o := ownQ x qs) g1).trans (frq_cb 4 (.int .i64 1))))
      clear CL g1 H1
      go_wp2_with fail
      go_returns
      exact ⟨rfl, qs, (unhide X).1, (unhide X).2⟩
    | none =>
      rw [hl] at CL
      simp only [lwV, lwB] at CL
      replace CL := hide CL
      clear eS h1 hf T hR hl
      go_enter Tryz.func72, Tryz.ntmps72
      go_wp2_with fail
      refine (unhide CM).mono ?_
      rintro r w1 ⟨rfl, hw1⟩
      subst hw1
      clear CM
      go_wp2_with fail
      refine (unhide CL).mono ?_
      rintro r w2 ⟨rfl, g1⟩
      have H1 := (unhide h).gr g1
      have c4 := H1.cb.c4
      have f4 := H1.cb.fz 4
      have H2 := H1.phase 3
      have c1 := H2.cb.c1
      have CT := hide (l_stale (hide H2.st))
      have F2 := hide ((Fr.of_G (o := ownQ x qs) g1).trans (frq_cb 4 (.int .i64 3)))
      replace H2 := hide H2
      clear CL g1 H1
      go_wp2_with fail
      refine (unhide CT).mono ?_
      rintro r w3 ⟨rfl, s3, t3⟩
      have X := hide (And.intro ((unhide H2).turn s3 t3) ((unhide F2).trans (frq_tn t3)))
      clear CT s3 t3
      go_wp2_with fail
      go_end0
      refine ⟨rfl, qs, ?_, (unhide X).2⟩
      have X1 := (unhide X).1
      rw [← hg]
      exact X1
set_option maxHeartbeats 1000000 in
theorem c_stepSweep (h : Hid (HC W x n ao cap nv fc w C qs)) (hd : 0 ≤ C.done ∧ C.done ≤ 1000000) : Calls Tryz.prog 73 #[.pointer (some ⟨x.b.cb, 0, none⟩)] w fun e w' => e = .returned (.tuple #[]) ∧ HC W x n ao cap nv fc w' C.sweepC qs ∧ Fr (ownQ x qs) (ownQ x qs) w w' := by
  have c1 := (unhide h).cb.c1
  have CO := hide (l_sweepOne (hide (unhide h).st))
  unfold Cy.sweepC
  cases hb1 : (leastU C.M.al.u C.M.al.a.n 0).isSome
  · rw [hb1] at CO
    rw [if_neg (by simp)]
    go_enter Tryz.func73, Tryz.ntmps73
    go_wp2_with fail
    refine (unhide CO).mono ?_
    rintro r w1 ⟨rfl, s1, t1⟩
    have h1 := hide ((unhide h).turn s1 t1)
    have h2 := hide ((unhide h1).phase 0)
    have h3 := hide ((unhide h2).done7 (C.done + 1))
    have F3 := hide ((frq_tn (qs := qs) t1).trans ((frq_cb 4 (.int .i64 0)).trans (frq_cb 7 (.int .i64 (C.done + 1)))))
    have f4 := (unhide h1).cb.fz 4
    have c4 := (unhide h1).cb.c4
    have c7 := (unhide h2).cb.c7
    have f7 := (unhide h2).cb.fz 7
    have d1 := (unhide h3).cb.c1
    simp only at c4 c7
    have CU := hide (l_used (hide (unhide h3).st))
    obtain ⟨u, hu⟩ : ∃ u : Int, C.M.al.sweepOne.a.used C.M.al.sweepOne.a.n = u := ⟨_, rfl⟩
    have hu' := hide hu
    simp only at CU
    rw [hu] at CU
    clear CO s1 t1 hu
    go_wp2_with fail
    refine (unhide CU).mono ?_
    rintro r w2 ⟨rfl, _, g2⟩
    have h4 := hide ((unhide h3).gr g2)
    have F4 := hide ((unhide F3).g g2)
    have e6 := (unhide h4).cb.c6
    have k6 := (unhide h4).cb.fz 6
    simp only at e6
    clear CU g2
    go_wp2_with fail
    all_goals
      go_end0
      refine ⟨rfl, ?_, (unhide F4).trans (frq_cb 6 _)⟩
      first
      | (rw [unhide hu', Int.max_eq_left (by omega)]; exact (unhide h4).keep6 u)
      | (rw [unhide hu', Int.max_eq_right (by omega)]; exact (unhide h4).keep6 64)
  · rw [hb1] at CO
    rw [if_pos rfl]
    go_enter Tryz.func73, Tryz.ntmps73
    go_wp2_with fail
    refine (unhide CO).mono ?_
    rintro r w1 ⟨rfl, s1, t1⟩
    have h1 := hide (And.intro ((unhide h).turn s1 t1) (frq_tn (qs := qs) t1))
    clear CO s1 t1
    go_wp2_with fail
    go_returns
    exact ⟨rfl, (unhide h1).1, (unhide h1).2⟩
/-- A Step while it is on. -/
theorem c_step (h : Hid (HC W x n ao cap nv fc w C qs)) (T : Hid (Rts x R p RS)) (hR : Hid (RS qs w)) (hf : C.Fits) (hp : C.ph = 1 ∨ C.ph = 2 ∨ C.ph = 3) : Calls Tryz.prog 53 #[.pointer (some ⟨x.b.cb, 0, none⟩), .iface 30 (.pointer p)] w fun e w' => e = .returned (.bool true) ∧ ∃ qs', HC W x n ao cap nv fc w' (C.stepC R) qs' ∧ Fr (ownQ x qs) (ownQ x qs') w w' := by
  have c4 := (unhide h).cb.c4
  rcases hp with h1 | h1 | h1
  · have CC := hide (c_stepRoots h h1 T hR hf)
    rw [h1] at c4
    clear h T hR hf h1
    go_enter Tryz.func53, Tryz.ntmps53
    go_wp2_with fail
    refine (unhide CC).mono ?_
    rintro r w1 ⟨rfl, X⟩
    replace X := hide X
    clear CC
    go_wp2_with fail
    go_ret
    exact ⟨rfl, unhide X⟩
  · have CC := hide (c_stepMark h h1 T hR hf)
    rw [h1] at c4
    clear h T hR hf h1
    go_enter Tryz.func53, Tryz.ntmps53
    go_wp2_with fail
    refine (unhide CC).mono ?_
    rintro r w1 ⟨rfl, X⟩
    replace X := hide X
    clear CC
    go_wp2_with fail
    go_ret
    exact ⟨rfl, unhide X⟩
  · have CC := hide (c_stepSweep h hf.d)
    have eS : C.stepC R = C.sweepC := by
      unfold Cy.stepC
      rw [if_neg (by omega), if_neg (by omega), if_pos h1]
    rw [h1] at c4
    rw [eS]
    clear h T hR hf h1 eS
    go_enter Tryz.func53, Tryz.ntmps53
    go_wp2_with fail
    refine (unhide CC).mono ?_
    rintro r w1 ⟨rfl, X⟩
    replace X := hide X
    clear CC
    go_wp2_with fail
    go_ret
    exact ⟨rfl, qs, (unhide X).1, (unhide X).2⟩
end
theorem leastM (R : Go.World → Nat → Prop) : ∃ M : Go.World → Nat, ∀ w n, R w n → R w (M w) ∧ M w ≤ n := by
  have h : ∀ w, ∃ m, ∀ n, R w n → R w m ∧ m ≤ n := fun w => by
    by_cases e : ∃ n, R w n
    · obtain ⟨n, hn⟩ := e
      induction n using Nat.strongRecOn with
      | _ n ih =>
        by_cases e2 : ∃ m, m < n ∧ R w m
        · obtain ⟨m, h1, h2⟩ := e2
          exact ih m h1 h2
        · exact ⟨n, fun m hm => ⟨hn, Nat.le_of_not_lt fun hlt => e2 ⟨m, hlt, hm⟩⟩⟩
    · exact ⟨0, fun n hn => absurd ⟨n, hn⟩ e⟩
  exact ⟨fun w => Classical.choose (h w), fun w n hn => Classical.choose_spec (h w) n hn⟩
section
variable {W w w' : World} {x : Hx} {n : Nat} {ao : Option Addr} {cap : Nat} {nv : Value} {fc : Int} {C : Cy} {qs : List Nat} {R : Rt} {p : Option Addr} {RS : List Nat → World → Prop}
/-- m steps from the end. -/
def FinI (W : World) (x : Hx) (n : Nat) (ao : Option Addr) (cap : Nat) (nv : Value) (fc : Int) (w : World) (C : Cy) (qs : List Nat) (R : Rt) (J : Nat) (y : World) (m : Nat) : Prop :=
  ∃ j q, j + m = J ∧ HC W x n ao cap nv fc y (C.stepsC R j) q ∧ Fr (ownQ x qs) (ownQ x q) w y
set_option maxHeartbeats 1000000 in
theorem c_finish {J : Nat} (h : Hid (HC W x n ao cap nv fc w C qs)) (T : Hid (Rts x R p RS)) (hR : Hid (RS qs w)) (RR : Hid (C.Runs R J)) : Calls Tryz.prog 35 #[.pointer (some ⟨x.b.cb, 0, none⟩), .iface 30 (.pointer p)] w fun e w' => e = .returned (.tuple #[]) ∧ ∃ qs', HC W x n ao cap nv fc w' (C.stepsC R J) qs' ∧ Fr (ownQ x qs) (ownQ x qs') w w' := by
  obtain ⟨Mf, hMf⟩ := leastM (FinI W x n ao cap nv fc w C qs R J)
  replace hMf := hide hMf
  have X0 : Hid (FinI W x n ao cap nv fc w C qs R J w J) := hide ⟨0, qs, Nat.zero_add _, unhide h, Fr.of_G (G.refl _)⟩
  clear h
  go_enter Tryz.func35, Tryz.ntmps35
  go_wp2_with fail
  go_loopw [] (fun wr => ∃ m, Hid (FinI W x n ao cap nv fc w C qs R J wr m)) (fun wr => Mf wr)
  case atStart => exact ⟨J, X0⟩
  case round =>
    obtain ⟨m0, X⟩ := hrel
    obtain ⟨m, hm⟩ : ∃ m, Mf wr = m := ⟨_, rfl⟩
    have X1 := (unhide hMf wr m0 (unhide X)).1
    rw [hm] at X1
    obtain ⟨j, q, hjm, Y, F⟩ := X1
    have c4 := Y.cb.c4
    clear X X0 m0
    replace hm := hide hm
    by_cases hz : m = 0
    · subst hz
      obtain rfl : j = J := by omega
      rw [(unhide RR).off] at c4
      replace Y := hide Y
      replace F := hide F
      clear hjm
      go_wp2_with fail
      go_end0
      exact ⟨rfl, q, unhide Y, unhide F⟩
    · have hj : j < J := by omega
      have on := (unhide RR).on j hj
      have CC := hide (c_step (hide Y) T (hide ((unhide T).fr _ _ _ _ (unhide hR) F)) ((unhide RR).fit j hj) on)
      have hne : ((C.stepsC R j).ph != 0) = true := by simp; omega
      have hst : Hid (j + 1 + (m - 1) = J) := hide (by omega)
      have hm1 : Hid (m - 1 < m) := hide (by omega)
      generalize (C.stepsC R j).ph = ph at c4 hne
      replace F := hide F
      clear Y on hz hjm hj
      go_wp2_with fail
      refine (unhide CC).mono ?_
      rintro r w1 ⟨rfl, q1, Y1, F1⟩
      have X2 : Hid (FinI W x n ao cap nv fc w C qs R J w1 (m - 1)) := hide ⟨j + 1, q1, unhide hst, Y1, (unhide F).trans F1⟩
      have hle : Hid (Mf w1 < Mf wr) := hide (by
        rw [unhide hm]
        exact Nat.lt_of_le_of_lt (unhide hMf w1 _ (unhide X2)).2 (unhide hm1))
      clear CC Y1 F1 c4
      go_wp2_with fail
      go_roundw
      case rel => exact ⟨m - 1, X2⟩
      case measure => exact unhide hle
/-- Whole, from off. -/
theorem c_whole {J : Nat} (h : Hid (HC W x n ao cap nv fc w C qs)) (h0 : C.ph = 0) (hg : C.M.g.length ≤ 10000) (T : Hid (Rts x R p RS)) (hR : Hid (RS qs w)) (RR : Hid ((C.startC R).Runs R J)) : Calls Tryz.prog 12 #[.pointer (some ⟨x.b.cb, 0, none⟩), .iface 30 (.pointer p)] w fun e w' => e = .returned (.tuple #[]) ∧ ∃ qs', HC W x n ao cap nv fc w' ((C.startC R).stepsC R J) qs' ∧ Fr (ownQ x qs) (ownQ x qs') w w' := by
  have R0 : Hid (C.Runs R 0) := hide ⟨fun j hj => absurd hj (Nat.not_lt_zero _), h0, fun j hj => absurd hj (Nat.not_lt_zero _)⟩
  have CC := hide (c_finish h T hR R0)
  replace h0 := hide h0
  replace hg := hide hg
  clear R0 h
  go_enter Tryz.func12, Tryz.ntmps12
  go_wp2_with fail
  refine (unhide CC).mono ?_
  rintro r w1 ⟨rfl, q1, X1, F1⟩
  have R1 := hide ((unhide T).fr _ _ _ _ (unhide hR) F1)
  have C2 := hide (c_start (C := C) (hide X1) (unhide h0) T R1 (unhide hg))
  replace F1 := hide F1
  clear CC X1
  go_wp2_with fail
  refine (unhide C2).mono ?_
  rintro r w2 ⟨rfl, q2, X2, F2⟩
  have R2 := hide ((unhide T).fr _ _ _ _ (unhide R1) F2)
  have C3 := hide (c_finish (hide X2) T R2 RR)
  have F3 := hide ((unhide F1).trans F2)
  clear C2 X2 F2 F1 R1
  go_wp2_with fail
  refine (unhide C3).mono ?_
  rintro r w3 ⟨rfl, q3, X3, F4⟩
  have X := hide (And.intro X3 ((unhide F3).trans F4))
  clear C3 X3 F4 F3
  go_wp2_with fail
  go_end0
  exact ⟨rfl, q3, (unhide X).1, (unhide X).2⟩
end
end Go.Proofs.YtgflkpccddfalaaGreatDoor

/- Package heap: take, Make over a plain Cy, also where a whole collection is wanted. -/
namespace Go.Proofs.YtgflkpccddfalaaGreatDoor
set_option maxRecDepth 100000
open Go.ChangeShapes Go.WideShapes Go.ChangeAt Go.RowKit Go.Maps Go.ChangeMaps Go.MapKept Go.Deep

/-- The blocks that the Heap's calls turn. -/
def ownW (x : Hx) (qs : List Nat) (d : Nat) : Prop := ownQ x qs d ∨ d = x.hb
section
variable {W w w' : World} {x : Hx} {n : Nat} {ao : Option Addr} {cap : Nat} {nv : Value} {fc fc' : Int} {C C1 : Cy} {qs qs' : List Nat} {R : Rt} {p : Option Addr} {RS : List Nat → World → Prop}
theorem Fr.up (h : Fr (ownQ x qs) (ownQ x qs') w w') : Fr (ownW x qs) (ownW x qs') w w' :=
  ⟨h.size, fun d hd ho => h.kept d hd (fun e => ho (Or.inl e)), fun d hd => by
    rcases hd with e | e
    · rcases h.more d e with e | e
      · exact Or.inl (Or.inl e)
      · exact Or.inr e
    · exact Or.inl (Or.inr e)⟩
theorem HC.h0 (h : HC W x n ao cap nv fc w C qs) : w.cell? ⟨x.hb, 0, none⟩ = some (.pointer (some ⟨x.b.cb, 0, none⟩)) ∧ w.cell? ⟨x.hb, 1, none⟩ = some nv ∧ w.cell? ⟨x.hb, 3, none⟩ = some (.int .i64 fc) ∧ w.frozen? ⟨x.hb, 3, none⟩ = false := by
  obtain ⟨c, H⟩ := h
  exact ⟨H.h0, H.h1, H.h3, H.hf 3⟩
/-- One more was forced. -/
theorem HC.force (h : HC W x n ao cap nv fc w C qs) (f : Int) : HC W x n ao cap nv f (w.setCell ⟨x.hb, 3, none⟩ (.int .i64 f)) C qs := by
  obtain ⟨c, h⟩ := h
  have kp : ∀ d, c d ≠ 6 → (w.setCell ⟨x.hb, 3, none⟩ (.int .i64 f)).heap[d]? = w.heap[d]? := fun d n6 => Below.heap_setCell _ _ _ _ (by show d ≠ x.hb; intro e; exact n6 (by rw [e]; exact h.c6))
  obtain ⟨k1, k2, k3, k4⟩ := h.kc
  have kk := kp x.b.kb (by omega)
  have bl : Below W.heap.size W (w.setCell ⟨x.hb, 3, none⟩ (.int .i64 f)) := h.st.below.setCell h.lo.2.2.2.2.1 _
  exact ⟨c, h.stk bl (fun d _ hc => kp d (by omega)), h.cb.kept (kp _ (by omega)), h.mp.kept (kp _ (by omega)), (World.cell?_of_block (a := ⟨x.b.kb, 0, none⟩) kk).trans h.k0, (World.cell?_of_block (a := ⟨x.b.kb, 2, none⟩) kk).trans h.k2, (World.cell?_of_block (a := ⟨x.b.kb, 1, none⟩) kk).trans h.k1, h.que.kept (kp _ (by omega)) (fun d hd => kp d (by rw [h.cq d hd]; decide)), h.tab.kept (kp _ (by rw [h.c3]; decide)) (kp _ (by rw [h.c4]; decide)) (fun a ha => kp _ (by rw [h.c5 a ha]; decide)), cellO (by decide) h.h0, cellO (by decide) h.h1, cellO (by decide) h.h2, cell_same _ h.h3, fun i => by rw [World.frozen?_setCell]; exact h.hf i, nr_kept h.num (fun q hq => kp q (by rw [h.c8 q hq]; decide)), h.lmp.kept (kp _ (by rw [h.c7]; decide)), h.lo, h.lq, by rw [World.size_setCell]; exact h.lt, h.a1, h.a2, h.kc, h.cq, h.c3, h.c4, h.c5, h.c6, h.c7, h.c8⟩
theorem frh_hb (i : Nat) (v : Value) : Fr (ownW x qs) (ownW x qs) w (w.setCell ⟨x.hb, i, none⟩ v) := ⟨by rw [World.size_setCell]; exact Nat.le_refl _, fun d _ ho => Below.heap_setCell _ _ _ _ (by show d ≠ x.hb; intro e; exact ho (Or.inr e)), fun _ h => Or.inl h⟩
theorem c_take_no (h : Hid (HC W x n ao cap nv fc w C qs)) (m v e : Int) (al' : Al) (hR : Hid (C.M.al.take m = (al', v, e))) (he : (e != 0) = true) : Calls Tryz.prog 45 #[.pointer (some ⟨x.b.cb, 0, none⟩), .int .i64 m] w fun r w' => r = .returned (.tuple #[.int .i64 0, .int .i64 e]) ∧ HC W x n ao cap nv fc w' { C with M := ⟨al', C.M.T, C.M.g⟩ } qs ∧ Fr (ownQ x qs) (ownQ x qs) w w' := by
  have c1 := (unhide h).cb.c1
  have CC := hide (l_take (hide (unhide h).st) m)
  rw [unhide hR] at CC
  simp only at CC
  go_enter Tryz.func45, Tryz.ntmps45
  go_wp2_with fail
  refine (unhide CC).mono ?_
  rintro r w1 ⟨rfl, s1, t1⟩
  have h1 := hide (And.intro ((unhide h).turn s1 t1) (frq_tn (qs := qs) t1))
  clear CC s1 t1
  go_wp2_with fail
  go_ret2
  exact ⟨rfl, (unhide h1).1, (unhide h1).2⟩
theorem c_take_off (h : Hid (HC W x n ao cap nv fc w C qs)) (hp : C.ph = 0) (m v : Int) (al' : Al) (hR : Hid (C.M.al.take m = (al', v, 0))) : Calls Tryz.prog 45 #[.pointer (some ⟨x.b.cb, 0, none⟩), .int .i64 m] w fun r w' => r = .returned (.tuple #[.int .i64 v, .int .i64 0]) ∧ HC W x n ao cap nv fc w' { C with M := ⟨al', C.M.T, C.M.g⟩ } qs ∧ Fr (ownQ x qs) (ownQ x qs) w w' := by
  have c1 := (unhide h).cb.c1
  have CC := hide (l_take (hide (unhide h).st) m)
  rw [unhide hR] at CC
  simp only at CC
  have C2 : Hid (∀ y, HC W x n ao cap nv fc y { C with M := ⟨al', C.M.T, C.M.g⟩ } qs → Calls Tryz.prog 65 #[.pointer (some ⟨x.b.cb, 0, none⟩)] y fun e w' => e = .returned (.bool false) ∧ w' = y) := hide fun y hy => by
    obtain ⟨c, H⟩ := hy
    have hh := g_shades (g := ⟨c, C.M.g, qs⟩) (hide H)
    simp only [hp] at hh
    exact hh
  go_enter Tryz.func45, Tryz.ntmps45
  go_wp2_with fail
  refine (unhide CC).mono ?_
  rintro r w1 ⟨rfl, s1, t1⟩
  have h1 := hide (And.intro ((unhide h).turn s1 t1) (frq_tn (qs := qs) t1))
  have C3 := hide (unhide C2 w1 (unhide h1).1)
  clear CC s1 t1 C2
  go_wp2_with fail
  refine (unhide C3).mono ?_
  rintro r w2 ⟨rfl, hw2⟩
  rw [hw2]
  clear C3 hw2 w2
  go_wp2_with fail
  go_ret2
  exact ⟨rfl, (unhide h1).1, (unhide h1).2⟩
/-- There is room. -/
theorem hc_take_ok (h : Hid (HC W x n ao cap nv fc w C qs)) (hp : C.ph = 0) (m v : Int) (al' : Al) (hR : Hid (C.M.al.take m = (al', v, 0))) (rv : Value) : Calls Tryz.prog 27 #[.pointer (some ⟨x.hb, 0, none⟩), .int .i64 m, rv] w fun r w' => r = .returned (.tuple #[.int .i64 v, .int .i64 0]) ∧ ∃ qs', HC W x n ao cap nv fc w' { C with M := ⟨al', C.M.T, C.M.g⟩ } qs' ∧ Fr (ownW x qs) (ownW x qs') w w' := by
  have h0 := (unhide h).h0.1
  have CC := hide (c_take_off h hp m v al' hR)
  clear hR h hp
  go_enter Tryz.func27, Tryz.ntmps27
  go_wp2_with fail
  refine (unhide CC).mono ?_
  rintro r w1 ⟨rfl, S1, p1⟩
  have X := hide (And.intro S1 p1.up)
  clear CC S1 p1
  go_wp2_with fail
  go_ret2
  exact ⟨rfl, qs, (unhide X).1, (unhide X).2⟩
set_option maxHeartbeats 1000000 in
/-- There is none: a whole collection, and once more. -/
theorem hc_take_full {J : Nat} (h : Hid (HC W x n ao cap nv fc w C qs)) (hp : C.ph = 0) (hg : C.M.g.length ≤ 10000) (hfc : 0 ≤ fc ∧ fc ≤ 1000000) (T : Hid (Rts x R p RS)) (hR : Hid (RS qs w)) (m v : Int) (al' : Al) (hT : Hid (C.M.al.take m = (al', v, 5))) (RR : Hid (({ C with M := ⟨al', C.M.T, C.M.g⟩ } : Cy).startC R |>.Runs R J)) (C2 : Cy) (hC2 : Hid ((({ C with M := ⟨al', C.M.T, C.M.g⟩ } : Cy).startC R).stepsC R J = C2)) (v2 e2 : Int) (al2 : Al) (hT2 : Hid (C2.M.al.take m = (al2, v2, e2))) (he2 : e2 = 0 ∨ e2 = 5 ∧ v2 = 0) :
    Calls Tryz.prog 27 #[.pointer (some ⟨x.hb, 0, none⟩), .int .i64 m, .iface 30 (.pointer p)] w fun r w' => r = .returned (.tuple #[.int .i64 v2, .int .i64 e2]) ∧ ∃ qs', HC W x n ao cap nv (fc + 1) w' { C2 with M := ⟨al2, C2.M.T, C2.M.g⟩ } qs' ∧ Fr (ownW x qs) (ownW x qs') w w' := by
  have h0 := (unhide h).h0.1
  have CC := hide (c_take_no h m v 5 al' hT (by decide))
  have hph2 : C2.ph = 0 := by rw [← unhide hC2]; exact (unhide RR).off
  have CW : Hid (∀ y, HC W x n ao cap nv fc y { C with M := ⟨al', C.M.T, C.M.g⟩ } qs → RS qs y → Calls Tryz.prog 12 #[.pointer (some ⟨x.b.cb, 0, none⟩), .iface 30 (.pointer p)] y fun e w' => e = .returned (.tuple #[]) ∧ Hid (∃ qs', HC W x n ao cap nv fc w' C2 qs' ∧ Fr (ownQ x qs) (ownQ x qs') y w')) := hide fun y hy hr => (c_whole (hide hy) hp hg T (hide hr) RR).mono fun _ _ hh => ⟨hh.1, hide (by rw [← unhide hC2]; exact hh.2)⟩
  have CT : Hid (∀ y q, HC W x n ao cap nv (fc + 1) y C2 q → Calls Tryz.prog 45 #[.pointer (some ⟨x.b.cb, 0, none⟩), .int .i64 m] y fun r w' => r = .returned (.tuple #[.int .i64 v2, .int .i64 e2]) ∧ Hid (HC W x n ao cap nv (fc + 1) w' { C2 with M := ⟨al2, C2.M.T, C2.M.g⟩ } q ∧ Fr (ownQ x q) (ownQ x q) y w')) := hide fun y q hy => by
    rcases he2 with rfl | ⟨rfl, rfl⟩
    · exact (c_take_off (hide hy) hph2 m v2 al2 hT2).mono fun _ _ hh => ⟨hh.1, hide hh.2⟩
    · exact (c_take_no (hide hy) m 0 5 al2 hT2 (by decide)).mono fun _ _ hh => ⟨hh.1, hide hh.2⟩
  have hwf : wrap64 (fc + 1) = fc + 1 := by unfold wrap64; omega
  have hwf' : IntKind.i64.wrap (fc + 1) = fc + 1 := by rw [IntKind.wrap_i64]; omega
  clear hT h hp hg hph2 hC2 RR he2 hT2
  go_enter Tryz.func27, Tryz.ntmps27
  go_wp2_with fail
  refine (unhide CC).mono ?_
  rintro r w1 ⟨rfl, S1, p1⟩
  have CW1 := hide (unhide CW w1 S1 ((unhide T).fr _ _ _ _ (unhide hR) p1))
  have q0 := S1.h0.1
  have F1 := hide p1
  clear CC S1 p1 CW h0
  go_wp2_with fail
  refine (unhide CW1).mono ?_
  rintro r w2 ⟨rfl, X2⟩
  obtain ⟨q2, S2, F2⟩ := unhide X2
  obtain ⟨i0, _, i3, i4⟩ := S2.h0
  have S3 := S2.force (fc + 1)
  have j0 := S3.h0.1
  have CT1 := hide (unhide CT _ q2 S3)
  have F3 := hide (((unhide F1).trans F2).up.trans (frh_hb 3 (.int .i64 (fc + 1))))
  obtain ⟨w3, hw3⟩ : ∃ w3, w3 = w2.setCell ⟨x.hb, 3, none⟩ (.int .i64 (fc + 1)) := ⟨_, rfl⟩
  rw [← hw3] at CT1 F3 j0
  clear CW1 X2 S2 F2 F1 CT S3 q0
  go_upto_region 6 with fail
  rw [← hw3]
  clear hw3 i0 i3 i4
  go_wp2_with fail
  refine (unhide CT1).mono ?_
  rintro r w4 ⟨rfl, X4⟩
  have X5 := hide (And.intro (unhide X4).1 ((unhide F3).trans (unhide X4).2.up))
  clear CT1 X4 F3
  go_wp2_with fail
  go_ret2
  exact ⟨rfl, q2, (unhide X5).1, (unhide X5).2⟩
theorem hc_first (h : Hid (HC W x n ao cap nv fc w C qs)) (k : Nat) (hk : k < n) (s : Hd.Shp) (hs : C.M.T[k]? = some s) (wd : Int) : Calls Tryz.prog 28 #[.pointer (some ⟨x.hb, 0, none⟩), .int .i64 (k : Int), .int .i64 wd] w fun r w' => r = .returned (.int .i64 (Hd.pkV wd s.k (k : Int))) ∧ G w w' := by
  obtain ⟨c, H⟩ := unhide h
  obtain ⟨g, cp, hv, ck⟩ := H.num.get k hk
  have h0 := H.h0
  have h1 := H.h1
  rw [hv] at h1
  have CT := hide (b_table (hide H.hB))
  have CS := hide (Hd.shape_yes w _ _ _ _ _ C.M.T H.tab k s hs)
  have hkI : (k : Int) < (n : Int) := by omega
  have hk0 : (0 : Int) ≤ (k : Int) := by omega
  obtain ⟨sk, hsk⟩ : ∃ sk, sk = s.k := ⟨_, rfl⟩
  generalize s.f = sf at CS
  generalize s.m = sm at CS
  rw [← hsk] at CS ⊢
  have CP := hide (fun y => Hd.pack_any wd sk (k : Int) y)
  generalize Hd.pkV wd sk (k : Int) = pv at CP ⊢
  generalize Hd.pkE wd sk (k : Int) = pe at CP
  clear h hs hsk hv hk H
  go_enter Tryz.func28, Tryz.ntmps28
  go_wp2_with fail
  refine (unhide CT).mono ?_
  rintro r w1 ⟨rfl, hw1⟩
  rw [hw1]
  clear hw1 w1 CT
  go_wp2_with fail
  refine (unhide CS).mono ?_
  rintro r w2 ⟨rfl, g2⟩
  clear CS
  go_upto_region 3 with fail
  obtain ⟨w3, hw3⟩ : ∃ w3, w3 = w2.alloc (.cells #[.int .i64 sk, .int .i64 sf, .int .u64 (sm : Int)] 59) := ⟨_, rfl⟩
  rw [← hw3]
  have q0 : w3.cell? ⟨w2.heap.size, 0, none⟩ = some (.int .i64 sk) := by rw [hw3]; simp [go_sem]
  have g3 := hide (g2.trans (show G w2 w3 by rw [hw3]; exact G.alloc _ _))
  clear hw3 g2
  go_wp2_with fail
  refine (unhide CP w3).mono ?_
  rintro r w4 ⟨rfl, hw4⟩
  have g4 := hide ((unhide g3).trans (show G w3 w4 by rw [hw4]; exact G.alloc _ _))
  clear hw4 CP g3
  go_wp2_with fail
  go_ret
  exact ⟨rfl, unhide g4⟩
theorem HC.nsh (h : HC W x n ao cap nv fc w C qs) : ∃ bo cp, nv = .slice bo n cp := by
  obtain ⟨c, H⟩ := h
  exact H.num.shape
set_option maxHeartbeats 1000000 in
/-- Make, where take has found a place. -/
theorem hc_make_of (h : Hid (HC W x n ao cap nv fc w C qs)) (k : Nat) (hk : k < n) (s : Hd.Shp) (hs : C1.M.T[k]? = some s) (wd v : Int) (hw1 : 1 ≤ wd) (hw2 : wd ≤ 64) (rv : Value) (CT : Hid (Calls Tryz.prog 27 #[.pointer (some ⟨x.hb, 0, none⟩), .int .i64 wd, rv] w fun r w' => r = .returned (.tuple #[.int .i64 v, .int .i64 0]) ∧ ∃ qs', HC W x n ao cap nv fc' w' C1 qs' ∧ Fr (ownW x qs) (ownW x qs') w w')) :
    Calls Tryz.prog 8 #[.pointer (some ⟨x.hb, 0, none⟩), .int .i64 (k : Int), .int .i64 wd, rv] w fun r w' => r = .returned (.tuple #[.int .i64 v, .int .i64 0]) ∧ ∃ qs', HC W x n ao cap nv fc' w' { C1 with M := ⟨⟨C1.M.al.a.writeA v 0 (Hd.pkV wd s.k (k : Int)), C1.M.al.u⟩, C1.M.T, C1.M.g⟩ } qs' ∧ Fr (ownW x qs) (ownW x qs') w w' := by
  obtain ⟨ao', cp, hv⟩ := (unhide h).nsh
  have h1 := (unhide h).h0.2.1
  rw [hv] at h1
  have CF : Hid (∀ y q, HC W x n ao cap nv fc' y C1 q → Calls Tryz.prog 28 #[.pointer (some ⟨x.hb, 0, none⟩), .int .i64 (k : Int), .int .i64 wd] y fun r w' => r = .returned (.int .i64 (Hd.pkV wd s.k (k : Int))) ∧ G y w') := hide fun y q hy => hc_first (hide hy) k hk s hs wd
  have CA0 : Hid (∀ y q, HC W x n ao cap nv fc' y C1 q → Calls Tryz.prog 13 #[.pointer (some ⟨x.b.cb, 0, none⟩)] y fun e w' => e = .returned (.pointer (some ⟨x.xl.d.ab, 0, none⟩)) ∧ w' = y) := hide fun y q hy => by
    obtain ⟨c, H⟩ := hy
    exact b_arena (hide H.hB)
  have hk0 : ¬ (k : Int) < 0 := by omega
  have hkn : ¬ (n : Int) ≤ (k : Int) := by omega
  have hw1' : ¬ wd < 1 := by omega
  have hw2' : ¬ 64 < wd := by omega
  generalize Hd.pkV wd s.k (k : Int) = pv at CF ⊢
  clear h hv hs hw1 hw2 hk
  go_enter Tryz.func8, Tryz.ntmps8
  go_wp2_with fail
  refine (unhide CT).mono ?_
  rintro r w1 ⟨rfl, q1, S1, p1⟩
  replace p1 := hide p1
  have q0 := S1.h0.1
  have CA := hide (unhide CA0 w1 q1 S1)
  have CF1 := hide (unhide CF w1 q1 S1)
  replace S1 := hide S1
  clear CT CF h1 CA0
  go_wp2_with fail
  refine (unhide CA).mono ?_
  rintro r w2 ⟨rfl, hw2⟩
  rw [hw2]
  clear hw2 w2 CA
  go_wp2_with fail
  refine (unhide CF1).mono ?_
  rintro r w3 ⟨rfl, g3⟩
  have S3 := (unhide S1).gr g3
  have CW : Hid (Calls Tryz.prog 26 #[.pointer (some ⟨x.xl.d.ab, 0, none⟩), .int .i64 v, .int .i64 0, .int .i64 pv] w3 fun e w' => (∃ r, e = .returned (.int .i64 r)) ∧ Hid (HC W x n ao cap nv fc' w' { C1 with M := ⟨⟨C1.M.al.a.writeA v 0 pv, C1.M.al.u⟩, C1.M.T, C1.M.g⟩ } q1 ∧ Fr (ownW x qs) (ownW x q1) w w')) := hide ((ls_write (hide S3.st) v 0 pv).mono fun _ _ hh => ⟨⟨_, hh.1⟩, hide ⟨S3.turn hh.2.1 hh.2.2, ((unhide p1).g g3).trans (frq_tn (qs := q1) hh.2.2).up⟩⟩)
  clear CF1 g3 S3 S1 q0 p1
  go_wp2_with fail
  refine (unhide CW).mono ?_
  rintro r w4 ⟨⟨r4, rfl⟩, S4⟩
  clear CW
  go_wp2_with fail
  go_ret2
  exact ⟨rfl, q1, (unhide S4).1, (unhide S4).2⟩
/-- Make, where there is no place. -/
theorem hc_make_full (h : Hid (HC W x n ao cap nv fc w C qs)) (k : Nat) (hk : k < n) (wd : Int) (hw1 : 1 ≤ wd) (hw2 : wd ≤ 64) (rv : Value) (CT : Hid (Calls Tryz.prog 27 #[.pointer (some ⟨x.hb, 0, none⟩), .int .i64 wd, rv] w fun r w' => r = .returned (.tuple #[.int .i64 0, .int .i64 5]) ∧ ∃ qs', HC W x n ao cap nv fc' w' C1 qs' ∧ Fr (ownW x qs) (ownW x qs') w w')) :
    Calls Tryz.prog 8 #[.pointer (some ⟨x.hb, 0, none⟩), .int .i64 (k : Int), .int .i64 wd, rv] w fun r w' => r = .returned (.tuple #[.int .i64 0, .int .i64 5]) ∧ ∃ qs', HC W x n ao cap nv fc' w' C1 qs' ∧ Fr (ownW x qs) (ownW x qs') w w' := by
  obtain ⟨ao', cp, hv⟩ := (unhide h).nsh
  have h1 := (unhide h).h0.2.1
  rw [hv] at h1
  have hk0 : ¬ (k : Int) < 0 := by omega
  have hkn : ¬ (n : Int) ≤ (k : Int) := by omega
  have hw1' : ¬ wd < 1 := by omega
  have hw2' : ¬ 64 < wd := by omega
  clear h hv hw1 hw2 hk
  go_enter Tryz.func8, Tryz.ntmps8
  go_wp2_with fail
  refine (unhide CT).mono ?_
  rintro r w1 ⟨rfl, X⟩
  replace X := hide X
  clear CT h1
  go_wp2_with fail
  go_ret2
  exact ⟨rfl, unhide X⟩
end
end Go.Proofs.YtgflkpccddfalaaGreatDoor

/- PLAIN: what is marked is there behind any sweeping and taking; no Go in it. -/
namespace Go.Proofs.YtgflkpccddfalaaGreatDoor
set_option maxRecDepth 100000

/-- A place that is taken and marked begins at x; its first word is v. -/
def Kp (a : Ab) (x v : Int) : Prop :=
  ∃ s p : Nat, 1 ≤ s ∧ s < a.n ∧ 0 ≤ a.cls s ∧ (p : Int) < gp (a.cls s) ∧ (a.tk s).testBit p = true ∧ (a.mr s).testBit p = true ∧ x = ga s p (a.cls s) ∧ a.wd x = v

theorem Kp.is {a : Ab} (g : a.Good) {x v : Int} (h : Kp a x v) : a.is x = true := by
  obtain ⟨s, p, h1, h2, h3, h4, h5, _, h7, _⟩ := h
  exact (Ab.is_iff g.ok x).2 ⟨s, p, h1, h2, h3, h4, h5, h7⟩

theorem Kp.sweep {a : Ab} {x v : Int} (h : Kp a x v) (t : Int) : Kp (a.sweepA t) x v := by
  unfold Ab.sweepA
  split
  · obtain ⟨s, p, h1, h2, h3, h4, h5, h6, h7, h8⟩ := h
    refine ⟨s, p, h1, h2, ?_⟩
    show 0 ≤ (if a.kept t.toNat = 0 then upd a.cls t.toNat (-1) else a.cls) s ∧ (p : Int) < gp ((if a.kept t.toNat = 0 then upd a.cls t.toNat (-1) else a.cls) s) ∧ (upd a.tk t.toNat (a.kept t.toNat) s).testBit p = true ∧
      ((if a.kept t.toNat = 0 then upd a.mr t.toNat 0 else a.mr) s).testBit p = true ∧ x = ga s p ((if a.kept t.toNat = 0 then upd a.cls t.toNat (-1) else a.cls) s) ∧ a.wd x = v
    by_cases e : s = t.toNat
    · subst e
      have hb : (a.kept t.toNat).testBit p = true := by rw [kept_bit, h5, h6]; rfl
      have hz : ¬ a.kept t.toNat = 0 := by intro hz; rw [hz] at hb; simp at hb
      rw [if_neg hz, if_neg hz, upd_same]
      exact ⟨h3, h4, hb, h6, h7, h8⟩
    · have e1 : (if a.kept t.toNat = 0 then upd a.cls t.toNat (-1) else a.cls) s = a.cls s := by split; exact upd_other _ _ e; rfl
      have e2 : (if a.kept t.toNat = 0 then upd a.mr t.toNat 0 else a.mr) s = a.mr s := by split; exact upd_other _ _ e; rfl
      rw [e1, e2, upd_other _ _ e]
      exact ⟨h3, h4, h5, h6, h7, h8⟩
  · exact h
theorem Kp.set {a : Ab} {x v : Int} (h : Kp a x v) (t c : Int) : Kp (a.setA t c) x v := by
  unfold Ab.setA
  split
  · rename_i e
    obtain ⟨s, p, h1, h2, h3, h4, h5, h6, h7, h8⟩ := h
    have es : s ≠ t.toNat := by
      intro es
      unfold Ab.setE at e
      split at e
      · omega
      · rename_i hh
        have et : t = (s : Int) := by omega
        rw [et, a.clsI_at h1 h2, if_pos h3] at e
        omega
    refine ⟨s, p, h1, h2, ?_⟩
    show 0 ≤ upd a.cls t.toNat c s ∧ (p : Int) < gp (upd a.cls t.toNat c s) ∧ (upd a.tk t.toNat 0 s).testBit p = true ∧ (upd a.mr t.toNat 0 s).testBit p = true ∧ x = ga s p (upd a.cls t.toNat c s) ∧ a.wd x = v
    rw [upd_other _ _ es, upd_other _ _ es, upd_other _ _ es]
    exact ⟨h3, h4, h5, h6, h7, h8⟩
  · exact h

/-- A place that is taken anew was not taken. -/
theorem took_new {b : Ab} (g : b.Good) {s : Int} (e : b.takeE s = 0) : b.is (b.takeV s) = false := by
  obtain ⟨t, p, rfl, ef, h1, h2, h3, h4, h5, h6, h7, h8, _⟩ := g.free e
  have eV : b.takeV t = ga t p (b.cls t) := by unfold Ab.takeV; rw [if_pos e, ef, h4]
  rw [← Bool.not_eq_true, eV, Ab.is_iff g.ok]
  rintro ⟨s', p', k1, k2, k3, k4, k5, k6⟩
  obtain ⟨rfl, rfl⟩ := ga_inj g.ok h1 h2 h3 h6 k1 k2 k3 k4 k6
  rw [h7] at k5
  cases k5
theorem Kp.take {a : Ab} (g : a.Good) {x v : Int} (h : Kp a x v) {t : Int} (e : a.takeE t = 0) : Kp (a.takeA t) x v := by
  obtain ⟨u, q, rfl, ef, k1, k2, k3, k4, k5, k6, k7, k8, _⟩ := g.free e
  have eA : a.takeA u = a.take u q := by unfold Ab.takeA; rw [if_pos e, ef]; rfl
  rw [eA]
  obtain ⟨s, p, h1, h2, h3, h4, h5, h6, h7, h8⟩ := h
  refine ⟨s, p, h1, h2, h3, h4, ?_, h6, h7, ?_⟩
  · show (upd a.tk u (a.tk u ||| 2 ^ q) s).testBit p = true
    by_cases es : s = u
    · subst es; rw [upd_same, testBit_or_pow, h5]; rfl
    · rw [upd_other _ _ es]; exact h5
  · show (if ga u q (a.cls u) ≤ x ∧ x < ga u q (a.cls u) + gw (a.cls u) then 0 else a.wd x) = v
    rw [if_neg ?_]
    · exact h8
    · intro hx
      have hg : 2 ≤ gw (a.cls s) := by rcases gw_gp (a.cls s) with ⟨_, y⟩ | ⟨_, y, _⟩ <;> omega
      refine places_apart g.ok h1 h2 h3 h4 k1 k2 k3 k6 ?_ (x := x) (by rw [h7]; omega) hx
      rintro ⟨rfl, rfl⟩
      rw [k7] at h5
      cases h5
theorem Kp.mark {a : Ab} {x v : Int} (h : Kp a x v) (y : Int) : Kp (a.markA y) x v := by
  unfold Ab.markA
  split
  · obtain ⟨s, p, h1, h2, h3, h4, h5, h6, h7, h8⟩ := h
    refine ⟨s, p, h1, h2, h3, h4, h5, ?_, h7, h8⟩
    show (upd a.mr (gs y).toNat (a.mr (gs y).toNat ||| 2 ^ (a.pl y).toNat) s).testBit p = true
    by_cases es : s = (gs y).toNat
    · subst es; rw [upd_same, testBit_or_pow, h6]; rfl
    · rw [upd_other _ _ es]; exact h6
  · exact h
theorem Kp.write {a : Ab} (g : a.Good) {x v y k u : Int} (h : Kp a x v) (hw : a.inW y k = true) (hne : x ≠ y) : Kp (a.writeA y k u) x v := by
  have hx := h.is g
  unfold Ab.writeA
  rw [if_pos hw]
  unfold Ab.inW at hw
  simp only [Bool.and_eq_true, decide_eq_true_eq] at hw
  obtain ⟨s, p, h1, h2, h3, h4, h5, h6, h7, h8⟩ := h
  refine ⟨s, p, h1, h2, h3, h4, h5, h6, h7, ?_⟩
  show (if x = y + k then u else a.wd x) = v
  rw [if_neg ?_]
  · exact h8
  · have n1 := g.ok.n1
    have hgs : gs x = s := by rw [h7]; exact (ga_at (s := s) (p := p) h1 (by omega) h3 (g.ok.cr s).2 h4).2.1
    have hg : 2 ≤ gw (a.cls s) := by rcases gw_gp (a.cls s) with ⟨_, z⟩ | ⟨_, z, _⟩ <;> omega
    have := g.disj hx hw.1.1 hne (j := 0) (k := k) ⟨by omega, by rw [hgs, a.clsI_at h1 h2]; omega⟩ ⟨hw.1.2, hw.2⟩
    omega

/-- All of a list, each with 1000 and its address as its word. -/
def Kps (a : Ab) (ks : List Int) : Prop := ∀ x ∈ ks, Kp a x (1000 + x)
/-- What is taken is none of them. -/
theorem Kps.takes {l : Al} {ks : List Int} (g : l.a.Good) (h : Kps l.a ks) (n : Int) :
    Kps (l.take n).1.a ks ∧ ((l.take n).2.2 = 0 → (l.take n).1.a.is (l.take n).2.1 = true ∧ 0 < (l.take n).2.1 ∧ ∀ x ∈ ks, x ≠ (l.take n).2.1) := by
  rcases Al.take_ind (P := fun b => b.Good ∧ Kps b ks) (fun _ s h => ⟨h.1.sweepA' s, fun x hx => (h.2 x hx).sweep s⟩) (fun _ s c h => ⟨h.1.setA' s c, fun x hx => (h.2 x hx).set s c⟩) n ⟨g, h⟩ with ⟨e, _, k⟩ | ⟨e, b, t, ⟨gb, kb⟩, hb, ea, ev⟩
  · exact ⟨k, fun h0 => absurd h0 e⟩
  · rw [ea, ev]
    refine ⟨fun x hx => (kb x hx).take gb hb, fun _ => ?_⟩
    obtain ⟨t0, t1⟩ := took_is gb hb
    refine ⟨t1, t0, fun x hx hxe => ?_⟩
    have h1 := (kb x hx).is gb
    rw [hxe, took_new gb hb] at h1
    cases h1
/-- One more: marked, and written. -/
theorem Kps.keep {a : Ab} {ks : List Int} (g : a.Good) (h : Kps a ks) {x : Int} (hx : a.is x = true) (hne : ∀ y ∈ ks, y ≠ x) : (a.markA x).Good ∧ ((a.markA x).writeA x 0 (1000 + x)).Good ∧ Kps ((a.markA x).writeA x 0 (1000 + x)) (ks ++ [x]) := by
  obtain ⟨s, p, h1, h2, h3, h4, h5, h6⟩ := (Ab.is_iff g.ok x).1 hx
  have n1 := g.ok.n1
  obtain ⟨_, e1, e2, _⟩ := ga_at (s := s) (p := p) h1 (by omega) h3 (g.ok.cr s).2 h4
  rw [← h6] at e1 e2
  have epl : a.pl x = p := by unfold Ab.pl; rw [e1, a.clsI_at h1 h2, e2]
  have gm : (a.markA x).Good := by
    unfold Ab.markA; split
    · rw [e1, epl]; exact g.mark (by simpa using h5)
    · exact g
  have hm : (a.markA x).n = a.n ∧ (a.markA x).cls = a.cls ∧ (a.markA x).tk = a.tk ∧ ((a.markA x).mr s).testBit p = true := by
    unfold Ab.markA; split
    · refine ⟨rfl, rfl, rfl, ?_⟩
      rw [e1, epl]
      show (upd a.mr ((s : Int)).toNat _ s).testBit p = true
      simp only [Int.toNat_natCast]
      rw [upd_same, testBit_or_pow]; simp
    · rename_i hb
      refine ⟨rfl, rfl, rfl, ?_⟩
      unfold Ab.markB at hb
      rw [hx] at hb
      have : a.isM x = true := by simpa using hb
      unfold Ab.isM at this
      rw [e1, epl, (a.I_at h1 h2).2.2] at this
      simpa using this
  have his : (a.markA x).is x = true := (Ab.is_iff gm.ok x).2 ⟨s, p, h1, by rw [hm.1]; exact h2, by rw [hm.2.1]; exact h3, by rw [hm.2.1]; exact h4, by rw [hm.2.2.1]; exact h5, by rw [hm.2.1]; exact h6⟩
  have hg : 2 ≤ gw (a.cls s) := by rcases gw_gp (a.cls s) with ⟨_, z⟩ | ⟨_, z, _⟩ <;> omega
  have hin : (a.markA x).inW x 0 = true := by
    unfold Ab.inW
    rw [his, e1, (a.markA x).clsI_at h1 (by rw [hm.1]; exact h2), hm.2.1]
    simp
    omega
  refine ⟨gm, ?_, ?_⟩
  · unfold Ab.writeA; rw [if_pos hin]; exact gm.write _ _
  · intro y hy
    rcases List.mem_append.1 hy with hy | hy
    · exact ((h y hy).mark x).write gm hin (hne y hy)
    · obtain rfl : y = x := by simpa using hy
      unfold Ab.writeA
      rw [if_pos hin]
      refine ⟨s, p, h1, by show s < (a.markA y).n; rw [hm.1]; exact h2, by show 0 ≤ (a.markA y).cls s; rw [hm.2.1]; exact h3, by show (p : Int) < gp ((a.markA y).cls s); rw [hm.2.1]; exact h4, by show ((a.markA y).tk s).testBit p = true; rw [hm.2.2.1]; exact h5, hm.2.2.2, by show y = ga s p ((a.markA y).cls s); rw [hm.2.1]; exact h6, ?_⟩
      show (if y = y + 0 then 1000 + y else (a.markA y).wd y) = 1000 + y
      rw [if_pos (by omega)]
theorem Kps.read {a : Ab} {ks : List Int} (g : a.Good) (h : Kps a ks) {x : Int} (hx : x ∈ ks) : a.readE x 0 = 0 ∧ a.readV x 0 = 1000 + x := by
  have hk := h x hx
  have hi := hk.is g
  obtain ⟨s, p, h1, h2, h3, h4, h5, _, h6, h8⟩ := hk
  have n1 := g.ok.n1
  obtain ⟨_, e1, e2, _⟩ := ga_at (s := s) (p := p) h1 (by omega) h3 (g.ok.cr s).2 h4
  rw [← h6] at e1 e2
  have hg : 2 ≤ gw (a.cls s) := by rcases gw_gp (a.cls s) with ⟨_, z⟩ | ⟨_, z, _⟩ <;> omega
  have hin : a.inW x 0 = true := by
    unfold Ab.inW
    rw [hi, e1, a.clsI_at h1 h2]
    simp
    omega
  unfold Ab.readE Ab.readV
  rw [if_pos hin, if_pos hin, Int.add_zero]
  exact ⟨rfl, h8⟩

/-! ### how many are unswept -/
theorem unsN_le (u : Nat → Bool) : ∀ k, unsN u k ≤ k
  | 0 => Nat.le_refl _
  | k + 1 => by have := unsN_le u k; unfold unsN; split <;> omega
theorem leastU_none (u : Nat → Bool) : ∀ (k s : Nat), leastU u k s = none → ∀ t, s ≤ t → t < s + k → u t = false
  | 0, _, _, t, h1, h2 => by omega
  | k + 1, s, h, t, h1, h2 => by
    unfold leastU at h
    split at h
    · cases h
    · rename_i hu
      by_cases e : t = s
      · subst e; simpa using hu
      · exact leastU_none u k (s + 1) h t (by omega) (by omega)
theorem leastU_some (u : Nat → Bool) : ∀ (k s t : Nat), leastU u k s = some t → s ≤ t ∧ t < s + k ∧ u t = true ∧ ∀ r, s ≤ r → r < t → u r = false
  | 0, _, _, h => by cases h
  | k + 1, s, t, h => by
    unfold leastU at h
    split at h
    · rename_i hu
      injection h with h
      subst h
      exact ⟨Nat.le_refl _, by omega, hu, fun r h1 h2 => by omega⟩
    · rename_i hu
      obtain ⟨h1, h2, h3, h4⟩ := leastU_some u k (s + 1) t h
      refine ⟨by omega, by omega, h3, fun r r1 r2 => ?_⟩
      by_cases e : r = s
      · subst e; simpa using hu
      · exact h4 r (by omega) r2
theorem unsN_zero (u : Nat → Bool) : ∀ k, (∀ t, t < k → u t = false) → unsN u k = 0
  | 0, _ => rfl
  | k + 1, h => by unfold unsN; rw [unsN_zero u k (fun t ht => h t (by omega)), h k (by omega)]; rfl
theorem unsN_upd (u : Nat → Bool) {s : Nat} (hu : u s = true) : ∀ k, unsN (upd u s false) k + (if s < k then 1 else 0) = unsN u k
  | 0 => rfl
  | k + 1 => by
    have := unsN_upd u hu k
    show unsN (upd u s false) k + (if upd u s false k = true then 1 else 0) + (if s < k + 1 then 1 else 0) = unsN u k + if u k = true then 1 else 0
    by_cases e : k = s
    · subst e
      rw [if_neg (Nat.lt_irrefl _)] at this
      rw [upd_same, hu]
      simp
      omega
    · rw [upd_other _ _ e]
      by_cases h : s < k
      · rw [if_pos h] at this
        rw [if_pos (show s < k + 1 by omega)]
        omega
      · rw [if_neg h] at this
        rw [if_neg (show ¬ s < k + 1 by omega)]
        omega
end Go.Proofs.YtgflkpccddfalaaGreatDoor

/- PLAIN: taking where nothing is unswept; no Go in it. -/
namespace Go.Proofs.YtgflkpccddfalaaGreatDoor
set_option maxRecDepth 100000

def Al.Calm (l : Al) : Prop := ∀ s, l.u s = false
theorem least_of {P : Nat → Prop} (n : Nat) : P n → ∃ j, P j ∧ j ≤ n ∧ ∀ t, t < j → ¬ P t := by
  induction n using Nat.strongRecOn with
  | _ n ih =>
    intro h
    by_cases hh : ∃ m, m < n ∧ P m
    · obtain ⟨m, h1, h2⟩ := hh
      obtain ⟨j, j1, j2, j3⟩ := ih m h1 h2
      exact ⟨j, j1, by omega, j3⟩
    · exact ⟨n, h, Nat.le_refl _, fun t ht hp => hh ⟨t, ht, hp⟩⟩

section
variable {l : Al} {c : Int}
theorem Al.Calm.swp (h : l.Calm) (s : Nat) : l.swp s = l := by unfold Al.swp; rw [if_neg (by rw [h s]; decide)]
theorem toc_none (h : l.Calm) : ∀ k s, (∀ t : Nat, s ≤ t → t < s + k → l.a.clsI t = c → ¬ l.a.takeE t = 0) → Al.toc c k s l = (l, 0, false)
  | 0, _, _ => rfl
  | k + 1, s, H => by
    unfold Al.toc
    rw [h.swp s]
    split
    · rename_i hc
      rw [if_neg (H s (Nat.le_refl _) (by omega) hc)]
      exact toc_none h k (s + 1) fun t t1 t2 => H t (by omega) (by omega)
    · exact toc_none h k (s + 1) fun t t1 t2 => H t (by omega) (by omega)
theorem toc_some (h : l.Calm) {j : Nat} (hc : l.a.clsI j = c) (he : l.a.takeE j = 0) : ∀ k s, s ≤ j → j < s + k → (∀ t : Nat, s ≤ t → t < j → l.a.clsI t = c → ¬ l.a.takeE t = 0) → Al.toc c k s l = (⟨l.a.takeA j, l.u⟩, l.a.takeV j, true)
  | 0, _, h1, h2, _ => by omega
  | k + 1, s, h1, h2, H => by
    unfold Al.toc
    rw [h.swp s]
    by_cases e : s = j
    · subst e
      rw [if_pos hc, if_pos he]
    · split
      · rename_i hs
        rw [if_neg (H s (Nat.le_refl _) (by omega) hs)]
        exact toc_some h hc he k (s + 1) (by omega) (by omega) fun t t1 t2 => H t (by omega) t2
      · exact toc_some h hc he k (s + 1) (by omega) (by omega) fun t t1 t2 => H t (by omega) t2
theorem wo_none {a : Ab} : ∀ k s, (∀ t : Nat, s ≤ t → t < s + k → 0 ≤ a.clsI t) → a.wo k s = none
  | 0, _, _ => rfl
  | k + 1, s, H => by
    unfold Ab.wo
    rw [if_pos (H s (Nat.le_refl _) (by omega))]
    exact wo_none k (s + 1) fun t t1 t2 => H t (by omega) (by omega)
theorem wo_some {a : Ab} {j : Nat} (hj : ¬ 0 ≤ a.clsI j) : ∀ k s, s ≤ j → j < s + k → (∀ t : Nat, s ≤ t → t < j → 0 ≤ a.clsI t) → a.wo k s = some j
  | 0, _, h1, h2, _ => by omega
  | k + 1, s, h1, h2, H => by
    unfold Ab.wo
    by_cases e : s = j
    · subst e; rw [if_neg hj]
    · rw [if_pos (H s (Nat.le_refl _) (by omega))]
      exact wo_some hj k (s + 1) (by omega) (by omega) fun t t1 t2 => H t (by omega) t2
theorem sof_calm (h : l.Calm) : ∀ k s, Al.sof k s l = (l, none)
  | 0, _ => rfl
  | k + 1, s => by
    unfold Al.sof
    rw [if_neg (by rw [h s]; decide)]
    exact sof_calm h k (s + 1)
theorem take3_calm (h : l.Calm) : l.take3 c = (l, 0, 5) := by
  unfold Al.take3
  rw [sof_calm h]
theorem calm_upd {u : Nat → Bool} (h : ∀ s, u s = false) (s : Nat) : ∀ t, upd u s false t = false := by
  intro t
  by_cases e : t = s
  · subst e; exact upd_same _ _ _
  · rw [upd_other _ _ e]; exact h t

theorem takeE0 {a : Ab} {t : Nat} (h1 : 1 ≤ t) (h2 : t < a.n) : a.takeE t = 0 ↔ 0 ≤ a.cls t ∧ (a.tk t : Int) ≠ gf (a.cls t) := by
  unfold Ab.takeE
  rw [(a.I_at h1 h2).1, (a.I_at h1 h2).2.1]
  by_cases h : a.cls t < 0
  · rw [if_pos h]; omega
  · rw [if_neg h]
    by_cases e : (a.tk t : Int) = gf (a.cls t)
    · rw [if_pos e]; simp [e]
    · rw [if_neg e]; simp only [true_iff]; exact ⟨by omega, e⟩
theorem gf_pos {c : Int} (h0 : 0 ≤ c) (h5 : c ≤ 5) : 0 < gf c := by
  rcases cls c with h | h | h | h | h | h | h | h
  · omega
  · omega
  all_goals (subst h; decide)

/-- A span without a class gets one: its first place. -/
theorem first_ok {s : Nat} (h1 : 1 ≤ s) (h2 : s < l.a.n) (hs : l.a.cls s < 0) (h0 : 0 ≤ c) (h5 : c ≤ 5) :
    l.a.setA s c = l.a.set s c ∧ (l.a.set s c).takeE s = 0 ∧ l.first s c = (⟨(l.a.set s c).takeA s, upd l.u s false⟩, (l.a.set s c).takeV s, 0) := by
  have hE : l.a.setE s c = 0 := by
    unfold Ab.setE
    rw [if_neg (by omega), l.a.clsI_at h1 h2, if_neg (by omega)]
  have eA : l.a.setA s c = l.a.set s c := by unfold Ab.setA; rw [if_pos hE]; rfl
  have eT : (l.a.set s c).takeE s = 0 := by
    rw [takeE0 h1 (by exact h2)]
    show 0 ≤ upd l.a.cls s c s ∧ ((upd l.a.tk s 0 s : Nat) : Int) ≠ gf (upd l.a.cls s c s)
    rw [upd_same, upd_same]
    have := gf_pos h0 h5
    exact ⟨h0, by simp; omega⟩
  refine ⟨eA, eT, ?_⟩
  unfold Al.first
  rw [if_pos hE, eA, eT]

theorem gc_r (n : Int) : -1 ≤ gc n ∧ gc n ≤ 5 := by
  unfold gc
  repeat' split
  all_goals omega

/-- The way that a taking goes where nothing is unswept. -/
theorem take_ways (h : l.Calm) {n : Int} (hc : 0 ≤ gc n) :
    (∃ j : Nat, 1 ≤ j ∧ j < l.a.n ∧ l.a.clsI j = gc n ∧ l.a.takeE j = 0 ∧ l.take n = (⟨l.a.takeA j, l.u⟩, l.a.takeV j, 0)) ∨
    ((∀ t : Nat, 1 ≤ t → t < l.a.n → l.a.clsI t = gc n → ¬ l.a.takeE t = 0) ∧
      ((∃ j : Nat, 1 ≤ j ∧ j < l.a.n ∧ l.a.cls j < 0 ∧ (∀ t : Nat, 1 ≤ t → t < j → 0 ≤ l.a.cls t) ∧ l.take n = (⟨(l.a.set j (gc n)).takeA j, upd l.u j false⟩, (l.a.set j (gc n)).takeV j, 0)) ∨
       ((∀ t : Nat, 1 ≤ t → t < l.a.n → 0 ≤ l.a.cls t) ∧ l.take n = (l, 0, 5)))) := by
  have e0 : l.take n = l.takeC (gc n) := by unfold Al.take; rw [if_neg (by omega)]
  by_cases hh : ∃ j : Nat, 1 ≤ j ∧ j < l.a.n ∧ l.a.clsI j = gc n ∧ l.a.takeE j = 0
  · obtain ⟨j0, hj0⟩ := hh
    obtain ⟨j, ⟨j1, j2, j3, j4⟩, _, jl⟩ := least_of (P := fun j : Nat => 1 ≤ j ∧ j < l.a.n ∧ l.a.clsI j = gc n ∧ l.a.takeE j = 0) j0 hj0
    have ht := toc_some h j3 j4 (l.a.n - 1) 1 j1 (by omega) fun t t1 t2 t3 t4 => jl t t2 ⟨t1, by omega, t3, t4⟩
    refine Or.inl ⟨j, j1, j2, j3, j4, ?_⟩
    rw [e0]
    unfold Al.takeC
    rw [ht, if_pos rfl]
  · have ht := toc_none h (c := gc n) (l.a.n - 1) 1 fun t t1 t2 t3 t4 => hh ⟨t, t1, by omega, t3, t4⟩
    refine Or.inr ⟨fun t t1 t2 t3 t4 => hh ⟨t, t1, t2, t3, t4⟩, ?_⟩
    have e1 : l.take n = l.take2 (gc n) := by
      rw [e0]
      unfold Al.takeC
      rw [ht, if_neg (show ¬ (false : Bool) = true by decide)]
    by_cases hw : ∃ j : Nat, 1 ≤ j ∧ j < l.a.n ∧ l.a.cls j < 0
    · obtain ⟨j0, hj0⟩ := hw
      obtain ⟨j, ⟨j1, j2, j3⟩, _, jl⟩ := least_of (P := fun j : Nat => 1 ≤ j ∧ j < l.a.n ∧ l.a.cls j < 0) j0 hj0
      have hl : ∀ t : Nat, 1 ≤ t → t < j → 0 ≤ l.a.cls t := fun t t1 t2 => by
        have := jl t t2
        omega
      refine Or.inl ⟨j, j1, j2, j3, hl, ?_⟩
      have hw2 := wo_some (a := l.a) (j := j) (by rw [l.a.clsI_at j1 j2]; omega) (l.a.n - 1) 1 j1 (by omega) fun t t1 t2 => by rw [l.a.clsI_at t1 (by omega)]; exact hl t t1 t2
      rw [e1]
      unfold Al.take2
      rw [hw2]
      exact (first_ok j1 j2 j3 hc (gc_r n).2).2.2
    · have hl : ∀ t : Nat, 1 ≤ t → t < l.a.n → 0 ≤ l.a.cls t := fun t t1 t2 => by
        have : ¬ l.a.cls t < 0 := fun h => hw ⟨t, t1, t2, h⟩
        omega
      refine Or.inr ⟨hl, ?_⟩
      rw [e1]
      unfold Al.take2
      rw [wo_none (a := l.a) (l.a.n - 1) 1 fun t t1 t2 => by rw [l.a.clsI_at t1 (by omega)]; exact hl t t1 (by omega)]
      exact take3_calm h
theorem take_calm (h : l.Calm) (n : Int) : (l.take n).1.Calm := by
  by_cases hc : 0 ≤ gc n
  · rcases take_ways h hc with ⟨j, _, _, _, _, e⟩ | ⟨_, ⟨j, _, _, _, _, e⟩ | ⟨_, e⟩⟩
    · rw [e]; exact h
    · rw [e]; exact calm_upd h j
    · rw [e]; exact h
  · unfold Al.take; rw [if_pos (by omega)]; exact h

/-- A span is not full just if fewer of its places are taken than there are. -/
theorem full_pop {a : Ab} (g : a.Good) {t : Nat} (h0 : 0 ≤ a.cls t) : (a.tk t : Int) ≠ gf (a.cls t) ↔ (popF 64 (a.tk t) : Int) < gp (a.cls t) := by
  obtain ⟨q, hq, hf⟩ := gf_two h0 (g.ok.cr t).2
  have hq64 : q ≤ 64 := by have := gp_pos h0 (g.ok.cr t).2; omega
  rw [popF_cnt, hq]
  constructor
  · intro hne
    obtain ⟨f1, f2, _⟩ := free_spec (g.ok.tb t h0) h0 (g.ok.cr t).2 hne
    have hle := len_le_of_mem (l := (List.range 64).filter fun p => (a.tk t).testBit p) (m := (List.range q).erase (freeN (a.tk t))) (List.Nodup.sublist List.filter_sublist List.nodup_range) (fun x hx => by
      have hx2 := (List.mem_filter.1 hx).2
      have := g.ok.tb t h0 x hx2
      refine (List.mem_erase_of_ne ?_).2 (by rw [List.mem_range]; omega)
      rintro rfl
      rw [f2] at hx2
      cases hx2)
    rw [List.length_erase_of_mem (by rw [List.mem_range]; omega), List.length_range] at hle
    have : 0 < q := by omega
    omega
  · intro hlt he
    have e1 : a.tk t = 2 ^ q - 1 := by omega
    rw [e1] at hlt
    have e2 : ((List.range 64).filter fun p => (2 ^ q - 1).testBit p) = (List.range q).filter fun _ => true := by
      rw [← range_part q (fun _ => true) 64 hq64]
      refine List.filter_congr fun p _ => ?_
      rw [Nat.testBit_two_pow_sub_one]; simp
    rw [e2, List.filter_eq_self.2 (fun _ _ => rfl), List.length_range] at hlt
    omega
theorem take_room (g : l.a.Good) (h : l.Calm) {n : Int} (hc : 0 ≤ gc n) :
    (l.take n).2.2 = 0 ↔ ∃ s : Nat, 1 ≤ s ∧ s < l.a.n ∧ (l.a.cls s < 0 ∨ l.a.cls s = gc n ∧ (popF 64 (l.a.tk s) : Int) < gp (gc n)) := by
  rcases take_ways h hc with ⟨j, j1, j2, j3, j4, e⟩ | ⟨hn, ⟨j, j1, j2, j3, _, e⟩ | ⟨ha, e⟩⟩
  · rw [e]
    refine ⟨fun _ => ⟨j, j1, j2, Or.inr ?_⟩, fun _ => rfl⟩
    rw [l.a.clsI_at j1 j2] at j3
    obtain ⟨k1, k2⟩ := (takeE0 j1 j2).1 j4
    have := (full_pop g k1).1 k2
    rw [j3] at this
    exact ⟨j3, this⟩
  · rw [e]
    exact ⟨fun _ => ⟨j, j1, j2, Or.inl j3⟩, fun _ => rfl⟩
  · rw [e]
    refine ⟨fun h => absurd h (show ¬ (5 : Int) = 0 by decide), ?_⟩
    rintro ⟨s, s1, s2, s3 | ⟨s3, s4⟩⟩
    · have := ha s s1 s2
      omega
    · exact absurd ((takeE0 s1 s2).2 ⟨ha s s1 s2, (full_pop g (ha s s1 s2)).2 (by rw [s3]; exact s4)⟩) (hn s s1 s2 (by rw [l.a.clsI_at s1 s2]; exact s3))
end
end Go.Proofs.YtgflkpccddfalaaGreatDoor

/- PLAIN: a heap with room never refuses; what a taking keeps. (The same as the first part of CpP, with what is taken behind it.) -/
namespace Go.Proofs.YtgflkpccddfalaaGreatDoor
set_option maxRecDepth 100000
open Go.ChangeShapes Go.WideShapes Go.ChangeAt Go.RowKit Go.Maps

theorem gc_fitC {n : Int} (h1 : 1 ≤ n) (h2 : n ≤ 64) : 0 ≤ gc n ∧ n ≤ gw (gc n) := by
  obtain ⟨k, rfl⟩ : ∃ k : Nat, n = k := ⟨n.toNat, by omega⟩
  have : ∀ k : Fin 65, 1 ≤ k.1 → 0 ≤ gc (k.1 : Int) ∧ (k.1 : Int) ≤ gw (gc (k.1 : Int)) := by decide +kernel
  exact this ⟨k, by omega⟩ (by simp only; omega)
/-- What a taking keeps of a place that was taken. -/
structure Kx (a b : Ab) (x : Int) : Prop where
  is : b.is x = true
  cl : b.clsI (gs x) = a.clsI (gs x)
  wd : ∀ j, 0 ≤ j → j < gw (a.clsI (gs x)) → b.wd (x + j) = a.wd (x + j)
theorem Kx.take {a : Ab} (g : a.Good) {x : Int} (hx : a.is x = true) {t : Int} (e : a.takeE t = 0) : Kx a (a.takeA t) x := by
  obtain ⟨u, q, rfl, ef, k1, k2, k3, k4, k5, k6, k7, k8, _⟩ := g.free e
  have eA : a.takeA u = a.take u q := by unfold Ab.takeA; rw [if_pos e, ef]; rfl
  obtain ⟨s, p, e1, e2, h1, h2, _, h4, h5, h6, h7, _⟩ := g.spot hx
  rw [eA]
  refine ⟨?_, rfl, fun j j0 j1 => ?_⟩
  · have g' := g.take (s := u) (p := q) k3 k6
    refine (Ab.is_iff g'.ok x).2 ⟨s, p, h1, h2, h7, h5, ?_, h6⟩
    show (upd a.tk u (a.tk u ||| 2 ^ q) s).testBit p = true
    by_cases es : s = u
    · subst es; rw [upd_same, testBit_or_pow, h4]; rfl
    · rw [upd_other _ _ es]; exact h4
  · show (if ga u q (a.cls u) ≤ x + j ∧ x + j < ga u q (a.cls u) + gw (a.cls u) then 0 else a.wd (x + j)) = _
    rw [e1, a.clsI_at h1 h2] at j1
    refine if_neg fun hh => places_apart g.ok h1 h2 h7 h5 k1 k2 k3 k6 ?_ (x := x + j) (by rw [← h6]; omega) hh
    rintro ⟨rfl, rfl⟩
    rw [k7] at h4
    cases h4
theorem Kx.set {a : Ab} (g : a.Good) {x : Int} (hx : a.is x = true) {j : Nat} {c : Int} (j1 : 1 ≤ j) (hj : a.cls j < 0) (h0 : 0 ≤ c) (h5 : c ≤ 5) : Kx a (a.set j c) x := by
  obtain ⟨s, p, e1, e2, h1, h2, _, h4, h5', h6, h7, _⟩ := g.spot hx
  have hne : s ≠ j := fun e => by subst e; omega
  have g' := g.set (s := j) (c := c) j1 h0 h5
  have ec : (a.set j c).cls s = a.cls s := upd_other _ _ hne
  refine ⟨(Ab.is_iff g'.ok x).2 ⟨s, p, h1, h2, by rw [ec]; exact h7, by rw [ec]; exact h5', ?_, by rw [ec]; exact h6⟩, ?_, fun _ _ _ => rfl⟩
  · show (upd a.tk j 0 s).testBit p = true
    rw [upd_other _ _ hne]; exact h4
  · rw [e1, Ab.clsI_at _ h1 (show s < (a.set j c).n from h2), a.clsI_at h1 h2]; exact ec
theorem Kx.trans {a b c : Ab} {x : Int} (h : Kx a b x) (k : Kx b c x) : Kx a c x :=
  ⟨k.is, k.cl.trans h.cl, fun j j0 j1 => (k.wd j j0 (by rw [h.cl]; exact j1)).trans (h.wd j j0 j1)⟩
/-- What was taken: its words are 0. -/
structure Nx (a b : Ab) (v n : Int) : Prop where
  is : b.is v = true
  no : a.is v = false
  pos : 0 < v
  fit : n ≤ gw (b.clsI (gs v))
  zero : ∀ j, 0 ≤ j → j < gw (b.clsI (gs v)) → b.wd (v + j) = 0
theorem Nx.take {a : Ab} (g : a.Good) {t n : Int} (e : a.takeE t = 0) (hf : n ≤ gw (a.clsI t)) : Nx a (a.takeA t) (a.takeV t) n := by
  obtain ⟨p1, p2⟩ := took_is g e
  have p3 := took_new g e
  obtain ⟨u, q, rfl, ef, k1, k2, k3, k4, k5, k6, k7, k8, _⟩ := g.free e
  have eA : a.takeA u = a.take u q := by unfold Ab.takeA; rw [if_pos e, ef]; rfl
  have eV : a.takeV u = ga u q (a.cls u) := by unfold Ab.takeV; rw [if_pos e, ef, k4]
  have n1 := g.ok.n1
  obtain ⟨e1, e2, e3, e4⟩ := ga_at (s := u) (p := q) k1 (by omega) k3 (g.ok.cr u).2 k6
  have hc : (a.takeA u).clsI (gs (a.takeV u)) = a.cls u := by rw [eV, e2, eA]; exact (a.clsI_at k1 k2)
  refine ⟨p2, p3, p1, by rw [hc]; rw [a.clsI_at k1 k2] at hf; exact hf, fun j j0 j1 => ?_⟩
  rw [hc] at j1
  rw [eV, eA]
  show (if ga u q (a.cls u) ≤ ga u q (a.cls u) + j ∧ ga u q (a.cls u) + j < ga u q (a.cls u) + gw (a.cls u) then 0 else _) = (0 : Int)
  exact if_pos ⟨by omega, by omega⟩
/-- What is taken behind a taking was taken before, or is what was taken now. -/
theorem ox_take {a : Ab} (g : a.Good) {t x : Int} (e : a.takeE t = 0) (hx : (a.takeA t).is x = true) : x = a.takeV t ∨ a.is x = true := by
  obtain ⟨u, q, rfl, ef, k1, k2, k3, k4, k5, k6, k7, k8, _⟩ := g.free e
  have eA : a.takeA u = a.take u q := by unfold Ab.takeA; rw [if_pos e, ef]; rfl
  have eV : a.takeV u = ga u q (a.cls u) := by unfold Ab.takeV; rw [if_pos e, ef, k4]
  rw [eA] at hx
  obtain ⟨s, p, h1, h2, h7, h5, h4, h6⟩ := (Ab.is_iff (g.take (s := u) (p := q) k3 k6).ok x).1 hx
  have h4' : (upd a.tk u (a.tk u ||| 2 ^ q) s).testBit p = true := h4
  by_cases es : s = u
  · subst es
    rw [upd_same, testBit_or_pow] at h4'
    by_cases ep : p = q
    · subst ep; exact Or.inl (h6.trans eV.symm)
    · refine Or.inr ((Ab.is_iff g.ok x).2 ⟨s, p, h1, h2, h7, h5, ?_, h6⟩)
      simpa [ep, Ne.symm ep] using h4'
  · rw [upd_other _ _ es] at h4'
    exact Or.inr ((Ab.is_iff g.ok x).2 ⟨s, p, h1, h2, h7, h5, h4', h6⟩)
theorem ox_set {a : Ab} (g : a.Good) {x : Int} {j : Nat} {c : Int} (j1 : 1 ≤ j) (hj : a.cls j < 0) (h0 : 0 ≤ c) (h5 : c ≤ 5) (hx : (a.set j c).is x = true) : a.is x = true := by
  obtain ⟨s, p, h1, h2, h7, h5', h4, h6⟩ := (Ab.is_iff (g.set (s := j) (c := c) j1 h0 h5).ok x).1 hx
  have h4' : (upd a.tk j 0 s).testBit p = true := h4
  by_cases es : s = j
  · subst es; rw [upd_same] at h4'; simp at h4'
  · rw [upd_other _ _ es] at h4'
    have ec : (a.set j c).cls s = a.cls s := upd_other _ _ es
    rw [ec] at h7 h5' h6
    exact (Ab.is_iff g.ok x).2 ⟨s, p, h1, h2, h7, h5', h4', h6⟩
/-- A heap with room: so many spans are used at most. -/
structure Rm (al : Al) (N i : Nat) : Prop where
  good : al.a.Good
  calm : al.Calm
  n : al.a.n = N
  free : ∀ s : Nat, i < s → s < N → al.a.cls s < 0
theorem Rm.take {al : Al} {N i : Nat} (h : Rm al N i) (hi : i + 1 < N) {n : Int} (h1 : 1 ≤ n) (h2 : n ≤ 64) :
    ∃ al' v, al.take n = (al', v, 0) ∧ Rm al' N (i + 1) ∧ Nx al.a al'.a v n ∧ (∀ x, al.a.is x = true → Kx al.a al'.a x) ∧ ∀ x, al'.a.is x = true → x = v ∨ al.a.is x = true := by
  obtain ⟨f1, f2⟩ := gc_fitC h1 h2
  have cm := take_calm h.calm n
  have nn := h.n
  rcases take_ways h.calm f1 with ⟨j, j1, j2, j3, j4, e⟩ | ⟨_, ⟨j, j1, j2, j3, j4, e⟩ | ⟨j1, _⟩⟩
  · rw [e] at cm
    refine ⟨_, _, e, ⟨h.good.takeA _, cm, (Ab.takeA_n _ _).trans nn, fun s s1 s2 => ?_⟩, Nx.take h.good j4 (by rw [j3]; exact f2), fun x hx => Kx.take h.good hx j4, fun x hx => ox_take h.good j4 hx⟩
    have : (al.a.takeA j).cls = al.a.cls := by unfold Ab.takeA; split <;> rfl
    show (al.a.takeA j).cls s < 0
    rw [this]
    exact h.free s (by omega) s2
  · rw [e] at cm
    obtain ⟨_, t2, _⟩ := first_ok (l := al) j1 j2 j3 f1 (gc_r n).2
    have g' := h.good.set (s := j) (c := gc n) j1 f1 (gc_r n).2
    have hji : j ≤ i + 1 := by
      rcases Nat.lt_or_ge (i + 1) j with hh | hh
      · have := j4 (i + 1) (by omega) hh
        have := h.free (i + 1) (by omega) (by omega)
        omega
      · exact hh
    refine ⟨_, _, e, ⟨g'.takeA _, cm, (Ab.takeA_n _ _).trans nn, fun s s1 s2 => ?_⟩, ?_, fun x hx => (Kx.set h.good hx j1 j3 f1 (gc_r n).2).trans (Kx.take g' (Kx.set h.good hx j1 j3 f1 (gc_r n).2).is t2), fun x hx => (ox_take g' t2 hx).imp id (ox_set h.good j1 j3 f1 (gc_r n).2)⟩
    · have : ((al.a.set j (gc n)).takeA j).cls = (al.a.set j (gc n)).cls := by unfold Ab.takeA; split <;> rfl
      show ((al.a.set j (gc n)).takeA j).cls s < 0
      rw [this]
      show upd al.a.cls j (gc n) s < 0
      rw [upd_other _ _ (by omega)]
      exact h.free s (by omega) s2
    · have hc : (al.a.set j (gc n)).clsI j = gc n := by rw [Ab.clsI_at _ j1 (show j < (al.a.set j (gc n)).n from j2)]; exact upd_same _ _ _
      have N1 := Nx.take g' t2 (n := n) (by rw [hc]; exact f2)
      refine ⟨N1.is, ?_, N1.pos, N1.fit, N1.zero⟩
      cases hv : al.a.is ((al.a.set j (gc n)).takeV j)
      · rfl
      · have := (Kx.set h.good hv j1 j3 f1 (gc_r n).2).is
        rw [N1.no] at this
        cases this
  · have := j1 (i + 1) (by omega) (by omega)
    have := h.free (i + 1) (by omega) (by omega)
    omega
theorem Rm.write {al : Al} {N i : Nat} (h : Rm al N i) (x k v : Int) : Rm ⟨al.a.writeA x k v, al.u⟩ N i := by
  refine ⟨h.good.writeA x k v, h.calm, (Ab.writeA_n _ _ _ _).trans h.n, fun s s1 s2 => ?_⟩
  have : (al.a.writeA x k v).cls = al.a.cls := by unfold Ab.writeA; split <;> rfl
  show (al.a.writeA x k v).cls s < 0
  rw [this]
  exact h.free s s1 s2
theorem rm0 {N : Nat} (h8 : 8 ≤ N) (h5 : N ≤ 512) : Rm (al0 N) N 0 := ⟨ab0_good h8 h5, fun _ => rfl, rfl, fun _ _ _ => by show (-1 : Int) < 0; decide⟩
end Go.Proofs.YtgflkpccddfalaaGreatDoor

/- PLAIN: what is shaded is marked; all spans are swept: what is marked is left. -/
namespace Go.Proofs.YtgflkpccddfalaaGreatDoor
set_option maxRecDepth 100000

/-- Nothing but marks. -/
def Sm (a b : Ab) : Prop := b.n = a.n ∧ b.cls = a.cls ∧ b.tk = a.tk ∧ b.wd = a.wd
theorem Sm.refl (a : Ab) : Sm a a := ⟨rfl, rfl, rfl, rfl⟩
theorem Sm.trans {a b c : Ab} (h : Sm a b) (k : Sm b c) : Sm a c := ⟨k.1.trans h.1, k.2.1.trans h.2.1, k.2.2.1.trans h.2.2.1, k.2.2.2.trans h.2.2.2⟩
theorem Sm.clsI {a b : Ab} (h : Sm a b) (s : Int) : b.clsI s = a.clsI s := by unfold Ab.clsI; rw [h.1, h.2.1]
theorem Sm.is {a b : Ab} (h : Sm a b) (x : Int) : b.is x = a.is x := by unfold Ab.is; rw [h.clsI, h.2.2.1]
theorem Sm.flds {a b : Ab} (h : Sm a b) (T : List (Int × Nat)) (x : Int) : b.flds T x = a.flds T x := by unfold Ab.flds; rw [h.is, h.clsI, h.2.2.2]
theorem good_markA {a : Ab} (g : a.Good) (x : Int) : (a.markA x).Good := g.markA x
theorem shades_ok : ∀ (l : List Int) (M : Ms), M.al.a.Good → l.Nodup → (∀ y ∈ l, M.al.a.is y = true ∧ M.al.a.isM y = false) →
    (M.shades l).al.a.Good ∧ (M.shades l).al.u = M.al.u ∧ (M.shades l).T = M.T ∧ (M.shades l).g = M.g ++ l ∧ Sm M.al.a (M.shades l).al.a ∧ ∀ y, M.al.a.is y = true → (M.shades l).al.a.isM y = (M.al.a.isM y || decide (y ∈ l))
  | [], M, g, _, _ => ⟨g, rfl, rfl, by simp [Ms.shades], Sm.refl _, fun y _ => by simp [Ms.shades]⟩
  | x :: r, M, g, hn, hl => by
    obtain ⟨hx, hr⟩ := List.nodup_cons.1 hn
    obtain ⟨x1, x2⟩ := hl x (by simp)
    have hb : M.al.a.markB x = true := by unfold Ab.markB; rw [x1, x2]; rfl
    have g1 : (M.shade x).al.a.Good := g.markA x
    have s1 : Sm M.al.a (M.shade x).al.a := markA_same M.al.a x
    have m1 : ∀ y, M.al.a.is y = true → (M.shade x).al.a.isM y = (M.al.a.isM y || decide (y = x)) := fun y hy => markA_isM g hb hy
    obtain ⟨a1, a2, a3, a4, a5, a6⟩ := shades_ok r (M.shade x) g1 hr (fun y hy => by
      obtain ⟨y1, y2⟩ := hl y (by simp [hy])
      refine ⟨(s1.is y).trans y1, ?_⟩
      rw [m1 y y1, y2]
      have : ¬ y = x := fun e => hx (by rw [← e]; exact hy)
      simp [this])
    unfold Ms.shades
    refine ⟨a1, a2, a3, ?_, s1.trans a5, fun y hy => ?_⟩
    · rw [a4]
      have : (M.shade x).g = M.g ++ [x] := by unfold Ms.shade; simp only; rw [if_pos hb]
      rw [this]
      simp
    · rw [a6 y ((s1.is y).trans hy), m1 y hy]
      by_cases e : y = x
      · simp [e]
      · simp [e]
/-! ### sweeping -/
theorem isM_at {a : Ab} (g : a.Good) {s p : Nat} (h1 : 1 ≤ s) (h2 : s < a.n) (h3 : 0 ≤ a.cls s) (h4 : (p : Int) < gp (a.cls s)) : a.isM (ga s p (a.cls s)) = (a.mr s).testBit p ∧ gs (ga s p (a.cls s)) = s := by
  have n1 := g.ok.n1
  obtain ⟨_, e1, e2, _⟩ := ga_at (s := s) (p := p) h1 (by omega) h3 (g.ok.cr s).2 h4
  refine ⟨?_, e1⟩
  unfold Ab.isM Ab.pl
  rw [e1, a.clsI_at h1 h2, e2, (a.I_at h1 h2).2.2]
  simp
theorem sweep_parts {a : Ab} {t : Nat} (h1 : 1 ≤ t) (h2 : t < a.n) (h3 : 0 ≤ a.cls t) : a.sweepA t = a.sweep t := by
  unfold Ab.sweepA
  rw [if_pos (by rw [a.clsI_at h1 h2]; exact h3)]
  rfl
theorem sweep_is {a : Ab} (g : a.Good) {t : Nat} (h1 : 1 ≤ t) (h2 : t < a.n) (h3 : 0 ≤ a.cls t) (x : Int) : ((a.sweepA t).is x = true ↔ a.is x = true ∧ (gs x = t → a.isM x = true)) ∧ ((a.sweepA t).is x = true → (a.sweepA t).isM x = a.isM x) := by
  have g' := g.sweepA t
  have eS := sweep_parts h1 h2 h3
  have cs : ∀ s, s ≠ t → (a.sweepA t).cls s = a.cls s ∧ (a.sweepA t).tk s = a.tk s ∧ (a.sweepA t).mr s = a.mr s := fun s hs => by
    rw [eS]
    refine ⟨?_, upd_other _ _ hs, ?_⟩
    · show (if a.kept t = 0 then upd a.cls t (-1) else a.cls) s = a.cls s
      split
      · exact upd_other _ _ hs
      · rfl
    · show (if a.kept t = 0 then upd a.mr t 0 else a.mr) s = a.mr s
      split
      · exact upd_other _ _ hs
      · rfl
  have ct : 0 ≤ (a.sweepA t).cls t → (a.sweepA t).cls t = a.cls t ∧ (a.sweepA t).mr t = a.mr t := fun h0 => by
    rw [eS] at h0 ⊢
    have h0' : 0 ≤ (if a.kept t = 0 then upd a.cls t (-1) else a.cls) t := h0
    by_cases e : a.kept t = 0
    · rw [if_pos e, upd_same] at h0'
      omega
    · exact ⟨by show (if a.kept t = 0 then upd a.cls t (-1) else a.cls) t = a.cls t; rw [if_neg e], by show (if a.kept t = 0 then upd a.mr t 0 else a.mr) t = a.mr t; rw [if_neg e]⟩
  have tt : (a.sweepA t).tk t = a.kept t := by rw [eS]; exact upd_same _ _ _
  have nn : (a.sweepA t).n = a.n := a.sweepA_n t
  have to_ : (a.sweepA t).is x = true → (a.is x = true ∧ (gs x = t → a.isM x = true)) ∧ (a.sweepA t).isM x = a.isM x := fun hx => by
    obtain ⟨s, p, k1, k2, k3, k4, k5, rfl⟩ := (Ab.is_iff g'.ok x).1 hx
    rw [nn] at k2
    by_cases e : s = t
    · subst e
      obtain ⟨c1, c2⟩ := ct k3
      rw [tt, kept_bit] at k5
      simp only [Bool.and_eq_true] at k5
      have m' := (isM_at g' k1 (by rw [nn]; exact k2) k3 k4).1
      rw [c1] at k4 k3 m' ⊢
      have m := isM_at g k1 k2 k3 k4
      refine ⟨⟨(Ab.is_iff g.ok _).2 ⟨s, p, k1, k2, k3, k4, k5.1, rfl⟩, fun _ => by rw [m.1]; exact k5.2⟩, ?_⟩
      rw [m', c2, m.1]
    · obtain ⟨c1, c2, c3⟩ := cs s e
      rw [c2] at k5
      have m' := (isM_at g' k1 (by rw [nn]; exact k2) k3 k4).1
      rw [c1] at k4 k3 m' ⊢
      have m := isM_at g k1 k2 k3 k4
      refine ⟨⟨(Ab.is_iff g.ok _).2 ⟨s, p, k1, k2, k3, k4, k5, rfl⟩, fun h => absurd (by rw [m.2] at h; exact Int.ofNat_inj.1 h) e⟩, ?_⟩
      rw [m', c3, m.1]
  refine ⟨⟨fun hx => (to_ hx).1, fun ⟨hx, hm⟩ => ?_⟩, fun hx => (to_ hx).2⟩
  obtain ⟨s, p, k1, k2, k3, k4, k5, rfl⟩ := (Ab.is_iff g.ok x).1 hx
  have m := isM_at g k1 k2 k3 k4
  by_cases e : s = t
  · subst e
    have hb := hm m.2
    rw [m.1] at hb
    have kb : (a.kept s).testBit p = true := by rw [kept_bit, k5, hb]; rfl
    have kz : ¬ a.kept s = 0 := fun e => by rw [e] at kb; simp at kb
    have c1 : (a.sweepA s).cls s = a.cls s := by rw [eS]; show (if a.kept s = 0 then upd a.cls s (-1) else a.cls) s = a.cls s; rw [if_neg kz]
    exact (Ab.is_iff g'.ok _).2 ⟨s, p, k1, by rw [nn]; exact k2, by rw [c1]; exact k3, by rw [c1]; exact k4, by rw [tt]; exact kb, by rw [c1]⟩
  · obtain ⟨c1, c2, c3⟩ := cs s e
    exact (Ab.is_iff g'.ok _).2 ⟨s, p, k1, by rw [nn]; exact k2, by rw [c1]; exact k3, by rw [c1]; exact k4, by rw [c2]; exact k5, by rw [c1]⟩
theorem sweep_cls (a : Ab) (t : Int) (s : Nat) : (a.sweepA t).cls s = a.cls s ∨ (a.sweepA t).cls s = -1 := by
  unfold Ab.sweepA
  split
  · show (if a.kept t.toNat = 0 then upd a.cls t.toNat (-1) else a.cls) s = a.cls s ∨ (if a.kept t.toNat = 0 then upd a.cls t.toNat (-1) else a.cls) s = -1
    split
    · by_cases e : s = t.toNat
      · subst e; rw [upd_same]; exact Or.inr rfl
      · rw [upd_other _ _ e]; exact Or.inl rfl
    · exact Or.inl rfl
  · exact Or.inl rfl
theorem sweep_wd (a : Ab) (t : Int) : (a.sweepA t).wd = a.wd := by unfold Ab.sweepA; split <;> rfl
end Go.Proofs.YtgflkpccddfalaaGreatDoor

/- PLAIN: a whole collection from off, where nothing that is held leads anywhere. -/
namespace Go.Proofs.YtgflkpccddfalaaGreatDoor
set_option maxRecDepth 100000

/-- What a collection's end has kept of its beginning. -/
structure Cw (C C2 : Cy) : Prop where
  ph : C2.ph = 0
  bk : C2.bk = C.bk
  T : C2.M.T = C.M.T
  dn : C2.done = C.done + 1
  good : C2.M.al.a.Good
  calm : C2.M.al.Calm
  n : C2.M.al.a.n = C.M.al.a.n
  wd : C2.M.al.a.wd = C.M.al.a.wd
  cls : ∀ s, C2.M.al.a.cls s = C.M.al.a.cls s ∨ C2.M.al.a.cls s = -1
theorem is_pos {a : Ab} (g : a.Good) {x : Int} (h : a.is x = true) : 1 ≤ gs x := by
  obtain ⟨s, p, h1, _, _, _, _, e, _⟩ := where_is g h
  omega
theorem sweep_runs (R : Rt) : ∀ (k : Nat) (C : Cy), C.ph = 3 → C.Fits → C.M.g = [] → C.M.al.a.Good → unsN C.M.al.u C.M.al.a.n ≤ k → (∀ s, C.M.al.u s = true → 1 ≤ s ∧ s < C.M.al.a.n ∧ 0 ≤ C.M.al.a.cls s) →
    ∃ J, C.Runs R J ∧ Cw C (C.stepsC R J) ∧ (C.stepsC R J).M.g = [] ∧ ∀ x, (C.stepsC R J).M.al.a.is x = true ↔ C.M.al.a.is x = true ∧ (C.M.al.u (gs x).toNat = true → C.M.al.a.isM x = true) := by
  intro k
  induction k with
  | zero =>
    intro C h3 hf hg g hk hu
    have hno : leastU C.M.al.u C.M.al.a.n 0 = none := by
      rcases e : leastU C.M.al.u C.M.al.a.n 0 with _ | s
      · rfl
      · obtain ⟨_, s2, s3, _⟩ := leastU_some _ _ _ _ e
        have := unsN_upd C.M.al.u s3 C.M.al.a.n
        rw [if_pos (by omega)] at this
        omega
    have allF := leastU_none _ _ _ hno
    have calm : C.M.al.Calm := fun s => by
      cases e : C.M.al.u s
      · rfl
      · have := (hu s e).2.1
        have := allF s (by omega) (by omega)
        rw [e] at this
        cases this
    have eS : C.stepC R = { C with M := ⟨C.M.al, C.M.T, C.M.g⟩, ph := 0, done := C.done + 1, kept := max (C.M.al.a.used C.M.al.a.n) 64 } := by
      unfold Cy.stepC
      rw [if_neg (by omega), if_neg (by omega), if_pos h3]
      unfold Cy.sweepC Al.sweepOne
      rw [hno]
      rfl
    refine ⟨1, Cy.Runs.cons (Or.inr (Or.inr h3)) hf ⟨fun j hj => absurd hj (Nat.not_lt_zero _), by rw [eS]; rfl, fun j hj => absurd hj (Nat.not_lt_zero _)⟩, ?_⟩
    show Cw C (C.stepC R) ∧ _
    have e1 : C.stepsC R 1 = C.stepC R := rfl
    rw [e1, eS]
    exact ⟨⟨rfl, rfl, rfl, rfl, g, calm, rfl, rfl, fun _ => Or.inl rfl⟩, hg, fun x => ⟨fun h => ⟨h, fun h2 => by rw [calm] at h2; cases h2⟩, fun h => h.1⟩⟩
  | succ k ih =>
    intro C h3 hf hg g hk hu
    rcases e : leastU C.M.al.u C.M.al.a.n 0 with _ | s
    · have hz : unsN C.M.al.u C.M.al.a.n ≤ 0 := by
        have := unsN_zero C.M.al.u C.M.al.a.n (fun t ht => leastU_none _ _ _ e t (by omega) (by omega))
        omega
      have allF := leastU_none _ _ _ e
      have calm : C.M.al.Calm := fun s => by
        cases e : C.M.al.u s
        · rfl
        · have := (hu s e).2.1
          have := allF s (by omega) (by omega)
          rw [e] at this
          cases this
      have eS : C.stepC R = { C with M := ⟨C.M.al, C.M.T, C.M.g⟩, ph := 0, done := C.done + 1, kept := max (C.M.al.a.used C.M.al.a.n) 64 } := by
        unfold Cy.stepC
        rw [if_neg (by omega), if_neg (by omega), if_pos h3]
        unfold Cy.sweepC Al.sweepOne
        rw [e]
        rfl
      refine ⟨1, Cy.Runs.cons (Or.inr (Or.inr h3)) hf ⟨fun j hj => absurd hj (Nat.not_lt_zero _), by rw [eS]; rfl, fun j hj => absurd hj (Nat.not_lt_zero _)⟩, ?_⟩
      have e1 : C.stepsC R 1 = C.stepC R := rfl
      rw [e1, eS]
      exact ⟨⟨rfl, rfl, rfl, rfl, g, calm, rfl, rfl, fun _ => Or.inl rfl⟩, hg, fun x => ⟨fun h => ⟨h, fun h2 => by rw [calm] at h2; cases h2⟩, fun h => h.1⟩⟩
    · obtain ⟨_, s2, s3, _⟩ := leastU_some _ _ _ _ e
      obtain ⟨u1, u2, u3⟩ := hu s s3
      have eS : C.stepC R = { C with M := ⟨C.M.al.sweep s, C.M.T, C.M.g⟩ } := by
        unfold Cy.stepC
        rw [if_neg (by omega), if_neg (by omega), if_pos h3]
        unfold Cy.sweepC Al.sweepOne
        rw [e]
        rfl
      have nn : (C.M.al.sweep s).a.n = C.M.al.a.n := C.M.al.a.sweepA_n s
      have hun := unsN_upd C.M.al.u s3 C.M.al.a.n
      rw [if_pos (by omega)] at hun
      obtain ⟨J, r1, r2, r3, r4⟩ := ih ({ C with M := ⟨C.M.al.sweep s, C.M.T, C.M.g⟩ } : Cy) h3 ⟨hf.g, hf.b, hf.d⟩ hg (g.sweepA s) (by
        show unsN (upd C.M.al.u s false) (C.M.al.sweep s).a.n ≤ k
        rw [nn]
        omega) (fun t ht => by
        have ht' : upd C.M.al.u s false t = true := ht
        by_cases et : t = s
        · subst et; rw [upd_same] at ht'; cases ht'
        · rw [upd_other _ _ et] at ht'
          obtain ⟨v1, v2, v3⟩ := hu t ht'
          refine ⟨v1, by show t < (C.M.al.sweep s).a.n; rw [nn]; exact v2, ?_⟩
          show 0 ≤ (C.M.al.a.sweepA s).cls t
          rw [sweep_parts u1 u2 u3]
          show 0 ≤ (if C.M.al.a.kept s = 0 then upd C.M.al.a.cls s (-1) else C.M.al.a.cls) t
          split
          · rw [upd_other _ _ et]; exact v3
          · exact v3)
      rw [← eS] at r1 r2 r3 r4
      refine ⟨J + 1, Cy.Runs.cons (Or.inr (Or.inr h3)) hf r1, ?_⟩
      rw [← stepsC_succ]
      refine ⟨⟨r2.ph, r2.bk.trans (by rw [eS]), r2.T.trans (by rw [eS]), r2.dn.trans (by rw [eS]), r2.good, r2.calm, r2.n.trans (by rw [eS]; exact nn), r2.wd.trans (by rw [eS]; exact sweep_wd _ _), fun t => ?_⟩, r3, fun x => ?_⟩
      · have h1 := r2.cls t
        have h2 : (C.stepC R).M.al.a.cls t = C.M.al.a.cls t ∨ (C.stepC R).M.al.a.cls t = -1 := by rw [eS]; exact sweep_cls _ _ _
        rcases h1 with h1 | h1
        · rw [h1]; exact h2
        · exact Or.inr h1
      · rw [r4 x]
        have hM : (C.stepC R).M.al.a = C.M.al.a.sweepA s := by rw [eS]; rfl
        have hU : (C.stepC R).M.al.u = upd C.M.al.u s false := by rw [eS]; rfl
        rw [hM, hU]
        obtain ⟨k1, k2⟩ := sweep_is g u1 u2 u3 x
        constructor
        · rintro ⟨h1, h2⟩
          have h3' := k1.1 h1
          refine ⟨h3'.1, fun hu' => ?_⟩
          have hp := is_pos g h3'.1
          by_cases es : (gs x).toNat = s
          · exact h3'.2 (by omega)
          · rw [← k2 h1]
            exact h2 (by rw [upd_other _ _ es]; exact hu')
        · rintro ⟨h1, h2⟩
          have hp := is_pos g h1
          have h3' : (C.M.al.a.sweepA s).is x = true := k1.2 ⟨h1, fun es => h2 (by rw [es, Int.toNat_natCast]; exact s3)⟩
          refine ⟨h3', fun hu' => ?_⟩
          rw [k2 h3']
          by_cases es : (gs x).toNat = s
          · exact h2 (by rw [es]; exact s3)
          · rw [upd_other _ _ es] at hu'
            exact h2 hu'
/-- Things that lead nowhere are looked at, one by one; then all spans are swept. -/
theorem mark_runs (R : Rt) (hi : R.ids = []) : ∀ (l : List Int) (C : Cy), C.ph = 2 → C.Fits → C.M.g = l → C.M.al.a.Good → C.M.al.Calm → (∀ y ∈ l, C.M.flds y = []) →
    ∃ J, C.Runs R J ∧ Cw C (C.stepsC R J) ∧ (C.stepsC R J).M.g = [] ∧ ∀ x, (C.stepsC R J).M.al.a.is x = true ↔ C.M.al.a.is x = true ∧ C.M.al.a.isM x = true := by
  intro l
  induction l with
  | nil =>
    intro C h2 hf hg g calm hl
    have eS : C.stepC R = { C with M := ⟨C.M.al.stale, C.M.T, C.M.g⟩, ph := 3 } := by
      unfold Cy.stepC
      rw [if_neg (by omega), if_pos h2, hg, hi]
      rfl
    have hst : ∀ s, C.M.al.stale.u s = true ↔ 0 ≤ C.M.al.a.clsI s := fun s => by
      show (decide (0 ≤ C.M.al.a.clsI s) || C.M.al.u s) = true ↔ _
      rw [calm s]
      simp
    obtain ⟨J, r1, r2, r3, r4⟩ := sweep_runs R _ ({ C with M := ⟨C.M.al.stale, C.M.T, C.M.g⟩, ph := 3 } : Cy) rfl ⟨hf.g, hf.b, hf.d⟩ hg g (Nat.le_refl _) (fun s hs => by
      have h0 := (hst s).1 hs
      unfold Ab.clsI at h0
      split at h0
      · rename_i hh
        rw [Int.toNat_natCast] at h0
        exact ⟨by omega, by show s < C.M.al.a.n; omega, h0⟩
      · omega)
    rw [← eS] at r1 r2 r3 r4
    refine ⟨J + 1, Cy.Runs.cons (Or.inr (Or.inl h2)) hf r1, ?_⟩
    rw [← stepsC_succ]
    refine ⟨⟨r2.ph, r2.bk.trans (by rw [eS]), r2.T.trans (by rw [eS]), r2.dn.trans (by rw [eS]), r2.good, r2.calm, r2.n.trans (by rw [eS]; rfl), r2.wd.trans (by rw [eS]; rfl), fun t => (r2.cls t).imp (fun h => h.trans (by rw [eS]; rfl)) id⟩, r3, fun x => ?_⟩
    rw [r4 x]
    have hM : (C.stepC R).M.al.a = C.M.al.a := by rw [eS]; rfl
    have hU : (C.stepC R).M.al.u = C.M.al.stale.u := by rw [eS]
    rw [hM, hU]
    constructor
    · rintro ⟨h1, h2'⟩
      refine ⟨h1, h2' ((hst _).2 ?_)⟩
      obtain ⟨s, p, q1, q2, q3, q4, _, q6, _⟩ := where_is g h1
      rw [q6, Int.toNat_natCast, C.M.al.a.clsI_at q1 q2]
      exact q3
    · rintro ⟨h1, h2'⟩
      exact ⟨h1, fun _ => h2'⟩
  | cons y rs ih =>
    intro C h2 hf hg g calm hl
    have eM : C.M.step = ⟨C.M.al, C.M.T, rs⟩ := by
      unfold Ms.step
      rw [hg]
      simp only
      rw [hl y (by simp)]
      rfl
    have eS : C.stepC R = { C with M := ⟨C.M.al, C.M.T, rs⟩ } := by
      unfold Cy.stepC
      rw [if_neg (by omega), if_pos h2, hg]
      simp only
      rw [eM]
    obtain ⟨J, r1, r2, r3, r4⟩ := ih ({ C with M := ⟨C.M.al, C.M.T, rs⟩ } : Cy) h2 ⟨by have := hf.g; rw [hg, List.length_cons] at this; show rs.length ≤ 10000; omega, hf.b, hf.d⟩ rfl g calm (fun z hz => hl z (by simp [hz]))
    rw [← eS] at r1 r2 r3 r4
    refine ⟨J + 1, Cy.Runs.cons (Or.inr (Or.inl h2)) hf r1, ?_⟩
    rw [← stepsC_succ]
    refine ⟨⟨r2.ph, r2.bk.trans (by rw [eS]), r2.T.trans (by rw [eS]), r2.dn.trans (by rw [eS]), r2.good, r2.calm, r2.n.trans (by rw [eS]), r2.wd.trans (by rw [eS]), fun t => (r2.cls t).imp (fun h => h.trans (by rw [eS])) id⟩, r3, fun x => ?_⟩
    rw [r4 x, eS]
/-- A whole collection, from off, with no stacks. -/
theorem whole_runs (R : Rt) (hi : R.ids = []) (C : Cy) (h0 : C.ph = 0) (hg : C.M.g = []) (hd : 0 ≤ C.done ∧ C.done ≤ 1000000) (g : C.M.al.a.Good) (calm : C.M.al.Calm) (hn : R.g.Nodup) (hl : R.g.length ≤ 10000) (hx : ∀ y ∈ R.g, C.M.al.a.is y = true ∧ C.M.flds y = []) :
    ∃ J, (C.startC R).Runs R J ∧ Cw { C with bk := [] } ((C.startC R).stepsC R J) ∧ ((C.startC R).stepsC R J).M.g = [] ∧ ∀ x, ((C.startC R).stepsC R J).M.al.a.is x = true ↔ C.M.al.a.is x = true ∧ x ∈ R.g := by
  have eS : C.startC R = (({ C with M := ⟨⟨C.M.al.a.clear, C.M.al.u⟩, C.M.T, C.M.g⟩, ph := 1, bk := [] } : Cy)).shades R.g := if_pos h0
  have hm0 : ∀ x, C.M.al.a.clear.isM x = false := fun x => by
    unfold Ab.isM Ab.mrI
    split <;> simp [Ab.clear]
  have sm0 : Sm C.M.al.a C.M.al.a.clear := ⟨rfl, rfl, rfl, rfl⟩
  obtain ⟨a1, a2, a3, a4, a5, a6⟩ := shades_ok R.g ⟨⟨C.M.al.a.clear, C.M.al.u⟩, C.M.T, C.M.g⟩ g.clear hn (fun y hy => ⟨(sm0.is y).trans (hx y hy).1, hm0 y⟩)
  obtain ⟨M1, hM1⟩ : ∃ M1, M1 = Ms.shades ⟨⟨C.M.al.a.clear, C.M.al.u⟩, C.M.T, C.M.g⟩ R.g := ⟨_, rfl⟩
  rw [← hM1] at a1 a2 a3 a4 a5 a6
  have a5' : Sm C.M.al.a M1.al.a := sm0.trans a5
  have a4' : M1.g = R.g := by rw [a4, hg]; rfl
  have eS2 : C.startC R = { C with M := M1, ph := 1, bk := [] } := by rw [eS, hM1]; rfl
  have eT : ({ C with M := M1, ph := 1, bk := [] } : Cy).stepC R = { C with M := M1, ph := 2, bk := [] } := by
    unfold Cy.stepC
    rw [if_pos rfl, hi]
    rfl
  have fl : ∀ y ∈ R.g, M1.flds y = [] := fun y hy => by
    have : M1.flds y = C.M.flds y := by unfold Ms.flds; rw [a5'.flds, a3]
    rw [this]
    exact (hx y hy).2
  obtain ⟨J, r1, r2, r3, r4⟩ := mark_runs R hi R.g ({ C with M := M1, ph := 2, bk := [] } : Cy) rfl ⟨by show M1.g.length ≤ 10000; rw [a4']; exact hl, by simp, hd⟩ a4' a1 (fun s => by show M1.al.u s = false; rw [a2]; exact calm s) fl
  rw [eS2]
  rw [← eT] at r1 r2 r3 r4
  refine ⟨J + 1, Cy.Runs.cons (Or.inl rfl) ⟨by show M1.g.length ≤ 10000; rw [a4']; exact hl, by simp, hd⟩ r1, ?_⟩
  rw [← stepsC_succ]
  refine ⟨⟨r2.ph, r2.bk.trans (by rw [eT]), r2.T.trans (by rw [eT]; exact a3), r2.dn.trans (by rw [eT]), r2.good, r2.calm, r2.n.trans (by rw [eT]; exact a5'.1), r2.wd.trans (by rw [eT]; exact a5'.2.2.2), fun t => (r2.cls t).imp (fun h => h.trans (by rw [eT]; show M1.al.a.cls t = _; rw [a5'.2.1])) id⟩, r3, fun x => ?_⟩
  rw [r4 x, eT]
  show M1.al.a.is x = true ∧ M1.al.a.isM x = true ↔ _
  rw [a5'.is]
  constructor
  · rintro ⟨h1, h2⟩
    have := a6 x ((sm0.is x).trans h1)
    rw [h2] at this
    have h3 : (C.M.al.a.clear.isM x || decide (x ∈ R.g)) = true := this.symm
    rw [hm0] at h3
    simpa [h1] using h3
  · rintro ⟨h1, h2⟩
    refine ⟨h1, ?_⟩
    rw [a6 x ((sm0.is x).trans h1)]
    simp [h2]
end Go.Proofs.YtgflkpccddfalaaGreatDoor
