/- The contract of a Table's Number. -/
import Derived.Test.YtgflkpccddfalaaGreatDoorHeadTab2
namespace Go.Proofs.YtgflkpccddfalaaGreatDoor.Hd
set_option maxRecDepth 100000
open Go.RowKit Go.Maps Go.ChangeShapes Go.WideShapes Go.ChangeAt Go.Deep

/-- append onto a row of the call's own, as one step of a region that draws its order. -/
theorem step_append_at {P : Program} {ops : Array Oper} {o : Oper} {a : Act} {w : World} {K : Act → World → Prop} {Q : Exit → Act → World → Prop} {E : Prop}
    (hg : o.guard = none) (s x : Operand) (t : TypeId) (hop : o.op = Op.call { callee := Callee.builtin Builtin.append, args := #[s, x], argTypes := #[t, t] })
    (base : Nat) (e : TypeId) (i : TypeInfo) (z : Value) (size bytes : Nat) (h1 : P.underlying t = some (.slice e)) (h2 : P.info? e = some i) (h3 : i.zero = some z) (h4 : i.size = size) (h5 : i.bytes = bytes) (h6 : z.cells.size = size) (h7 : 0 < size)
    (ao : Option Addr) (n cap : Nat) (xs : List Value) (hs : a.eval s = .slice ao n cap) (hown : w.ownsRow base e size (.slice ao n cap) n xs)
    (ad : Addr) (m c : Nat) (news : List Value) (hx : a.eval x = .slice (some ad) m c) (hn : news.length = m * size) (hc : ∀ j u, news[j]? = some u → w.cell? (ad.add j) = some u) (h1c : ∀ u ∈ news, u.oneCell' = true)
    (hm : 0 < m) (b1 : n + m ≤ maxLen) (b2 : (n + m) * bytes ≤ 140737488355328) (hbase : base ≤ w.heap.size)
    (hK : ∀ g cap' w', w'.ownsRow base e size (.slice (some ⟨g, 0, none⟩) (n + m) cap') (n + m) (xs ++ news) → w.grownBy w' (Value.ownBlock (.slice ao n cap)) → (ao = some ⟨g, 0, none⟩ ∨ g = w.heap.size) →
      K (a.put o.dst (.slice (some ⟨g, 0, none⟩) (n + m) cap')) w') :
    if Region.wanted o (yielded ops a.tmps) = true then Oper.wp P o a w K Q else E := by
  have hw : Region.wanted o (yielded ops a.tmps) = true := by simp [Region.wanted, hg]
  rw [if_pos hw]
  obtain ⟨v', w', hrun, r1, r2, _, r4⟩ := run_append_own_at (P := P) w base t o.type e i z size bytes h1 h2 h3 h4 h5 h6 h7 (.slice ao n cap) n xs hown ad m c news hn hc h1c b1 b2 hbase
  rcases r1.2 with ⟨_, h0⟩ | ⟨g, cap', cur, rfl, _⟩
  · omega
  · unfold Oper.wp
    simp [execOp, hop, resolve, invoke, builtin, hs, hx, hrun, Result.andThen]
    refine hK g cap' w' r1 r2 ?_
    rcases r4 with r4 | r4
    · left
      rcases hown.2 with ⟨e1, _⟩ | ⟨g0, c0, cur0, e1, _⟩
      · injection e1 with e1
        subst e1
        simp [Value.ownBlock] at r4
      · injection e1 with e1
        subst e1
        simp [Value.ownBlock] at r4
        rw [r4]
    · right
      simpa [Value.ownBlock] using r4

theorem info_shape : (Tryz.prog.info? 59).map (fun i => (i.zero, i.size, i.bytes)) = some (some (.agg #[.int .i64 0, .int .i64 0, .int .u64 0]), 3, 24) := by kernel_rfl
theorem zero_int (w : World) : (zeroValue 3).run Tryz.prog w = .ok (.int .i64 0) w := by kernel_rfl

set_option maxHeartbeats 400000 in
theorem number_bad (w : World) (tb : Nat) (s : Shp) (hg : goodB s.k s.f s.m = false) :
    Calls Tryz.prog 24 #[.pointer (some ⟨tb, 0, none⟩), .agg #[.int .i64 s.k, .int .i64 s.f, .int .u64 (s.m : Int)]] w fun e w' => e = .returned (.tuple #[.int .i64 0, .int .i64 1]) ∧ G w w' := by
  go_enter Tryz.func24, Tryz.ntmps24
  go_wp2_with (go_at_call 22; refine (good_any _ _ _ _).mono ?_; rintro e w' ⟨rfl, rfl⟩)
  go_ret2
  exact ⟨rfl, by go_grown⟩

set_option maxHeartbeats 400000 in
theorem number_old (w : World) (tb mb : Nat) (s : Shp) (c : Int) (hg : goodB s.k s.f s.m = true) (c0 : w.cell? ⟨tb, 0, none⟩ = some (.map (some mb)))
    (hl : ∀ k, (Instr.lookup 100 (.map (some mb)) (.agg #[.int .i64 s.k, .int .i64 s.f, .int .u64 (s.m : Int)]) true).run Tryz.prog (((w.alloc (.cells #[.int .i64 s.k, .int .i64 s.f, .int .u64 (s.m : Int)] 59)).alloc (.cells #[.int .i64 s.k, .int .i64 s.f, .int .u64 (s.m : Int)] 59)).drewN k) =
      .ok (.tuple #[.int .i64 c, .bool true]) (((w.alloc (.cells #[.int .i64 s.k, .int .i64 s.f, .int .u64 (s.m : Int)] 59)).alloc (.cells #[.int .i64 s.k, .int .i64 s.f, .int .u64 (s.m : Int)] 59)).drewN k)) :
    Calls Tryz.prog 24 #[.pointer (some ⟨tb, 0, none⟩), .agg #[.int .i64 s.k, .int .i64 s.f, .int .u64 (s.m : Int)]] w fun e w' => e = .returned (.tuple #[.int .i64 c, .int .i64 0]) ∧ G w w' := by
  have htb : tb < w.heap.size := World.block_lt_of_cell? w _ c0
  go_enter Tryz.func24, Tryz.ntmps24
  go_wp2_with (go_at_call 22; refine (good_any _ _ _ _).mono ?_; rintro e w' ⟨rfl, rfl⟩)
  go_quiet (fail)
  go_wp2_with fail
  go_ret2
  exact ⟨rfl, below_drewN (by go_grown) _⟩

/-- What the walk of Number meets on its way, behind the two boxes. -/
def boxed (w : World) (s : Shp) : World := (w.alloc (.cells #[.int .i64 s.k, .int .i64 s.f, .int .u64 (s.m : Int)] 59)).alloc (.cells #[.int .i64 s.k, .int .i64 s.f, .int .u64 (s.m : Int)] 59)

theorem boxed_G (w : World) (s : Shp) (k : Nat) : G w ((boxed w s).drewN k) := below_drewN (by unfold boxed; go_grown) _

theorem look_at {w : World} {B tb mb : Nat} {ao : Option Addr} {cap : Nat} {l : List Shp} (h : TabAt w B tb mb ao cap l) (s : Shp) (hs : s.Fit) :
    (Instr.lookup 100 (.map (some mb)) s.val true).run Tryz.prog w = .ok (.tuple #[.int .i64 (if s ∈ l then (l.idxOf s : Int) else 0), .bool (decide (s ∈ l))]) w := by
  obtain ⟨D, hown, hhas, hat⟩ := h.map
  obtain ⟨v, ps, hrun, hv⟩ := hown.look_ok keyed Tryz.underlying100 (zero_int w) (plainElem_int Tryz.underlying3 (by decide)) (keyOf_shp s hs w)
  rw [hrun, hhas s hs]
  by_cases hm : s ∈ l
  · rw [hat s hm] at hv
    obtain ⟨c, rfl, hc, _⟩ := plainElem_int_inv Tryz.underlying3 hv
    simp at hc
    rw [if_pos hm, hc.1]
  · have h0 : Maps.has D s.key = false := by rw [hhas s hs]; simpa using hm
    rw [atKey_of_not_has h0] at hv
    obtain ⟨c, rfl, hc, _⟩ := plainElem_int_inv Tryz.underlying3 hv
    simp at hc
    rw [if_neg hm, hc.1]

/-- What the world behind the map's update holds. -/
theorem bx_cells {w w1 : World} {s : Shp} {k mb : Nat} (hg : ((boxed w s).drewN k).grownBy w1 (some mb)) (hmb : mb < w.heap.size) :
    (w1.cell? ⟨w.heap.size, 0, none⟩ = some (.int .i64 s.k) ∧ w1.cell? ⟨w.heap.size, 1, none⟩ = some (.int .i64 s.f) ∧ w1.cell? ⟨w.heap.size, 2, none⟩ = some (.int .u64 (s.m : Int)) ∧ w.heap.size + 2 ≤ w1.heap.size) ∧
    ∀ b, b < w.heap.size → b ≠ mb → ∀ i, w1.cell? ⟨b, i, none⟩ = w.cell? ⟨b, i, none⟩ ∧ w1.frozen? ⟨b, i, none⟩ = w.frozen? ⟨b, i, none⟩ := by
  have hsz : ((boxed w s).drewN k).heap.size = w.heap.size + 2 := by
    show (boxed w s).heap.size = _
    unfold boxed
    rw [World.size_alloc, World.size_alloc]
  have hb : w1.heap[w.heap.size]? = some (.cells #[.int .i64 s.k, .int .i64 s.f, .int .u64 (s.m : Int)] 59 (0, 0)) := by
    rw [hg.block w.heap.size (by omega) (by simp; omega)]
    show (boxed w s).heap[w.heap.size]? = _
    unfold boxed
    rw [_root_.Go.heap_alloc_old _ _ (by rw [World.size_alloc]; omega)]
    exact heap_alloc_new w _
  refine ⟨⟨by simp [World.cell?, hb], by simp [World.cell?, hb], by simp [World.cell?, hb], by rw [← hsz]; exact hg.size⟩, fun b hb1 hb2 i => ?_⟩
  have e : w1.heap[b]? = w.heap[b]? := (hg.block b (by omega) (by simpa using hb2)).trans ((boxed_G w s k).block b hb1)
  exact ⟨World.cell?_of_block e, World.frozen?_of_block e⟩

/-- What Number leaves where the shape was new. -/
structure NumEnd (w w' : World) (B tb mb : Nat) (ao : Option Addr) (g cap n : Nat) (xs : List Value) (D : DataW Unit) : Prop where
  blk : w'.heap[tb]? = some (.cells #[.map (some mb), .slice (some ⟨g, 0, none⟩) (n + 1) cap] 102 (0, 0))
  row : w'.ownsRow B 59 3 (.slice (some ⟨g, 0, none⟩) (n + 1) cap) (n + 1) xs
  map : w'.ownsMap Tryz.prog 59 (plainElem Tryz.prog 3) mb (n + 1) D
  turn : Turn w w' tb mb ao
  lies : ao = some ⟨g, 0, none⟩ ∨ w.heap.size ≤ g

theorem setCell_same {w : World} {b i : Nat} {c : Array Value} {t : TypeId} {fr : Nat × Nat} (h : w.heap[b]? = some (.cells c t fr)) (v : Value) :
    (w.setCell ⟨b, i, none⟩ v).heap[b]? = some (.cells (c.setIfInBounds i v) t fr) := by
  simp [World.setCell, Array.getElem?_modify, h]

/-- Blocks in the world behind the append. -/
theorem app_block {w w1 w3 : World} {s : Shp} {k mb : Nat} {r : Option Nat} (hg1 : ((boxed w s).drewN k).grownBy w1 (some mb)) (hg3 : ((w1.alloc (.cells #[.int .i64 s.k, .int .i64 s.f, .int .u64 (s.m : Int)] 59)).drew).grownBy w3 r) :
    ∀ b, b < w.heap.size → b ≠ mb → some b ≠ r → w3.heap[b]? = w.heap[b]? := by
  intro b hb h1 h2
  have h0 : w.heap.size + 2 ≤ w1.heap.size := by
    have := hg1.size
    have hsz : ((boxed w s).drewN k).heap.size = w.heap.size + 2 := by
      show (boxed w s).heap.size = _
      unfold boxed
      rw [World.size_alloc, World.size_alloc]
    omega
  have e1 : w1.heap[b]? = w.heap[b]? := (hg1.block b (Nat.lt_of_lt_of_le hb (boxed_G w s k).size) (by simpa using h1)).trans ((boxed_G w s k).block b hb)
  have e2 : ((w1.alloc (.cells #[.int .i64 s.k, .int .i64 s.f, .int .u64 (s.m : Int)] 59)).drew).heap[b]? = w1.heap[b]? := by
    show (w1.alloc (.cells #[.int .i64 s.k, .int .i64 s.f, .int .u64 (s.m : Int)] 59)).heap[b]? = _
    exact _root_.Go.heap_alloc_old _ _ (by omega)
  have hs2 : ((w1.alloc (.cells #[.int .i64 s.k, .int .i64 s.f, .int .u64 (s.m : Int)] 59)).drew).heap.size = w1.heap.size + 1 := World.size_alloc _ _
  exact ((hg3.block b (by omega) h2).trans e2).trans e1

theorem number_fin {w w1 w3 : World} {B tb mb n cap k g cap3 : Nat} {ao : Option Addr} {s : Shp} {xs : List Value} {D : DataW Unit}
    (hblk : w.heap[tb]? = some (.cells #[.map (some mb), .slice ao n cap] 102 (0, 0))) (hne : tb ≠ mb) (hmb : mb < w.heap.size)
    (hnm : ∀ a, ao = some a → a.block ≠ mb) (hnt : ∀ a, ao = some a → a.block ≠ tb)
    (hg1 : ((boxed w s).drewN k).grownBy w1 (some mb)) (hown1 : w1.ownsMap Tryz.prog 59 (plainElem Tryz.prog 3) mb (n + 1) D)
    (hg3 : ((w1.alloc (.cells #[.int .i64 s.k, .int .i64 s.f, .int .u64 (s.m : Int)] 59)).drew).grownBy w3 (Value.ownBlock (.slice ao n cap)))
    (hr3 : w3.ownsRow B 59 3 (.slice (some ⟨g, 0, none⟩) (n + 1) cap3) (n + 1) xs) (hat : ao = some ⟨g, 0, none⟩ ∨ g = ((w1.alloc (.cells #[.int .i64 s.k, .int .i64 s.f, .int .u64 (s.m : Int)] 59)).drew).heap.size) :
    NumEnd w (w3.setCell ⟨tb, 1, none⟩ (.slice (some ⟨g, 0, none⟩) (n + 1) cap3)) B tb mb ao g cap3 n xs D := by
  have htb : tb < w.heap.size := (Array.getElem?_eq_some_iff.1 hblk).1
  have hs0 := (boxed_G w s k).size
  have hs1 := hg1.size
  have hs2 : ((w1.alloc (.cells #[.int .i64 s.k, .int .i64 s.f, .int .u64 (s.m : Int)] 59)).drew).heap.size = w1.heap.size + 1 := World.size_alloc _ _
  have hs3 := hg3.size
  have ob : ∀ b, some b = Value.ownBlock (.slice ao n cap) → ∃ a, ao = some a ∧ a.block = b := by
    intro b hb
    cases ao with
    | none => simp [Value.ownBlock] at hb
    | some a => exact ⟨a, rfl, by simpa [Value.ownBlock] using hb.symm⟩
  have e3 : w3.heap[tb]? = some (.cells #[.map (some mb), .slice ao n cap] 102 (0, 0)) :=
    (app_block hg1 hg3 tb htb hne (fun h => by obtain ⟨a, h1, h2⟩ := ob _ h; exact hnt a h1 h2)).trans hblk
  have hgt : g ≠ tb := by
    rcases hat with h | h
    · exact hnt _ h
    · omega
  refine ⟨?_, ?_, ?_, ?_, ?_⟩
  · rw [setCell_same e3]
    rfl
  · refine ⟨hr3.1, ?_⟩
    rcases hr3.2 with hn | ⟨g', c, cur, e, hb, hg, rest⟩
    · exact Or.inl hn
    · refine Or.inr ⟨g', c, cur, e, hb, ?_, rest⟩
      have : g = g' := by injection e with e; injection e with e; injection e
      rw [Below.heap_setCell _ _ _ _ (by show g' ≠ tb; omega)]
      exact hg
  · obtain ⟨es, clock, hb, r⟩ := hown1
    refine ⟨es, clock, ?_, r⟩
    rw [Below.heap_setCell _ _ _ _ (by show mb ≠ tb; omega), hg3.block mb (by omega) (fun h => by obtain ⟨a, h1, h2⟩ := ob _ h; exact hnm a h1 h2)]
    show (w1.alloc (.cells #[.int .i64 s.k, .int .i64 s.f, .int .u64 (s.m : Int)] 59)).heap[mb]? = _
    rw [_root_.Go.heap_alloc_old _ _ (by omega)]
    exact hb
  · refine ⟨?_, ?_, ?_, ?_, ?_⟩
    · exact hg3.os.trans (hg1.os.trans (boxed_G w s k).os)
    · exact hg3.tape.trans (hg1.tape.trans (boxed_G w s k).tape)
    · exact hg3.output.trans (hg1.output.trans (boxed_G w s k).output)
    · rw [World.size_setCell]
      omega
    · intro b hb h1 h2 h3
      rw [Below.heap_setCell _ _ _ _ (by show b ≠ tb; omega)]
      exact app_block hg1 hg3 b hb h2 (fun h => by obtain ⟨a, e1, e2⟩ := ob _ h; exact h3 a e1 e2.symm)
  · rcases hat with h | h
    · exact Or.inl h
    · right
      omega

set_option maxHeartbeats 1000000 in
theorem number_new (w : World) (B tb mb n cap : Nat) (ao : Option Addr) (xs : List Value) (D : DataW Unit) (s : Shp) (hg : goodB s.k s.f s.m = true) (hs : s.Fit) (hB : B ≤ w.heap.size) (hn : n < 65536)
    (hblk : Hid (w.heap[tb]? = some (.cells #[.map (some mb), .slice ao n cap] 102 (0, 0))))
    (c0 : w.cell? ⟨tb, 0, none⟩ = some (.map (some mb))) (c1 : w.cell? ⟨tb, 1, none⟩ = some (.slice ao n cap)) (f1 : w.frozen? ⟨tb, 1, none⟩ = false) (hne : tb ≠ mb) (hmb : mb < w.heap.size)
    (hrow : Hid (w.ownsRow B 59 3 (.slice ao n cap) n xs))
    (hnm : Hid (∀ a, ao = some a → a.block ≠ mb)) (hnt : Hid (∀ a, ao = some a → a.block ≠ tb))
    (hmap : Hid (w.ownsMap Tryz.prog 59 (plainElem Tryz.prog 3) mb n D))
    (hl : ∀ k, (Instr.lookup 100 (.map (some mb)) (.agg #[.int .i64 s.k, .int .i64 s.f, .int .u64 (s.m : Int)]) true).run Tryz.prog (((w.alloc (.cells #[.int .i64 s.k, .int .i64 s.f, .int .u64 (s.m : Int)] 59)).alloc (.cells #[.int .i64 s.k, .int .i64 s.f, .int .u64 (s.m : Int)] 59)).drewN k) =
      .ok (.tuple #[.int .i64 0, .bool false]) (((w.alloc (.cells #[.int .i64 s.k, .int .i64 s.f, .int .u64 (s.m : Int)] 59)).alloc (.cells #[.int .i64 s.k, .int .i64 s.f, .int .u64 (s.m : Int)] 59)).drewN k)) :
    Calls Tryz.prog 24 #[.pointer (some ⟨tb, 0, none⟩), .agg #[.int .i64 s.k, .int .i64 s.f, .int .u64 (s.m : Int)]] w fun e w' => 
      ∃ g cap', e = .returned (.tuple #[.int .i64 (n : Int), .int .i64 0]) ∧ NumEnd w w' B tb mb ao g cap' n (xs ++ s.cells) (D.put s.key (.lit (.int .i64 (n : Int)))) := by
  have htb : tb < w.heap.size := World.block_lt_of_cell? w _ c0
  have hfull : ((n : Int) == 65536) = false := by simp; omega
  have hbox := hide (boxed_G w s)
  go_enter Tryz.func24, Tryz.ntmps24
  go_wp2_with (go_at_call 22; refine (good_any _ _ _ _).mono ?_; rintro e w' ⟨rfl, rfl⟩)
  go_quiet (fail)
  go_wp2_with fail
  -- the map takes the shape in
  have hmap2 : ((boxed w s).drewN (nq + 1)).ownsMap Tryz.prog 59 (plainElem Tryz.prog 3) mb n D := by
    obtain ⟨es, clock, hb, r⟩ := unhide hmap
    exact ⟨es, clock, ((unhide hbox (nq + 1)).block mb hmb).trans hb, r⟩
  obtain ⟨w1, hrun, hown1, hg1⟩ := hmap2.update keyed Tryz.underlying100 (by unfold maxLen; omega) (keyOf_shp s hs w) (plainElem_int Tryz.underlying3 (WalkArith.wf_i64 (n := (n : Int)) (by omega)))
  have hw1 := hide (bx_cells hg1 hmb)
  have k1 : w1.cell? ⟨tb, 1, none⟩ = some (.slice ao n cap) := ((unhide hw1).2 tb htb hne 1).1.trans c1
  have e1 : w1.frozen? ⟨tb, 1, none⟩ = false := ((unhide hw1).2 tb htb hne 1).2.trans f1
  obtain ⟨b0, b1, b2, hsz⟩ := (unhide hw1).1
  have htb1 : tb < w1.heap.size := by omega
  have hown1' := hide hown1
  have hg1' := hide hg1
  clear hown1 hg1 hmap2
  have HR : Hid (((w1.alloc (.cells #[.int .i64 s.k, .int .i64 s.f, .int .u64 (s.m : Int)] 59)).drew).ownsRow B 59 3 (.slice ao n cap) n xs) := by
    have h0 := unhide hrow
    refine hide (World.ownsRow.alloc (w := w1) ⟨h0.1, ?_⟩ _)
    rcases h0.2 with hn | ⟨g', c, cur, e, hb, hg, rest⟩
    · exact Or.inl hn
    · refine Or.inr ⟨g', c, cur, e, hb, ?_, rest⟩
      have e2 : ao = some ⟨g', 0, none⟩ := by injection e
      have hlt : g' < w.heap.size := (Array.getElem?_eq_some_iff.1 hg).1
      exact ((unhide hg1').block g' (Nat.lt_of_lt_of_le hlt (unhide hbox (nq + 1)).size) (by simpa using unhide hnm _ e2)).trans (((unhide hbox (nq + 1)).block g' hlt).trans hg)
  have HN : Hid (∀ (j : Nat) u, s.cells[j]? = some u → ((w1.alloc (.cells #[.int .i64 s.k, .int .i64 s.f, .int .u64 (s.m : Int)] 59)).drew).cell? ((⟨w1.heap.size, 0, none⟩ : Addr).add j) = some u) := hide fun j u hj => by
    rw [Addr.add_lit]
    show (w1.alloc (.cells #[.int .i64 s.k, .int .i64 s.f, .int .u64 (s.m : Int)] 59)).cell? _ = _
    rw [Nat.zero_add, World.cell?_alloc_new]
    simpa [Shp.cells] using hj
  have HO : Hid (∀ u ∈ s.cells, u.oneCell' = true) := hide fun u hu => by
    simp [Shp.cells] at hu
    rcases hu with rfl | rfl | rfl <;> rfl
  have HB : Hid (B ≤ ((w1.alloc (.cells #[.int .i64 s.k, .int .i64 s.f, .int .u64 (s.m : Int)] 59)).drew).heap.size) := hide (by
    show B ≤ (w1.alloc (.cells #[.int .i64 s.k, .int .i64 s.f, .int .u64 (s.m : Int)] 59)).heap.size
    rw [World.size_alloc]
    omega)
  have HK : Hid (∀ w3, ((w1.alloc (.cells #[.int .i64 s.k, .int .i64 s.f, .int .u64 (s.m : Int)] 59)).drew).grownBy w3 (Value.ownBlock (.slice ao n cap)) → w3.cell? ⟨tb, 1, none⟩ = some (.slice ao n cap) ∧ w3.frozen? ⟨tb, 1, none⟩ = false) := hide fun w3 hg3 => by
    have e := app_block (unhide hg1') hg3 tb htb hne (fun h => by
      cases ao with
      | none => simp [Value.ownBlock] at h
      | some a => exact unhide hnt a rfl (by simpa [Value.ownBlock] using h.symm))
    exact ⟨(World.cell?_of_block (a := ⟨tb, 1, none⟩) e).trans c1, (World.frozen?_of_block (a := ⟨tb, 1, none⟩) e).trans f1⟩
  obtain ⟨i0, hi, hz0, hz1, hz2⟩ := info_parts info_shape
  unfold Shp.val boxed at hrun
  go_region
  go_wp2_with fail
  clear hrun hl
  go_region_law (refine step_append_at rfl (.tmp 40) (.tmp 42) 28 rfl B 59 i0 (.agg #[.int .i64 0, .int .i64 0, .int .u64 0]) 3 24 Tryz.underlying28 hi hz0 hz1 hz2 rfl (by decide) ao n cap xs (by simp [Act.eval]) (unhide HR) ⟨w1.heap.size, 0, none⟩ 1 1 s.cells (by simp [Act.eval]) rfl (unhide HN) (unhide HO) (by decide) (by unfold maxLen; omega) (by omega) (unhide HB) ?_; intro g cap3 w3 hr3 hg3 hat3; obtain ⟨k3, f3⟩ := unhide HK w3 hg3; have hr3' := hide hr3; have hg3' := hide hg3; have hat3' := hide hat3; clear hr3 hg3 hat3)
  all_goals
    go_wp2_with fail
    go_ret2
    exact ⟨g, cap3, rfl, number_fin (unhide hblk) hne hmb (unhide hnm) (unhide hnt) (unhide hg1') (unhide hown1') (unhide hg3') (unhide hr3') (unhide hat3')⟩
end Go.Proofs.YtgflkpccddfalaaGreatDoor.Hd
