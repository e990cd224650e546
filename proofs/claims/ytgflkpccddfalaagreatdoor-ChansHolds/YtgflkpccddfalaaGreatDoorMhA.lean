/- Here, one behind the other: CycK5, HeadTab4, HpK, HpMem, HpOf, HpOf2, HpGet, HpMake, CzP, HpV, CzV, CzV2, CzV3, CzV4, CzV5, CzV6, CzV7, CzV8, HpAdd, HpNew, HpNew2, CzH, CzStep. -/
import Derived.Test.YtgflkpccddfalaaGreatDoorCycK4
import Derived.Test.YtgflkpccddfalaaGreatDoorHeadTab3
import Derived.Maps.OwnSet
import Derived.Deep.DeepCutAuto
import Derived.Deep.RegionHeld3
/- The program's Cycle while nothing is held: Barrier, Born, Scan while it is off; Take; Start; what steps till it is off. -/
namespace Go.Proofs.YtgflkpccddfalaaGreatDoor
set_option maxRecDepth 100000
open Go.ChangeShapes Go.WideShapes Go.ChangeAt Go.RowKit Go.Maps
section
variable {W w w' : World} {xl : Ld} {b : Kn} {hb : Nat} {s s' : Pk}
theorem k_barrier0 {al : Al} {kept done : Int} (h : Hid (KS W w xl b al 0 kept done)) (x y i : Int) : Calls Tryz.prog 52 #[.pointer (some ⟨b.cb, 0, none⟩), .int .i64 x, .int .i64 y, .int .i64 i] w fun e w' => e = .returned (.tuple #[]) ∧ w' = w := by
  have C := hide (k_shades h)
  go_enter Tryz.func52, Tryz.ntmps52
  go_wp2_with fail
  refine (unhide C).mono ?_
  rintro r w1 ⟨rfl, hw1⟩
  subst hw1
  clear C
  go_wp2_with fail
  go_returns
  exact ⟨rfl, rfl⟩
theorem l_clear {al : Al} (h : Hid (StL W w xl al)) : Calls Tryz.prog 54 #[.pointer (some ⟨xl.d.ab, 0, none⟩)] w fun e w' => e = .returned (.tuple #[]) ∧ StL W w' xl ⟨al.a.clear, al.u⟩ ∧ TnL w w' xl :=
  (st_clear (hide (unhide h).st)).mono fun _ _ hh => ⟨hh.1, (unhide h).turn hh.2.1 hh.2.2 rfl, TnL.of_Tn hh.2.2⟩
/-- A taking: the place is marked at once, while things are shaded. -/
def Pk.take (s : Pk) (n : Int) : Pk := if (s.al.take n).2.2 = 0 ∧ (s.ph = 1 ∨ s.ph = 2) then ⟨⟨(s.al.take n).1.a.markA (s.al.take n).2.1, (s.al.take n).1.u⟩, s.ph, s.kept, s.done⟩ else ⟨(s.al.take n).1, s.ph, s.kept, s.done⟩
theorem k_take_no (h : Hid (KH W w xl b hb s)) (n v e : Int) (al' : Al) (hR : Hid (s.al.take n = (al', v, e))) (he : (e != 0) = true) : Calls Tryz.prog 45 #[.pointer (some ⟨b.cb, 0, none⟩), .int .i64 n] w fun r w' => r = .returned (.tuple #[.int .i64 0, .int .i64 e]) ∧ KH W w' xl b hb ⟨al', s.ph, s.kept, s.done⟩ := by
  have c1 := (unhide h).ks.c1
  have C := hide (l_take (hide (unhide h).ks.st) n)
  rw [unhide hR] at C
  simp only at C
  go_enter Tryz.func45, Tryz.ntmps45
  go_wp2_with fail
  refine (unhide C).mono ?_
  rintro r w1 ⟨rfl, s1, t1⟩
  have h1 := hide ((unhide h).turn (s' := ⟨al', s.ph, s.kept, s.done⟩) ((unhide h).ks.turn s1 t1) t1)
  clear C s1 t1
  go_wp2_with fail
  go_ret2
  exact ⟨rfl, unhide h1⟩
theorem k_take_off (h : Hid (KH W w xl b hb s)) (n v : Int) (al' : Al) (hR : Hid (s.al.take n = (al', v, 0))) (hp : (s.ph == 1 || s.ph == 2) = false) : Calls Tryz.prog 45 #[.pointer (some ⟨b.cb, 0, none⟩), .int .i64 n] w fun r w' => r = .returned (.tuple #[.int .i64 v, .int .i64 0]) ∧ KH W w' xl b hb ⟨al', s.ph, s.kept, s.done⟩ := by
  have c1 := (unhide h).ks.c1
  have C := hide (l_take (hide (unhide h).ks.st) n)
  rw [unhide hR] at C
  simp only at C
  go_enter Tryz.func45, Tryz.ntmps45
  go_wp2_with fail
  refine (unhide C).mono ?_
  rintro r w1 ⟨rfl, s1, t1⟩
  have h1 := hide ((unhide h).turn (s' := ⟨al', s.ph, s.kept, s.done⟩) ((unhide h).ks.turn s1 t1) t1)
  have C2 := hide (k_shades (hide (unhide h1).ks))
  simp only [hp] at C2
  clear C s1 t1
  go_wp2_with fail
  refine (unhide C2).mono ?_
  rintro r w2 ⟨rfl, hw2⟩
  subst hw2
  clear C2
  go_wp2_with fail
  go_ret2
  exact ⟨rfl, unhide h1⟩
theorem k_take_on (h : Hid (KH W w xl b hb s)) (n v : Int) (al' : Al) (hR : Hid (s.al.take n = (al', v, 0))) (hp : (s.ph == 1 || s.ph == 2) = true) : Calls Tryz.prog 45 #[.pointer (some ⟨b.cb, 0, none⟩), .int .i64 n] w fun r w' => r = .returned (.tuple #[.int .i64 v, .int .i64 0]) ∧ KH W w' xl b hb ⟨⟨al'.a.markA v, al'.u⟩, s.ph, s.kept, s.done⟩ := by
  have c1 := (unhide h).ks.c1
  have C := hide (l_take (hide (unhide h).ks.st) n)
  rw [unhide hR] at C
  simp only at C
  go_enter Tryz.func45, Tryz.ntmps45
  go_wp2_with fail
  refine (unhide C).mono ?_
  rintro r w1 ⟨rfl, s1, t1⟩
  have h1 := hide ((unhide h).turn (s' := ⟨al', s.ph, s.kept, s.done⟩) ((unhide h).ks.turn s1 t1) t1)
  have C2 := hide (k_shades (hide (unhide h1).ks))
  simp only [hp] at C2
  have c0 := (unhide h1).ks.c0
  have C3 := hide (ls_mark (hide (unhide h1).ks.st) v)
  clear C s1 t1
  go_wp2_with fail
  refine (unhide C2).mono ?_
  rintro r w2 ⟨rfl, hw2⟩
  subst hw2
  clear C2
  go_wp2_with fail
  refine (unhide C3).mono ?_
  rintro r w3 ⟨rfl, s3, t3⟩
  have h3 := hide ((unhide h1).turn (s' := ⟨⟨al'.a.markA v, al'.u⟩, s.ph, s.kept, s.done⟩) ((unhide h1).ks.turn s3 t3) t3)
  clear C3 s3 t3
  go_wp2_with fail
  go_ret2
  exact ⟨rfl, unhide h3⟩
theorem k_start1 (h : Hid (KH W w xl b hb s)) (hp : (s.ph != 0) = true) (r : Value) : Calls Tryz.prog 36 #[.pointer (some ⟨b.cb, 0, none⟩), r] w fun e w' => e = .returned (.bool false) ∧ w' = w := by
  have c4 := (unhide h).ks.c4
  go_enter Tryz.func36, Tryz.ntmps36
  go_wp2_with fail
  go_ret
  exact ⟨rfl, rfl⟩
end
end Go.Proofs.YtgflkpccddfalaaGreatDoor

/- The contract of a Table's Number, in one. -/
namespace Go.Proofs.YtgflkpccddfalaaGreatDoor.Hd
set_option maxRecDepth 100000
open Go.RowKit Go.Maps Go.ChangeShapes Go.WideShapes Go.ChangeAt Go.Deep

/-- A shape that may be. -/
def Shp.good (s : Shp) : Bool := goodB s.k s.f s.m
/-- The shapes of a table behind Number. -/
def addS (l : List Shp) (s : Shp) : List Shp := if s.good = true ∧ s ∉ l then l ++ [s] else l
/-- What Number answers. -/
def numV (l : List Shp) (s : Shp) : Int := if s.good = true then (l.idxOf s : Int) else 0
def numE (s : Shp) : Int := if s.good = true then 0 else 1

theorem TabAt.ne {w : World} {B tb mb : Nat} {ao : Option Addr} {cap : Nat} {l : List Shp} (h : TabAt w B tb mb ao cap l) : tb ≠ mb ∧ (∀ a, ao = some a → a.block ≠ mb) ∧ (∀ a, ao = some a → a.block ≠ tb) := by
  obtain ⟨D, ⟨es, clock, hm, _⟩, _⟩ := h.map
  have hrow := h.row
  refine ⟨?_, ?_, ?_⟩
  · rintro rfl
    have := h.blk
    rw [hm] at this
    cases this
  · rintro a rfl rfl
    rcases hrow.2 with ⟨e, _⟩ | ⟨g, c, cur, e, _, hg, _⟩
    · cases e
    · injection e with e
      injection e with e
      subst e
      rw [hm] at hg
      cases hg
  · rintro a rfl rfl
    rcases hrow.2 with ⟨e, _⟩ | ⟨g, c, cur, e, _, hg, _⟩
    · cases e
    · injection e with e
      injection e with e
      subst e
      have h1 := h.blk
      rw [hg] at h1
      cases h1

theorem tab_add {w w' : World} {B tb mb : Nat} {ao : Option Addr} {cap g cap' : Nat} {l : List Shp} {D : DataW Unit} {s : Shp} (h : TabAt w B tb mb ao cap l) (hs : s.Fit) (hn : s ∉ l)
    (hown : w.ownsMap Tryz.prog 59 (plainElem Tryz.prog 3) mb l.length D) (hhas : ∀ s : Shp, s.Fit → Maps.has D s.key = decide (s ∈ l))
    (hat : ∀ s : Shp, s ∈ l → D.atKey s.key (.lit (.int .i64 0)) = .lit (.int .i64 (l.idxOf s : Int)))
    (E : NumEnd w w' B tb mb ao g cap' l.length (rowOf l ++ s.cells) (D.put s.key (.lit (.int .i64 (l.length : Int))))) : TabAt w' B tb mb (some ⟨g, 0, none⟩) cap' (l ++ [s]) := by
  have hl : (l ++ [s]).length = l.length + 1 := by simp
  have hk : WideAt.IsKeyLit s.key := keyed.key (keyOf_shp s hs w)
  refine ⟨by rw [hl]; exact E.blk, h.btb, h.bmb, by rw [hl, rowOf_snoc]; exact E.row, ⟨_, by rw [hl]; exact E.map, ?_, ?_⟩, ?_⟩
  · intro t ht
    by_cases e : t = s
    · subst e
      rw [has_put_same hown.isMap hk]
      simp
    · rw [has_put_other (fun e2 => e (key_inj ht hs w e2)), hhas t ht]
      simp [e]
  · intro t ht
    by_cases e : t = s
    · subst e
      rw [atKey_put_same hown.isMap hk, List.idxOf_append, if_neg hn]
      simp
    · have ht' : t ∈ l := by simpa [e] using ht
      rw [atKey_put_other (fun e2 => e (key_inj (h.fit t ht') hs w e2)), hat t ht', List.idxOf_append, if_pos ht']
  · intro t ht
    rcases List.mem_append.1 ht with h1 | h1
    · exact h.fit t h1
    · simp at h1
      subst h1
      exact hs

theorem number_any (w : World) (B tb mb : Nat) (ao : Option Addr) (cap : Nat) (l : List Shp) (s : Shp) (h : TabAt w B tb mb ao cap l) (hs : s.Fit) (hlen : l.length < 65536) (hB : B ≤ w.heap.size) :
    Calls Tryz.prog 24 #[.pointer (some ⟨tb, 0, none⟩), .agg #[.int .i64 s.k, .int .i64 s.f, .int .u64 (s.m : Int)]] w fun e w' =>
      ∃ ao' cap', e = .returned (.tuple #[.int .i64 (numV l s), .int .i64 (numE s)]) ∧ TabAt w' B tb mb ao' cap' (addS l s) ∧ Turn w w' tb mb ao ∧ (∀ a, ao' = some a → ao = some a ∨ w.heap.size ≤ a.block) := by
  by_cases hg : s.good = true
  · unfold numV numE addS
    simp only [hg, if_true, true_and]
    have hl := fun k => look_at (h.grown (boxed_G w s k)) s hs
    by_cases hm : s ∈ l
    · simp only [hm, if_true, decide_true] at hl
      rw [if_neg (by simpa using hm)]
      refine (number_old w tb mb s _ hg h.cells.1 hl).mono ?_
      rintro e w' ⟨rfl, hG⟩
      exact ⟨ao, cap, rfl, h.grown hG, Turn.of_G hG, fun a ha => Or.inl ha⟩
    · simp only [hm, if_false, decide_false] at hl
      rw [if_pos hm, List.idxOf_eq_length hm]
      obtain ⟨D, hown, hhas, hat⟩ := h.map
      obtain ⟨n1, n2, n3⟩ := h.ne
      refine (number_new w B tb mb l.length cap ao (rowOf l) D s hg hs hB hlen (hide h.blk) h.cells.1 h.cells.2.1 h.cells.2.2 n1 h.mlt (hide h.row) (hide n2) (hide n3) (hide hown) hl).mono ?_
      rintro e w' ⟨g, cap', rfl, E⟩
      refine ⟨_, cap', rfl, tab_add h hs hm hown hhas hat E, E.turn, ?_⟩
      intro a ha
      injection ha with ha
      subst ha
      exact E.lies
  · have hg' : goodB s.k s.f s.m = false := by
      have : s.good = false := by simpa using hg
      exact this
    unfold numV numE addS
    rw [if_neg hg, if_neg hg, if_neg (fun h => hg h.1)]
    refine (number_bad w tb s hg').mono ?_
    rintro e w' ⟨rfl, hG⟩
    exact ⟨ao, cap, rfl, h.grown hG, Turn.of_G hG, fun a ha => Or.inl ha⟩
end Go.Proofs.YtgflkpccddfalaaGreatDoor.Hd

/- The program's Cycle, made with an empty table beside it. -/
namespace Go.Proofs.YtgflkpccddfalaaGreatDoor
set_option maxRecDepth 100000
open Go.ChangeShapes Go.WideShapes Go.ChangeAt Go.RowKit Go.Maps

theorem ks_newT {n : Nat} {W w3 w4 : World} {xl : Ld} {tb : Nat} (S3 : StL W w4 xl (al0 n)) (Q4 : Gy.QL w4 w3.heap.size [] []) (k0 : w4.cell? ⟨w3.heap.size + 1, 0, none⟩ = some (.pointer (some ⟨xl.d.ab, 0, none⟩)) ∧ w4.cell? ⟨w3.heap.size + 1, 2, none⟩ = some (.pointer (some ⟨w3.heap.size, 0, none⟩)) ∧ w4.cell? ⟨w3.heap.size + 1, 1, none⟩ = some (.pointer (some ⟨tb, 0, none⟩)))
    (z4 : w4.heap.size = w3.heap.size + 2) (hW : W.heap.size ≤ w3.heap.size) (l1 : xl.d.wb < w3.heap.size) (l2 : xl.d.sb < w3.heap.size) (l3 : xl.ub < w3.heap.size) (l4 : xl.d.ab < w3.heap.size) (l5 : xl.lb < w3.heap.size) :
    KS W ((w4.alloc (.map #[] 0)).alloc (.cells #[.pointer (some ⟨xl.d.ab, 0, none⟩), .pointer (some ⟨xl.lb, 0, none⟩), .pointer (some ⟨tb, 0, none⟩), .pointer (some ⟨w3.heap.size + 1, 0, none⟩), .int .i64 0, .map (some w4.heap.size), .int .i64 64, .int .i64 0] 88)) xl ⟨w4.heap.size + 1, w4.heap.size, w3.heap.size + 1, tb, w3.heap.size⟩ (al0 n) 0 64 0 := by
  obtain ⟨w5, h5⟩ : ∃ w5, w4.alloc (.map #[] 0) = w5 := ⟨_, rfl⟩
  have z5 : w5.heap.size = w4.heap.size + 1 := by rw [← h5, World.size_alloc]
  have g5 : G w4 w5 := by rw [← h5]; exact G.alloc _ _
  have m5 : w5.heap[w4.heap.size]? = some (.map #[] 0) := by rw [← h5]; exact heap_alloc_new w4 _
  rw [h5, ← z5]
  obtain ⟨w6, h6⟩ : ∃ w6, w5.alloc (.cells #[.pointer (some ⟨xl.d.ab, 0, none⟩), .pointer (some ⟨xl.lb, 0, none⟩), .pointer (some ⟨tb, 0, none⟩), .pointer (some ⟨w3.heap.size + 1, 0, none⟩), .int .i64 0, .map (some w4.heap.size), .int .i64 64, .int .i64 0] 88) = w6 := ⟨_, rfl⟩
  have g6 : G w5 w6 := by rw [← h6]; exact G.alloc _ _
  have z6 : w6.heap.size = w5.heap.size + 1 := by rw [← h6, World.size_alloc]
  have g := g5.trans g6
  have b6 : w6.heap[w5.heap.size]? = some (.cells #[.pointer (some ⟨xl.d.ab, 0, none⟩), .pointer (some ⟨xl.lb, 0, none⟩), .pointer (some ⟨tb, 0, none⟩), .pointer (some ⟨w3.heap.size + 1, 0, none⟩), .int .i64 0, .map (some w4.heap.size), .int .i64 64, .int .i64 0] 88 (0, 0)) := by rw [← h6]; exact heap_alloc_new w5 _
  have hc : ∀ i : Nat, w6.cell? ⟨w5.heap.size, i, none⟩ = #[Value.pointer (some ⟨xl.d.ab, 0, none⟩), .pointer (some ⟨xl.lb, 0, none⟩), .pointer (some ⟨tb, 0, none⟩), .pointer (some ⟨w3.heap.size + 1, 0, none⟩), .int .i64 0, .map (some w4.heap.size), .int .i64 64, .int .i64 0][i]? := fun i => by rw [← h6]; exact World.cell?_alloc_new _ _ _ i
  rw [h6]
  refine ⟨S3.G g, hc 0, hc 1, hc 2, hc 3, hc 4, hc 5, hc 6, hc 7, fun i => by simp [World.frozen?, b6], ⟨0, (g6.block w4.heap.size (by omega)).trans m5⟩, g.cell k0.1, g.cell k0.2.1, g.cell k0.2.2, Q4.grown g, fun d hd => ?_, by simp; omega, by simp; omega⟩
  simp at hd
  omega
set_option maxHeartbeats 2000000 in
theorem k_newT {W w : World} (n : Nat) (h0 : 8 ≤ n) (h1 : n ≤ 512) (hb : Hid (Below W.heap.size W w)) (ht : Hid (Tab W)) : Calls Tryz.prog 21 #[.int .i64 (n : Int)] w fun e w' => ∃ xl b tm, e = .returned (.tuple #[.pointer (some ⟨b.cb, 0, none⟩), .int .i64 0]) ∧ KS W w' xl b (al0 n) 0 64 0 ∧ Hd.TabAt w' W.heap.size b.tb tm none 0 [] ∧ (∀ d ∈ [b.cb, b.mb, b.kb, b.q, xl.d.ab, xl.d.wb, xl.d.sb, xl.ub, xl.lb], d ≠ b.tb ∧ d ≠ tm ∧ d < w'.heap.size) ∧ b.tb ≠ tm := by
  have hmm := @run_makeMap Tryz.prog
  have hbs := (unhide hb).size
  have SM := hide (st_make n h0 h1 hb ht)
  have KN := hide (fun (x : World) (d : Ad) (h : Hid (St W x d (ab0 n))) => kl_new n h1 h)
  replace h0 := hide h0
  replace h1 := hide h1
  go_enter Tryz.func21, Tryz.ntmps21
  go_wp2_with fail
  refine (unhide SM).mono ?_
  rintro r w1 ⟨d, rfl, S1, g1, q1, q2, q3⟩
  replace S1 := hide S1
  have z1 := g1.size
  clear g1
  go_wp2_with fail
  refine (headnew_k _).mono ?_
  rintro r w2 ⟨rfl, hw2⟩
  have g2 : Hid (G w1 w2) := hide (by rw [hw2]; exact (G.alloc _ _).more _)
  have z2 : w2.heap.size = w1.heap.size + 2 := by rw [hw2]; simp
  have T2 : Hid (Hd.TabAt w2 W.heap.size (w1.heap.size + 1) w1.heap.size none 0 []) := hide (by rw [hw2]; exact Hd.tab_new w1 W.heap.size (by omega))
  have l01 := (unhide S1).at_.lt0
  have l11 := (unhide S1).at_.lt1 (unhide S1).n8
  have l21 := (unhide S1).at_.lt2 (unhide S1).n8
  clear hw2
  have CA := hide (unhide KN w2 d (hide ((unhide S1).G (unhide g2))))
  go_wp2_with fail
  refine (unhide CA).mono ?_
  rintro r w3 ⟨xl, rfl, hxd, S3, g3, y1, y2, y3⟩
  subst hxd
  replace S3 := hide S3
  have z3 := g3.size
  replace T2 : Hid (Hd.TabAt w3 W.heap.size (w1.heap.size + 1) w1.heap.size none 0 []) := hide ((unhide T2).grown g3)
  clear CA g3
  go_wp2_with fail
  refine (marknew_k _ _ _).mono ?_
  rintro r w4 ⟨rfl, hw4⟩
  have Q4 : Hid (Gy.QL w4 w3.heap.size [] []) := hide (by rw [hw4]; exact (Gy.queue_new w3).grown (G.alloc _ _))
  have g4 : Hid (G w3 w4) := hide (by rw [hw4]; exact (G.alloc _ _).more _)
  have z4 : w4.heap.size = w3.heap.size + 2 := by rw [hw4]; simp
  have k0 : Hid (w4.cell? ⟨w3.heap.size + 1, 0, none⟩ = some (.pointer (some ⟨xl.d.ab, 0, none⟩)) ∧ w4.cell? ⟨w3.heap.size + 1, 2, none⟩ = some (.pointer (some ⟨w3.heap.size, 0, none⟩)) ∧ w4.cell? ⟨w3.heap.size + 1, 1, none⟩ = some (.pointer (some ⟨w1.heap.size + 1, 0, none⟩))) := hide (by
    have hz : (w3.alloc (.cells #[.pointer none, .pointer none, .int .i64 0, .int .i64 0] 137)).heap.size = w3.heap.size + 1 := by rw [World.size_alloc]
    rw [hw4, ← hz]
    exact ⟨World.cell?_alloc_new _ _ _ 0, World.cell?_alloc_new _ _ _ 2, World.cell?_alloc_new _ _ _ 1⟩)
  clear hw4
  have S4 := (unhide S3).G (unhide g4)
  have l0 := (unhide S3).st.at_.lt0
  have l1 := (unhide S3).st.at_.lt1 (unhide S3).st.n8
  have l2 := (unhide S3).st.at_.lt2 (unhide S3).st.n8
  have z4' := hide z4
  clear z4
  go_wp2_with fail
  go_ret2
  have KK := ks_newT (tb := w1.heap.size + 1) S4 (unhide Q4) (unhide k0) (unhide z4') (by omega) l1 l2 (by omega) l0 (unhide S3).lt0
  have l5 := (unhide S3).lt0
  have hz := unhide z4'
  refine ⟨xl, ⟨w4.heap.size + 1, w4.heap.size, w3.heap.size + 1, w1.heap.size + 1, w3.heap.size⟩, w1.heap.size, rfl, KK, (unhide T2).grown (((unhide g4).more _).more _), fun d hd => ?_, by simp only; omega⟩
  rw [World.size_alloc, World.size_alloc]
  simp only [List.mem_cons, List.not_mem_nil, or_false] at hd
  simp only
  rcases hd with rfl | rfl | rfl | rfl | rfl | rfl | rfl | rfl | rfl <;> refine ⟨?_, ?_, ?_⟩ <;> omega
end Go.Proofs.YtgflkpccddfalaaGreatDoor

/- A Heap in memory while no collection goes on: the Cycle and its table, the Heap's own cells, its row of numbers, its map. -/
namespace Go.Proofs.YtgflkpccddfalaaGreatDoor
set_option maxRecDepth 100000
open Go.ChangeShapes Go.WideShapes Go.ChangeAt Go.RowKit Go.Maps

theorem keyI : Keyed Tryz.prog 3 := int_keyed Tryz.underlying3
abbrev wfN (y : Int) : Prop := (Lit.int .i64 y).wf = true
/-- Where a Heap's things lie. -/
structure Hx where
  xl : Ld
  b : Kn
  tm : Nat
  hb : Nat
  lm : Nat
/-- The map has the numbers from 0 to n - 1, each at itself. -/
def LmAt (w : World) (lm n : Nat) : Prop := ∃ D : DataW Unit, w.ownsMap Tryz.prog 3 (plainElem Tryz.prog 3) lm n D ∧ ∀ y : Int, wfN y → Maps.has D (.int .i64 y) = decide (0 ≤ y ∧ y < (n : Int)) ∧ (0 ≤ y ∧ y < (n : Int) → D.atKey (.int .i64 y) (.lit (.int .i64 0)) = .lit (.int .i64 y))
abbrev nrL (n : Nat) : List Value := (List.range n).map fun (i : Nat) => Value.int .i64 (i : Int)
abbrev NrAt (w : World) (B : Nat) (v : Value) (n : Nat) : Prop := w.ownsRow B 3 1 v n (nrL n)
/-- What reading a Heap wants, whatever its collector does. -/
structure HB (W w : World) (x : Hx) (al : Al) (l : List Hd.Shp) (ao : Option Addr) (cap : Nat) : Prop where
  st : StL W w x.xl al
  c0 : w.cell? ⟨x.b.cb, 0, none⟩ = some (.pointer (some ⟨x.xl.d.ab, 0, none⟩))
  c2 : w.cell? ⟨x.b.cb, 2, none⟩ = some (.pointer (some ⟨x.b.tb, 0, none⟩))
  tab : Hd.TabAt w W.heap.size x.b.tb x.tm ao cap l
  h0 : w.cell? ⟨x.hb, 0, none⟩ = some (.pointer (some ⟨x.b.cb, 0, none⟩))
theorem HB.gr {W w w' : World} {x : Hx} {al : Al} {l : List Hd.Shp} {ao : Option Addr} {cap : Nat} (h : HB W w x al l ao cap) (g : G w w') : HB W w' x al l ao cap := ⟨h.st.G g, g.cell h.c0, g.cell h.c2, h.tab.grown g, g.cell h.h0⟩
theorem b_arena {W w : World} {x : Hx} {al : Al} {l : List Hd.Shp} {ao : Option Addr} {cap : Nat} (h : Hid (HB W w x al l ao cap)) : Calls Tryz.prog 13 #[.pointer (some ⟨x.b.cb, 0, none⟩)] w fun e w' => e = .returned (.pointer (some ⟨x.xl.d.ab, 0, none⟩)) ∧ w' = w := by
  have c0 := (unhide h).c0
  go_enter Tryz.func13, Tryz.ntmps13
  go_wp2_with fail
  go_ret
  exact ⟨rfl, rfl⟩
theorem b_table {W w : World} {x : Hx} {al : Al} {l : List Hd.Shp} {ao : Option Addr} {cap : Nat} (h : Hid (HB W w x al l ao cap)) : Calls Tryz.prog 23 #[.pointer (some ⟨x.b.cb, 0, none⟩)] w fun e w' => e = .returned (.pointer (some ⟨x.b.tb, 0, none⟩)) ∧ w' = w := by
  have c2 := (unhide h).c2
  go_enter Tryz.func23, Tryz.ntmps23
  go_wp2_with fail
  go_ret
  exact ⟨rfl, rfl⟩
/-- A Heap: l: the table's shapes; n: so many of them are numbered; c: whose each block is. -/
structure HS (W w : World) (x : Hx) (al : Al) (l : List Hd.Shp) (n : Nat) (ao : Option Addr) (cap : Nat) (nv : Value) (c : Nat → Nat) : Prop where
  ks : KS W w x.xl x.b al 0 64 0
  tab : Hd.TabAt w W.heap.size x.b.tb x.tm ao cap l
  h0 : w.cell? ⟨x.hb, 0, none⟩ = some (.pointer (some ⟨x.b.cb, 0, none⟩))
  h1 : w.cell? ⟨x.hb, 1, none⟩ = some nv
  h2 : w.cell? ⟨x.hb, 2, none⟩ = some (.map (some x.lm))
  h3 : w.cell? ⟨x.hb, 3, none⟩ = some (.int .i64 0)
  hf : ∀ i, w.frozen? ⟨x.hb, i, none⟩ = false
  num : NrAt w W.heap.size nv n
  mp : LmAt w x.lm n
  lo : W.heap.size ≤ x.hb ∧ W.heap.size ≤ x.lm
  lt : x.lm < w.heap.size
  cA : c x.xl.d.ab = 1 ∧ c x.xl.d.wb = 1 ∧ c x.xl.d.sb = 1 ∧ c x.xl.ub = 1 ∧ c x.xl.lb = 1
  cC : c x.b.cb = 2 ∧ c x.b.mb = 2 ∧ c x.b.kb = 2 ∧ c x.b.q = 2
  c3 : c x.b.tb = 3
  c4 : c x.tm = 4
  c5 : ∀ a, ao = some a → c a.block = 5
  c6 : c x.hb = 6
  c7 : c x.lm = 7
  c8 : ∀ k, nv.ownBlock = some k → c k = 8
section
variable {W w w' : World} {x : Hx} {al al' : Al} {l l' : List Hd.Shp} {n : Nat} {ao : Option Addr} {cap : Nat} {nv : Value} {c : Nat → Nat}
theorem HS.hB (h : HS W w x al l n ao cap nv c) : HB W w x al l ao cap := ⟨h.ks.st, h.ks.c0, h.ks.c2, h.tab, h.h0⟩
theorem HS.hlt (h : HS W w x al l n ao cap nv c) : x.hb < w.heap.size := World.block_lt_of_cell? w _ h.h0
theorem HS.nlt (h : HS W w x al l n ao cap nv c) : ∀ k, nv.ownBlock = some k → k < w.heap.size := fun k hk => by
  rcases h.num.2 with ⟨e, _⟩ | ⟨g, cp, cur, e, _, h3, _⟩
  · rw [e] at hk; cases hk
  · rw [e] at hk
    obtain rfl : g = k := by simpa [Value.ownBlock] using hk
    rcases Nat.lt_or_ge g w.heap.size with hh | hh
    · exact hh
    · rw [Array.getElem?_eq_none hh] at h3; cases h3
theorem LmAt.kept {lm : Nat} (h : LmAt w lm n) (e : w'.heap[lm]? = w.heap[lm]?) : LmAt w' lm n := by
  obtain ⟨D, ⟨es, clock, hb, r⟩, hD⟩ := h
  exact ⟨D, ⟨es, clock, e.trans hb, r⟩, hD⟩
theorem nr_kept {B : Nat} {v : Value} (h : NrAt w B v n) (e : ∀ k, v.ownBlock = some k → w'.heap[k]? = w.heap[k]?) : NrAt w' B v n := by
  refine ⟨h.1, ?_⟩
  rcases h.2 with h0 | ⟨g, cp, cur, e1, e2, e3, e4⟩
  · exact Or.inl h0
  · exact Or.inr ⟨g, cp, cur, e1, e2, (e g (by rw [e1]; rfl)).trans e3, e4⟩
/-- Only the arena's blocks, the allocator's and new ones have been turned. -/
theorem HS.keep (h : HS W w x al l n ao cap nv c) (s : KS W w' x.xl x.b al' 0 64 0) (hs : w.heap.size ≤ w'.heap.size) (k : ∀ d, d < w.heap.size → 3 ≤ c d → w'.heap[d]? = w.heap[d]?) : HS W w' x al' l n ao cap nv c := by
  have kh := k x.hb h.hlt (by rw [h.c6]; decide)
  exact ⟨s, h.tab.kept (k _ h.tab.tlt (by rw [h.c3]; decide)) (k _ h.tab.mlt (by rw [h.c4]; decide)) (fun a ha => k _ (h.tab.aoB a ha).2 (by rw [h.c5 a ha]; decide)), (World.cell?_of_block (a := ⟨x.hb, 0, none⟩) kh).trans h.h0, (World.cell?_of_block (a := ⟨x.hb, 1, none⟩) kh).trans h.h1, (World.cell?_of_block (a := ⟨x.hb, 2, none⟩) kh).trans h.h2, (World.cell?_of_block (a := ⟨x.hb, 3, none⟩) kh).trans h.h3, fun i => (World.frozen?_of_block (a := ⟨x.hb, i, none⟩) kh).trans (h.hf i), nr_kept h.num (fun q hq => k q (h.nlt q hq) (by rw [h.c8 q hq]; decide)), h.mp.kept (k _ h.lt (by rw [h.c7]; decide)), h.lo, Nat.lt_of_lt_of_le h.lt hs, h.cA, h.cC, h.c3, h.c4, h.c5, h.c6, h.c7, h.c8⟩
theorem HS.turn (h : HS W w x al l n ao cap nv c) (s : StL W w' x.xl al') (t : TnL w w' x.xl) : HS W w' x al' l n ao cap nv c := by
  obtain ⟨_, a2, a3, a4, _⟩ := h.cA
  exact h.keep (h.ks.turn s t) t.size fun d hd hc => t.block d hd (fun e => by rw [e, a2] at hc; omega) (fun e => by rw [e, a3] at hc; omega) (fun e => by rw [e, a4] at hc; omega)
theorem HS.gr (h : HS W w x al l n ao cap nv c) (g : G w w') : HS W w' x al l n ao cap nv c := h.keep (h.ks.gr g) g.size fun d hd _ => g.block d hd
/-- What is not the arena's, the allocator's or the Cycle's is as it was. -/
def Kp3 (w : World) (c : Nat → Nat) (w' : World) : Prop := w.heap.size ≤ w'.heap.size ∧ ∀ d, d < w.heap.size → 3 ≤ c d → w'.heap[d]? = w.heap[d]?
theorem Kp3.of_G (g : G w w') : Kp3 w c w' := ⟨g.size, fun d hd _ => g.block d hd⟩
theorem Kp3.trans {w2 : World} (h : Kp3 w c w') (k : Kp3 w' c w2) : Kp3 w c w2 := ⟨Nat.le_trans h.1 k.1, fun d hd hc => (k.2 d (Nat.lt_of_lt_of_le hd h.1) hc).trans (h.2 d hd hc)⟩
theorem HS.kp (h : HS W w x al l n ao cap nv c) (t : TnL w w' x.xl) : Kp3 w c w' := by
  obtain ⟨_, a2, a3, a4, _⟩ := h.cA
  exact ⟨t.size, fun d hd hc => t.block d hd (fun e => by rw [e, a2] at hc; omega) (fun e => by rw [e, a3] at hc; omega) (fun e => by rw [e, a4] at hc; omega)⟩
/-- The arena's and the allocator's blocks are as they were. -/
theorem StL.kept {xl : Ld} (h : StL W w xl al) (hb : Below W.heap.size W w') (k : ∀ d, d = xl.d.ab ∨ d = xl.d.wb ∨ d = xl.d.sb ∨ d = xl.ub ∨ d = xl.lb → w'.heap[d]? = w.heap[d]?) : StL W w' xl al := by
  have kl := k xl.lb (by simp)
  have ku := k xl.ub (by simp)
  exact ⟨⟨h.st.at_.kept (k _ (by simp)) (k _ (by simp)) (k _ (by simp)), h.st.good, hb, h.st.tab⟩, (World.cell?_of_block (a := ⟨xl.lb, 0, none⟩) kl).trans h.c0, (World.cell?_of_block (a := ⟨xl.lb, 1, none⟩) kl).trans h.c1, fun s hs => (World.cell?_of_block (a := ⟨xl.ub, s, none⟩) ku).trans (h.us s hs), fun i => (World.frozen?_of_block (a := ⟨xl.ub, i, none⟩) ku).trans (h.fu i), h.b0, h.b1, h.n0, h.n1, h.n2⟩
theorem HS.alt (h : HS W w x al l n ao cap nv c) : x.xl.d.ab < w.heap.size ∧ x.xl.d.wb < w.heap.size ∧ x.xl.d.sb < w.heap.size ∧ x.xl.ub < w.heap.size ∧ x.xl.lb < w.heap.size :=
  ⟨h.ks.st.st.at_.lt0, h.ks.st.st.at_.lt1 h.ks.st.st.n8, h.ks.st.st.at_.lt2 h.ks.st.st.n8, h.ks.st.lt1, h.ks.st.lt0⟩
/-- Blocks of the Heap's own, or of the table's, have been turned: what the Cycle has is as it was. -/
theorem HS.cyc (h : HS W w x al l n ao cap nv c) (hb : Below W.heap.size W w') (hs : w.heap.size ≤ w'.heap.size) (k : ∀ d, d < w.heap.size → c d ≤ 2 → w'.heap[d]? = w.heap[d]?) : KS W w' x.xl x.b al 0 64 0 := by
  obtain ⟨a1, a2, a3, a4, a5⟩ := h.cA
  obtain ⟨e1, e2, e3, e4⟩ := h.cC
  obtain ⟨l1, l2, l3, l4, l5⟩ := h.alt
  refine h.ks.blocks (h.ks.st.kept hb fun d hd => ?_) hs fun d hd => k d (h.ks.ap d hd).1 ?_
  · rcases hd with rfl | rfl | rfl | rfl | rfl
    · exact k _ l1 (by omega)
    · exact k _ l2 (by omega)
    · exact k _ l3 (by omega)
    · exact k _ l4 (by omega)
    · exact k _ l5 (by omega)
  · simp only [List.mem_cons, List.not_mem_nil, or_false] at hd
    rcases hd with rfl | rfl | rfl | rfl <;> omega
/-- The table has been asked for a number. -/
theorem HS.number9 {ao' : Option Addr} {cap' : Nat} (h : HS W w x al l n ao cap nv c) (T : Hd.TabAt w' W.heap.size x.b.tb x.tm ao' cap' l') (t : Hd.Turn w w' x.b.tb x.tm ao) (ha : ∀ a, ao' = some a → ao = some a ∨ w.heap.size ≤ a.block) :
    ∃ c', HS W w' x al l' n ao' cap' nv c' ∧ ∀ d, d < w.heap.size → c' d = c d := by
  have hb : Below W.heap.size W w' := Below.trans h.ks.st.below (t.below h.ks.st.below.size h.tab.btb h.tab.bmb (fun a ha => (h.tab.aoB a ha).1))
  have k : ∀ d, d < w.heap.size → c d ≠ 3 → c d ≠ 4 → c d ≠ 5 → w'.heap[d]? = w.heap[d]? := fun d hd n3 n4 n5 => t.block d hd (fun e => n3 (by rw [e]; exact h.c3)) (fun e => n4 (by rw [e]; exact h.c4)) (fun a ea e => n5 (by rw [e]; exact h.c5 a ea))
  have kh := k x.hb h.hlt (by rw [h.c6]; decide) (by rw [h.c6]; decide) (by rw [h.c6]; decide)
  have ks := h.cyc hb t.size (fun d hd hc => k d hd (by omega) (by omega) (by omega))
  have cc : ∀ d, d < w.heap.size → (fun d => if w.heap.size ≤ d then 5 else c d) d = c d := fun d hd => by simp only; rw [if_neg (by omega)]
  obtain ⟨l1, l2, l3, l4, l5⟩ := h.alt
  obtain ⟨a1, a2, a3, a4, a5⟩ := h.cA
  obtain ⟨e1, e2, e3, e4⟩ := h.cC
  refine ⟨fun d => if w.heap.size ≤ d then 5 else c d, ⟨ks, T, (World.cell?_of_block (a := ⟨x.hb, 0, none⟩) kh).trans h.h0, (World.cell?_of_block (a := ⟨x.hb, 1, none⟩) kh).trans h.h1, (World.cell?_of_block (a := ⟨x.hb, 2, none⟩) kh).trans h.h2, (World.cell?_of_block (a := ⟨x.hb, 3, none⟩) kh).trans h.h3, fun i => (World.frozen?_of_block (a := ⟨x.hb, i, none⟩) kh).trans (h.hf i), nr_kept h.num (fun q hq => k q (h.nlt q hq) (by rw [h.c8 q hq]; decide) (by rw [h.c8 q hq]; decide) (by rw [h.c8 q hq]; decide)), h.mp.kept (k _ h.lt (by rw [h.c7]; decide) (by rw [h.c7]; decide) (by rw [h.c7]; decide)), h.lo, Nat.lt_of_lt_of_le h.lt t.size, ⟨(cc _ l1).trans a1, (cc _ l2).trans a2, (cc _ l3).trans a3, (cc _ l4).trans a4, (cc _ l5).trans a5⟩, ⟨(cc _ (h.ks.ap _ (by simp)).1).trans e1, (cc _ (h.ks.ap _ (by simp)).1).trans e2, (cc _ (h.ks.ap _ (by simp)).1).trans e3, (cc _ (h.ks.ap _ (by simp)).1).trans e4⟩, (cc _ h.tab.tlt).trans h.c3, (cc _ h.tab.mlt).trans h.c4, fun a ea => ?_, (cc _ h.hlt).trans h.c6, (cc _ h.lt).trans h.c7, fun q hq => (cc _ (h.nlt q hq)).trans (h.c8 q hq)⟩, cc⟩
  rcases ha a ea with e | e
  · exact (cc _ (h.tab.aoB a e).2).trans (h.c5 a e)
  · exact if_pos e
theorem HS.number {ao' : Option Addr} {cap' : Nat} (h : HS W w x al l n ao cap nv c) (T : Hd.TabAt w' W.heap.size x.b.tb x.tm ao' cap' l') (t : Hd.Turn w w' x.b.tb x.tm ao) (ha : ∀ a, ao' = some a → ao = some a ∨ w.heap.size ≤ a.block) :
    ∃ c', HS W w' x al l' n ao' cap' nv c' := by
  obtain ⟨c', S, _⟩ := h.number9 T t ha
  exact ⟨c', S⟩
/-- Old blocks keep their owner; others' blocks are as they were. -/
def K9 (w : World) (c : Nat → Nat) (w' : World) (c' : Nat → Nat) : Prop := w.heap.size ≤ w'.heap.size ∧ ∀ d, d < w.heap.size → c' d = c d ∧ (c d = 9 → w'.heap[d]? = w.heap[d]?)
theorem K9.trans {w w1 w2 : World} {c c1 c2 : Nat → Nat} (h : K9 w c w1 c1) (k : K9 w1 c1 w2 c2) : K9 w c w2 c2 :=
  ⟨Nat.le_trans h.1 k.1, fun d hd => by
    obtain ⟨e1, e2⟩ := h.2 d hd
    obtain ⟨e3, e4⟩ := k.2 d (Nat.lt_of_lt_of_le hd h.1)
    exact ⟨e3.trans e1, fun h9 => (e4 (e1.trans h9)).trans (e2 h9)⟩⟩
end
end Go.Proofs.YtgflkpccddfalaaGreatDoor

/- Package heap: its leaves; Of. -/
namespace Go.Proofs.YtgflkpccddfalaaGreatDoor
set_option maxRecDepth 100000
open Go.ChangeShapes Go.WideShapes Go.ChangeAt Go.RowKit Go.Maps Go.Deep
def hfB (wd sf fd : Int) : Bool := decide (0 ≤ fd) && (decide (fd < sf) && decide (fd < wd - 1))
section
variable {W w : World} {x : Hx} {al : Al} {l : List Hd.Shp} {n : Nat} {ao : Option Addr} {cap : Nat} {nv : Value} {c : Nat → Nat}
theorem hb_cycle (h : Hid (HB W w x al l ao cap)) : Calls Tryz.prog 11 #[.pointer (some ⟨x.hb, 0, none⟩)] w fun e w' => e = .returned (.pointer (some ⟨x.b.cb, 0, none⟩)) ∧ w' = w := by
  have h0 := (unhide h).h0
  go_enter Tryz.func11, Tryz.ntmps11
  go_wp2_with fail
  go_ret
  exact ⟨rfl, rfl⟩
theorem h_cycle (h : Hid (HS W w x al l n ao cap nv c)) : Calls Tryz.prog 11 #[.pointer (some ⟨x.hb, 0, none⟩)] w fun e w' => e = .returned (.pointer (some ⟨x.b.cb, 0, none⟩)) ∧ w' = w :=
  hb_cycle (hide (unhide h).hB)
def rdT (al : Al) (a f tr : Int) : Int × Int := if al.a.readE a (wrap64 (f + 1)) = 0 then (al.a.readV a (wrap64 (f + 1)), 0) else (0, tr)
end
end Go.Proofs.YtgflkpccddfalaaGreatDoor

/- Package heap: Of. -/
namespace Go.Proofs.YtgflkpccddfalaaGreatDoor
set_option maxRecDepth 100000
open Go.ChangeShapes Go.WideShapes Go.ChangeAt Go.RowKit Go.Maps Go.Deep

theorem put6 {w w2 : World} {s : Nat} (hs : w.heap.size ≤ s) (g : G w w2) {u0 u1 u2 u3 u4 u5 : Value} (a0 : w2.cell? ⟨s, 0, none⟩ = some u0) (a1 : w2.cell? ⟨s, 1, none⟩ = some u1) (a2 : w2.cell? ⟨s, 2, none⟩ = some u2) (b0 : w2.cell? ⟨s + 1, 0, none⟩ = some u3) (b1 : w2.cell? ⟨s + 1, 1, none⟩ = some u4) (b2 : w2.cell? ⟨s + 1, 2, none⟩ = some u5) (v0 v1 v2 v3 v4 v5 : Value) (Y : World) (hY : Y = (((((w2.setCell ⟨s, 0, none⟩ v0).setCell ⟨s, 1, none⟩ v1).setCell ⟨s, 2, none⟩ v2).setCell ⟨s + 1, 0, none⟩ v3).setCell ⟨s + 1, 1, none⟩ v4).setCell ⟨s + 1, 2, none⟩ v5) :
    Y.cell? ⟨s, 0, none⟩ = some v0 ∧ Y.cell? ⟨s, 1, none⟩ = some v1 ∧ Y.cell? ⟨s, 2, none⟩ = some v2 ∧ Y.cell? ⟨s + 1, 0, none⟩ = some v3 ∧ Y.cell? ⟨s + 1, 1, none⟩ = some v4 ∧ Y.cell? ⟨s + 1, 2, none⟩ = some v5 ∧ G w Y := by
  have e : ∀ (y : World) (i j : Nat) (v u : Value), y.cell? ⟨s, i, none⟩ = some u → (y.setCell ⟨s + 1, j, none⟩ v).cell? ⟨s, i, none⟩ = some u := fun y i j v u h => by rw [cell_other _ (Or.inl (by omega))]; exact h
  have e' : ∀ (y : World) (i j : Nat) (v u : Value), y.cell? ⟨s + 1, i, none⟩ = some u → (y.setCell ⟨s, j, none⟩ v).cell? ⟨s + 1, i, none⟩ = some u := fun y i j v u h => by rw [cell_other _ (Or.inl (by omega))]; exact h
  have o : ∀ (y : World) (b i j : Nat) (v u : Value), i ≠ j → y.cell? ⟨b, i, none⟩ = some u → (y.setCell ⟨b, j, none⟩ v).cell? ⟨b, i, none⟩ = some u := fun y b i j v u hn h => by rw [cell_other _ (Or.inr hn)]; exact h
  have q1 := cell_same v0 a0
  have r1 := o w2 s 1 0 v0 _ (by decide) a1
  have q2 := cell_same v1 r1
  have r2 := o _ s 2 1 v1 _ (by decide) (o w2 s 2 0 v0 _ (by decide) a2)
  have q3 := cell_same v2 r2
  have k0 := o _ s 0 2 v2 _ (by decide) (o _ s 0 1 v1 _ (by decide) q1)
  have k1 := o _ s 1 2 v2 _ (by decide) q2
  have t0 := e' _ 0 2 v2 _ (e' _ 0 1 v1 _ (e' w2 0 0 v0 _ b0))
  have t1 := e' _ 1 2 v2 _ (e' _ 1 1 v1 _ (e' w2 1 0 v0 _ b1))
  have t2 := e' _ 2 2 v2 _ (e' _ 2 1 v1 _ (e' w2 2 0 v0 _ b2))
  have p3 := cell_same v3 t0
  have p4 := cell_same v4 (o _ (s + 1) 1 0 v3 _ (by decide) t1)
  have p5 := cell_same v5 (o _ (s + 1) 2 1 v4 _ (by decide) (o _ (s + 1) 2 0 v3 _ (by decide) t2))
  rw [hY]
  exact ⟨e _ 0 2 v5 _ (e _ 0 1 v4 _ (e _ 0 0 v3 _ k0)), e _ 1 2 v5 _ (e _ 1 1 v4 _ (e _ 1 0 v3 _ k1)), e _ 2 2 v5 _ (e _ 2 1 v4 _ (e _ 2 0 v3 _ q3)), o _ (s + 1) 0 2 v5 _ (by decide) (o _ (s + 1) 0 1 v4 _ (by decide) p3), o _ (s + 1) 1 2 v5 _ (by decide) p4, p5, G.set (G.set (G.set (G.set (G.set (G.set g _ _ hs) _ _ hs) _ _ hs) _ _ (by simp only; omega)) _ _ (by simp only; omega)) _ _ (by simp only; omega)⟩
/-- What an object is. -/
def ofP (al : Al) (l : List Hd.Shp) (a : Int) : Option (Int × Int × Int × Hd.Shp) :=
  if al.a.readE a 0 = 0 then (if Hd.uokB (al.a.readV a 0) = true then (match l[(Hd.up2 (al.a.readV a 0)).toNat]? with
    | some s => some (Hd.up0 (al.a.readV a 0), Hd.up1 (al.a.readV a 0), Hd.up2 (al.a.readV a 0), s)
    | none => none) else none) else none
def ofV : Option (Int × Int × Int × Hd.Shp) → Value
  | none => .tuple #[.agg #[.int .i64 0, .int .i64 0, .int .i64 0], .agg #[.int .i64 0, .int .i64 0, .int .u64 0], .bool false]
  | some (a, b, c, s) => .tuple #[.agg #[.int .i64 a, .int .i64 b, .int .i64 c], .agg #[.int .i64 s.k, .int .i64 s.f, .int .u64 (s.m : Int)], .bool true]
section
variable {W w : World} {x : Hx} {al : Al} {l : List Hd.Shp} {n : Nat} {ao : Option Addr} {cap : Nat} {nv : Value} {c : Nat → Nat}
set_option maxHeartbeats 1000000 in
theorem hb_of (h : Hid (HB W w x al l ao cap)) (a : Int) : Calls Tryz.prog 48 #[.pointer (some ⟨x.hb, 0, none⟩), .int .i64 a] w fun e w' => e = .returned (ofV (ofP al l a)) ∧ G w w' := by
  obtain ⟨W1, hW1⟩ : ∃ W1, W1 = (w.alloc (.cells #[.int .i64 0, .int .i64 0, .int .i64 0] 112)).alloc (.cells #[.int .i64 0, .int .i64 0, .int .u64 0] 59) := ⟨_, rfl⟩
  have g1 : G w W1 := by rw [hW1]; exact ((G.refl w).more _).more _
  have BX : Hid (∀ y, G W1 y → (y.cell? ⟨w.heap.size, 0, none⟩ = some (.int .i64 0) ∧ y.cell? ⟨w.heap.size, 1, none⟩ = some (.int .i64 0) ∧ y.cell? ⟨w.heap.size, 2, none⟩ = some (.int .i64 0) ∧ y.cell? ⟨w.heap.size + 1, 0, none⟩ = some (.int .i64 0) ∧ y.cell? ⟨w.heap.size + 1, 1, none⟩ = some (.int .i64 0) ∧ y.cell? ⟨w.heap.size + 1, 2, none⟩ = some (.int .u64 0)) ∧ (∀ i, y.frozen? ⟨w.heap.size, i, none⟩ = false) ∧ (∀ i, y.frozen? ⟨w.heap.size + 1, i, none⟩ = false)) := hide fun y g => by
    have e0 := heap_alloc_new w (.cells #[.int .i64 0, .int .i64 0, .int .i64 0] 112)
    have e1 := heap_alloc_new (w.alloc (.cells #[.int .i64 0, .int .i64 0, .int .i64 0] 112)) (.cells #[.int .i64 0, .int .i64 0, .int .u64 0] 59)
    rw [World.size_alloc] at e1
    have e0' : W1.heap[w.heap.size]? = some (.cells #[.int .i64 0, .int .i64 0, .int .i64 0] 112) := by rw [hW1]; exact ((G.alloc _ _).block _ (by rw [World.size_alloc]; omega)).trans e0
    rw [← hW1] at e1
    have l0 : w.heap.size < W1.heap.size := by rw [hW1, World.size_alloc, World.size_alloc]; omega
    have l1 : w.heap.size + 1 < W1.heap.size := by rw [hW1, World.size_alloc, World.size_alloc]; omega
    have y0 := (g.block _ l0).trans e0'
    have y1 := (g.block _ l1).trans e1
    refine ⟨⟨?_, ?_, ?_, ?_, ?_, ?_⟩, fun i => by simp [World.frozen?, y0], fun i => by simp [World.frozen?, y1]⟩
    all_goals first | (rw [cell_of_row _ _ _ _ _ _ y0]; rfl) | (rw [cell_of_row _ _ _ _ _ _ y1]; rfl)
  have NO : Hid (∀ (w2 : World), G W1 w2 → ∀ Y, Y = (((((w2.setCell ⟨w.heap.size, 0, none⟩ (.int .i64 0)).setCell ⟨w.heap.size, 1, none⟩ (.int .i64 0)).setCell ⟨w.heap.size, 2, none⟩ (.int .i64 0)).setCell ⟨w.heap.size + 1, 0, none⟩ (.int .i64 0)).setCell ⟨w.heap.size + 1, 1, none⟩ (.int .i64 0)).setCell ⟨w.heap.size + 1, 2, none⟩ (.int .u64 0) → (Y.cell? ⟨w.heap.size, 0, none⟩ = some (.int .i64 0) ∧ Y.cell? ⟨w.heap.size, 1, none⟩ = some (.int .i64 0) ∧ Y.cell? ⟨w.heap.size, 2, none⟩ = some (.int .i64 0) ∧ Y.cell? ⟨w.heap.size + 1, 0, none⟩ = some (.int .i64 0) ∧ Y.cell? ⟨w.heap.size + 1, 1, none⟩ = some (.int .i64 0) ∧ Y.cell? ⟨w.heap.size + 1, 2, none⟩ = some (.int .u64 0)) ∧ G w Y) := hide fun w2 g Y hY => by
    obtain ⟨⟨a0, a1, a2, b0, b1, b2⟩, _⟩ := unhide BX w2 g
    obtain ⟨r0, r1, r2, r3, r4, r5, r6⟩ := put6 (Nat.le_refl _) (g1.trans g) a0 a1 a2 b0 b1 b2 _ _ _ _ _ _ Y hY
    exact ⟨⟨r0, r1, r2, r3, r4, r5⟩, r6⟩
  have HH : Hid (∀ y, G W1 y → HB W y x al l ao cap) := hide fun y g => ((unhide h).gr g1).gr g
  have h0 := (unhide HH W1 (G.refl _)).h0
  have CA := hide (b_arena (hide (unhide HH W1 (G.refl _))))
  have CR := hide (ls_read (hide (unhide HH W1 (G.refl _)).st) a 0)
  obtain ⟨R, hR⟩ : ∃ R, R = ofP al l a := ⟨_, rfl⟩
  rw [← hR]
  unfold ofP at hR
  generalize al.a.readV a 0 = rv at CR hR
  generalize al.a.readE a 0 = re at CR hR
  by_cases hre : re = 0
  rotate_left
  · have hrb : (re != 0) = true := by simpa using hre
    obtain rfl : R = none := by rw [hR, if_neg hre]
    clear hR h HH g1
    go_enter Tryz.func48, Tryz.ntmps48
    go_upto_region 1 with fail
    rw [← hW1]
    clear hW1
    go_wp2_with fail
    refine (unhide CA).mono ?_
    rintro e w1 ⟨rfl, hw1⟩
    rw [hw1]
    clear hw1 w1 CA
    go_wp2_with fail
    refine (unhide CR).mono ?_
    rintro e w2 ⟨rfl, _, g2⟩
    obtain ⟨⟨a0, a1, a2, b0, b1, b2⟩, f0, f1⟩ := unhide BX w2 g2
    have NO2 := hide (unhide NO w2 g2)
    clear CR BX NO g2
    go_wp2_with fail
    obtain ⟨Y, hY⟩ : ∃ Y, Y = (((((w2.setCell ⟨w.heap.size, 0, none⟩ (.int .i64 0)).setCell ⟨w.heap.size, 1, none⟩ (.int .i64 0)).setCell ⟨w.heap.size, 2, none⟩ (.int .i64 0)).setCell ⟨w.heap.size + 1, 0, none⟩ (.int .i64 0)).setCell ⟨w.heap.size + 1, 1, none⟩ (.int .i64 0)).setCell ⟨w.heap.size + 1, 2, none⟩ (.int .u64 0) := ⟨_, rfl⟩
    obtain ⟨⟨y0, y1, y2, y3, y4, y5⟩, gY⟩ := unhide NO2 Y hY
    rw [← hY]
    refine bodyPost_ret (by simp [results, Tryz.results48, go_sem, y0, y1, y2, y3, y4, y5]; try rfl) rfl ?_
    exact ⟨rfl, gY⟩
  subst hre
  rw [if_pos rfl] at hR
  have CU : Hid (∀ y, Calls Tryz.prog 67 #[.int .i64 rv] y fun e w' => e = .returned (.tuple #[.agg #[.int .i64 (Hd.ukV rv (Hd.up0 rv)), .int .i64 (Hd.ukV rv (Hd.up1 rv)), .int .i64 (Hd.ukV rv (Hd.up2 rv))], .int .i64 (Hd.ukE rv)]) ∧ G y w') := hide fun y => Hd.unpack_any rv y
  have GW : Hid (G w W1) := hide g1
  by_cases hu : Hd.uokB rv = true
  rotate_left
  · obtain rfl : R = none := by rw [hR, if_neg hu]
    simp only [Hd.ukV, Hd.ukE, if_neg hu] at CU
    clear hR h HH g1 hu GW
    go_enter Tryz.func48, Tryz.ntmps48
    go_upto_region 1 with fail
    rw [← hW1]
    clear hW1
    go_wp2_with fail
    refine (unhide CA).mono ?_
    rintro e w1 ⟨rfl, hw1⟩
    rw [hw1]
    clear hw1 w1 CA
    go_wp2_with fail
    refine (unhide CR).mono ?_
    rintro e w2 ⟨rfl, _, g2⟩
    replace g2 := hide g2
    clear CR
    go_wp2_with fail
    refine (unhide CU w2).mono ?_
    rintro e w3 ⟨rfl, g3⟩
    go_upto_region 5 with fail
    obtain ⟨w4, hw4⟩ : ∃ w4, w4 = w3.alloc (.cells #[.int .i64 0, .int .i64 0, .int .i64 0] 112) := ⟨_, rfl⟩
    rw [← hw4]
    have g4 : G W1 w4 := ((unhide g2).trans g3).trans (by rw [hw4]; exact G.alloc _ _)
    obtain ⟨⟨a0, a1, a2, b0, b1, b2⟩, f0, f1⟩ := unhide BX w4 g4
    have NO2 := hide (unhide NO w4 g4)
    clear CU BX NO g2 g3 g4 hw4
    go_wp2_with fail
    obtain ⟨Y, hY⟩ : ∃ Y, Y = (((((w4.setCell ⟨w.heap.size, 0, none⟩ (.int .i64 0)).setCell ⟨w.heap.size, 1, none⟩ (.int .i64 0)).setCell ⟨w.heap.size, 2, none⟩ (.int .i64 0)).setCell ⟨w.heap.size + 1, 0, none⟩ (.int .i64 0)).setCell ⟨w.heap.size + 1, 1, none⟩ (.int .i64 0)).setCell ⟨w.heap.size + 1, 2, none⟩ (.int .u64 0) := ⟨_, rfl⟩
    obtain ⟨⟨y0, y1, y2, y3, y4, y5⟩, gY⟩ := unhide NO2 Y hY
    rw [← hY]
    refine bodyPost_ret (by simp [results, Tryz.results48, go_sem, y0, y1, y2, y3, y4, y5]; try rfl) rfl ?_
    exact ⟨rfl, gY⟩
  rw [if_pos hu] at hR
  simp only [Hd.ukV, Hd.ukE, if_pos hu] at CU
  have hu2 : 0 ≤ Hd.up2 rv ∧ Hd.up2 rv < 65536 := by unfold Hd.up2; omega
  obtain ⟨k, hk⟩ : ∃ k : Nat, Hd.up2 rv = (k : Int) := ⟨(Hd.up2 rv).toNat, by omega⟩
  rw [hk] at CU hR
  rw [Int.toNat_natCast] at hR
  generalize Hd.up0 rv = u0 at CU hR
  generalize Hd.up1 rv = u1 at CU hR
  clear hu hu2 hk
  obtain ⟨sk, sf, sm, er, hsh, hok⟩ : ∃ (sk sf : Int) (sm : Nat) (er : Int), (∀ y, G W1 y → Calls Tryz.prog 46 #[.pointer (some ⟨x.b.tb, 0, none⟩), .int .i64 (k : Int)] y fun e w' => e = .returned (.tuple #[.agg #[.int .i64 sk, .int .i64 sf, .int .u64 (sm : Int)], .int .i64 er]) ∧ G y w') ∧ ((er = 0 ∧ R = some (u0, u1, (k : Int), (sk, sf, sm))) ∨ (er = 4 ∧ R = none)) := by
    cases hl : l[k]? with
    | some s => exact ⟨s.k, s.f, s.m, 0, fun y g => Hd.shape_yes y _ _ _ _ _ l (unhide HH y g).tab k s hl, Or.inl ⟨rfl, by rw [hR, hl]; rfl⟩⟩
    | none => exact ⟨0, 0, 0, 4, fun y g => Hd.shape_no y _ _ _ _ _ l (unhide HH y g).tab (k : Int) (Or.inr (by have := List.getElem?_eq_none_iff.1 hl; omega)), Or.inr ⟨rfl, by rw [hR, hl]⟩⟩
  clear hR
  replace hsh := hide hsh
  have TBL : Hid (∀ y, G W1 y → Calls Tryz.prog 23 #[.pointer (some ⟨x.b.cb, 0, none⟩)] y fun e w' => e = .returned (.pointer (some ⟨x.b.tb, 0, none⟩)) ∧ w' = y) := hide fun y g => b_table (hide (unhide HH y g))
  have HB0 : Hid (∀ y, G W1 y → y.cell? ⟨x.hb, 0, none⟩ = some (.pointer (some ⟨x.b.cb, 0, none⟩))) := hide fun y g => (unhide HH y g).h0
  clear h HH g1
  go_enter Tryz.func48, Tryz.ntmps48
  go_upto_region 1 with fail
  rw [← hW1]
  clear hW1
  go_wp2_with fail
  refine (unhide CA).mono ?_
  rintro e w1 ⟨rfl, hw1⟩
  rw [hw1]
  clear hw1 w1 CA
  go_wp2_with fail
  refine (unhide CR).mono ?_
  rintro e w2 ⟨rfl, _, g2⟩
  replace g2 := hide g2
  clear CR
  go_wp2_with fail
  refine (unhide CU w2).mono ?_
  rintro e w3 ⟨rfl, g3⟩
  go_upto_region 5 with fail
  obtain ⟨w4, hw4⟩ : ∃ w4, w4 = w3.alloc (.cells #[.int .i64 u0, .int .i64 u1, .int .i64 (k : Int)] 112) := ⟨_, rfl⟩
  rw [← hw4]
  have g14 : G W1 w4 := ((unhide g2).trans g3).trans (by rw [hw4]; exact G.alloc _ _)
  have UB : Hid (∀ y, G w4 y → y.cell? ⟨w3.heap.size, 0, none⟩ = some (.int .i64 u0) ∧ y.cell? ⟨w3.heap.size, 1, none⟩ = some (.int .i64 u1) ∧ y.cell? ⟨w3.heap.size, 2, none⟩ = some (.int .i64 (k : Int))) := hide fun y g => by
    have e0 : w4.heap[w3.heap.size]? = some (.cells #[.int .i64 u0, .int .i64 u1, .int .i64 (k : Int)] 112) := by rw [hw4]; exact heap_alloc_new w3 _
    exact ⟨g.cell (by rw [cell_of_row _ _ _ _ _ _ e0]; rfl), g.cell (by rw [cell_of_row _ _ _ _ _ _ e0]; rfl), g.cell (by rw [cell_of_row _ _ _ _ _ _ e0]; rfl)⟩
  have NW3 : Hid (w.heap.size + 2 ≤ w3.heap.size) := hide (by
    have q1 := ((unhide g2).trans g3).size
    obtain ⟨⟨_, _, _, b0, _⟩, _⟩ := unhide BX W1 (G.refl _)
    have := World.block_lt_of_cell? W1 _ b0
    simp only at this
    omega)
  replace g14 := hide g14
  clear g2 g3 hw4 CU
  have ERB : Hid ((er != 0) = false ∧ R = some (u0, u1, (k : Int), (sk, sf, sm)) ∨ (er != 0) = true ∧ R = none) := hide (by
    rcases hok with ⟨h1, h2⟩ | ⟨h1, h2⟩
    · subst h1; exact Or.inl ⟨rfl, h2⟩
    · subst h1; exact Or.inr ⟨rfl, h2⟩)
  clear hok
  go_upto_region 7 with fail
  go_cut [8, 10] (fun v8 v10 wx => ∃ sB, v10 = .pointer (some ⟨sB, 0, none⟩) ∧ v8 = .int .i64 er ∧ Hid (w4.heap.size ≤ sB ∧ G w4 wx ∧ wx.cell? ⟨sB, 0, none⟩ = some (.int .i64 sk) ∧ wx.cell? ⟨sB, 1, none⟩ = some (.int .i64 sf) ∧ wx.cell? ⟨sB, 2, none⟩ = some (.int .u64 (sm : Int))))
  case first =>
    have ST : Hid (∀ (y z : World), G w4 y → G (y.alloc (.cells #[.int .i64 0, .int .i64 0, .int .u64 0] 59)) z → z.cell? ⟨y.heap.size, 0, none⟩ = some (.int .i64 0) ∧ z.cell? ⟨y.heap.size, 1, none⟩ = some (.int .i64 0) ∧ z.cell? ⟨y.heap.size, 2, none⟩ = some (.int .u64 0) ∧ (∀ i, z.frozen? ⟨y.heap.size, i, none⟩ = false) ∧ ∀ Y, Y = ((z.setCell ⟨y.heap.size, 0, none⟩ (.int .i64 sk)).setCell ⟨y.heap.size, 1, none⟩ (.int .i64 sf)).setCell ⟨y.heap.size, 2, none⟩ (.int .u64 (sm : Int)) → G w4 Y ∧ (w4.heap.size ≤ y.heap.size ∧ G w4 Y ∧ Y.cell? ⟨y.heap.size, 0, none⟩ = some (.int .i64 sk) ∧ Y.cell? ⟨y.heap.size, 1, none⟩ = some (.int .i64 sf) ∧ Y.cell? ⟨y.heap.size, 2, none⟩ = some (.int .u64 (sm : Int)))) := hide fun y z gy gz => by
      have e0 := (gz.block y.heap.size (by rw [World.size_alloc]; omega)).trans (heap_alloc_new y (.cells #[.int .i64 0, .int .i64 0, .int .u64 0] 59))
      have c0 : z.cell? ⟨y.heap.size, 0, none⟩ = some (.int .i64 0) := by rw [cell_of_row _ _ _ _ _ _ e0]; rfl
      have c1 : z.cell? ⟨y.heap.size, 1, none⟩ = some (.int .i64 0) := by rw [cell_of_row _ _ _ _ _ _ e0]; rfl
      have c2 : z.cell? ⟨y.heap.size, 2, none⟩ = some (.int .u64 0) := by rw [cell_of_row _ _ _ _ _ _ e0]; rfl
      refine ⟨c0, c1, c2, fun i => by simp [World.frozen?, e0], fun Y hY => ?_⟩
      have gs := gy.size
      have gY : G w4 Y := by rw [hY]; exact G.set (G.set (G.set ((gy.more _).trans gz) _ _ gs) _ _ gs) _ _ gs
      have o : ∀ (y' : World) (i j : Nat) (v u : Value), i ≠ j → y'.cell? ⟨y.heap.size, i, none⟩ = some u → (y'.setCell ⟨y.heap.size, j, none⟩ v).cell? ⟨y.heap.size, i, none⟩ = some u := fun y' i j v u hn h => by rw [cell_other _ (Or.inr hn)]; exact h
      have q1 := cell_same (.int .i64 sk) c0
      have q2 := cell_same (.int .i64 sf) (o _ 1 0 (.int .i64 sk) _ (by decide) c1)
      have q3 := cell_same (.int .u64 (sm : Int)) (o _ 2 1 (.int .i64 sf) _ (by decide) (o _ 2 0 (.int .i64 sk) _ (by decide) c2))
      refine ⟨gY, gs, gY, ?_, ?_, ?_⟩
      · rw [hY]; exact o _ 0 2 _ _ (by decide) (o _ 0 1 _ _ (by decide) q1)
      · rw [hY]; exact o _ 1 2 _ _ (by decide) q2
      · rw [hY]; exact q3
    refine wp_region_noPanic ?_
    refine wp_region_held_drew (S := fun y => G w4 y) (by kernel_rfl) (G.drewN w4 1) (fun hHeld => ?_)
    obtain ⟨y1, hy1⟩ : ∃ y, y = w4.drew := ⟨_, rfl⟩
    rw [← hy1] at hHeld ⊢
    clear hy1
    refine wpAnyH_take (i := 0) (v := .pointer (some ⟨x.hb, 0, none⟩)) rfl (by kernel_rfl) (by kernel_rfl) (by kernel_rfl) (fun _ _ _ h => h) (Or.inl ⟨by rfl, fun w hSw => by go_simp⟩) (by assumption) ?_
    try simp only [Act.put, List.getElem_toArray, List.getElem_cons_zero, List.setIfInBounds_toArray, List.set_cons_zero, List.set_cons_succ]
    refine wpAnyH_take (i := 1) (v := .pointer (some ⟨x.hb, 0, none⟩)) rfl (by kernel_rfl) (by kernel_rfl) (by kernel_rfl) (fun _ _ _ h => h) (Or.inl ⟨by rfl, fun w hSw => by go_simp⟩) (by assumption) ?_
    try simp only [Act.put, List.getElem_toArray, List.getElem_cons_succ, List.getElem_cons_zero, List.setIfInBounds_toArray, List.set_cons_zero, List.set_cons_succ]
    refine wpAnyH_take (i := 2) (v := .pointer (some ⟨x.hb, 0, none⟩)) rfl (by kernel_rfl) (by kernel_rfl) (by kernel_rfl) (fun _ _ _ h => h) (Or.inl ⟨by rfl, fun w hSw => by go_simp⟩) (by assumption) ?_
    try simp only [Act.put, List.getElem_toArray, List.getElem_cons_succ, List.getElem_cons_zero, List.setIfInBounds_toArray, List.set_cons_zero, List.set_cons_succ]
    refine wpAnyH_take (i := 3) (v := .pointer (some ⟨x.b.cb, 0, none⟩)) rfl (by kernel_rfl) (by kernel_rfl) (by kernel_rfl) (fun _ _ _ h => h) (Or.inl ⟨by rfl, fun w hSw => by have t0 := unhide HB0 w ((unhide g14).trans hSw); go_simp⟩) (by assumption) ?_
    try simp only [Act.put, List.getElem_toArray, List.getElem_cons_succ, List.getElem_cons_zero, List.setIfInBounds_toArray, List.set_cons_zero, List.set_cons_succ]
    refine wpAnyH_take (i := 5) (v := .pointer (some ⟨w3.heap.size, 2, none⟩)) rfl (by kernel_rfl) (by kernel_rfl) (by kernel_rfl) (fun _ _ _ h => h) (Or.inl ⟨by rfl, fun w hSw => by go_simp⟩) (by assumption) ?_
    try simp only [Act.put, List.getElem_toArray, List.getElem_cons_succ, List.getElem_cons_zero, List.setIfInBounds_toArray, List.set_cons_zero, List.set_cons_succ]
    refine wpAnyH_take (i := 6) (v := .int .i64 (k : Int)) rfl (by kernel_rfl) (by kernel_rfl) (by kernel_rfl) (fun _ _ _ h => h) (Or.inl ⟨by rfl, fun w hSw => by have t0 := (unhide UB w hSw).2.2; go_simp⟩) (by assumption) ?_
    try simp only [Act.put, List.getElem_toArray, List.getElem_cons_succ, List.getElem_cons_zero, List.setIfInBounds_toArray, List.set_cons_zero, List.set_cons_succ]
    refine wpAnyH_ready (rs := [4, 11]) (by kernel_rfl) (by simp) ?_
    refine AllReadyH.cons rfl (fun K hK => ?_) (AllReadyH.cons rfl (fun K hK => ?_) AllReadyH.nil)
    · skip
      go_simp
      refine (unhide TBL y1 ((unhide g14).trans hHeld)).mono ?_
      rintro e w9 ⟨rfl, hw9⟩
      rw [hw9]
      clear hw9 w9
      go_wp2_with fail
      refine hK.out _ _ hHeld (fun hH9 => ?_)
      clear hK K hH9
      try simp only [Act.put, List.getElem_toArray, List.getElem_cons_succ, List.getElem_cons_zero, List.setIfInBounds_toArray, List.set_cons_zero, List.set_cons_succ]
      refine wpAnyH_ready (rs := [7, 11]) (by kernel_rfl) (by simp) ?_
      refine AllReadyH.cons rfl (fun K hK => ?_) (AllReadyH.cons rfl (fun K hK => ?_) AllReadyH.nil)
      · skip
        go_simp
        refine (unhide hsh y1 ((unhide g14).trans hHeld)).mono ?_
        rintro e y2 ⟨rfl, y2g⟩
        go_wp2_with fail
        have hH2 := hHeld.trans y2g
        refine hK.out _ _ hH2 (fun hH9 => ?_)
        clear hK K hH9
        try simp only [Act.put, List.getElem_toArray, List.getElem_cons_succ, List.getElem_cons_zero, List.setIfInBounds_toArray, List.set_cons_zero, List.set_cons_succ]
        refine wpAnyH_take (i := 8) (v := .tuple #[.agg #[.int .i64 sk, .int .i64 sf, .int .u64 (sm : Int)], .int .i64 er]) rfl (by kernel_rfl) (by kernel_rfl) (by kernel_rfl) (fun _ _ _ h => h) (Or.inl ⟨by rfl, fun w hSw => by go_simp⟩) (by assumption) ?_
        try simp only [Act.put, List.getElem_toArray, List.getElem_cons_succ, List.getElem_cons_zero, List.setIfInBounds_toArray, List.set_cons_zero, List.set_cons_succ]
        refine wpAnyH_take (i := 9) (v := .agg #[.int .i64 sk, .int .i64 sf, .int .u64 (sm : Int)]) rfl (by kernel_rfl) (by kernel_rfl) (by kernel_rfl) (fun _ _ _ h => h) (Or.inl ⟨by rfl, fun w hSw => by go_simp⟩) (by assumption) ?_
        try simp only [Act.put, List.getElem_toArray, List.getElem_cons_succ, List.getElem_cons_zero, List.setIfInBounds_toArray, List.set_cons_zero, List.set_cons_succ]
        refine wpAnyH_take (i := 10) (v := .int .i64 er) rfl (by kernel_rfl) (by kernel_rfl) (by kernel_rfl) (fun _ _ _ h => h) (Or.inl ⟨by rfl, fun w hSw => by go_simp⟩) (by assumption) ?_
        try simp only [Act.put, List.getElem_toArray, List.getElem_cons_succ, List.getElem_cons_zero, List.setIfInBounds_toArray, List.set_cons_zero, List.set_cons_succ]
        refine wpAnyH_ready (rs := [11]) (by kernel_rfl) (by simp) ?_
        refine AllReadyH.cons rfl (fun K hK => ?_) AllReadyH.nil
        go_simp
        obtain ⟨y3, hy3⟩ : ∃ z, z = y2.alloc (.cells #[.int .i64 0, .int .i64 0, .int .u64 0] 59) := ⟨_, rfl⟩
        rw [← hy3]
        have y3a : G (y2.alloc (.cells #[.int .i64 0, .int .i64 0, .int .u64 0] 59)) y3 := by rw [hy3]; exact G.refl _
        have hH3 : G w4 y3 := by rw [hy3]; exact hH2.more _
        refine hK.out _ _ hH3 (fun hH9 => ?_)
        clear hK K hH9 hy3
        try simp only [Act.put, List.getElem_toArray, List.getElem_cons_succ, List.getElem_cons_zero, List.setIfInBounds_toArray, List.set_cons_zero, List.set_cons_succ]
        obtain ⟨s0, s1, s2, s3, FIN⟩ := unhide ST y2 y3 hH2 y3a
        replace FIN := hide FIN
        refine wpAnyH_ready (rs := [12]) (by kernel_rfl) (by simp) ?_
        refine AllReadyH.cons rfl (fun K hK => ?_) AllReadyH.nil
        go_simp
        obtain ⟨Y, hY⟩ : ∃ Y, Y = ((y3.setCell ⟨y2.heap.size, 0, none⟩ (.int .i64 sk)).setCell ⟨y2.heap.size, 1, none⟩ (.int .i64 sf)).setCell ⟨y2.heap.size, 2, none⟩ (.int .u64 (sm : Int)) := ⟨_, rfl⟩
        obtain ⟨GY, RY⟩ := unhide FIN Y hY
        rw [← hY]
        refine hK.out _ _ GY (fun hH9 => ?_)
        clear hK K hH9 hY FIN
        try simp only [Act.put, List.getElem_toArray, List.getElem_cons_succ, List.getElem_cons_zero, List.setIfInBounds_toArray, List.set_cons_zero, List.set_cons_succ]
        refine wpAnyH_take (i := 13) (v := .int .i64 er) rfl (by kernel_rfl) (by kernel_rfl) (by kernel_rfl) (fun _ _ _ h => h) (Or.inl ⟨by rfl, fun w hSw => by go_simp⟩) (by assumption) ?_
        try simp only [Act.put, List.getElem_toArray, List.getElem_cons_succ, List.getElem_cons_zero, List.setIfInBounds_toArray, List.set_cons_zero, List.set_cons_succ]
        refine wpAnyH_done (by kernel_rfl) (NoPanic.normal ?_) _
        replace RY := hide RY
        clear s0 s1 s2 s3
        go_wp2_with fail
        go_meet
        exact ⟨y2.heap.size, rfl, rfl, RY⟩
      · skip
        go_simp
        obtain ⟨y2, hy2⟩ : ∃ z, z = y1.alloc (.cells #[.int .i64 0, .int .i64 0, .int .u64 0] 59) := ⟨_, rfl⟩
        rw [← hy2]
        have y2a : G (y1.alloc (.cells #[.int .i64 0, .int .i64 0, .int .u64 0] 59)) y2 := by rw [hy2]; exact G.refl _
        have hH2 : G w4 y2 := by rw [hy2]; exact hHeld.more _
        refine hK.out _ _ hH2 (fun hH9 => ?_)
        clear hK K hH9 hy2
        try simp only [Act.put, List.getElem_toArray, List.getElem_cons_succ, List.getElem_cons_zero, List.setIfInBounds_toArray, List.set_cons_zero, List.set_cons_succ]
        refine wpAnyH_ready (rs := [7]) (by kernel_rfl) (by simp) ?_
        refine AllReadyH.cons rfl (fun K hK => ?_) AllReadyH.nil
        go_simp
        refine (unhide hsh y2 ((unhide g14).trans hH2)).mono ?_
        rintro e y3 ⟨rfl, y3g⟩
        go_wp2_with fail
        have hH3 := hH2.trans y3g
        refine hK.out _ _ hH3 (fun hH9 => ?_)
        clear hK K hH9
        try simp only [Act.put, List.getElem_toArray, List.getElem_cons_succ, List.getElem_cons_zero, List.setIfInBounds_toArray, List.set_cons_zero, List.set_cons_succ]
        refine wpAnyH_take (i := 8) (v := .tuple #[.agg #[.int .i64 sk, .int .i64 sf, .int .u64 (sm : Int)], .int .i64 er]) rfl (by kernel_rfl) (by kernel_rfl) (by kernel_rfl) (fun _ _ _ h => h) (Or.inl ⟨by rfl, fun w hSw => by go_simp⟩) (by assumption) ?_
        try simp only [Act.put, List.getElem_toArray, List.getElem_cons_succ, List.getElem_cons_zero, List.setIfInBounds_toArray, List.set_cons_zero, List.set_cons_succ]
        refine wpAnyH_take (i := 9) (v := .agg #[.int .i64 sk, .int .i64 sf, .int .u64 (sm : Int)]) rfl (by kernel_rfl) (by kernel_rfl) (by kernel_rfl) (fun _ _ _ h => h) (Or.inl ⟨by rfl, fun w hSw => by go_simp⟩) (by assumption) ?_
        try simp only [Act.put, List.getElem_toArray, List.getElem_cons_succ, List.getElem_cons_zero, List.setIfInBounds_toArray, List.set_cons_zero, List.set_cons_succ]
        refine wpAnyH_take (i := 10) (v := .int .i64 er) rfl (by kernel_rfl) (by kernel_rfl) (by kernel_rfl) (fun _ _ _ h => h) (Or.inl ⟨by rfl, fun w hSw => by go_simp⟩) (by assumption) ?_
        try simp only [Act.put, List.getElem_toArray, List.getElem_cons_succ, List.getElem_cons_zero, List.setIfInBounds_toArray, List.set_cons_zero, List.set_cons_succ]
        obtain ⟨s0, s1, s2, s3, FIN⟩ := unhide ST y1 y3 hHeld (y2a.trans y3g)
        replace FIN := hide FIN
        refine wpAnyH_ready (rs := [12]) (by kernel_rfl) (by simp) ?_
        refine AllReadyH.cons rfl (fun K hK => ?_) AllReadyH.nil
        go_simp
        obtain ⟨Y, hY⟩ : ∃ Y, Y = ((y3.setCell ⟨y1.heap.size, 0, none⟩ (.int .i64 sk)).setCell ⟨y1.heap.size, 1, none⟩ (.int .i64 sf)).setCell ⟨y1.heap.size, 2, none⟩ (.int .u64 (sm : Int)) := ⟨_, rfl⟩
        obtain ⟨GY, RY⟩ := unhide FIN Y hY
        rw [← hY]
        refine hK.out _ _ GY (fun hH9 => ?_)
        clear hK K hH9 hY FIN
        try simp only [Act.put, List.getElem_toArray, List.getElem_cons_succ, List.getElem_cons_zero, List.setIfInBounds_toArray, List.set_cons_zero, List.set_cons_succ]
        refine wpAnyH_take (i := 13) (v := .int .i64 er) rfl (by kernel_rfl) (by kernel_rfl) (by kernel_rfl) (fun _ _ _ h => h) (Or.inl ⟨by rfl, fun w hSw => by go_simp⟩) (by assumption) ?_
        try simp only [Act.put, List.getElem_toArray, List.getElem_cons_succ, List.getElem_cons_zero, List.setIfInBounds_toArray, List.set_cons_zero, List.set_cons_succ]
        refine wpAnyH_done (by kernel_rfl) (NoPanic.normal ?_) _
        replace RY := hide RY
        clear s0 s1 s2 s3
        go_wp2_with fail
        go_meet
        exact ⟨y1.heap.size, rfl, rfl, RY⟩
    · skip
      go_simp
      obtain ⟨y2, hy2⟩ : ∃ z, z = y1.alloc (.cells #[.int .i64 0, .int .i64 0, .int .u64 0] 59) := ⟨_, rfl⟩
      rw [← hy2]
      have y2a : G (y1.alloc (.cells #[.int .i64 0, .int .i64 0, .int .u64 0] 59)) y2 := by rw [hy2]; exact G.refl _
      have hH2 : G w4 y2 := by rw [hy2]; exact hHeld.more _
      refine hK.out _ _ hH2 (fun hH9 => ?_)
      clear hK K hH9 hy2
      try simp only [Act.put, List.getElem_toArray, List.getElem_cons_succ, List.getElem_cons_zero, List.setIfInBounds_toArray, List.set_cons_zero, List.set_cons_succ]
      refine wpAnyH_ready (rs := [4]) (by kernel_rfl) (by simp) ?_
      refine AllReadyH.cons rfl (fun K hK => ?_) AllReadyH.nil
      go_simp
      refine (unhide TBL y2 ((unhide g14).trans hH2)).mono ?_
      rintro e w9 ⟨rfl, hw9⟩
      rw [hw9]
      clear hw9 w9
      go_wp2_with fail
      refine hK.out _ _ hH2 (fun hH9 => ?_)
      clear hK K hH9
      try simp only [Act.put, List.getElem_toArray, List.getElem_cons_succ, List.getElem_cons_zero, List.setIfInBounds_toArray, List.set_cons_zero, List.set_cons_succ]
      refine wpAnyH_ready (rs := [7]) (by kernel_rfl) (by simp) ?_
      refine AllReadyH.cons rfl (fun K hK => ?_) AllReadyH.nil
      go_simp
      refine (unhide hsh y2 ((unhide g14).trans hH2)).mono ?_
      rintro e y3 ⟨rfl, y3g⟩
      go_wp2_with fail
      have hH3 := hH2.trans y3g
      refine hK.out _ _ hH3 (fun hH9 => ?_)
      clear hK K hH9
      try simp only [Act.put, List.getElem_toArray, List.getElem_cons_succ, List.getElem_cons_zero, List.setIfInBounds_toArray, List.set_cons_zero, List.set_cons_succ]
      refine wpAnyH_take (i := 8) (v := .tuple #[.agg #[.int .i64 sk, .int .i64 sf, .int .u64 (sm : Int)], .int .i64 er]) rfl (by kernel_rfl) (by kernel_rfl) (by kernel_rfl) (fun _ _ _ h => h) (Or.inl ⟨by rfl, fun w hSw => by go_simp⟩) (by assumption) ?_
      try simp only [Act.put, List.getElem_toArray, List.getElem_cons_succ, List.getElem_cons_zero, List.setIfInBounds_toArray, List.set_cons_zero, List.set_cons_succ]
      refine wpAnyH_take (i := 9) (v := .agg #[.int .i64 sk, .int .i64 sf, .int .u64 (sm : Int)]) rfl (by kernel_rfl) (by kernel_rfl) (by kernel_rfl) (fun _ _ _ h => h) (Or.inl ⟨by rfl, fun w hSw => by go_simp⟩) (by assumption) ?_
      try simp only [Act.put, List.getElem_toArray, List.getElem_cons_succ, List.getElem_cons_zero, List.setIfInBounds_toArray, List.set_cons_zero, List.set_cons_succ]
      refine wpAnyH_take (i := 10) (v := .int .i64 er) rfl (by kernel_rfl) (by kernel_rfl) (by kernel_rfl) (fun _ _ _ h => h) (Or.inl ⟨by rfl, fun w hSw => by go_simp⟩) (by assumption) ?_
      try simp only [Act.put, List.getElem_toArray, List.getElem_cons_succ, List.getElem_cons_zero, List.setIfInBounds_toArray, List.set_cons_zero, List.set_cons_succ]
      obtain ⟨s0, s1, s2, s3, FIN⟩ := unhide ST y1 y3 hHeld (y2a.trans y3g)
      replace FIN := hide FIN
      refine wpAnyH_ready (rs := [12]) (by kernel_rfl) (by simp) ?_
      refine AllReadyH.cons rfl (fun K hK => ?_) AllReadyH.nil
      go_simp
      obtain ⟨Y, hY⟩ : ∃ Y, Y = ((y3.setCell ⟨y1.heap.size, 0, none⟩ (.int .i64 sk)).setCell ⟨y1.heap.size, 1, none⟩ (.int .i64 sf)).setCell ⟨y1.heap.size, 2, none⟩ (.int .u64 (sm : Int)) := ⟨_, rfl⟩
      obtain ⟨GY, RY⟩ := unhide FIN Y hY
      rw [← hY]
      refine hK.out _ _ GY (fun hH9 => ?_)
      clear hK K hH9 hY FIN
      try simp only [Act.put, List.getElem_toArray, List.getElem_cons_succ, List.getElem_cons_zero, List.setIfInBounds_toArray, List.set_cons_zero, List.set_cons_succ]
      refine wpAnyH_take (i := 13) (v := .int .i64 er) rfl (by kernel_rfl) (by kernel_rfl) (by kernel_rfl) (fun _ _ _ h => h) (Or.inl ⟨by rfl, fun w hSw => by go_simp⟩) (by assumption) ?_
      try simp only [Act.put, List.getElem_toArray, List.getElem_cons_succ, List.getElem_cons_zero, List.setIfInBounds_toArray, List.set_cons_zero, List.set_cons_succ]
      refine wpAnyH_done (by kernel_rfl) (NoPanic.normal ?_) _
      replace RY := hide RY
      clear s0 s1 s2 s3
      go_wp2_with fail
      go_meet
      exact ⟨y1.heap.size, rfl, rfl, RY⟩
  case rest =>
    obtain ⟨sB, rfl, rfl, HC⟩ := hcut
    obtain ⟨⟨a0, a1, a2, b0, b1, b2⟩, f0, f1⟩ := unhide BX wc ((unhide g14).trans (unhide HC).2.1)
    rcases unhide ERB with ⟨he, rfl⟩ | ⟨he, rfl⟩
    rotate_left
    · have NO2 := hide (unhide NO wc ((unhide g14).trans (unhide HC).2.1))
      clear BX NO ERB TBL HB0 hsh UB HC
      go_wp2_with fail
      obtain ⟨Y, hY⟩ : ∃ Y, Y = (((((wc.setCell ⟨w.heap.size, 0, none⟩ (.int .i64 0)).setCell ⟨w.heap.size, 1, none⟩ (.int .i64 0)).setCell ⟨w.heap.size, 2, none⟩ (.int .i64 0)).setCell ⟨w.heap.size + 1, 0, none⟩ (.int .i64 0)).setCell ⟨w.heap.size + 1, 1, none⟩ (.int .i64 0)).setCell ⟨w.heap.size + 1, 2, none⟩ (.int .u64 0) := ⟨_, rfl⟩
      obtain ⟨⟨y0, y1, y2, y3, y4, y5⟩, gY⟩ := unhide NO2 Y hY
      rw [← hY]
      refine bodyPost_ret (by simp [results, Tryz.results48, go_sem, y0, y1, y2, y3, y4, y5]; try rfl) rfl ?_
      exact ⟨rfl, gY⟩
    · obtain ⟨q0, q1, q2⟩ := unhide UB wc (unhide HC).2.1
      obtain ⟨lB, _, r0, r1, r2⟩ := unhide HC
      have hlt0 : w.heap.size < wc.heap.size := World.block_lt_of_cell? wc _ a0
      have hlt1 : w.heap.size + 1 < wc.heap.size := World.block_lt_of_cell? wc _ b0
      have YES : Hid ((((((((wc.setCell ⟨w.heap.size, 0, none⟩ (.int .i64 u0)).setCell ⟨w.heap.size, 1, none⟩ (.int .i64 u1)).setCell ⟨w.heap.size, 2, none⟩ (.int .i64 (k : Int))).setCell ⟨w.heap.size + 1, 0, none⟩ (.int .i64 sk)).setCell ⟨w.heap.size + 1, 1, none⟩ (.int .i64 sf)).setCell ⟨w.heap.size + 1, 2, none⟩ (.int .u64 (sm : Int))).drew.cell? ⟨w.heap.size, 0, none⟩ = some (.int .i64 u0) ∧ ((((((wc.setCell ⟨w.heap.size, 0, none⟩ (.int .i64 u0)).setCell ⟨w.heap.size, 1, none⟩ (.int .i64 u1)).setCell ⟨w.heap.size, 2, none⟩ (.int .i64 (k : Int))).setCell ⟨w.heap.size + 1, 0, none⟩ (.int .i64 sk)).setCell ⟨w.heap.size + 1, 1, none⟩ (.int .i64 sf)).setCell ⟨w.heap.size + 1, 2, none⟩ (.int .u64 (sm : Int))).drew.cell? ⟨w.heap.size, 1, none⟩ = some (.int .i64 u1) ∧ ((((((wc.setCell ⟨w.heap.size, 0, none⟩ (.int .i64 u0)).setCell ⟨w.heap.size, 1, none⟩ (.int .i64 u1)).setCell ⟨w.heap.size, 2, none⟩ (.int .i64 (k : Int))).setCell ⟨w.heap.size + 1, 0, none⟩ (.int .i64 sk)).setCell ⟨w.heap.size + 1, 1, none⟩ (.int .i64 sf)).setCell ⟨w.heap.size + 1, 2, none⟩ (.int .u64 (sm : Int))).drew.cell? ⟨w.heap.size, 2, none⟩ = some (.int .i64 (k : Int)) ∧ ((((((wc.setCell ⟨w.heap.size, 0, none⟩ (.int .i64 u0)).setCell ⟨w.heap.size, 1, none⟩ (.int .i64 u1)).setCell ⟨w.heap.size, 2, none⟩ (.int .i64 (k : Int))).setCell ⟨w.heap.size + 1, 0, none⟩ (.int .i64 sk)).setCell ⟨w.heap.size + 1, 1, none⟩ (.int .i64 sf)).setCell ⟨w.heap.size + 1, 2, none⟩ (.int .u64 (sm : Int))).drew.cell? ⟨w.heap.size + 1, 0, none⟩ = some (.int .i64 sk) ∧ ((((((wc.setCell ⟨w.heap.size, 0, none⟩ (.int .i64 u0)).setCell ⟨w.heap.size, 1, none⟩ (.int .i64 u1)).setCell ⟨w.heap.size, 2, none⟩ (.int .i64 (k : Int))).setCell ⟨w.heap.size + 1, 0, none⟩ (.int .i64 sk)).setCell ⟨w.heap.size + 1, 1, none⟩ (.int .i64 sf)).setCell ⟨w.heap.size + 1, 2, none⟩ (.int .u64 (sm : Int))).drew.cell? ⟨w.heap.size + 1, 1, none⟩ = some (.int .i64 sf) ∧ ((((((wc.setCell ⟨w.heap.size, 0, none⟩ (.int .i64 u0)).setCell ⟨w.heap.size, 1, none⟩ (.int .i64 u1)).setCell ⟨w.heap.size, 2, none⟩ (.int .i64 (k : Int))).setCell ⟨w.heap.size + 1, 0, none⟩ (.int .i64 sk)).setCell ⟨w.heap.size + 1, 1, none⟩ (.int .i64 sf)).setCell ⟨w.heap.size + 1, 2, none⟩ (.int .u64 (sm : Int))).drew.cell? ⟨w.heap.size + 1, 2, none⟩ = some (.int .u64 (sm : Int))) ∧ G w ((((((wc.setCell ⟨w.heap.size, 0, none⟩ (.int .i64 u0)).setCell ⟨w.heap.size, 1, none⟩ (.int .i64 u1)).setCell ⟨w.heap.size, 2, none⟩ (.int .i64 (k : Int))).setCell ⟨w.heap.size + 1, 0, none⟩ (.int .i64 sk)).setCell ⟨w.heap.size + 1, 1, none⟩ (.int .i64 sf)).setCell ⟨w.heap.size + 1, 2, none⟩ (.int .u64 (sm : Int))).drew) := hide (by
        obtain ⟨Y, hY⟩ : ∃ Y, Y = (((((wc.setCell ⟨w.heap.size, 0, none⟩ (.int .i64 u0)).setCell ⟨w.heap.size, 1, none⟩ (.int .i64 u1)).setCell ⟨w.heap.size, 2, none⟩ (.int .i64 (k : Int))).setCell ⟨w.heap.size + 1, 0, none⟩ (.int .i64 sk)).setCell ⟨w.heap.size + 1, 1, none⟩ (.int .i64 sf)).setCell ⟨w.heap.size + 1, 2, none⟩ (.int .u64 (sm : Int)) := ⟨_, rfl⟩
        obtain ⟨z0, z1, z2, z3, z4, z5, z6⟩ := put6 (Nat.le_refl _) ((unhide GW).trans ((unhide g14).trans (unhide HC).2.1)) a0 a1 a2 b0 b1 b2 _ _ _ _ _ _ Y hY
        rw [← hY]
        exact ⟨⟨z0, z1, z2, z3, z4, z5⟩, z6.drew⟩)
      have nB0 : w3.heap.size ≠ w.heap.size := by have := unhide NW3; omega
      have nB1 : w3.heap.size ≠ w.heap.size + 1 := by have := unhide NW3; omega
      have gs4 := (unhide g14).size
      have hs3 : w3.heap.size < w4.heap.size := by
        obtain ⟨p0, _⟩ := unhide UB w4 (G.refl _)
        exact World.block_lt_of_cell? w4 _ p0
      have nC0 : sB ≠ w.heap.size := by have := unhide NW3; omega
      have nC1 : sB ≠ w.heap.size + 1 := by have := unhide NW3; omega
      clear BX NO ERB TBL HB0 hsh UB HC lB gs4 hs3
      go_upto_region 10 with fail
      go_cut [6] (fun v6 wx => v6 = .bool true ∧ Hid ((wx.cell? ⟨w.heap.size, 0, none⟩ = some (.int .i64 u0) ∧ wx.cell? ⟨w.heap.size, 1, none⟩ = some (.int .i64 u1) ∧ wx.cell? ⟨w.heap.size, 2, none⟩ = some (.int .i64 (k : Int)) ∧ wx.cell? ⟨w.heap.size + 1, 0, none⟩ = some (.int .i64 sk) ∧ wx.cell? ⟨w.heap.size + 1, 1, none⟩ = some (.int .i64 sf) ∧ wx.cell? ⟨w.heap.size + 1, 2, none⟩ = some (.int .u64 (sm : Int))) ∧ G w wx))
      case first =>
        go_region
        all_goals
          go_wp2_with fail
          go_meet
          exact ⟨rfl, YES⟩
      case rest =>
        obtain ⟨rfl, HE⟩ := hcut
        obtain ⟨⟨y0, y1, y2, y3, y4, y5⟩, gY⟩ := unhide HE
        go_wp2_with fail
        refine bodyPost_ret (by simp [results, Tryz.results48, go_sem, y0, y1, y2, y3, y4, y5]; try rfl) rfl ?_
        exact ⟨rfl, gY⟩
theorem h_of (h : Hid (HS W w x al l n ao cap nv c)) (a : Int) : Calls Tryz.prog 48 #[.pointer (some ⟨x.hb, 0, none⟩), .int .i64 a] w fun e w' => e = .returned (ofV (ofP al l a)) ∧ G w w' :=
  hb_of (hide (unhide h).hB) a
end
end Go.Proofs.YtgflkpccddfalaaGreatDoor

/- Package heap: Get, At, Len, Set, Put. -/
namespace Go.Proofs.YtgflkpccddfalaaGreatDoor
set_option maxRecDepth 100000
open Go.ChangeShapes Go.WideShapes Go.ChangeAt Go.RowKit Go.Maps Go.Deep

theorem ofP_some {al : Al} {l : List Hd.Shp} {a wd kd nm : Int} {s : Hd.Shp} (h : ofP al l a = some (wd, kd, nm, s)) : (1 ≤ wd ∧ wd ≤ 64) ∧ s ∈ l := by
  unfold ofP at h
  split at h
  · split at h
    · rename_i hu
      split at h
      · rename_i s' hs
        simp only [Option.some.injEq, Prod.mk.injEq] at h
        obtain ⟨rfl, rfl, rfl, rfl⟩ := h
        refine ⟨?_, List.mem_of_getElem? hs⟩
        unfold Hd.uokB Hd.hokB Hd.inB at hu
        simp at hu
        omega
      · cases h
    · cases h
  · cases h
def getT (al : Al) (l : List Hd.Shp) (a f : Int) (ad : Bool) : Int × Int := match ofP al l a with
  | none => (0, 1)
  | some (wd, kd, _, s) => if kd = 0 ∧ hfB wd s.f f = true ∧ Hd.holdsB s.k s.m f wd = ad then rdT al a f 1 else (0, 1)
def atT (al : Al) (l : List Hd.Shp) (a i : Int) (ad : Bool) : Int × Int := match ofP al l a with
  | none => (0, 1)
  | some (wd, kd, _, s) => if kd = 1 ∧ Hd.holdsB s.k s.m 0 2 = ad then (if i < 0 ∨ wd - 1 ≤ i then (0, 2) else rdT al a i 2) else (0, 1)
def lenT (al : Al) (l : List Hd.Shp) (a : Int) : Int × Int := match ofP al l a with
  | none => (0, 1)
  | some (wd, kd, _, _) => if kd = 1 then (wd - 1, 0) else (0, 1)
theorem two_box (w1 : World) (wd kd nm sk sf : Int) (sm : Nat) (W2 : World) (hW2 : W2 = (w1.alloc (.cells #[.int .i64 wd, .int .i64 kd, .int .i64 nm] 112)).alloc (.cells #[.int .i64 sk, .int .i64 sf, .int .u64 (sm : Int)] 59)) : G w1 W2 ∧ ∀ y, G W2 y → (y.cell? ⟨w1.heap.size, 0, none⟩ = some (.int .i64 wd) ∧ y.cell? ⟨w1.heap.size, 1, none⟩ = some (.int .i64 kd) ∧ y.cell? ⟨w1.heap.size, 2, none⟩ = some (.int .i64 nm)) ∧ (y.cell? ⟨w1.heap.size + 1, 0, none⟩ = some (.int .i64 sk) ∧ y.cell? ⟨w1.heap.size + 1, 1, none⟩ = some (.int .i64 sf) ∧ y.cell? ⟨w1.heap.size + 1, 2, none⟩ = some (.int .u64 (sm : Int))) := by
  refine ⟨by rw [hW2]; exact ((G.refl w1).more _).more _, fun y g => ⟨⟨g.cell ?_, g.cell ?_, g.cell ?_⟩, ⟨g.cell ?_, g.cell ?_, g.cell ?_⟩⟩⟩
  all_goals (rw [hW2]; simp [go_sem])
section
variable {W w : World} {x : Hx} {al : Al} {l : List Hd.Shp} {n : Nat} {ao : Option Addr} {cap : Nat} {nv : Value} {c : Nat → Nat}
end
end Go.Proofs.YtgflkpccddfalaaGreatDoor

/- Package heap: take, first, Make, while there is room. -/
namespace Go.Proofs.YtgflkpccddfalaaGreatDoor
set_option maxRecDepth 100000
open Go.ChangeShapes Go.WideShapes Go.ChangeAt Go.RowKit Go.Maps Go.Deep

section
variable {W w : World} {x : Hx} {al : Al} {l : List Hd.Shp} {n : Nat} {ao : Option Addr} {cap : Nat} {nv : Value} {c : Nat → Nat}
theorem hs_takeK (h : Hid (HS W w x al l n ao cap nv c)) (m v : Int) (al' : Al) (hR : Hid (al.take m = (al', v, 0))) : Calls Tryz.prog 45 #[.pointer (some ⟨x.b.cb, 0, none⟩), .int .i64 m] w fun r w' => r = .returned (.tuple #[.int .i64 v, .int .i64 0]) ∧ HS W w' x al' l n ao cap nv c ∧ Kp3 w c w' := by
  have c1 := (unhide h).ks.c1
  have C := hide (l_take (hide (unhide h).ks.st) m)
  rw [unhide hR] at C
  simp only at C
  go_enter Tryz.func45, Tryz.ntmps45
  go_wp2_with fail
  refine (unhide C).mono ?_
  rintro r w1 ⟨rfl, s1, t1⟩
  have h1 := hide ((unhide h).turn s1 t1)
  have p1 := hide ((unhide h).kp t1)
  have C2 := hide (k_shades (hide (unhide h1).ks))
  simp only [show ((0 : Int) == 1 || (0 : Int) == 2) = false from rfl] at C2
  clear C s1 t1
  go_wp2_with fail
  refine (unhide C2).mono ?_
  rintro r w2 ⟨rfl, hw2⟩
  rw [hw2]
  clear C2 hw2 w2
  go_wp2_with fail
  go_ret2
  exact ⟨rfl, unhide h1, unhide p1⟩
theorem h_takeK (h : Hid (HS W w x al l n ao cap nv c)) (m v : Int) (al' : Al) (hR : Hid (al.take m = (al', v, 0))) (rv : Value) : Calls Tryz.prog 27 #[.pointer (some ⟨x.hb, 0, none⟩), .int .i64 m, rv] w fun r w' => r = .returned (.tuple #[.int .i64 v, .int .i64 0]) ∧ HS W w' x al' l n ao cap nv c ∧ Kp3 w c w' := by
  have h0 := (unhide h).h0
  have C := hide (hs_takeK h m v al' hR)
  clear hR h
  go_enter Tryz.func27, Tryz.ntmps27
  go_wp2_with fail
  refine (unhide C).mono ?_
  rintro r w1 ⟨rfl, S1, p1⟩
  replace S1 := hide S1
  replace p1 := hide p1
  clear C
  go_wp2_with fail
  go_ret2
  exact ⟨rfl, unhide S1, unhide p1⟩
theorem NrAt.get {B : Nat} {v : Value} (h : NrAt w B v n) (k : Nat) (hk : k < n) : ∃ g cp, v = .slice (some ⟨g, 0, none⟩) n cp ∧ w.cell? ⟨g, k, none⟩ = some (.int .i64 (k : Int)) := by
  rcases h.2 with ⟨_, e⟩ | ⟨g, cp, cur, e, _, h3, _, _, _, h7⟩
  · omega
  · refine ⟨g, cp, e, ?_⟩
    rw [cell_of_row _ _ _ _ _ _ h3]
    have h8 : (nrL n)[k]? = some (.int .i64 (k : Int)) := by
      unfold nrL
      rw [List.getElem?_map, List.getElem?_range hk]
      rfl
    rw [← h7, List.getElem?_take] at h8
    split at h8
    · simpa using h8
    · cases h8
theorem NrAt.shape {B : Nat} {v : Value} (h : NrAt w B v n) : ∃ ao cp, v = .slice ao n cp := by
  rcases h.2 with ⟨e, e2⟩ | ⟨g, cp, cur, e, _⟩
  · exact ⟨none, 0, by rw [e, e2]⟩
  · exact ⟨_, cp, e⟩
theorem h_first (h : Hid (HS W w x al l n ao cap nv c)) (k : Nat) (hk : k < n) (s : Hd.Shp) (hs : l[k]? = some s) (wd : Int) : Calls Tryz.prog 28 #[.pointer (some ⟨x.hb, 0, none⟩), .int .i64 (k : Int), .int .i64 wd] w fun r w' => r = .returned (.int .i64 (Hd.pkV wd s.k (k : Int))) ∧ G w w' := by
  obtain ⟨g, cp, hv, ck⟩ := (unhide h).num.get k hk
  have h0 := (unhide h).h0
  have h1 := (unhide h).h1
  rw [hv] at h1
  have CT := hide (k_table (hide (unhide h).ks))
  have CS := hide (Hd.shape_yes w _ _ _ _ _ l (unhide h).tab k s hs)
  have hkI : (k : Int) < (n : Int) := by omega
  have hk0 : (0 : Int) ≤ (k : Int) := by omega
  obtain ⟨sk, hsk⟩ : ∃ sk, sk = s.k := ⟨_, rfl⟩
  generalize s.f = sf at CS
  generalize s.m = sm at CS
  rw [← hsk] at CS ⊢
  have CP := hide (fun y => Hd.pack_any wd sk (k : Int) y)
  generalize Hd.pkV wd sk (k : Int) = pv at CP ⊢
  generalize Hd.pkE wd sk (k : Int) = pe at CP
  clear h hs hsk hv hk
  go_enter Tryz.func28, Tryz.ntmps28
  go_wp2_with fail
  refine (unhide CT).mono ?_
  rintro r w1 ⟨rfl, hw1⟩
  rw [hw1]
  clear hw1 w1 CT
  go_wp2_with fail
  refine (unhide CS).mono ?_
  rintro r w2 ⟨rfl, g2⟩
  clear CS
  go_upto_region 3 with fail
  obtain ⟨w3, hw3⟩ : ∃ w3, w3 = w2.alloc (.cells #[.int .i64 sk, .int .i64 sf, .int .u64 (sm : Int)] 59) := ⟨_, rfl⟩
  rw [← hw3]
  have q0 : w3.cell? ⟨w2.heap.size, 0, none⟩ = some (.int .i64 sk) := by rw [hw3]; simp [go_sem]
  have g3 := hide (g2.trans (show G w2 w3 by rw [hw3]; exact G.alloc _ _))
  clear hw3 g2
  go_wp2_with fail
  refine (unhide CP w3).mono ?_
  rintro r w4 ⟨rfl, hw4⟩
  have g4 := hide ((unhide g3).trans (show G w3 w4 by rw [hw4]; exact G.alloc _ _))
  clear hw4 CP g3
  go_wp2_with fail
  go_ret
  exact ⟨rfl, unhide g4⟩
theorem h_make_bad (h : Hid (HS W w x al l n ao cap nv c)) (k wd : Int) (hb : k < 0 ∨ (n : Int) ≤ k ∨ wd < 1 ∨ 64 < wd) (rv : Value) : Calls Tryz.prog 8 #[.pointer (some ⟨x.hb, 0, none⟩), .int .i64 k, .int .i64 wd, rv] w fun r w' => r = .returned (.tuple #[.int .i64 0, .int .i64 1]) ∧ w' = w := by
  obtain ⟨ao', cp, hv⟩ := (unhide h).num.shape
  have h1 := (unhide h).h1
  rw [hv] at h1
  clear h hv
  by_cases a1 : k < 0
  · clear hb
    go_enter Tryz.func8, Tryz.ntmps8
    go_wp2_with fail
    go_ret2
    exact ⟨rfl, rfl⟩
  by_cases a2 : (n : Int) ≤ k
  · clear hb
    go_enter Tryz.func8, Tryz.ntmps8
    go_wp2_with fail
    go_ret2
    exact ⟨rfl, rfl⟩
  by_cases a3 : wd < 1
  · clear hb
    go_enter Tryz.func8, Tryz.ntmps8
    go_wp2_with fail
    go_ret2
    exact ⟨rfl, rfl⟩
  have a4 : 64 < wd := by omega
  clear hb
  go_enter Tryz.func8, Tryz.ntmps8
  go_wp2_with fail
  go_ret2
  exact ⟨rfl, rfl⟩
set_option maxHeartbeats 1000000 in
theorem h_makeK (h : Hid (HS W w x al l n ao cap nv c)) (k : Nat) (hk : k < n) (s : Hd.Shp) (hs : l[k]? = some s) (wd v : Int) (hw1 : 1 ≤ wd) (hw2 : wd ≤ 64) (al' : Al) (hR : Hid (al.take wd = (al', v, 0))) (rv : Value) : Calls Tryz.prog 8 #[.pointer (some ⟨x.hb, 0, none⟩), .int .i64 (k : Int), .int .i64 wd, rv] w fun r w' => r = .returned (.tuple #[.int .i64 v, .int .i64 0]) ∧ HS W w' x ⟨al'.a.writeA v 0 (Hd.pkV wd s.k (k : Int)), al'.u⟩ l n ao cap nv c ∧ Kp3 w c w' := by
  obtain ⟨ao', cp, hv⟩ := (unhide h).num.shape
  have h1 := (unhide h).h1
  rw [hv] at h1
  have CT := hide (h_takeK h wd v al' hR rv)
  have CF : Hid (∀ y, HS W y x al' l n ao cap nv c → Calls Tryz.prog 28 #[.pointer (some ⟨x.hb, 0, none⟩), .int .i64 (k : Int), .int .i64 wd] y fun r w' => r = .returned (.int .i64 (Hd.pkV wd s.k (k : Int))) ∧ G y w') := hide fun y hy => h_first (hide hy) k hk s hs wd
  have hk0 : ¬ (k : Int) < 0 := by omega
  have hkn : ¬ (n : Int) ≤ (k : Int) := by omega
  have hw1' : ¬ wd < 1 := by omega
  have hw2' : ¬ 64 < wd := by omega
  generalize Hd.pkV wd s.k (k : Int) = pv at CF ⊢
  clear h hv hR hs hw1 hw2 hk
  go_enter Tryz.func8, Tryz.ntmps8
  go_wp2_with fail
  refine (unhide CT).mono ?_
  rintro r w1 ⟨rfl, S1, p1⟩
  replace p1 := hide p1
  have q0 := S1.h0
  have CA := hide (k_arena (hide S1.ks))
  have CF1 := hide (unhide CF w1 S1)
  replace S1 := hide S1
  clear CT CF h1
  go_wp2_with fail
  refine (unhide CA).mono ?_
  rintro r w2 ⟨rfl, hw2⟩
  rw [hw2]
  clear hw2 w2 CA
  go_wp2_with fail
  refine (unhide CF1).mono ?_
  rintro r w3 ⟨rfl, g3⟩
  have S3 := (unhide S1).gr g3
  have CW : Hid (Calls Tryz.prog 26 #[.pointer (some ⟨x.xl.d.ab, 0, none⟩), .int .i64 v, .int .i64 0, .int .i64 pv] w3 fun e w' => (∃ r, e = .returned (.int .i64 r)) ∧ Hid (HS W w' x ⟨al'.a.writeA v 0 pv, al'.u⟩ l n ao cap nv c ∧ Kp3 w c w')) := hide ((ls_write (hide S3.ks.st) v 0 pv).mono fun _ _ hh => ⟨⟨_, hh.1⟩, hide ⟨S3.turn hh.2.1 hh.2.2, (unhide p1).trans ((Kp3.of_G g3).trans (S3.kp hh.2.2))⟩⟩)
  clear CF1 g3 S3 S1 q0 p1
  go_wp2_with fail
  refine (unhide CW).mono ?_
  rintro r w4 ⟨⟨r4, rfl⟩, S4⟩
  clear CW
  go_wp2_with fail
  go_ret2
  exact ⟨rfl, unhide S4⟩
theorem h_make (h : Hid (HS W w x al l n ao cap nv c)) (k : Nat) (hk : k < n) (s : Hd.Shp) (hs : l[k]? = some s) (wd v : Int) (hw1 : 1 ≤ wd) (hw2 : wd ≤ 64) (al' : Al) (hR : Hid (al.take wd = (al', v, 0))) (rv : Value) : Calls Tryz.prog 8 #[.pointer (some ⟨x.hb, 0, none⟩), .int .i64 (k : Int), .int .i64 wd, rv] w fun r w' => r = .returned (.tuple #[.int .i64 v, .int .i64 0]) ∧ HS W w' x ⟨al'.a.writeA v 0 (Hd.pkV wd s.k (k : Int)), al'.u⟩ l n ao cap nv c :=
  (h_makeK h k hk s hs wd v hw1 hw2 al' hR rv).mono fun _ _ hh => ⟨hh.1, hh.2.1⟩
end
end Go.Proofs.YtgflkpccddfalaaGreatDoor

/- PLAIN: channels in an arena's words (chapter 15): what is in one, put in, taken out, closed. -/
namespace Go.Proofs.YtgflkpccddfalaaGreatDoor
set_option maxRecDepth 100000
open Go.ChangeShapes Go.WideShapes Go.ChangeAt Go.RowKit Go.Maps

theorem wd_write (a : Ab) (p v y : Int) : (a.write p v).wd y = if y = p then v else a.wd y := rfl
theorem wd_same (a : Ab) (p v : Int) : (a.write p v).wd p = v := if_pos rfl
theorem wd_other (a : Ab) {p v y : Int} (h : y ≠ p) : (a.write p v).wd y = a.wd y := if_neg h
theorem inW_write (a : Ab) (p v x i : Int) : (a.write p v).inW x i = a.inW x i := rfl
theorem ofP_write {al : Al} {l : List Hd.Shp} {a p v : Int} (h : p ≠ a) : ofP ⟨al.a.write p v, al.u⟩ l a = ofP al l a := by
  have h1 : (al.a.write p v).readE a 0 = al.a.readE a 0 := rfl
  have h2 : (al.a.write p v).readV a 0 = al.a.readV a 0 := by
    unfold Ab.readV
    rw [inW_write]
    have : (al.a.write p v).wd (a + 0) = al.a.wd (a + 0) := wd_other _ (by omega)
    rw [this]
  unfold ofP
  simp only
  rw [h1, h2]
/-- A channel: its room, whether its elements are addresses. -/
structure Cz (al : Al) (l : List Hd.Shp) (a : Int) (R : Nat) (adr : Bool) : Prop where
  of_ : ∃ sh s, ofP al l a = some ((R : Int) + 5, 3, sh, s) ∧ Hd.holdsB s.k s.m 4 6 = adr
  inw : ∀ j : Nat, j < R + 5 → al.a.inW a (j : Int) = true
  room : al.a.wd (a + 1) = (R : Int)
  r0 : R ≤ 59
/-- What is in it: f: where the first one is. -/
structure Cq (b : Ab) (a : Int) (R f : Nat) (q : List Int) (cl : Bool) : Prop where
  cnt : b.wd (a + 2) = (q.length : Int)
  fst : b.wd (a + 3) = (f : Int)
  shut : b.wd (a + 4) = if cl = true then 1 else 0
  len : q.length ≤ R
  fR : f ≤ R
  fl : 0 < R → f < R
  at_ : ∀ i v, q[i]? = some v → b.wd (a + (5 + ((f + i) % R : Nat))) = v
section
variable {al : Al} {l : List Hd.Shp} {a : Int} {R f : Nat} {adr cl : Bool} {q : List Int} {b : Ab}
theorem Cz.write (h : Cz al l a R adr) {p v : Int} (h0 : p ≠ a) (h1 : p ≠ a + 1) : Cz ⟨al.a.write p v, al.u⟩ l a R adr :=
  ⟨by rw [ofP_write h0]; exact h.of_, h.inw, (wd_other _ (Ne.symm h1)).trans h.room, h.r0⟩
theorem Cq.other (h : Cq b a R f q cl) {p v : Int} (hp : p < a ∨ a + (5 + (R : Int)) ≤ p) : Cq (b.write p v) a R f q cl := by
  refine ⟨(wd_other _ (by omega)).trans h.cnt, (wd_other _ (by omega)).trans h.fst, (wd_other _ (by omega)).trans h.shut, h.len, h.fR, h.fl, fun i u hi => (wd_other _ ?_).trans (h.at_ i u hi)⟩
  have hlt : i < q.length := (List.getElem?_eq_some_iff.1 hi).1
  have hm : (f + i) % R < R := Nat.mod_lt _ (by have := h.len; omega)
  omega
/-- One more is put in. -/
def pushB (b : Ab) (a : Int) (R f n : Nat) (v : Int) : Ab := (b.write (a + (5 + ((f + n) % R : Nat))) v).write (a + 2) ((n : Int) + 1)
theorem Cq.push (h : Cq b a R f q cl) (hl : q.length < R) (v : Int) : Cq (pushB b a R f q.length v) a R f (q ++ [v]) cl := by
  have hm : (f + q.length) % R < R := Nat.mod_lt _ (by omega)
  have hf := h.fl (by omega)
  unfold pushB
  refine ⟨?_, ?_, ?_, ?_, h.fR, h.fl, fun i u hi => ?_⟩
  · rw [wd_same, List.length_append, List.length_singleton]; omega
  · rw [wd_other _ (by omega), wd_other _ (by omega)]; exact h.fst
  · rw [wd_other _ (by omega), wd_other _ (by omega)]; exact h.shut
  · rw [List.length_append, List.length_singleton]; omega
  · rw [wd_other _ (by omega)]
    by_cases e : i = q.length
    · subst e
      rw [wd_same]
      simpa using hi
    · have hlt : i < q.length := by
        have := (List.getElem?_eq_some_iff.1 hi).1
        rw [List.length_append, List.length_singleton] at this
        omega
      rw [List.getElem?_append_left hlt] at hi
      rw [wd_other _ ?_]
      · exact h.at_ i u hi
      · have hne : (f + i) % R ≠ (f + q.length) % R := by
          intro he
          have h1 : f + i < R + R := by omega
          have h2 : f + q.length < R + R := by omega
          have m1 : (f + i) % R = if f + i < R then f + i else f + i - R := by
            split
            · exact Nat.mod_eq_of_lt (by assumption)
            · rw [Nat.mod_eq_sub_mod (by omega)]; exact Nat.mod_eq_of_lt (by omega)
          have m2 : (f + q.length) % R = if f + q.length < R then f + q.length else f + q.length - R := by
            split
            · exact Nat.mod_eq_of_lt (by assumption)
            · rw [Nat.mod_eq_sub_mod (by omega)]; exact Nat.mod_eq_of_lt (by omega)
          rw [m1, m2] at he
          split at he <;> split at he <;> omega
        omega
/-- The first is taken out. -/
def popB (b : Ab) (a : Int) (R f n : Nat) : Ab := ((b.write (a + (5 + (f : Int))) 0).write (a + 3) (((f + 1) % R : Nat) : Int)).write (a + 2) ((n : Int) - 1)
theorem Cq.pop {v : Int} (h : Cq b a R f (v :: q) cl) : b.wd (a + (5 + (f : Int))) = v ∧ Cq (popB b a R f (v :: q).length) a R ((f + 1) % R) q cl := by
  have hl := h.len
  rw [List.length_cons] at hl
  have hf := h.fl (by omega)
  have hm : (f + 1) % R < R := Nat.mod_lt _ (by omega)
  unfold popB
  refine ⟨?_, ?_, ?_, ?_, by omega, by omega, fun _ => hm, fun i u hi => ?_⟩
  · have := h.at_ 0 v rfl
    rw [Nat.add_zero, Nat.mod_eq_of_lt hf] at this
    exact this
  · rw [wd_same, List.length_cons]; omega
  · rw [wd_other _ (by omega), wd_same]
  · rw [wd_other _ (by omega), wd_other _ (by omega), wd_other _ (by omega)]; exact h.shut
  · have hlt : i < q.length := (List.getElem?_eq_some_iff.1 hi).1
    have e1 : ((f + 1) % R + i) % R = (f + (i + 1)) % R := by rw [Nat.mod_add_mod]; congr 1; omega
    rw [e1, wd_other _ (by omega), wd_other _ (by omega), wd_other _ ?_]
    · exact h.at_ (i + 1) u (by simpa using hi)
    · have hne : (f + (i + 1)) % R ≠ f := by
        intro he
        by_cases h1 : f + (i + 1) < R
        · rw [Nat.mod_eq_of_lt h1] at he; omega
        · rw [Nat.mod_eq_sub_mod (by omega), Nat.mod_eq_of_lt (by omega)] at he; omega
      omega
theorem Cq.close (h : Cq b a R f q cl) : Cq (b.write (a + 4) 1) a R f q true := by
  refine ⟨(wd_other _ (by omega)).trans h.cnt, (wd_other _ (by omega)).trans h.fst, wd_same _ _ _, h.len, h.fR, h.fl, fun i u hi => (wd_other _ (by omega)).trans (h.at_ i u hi)⟩
theorem Cz.push (h : Cz al l a R adr) (n : Nat) (v : Int) : Cz ⟨pushB al.a a R f n v, al.u⟩ l a R adr := by
  have h1 : Cz ⟨al.a.write (a + (5 + ((f + n) % R : Nat))) v, al.u⟩ l a R adr := h.write (by omega) (by omega)
  exact h1.write (by omega) (by omega)
theorem Cz.pop (h : Cz al l a R adr) (n : Nat) : Cz ⟨popB al.a a R f n, al.u⟩ l a R adr := by
  have h1 : Cz ⟨al.a.write (a + (5 + (f : Int))) 0, al.u⟩ l a R adr := h.write (by omega) (by omega)
  have h2 := h1.write (p := a + 3) (v := (((f + 1) % R : Nat) : Int)) (by omega) (by omega)
  exact h2.write (by omega) (by omega)
theorem Cz.close (h : Cz al l a R adr) : Cz ⟨al.a.write (a + 4) 1, al.u⟩ l a R adr := h.write (by omega) (by omega)
end
end Go.Proofs.YtgflkpccddfalaaGreatDoor

/- A view of a heap, whatever its collector does. -/
namespace Go.Proofs.YtgflkpccddfalaaGreatDoor
set_option maxRecDepth 100000
open Go.ChangeShapes Go.WideShapes Go.ChangeAt Go.RowKit Go.Maps Go.Deep

/-- What a call turns: blocks of the heap's own (o), and it may have more of them then (o'), new ones. -/
structure Fr (o o' : Nat → Prop) (w w' : World) : Prop where
  size : w.heap.size ≤ w'.heap.size
  kept : ∀ d, d < w.heap.size → ¬ o d → w'.heap[d]? = w.heap[d]?
  more : ∀ d, o' d → o d ∨ w.heap.size ≤ d
section
variable {o o1 o2 : Nat → Prop} {w w1 w2 : World}
theorem Fr.of_G (g : G w w1) : Fr o o w w1 := ⟨g.size, fun d hd _ => g.block d hd, fun _ h => Or.inl h⟩
theorem Fr.trans (h : Fr o o1 w w1) (k : Fr o1 o2 w1 w2) : Fr o o2 w w2 := by
  refine ⟨Nat.le_trans h.size k.size, fun d hd ho => (k.kept d (Nat.lt_of_lt_of_le hd h.size) (fun h1 => ?_)).trans (h.kept d hd ho), fun d hd => ?_⟩
  · rcases h.more d h1 with e | e
    · exact ho e
    · omega
  · rcases k.more d hd with e | e
    · exact h.more d e
    · exact Or.inr (Nat.le_trans h.size e)
theorem Fr.g (h : Fr o o1 w w1) (k : G w1 w2) : Fr o o1 w w2 := h.trans (Fr.of_G k)
theorem Fr.cell (h : Fr o o1 w w1) {b i : Nat} {v : Value} (hb : b < w.heap.size) (ho : ¬ o b) (hc : w.cell? ⟨b, i, none⟩ = some v) : w1.cell? ⟨b, i, none⟩ = some v :=
  (World.cell?_of_block (a := ⟨b, i, none⟩) (h.kept b hb ho)).trans hc
end
/-- A view of a heap: V: its arena and allocator are al, g: what else is known; own: its blocks. -/
structure HV {γ : Type} (V : World → Al → γ → Prop) (own : γ → Nat → Prop) (hb cb ab : Nat) (l : List Hd.Shp) : Prop where
  of_ : ∀ w al g a, V w al g → Calls Tryz.prog 48 #[.pointer (some ⟨hb, 0, none⟩), .int .i64 a] w fun e w' => e = .returned (ofV (ofP al l a)) ∧ G w w'
  gr : ∀ w w' al g, V w al g → G w w' → V w' al g
  lt : ∀ w al g, V w al g → ∀ d, own g d → d < w.heap.size
  cyc : ∀ w al g, V w al g → Calls Tryz.prog 11 #[.pointer (some ⟨hb, 0, none⟩)] w fun e w' => e = .returned (.pointer (some ⟨cb, 0, none⟩)) ∧ w' = w
  arena : ∀ w al g, V w al g → Calls Tryz.prog 13 #[.pointer (some ⟨cb, 0, none⟩)] w fun e w' => e = .returned (.pointer (some ⟨ab, 0, none⟩)) ∧ w' = w
  read : ∀ w al g a i, V w al g → Calls Tryz.prog 51 #[.pointer (some ⟨ab, 0, none⟩), .int .i64 a, .int .i64 i] w fun e w' => e = .returned (.tuple #[.int .i64 (al.a.readV a i), .int .i64 (al.a.readE a i)]) ∧ G w w'
  write : ∀ w al g a i v, V w al g → Calls Tryz.prog 26 #[.pointer (some ⟨ab, 0, none⟩), .int .i64 a, .int .i64 i, .int .i64 v] w fun e w' => e = .returned (.int .i64 (al.a.readE a i)) ∧ V w' ⟨al.a.writeA a i v, al.u⟩ g ∧ Fr (own g) (own g) w w'
  fit : ∀ s ∈ l, s.m < 18446744073709551616
/-- What a Barrier does: Pg: what is known of the rest then. -/
def BarC {γ : Type} (V : World → Al → γ → Prop) (own : γ → Nat → Prop) (cb : Nat) (al : Al) (g : γ) (old v id : Int) (al2 : Al) (Pg : γ → Prop) : Prop :=
  ∀ y, V y al g → Calls Tryz.prog 52 #[.pointer (some ⟨cb, 0, none⟩), .int .i64 old, .int .i64 v, .int .i64 id] y fun e w' => e = .returned (.tuple #[]) ∧ ∃ g2, Pg g2 ∧ V w' al2 g2 ∧ Fr (own g) (own g2) y w'
end Go.Proofs.YtgflkpccddfalaaGreatDoor

/- Package chans, over any view of a heap: the channel's own small calls. -/
namespace Go.Proofs.YtgflkpccddfalaaGreatDoor
set_option maxRecDepth 100000
open Go.ChangeShapes Go.WideShapes Go.ChangeAt Go.RowKit Go.Maps Go.Deep

theorem box4 {w1 W2 : World} {v0 v1 v2 v3 : Value} (hW2 : W2 = w1.alloc (.cells #[v0, v1, v2, v3] 76)) : G w1 W2 ∧ ∀ y o o', (∀ d, o d → d < w1.heap.size) → Fr o o' W2 y → y.cell? ⟨w1.heap.size, 0, none⟩ = some v0 ∧ y.cell? ⟨w1.heap.size, 1, none⟩ = some v1 ∧ y.cell? ⟨w1.heap.size, 2, none⟩ = some v2 ∧ y.cell? ⟨w1.heap.size, 3, none⟩ = some v3 := by
  refine ⟨by rw [hW2]; exact G.alloc _ _, fun y o o' ho f => ?_⟩
  have hl : w1.heap.size < W2.heap.size := by rw [hW2, World.size_alloc]; omega
  have hn : ¬ o w1.heap.size := fun h => Nat.lt_irrefl _ (ho _ h)
  refine ⟨f.cell hl hn ?_, f.cell hl hn ?_, f.cell hl hn ?_, f.cell hl hn ?_⟩ <;> (rw [hW2]; exact World.cell?_alloc_new _ _ _ _)
abbrev chv (po : Option Addr) (a F : Int) (b : Bool) : Value := .agg #[.pointer po, .int .i64 a, .int .i64 F, .bool b]
theorem c_has (w : World) (po : Option Addr) (a F f : Int) (b : Bool) : Calls Tryz.prog 50 #[chv po a F b, .int .i64 f] w fun e w' => e = .returned (.bool (decide (0 ≤ f) && decide (f < F))) ∧ G w w' := by
  obtain ⟨W2, hW2⟩ : ∃ W2, W2 = w.alloc (.cells #[.pointer po, .int .i64 a, .int .i64 F, .bool b] 76) := ⟨_, rfl⟩
  obtain ⟨g2, bx⟩ := box4 hW2
  obtain ⟨b0, b1, b2, b3⟩ := bx W2 (fun _ => False) (fun _ => False) (fun _ h => h.elim) (Fr.of_G (G.refl _))
  replace g2 := hide g2
  clear bx
  by_cases h0 : 0 ≤ f
  · rw [decide_eq_true h0]
    go_enter Tryz.func50, Tryz.ntmps50
    go_upto_region 1 with fail
    rw [← hW2]
    clear hW2
    go_wp2_with fail
    go_ret
    exact ⟨by simp, unhide g2⟩
  · rw [decide_eq_false h0]
    go_enter Tryz.func50, Tryz.ntmps50
    go_upto_region 1 with fail
    rw [← hW2]
    clear hW2
    go_wp2_with fail
    go_ret
    exact ⟨by simp, unhide g2⟩
/-- No such field: 0. -/
theorem c_get_out (w : World) (po : Option Addr) (a F f : Int) (b : Bool) (hf : (decide (0 ≤ f) && decide (f < F)) = false) : Calls Tryz.prog 30 #[chv po a F b, .int .i64 f] w fun e w' => e = .returned (.int .i64 0) ∧ G w w' := by
  obtain ⟨W2, hW2⟩ : ∃ W2, W2 = w.alloc (.cells #[.pointer po, .int .i64 a, .int .i64 F, .bool b] 76) := ⟨_, rfl⟩
  obtain ⟨g2, bx⟩ := box4 hW2
  obtain ⟨b0, b1, b2, b3⟩ := bx W2 (fun _ => False) (fun _ => False) (fun _ h => h.elim) (Fr.of_G (G.refl _))
  replace g2 := hide g2
  have C := hide (c_has W2 po a F f b)
  rw [hf] at C
  clear bx hf
  go_enter Tryz.func30, Tryz.ntmps30
  go_upto_region 1 with fail
  rw [← hW2]
  clear hW2
  go_wp2_with fail
  refine (unhide C).mono ?_
  rintro e w3 ⟨rfl, g3⟩
  have g4 := hide ((unhide g2).trans g3)
  clear C g3
  go_wp2_with fail
  go_ret
  exact ⟨rfl, unhide g4⟩
section
variable {γ : Type} {V : World → Al → γ → Prop} {own : γ → Nat → Prop} {hb cb ab : Nat} {l : List Hd.Shp} {w : World} {al : Al} {g : γ}
/-- A field. -/
theorem c_get (H : Hid (HV V own hb cb ab l)) (h : Hid (V w al g)) (a F f : Int) (b : Bool) (hf : (decide (0 ≤ f) && decide (f < F)) = true) (f1 : Int) (h1 : wrap64 (1 + f) = f1) : Calls Tryz.prog 30 #[chv (some ⟨hb, 0, none⟩) a F b, .int .i64 f] w fun e w' => e = .returned (.int .i64 (al.a.readV a f1)) ∧ G w w' := by
  obtain ⟨W2, hW2⟩ : ∃ W2, W2 = w.alloc (.cells #[.pointer (some ⟨hb, 0, none⟩), .int .i64 a, .int .i64 F, .bool b] 76) := ⟨_, rfl⟩
  obtain ⟨g2, bx⟩ := box4 hW2
  have BX : Hid (∀ y, G W2 y → y.cell? ⟨w.heap.size, 0, none⟩ = some (.pointer (some ⟨hb, 0, none⟩)) ∧ y.cell? ⟨w.heap.size, 1, none⟩ = some (.int .i64 a) ∧ y.cell? ⟨w.heap.size, 2, none⟩ = some (.int .i64 F) ∧ y.cell? ⟨w.heap.size, 3, none⟩ = some (.bool b)) := hide fun y gy => bx y (fun _ => False) (fun _ => False) (fun _ h => h.elim) (Fr.of_G gy)
  obtain ⟨b0, b1, b2, b3⟩ := unhide BX W2 (G.refl _)
  have GW : Hid (∀ y, G W2 y → G w y) := hide fun y gy => g2.trans gy
  have C := hide (c_has W2 (some ⟨hb, 0, none⟩) a F f b)
  have C1 : Hid (∀ y, (G W2 y ∧ y.cell? ⟨w.heap.size, 0, none⟩ = some (.pointer (some ⟨hb, 0, none⟩)) ∧ y.cell? ⟨w.heap.size, 1, none⟩ = some (.int .i64 a)) → Calls Tryz.prog 11 #[.pointer (some ⟨hb, 0, none⟩)] y fun e w' => e = .returned (.pointer (some ⟨cb, 0, none⟩)) ∧ G y w') := hide fun y gy => ((unhide H).cyc y al g ((unhide H).gr _ _ _ _ (unhide h) (g2.trans gy.1))).mono fun _ _ hh => ⟨hh.1, by rw [hh.2]; exact G.refl _⟩
  have C2 : Hid (∀ y, (G W2 y ∧ y.cell? ⟨w.heap.size, 0, none⟩ = some (.pointer (some ⟨hb, 0, none⟩)) ∧ y.cell? ⟨w.heap.size, 1, none⟩ = some (.int .i64 a)) → Calls Tryz.prog 13 #[.pointer (some ⟨cb, 0, none⟩)] y fun e w' => e = .returned (.pointer (some ⟨ab, 0, none⟩)) ∧ G y w') := hide fun y gy => ((unhide H).arena y al g ((unhide H).gr _ _ _ _ (unhide h) (g2.trans gy.1))).mono fun _ _ hh => ⟨hh.1, by rw [hh.2]; exact G.refl _⟩
  have C3 : Hid (∀ y, (G W2 y ∧ y.cell? ⟨w.heap.size, 0, none⟩ = some (.pointer (some ⟨hb, 0, none⟩)) ∧ y.cell? ⟨w.heap.size, 1, none⟩ = some (.int .i64 a)) → Calls Tryz.prog 51 #[.pointer (some ⟨ab, 0, none⟩), .int .i64 a, .int .i64 (IntKind.i64.wrap (1 + f))] y fun e w' => e = .returned (.tuple #[.int .i64 (al.a.readV a f1), .int .i64 (al.a.readE a f1)]) ∧ G y w') := hide fun y gy => by
    have e : IntKind.i64.wrap (1 + f) = f1 := by rw [← h1, IntKind.wrap_i64]; unfold wrap64; omega
    rw [e]
    exact (unhide H).read y al g a f1 ((unhide H).gr _ _ _ _ (unhide h) (g2.trans gy.1))
  rw [hf] at C
  generalize al.a.readV a f1 = rv at C3 ⊢
  generalize al.a.readE a f1 = re at C3
  clear bx hf g2 h H h1
  go_enter Tryz.func30, Tryz.ntmps30
  go_upto_region 1 with fail
  rw [← hW2]
  clear hW2
  go_wp2_with fail
  refine (unhide C).mono ?_
  rintro e w3 ⟨rfl, g3⟩
  obtain ⟨b0, b1, b2, b3⟩ := unhide BX w3 g3
  have KD : Hid (G W2 w3.drew ∧ w3.drew.cell? ⟨w.heap.size, 0, none⟩ = some (.pointer (some ⟨hb, 0, none⟩)) ∧ w3.drew.cell? ⟨w.heap.size, 1, none⟩ = some (.int .i64 a)) := hide ⟨g3.drew, (unhide BX _ g3.drew).1, (unhide BX _ g3.drew).2.1⟩
  have KC : Hid (∀ x y, (G W2 x ∧ x.cell? ⟨w.heap.size, 0, none⟩ = some (.pointer (some ⟨hb, 0, none⟩)) ∧ x.cell? ⟨w.heap.size, 1, none⟩ = some (.int .i64 a)) → G x y → (G W2 y ∧ y.cell? ⟨w.heap.size, 0, none⟩ = some (.pointer (some ⟨hb, 0, none⟩)) ∧ y.cell? ⟨w.heap.size, 1, none⟩ = some (.int .i64 a))) := hide fun x y hx gx => ⟨hx.1.trans gx, gx.cell hx.2.1, gx.cell hx.2.2⟩
  clear C g3
  go_wp2_with fail
  go_region_held3 (fun x => G W2 x ∧ x.cell? ⟨w.heap.size, 0, none⟩ = some (.pointer (some ⟨hb, 0, none⟩)) ∧ x.cell? ⟨w.heap.size, 1, none⟩ = some (.int .i64 a))
    (first | assumption | exact unhide KD | exact unhide KC _ _ (by assumption) (by assumption))
    ((first
      | (go_at_call 11; refine (unhide C1 _ ?_).mono ?_; assumption; rintro e x4 ⟨rfl, hg4⟩)
      | (go_at_call 13; refine (unhide C2 _ ?_).mono ?_; assumption; rintro e x5 ⟨rfl, hg5⟩)
      | (go_at_call 51; refine (unhide C3 _ ?_).mono ?_; assumption; rintro e x6 ⟨rfl, hg6⟩)))
  all_goals
    go_wp2_with fail
    go_ret
    exact ⟨rfl, unhide GW _ (by assumption : G W2 _ ∧ _).1⟩
end
end Go.Proofs.YtgflkpccddfalaaGreatDoor

/- Package chans, over any view of a heap: find, set, round, closed. -/
namespace Go.Proofs.YtgflkpccddfalaaGreatDoor
set_option maxRecDepth 100000
open Go.ChangeShapes Go.WideShapes Go.ChangeAt Go.RowKit Go.Maps Go.Deep

theorem put4 {w w2 : World} {s : Nat} (hs : w.heap.size ≤ s) (g : G w w2) {u0 u1 u2 u3 : Value} (a0 : w2.cell? ⟨s, 0, none⟩ = some u0) (a1 : w2.cell? ⟨s, 1, none⟩ = some u1) (a2 : w2.cell? ⟨s, 2, none⟩ = some u2) (a3 : w2.cell? ⟨s, 3, none⟩ = some u3) (v0 v1 v2 v3 : Value) (Y : World) (hY : Y = (((w2.setCell ⟨s, 0, none⟩ v0).setCell ⟨s, 1, none⟩ v1).setCell ⟨s, 2, none⟩ v2).setCell ⟨s, 3, none⟩ v3) :
    Y.cell? ⟨s, 0, none⟩ = some v0 ∧ Y.cell? ⟨s, 1, none⟩ = some v1 ∧ Y.cell? ⟨s, 2, none⟩ = some v2 ∧ Y.cell? ⟨s, 3, none⟩ = some v3 ∧ G w Y := by
  have o : ∀ (y : World) (i j : Nat) (v u : Value), i ≠ j → y.cell? ⟨s, i, none⟩ = some u → (y.setCell ⟨s, j, none⟩ v).cell? ⟨s, i, none⟩ = some u := fun y i j v u hn h => by rw [cell_other _ (Or.inr hn)]; exact h
  have q0 := cell_same v0 a0
  have q1 := cell_same v1 (o w2 1 0 v0 _ (by decide) a1)
  have q2 := cell_same v2 (o _ 2 1 v1 _ (by decide) (o w2 2 0 v0 _ (by decide) a2))
  have q3 := cell_same v3 (o _ 3 2 v2 _ (by decide) (o _ 3 1 v1 _ (by decide) (o w2 3 0 v0 _ (by decide) a3)))
  rw [hY]
  exact ⟨o _ 0 3 v3 _ (by decide) (o _ 0 2 v2 _ (by decide) (o _ 0 1 v1 _ (by decide) q0)), o _ 1 3 v3 _ (by decide) (o _ 1 2 v2 _ (by decide) q1), o _ 2 3 v3 _ (by decide) q2, q3, G.set (G.set (G.set (G.set g _ _ hs) _ _ hs) _ _ hs) _ _ hs⟩
section
variable {γ : Type} {V : World → Al → γ → Prop} {own : γ → Nat → Prop} {hb cb ab : Nat} {l : List Hd.Shp} {w : World} {al : Al} {g : γ}
set_option maxHeartbeats 1000000 in
/-- There is none. -/
theorem c_find_no (H : Hid (HV V own hb cb ab l)) (h : Hid (V w al g)) (a : Int) (ho : ofP al l a = none) : Calls Tryz.prog 29 #[.pointer (some ⟨hb, 0, none⟩), .int .i64 a] w fun e w' => e = .returned (.tuple #[chv none 0 0 false, .bool false]) ∧ G w w' := by
  obtain ⟨W1, hW1⟩ : ∃ W1, W1 = w.alloc (.cells #[.pointer none, .int .i64 0, .int .i64 0, .bool false] 76) := ⟨_, rfl⟩
  obtain ⟨g1, bx⟩ := box4 hW1
  have hz : w.heap.size < W1.heap.size := by rw [hW1, World.size_alloc]; omega
  have fz : ∀ y, G W1 y → ∀ i, y.frozen? ⟨w.heap.size, i, none⟩ = false := fun y gy i => by
    have e0 : W1.heap[w.heap.size]? = some (.cells #[.pointer none, .int .i64 0, .int .i64 0, .bool false] 76) := by rw [hW1]; exact heap_alloc_new w _
    have e := (gy.block _ hz).trans e0
    simp [World.frozen?, e]
  have BX : Hid (∀ y, G W1 y → (y.cell? ⟨w.heap.size, 0, none⟩ = some (.pointer none) ∧ y.cell? ⟨w.heap.size, 1, none⟩ = some (.int .i64 0) ∧ y.cell? ⟨w.heap.size, 2, none⟩ = some (.int .i64 0) ∧ y.cell? ⟨w.heap.size, 3, none⟩ = some (.bool false)) ∧ (∀ i, y.frozen? ⟨w.heap.size, i, none⟩ = false)) := hide fun y gy => ⟨bx y (fun _ => False) (fun _ => False) (fun _ h => h.elim) (Fr.of_G gy), fz y gy⟩
  have CO := hide ((unhide H).of_ W1 al g a ((unhide H).gr _ _ _ _ (unhide h) g1))
  rw [ho] at CO
  simp only [ofV] at CO
  replace g1 := hide g1
  clear bx ho hz fz H h
  go_enter Tryz.func29, Tryz.ntmps29
  go_upto_region 1 with fail
  rw [← hW1]
  clear hW1
  go_wp2_with fail
  refine (unhide CO).mono ?_
  rintro e w1 ⟨rfl, g2⟩
  clear CO
  go_upto_region 2 with fail
  obtain ⟨W2, hW2⟩ : ∃ W2, W2 = (w1.alloc (.cells #[.int .i64 0, .int .i64 0, .int .i64 0] 112)).alloc (.cells #[.int .i64 0, .int .i64 0, .int .u64 0] 59) := ⟨_, rfl⟩
  rw [← hW2]
  have g3 : G W1 W2 := g2.trans (by rw [hW2]; exact ((G.refl w1).more _).more _)
  obtain ⟨⟨b0, b1, b2, b3⟩, bf⟩ := unhide BX W2 g3
  have FIN : Hid (∀ Y, Y = (((W2.setCell ⟨w.heap.size, 0, none⟩ (.pointer none)).setCell ⟨w.heap.size, 1, none⟩ (.int .i64 0)).setCell ⟨w.heap.size, 2, none⟩ (.int .i64 0)).setCell ⟨w.heap.size, 3, none⟩ (.bool false) → _) := hide fun Y hY => put4 (Nat.le_refl _) ((unhide g1).trans g3) b0 b1 b2 b3 _ _ _ _ Y hY
  clear hW2 g2 g3
  go_wp2_with fail
  obtain ⟨Y, hY⟩ : ∃ Y, Y = (((W2.setCell ⟨w.heap.size, 0, none⟩ (.pointer none)).setCell ⟨w.heap.size, 1, none⟩ (.int .i64 0)).setCell ⟨w.heap.size, 2, none⟩ (.int .i64 0)).setCell ⟨w.heap.size, 3, none⟩ (.bool false) := ⟨_, rfl⟩
  obtain ⟨y0, y1, y2, y3, gY⟩ := unhide FIN Y hY
  rw [← hY]
  refine bodyPost_ret (by simp [results, Tryz.results29, go_sem, y0, y1, y2, y3]; try rfl) rfl ?_
  exact ⟨rfl, gY⟩
set_option maxHeartbeats 1000000 in
theorem c_find (H : Hid (HV V own hb cb ab l)) (h : Hid (V w al g)) (a F sh : Int) (s : Hd.Shp) (adr : Bool) (ho : ofP al l a = some (F + 1, 3, sh, s)) (hh : Hd.holdsB s.k s.m 4 6 = adr) : Calls Tryz.prog 29 #[.pointer (some ⟨hb, 0, none⟩), .int .i64 a] w fun e w' => e = .returned (.tuple #[chv (some ⟨hb, 0, none⟩) a F adr, .bool true]) ∧ G w w' := by
  obtain ⟨W1, hW1⟩ : ∃ W1, W1 = w.alloc (.cells #[.pointer none, .int .i64 0, .int .i64 0, .bool false] 76) := ⟨_, rfl⟩
  obtain ⟨g1, bx⟩ := box4 hW1
  have hz : w.heap.size < W1.heap.size := by rw [hW1, World.size_alloc]; omega
  have fz : ∀ y, G W1 y → ∀ i, y.frozen? ⟨w.heap.size, i, none⟩ = false := fun y gy i => by
    have e0 : W1.heap[w.heap.size]? = some (.cells #[.pointer none, .int .i64 0, .int .i64 0, .bool false] 76) := by rw [hW1]; exact heap_alloc_new w _
    have e := (gy.block _ hz).trans e0
    simp [World.frozen?, e]
  have BX : Hid (∀ y, G W1 y → (y.cell? ⟨w.heap.size, 0, none⟩ = some (.pointer none) ∧ y.cell? ⟨w.heap.size, 1, none⟩ = some (.int .i64 0) ∧ y.cell? ⟨w.heap.size, 2, none⟩ = some (.int .i64 0) ∧ y.cell? ⟨w.heap.size, 3, none⟩ = some (.bool false)) ∧ (∀ i, y.frozen? ⟨w.heap.size, i, none⟩ = false)) := hide fun y gy => ⟨bx y (fun _ => False) (fun _ => False) (fun _ h => h.elim) (Fr.of_G gy), fz y gy⟩
  have CO := hide ((unhide H).of_ W1 al g a ((unhide H).gr _ _ _ _ (unhide h) g1))
  obtain ⟨⟨hw1, hw2⟩, hmem⟩ := ofP_some ho
  have hm64 := (unhide H).fit s hmem
  rw [ho] at CO
  simp only [ofV] at CO
  have hw : wrap64 (F + 1 - 1) = F := by unfold wrap64; omega
  generalize F + 1 = F1 at CO hw
  obtain ⟨sk, hsk⟩ : ∃ sk, sk = s.k := ⟨_, rfl⟩
  obtain ⟨sf, hsf⟩ : ∃ sf, sf = s.f := ⟨_, rfl⟩
  obtain ⟨sm, hsm⟩ : ∃ sm, sm = s.m := ⟨_, rfl⟩
  rw [← hsk, ← hsf, ← hsm] at CO
  rw [← hsk, ← hsm] at hh
  rw [← hsm] at hm64
  have CH := hide (fun x => Hd.holds_any sk sf sm 4 6 x hm64 (by decide))
  rw [hh] at CH
  replace g1 := hide g1
  clear bx ho hz fz H h hw1 hw2 hmem hm64 hsk hsf hsm hh
  go_enter Tryz.func29, Tryz.ntmps29
  go_upto_region 1 with fail
  rw [← hW1]
  clear hW1
  go_wp2_with fail
  refine (unhide CO).mono ?_
  rintro e w1 ⟨rfl, g2⟩
  clear CO
  go_upto_region 2 with fail
  obtain ⟨W2, hW2⟩ : ∃ W2, W2 = (w1.alloc (.cells #[.int .i64 F1, .int .i64 3, .int .i64 sh] 112)).alloc (.cells #[.int .i64 sk, .int .i64 sf, .int .u64 (sm : Int)] 59) := ⟨_, rfl⟩
  rw [← hW2]
  obtain ⟨gq, BQ⟩ := two_box w1 F1 3 sh sk sf sm W2 hW2
  have g3 : Hid (G W1 W2) := hide (g2.trans gq)
  obtain ⟨⟨a0, a1, a2⟩, ⟨e0, e1, e2⟩⟩ := BQ W2 (G.refl _)
  replace BQ := hide BQ
  clear hW2 g2 gq
  go_wp2_with fail
  refine (unhide CH _).mono ?_
  rintro e w3 ⟨rfl, g4⟩
  obtain ⟨⟨a0, a1, a2⟩, _⟩ := unhide BQ w3 g4
  have g5 : G W1 w3 := (unhide g3).trans g4
  obtain ⟨⟨b0, b1, b2, b3⟩, bf⟩ := unhide BX w3 g5
  have FIN : Hid (∀ Y, Y = (((w3.setCell ⟨w.heap.size, 0, none⟩ (.pointer (some ⟨hb, 0, none⟩))).setCell ⟨w.heap.size, 1, none⟩ (.int .i64 a)).setCell ⟨w.heap.size, 2, none⟩ (.int .i64 F)).setCell ⟨w.heap.size, 3, none⟩ (.bool adr) → _) := hide fun Y hY => put4 (Nat.le_refl _) ((unhide g1).trans g5) b0 b1 b2 b3 _ _ _ _ Y hY
  clear g4 g5 CH BQ e0 e1 e2
  go_wp2_with fail
  obtain ⟨Y, hY⟩ : ∃ Y, Y = (((w3.setCell ⟨w.heap.size, 0, none⟩ (.pointer (some ⟨hb, 0, none⟩))).setCell ⟨w.heap.size, 1, none⟩ (.int .i64 a)).setCell ⟨w.heap.size, 2, none⟩ (.int .i64 F)).setCell ⟨w.heap.size, 3, none⟩ (.bool adr) := ⟨_, rfl⟩
  obtain ⟨y0, y1, y2, y3, gY⟩ := unhide FIN Y hY
  rw [← hY]
  refine bodyPost_ret (by simp [results, Tryz.results29, go_sem, y0, y1, y2, y3]; try rfl) rfl ?_
  exact ⟨rfl, gY⟩
end
end Go.Proofs.YtgflkpccddfalaaGreatDoor

/- Package chans, over any view of a heap: set, round, closed, swap. -/
namespace Go.Proofs.YtgflkpccddfalaaGreatDoor
set_option maxRecDepth 100000
open Go.ChangeShapes Go.WideShapes Go.ChangeAt Go.RowKit Go.Maps Go.Deep

section
variable {γ : Type} {V : World → Al → γ → Prop} {own : γ → Nat → Prop} {hb cb ab : Nat} {l : List Hd.Shp} {w : World} {al : Al} {g : γ}
set_option maxHeartbeats 1000000 in
theorem c_set (H : Hid (HV V own hb cb ab l)) (h : Hid (V w al g)) (a F f v : Int) (b : Bool) (hf : (decide (0 ≤ f) && decide (f < F)) = true) (f1 : Int) (h1 : wrap64 (1 + f) = f1) (hE : al.a.readE a f1 = 0) : Calls Tryz.prog 33 #[chv (some ⟨hb, 0, none⟩) a F b, .int .i64 f, .int .i64 v] w fun e w' => e = .returned (.bool true) ∧ V w' ⟨al.a.writeA a f1 v, al.u⟩ g ∧ Fr (own g) (own g) w w' := by
  obtain ⟨W2, hW2⟩ : ∃ W2, W2 = w.alloc (.cells #[.pointer (some ⟨hb, 0, none⟩), .int .i64 a, .int .i64 F, .bool b] 76) := ⟨_, rfl⟩
  obtain ⟨g2, bx⟩ := box4 hW2
  have hlt := (unhide H).lt _ _ _ (unhide h)
  have BX : Hid (∀ y, Fr (own g) (own g) W2 y → y.cell? ⟨w.heap.size, 0, none⟩ = some (.pointer (some ⟨hb, 0, none⟩)) ∧ y.cell? ⟨w.heap.size, 1, none⟩ = some (.int .i64 a) ∧ y.cell? ⟨w.heap.size, 2, none⟩ = some (.int .i64 F) ∧ y.cell? ⟨w.heap.size, 3, none⟩ = some (.bool b)) := hide fun y f => bx y (own g) (own g) hlt f
  obtain ⟨b0, b1, b2, b3⟩ := unhide BX W2 (Fr.of_G (G.refl _))
  have CH : Hid (∀ y, (y.cell? ⟨w.heap.size, 0, none⟩ = some (.pointer (some ⟨hb, 0, none⟩)) ∧ y.cell? ⟨w.heap.size, 1, none⟩ = some (.int .i64 a) ∧ y.cell? ⟨w.heap.size, 2, none⟩ = some (.int .i64 F) ∧ y.cell? ⟨w.heap.size, 3, none⟩ = some (.bool b)) → Calls Tryz.prog 50 #[chv (some ⟨hb, 0, none⟩) a F b, .int .i64 f] y fun e w' => e = .returned (.bool true) ∧ G y w') := hide fun y _ => by
    have := c_has y (some ⟨hb, 0, none⟩) a F f b
    rw [hf] at this
    exact this
  have C1 : Hid (∀ y, G W2 y → Calls Tryz.prog 11 #[.pointer (some ⟨hb, 0, none⟩)] y fun e w' => e = .returned (.pointer (some ⟨cb, 0, none⟩)) ∧ w' = y) := hide fun y gy => (unhide H).cyc y al g ((unhide H).gr _ _ _ _ (unhide h) (g2.trans gy))
  have C2 : Hid (∀ y, G W2 y → Calls Tryz.prog 13 #[.pointer (some ⟨cb, 0, none⟩)] y fun e w' => e = .returned (.pointer (some ⟨ab, 0, none⟩)) ∧ w' = y) := hide fun y gy => (unhide H).arena y al g ((unhide H).gr _ _ _ _ (unhide h) (g2.trans gy))
  have C3 : Hid (∀ y, G W2 y → Calls Tryz.prog 26 #[.pointer (some ⟨ab, 0, none⟩), .int .i64 a, .int .i64 (IntKind.i64.wrap (1 + f)), .int .i64 v] y fun e w' => e = .returned (.int .i64 0) ∧ Hid (V w' ⟨al.a.writeA a f1 v, al.u⟩ g ∧ Fr (own g) (own g) W2 w')) := hide fun y gy => by
    have e : IntKind.i64.wrap (1 + f) = f1 := by rw [← h1, IntKind.wrap_i64]; unfold wrap64; omega
    rw [e]
    refine ((unhide H).write y al g a f1 v ((unhide H).gr _ _ _ _ (unhide h) (g2.trans gy))).mono fun _ _ hh => ?_
    rw [hE] at hh
    exact ⟨hh.1, hide ⟨hh.2.1, (Fr.of_G gy).trans hh.2.2⟩⟩
  have FW : Hid (∀ y, Fr (own g) (own g) W2 y → Fr (own g) (own g) w y) := hide fun y f => (Fr.of_G g2).trans f
  obtain ⟨al', hal⟩ : ∃ al', al' = (⟨al.a.writeA a f1 v, al.u⟩ : Al) := ⟨_, rfl⟩
  rw [← hal] at C3 ⊢
  have KD : Hid (W2.drew.cell? ⟨w.heap.size, 0, none⟩ = some (.pointer (some ⟨hb, 0, none⟩)) ∧ W2.drew.cell? ⟨w.heap.size, 1, none⟩ = some (.int .i64 a) ∧ W2.drew.cell? ⟨w.heap.size, 2, none⟩ = some (.int .i64 F) ∧ W2.drew.cell? ⟨w.heap.size, 3, none⟩ = some (.bool b)) := hide (unhide BX _ (Fr.of_G (G.refl _).drew))
  have KC : Hid (∀ x y : World, (x.cell? ⟨w.heap.size, 0, none⟩ = some (.pointer (some ⟨hb, 0, none⟩)) ∧ x.cell? ⟨w.heap.size, 1, none⟩ = some (.int .i64 a) ∧ x.cell? ⟨w.heap.size, 2, none⟩ = some (.int .i64 F) ∧ x.cell? ⟨w.heap.size, 3, none⟩ = some (.bool b)) → G x y → (y.cell? ⟨w.heap.size, 0, none⟩ = some (.pointer (some ⟨hb, 0, none⟩)) ∧ y.cell? ⟨w.heap.size, 1, none⟩ = some (.int .i64 a) ∧ y.cell? ⟨w.heap.size, 2, none⟩ = some (.int .i64 F) ∧ y.cell? ⟨w.heap.size, 3, none⟩ = some (.bool b))) := hide fun x y hx gx => ⟨gx.cell hx.1, gx.cell hx.2.1, gx.cell hx.2.2.1, gx.cell hx.2.2.2⟩
  clear bx hf g2 h H h1 hE hal hlt
  go_enter Tryz.func33, Tryz.ntmps33
  go_upto_region 1 with fail
  rw [← hW2]
  clear hW2
  go_region_held3 (fun x => x.cell? ⟨w.heap.size, 0, none⟩ = some (.pointer (some ⟨hb, 0, none⟩)) ∧ x.cell? ⟨w.heap.size, 1, none⟩ = some (.int .i64 a) ∧ x.cell? ⟨w.heap.size, 2, none⟩ = some (.int .i64 F) ∧ x.cell? ⟨w.heap.size, 3, none⟩ = some (.bool b))
    (first | assumption | exact unhide KD | exact unhide KC _ _ (by assumption) (by assumption))
    ((first
      | (go_at_call 50; refine (unhide CH _ ?_).mono ?_; assumption; rintro e x3 ⟨rfl, hg3⟩; have gW3 := (G.refl W2).drew.trans hg3)
      | (go_at_call 11; refine (unhide C1 _ gW3).mono ?_; rintro e x4 ⟨rfl, rfl⟩)
      | (go_at_call 13; refine (unhide C2 _ gW3).mono ?_; rintro e x5 ⟨rfl, rfl⟩)
      | (go_at_call 26; refine (unhide C3 _ gW3).mono ?_; rintro e x6 ⟨rfl, h6⟩; have S6 := unhide BX x6 (unhide h6).2)))
  all_goals
    go_wp2_with fail
    go_ret
    exact ⟨rfl, (unhide h6).1, unhide FW _ (unhide h6).2⟩
/-- The place in the ring. -/
theorem c_round (H : Hid (HV V own hb cb ab l)) (h : Hid (V w al g)) (a F : Int) (b : Bool) (hF : 0 < F) (R far z : Int) (hR : al.a.readV a 1 = R) (h1 : 1 ≤ R) (hz : Int.tmod far R = z) : Calls Tryz.prog 34 #[chv (some ⟨hb, 0, none⟩) a F b, .int .i64 far] w fun e w' => e = .returned (.int .i64 z) ∧ G w w' := by
  obtain ⟨W2, hW2⟩ : ∃ W2, W2 = w.alloc (.cells #[.pointer (some ⟨hb, 0, none⟩), .int .i64 a, .int .i64 F, .bool b] 76) := ⟨_, rfl⟩
  obtain ⟨g2, bx⟩ := box4 hW2
  obtain ⟨b0, b1, b2, b3⟩ := bx W2 (fun _ => False) (fun _ => False) (fun _ h => h.elim) (Fr.of_G (G.refl _))
  have C := hide (c_get H (hide ((unhide H).gr _ _ _ _ (unhide h) g2)) a F 0 b (by simp [hF]) 1 (by decide +kernel))
  rw [hR] at C
  have hR0 : ¬ R = 0 := by omega
  have hd : decide (R < 1) = false := by simp; omega
  replace g2 := hide g2
  clear bx H h hR hF
  go_enter Tryz.func34, Tryz.ntmps34
  go_upto_region 1 with fail
  rw [← hW2]
  clear hW2
  go_wp2_with fail
  refine (unhide C).mono ?_
  rintro e w3 ⟨rfl, g3⟩
  have g4 := hide ((unhide g2).trans g3)
  clear C g3
  go_wp2_with fail
  go_ret
  exact ⟨by rw [← hz]; rfl, unhide g4⟩
theorem c_closed (H : Hid (HV V own hb cb ab l)) (h : Hid (V w al g)) (a F : Int) (b : Bool) (hF : 3 < F) (cl : Bool) (hc : al.a.readV a 4 = if cl = true then 1 else 0) : Calls Tryz.prog 31 #[chv (some ⟨hb, 0, none⟩) a F b] w fun e w' => e = .returned (.bool cl) ∧ G w w' := by
  obtain ⟨W2, hW2⟩ : ∃ W2, W2 = w.alloc (.cells #[.pointer (some ⟨hb, 0, none⟩), .int .i64 a, .int .i64 F, .bool b] 76) := ⟨_, rfl⟩
  obtain ⟨g2, bx⟩ := box4 hW2
  obtain ⟨b0, b1, b2, b3⟩ := bx W2 (fun _ => False) (fun _ => False) (fun _ h => h.elim) (Fr.of_G (G.refl _))
  have C := hide (c_get H (hide ((unhide H).gr _ _ _ _ (unhide h) g2)) a F 3 b (by simp [hF]) 4 (by decide +kernel))
  rw [hc] at C
  replace g2 := hide g2
  clear bx H h hc hF
  cases cl
  · go_enter Tryz.func31, Tryz.ntmps31
    go_upto_region 1 with fail
    rw [← hW2]
    clear hW2
    go_wp2_with fail
    refine (unhide C).mono ?_
    rintro e w3 ⟨rfl, g3⟩
    have g4 := hide ((unhide g2).trans g3)
    clear C g3
    go_wp2_with fail
    go_ret
    exact ⟨rfl, unhide g4⟩
  · go_enter Tryz.func31, Tryz.ntmps31
    go_upto_region 1 with fail
    rw [← hW2]
    clear hW2
    go_wp2_with fail
    refine (unhide C).mono ?_
    rintro e w3 ⟨rfl, g3⟩
    have g4 := hide ((unhide g2).trans g3)
    clear C g3
    go_wp2_with fail
    go_ret
    exact ⟨rfl, unhide g4⟩
end
end Go.Proofs.YtgflkpccddfalaaGreatDoor

/- Package chans, over any view of a heap: swap; Room, Count, Closed, Is, Close, where there is none and where there is one. -/
namespace Go.Proofs.YtgflkpccddfalaaGreatDoor
set_option maxRecDepth 100000
open Go.ChangeShapes Go.WideShapes Go.ChangeAt Go.RowKit Go.Maps Go.Deep

section
variable {γ : Type} {V : World → Al → γ → Prop} {own : γ → Nat → Prop} {hb cb ab : Nat} {l : List Hd.Shp} {w : World} {al : Al} {g : γ}
set_option maxHeartbeats 1000000 in
theorem c_swap (H : Hid (HV V own hb cb ab l)) (h : Hid (V w al g)) (a F : Int) (b : Bool) (R far z v id : Int) (hR : al.a.readV a 1 = R) (h1 : 1 ≤ R) (hz : Int.tmod far R = z) (hz0 : 0 ≤ z) (hzF : 4 + z < F) (hF9 : F ≤ 64) (hE : al.a.readE a (5 + z) = 0) (al2 : Al) (Pg : γ → Prop)
    (hB : b = true → BarC V own cb ⟨al.a.writeA a (5 + z) v, al.u⟩ g (al.a.readV a (5 + z)) v id al2 Pg) (hN : b = false → al2 = ⟨al.a.writeA a (5 + z) v, al.u⟩ ∧ Pg g) :
    Calls Tryz.prog 32 #[chv (some ⟨hb, 0, none⟩) a F b, .int .i64 far, .int .i64 v, .int .i64 id] w fun e w' => e = .returned (.tuple #[.int .i64 (al.a.readV a (5 + z)), .bool true]) ∧ ∃ g2, Pg g2 ∧ V w' al2 g2 ∧ Fr (own g) (own g2) w w' := by
  obtain ⟨W2, hW2⟩ : ∃ W2, W2 = w.alloc (.cells #[.pointer (some ⟨hb, 0, none⟩), .int .i64 a, .int .i64 F, .bool b] 76) := ⟨_, rfl⟩
  obtain ⟨gw, bx⟩ := box4 hW2
  have hlt := (unhide H).lt _ _ _ (unhide h)
  have BX : Hid (∀ y, Fr (own g) (own g) W2 y → y.cell? ⟨w.heap.size, 0, none⟩ = some (.pointer (some ⟨hb, 0, none⟩)) ∧ y.cell? ⟨w.heap.size, 1, none⟩ = some (.int .i64 a) ∧ y.cell? ⟨w.heap.size, 2, none⟩ = some (.int .i64 F) ∧ y.cell? ⟨w.heap.size, 3, none⟩ = some (.bool b)) := hide fun y f => bx y (own g) (own g) hlt f
  obtain ⟨b0, b1, b2, b3⟩ := unhide BX W2 (Fr.of_G (G.refl _))
  have VG : Hid (∀ y, G W2 y → V y al g) := hide fun y gy => (unhide H).gr _ _ _ _ (unhide h) (gw.trans gy)
  have CR := hide (c_round H (hide (unhide VG W2 (G.refl _))) a F b (by omega) R far z hR h1 hz)
  have hd : decide (z < 0) = false := by simp; omega
  obtain ⟨f, hf⟩ : ∃ f, 4 + z = f := ⟨_, rfl⟩
  have hw4 : wrap64 (4 + z) = f := by unfold wrap64; omega
  have hfd : (decide (0 ≤ f) && decide (f < F)) = true := by simp; omega
  have hw1 : wrap64 (1 + f) = 5 + z := by unfold wrap64; omega
  have CG : Hid (∀ y, G W2 y → Calls Tryz.prog 30 #[chv (some ⟨hb, 0, none⟩) a F b, .int .i64 f] y fun e w' => e = .returned (.int .i64 (al.a.readV a (5 + z))) ∧ G y w') := hide fun y gy => c_get H (hide (unhide VG y gy)) a F f b hfd (5 + z) hw1
  have CS : Hid (∀ y, G W2 y → Calls Tryz.prog 33 #[chv (some ⟨hb, 0, none⟩) a F b, .int .i64 f, .int .i64 v] y fun e w' => e = .returned (.bool true) ∧ Hid (V w' ⟨al.a.writeA a (5 + z) v, al.u⟩ g ∧ Fr (own g) (own g) W2 w')) := hide fun y gy => (c_set H (hide (unhide VG y gy)) a F f v b hfd (5 + z) hw1 hE).mono fun _ _ hh => ⟨hh.1, hide ⟨hh.2.1, (Fr.of_G gy).trans hh.2.2⟩⟩
  have CC : Hid (∀ y, V y ⟨al.a.writeA a (5 + z) v, al.u⟩ g → Calls Tryz.prog 11 #[.pointer (some ⟨hb, 0, none⟩)] y fun e w' => e = .returned (.pointer (some ⟨cb, 0, none⟩)) ∧ w' = y) := hide fun y hy => (unhide H).cyc y _ g hy
  have FW : Hid (∀ y o', Fr (own g) o' W2 y → Fr (own g) o' w y) := hide fun y o' f => (Fr.of_G gw).trans f
  unfold BarC at hB
  generalize al.a.readV a (5 + z) = old at CG hB ⊢
  generalize (⟨al.a.writeA a (5 + z) v, al.u⟩ : Al) = al1 at CS CC hB hN
  clear bx hlt H h hR h1 hz hz0 hzF hF9 hE gw VG hf hfd hw1
  cases b
  · obtain ⟨rfl, pg⟩ := hN rfl
    replace pg := hide pg
    clear hB hN CC
    go_enter Tryz.func32, Tryz.ntmps32
    go_upto_region 1 with fail
    rw [← hW2]
    clear hW2
    go_wp2_with fail
    refine (unhide CR).mono ?_
    rintro e w3 ⟨rfl, g3⟩
    obtain ⟨b0, b1, b2, b3⟩ := unhide BX w3 (Fr.of_G g3)
    have CG3 := hide (unhide CG w3 g3)
    replace g3 := hide g3
    clear CR CG
    go_wp2_with fail
    refine (unhide CG3).mono ?_
    rintro e w4 ⟨rfl, g4⟩
    have g5 := (unhide g3).trans g4
    obtain ⟨b0, b1, b2, b3⟩ := unhide BX w4 (Fr.of_G g5)
    have CS3 := hide (unhide CS w4 g5)
    clear CG3 CS g4 g5 g3
    go_wp2_with fail
    refine (unhide CS3).mono ?_
    rintro e w5 ⟨rfl, h5⟩
    obtain ⟨b0, b1, b2, b3⟩ := unhide BX w5 (unhide h5).2
    clear CS3
    go_wp2_with fail
    go_ret2
    exact ⟨rfl, g, unhide pg, (unhide h5).1, unhide FW _ _ (unhide h5).2⟩
  · have CB := hide (hB rfl)
    clear hB hN
    go_enter Tryz.func32, Tryz.ntmps32
    go_upto_region 1 with fail
    rw [← hW2]
    clear hW2
    go_wp2_with fail
    refine (unhide CR).mono ?_
    rintro e w3 ⟨rfl, g3⟩
    obtain ⟨b0, b1, b2, b3⟩ := unhide BX w3 (Fr.of_G g3)
    have CG3 := hide (unhide CG w3 g3)
    replace g3 := hide g3
    clear CR CG
    go_wp2_with fail
    refine (unhide CG3).mono ?_
    rintro e w4 ⟨rfl, g4⟩
    have g5 := (unhide g3).trans g4
    obtain ⟨b0, b1, b2, b3⟩ := unhide BX w4 (Fr.of_G g5)
    have CS3 := hide (unhide CS w4 g5)
    clear CG3 CS g4 g5 g3
    go_wp2_with fail
    refine (unhide CS3).mono ?_
    rintro e w5 ⟨rfl, h5⟩
    obtain ⟨b0, b1, b2, b3⟩ := unhide BX w5 (unhide h5).2
    have CC5 := hide (unhide CC w5 (unhide h5).1)
    have CB5 := hide (unhide CB w5 (unhide h5).1)
    clear CS3 CC CB
    go_wp2_with fail
    refine (unhide CC5).mono ?_
    rintro e w6 ⟨rfl, hw6⟩
    rw [hw6]
    clear hw6 w6 CC5
    go_wp2_with fail
    refine (unhide CB5).mono ?_
    rintro e w7 ⟨rfl, g2, pg, h7, f7⟩
    have h8 := hide (And.intro pg (And.intro h7 (unhide FW _ _ ((unhide h5).2.trans f7))))
    clear CB5 h7 f7 pg
    go_wp2_with fail
    go_ret2
    exact ⟨rfl, g2, unhide h8⟩
end
end Go.Proofs.YtgflkpccddfalaaGreatDoor

/- Package chans, over any view of a heap: Room, Count, Closed, Is, Close. -/
namespace Go.Proofs.YtgflkpccddfalaaGreatDoor
set_option maxRecDepth 100000
open Go.ChangeShapes Go.WideShapes Go.ChangeAt Go.RowKit Go.Maps Go.Deep

section
variable {γ : Type} {V : World → Al → γ → Prop} {own : γ → Nat → Prop} {hb cb ab : Nat} {l : List Hd.Shp} {w : World} {al : Al} {g : γ} {a : Int} {R f : Nat} {adr cl : Bool} {q : List Int}
theorem Cz.rd (h : Cz al l a R adr) (j : Nat) (hj : j < R + 5) : al.a.readV a (j : Int) = al.a.wd (a + j) ∧ al.a.readE a (j : Int) = 0 := by
  unfold Ab.readV Ab.readE
  rw [if_pos (h.inw j hj), if_pos (h.inw j hj)]
  exact ⟨rfl, rfl⟩
theorem Cz.wr (h : Cz al l a R adr) (j : Nat) (hj : j < R + 5) (v : Int) : al.a.writeA a (j : Int) v = al.a.write (a + j) v := if_pos (h.inw j hj)
/-- The one that was found, in a box of the caller's own. -/
theorem c_found (H : Hid (HV V own hb cb ab l)) (h : Hid (V w al g)) (C : Cz al l a R adr) : Calls Tryz.prog 29 #[.pointer (some ⟨hb, 0, none⟩), .int .i64 a] w fun e w1 => e = .returned (.tuple #[chv (some ⟨hb, 0, none⟩) a ((R : Int) + 4) adr, .bool true]) ∧
    Hid (∀ W2, W2 = w1.alloc (.cells #[.pointer (some ⟨hb, 0, none⟩), .int .i64 a, .int .i64 ((R : Int) + 4), .bool adr] 76) → G w W2 ∧ V W2 al g ∧ ∀ y o', Fr (own g) o' W2 y → y.cell? ⟨w1.heap.size, 0, none⟩ = some (.pointer (some ⟨hb, 0, none⟩)) ∧ y.cell? ⟨w1.heap.size, 1, none⟩ = some (.int .i64 a) ∧ y.cell? ⟨w1.heap.size, 2, none⟩ = some (.int .i64 ((R : Int) + 4)) ∧ y.cell? ⟨w1.heap.size, 3, none⟩ = some (.bool adr)) := by
  obtain ⟨sh, s, ho, hh⟩ := C.of_
  rw [show (R : Int) + 5 = (R : Int) + 4 + 1 by omega] at ho
  refine (c_find H h a _ sh s adr ho hh).mono fun e w1 he => ⟨he.1, hide fun W2 hW2 => ?_⟩
  obtain ⟨g2, bx⟩ := box4 hW2
  have V1 := (unhide H).gr _ _ _ _ (unhide h) he.2
  exact ⟨he.2.trans g2, (unhide H).gr _ _ _ _ V1 g2, fun y o' f => bx y (own g) o' ((unhide H).lt _ _ _ V1) f⟩
theorem c_found_no (H : Hid (HV V own hb cb ab l)) (h : Hid (V w al g)) (ho : ofP al l a = none) : Calls Tryz.prog 29 #[.pointer (some ⟨hb, 0, none⟩), .int .i64 a] w fun e w1 => e = .returned (.tuple #[chv none 0 0 false, .bool false]) ∧
    Hid (∀ W2, W2 = w1.alloc (.cells #[.pointer none, .int .i64 0, .int .i64 0, .bool false] 76) → G w W2 ∧ ∀ y, G W2 y → y.cell? ⟨w1.heap.size, 0, none⟩ = some (.pointer none) ∧ y.cell? ⟨w1.heap.size, 1, none⟩ = some (.int .i64 0) ∧ y.cell? ⟨w1.heap.size, 2, none⟩ = some (.int .i64 0) ∧ y.cell? ⟨w1.heap.size, 3, none⟩ = some (.bool false)) := by
  refine (c_find_no H h a ho).mono fun e w1 he => ⟨he.1, hide fun W2 hW2 => ?_⟩
  obtain ⟨g2, bx⟩ := box4 hW2
  exact ⟨he.2.trans g2, fun y gy => bx y (fun _ => False) (fun _ => False) (fun _ h => h.elim) (Fr.of_G gy)⟩
theorem c_room (H : Hid (HV V own hb cb ab l)) (h : Hid (V w al g)) (C : Cz al l a R adr) : Calls Tryz.prog 19 #[.pointer (some ⟨hb, 0, none⟩), .int .i64 a] w fun e w' => e = .returned (.int .i64 (R : Int)) ∧ G w w' := by
  have CF := hide (c_found H h C)
  have hv := (C.rd 1 (by omega)).1
  have CG : Hid (∀ y, V y al g → Calls Tryz.prog 30 #[chv (some ⟨hb, 0, none⟩) a ((R : Int) + 4) adr, .int .i64 0] y fun e w' => e = .returned (.int .i64 (R : Int)) ∧ G y w') := hide fun y hy => by
    have := c_get H (hide hy) a ((R : Int) + 4) 0 adr (by simp; omega) 1 (by decide +kernel)
    rw [show al.a.readV a 1 = _ from hv, show al.a.wd (a + (1 : Nat)) = _ from C.room] at this
    exact this
  generalize (R : Int) = rn at CF CG ⊢
  generalize rn + 4 = F at CF CG
  clear H h C hv
  go_enter Tryz.func19, Tryz.ntmps19
  go_wp2_with fail
  refine (unhide CF).mono ?_
  rintro e w1 ⟨rfl, B1⟩
  clear CF
  go_upto_region 2 with fail
  obtain ⟨W2, hW2⟩ : ∃ W2, W2 = w1.alloc (.cells #[.pointer (some ⟨hb, 0, none⟩), .int .i64 a, .int .i64 F, .bool adr] 76) := ⟨_, rfl⟩
  obtain ⟨g2, V2, BX⟩ := unhide B1 W2 hW2
  obtain ⟨b0, b1, b2, b3⟩ := BX W2 (own g) (Fr.of_G (G.refl _))
  rw [← hW2]
  have C2 := hide (unhide CG W2 V2)
  replace g2 := hide g2
  clear hW2 BX B1 V2 CG
  go_wp2_with fail
  refine (unhide C2).mono ?_
  rintro e w3 ⟨rfl, g3⟩
  have g4 := hide ((unhide g2).trans g3)
  clear C2 g3
  go_wp2_with fail
  go_ret
  exact ⟨rfl, unhide g4⟩
theorem c_room_no (H : Hid (HV V own hb cb ab l)) (h : Hid (V w al g)) (ho : ofP al l a = none) : Calls Tryz.prog 19 #[.pointer (some ⟨hb, 0, none⟩), .int .i64 a] w fun e w' => e = .returned (.int .i64 0) ∧ G w w' := by
  have CF := hide (c_found_no H h ho)
  clear H h ho
  go_enter Tryz.func19, Tryz.ntmps19
  go_wp2_with fail
  refine (unhide CF).mono ?_
  rintro e w1 ⟨rfl, B1⟩
  clear CF
  go_upto_region 2 with fail
  obtain ⟨W2, hW2⟩ : ∃ W2, W2 = w1.alloc (.cells #[.pointer none, .int .i64 0, .int .i64 0, .bool false] 76) := ⟨_, rfl⟩
  obtain ⟨g2, BX⟩ := unhide B1 W2 hW2
  obtain ⟨b0, b1, b2, b3⟩ := BX W2 (G.refl _)
  rw [← hW2]
  have C2 := hide (c_get_out W2 none 0 0 0 false (by decide))
  replace g2 := hide g2
  clear hW2 BX B1
  go_wp2_with fail
  refine (unhide C2).mono ?_
  rintro e w3 ⟨rfl, g3⟩
  have g4 := hide ((unhide g2).trans g3)
  clear C2 g3
  go_wp2_with fail
  go_ret
  exact ⟨rfl, unhide g4⟩
theorem c_count (H : Hid (HV V own hb cb ab l)) (h : Hid (V w al g)) (C : Cz al l a R adr) (Q : Cq al.a a R f q cl) : Calls Tryz.prog 16 #[.pointer (some ⟨hb, 0, none⟩), .int .i64 a] w fun e w' => e = .returned (.int .i64 (q.length : Int)) ∧ G w w' := by
  have CF := hide (c_found H h C)
  have hv := (C.rd 2 (by omega)).1
  have CG : Hid (∀ y, V y al g → Calls Tryz.prog 30 #[chv (some ⟨hb, 0, none⟩) a ((R : Int) + 4) adr, .int .i64 1] y fun e w' => e = .returned (.int .i64 (q.length : Int)) ∧ G y w') := hide fun y hy => by
    have := c_get H (hide hy) a ((R : Int) + 4) 1 adr (by simp; omega) 2 (by decide +kernel)
    rw [show al.a.readV a 2 = _ from hv, show al.a.wd (a + (2 : Nat)) = _ from Q.cnt] at this
    exact this
  generalize (q.length : Int) = rn at CG ⊢
  generalize (R : Int) + 4 = F at CF CG
  clear H h C hv Q
  go_enter Tryz.func16, Tryz.ntmps16
  go_wp2_with fail
  refine (unhide CF).mono ?_
  rintro e w1 ⟨rfl, B1⟩
  clear CF
  go_upto_region 2 with fail
  obtain ⟨W2, hW2⟩ : ∃ W2, W2 = w1.alloc (.cells #[.pointer (some ⟨hb, 0, none⟩), .int .i64 a, .int .i64 F, .bool adr] 76) := ⟨_, rfl⟩
  obtain ⟨g2, V2, BX⟩ := unhide B1 W2 hW2
  obtain ⟨b0, b1, b2, b3⟩ := BX W2 (own g) (Fr.of_G (G.refl _))
  rw [← hW2]
  have C2 := hide (unhide CG W2 V2)
  replace g2 := hide g2
  clear hW2 BX B1 V2 CG
  go_wp2_with fail
  refine (unhide C2).mono ?_
  rintro e w3 ⟨rfl, g3⟩
  have g4 := hide ((unhide g2).trans g3)
  clear C2 g3
  go_wp2_with fail
  go_ret
  exact ⟨rfl, unhide g4⟩
theorem c_count_no (H : Hid (HV V own hb cb ab l)) (h : Hid (V w al g)) (ho : ofP al l a = none) : Calls Tryz.prog 16 #[.pointer (some ⟨hb, 0, none⟩), .int .i64 a] w fun e w' => e = .returned (.int .i64 0) ∧ G w w' := by
  have CF := hide (c_found_no H h ho)
  clear H h ho
  go_enter Tryz.func16, Tryz.ntmps16
  go_wp2_with fail
  refine (unhide CF).mono ?_
  rintro e w1 ⟨rfl, B1⟩
  clear CF
  go_upto_region 2 with fail
  obtain ⟨W2, hW2⟩ : ∃ W2, W2 = w1.alloc (.cells #[.pointer none, .int .i64 0, .int .i64 0, .bool false] 76) := ⟨_, rfl⟩
  obtain ⟨g2, BX⟩ := unhide B1 W2 hW2
  obtain ⟨b0, b1, b2, b3⟩ := BX W2 (G.refl _)
  rw [← hW2]
  have C2 := hide (c_get_out W2 none 0 0 1 false (by decide))
  replace g2 := hide g2
  clear hW2 BX B1
  go_wp2_with fail
  refine (unhide C2).mono ?_
  rintro e w3 ⟨rfl, g3⟩
  have g4 := hide ((unhide g2).trans g3)
  clear C2 g3
  go_wp2_with fail
  go_ret
  exact ⟨rfl, unhide g4⟩
theorem Cz.shut (C : Cz al l a R adr) (Q : Cq al.a a R f q cl) : al.a.readV a 4 = if cl = true then 1 else 0 := ((C.rd 4 (by omega)).1).trans Q.shut
theorem c_shut (H : Hid (HV V own hb cb ab l)) (h : Hid (V w al g)) (C : Cz al l a R adr) (Q : Cq al.a a R f q cl) : Calls Tryz.prog 18 #[.pointer (some ⟨hb, 0, none⟩), .int .i64 a] w fun e w' => e = .returned (.bool cl) ∧ G w w' := by
  have CF := hide (c_found H h C)
  have CG : Hid (∀ y, V y al g → Calls Tryz.prog 31 #[chv (some ⟨hb, 0, none⟩) a ((R : Int) + 4) adr] y fun e w' => e = .returned (.bool cl) ∧ G y w') := hide fun y hy => c_closed H (hide hy) a _ adr (by omega) cl (C.shut Q)
  generalize (R : Int) + 4 = F at CF CG
  clear H h C Q
  go_enter Tryz.func18, Tryz.ntmps18
  go_wp2_with fail
  refine (unhide CF).mono ?_
  rintro e w1 ⟨rfl, B1⟩
  clear CF
  go_upto_region 2 with fail
  obtain ⟨W2, hW2⟩ : ∃ W2, W2 = w1.alloc (.cells #[.pointer (some ⟨hb, 0, none⟩), .int .i64 a, .int .i64 F, .bool adr] 76) := ⟨_, rfl⟩
  obtain ⟨g2, V2, BX⟩ := unhide B1 W2 hW2
  obtain ⟨b0, b1, b2, b3⟩ := BX W2 (own g) (Fr.of_G (G.refl _))
  rw [← hW2]
  have C2 := hide (unhide CG W2 V2)
  replace g2 := hide g2
  clear hW2 BX B1 V2 CG
  go_wp2_with fail
  refine (unhide C2).mono ?_
  rintro e w3 ⟨rfl, g3⟩
  have g4 := hide ((unhide g2).trans g3)
  clear C2 g3
  go_wp2_with fail
  go_ret
  exact ⟨rfl, unhide g4⟩
theorem c_shut_no (H : Hid (HV V own hb cb ab l)) (h : Hid (V w al g)) (ho : ofP al l a = none) : Calls Tryz.prog 18 #[.pointer (some ⟨hb, 0, none⟩), .int .i64 a] w fun e w' => e = .returned (.bool true) ∧ G w w' := by
  have CF := hide (c_found_no H h ho)
  clear H h ho
  go_enter Tryz.func18, Tryz.ntmps18
  go_wp2_with fail
  refine (unhide CF).mono ?_
  rintro e w1 ⟨rfl, B1⟩
  clear CF
  go_upto_region 2 with fail
  obtain ⟨W2, hW2⟩ : ∃ W2, W2 = w1.alloc (.cells #[.pointer none, .int .i64 0, .int .i64 0, .bool false] 76) := ⟨_, rfl⟩
  obtain ⟨g2, BX⟩ := unhide B1 W2 hW2
  rw [← hW2]
  replace g2 := hide g2
  clear hW2 BX B1
  go_wp2_with fail
  go_ret
  exact ⟨rfl, unhide g2⟩
theorem c_is (H : Hid (HV V own hb cb ab l)) (h : Hid (V w al g)) (C : Cz al l a R adr) (b : Bool) : Calls Tryz.prog 20 #[.pointer (some ⟨hb, 0, none⟩), .int .i64 a, .bool b] w fun e w' => e = .returned (.bool (adr == b)) ∧ G w w' := by
  have CF := hide (c_found H h C)
  generalize (R : Int) + 4 = F at CF
  clear H h C
  go_enter Tryz.func20, Tryz.ntmps20
  go_wp2_with fail
  refine (unhide CF).mono ?_
  rintro e w1 ⟨rfl, B1⟩
  clear CF
  go_upto_region 2 with fail
  obtain ⟨W2, hW2⟩ : ∃ W2, W2 = w1.alloc (.cells #[.pointer (some ⟨hb, 0, none⟩), .int .i64 a, .int .i64 F, .bool adr] 76) := ⟨_, rfl⟩
  obtain ⟨g2, V2, BX⟩ := unhide B1 W2 hW2
  obtain ⟨b0, b1, b2, b3⟩ := BX W2 (own g) (Fr.of_G (G.refl _))
  rw [← hW2]
  replace g2 := hide g2
  clear hW2 BX B1 V2
  go_wp2_with fail
  go_ret
  exact ⟨by simp, unhide g2⟩
theorem c_is_no (H : Hid (HV V own hb cb ab l)) (h : Hid (V w al g)) (ho : ofP al l a = none) (b : Bool) : Calls Tryz.prog 20 #[.pointer (some ⟨hb, 0, none⟩), .int .i64 a, .bool b] w fun e w' => e = .returned (.bool false) ∧ G w w' := by
  have CF := hide (c_found_no H h ho)
  clear H h ho
  go_enter Tryz.func20, Tryz.ntmps20
  go_wp2_with fail
  refine (unhide CF).mono ?_
  rintro e w1 ⟨rfl, B1⟩
  clear CF
  go_upto_region 2 with fail
  obtain ⟨W2, hW2⟩ : ∃ W2, W2 = w1.alloc (.cells #[.pointer none, .int .i64 0, .int .i64 0, .bool false] 76) := ⟨_, rfl⟩
  obtain ⟨g2, BX⟩ := unhide B1 W2 hW2
  rw [← hW2]
  replace g2 := hide g2
  clear hW2 BX B1
  go_wp2_with fail
  go_ret
  exact ⟨rfl, unhide g2⟩
end
end Go.Proofs.YtgflkpccddfalaaGreatDoor

/- Package chans, over any view of a heap: Close, Push. -/
namespace Go.Proofs.YtgflkpccddfalaaGreatDoor
set_option maxRecDepth 100000
open Go.ChangeShapes Go.WideShapes Go.ChangeAt Go.RowKit Go.Maps Go.Deep

section
variable {γ : Type} {V : World → Al → γ → Prop} {own : γ → Nat → Prop} {hb cb ab : Nat} {l : List Hd.Shp} {w : World} {al : Al} {g : γ} {a : Int} {R f : Nat} {adr cl : Bool} {q : List Int}
theorem c_close_no (H : Hid (HV V own hb cb ab l)) (h : Hid (V w al g)) (ho : ofP al l a = none) : Calls Tryz.prog 17 #[.pointer (some ⟨hb, 0, none⟩), .int .i64 a] w fun e w' => e = .returned (.bool false) ∧ G w w' := by
  have CF := hide (c_found_no H h ho)
  clear H h ho
  go_enter Tryz.func17, Tryz.ntmps17
  go_wp2_with fail
  refine (unhide CF).mono ?_
  rintro e w1 ⟨rfl, B1⟩
  clear CF
  go_upto_region 2 with fail
  obtain ⟨W2, hW2⟩ : ∃ W2, W2 = w1.alloc (.cells #[.pointer none, .int .i64 0, .int .i64 0, .bool false] 76) := ⟨_, rfl⟩
  obtain ⟨g2, BX⟩ := unhide B1 W2 hW2
  rw [← hW2]
  replace g2 := hide g2
  clear hW2 BX B1
  go_wp2_with fail
  go_ret
  exact ⟨rfl, unhide g2⟩
theorem c_close_shut (H : Hid (HV V own hb cb ab l)) (h : Hid (V w al g)) (C : Cz al l a R adr) (Q : Cq al.a a R f q true) : Calls Tryz.prog 17 #[.pointer (some ⟨hb, 0, none⟩), .int .i64 a] w fun e w' => e = .returned (.bool false) ∧ G w w' := by
  have CF := hide (c_found H h C)
  have CG : Hid (∀ y, V y al g → Calls Tryz.prog 31 #[chv (some ⟨hb, 0, none⟩) a ((R : Int) + 4) adr] y fun e w' => e = .returned (.bool true) ∧ G y w') := hide fun y hy => c_closed H (hide hy) a _ adr (by omega) true (C.shut Q)
  generalize (R : Int) + 4 = F at CF CG
  clear H h C Q
  go_enter Tryz.func17, Tryz.ntmps17
  go_wp2_with fail
  refine (unhide CF).mono ?_
  rintro e w1 ⟨rfl, B1⟩
  clear CF
  go_upto_region 2 with fail
  obtain ⟨W2, hW2⟩ : ∃ W2, W2 = w1.alloc (.cells #[.pointer (some ⟨hb, 0, none⟩), .int .i64 a, .int .i64 F, .bool adr] 76) := ⟨_, rfl⟩
  obtain ⟨g2, V2, BX⟩ := unhide B1 W2 hW2
  obtain ⟨b0, b1, b2, b3⟩ := BX W2 (own g) (Fr.of_G (G.refl _))
  rw [← hW2]
  have C2 := hide (unhide CG W2 V2)
  replace g2 := hide g2
  clear hW2 BX B1 V2 CG
  go_wp2_with fail
  refine (unhide C2).mono ?_
  rintro e w3 ⟨rfl, g3⟩
  have g4 := hide ((unhide g2).trans g3)
  clear C2 g3
  go_wp2_with fail
  go_ret
  exact ⟨rfl, unhide g4⟩
theorem c_close (H : Hid (HV V own hb cb ab l)) (h : Hid (V w al g)) (C : Cz al l a R adr) (Q : Cq al.a a R f q false) : Calls Tryz.prog 17 #[.pointer (some ⟨hb, 0, none⟩), .int .i64 a] w fun e w' => e = .returned (.bool true) ∧ V w' ⟨al.a.write (a + 4) 1, al.u⟩ g ∧ Fr (own g) (own g) w w' := by
  have CF := hide (c_found H h C)
  have CG : Hid (∀ y, V y al g → Calls Tryz.prog 31 #[chv (some ⟨hb, 0, none⟩) a ((R : Int) + 4) adr] y fun e w' => e = .returned (.bool false) ∧ G y w') := hide fun y hy => c_closed H (hide hy) a _ adr (by omega) false (C.shut Q)
  have CS : Hid (∀ y, V y al g → Calls Tryz.prog 33 #[chv (some ⟨hb, 0, none⟩) a ((R : Int) + 4) adr, .int .i64 3, .int .i64 1] y fun e w' => e = .returned (.bool true) ∧ Hid (V w' ⟨al.a.write (a + 4) 1, al.u⟩ g ∧ Fr (own g) (own g) y w')) := hide fun y hy => by
    have := c_set H (hide hy) a ((R : Int) + 4) 3 1 adr (by simp; omega) 4 (by decide +kernel) (C.rd 4 (by omega)).2
    rw [show al.a.writeA a 4 1 = _ from C.wr 4 (by omega) 1] at this
    exact this.mono fun _ _ hh => ⟨hh.1, hide hh.2⟩
  have VG : Hid (∀ y y', V y al g → G y y' → V y' al g) := hide fun y y' hy gy => (unhide H).gr _ _ _ _ hy gy
  generalize (⟨al.a.write (a + 4) 1, al.u⟩ : Al) = al1 at CS ⊢
  generalize (R : Int) + 4 = F at CF CG CS
  clear H h C Q
  go_enter Tryz.func17, Tryz.ntmps17
  go_wp2_with fail
  refine (unhide CF).mono ?_
  rintro e w1 ⟨rfl, B1⟩
  clear CF
  go_upto_region 2 with fail
  obtain ⟨W2, hW2⟩ : ∃ W2, W2 = w1.alloc (.cells #[.pointer (some ⟨hb, 0, none⟩), .int .i64 a, .int .i64 F, .bool adr] 76) := ⟨_, rfl⟩
  obtain ⟨g2, V2, BX⟩ := unhide B1 W2 hW2
  obtain ⟨b0, b1, b2, b3⟩ := BX W2 (own g) (Fr.of_G (G.refl _))
  rw [← hW2]
  have C2 := hide (unhide CG W2 V2)
  replace V2 := hide V2
  replace g2 := hide g2
  replace BX := hide BX
  clear hW2 B1 CG
  go_wp2_with fail
  refine (unhide C2).mono ?_
  rintro e w3 ⟨rfl, g3⟩
  obtain ⟨b0, b1, b2, b3⟩ := unhide BX w3 (own g) (Fr.of_G g3)
  have C3 := hide (unhide CS w3 (unhide VG _ _ (unhide V2) g3))
  have g4 := hide ((unhide g2).trans g3)
  clear C2 g3 CS VG
  go_wp2_with fail
  refine (unhide C3).mono ?_
  rintro e w5 ⟨rfl, h5⟩
  clear C3
  go_wp2_with fail
  go_ret
  exact ⟨rfl, (unhide h5).1, (Fr.of_G (unhide g4)).trans (unhide h5).2⟩
theorem c_push_no (H : Hid (HV V own hb cb ab l)) (h : Hid (V w al g)) (ho : ofP al l a = none) (v id : Int) : Calls Tryz.prog 9 #[.pointer (some ⟨hb, 0, none⟩), .int .i64 a, .int .i64 v, .int .i64 id] w fun e w' => e = .returned (.bool false) ∧ G w w' := by
  have CF := hide (c_found_no H h ho)
  clear H h ho
  go_enter Tryz.func9, Tryz.ntmps9
  go_wp2_with fail
  refine (unhide CF).mono ?_
  rintro e w1 ⟨rfl, B1⟩
  clear CF
  go_upto_region 2 with fail
  obtain ⟨W2, hW2⟩ : ∃ W2, W2 = w1.alloc (.cells #[.pointer none, .int .i64 0, .int .i64 0, .bool false] 76) := ⟨_, rfl⟩
  obtain ⟨g2, BX⟩ := unhide B1 W2 hW2
  obtain ⟨b0, b1, b2, b3⟩ := BX W2 (G.refl _)
  rw [← hW2]
  have C2 := hide (c_get_out W2 none 0 0 1 false (by decide))
  replace g2 := hide g2
  clear hW2 BX B1
  go_wp2_with fail
  refine (unhide C2).mono ?_
  rintro e w3 ⟨rfl, g3⟩
  have g4 := hide ((unhide g2).trans g3)
  clear C2 g3
  go_wp2_with fail
  go_ret
  exact ⟨rfl, unhide g4⟩
set_option maxHeartbeats 1000000 in
theorem c_push_full (H : Hid (HV V own hb cb ab l)) (h : Hid (V w al g)) (C : Cz al l a R adr) (Q : Cq al.a a R f q cl) (hl : cl = true ∨ R ≤ q.length) (v id : Int) : Calls Tryz.prog 9 #[.pointer (some ⟨hb, 0, none⟩), .int .i64 a, .int .i64 v, .int .i64 id] w fun e w' => e = .returned (.bool false) ∧ G w w' := by
  have CF := hide (c_found H h C)
  have CG : Hid (∀ y, V y al g → Calls Tryz.prog 31 #[chv (some ⟨hb, 0, none⟩) a ((R : Int) + 4) adr] y fun e w' => e = .returned (.bool cl) ∧ G y w') := hide fun y hy => c_closed H (hide hy) a _ adr (by omega) cl (C.shut Q)
  have CN : Hid (∀ y, V y al g → Calls Tryz.prog 30 #[chv (some ⟨hb, 0, none⟩) a ((R : Int) + 4) adr, .int .i64 1] y fun e w' => e = .returned (.int .i64 (q.length : Int)) ∧ G y w') := hide fun y hy => by
    have := c_get H (hide hy) a ((R : Int) + 4) 1 adr (by simp; omega) 2 (by decide +kernel)
    rw [show al.a.readV a 2 = _ from (C.rd 2 (by omega)).1, show al.a.wd (a + (2 : Nat)) = _ from Q.cnt] at this
    exact this
  have CR : Hid (∀ y, V y al g → Calls Tryz.prog 30 #[chv (some ⟨hb, 0, none⟩) a ((R : Int) + 4) adr, .int .i64 0] y fun e w' => e = .returned (.int .i64 (R : Int)) ∧ G y w') := hide fun y hy => by
    have := c_get H (hide hy) a ((R : Int) + 4) 0 adr (by simp; omega) 1 (by decide +kernel)
    rw [show al.a.readV a 1 = _ from (C.rd 1 (by omega)).1, show al.a.wd (a + (1 : Nat)) = _ from C.room] at this
    exact this
  have VG : Hid (∀ y y', V y al g → G y y' → V y' al g) := hide fun y y' hy gy => (unhide H).gr _ _ _ _ hy gy
  have hl' : cl = true ∨ (R : Int) ≤ (q.length : Int) := by
    rcases hl with e | e
    · exact Or.inl e
    · exact Or.inr (by omega)
  generalize (R : Int) + 4 = F at CF CG CN CR
  generalize (R : Int) = rn at CR hl'
  generalize (q.length : Int) = cn at CN hl'
  clear H h C Q hl
  cases cl
  · have hle : rn ≤ cn := by
      rcases hl' with e | e
      · cases e
      · exact e
    clear hl'
    go_enter Tryz.func9, Tryz.ntmps9
    go_wp2_with fail
    refine (unhide CF).mono ?_
    rintro e w1 ⟨rfl, B1⟩
    clear CF
    go_upto_region 2 with fail
    obtain ⟨W2, hW2⟩ : ∃ W2, W2 = w1.alloc (.cells #[.pointer (some ⟨hb, 0, none⟩), .int .i64 a, .int .i64 F, .bool adr] 76) := ⟨_, rfl⟩
    obtain ⟨g2, V2, BX⟩ := unhide B1 W2 hW2
    obtain ⟨b0, b1, b2, b3⟩ := BX W2 (own g) (Fr.of_G (G.refl _))
    rw [← hW2]
    have C2 := hide (unhide CN W2 V2)
    replace V2 := hide V2
    replace g2 := hide g2
    replace BX := hide BX
    clear hW2 B1 CN
    go_wp2_with fail
    refine (unhide C2).mono ?_
    rintro e w3 ⟨rfl, g3⟩
    obtain ⟨b0, b1, b2, b3⟩ := unhide BX w3 (own g) (Fr.of_G g3)
    have V3 := unhide VG _ _ (unhide V2) g3
    have C3 := hide (unhide CG w3 V3)
    replace V3 := hide V3
    replace g3 := hide g3
    clear C2 CG
    go_wp2_with fail
    refine (unhide C3).mono ?_
    rintro e w4 ⟨rfl, g4⟩
    have g4' := (unhide g3).trans g4
    obtain ⟨b0, b1, b2, b3⟩ := unhide BX w4 (own g) (Fr.of_G g4')
    have C4 := hide (unhide CR w4 (unhide VG _ _ (unhide V3) g4))
    have g5 := hide ((unhide g2).trans g4')
    clear C3 CR g4 g4'
    go_wp2_with fail
    refine (unhide C4).mono ?_
    rintro e w5 ⟨rfl, g6⟩
    have g7 := hide ((unhide g5).trans g6)
    clear C4 g6
    go_wp2_with fail
    go_ret
    exact ⟨rfl, unhide g7⟩
  · clear hl' CR
    go_enter Tryz.func9, Tryz.ntmps9
    go_wp2_with fail
    refine (unhide CF).mono ?_
    rintro e w1 ⟨rfl, B1⟩
    clear CF
    go_upto_region 2 with fail
    obtain ⟨W2, hW2⟩ : ∃ W2, W2 = w1.alloc (.cells #[.pointer (some ⟨hb, 0, none⟩), .int .i64 a, .int .i64 F, .bool adr] 76) := ⟨_, rfl⟩
    obtain ⟨g2, V2, BX⟩ := unhide B1 W2 hW2
    obtain ⟨b0, b1, b2, b3⟩ := BX W2 (own g) (Fr.of_G (G.refl _))
    rw [← hW2]
    have C2 := hide (unhide CN W2 V2)
    replace V2 := hide V2
    replace g2 := hide g2
    replace BX := hide BX
    clear hW2 B1 CN
    go_wp2_with fail
    refine (unhide C2).mono ?_
    rintro e w3 ⟨rfl, g3⟩
    obtain ⟨b0, b1, b2, b3⟩ := unhide BX w3 (own g) (Fr.of_G g3)
    have C3 := hide (unhide CG w3 (unhide VG _ _ (unhide V2) g3))
    have g4 := hide ((unhide g2).trans g3)
    clear C2 CG g3
    go_wp2_with fail
    refine (unhide C3).mono ?_
    rintro e w4 ⟨rfl, g5⟩
    have g6 := hide ((unhide g4).trans g5)
    clear C3 g5
    go_wp2_with fail
    go_ret
    exact ⟨rfl, unhide g6⟩
end
end Go.Proofs.YtgflkpccddfalaaGreatDoor

/- Package chans, over any view of a heap: Push and Pop. -/
namespace Go.Proofs.YtgflkpccddfalaaGreatDoor
set_option maxRecDepth 100000
open Go.ChangeShapes Go.WideShapes Go.ChangeAt Go.RowKit Go.Maps Go.Deep

theorem tmod_nat (m n : Nat) : Int.tmod (m : Int) (n : Int) = ((m % n : Nat) : Int) := (Int.ofNat_tmod m n).symm
section
variable {γ : Type} {V : World → Al → γ → Prop} {own : γ → Nat → Prop} {hb cb ab : Nat} {l : List Hd.Shp} {w : World} {al : Al} {g : γ} {a : Int} {R f : Nat} {adr cl : Bool} {q : List Int}
/-- A thing is put at a place of the ring. -/
theorem c_swapR (H : Hid (HV V own hb cb ab l)) (C : Cz al l a R adr) (far z : Nat) (hz : far % R = z) (hR : 0 < R) (v id : Int) (al2 : Al) (Pg : γ → Prop)
    (hB : adr = true → BarC V own cb ⟨al.a.write (a + (5 + (z : Int))) v, al.u⟩ g (al.a.wd (a + (5 + (z : Int)))) v id al2 Pg) (hN : adr = false → al2 = ⟨al.a.write (a + (5 + (z : Int))) v, al.u⟩ ∧ Pg g) (y : World) (hy : V y al g) :
    Calls Tryz.prog 32 #[chv (some ⟨hb, 0, none⟩) a ((R : Int) + 4) adr, .int .i64 (far : Int), .int .i64 v, .int .i64 id] y fun e w' => e = .returned (.tuple #[.int .i64 (al.a.wd (a + (5 + (z : Int)))), .bool true]) ∧ ∃ g2, Pg g2 ∧ V w' al2 g2 ∧ Fr (own g) (own g2) y w' := by
  have hzR : z < R := by rw [← hz]; exact Nat.mod_lt _ hR
  have r0 := C.r0
  have e5 : ((5 + z : Nat) : Int) = 5 + (z : Int) := by omega
  have h1 := C.rd (5 + z) (by omega)
  have h2 := C.wr (5 + z) (by omega) v
  rw [e5] at h1 h2
  have h3 := c_swap H (hide hy) a ((R : Int) + 4) adr (R : Int) (far : Int) (z : Int) v id ((C.rd 1 (by omega)).1.trans C.room) (by omega) (by rw [tmod_nat, hz]) (by omega) (by omega) (by omega) h1.2 al2 Pg (by rw [h1.1, h2]; exact hB) (by rw [h2]; exact hN)
  rw [h1.1] at h3
  exact h3
set_option maxHeartbeats 2000000 in
theorem c_push (H : Hid (HV V own hb cb ab l)) (h : Hid (V w al g)) (C : Cz al l a R adr) (Q : Cq al.a a R f q false) (hl : q.length < R) (v id : Int) (al2 : Al) (Pg : γ → Prop)
    (hB : adr = true → BarC V own cb ⟨al.a.write (a + (5 + ((f + q.length) % R : Nat))) v, al.u⟩ g (al.a.wd (a + (5 + ((f + q.length) % R : Nat)))) v id al2 Pg) (hN : adr = false → al2 = ⟨al.a.write (a + (5 + ((f + q.length) % R : Nat))) v, al.u⟩ ∧ Pg g) (C2 : Cz al2 l a R adr) :
    Calls Tryz.prog 9 #[.pointer (some ⟨hb, 0, none⟩), .int .i64 a, .int .i64 v, .int .i64 id] w fun e w' => e = .returned (.bool true) ∧ ∃ g2, Pg g2 ∧ V w' ⟨al2.a.write (a + 2) ((q.length : Int) + 1), al2.u⟩ g2 ∧ Fr (own g) (own g2) w w' := by
  have CF := hide (c_found H h C)
  have hfl := Q.fl (by omega)
  have r0 := C.r0
  have CG : Hid (∀ y, V y al g → Calls Tryz.prog 31 #[chv (some ⟨hb, 0, none⟩) a ((R : Int) + 4) adr] y fun e w' => e = .returned (.bool false) ∧ G y w') := hide fun y hy => c_closed H (hide hy) a _ adr (by omega) false (C.shut Q)
  have CN : Hid (∀ y, V y al g → Calls Tryz.prog 30 #[chv (some ⟨hb, 0, none⟩) a ((R : Int) + 4) adr, .int .i64 1] y fun e w' => e = .returned (.int .i64 (q.length : Int)) ∧ G y w') := hide fun y hy => by
    have := c_get H (hide hy) a ((R : Int) + 4) 1 adr (by simp; omega) 2 (by decide +kernel)
    rw [show al.a.readV a 2 = _ from (C.rd 2 (by omega)).1, show al.a.wd (a + (2 : Nat)) = _ from Q.cnt] at this
    exact this
  have CR : Hid (∀ y, V y al g → Calls Tryz.prog 30 #[chv (some ⟨hb, 0, none⟩) a ((R : Int) + 4) adr, .int .i64 0] y fun e w' => e = .returned (.int .i64 (R : Int)) ∧ G y w') := hide fun y hy => by
    have := c_get H (hide hy) a ((R : Int) + 4) 0 adr (by simp; omega) 1 (by decide +kernel)
    rw [show al.a.readV a 1 = _ from (C.rd 1 (by omega)).1, show al.a.wd (a + (1 : Nat)) = _ from C.room] at this
    exact this
  have CT : Hid (∀ y, V y al g → Calls Tryz.prog 30 #[chv (some ⟨hb, 0, none⟩) a ((R : Int) + 4) adr, .int .i64 2] y fun e w' => e = .returned (.int .i64 (f : Int)) ∧ G y w') := hide fun y hy => by
    have := c_get H (hide hy) a ((R : Int) + 4) 2 adr (by simp; omega) 3 (by decide +kernel)
    rw [show al.a.readV a 3 = _ from (C.rd 3 (by omega)).1, show al.a.wd (a + (3 : Nat)) = _ from Q.fst] at this
    exact this
  have CW : Hid (∀ y, V y al g → Calls Tryz.prog 32 #[chv (some ⟨hb, 0, none⟩) a ((R : Int) + 4) adr, .int .i64 (IntKind.i64.wrap ((f : Int) + (q.length : Int))), .int .i64 v, .int .i64 id] y fun e w' => (∃ old, e = .returned (.tuple #[.int .i64 old, .bool true])) ∧ Hid (∃ g2, Pg g2 ∧ V w' al2 g2 ∧ Fr (own g) (own g2) y w')) := hide fun y hy => by
    have e : IntKind.i64.wrap ((f : Int) + (q.length : Int)) = ((f + q.length : Nat) : Int) := by rw [IntKind.wrap_i64]; omega
    rw [e]
    exact (c_swapR H C (f + q.length) _ rfl (by omega) v id al2 Pg hB hN y hy).mono fun _ _ hh => ⟨⟨_, hh.1⟩, hide hh.2⟩
  have CS : Hid (∀ y g2, V y al2 g2 → Calls Tryz.prog 33 #[chv (some ⟨hb, 0, none⟩) a ((R : Int) + 4) adr, .int .i64 1, .int .i64 ((q.length : Int) + 1)] y fun e w' => e = .returned (.bool true) ∧ Hid (V w' ⟨al2.a.write (a + 2) ((q.length : Int) + 1), al2.u⟩ g2 ∧ Fr (own g2) (own g2) y w')) := hide fun y g2 hy => by
    have := c_set H (hide hy) a ((R : Int) + 4) 1 ((q.length : Int) + 1) adr (by simp; omega) 2 (by decide +kernel) (C2.rd 2 (by omega)).2
    rw [show al2.a.writeA a 2 ((q.length : Int) + 1) = _ from C2.wr 2 (by omega) _] at this
    exact this.mono fun _ _ hh => ⟨hh.1, hide hh.2⟩
  have VG : Hid (∀ y y', V y al g → G y y' → V y' al g) := hide fun y y' hy gy => (unhide H).gr _ _ _ _ hy gy
  have hd : ¬ (R : Int) ≤ (q.length : Int) := by omega
  obtain ⟨cn1, hc1⟩ : ∃ c, c = (q.length : Int) + 1 := ⟨_, rfl⟩
  have hw : wrap64 ((q.length : Int) + 1) = cn1 := by rw [hc1]; unfold wrap64; omega
  rw [← hc1] at CS ⊢
  clear hc1
  generalize (⟨al2.a.write (a + 2) cn1, al2.u⟩ : Al) = al3 at CS ⊢
  generalize (R : Int) + 4 = F at CF CG CN CR CT CW CS
  generalize (R : Int) = rn at CR hd
  generalize (q.length : Int) = cn at CN CW CS hd hw
  generalize (f : Int) = fn at CT CW
  clear H h C Q hl hB hN C2 hfl r0
  go_enter Tryz.func9, Tryz.ntmps9
  go_wp2_with fail
  refine (unhide CF).mono ?_
  rintro e w1 ⟨rfl, B1⟩
  clear CF
  go_upto_region 2 with fail
  obtain ⟨W2, hW2⟩ : ∃ W2, W2 = w1.alloc (.cells #[.pointer (some ⟨hb, 0, none⟩), .int .i64 a, .int .i64 F, .bool adr] 76) := ⟨_, rfl⟩
  obtain ⟨gw, V2, BX⟩ := unhide B1 W2 hW2
  obtain ⟨b0, b1, b2, b3⟩ := BX W2 (own g) (Fr.of_G (G.refl _))
  rw [← hW2]
  have K2 := hide (unhide CN W2 V2)
  replace V2 : Hid (∀ y, G W2 y → V y al g) := hide fun y gy => unhide VG _ _ V2 gy
  replace gw := hide gw
  replace BX := hide BX
  clear hW2 B1 CN VG
  go_wp2_with fail
  refine (unhide K2).mono ?_
  rintro e w3 ⟨rfl, g3⟩
  obtain ⟨b0, b1, b2, b3⟩ := unhide BX w3 (own g) (Fr.of_G g3)
  have K3 := hide (unhide CG w3 (unhide V2 _ g3))
  replace g3 := hide g3
  clear K2 CG
  go_wp2_with fail
  refine (unhide K3).mono ?_
  rintro e w4 ⟨rfl, g4⟩
  have g4' := (unhide g3).trans g4
  obtain ⟨b0, b1, b2, b3⟩ := unhide BX w4 (own g) (Fr.of_G g4')
  have K4 := hide (unhide CR w4 (unhide V2 _ g4'))
  replace g4' := hide g4'
  clear K3 CR g4 g3
  go_wp2_with fail
  refine (unhide K4).mono ?_
  rintro e w5 ⟨rfl, g5⟩
  have g5' := (unhide g4').trans g5
  clear K4 g4' g5
  have KD : Hid (w5.drew.cell? ⟨w1.heap.size, 0, none⟩ = some (.pointer (some ⟨hb, 0, none⟩)) ∧ w5.drew.cell? ⟨w1.heap.size, 1, none⟩ = some (.int .i64 a) ∧ w5.drew.cell? ⟨w1.heap.size, 2, none⟩ = some (.int .i64 F) ∧ w5.drew.cell? ⟨w1.heap.size, 3, none⟩ = some (.bool adr)) := hide (unhide BX _ _ (Fr.of_G g5'.drew))
  have KC : Hid (∀ x y : World, (x.cell? ⟨w1.heap.size, 0, none⟩ = some (.pointer (some ⟨hb, 0, none⟩)) ∧ x.cell? ⟨w1.heap.size, 1, none⟩ = some (.int .i64 a) ∧ x.cell? ⟨w1.heap.size, 2, none⟩ = some (.int .i64 F) ∧ x.cell? ⟨w1.heap.size, 3, none⟩ = some (.bool adr)) → G x y → (y.cell? ⟨w1.heap.size, 0, none⟩ = some (.pointer (some ⟨hb, 0, none⟩)) ∧ y.cell? ⟨w1.heap.size, 1, none⟩ = some (.int .i64 a) ∧ y.cell? ⟨w1.heap.size, 2, none⟩ = some (.int .i64 F) ∧ y.cell? ⟨w1.heap.size, 3, none⟩ = some (.bool adr))) := hide fun x y hx gx => ⟨gx.cell hx.1, gx.cell hx.2.1, gx.cell hx.2.2.1, gx.cell hx.2.2.2⟩
  obtain ⟨b0, b1, b2, b3⟩ := unhide BX w5 (own g) (Fr.of_G g5')
  have gd := g5'.drew
  replace g5' := hide g5'
  go_upto_region 5 with fail
  go_region_held3 (fun x => x.cell? ⟨w1.heap.size, 0, none⟩ = some (.pointer (some ⟨hb, 0, none⟩)) ∧ x.cell? ⟨w1.heap.size, 1, none⟩ = some (.int .i64 a) ∧ x.cell? ⟨w1.heap.size, 2, none⟩ = some (.int .i64 F) ∧ x.cell? ⟨w1.heap.size, 3, none⟩ = some (.bool adr))
    (first | assumption | exact unhide KD | exact unhide KC _ _ (by assumption) (by assumption))
    ((first
      | (go_at_call 30; refine (unhide CT _ (unhide V2 _ gd)).mono ?_; rintro e x6 ⟨rfl, hg6⟩; have gW6 := gd.trans hg6)
      | (go_at_call 32; refine (unhide CW _ (unhide V2 _ gW6)).mono ?_; rintro e x7 ⟨⟨old, rfl⟩, h7⟩; obtain ⟨g2, pg, v7, f7'⟩ := unhide h7; have f7 := (Fr.of_G (o := own g) gW6).trans f7'; have S7 := unhide BX x7 _ f7)))
  all_goals
    have K8 := hide (unhide CS x7 g2 v7)
    replace f7 := hide f7
    replace pg := hide pg
    clear v7 f7' h7
    obtain ⟨b0, b1, b2, b3⟩ := S7
    go_wp2_with fail
    refine (unhide K8).mono ?_
    rintro e w9 ⟨rfl, h9⟩
    clear K8
    go_wp2_with fail
    go_ret
    exact ⟨rfl, g2, unhide pg, (unhide h9).1, (Fr.of_G (unhide gw)).trans ((unhide f7).trans (unhide h9).2)⟩
end
end Go.Proofs.YtgflkpccddfalaaGreatDoor

/- Package chans, over any view of a heap: Pop. -/
namespace Go.Proofs.YtgflkpccddfalaaGreatDoor
set_option maxRecDepth 100000
open Go.ChangeShapes Go.WideShapes Go.ChangeAt Go.RowKit Go.Maps Go.Deep

section
variable {γ : Type} {V : World → Al → γ → Prop} {own : γ → Nat → Prop} {hb cb ab : Nat} {l : List Hd.Shp} {w : World} {al : Al} {g : γ} {a : Int} {R f : Nat} {adr cl : Bool} {q : List Int}
set_option maxHeartbeats 1000000 in
theorem c_pop_no (H : Hid (HV V own hb cb ab l)) (h : Hid (V w al g)) (ho : ofP al l a = none) : Calls Tryz.prog 10 #[.pointer (some ⟨hb, 0, none⟩), .int .i64 a] w fun e w' => e = .returned (.tuple #[.int .i64 0, .bool false]) ∧ G w w' := by
  have CF := hide (c_found_no H h ho)
  clear H h ho
  go_enter Tryz.func10, Tryz.ntmps10
  go_wp2_with fail
  refine (unhide CF).mono ?_
  rintro e w1 ⟨rfl, B1⟩
  clear CF
  go_upto_region 2 with fail
  obtain ⟨W2, hW2⟩ : ∃ W2, W2 = w1.alloc (.cells #[.pointer none, .int .i64 0, .int .i64 0, .bool false] 76) := ⟨_, rfl⟩
  obtain ⟨gw, BX⟩ := unhide B1 W2 hW2
  obtain ⟨b0, b1, b2, b3⟩ := BX W2 (G.refl _)
  rw [← hW2]
  replace gw := hide gw
  clear hW2 B1
  have C1 : Hid (∀ y : World, (y.cell? ⟨w1.heap.size, 0, none⟩ = some (.pointer none) ∧ y.cell? ⟨w1.heap.size, 1, none⟩ = some (.int .i64 0) ∧ y.cell? ⟨w1.heap.size, 2, none⟩ = some (.int .i64 0) ∧ y.cell? ⟨w1.heap.size, 3, none⟩ = some (.bool false)) → Calls Tryz.prog 30 #[chv none 0 0 false, .int .i64 1] y fun e w' => e = .returned (.int .i64 0) ∧ G y w') := hide fun y _ => c_get_out y none 0 0 1 false (by decide)
  have C2 : Hid (∀ y : World, (y.cell? ⟨w1.heap.size, 0, none⟩ = some (.pointer none) ∧ y.cell? ⟨w1.heap.size, 1, none⟩ = some (.int .i64 0) ∧ y.cell? ⟨w1.heap.size, 2, none⟩ = some (.int .i64 0) ∧ y.cell? ⟨w1.heap.size, 3, none⟩ = some (.bool false)) → Calls Tryz.prog 30 #[chv none 0 0 false, .int .i64 2] y fun e w' => e = .returned (.int .i64 0) ∧ G y w') := hide fun y _ => c_get_out y none 0 0 2 false (by decide)
  have KD : Hid (W2.drew.cell? ⟨w1.heap.size, 0, none⟩ = some (.pointer none) ∧ W2.drew.cell? ⟨w1.heap.size, 1, none⟩ = some (.int .i64 0) ∧ W2.drew.cell? ⟨w1.heap.size, 2, none⟩ = some (.int .i64 0) ∧ W2.drew.cell? ⟨w1.heap.size, 3, none⟩ = some (.bool false)) := hide (BX _ (G.refl _).drew)
  have KC : Hid (∀ x y : World, (x.cell? ⟨w1.heap.size, 0, none⟩ = some (.pointer none) ∧ x.cell? ⟨w1.heap.size, 1, none⟩ = some (.int .i64 0) ∧ x.cell? ⟨w1.heap.size, 2, none⟩ = some (.int .i64 0) ∧ x.cell? ⟨w1.heap.size, 3, none⟩ = some (.bool false)) → G x y → (y.cell? ⟨w1.heap.size, 0, none⟩ = some (.pointer none) ∧ y.cell? ⟨w1.heap.size, 1, none⟩ = some (.int .i64 0) ∧ y.cell? ⟨w1.heap.size, 2, none⟩ = some (.int .i64 0) ∧ y.cell? ⟨w1.heap.size, 3, none⟩ = some (.bool false))) := hide fun x y hx gx => ⟨gx.cell hx.1, gx.cell hx.2.1, gx.cell hx.2.2.1, gx.cell hx.2.2.2⟩
  clear BX
  go_region_held3 (fun x => x.cell? ⟨w1.heap.size, 0, none⟩ = some (.pointer none) ∧ x.cell? ⟨w1.heap.size, 1, none⟩ = some (.int .i64 0) ∧ x.cell? ⟨w1.heap.size, 2, none⟩ = some (.int .i64 0) ∧ x.cell? ⟨w1.heap.size, 3, none⟩ = some (.bool false))
    (first | assumption | exact unhide KD | exact unhide KC _ _ (by assumption) (by assumption))
    ((first
      | (go_at_call_of 30 (Value.int IntKind.i64 1); refine (unhide C1 _ ?_).mono ?_; assumption; rintro e x3 ⟨rfl, hg3⟩)
      | (go_at_call_of 30 (Value.int IntKind.i64 2); refine (unhide C2 _ ?_).mono ?_; assumption; rintro e x4 ⟨rfl, hg4⟩)))
  all_goals
    have g5 := hide ((unhide gw).trans (((G.refl W2).drew.trans hg3).trans hg4))
    go_wp2_with fail
    go_ret2
    exact ⟨rfl, unhide g5⟩
set_option maxHeartbeats 1000000 in
theorem c_pop_empty (H : Hid (HV V own hb cb ab l)) (h : Hid (V w al g)) (C : Cz al l a R adr) (Q : Cq al.a a R f [] cl) : Calls Tryz.prog 10 #[.pointer (some ⟨hb, 0, none⟩), .int .i64 a] w fun e w' => e = .returned (.tuple #[.int .i64 0, .bool false]) ∧ G w w' := by
  have CF := hide (c_found H h C)
  have CN : Hid (∀ y, V y al g → Calls Tryz.prog 30 #[chv (some ⟨hb, 0, none⟩) a ((R : Int) + 4) adr, .int .i64 1] y fun e w' => e = .returned (.int .i64 0) ∧ G y w') := hide fun y hy => by
    have := c_get H (hide hy) a ((R : Int) + 4) 1 adr (by simp; omega) 2 (by decide +kernel)
    rw [show al.a.readV a 2 = _ from (C.rd 2 (by omega)).1, show al.a.wd (a + (2 : Nat)) = _ from Q.cnt] at this
    exact this
  have CT : Hid (∀ y, V y al g → Calls Tryz.prog 30 #[chv (some ⟨hb, 0, none⟩) a ((R : Int) + 4) adr, .int .i64 2] y fun e w' => e = .returned (.int .i64 (f : Int)) ∧ G y w') := hide fun y hy => by
    have := c_get H (hide hy) a ((R : Int) + 4) 2 adr (by simp; omega) 3 (by decide +kernel)
    rw [show al.a.readV a 3 = _ from (C.rd 3 (by omega)).1, show al.a.wd (a + (3 : Nat)) = _ from Q.fst] at this
    exact this
  have VG : Hid (∀ y y', V y al g → G y y' → V y' al g) := hide fun y y' hy gy => (unhide H).gr _ _ _ _ hy gy
  generalize (R : Int) + 4 = F at CF CN CT
  generalize (f : Int) = fn at CT
  clear H h C Q
  go_enter Tryz.func10, Tryz.ntmps10
  go_wp2_with fail
  refine (unhide CF).mono ?_
  rintro e w1 ⟨rfl, B1⟩
  clear CF
  go_upto_region 2 with fail
  obtain ⟨W2, hW2⟩ : ∃ W2, W2 = w1.alloc (.cells #[.pointer (some ⟨hb, 0, none⟩), .int .i64 a, .int .i64 F, .bool adr] 76) := ⟨_, rfl⟩
  obtain ⟨gw, V2, BX⟩ := unhide B1 W2 hW2
  obtain ⟨b0, b1, b2, b3⟩ := BX W2 (own g) (Fr.of_G (G.refl _))
  rw [← hW2]
  replace V2 : Hid (∀ y, G W2 y → V y al g) := hide fun y gy => unhide VG _ _ V2 gy
  replace gw := hide gw
  clear hW2 B1 VG
  have KD : Hid (W2.drew.cell? ⟨w1.heap.size, 0, none⟩ = some (.pointer (some ⟨hb, 0, none⟩)) ∧ W2.drew.cell? ⟨w1.heap.size, 1, none⟩ = some (.int .i64 a) ∧ W2.drew.cell? ⟨w1.heap.size, 2, none⟩ = some (.int .i64 F) ∧ W2.drew.cell? ⟨w1.heap.size, 3, none⟩ = some (.bool adr)) := hide (BX _ (own g) (Fr.of_G (G.refl _).drew))
  have KC : Hid (∀ x y : World, (x.cell? ⟨w1.heap.size, 0, none⟩ = some (.pointer (some ⟨hb, 0, none⟩)) ∧ x.cell? ⟨w1.heap.size, 1, none⟩ = some (.int .i64 a) ∧ x.cell? ⟨w1.heap.size, 2, none⟩ = some (.int .i64 F) ∧ x.cell? ⟨w1.heap.size, 3, none⟩ = some (.bool adr)) → G x y → (y.cell? ⟨w1.heap.size, 0, none⟩ = some (.pointer (some ⟨hb, 0, none⟩)) ∧ y.cell? ⟨w1.heap.size, 1, none⟩ = some (.int .i64 a) ∧ y.cell? ⟨w1.heap.size, 2, none⟩ = some (.int .i64 F) ∧ y.cell? ⟨w1.heap.size, 3, none⟩ = some (.bool adr))) := hide fun x y hx gx => ⟨gx.cell hx.1, gx.cell hx.2.1, gx.cell hx.2.2.1, gx.cell hx.2.2.2⟩
  replace BX := hide BX
  have gd := (G.refl W2).drew
  go_region_held3 (fun x => x.cell? ⟨w1.heap.size, 0, none⟩ = some (.pointer (some ⟨hb, 0, none⟩)) ∧ x.cell? ⟨w1.heap.size, 1, none⟩ = some (.int .i64 a) ∧ x.cell? ⟨w1.heap.size, 2, none⟩ = some (.int .i64 F) ∧ x.cell? ⟨w1.heap.size, 3, none⟩ = some (.bool adr))
    (first | assumption | exact unhide KD | exact unhide KC _ _ (by assumption) (by assumption))
    ((first
      | (go_at_call_of 30 (Value.int IntKind.i64 1); refine (unhide CN _ (unhide V2 _ gd)).mono ?_; rintro e x3 ⟨rfl, hg3⟩; have gW3 := gd.trans hg3)
      | (go_at_call_of 30 (Value.int IntKind.i64 2); refine (unhide CT _ (unhide V2 _ gW3)).mono ?_; rintro e x4 ⟨rfl, hg4⟩; have gW4 := gW3.trans hg4)))
  all_goals
    have g5 := hide ((unhide gw).trans gW4)
    clear KD KC gd hg3 gW3 hg4 gW4
    go_wp2_with fail
    go_ret2
    exact ⟨rfl, unhide g5⟩
set_option maxHeartbeats 2000000 in
theorem c_pop {v : Int} (H : Hid (HV V own hb cb ab l)) (h : Hid (V w al g)) (C : Cz al l a R adr) (Q : Cq al.a a R f (v :: q) cl) (al2 : Al) (Pg : γ → Prop)
    (hB : adr = true → BarC V own cb ⟨al.a.write (a + (5 + (f : Int))) 0, al.u⟩ g v 0 (-1) al2 Pg) (hN : adr = false → al2 = ⟨al.a.write (a + (5 + (f : Int))) 0, al.u⟩ ∧ Pg g) (C2 : Cz al2 l a R adr) :
    Calls Tryz.prog 10 #[.pointer (some ⟨hb, 0, none⟩), .int .i64 a] w fun e w' => e = .returned (.tuple #[.int .i64 v, .bool true]) ∧ ∃ g2, Pg g2 ∧ V w' ⟨(al2.a.write (a + 3) (((f + 1) % R : Nat) : Int)).write (a + 2) (((v :: q).length : Int) - 1), al2.u⟩ g2 ∧ Fr (own g) (own g2) w w' := by
  have CF := hide (c_found H h C)
  have hlen := Q.len
  rw [List.length_cons] at hlen
  have hfl := Q.fl (by omega)
  have r0 := C.r0
  have hv := Q.pop.1
  have CN : Hid (∀ y, V y al g → Calls Tryz.prog 30 #[chv (some ⟨hb, 0, none⟩) a ((R : Int) + 4) adr, .int .i64 1] y fun e w' => e = .returned (.int .i64 ((v :: q).length : Int)) ∧ G y w') := hide fun y hy => by
    have := c_get H (hide hy) a ((R : Int) + 4) 1 adr (by simp; omega) 2 (by decide +kernel)
    rw [show al.a.readV a 2 = _ from (C.rd 2 (by omega)).1, show al.a.wd (a + (2 : Nat)) = _ from Q.cnt] at this
    exact this
  have CT : Hid (∀ y, V y al g → Calls Tryz.prog 30 #[chv (some ⟨hb, 0, none⟩) a ((R : Int) + 4) adr, .int .i64 2] y fun e w' => e = .returned (.int .i64 (f : Int)) ∧ G y w') := hide fun y hy => by
    have := c_get H (hide hy) a ((R : Int) + 4) 2 adr (by simp; omega) 3 (by decide +kernel)
    rw [show al.a.readV a 3 = _ from (C.rd 3 (by omega)).1, show al.a.wd (a + (3 : Nat)) = _ from Q.fst] at this
    exact this
  have VG : Hid (∀ y y', V y al g → G y y' → V y' al g) := hide fun y y' hy gy => (unhide H).gr _ _ _ _ hy gy
  have VG2 : Hid (∀ y y' g2, V y al2 g2 → G y y' → V y' al2 g2) := hide fun y y' g2 hy gy => (unhide H).gr _ _ _ _ hy gy
  have CW : Hid (∀ y, V y al g → Calls Tryz.prog 32 #[chv (some ⟨hb, 0, none⟩) a ((R : Int) + 4) adr, .int .i64 (f : Int), .int .i64 0, .int .i64 (-1)] y fun e w' => e = .returned (.tuple #[.int .i64 v, .bool true]) ∧ Hid (∃ g2, Pg g2 ∧ V w' al2 g2 ∧ Fr (own g) (own g2) y w')) := hide fun y hy => by
    have := c_swapR H C f f (Nat.mod_eq_of_lt hfl) (by omega) 0 (-1) al2 Pg (by rw [hv]; exact hB) hN y hy
    rw [hv] at this
    exact this.mono fun _ _ hh => ⟨hh.1, hide hh.2⟩
  have CR : Hid (∀ y g2, V y al2 g2 → Calls Tryz.prog 34 #[chv (some ⟨hb, 0, none⟩) a ((R : Int) + 4) adr, .int .i64 (IntKind.i64.wrap ((f : Int) + 1))] y fun e w' => e = .returned (.int .i64 (((f + 1) % R : Nat) : Int)) ∧ G y w' ∧ Hid (V w' al2 g2)) := hide fun y g2 hy => by
    have e : IntKind.i64.wrap ((f : Int) + 1) = ((f + 1 : Nat) : Int) := by rw [IntKind.wrap_i64]; omega
    rw [e]
    exact (c_round H (hide hy) a ((R : Int) + 4) adr (by omega) (R : Int) _ _ ((C2.rd 1 (by omega)).1.trans C2.room) (by omega) (tmod_nat _ _)).mono fun _ _ hh => ⟨hh.1, hh.2, hide ((unhide H).gr _ _ _ _ hy hh.2)⟩
  obtain ⟨f3, hf3⟩ : ∃ c, c = (((f + 1) % R : Nat) : Int) := ⟨_, rfl⟩
  rw [← hf3] at CR ⊢
  have C3 : Cz ⟨al2.a.write (a + 3) f3, al2.u⟩ l a R adr := C2.write (by omega) (by omega)
  have CS : Hid (∀ y g2, V y al2 g2 → Calls Tryz.prog 33 #[chv (some ⟨hb, 0, none⟩) a ((R : Int) + 4) adr, .int .i64 2, .int .i64 f3] y fun e w' => e = .returned (.bool true) ∧ Hid (V w' ⟨al2.a.write (a + 3) f3, al2.u⟩ g2 ∧ Fr (own g2) (own g2) y w')) := hide fun y g2 hy => by
    have := c_set H (hide hy) a ((R : Int) + 4) 2 f3 adr (by simp; omega) 3 (by decide +kernel) (C2.rd 3 (by omega)).2
    rw [show al2.a.writeA a 3 f3 = _ from C2.wr 3 (by omega) _] at this
    exact this.mono fun _ _ hh => ⟨hh.1, hide hh.2⟩
  obtain ⟨cn1, hc1⟩ : ∃ c, c = ((v :: q).length : Int) - 1 := ⟨_, rfl⟩
  have hw : wrap64 (((v :: q).length : Int) - 1) = cn1 := by rw [hc1]; unfold wrap64; rw [List.length_cons]; omega
  have hd : ¬ ((v :: q).length : Int) < 1 := by rw [List.length_cons]; omega
  rw [← hc1]
  clear hc1
  have CS1 : Hid (∀ y g2, V y ⟨al2.a.write (a + 3) f3, al2.u⟩ g2 → Calls Tryz.prog 33 #[chv (some ⟨hb, 0, none⟩) a ((R : Int) + 4) adr, .int .i64 1, .int .i64 cn1] y fun e w' => e = .returned (.bool true) ∧ Hid (V w' ⟨(al2.a.write (a + 3) f3).write (a + 2) cn1, al2.u⟩ g2 ∧ Fr (own g2) (own g2) y w')) := hide fun y g2 hy => by
    have := c_set H (hide hy) a ((R : Int) + 4) 1 cn1 adr (by simp; omega) 2 (by decide +kernel) (C3.rd 2 (by omega)).2
    rw [show (al2.a.write (a + 3) f3).writeA a 2 cn1 = _ from C3.wr 2 (by omega) _] at this
    exact this.mono fun _ _ hh => ⟨hh.1, hide hh.2⟩
  generalize (⟨(al2.a.write (a + 3) f3).write (a + 2) cn1, al2.u⟩ : Al) = al4 at CS1 ⊢
  generalize (⟨al2.a.write (a + 3) f3, al2.u⟩ : Al) = al3 at CS CS1
  generalize (R : Int) + 4 = F at CF CN CT CW CR CS CS1
  generalize ((v :: q).length : Int) = cn at CN hw hd
  generalize (f : Int) = fn at CT CW CR
  clear H h C Q hB hN C2 C3 hfl r0 hlen hv hf3
  go_enter Tryz.func10, Tryz.ntmps10
  go_wp2_with fail
  refine (unhide CF).mono ?_
  rintro e w1 ⟨rfl, B1⟩
  clear CF
  go_upto_region 2 with fail
  obtain ⟨W2, hW2⟩ : ∃ W2, W2 = w1.alloc (.cells #[.pointer (some ⟨hb, 0, none⟩), .int .i64 a, .int .i64 F, .bool adr] 76) := ⟨_, rfl⟩
  obtain ⟨gw, V2, BX⟩ := unhide B1 W2 hW2
  obtain ⟨b0, b1, b2, b3⟩ := BX W2 (own g) (Fr.of_G (G.refl _))
  rw [← hW2]
  replace V2 : Hid (∀ y, G W2 y → V y al g) := hide fun y gy => unhide VG _ _ V2 gy
  replace gw := hide gw
  clear hW2 B1 VG
  have KD : Hid (W2.drew.cell? ⟨w1.heap.size, 0, none⟩ = some (.pointer (some ⟨hb, 0, none⟩)) ∧ W2.drew.cell? ⟨w1.heap.size, 1, none⟩ = some (.int .i64 a) ∧ W2.drew.cell? ⟨w1.heap.size, 2, none⟩ = some (.int .i64 F) ∧ W2.drew.cell? ⟨w1.heap.size, 3, none⟩ = some (.bool adr)) := hide (BX _ (own g) (Fr.of_G (G.refl _).drew))
  have KC : Hid (∀ x y : World, (x.cell? ⟨w1.heap.size, 0, none⟩ = some (.pointer (some ⟨hb, 0, none⟩)) ∧ x.cell? ⟨w1.heap.size, 1, none⟩ = some (.int .i64 a) ∧ x.cell? ⟨w1.heap.size, 2, none⟩ = some (.int .i64 F) ∧ x.cell? ⟨w1.heap.size, 3, none⟩ = some (.bool adr)) → G x y → (y.cell? ⟨w1.heap.size, 0, none⟩ = some (.pointer (some ⟨hb, 0, none⟩)) ∧ y.cell? ⟨w1.heap.size, 1, none⟩ = some (.int .i64 a) ∧ y.cell? ⟨w1.heap.size, 2, none⟩ = some (.int .i64 F) ∧ y.cell? ⟨w1.heap.size, 3, none⟩ = some (.bool adr))) := hide fun x y hx gx => ⟨gx.cell hx.1, gx.cell hx.2.1, gx.cell hx.2.2.1, gx.cell hx.2.2.2⟩
  replace BX := hide BX
  have gd := (G.refl W2).drew
  go_region_held3 (fun x => x.cell? ⟨w1.heap.size, 0, none⟩ = some (.pointer (some ⟨hb, 0, none⟩)) ∧ x.cell? ⟨w1.heap.size, 1, none⟩ = some (.int .i64 a) ∧ x.cell? ⟨w1.heap.size, 2, none⟩ = some (.int .i64 F) ∧ x.cell? ⟨w1.heap.size, 3, none⟩ = some (.bool adr))
    (first | assumption | exact unhide KD | exact unhide KC _ _ (by assumption) (by assumption))
    ((first
      | (go_at_call_of 30 (Value.int IntKind.i64 1); refine (unhide CN _ (unhide V2 _ gd)).mono ?_; rintro e x3 ⟨rfl, hg3⟩; have gW3 := gd.trans hg3)
      | (go_at_call_of 30 (Value.int IntKind.i64 2); refine (unhide CT _ (unhide V2 _ gW3)).mono ?_; rintro e x4 ⟨rfl, hg4⟩; have gW4 := gW3.trans hg4)))
  all_goals
    clear KD KC gd hg3 gW3 hg4
    obtain ⟨b0, b1, b2, b3⟩ := unhide BX x4 (own g) (Fr.of_G gW4)
    have K5 := hide (unhide CW x4 (unhide V2 _ gW4))
    replace gW4 := hide gW4
    go_wp2_with fail
    refine (unhide K5).mono ?_
    rintro e w5 ⟨rfl, h5⟩
    clear K5
    obtain ⟨g2, pg, v5, f5'⟩ := unhide h5
    have f5 := (Fr.of_G (o := own g) (unhide gW4)).trans f5'
    replace pg := hide pg
    obtain ⟨b0, b1, b2, b3⟩ := unhide BX w5 (own g2) f5
    have V5 : Hid (∀ y, G w5 y → V y al2 g2) := hide fun y gy => unhide VG2 _ _ g2 v5 gy
    have BX5 : Hid (∀ y, Fr (own g2) (own g2) w5 y → (y.cell? ⟨w1.heap.size, 0, none⟩ = some (.pointer (some ⟨hb, 0, none⟩)) ∧ y.cell? ⟨w1.heap.size, 1, none⟩ = some (.int .i64 a) ∧ y.cell? ⟨w1.heap.size, 2, none⟩ = some (.int .i64 F) ∧ y.cell? ⟨w1.heap.size, 3, none⟩ = some (.bool adr))) := hide fun y fy => unhide BX y (own g2) (f5.trans fy)
    replace f5 := hide f5
    clear v5 f5' h5
    have KD : Hid (w5.drew.cell? ⟨w1.heap.size, 0, none⟩ = some (.pointer (some ⟨hb, 0, none⟩)) ∧ w5.drew.cell? ⟨w1.heap.size, 1, none⟩ = some (.int .i64 a) ∧ w5.drew.cell? ⟨w1.heap.size, 2, none⟩ = some (.int .i64 F) ∧ w5.drew.cell? ⟨w1.heap.size, 3, none⟩ = some (.bool adr)) := hide (unhide BX5 _ (Fr.of_G (G.refl _).drew))
    have KC : Hid (∀ x y : World, (x.cell? ⟨w1.heap.size, 0, none⟩ = some (.pointer (some ⟨hb, 0, none⟩)) ∧ x.cell? ⟨w1.heap.size, 1, none⟩ = some (.int .i64 a) ∧ x.cell? ⟨w1.heap.size, 2, none⟩ = some (.int .i64 F) ∧ x.cell? ⟨w1.heap.size, 3, none⟩ = some (.bool adr)) → G x y → (y.cell? ⟨w1.heap.size, 0, none⟩ = some (.pointer (some ⟨hb, 0, none⟩)) ∧ y.cell? ⟨w1.heap.size, 1, none⟩ = some (.int .i64 a) ∧ y.cell? ⟨w1.heap.size, 2, none⟩ = some (.int .i64 F) ∧ y.cell? ⟨w1.heap.size, 3, none⟩ = some (.bool adr))) := hide fun x y hx gx => ⟨gx.cell hx.1, gx.cell hx.2.1, gx.cell hx.2.2.1, gx.cell hx.2.2.2⟩
    have gd := (G.refl w5).drew
    go_upto_region 8 with fail
    go_region_held3 (fun x => x.cell? ⟨w1.heap.size, 0, none⟩ = some (.pointer (some ⟨hb, 0, none⟩)) ∧ x.cell? ⟨w1.heap.size, 1, none⟩ = some (.int .i64 a) ∧ x.cell? ⟨w1.heap.size, 2, none⟩ = some (.int .i64 F) ∧ x.cell? ⟨w1.heap.size, 3, none⟩ = some (.bool adr))
      (first | assumption | exact unhide KD | exact unhide KC _ _ (by assumption) (by assumption))
      ((first
        | (go_at_call 34; refine (unhide CR _ g2 (unhide V5 _ gd)).mono ?_; rintro e x6 ⟨rfl, hg6, hv6⟩; have gW6 := gd.trans hg6)
        | (go_at_call 33; refine (unhide CS _ g2 (unhide hv6)).mono ?_; rintro e x7 ⟨rfl, h7⟩; have f7 := (Fr.of_G (o := own g2) gW6).trans (unhide h7).2; have S7 := unhide BX5 x7 f7)))
    all_goals
      clear KD KC gd hg6
      obtain ⟨b0, b1, b2, b3⟩ := S7
      have K8 := hide (unhide CS1 x7 g2 (unhide h7).1)
      replace f7 := hide f7
      go_wp2_with fail
      refine (unhide K8).mono ?_
      rintro e w9 ⟨rfl, h9⟩
      clear K8
      go_wp2_with fail
      go_ret2
      exact ⟨rfl, g2, unhide pg, (unhide h9).1, (Fr.of_G (unhide gw)).trans ((unhide f5).trans ((unhide f7).trans (unhide h9).2))⟩
end
end Go.Proofs.YtgflkpccddfalaaGreatDoor

/- Package heap: list, Add. -/
namespace Go.Proofs.YtgflkpccddfalaaGreatDoor
set_option maxRecDepth 100000
open Go.ChangeShapes Go.WideShapes Go.ChangeAt Go.RowKit Go.Maps Go.Deep

theorem info_intH : (Tryz.prog.info? 3).map (fun i => (i.zero, i.size, i.bytes)) = some (some (.int .i64 0), 1, 8) := by kernel_rfl
theorem zero_intH (w : World) : (zeroValue 3).run Tryz.prog w = .ok (.int .i64 0) w := by kernel_rfl
theorem wpl_aph {ops : Array Oper} {rest : List Oper} {o : Oper} {a : Act} {w : World} {Q : Exit → Act → World → Prop} (hgd : o.guard = none) (s x : Operand) (t : TypeId) (ho : o.op = .call { callee := .builtin .append, args := #[s, x], argTypes := #[t, t] })
    (vs vx : Value) (hs : a.eval s = vs) (hx : a.eval x = vx) (v' : Value) (w' : World) (hrun : (Builtin.append_ #[t, t] o.type #[vs, vx]).run Tryz.prog w = .ok v' w') (h : wpList Tryz.prog ops Q rest (a.put o.dst v') w') : wpList Tryz.prog ops Q (o :: rest) a w := by
  refine wpList_plain hgd fun K hK => ?_
  unfold Oper.wp execOp
  simp only [ho, resolve, invoke, builtin, Sem.run_bind, Sem.run_pure, Result.andThen_ok, List.map_toArray, List.map_cons, List.map_nil, hs, hx, hrun]
  exact hK _ _ h
theorem nrL_succ (n : Nat) : nrL (n + 1) = nrL n ++ [.int .i64 (n : Int)] := by
  unfold nrL
  rw [List.range_succ, List.map_append]
  rfl
theorem nr_app {w : World} {B n : Nat} {v : Value} (h : NrAt w B v n) (hB : B ≤ w.heap.size) (hn : n ≤ 1000000) :
    ∃ v' w', (Builtin.append_ #[62, 62] 62 #[v, .slice (some ⟨w.heap.size, 0, none⟩) 1 1]).run Tryz.prog (w.alloc (.cells #[.int .i64 (n : Int)] 3)) = .ok v' w' ∧ NrAt w' B v' (n + 1) ∧ (w.alloc (.cells #[.int .i64 (n : Int)] 3)).grownBy w' v.ownBlock ∧ (v'.ownBlock = v.ownBlock ∨ v'.ownBlock = some (w.heap.size + 1)) := by
  obtain ⟨i, hi, hz, hs, hb⟩ := info_parts info_intH
  have ga := G.alloc w (.cells #[.int .i64 (n : Int)] 3)
  have h2 : NrAt (w.alloc (.cells #[.int .i64 (n : Int)] 3)) B v n := by
    rcases h.2 with h0 | ⟨g, cp, cur, e1, e2, e3, e4⟩
    · exact ⟨h.1, Or.inl h0⟩
    · refine ⟨h.1, Or.inr ⟨g, cp, cur, e1, e2, ?_, e4⟩⟩
      have hlt : g < w.heap.size := by
        rcases Nat.lt_or_ge g w.heap.size with hh | hh
        · exact hh
        · rw [Array.getElem?_eq_none hh] at e3; cases e3
      rw [ga.block g hlt]; exact e3
  obtain ⟨v', w', hrun, r1, r2, _, r4⟩ := run_append_own_at (P := Tryz.prog) (w.alloc (.cells #[.int .i64 (n : Int)] 3)) B 62 62 3 i _ 1 8 Tryz.underlying62 hi hz hs hb rfl (by decide) v n _ h2 ⟨w.heap.size, 0, none⟩ 1 1 [.int .i64 (n : Int)] rfl (fun j u hj => by
      rw [Addr.add_lit, cell_of_row _ _ _ _ _ _ (heap_alloc_new w _), Nat.zero_add]
      simpa using hj) (fun u hu => by simp at hu; subst hu; rfl) (by unfold maxLen; omega) (by omega) (Nat.le_trans hB ga.size)
  refine ⟨v', w', hrun, ?_, r2, ?_⟩
  · show w'.ownsRow B 3 1 v' (n + 1) (nrL (n + 1))
    rw [nrL_succ]
    exact r1
  · rw [World.size_alloc] at r4; exact r4
section
variable {W w : World} {x : Hx} {al : Al} {l : List Hd.Shp} {n : Nat} {ao : Option Addr} {cap : Nat} {nv : Value} {c : Nat → Nat}
theorem HS.nlo (h : HS W w x al l n ao cap nv c) : ∀ k, nv.ownBlock = some k → W.heap.size ≤ k := fun k hk => by
  rcases h.num.2 with ⟨e, _⟩ | ⟨g, cp, cur, e, h2, _⟩
  · rw [e] at hk; cases hk
  · rw [e] at hk
    obtain rfl : g = k := by simpa [Value.ownBlock] using hk
    exact h2
theorem HS.listed {w2 w4 : World} {v' : Value} (h : HS W w x al l n ao cap nv c) (g2 : (w.alloc (.cells #[.int .i64 (n : Int)] 3)).grownBy w2 nv.ownBlock) (r : NrAt w2 W.heap.size v' (n + 1)) (ob : v'.ownBlock = nv.ownBlock ∨ v'.ownBlock = some (w.heap.size + 1)) (g4 : (w2.setCell ⟨x.hb, 1, none⟩ v').grownBy w4 (some x.lm)) (m4 : LmAt w4 x.lm (n + 1)) :
    ∃ c', HS W w4 x al l (n + 1) ao cap v' c' ∧ K9 w c w4 c' := by
  have ga := G.alloc w (.cells #[.int .i64 (n : Int)] 3)
  have s2 := g2.size
  have s4 := g4.size
  rw [World.size_alloc] at s2
  rw [World.size_setCell] at s4
  have hl := h.hlt
  have lo := h.lo
  have hne : x.hb ≠ x.lm := fun e => by have := h.c6; rw [e, h.c7] at this; omega
  have k2 : ∀ d, d < w.heap.size → c d ≠ 8 → w2.heap[d]? = w.heap[d]? := fun d hd h8 => (g2.block d (by rw [World.size_alloc]; omega) (fun e => h8 (h.c8 d e.symm))).trans (ga.block d hd)
  have k4 : ∀ d, d < w2.heap.size → d ≠ x.hb → d ≠ x.lm → w4.heap[d]? = w2.heap[d]? := fun d hd h6 h7 => (g4.block d (by rw [World.size_setCell]; exact hd) (fun e => h7 (Option.some.inj e))).trans (Below.heap_setCell _ _ _ _ (by simpa using h6))
  have k : ∀ d, d < w.heap.size → c d ≠ 6 → c d ≠ 7 → c d ≠ 8 → w4.heap[d]? = w.heap[d]? := fun d hd h6 h7 h8 => (k4 d (by omega) (fun e => h6 (by rw [e]; exact h.c6)) (fun e => h7 (by rw [e]; exact h.c7))).trans (k2 d hd h8)
  have kh2 := k2 x.hb hl (by rw [h.c6]; decide)
  have kh4 : w4.heap[x.hb]? = (w2.setCell ⟨x.hb, 1, none⟩ v').heap[x.hb]? := g4.block x.hb (by rw [World.size_setCell]; omega) (fun e => hne (Option.some.inj e))
  have hcell : ∀ i u, i ≠ 1 → w.cell? ⟨x.hb, i, none⟩ = some u → w4.cell? ⟨x.hb, i, none⟩ = some u := fun i u hi hu => (World.cell?_of_block (a := ⟨x.hb, i, none⟩) kh4).trans ((cell_other _ (Or.inr hi)).trans ((World.cell?_of_block (a := ⟨x.hb, i, none⟩) kh2).trans hu))
  have hb : Below W.heap.size W w4 := by
    refine Below.trans h.ks.st.below ⟨g4.os.trans (g2.os.trans ga.os), g4.tape.trans (g2.tape.trans ga.tape), g4.output.trans (g2.output.trans ga.output), by omega, fun d hd => ?_⟩
    have hdw : d < w.heap.size := Nat.lt_of_lt_of_le hd h.ks.st.below.size
    refine (k4 d (by omega) (by omega) (by omega)).trans ((g2.block d (by rw [World.size_alloc]; omega) (fun e => ?_)).trans (ga.block d hdw))
    have := h.nlo d e.symm
    omega
  have ks := h.cyc hb (by omega) (fun d hd hc => k d hd (by omega) (by omega) (by omega))
  have cc : ∀ d, d < w.heap.size → (fun d => if w.heap.size ≤ d then 8 else c d) d = c d := fun d hd => if_neg (by omega)
  obtain ⟨l1, l2, l3, l4, l5⟩ := h.alt
  obtain ⟨a1, a2, a3, a4, a5⟩ := h.cA
  obtain ⟨e1, e2, e3, e4⟩ := h.cC
  have q1 : ∀ q, v'.ownBlock = some q → q ≠ x.hb ∧ q ≠ x.lm ∧ q < w2.heap.size := fun q hq => by
    have hlt : q < w2.heap.size := by
      rcases r.2 with ⟨e, _⟩ | ⟨g, cp, cur, e, _, h3, _⟩
      · rw [e] at hq; cases hq
      · rw [e] at hq
        obtain rfl : g = q := by simpa [Value.ownBlock] using hq
        rcases Nat.lt_or_ge g w2.heap.size with hh | hh
        · exact hh
        · rw [Array.getElem?_eq_none hh] at h3; cases h3
    have hlm := h.lt
    rcases ob with e | e
    · rw [e] at hq
      have h8 := h.c8 q hq
      exact ⟨fun e => by rw [e, h.c6] at h8; omega, fun e => by rw [e, h.c7] at h8; omega, hlt⟩
    · rw [e] at hq
      have := Option.some.inj hq
      exact ⟨by omega, by omega, hlt⟩
  refine ⟨fun d => if w.heap.size ≤ d then 8 else c d, ⟨ks, h.tab.kept (k _ h.tab.tlt (by rw [h.c3]; decide) (by rw [h.c3]; decide) (by rw [h.c3]; decide)) (k _ h.tab.mlt (by rw [h.c4]; decide) (by rw [h.c4]; decide) (by rw [h.c4]; decide)) (fun a ha => k _ (h.tab.aoB a ha).2 (by rw [h.c5 a ha]; decide) (by rw [h.c5 a ha]; decide) (by rw [h.c5 a ha]; decide)), hcell 0 _ (by decide) h.h0, (World.cell?_of_block (a := ⟨x.hb, 1, none⟩) kh4).trans (cell_same _ ((World.cell?_of_block (a := ⟨x.hb, 1, none⟩) kh2).trans h.h1)), hcell 2 _ (by decide) h.h2, hcell 3 _ (by decide) h.h3, fun i => (World.frozen?_of_block (a := ⟨x.hb, i, none⟩) kh4).trans ((World.frozen?_setCell _ _ _ _).trans ((World.frozen?_of_block (a := ⟨x.hb, i, none⟩) kh2).trans (h.hf i))), nr_kept r (fun q hq => k4 q (q1 q hq).2.2 (q1 q hq).1 (q1 q hq).2.1), m4, h.lo, by have := h.lt; omega, ⟨(cc _ l1).trans a1, (cc _ l2).trans a2, (cc _ l3).trans a3, (cc _ l4).trans a4, (cc _ l5).trans a5⟩, ⟨(cc _ (h.ks.ap _ (by simp)).1).trans e1, (cc _ (h.ks.ap _ (by simp)).1).trans e2, (cc _ (h.ks.ap _ (by simp)).1).trans e3, (cc _ (h.ks.ap _ (by simp)).1).trans e4⟩, (cc _ h.tab.tlt).trans h.c3, (cc _ h.tab.mlt).trans h.c4, fun a ea => (cc _ (h.tab.aoB a ea).2).trans (h.c5 a ea), (cc _ h.hlt).trans h.c6, (cc _ h.lt).trans h.c7, fun q hq => ?_⟩, by omega, fun d hd => ⟨cc d hd, fun h9 => k d hd (by omega) (by omega) (by omega)⟩⟩
  rcases ob with e | e
  · rw [e] at hq; exact (cc _ (h.nlt q hq)).trans (h.c8 q hq)
  · rw [e] at hq
    have := Option.some.inj hq
    exact if_pos (by omega)
theorem LmAt.put {w' : World} {lm : Nat} {D : DataW Unit} (hn : n ≤ 1000000) (hD : ∀ y : Int, wfN y → Maps.has D (.int .i64 y) = decide (0 ≤ y ∧ y < (n : Int)) ∧ (0 ≤ y ∧ y < (n : Int) → D.atKey (.int .i64 y) (.lit (.int .i64 0)) = .lit (.int .i64 y))) (hi : w.ownsMap Tryz.prog 3 (plainElem Tryz.prog 3) lm n D) (hm : w'.ownsMap Tryz.prog 3 (plainElem Tryz.prog 3) lm (n + 1) (D.put (.int .i64 (n : Int)) (.lit (.int .i64 (n : Int))))) : LmAt w' lm (n + 1) := by
  refine ⟨_, hm, fun y hy => ?_⟩
  have hwn : wfN (n : Int) := WalkArith.wf_i64 (n := (n : Int)) (by omega)
  by_cases e : y = (n : Int)
  · subst e
    rw [Maps.has_put_same hi.isMap (keyI.key (keyOf_int_mk Tryz.underlying3 hwn))]
    refine ⟨by simp; omega, fun _ => ?_⟩
    rw [atKey_put_same hi.isMap (keyI.key (keyOf_int_mk Tryz.underlying3 hwn))]
  · have hne : (Lit.int .i64 y) ≠ (Lit.int .i64 (n : Int)) := by simpa using e
    rw [Maps.has_put_other (by simpa using e), (hD y hy).1]
    refine ⟨by simp only [decide_eq_decide]; omega, fun hlt => ?_⟩
    rw [atKey_put_other (by simpa using e)]
    exact (hD y hy).2 (by omega)
set_option maxHeartbeats 1000000 in
theorem h_list9 (h : Hid (HS W w x al l n ao cap nv c)) (hn : n ≤ 1000) : Calls Tryz.prog 25 #[.pointer (some ⟨x.hb, 0, none⟩), .int .i64 (n : Int)] w fun r w' => r = .returned (.int .i64 (n : Int)) ∧ ∃ nv' c', HS W w' x al l (n + 1) ao cap nv' c' ∧ K9 w c w' c' := by
  obtain ⟨oa, cp, hv⟩ := (unhide h).num.shape
  obtain ⟨v', w2, hrun, r2, g2, ob⟩ := nr_app (unhide h).num (unhide h).ks.st.below.size (by omega)
  obtain ⟨oa', cp', hv'⟩ := r2.shape
  subst hv'
  obtain ⟨D, hD, hK⟩ := (unhide h).mp
  have h1 := (unhide h).h1
  have f1 := (unhide h).hf 1
  have h2 := (unhide h).h2
  have ga := G.alloc w (.cells #[.int .i64 (n : Int)] 3)
  have h1a := ga.cell h1
  have s2 := g2.size
  rw [World.size_alloc] at s2
  have kh2 : w2.heap[x.hb]? = w.heap[x.hb]? := (g2.block x.hb (by rw [World.size_alloc]; have := (unhide h).hlt; omega) (fun e => by have := (unhide h).c8 _ e.symm; rw [(unhide h).c6] at this; omega)).trans (ga.block x.hb (unhide h).hlt)
  have kl2 : w2.heap[x.lm]? = w.heap[x.lm]? := (g2.block x.lm (by rw [World.size_alloc]; have := (unhide h).lt; omega) (fun e => by have := (unhide h).c8 _ e.symm; rw [(unhide h).c7] at this; omega)).trans (ga.block x.lm (unhide h).lt)
  have q1 := (World.cell?_of_block (a := ⟨x.hb, 1, none⟩) kh2).trans h1
  have qf := (World.frozen?_of_block (a := ⟨x.hb, 1, none⟩) kh2).trans f1
  have hne : x.lm ≠ x.hb := fun e => by have := (unhide h).c7; rw [e, (unhide h).c6] at this; omega
  obtain ⟨w3, hw3⟩ : ∃ w3, w3 = w2.setCell ⟨x.hb, 1, none⟩ (.slice oa' (n + 1) cp') := ⟨_, rfl⟩
  have q2 : w3.cell? ⟨x.hb, 2, none⟩ = some (.map (some x.lm)) := by rw [hw3]; exact (cell_other _ (Or.inr (by decide))).trans ((World.cell?_of_block (a := ⟨x.hb, 2, none⟩) kh2).trans h2)
  have D3 : w3.ownsMap Tryz.prog 3 (plainElem Tryz.prog 3) x.lm n D := by
    obtain ⟨es, clock, hb, r⟩ := hD
    exact ⟨es, clock, by rw [hw3, Below.heap_setCell _ _ _ _ (by simpa using hne), kl2]; exact hb, r⟩
  have hwn : wfN (n : Int) := WalkArith.wf_i64 (n := (n : Int)) (by omega)
  have hkey : keyOf Tryz.prog 3 (.int .i64 (n : Int)) = some (.int .i64 (n : Int)) := keyOf_int_mk Tryz.underlying3 hwn
  have hhas : Maps.has D (.int .i64 (n : Int)) = false := by rw [(hK _ hwn).1]; simp
  have hval : plainElem (H := Unit) Tryz.prog 3 (.int .i64 (n : Int)) = some (.lit (.int .i64 (n : Int)), []) := plainElem_int Tryz.underlying3 hwn
  have FIN : Hid (∀ w4, w4.ownsMap Tryz.prog 3 (plainElem Tryz.prog 3) x.lm (n + 1) (D.put (.int .i64 (n : Int)) (.lit (.int .i64 (n : Int)))) → w3.grownBy w4 (some x.lm) → ∃ nv' c', HS W w4 x al l (n + 1) ao cap nv' c' ∧ K9 w c w4 c') := hide fun w4 m4 g4 => by
    rw [hw3] at g4
    obtain ⟨c', S⟩ := (unhide h).listed g2 r2 ob g4 (LmAt.put (by omega) hK hD m4)
    exact ⟨_, c', S⟩
  have hnm : n < maxLen := by unfold maxLen; omega
  rw [hv] at h1 h1a hrun q1
  replace hw3' := hide hw3
  clear h hv r2 g2 ob hD hK ga s2 kh2 kl2 hne hwn f1
  replace hn := hide hn
  go_enter Tryz.func25, Tryz.ntmps25
  go_upto_region 3 with (at_builtin; refine wpl_aph rfl (.tmp 17) (.tmp 19) 62 rfl _ _ rfl rfl _ _ hrun ?_)
  rw [← hw3]
  clear hw3 hrun q1 qf h1 h1a h2
  go_upto_region 4 with (at_lookup; refine wpList_lookup_own_ok_int _ rfl _ _ 61 rfl 3 3 .i64 keyI Tryz.underlying61 Tryz.underlying3 (zero_intH _) x.lm n D rfl D3 _ _ rfl hkey ?_; intro cc hat hwc; rw [hhas])
  go_wp2_with (at_mapUpdate; refine wpList_mapUpdate_own _ rfl _ _ _ 61 rfl 3 3 keyI Tryz.underlying61 (plainElem (H := Unit) Tryz.prog 3) x.lm n D rfl D3 hnm _ _ _ rfl rfl hkey _ [] hval ?_; intro w4 hm4 hg4; have S4 := hide (unhide FIN w4 hm4 hg4); clear hm4 hg4 FIN)
  go_ret
  exact ⟨rfl, unhide S4⟩
theorem h_list (h : Hid (HS W w x al l n ao cap nv c)) (hn : n ≤ 1000) : Calls Tryz.prog 25 #[.pointer (some ⟨x.hb, 0, none⟩), .int .i64 (n : Int)] w fun r w' => r = .returned (.int .i64 (n : Int)) ∧ ∃ nv' c', HS W w' x al l (n + 1) ao cap nv' c' := (h_list9 h hn).mono fun _ _ ⟨hr, nv', c', S, _⟩ => ⟨hr, nv', c', S⟩
end
end Go.Proofs.YtgflkpccddfalaaGreatDoor

/- Package heap: Add, New. -/
namespace Go.Proofs.YtgflkpccddfalaaGreatDoor
set_option maxRecDepth 100000
open Go.ChangeShapes Go.WideShapes Go.ChangeAt Go.RowKit Go.Maps Go.Deep

section
variable {W w : World} {x : Hx} {al : Al} {l : List Hd.Shp} {n : Nat} {ao : Option Addr} {cap : Nat} {nv : Value} {c : Nat → Nat}
/-- The table is asked for a shape's number. -/
theorem hs_number9 (h : HS W w x al l n ao cap nv c) (s : Hd.Shp) (hs : s.Fit) (hlen : l.length < 65536) : Calls Tryz.prog 24 #[.pointer (some ⟨x.b.tb, 0, none⟩), .agg #[.int .i64 s.k, .int .i64 s.f, .int .u64 (s.m : Int)]] w fun e w' => e = .returned (.tuple #[.int .i64 (Hd.numV l s), .int .i64 (Hd.numE s)]) ∧ (∃ ao' cap' c', HS W w' x al (Hd.addS l s) n ao' cap' nv c' ∧ (w.heap.size ≤ w'.heap.size ∧ ∀ d, d < w.heap.size → c' d = c d)) ∧ ∀ d, d < w.heap.size → c d ≠ 3 → c d ≠ 4 → c d ≠ 5 → w'.heap[d]? = w.heap[d]? := by
  refine (Hd.number_any w W.heap.size x.b.tb x.tm ao cap l s h.tab hs hlen h.ks.st.below.size).mono ?_
  rintro e w' ⟨ao', cap', he, T, tu, ha⟩
  obtain ⟨c', S, cq⟩ := h.number9 T tu ha
  exact ⟨he, ⟨ao', cap', c', S, tu.size, cq⟩, fun d hd n3 n4 n5 => tu.block d hd (fun e => n3 (by rw [e]; exact h.c3)) (fun e => n4 (by rw [e]; exact h.c4)) (fun a ea e => n5 (by rw [e]; exact h.c5 a ea))⟩
theorem hs_number (h : HS W w x al l n ao cap nv c) (s : Hd.Shp) (hs : s.Fit) (hlen : l.length < 65536) : Calls Tryz.prog 24 #[.pointer (some ⟨x.b.tb, 0, none⟩), .agg #[.int .i64 s.k, .int .i64 s.f, .int .u64 (s.m : Int)]] w fun e w' => e = .returned (.tuple #[.int .i64 (Hd.numV l s), .int .i64 (Hd.numE s)]) ∧ (∃ ao' cap' c', HS W w' x al (Hd.addS l s) n ao' cap' nv c') ∧ ∀ d, d < w.heap.size → c d ≠ 3 → c d ≠ 4 → c d ≠ 5 → w'.heap[d]? = w.heap[d]? :=
  (hs_number9 h s hs hlen).mono fun _ _ ⟨he, ⟨ao', cap', c', S, _⟩, hk⟩ => ⟨he, ⟨ao', cap', c', S⟩, hk⟩
/-- New blocks may be given any owner. -/
theorem HS.recol (h : HS W w x al l n ao cap nv c) (w0 : World) (h0 : HS W w0 x al l n ao cap nv c) : HS W w x al l n ao cap nv (fun d => if w0.heap.size ≤ d then 9 else c d) := by
  have cc : ∀ d, d < w0.heap.size → (fun d => if w0.heap.size ≤ d then 9 else c d) d = c d := fun d hd => if_neg (by omega)
  obtain ⟨l1, l2, l3, l4, l5⟩ := h0.alt
  obtain ⟨a1, a2, a3, a4, a5⟩ := h.cA
  obtain ⟨e1, e2, e3, e4⟩ := h.cC
  exact ⟨h.ks, h.tab, h.h0, h.h1, h.h2, h.h3, h.hf, h.num, h.mp, h.lo, h.lt, ⟨(cc _ l1).trans a1, (cc _ l2).trans a2, (cc _ l3).trans a3, (cc _ l4).trans a4, (cc _ l5).trans a5⟩, ⟨(cc _ (h0.ks.ap _ (by simp)).1).trans e1, (cc _ (h0.ks.ap _ (by simp)).1).trans e2, (cc _ (h0.ks.ap _ (by simp)).1).trans e3, (cc _ (h0.ks.ap _ (by simp)).1).trans e4⟩, (cc _ h0.tab.tlt).trans h.c3, (cc _ h0.tab.mlt).trans h.c4, fun a ea => (cc _ (h0.tab.aoB a ea).2).trans (h.c5 a ea), (cc _ h0.hlt).trans h.c6, (cc _ h0.lt).trans h.c7, fun q hq => (cc _ (h0.nlt q hq)).trans (h.c8 q hq)⟩
/-- What is not the table's is as it was. -/
def KpD (w : World) (c : Nat → Nat) (w' : World) : Prop := ∀ d, d < w.heap.size → c d ≠ 3 → c d ≠ 4 → c d ≠ 5 → w'.heap[d]? = w.heap[d]?
def AddK (w : World) (c : Nat → Nat) (l : List Hd.Shp) (s : Hd.Shp) (w' : World) : Prop := s ∈ l → KpD w c w'
end
end Go.Proofs.YtgflkpccddfalaaGreatDoor

/- Package heap: New. -/
namespace Go.Proofs.YtgflkpccddfalaaGreatDoor
set_option maxRecDepth 100000
open Go.ChangeShapes Go.WideShapes Go.ChangeAt Go.RowKit Go.Maps Go.Deep

theorem hs_start {W w : World} {xl : Ld} {b : Kn} {N tm : Nat} (K : KS W w xl b (al0 N) 0 64 0) (T : Hd.TabAt w W.heap.size b.tb tm none 0 []) (A : ∀ d ∈ [b.cb, b.mb, b.kb, b.q, xl.d.ab, xl.d.wb, xl.d.sb, xl.ub, xl.lb], d ≠ b.tb ∧ d ≠ tm ∧ d < w.heap.size) (ht : b.tb ≠ tm) :
    ∃ c, HS W ((w.alloc (.map #[] 0)).alloc (.cells #[.pointer (some ⟨b.cb, 0, none⟩), .slice none 0 0, .map (some w.heap.size), .int .i64 0] 64)) ⟨xl, b, tm, w.heap.size + 1, w.heap.size⟩ (al0 N) [] 0 none 0 (.slice none 0 0) c := by
  have hW := K.st.below.size
  have z1 : (w.alloc (.map #[] 0)).heap.size = w.heap.size + 1 := World.size_alloc _ _
  have bm : ((w.alloc (.map #[] 0)).alloc (.cells #[.pointer (some ⟨b.cb, 0, none⟩), .slice none 0 0, .map (some w.heap.size), .int .i64 0] 64)).heap[w.heap.size + 1]? = some (.cells #[.pointer (some ⟨b.cb, 0, none⟩), .slice none 0 0, .map (some w.heap.size), .int .i64 0] 64 (0, 0)) := by
    have := heap_alloc_new (w.alloc (.map #[] 0)) (.cells #[.pointer (some ⟨b.cb, 0, none⟩), .slice none 0 0, .map (some w.heap.size), .int .i64 0] 64)
    rw [z1] at this
    exact this
  have g : G w ((w.alloc (.map #[] 0)).alloc (.cells #[.pointer (some ⟨b.cb, 0, none⟩), .slice none 0 0, .map (some w.heap.size), .int .i64 0] 64)) := (G.alloc _ _).more _
  have LM : LmAt ((w.alloc (.map #[] 0)).alloc (.cells #[.pointer (some ⟨b.cb, 0, none⟩), .slice none 0 0, .map (some w.heap.size), .int .i64 0] 64)) w.heap.size 0 :=
    ⟨.map [], (World.ownsMap_made w _ _ _).alloc _, fun y _ => ⟨by rw [Maps.has_eq]; simp, fun h => absurd h.2 (by simpa using h.1)⟩⟩
  have z2 : ((w.alloc (.map #[] 0)).alloc (.cells #[.pointer (some ⟨b.cb, 0, none⟩), .slice none 0 0, .map (some w.heap.size), .int .i64 0] 64)).heap.size = w.heap.size + 2 := by rw [World.size_alloc, z1]
  generalize (w.alloc (.map #[] 0)).alloc (.cells #[.pointer (some ⟨b.cb, 0, none⟩), .slice none 0 0, .map (some w.heap.size), .int .i64 0] 64) = w2 at *
  have hc : ∀ i : Nat, w2.cell? ⟨w.heap.size + 1, i, none⟩ = #[Value.pointer (some ⟨b.cb, 0, none⟩), .slice none 0 0, .map (some w.heap.size), .int .i64 0][i]? := fun i => by rw [cell_of_row _ _ _ _ _ _ bm]
  have l1 := T.tlt
  have l2 := T.mlt
  have F : ∀ d ∈ [b.cb, b.mb, b.kb, b.q, xl.d.ab, xl.d.wb, xl.d.sb, xl.ub, xl.lb], ∀ u v : Nat, (if d = b.tb then 3 else if d = tm then 4 else if d = w.heap.size + 1 then 6 else if d = w.heap.size then 7 else if d ∈ [b.cb, b.mb, b.kb, b.q] then u else v) = if d ∈ [b.cb, b.mb, b.kb, b.q] then u else v := fun d hd u v => by
    obtain ⟨a1, a2, a3⟩ := A d hd
    rw [if_neg a1, if_neg a2, if_neg (by omega), if_neg (by omega)]
  have F1 : ∀ d ∈ [xl.d.ab, xl.d.wb, xl.d.sb, xl.ub, xl.lb], d ∉ [b.cb, b.mb, b.kb, b.q] := fun d hd hm => by
    obtain ⟨_, _, k1, k2, k3, k4, k5⟩ := K.ap d hm
    simp only [List.mem_cons, List.not_mem_nil, or_false] at hd
    rcases hd with e | e | e | e | e
    · exact k4 e
    · exact k1 e
    · exact k2 e
    · exact k3 e
    · exact k5 e
  refine ⟨fun d => if d = b.tb then 3 else if d = tm then 4 else if d = w.heap.size + 1 then 6 else if d = w.heap.size then 7 else if d ∈ [b.cb, b.mb, b.kb, b.q] then 2 else 1, K.gr g, T.grown g, hc 0, hc 1, hc 2, hc 3, fun i => by simp [World.frozen?, bm], World.ownsRow_nil _ _ _ _, LM, ⟨by simp only; omega, by simp only; omega⟩, by simp only; omega, ?_, ?_, ?_, ?_, (fun a ea => by cases ea), ?_, ?_, (fun k hk => by cases hk)⟩
  · refine ⟨?_, ?_, ?_, ?_, ?_⟩
    · exact (F _ (by simp) 2 1).trans (if_neg (F1 _ (by simp)))
    · exact (F _ (by simp) 2 1).trans (if_neg (F1 _ (by simp)))
    · exact (F _ (by simp) 2 1).trans (if_neg (F1 _ (by simp)))
    · exact (F _ (by simp) 2 1).trans (if_neg (F1 _ (by simp)))
    · exact (F _ (by simp) 2 1).trans (if_neg (F1 _ (by simp)))
  · refine ⟨?_, ?_, ?_, ?_⟩
    · exact (F _ (by simp) 2 1).trans (if_pos (by simp))
    · exact (F _ (by simp) 2 1).trans (if_pos (by simp))
    · exact (F _ (by simp) 2 1).trans (if_pos (by simp))
    · exact (F _ (by simp) 2 1).trans (if_pos (by simp))
  · exact if_pos rfl
  · show (if tm = b.tb then 3 else _) = 4
    rw [if_neg (Ne.symm ht), if_pos rfl]
  · show (if w.heap.size + 1 = b.tb then 3 else if w.heap.size + 1 = tm then 4 else if w.heap.size + 1 = w.heap.size + 1 then 6 else _) = 6
    rw [if_neg (by omega), if_neg (by omega), if_pos rfl]
  · show (if w.heap.size = b.tb then 3 else if w.heap.size = tm then 4 else if w.heap.size = w.heap.size + 1 then 6 else if w.heap.size = w.heap.size then 7 else _) = 7
    rw [if_neg (by omega), if_neg (by omega), if_neg (by omega), if_pos rfl]
set_option maxHeartbeats 2000000 in
theorem h_new {W : World} (N : Nat) (h0 : 8 ≤ N) (h1 : N ≤ 512) (ht : Hid (Tab W)) (rb off cp : Nat) (ls : List Hd.Shp) (n : Nat) (hn : n = ls.length) (hlen : n ≤ 1000) (HG : Hid (∀ s ∈ ls, s.Fit ∧ s.good = true)) (ND : Hid ls.Nodup) (hb : rb < W.heap.size)
    (HE : Hid (∀ i s, ls[i]? = some s → W.cell? ⟨rb, off + i * 3, none⟩ = some (.int .i64 s.k) ∧ W.cell? ⟨rb, off + i * 3 + 1, none⟩ = some (.int .i64 s.f) ∧ W.cell? ⟨rb, off + i * 3 + 2, none⟩ = some (.int .u64 (s.m : Int)))) :
    Calls Tryz.prog 5 #[.int .i64 (N : Int), .slice (some ⟨rb, off, none⟩) n cp] W fun e w' => ∃ x, e = .returned (.tuple #[.pointer (some ⟨x.hb, 0, none⟩), .int .i64 0]) ∧ ∃ ao cap nv c, HS W w' x (al0 N) ls n ao cap nv c := by
  have hmm := @run_makeMap Tryz.prog
  have KN := hide (k_newT (W := W) (w := W) N h0 h1 (hide (Below.refl _ _)) ht)
  have hnn := hide hn
  replace h0 := hide h0
  replace h1 := hide h1
  clear hn
  go_enter Tryz.func5, Tryz.ntmps5
  go_wp2_with fail
  refine (unhide KN).mono ?_
  rintro e w1 ⟨xl, b, tm, rfl, K1, T1, A1, ht1⟩
  clear KN
  have KK := hide (And.intro K1 (And.intro T1 (And.intro A1 ht1)))
  clear K1 T1 A1 ht1
  go_wp2_with fail
  go_loopw [25] (fun c wr => ∃ t : Nat, t ≤ n ∧ c = .int .i64 t ∧ Hid (G w1 wr)) (fun c _ => n - (intOf c).toNat)
  case atStart => exact ⟨0, Nat.zero_le _, rfl, hide (G.refl _)⟩
  case round =>
    obtain ⟨t, htn, rfl, g⟩ := hrel
    by_cases hj : t = n
    · have hj' : n = t := hj.symm
      subst hj'
      clear hj
      obtain ⟨wa, hwa⟩ : ∃ wa, wa = wr := ⟨_, rfl⟩
      rw [← hwa] at g ⊢
      clear hwa
      have ST := hide (hs_start ((unhide KK).1.gr (unhide g)) ((unhide KK).2.1.grown (unhide g)) (fun d hd => ⟨((unhide KK).2.2.1 d hd).1, ((unhide KK).2.2.1 d hd).2.1, Nat.lt_of_lt_of_le ((unhide KK).2.2.1 d hd).2.2 (unhide g).size⟩) (unhide KK).2.2.2)
      obtain ⟨x, hx⟩ : ∃ x : Hx, x = ⟨xl, b, tm, wa.heap.size + 1, wa.heap.size⟩ := ⟨_, rfl⟩
      have xb : x.hb = wa.heap.size + 1 := by rw [hx]
      have xc : x.b.cb = b.cb := by rw [hx]
      rw [← hx] at ST
      clear hx g KK
      replace xb := hide xb
      replace xc := hide xc
      go_wp2_with fail
      go_loopw [39] (fun c wr => ∃ t : Nat, t ≤ n ∧ c = .int .i64 t ∧ Hid (∃ ao cap nv c, HS W wr x (al0 N) (ls.take t) t ao cap nv c)) (fun c _ => n - (intOf c).toNat)
      case atStart =>
        refine ⟨0, Nat.zero_le _, rfl, hide ?_⟩
        obtain ⟨c, S⟩ := unhide ST
        exact ⟨none, 0, .slice none 0 0, c, S⟩
      case round =>
        obtain ⟨t, htn, rfl, SS⟩ := hrel
        clear ST
        by_cases hj : t = n
        · have hj' : n = t := hj.symm
          subst hj'
          go_wp2_with fail
          go_ret2
          obtain ⟨ao, cap, nv, c, S⟩ := unhide SS
          refine ⟨x, by rw [unhide xb]; rfl, ao, cap, nv, c, ?_⟩
          rw [List.take_of_length_le (by have := unhide hnn; omega)] at S
          exact S
        · have hjl : (t : Int) < (n : Int) := by omega
          obtain ⟨s, hs⟩ : ∃ s, ls[t]? = some s := ⟨ls[t]'(by have := unhide hnn; omega), List.getElem?_eq_getElem _⟩
          obtain ⟨ao, cap, nv, c, S⟩ := unhide SS
          clear SS
          have hbw : Below W.heap.size W wr := S.ks.st.below
          have hbk : rb < wr.heap.size := Nat.lt_of_lt_of_le hb hbw.size
          have y0 := (hbw.cell (p := ⟨rb, off + t * 3, none⟩) hb).trans (unhide HE t s hs).1
          have y1 := (hbw.cell (p := ⟨rb, off + t * 3 + 1, none⟩) hb).trans (unhide HE t s hs).2.1
          have y2 := (hbw.cell (p := ⟨rb, off + t * 3 + 2, none⟩) hb).trans (unhide HE t s hs).2.2
          obtain ⟨hfit, hgood⟩ := unhide HG s (List.mem_of_getElem? hs)
          have hnot : s ∉ ls.take t := fun hm => by
            obtain ⟨q, hq⟩ := List.getElem?_of_mem hm
            rw [List.getElem?_take] at hq
            split at hq
            · rename_i hqt
              have := (List.getElem?_inj (i := q) (j := t) (by have := unhide hnn; omega) (unhide ND)).1 (hq.trans hs.symm)
              omega
            · cases hq
          have htl : (ls.take t).length = t := by rw [List.length_take]; have := unhide hnn; omega
          have hadd : Hd.addS (ls.take t) s = ls.take (t + 1) := by
            unfold Hd.addS
            rw [if_pos ⟨hgood, hnot⟩, List.take_add_one, hs]
            rfl
          have hV : Hd.numV (ls.take t) s = (t : Int) := by
            unfold Hd.numV
            rw [if_pos hgood, List.idxOf_eq_length hnot, htl]
          have hE0 : Hd.numE s = 0 := by unfold Hd.numE; rw [if_pos hgood]
          obtain ⟨W1, hW1⟩ : ∃ W1, W1 = wr.alloc (.cells #[.int .i64 s.k, .int .i64 s.f, .int .u64 (s.m : Int)] 59) := ⟨_, rfl⟩
          have g1 : G wr W1 := by rw [hW1]; exact G.alloc _ _
          have e1 : W1.heap[wr.heap.size]? = some (.cells #[.int .i64 s.k, .int .i64 s.f, .int .u64 (s.m : Int)] 59) := by rw [hW1]; exact heap_alloc_new wr _
          have z1 : wr.heap.size < W1.heap.size := by rw [hW1, World.size_alloc]; omega
          have BX : Hid (∀ y : World, y.heap[wr.heap.size]? = W1.heap[wr.heap.size]? → y.cell? ⟨wr.heap.size, 0, none⟩ = some (.int .i64 s.k) ∧ y.cell? ⟨wr.heap.size, 1, none⟩ = some (.int .i64 s.f) ∧ y.cell? ⟨wr.heap.size, 2, none⟩ = some (.int .u64 (s.m : Int))) := hide fun y hy => by
            have e := hy.trans e1
            exact ⟨by rw [cell_of_row _ _ _ _ _ _ e]; rfl, by rw [cell_of_row _ _ _ _ _ _ e]; rfl, by rw [cell_of_row _ _ _ _ _ _ e]; rfl⟩
          have HH : Hid (∀ y, G W1 y → HS W y x (al0 N) (ls.take t) t ao cap nv (fun d => if wr.heap.size ≤ d then 9 else c d)) := hide fun y g => (S.gr (g1.trans g)).recol wr S
          have TB : Hid (∀ y, G W1 y → Calls Tryz.prog 23 #[.pointer (some ⟨b.cb, 0, none⟩)] y fun e w' => e = .returned (.pointer (some ⟨x.b.tb, 0, none⟩)) ∧ w' = y) := hide fun y g => by
            rw [← unhide xc]
            exact k_table (hide (unhide HH y g).ks)
          have NB : Hid (∀ y, G W1 y → Calls Tryz.prog 24 #[.pointer (some ⟨x.b.tb, 0, none⟩), .agg #[.int .i64 s.k, .int .i64 s.f, .int .u64 (s.m : Int)]] y fun e w' => e = .returned (.tuple #[.int .i64 (t : Int), .int .i64 0]) ∧ Hid ((∃ ao' cap' c', HS W w' x (al0 N) (ls.take (t + 1)) t ao' cap' nv c') ∧ w'.heap[wr.heap.size]? = W1.heap[wr.heap.size]?)) := hide fun y g => by
            refine (hs_number (unhide HH y g) s hfit (by rw [htl]; omega)).mono ?_
            rintro e w' ⟨he, ⟨ao', cap', c', S⟩, hk⟩
            rw [hadd] at S
            rw [hV, hE0] at he
            exact ⟨he, hide ⟨⟨ao', cap', c', S⟩, (hk _ (by have := g.size; omega) (by simp) (by simp) (by simp)).trans (g.block _ z1)⟩⟩
          have LS : Hid (∀ w2 : World, (∃ ao' cap' c', HS W w2 x (al0 N) (ls.take (t + 1)) t ao' cap' nv c') → Calls Tryz.prog 25 #[.pointer (some ⟨wa.heap.size + 1, 0, none⟩), .int .i64 (t : Int)] w2 fun r w' => r = .returned (.int .i64 (t : Int)) ∧ Hid (∃ ao cap nv c, HS W w' x (al0 N) (ls.take (t + 1)) (t + 1) ao cap nv c)) := hide fun w2 ⟨ao', cap', c', S⟩ => by
            rw [← unhide xb]
            refine (h_list (hide S) (by omega)).mono ?_
            rintro r w' ⟨hr, nv', c'', S'⟩
            exact ⟨hr, hide ⟨ao', cap', nv', c'', S'⟩⟩
          obtain ⟨sk, hsk⟩ : ∃ sk, sk = s.k := ⟨_, rfl⟩
          obtain ⟨sf, hsf⟩ : ∃ sf, sf = s.f := ⟨_, rfl⟩
          obtain ⟨sm, hsm⟩ : ∃ sm, sm = s.m := ⟨_, rfl⟩
          rw [← hsk, ← hsf, ← hsm] at NB BX hW1
          rw [← hsk] at y0
          rw [← hsf] at y1
          rw [← hsm] at y2
          clear hsk hsf hsm e1 S hbw hfit hgood hnot htl hadd hV hE0 HH hs hj
          replace g1 := hide g1
          replace z1 := hide z1
          go_upto_region 14 with fail
          rw [← hW1]
          clear hW1 y0 y1 y2 hbk
          refine wp_region_noPanic ?_
          refine wp_region_held_drew (S := fun (y : World) => y.heap[wr.heap.size]? = W1.heap[wr.heap.size]?) (by kernel_rfl) rfl (fun hHeld => ?_)
          obtain ⟨y1, hy1⟩ : ∃ y, y = W1.drew := ⟨_, rfl⟩
          have gy : G W1 y1 := by rw [hy1]; exact G.drewN W1 1
          rw [← hy1] at hHeld ⊢
          clear hy1
          refine wpAnyH_take (i := 0) (v := .pointer (some ⟨b.cb, 0, none⟩)) rfl (by kernel_rfl) (by kernel_rfl) (by kernel_rfl) (fun _ _ _ h => h) (Or.inl ⟨by rfl, fun w hSw => by go_simp⟩) (by assumption) ?_
          try simp only [Act.put, List.getElem_toArray, List.getElem_cons_zero, List.setIfInBounds_toArray, List.set_cons_zero, List.set_cons_succ]
          refine wpAnyH_take (i := 2) (v := .agg #[.int .i64 sk, .int .i64 sf, .int .u64 (sm : Int)]) rfl (by kernel_rfl) (by kernel_rfl) (by kernel_rfl) (fun _ _ _ h => h) (Or.inl ⟨by rfl, fun w hSw => by obtain ⟨t0, t1, t2⟩ := unhide BX w hSw; go_simp⟩) (by assumption) ?_
          try simp only [Act.put, List.getElem_toArray, List.getElem_cons_succ, List.getElem_cons_zero, List.setIfInBounds_toArray, List.set_cons_zero, List.set_cons_succ]
          refine wpAnyH_ready (rs := [1]) (by kernel_rfl) (by simp) ?_
          refine AllReadyH.cons rfl (fun K hK => ?_) AllReadyH.nil
          go_simp
          refine (unhide TB y1 gy).mono ?_
          rintro e w9 ⟨rfl, hw9⟩
          rw [hw9]
          clear hw9 w9
          go_wp2_with fail
          refine hK.out _ _ hHeld (fun hH9 => ?_)
          clear hK K hH9
          try simp only [Act.put, List.getElem_toArray, List.getElem_cons_succ, List.getElem_cons_zero, List.setIfInBounds_toArray, List.set_cons_zero, List.set_cons_succ]
          refine wpAnyH_ready (rs := [3]) (by kernel_rfl) (by simp) ?_
          refine AllReadyH.cons rfl (fun K hK => ?_) AllReadyH.nil
          go_simp
          refine (unhide NB y1 gy).mono ?_
          rintro e w2 ⟨rfl, S2⟩
          go_wp2_with fail
          have hS2 := (unhide S2).2
          refine hK.out _ _ hS2 (fun hH9 => ?_)
          clear hK K
          try simp only [Act.put, List.getElem_toArray, List.getElem_cons_succ, List.getElem_cons_zero, List.setIfInBounds_toArray, List.set_cons_zero, List.set_cons_succ]
          refine wpAnyH_take (i := 4) (v := .tuple #[.int .i64 (t : Int), .int .i64 0]) rfl (by kernel_rfl) (by kernel_rfl) (by kernel_rfl) (fun _ _ _ h => h) (Or.inl ⟨by rfl, fun w hSw => by go_simp⟩) (by assumption) ?_
          try simp only [Act.put, List.getElem_toArray, List.getElem_cons_succ, List.getElem_cons_zero, List.setIfInBounds_toArray, List.set_cons_zero, List.set_cons_succ]
          refine wpAnyH_take (i := 5) (v := .int .i64 (t : Int)) rfl (by kernel_rfl) (by kernel_rfl) (by kernel_rfl) (fun _ _ _ h => h) (Or.inl ⟨by rfl, fun w hSw => by go_simp⟩) (by assumption) ?_
          try simp only [Act.put, List.getElem_toArray, List.getElem_cons_succ, List.getElem_cons_zero, List.setIfInBounds_toArray, List.set_cons_zero, List.set_cons_succ]
          refine wpAnyH_take (i := 6) (v := .int .i64 0) rfl (by kernel_rfl) (by kernel_rfl) (by kernel_rfl) (fun _ _ _ h => h) (Or.inl ⟨by rfl, fun w hSw => by go_simp⟩) (by assumption) ?_
          try simp only [Act.put, List.getElem_toArray, List.getElem_cons_succ, List.getElem_cons_zero, List.setIfInBounds_toArray, List.set_cons_zero, List.set_cons_succ]
          refine wpAnyH_take (i := 7) (v := .int .i64 (t : Int)) rfl (by kernel_rfl) (by kernel_rfl) (by kernel_rfl) (fun _ _ _ h => h) (Or.inl ⟨by rfl, fun w hSw => by go_simp⟩) (by assumption) ?_
          try simp only [Act.put, List.getElem_toArray, List.getElem_cons_succ, List.getElem_cons_zero, List.setIfInBounds_toArray, List.set_cons_zero, List.set_cons_succ]
          refine wpAnyH_take (i := 8) (v := .int .i64 0) rfl (by kernel_rfl) (by kernel_rfl) (by kernel_rfl) (fun _ _ _ h => h) (Or.inl ⟨by rfl, fun w hSw => by go_simp⟩) (by assumption) ?_
          try simp only [Act.put, List.getElem_toArray, List.getElem_cons_succ, List.getElem_cons_zero, List.setIfInBounds_toArray, List.set_cons_zero, List.set_cons_succ]
          refine wpAnyH_done (by kernel_rfl) (NoPanic.normal ?_) _
          have CL := hide (unhide LS w2 (unhide S2).1)
          clear hHeld gy TB NB BX hS2 hH9 S2 LS g1 z1
          go_wp2_with fail
          refine (unhide CL).mono ?_
          rintro r w4 ⟨rfl, FE⟩
          clear CL
          go_wp2_with fail
          go_round
          case rel => exact ⟨t + 1, by omega, by go_num, FE⟩
          case measure => simp [intOf]; omega
    · have hjl : (t : Int) < (n : Int) := by omega
      obtain ⟨s, hs⟩ : ∃ s, ls[t]? = some s := ⟨ls[t]'(by have := unhide hnn; omega), List.getElem?_eq_getElem _⟩
      have hgood : Hd.goodB s.k s.f s.m = true := (unhide HG s (List.mem_of_getElem? hs)).2
      have hbw : Below W.heap.size W wr := Below.trans (unhide KK).1.st.below ((unhide g).mono (unhide KK).1.st.below.size)
      have hbk : rb < wr.heap.size := Nat.lt_of_lt_of_le hb hbw.size
      have y0 := (hbw.cell (p := ⟨rb, off + t * 3, none⟩) hb).trans (unhide HE t s hs).1
      have y1 := (hbw.cell (p := ⟨rb, off + t * 3 + 1, none⟩) hb).trans (unhide HE t s hs).2.1
      have y2 := (hbw.cell (p := ⟨rb, off + t * 3 + 2, none⟩) hb).trans (unhide HE t s hs).2.2
      clear hj hs hbw
      go_wp2_with fail
      refine (Hd.good_any _ _ _ _).mono ?_
      rintro e w2 ⟨rfl, hw2⟩
      have g2 : Hid (G w1 w2) := hide (by rw [hw2]; exact (((unhide g).more _).more _))
      rw [hgood]
      clear hw2 hgood y0 y1 y2 hbk g
      go_wp2_with fail
      go_round
      case rel => exact ⟨t + 1, by omega, by go_num, g2⟩
      case measure => simp [intOf]; omega

end Go.Proofs.YtgflkpccddfalaaGreatDoor

/- Package chans over a Heap while no collection goes on: the view; Make; what awake's calls and ChansRing's come to. -/
namespace Go.Proofs.YtgflkpccddfalaaGreatDoor
set_option maxRecDepth 100000
open Go.ChangeShapes Go.WideShapes Go.ChangeAt Go.RowKit Go.Maps Go.Deep

/-- The blocks that an arena's and an allocator's calls turn. -/
abbrev ownH (x : Hx) (_ : Unit) (d : Nat) : Prop := d = x.xl.d.wb ∨ d = x.xl.d.sb ∨ d = x.xl.ub
section
variable {W w : World} {x : Hx} {al : Al} {l : List Hd.Shp} {n : Nat} {ao : Option Addr} {cap : Nat} {nv : Value} {c : Nat → Nat}
theorem fr_of_tn {w' : World} (t : TnL w w' x.xl) : Fr (ownH x ()) (ownH x ()) w w' := ⟨t.size, fun d hd ho => t.block d hd (fun e => ho (Or.inl e)) (fun e => ho (Or.inr (Or.inl e))) (fun e => ho (Or.inr (Or.inr e))), fun _ h => Or.inl h⟩
theorem hv_hs (W : World) (x : Hx) (l : List Hd.Shp) (n : Nat) (ao : Option Addr) (cap : Nat) (nv : Value) (c : Nat → Nat) (hf : ∀ s ∈ l, s.m < 18446744073709551616) : HV (fun w al (_ : Unit) => HS W w x al l n ao cap nv c) (ownH x) x.hb x.b.cb x.xl.d.ab l := by
  refine ⟨fun w al _ a h => h_of (hide h) a, fun w w' al _ h g => h.gr g, fun w al _ h d hd => ?_, fun w al _ h => h_cycle (hide h), fun w al _ h => k_arena (hide h.ks), fun w al _ a i h => (ls_read (hide h.ks.st) a i).mono fun _ _ hh => ⟨hh.1, hh.2.2⟩, fun w al _ a i v h => (ls_write (hide h.ks.st) a i v).mono fun _ _ hh => ⟨hh.1, h.turn hh.2.1 hh.2.2, fr_of_tn hh.2.2⟩, hf⟩
  obtain ⟨_, l2, l3, l4, _⟩ := h.alt
  rcases hd with rfl | rfl | rfl
  · exact l2
  · exact l3
  · exact l4
theorem bar_hs (W : World) (x : Hx) (l : List Hd.Shp) (n : Nat) (ao : Option Addr) (cap : Nat) (nv : Value) (c : Nat → Nat) (al : Al) (o v id : Int) : BarC (fun w al (_ : Unit) => HS W w x al l n ao cap nv c) (ownH x) x.b.cb al () o v id al (fun _ => True) := fun y hy =>
  (k_barrier0 (hide hy.ks) o v id).mono fun _ _ hh => ⟨hh.1, (), trivial, by rw [hh.2]; exact hy, by rw [hh.2]; exact Fr.of_G (G.refl _)⟩
theorem c_make_size (w : World) (hb : Nat) (k R : Int) (rv : Value) (h : R < 0 ∨ 59 < R) : Calls Tryz.prog 7 #[.pointer (some ⟨hb, 0, none⟩), .int .i64 k, .int .i64 R, rv] w fun e w' => e = .returned (.tuple #[.int .i64 0, .int .i64 5, .int .i64 0]) ∧ w' = w := by
  by_cases h0 : R < 0
  · clear h
    go_enter Tryz.func7, Tryz.ntmps7
    go_wp2_with fail
    go_returns
    exact ⟨rfl, rfl⟩
  · have h1 : 59 < R := by omega
    have d0 : decide (R < 0) = false := by simp; omega
    clear h h0
    go_enter Tryz.func7, Tryz.ntmps7
    go_wp2_with fail
    go_returns
    exact ⟨rfl, rfl⟩
theorem c_make_bad (h : Hid (HS W w x al l n ao cap nv c)) (k R : Int) (hk : k < 0 ∨ (n : Int) ≤ k) (h0 : 0 ≤ R) (h1 : R ≤ 59) (rv : Value) : Calls Tryz.prog 7 #[.pointer (some ⟨x.hb, 0, none⟩), .int .i64 k, .int .i64 R, rv] w fun e w' => e = .returned (.tuple #[.int .i64 0, .int .i64 0, .int .i64 1]) ∧ w' = w := by
  have d0 : decide (R < 0) = false := by simp; omega
  have d1 : decide (59 < R) = false := by simp; omega
  obtain ⟨R5, hR5⟩ : ∃ r, r = R + 5 := ⟨_, rfl⟩
  have hw : wrap64 (R + 5) = R5 := by rw [hR5]; unfold wrap64; omega
  have C := hide (h_make_bad h k R5 (by omega) rv)
  clear h hk h0 h1 hR5
  go_enter Tryz.func7, Tryz.ntmps7
  go_wp2_with fail
  refine (unhide C).mono ?_
  rintro e w1 ⟨rfl, hw1⟩
  rw [hw1]
  clear hw1 C w1
  go_wp2_with fail
  go_returns
  exact ⟨rfl, rfl⟩
set_option maxHeartbeats 1000000 in
theorem c_make (h : Hid (HS W w x al l n ao cap nv c)) (k : Nat) (hk : k < n) (s : Hd.Shp) (hs : l[k]? = some s) (R : Nat) (h1 : R ≤ 59) (v : Int) (al' : Al) (hR : Hid (al.take ((R : Int) + 5) = (al', v, 0))) (rv : Value) : Calls Tryz.prog 7 #[.pointer (some ⟨x.hb, 0, none⟩), .int .i64 (k : Int), .int .i64 (R : Int), rv] w fun e w' => e = .returned (.tuple #[.int .i64 v, .int .i64 0, .int .i64 0]) ∧ HS W w' x ⟨(al'.a.writeA v 0 (Hd.pkV ((R : Int) + 5) s.k (k : Int))).writeA v 1 (R : Int), al'.u⟩ l n ao cap nv c ∧ Kp3 w c w' := by
  have d0 : decide ((R : Int) < 0) = false := by simp
  have d1 : decide (59 < (R : Int)) = false := by simp; omega
  have C := hide (h_makeK h k hk s hs ((R : Int) + 5) v (by omega) (by omega) al' hR rv)
  obtain ⟨R5, hR5⟩ : ∃ r, r = (R : Int) + 5 := ⟨_, rfl⟩
  have hw : wrap64 ((R : Int) + 5) = R5 := by rw [hR5]; unfold wrap64; omega
  rw [← hR5] at C ⊢
  generalize al'.a.writeA v 0 (Hd.pkV R5 s.k (k : Int)) = a2 at C ⊢
  have CC : Hid (∀ y, HS W y x ⟨a2, al'.u⟩ l n ao cap nv c → Calls Tryz.prog 11 #[.pointer (some ⟨x.hb, 0, none⟩)] y fun e w' => e = .returned (.pointer (some ⟨x.b.cb, 0, none⟩)) ∧ w' = y) := hide fun y hy => h_cycle (hide hy)
  have CA : Hid (∀ y, HS W y x ⟨a2, al'.u⟩ l n ao cap nv c → Calls Tryz.prog 13 #[.pointer (some ⟨x.b.cb, 0, none⟩)] y fun e w' => e = .returned (.pointer (some ⟨x.xl.d.ab, 0, none⟩)) ∧ w' = y) := hide fun y hy => k_arena (hide hy.ks)
  have CW : Hid (∀ y, HS W y x ⟨a2, al'.u⟩ l n ao cap nv c → Kp3 w c y → Calls Tryz.prog 26 #[.pointer (some ⟨x.xl.d.ab, 0, none⟩), .int .i64 v, .int .i64 1, .int .i64 (R : Int)] y fun e w' => (∃ r, e = .returned (.int .i64 r)) ∧ Hid (HS W w' x ⟨a2.writeA v 1 (R : Int), al'.u⟩ l n ao cap nv c ∧ Kp3 w c w')) := hide fun y hy hk => (ls_write (hide hy.ks.st) v 1 (R : Int)).mono fun _ _ hh => ⟨⟨_, hh.1⟩, hide ⟨hy.turn hh.2.1 hh.2.2, hk.trans (hy.kp hh.2.2)⟩⟩
  generalize (R : Int) = rn at d0 d1 hw CW ⊢
  clear h hk hs h1 hR hR5
  go_enter Tryz.func7, Tryz.ntmps7
  go_wp2_with fail
  refine (unhide C).mono ?_
  rintro e w1 ⟨rfl, S1, k1⟩
  have C1 := hide (unhide CC w1 S1)
  have C2 := hide (unhide CA w1 S1)
  have C3 := hide (unhide CW w1 S1 k1)
  clear C CC CA CW S1 k1
  go_wp2_with fail
  refine (unhide C1).mono ?_
  rintro e w2 ⟨rfl, hw2⟩
  rw [hw2]
  clear hw2 C1 w2
  go_wp2_with fail
  refine (unhide C2).mono ?_
  rintro e w2 ⟨rfl, hw2⟩
  rw [hw2]
  clear hw2 C2 w2
  go_wp2_with fail
  refine (unhide C3).mono ?_
  rintro e w3 ⟨⟨r, rfl⟩, S3⟩
  clear C3
  go_wp2_with fail
  go_returns
  exact ⟨rfl, unhide S3⟩
end
/-! ### the law's shapes; a channel made first -/
def ls5 : List Hd.Shp := [⟨3, 0, 0⟩, ⟨3, 0, 1⟩, ⟨0, 0, 0⟩]
theorem ls5_ok : ∀ s ∈ ls5, s.Fit ∧ s.good = true := by
  intro s hs
  simp only [ls5, List.mem_cons, List.not_mem_nil, or_false] at hs
  rcases hs with rfl | rfl | rfl <;> exact ⟨⟨by decide, by decide, by decide⟩, by decide⟩
theorem ls5_nd : ls5.Nodup := by decide
theorem ls5_m : ∀ s ∈ ls5, s.m < 18446744073709551616 := fun s hs => (ls5_ok s hs).1.m0
def shp5 : Obj := .cells #[.int .i64 3, .int .i64 0, .int .u64 0, .int .i64 3, .int .i64 0, .int .u64 1, .int .i64 0, .int .i64 0, .int .u64 0] 59
theorem shp5_at (w : World) : ∀ i s, ls5[i]? = some s → (w.alloc shp5).cell? ⟨w.heap.size, 0 + i * 3, none⟩ = some (.int .i64 s.k) ∧ (w.alloc shp5).cell? ⟨w.heap.size, 0 + i * 3 + 1, none⟩ = some (.int .i64 s.f) ∧ (w.alloc shp5).cell? ⟨w.heap.size, 0 + i * 3 + 2, none⟩ = some (.int .u64 (s.m : Int)) := by
  intro i s hs
  unfold shp5
  rw [World.cell?_alloc_new, World.cell?_alloc_new, World.cell?_alloc_new]
  match i, hs with
  | 0, hs => cases hs; exact ⟨rfl, rfl, rfl⟩
  | 1, hs => cases hs; exact ⟨rfl, rfl, rfl⟩
  | 2, hs => cases hs; exact ⟨rfl, rfl, rfl⟩
  | i + 3, hs => simp [ls5] at hs
theorem shapes15 (w : World) : Calls Tryz.prog 6 #[] w fun r w' => r = .returned (.slice (some ⟨w.heap.size, 0, none⟩) 3 3) ∧ w' = w.alloc shp5 := by
  unfold shp5
  go_enter Tryz.func6, Tryz.ntmps6
  go_wp2_with fail
  go_ret
  exact ⟨rfl, rfl⟩
theorem new15 (N : Nat) (h8 : 8 ≤ N) (h5 : N ≤ 512) (w w1 : World) (hw : w1 = w.alloc shp5) (ht : Tab w) : Calls Tryz.prog 5 #[.int .i64 (N : Int), .slice (some ⟨w.heap.size, 0, none⟩) 3 3] w1 fun e w' => ∃ x, e = .returned (.tuple #[.pointer (some ⟨x.hb, 0, none⟩), .int .i64 0]) ∧ ∃ ao cap nv c, HS w1 w' x (al0 N) ls5 3 ao cap nv c := by
  subst hw
  exact h_new N h8 h5 (hide (Tab.later ht (G.alloc _ _))) w.heap.size 0 3 ls5 3 rfl (by decide) (hide ls5_ok) (hide ls5_nd) (by rw [World.size_alloc]; omega) (hide (shp5_at w))
/-- Behind Make(0, R), the first call on a heap of 8 spans. -/
def rt (R : Nat) : Al := ((al0 8).take ((R : Int) + 5)).1
def rq (R : Nat) : Al := ⟨((rt R).a.writeA 64 0 (Hd.pkV ((R : Int) + 5) 3 0)).writeA 64 1 (R : Int), (rt R).u⟩
theorem trz_of {p : Al × Int × Int} {v e : Int} (h : p.2 = (v, e)) : p = (p.1, v, e) := by rw [← h]
theorem rt_take : ∀ R : Fin 60, ((al0 8).take ((R.1 : Int) + 5)).2 = (64, 0) := by decide +kernel
def ofB3 (n : Int) : Option (Int × Int × Int × Hd.Shp) → Bool
  | some (a, b, c, s) => decide (a = n) && decide (b = 3) && decide (c = 0) && decide (s.k = 3) && decide (s.f = 0) && decide (s.m = 0)
  | none => false
theorem ofB3_eq {n : Int} : ∀ {o : Option (Int × Int × Int × Hd.Shp)}, ofB3 n o = true → o = some (n, 3, 0, ⟨3, 0, 0⟩)
  | none, h => by cases h
  | some (a, b, c, s), h => by
    simp only [ofB3, Bool.and_eq_true, decide_eq_true_eq] at h
    obtain ⟨⟨⟨⟨⟨rfl, rfl⟩, rfl⟩, h1⟩, h2⟩, h3⟩ := h
    obtain ⟨k, f, m⟩ := s
    obtain rfl : k = 3 := h1
    obtain rfl : f = 0 := h2
    obtain rfl : m = 0 := h3
    rfl
theorem rq_of1 : ∀ R : Fin 60, ofB3 ((R.1 : Int) + 5) (ofP (rq R.1) ls5 64) = true := by decide +kernel
theorem rq_in : ∀ R : Fin 60, ∀ k : Fin 64, k.1 < R.1 + 5 → (rq R.1).a.inW 64 (k.1 : Int) = true := by decide +kernel
theorem rq_wd : ∀ R : Fin 60, (rq R.1).a.wd (64 + 1) = (R.1 : Int) ∧ (rq R.1).a.wd (64 + 2) = 0 ∧ (rq R.1).a.wd (64 + 3) = 0 ∧ (rq R.1).a.wd (64 + 4) = 0 := by decide +kernel
theorem rq_cz (R : Nat) (h : R ≤ 59) : Cz (rq R) ls5 64 R false :=
  ⟨⟨0, ⟨3, 0, 0⟩, ofB3_eq (rq_of1 ⟨R, by omega⟩), by decide⟩, fun j hj => rq_in ⟨R, by omega⟩ ⟨j, by omega⟩ hj, (rq_wd ⟨R, by omega⟩).1, h⟩
theorem rq_cq (R : Nat) (h : R ≤ 59) : Cq (rq R).a 64 R 0 [] false :=
  ⟨(rq_wd ⟨R, by omega⟩).2.1, (rq_wd ⟨R, by omega⟩).2.2.1, (rq_wd ⟨R, by omega⟩).2.2.2, Nat.zero_le _, Nat.zero_le _, fun h => h, fun i v hi => by simp at hi⟩
end Go.Proofs.YtgflkpccddfalaaGreatDoor

/- One channel of numbers on a Heap while no collection goes on: its calls. -/
namespace Go.Proofs.YtgflkpccddfalaaGreatDoor
set_option maxRecDepth 100000
open Go.ChangeShapes Go.WideShapes Go.ChangeAt Go.RowKit Go.Maps Go.Deep

/-- A Heap with a channel of numbers at a: what is in it. -/
def ChS (W : World) (x : Hx) (n : Nat) (ao : Option Addr) (cap : Nat) (nv : Value) (c : Nat → Nat) (a : Int) (R : Nat) (q : List Int) (cl : Bool) (w : World) : Prop :=
  ∃ al f, HS W w x al ls5 n ao cap nv c ∧ Cz al ls5 a R false ∧ Cq al.a a R f q cl
section
variable {W w : World} {x : Hx} {n : Nat} {ao : Option Addr} {cap : Nat} {nv : Value} {c : Nat → Nat} {a : Int} {R : Nat} {q : List Int} {cl : Bool}
theorem ChS.gr {w' : World} (h : ChS W x n ao cap nv c a R q cl w) (g : G w w') : ChS W x n ao cap nv c a R q cl w' := by
  obtain ⟨al, f, S, C, Q⟩ := h
  exact ⟨al, f, S.gr g, C, Q⟩
theorem ChS.below (h : ChS W x n ao cap nv c a R q cl w) : Below W.heap.size W w := by
  obtain ⟨al, f, S, C, Q⟩ := h
  exact S.ks.st.below
theorem s_push (h : Hid (ChS W x n ao cap nv c a R q false w)) (hl : q.length < R) (v id : Int) : Calls Tryz.prog 9 #[.pointer (some ⟨x.hb, 0, none⟩), .int .i64 a, .int .i64 v, .int .i64 id] w fun e w' => e = .returned (.bool true) ∧ ChS W x n ao cap nv c a R (q ++ [v]) false w' ∧ Fr (ownH x ()) (ownH x ()) w w' := by
  obtain ⟨al, f, S, C, Q⟩ := unhide h
  refine (c_push (hide (hv_hs W x ls5 n ao cap nv c ls5_m)) (g := ()) (hide S) C Q hl v id _ (fun _ => True) (fun e => by cases e) (fun _ => ⟨rfl, trivial⟩) (C.write (by omega) (by omega))).mono ?_
  rintro e w' ⟨he, g2, _, S2, F2⟩
  exact ⟨he, ⟨_, f, S2, C.push q.length v, Q.push hl v⟩, F2⟩
theorem s_push_full (h : Hid (ChS W x n ao cap nv c a R q cl w)) (hl : cl = true ∨ R ≤ q.length) (v id : Int) : Calls Tryz.prog 9 #[.pointer (some ⟨x.hb, 0, none⟩), .int .i64 a, .int .i64 v, .int .i64 id] w fun e w' => e = .returned (.bool false) ∧ G w w' := by
  obtain ⟨al, f, S, C, Q⟩ := unhide h
  exact c_push_full (hide (hv_hs W x ls5 n ao cap nv c ls5_m)) (g := ()) (hide S) C Q hl v id
theorem s_pop {v : Int} (h : Hid (ChS W x n ao cap nv c a R (v :: q) cl w)) : Calls Tryz.prog 10 #[.pointer (some ⟨x.hb, 0, none⟩), .int .i64 a] w fun e w' => e = .returned (.tuple #[.int .i64 v, .bool true]) ∧ ChS W x n ao cap nv c a R q cl w' ∧ Fr (ownH x ()) (ownH x ()) w w' := by
  obtain ⟨al, f, S, C, Q⟩ := unhide h
  refine (c_pop (hide (hv_hs W x ls5 n ao cap nv c ls5_m)) (g := ()) (hide S) C Q _ (fun _ => True) (fun e => by cases e) (fun _ => ⟨rfl, trivial⟩) (C.write (by omega) (by omega))).mono ?_
  rintro e w' ⟨he, g2, _, S2, F2⟩
  exact ⟨he, ⟨_, _, S2, C.pop _, Q.pop.2⟩, F2⟩
theorem s_pop_empty (h : Hid (ChS W x n ao cap nv c a R [] cl w)) : Calls Tryz.prog 10 #[.pointer (some ⟨x.hb, 0, none⟩), .int .i64 a] w fun e w' => e = .returned (.tuple #[.int .i64 0, .bool false]) ∧ G w w' := by
  obtain ⟨al, f, S, C, Q⟩ := unhide h
  exact c_pop_empty (hide (hv_hs W x ls5 n ao cap nv c ls5_m)) (g := ()) (hide S) C Q
theorem s_close (h : Hid (ChS W x n ao cap nv c a R q false w)) : Calls Tryz.prog 17 #[.pointer (some ⟨x.hb, 0, none⟩), .int .i64 a] w fun e w' => e = .returned (.bool true) ∧ ChS W x n ao cap nv c a R q true w' ∧ Fr (ownH x ()) (ownH x ()) w w' := by
  obtain ⟨al, f, S, C, Q⟩ := unhide h
  exact (c_close (hide (hv_hs W x ls5 n ao cap nv c ls5_m)) (g := ()) (hide S) C Q).mono fun _ _ hh => ⟨hh.1, ⟨_, f, hh.2.1, C.close, Q.close⟩, hh.2.2⟩
theorem s_close_shut (h : Hid (ChS W x n ao cap nv c a R q true w)) : Calls Tryz.prog 17 #[.pointer (some ⟨x.hb, 0, none⟩), .int .i64 a] w fun e w' => e = .returned (.bool false) ∧ G w w' := by
  obtain ⟨al, f, S, C, Q⟩ := unhide h
  exact c_close_shut (hide (hv_hs W x ls5 n ao cap nv c ls5_m)) (g := ()) (hide S) C Q
theorem s_count (h : Hid (ChS W x n ao cap nv c a R q cl w)) : Calls Tryz.prog 16 #[.pointer (some ⟨x.hb, 0, none⟩), .int .i64 a] w fun e w' => e = .returned (.int .i64 (q.length : Int)) ∧ G w w' := by
  obtain ⟨al, f, S, C, Q⟩ := unhide h
  exact c_count (hide (hv_hs W x ls5 n ao cap nv c ls5_m)) (g := ()) (hide S) C Q
theorem s_room (h : Hid (ChS W x n ao cap nv c a R q cl w)) : Calls Tryz.prog 19 #[.pointer (some ⟨x.hb, 0, none⟩), .int .i64 a] w fun e w' => e = .returned (.int .i64 (R : Int)) ∧ G w w' := by
  obtain ⟨al, f, S, C, Q⟩ := unhide h
  exact c_room (hide (hv_hs W x ls5 n ao cap nv c ls5_m)) (g := ()) (hide S) C
theorem s_closed (h : Hid (ChS W x n ao cap nv c a R q cl w)) : Calls Tryz.prog 18 #[.pointer (some ⟨x.hb, 0, none⟩), .int .i64 a] w fun e w' => e = .returned (.bool cl) ∧ G w w' := by
  obtain ⟨al, f, S, C, Q⟩ := unhide h
  exact c_shut (hide (hv_hs W x ls5 n ao cap nv c ls5_m)) (g := ()) (hide S) C Q
theorem s_is (h : Hid (ChS W x n ao cap nv c a R q cl w)) (b : Bool) : Calls Tryz.prog 20 #[.pointer (some ⟨x.hb, 0, none⟩), .int .i64 a, .bool b] w fun e w' => e = .returned (.bool (false == b)) ∧ G w w' := by
  obtain ⟨al, f, S, C, Q⟩ := unhide h
  exact c_is (hide (hv_hs W x ls5 n ao cap nv c ls5_m)) (g := ()) (hide S) C b
/-- Made first on a heap of 8 spans. -/
theorem s_make (h : Hid (HS W w x (al0 8) ls5 3 ao cap nv c)) (R : Nat) (hR : R ≤ 59) (rv : Value) : Calls Tryz.prog 7 #[.pointer (some ⟨x.hb, 0, none⟩), .int .i64 0, .int .i64 (R : Int), rv] w fun e w' => e = .returned (.tuple #[.int .i64 64, .int .i64 0, .int .i64 0]) ∧ ChS W x 3 ao cap nv c 64 R [] false w' ∧ Kp3 w c w' :=
  (c_make h 0 (by decide) ⟨3, 0, 0⟩ rfl R hR 64 (rt R) (hide (trz_of (rt_take ⟨R, by omega⟩))) rv).mono fun _ _ hh => ⟨hh.1, ⟨rq R, 0, hh.2.1, rq_cz R hR, rq_cq R hR⟩, hh.2.2⟩
end
end Go.Proofs.YtgflkpccddfalaaGreatDoor
