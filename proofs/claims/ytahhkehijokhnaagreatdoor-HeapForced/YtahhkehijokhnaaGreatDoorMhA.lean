/- Here, one behind the other: CycK5, HeadTab4, HpK, HpMem, HpOf, HpOf2, HpGet, HpMake, HpV, HpAdd, HpNew, HpNew2, HpG, HpG2, HpSet, HpEv, HpStep. -/
import Derived.Test.YtahhkehijokhnaaGreatDoorCycK4
import Derived.Test.YtahhkehijokhnaaGreatDoorHeadTab3
import Derived.Maps.OwnSet
import Derived.Deep.DeepCutAuto
import Derived.Test.YtahhkehijokhnaaGreatDoorGreyQ
import Derived.Maps.OwnOps
/- The program's Cycle while nothing is held: Barrier, Born, Scan while it is off; Take; Start; what steps till it is off. -/
namespace Go.Proofs.YtahhkehijokhnaaGreatDoor
set_option maxRecDepth 100000
open Go.ChangeShapes Go.WideShapes Go.ChangeAt Go.RowKit Go.Maps
section
variable {W w w' : World} {xl : Ld} {b : Kn} {hb : Nat} {s s' : Pk}
theorem k_barrier0 {al : Al} {kept done : Int} (h : Hid (KS W w xl b al 0 kept done)) (x y i : Int) : Calls Tryz.prog 53 #[.pointer (some ⟨b.cb, 0, none⟩), .int .i64 x, .int .i64 y, .int .i64 i] w fun e w' => e = .returned (.tuple #[]) ∧ w' = w := by
  have C := hide (k_shades h)
  go_enter Tryz.func53, Tryz.ntmps53
  go_wp2_with fail
  refine (unhide C).mono ?_
  rintro r w1 ⟨rfl, hw1⟩
  subst hw1
  clear C
  go_wp2_with fail
  go_returns
  exact ⟨rfl, rfl⟩
theorem l_clear {al : Al} (h : Hid (StL W w xl al)) : Calls Tryz.prog 77 #[.pointer (some ⟨xl.d.ab, 0, none⟩)] w fun e w' => e = .returned (.tuple #[]) ∧ StL W w' xl ⟨al.a.clear, al.u⟩ ∧ TnL w w' xl :=
  (st_clear (hide (unhide h).st)).mono fun _ _ hh => ⟨hh.1, (unhide h).turn hh.2.1 hh.2.2 rfl, TnL.of_Tn hh.2.2⟩
/-- A taking: the place is marked at once, while things are shaded. -/
def Pk.take (s : Pk) (n : Int) : Pk := if (s.al.take n).2.2 = 0 ∧ (s.ph = 1 ∨ s.ph = 2) then ⟨⟨(s.al.take n).1.a.markA (s.al.take n).2.1, (s.al.take n).1.u⟩, s.ph, s.kept, s.done⟩ else ⟨(s.al.take n).1, s.ph, s.kept, s.done⟩
theorem k_take_no (h : Hid (KH W w xl b hb s)) (n v e : Int) (al' : Al) (hR : Hid (s.al.take n = (al', v, e))) (he : (e != 0) = true) : Calls Tryz.prog 48 #[.pointer (some ⟨b.cb, 0, none⟩), .int .i64 n] w fun r w' => r = .returned (.tuple #[.int .i64 0, .int .i64 e]) ∧ KH W w' xl b hb ⟨al', s.ph, s.kept, s.done⟩ := by
  have c1 := (unhide h).ks.c1
  have C := hide (l_take (hide (unhide h).ks.st) n)
  rw [unhide hR] at C
  simp only at C
  go_enter Tryz.func48, Tryz.ntmps48
  go_wp2_with fail
  refine (unhide C).mono ?_
  rintro r w1 ⟨rfl, s1, t1⟩
  have h1 := hide ((unhide h).turn (s' := ⟨al', s.ph, s.kept, s.done⟩) ((unhide h).ks.turn s1 t1) t1)
  clear C s1 t1
  go_wp2_with fail
  go_ret2
  exact ⟨rfl, unhide h1⟩
theorem k_take_off (h : Hid (KH W w xl b hb s)) (n v : Int) (al' : Al) (hR : Hid (s.al.take n = (al', v, 0))) (hp : (s.ph == 1 || s.ph == 2) = false) : Calls Tryz.prog 48 #[.pointer (some ⟨b.cb, 0, none⟩), .int .i64 n] w fun r w' => r = .returned (.tuple #[.int .i64 v, .int .i64 0]) ∧ KH W w' xl b hb ⟨al', s.ph, s.kept, s.done⟩ := by
  have c1 := (unhide h).ks.c1
  have C := hide (l_take (hide (unhide h).ks.st) n)
  rw [unhide hR] at C
  simp only at C
  go_enter Tryz.func48, Tryz.ntmps48
  go_wp2_with fail
  refine (unhide C).mono ?_
  rintro r w1 ⟨rfl, s1, t1⟩
  have h1 := hide ((unhide h).turn (s' := ⟨al', s.ph, s.kept, s.done⟩) ((unhide h).ks.turn s1 t1) t1)
  have C2 := hide (k_shades (hide (unhide h1).ks))
  simp only [hp] at C2
  clear C s1 t1
  go_wp2_with fail
  refine (unhide C2).mono ?_
  rintro r w2 ⟨rfl, hw2⟩
  subst hw2
  clear C2
  go_wp2_with fail
  go_ret2
  exact ⟨rfl, unhide h1⟩
theorem k_take_on (h : Hid (KH W w xl b hb s)) (n v : Int) (al' : Al) (hR : Hid (s.al.take n = (al', v, 0))) (hp : (s.ph == 1 || s.ph == 2) = true) : Calls Tryz.prog 48 #[.pointer (some ⟨b.cb, 0, none⟩), .int .i64 n] w fun r w' => r = .returned (.tuple #[.int .i64 v, .int .i64 0]) ∧ KH W w' xl b hb ⟨⟨al'.a.markA v, al'.u⟩, s.ph, s.kept, s.done⟩ := by
  have c1 := (unhide h).ks.c1
  have C := hide (l_take (hide (unhide h).ks.st) n)
  rw [unhide hR] at C
  simp only at C
  go_enter Tryz.func48, Tryz.ntmps48
  go_wp2_with fail
  refine (unhide C).mono ?_
  rintro r w1 ⟨rfl, s1, t1⟩
  have h1 := hide ((unhide h).turn (s' := ⟨al', s.ph, s.kept, s.done⟩) ((unhide h).ks.turn s1 t1) t1)
  have C2 := hide (k_shades (hide (unhide h1).ks))
  simp only [hp] at C2
  have c0 := (unhide h1).ks.c0
  have C3 := hide (ls_mark (hide (unhide h1).ks.st) v)
  clear C s1 t1
  go_wp2_with fail
  refine (unhide C2).mono ?_
  rintro r w2 ⟨rfl, hw2⟩
  subst hw2
  clear C2
  go_wp2_with fail
  refine (unhide C3).mono ?_
  rintro r w3 ⟨rfl, s3, t3⟩
  have h3 := hide ((unhide h1).turn (s' := ⟨⟨al'.a.markA v, al'.u⟩, s.ph, s.kept, s.done⟩) ((unhide h1).ks.turn s3 t3) t3)
  clear C3 s3 t3
  go_wp2_with fail
  go_ret2
  exact ⟨rfl, unhide h3⟩
theorem k_start1 (h : Hid (KH W w xl b hb s)) (hp : (s.ph != 0) = true) (r : Value) : Calls Tryz.prog 62 #[.pointer (some ⟨b.cb, 0, none⟩), r] w fun e w' => e = .returned (.bool false) ∧ w' = w := by
  have c4 := (unhide h).ks.c4
  go_enter Tryz.func62, Tryz.ntmps62
  go_wp2_with fail
  go_ret
  exact ⟨rfl, rfl⟩
end
end Go.Proofs.YtahhkehijokhnaaGreatDoor

/- The contract of a Table's Number, in one. -/
namespace Go.Proofs.YtahhkehijokhnaaGreatDoor.Hd
set_option maxRecDepth 100000
open Go.RowKit Go.Maps Go.ChangeShapes Go.WideShapes Go.ChangeAt Go.Deep

/-- A shape that may be. -/
def Shp.good (s : Shp) : Bool := goodB s.k s.f s.m
/-- The shapes of a table behind Number. -/
def addS (l : List Shp) (s : Shp) : List Shp := if s.good = true ∧ s ∉ l then l ++ [s] else l
/-- What Number answers. -/
def numV (l : List Shp) (s : Shp) : Int := if s.good = true then (l.idxOf s : Int) else 0
def numE (s : Shp) : Int := if s.good = true then 0 else 1

theorem TabAt.ne {w : World} {B tb mb : Nat} {ao : Option Addr} {cap : Nat} {l : List Shp} (h : TabAt w B tb mb ao cap l) : tb ≠ mb ∧ (∀ a, ao = some a → a.block ≠ mb) ∧ (∀ a, ao = some a → a.block ≠ tb) := by
  obtain ⟨D, ⟨es, clock, hm, _⟩, _⟩ := h.map
  have hrow := h.row
  refine ⟨?_, ?_, ?_⟩
  · rintro rfl
    have := h.blk
    rw [hm] at this
    cases this
  · rintro a rfl rfl
    rcases hrow.2 with ⟨e, _⟩ | ⟨g, c, cur, e, _, hg, _⟩
    · cases e
    · injection e with e
      injection e with e
      subst e
      rw [hm] at hg
      cases hg
  · rintro a rfl rfl
    rcases hrow.2 with ⟨e, _⟩ | ⟨g, c, cur, e, _, hg, _⟩
    · cases e
    · injection e with e
      injection e with e
      subst e
      have h1 := h.blk
      rw [hg] at h1
      cases h1

theorem tab_add {w w' : World} {B tb mb : Nat} {ao : Option Addr} {cap g cap' : Nat} {l : List Shp} {D : DataW Unit} {s : Shp} (h : TabAt w B tb mb ao cap l) (hs : s.Fit) (hn : s ∉ l)
    (hown : w.ownsMap Tryz.prog 37 (plainElem Tryz.prog 3) mb l.length D) (hhas : ∀ s : Shp, s.Fit → Maps.has D s.key = decide (s ∈ l))
    (hat : ∀ s : Shp, s ∈ l → D.atKey s.key (.lit (.int .i64 0)) = .lit (.int .i64 (l.idxOf s : Int)))
    (E : NumEnd w w' B tb mb ao g cap' l.length (rowOf l ++ s.cells) (D.put s.key (.lit (.int .i64 (l.length : Int))))) : TabAt w' B tb mb (some ⟨g, 0, none⟩) cap' (l ++ [s]) := by
  have hl : (l ++ [s]).length = l.length + 1 := by simp
  have hk : WideAt.IsKeyLit s.key := keyed.key (keyOf_shp s hs w)
  refine ⟨by rw [hl]; exact E.blk, h.btb, h.bmb, by rw [hl, rowOf_snoc]; exact E.row, ⟨_, by rw [hl]; exact E.map, ?_, ?_⟩, ?_⟩
  · intro t ht
    by_cases e : t = s
    · subst e
      rw [has_put_same hown.isMap hk]
      simp
    · rw [has_put_other (fun e2 => e (key_inj ht hs w e2)), hhas t ht]
      simp [e]
  · intro t ht
    by_cases e : t = s
    · subst e
      rw [atKey_put_same hown.isMap hk, List.idxOf_append, if_neg hn]
      simp
    · have ht' : t ∈ l := by simpa [e] using ht
      rw [atKey_put_other (fun e2 => e (key_inj (h.fit t ht') hs w e2)), hat t ht', List.idxOf_append, if_pos ht']
  · intro t ht
    rcases List.mem_append.1 ht with h1 | h1
    · exact h.fit t h1
    · simp at h1
      subst h1
      exact hs

theorem number_any (w : World) (B tb mb : Nat) (ao : Option Addr) (cap : Nat) (l : List Shp) (s : Shp) (h : TabAt w B tb mb ao cap l) (hs : s.Fit) (hlen : l.length < 65536) (hB : B ≤ w.heap.size) :
    Calls Tryz.prog 26 #[.pointer (some ⟨tb, 0, none⟩), .agg #[.int .i64 s.k, .int .i64 s.f, .int .u64 (s.m : Int)]] w fun e w' =>
      ∃ ao' cap', e = .returned (.tuple #[.int .i64 (numV l s), .int .i64 (numE s)]) ∧ TabAt w' B tb mb ao' cap' (addS l s) ∧ Turn w w' tb mb ao ∧ (∀ a, ao' = some a → ao = some a ∨ w.heap.size ≤ a.block) := by
  by_cases hg : s.good = true
  · unfold numV numE addS
    simp only [hg, if_true, true_and]
    have hl := fun k => look_at (h.grown (boxed_G w s k)) s hs
    by_cases hm : s ∈ l
    · simp only [hm, if_true, decide_true] at hl
      rw [if_neg (by simpa using hm)]
      refine (number_old w tb mb s _ hg h.cells.1 hl).mono ?_
      rintro e w' ⟨rfl, hG⟩
      exact ⟨ao, cap, rfl, h.grown hG, Turn.of_G hG, fun a ha => Or.inl ha⟩
    · simp only [hm, if_false, decide_false] at hl
      rw [if_pos hm, List.idxOf_eq_length hm]
      obtain ⟨D, hown, hhas, hat⟩ := h.map
      obtain ⟨n1, n2, n3⟩ := h.ne
      refine (number_new w B tb mb l.length cap ao (rowOf l) D s hg hs hB hlen (hide h.blk) h.cells.1 h.cells.2.1 h.cells.2.2 n1 h.mlt (hide h.row) (hide n2) (hide n3) (hide hown) hl).mono ?_
      rintro e w' ⟨g, cap', rfl, E⟩
      refine ⟨_, cap', rfl, tab_add h hs hm hown hhas hat E, E.turn, ?_⟩
      intro a ha
      injection ha with ha
      subst ha
      exact E.lies
  · have hg' : goodB s.k s.f s.m = false := by
      have : s.good = false := by simpa using hg
      exact this
    unfold numV numE addS
    rw [if_neg hg, if_neg hg, if_neg (fun h => hg h.1)]
    refine (number_bad w tb s hg').mono ?_
    rintro e w' ⟨rfl, hG⟩
    exact ⟨ao, cap, rfl, h.grown hG, Turn.of_G hG, fun a ha => Or.inl ha⟩
end Go.Proofs.YtahhkehijokhnaaGreatDoor.Hd

/- The program's Cycle, made with an empty table beside it. -/
namespace Go.Proofs.YtahhkehijokhnaaGreatDoor
set_option maxRecDepth 100000
open Go.ChangeShapes Go.WideShapes Go.ChangeAt Go.RowKit Go.Maps

theorem ks_newT {n : Nat} {W w3 w4 : World} {xl : Ld} {tb : Nat} (S3 : StL W w4 xl (al0 n)) (Q4 : Gy.QL w4 w3.heap.size [] []) (k0 : w4.cell? ⟨w3.heap.size + 1, 0, none⟩ = some (.pointer (some ⟨xl.d.ab, 0, none⟩)) ∧ w4.cell? ⟨w3.heap.size + 1, 2, none⟩ = some (.pointer (some ⟨w3.heap.size, 0, none⟩)) ∧ w4.cell? ⟨w3.heap.size + 1, 1, none⟩ = some (.pointer (some ⟨tb, 0, none⟩)))
    (z4 : w4.heap.size = w3.heap.size + 2) (hW : W.heap.size ≤ w3.heap.size) (l1 : xl.d.wb < w3.heap.size) (l2 : xl.d.sb < w3.heap.size) (l3 : xl.ub < w3.heap.size) (l4 : xl.d.ab < w3.heap.size) (l5 : xl.lb < w3.heap.size) :
    KS W ((w4.alloc (.map #[] 0)).alloc (.cells #[.pointer (some ⟨xl.d.ab, 0, none⟩), .pointer (some ⟨xl.lb, 0, none⟩), .pointer (some ⟨tb, 0, none⟩), .pointer (some ⟨w3.heap.size + 1, 0, none⟩), .int .i64 0, .map (some w4.heap.size), .int .i64 64, .int .i64 0] 96)) xl ⟨w4.heap.size + 1, w4.heap.size, w3.heap.size + 1, tb, w3.heap.size⟩ (al0 n) 0 64 0 := by
  obtain ⟨w5, h5⟩ : ∃ w5, w4.alloc (.map #[] 0) = w5 := ⟨_, rfl⟩
  have z5 : w5.heap.size = w4.heap.size + 1 := by rw [← h5, World.size_alloc]
  have g5 : G w4 w5 := by rw [← h5]; exact G.alloc _ _
  have m5 : w5.heap[w4.heap.size]? = some (.map #[] 0) := by rw [← h5]; exact heap_alloc_new w4 _
  rw [h5, ← z5]
  obtain ⟨w6, h6⟩ : ∃ w6, w5.alloc (.cells #[.pointer (some ⟨xl.d.ab, 0, none⟩), .pointer (some ⟨xl.lb, 0, none⟩), .pointer (some ⟨tb, 0, none⟩), .pointer (some ⟨w3.heap.size + 1, 0, none⟩), .int .i64 0, .map (some w4.heap.size), .int .i64 64, .int .i64 0] 96) = w6 := ⟨_, rfl⟩
  have g6 : G w5 w6 := by rw [← h6]; exact G.alloc _ _
  have z6 : w6.heap.size = w5.heap.size + 1 := by rw [← h6, World.size_alloc]
  have g := g5.trans g6
  have b6 : w6.heap[w5.heap.size]? = some (.cells #[.pointer (some ⟨xl.d.ab, 0, none⟩), .pointer (some ⟨xl.lb, 0, none⟩), .pointer (some ⟨tb, 0, none⟩), .pointer (some ⟨w3.heap.size + 1, 0, none⟩), .int .i64 0, .map (some w4.heap.size), .int .i64 64, .int .i64 0] 96 (0, 0)) := by rw [← h6]; exact heap_alloc_new w5 _
  have hc : ∀ i : Nat, w6.cell? ⟨w5.heap.size, i, none⟩ = #[Value.pointer (some ⟨xl.d.ab, 0, none⟩), .pointer (some ⟨xl.lb, 0, none⟩), .pointer (some ⟨tb, 0, none⟩), .pointer (some ⟨w3.heap.size + 1, 0, none⟩), .int .i64 0, .map (some w4.heap.size), .int .i64 64, .int .i64 0][i]? := fun i => by rw [← h6]; exact World.cell?_alloc_new _ _ _ i
  rw [h6]
  refine ⟨S3.G g, hc 0, hc 1, hc 2, hc 3, hc 4, hc 5, hc 6, hc 7, fun i => by simp [World.frozen?, b6], ⟨0, (g6.block w4.heap.size (by omega)).trans m5⟩, g.cell k0.1, g.cell k0.2.1, g.cell k0.2.2, Q4.grown g, fun d hd => ?_, by simp; omega, by simp; omega⟩
  simp at hd
  omega
set_option maxHeartbeats 2000000 in
theorem k_newT {W w : World} (n : Nat) (h0 : 8 ≤ n) (h1 : n ≤ 512) (hb : Hid (Below W.heap.size W w)) (ht : Hid (Tab W)) : Calls Tryz.prog 23 #[.int .i64 (n : Int)] w fun e w' => ∃ xl b tm, e = .returned (.tuple #[.pointer (some ⟨b.cb, 0, none⟩), .int .i64 0]) ∧ KS W w' xl b (al0 n) 0 64 0 ∧ Hd.TabAt w' W.heap.size b.tb tm none 0 [] ∧ (∀ d ∈ [b.cb, b.mb, b.kb, b.q, xl.d.ab, xl.d.wb, xl.d.sb, xl.ub, xl.lb], d ≠ b.tb ∧ d ≠ tm ∧ d < w'.heap.size) ∧ b.tb ≠ tm := by
  have hmm := @run_makeMap Tryz.prog
  have hbs := (unhide hb).size
  have SM := hide (st_make n h0 h1 hb ht)
  have KN := hide (fun (x : World) (d : Ad) (h : Hid (St W x d (ab0 n))) => kl_new n h1 h)
  replace h0 := hide h0
  replace h1 := hide h1
  go_enter Tryz.func23, Tryz.ntmps23
  go_wp2_with fail
  refine (unhide SM).mono ?_
  rintro r w1 ⟨d, rfl, S1, g1, q1, q2, q3⟩
  replace S1 := hide S1
  have z1 := g1.size
  clear g1
  go_wp2_with fail
  refine (headnew_k _).mono ?_
  rintro r w2 ⟨rfl, hw2⟩
  have g2 : Hid (G w1 w2) := hide (by rw [hw2]; exact (G.alloc _ _).more _)
  have z2 : w2.heap.size = w1.heap.size + 2 := by rw [hw2]; simp
  have T2 : Hid (Hd.TabAt w2 W.heap.size (w1.heap.size + 1) w1.heap.size none 0 []) := hide (by rw [hw2]; exact Hd.tab_new w1 W.heap.size (by omega))
  have l01 := (unhide S1).at_.lt0
  have l11 := (unhide S1).at_.lt1 (unhide S1).n8
  have l21 := (unhide S1).at_.lt2 (unhide S1).n8
  clear hw2
  have CA := hide (unhide KN w2 d (hide ((unhide S1).G (unhide g2))))
  go_wp2_with fail
  refine (unhide CA).mono ?_
  rintro r w3 ⟨xl, rfl, hxd, S3, g3, y1, y2, y3⟩
  subst hxd
  replace S3 := hide S3
  have z3 := g3.size
  replace T2 : Hid (Hd.TabAt w3 W.heap.size (w1.heap.size + 1) w1.heap.size none 0 []) := hide ((unhide T2).grown g3)
  clear CA g3
  go_wp2_with fail
  refine (marknew_k _ _ _).mono ?_
  rintro r w4 ⟨rfl, hw4⟩
  have Q4 : Hid (Gy.QL w4 w3.heap.size [] []) := hide (by rw [hw4]; exact (Gy.queue_new w3).grown (G.alloc _ _))
  have g4 : Hid (G w3 w4) := hide (by rw [hw4]; exact (G.alloc _ _).more _)
  have z4 : w4.heap.size = w3.heap.size + 2 := by rw [hw4]; simp
  have k0 : Hid (w4.cell? ⟨w3.heap.size + 1, 0, none⟩ = some (.pointer (some ⟨xl.d.ab, 0, none⟩)) ∧ w4.cell? ⟨w3.heap.size + 1, 2, none⟩ = some (.pointer (some ⟨w3.heap.size, 0, none⟩)) ∧ w4.cell? ⟨w3.heap.size + 1, 1, none⟩ = some (.pointer (some ⟨w1.heap.size + 1, 0, none⟩))) := hide (by
    have hz : (w3.alloc (.cells #[.pointer none, .pointer none, .int .i64 0, .int .i64 0] 134)).heap.size = w3.heap.size + 1 := by rw [World.size_alloc]
    rw [hw4, ← hz]
    exact ⟨World.cell?_alloc_new _ _ _ 0, World.cell?_alloc_new _ _ _ 2, World.cell?_alloc_new _ _ _ 1⟩)
  clear hw4
  have S4 := (unhide S3).G (unhide g4)
  have l0 := (unhide S3).st.at_.lt0
  have l1 := (unhide S3).st.at_.lt1 (unhide S3).st.n8
  have l2 := (unhide S3).st.at_.lt2 (unhide S3).st.n8
  have z4' := hide z4
  clear z4
  go_wp2_with fail
  go_ret2
  have KK := ks_newT (tb := w1.heap.size + 1) S4 (unhide Q4) (unhide k0) (unhide z4') (by omega) l1 l2 (by omega) l0 (unhide S3).lt0
  have l5 := (unhide S3).lt0
  have hz := unhide z4'
  refine ⟨xl, ⟨w4.heap.size + 1, w4.heap.size, w3.heap.size + 1, w1.heap.size + 1, w3.heap.size⟩, w1.heap.size, rfl, KK, (unhide T2).grown (((unhide g4).more _).more _), fun d hd => ?_, by simp only; omega⟩
  rw [World.size_alloc, World.size_alloc]
  simp only [List.mem_cons, List.not_mem_nil, or_false] at hd
  simp only
  rcases hd with rfl | rfl | rfl | rfl | rfl | rfl | rfl | rfl | rfl <;> refine ⟨?_, ?_, ?_⟩ <;> omega
end Go.Proofs.YtahhkehijokhnaaGreatDoor

/- A Heap in memory while no collection goes on: the Cycle and its table, the Heap's own cells, its row of numbers, its map. -/
namespace Go.Proofs.YtahhkehijokhnaaGreatDoor
set_option maxRecDepth 100000
open Go.ChangeShapes Go.WideShapes Go.ChangeAt Go.RowKit Go.Maps

theorem keyI : Keyed Tryz.prog 3 := int_keyed Tryz.underlying3
abbrev wfN (y : Int) : Prop := (Lit.int .i64 y).wf = true
/-- Where a Heap's things lie. -/
structure Hx where
  xl : Ld
  b : Kn
  tm : Nat
  hb : Nat
  lm : Nat
/-- The map has the numbers from 0 to n - 1, each at itself. -/
def LmAt (w : World) (lm n : Nat) : Prop := ∃ D : DataW Unit, w.ownsMap Tryz.prog 3 (plainElem Tryz.prog 3) lm n D ∧ ∀ y : Int, wfN y → Maps.has D (.int .i64 y) = decide (0 ≤ y ∧ y < (n : Int)) ∧ (0 ≤ y ∧ y < (n : Int) → D.atKey (.int .i64 y) (.lit (.int .i64 0)) = .lit (.int .i64 y))
abbrev nrL (n : Nat) : List Value := (List.range n).map fun (i : Nat) => Value.int .i64 (i : Int)
abbrev NrAt (w : World) (B : Nat) (v : Value) (n : Nat) : Prop := w.ownsRow B 3 1 v n (nrL n)
/-- What reading a Heap wants, whatever its collector does. -/
structure HB (W w : World) (x : Hx) (al : Al) (l : List Hd.Shp) (ao : Option Addr) (cap : Nat) : Prop where
  st : StL W w x.xl al
  c0 : w.cell? ⟨x.b.cb, 0, none⟩ = some (.pointer (some ⟨x.xl.d.ab, 0, none⟩))
  c2 : w.cell? ⟨x.b.cb, 2, none⟩ = some (.pointer (some ⟨x.b.tb, 0, none⟩))
  tab : Hd.TabAt w W.heap.size x.b.tb x.tm ao cap l
  h0 : w.cell? ⟨x.hb, 0, none⟩ = some (.pointer (some ⟨x.b.cb, 0, none⟩))
theorem HB.gr {W w w' : World} {x : Hx} {al : Al} {l : List Hd.Shp} {ao : Option Addr} {cap : Nat} (h : HB W w x al l ao cap) (g : G w w') : HB W w' x al l ao cap := ⟨h.st.G g, g.cell h.c0, g.cell h.c2, h.tab.grown g, g.cell h.h0⟩
theorem b_arena {W w : World} {x : Hx} {al : Al} {l : List Hd.Shp} {ao : Option Addr} {cap : Nat} (h : Hid (HB W w x al l ao cap)) : Calls Tryz.prog 29 #[.pointer (some ⟨x.b.cb, 0, none⟩)] w fun e w' => e = .returned (.pointer (some ⟨x.xl.d.ab, 0, none⟩)) ∧ w' = w := by
  have c0 := (unhide h).c0
  go_enter Tryz.func29, Tryz.ntmps29
  go_wp2_with fail
  go_ret
  exact ⟨rfl, rfl⟩
theorem b_table {W w : World} {x : Hx} {al : Al} {l : List Hd.Shp} {ao : Option Addr} {cap : Nat} (h : Hid (HB W w x al l ao cap)) : Calls Tryz.prog 25 #[.pointer (some ⟨x.b.cb, 0, none⟩)] w fun e w' => e = .returned (.pointer (some ⟨x.b.tb, 0, none⟩)) ∧ w' = w := by
  have c2 := (unhide h).c2
  go_enter Tryz.func25, Tryz.ntmps25
  go_wp2_with fail
  go_ret
  exact ⟨rfl, rfl⟩
/-- A Heap: l: the table's shapes; n: so many of them are numbered; c: whose each block is. -/
structure HS (W w : World) (x : Hx) (al : Al) (l : List Hd.Shp) (n : Nat) (ao : Option Addr) (cap : Nat) (nv : Value) (c : Nat → Nat) : Prop where
  ks : KS W w x.xl x.b al 0 64 0
  tab : Hd.TabAt w W.heap.size x.b.tb x.tm ao cap l
  h0 : w.cell? ⟨x.hb, 0, none⟩ = some (.pointer (some ⟨x.b.cb, 0, none⟩))
  h1 : w.cell? ⟨x.hb, 1, none⟩ = some nv
  h2 : w.cell? ⟨x.hb, 2, none⟩ = some (.map (some x.lm))
  h3 : w.cell? ⟨x.hb, 3, none⟩ = some (.int .i64 0)
  hf : ∀ i, w.frozen? ⟨x.hb, i, none⟩ = false
  num : NrAt w W.heap.size nv n
  mp : LmAt w x.lm n
  lo : W.heap.size ≤ x.hb ∧ W.heap.size ≤ x.lm
  lt : x.lm < w.heap.size
  cA : c x.xl.d.ab = 1 ∧ c x.xl.d.wb = 1 ∧ c x.xl.d.sb = 1 ∧ c x.xl.ub = 1 ∧ c x.xl.lb = 1
  cC : c x.b.cb = 2 ∧ c x.b.mb = 2 ∧ c x.b.kb = 2 ∧ c x.b.q = 2
  c3 : c x.b.tb = 3
  c4 : c x.tm = 4
  c5 : ∀ a, ao = some a → c a.block = 5
  c6 : c x.hb = 6
  c7 : c x.lm = 7
  c8 : ∀ k, nv.ownBlock = some k → c k = 8
section
variable {W w w' : World} {x : Hx} {al al' : Al} {l l' : List Hd.Shp} {n : Nat} {ao : Option Addr} {cap : Nat} {nv : Value} {c : Nat → Nat}
theorem HS.hB (h : HS W w x al l n ao cap nv c) : HB W w x al l ao cap := ⟨h.ks.st, h.ks.c0, h.ks.c2, h.tab, h.h0⟩
theorem HS.hlt (h : HS W w x al l n ao cap nv c) : x.hb < w.heap.size := World.block_lt_of_cell? w _ h.h0
theorem HS.nlt (h : HS W w x al l n ao cap nv c) : ∀ k, nv.ownBlock = some k → k < w.heap.size := fun k hk => by
  rcases h.num.2 with ⟨e, _⟩ | ⟨g, cp, cur, e, _, h3, _⟩
  · rw [e] at hk; cases hk
  · rw [e] at hk
    obtain rfl : g = k := by simpa [Value.ownBlock] using hk
    rcases Nat.lt_or_ge g w.heap.size with hh | hh
    · exact hh
    · rw [Array.getElem?_eq_none hh] at h3; cases h3
theorem LmAt.kept {lm : Nat} (h : LmAt w lm n) (e : w'.heap[lm]? = w.heap[lm]?) : LmAt w' lm n := by
  obtain ⟨D, ⟨es, clock, hb, r⟩, hD⟩ := h
  exact ⟨D, ⟨es, clock, e.trans hb, r⟩, hD⟩
theorem nr_kept {B : Nat} {v : Value} (h : NrAt w B v n) (e : ∀ k, v.ownBlock = some k → w'.heap[k]? = w.heap[k]?) : NrAt w' B v n := by
  refine ⟨h.1, ?_⟩
  rcases h.2 with h0 | ⟨g, cp, cur, e1, e2, e3, e4⟩
  · exact Or.inl h0
  · exact Or.inr ⟨g, cp, cur, e1, e2, (e g (by rw [e1]; rfl)).trans e3, e4⟩
/-- Only the arena's blocks, the allocator's and new ones have been turned. -/
theorem HS.keep (h : HS W w x al l n ao cap nv c) (s : KS W w' x.xl x.b al' 0 64 0) (hs : w.heap.size ≤ w'.heap.size) (k : ∀ d, d < w.heap.size → 3 ≤ c d → w'.heap[d]? = w.heap[d]?) : HS W w' x al' l n ao cap nv c := by
  have kh := k x.hb h.hlt (by rw [h.c6]; decide)
  exact ⟨s, h.tab.kept (k _ h.tab.tlt (by rw [h.c3]; decide)) (k _ h.tab.mlt (by rw [h.c4]; decide)) (fun a ha => k _ (h.tab.aoB a ha).2 (by rw [h.c5 a ha]; decide)), (World.cell?_of_block (a := ⟨x.hb, 0, none⟩) kh).trans h.h0, (World.cell?_of_block (a := ⟨x.hb, 1, none⟩) kh).trans h.h1, (World.cell?_of_block (a := ⟨x.hb, 2, none⟩) kh).trans h.h2, (World.cell?_of_block (a := ⟨x.hb, 3, none⟩) kh).trans h.h3, fun i => (World.frozen?_of_block (a := ⟨x.hb, i, none⟩) kh).trans (h.hf i), nr_kept h.num (fun q hq => k q (h.nlt q hq) (by rw [h.c8 q hq]; decide)), h.mp.kept (k _ h.lt (by rw [h.c7]; decide)), h.lo, Nat.lt_of_lt_of_le h.lt hs, h.cA, h.cC, h.c3, h.c4, h.c5, h.c6, h.c7, h.c8⟩
theorem HS.turn (h : HS W w x al l n ao cap nv c) (s : StL W w' x.xl al') (t : TnL w w' x.xl) : HS W w' x al' l n ao cap nv c := by
  obtain ⟨_, a2, a3, a4, _⟩ := h.cA
  exact h.keep (h.ks.turn s t) t.size fun d hd hc => t.block d hd (fun e => by rw [e, a2] at hc; omega) (fun e => by rw [e, a3] at hc; omega) (fun e => by rw [e, a4] at hc; omega)
theorem HS.gr (h : HS W w x al l n ao cap nv c) (g : G w w') : HS W w' x al l n ao cap nv c := h.keep (h.ks.gr g) g.size fun d hd _ => g.block d hd
/-- What is not the arena's, the allocator's or the Cycle's is as it was. -/
def Kp3 (w : World) (c : Nat → Nat) (w' : World) : Prop := w.heap.size ≤ w'.heap.size ∧ ∀ d, d < w.heap.size → 3 ≤ c d → w'.heap[d]? = w.heap[d]?
theorem Kp3.of_G (g : G w w') : Kp3 w c w' := ⟨g.size, fun d hd _ => g.block d hd⟩
theorem Kp3.trans {w2 : World} (h : Kp3 w c w') (k : Kp3 w' c w2) : Kp3 w c w2 := ⟨Nat.le_trans h.1 k.1, fun d hd hc => (k.2 d (Nat.lt_of_lt_of_le hd h.1) hc).trans (h.2 d hd hc)⟩
theorem HS.kp (h : HS W w x al l n ao cap nv c) (t : TnL w w' x.xl) : Kp3 w c w' := by
  obtain ⟨_, a2, a3, a4, _⟩ := h.cA
  exact ⟨t.size, fun d hd hc => t.block d hd (fun e => by rw [e, a2] at hc; omega) (fun e => by rw [e, a3] at hc; omega) (fun e => by rw [e, a4] at hc; omega)⟩
/-- The arena's and the allocator's blocks are as they were. -/
theorem StL.kept {xl : Ld} (h : StL W w xl al) (hb : Below W.heap.size W w') (k : ∀ d, d = xl.d.ab ∨ d = xl.d.wb ∨ d = xl.d.sb ∨ d = xl.ub ∨ d = xl.lb → w'.heap[d]? = w.heap[d]?) : StL W w' xl al := by
  have kl := k xl.lb (by simp)
  have ku := k xl.ub (by simp)
  exact ⟨⟨h.st.at_.kept (k _ (by simp)) (k _ (by simp)) (k _ (by simp)), h.st.good, hb, h.st.tab⟩, (World.cell?_of_block (a := ⟨xl.lb, 0, none⟩) kl).trans h.c0, (World.cell?_of_block (a := ⟨xl.lb, 1, none⟩) kl).trans h.c1, fun s hs => (World.cell?_of_block (a := ⟨xl.ub, s, none⟩) ku).trans (h.us s hs), fun i => (World.frozen?_of_block (a := ⟨xl.ub, i, none⟩) ku).trans (h.fu i), h.b0, h.b1, h.n0, h.n1, h.n2⟩
theorem HS.alt (h : HS W w x al l n ao cap nv c) : x.xl.d.ab < w.heap.size ∧ x.xl.d.wb < w.heap.size ∧ x.xl.d.sb < w.heap.size ∧ x.xl.ub < w.heap.size ∧ x.xl.lb < w.heap.size :=
  ⟨h.ks.st.st.at_.lt0, h.ks.st.st.at_.lt1 h.ks.st.st.n8, h.ks.st.st.at_.lt2 h.ks.st.st.n8, h.ks.st.lt1, h.ks.st.lt0⟩
/-- Blocks of the Heap's own, or of the table's, have been turned: what the Cycle has is as it was. -/
theorem HS.cyc (h : HS W w x al l n ao cap nv c) (hb : Below W.heap.size W w') (hs : w.heap.size ≤ w'.heap.size) (k : ∀ d, d < w.heap.size → c d ≤ 2 → w'.heap[d]? = w.heap[d]?) : KS W w' x.xl x.b al 0 64 0 := by
  obtain ⟨a1, a2, a3, a4, a5⟩ := h.cA
  obtain ⟨e1, e2, e3, e4⟩ := h.cC
  obtain ⟨l1, l2, l3, l4, l5⟩ := h.alt
  refine h.ks.blocks (h.ks.st.kept hb fun d hd => ?_) hs fun d hd => k d (h.ks.ap d hd).1 ?_
  · rcases hd with rfl | rfl | rfl | rfl | rfl
    · exact k _ l1 (by omega)
    · exact k _ l2 (by omega)
    · exact k _ l3 (by omega)
    · exact k _ l4 (by omega)
    · exact k _ l5 (by omega)
  · simp only [List.mem_cons, List.not_mem_nil, or_false] at hd
    rcases hd with rfl | rfl | rfl | rfl <;> omega
/-- The table has been asked for a number. -/
theorem HS.number9 {ao' : Option Addr} {cap' : Nat} (h : HS W w x al l n ao cap nv c) (T : Hd.TabAt w' W.heap.size x.b.tb x.tm ao' cap' l') (t : Hd.Turn w w' x.b.tb x.tm ao) (ha : ∀ a, ao' = some a → ao = some a ∨ w.heap.size ≤ a.block) :
    ∃ c', HS W w' x al l' n ao' cap' nv c' ∧ ∀ d, d < w.heap.size → c' d = c d := by
  have hb : Below W.heap.size W w' := Below.trans h.ks.st.below (t.below h.ks.st.below.size h.tab.btb h.tab.bmb (fun a ha => (h.tab.aoB a ha).1))
  have k : ∀ d, d < w.heap.size → c d ≠ 3 → c d ≠ 4 → c d ≠ 5 → w'.heap[d]? = w.heap[d]? := fun d hd n3 n4 n5 => t.block d hd (fun e => n3 (by rw [e]; exact h.c3)) (fun e => n4 (by rw [e]; exact h.c4)) (fun a ea e => n5 (by rw [e]; exact h.c5 a ea))
  have kh := k x.hb h.hlt (by rw [h.c6]; decide) (by rw [h.c6]; decide) (by rw [h.c6]; decide)
  have ks := h.cyc hb t.size (fun d hd hc => k d hd (by omega) (by omega) (by omega))
  have cc : ∀ d, d < w.heap.size → (fun d => if w.heap.size ≤ d then 5 else c d) d = c d := fun d hd => by simp only; rw [if_neg (by omega)]
  obtain ⟨l1, l2, l3, l4, l5⟩ := h.alt
  obtain ⟨a1, a2, a3, a4, a5⟩ := h.cA
  obtain ⟨e1, e2, e3, e4⟩ := h.cC
  refine ⟨fun d => if w.heap.size ≤ d then 5 else c d, ⟨ks, T, (World.cell?_of_block (a := ⟨x.hb, 0, none⟩) kh).trans h.h0, (World.cell?_of_block (a := ⟨x.hb, 1, none⟩) kh).trans h.h1, (World.cell?_of_block (a := ⟨x.hb, 2, none⟩) kh).trans h.h2, (World.cell?_of_block (a := ⟨x.hb, 3, none⟩) kh).trans h.h3, fun i => (World.frozen?_of_block (a := ⟨x.hb, i, none⟩) kh).trans (h.hf i), nr_kept h.num (fun q hq => k q (h.nlt q hq) (by rw [h.c8 q hq]; decide) (by rw [h.c8 q hq]; decide) (by rw [h.c8 q hq]; decide)), h.mp.kept (k _ h.lt (by rw [h.c7]; decide) (by rw [h.c7]; decide) (by rw [h.c7]; decide)), h.lo, Nat.lt_of_lt_of_le h.lt t.size, ⟨(cc _ l1).trans a1, (cc _ l2).trans a2, (cc _ l3).trans a3, (cc _ l4).trans a4, (cc _ l5).trans a5⟩, ⟨(cc _ (h.ks.ap _ (by simp)).1).trans e1, (cc _ (h.ks.ap _ (by simp)).1).trans e2, (cc _ (h.ks.ap _ (by simp)).1).trans e3, (cc _ (h.ks.ap _ (by simp)).1).trans e4⟩, (cc _ h.tab.tlt).trans h.c3, (cc _ h.tab.mlt).trans h.c4, fun a ea => ?_, (cc _ h.hlt).trans h.c6, (cc _ h.lt).trans h.c7, fun q hq => (cc _ (h.nlt q hq)).trans (h.c8 q hq)⟩, cc⟩
  rcases ha a ea with e | e
  · exact (cc _ (h.tab.aoB a e).2).trans (h.c5 a e)
  · exact if_pos e
theorem HS.number {ao' : Option Addr} {cap' : Nat} (h : HS W w x al l n ao cap nv c) (T : Hd.TabAt w' W.heap.size x.b.tb x.tm ao' cap' l') (t : Hd.Turn w w' x.b.tb x.tm ao) (ha : ∀ a, ao' = some a → ao = some a ∨ w.heap.size ≤ a.block) :
    ∃ c', HS W w' x al l' n ao' cap' nv c' := by
  obtain ⟨c', S, _⟩ := h.number9 T t ha
  exact ⟨c', S⟩
/-- Old blocks keep their owner; others' blocks are as they were. -/
def K9 (w : World) (c : Nat → Nat) (w' : World) (c' : Nat → Nat) : Prop := w.heap.size ≤ w'.heap.size ∧ ∀ d, d < w.heap.size → c' d = c d ∧ (c d = 9 → w'.heap[d]? = w.heap[d]?)
theorem K9.trans {w w1 w2 : World} {c c1 c2 : Nat → Nat} (h : K9 w c w1 c1) (k : K9 w1 c1 w2 c2) : K9 w c w2 c2 :=
  ⟨Nat.le_trans h.1 k.1, fun d hd => by
    obtain ⟨e1, e2⟩ := h.2 d hd
    obtain ⟨e3, e4⟩ := k.2 d (Nat.lt_of_lt_of_le hd h.1)
    exact ⟨e3.trans e1, fun h9 => (e4 (e1.trans h9)).trans (e2 h9)⟩⟩
end
end Go.Proofs.YtahhkehijokhnaaGreatDoor

/- Package heap: its leaves; Of. -/
namespace Go.Proofs.YtahhkehijokhnaaGreatDoor
set_option maxRecDepth 100000
open Go.ChangeShapes Go.WideShapes Go.ChangeAt Go.RowKit Go.Maps Go.Deep

theorem hp_fields (w : World) (a b c : Int) (h : 1 ≤ a ∧ a ≤ 64) : Calls Tryz.prog 39 #[.agg #[.int .i64 a, .int .i64 b, .int .i64 c]] w fun e w' => e = .returned (.int .i64 (a - 1)) ∧ G w w' := by
  have hw : wrap64 (a - 1) = a - 1 := by unfold wrap64; omega
  clear h
  go_enter Tryz.func39, Tryz.ntmps39
  go_wp2_with fail
  go_ret
  exact ⟨by rw [hw]; rfl, (G.refl w).more _⟩
def hfB (wd sf fd : Int) : Bool := decide (0 ≤ fd) && (decide (fd < sf) && decide (fd < wd - 1))
theorem hp_has (w : World) (a b c k f : Int) (m : Int) (fd : Int) (h : 1 ≤ a ∧ a ≤ 64) : Calls Tryz.prog 41 #[.agg #[.int .i64 a, .int .i64 b, .int .i64 c], .agg #[.int .i64 k, .int .i64 f, .int .u64 m], .int .i64 fd] w fun e w' => e = .returned (.bool (hfB a f fd)) ∧ G w w' := by
  obtain ⟨W1, hW1⟩ : ∃ W1, W1 = (w.alloc (.cells #[.int .i64 a, .int .i64 b, .int .i64 c] 50)).alloc (.cells #[.int .i64 k, .int .i64 f, .int .u64 m] 37) := ⟨_, rfl⟩
  have g1 : G w W1 := by rw [hW1]; exact ((G.refl w).more _).more _
  have a0 : W1.cell? ⟨w.heap.size, 0, none⟩ = some (.int .i64 a) := by rw [hW1]; simp [go_sem]
  have a1 : W1.cell? ⟨w.heap.size, 1, none⟩ = some (.int .i64 b) := by rw [hW1]; simp [go_sem]
  have a2 : W1.cell? ⟨w.heap.size, 2, none⟩ = some (.int .i64 c) := by rw [hW1]; simp [go_sem]
  have b1 : W1.cell? ⟨w.heap.size + 1, 1, none⟩ = some (.int .i64 f) := by rw [hW1]; simp [go_sem]
  have C := hide (hp_fields W1 a b c h)
  replace g1 := hide g1
  clear h
  unfold hfB
  by_cases h0 : 0 ≤ fd
  · by_cases h1 : fd < f
    · rw [decide_eq_true h0, decide_eq_true h1]
      go_enter Tryz.func41, Tryz.ntmps41
      go_upto_region 1 with fail
      rw [← hW1]
      clear hW1
      go_wp2_with fail
      refine (unhide C).mono ?_
      rintro e w2 ⟨rfl, g2⟩
      have g3 := hide ((unhide g1).trans g2)
      clear C g2
      go_wp2_with fail
      go_ret
      exact ⟨by simp, unhide g3⟩
    · rw [decide_eq_true h0, decide_eq_false h1]
      clear C
      go_enter Tryz.func41, Tryz.ntmps41
      go_upto_region 1 with fail
      rw [← hW1]
      clear hW1
      go_wp2_with fail
      go_ret
      exact ⟨by simp, unhide g1⟩
  · rw [decide_eq_false h0]
    clear C
    go_enter Tryz.func41, Tryz.ntmps41
    go_upto_region 1 with fail
    rw [← hW1]
    clear hW1
    go_wp2_with fail
    go_ret
    exact ⟨by simp, unhide g1⟩
theorem hp_adr (w : World) (k f : Int) (m : Nat) (hm : m < 18446744073709551616) : Calls Tryz.prog 38 #[.agg #[.int .i64 k, .int .i64 f, .int .u64 (m : Int)]] w fun e w' => e = .returned (.bool (Hd.holdsB k m 0 2)) ∧ G w w' := by
  have C := hide (fun x => Hd.holds_any k f m 0 2 x hm (by decide))
  generalize Hd.holdsB k m 0 2 = r at C ⊢
  go_enter Tryz.func38, Tryz.ntmps38
  go_wp2_with fail
  refine (unhide C _).mono ?_
  rintro e w2 ⟨rfl, g2⟩
  have g3 := hide ((G.alloc w (.cells #[.int .i64 k, .int .i64 f, .int .u64 (m : Int)] 37)).trans g2)
  clear C g2
  go_wp2_with fail
  go_ret
  exact ⟨rfl, unhide g3⟩
section
variable {W w : World} {x : Hx} {al : Al} {l : List Hd.Shp} {n : Nat} {ao : Option Addr} {cap : Nat} {nv : Value} {c : Nat → Nat}
theorem hb_cycle (h : Hid (HB W w x al l ao cap)) : Calls Tryz.prog 18 #[.pointer (some ⟨x.hb, 0, none⟩)] w fun e w' => e = .returned (.pointer (some ⟨x.b.cb, 0, none⟩)) ∧ w' = w := by
  have h0 := (unhide h).h0
  go_enter Tryz.func18, Tryz.ntmps18
  go_wp2_with fail
  go_ret
  exact ⟨rfl, rfl⟩
theorem h_cycle (h : Hid (HS W w x al l n ao cap nv c)) : Calls Tryz.prog 18 #[.pointer (some ⟨x.hb, 0, none⟩)] w fun e w' => e = .returned (.pointer (some ⟨x.b.cb, 0, none⟩)) ∧ w' = w :=
  hb_cycle (hide (unhide h).hB)
theorem h_forced (h : Hid (HS W w x al l n ao cap nv c)) : Calls Tryz.prog 13 #[.pointer (some ⟨x.hb, 0, none⟩)] w fun e w' => e = .returned (.int .i64 0) ∧ w' = w := by
  have h3 := (unhide h).h3
  go_enter Tryz.func13, Tryz.ntmps13
  go_wp2_with fail
  go_ret
  exact ⟨rfl, rfl⟩
def rdT (al : Al) (a f tr : Int) : Int × Int := if al.a.readE a (wrap64 (f + 1)) = 0 then (al.a.readV a (wrap64 (f + 1)), 0) else (0, tr)
theorem hb_read (h : Hid (HB W w x al l ao cap)) (a f tr : Int) : Calls Tryz.prog 40 #[.pointer (some ⟨x.hb, 0, none⟩), .int .i64 a, .int .i64 f, .int .i64 tr] w fun e w' => e = .returned (.tuple #[.int .i64 (rdT al a f tr).1, .int .i64 (rdT al a f tr).2]) ∧ G w w' := by
  have h0 := (unhide h).h0
  have CA := hide (b_arena h)
  have CR := hide (ls_read (hide (unhide h).st) a (wrap64 (f + 1)))
  unfold rdT
  generalize al.a.readV a (wrap64 (f + 1)) = rv at CR ⊢
  generalize al.a.readE a (wrap64 (f + 1)) = re at CR ⊢
  clear h
  by_cases hr : re = 0
  · rw [if_pos hr]
    subst hr
    go_enter Tryz.func40, Tryz.ntmps40
    go_wp2_with fail
    refine (unhide CA).mono ?_
    rintro e w1 ⟨rfl, hw1⟩
    rw [hw1]
    clear hw1 w1 CA
    go_wp2_with fail
    refine (unhide CR).mono ?_
    rintro e w2 ⟨rfl, _, g2⟩
    replace g2 := hide g2
    clear CR
    go_wp2_with fail
    go_ret2
    exact ⟨rfl, unhide g2⟩
  · rw [if_neg hr]
    have hrb : (re != 0) = true := by simpa using hr
    go_enter Tryz.func40, Tryz.ntmps40
    go_wp2_with fail
    refine (unhide CA).mono ?_
    rintro e w1 ⟨rfl, hw1⟩
    rw [hw1]
    clear hw1 w1 CA
    go_wp2_with fail
    refine (unhide CR).mono ?_
    rintro e w2 ⟨rfl, _, g2⟩
    replace g2 := hide g2
    clear CR
    go_wp2_with fail
    go_ret2
    exact ⟨rfl, unhide g2⟩
theorem h_read (h : Hid (HS W w x al l n ao cap nv c)) (a f tr : Int) : Calls Tryz.prog 40 #[.pointer (some ⟨x.hb, 0, none⟩), .int .i64 a, .int .i64 f, .int .i64 tr] w fun e w' => e = .returned (.tuple #[.int .i64 (rdT al a f tr).1, .int .i64 (rdT al a f tr).2]) ∧ G w w' :=
  hb_read (hide (unhide h).hB) a f tr
theorem h_write (h : Hid (HS W w x al l n ao cap nv c)) (a f old v : Int) (tb : Bool) (id : Int) : Calls Tryz.prog 37 #[.pointer (some ⟨x.hb, 0, none⟩), .int .i64 a, .int .i64 f, .int .i64 old, .int .i64 v, .bool tb, .int .i64 id] w fun e w' => e = .returned (.tuple #[]) ∧ HS W w' x ⟨al.a.writeA a (wrap64 (f + 1)) v, al.u⟩ l n ao cap nv c := by
  have h0 := (unhide h).h0
  have CA := hide (k_arena (hide (unhide h).ks))
  have CB := hide (k_barrier0 (hide (unhide h).ks) old v id)
  have CW : Hid (Calls Tryz.prog 30 #[.pointer (some ⟨x.xl.d.ab, 0, none⟩), .int .i64 a, .int .i64 (wrap64 (f + 1)), .int .i64 v] w fun e w' => (∃ r, e = .returned (.int .i64 r)) ∧ Hid (HS W w' x ⟨al.a.writeA a (wrap64 (f + 1)) v, al.u⟩ l n ao cap nv c)) := hide ((ls_write (hide (unhide h).ks.st) a (wrap64 (f + 1)) v).mono fun _ _ hh => ⟨⟨_, hh.1⟩, hide ((unhide h).turn hh.2.1 hh.2.2)⟩)
  clear h
  cases tb
  · clear CB
    go_enter Tryz.func37, Tryz.ntmps37
    go_wp2_with fail
    refine (unhide CA).mono ?_
    rintro e w1 ⟨rfl, hw1⟩
    rw [hw1]
    clear hw1 w1 CA
    go_wp2_with fail
    refine (unhide CW).mono ?_
    rintro e w2 ⟨⟨r, rfl⟩, S2⟩
    clear CW
    go_wp2_with fail
    go_end0
    exact ⟨rfl, unhide S2⟩
  · go_enter Tryz.func37, Tryz.ntmps37
    go_wp2_with fail
    refine (unhide CB).mono ?_
    rintro e w1 ⟨rfl, hw1⟩
    rw [hw1]
    clear hw1 w1 CB
    go_wp2_with fail
    refine (unhide CA).mono ?_
    rintro e w1 ⟨rfl, hw1⟩
    rw [hw1]
    clear hw1 w1 CA
    go_wp2_with fail
    refine (unhide CW).mono ?_
    rintro e w2 ⟨⟨r, rfl⟩, S2⟩
    clear CW
    go_wp2_with fail
    go_end0
    exact ⟨rfl, unhide S2⟩
end
end Go.Proofs.YtahhkehijokhnaaGreatDoor

/- Package heap: Of. -/
namespace Go.Proofs.YtahhkehijokhnaaGreatDoor
set_option maxRecDepth 100000
open Go.ChangeShapes Go.WideShapes Go.ChangeAt Go.RowKit Go.Maps Go.Deep

theorem put6 {w w2 : World} {s : Nat} (hs : w.heap.size ≤ s) (g : G w w2) {u0 u1 u2 u3 u4 u5 : Value} (a0 : w2.cell? ⟨s, 0, none⟩ = some u0) (a1 : w2.cell? ⟨s, 1, none⟩ = some u1) (a2 : w2.cell? ⟨s, 2, none⟩ = some u2) (b0 : w2.cell? ⟨s + 1, 0, none⟩ = some u3) (b1 : w2.cell? ⟨s + 1, 1, none⟩ = some u4) (b2 : w2.cell? ⟨s + 1, 2, none⟩ = some u5) (v0 v1 v2 v3 v4 v5 : Value) (Y : World) (hY : Y = (((((w2.setCell ⟨s, 0, none⟩ v0).setCell ⟨s, 1, none⟩ v1).setCell ⟨s, 2, none⟩ v2).setCell ⟨s + 1, 0, none⟩ v3).setCell ⟨s + 1, 1, none⟩ v4).setCell ⟨s + 1, 2, none⟩ v5) :
    Y.cell? ⟨s, 0, none⟩ = some v0 ∧ Y.cell? ⟨s, 1, none⟩ = some v1 ∧ Y.cell? ⟨s, 2, none⟩ = some v2 ∧ Y.cell? ⟨s + 1, 0, none⟩ = some v3 ∧ Y.cell? ⟨s + 1, 1, none⟩ = some v4 ∧ Y.cell? ⟨s + 1, 2, none⟩ = some v5 ∧ G w Y := by
  have e : ∀ (y : World) (i j : Nat) (v u : Value), y.cell? ⟨s, i, none⟩ = some u → (y.setCell ⟨s + 1, j, none⟩ v).cell? ⟨s, i, none⟩ = some u := fun y i j v u h => by rw [cell_other _ (Or.inl (by omega))]; exact h
  have e' : ∀ (y : World) (i j : Nat) (v u : Value), y.cell? ⟨s + 1, i, none⟩ = some u → (y.setCell ⟨s, j, none⟩ v).cell? ⟨s + 1, i, none⟩ = some u := fun y i j v u h => by rw [cell_other _ (Or.inl (by omega))]; exact h
  have o : ∀ (y : World) (b i j : Nat) (v u : Value), i ≠ j → y.cell? ⟨b, i, none⟩ = some u → (y.setCell ⟨b, j, none⟩ v).cell? ⟨b, i, none⟩ = some u := fun y b i j v u hn h => by rw [cell_other _ (Or.inr hn)]; exact h
  have q1 := cell_same v0 a0
  have r1 := o w2 s 1 0 v0 _ (by decide) a1
  have q2 := cell_same v1 r1
  have r2 := o _ s 2 1 v1 _ (by decide) (o w2 s 2 0 v0 _ (by decide) a2)
  have q3 := cell_same v2 r2
  have k0 := o _ s 0 2 v2 _ (by decide) (o _ s 0 1 v1 _ (by decide) q1)
  have k1 := o _ s 1 2 v2 _ (by decide) q2
  have t0 := e' _ 0 2 v2 _ (e' _ 0 1 v1 _ (e' w2 0 0 v0 _ b0))
  have t1 := e' _ 1 2 v2 _ (e' _ 1 1 v1 _ (e' w2 1 0 v0 _ b1))
  have t2 := e' _ 2 2 v2 _ (e' _ 2 1 v1 _ (e' w2 2 0 v0 _ b2))
  have p3 := cell_same v3 t0
  have p4 := cell_same v4 (o _ (s + 1) 1 0 v3 _ (by decide) t1)
  have p5 := cell_same v5 (o _ (s + 1) 2 1 v4 _ (by decide) (o _ (s + 1) 2 0 v3 _ (by decide) t2))
  rw [hY]
  exact ⟨e _ 0 2 v5 _ (e _ 0 1 v4 _ (e _ 0 0 v3 _ k0)), e _ 1 2 v5 _ (e _ 1 1 v4 _ (e _ 1 0 v3 _ k1)), e _ 2 2 v5 _ (e _ 2 1 v4 _ (e _ 2 0 v3 _ q3)), o _ (s + 1) 0 2 v5 _ (by decide) (o _ (s + 1) 0 1 v4 _ (by decide) p3), o _ (s + 1) 1 2 v5 _ (by decide) p4, p5, G.set (G.set (G.set (G.set (G.set (G.set g _ _ hs) _ _ hs) _ _ hs) _ _ (by simp only; omega)) _ _ (by simp only; omega)) _ _ (by simp only; omega)⟩
/-- What an object is. -/
def ofP (al : Al) (l : List Hd.Shp) (a : Int) : Option (Int × Int × Int × Hd.Shp) :=
  if al.a.readE a 0 = 0 then (if Hd.uokB (al.a.readV a 0) = true then (match l[(Hd.up2 (al.a.readV a 0)).toNat]? with
    | some s => some (Hd.up0 (al.a.readV a 0), Hd.up1 (al.a.readV a 0), Hd.up2 (al.a.readV a 0), s)
    | none => none) else none) else none
def ofV : Option (Int × Int × Int × Hd.Shp) → Value
  | none => .tuple #[.agg #[.int .i64 0, .int .i64 0, .int .i64 0], .agg #[.int .i64 0, .int .i64 0, .int .u64 0], .bool false]
  | some (a, b, c, s) => .tuple #[.agg #[.int .i64 a, .int .i64 b, .int .i64 c], .agg #[.int .i64 s.k, .int .i64 s.f, .int .u64 (s.m : Int)], .bool true]
section
variable {W w : World} {x : Hx} {al : Al} {l : List Hd.Shp} {n : Nat} {ao : Option Addr} {cap : Nat} {nv : Value} {c : Nat → Nat}
set_option maxHeartbeats 1000000 in
theorem hb_of (h : Hid (HB W w x al l ao cap)) (a : Int) : Calls Tryz.prog 12 #[.pointer (some ⟨x.hb, 0, none⟩), .int .i64 a] w fun e w' => e = .returned (ofV (ofP al l a)) ∧ G w w' := by
  obtain ⟨W1, hW1⟩ : ∃ W1, W1 = (w.alloc (.cells #[.int .i64 0, .int .i64 0, .int .i64 0] 50)).alloc (.cells #[.int .i64 0, .int .i64 0, .int .u64 0] 37) := ⟨_, rfl⟩
  have g1 : G w W1 := by rw [hW1]; exact ((G.refl w).more _).more _
  have BX : Hid (∀ y, G W1 y → (y.cell? ⟨w.heap.size, 0, none⟩ = some (.int .i64 0) ∧ y.cell? ⟨w.heap.size, 1, none⟩ = some (.int .i64 0) ∧ y.cell? ⟨w.heap.size, 2, none⟩ = some (.int .i64 0) ∧ y.cell? ⟨w.heap.size + 1, 0, none⟩ = some (.int .i64 0) ∧ y.cell? ⟨w.heap.size + 1, 1, none⟩ = some (.int .i64 0) ∧ y.cell? ⟨w.heap.size + 1, 2, none⟩ = some (.int .u64 0)) ∧ (∀ i, y.frozen? ⟨w.heap.size, i, none⟩ = false) ∧ (∀ i, y.frozen? ⟨w.heap.size + 1, i, none⟩ = false)) := hide fun y g => by
    have e0 := heap_alloc_new w (.cells #[.int .i64 0, .int .i64 0, .int .i64 0] 50)
    have e1 := heap_alloc_new (w.alloc (.cells #[.int .i64 0, .int .i64 0, .int .i64 0] 50)) (.cells #[.int .i64 0, .int .i64 0, .int .u64 0] 37)
    rw [World.size_alloc] at e1
    have e0' : W1.heap[w.heap.size]? = some (.cells #[.int .i64 0, .int .i64 0, .int .i64 0] 50) := by rw [hW1]; exact ((G.alloc _ _).block _ (by rw [World.size_alloc]; omega)).trans e0
    rw [← hW1] at e1
    have l0 : w.heap.size < W1.heap.size := by rw [hW1, World.size_alloc, World.size_alloc]; omega
    have l1 : w.heap.size + 1 < W1.heap.size := by rw [hW1, World.size_alloc, World.size_alloc]; omega
    have y0 := (g.block _ l0).trans e0'
    have y1 := (g.block _ l1).trans e1
    refine ⟨⟨?_, ?_, ?_, ?_, ?_, ?_⟩, fun i => by simp [World.frozen?, y0], fun i => by simp [World.frozen?, y1]⟩
    all_goals first | (rw [cell_of_row _ _ _ _ _ _ y0]; rfl) | (rw [cell_of_row _ _ _ _ _ _ y1]; rfl)
  have NO : Hid (∀ (w2 : World), G W1 w2 → ∀ Y, Y = (((((w2.setCell ⟨w.heap.size, 0, none⟩ (.int .i64 0)).setCell ⟨w.heap.size, 1, none⟩ (.int .i64 0)).setCell ⟨w.heap.size, 2, none⟩ (.int .i64 0)).setCell ⟨w.heap.size + 1, 0, none⟩ (.int .i64 0)).setCell ⟨w.heap.size + 1, 1, none⟩ (.int .i64 0)).setCell ⟨w.heap.size + 1, 2, none⟩ (.int .u64 0) → (Y.cell? ⟨w.heap.size, 0, none⟩ = some (.int .i64 0) ∧ Y.cell? ⟨w.heap.size, 1, none⟩ = some (.int .i64 0) ∧ Y.cell? ⟨w.heap.size, 2, none⟩ = some (.int .i64 0) ∧ Y.cell? ⟨w.heap.size + 1, 0, none⟩ = some (.int .i64 0) ∧ Y.cell? ⟨w.heap.size + 1, 1, none⟩ = some (.int .i64 0) ∧ Y.cell? ⟨w.heap.size + 1, 2, none⟩ = some (.int .u64 0)) ∧ G w Y) := hide fun w2 g Y hY => by
    obtain ⟨⟨a0, a1, a2, b0, b1, b2⟩, _⟩ := unhide BX w2 g
    obtain ⟨r0, r1, r2, r3, r4, r5, r6⟩ := put6 (Nat.le_refl _) (g1.trans g) a0 a1 a2 b0 b1 b2 _ _ _ _ _ _ Y hY
    exact ⟨⟨r0, r1, r2, r3, r4, r5⟩, r6⟩
  have HH : Hid (∀ y, G W1 y → HB W y x al l ao cap) := hide fun y g => ((unhide h).gr g1).gr g
  have h0 := (unhide HH W1 (G.refl _)).h0
  have CA := hide (b_arena (hide (unhide HH W1 (G.refl _))))
  have CR := hide (ls_read (hide (unhide HH W1 (G.refl _)).st) a 0)
  obtain ⟨R, hR⟩ : ∃ R, R = ofP al l a := ⟨_, rfl⟩
  rw [← hR]
  unfold ofP at hR
  generalize al.a.readV a 0 = rv at CR hR
  generalize al.a.readE a 0 = re at CR hR
  by_cases hre : re = 0
  rotate_left
  · have hrb : (re != 0) = true := by simpa using hre
    obtain rfl : R = none := by rw [hR, if_neg hre]
    clear hR h HH g1
    go_enter Tryz.func12, Tryz.ntmps12
    go_upto_region 1 with fail
    rw [← hW1]
    clear hW1
    go_wp2_with fail
    refine (unhide CA).mono ?_
    rintro e w1 ⟨rfl, hw1⟩
    rw [hw1]
    clear hw1 w1 CA
    go_wp2_with fail
    refine (unhide CR).mono ?_
    rintro e w2 ⟨rfl, _, g2⟩
    obtain ⟨⟨a0, a1, a2, b0, b1, b2⟩, f0, f1⟩ := unhide BX w2 g2
    have NO2 := hide (unhide NO w2 g2)
    clear CR BX NO g2
    go_wp2_with fail
    obtain ⟨Y, hY⟩ : ∃ Y, Y = (((((w2.setCell ⟨w.heap.size, 0, none⟩ (.int .i64 0)).setCell ⟨w.heap.size, 1, none⟩ (.int .i64 0)).setCell ⟨w.heap.size, 2, none⟩ (.int .i64 0)).setCell ⟨w.heap.size + 1, 0, none⟩ (.int .i64 0)).setCell ⟨w.heap.size + 1, 1, none⟩ (.int .i64 0)).setCell ⟨w.heap.size + 1, 2, none⟩ (.int .u64 0) := ⟨_, rfl⟩
    obtain ⟨⟨y0, y1, y2, y3, y4, y5⟩, gY⟩ := unhide NO2 Y hY
    rw [← hY]
    refine bodyPost_ret (by simp [results, Tryz.results12, go_sem, y0, y1, y2, y3, y4, y5]; try rfl) rfl ?_
    exact ⟨rfl, gY⟩
  subst hre
  rw [if_pos rfl] at hR
  have CU : Hid (∀ y, Calls Tryz.prog 34 #[.int .i64 rv] y fun e w' => e = .returned (.tuple #[.agg #[.int .i64 (Hd.ukV rv (Hd.up0 rv)), .int .i64 (Hd.ukV rv (Hd.up1 rv)), .int .i64 (Hd.ukV rv (Hd.up2 rv))], .int .i64 (Hd.ukE rv)]) ∧ G y w') := hide fun y => Hd.unpack_any rv y
  have GW : Hid (G w W1) := hide g1
  by_cases hu : Hd.uokB rv = true
  rotate_left
  · obtain rfl : R = none := by rw [hR, if_neg hu]
    simp only [Hd.ukV, Hd.ukE, if_neg hu] at CU
    clear hR h HH g1 hu GW
    go_enter Tryz.func12, Tryz.ntmps12
    go_upto_region 1 with fail
    rw [← hW1]
    clear hW1
    go_wp2_with fail
    refine (unhide CA).mono ?_
    rintro e w1 ⟨rfl, hw1⟩
    rw [hw1]
    clear hw1 w1 CA
    go_wp2_with fail
    refine (unhide CR).mono ?_
    rintro e w2 ⟨rfl, _, g2⟩
    replace g2 := hide g2
    clear CR
    go_wp2_with fail
    refine (unhide CU w2).mono ?_
    rintro e w3 ⟨rfl, g3⟩
    go_upto_region 5 with fail
    obtain ⟨w4, hw4⟩ : ∃ w4, w4 = w3.alloc (.cells #[.int .i64 0, .int .i64 0, .int .i64 0] 50) := ⟨_, rfl⟩
    rw [← hw4]
    have g4 : G W1 w4 := ((unhide g2).trans g3).trans (by rw [hw4]; exact G.alloc _ _)
    obtain ⟨⟨a0, a1, a2, b0, b1, b2⟩, f0, f1⟩ := unhide BX w4 g4
    have NO2 := hide (unhide NO w4 g4)
    clear CU BX NO g2 g3 g4 hw4
    go_wp2_with fail
    obtain ⟨Y, hY⟩ : ∃ Y, Y = (((((w4.setCell ⟨w.heap.size, 0, none⟩ (.int .i64 0)).setCell ⟨w.heap.size, 1, none⟩ (.int .i64 0)).setCell ⟨w.heap.size, 2, none⟩ (.int .i64 0)).setCell ⟨w.heap.size + 1, 0, none⟩ (.int .i64 0)).setCell ⟨w.heap.size + 1, 1, none⟩ (.int .i64 0)).setCell ⟨w.heap.size + 1, 2, none⟩ (.int .u64 0) := ⟨_, rfl⟩
    obtain ⟨⟨y0, y1, y2, y3, y4, y5⟩, gY⟩ := unhide NO2 Y hY
    rw [← hY]
    refine bodyPost_ret (by simp [results, Tryz.results12, go_sem, y0, y1, y2, y3, y4, y5]; try rfl) rfl ?_
    exact ⟨rfl, gY⟩
  rw [if_pos hu] at hR
  simp only [Hd.ukV, Hd.ukE, if_pos hu] at CU
  have hu2 : 0 ≤ Hd.up2 rv ∧ Hd.up2 rv < 65536 := by unfold Hd.up2; omega
  obtain ⟨k, hk⟩ : ∃ k : Nat, Hd.up2 rv = (k : Int) := ⟨(Hd.up2 rv).toNat, by omega⟩
  rw [hk] at CU hR
  rw [Int.toNat_natCast] at hR
  generalize Hd.up0 rv = u0 at CU hR
  generalize Hd.up1 rv = u1 at CU hR
  clear hu hu2 hk
  obtain ⟨sk, sf, sm, er, hsh, hok⟩ : ∃ (sk sf : Int) (sm : Nat) (er : Int), (∀ y, G W1 y → Calls Tryz.prog 35 #[.pointer (some ⟨x.b.tb, 0, none⟩), .int .i64 (k : Int)] y fun e w' => e = .returned (.tuple #[.agg #[.int .i64 sk, .int .i64 sf, .int .u64 (sm : Int)], .int .i64 er]) ∧ G y w') ∧ ((er = 0 ∧ R = some (u0, u1, (k : Int), (sk, sf, sm))) ∨ (er = 4 ∧ R = none)) := by
    cases hl : l[k]? with
    | some s => exact ⟨s.k, s.f, s.m, 0, fun y g => Hd.shape_yes y _ _ _ _ _ l (unhide HH y g).tab k s hl, Or.inl ⟨rfl, by rw [hR, hl]; rfl⟩⟩
    | none => exact ⟨0, 0, 0, 4, fun y g => Hd.shape_no y _ _ _ _ _ l (unhide HH y g).tab (k : Int) (Or.inr (by have := List.getElem?_eq_none_iff.1 hl; omega)), Or.inr ⟨rfl, by rw [hR, hl]⟩⟩
  clear hR
  replace hsh := hide hsh
  have TBL : Hid (∀ y, G W1 y → Calls Tryz.prog 25 #[.pointer (some ⟨x.b.cb, 0, none⟩)] y fun e w' => e = .returned (.pointer (some ⟨x.b.tb, 0, none⟩)) ∧ w' = y) := hide fun y g => b_table (hide (unhide HH y g))
  have HB0 : Hid (∀ y, G W1 y → y.cell? ⟨x.hb, 0, none⟩ = some (.pointer (some ⟨x.b.cb, 0, none⟩))) := hide fun y g => (unhide HH y g).h0
  clear h HH g1
  go_enter Tryz.func12, Tryz.ntmps12
  go_upto_region 1 with fail
  rw [← hW1]
  clear hW1
  go_wp2_with fail
  refine (unhide CA).mono ?_
  rintro e w1 ⟨rfl, hw1⟩
  rw [hw1]
  clear hw1 w1 CA
  go_wp2_with fail
  refine (unhide CR).mono ?_
  rintro e w2 ⟨rfl, _, g2⟩
  replace g2 := hide g2
  clear CR
  go_wp2_with fail
  refine (unhide CU w2).mono ?_
  rintro e w3 ⟨rfl, g3⟩
  go_upto_region 5 with fail
  obtain ⟨w4, hw4⟩ : ∃ w4, w4 = w3.alloc (.cells #[.int .i64 u0, .int .i64 u1, .int .i64 (k : Int)] 50) := ⟨_, rfl⟩
  rw [← hw4]
  have g14 : G W1 w4 := ((unhide g2).trans g3).trans (by rw [hw4]; exact G.alloc _ _)
  have UB : Hid (∀ y, G w4 y → y.cell? ⟨w3.heap.size, 0, none⟩ = some (.int .i64 u0) ∧ y.cell? ⟨w3.heap.size, 1, none⟩ = some (.int .i64 u1) ∧ y.cell? ⟨w3.heap.size, 2, none⟩ = some (.int .i64 (k : Int))) := hide fun y g => by
    have e0 : w4.heap[w3.heap.size]? = some (.cells #[.int .i64 u0, .int .i64 u1, .int .i64 (k : Int)] 50) := by rw [hw4]; exact heap_alloc_new w3 _
    exact ⟨g.cell (by rw [cell_of_row _ _ _ _ _ _ e0]; rfl), g.cell (by rw [cell_of_row _ _ _ _ _ _ e0]; rfl), g.cell (by rw [cell_of_row _ _ _ _ _ _ e0]; rfl)⟩
  have NW3 : Hid (w.heap.size + 2 ≤ w3.heap.size) := hide (by
    have q1 := ((unhide g2).trans g3).size
    obtain ⟨⟨_, _, _, b0, _⟩, _⟩ := unhide BX W1 (G.refl _)
    have := World.block_lt_of_cell? W1 _ b0
    simp only at this
    omega)
  replace g14 := hide g14
  clear g2 g3 hw4 CU
  have ERB : Hid ((er != 0) = false ∧ R = some (u0, u1, (k : Int), (sk, sf, sm)) ∨ (er != 0) = true ∧ R = none) := hide (by
    rcases hok with ⟨h1, h2⟩ | ⟨h1, h2⟩
    · subst h1; exact Or.inl ⟨rfl, h2⟩
    · subst h1; exact Or.inr ⟨rfl, h2⟩)
  clear hok
  go_upto_region 7 with fail
  go_cut [8, 10] (fun v8 v10 wx => ∃ sB, v10 = .pointer (some ⟨sB, 0, none⟩) ∧ v8 = .int .i64 er ∧ Hid (w4.heap.size ≤ sB ∧ G w4 wx ∧ wx.cell? ⟨sB, 0, none⟩ = some (.int .i64 sk) ∧ wx.cell? ⟨sB, 1, none⟩ = some (.int .i64 sf) ∧ wx.cell? ⟨sB, 2, none⟩ = some (.int .u64 (sm : Int))))
  case first =>
    have ST : Hid (∀ (y z : World), G w4 y → G (y.alloc (.cells #[.int .i64 0, .int .i64 0, .int .u64 0] 37)) z → z.cell? ⟨y.heap.size, 0, none⟩ = some (.int .i64 0) ∧ z.cell? ⟨y.heap.size, 1, none⟩ = some (.int .i64 0) ∧ z.cell? ⟨y.heap.size, 2, none⟩ = some (.int .u64 0) ∧ (∀ i, z.frozen? ⟨y.heap.size, i, none⟩ = false) ∧ ∀ Y, Y = ((z.setCell ⟨y.heap.size, 0, none⟩ (.int .i64 sk)).setCell ⟨y.heap.size, 1, none⟩ (.int .i64 sf)).setCell ⟨y.heap.size, 2, none⟩ (.int .u64 (sm : Int)) → G w4 Y ∧ (w4.heap.size ≤ y.heap.size ∧ G w4 Y ∧ Y.cell? ⟨y.heap.size, 0, none⟩ = some (.int .i64 sk) ∧ Y.cell? ⟨y.heap.size, 1, none⟩ = some (.int .i64 sf) ∧ Y.cell? ⟨y.heap.size, 2, none⟩ = some (.int .u64 (sm : Int)))) := hide fun y z gy gz => by
      have e0 := (gz.block y.heap.size (by rw [World.size_alloc]; omega)).trans (heap_alloc_new y (.cells #[.int .i64 0, .int .i64 0, .int .u64 0] 37))
      have c0 : z.cell? ⟨y.heap.size, 0, none⟩ = some (.int .i64 0) := by rw [cell_of_row _ _ _ _ _ _ e0]; rfl
      have c1 : z.cell? ⟨y.heap.size, 1, none⟩ = some (.int .i64 0) := by rw [cell_of_row _ _ _ _ _ _ e0]; rfl
      have c2 : z.cell? ⟨y.heap.size, 2, none⟩ = some (.int .u64 0) := by rw [cell_of_row _ _ _ _ _ _ e0]; rfl
      refine ⟨c0, c1, c2, fun i => by simp [World.frozen?, e0], fun Y hY => ?_⟩
      have gs := gy.size
      have gY : G w4 Y := by rw [hY]; exact G.set (G.set (G.set ((gy.more _).trans gz) _ _ gs) _ _ gs) _ _ gs
      have o : ∀ (y' : World) (i j : Nat) (v u : Value), i ≠ j → y'.cell? ⟨y.heap.size, i, none⟩ = some u → (y'.setCell ⟨y.heap.size, j, none⟩ v).cell? ⟨y.heap.size, i, none⟩ = some u := fun y' i j v u hn h => by rw [cell_other _ (Or.inr hn)]; exact h
      have q1 := cell_same (.int .i64 sk) c0
      have q2 := cell_same (.int .i64 sf) (o _ 1 0 (.int .i64 sk) _ (by decide) c1)
      have q3 := cell_same (.int .u64 (sm : Int)) (o _ 2 1 (.int .i64 sf) _ (by decide) (o _ 2 0 (.int .i64 sk) _ (by decide) c2))
      refine ⟨gY, gs, gY, ?_, ?_, ?_⟩
      · rw [hY]; exact o _ 0 2 _ _ (by decide) (o _ 0 1 _ _ (by decide) q1)
      · rw [hY]; exact o _ 1 2 _ _ (by decide) q2
      · rw [hY]; exact q3
    refine wp_region_noPanic ?_
    refine wp_region_held_drew (S := fun y => G w4 y) (by kernel_rfl) (G.drewN w4 1) (fun hHeld => ?_)
    obtain ⟨y1, hy1⟩ : ∃ y, y = w4.drew := ⟨_, rfl⟩
    rw [← hy1] at hHeld ⊢
    clear hy1
    refine wpAnyH_take (i := 0) (v := .pointer (some ⟨x.hb, 0, none⟩)) rfl (by kernel_rfl) (by kernel_rfl) (by kernel_rfl) (fun _ _ _ h => h) (Or.inl ⟨by rfl, fun w hSw => by go_simp⟩) (by assumption) ?_
    try simp only [Act.put, List.getElem_toArray, List.getElem_cons_zero, List.setIfInBounds_toArray, List.set_cons_zero, List.set_cons_succ]
    refine wpAnyH_take (i := 1) (v := .pointer (some ⟨x.hb, 0, none⟩)) rfl (by kernel_rfl) (by kernel_rfl) (by kernel_rfl) (fun _ _ _ h => h) (Or.inl ⟨by rfl, fun w hSw => by go_simp⟩) (by assumption) ?_
    try simp only [Act.put, List.getElem_toArray, List.getElem_cons_succ, List.getElem_cons_zero, List.setIfInBounds_toArray, List.set_cons_zero, List.set_cons_succ]
    refine wpAnyH_take (i := 2) (v := .pointer (some ⟨x.hb, 0, none⟩)) rfl (by kernel_rfl) (by kernel_rfl) (by kernel_rfl) (fun _ _ _ h => h) (Or.inl ⟨by rfl, fun w hSw => by go_simp⟩) (by assumption) ?_
    try simp only [Act.put, List.getElem_toArray, List.getElem_cons_succ, List.getElem_cons_zero, List.setIfInBounds_toArray, List.set_cons_zero, List.set_cons_succ]
    refine wpAnyH_take (i := 3) (v := .pointer (some ⟨x.b.cb, 0, none⟩)) rfl (by kernel_rfl) (by kernel_rfl) (by kernel_rfl) (fun _ _ _ h => h) (Or.inl ⟨by rfl, fun w hSw => by have t0 := unhide HB0 w ((unhide g14).trans hSw); go_simp⟩) (by assumption) ?_
    try simp only [Act.put, List.getElem_toArray, List.getElem_cons_succ, List.getElem_cons_zero, List.setIfInBounds_toArray, List.set_cons_zero, List.set_cons_succ]
    refine wpAnyH_take (i := 5) (v := .pointer (some ⟨w3.heap.size, 2, none⟩)) rfl (by kernel_rfl) (by kernel_rfl) (by kernel_rfl) (fun _ _ _ h => h) (Or.inl ⟨by rfl, fun w hSw => by go_simp⟩) (by assumption) ?_
    try simp only [Act.put, List.getElem_toArray, List.getElem_cons_succ, List.getElem_cons_zero, List.setIfInBounds_toArray, List.set_cons_zero, List.set_cons_succ]
    refine wpAnyH_take (i := 6) (v := .int .i64 (k : Int)) rfl (by kernel_rfl) (by kernel_rfl) (by kernel_rfl) (fun _ _ _ h => h) (Or.inl ⟨by rfl, fun w hSw => by have t0 := (unhide UB w hSw).2.2; go_simp⟩) (by assumption) ?_
    try simp only [Act.put, List.getElem_toArray, List.getElem_cons_succ, List.getElem_cons_zero, List.setIfInBounds_toArray, List.set_cons_zero, List.set_cons_succ]
    refine wpAnyH_ready (rs := [4, 11]) (by kernel_rfl) (by simp) ?_
    refine AllReadyH.cons rfl (fun K hK => ?_) (AllReadyH.cons rfl (fun K hK => ?_) AllReadyH.nil)
    · skip
      go_simp
      refine (unhide TBL y1 ((unhide g14).trans hHeld)).mono ?_
      rintro e w9 ⟨rfl, hw9⟩
      rw [hw9]
      clear hw9 w9
      go_wp2_with fail
      refine hK.out _ _ hHeld (fun hH9 => ?_)
      clear hK K hH9
      try simp only [Act.put, List.getElem_toArray, List.getElem_cons_succ, List.getElem_cons_zero, List.setIfInBounds_toArray, List.set_cons_zero, List.set_cons_succ]
      refine wpAnyH_ready (rs := [7, 11]) (by kernel_rfl) (by simp) ?_
      refine AllReadyH.cons rfl (fun K hK => ?_) (AllReadyH.cons rfl (fun K hK => ?_) AllReadyH.nil)
      · skip
        go_simp
        refine (unhide hsh y1 ((unhide g14).trans hHeld)).mono ?_
        rintro e y2 ⟨rfl, y2g⟩
        go_wp2_with fail
        have hH2 := hHeld.trans y2g
        refine hK.out _ _ hH2 (fun hH9 => ?_)
        clear hK K hH9
        try simp only [Act.put, List.getElem_toArray, List.getElem_cons_succ, List.getElem_cons_zero, List.setIfInBounds_toArray, List.set_cons_zero, List.set_cons_succ]
        refine wpAnyH_take (i := 8) (v := .tuple #[.agg #[.int .i64 sk, .int .i64 sf, .int .u64 (sm : Int)], .int .i64 er]) rfl (by kernel_rfl) (by kernel_rfl) (by kernel_rfl) (fun _ _ _ h => h) (Or.inl ⟨by rfl, fun w hSw => by go_simp⟩) (by assumption) ?_
        try simp only [Act.put, List.getElem_toArray, List.getElem_cons_succ, List.getElem_cons_zero, List.setIfInBounds_toArray, List.set_cons_zero, List.set_cons_succ]
        refine wpAnyH_take (i := 9) (v := .agg #[.int .i64 sk, .int .i64 sf, .int .u64 (sm : Int)]) rfl (by kernel_rfl) (by kernel_rfl) (by kernel_rfl) (fun _ _ _ h => h) (Or.inl ⟨by rfl, fun w hSw => by go_simp⟩) (by assumption) ?_
        try simp only [Act.put, List.getElem_toArray, List.getElem_cons_succ, List.getElem_cons_zero, List.setIfInBounds_toArray, List.set_cons_zero, List.set_cons_succ]
        refine wpAnyH_take (i := 10) (v := .int .i64 er) rfl (by kernel_rfl) (by kernel_rfl) (by kernel_rfl) (fun _ _ _ h => h) (Or.inl ⟨by rfl, fun w hSw => by go_simp⟩) (by assumption) ?_
        try simp only [Act.put, List.getElem_toArray, List.getElem_cons_succ, List.getElem_cons_zero, List.setIfInBounds_toArray, List.set_cons_zero, List.set_cons_succ]
        refine wpAnyH_ready (rs := [11]) (by kernel_rfl) (by simp) ?_
        refine AllReadyH.cons rfl (fun K hK => ?_) AllReadyH.nil
        go_simp
        obtain ⟨y3, hy3⟩ : ∃ z, z = y2.alloc (.cells #[.int .i64 0, .int .i64 0, .int .u64 0] 37) := ⟨_, rfl⟩
        rw [← hy3]
        have y3a : G (y2.alloc (.cells #[.int .i64 0, .int .i64 0, .int .u64 0] 37)) y3 := by rw [hy3]; exact G.refl _
        have hH3 : G w4 y3 := by rw [hy3]; exact hH2.more _
        refine hK.out _ _ hH3 (fun hH9 => ?_)
        clear hK K hH9 hy3
        try simp only [Act.put, List.getElem_toArray, List.getElem_cons_succ, List.getElem_cons_zero, List.setIfInBounds_toArray, List.set_cons_zero, List.set_cons_succ]
        obtain ⟨s0, s1, s2, s3, FIN⟩ := unhide ST y2 y3 hH2 y3a
        replace FIN := hide FIN
        refine wpAnyH_ready (rs := [12]) (by kernel_rfl) (by simp) ?_
        refine AllReadyH.cons rfl (fun K hK => ?_) AllReadyH.nil
        go_simp
        obtain ⟨Y, hY⟩ : ∃ Y, Y = ((y3.setCell ⟨y2.heap.size, 0, none⟩ (.int .i64 sk)).setCell ⟨y2.heap.size, 1, none⟩ (.int .i64 sf)).setCell ⟨y2.heap.size, 2, none⟩ (.int .u64 (sm : Int)) := ⟨_, rfl⟩
        obtain ⟨GY, RY⟩ := unhide FIN Y hY
        rw [← hY]
        refine hK.out _ _ GY (fun hH9 => ?_)
        clear hK K hH9 hY FIN
        try simp only [Act.put, List.getElem_toArray, List.getElem_cons_succ, List.getElem_cons_zero, List.setIfInBounds_toArray, List.set_cons_zero, List.set_cons_succ]
        refine wpAnyH_take (i := 13) (v := .int .i64 er) rfl (by kernel_rfl) (by kernel_rfl) (by kernel_rfl) (fun _ _ _ h => h) (Or.inl ⟨by rfl, fun w hSw => by go_simp⟩) (by assumption) ?_
        try simp only [Act.put, List.getElem_toArray, List.getElem_cons_succ, List.getElem_cons_zero, List.setIfInBounds_toArray, List.set_cons_zero, List.set_cons_succ]
        refine wpAnyH_done (by kernel_rfl) (NoPanic.normal ?_) _
        replace RY := hide RY
        clear s0 s1 s2 s3
        go_wp2_with fail
        go_meet
        exact ⟨y2.heap.size, rfl, rfl, RY⟩
      · skip
        go_simp
        obtain ⟨y2, hy2⟩ : ∃ z, z = y1.alloc (.cells #[.int .i64 0, .int .i64 0, .int .u64 0] 37) := ⟨_, rfl⟩
        rw [← hy2]
        have y2a : G (y1.alloc (.cells #[.int .i64 0, .int .i64 0, .int .u64 0] 37)) y2 := by rw [hy2]; exact G.refl _
        have hH2 : G w4 y2 := by rw [hy2]; exact hHeld.more _
        refine hK.out _ _ hH2 (fun hH9 => ?_)
        clear hK K hH9 hy2
        try simp only [Act.put, List.getElem_toArray, List.getElem_cons_succ, List.getElem_cons_zero, List.setIfInBounds_toArray, List.set_cons_zero, List.set_cons_succ]
        refine wpAnyH_ready (rs := [7]) (by kernel_rfl) (by simp) ?_
        refine AllReadyH.cons rfl (fun K hK => ?_) AllReadyH.nil
        go_simp
        refine (unhide hsh y2 ((unhide g14).trans hH2)).mono ?_
        rintro e y3 ⟨rfl, y3g⟩
        go_wp2_with fail
        have hH3 := hH2.trans y3g
        refine hK.out _ _ hH3 (fun hH9 => ?_)
        clear hK K hH9
        try simp only [Act.put, List.getElem_toArray, List.getElem_cons_succ, List.getElem_cons_zero, List.setIfInBounds_toArray, List.set_cons_zero, List.set_cons_succ]
        refine wpAnyH_take (i := 8) (v := .tuple #[.agg #[.int .i64 sk, .int .i64 sf, .int .u64 (sm : Int)], .int .i64 er]) rfl (by kernel_rfl) (by kernel_rfl) (by kernel_rfl) (fun _ _ _ h => h) (Or.inl ⟨by rfl, fun w hSw => by go_simp⟩) (by assumption) ?_
        try simp only [Act.put, List.getElem_toArray, List.getElem_cons_succ, List.getElem_cons_zero, List.setIfInBounds_toArray, List.set_cons_zero, List.set_cons_succ]
        refine wpAnyH_take (i := 9) (v := .agg #[.int .i64 sk, .int .i64 sf, .int .u64 (sm : Int)]) rfl (by kernel_rfl) (by kernel_rfl) (by kernel_rfl) (fun _ _ _ h => h) (Or.inl ⟨by rfl, fun w hSw => by go_simp⟩) (by assumption) ?_
        try simp only [Act.put, List.getElem_toArray, List.getElem_cons_succ, List.getElem_cons_zero, List.setIfInBounds_toArray, List.set_cons_zero, List.set_cons_succ]
        refine wpAnyH_take (i := 10) (v := .int .i64 er) rfl (by kernel_rfl) (by kernel_rfl) (by kernel_rfl) (fun _ _ _ h => h) (Or.inl ⟨by rfl, fun w hSw => by go_simp⟩) (by assumption) ?_
        try simp only [Act.put, List.getElem_toArray, List.getElem_cons_succ, List.getElem_cons_zero, List.setIfInBounds_toArray, List.set_cons_zero, List.set_cons_succ]
        obtain ⟨s0, s1, s2, s3, FIN⟩ := unhide ST y1 y3 hHeld (y2a.trans y3g)
        replace FIN := hide FIN
        refine wpAnyH_ready (rs := [12]) (by kernel_rfl) (by simp) ?_
        refine AllReadyH.cons rfl (fun K hK => ?_) AllReadyH.nil
        go_simp
        obtain ⟨Y, hY⟩ : ∃ Y, Y = ((y3.setCell ⟨y1.heap.size, 0, none⟩ (.int .i64 sk)).setCell ⟨y1.heap.size, 1, none⟩ (.int .i64 sf)).setCell ⟨y1.heap.size, 2, none⟩ (.int .u64 (sm : Int)) := ⟨_, rfl⟩
        obtain ⟨GY, RY⟩ := unhide FIN Y hY
        rw [← hY]
        refine hK.out _ _ GY (fun hH9 => ?_)
        clear hK K hH9 hY FIN
        try simp only [Act.put, List.getElem_toArray, List.getElem_cons_succ, List.getElem_cons_zero, List.setIfInBounds_toArray, List.set_cons_zero, List.set_cons_succ]
        refine wpAnyH_take (i := 13) (v := .int .i64 er) rfl (by kernel_rfl) (by kernel_rfl) (by kernel_rfl) (fun _ _ _ h => h) (Or.inl ⟨by rfl, fun w hSw => by go_simp⟩) (by assumption) ?_
        try simp only [Act.put, List.getElem_toArray, List.getElem_cons_succ, List.getElem_cons_zero, List.setIfInBounds_toArray, List.set_cons_zero, List.set_cons_succ]
        refine wpAnyH_done (by kernel_rfl) (NoPanic.normal ?_) _
        replace RY := hide RY
        clear s0 s1 s2 s3
        go_wp2_with fail
        go_meet
        exact ⟨y1.heap.size, rfl, rfl, RY⟩
    · skip
      go_simp
      obtain ⟨y2, hy2⟩ : ∃ z, z = y1.alloc (.cells #[.int .i64 0, .int .i64 0, .int .u64 0] 37) := ⟨_, rfl⟩
      rw [← hy2]
      have y2a : G (y1.alloc (.cells #[.int .i64 0, .int .i64 0, .int .u64 0] 37)) y2 := by rw [hy2]; exact G.refl _
      have hH2 : G w4 y2 := by rw [hy2]; exact hHeld.more _
      refine hK.out _ _ hH2 (fun hH9 => ?_)
      clear hK K hH9 hy2
      try simp only [Act.put, List.getElem_toArray, List.getElem_cons_succ, List.getElem_cons_zero, List.setIfInBounds_toArray, List.set_cons_zero, List.set_cons_succ]
      refine wpAnyH_ready (rs := [4]) (by kernel_rfl) (by simp) ?_
      refine AllReadyH.cons rfl (fun K hK => ?_) AllReadyH.nil
      go_simp
      refine (unhide TBL y2 ((unhide g14).trans hH2)).mono ?_
      rintro e w9 ⟨rfl, hw9⟩
      rw [hw9]
      clear hw9 w9
      go_wp2_with fail
      refine hK.out _ _ hH2 (fun hH9 => ?_)
      clear hK K hH9
      try simp only [Act.put, List.getElem_toArray, List.getElem_cons_succ, List.getElem_cons_zero, List.setIfInBounds_toArray, List.set_cons_zero, List.set_cons_succ]
      refine wpAnyH_ready (rs := [7]) (by kernel_rfl) (by simp) ?_
      refine AllReadyH.cons rfl (fun K hK => ?_) AllReadyH.nil
      go_simp
      refine (unhide hsh y2 ((unhide g14).trans hH2)).mono ?_
      rintro e y3 ⟨rfl, y3g⟩
      go_wp2_with fail
      have hH3 := hH2.trans y3g
      refine hK.out _ _ hH3 (fun hH9 => ?_)
      clear hK K hH9
      try simp only [Act.put, List.getElem_toArray, List.getElem_cons_succ, List.getElem_cons_zero, List.setIfInBounds_toArray, List.set_cons_zero, List.set_cons_succ]
      refine wpAnyH_take (i := 8) (v := .tuple #[.agg #[.int .i64 sk, .int .i64 sf, .int .u64 (sm : Int)], .int .i64 er]) rfl (by kernel_rfl) (by kernel_rfl) (by kernel_rfl) (fun _ _ _ h => h) (Or.inl ⟨by rfl, fun w hSw => by go_simp⟩) (by assumption) ?_
      try simp only [Act.put, List.getElem_toArray, List.getElem_cons_succ, List.getElem_cons_zero, List.setIfInBounds_toArray, List.set_cons_zero, List.set_cons_succ]
      refine wpAnyH_take (i := 9) (v := .agg #[.int .i64 sk, .int .i64 sf, .int .u64 (sm : Int)]) rfl (by kernel_rfl) (by kernel_rfl) (by kernel_rfl) (fun _ _ _ h => h) (Or.inl ⟨by rfl, fun w hSw => by go_simp⟩) (by assumption) ?_
      try simp only [Act.put, List.getElem_toArray, List.getElem_cons_succ, List.getElem_cons_zero, List.setIfInBounds_toArray, List.set_cons_zero, List.set_cons_succ]
      refine wpAnyH_take (i := 10) (v := .int .i64 er) rfl (by kernel_rfl) (by kernel_rfl) (by kernel_rfl) (fun _ _ _ h => h) (Or.inl ⟨by rfl, fun w hSw => by go_simp⟩) (by assumption) ?_
      try simp only [Act.put, List.getElem_toArray, List.getElem_cons_succ, List.getElem_cons_zero, List.setIfInBounds_toArray, List.set_cons_zero, List.set_cons_succ]
      obtain ⟨s0, s1, s2, s3, FIN⟩ := unhide ST y1 y3 hHeld (y2a.trans y3g)
      replace FIN := hide FIN
      refine wpAnyH_ready (rs := [12]) (by kernel_rfl) (by simp) ?_
      refine AllReadyH.cons rfl (fun K hK => ?_) AllReadyH.nil
      go_simp
      obtain ⟨Y, hY⟩ : ∃ Y, Y = ((y3.setCell ⟨y1.heap.size, 0, none⟩ (.int .i64 sk)).setCell ⟨y1.heap.size, 1, none⟩ (.int .i64 sf)).setCell ⟨y1.heap.size, 2, none⟩ (.int .u64 (sm : Int)) := ⟨_, rfl⟩
      obtain ⟨GY, RY⟩ := unhide FIN Y hY
      rw [← hY]
      refine hK.out _ _ GY (fun hH9 => ?_)
      clear hK K hH9 hY FIN
      try simp only [Act.put, List.getElem_toArray, List.getElem_cons_succ, List.getElem_cons_zero, List.setIfInBounds_toArray, List.set_cons_zero, List.set_cons_succ]
      refine wpAnyH_take (i := 13) (v := .int .i64 er) rfl (by kernel_rfl) (by kernel_rfl) (by kernel_rfl) (fun _ _ _ h => h) (Or.inl ⟨by rfl, fun w hSw => by go_simp⟩) (by assumption) ?_
      try simp only [Act.put, List.getElem_toArray, List.getElem_cons_succ, List.getElem_cons_zero, List.setIfInBounds_toArray, List.set_cons_zero, List.set_cons_succ]
      refine wpAnyH_done (by kernel_rfl) (NoPanic.normal ?_) _
      replace RY := hide RY
      clear s0 s1 s2 s3
      go_wp2_with fail
      go_meet
      exact ⟨y1.heap.size, rfl, rfl, RY⟩
  case rest =>
    obtain ⟨sB, rfl, rfl, HC⟩ := hcut
    obtain ⟨⟨a0, a1, a2, b0, b1, b2⟩, f0, f1⟩ := unhide BX wc ((unhide g14).trans (unhide HC).2.1)
    rcases unhide ERB with ⟨he, rfl⟩ | ⟨he, rfl⟩
    rotate_left
    · have NO2 := hide (unhide NO wc ((unhide g14).trans (unhide HC).2.1))
      clear BX NO ERB TBL HB0 hsh UB HC
      go_wp2_with fail
      obtain ⟨Y, hY⟩ : ∃ Y, Y = (((((wc.setCell ⟨w.heap.size, 0, none⟩ (.int .i64 0)).setCell ⟨w.heap.size, 1, none⟩ (.int .i64 0)).setCell ⟨w.heap.size, 2, none⟩ (.int .i64 0)).setCell ⟨w.heap.size + 1, 0, none⟩ (.int .i64 0)).setCell ⟨w.heap.size + 1, 1, none⟩ (.int .i64 0)).setCell ⟨w.heap.size + 1, 2, none⟩ (.int .u64 0) := ⟨_, rfl⟩
      obtain ⟨⟨y0, y1, y2, y3, y4, y5⟩, gY⟩ := unhide NO2 Y hY
      rw [← hY]
      refine bodyPost_ret (by simp [results, Tryz.results12, go_sem, y0, y1, y2, y3, y4, y5]; try rfl) rfl ?_
      exact ⟨rfl, gY⟩
    · obtain ⟨q0, q1, q2⟩ := unhide UB wc (unhide HC).2.1
      obtain ⟨lB, _, r0, r1, r2⟩ := unhide HC
      have hlt0 : w.heap.size < wc.heap.size := World.block_lt_of_cell? wc _ a0
      have hlt1 : w.heap.size + 1 < wc.heap.size := World.block_lt_of_cell? wc _ b0
      have YES : Hid ((((((((wc.setCell ⟨w.heap.size, 0, none⟩ (.int .i64 u0)).setCell ⟨w.heap.size, 1, none⟩ (.int .i64 u1)).setCell ⟨w.heap.size, 2, none⟩ (.int .i64 (k : Int))).setCell ⟨w.heap.size + 1, 0, none⟩ (.int .i64 sk)).setCell ⟨w.heap.size + 1, 1, none⟩ (.int .i64 sf)).setCell ⟨w.heap.size + 1, 2, none⟩ (.int .u64 (sm : Int))).drew.cell? ⟨w.heap.size, 0, none⟩ = some (.int .i64 u0) ∧ ((((((wc.setCell ⟨w.heap.size, 0, none⟩ (.int .i64 u0)).setCell ⟨w.heap.size, 1, none⟩ (.int .i64 u1)).setCell ⟨w.heap.size, 2, none⟩ (.int .i64 (k : Int))).setCell ⟨w.heap.size + 1, 0, none⟩ (.int .i64 sk)).setCell ⟨w.heap.size + 1, 1, none⟩ (.int .i64 sf)).setCell ⟨w.heap.size + 1, 2, none⟩ (.int .u64 (sm : Int))).drew.cell? ⟨w.heap.size, 1, none⟩ = some (.int .i64 u1) ∧ ((((((wc.setCell ⟨w.heap.size, 0, none⟩ (.int .i64 u0)).setCell ⟨w.heap.size, 1, none⟩ (.int .i64 u1)).setCell ⟨w.heap.size, 2, none⟩ (.int .i64 (k : Int))).setCell ⟨w.heap.size + 1, 0, none⟩ (.int .i64 sk)).setCell ⟨w.heap.size + 1, 1, none⟩ (.int .i64 sf)).setCell ⟨w.heap.size + 1, 2, none⟩ (.int .u64 (sm : Int))).drew.cell? ⟨w.heap.size, 2, none⟩ = some (.int .i64 (k : Int)) ∧ ((((((wc.setCell ⟨w.heap.size, 0, none⟩ (.int .i64 u0)).setCell ⟨w.heap.size, 1, none⟩ (.int .i64 u1)).setCell ⟨w.heap.size, 2, none⟩ (.int .i64 (k : Int))).setCell ⟨w.heap.size + 1, 0, none⟩ (.int .i64 sk)).setCell ⟨w.heap.size + 1, 1, none⟩ (.int .i64 sf)).setCell ⟨w.heap.size + 1, 2, none⟩ (.int .u64 (sm : Int))).drew.cell? ⟨w.heap.size + 1, 0, none⟩ = some (.int .i64 sk) ∧ ((((((wc.setCell ⟨w.heap.size, 0, none⟩ (.int .i64 u0)).setCell ⟨w.heap.size, 1, none⟩ (.int .i64 u1)).setCell ⟨w.heap.size, 2, none⟩ (.int .i64 (k : Int))).setCell ⟨w.heap.size + 1, 0, none⟩ (.int .i64 sk)).setCell ⟨w.heap.size + 1, 1, none⟩ (.int .i64 sf)).setCell ⟨w.heap.size + 1, 2, none⟩ (.int .u64 (sm : Int))).drew.cell? ⟨w.heap.size + 1, 1, none⟩ = some (.int .i64 sf) ∧ ((((((wc.setCell ⟨w.heap.size, 0, none⟩ (.int .i64 u0)).setCell ⟨w.heap.size, 1, none⟩ (.int .i64 u1)).setCell ⟨w.heap.size, 2, none⟩ (.int .i64 (k : Int))).setCell ⟨w.heap.size + 1, 0, none⟩ (.int .i64 sk)).setCell ⟨w.heap.size + 1, 1, none⟩ (.int .i64 sf)).setCell ⟨w.heap.size + 1, 2, none⟩ (.int .u64 (sm : Int))).drew.cell? ⟨w.heap.size + 1, 2, none⟩ = some (.int .u64 (sm : Int))) ∧ G w ((((((wc.setCell ⟨w.heap.size, 0, none⟩ (.int .i64 u0)).setCell ⟨w.heap.size, 1, none⟩ (.int .i64 u1)).setCell ⟨w.heap.size, 2, none⟩ (.int .i64 (k : Int))).setCell ⟨w.heap.size + 1, 0, none⟩ (.int .i64 sk)).setCell ⟨w.heap.size + 1, 1, none⟩ (.int .i64 sf)).setCell ⟨w.heap.size + 1, 2, none⟩ (.int .u64 (sm : Int))).drew) := hide (by
        obtain ⟨Y, hY⟩ : ∃ Y, Y = (((((wc.setCell ⟨w.heap.size, 0, none⟩ (.int .i64 u0)).setCell ⟨w.heap.size, 1, none⟩ (.int .i64 u1)).setCell ⟨w.heap.size, 2, none⟩ (.int .i64 (k : Int))).setCell ⟨w.heap.size + 1, 0, none⟩ (.int .i64 sk)).setCell ⟨w.heap.size + 1, 1, none⟩ (.int .i64 sf)).setCell ⟨w.heap.size + 1, 2, none⟩ (.int .u64 (sm : Int)) := ⟨_, rfl⟩
        obtain ⟨z0, z1, z2, z3, z4, z5, z6⟩ := put6 (Nat.le_refl _) ((unhide GW).trans ((unhide g14).trans (unhide HC).2.1)) a0 a1 a2 b0 b1 b2 _ _ _ _ _ _ Y hY
        rw [← hY]
        exact ⟨⟨z0, z1, z2, z3, z4, z5⟩, z6.drew⟩)
      have nB0 : w3.heap.size ≠ w.heap.size := by have := unhide NW3; omega
      have nB1 : w3.heap.size ≠ w.heap.size + 1 := by have := unhide NW3; omega
      have gs4 := (unhide g14).size
      have hs3 : w3.heap.size < w4.heap.size := by
        obtain ⟨p0, _⟩ := unhide UB w4 (G.refl _)
        exact World.block_lt_of_cell? w4 _ p0
      have nC0 : sB ≠ w.heap.size := by have := unhide NW3; omega
      have nC1 : sB ≠ w.heap.size + 1 := by have := unhide NW3; omega
      clear BX NO ERB TBL HB0 hsh UB HC lB gs4 hs3
      go_upto_region 10 with fail
      go_cut [6] (fun v6 wx => v6 = .bool true ∧ Hid ((wx.cell? ⟨w.heap.size, 0, none⟩ = some (.int .i64 u0) ∧ wx.cell? ⟨w.heap.size, 1, none⟩ = some (.int .i64 u1) ∧ wx.cell? ⟨w.heap.size, 2, none⟩ = some (.int .i64 (k : Int)) ∧ wx.cell? ⟨w.heap.size + 1, 0, none⟩ = some (.int .i64 sk) ∧ wx.cell? ⟨w.heap.size + 1, 1, none⟩ = some (.int .i64 sf) ∧ wx.cell? ⟨w.heap.size + 1, 2, none⟩ = some (.int .u64 (sm : Int))) ∧ G w wx))
      case first =>
        go_region
        all_goals
          go_wp2_with fail
          go_meet
          exact ⟨rfl, YES⟩
      case rest =>
        obtain ⟨rfl, HE⟩ := hcut
        obtain ⟨⟨y0, y1, y2, y3, y4, y5⟩, gY⟩ := unhide HE
        go_wp2_with fail
        refine bodyPost_ret (by simp [results, Tryz.results12, go_sem, y0, y1, y2, y3, y4, y5]; try rfl) rfl ?_
        exact ⟨rfl, gY⟩
theorem h_of (h : Hid (HS W w x al l n ao cap nv c)) (a : Int) : Calls Tryz.prog 12 #[.pointer (some ⟨x.hb, 0, none⟩), .int .i64 a] w fun e w' => e = .returned (ofV (ofP al l a)) ∧ G w w' :=
  hb_of (hide (unhide h).hB) a
end
end Go.Proofs.YtahhkehijokhnaaGreatDoor

/- Package heap: Get, At, Len, Set, Put. -/
namespace Go.Proofs.YtahhkehijokhnaaGreatDoor
set_option maxRecDepth 100000
open Go.ChangeShapes Go.WideShapes Go.ChangeAt Go.RowKit Go.Maps Go.Deep

theorem ofP_some {al : Al} {l : List Hd.Shp} {a wd kd nm : Int} {s : Hd.Shp} (h : ofP al l a = some (wd, kd, nm, s)) : (1 ≤ wd ∧ wd ≤ 64) ∧ s ∈ l := by
  unfold ofP at h
  split at h
  · split at h
    · rename_i hu
      split at h
      · rename_i s' hs
        simp only [Option.some.injEq, Prod.mk.injEq] at h
        obtain ⟨rfl, rfl, rfl, rfl⟩ := h
        refine ⟨?_, List.mem_of_getElem? hs⟩
        unfold Hd.uokB Hd.hokB Hd.inB at hu
        simp at hu
        omega
      · cases h
    · cases h
  · cases h
def getT (al : Al) (l : List Hd.Shp) (a f : Int) (ad : Bool) : Int × Int := match ofP al l a with
  | none => (0, 1)
  | some (wd, kd, _, s) => if kd = 0 ∧ hfB wd s.f f = true ∧ Hd.holdsB s.k s.m f wd = ad then rdT al a f 1 else (0, 1)
def atT (al : Al) (l : List Hd.Shp) (a i : Int) (ad : Bool) : Int × Int := match ofP al l a with
  | none => (0, 1)
  | some (wd, kd, _, s) => if kd = 1 ∧ Hd.holdsB s.k s.m 0 2 = ad then (if i < 0 ∨ wd - 1 ≤ i then (0, 2) else rdT al a i 2) else (0, 1)
def lenT (al : Al) (l : List Hd.Shp) (a : Int) : Int × Int := match ofP al l a with
  | none => (0, 1)
  | some (wd, kd, _, _) => if kd = 1 then (wd - 1, 0) else (0, 1)
theorem two_box (w1 : World) (wd kd nm sk sf : Int) (sm : Nat) (W2 : World) (hW2 : W2 = (w1.alloc (.cells #[.int .i64 wd, .int .i64 kd, .int .i64 nm] 50)).alloc (.cells #[.int .i64 sk, .int .i64 sf, .int .u64 (sm : Int)] 37)) : G w1 W2 ∧ ∀ y, G W2 y → (y.cell? ⟨w1.heap.size, 0, none⟩ = some (.int .i64 wd) ∧ y.cell? ⟨w1.heap.size, 1, none⟩ = some (.int .i64 kd) ∧ y.cell? ⟨w1.heap.size, 2, none⟩ = some (.int .i64 nm)) ∧ (y.cell? ⟨w1.heap.size + 1, 0, none⟩ = some (.int .i64 sk) ∧ y.cell? ⟨w1.heap.size + 1, 1, none⟩ = some (.int .i64 sf) ∧ y.cell? ⟨w1.heap.size + 1, 2, none⟩ = some (.int .u64 (sm : Int))) := by
  refine ⟨by rw [hW2]; exact ((G.refl w1).more _).more _, fun y g => ⟨⟨g.cell ?_, g.cell ?_, g.cell ?_⟩, ⟨g.cell ?_, g.cell ?_, g.cell ?_⟩⟩⟩
  all_goals (rw [hW2]; simp [go_sem])
section
variable {W w : World} {x : Hx} {al : Al} {l : List Hd.Shp} {n : Nat} {ao : Option Addr} {cap : Nat} {nv : Value} {c : Nat → Nat}
set_option maxHeartbeats 1000000 in
theorem hb_len (h : Hid (HB W w x al l ao cap)) (a : Int) : Calls Tryz.prog 22 #[.pointer (some ⟨x.hb, 0, none⟩), .int .i64 a] w fun e w' => e = .returned (.tuple #[.int .i64 (lenT al l a).1, .int .i64 (lenT al l a).2]) ∧ G w w' := by
  have CO := hide (hb_of h a)
  obtain ⟨T, hT⟩ : ∃ T, T = lenT al l a := ⟨_, rfl⟩
  rw [← hT]
  unfold lenT at hT
  cases hq : ofP al l a with
  | none =>
    rw [hq] at CO hT
    simp only [ofV] at CO
    subst hT
    clear h hq
    go_enter Tryz.func22, Tryz.ntmps22
    go_wp2_with fail
    refine (unhide CO).mono ?_
    rintro e w1 ⟨rfl, g1⟩
    go_upto_region 2 with fail
    obtain ⟨W2, hW2⟩ : ∃ W2, W2 = (w1.alloc (.cells #[.int .i64 0, .int .i64 0, .int .i64 0] 50)).alloc (.cells #[.int .i64 0, .int .i64 0, .int .u64 0] 37) := ⟨_, rfl⟩
    rw [← hW2]
    have GF := hide (g1.trans (show G w1 W2 by rw [hW2]; exact ((G.refl w1).more _).more _))
    clear hW2 CO g1
    go_wp2_with fail
    go_ret2
    exact ⟨rfl, unhide GF⟩
  | some q =>
    obtain ⟨wd, kd, nm, sh⟩ := q
    obtain ⟨⟨hw1, hw2⟩, hmem⟩ := ofP_some hq
    have hfit := (unhide h).tab.fit sh hmem
    rw [hq] at CO hT
    simp only [ofV] at CO hT
    have hm64 : sh.m < 18446744073709551616 := hfit.m0
    obtain ⟨sk, hsk⟩ : ∃ sk, sk = sh.k := ⟨_, rfl⟩
    obtain ⟨sf, hsf⟩ : ∃ sf, sf = sh.f := ⟨_, rfl⟩
    obtain ⟨sm, hsm⟩ : ∃ sm, sm = sh.m := ⟨_, rfl⟩
    rw [← hsk, ← hsf, ← hsm] at CO
    rw [← hsm] at hm64

    clear hsk hsf hsm hfit hmem hq
    replace hT := hide hT
    have HH : Hid (∀ y, G w y → HB W y x al l ao cap) := hide fun y g => (unhide h).gr g
    clear h
    go_enter Tryz.func22, Tryz.ntmps22
    go_wp2_with fail
    refine (unhide CO).mono ?_
    rintro e w1 ⟨rfl, g1⟩
    go_upto_region 2 with fail
    obtain ⟨W2, hW2⟩ : ∃ W2, W2 = (w1.alloc (.cells #[.int .i64 wd, .int .i64 kd, .int .i64 nm] 50)).alloc (.cells #[.int .i64 sk, .int .i64 sf, .int .u64 (sm : Int)] 37) := ⟨_, rfl⟩
    rw [← hW2]
    obtain ⟨gq, BQ⟩ := two_box w1 wd kd nm sk sf sm W2 hW2
    have GF := hide (g1.trans gq)
    replace BQ := hide BQ
    obtain ⟨⟨a0, a1, a2⟩, ⟨b0, b1, b2⟩⟩ := unhide BQ W2 (G.refl _)
    clear hW2 CO g1 gq
    have CF := hide (hp_fields W2 wd kd nm ⟨hw1, hw2⟩)
    clear hw1 hw2 hm64 HH
    by_cases hk : kd = 1
    · obtain rfl : T = (wd - 1, 0) := (unhide hT).trans (if_pos hk)
      have hkb : (kd != 1) = false := by simpa using hk
      clear hT hk
      go_wp2_with fail
      refine (unhide CF).mono ?_
      rintro e w3 ⟨rfl, g3⟩
      have GE := hide ((unhide GF).trans g3)
      clear CF g3
      go_wp2_with fail
      go_ret2
      exact ⟨rfl, unhide GE⟩
    · obtain rfl : T = (0, 1) := (unhide hT).trans (if_neg hk)
      have hkb : (kd != 1) = true := by simpa using hk
      clear hT CF hk
      go_wp2_with fail
      go_ret2
      exact ⟨rfl, unhide GF⟩
theorem h_len (h : Hid (HS W w x al l n ao cap nv c)) (a : Int) : Calls Tryz.prog 22 #[.pointer (some ⟨x.hb, 0, none⟩), .int .i64 a] w fun e w' => e = .returned (.tuple #[.int .i64 (lenT al l a).1, .int .i64 (lenT al l a).2]) ∧ G w w' :=
  hb_len (hide (unhide h).hB) a
set_option maxHeartbeats 1000000 in
theorem hb_get (h : Hid (HB W w x al l ao cap)) (a f : Int) (ad : Bool) : Calls Tryz.prog 20 #[.pointer (some ⟨x.hb, 0, none⟩), .int .i64 a, .int .i64 f, .bool ad] w fun e w' => e = .returned (.tuple #[.int .i64 (getT al l a f ad).1, .int .i64 (getT al l a f ad).2]) ∧ G w w' := by
  have CO := hide (hb_of h a)
  obtain ⟨T, hT⟩ : ∃ T, T = getT al l a f ad := ⟨_, rfl⟩
  rw [← hT]
  unfold getT at hT
  cases hq : ofP al l a with
  | none =>
    rw [hq] at CO hT
    simp only [ofV] at CO
    subst hT
    clear h hq
    go_enter Tryz.func20, Tryz.ntmps20
    go_wp2_with fail
    refine (unhide CO).mono ?_
    rintro e w1 ⟨rfl, g1⟩
    go_upto_region 2 with fail
    obtain ⟨W2, hW2⟩ : ∃ W2, W2 = (w1.alloc (.cells #[.int .i64 0, .int .i64 0, .int .i64 0] 50)).alloc (.cells #[.int .i64 0, .int .i64 0, .int .u64 0] 37) := ⟨_, rfl⟩
    rw [← hW2]
    have GF := hide (g1.trans (show G w1 W2 by rw [hW2]; exact ((G.refl w1).more _).more _))
    clear hW2 CO g1
    go_wp2_with fail
    go_ret2
    exact ⟨rfl, unhide GF⟩
  | some q =>
    obtain ⟨wd, kd, nm, sh⟩ := q
    obtain ⟨⟨hw1, hw2⟩, hmem⟩ := ofP_some hq
    have hfit := (unhide h).tab.fit sh hmem
    rw [hq] at CO hT
    simp only [ofV] at CO hT
    have hm64 : sh.m < 18446744073709551616 := hfit.m0
    obtain ⟨sk, hsk⟩ : ∃ sk, sk = sh.k := ⟨_, rfl⟩
    obtain ⟨sf, hsf⟩ : ∃ sf, sf = sh.f := ⟨_, rfl⟩
    obtain ⟨sm, hsm⟩ : ∃ sm, sm = sh.m := ⟨_, rfl⟩
    rw [← hsk, ← hsf, ← hsm] at CO
    rw [← hsm] at hm64
    rw [← hsk, ← hsf, ← hsm] at hT
    clear hsk hsf hsm hfit hmem hq
    replace hT := hide hT
    have HH : Hid (∀ y, G w y → HB W y x al l ao cap) := hide fun y g => (unhide h).gr g
    clear h
    go_enter Tryz.func20, Tryz.ntmps20
    go_wp2_with fail
    refine (unhide CO).mono ?_
    rintro e w1 ⟨rfl, g1⟩
    go_upto_region 2 with fail
    obtain ⟨W2, hW2⟩ : ∃ W2, W2 = (w1.alloc (.cells #[.int .i64 wd, .int .i64 kd, .int .i64 nm] 50)).alloc (.cells #[.int .i64 sk, .int .i64 sf, .int .u64 (sm : Int)] 37) := ⟨_, rfl⟩
    rw [← hW2]
    obtain ⟨gq, BQ⟩ := two_box w1 wd kd nm sk sf sm W2 hW2
    have GF := hide (g1.trans gq)
    replace BQ := hide BQ
    obtain ⟨⟨a0, a1, a2⟩, ⟨b0, b1, b2⟩⟩ := unhide BQ W2 (G.refl _)
    clear hW2 CO g1 gq
    have CH := hide (hp_has W2 wd kd nm sk sf (sm : Int) f ⟨hw1, hw2⟩)
    have CD := hide (fun y => Hd.holds_any sk sf sm f wd y hm64 (by omega))
    have CR := hide (fun y g => hb_read (hide (unhide HH y g)) a f 1)
    clear hw1 hw2 hm64 HH
    generalize hfB wd sf f = hb at CH hT
    generalize Hd.holdsB sk sm f wd = ho at CD hT
    by_cases hk : kd = 0
    rotate_left
    · obtain rfl : T = (0, 1) := (unhide hT).trans (if_neg (fun e => hk e.1))
      have hkb : (kd != 0) = true := by simpa using hk
      clear hT CH CD CR hk
      go_wp2_with fail
      go_ret2
      exact ⟨rfl, unhide GF⟩
    have hkb : (kd != 0) = false := by simpa using hk
    replace hk := hide hk
    go_wp2_with fail
    refine (unhide CH).mono ?_
    rintro e w3 ⟨rfl, g3⟩
    obtain ⟨⟨c0, c1, c2⟩, ⟨d0, d1, d2⟩⟩ := unhide BQ w3 g3
    have GE := hide ((unhide GF).trans g3)
    clear CH g3 a0 a1 a2 b0 b1 b2
    cases hb
    · obtain rfl : T = (0, 1) := (unhide hT).trans (if_neg (fun e => by cases e.2.1))
      clear hT CD CR
      go_wp2_with fail
      go_ret2
      exact ⟨rfl, unhide GE⟩
    go_wp2_with fail
    refine (unhide CD w3).mono ?_
    rintro e w4 ⟨rfl, g4⟩
    have GD := hide ((unhide GE).trans g4)
    clear CD g4 c0 c1 c2 d0 d1 d2
    by_cases ha : ho = ad
    rotate_left
    · obtain rfl : T = (0, 1) := (unhide hT).trans (if_neg (fun e => ha e.2.2))
      have hab : (ho == ad) = false := beq_eq_false_iff_ne.2 ha
      clear hT CR ha
      go_wp2_with fail
      go_ret2
      exact ⟨rfl, unhide GD⟩
    have hTT : T = rdT al a f 1 := (unhide hT).trans (if_pos ⟨unhide hk, (by first | rfl | trivial), ha⟩)
    replace CR := hide (fun y g => by have := unhide CR y g; rw [← hTT] at this; exact this)
    have hab : (ho == ad) = true := beq_iff_eq.2 ha
    clear hT ha hk hTT
    go_wp2_with fail
    refine (unhide CR w4 (unhide GD)).mono ?_
    rintro e w5 ⟨rfl, g5⟩
    have GC := hide ((unhide GD).trans g5)
    clear CR g5
    go_wp2_with fail
    go_ret2
    exact ⟨rfl, unhide GC⟩
theorem h_get (h : Hid (HS W w x al l n ao cap nv c)) (a f : Int) (ad : Bool) : Calls Tryz.prog 20 #[.pointer (some ⟨x.hb, 0, none⟩), .int .i64 a, .int .i64 f, .bool ad] w fun e w' => e = .returned (.tuple #[.int .i64 (getT al l a f ad).1, .int .i64 (getT al l a f ad).2]) ∧ G w w' :=
  hb_get (hide (unhide h).hB) a f ad
set_option maxHeartbeats 1000000 in
theorem hb_at (h : Hid (HB W w x al l ao cap)) (a i : Int) (ad : Bool) : Calls Tryz.prog 17 #[.pointer (some ⟨x.hb, 0, none⟩), .int .i64 a, .int .i64 i, .bool ad] w fun e w' => e = .returned (.tuple #[.int .i64 (atT al l a i ad).1, .int .i64 (atT al l a i ad).2]) ∧ G w w' := by
  have CO := hide (hb_of h a)
  obtain ⟨T, hT⟩ : ∃ T, T = atT al l a i ad := ⟨_, rfl⟩
  rw [← hT]
  unfold atT at hT
  cases hq : ofP al l a with
  | none =>
    rw [hq] at CO hT
    simp only [ofV] at CO
    subst hT
    clear h hq
    go_enter Tryz.func17, Tryz.ntmps17
    go_wp2_with fail
    refine (unhide CO).mono ?_
    rintro e w1 ⟨rfl, g1⟩
    go_upto_region 2 with fail
    obtain ⟨W2, hW2⟩ : ∃ W2, W2 = (w1.alloc (.cells #[.int .i64 0, .int .i64 0, .int .i64 0] 50)).alloc (.cells #[.int .i64 0, .int .i64 0, .int .u64 0] 37) := ⟨_, rfl⟩
    rw [← hW2]
    have GF := hide (g1.trans (show G w1 W2 by rw [hW2]; exact ((G.refl w1).more _).more _))
    clear hW2 CO g1
    go_wp2_with fail
    go_ret2
    exact ⟨rfl, unhide GF⟩
  | some q =>
    obtain ⟨wd, kd, nm, sh⟩ := q
    obtain ⟨⟨hw1, hw2⟩, hmem⟩ := ofP_some hq
    have hfit := (unhide h).tab.fit sh hmem
    rw [hq] at CO hT
    simp only [ofV] at CO hT
    have hm64 : sh.m < 18446744073709551616 := hfit.m0
    obtain ⟨sk, hsk⟩ : ∃ sk, sk = sh.k := ⟨_, rfl⟩
    obtain ⟨sf, hsf⟩ : ∃ sf, sf = sh.f := ⟨_, rfl⟩
    obtain ⟨sm, hsm⟩ : ∃ sm, sm = sh.m := ⟨_, rfl⟩
    rw [← hsk, ← hsf, ← hsm] at CO
    rw [← hsm] at hm64
    rw [← hsk, ← hsm] at hT
    clear hsk hsf hsm hfit hmem hq
    replace hT := hide hT
    have HH : Hid (∀ y, G w y → HB W y x al l ao cap) := hide fun y g => (unhide h).gr g
    clear h
    go_enter Tryz.func17, Tryz.ntmps17
    go_wp2_with fail
    refine (unhide CO).mono ?_
    rintro e w1 ⟨rfl, g1⟩
    go_upto_region 2 with fail
    obtain ⟨W2, hW2⟩ : ∃ W2, W2 = (w1.alloc (.cells #[.int .i64 wd, .int .i64 kd, .int .i64 nm] 50)).alloc (.cells #[.int .i64 sk, .int .i64 sf, .int .u64 (sm : Int)] 37) := ⟨_, rfl⟩
    rw [← hW2]
    obtain ⟨gq, BQ⟩ := two_box w1 wd kd nm sk sf sm W2 hW2
    have GF := hide (g1.trans gq)
    replace BQ := hide BQ
    obtain ⟨⟨a0, a1, a2⟩, ⟨b0, b1, b2⟩⟩ := unhide BQ W2 (G.refl _)
    clear hW2 CO g1 gq
    have CD := hide (fun y => hp_adr y sk sf sm hm64)
    have CF := hide (fun y => hp_fields y wd kd nm ⟨hw1, hw2⟩)
    have CR := hide (fun y g => hb_read (hide (unhide HH y g)) a i 2)
    clear hw1 hw2 hm64 HH
    generalize Hd.holdsB sk sm 0 2 = ho at CD hT
    by_cases hk : kd = 1
    rotate_left
    · obtain rfl : T = (0, 1) := (unhide hT).trans (if_neg (fun e => hk e.1))
      have hkb : (kd != 1) = true := by simpa using hk
      clear hT CD CF CR hk
      go_wp2_with fail
      go_ret2
      exact ⟨rfl, unhide GF⟩
    have hkb : (kd != 1) = false := by simpa using hk
    replace hk := hide hk
    go_wp2_with fail
    refine (unhide CD W2).mono ?_
    rintro e w3 ⟨rfl, g3⟩
    obtain ⟨⟨c0, c1, c2⟩, ⟨d0, d1, d2⟩⟩ := unhide BQ w3 g3
    have GE := hide ((unhide GF).trans g3)
    clear CD g3 a0 a1 a2 b0 b1 b2
    by_cases ha : ho = ad
    rotate_left
    · obtain rfl : T = (0, 1) := (unhide hT).trans (if_neg (fun e => ha e.2))
      have hab : (ho == ad) = false := beq_eq_false_iff_ne.2 ha
      clear hT CF CR ha
      go_wp2_with fail
      go_ret2
      exact ⟨rfl, unhide GE⟩
    have hab : (ho == ad) = true := beq_iff_eq.2 ha
    replace hT := hide ((unhide hT).trans (if_pos ⟨unhide hk, ha⟩))
    clear ha hk
    by_cases hi : i < 0
    · obtain rfl : T = (0, 2) := (unhide hT).trans (if_pos (Or.inl hi))
      clear hT CF CR
      go_wp2_with fail
      go_ret2
      exact ⟨rfl, unhide GE⟩
    go_wp2_with fail
    refine (unhide CF w3).mono ?_
    rintro e w4 ⟨rfl, g4⟩
    have GD := hide ((unhide GE).trans g4)
    clear CF g4 c0 c1 c2 d0 d1 d2
    by_cases hj : wd - 1 ≤ i
    · obtain rfl : T = (0, 2) := (unhide hT).trans (if_pos (Or.inr hj))
      clear hT CR
      go_wp2_with fail
      go_ret2
      exact ⟨rfl, unhide GD⟩
    have hTT : T = rdT al a i 2 := (unhide hT).trans (if_neg (by omega))
    replace CR := hide (fun y g => by have := unhide CR y g; rw [← hTT] at this; exact this)
    clear hT hTT
    go_wp2_with fail
    refine (unhide CR w4 (unhide GD)).mono ?_
    rintro e w5 ⟨rfl, g5⟩
    have GC := hide ((unhide GD).trans g5)
    clear CR g5
    go_wp2_with fail
    go_ret2
    exact ⟨rfl, unhide GC⟩
theorem h_at (h : Hid (HS W w x al l n ao cap nv c)) (a i : Int) (ad : Bool) : Calls Tryz.prog 17 #[.pointer (some ⟨x.hb, 0, none⟩), .int .i64 a, .int .i64 i, .bool ad] w fun e w' => e = .returned (.tuple #[.int .i64 (atT al l a i ad).1, .int .i64 (atT al l a i ad).2]) ∧ G w w' :=
  hb_at (hide (unhide h).hB) a i ad
set_option maxHeartbeats 1000000 in
theorem h_set (h : Hid (HS W w x al l n ao cap nv c)) (a f v : Int) (ad br : Bool) (id : Int) : Calls Tryz.prog 21 #[.pointer (some ⟨x.hb, 0, none⟩), .int .i64 a, .int .i64 f, .int .i64 v, .bool ad, .bool br, .int .i64 id] w fun e w' => e = .returned (.int .i64 (getT al l a f ad).2) ∧ HS W w' x (if (getT al l a f ad).2 = 0 then ⟨al.a.writeA a (wrap64 (f + 1)) v, al.u⟩ else al) l n ao cap nv c := by
  have CG := hide (h_get h a f ad)
  have HH : Hid (∀ y, G w y → HS W y x al l n ao cap nv c) := hide fun y g => (unhide h).gr g
  obtain ⟨⟨rv, rt⟩, hT⟩ : ∃ T, T = getT al l a f ad := ⟨_, rfl⟩
  rw [← hT] at CG ⊢
  simp only at CG ⊢
  clear h hT
  by_cases hr : rt = 0
  · rw [if_pos hr]
    subst hr
    have CW := hide (fun y g (tb : Bool) => h_write (hide (unhide HH y g)) a f rv v tb id)
    clear HH
    cases ad
    all_goals
      go_enter Tryz.func21, Tryz.ntmps21
      go_wp2_with fail
      refine (unhide CG).mono ?_
      rintro e w1 ⟨rfl, g1⟩
      have CW2 := hide (fun tb => unhide CW w1 g1 tb)
      clear CG CW g1
      go_wp2_with fail
      refine (unhide CW2 _).mono ?_
      rintro e w2 ⟨rfl, S2⟩
      replace S2 := hide S2
      clear CW2
      go_wp2_with fail
      go_ret
      exact ⟨rfl, unhide S2⟩
  · rw [if_neg hr]
    have hrb : (rt != 0) = true := by simpa using hr
    go_enter Tryz.func21, Tryz.ntmps21
    go_wp2_with fail
    refine (unhide CG).mono ?_
    rintro e w1 ⟨rfl, g1⟩
    have S1 := hide (unhide HH w1 g1)
    clear CG HH g1
    go_wp2_with fail
    go_ret
    exact ⟨rfl, unhide S1⟩
set_option maxHeartbeats 1000000 in
theorem h_put (h : Hid (HS W w x al l n ao cap nv c)) (a f v : Int) (ad br : Bool) (id : Int) : Calls Tryz.prog 16 #[.pointer (some ⟨x.hb, 0, none⟩), .int .i64 a, .int .i64 f, .int .i64 v, .bool ad, .bool br, .int .i64 id] w fun e w' => e = .returned (.int .i64 (atT al l a f ad).2) ∧ HS W w' x (if (atT al l a f ad).2 = 0 then ⟨al.a.writeA a (wrap64 (f + 1)) v, al.u⟩ else al) l n ao cap nv c := by
  have CG := hide (h_at h a f ad)
  have HH : Hid (∀ y, G w y → HS W y x al l n ao cap nv c) := hide fun y g => (unhide h).gr g
  obtain ⟨⟨rv, rt⟩, hT⟩ : ∃ T, T = atT al l a f ad := ⟨_, rfl⟩
  rw [← hT] at CG ⊢
  simp only at CG ⊢
  clear h hT
  by_cases hr : rt = 0
  · rw [if_pos hr]
    subst hr
    have CW := hide (fun y g (tb : Bool) => h_write (hide (unhide HH y g)) a f rv v tb id)
    clear HH
    cases ad
    all_goals
      go_enter Tryz.func16, Tryz.ntmps16
      go_wp2_with fail
      refine (unhide CG).mono ?_
      rintro e w1 ⟨rfl, g1⟩
      have CW2 := hide (fun tb => unhide CW w1 g1 tb)
      clear CG CW g1
      go_wp2_with fail
      refine (unhide CW2 _).mono ?_
      rintro e w2 ⟨rfl, S2⟩
      replace S2 := hide S2
      clear CW2
      go_wp2_with fail
      go_ret
      exact ⟨rfl, unhide S2⟩
  · rw [if_neg hr]
    have hrb : (rt != 0) = true := by simpa using hr
    go_enter Tryz.func16, Tryz.ntmps16
    go_wp2_with fail
    refine (unhide CG).mono ?_
    rintro e w1 ⟨rfl, g1⟩
    have S1 := hide (unhide HH w1 g1)
    clear CG HH g1
    go_wp2_with fail
    go_ret
    exact ⟨rfl, unhide S1⟩
end
end Go.Proofs.YtahhkehijokhnaaGreatDoor

/- Package heap: take, first, Make, while there is room. -/
namespace Go.Proofs.YtahhkehijokhnaaGreatDoor
set_option maxRecDepth 100000
open Go.ChangeShapes Go.WideShapes Go.ChangeAt Go.RowKit Go.Maps Go.Deep

section
variable {W w : World} {x : Hx} {al : Al} {l : List Hd.Shp} {n : Nat} {ao : Option Addr} {cap : Nat} {nv : Value} {c : Nat → Nat}
theorem hs_takeK (h : Hid (HS W w x al l n ao cap nv c)) (m v : Int) (al' : Al) (hR : Hid (al.take m = (al', v, 0))) : Calls Tryz.prog 48 #[.pointer (some ⟨x.b.cb, 0, none⟩), .int .i64 m] w fun r w' => r = .returned (.tuple #[.int .i64 v, .int .i64 0]) ∧ HS W w' x al' l n ao cap nv c ∧ Kp3 w c w' := by
  have c1 := (unhide h).ks.c1
  have C := hide (l_take (hide (unhide h).ks.st) m)
  rw [unhide hR] at C
  simp only at C
  go_enter Tryz.func48, Tryz.ntmps48
  go_wp2_with fail
  refine (unhide C).mono ?_
  rintro r w1 ⟨rfl, s1, t1⟩
  have h1 := hide ((unhide h).turn s1 t1)
  have p1 := hide ((unhide h).kp t1)
  have C2 := hide (k_shades (hide (unhide h1).ks))
  simp only [show ((0 : Int) == 1 || (0 : Int) == 2) = false from rfl] at C2
  clear C s1 t1
  go_wp2_with fail
  refine (unhide C2).mono ?_
  rintro r w2 ⟨rfl, hw2⟩
  rw [hw2]
  clear C2 hw2 w2
  go_wp2_with fail
  go_ret2
  exact ⟨rfl, unhide h1, unhide p1⟩
theorem h_takeK (h : Hid (HS W w x al l n ao cap nv c)) (m v : Int) (al' : Al) (hR : Hid (al.take m = (al', v, 0))) (rv : Value) : Calls Tryz.prog 28 #[.pointer (some ⟨x.hb, 0, none⟩), .int .i64 m, rv] w fun r w' => r = .returned (.tuple #[.int .i64 v, .int .i64 0]) ∧ HS W w' x al' l n ao cap nv c ∧ Kp3 w c w' := by
  have h0 := (unhide h).h0
  have C := hide (hs_takeK h m v al' hR)
  clear hR h
  go_enter Tryz.func28, Tryz.ntmps28
  go_wp2_with fail
  refine (unhide C).mono ?_
  rintro r w1 ⟨rfl, S1, p1⟩
  replace S1 := hide S1
  replace p1 := hide p1
  clear C
  go_wp2_with fail
  go_ret2
  exact ⟨rfl, unhide S1, unhide p1⟩
theorem NrAt.get {B : Nat} {v : Value} (h : NrAt w B v n) (k : Nat) (hk : k < n) : ∃ g cp, v = .slice (some ⟨g, 0, none⟩) n cp ∧ w.cell? ⟨g, k, none⟩ = some (.int .i64 (k : Int)) := by
  rcases h.2 with ⟨_, e⟩ | ⟨g, cp, cur, e, _, h3, _, _, _, h7⟩
  · omega
  · refine ⟨g, cp, e, ?_⟩
    rw [cell_of_row _ _ _ _ _ _ h3]
    have h8 : (nrL n)[k]? = some (.int .i64 (k : Int)) := by
      unfold nrL
      rw [List.getElem?_map, List.getElem?_range hk]
      rfl
    rw [← h7, List.getElem?_take] at h8
    split at h8
    · simpa using h8
    · cases h8
theorem NrAt.shape {B : Nat} {v : Value} (h : NrAt w B v n) : ∃ ao cp, v = .slice ao n cp := by
  rcases h.2 with ⟨e, e2⟩ | ⟨g, cp, cur, e, _⟩
  · exact ⟨none, 0, by rw [e, e2]⟩
  · exact ⟨_, cp, e⟩
theorem h_first (h : Hid (HS W w x al l n ao cap nv c)) (k : Nat) (hk : k < n) (s : Hd.Shp) (hs : l[k]? = some s) (wd : Int) : Calls Tryz.prog 31 #[.pointer (some ⟨x.hb, 0, none⟩), .int .i64 (k : Int), .int .i64 wd] w fun r w' => r = .returned (.int .i64 (Hd.pkV wd s.k (k : Int))) ∧ G w w' := by
  obtain ⟨g, cp, hv, ck⟩ := (unhide h).num.get k hk
  have h0 := (unhide h).h0
  have h1 := (unhide h).h1
  rw [hv] at h1
  have CT := hide (k_table (hide (unhide h).ks))
  have CS := hide (Hd.shape_yes w _ _ _ _ _ l (unhide h).tab k s hs)
  have hkI : (k : Int) < (n : Int) := by omega
  have hk0 : (0 : Int) ≤ (k : Int) := by omega
  obtain ⟨sk, hsk⟩ : ∃ sk, sk = s.k := ⟨_, rfl⟩
  generalize s.f = sf at CS
  generalize s.m = sm at CS
  rw [← hsk] at CS ⊢
  have CP := hide (fun y => Hd.pack_any wd sk (k : Int) y)
  generalize Hd.pkV wd sk (k : Int) = pv at CP ⊢
  generalize Hd.pkE wd sk (k : Int) = pe at CP
  clear h hs hsk hv hk
  go_enter Tryz.func31, Tryz.ntmps31
  go_wp2_with fail
  refine (unhide CT).mono ?_
  rintro r w1 ⟨rfl, hw1⟩
  rw [hw1]
  clear hw1 w1 CT
  go_wp2_with fail
  refine (unhide CS).mono ?_
  rintro r w2 ⟨rfl, g2⟩
  clear CS
  go_upto_region 3 with fail
  obtain ⟨w3, hw3⟩ : ∃ w3, w3 = w2.alloc (.cells #[.int .i64 sk, .int .i64 sf, .int .u64 (sm : Int)] 37) := ⟨_, rfl⟩
  rw [← hw3]
  have q0 : w3.cell? ⟨w2.heap.size, 0, none⟩ = some (.int .i64 sk) := by rw [hw3]; simp [go_sem]
  have g3 := hide (g2.trans (show G w2 w3 by rw [hw3]; exact G.alloc _ _))
  clear hw3 g2
  go_wp2_with fail
  refine (unhide CP w3).mono ?_
  rintro r w4 ⟨rfl, hw4⟩
  have g4 := hide ((unhide g3).trans (show G w3 w4 by rw [hw4]; exact G.alloc _ _))
  clear hw4 CP g3
  go_wp2_with fail
  go_ret
  exact ⟨rfl, unhide g4⟩
theorem h_make_bad (h : Hid (HS W w x al l n ao cap nv c)) (k wd : Int) (hb : k < 0 ∨ (n : Int) ≤ k ∨ wd < 1 ∨ 64 < wd) (rv : Value) : Calls Tryz.prog 8 #[.pointer (some ⟨x.hb, 0, none⟩), .int .i64 k, .int .i64 wd, rv] w fun r w' => r = .returned (.tuple #[.int .i64 0, .int .i64 1]) ∧ w' = w := by
  obtain ⟨ao', cp, hv⟩ := (unhide h).num.shape
  have h1 := (unhide h).h1
  rw [hv] at h1
  clear h hv
  by_cases a1 : k < 0
  · clear hb
    go_enter Tryz.func8, Tryz.ntmps8
    go_wp2_with fail
    go_ret2
    exact ⟨rfl, rfl⟩
  by_cases a2 : (n : Int) ≤ k
  · clear hb
    go_enter Tryz.func8, Tryz.ntmps8
    go_wp2_with fail
    go_ret2
    exact ⟨rfl, rfl⟩
  by_cases a3 : wd < 1
  · clear hb
    go_enter Tryz.func8, Tryz.ntmps8
    go_wp2_with fail
    go_ret2
    exact ⟨rfl, rfl⟩
  have a4 : 64 < wd := by omega
  clear hb
  go_enter Tryz.func8, Tryz.ntmps8
  go_wp2_with fail
  go_ret2
  exact ⟨rfl, rfl⟩
set_option maxHeartbeats 1000000 in
theorem h_makeK (h : Hid (HS W w x al l n ao cap nv c)) (k : Nat) (hk : k < n) (s : Hd.Shp) (hs : l[k]? = some s) (wd v : Int) (hw1 : 1 ≤ wd) (hw2 : wd ≤ 64) (al' : Al) (hR : Hid (al.take wd = (al', v, 0))) (rv : Value) : Calls Tryz.prog 8 #[.pointer (some ⟨x.hb, 0, none⟩), .int .i64 (k : Int), .int .i64 wd, rv] w fun r w' => r = .returned (.tuple #[.int .i64 v, .int .i64 0]) ∧ HS W w' x ⟨al'.a.writeA v 0 (Hd.pkV wd s.k (k : Int)), al'.u⟩ l n ao cap nv c ∧ Kp3 w c w' := by
  obtain ⟨ao', cp, hv⟩ := (unhide h).num.shape
  have h1 := (unhide h).h1
  rw [hv] at h1
  have CT := hide (h_takeK h wd v al' hR rv)
  have CF : Hid (∀ y, HS W y x al' l n ao cap nv c → Calls Tryz.prog 31 #[.pointer (some ⟨x.hb, 0, none⟩), .int .i64 (k : Int), .int .i64 wd] y fun r w' => r = .returned (.int .i64 (Hd.pkV wd s.k (k : Int))) ∧ G y w') := hide fun y hy => h_first (hide hy) k hk s hs wd
  have hk0 : ¬ (k : Int) < 0 := by omega
  have hkn : ¬ (n : Int) ≤ (k : Int) := by omega
  have hw1' : ¬ wd < 1 := by omega
  have hw2' : ¬ 64 < wd := by omega
  generalize Hd.pkV wd s.k (k : Int) = pv at CF ⊢
  clear h hv hR hs hw1 hw2 hk
  go_enter Tryz.func8, Tryz.ntmps8
  go_wp2_with fail
  refine (unhide CT).mono ?_
  rintro r w1 ⟨rfl, S1, p1⟩
  replace p1 := hide p1
  have q0 := S1.h0
  have CA := hide (k_arena (hide S1.ks))
  have CF1 := hide (unhide CF w1 S1)
  replace S1 := hide S1
  clear CT CF h1
  go_wp2_with fail
  refine (unhide CA).mono ?_
  rintro r w2 ⟨rfl, hw2⟩
  rw [hw2]
  clear hw2 w2 CA
  go_wp2_with fail
  refine (unhide CF1).mono ?_
  rintro r w3 ⟨rfl, g3⟩
  have S3 := (unhide S1).gr g3
  have CW : Hid (Calls Tryz.prog 30 #[.pointer (some ⟨x.xl.d.ab, 0, none⟩), .int .i64 v, .int .i64 0, .int .i64 pv] w3 fun e w' => (∃ r, e = .returned (.int .i64 r)) ∧ Hid (HS W w' x ⟨al'.a.writeA v 0 pv, al'.u⟩ l n ao cap nv c ∧ Kp3 w c w')) := hide ((ls_write (hide S3.ks.st) v 0 pv).mono fun _ _ hh => ⟨⟨_, hh.1⟩, hide ⟨S3.turn hh.2.1 hh.2.2, (unhide p1).trans ((Kp3.of_G g3).trans (S3.kp hh.2.2))⟩⟩)
  clear CF1 g3 S3 S1 q0 p1
  go_wp2_with fail
  refine (unhide CW).mono ?_
  rintro r w4 ⟨⟨r4, rfl⟩, S4⟩
  clear CW
  go_wp2_with fail
  go_ret2
  exact ⟨rfl, unhide S4⟩
theorem h_make (h : Hid (HS W w x al l n ao cap nv c)) (k : Nat) (hk : k < n) (s : Hd.Shp) (hs : l[k]? = some s) (wd v : Int) (hw1 : 1 ≤ wd) (hw2 : wd ≤ 64) (al' : Al) (hR : Hid (al.take wd = (al', v, 0))) (rv : Value) : Calls Tryz.prog 8 #[.pointer (some ⟨x.hb, 0, none⟩), .int .i64 (k : Int), .int .i64 wd, rv] w fun r w' => r = .returned (.tuple #[.int .i64 v, .int .i64 0]) ∧ HS W w' x ⟨al'.a.writeA v 0 (Hd.pkV wd s.k (k : Int)), al'.u⟩ l n ao cap nv c :=
  (h_makeK h k hk s hs wd v hw1 hw2 al' hR rv).mono fun _ _ hh => ⟨hh.1, hh.2.1⟩
end
end Go.Proofs.YtahhkehijokhnaaGreatDoor

/- A view of a heap, whatever its collector does. -/
namespace Go.Proofs.YtahhkehijokhnaaGreatDoor
set_option maxRecDepth 100000
open Go.ChangeShapes Go.WideShapes Go.ChangeAt Go.RowKit Go.Maps Go.Deep

/-- What a call turns: blocks of the heap's own (o), and it may have more of them then (o'), new ones. -/
structure Fr (o o' : Nat → Prop) (w w' : World) : Prop where
  size : w.heap.size ≤ w'.heap.size
  kept : ∀ d, d < w.heap.size → ¬ o d → w'.heap[d]? = w.heap[d]?
  more : ∀ d, o' d → o d ∨ w.heap.size ≤ d
section
variable {o o1 o2 : Nat → Prop} {w w1 w2 : World}
theorem Fr.of_G (g : G w w1) : Fr o o w w1 := ⟨g.size, fun d hd _ => g.block d hd, fun _ h => Or.inl h⟩
theorem Fr.trans (h : Fr o o1 w w1) (k : Fr o1 o2 w1 w2) : Fr o o2 w w2 := by
  refine ⟨Nat.le_trans h.size k.size, fun d hd ho => (k.kept d (Nat.lt_of_lt_of_le hd h.size) (fun h1 => ?_)).trans (h.kept d hd ho), fun d hd => ?_⟩
  · rcases h.more d h1 with e | e
    · exact ho e
    · omega
  · rcases k.more d hd with e | e
    · exact h.more d e
    · exact Or.inr (Nat.le_trans h.size e)
theorem Fr.g (h : Fr o o1 w w1) (k : G w1 w2) : Fr o o1 w w2 := h.trans (Fr.of_G k)
theorem Fr.cell (h : Fr o o1 w w1) {b i : Nat} {v : Value} (hb : b < w.heap.size) (ho : ¬ o b) (hc : w.cell? ⟨b, i, none⟩ = some v) : w1.cell? ⟨b, i, none⟩ = some v :=
  (World.cell?_of_block (a := ⟨b, i, none⟩) (h.kept b hb ho)).trans hc
end
/-- A view of a heap: V: its arena and allocator are al, g: what else is known; own: its blocks. -/
structure HV {γ : Type} (V : World → Al → γ → Prop) (own : γ → Nat → Prop) (hb cb ab : Nat) (l : List Hd.Shp) : Prop where
  of_ : ∀ w al g a, V w al g → Calls Tryz.prog 12 #[.pointer (some ⟨hb, 0, none⟩), .int .i64 a] w fun e w' => e = .returned (ofV (ofP al l a)) ∧ G w w'
  gr : ∀ w w' al g, V w al g → G w w' → V w' al g
  lt : ∀ w al g, V w al g → ∀ d, own g d → d < w.heap.size
  cyc : ∀ w al g, V w al g → Calls Tryz.prog 18 #[.pointer (some ⟨hb, 0, none⟩)] w fun e w' => e = .returned (.pointer (some ⟨cb, 0, none⟩)) ∧ w' = w
  arena : ∀ w al g, V w al g → Calls Tryz.prog 29 #[.pointer (some ⟨cb, 0, none⟩)] w fun e w' => e = .returned (.pointer (some ⟨ab, 0, none⟩)) ∧ w' = w
  read : ∀ w al g a i, V w al g → Calls Tryz.prog 33 #[.pointer (some ⟨ab, 0, none⟩), .int .i64 a, .int .i64 i] w fun e w' => e = .returned (.tuple #[.int .i64 (al.a.readV a i), .int .i64 (al.a.readE a i)]) ∧ G w w'
  write : ∀ w al g a i v, V w al g → Calls Tryz.prog 30 #[.pointer (some ⟨ab, 0, none⟩), .int .i64 a, .int .i64 i, .int .i64 v] w fun e w' => e = .returned (.int .i64 (al.a.readE a i)) ∧ V w' ⟨al.a.writeA a i v, al.u⟩ g ∧ Fr (own g) (own g) w w'
  fit : ∀ s ∈ l, s.m < 18446744073709551616
/-- What a Barrier does: Pg: what is known of the rest then. -/
def BarC {γ : Type} (V : World → Al → γ → Prop) (own : γ → Nat → Prop) (cb : Nat) (al : Al) (g : γ) (old v id : Int) (al2 : Al) (Pg : γ → Prop) : Prop :=
  ∀ y, V y al g → Calls Tryz.prog 53 #[.pointer (some ⟨cb, 0, none⟩), .int .i64 old, .int .i64 v, .int .i64 id] y fun e w' => e = .returned (.tuple #[]) ∧ ∃ g2, Pg g2 ∧ V w' al2 g2 ∧ Fr (own g) (own g2) y w'
end Go.Proofs.YtahhkehijokhnaaGreatDoor

/- Package heap: list, Add. -/
namespace Go.Proofs.YtahhkehijokhnaaGreatDoor
set_option maxRecDepth 100000
open Go.ChangeShapes Go.WideShapes Go.ChangeAt Go.RowKit Go.Maps Go.Deep

theorem info_intH : (Tryz.prog.info? 3).map (fun i => (i.zero, i.size, i.bytes)) = some (some (.int .i64 0), 1, 8) := by kernel_rfl
theorem zero_intH (w : World) : (zeroValue 3).run Tryz.prog w = .ok (.int .i64 0) w := by kernel_rfl
theorem wpl_aph {ops : Array Oper} {rest : List Oper} {o : Oper} {a : Act} {w : World} {Q : Exit → Act → World → Prop} (hgd : o.guard = none) (s x : Operand) (t : TypeId) (ho : o.op = .call { callee := .builtin .append, args := #[s, x], argTypes := #[t, t] })
    (vs vx : Value) (hs : a.eval s = vs) (hx : a.eval x = vx) (v' : Value) (w' : World) (hrun : (Builtin.append_ #[t, t] o.type #[vs, vx]).run Tryz.prog w = .ok v' w') (h : wpList Tryz.prog ops Q rest (a.put o.dst v') w') : wpList Tryz.prog ops Q (o :: rest) a w := by
  refine wpList_plain hgd fun K hK => ?_
  unfold Oper.wp execOp
  simp only [ho, resolve, invoke, builtin, Sem.run_bind, Sem.run_pure, Result.andThen_ok, List.map_toArray, List.map_cons, List.map_nil, hs, hx, hrun]
  exact hK _ _ h
theorem nrL_succ (n : Nat) : nrL (n + 1) = nrL n ++ [.int .i64 (n : Int)] := by
  unfold nrL
  rw [List.range_succ, List.map_append]
  rfl
theorem nr_app {w : World} {B n : Nat} {v : Value} (h : NrAt w B v n) (hB : B ≤ w.heap.size) (hn : n ≤ 1000000) :
    ∃ v' w', (Builtin.append_ #[70, 70] 70 #[v, .slice (some ⟨w.heap.size, 0, none⟩) 1 1]).run Tryz.prog (w.alloc (.cells #[.int .i64 (n : Int)] 3)) = .ok v' w' ∧ NrAt w' B v' (n + 1) ∧ (w.alloc (.cells #[.int .i64 (n : Int)] 3)).grownBy w' v.ownBlock ∧ (v'.ownBlock = v.ownBlock ∨ v'.ownBlock = some (w.heap.size + 1)) := by
  obtain ⟨i, hi, hz, hs, hb⟩ := info_parts info_intH
  have ga := G.alloc w (.cells #[.int .i64 (n : Int)] 3)
  have h2 : NrAt (w.alloc (.cells #[.int .i64 (n : Int)] 3)) B v n := by
    rcases h.2 with h0 | ⟨g, cp, cur, e1, e2, e3, e4⟩
    · exact ⟨h.1, Or.inl h0⟩
    · refine ⟨h.1, Or.inr ⟨g, cp, cur, e1, e2, ?_, e4⟩⟩
      have hlt : g < w.heap.size := by
        rcases Nat.lt_or_ge g w.heap.size with hh | hh
        · exact hh
        · rw [Array.getElem?_eq_none hh] at e3; cases e3
      rw [ga.block g hlt]; exact e3
  obtain ⟨v', w', hrun, r1, r2, _, r4⟩ := run_append_own_at (P := Tryz.prog) (w.alloc (.cells #[.int .i64 (n : Int)] 3)) B 70 70 3 i _ 1 8 Tryz.underlying70 hi hz hs hb rfl (by decide) v n _ h2 ⟨w.heap.size, 0, none⟩ 1 1 [.int .i64 (n : Int)] rfl (fun j u hj => by
      rw [Addr.add_lit, cell_of_row _ _ _ _ _ _ (heap_alloc_new w _), Nat.zero_add]
      simpa using hj) (fun u hu => by simp at hu; subst hu; rfl) (by unfold maxLen; omega) (by omega) (Nat.le_trans hB ga.size)
  refine ⟨v', w', hrun, ?_, r2, ?_⟩
  · show w'.ownsRow B 3 1 v' (n + 1) (nrL (n + 1))
    rw [nrL_succ]
    exact r1
  · rw [World.size_alloc] at r4; exact r4
section
variable {W w : World} {x : Hx} {al : Al} {l : List Hd.Shp} {n : Nat} {ao : Option Addr} {cap : Nat} {nv : Value} {c : Nat → Nat}
theorem HS.nlo (h : HS W w x al l n ao cap nv c) : ∀ k, nv.ownBlock = some k → W.heap.size ≤ k := fun k hk => by
  rcases h.num.2 with ⟨e, _⟩ | ⟨g, cp, cur, e, h2, _⟩
  · rw [e] at hk; cases hk
  · rw [e] at hk
    obtain rfl : g = k := by simpa [Value.ownBlock] using hk
    exact h2
theorem HS.listed {w2 w4 : World} {v' : Value} (h : HS W w x al l n ao cap nv c) (g2 : (w.alloc (.cells #[.int .i64 (n : Int)] 3)).grownBy w2 nv.ownBlock) (r : NrAt w2 W.heap.size v' (n + 1)) (ob : v'.ownBlock = nv.ownBlock ∨ v'.ownBlock = some (w.heap.size + 1)) (g4 : (w2.setCell ⟨x.hb, 1, none⟩ v').grownBy w4 (some x.lm)) (m4 : LmAt w4 x.lm (n + 1)) :
    ∃ c', HS W w4 x al l (n + 1) ao cap v' c' ∧ K9 w c w4 c' := by
  have ga := G.alloc w (.cells #[.int .i64 (n : Int)] 3)
  have s2 := g2.size
  have s4 := g4.size
  rw [World.size_alloc] at s2
  rw [World.size_setCell] at s4
  have hl := h.hlt
  have lo := h.lo
  have hne : x.hb ≠ x.lm := fun e => by have := h.c6; rw [e, h.c7] at this; omega
  have k2 : ∀ d, d < w.heap.size → c d ≠ 8 → w2.heap[d]? = w.heap[d]? := fun d hd h8 => (g2.block d (by rw [World.size_alloc]; omega) (fun e => h8 (h.c8 d e.symm))).trans (ga.block d hd)
  have k4 : ∀ d, d < w2.heap.size → d ≠ x.hb → d ≠ x.lm → w4.heap[d]? = w2.heap[d]? := fun d hd h6 h7 => (g4.block d (by rw [World.size_setCell]; exact hd) (fun e => h7 (Option.some.inj e))).trans (Below.heap_setCell _ _ _ _ (by simpa using h6))
  have k : ∀ d, d < w.heap.size → c d ≠ 6 → c d ≠ 7 → c d ≠ 8 → w4.heap[d]? = w.heap[d]? := fun d hd h6 h7 h8 => (k4 d (by omega) (fun e => h6 (by rw [e]; exact h.c6)) (fun e => h7 (by rw [e]; exact h.c7))).trans (k2 d hd h8)
  have kh2 := k2 x.hb hl (by rw [h.c6]; decide)
  have kh4 : w4.heap[x.hb]? = (w2.setCell ⟨x.hb, 1, none⟩ v').heap[x.hb]? := g4.block x.hb (by rw [World.size_setCell]; omega) (fun e => hne (Option.some.inj e))
  have hcell : ∀ i u, i ≠ 1 → w.cell? ⟨x.hb, i, none⟩ = some u → w4.cell? ⟨x.hb, i, none⟩ = some u := fun i u hi hu => (World.cell?_of_block (a := ⟨x.hb, i, none⟩) kh4).trans ((cell_other _ (Or.inr hi)).trans ((World.cell?_of_block (a := ⟨x.hb, i, none⟩) kh2).trans hu))
  have hb : Below W.heap.size W w4 := by
    refine Below.trans h.ks.st.below ⟨g4.os.trans (g2.os.trans ga.os), g4.tape.trans (g2.tape.trans ga.tape), g4.output.trans (g2.output.trans ga.output), by omega, fun d hd => ?_⟩
    have hdw : d < w.heap.size := Nat.lt_of_lt_of_le hd h.ks.st.below.size
    refine (k4 d (by omega) (by omega) (by omega)).trans ((g2.block d (by rw [World.size_alloc]; omega) (fun e => ?_)).trans (ga.block d hdw))
    have := h.nlo d e.symm
    omega
  have ks := h.cyc hb (by omega) (fun d hd hc => k d hd (by omega) (by omega) (by omega))
  have cc : ∀ d, d < w.heap.size → (fun d => if w.heap.size ≤ d then 8 else c d) d = c d := fun d hd => if_neg (by omega)
  obtain ⟨l1, l2, l3, l4, l5⟩ := h.alt
  obtain ⟨a1, a2, a3, a4, a5⟩ := h.cA
  obtain ⟨e1, e2, e3, e4⟩ := h.cC
  have q1 : ∀ q, v'.ownBlock = some q → q ≠ x.hb ∧ q ≠ x.lm ∧ q < w2.heap.size := fun q hq => by
    have hlt : q < w2.heap.size := by
      rcases r.2 with ⟨e, _⟩ | ⟨g, cp, cur, e, _, h3, _⟩
      · rw [e] at hq; cases hq
      · rw [e] at hq
        obtain rfl : g = q := by simpa [Value.ownBlock] using hq
        rcases Nat.lt_or_ge g w2.heap.size with hh | hh
        · exact hh
        · rw [Array.getElem?_eq_none hh] at h3; cases h3
    have hlm := h.lt
    rcases ob with e | e
    · rw [e] at hq
      have h8 := h.c8 q hq
      exact ⟨fun e => by rw [e, h.c6] at h8; omega, fun e => by rw [e, h.c7] at h8; omega, hlt⟩
    · rw [e] at hq
      have := Option.some.inj hq
      exact ⟨by omega, by omega, hlt⟩
  refine ⟨fun d => if w.heap.size ≤ d then 8 else c d, ⟨ks, h.tab.kept (k _ h.tab.tlt (by rw [h.c3]; decide) (by rw [h.c3]; decide) (by rw [h.c3]; decide)) (k _ h.tab.mlt (by rw [h.c4]; decide) (by rw [h.c4]; decide) (by rw [h.c4]; decide)) (fun a ha => k _ (h.tab.aoB a ha).2 (by rw [h.c5 a ha]; decide) (by rw [h.c5 a ha]; decide) (by rw [h.c5 a ha]; decide)), hcell 0 _ (by decide) h.h0, (World.cell?_of_block (a := ⟨x.hb, 1, none⟩) kh4).trans (cell_same _ ((World.cell?_of_block (a := ⟨x.hb, 1, none⟩) kh2).trans h.h1)), hcell 2 _ (by decide) h.h2, hcell 3 _ (by decide) h.h3, fun i => (World.frozen?_of_block (a := ⟨x.hb, i, none⟩) kh4).trans ((World.frozen?_setCell _ _ _ _).trans ((World.frozen?_of_block (a := ⟨x.hb, i, none⟩) kh2).trans (h.hf i))), nr_kept r (fun q hq => k4 q (q1 q hq).2.2 (q1 q hq).1 (q1 q hq).2.1), m4, h.lo, by have := h.lt; omega, ⟨(cc _ l1).trans a1, (cc _ l2).trans a2, (cc _ l3).trans a3, (cc _ l4).trans a4, (cc _ l5).trans a5⟩, ⟨(cc _ (h.ks.ap _ (by simp)).1).trans e1, (cc _ (h.ks.ap _ (by simp)).1).trans e2, (cc _ (h.ks.ap _ (by simp)).1).trans e3, (cc _ (h.ks.ap _ (by simp)).1).trans e4⟩, (cc _ h.tab.tlt).trans h.c3, (cc _ h.tab.mlt).trans h.c4, fun a ea => (cc _ (h.tab.aoB a ea).2).trans (h.c5 a ea), (cc _ h.hlt).trans h.c6, (cc _ h.lt).trans h.c7, fun q hq => ?_⟩, by omega, fun d hd => ⟨cc d hd, fun h9 => k d hd (by omega) (by omega) (by omega)⟩⟩
  rcases ob with e | e
  · rw [e] at hq; exact (cc _ (h.nlt q hq)).trans (h.c8 q hq)
  · rw [e] at hq
    have := Option.some.inj hq
    exact if_pos (by omega)
theorem LmAt.put {w' : World} {lm : Nat} {D : DataW Unit} (hn : n ≤ 1000000) (hD : ∀ y : Int, wfN y → Maps.has D (.int .i64 y) = decide (0 ≤ y ∧ y < (n : Int)) ∧ (0 ≤ y ∧ y < (n : Int) → D.atKey (.int .i64 y) (.lit (.int .i64 0)) = .lit (.int .i64 y))) (hi : w.ownsMap Tryz.prog 3 (plainElem Tryz.prog 3) lm n D) (hm : w'.ownsMap Tryz.prog 3 (plainElem Tryz.prog 3) lm (n + 1) (D.put (.int .i64 (n : Int)) (.lit (.int .i64 (n : Int))))) : LmAt w' lm (n + 1) := by
  refine ⟨_, hm, fun y hy => ?_⟩
  have hwn : wfN (n : Int) := WalkArith.wf_i64 (n := (n : Int)) (by omega)
  by_cases e : y = (n : Int)
  · subst e
    rw [Maps.has_put_same hi.isMap (keyI.key (keyOf_int_mk Tryz.underlying3 hwn))]
    refine ⟨by simp; omega, fun _ => ?_⟩
    rw [atKey_put_same hi.isMap (keyI.key (keyOf_int_mk Tryz.underlying3 hwn))]
  · have hne : (Lit.int .i64 y) ≠ (Lit.int .i64 (n : Int)) := by simpa using e
    rw [Maps.has_put_other (by simpa using e), (hD y hy).1]
    refine ⟨by simp only [decide_eq_decide]; omega, fun hlt => ?_⟩
    rw [atKey_put_other (by simpa using e)]
    exact (hD y hy).2 (by omega)
set_option maxHeartbeats 1000000 in
theorem h_list9 (h : Hid (HS W w x al l n ao cap nv c)) (hn : n ≤ 1000) : Calls Tryz.prog 27 #[.pointer (some ⟨x.hb, 0, none⟩), .int .i64 (n : Int)] w fun r w' => r = .returned (.int .i64 (n : Int)) ∧ ∃ nv' c', HS W w' x al l (n + 1) ao cap nv' c' ∧ K9 w c w' c' := by
  obtain ⟨oa, cp, hv⟩ := (unhide h).num.shape
  obtain ⟨v', w2, hrun, r2, g2, ob⟩ := nr_app (unhide h).num (unhide h).ks.st.below.size (by omega)
  obtain ⟨oa', cp', hv'⟩ := r2.shape
  subst hv'
  obtain ⟨D, hD, hK⟩ := (unhide h).mp
  have h1 := (unhide h).h1
  have f1 := (unhide h).hf 1
  have h2 := (unhide h).h2
  have ga := G.alloc w (.cells #[.int .i64 (n : Int)] 3)
  have h1a := ga.cell h1
  have s2 := g2.size
  rw [World.size_alloc] at s2
  have kh2 : w2.heap[x.hb]? = w.heap[x.hb]? := (g2.block x.hb (by rw [World.size_alloc]; have := (unhide h).hlt; omega) (fun e => by have := (unhide h).c8 _ e.symm; rw [(unhide h).c6] at this; omega)).trans (ga.block x.hb (unhide h).hlt)
  have kl2 : w2.heap[x.lm]? = w.heap[x.lm]? := (g2.block x.lm (by rw [World.size_alloc]; have := (unhide h).lt; omega) (fun e => by have := (unhide h).c8 _ e.symm; rw [(unhide h).c7] at this; omega)).trans (ga.block x.lm (unhide h).lt)
  have q1 := (World.cell?_of_block (a := ⟨x.hb, 1, none⟩) kh2).trans h1
  have qf := (World.frozen?_of_block (a := ⟨x.hb, 1, none⟩) kh2).trans f1
  have hne : x.lm ≠ x.hb := fun e => by have := (unhide h).c7; rw [e, (unhide h).c6] at this; omega
  obtain ⟨w3, hw3⟩ : ∃ w3, w3 = w2.setCell ⟨x.hb, 1, none⟩ (.slice oa' (n + 1) cp') := ⟨_, rfl⟩
  have q2 : w3.cell? ⟨x.hb, 2, none⟩ = some (.map (some x.lm)) := by rw [hw3]; exact (cell_other _ (Or.inr (by decide))).trans ((World.cell?_of_block (a := ⟨x.hb, 2, none⟩) kh2).trans h2)
  have D3 : w3.ownsMap Tryz.prog 3 (plainElem Tryz.prog 3) x.lm n D := by
    obtain ⟨es, clock, hb, r⟩ := hD
    exact ⟨es, clock, by rw [hw3, Below.heap_setCell _ _ _ _ (by simpa using hne), kl2]; exact hb, r⟩
  have hwn : wfN (n : Int) := WalkArith.wf_i64 (n := (n : Int)) (by omega)
  have hkey : keyOf Tryz.prog 3 (.int .i64 (n : Int)) = some (.int .i64 (n : Int)) := keyOf_int_mk Tryz.underlying3 hwn
  have hhas : Maps.has D (.int .i64 (n : Int)) = false := by rw [(hK _ hwn).1]; simp
  have hval : plainElem (H := Unit) Tryz.prog 3 (.int .i64 (n : Int)) = some (.lit (.int .i64 (n : Int)), []) := plainElem_int Tryz.underlying3 hwn
  have FIN : Hid (∀ w4, w4.ownsMap Tryz.prog 3 (plainElem Tryz.prog 3) x.lm (n + 1) (D.put (.int .i64 (n : Int)) (.lit (.int .i64 (n : Int)))) → w3.grownBy w4 (some x.lm) → ∃ nv' c', HS W w4 x al l (n + 1) ao cap nv' c' ∧ K9 w c w4 c') := hide fun w4 m4 g4 => by
    rw [hw3] at g4
    obtain ⟨c', S⟩ := (unhide h).listed g2 r2 ob g4 (LmAt.put (by omega) hK hD m4)
    exact ⟨_, c', S⟩
  have hnm : n < maxLen := by unfold maxLen; omega
  rw [hv] at h1 h1a hrun q1
  replace hw3' := hide hw3
  clear h hv r2 g2 ob hD hK ga s2 kh2 kl2 hne hwn f1
  replace hn := hide hn
  go_enter Tryz.func27, Tryz.ntmps27
  go_upto_region 3 with (at_builtin; refine wpl_aph rfl (.tmp 17) (.tmp 19) 70 rfl _ _ rfl rfl _ _ hrun ?_)
  rw [← hw3]
  clear hw3 hrun q1 qf h1 h1a h2
  go_upto_region 4 with (at_lookup; refine wpList_lookup_own_ok_int _ rfl _ _ 69 rfl 3 3 .i64 keyI Tryz.underlying69 Tryz.underlying3 (zero_intH _) x.lm n D rfl D3 _ _ rfl hkey ?_; intro cc hat hwc; rw [hhas])
  go_wp2_with (at_mapUpdate; refine wpList_mapUpdate_own _ rfl _ _ _ 69 rfl 3 3 keyI Tryz.underlying69 (plainElem (H := Unit) Tryz.prog 3) x.lm n D rfl D3 hnm _ _ _ rfl rfl hkey _ [] hval ?_; intro w4 hm4 hg4; have S4 := hide (unhide FIN w4 hm4 hg4); clear hm4 hg4 FIN)
  go_ret
  exact ⟨rfl, unhide S4⟩
theorem h_list (h : Hid (HS W w x al l n ao cap nv c)) (hn : n ≤ 1000) : Calls Tryz.prog 27 #[.pointer (some ⟨x.hb, 0, none⟩), .int .i64 (n : Int)] w fun r w' => r = .returned (.int .i64 (n : Int)) ∧ ∃ nv' c', HS W w' x al l (n + 1) ao cap nv' c' := (h_list9 h hn).mono fun _ _ ⟨hr, nv', c', S, _⟩ => ⟨hr, nv', c', S⟩
end
end Go.Proofs.YtahhkehijokhnaaGreatDoor

/- Package heap: Add, New. -/
namespace Go.Proofs.YtahhkehijokhnaaGreatDoor
set_option maxRecDepth 100000
open Go.ChangeShapes Go.WideShapes Go.ChangeAt Go.RowKit Go.Maps Go.Deep

section
variable {W w : World} {x : Hx} {al : Al} {l : List Hd.Shp} {n : Nat} {ao : Option Addr} {cap : Nat} {nv : Value} {c : Nat → Nat}
/-- The table is asked for a shape's number. -/
theorem hs_number9 (h : HS W w x al l n ao cap nv c) (s : Hd.Shp) (hs : s.Fit) (hlen : l.length < 65536) : Calls Tryz.prog 26 #[.pointer (some ⟨x.b.tb, 0, none⟩), .agg #[.int .i64 s.k, .int .i64 s.f, .int .u64 (s.m : Int)]] w fun e w' => e = .returned (.tuple #[.int .i64 (Hd.numV l s), .int .i64 (Hd.numE s)]) ∧ (∃ ao' cap' c', HS W w' x al (Hd.addS l s) n ao' cap' nv c' ∧ (w.heap.size ≤ w'.heap.size ∧ ∀ d, d < w.heap.size → c' d = c d)) ∧ ∀ d, d < w.heap.size → c d ≠ 3 → c d ≠ 4 → c d ≠ 5 → w'.heap[d]? = w.heap[d]? := by
  refine (Hd.number_any w W.heap.size x.b.tb x.tm ao cap l s h.tab hs hlen h.ks.st.below.size).mono ?_
  rintro e w' ⟨ao', cap', he, T, tu, ha⟩
  obtain ⟨c', S, cq⟩ := h.number9 T tu ha
  exact ⟨he, ⟨ao', cap', c', S, tu.size, cq⟩, fun d hd n3 n4 n5 => tu.block d hd (fun e => n3 (by rw [e]; exact h.c3)) (fun e => n4 (by rw [e]; exact h.c4)) (fun a ea e => n5 (by rw [e]; exact h.c5 a ea))⟩
theorem hs_number (h : HS W w x al l n ao cap nv c) (s : Hd.Shp) (hs : s.Fit) (hlen : l.length < 65536) : Calls Tryz.prog 26 #[.pointer (some ⟨x.b.tb, 0, none⟩), .agg #[.int .i64 s.k, .int .i64 s.f, .int .u64 (s.m : Int)]] w fun e w' => e = .returned (.tuple #[.int .i64 (Hd.numV l s), .int .i64 (Hd.numE s)]) ∧ (∃ ao' cap' c', HS W w' x al (Hd.addS l s) n ao' cap' nv c') ∧ ∀ d, d < w.heap.size → c d ≠ 3 → c d ≠ 4 → c d ≠ 5 → w'.heap[d]? = w.heap[d]? :=
  (hs_number9 h s hs hlen).mono fun _ _ ⟨he, ⟨ao', cap', c', S, _⟩, hk⟩ => ⟨he, ⟨ao', cap', c', S⟩, hk⟩
/-- New blocks may be given any owner. -/
theorem HS.recol (h : HS W w x al l n ao cap nv c) (w0 : World) (h0 : HS W w0 x al l n ao cap nv c) : HS W w x al l n ao cap nv (fun d => if w0.heap.size ≤ d then 9 else c d) := by
  have cc : ∀ d, d < w0.heap.size → (fun d => if w0.heap.size ≤ d then 9 else c d) d = c d := fun d hd => if_neg (by omega)
  obtain ⟨l1, l2, l3, l4, l5⟩ := h0.alt
  obtain ⟨a1, a2, a3, a4, a5⟩ := h.cA
  obtain ⟨e1, e2, e3, e4⟩ := h.cC
  exact ⟨h.ks, h.tab, h.h0, h.h1, h.h2, h.h3, h.hf, h.num, h.mp, h.lo, h.lt, ⟨(cc _ l1).trans a1, (cc _ l2).trans a2, (cc _ l3).trans a3, (cc _ l4).trans a4, (cc _ l5).trans a5⟩, ⟨(cc _ (h0.ks.ap _ (by simp)).1).trans e1, (cc _ (h0.ks.ap _ (by simp)).1).trans e2, (cc _ (h0.ks.ap _ (by simp)).1).trans e3, (cc _ (h0.ks.ap _ (by simp)).1).trans e4⟩, (cc _ h0.tab.tlt).trans h.c3, (cc _ h0.tab.mlt).trans h.c4, fun a ea => (cc _ (h0.tab.aoB a ea).2).trans (h.c5 a ea), (cc _ h0.hlt).trans h.c6, (cc _ h0.lt).trans h.c7, fun q hq => (cc _ (h0.nlt q hq)).trans (h.c8 q hq)⟩
/-- What is not the table's is as it was. -/
def KpD (w : World) (c : Nat → Nat) (w' : World) : Prop := ∀ d, d < w.heap.size → c d ≠ 3 → c d ≠ 4 → c d ≠ 5 → w'.heap[d]? = w.heap[d]?
def AddK (w : World) (c : Nat → Nat) (l : List Hd.Shp) (s : Hd.Shp) (w' : World) : Prop := s ∈ l → KpD w c w'
set_option maxHeartbeats 1000000 in
theorem h_add9 (h : Hid (HS W w x al l n ao cap nv c)) (hln : l.length = n) (hn : n ≤ 1000) (s : Hd.Shp) (hs : s.Fit) : Calls Tryz.prog 9 #[.pointer (some ⟨x.hb, 0, none⟩), .agg #[.int .i64 s.k, .int .i64 s.f, .int .u64 (s.m : Int)]] w fun r w' => r = .returned (.tuple #[.int .i64 (Hd.numV l s), .int .i64 (Hd.numE s)]) ∧ (∃ n' ao' cap' nv' c', n' = (Hd.addS l s).length ∧ (HS W w' x al (Hd.addS l s) n' ao' cap' nv' c' ∧ K9 w c w' c')) ∧ AddK w c l s w' := by
  obtain ⟨W1, hW1⟩ : ∃ W1, W1 = w.alloc (.cells #[.int .i64 s.k, .int .i64 s.f, .int .u64 (s.m : Int)] 37) := ⟨_, rfl⟩
  have g1 : G w W1 := by rw [hW1]; exact G.alloc _ _
  have e1 : W1.heap[w.heap.size]? = some (.cells #[.int .i64 s.k, .int .i64 s.f, .int .u64 (s.m : Int)] 37) := by rw [hW1]; exact heap_alloc_new w _
  have z1 : w.heap.size < W1.heap.size := by rw [hW1, World.size_alloc]; omega
  have BX : Hid (∀ y : World, y.heap[w.heap.size]? = W1.heap[w.heap.size]? → y.cell? ⟨w.heap.size, 0, none⟩ = some (.int .i64 s.k) ∧ y.cell? ⟨w.heap.size, 1, none⟩ = some (.int .i64 s.f) ∧ y.cell? ⟨w.heap.size, 2, none⟩ = some (.int .u64 (s.m : Int))) := hide fun y hy => by
    have e := hy.trans e1
    exact ⟨by rw [cell_of_row _ _ _ _ _ _ e]; rfl, by rw [cell_of_row _ _ _ _ _ _ e]; rfl, by rw [cell_of_row _ _ _ _ _ _ e]; rfl⟩
  have HH : Hid (∀ y, G W1 y → HS W y x al l n ao cap nv (fun d => if w.heap.size ≤ d then 9 else c d)) := hide fun y g => ((unhide h).gr (g1.trans g)).recol w (unhide h)
  have TB : Hid (∀ y, G W1 y → Calls Tryz.prog 25 #[.pointer (some ⟨x.b.cb, 0, none⟩)] y fun e w' => e = .returned (.pointer (some ⟨x.b.tb, 0, none⟩)) ∧ w' = y) := hide fun y g => k_table (hide (unhide HH y g).ks)
  have NB : Hid (∀ y, G W1 y → Calls Tryz.prog 26 #[.pointer (some ⟨x.b.tb, 0, none⟩), .agg #[.int .i64 s.k, .int .i64 s.f, .int .u64 (s.m : Int)]] y fun e w' => e = .returned (.tuple #[.int .i64 (Hd.numV l s), .int .i64 (Hd.numE s)]) ∧ Hid (((∃ ao' cap' c', (HS W w' x al (Hd.addS l s) n ao' cap' nv c' ∧ K9 w c w' c')) ∧ KpD w c w') ∧ w'.heap[w.heap.size]? = W1.heap[w.heap.size]? ∧ w'.cell? ⟨x.hb, 0, none⟩ = some (.pointer (some ⟨x.b.cb, 0, none⟩)))) := hide fun y g => by
    refine (hs_number9 (unhide HH y g) s hs (by omega)).mono ?_
    rintro e w' ⟨he, ⟨ao', cap', c', S, sz, cq⟩, hk⟩
    have gs := g.size
    have k9 : K9 w c w' c' := ⟨by omega, fun d hd => ⟨(cq d (by omega)).trans (if_neg (by omega)), fun h9 => (hk d (by omega) (by rw [if_neg (by omega)]; omega) (by rw [if_neg (by omega)]; omega) (by rw [if_neg (by omega)]; omega)).trans ((g.block d (by omega)).trans (g1.block d hd))⟩⟩
    exact ⟨he, hide ⟨⟨⟨ao', cap', c', S, k9⟩, fun d hd n3 n4 n5 => (hk d (by have := g.size; omega) (by rw [if_neg (by omega)]; exact n3) (by rw [if_neg (by omega)]; exact n4) (by rw [if_neg (by omega)]; exact n5)).trans ((g.block d (by omega)).trans (g1.block d hd))⟩, (hk _ (by have := g.size; omega) (by simp) (by simp) (by simp)).trans (g.block _ z1), S.h0⟩⟩
  have HB0 : Hid (∀ y, G W1 y → y.cell? ⟨x.hb, 0, none⟩ = some (.pointer (some ⟨x.b.cb, 0, none⟩))) := hide fun y g => (unhide HH y g).h0
  obtain ⟨nV, hnV⟩ : ∃ nV, nV = Hd.numV l s := ⟨_, rfl⟩
  obtain ⟨nE, hnE⟩ : ∃ nE, nE = Hd.numE s := ⟨_, rfl⟩
  obtain ⟨sk, hsk⟩ : ∃ sk, sk = s.k := ⟨_, rfl⟩
  obtain ⟨sf, hsf⟩ : ∃ sf, sf = s.f := ⟨_, rfl⟩
  obtain ⟨sm, hsm⟩ : ∃ sm, sm = s.m := ⟨_, rfl⟩
  -- what comes of it: an error; an old one; a new one
  have WAY : Hid (∀ w2 : World, ((∃ ao' cap' c', (HS W w2 x al (Hd.addS l s) n ao' cap' nv c' ∧ K9 w c w2 c')) ∧ KpD w c w2) → ((nE != 0) = true ∧ nV = 0 ∧ (∃ n' ao' cap' nv' c', n' = (Hd.addS l s).length ∧ (HS W w2 x al (Hd.addS l s) n' ao' cap' nv' c' ∧ K9 w c w2 c')) ∧ AddK w c l s w2) ∨ (nE = 0 ∧ ((0 ≤ nV ∧ nV < (n : Int) ∧ (∃ n' ao' cap' nv' c', n' = (Hd.addS l s).length ∧ (HS W w2 x al (Hd.addS l s) n' ao' cap' nv' c' ∧ K9 w c w2 c')) ∧ AddK w c l s w2) ∨ (nV = (n : Int) ∧ (Hd.addS l s).length = n + 1 ∧ s ∉ l)))) := hide fun w2 ⟨⟨ao', cap', c', S⟩, kp⟩ => by
    rw [hnE, hnV]
    unfold Hd.numE Hd.numV
    by_cases hg : s.good = true
    · right
      rw [if_pos hg, if_pos hg]
      refine ⟨rfl, ?_⟩
      by_cases hm : s ∈ l
      · left
        have ea : Hd.addS l s = l := by unfold Hd.addS; rw [if_neg (fun e => e.2 hm)]
        have := List.idxOf_lt_length_of_mem hm
        refine ⟨by omega, by omega, ⟨n, ao', cap', nv, c', by rw [ea]; exact hln.symm, S⟩, fun _ => kp⟩
      · right
        have ea : Hd.addS l s = l ++ [s] := by unfold Hd.addS; rw [if_pos ⟨hg, hm⟩]
        refine ⟨?_, by rw [ea]; simp [hln], hm⟩
        rw [List.idxOf_eq_length hm, hln]
    · left
      have ea : Hd.addS l s = l := by unfold Hd.addS; rw [if_neg (fun e => hg e.1)]
      rw [if_neg hg, if_neg hg]
      exact ⟨rfl, rfl, ⟨n, ao', cap', nv, c', by rw [ea]; exact hln.symm, S⟩, fun _ => kp⟩
  have MP : Hid (∀ w2 : World, ((∃ ao' cap' c', (HS W w2 x al (Hd.addS l s) n ao' cap' nv c' ∧ K9 w c w2 c')) ∧ KpD w c w2) → w2.cell? ⟨x.hb, 2, none⟩ = some (.map (some x.lm)) ∧ LmAt w2 x.lm n) := hide fun w2 ⟨⟨ao', cap', c', S⟩, kp⟩ => ⟨S.1.h2, S.1.mp⟩
  have LS : Hid (∀ w2 : World, ((∃ ao' cap' c', (HS W w2 x al (Hd.addS l s) n ao' cap' nv c' ∧ K9 w c w2 c')) ∧ KpD w c w2) → (Hd.addS l s).length = n + 1 ∧ s ∉ l → Calls Tryz.prog 27 #[.pointer (some ⟨x.hb, 0, none⟩), .int .i64 (n : Int)] w2 fun r w' => r = .returned (.int .i64 (n : Int)) ∧ Hid ((∃ n' ao' cap' nv' c', n' = (Hd.addS l s).length ∧ (HS W w' x al (Hd.addS l s) n' ao' cap' nv' c' ∧ K9 w c w' c')) ∧ AddK w c l s w')) := hide fun w2 ⟨⟨ao', cap', c', S⟩, kp⟩ hl => by
    refine (h_list9 (hide S.1) hn).mono ?_
    rintro r w' ⟨hr, nv', c'', S', k9⟩
    exact ⟨hr, hide ⟨⟨n + 1, ao', cap', nv', c'', hl.1.symm, S', S.2.trans k9⟩, fun e => absurd e hl.2⟩⟩
  have hwn : wfN (n : Int) := WalkArith.wf_i64 (n := (n : Int)) (by omega)
  have hwy : Hid (∀ y : Int, 0 ≤ y → y ≤ (n : Int) → wfN y) := hide fun y h1 h2 => WalkArith.wf_i64 (n := y) (by omega)
  rw [← hnV, ← hnE] at NB ⊢
  rw [← hsk, ← hsf, ← hsm] at NB BX hW1 ⊢
  generalize Hd.addS l s = la at NB WAY MP LS ⊢
  clear h hnV hnE hsk hsf hsm e1 hs hln hn
  replace g1 := hide g1
  replace z1 := hide z1
  go_enter Tryz.func9, Tryz.ntmps9
  go_upto_region 1 with fail
  rw [← hW1]
  clear hW1
  refine wp_region_noPanic ?_
  refine wp_region_held_drew (S := fun (y : World) => y.heap[w.heap.size]? = W1.heap[w.heap.size]? ∧ y.cell? ⟨x.hb, 0, none⟩ = some (.pointer (some ⟨x.b.cb, 0, none⟩))) (by kernel_rfl) ⟨rfl, unhide HB0 _ (G.drewN W1 1)⟩ (fun hHeld => ?_)
  obtain ⟨y1, hy1⟩ : ∃ y, y = W1.drew := ⟨_, rfl⟩
  have gy : G W1 y1 := by rw [hy1]; exact G.drewN W1 1
  rw [← hy1] at hHeld ⊢
  clear hy1
  refine wpAnyH_take (i := 0) (v := .pointer (some ⟨x.hb, 0, none⟩)) rfl (by kernel_rfl) (by kernel_rfl) (by kernel_rfl) (fun _ _ _ h => h) (Or.inl ⟨by rfl, fun w hSw => by go_simp⟩) (by assumption) ?_
  try simp only [Act.put, List.getElem_toArray, List.getElem_cons_zero, List.setIfInBounds_toArray, List.set_cons_zero, List.set_cons_succ]
  refine wpAnyH_take (i := 1) (v := .pointer (some ⟨x.hb, 0, none⟩)) rfl (by kernel_rfl) (by kernel_rfl) (by kernel_rfl) (fun _ _ _ h => h) (Or.inl ⟨by rfl, fun w hSw => by go_simp⟩) (by assumption) ?_
  try simp only [Act.put, List.getElem_toArray, List.getElem_cons_succ, List.getElem_cons_zero, List.setIfInBounds_toArray, List.set_cons_zero, List.set_cons_succ]
  refine wpAnyH_take (i := 2) (v := .pointer (some ⟨x.hb, 0, none⟩)) rfl (by kernel_rfl) (by kernel_rfl) (by kernel_rfl) (fun _ _ _ h => h) (Or.inl ⟨by rfl, fun w hSw => by go_simp⟩) (by assumption) ?_
  try simp only [Act.put, List.getElem_toArray, List.getElem_cons_succ, List.getElem_cons_zero, List.setIfInBounds_toArray, List.set_cons_zero, List.set_cons_succ]
  refine wpAnyH_take (i := 3) (v := .pointer (some ⟨x.b.cb, 0, none⟩)) rfl (by kernel_rfl) (by kernel_rfl) (by kernel_rfl) (fun _ _ _ h => h) (Or.inl ⟨by rfl, fun w hSw => by have t0 := hSw.2; go_simp⟩) (by assumption) ?_
  try simp only [Act.put, List.getElem_toArray, List.getElem_cons_succ, List.getElem_cons_zero, List.setIfInBounds_toArray, List.set_cons_zero, List.set_cons_succ]
  refine wpAnyH_take (i := 5) (v := .agg #[.int .i64 sk, .int .i64 sf, .int .u64 (sm : Int)]) rfl (by kernel_rfl) (by kernel_rfl) (by kernel_rfl) (fun _ _ _ h => h) (Or.inl ⟨by rfl, fun w hSw => by obtain ⟨t0, t1, t2⟩ := unhide BX w hSw.1; go_simp⟩) (by assumption) ?_
  try simp only [Act.put, List.getElem_toArray, List.getElem_cons_succ, List.getElem_cons_zero, List.setIfInBounds_toArray, List.set_cons_zero, List.set_cons_succ]
  refine wpAnyH_ready (rs := [4]) (by kernel_rfl) (by simp) ?_
  refine AllReadyH.cons rfl (fun K hK => ?_) AllReadyH.nil
  go_simp
  refine (unhide TB y1 gy).mono ?_
  rintro e w9 ⟨rfl, hw9⟩
  rw [hw9]
  clear hw9 w9
  go_wp2_with fail
  refine hK.out _ _ hHeld (fun hH9 => ?_)
  clear hK K hH9
  try simp only [Act.put, List.getElem_toArray, List.getElem_cons_succ, List.getElem_cons_zero, List.setIfInBounds_toArray, List.set_cons_zero, List.set_cons_succ]
  refine wpAnyH_ready (rs := [6]) (by kernel_rfl) (by simp) ?_
  refine AllReadyH.cons rfl (fun K hK => ?_) AllReadyH.nil
  go_simp
  refine (unhide NB y1 gy).mono ?_
  rintro e w2 ⟨rfl, S2⟩
  go_wp2_with fail
  have hS2 := (unhide S2).2
  refine hK.out _ _ hS2 (fun hH9 => ?_)
  clear hK K
  try simp only [Act.put, List.getElem_toArray, List.getElem_cons_succ, List.getElem_cons_zero, List.setIfInBounds_toArray, List.set_cons_zero, List.set_cons_succ]
  refine wpAnyH_take (i := 7) (v := .tuple #[.int .i64 nV, .int .i64 nE]) rfl (by kernel_rfl) (by kernel_rfl) (by kernel_rfl) (fun _ _ _ h => h) (Or.inl ⟨by rfl, fun w hSw => by go_simp⟩) (by assumption) ?_
  try simp only [Act.put, List.getElem_toArray, List.getElem_cons_succ, List.getElem_cons_zero, List.setIfInBounds_toArray, List.set_cons_zero, List.set_cons_succ]
  refine wpAnyH_take (i := 8) (v := .int .i64 nV) rfl (by kernel_rfl) (by kernel_rfl) (by kernel_rfl) (fun _ _ _ h => h) (Or.inl ⟨by rfl, fun w hSw => by go_simp⟩) (by assumption) ?_
  try simp only [Act.put, List.getElem_toArray, List.getElem_cons_succ, List.getElem_cons_zero, List.setIfInBounds_toArray, List.set_cons_zero, List.set_cons_succ]
  refine wpAnyH_take (i := 9) (v := .int .i64 nE) rfl (by kernel_rfl) (by kernel_rfl) (by kernel_rfl) (fun _ _ _ h => h) (Or.inl ⟨by rfl, fun w hSw => by go_simp⟩) (by assumption) ?_
  try simp only [Act.put, List.getElem_toArray, List.getElem_cons_succ, List.getElem_cons_zero, List.setIfInBounds_toArray, List.set_cons_zero, List.set_cons_succ]
  refine wpAnyH_take (i := 10) (v := .int .i64 nV) rfl (by kernel_rfl) (by kernel_rfl) (by kernel_rfl) (fun _ _ _ h => h) (Or.inl ⟨by rfl, fun w hSw => by go_simp⟩) (by assumption) ?_
  try simp only [Act.put, List.getElem_toArray, List.getElem_cons_succ, List.getElem_cons_zero, List.setIfInBounds_toArray, List.set_cons_zero, List.set_cons_succ]
  refine wpAnyH_take (i := 11) (v := .int .i64 nE) rfl (by kernel_rfl) (by kernel_rfl) (by kernel_rfl) (fun _ _ _ h => h) (Or.inl ⟨by rfl, fun w hSw => by go_simp⟩) (by assumption) ?_
  try simp only [Act.put, List.getElem_toArray, List.getElem_cons_succ, List.getElem_cons_zero, List.setIfInBounds_toArray, List.set_cons_zero, List.set_cons_succ]
  refine wpAnyH_done (by kernel_rfl) (NoPanic.normal ?_) _
  clear hHeld gy TB NB HB0 HH BX hS2 hH9
  have S3 := hide (unhide S2).1
  clear S2
  rcases unhide WAY w2 (unhide S3) with ⟨he, rfl, FE⟩ | ⟨rfl, ⟨h0, h1, FE⟩ | ⟨rfl, hl⟩⟩
  · replace FE := hide FE
    clear WAY MP LS
    go_wp2_with fail
    go_ret2
    exact ⟨rfl, unhide FE⟩
  · replace FE := hide FE
    obtain ⟨q2, D, hD, hK⟩ := unhide MP w2 (unhide S3)
    have hwV := unhide hwy nV h0 (by omega)
    have hkey : keyOf Tryz.prog 3 (.int .i64 nV) = some (.int .i64 nV) := keyOf_int_mk Tryz.underlying3 hwV
    have hhas : Maps.has D (.int .i64 nV) = true := by rw [(hK _ hwV).1]; simp; omega
    have hat0 := (hK _ hwV).2 ⟨h0, h1⟩
    clear WAY MP LS hK h0 h1 S3
    go_upto_region 5 with (at_lookup; refine wpList_lookup_own_ok_int _ rfl _ _ 69 rfl 3 3 .i64 keyI Tryz.underlying69 Tryz.underlying3 (zero_intH _) x.lm n D rfl hD _ _ rfl hkey ?_; intro cc hat hwc; obtain rfl : cc = nV := (by rw [hat0] at hat; simpa using hat.symm); rw [hhas])
    go_wp2_with fail
    go_ret2
    exact ⟨rfl, unhide FE⟩
  · obtain ⟨q2, D, hD, hK⟩ := unhide MP w2 (unhide S3)
    have hkey : keyOf Tryz.prog 3 (.int .i64 (n : Int)) = some (.int .i64 (n : Int)) := keyOf_int_mk Tryz.underlying3 hwn
    have hhas : Maps.has D (.int .i64 (n : Int)) = false := by rw [(hK _ hwn).1]; simp
    have CL := hide (unhide LS w2 (unhide S3) hl)
    clear WAY MP LS hK hl S3
    go_upto_region 5 with (at_lookup; refine wpList_lookup_own_ok_int _ rfl _ _ 69 rfl 3 3 .i64 keyI Tryz.underlying69 Tryz.underlying3 (zero_intH _) x.lm n D rfl hD _ _ rfl hkey ?_; intro cc hat hwc; rw [hhas])
    go_wp2_with fail
    refine (unhide CL).mono ?_
    rintro r w4 ⟨rfl, FE⟩
    clear CL
    go_wp2_with fail
    go_ret2
    exact ⟨rfl, unhide FE⟩
theorem h_add (h : Hid (HS W w x al l n ao cap nv c)) (hln : l.length = n) (hn : n ≤ 1000) (s : Hd.Shp) (hs : s.Fit) : Calls Tryz.prog 9 #[.pointer (some ⟨x.hb, 0, none⟩), .agg #[.int .i64 s.k, .int .i64 s.f, .int .u64 (s.m : Int)]] w fun r w' => r = .returned (.tuple #[.int .i64 (Hd.numV l s), .int .i64 (Hd.numE s)]) ∧ (∃ n' ao' cap' nv' c', n' = (Hd.addS l s).length ∧ HS W w' x al (Hd.addS l s) n' ao' cap' nv' c') ∧ AddK w c l s w' :=
  (h_add9 h hln hn s hs).mono fun _ _ ⟨hr, ⟨n', ao', cap', nv', c', hn', S, _⟩, hk⟩ => ⟨hr, ⟨n', ao', cap', nv', c', hn', S⟩, hk⟩
end
end Go.Proofs.YtahhkehijokhnaaGreatDoor

/- Package heap: New. -/
namespace Go.Proofs.YtahhkehijokhnaaGreatDoor
set_option maxRecDepth 100000
open Go.ChangeShapes Go.WideShapes Go.ChangeAt Go.RowKit Go.Maps Go.Deep

theorem hs_start {W w : World} {xl : Ld} {b : Kn} {N tm : Nat} (K : KS W w xl b (al0 N) 0 64 0) (T : Hd.TabAt w W.heap.size b.tb tm none 0 []) (A : ∀ d ∈ [b.cb, b.mb, b.kb, b.q, xl.d.ab, xl.d.wb, xl.d.sb, xl.ub, xl.lb], d ≠ b.tb ∧ d ≠ tm ∧ d < w.heap.size) (ht : b.tb ≠ tm) :
    ∃ c, HS W ((w.alloc (.map #[] 0)).alloc (.cells #[.pointer (some ⟨b.cb, 0, none⟩), .slice none 0 0, .map (some w.heap.size), .int .i64 0] 72)) ⟨xl, b, tm, w.heap.size + 1, w.heap.size⟩ (al0 N) [] 0 none 0 (.slice none 0 0) c := by
  have hW := K.st.below.size
  have z1 : (w.alloc (.map #[] 0)).heap.size = w.heap.size + 1 := World.size_alloc _ _
  have bm : ((w.alloc (.map #[] 0)).alloc (.cells #[.pointer (some ⟨b.cb, 0, none⟩), .slice none 0 0, .map (some w.heap.size), .int .i64 0] 72)).heap[w.heap.size + 1]? = some (.cells #[.pointer (some ⟨b.cb, 0, none⟩), .slice none 0 0, .map (some w.heap.size), .int .i64 0] 72 (0, 0)) := by
    have := heap_alloc_new (w.alloc (.map #[] 0)) (.cells #[.pointer (some ⟨b.cb, 0, none⟩), .slice none 0 0, .map (some w.heap.size), .int .i64 0] 72)
    rw [z1] at this
    exact this
  have g : G w ((w.alloc (.map #[] 0)).alloc (.cells #[.pointer (some ⟨b.cb, 0, none⟩), .slice none 0 0, .map (some w.heap.size), .int .i64 0] 72)) := (G.alloc _ _).more _
  have LM : LmAt ((w.alloc (.map #[] 0)).alloc (.cells #[.pointer (some ⟨b.cb, 0, none⟩), .slice none 0 0, .map (some w.heap.size), .int .i64 0] 72)) w.heap.size 0 :=
    ⟨.map [], (World.ownsMap_made w _ _ _).alloc _, fun y _ => ⟨by rw [Maps.has_eq]; simp, fun h => absurd h.2 (by simpa using h.1)⟩⟩
  have z2 : ((w.alloc (.map #[] 0)).alloc (.cells #[.pointer (some ⟨b.cb, 0, none⟩), .slice none 0 0, .map (some w.heap.size), .int .i64 0] 72)).heap.size = w.heap.size + 2 := by rw [World.size_alloc, z1]
  generalize (w.alloc (.map #[] 0)).alloc (.cells #[.pointer (some ⟨b.cb, 0, none⟩), .slice none 0 0, .map (some w.heap.size), .int .i64 0] 72) = w2 at *
  have hc : ∀ i : Nat, w2.cell? ⟨w.heap.size + 1, i, none⟩ = #[Value.pointer (some ⟨b.cb, 0, none⟩), .slice none 0 0, .map (some w.heap.size), .int .i64 0][i]? := fun i => by rw [cell_of_row _ _ _ _ _ _ bm]
  have l1 := T.tlt
  have l2 := T.mlt
  have F : ∀ d ∈ [b.cb, b.mb, b.kb, b.q, xl.d.ab, xl.d.wb, xl.d.sb, xl.ub, xl.lb], ∀ u v : Nat, (if d = b.tb then 3 else if d = tm then 4 else if d = w.heap.size + 1 then 6 else if d = w.heap.size then 7 else if d ∈ [b.cb, b.mb, b.kb, b.q] then u else v) = if d ∈ [b.cb, b.mb, b.kb, b.q] then u else v := fun d hd u v => by
    obtain ⟨a1, a2, a3⟩ := A d hd
    rw [if_neg a1, if_neg a2, if_neg (by omega), if_neg (by omega)]
  have F1 : ∀ d ∈ [xl.d.ab, xl.d.wb, xl.d.sb, xl.ub, xl.lb], d ∉ [b.cb, b.mb, b.kb, b.q] := fun d hd hm => by
    obtain ⟨_, _, k1, k2, k3, k4, k5⟩ := K.ap d hm
    simp only [List.mem_cons, List.not_mem_nil, or_false] at hd
    rcases hd with e | e | e | e | e
    · exact k4 e
    · exact k1 e
    · exact k2 e
    · exact k3 e
    · exact k5 e
  refine ⟨fun d => if d = b.tb then 3 else if d = tm then 4 else if d = w.heap.size + 1 then 6 else if d = w.heap.size then 7 else if d ∈ [b.cb, b.mb, b.kb, b.q] then 2 else 1, K.gr g, T.grown g, hc 0, hc 1, hc 2, hc 3, fun i => by simp [World.frozen?, bm], World.ownsRow_nil _ _ _ _, LM, ⟨by simp only; omega, by simp only; omega⟩, by simp only; omega, ?_, ?_, ?_, ?_, (fun a ea => by cases ea), ?_, ?_, (fun k hk => by cases hk)⟩
  · refine ⟨?_, ?_, ?_, ?_, ?_⟩
    · exact (F _ (by simp) 2 1).trans (if_neg (F1 _ (by simp)))
    · exact (F _ (by simp) 2 1).trans (if_neg (F1 _ (by simp)))
    · exact (F _ (by simp) 2 1).trans (if_neg (F1 _ (by simp)))
    · exact (F _ (by simp) 2 1).trans (if_neg (F1 _ (by simp)))
    · exact (F _ (by simp) 2 1).trans (if_neg (F1 _ (by simp)))
  · refine ⟨?_, ?_, ?_, ?_⟩
    · exact (F _ (by simp) 2 1).trans (if_pos (by simp))
    · exact (F _ (by simp) 2 1).trans (if_pos (by simp))
    · exact (F _ (by simp) 2 1).trans (if_pos (by simp))
    · exact (F _ (by simp) 2 1).trans (if_pos (by simp))
  · exact if_pos rfl
  · show (if tm = b.tb then 3 else _) = 4
    rw [if_neg (Ne.symm ht), if_pos rfl]
  · show (if w.heap.size + 1 = b.tb then 3 else if w.heap.size + 1 = tm then 4 else if w.heap.size + 1 = w.heap.size + 1 then 6 else _) = 6
    rw [if_neg (by omega), if_neg (by omega), if_pos rfl]
  · show (if w.heap.size = b.tb then 3 else if w.heap.size = tm then 4 else if w.heap.size = w.heap.size + 1 then 6 else if w.heap.size = w.heap.size then 7 else _) = 7
    rw [if_neg (by omega), if_neg (by omega), if_neg (by omega), if_pos rfl]
set_option maxHeartbeats 2000000 in
theorem h_new {W : World} (N : Nat) (h0 : 8 ≤ N) (h1 : N ≤ 512) (ht : Hid (Tab W)) (rb off cp : Nat) (ls : List Hd.Shp) (n : Nat) (hn : n = ls.length) (hlen : n ≤ 1000) (HG : Hid (∀ s ∈ ls, s.Fit ∧ s.good = true)) (ND : Hid ls.Nodup) (hb : rb < W.heap.size)
    (HE : Hid (∀ i s, ls[i]? = some s → W.cell? ⟨rb, off + i * 3, none⟩ = some (.int .i64 s.k) ∧ W.cell? ⟨rb, off + i * 3 + 1, none⟩ = some (.int .i64 s.f) ∧ W.cell? ⟨rb, off + i * 3 + 2, none⟩ = some (.int .u64 (s.m : Int)))) :
    Calls Tryz.prog 7 #[.int .i64 (N : Int), .slice (some ⟨rb, off, none⟩) n cp] W fun e w' => ∃ x, e = .returned (.tuple #[.pointer (some ⟨x.hb, 0, none⟩), .int .i64 0]) ∧ ∃ ao cap nv c, HS W w' x (al0 N) ls n ao cap nv c := by
  have hmm := @run_makeMap Tryz.prog
  have KN := hide (k_newT (W := W) (w := W) N h0 h1 (hide (Below.refl _ _)) ht)
  have hnn := hide hn
  replace h0 := hide h0
  replace h1 := hide h1
  clear hn
  go_enter Tryz.func7, Tryz.ntmps7
  go_wp2_with fail
  refine (unhide KN).mono ?_
  rintro e w1 ⟨xl, b, tm, rfl, K1, T1, A1, ht1⟩
  clear KN
  have KK := hide (And.intro K1 (And.intro T1 (And.intro A1 ht1)))
  clear K1 T1 A1 ht1
  go_wp2_with fail
  go_loopw [25] (fun c wr => ∃ t : Nat, t ≤ n ∧ c = .int .i64 t ∧ Hid (G w1 wr)) (fun c _ => n - (intOf c).toNat)
  case atStart => exact ⟨0, Nat.zero_le _, rfl, hide (G.refl _)⟩
  case round =>
    obtain ⟨t, htn, rfl, g⟩ := hrel
    by_cases hj : t = n
    · have hj' : n = t := hj.symm
      subst hj'
      clear hj
      obtain ⟨wa, hwa⟩ : ∃ wa, wa = wr := ⟨_, rfl⟩
      rw [← hwa] at g ⊢
      clear hwa
      have ST := hide (hs_start ((unhide KK).1.gr (unhide g)) ((unhide KK).2.1.grown (unhide g)) (fun d hd => ⟨((unhide KK).2.2.1 d hd).1, ((unhide KK).2.2.1 d hd).2.1, Nat.lt_of_lt_of_le ((unhide KK).2.2.1 d hd).2.2 (unhide g).size⟩) (unhide KK).2.2.2)
      obtain ⟨x, hx⟩ : ∃ x : Hx, x = ⟨xl, b, tm, wa.heap.size + 1, wa.heap.size⟩ := ⟨_, rfl⟩
      have xb : x.hb = wa.heap.size + 1 := by rw [hx]
      have xc : x.b.cb = b.cb := by rw [hx]
      rw [← hx] at ST
      clear hx g KK
      replace xb := hide xb
      replace xc := hide xc
      go_wp2_with fail
      go_loopw [39] (fun c wr => ∃ t : Nat, t ≤ n ∧ c = .int .i64 t ∧ Hid (∃ ao cap nv c, HS W wr x (al0 N) (ls.take t) t ao cap nv c)) (fun c _ => n - (intOf c).toNat)
      case atStart =>
        refine ⟨0, Nat.zero_le _, rfl, hide ?_⟩
        obtain ⟨c, S⟩ := unhide ST
        exact ⟨none, 0, .slice none 0 0, c, S⟩
      case round =>
        obtain ⟨t, htn, rfl, SS⟩ := hrel
        clear ST
        by_cases hj : t = n
        · have hj' : n = t := hj.symm
          subst hj'
          go_wp2_with fail
          go_ret2
          obtain ⟨ao, cap, nv, c, S⟩ := unhide SS
          refine ⟨x, by rw [unhide xb]; rfl, ao, cap, nv, c, ?_⟩
          rw [List.take_of_length_le (by have := unhide hnn; omega)] at S
          exact S
        · have hjl : (t : Int) < (n : Int) := by omega
          obtain ⟨s, hs⟩ : ∃ s, ls[t]? = some s := ⟨ls[t]'(by have := unhide hnn; omega), List.getElem?_eq_getElem _⟩
          obtain ⟨ao, cap, nv, c, S⟩ := unhide SS
          clear SS
          have hbw : Below W.heap.size W wr := S.ks.st.below
          have hbk : rb < wr.heap.size := Nat.lt_of_lt_of_le hb hbw.size
          have y0 := (hbw.cell (p := ⟨rb, off + t * 3, none⟩) hb).trans (unhide HE t s hs).1
          have y1 := (hbw.cell (p := ⟨rb, off + t * 3 + 1, none⟩) hb).trans (unhide HE t s hs).2.1
          have y2 := (hbw.cell (p := ⟨rb, off + t * 3 + 2, none⟩) hb).trans (unhide HE t s hs).2.2
          obtain ⟨hfit, hgood⟩ := unhide HG s (List.mem_of_getElem? hs)
          have hnot : s ∉ ls.take t := fun hm => by
            obtain ⟨q, hq⟩ := List.getElem?_of_mem hm
            rw [List.getElem?_take] at hq
            split at hq
            · rename_i hqt
              have := (List.getElem?_inj (i := q) (j := t) (by have := unhide hnn; omega) (unhide ND)).1 (hq.trans hs.symm)
              omega
            · cases hq
          have htl : (ls.take t).length = t := by rw [List.length_take]; have := unhide hnn; omega
          have hadd : Hd.addS (ls.take t) s = ls.take (t + 1) := by
            unfold Hd.addS
            rw [if_pos ⟨hgood, hnot⟩, List.take_add_one, hs]
            rfl
          have hV : Hd.numV (ls.take t) s = (t : Int) := by
            unfold Hd.numV
            rw [if_pos hgood, List.idxOf_eq_length hnot, htl]
          have hE0 : Hd.numE s = 0 := by unfold Hd.numE; rw [if_pos hgood]
          obtain ⟨W1, hW1⟩ : ∃ W1, W1 = wr.alloc (.cells #[.int .i64 s.k, .int .i64 s.f, .int .u64 (s.m : Int)] 37) := ⟨_, rfl⟩
          have g1 : G wr W1 := by rw [hW1]; exact G.alloc _ _
          have e1 : W1.heap[wr.heap.size]? = some (.cells #[.int .i64 s.k, .int .i64 s.f, .int .u64 (s.m : Int)] 37) := by rw [hW1]; exact heap_alloc_new wr _
          have z1 : wr.heap.size < W1.heap.size := by rw [hW1, World.size_alloc]; omega
          have BX : Hid (∀ y : World, y.heap[wr.heap.size]? = W1.heap[wr.heap.size]? → y.cell? ⟨wr.heap.size, 0, none⟩ = some (.int .i64 s.k) ∧ y.cell? ⟨wr.heap.size, 1, none⟩ = some (.int .i64 s.f) ∧ y.cell? ⟨wr.heap.size, 2, none⟩ = some (.int .u64 (s.m : Int))) := hide fun y hy => by
            have e := hy.trans e1
            exact ⟨by rw [cell_of_row _ _ _ _ _ _ e]; rfl, by rw [cell_of_row _ _ _ _ _ _ e]; rfl, by rw [cell_of_row _ _ _ _ _ _ e]; rfl⟩
          have HH : Hid (∀ y, G W1 y → HS W y x (al0 N) (ls.take t) t ao cap nv (fun d => if wr.heap.size ≤ d then 9 else c d)) := hide fun y g => (S.gr (g1.trans g)).recol wr S
          have TB : Hid (∀ y, G W1 y → Calls Tryz.prog 25 #[.pointer (some ⟨b.cb, 0, none⟩)] y fun e w' => e = .returned (.pointer (some ⟨x.b.tb, 0, none⟩)) ∧ w' = y) := hide fun y g => by
            rw [← unhide xc]
            exact k_table (hide (unhide HH y g).ks)
          have NB : Hid (∀ y, G W1 y → Calls Tryz.prog 26 #[.pointer (some ⟨x.b.tb, 0, none⟩), .agg #[.int .i64 s.k, .int .i64 s.f, .int .u64 (s.m : Int)]] y fun e w' => e = .returned (.tuple #[.int .i64 (t : Int), .int .i64 0]) ∧ Hid ((∃ ao' cap' c', HS W w' x (al0 N) (ls.take (t + 1)) t ao' cap' nv c') ∧ w'.heap[wr.heap.size]? = W1.heap[wr.heap.size]?)) := hide fun y g => by
            refine (hs_number (unhide HH y g) s hfit (by rw [htl]; omega)).mono ?_
            rintro e w' ⟨he, ⟨ao', cap', c', S⟩, hk⟩
            rw [hadd] at S
            rw [hV, hE0] at he
            exact ⟨he, hide ⟨⟨ao', cap', c', S⟩, (hk _ (by have := g.size; omega) (by simp) (by simp) (by simp)).trans (g.block _ z1)⟩⟩
          have LS : Hid (∀ w2 : World, (∃ ao' cap' c', HS W w2 x (al0 N) (ls.take (t + 1)) t ao' cap' nv c') → Calls Tryz.prog 27 #[.pointer (some ⟨wa.heap.size + 1, 0, none⟩), .int .i64 (t : Int)] w2 fun r w' => r = .returned (.int .i64 (t : Int)) ∧ Hid (∃ ao cap nv c, HS W w' x (al0 N) (ls.take (t + 1)) (t + 1) ao cap nv c)) := hide fun w2 ⟨ao', cap', c', S⟩ => by
            rw [← unhide xb]
            refine (h_list (hide S) (by omega)).mono ?_
            rintro r w' ⟨hr, nv', c'', S'⟩
            exact ⟨hr, hide ⟨ao', cap', nv', c'', S'⟩⟩
          obtain ⟨sk, hsk⟩ : ∃ sk, sk = s.k := ⟨_, rfl⟩
          obtain ⟨sf, hsf⟩ : ∃ sf, sf = s.f := ⟨_, rfl⟩
          obtain ⟨sm, hsm⟩ : ∃ sm, sm = s.m := ⟨_, rfl⟩
          rw [← hsk, ← hsf, ← hsm] at NB BX hW1
          rw [← hsk] at y0
          rw [← hsf] at y1
          rw [← hsm] at y2
          clear hsk hsf hsm e1 S hbw hfit hgood hnot htl hadd hV hE0 HH hs hj
          replace g1 := hide g1
          replace z1 := hide z1
          go_upto_region 14 with fail
          rw [← hW1]
          clear hW1 y0 y1 y2 hbk
          refine wp_region_noPanic ?_
          refine wp_region_held_drew (S := fun (y : World) => y.heap[wr.heap.size]? = W1.heap[wr.heap.size]?) (by kernel_rfl) rfl (fun hHeld => ?_)
          obtain ⟨y1, hy1⟩ : ∃ y, y = W1.drew := ⟨_, rfl⟩
          have gy : G W1 y1 := by rw [hy1]; exact G.drewN W1 1
          rw [← hy1] at hHeld ⊢
          clear hy1
          refine wpAnyH_take (i := 0) (v := .pointer (some ⟨b.cb, 0, none⟩)) rfl (by kernel_rfl) (by kernel_rfl) (by kernel_rfl) (fun _ _ _ h => h) (Or.inl ⟨by rfl, fun w hSw => by go_simp⟩) (by assumption) ?_
          try simp only [Act.put, List.getElem_toArray, List.getElem_cons_zero, List.setIfInBounds_toArray, List.set_cons_zero, List.set_cons_succ]
          refine wpAnyH_take (i := 2) (v := .agg #[.int .i64 sk, .int .i64 sf, .int .u64 (sm : Int)]) rfl (by kernel_rfl) (by kernel_rfl) (by kernel_rfl) (fun _ _ _ h => h) (Or.inl ⟨by rfl, fun w hSw => by obtain ⟨t0, t1, t2⟩ := unhide BX w hSw; go_simp⟩) (by assumption) ?_
          try simp only [Act.put, List.getElem_toArray, List.getElem_cons_succ, List.getElem_cons_zero, List.setIfInBounds_toArray, List.set_cons_zero, List.set_cons_succ]
          refine wpAnyH_ready (rs := [1]) (by kernel_rfl) (by simp) ?_
          refine AllReadyH.cons rfl (fun K hK => ?_) AllReadyH.nil
          go_simp
          refine (unhide TB y1 gy).mono ?_
          rintro e w9 ⟨rfl, hw9⟩
          rw [hw9]
          clear hw9 w9
          go_wp2_with fail
          refine hK.out _ _ hHeld (fun hH9 => ?_)
          clear hK K hH9
          try simp only [Act.put, List.getElem_toArray, List.getElem_cons_succ, List.getElem_cons_zero, List.setIfInBounds_toArray, List.set_cons_zero, List.set_cons_succ]
          refine wpAnyH_ready (rs := [3]) (by kernel_rfl) (by simp) ?_
          refine AllReadyH.cons rfl (fun K hK => ?_) AllReadyH.nil
          go_simp
          refine (unhide NB y1 gy).mono ?_
          rintro e w2 ⟨rfl, S2⟩
          go_wp2_with fail
          have hS2 := (unhide S2).2
          refine hK.out _ _ hS2 (fun hH9 => ?_)
          clear hK K
          try simp only [Act.put, List.getElem_toArray, List.getElem_cons_succ, List.getElem_cons_zero, List.setIfInBounds_toArray, List.set_cons_zero, List.set_cons_succ]
          refine wpAnyH_take (i := 4) (v := .tuple #[.int .i64 (t : Int), .int .i64 0]) rfl (by kernel_rfl) (by kernel_rfl) (by kernel_rfl) (fun _ _ _ h => h) (Or.inl ⟨by rfl, fun w hSw => by go_simp⟩) (by assumption) ?_
          try simp only [Act.put, List.getElem_toArray, List.getElem_cons_succ, List.getElem_cons_zero, List.setIfInBounds_toArray, List.set_cons_zero, List.set_cons_succ]
          refine wpAnyH_take (i := 5) (v := .int .i64 (t : Int)) rfl (by kernel_rfl) (by kernel_rfl) (by kernel_rfl) (fun _ _ _ h => h) (Or.inl ⟨by rfl, fun w hSw => by go_simp⟩) (by assumption) ?_
          try simp only [Act.put, List.getElem_toArray, List.getElem_cons_succ, List.getElem_cons_zero, List.setIfInBounds_toArray, List.set_cons_zero, List.set_cons_succ]
          refine wpAnyH_take (i := 6) (v := .int .i64 0) rfl (by kernel_rfl) (by kernel_rfl) (by kernel_rfl) (fun _ _ _ h => h) (Or.inl ⟨by rfl, fun w hSw => by go_simp⟩) (by assumption) ?_
          try simp only [Act.put, List.getElem_toArray, List.getElem_cons_succ, List.getElem_cons_zero, List.setIfInBounds_toArray, List.set_cons_zero, List.set_cons_succ]
          refine wpAnyH_take (i := 7) (v := .int .i64 (t : Int)) rfl (by kernel_rfl) (by kernel_rfl) (by kernel_rfl) (fun _ _ _ h => h) (Or.inl ⟨by rfl, fun w hSw => by go_simp⟩) (by assumption) ?_
          try simp only [Act.put, List.getElem_toArray, List.getElem_cons_succ, List.getElem_cons_zero, List.setIfInBounds_toArray, List.set_cons_zero, List.set_cons_succ]
          refine wpAnyH_take (i := 8) (v := .int .i64 0) rfl (by kernel_rfl) (by kernel_rfl) (by kernel_rfl) (fun _ _ _ h => h) (Or.inl ⟨by rfl, fun w hSw => by go_simp⟩) (by assumption) ?_
          try simp only [Act.put, List.getElem_toArray, List.getElem_cons_succ, List.getElem_cons_zero, List.setIfInBounds_toArray, List.set_cons_zero, List.set_cons_succ]
          refine wpAnyH_done (by kernel_rfl) (NoPanic.normal ?_) _
          have CL := hide (unhide LS w2 (unhide S2).1)
          clear hHeld gy TB NB BX hS2 hH9 S2 LS g1 z1
          go_wp2_with fail
          refine (unhide CL).mono ?_
          rintro r w4 ⟨rfl, FE⟩
          clear CL
          go_wp2_with fail
          go_round
          case rel => exact ⟨t + 1, by omega, by go_num, FE⟩
          case measure => simp [intOf]; omega
    · have hjl : (t : Int) < (n : Int) := by omega
      obtain ⟨s, hs⟩ : ∃ s, ls[t]? = some s := ⟨ls[t]'(by have := unhide hnn; omega), List.getElem?_eq_getElem _⟩
      have hgood : Hd.goodB s.k s.f s.m = true := (unhide HG s (List.mem_of_getElem? hs)).2
      have hbw : Below W.heap.size W wr := Below.trans (unhide KK).1.st.below ((unhide g).mono (unhide KK).1.st.below.size)
      have hbk : rb < wr.heap.size := Nat.lt_of_lt_of_le hb hbw.size
      have y0 := (hbw.cell (p := ⟨rb, off + t * 3, none⟩) hb).trans (unhide HE t s hs).1
      have y1 := (hbw.cell (p := ⟨rb, off + t * 3 + 1, none⟩) hb).trans (unhide HE t s hs).2.1
      have y2 := (hbw.cell (p := ⟨rb, off + t * 3 + 2, none⟩) hb).trans (unhide HE t s hs).2.2
      clear hj hs hbw
      go_wp2_with fail
      refine (Hd.good_any _ _ _ _).mono ?_
      rintro e w2 ⟨rfl, hw2⟩
      have g2 : Hid (G w1 w2) := hide (by rw [hw2]; exact (((unhide g).more _).more _))
      rw [hgood]
      clear hw2 hgood y0 y1 y2 hbk g
      go_wp2_with fail
      go_round
      case rel => exact ⟨t + 1, by omega, by go_num, g2⟩
      case measure => simp [intOf]; omega

end Go.Proofs.YtahhkehijokhnaaGreatDoor

/- A Heap in memory, whatever its collector does: the black stacks, the grey ones; Shade, Black, Barrier, Left. -/
namespace Go.Proofs.YtahhkehijokhnaaGreatDoor
set_option maxRecDepth 100000
open Go.ChangeShapes Go.WideShapes Go.ChangeAt Go.RowKit Go.Maps Go.ChangeMaps Go.MapKept Go.Deep

/-- The black stacks' map. -/
def BkAt (w : World) (mb : Nat) (bk : List Int) : Prop := ∃ D : DataW Unit, w.ownsMap Tryz.prog 3 unitElem mb bk.length D ∧ ∀ y, wfN y → Maps.has D (.int .i64 y) = decide (y ∈ bk)
theorem BkAt.kept {w w' : World} {mb : Nat} {bk : List Int} (h : BkAt w mb bk) (e : w'.heap[mb]? = w.heap[mb]?) : BkAt w' mb bk := by
  obtain ⟨D, ⟨es, c, hb, r⟩, hh⟩ := h
  exact ⟨D, ⟨es, c, e.trans hb, r⟩, hh⟩
theorem BkAt.lt {w : World} {mb : Nat} {bk : List Int} (h : BkAt w mb bk) : mb < w.heap.size := by
  obtain ⟨D, ⟨es, c, hb, r⟩, hh⟩ := h
  rcases Nat.lt_or_ge mb w.heap.size with h1 | h1
  · exact h1
  · rw [Array.getElem?_eq_none h1] at hb; cases hb
/-- The Cycle's own cells. -/
structure CbAt (w : World) (x : Hx) (ph kept done : Int) : Prop where
  c0 : w.cell? ⟨x.b.cb, 0, none⟩ = some (.pointer (some ⟨x.xl.d.ab, 0, none⟩))
  c1 : w.cell? ⟨x.b.cb, 1, none⟩ = some (.pointer (some ⟨x.xl.lb, 0, none⟩))
  c2 : w.cell? ⟨x.b.cb, 2, none⟩ = some (.pointer (some ⟨x.b.tb, 0, none⟩))
  c3 : w.cell? ⟨x.b.cb, 3, none⟩ = some (.pointer (some ⟨x.b.kb, 0, none⟩))
  c4 : w.cell? ⟨x.b.cb, 4, none⟩ = some (.int .i64 ph)
  c5 : w.cell? ⟨x.b.cb, 5, none⟩ = some (.map (some x.b.mb))
  c6 : w.cell? ⟨x.b.cb, 6, none⟩ = some (.int .i64 kept)
  c7 : w.cell? ⟨x.b.cb, 7, none⟩ = some (.int .i64 done)
  fz : ∀ i, w.frozen? ⟨x.b.cb, i, none⟩ = false
theorem CbAt.kept {w w' : World} {x : Hx} {ph kept done : Int} (h : CbAt w x ph kept done) (e : w'.heap[x.b.cb]? = w.heap[x.b.cb]?) : CbAt w' x ph kept done :=
  ⟨(World.cell?_of_block (a := ⟨x.b.cb, 0, none⟩) e).trans h.c0, (World.cell?_of_block (a := ⟨x.b.cb, 1, none⟩) e).trans h.c1, (World.cell?_of_block (a := ⟨x.b.cb, 2, none⟩) e).trans h.c2, (World.cell?_of_block (a := ⟨x.b.cb, 3, none⟩) e).trans h.c3, (World.cell?_of_block (a := ⟨x.b.cb, 4, none⟩) e).trans h.c4, (World.cell?_of_block (a := ⟨x.b.cb, 5, none⟩) e).trans h.c5, (World.cell?_of_block (a := ⟨x.b.cb, 6, none⟩) e).trans h.c6, (World.cell?_of_block (a := ⟨x.b.cb, 7, none⟩) e).trans h.c7, fun i => (World.frozen?_of_block (a := ⟨x.b.cb, i, none⟩) e).trans (h.fz i)⟩
theorem CbAt.phase {w : World} {x : Hx} {ph kept done : Int} (h : CbAt w x ph kept done) (p : Int) : CbAt (w.setCell ⟨x.b.cb, 4, none⟩ (.int .i64 p)) x p kept done :=
  ⟨cellO (by decide) h.c0, cellO (by decide) h.c1, cellO (by decide) h.c2, cellO (by decide) h.c3, cell_same _ h.c4, cellO (by decide) h.c5, cellO (by decide) h.c6, cellO (by decide) h.c7, fun i => by rw [World.frozen?_setCell]; exact h.fz i⟩
/-- A Heap: c: whose block is it: 1 arena and allocator's rows, 16 their heads, 2 the Cycle, 12 the marker, 13 the black ones, 14 and 15 the queue, 3 table, 4 its map, 5 its row, 6 the Heap, 7 least, 8 numbers. -/
structure HG (W w : World) (x : Hx) (al : Al) (l : List Hd.Shp) (n : Nat) (ao : Option Addr) (cap : Nat) (nv : Value) (c : Nat → Nat) (ph kept done fc : Int) (bk gl : List Int) (qs : List Nat) : Prop where
  st : StL W w x.xl al
  cb : CbAt w x ph kept done
  mp : BkAt w x.b.mb bk
  k0 : w.cell? ⟨x.b.kb, 0, none⟩ = some (.pointer (some ⟨x.xl.d.ab, 0, none⟩))
  k2 : w.cell? ⟨x.b.kb, 2, none⟩ = some (.pointer (some ⟨x.b.q, 0, none⟩))
  k1 : w.cell? ⟨x.b.kb, 1, none⟩ = some (.pointer (some ⟨x.b.tb, 0, none⟩))
  que : Gy.QL w x.b.q qs gl
  tab : Hd.TabAt w W.heap.size x.b.tb x.tm ao cap l
  h0 : w.cell? ⟨x.hb, 0, none⟩ = some (.pointer (some ⟨x.b.cb, 0, none⟩))
  h1 : w.cell? ⟨x.hb, 1, none⟩ = some nv
  h2 : w.cell? ⟨x.hb, 2, none⟩ = some (.map (some x.lm))
  h3 : w.cell? ⟨x.hb, 3, none⟩ = some (.int .i64 fc)
  hf : ∀ i, w.frozen? ⟨x.hb, i, none⟩ = false
  num : NrAt w W.heap.size nv n
  lmp : LmAt w x.lm n
  lo : W.heap.size ≤ x.b.cb ∧ W.heap.size ≤ x.b.kb ∧ W.heap.size ≤ x.b.mb ∧ W.heap.size ≤ x.b.q ∧ W.heap.size ≤ x.hb ∧ W.heap.size ≤ x.lm
  lq : ∀ d ∈ qs, W.heap.size ≤ d
  lt : x.lm < w.heap.size
  a1 : c x.xl.d.wb = 1 ∧ c x.xl.d.sb = 1 ∧ c x.xl.ub = 1
  a2 : c x.xl.d.ab = 16 ∧ c x.xl.lb = 16
  kc : c x.b.cb = 2 ∧ c x.b.kb = 12 ∧ c x.b.mb = 13 ∧ c x.b.q = 14
  cq : ∀ d ∈ qs, c d = 15
  c3 : c x.b.tb = 3
  c4 : c x.tm = 4
  c5 : ∀ a, ao = some a → c a.block = 5
  c6 : c x.hb = 6
  c7 : c x.lm = 7
  c8 : ∀ k, nv.ownBlock = some k → c k = 8
section
variable {W w w' : World} {x : Hx} {al al' : Al} {l : List Hd.Shp} {n : Nat} {ao : Option Addr} {cap : Nat} {nv : Value} {c c' : Nat → Nat} {ph kept done fc ph' kept' done' : Int} {bk gl bk' gl' : List Int} {qs qs' : List Nat}
theorem HG.hB (h : HG W w x al l n ao cap nv c ph kept done fc bk gl qs) : HB W w x al l ao cap := ⟨h.st, h.cb.c0, h.cb.c2, h.tab, h.h0⟩
theorem HG.alt (h : HG W w x al l n ao cap nv c ph kept done fc bk gl qs) : x.xl.d.ab < w.heap.size ∧ x.xl.d.wb < w.heap.size ∧ x.xl.d.sb < w.heap.size ∧ x.xl.ub < w.heap.size ∧ x.xl.lb < w.heap.size :=
  ⟨h.st.st.at_.lt0, h.st.st.at_.lt1 h.st.st.n8, h.st.st.at_.lt2 h.st.st.n8, h.st.lt1, h.st.lt0⟩
theorem HG.clt (h : HG W w x al l n ao cap nv c ph kept done fc bk gl qs) : x.b.cb < w.heap.size ∧ x.b.kb < w.heap.size ∧ x.b.mb < w.heap.size ∧ x.b.q < w.heap.size ∧ x.hb < w.heap.size :=
  ⟨World.block_lt_of_cell? w _ h.cb.c0, World.block_lt_of_cell? w _ h.k0, h.mp.lt, h.que.lt, World.block_lt_of_cell? w _ h.h0⟩
theorem HG.nlt (h : HG W w x al l n ao cap nv c ph kept done fc bk gl qs) : ∀ k, nv.ownBlock = some k → k < w.heap.size := fun k hk => by
  rcases h.num.2 with ⟨e, _⟩ | ⟨g, cp, cur, e, _, h3, _⟩
  · rw [e] at hk; cases hk
  · rw [e] at hk
    obtain rfl : g = k := by simpa [Value.ownBlock] using hk
    rcases Nat.lt_or_ge g w.heap.size with hh | hh
    · exact hh
    · rw [Array.getElem?_eq_none hh] at h3; cases h3
/-- What else it has is as it was. -/
theorem HG.re (h : HG W w x al l n ao cap nv c ph kept done fc bk gl qs) (hs : w.heap.size ≤ w'.heap.size) (st : StL W w' x.xl al')
    (kp : ∀ d, d < w.heap.size → c d ≠ 1 → c d ≠ 2 → c d ≠ 13 → c d ≠ 14 → c d ≠ 15 → w'.heap[d]? = w.heap[d]?) (cb : CbAt w' x ph' kept' done') (mp : BkAt w' x.b.mb bk') (que : Gy.QL w' x.b.q qs' gl')
    (hc : ∀ d, d < w.heap.size → c' d = c d) (hq : ∀ d ∈ qs', c' d = 15 ∧ W.heap.size ≤ d) : HG W w' x al' l n ao cap nv c' ph' kept' done' fc bk' gl' qs' := by
  obtain ⟨l1, l2, l3, l4, l5⟩ := h.alt
  obtain ⟨e1, e2, e3, e4, e5⟩ := h.clt
  obtain ⟨a1, a2, a3⟩ := h.a1
  obtain ⟨b1, b2⟩ := h.a2
  obtain ⟨k1, k2, k3, k4⟩ := h.kc
  have kk := kp x.b.kb e2 (by omega) (by omega) (by omega) (by omega) (by omega)
  have kh := kp x.hb e5 (by rw [h.c6]; decide) (by rw [h.c6]; decide) (by rw [h.c6]; decide) (by rw [h.c6]; decide) (by rw [h.c6]; decide)
  exact ⟨st, cb, mp, (World.cell?_of_block (a := ⟨x.b.kb, 0, none⟩) kk).trans h.k0, (World.cell?_of_block (a := ⟨x.b.kb, 2, none⟩) kk).trans h.k2, (World.cell?_of_block (a := ⟨x.b.kb, 1, none⟩) kk).trans h.k1, que,
    h.tab.kept (kp _ h.tab.tlt (by rw [h.c3]; decide) (by rw [h.c3]; decide) (by rw [h.c3]; decide) (by rw [h.c3]; decide) (by rw [h.c3]; decide)) (kp _ h.tab.mlt (by rw [h.c4]; decide) (by rw [h.c4]; decide) (by rw [h.c4]; decide) (by rw [h.c4]; decide) (by rw [h.c4]; decide)) (fun a ha => kp _ (h.tab.aoB a ha).2 (by rw [h.c5 a ha]; decide) (by rw [h.c5 a ha]; decide) (by rw [h.c5 a ha]; decide) (by rw [h.c5 a ha]; decide) (by rw [h.c5 a ha]; decide)),
    (World.cell?_of_block (a := ⟨x.hb, 0, none⟩) kh).trans h.h0, (World.cell?_of_block (a := ⟨x.hb, 1, none⟩) kh).trans h.h1, (World.cell?_of_block (a := ⟨x.hb, 2, none⟩) kh).trans h.h2, (World.cell?_of_block (a := ⟨x.hb, 3, none⟩) kh).trans h.h3, fun i => (World.frozen?_of_block (a := ⟨x.hb, i, none⟩) kh).trans (h.hf i),
    nr_kept h.num (fun q hq => kp q (h.nlt q hq) (by rw [h.c8 q hq]; decide) (by rw [h.c8 q hq]; decide) (by rw [h.c8 q hq]; decide) (by rw [h.c8 q hq]; decide) (by rw [h.c8 q hq]; decide)), h.lmp.kept (kp _ h.lt (by rw [h.c7]; decide) (by rw [h.c7]; decide) (by rw [h.c7]; decide) (by rw [h.c7]; decide) (by rw [h.c7]; decide)),
    h.lo, fun d hd => (hq d hd).2, Nat.lt_of_lt_of_le h.lt hs, ⟨(hc _ l2).trans a1, (hc _ l3).trans a2, (hc _ l4).trans a3⟩, ⟨(hc _ l1).trans b1, (hc _ l5).trans b2⟩, ⟨(hc _ e1).trans k1, (hc _ e2).trans k2, (hc _ e3).trans k3, (hc _ e4).trans k4⟩, fun d hd => (hq d hd).1,
    (hc _ h.tab.tlt).trans h.c3, (hc _ h.tab.mlt).trans h.c4, fun a ha => (hc _ (h.tab.aoB a ha).2).trans (h.c5 a ha), (hc _ e5).trans h.c6, (hc _ h.lt).trans h.c7, fun q hq => (hc _ (h.nlt q hq)).trans (h.c8 q hq)⟩
theorem HG.hq (h : HG W w x al l n ao cap nv c ph kept done fc bk gl qs) : ∀ d ∈ qs, c d = 15 ∧ W.heap.size ≤ d := fun d hd => ⟨h.cq d hd, h.lq d hd⟩
theorem HG.gr (h : HG W w x al l n ao cap nv c ph kept done fc bk gl qs) (g : G w w') : HG W w' x al l n ao cap nv c ph kept done fc bk gl qs :=
  h.re g.size (h.st.G g) (fun d hd _ _ _ _ _ => g.block d hd) (h.cb.kept (g.block _ h.clt.1)) (h.mp.kept (g.block _ h.clt.2.2.1)) (h.que.grown g) (fun _ _ => rfl) h.hq
/-- The arena's rows, the allocator's. -/
theorem HG.turn (h : HG W w x al l n ao cap nv c ph kept done fc bk gl qs) (s : StL W w' x.xl al') (t : TnL w w' x.xl) : HG W w' x al' l n ao cap nv c ph kept done fc bk gl qs := by
  obtain ⟨a1, a2, a3⟩ := h.a1
  obtain ⟨k1, k2, k3, k4⟩ := h.kc
  obtain ⟨e1, e2, e3, e4, e5⟩ := h.clt
  have kp : ∀ d, d < w.heap.size → c d ≠ 1 → w'.heap[d]? = w.heap[d]? := fun d hd n1 => t.block d hd (fun e => n1 (by rw [e]; exact a1)) (fun e => n1 (by rw [e]; exact a2)) (fun e => n1 (by rw [e]; exact a3))
  exact h.re t.size s (fun d hd n1 _ _ _ _ => kp d hd n1) (h.cb.kept (kp _ e1 (by omega))) (h.mp.kept (kp _ e3 (by omega))) (h.que.kept (kp _ e4 (by omega)) (fun d hd => kp d (h.que.ltb d hd) (by rw [h.cq d hd]; decide))) (fun _ _ => rfl) h.hq
/-- A block that is not the arena's is turned: the arena is as it was. -/
theorem HG.stk (h : HG W w x al l n ao cap nv c ph kept done fc bk gl qs) (hb : Below W.heap.size W w') (kp : ∀ d, d < w.heap.size → c d = 1 ∨ c d = 16 → w'.heap[d]? = w.heap[d]?) : StL W w' x.xl al := by
  obtain ⟨a1, a2, a3⟩ := h.a1
  obtain ⟨b1, b2⟩ := h.a2
  obtain ⟨l1, l2, l3, l4, l5⟩ := h.alt
  refine h.st.kept hb fun d hd => ?_
  rcases hd with rfl | rfl | rfl | rfl | rfl
  · exact kp _ l1 (Or.inr b1)
  · exact kp _ l2 (Or.inl a1)
  · exact kp _ l3 (Or.inl a2)
  · exact kp _ l4 (Or.inl a3)
  · exact kp _ l5 (Or.inr b2)
/-- The queue has been turned. -/
theorem HG.queue (h : HG W w x al l n ao cap nv c ph kept done fc bk gl qs) (L : Gy.Left w w' x.b.q qs gl') : ∃ c' qs', (∀ d, d < w.heap.size → c' d = c d) ∧ (∀ d ∈ qs', d ∈ qs ∨ w.heap.size ≤ d) ∧ HG W w' x al l n ao cap nv c' ph kept done fc bk gl' qs' := by
  obtain ⟨qs', Q, t, hn⟩ := L
  obtain ⟨k1, k2, k3, k4⟩ := h.kc
  obtain ⟨e1, e2, e3, e4, e5⟩ := h.clt
  have kp : ∀ d, d < w.heap.size → c d ≠ 14 → c d ≠ 15 → w'.heap[d]? = w.heap[d]? := fun d hd n1 n2 => t.block d hd (fun e => n1 (by rw [e]; exact k4)) (fun e => n2 (h.cq d e))
  have hb : Below W.heap.size W w' := by
    refine Below.trans h.st.below ⟨t.os, t.tape, t.output, t.size, fun d hd => ?_⟩
    have hd' : d < w.heap.size := Nat.lt_of_lt_of_le hd h.st.below.size
    refine t.block d hd' (fun e => ?_) (fun e => ?_)
    · have := h.lo; omega
    · have := h.lq d e; omega
  have cc : ∀ d, d < w.heap.size → (fun d => if w.heap.size ≤ d then 15 else c d) d = c d := fun d hd => if_neg (by omega)
  refine ⟨fun d => if w.heap.size ≤ d then 15 else c d, qs', cc, hn, h.re t.size (h.stk hb fun d hd hc => kp d hd (by omega) (by omega)) (fun d hd _ _ _ n1 n2 => kp d hd n1 n2) (h.cb.kept (kp _ e1 (by omega) (by omega))) (h.mp.kept (kp _ e3 (by omega) (by omega))) Q cc fun d hd => ?_⟩
  rcases hn d hd with e | e
  · exact ⟨(cc d (h.que.ltb d e)).trans (h.cq d e), h.lq d e⟩
  · exact ⟨if_pos e, Nat.le_trans h.st.below.size e⟩
/-- The phase is another. -/
theorem HG.phase (h : HG W w x al l n ao cap nv c ph kept done fc bk gl qs) (p : Int) : HG W (w.setCell ⟨x.b.cb, 4, none⟩ (.int .i64 p)) x al l n ao cap nv c p kept done fc bk gl qs := by
  obtain ⟨k1, k2, k3, k4⟩ := h.kc
  obtain ⟨e1, e2, e3, e4, e5⟩ := h.clt
  have kp : ∀ d, c d ≠ 2 → (w.setCell ⟨x.b.cb, 4, none⟩ (.int .i64 p)).heap[d]? = w.heap[d]? := fun d n2 => Below.heap_setCell _ _ _ _ (by show d ≠ x.b.cb; intro e; exact n2 (by rw [e]; exact k1))
  exact h.re (by rw [World.size_setCell]; exact Nat.le_refl _) (h.stk (h.st.below.setCell h.lo.1 _) fun d _ hc => kp d (by omega)) (fun d _ _ n2 _ _ _ => kp d n2) (h.cb.phase p) (h.mp.kept (kp _ (by omega))) (h.que.kept (kp _ (by omega)) (fun d hd => kp d (by rw [h.cq d hd]; decide))) (fun _ _ => rfl) h.hq
/-- The map of the black ones has been turned. -/
theorem HG.mapped (h : HG W w x al l n ao cap nv c ph kept done fc bk gl qs) (hb : Below W.heap.size W w') (hs : w.heap.size ≤ w'.heap.size) (kp : ∀ d, d < w.heap.size → d ≠ x.b.mb → w'.heap[d]? = w.heap[d]?) (mp : BkAt w' x.b.mb bk') : HG W w' x al l n ao cap nv c ph kept done fc bk' gl qs := by
  obtain ⟨k1, k2, k3, k4⟩ := h.kc
  obtain ⟨e1, e2, e3, e4, e5⟩ := h.clt
  have kp' : ∀ d, d < w.heap.size → c d ≠ 13 → w'.heap[d]? = w.heap[d]? := fun d hd n => kp d hd (fun e => n (by rw [e]; exact k3))
  exact h.re hs (h.stk hb fun d hd hc => kp' d hd (by omega)) (fun d hd _ _ n _ _ => kp' d hd n) (h.cb.kept (kp' _ e1 (by omega))) mp (h.que.kept (kp' _ e4 (by omega)) (fun d hd => kp' d (h.que.ltb d hd) (by rw [h.cq d hd]; decide))) (fun _ _ => rfl) h.hq
/-- While no collection goes on, and none is black. -/
theorem HS.hG (h : HS W w x al l n ao cap nv c) : ∃ c', HG W w x al l n ao cap nv c' 0 64 0 0 [] [] [] := by
  obtain ⟨a1, a2, a3, a4, a5⟩ := h.cA
  obtain ⟨k1, k2, k3, k4⟩ := h.cC
  have hkq : x.b.kb ≠ x.b.q := fun e => by
    obtain ⟨f, cc, hq, _⟩ := h.ks.que
    have h1 := h.ks.k0
    rw [e, hq.c0] at h1
    simp at h1
  obtain ⟨n1, n2, n3⟩ := h.ks.nd
  obtain ⟨n4, n5⟩ := h.ks.nm
  have ap := fun d hd => (h.ks.ap d hd).2
  have p1 := ap x.b.cb (by simp)
  have p2 := ap x.b.mb (by simp)
  have p3 := ap x.b.kb (by simp)
  have p4 := ap x.b.q (by simp)
  have m01 := h.ks.st.st.at_.n01
  have m02 := h.ks.st.st.at_.n02
  have m0 := h.ks.st.n0
  have m1 := h.ks.st.n1
  have m2 := h.ks.st.n2
  have mpx : BkAt w x.b.mb [] := by
    obtain ⟨cl, hcl⟩ := h.ks.mp
    exact ⟨.map [], ⟨#[], cl, hcl, ⟨by simp, stamped_empty cl, by simp⟩, Nat.le_refl _, rfl⟩, fun y _ => by simp [Maps.has]⟩
  obtain ⟨c', hc'⟩ : ∃ c' : Nat → Nat, c' = fun d => if d = x.xl.d.ab ∨ d = x.xl.lb then 16 else if d = x.b.kb then 12 else if d = x.b.mb then 13 else if d = x.b.q then 14 else c d := ⟨_, rfl⟩
  have old : ∀ d, c d ≠ 1 → c d ≠ 2 → c' d = c d := fun d d1 d2 => by
    rw [hc']
    simp only
    rw [if_neg (fun e => by rcases e with e | e <;> rw [e] at d1 <;> omega), if_neg (fun e => by rw [e] at d2; omega), if_neg (fun e => by rw [e] at d2; omega), if_neg (fun e => by rw [e] at d2; omega)]
  have same : ∀ d, d ≠ x.xl.d.ab → d ≠ x.xl.lb → d ≠ x.b.kb → d ≠ x.b.mb → d ≠ x.b.q → c' d = c d := fun d d1 d2 d3 d4 d5 => by
    rw [hc']
    simp only
    rw [if_neg (fun e => by rcases e with e | e; exact d1 e; exact d2 e), if_neg d3, if_neg d4, if_neg d5]
  have e16 : ∀ d, d = x.xl.d.ab ∨ d = x.xl.lb → c' d = 16 := fun d e => by rw [hc']; simp only; rw [if_pos e]
  have e12 : c' x.b.kb = 12 := by rw [hc']; simp only; rw [if_neg (fun e => by rcases e with e | e; exact p3.2.2.2.2.1 e; exact p3.2.2.2.2.2 e), if_pos trivial]
  have e13 : c' x.b.mb = 13 := by rw [hc']; simp only; rw [if_neg (fun e => by rcases e with e | e; exact p2.2.2.2.2.1 e; exact p2.2.2.2.2.2 e), if_neg n4, if_pos trivial]
  have e14 : c' x.b.q = 14 := by rw [hc']; simp only; rw [if_neg (fun e => by rcases e with e | e; exact p4.2.2.2.2.1 e; exact p4.2.2.2.2.2 e), if_neg (Ne.symm hkq), if_neg (Ne.symm n5), if_pos trivial]
  refine ⟨c', h.ks.st, ⟨h.ks.c0, h.ks.c1, h.ks.c2, h.ks.c3, h.ks.c4, h.ks.c5, h.ks.c6, h.ks.c7, h.ks.fz⟩, mpx, h.ks.k0, h.ks.k2, h.ks.k1, h.ks.que, h.tab, h.h0, h.h1, h.h2, h.h3, h.hf, h.num, h.mp, ⟨p1.1, p3.1, p2.1, p4.1, h.lo.1, h.lo.2⟩, fun d hd => (by cases hd), h.lt, ⟨?_, ?_, ?_⟩, ⟨e16 _ (Or.inl rfl), e16 _ (Or.inr rfl)⟩, ⟨?_, e12, e13, e14⟩, fun d hd => (by cases hd), ?_, ?_, fun a ha => ?_, ?_, ?_, fun k hk => ?_⟩
  · exact (same _ (Ne.symm m01) (Ne.symm m1.1) (Ne.symm p3.2.1) (Ne.symm p2.2.1) (Ne.symm p4.2.1)).trans a2
  · exact (same _ (Ne.symm m02) (Ne.symm m1.2) (Ne.symm p3.2.2.1) (Ne.symm p2.2.2.1) (Ne.symm p4.2.2.1)).trans a3
  · exact (same _ m2.1 (Ne.symm m0) (Ne.symm p3.2.2.2.1) (Ne.symm p2.2.2.2.1) (Ne.symm p4.2.2.2.1)).trans a4
  · exact (same _ p1.2.2.2.2.1 p1.2.2.2.2.2 n2 n1 n3).trans k1
  · exact (old _ (by rw [h.c3]; decide) (by rw [h.c3]; decide)).trans h.c3
  · exact (old _ (by rw [h.c4]; decide) (by rw [h.c4]; decide)).trans h.c4
  · exact (old _ (by rw [h.c5 a ha]; decide) (by rw [h.c5 a ha]; decide)).trans (h.c5 a ha)
  · exact (old _ (by rw [h.c6]; decide) (by rw [h.c6]; decide)).trans h.c6
  · exact (old _ (by rw [h.c7]; decide) (by rw [h.c7]; decide)).trans h.c7
  · exact (old _ (by rw [h.c8 k hk]; decide) (by rw [h.c8 k hk]; decide)).trans (h.c8 k hk)
end
end Go.Proofs.YtahhkehijokhnaaGreatDoor

/- A Heap in memory, whatever its collector does: Shade, Black, Barrier, Left; the view. -/
namespace Go.Proofs.YtahhkehijokhnaaGreatDoor
set_option maxRecDepth 100000
open Go.ChangeShapes Go.WideShapes Go.ChangeAt Go.RowKit Go.Maps Go.ChangeMaps Go.MapKept Go.Deep

theorem keyB : Keyed Tryz.prog 3 := int_keyed Tryz.underlying3
theorem zero_unitB (w : World) : (zeroValue 147).run Tryz.prog w = .ok (.agg #[]) w := by kernel_rfl
/-- What of it changes. -/
structure Gq where
  c : Nat → Nat
  gl : List Int
  qs : List Nat
/-- The blocks that its calls turn. -/
def ownG (x : Hx) (g : Gq) (d : Nat) : Prop := d = x.xl.d.wb ∨ d = x.xl.d.sb ∨ d = x.xl.ub ∨ d = x.b.cb ∨ d = x.b.mb ∨ d = x.b.q ∨ d ∈ g.qs
section
variable {W w w' : World} {x : Hx} {al al' : Al} {l : List Hd.Shp} {n : Nat} {ao : Option Addr} {cap : Nat} {nv : Value} {ph kept done fc : Int} {bk : List Int} {g : Gq}
abbrev HGq (W : World) (x : Hx) (l : List Hd.Shp) (n : Nat) (ao : Option Addr) (cap : Nat) (nv : Value) (ph kept done fc : Int) (bk : List Int) (w : World) (al : Al) (g : Gq) : Prop := HG W w x al l n ao cap nv g.c ph kept done fc bk g.gl g.qs
theorem frg_tn (t : TnL w w' x.xl) : Fr (ownG x g) (ownG x g) w w' := ⟨t.size, fun d hd ho => t.block d hd (fun e => ho (Or.inl e)) (fun e => ho (Or.inr (Or.inl e))) (fun e => ho (Or.inr (Or.inr (Or.inl e)))), fun _ h => Or.inl h⟩
theorem hv_hg (W : World) (x : Hx) (l : List Hd.Shp) (n : Nat) (ao : Option Addr) (cap : Nat) (nv : Value) (ph kept done fc : Int) (bk : List Int) (hf : ∀ s ∈ l, s.m < 18446744073709551616) : HV (HGq W x l n ao cap nv ph kept done fc bk) (ownG x) x.hb x.b.cb x.xl.d.ab l := by
  refine ⟨fun w al _ a h => hb_of (hide h.hB) a, fun w w' al _ h g => h.gr g, fun w al _ h d hd => ?_, fun w al _ h => hb_cycle (hide h.hB), fun w al _ h => b_arena (hide h.hB), fun w al _ a i h => (ls_read (hide h.st) a i).mono fun _ _ hh => ⟨hh.1, hh.2.2⟩, fun w al _ a i v h => (ls_write (hide h.st) a i v).mono fun _ _ hh => ⟨hh.1, h.turn hh.2.1 hh.2.2, frg_tn hh.2.2⟩, hf⟩
  obtain ⟨_, l2, l3, l4, _⟩ := h.alt
  obtain ⟨e1, e2, e3, e4, e5⟩ := h.clt
  rcases hd with rfl | rfl | rfl | rfl | rfl | rfl | hd
  · exact l2
  · exact l3
  · exact l4
  · exact e1
  · exact e3
  · exact e4
  · exact h.que.ltb d hd
/-- Shading, plainly. -/
def shA (al : Al) (y : Int) : Al := ⟨al.a.markA y, al.u⟩
def shG (al : Al) (gl : List Int) (y : Int) : List Int := if al.a.markB y = true then gl ++ [y] else gl
theorem g_shade (h : Hid (HGq W x l n ao cap nv ph kept done fc bk w al g)) (hn : g.gl.length ≤ 900000) (y : Int) : Calls Tryz.prog 66 #[.pointer (some ⟨x.b.kb, 0, none⟩), .int .i64 y] w fun e w' => e = .returned (.bool (al.a.markB y)) ∧ ∃ g2 : Gq, g2.gl = shG al g.gl y ∧ HGq W x l n ao cap nv ph kept done fc bk w' (shA al y) g2 ∧ Fr (ownG x g) (ownG x g2) w w' := by
  have k0 := (unhide h).k0
  have CM : Hid (Calls Tryz.prog 60 #[.pointer (some ⟨x.xl.d.ab, 0, none⟩), .int .i64 y] w fun e w' => e = .returned (.bool (al.a.markB y)) ∧ Hid (HGq W x l n ao cap nv ph kept done fc bk w' (shA al y) g ∧ Fr (ownG x g) (ownG x g) w w')) := hide ((ls_mark (hide (unhide h).st) y).mono fun _ _ hh => ⟨hh.1, hide ⟨(unhide h).turn hh.2.1 hh.2.2, frg_tn hh.2.2⟩⟩)
  have CQ : Hid (∀ y1, HGq W x l n ao cap nv ph kept done fc bk y1 (shA al y) g → Calls Tryz.prog 83 #[.pointer (some ⟨x.b.q, 0, none⟩), .int .i64 y] y1 fun e w' => e = .returned (.tuple #[]) ∧ Hid (∃ g2 : Gq, g2.gl = g.gl ++ [y] ∧ HGq W x l n ao cap nv ph kept done fc bk w' (shA al y) g2 ∧ Fr (ownG x g) (ownG x g2) y1 w')) := hide fun y1 hy => (Gy.q_add hy.que hn y).mono fun _ _ hh => by
    obtain ⟨c', qs', hc, hq, S⟩ := hy.queue hh.2
    obtain ⟨_, _, t, _⟩ := hh.2
    refine ⟨hh.1, hide ⟨⟨c', g.gl ++ [y], qs'⟩, rfl, S, t.size, fun d hd ho => t.block d hd (fun e => ho (Or.inr (Or.inr (Or.inr (Or.inr (Or.inr (Or.inl e))))))) (fun e => ho (Or.inr (Or.inr (Or.inr (Or.inr (Or.inr (Or.inr e))))))), fun d hd => ?_⟩⟩
    rcases hd with e | e | e | e | e | e | e
    · exact Or.inl (Or.inl e)
    · exact Or.inl (Or.inr (Or.inl e))
    · exact Or.inl (Or.inr (Or.inr (Or.inl e)))
    · exact Or.inl (Or.inr (Or.inr (Or.inr (Or.inl e))))
    · exact Or.inl (Or.inr (Or.inr (Or.inr (Or.inr (Or.inl e)))))
    · exact Or.inl (Or.inr (Or.inr (Or.inr (Or.inr (Or.inr (Or.inl e))))))
    · rcases hq d e with e | e
      · exact Or.inl (Or.inr (Or.inr (Or.inr (Or.inr (Or.inr (Or.inr e))))))
      · exact Or.inr e
  have HK : Hid (∀ y1, HGq W x l n ao cap nv ph kept done fc bk y1 (shA al y) g → y1.cell? ⟨x.b.kb, 2, none⟩ = some (.pointer (some ⟨x.b.q, 0, none⟩))) := hide fun y1 hy => hy.k2
  unfold shG
  generalize al.a.markB y = mb at CM ⊢
  clear h hn
  cases mb
  · go_enter Tryz.func66, Tryz.ntmps66
    go_wp2_with fail
    refine (unhide CM).mono ?_
    rintro e w1 ⟨rfl, h1⟩
    clear CM CQ HK
    go_wp2_with fail
    go_ret
    exact ⟨rfl, g, rfl, (unhide h1).1, (unhide h1).2⟩
  · go_enter Tryz.func66, Tryz.ntmps66
    go_wp2_with fail
    refine (unhide CM).mono ?_
    rintro e w1 ⟨rfl, h1⟩
    have k2 := unhide HK w1 (unhide h1).1
    have CQ1 := hide (unhide CQ w1 (unhide h1).1)
    clear CM CQ HK
    go_wp2_with fail
    refine (unhide CQ1).mono ?_
    rintro e w2 ⟨rfl, h2⟩
    clear CQ1
    go_wp2_with fail
    go_ret
    obtain ⟨g2, e2, S2, f2⟩ := unhide h2
    exact ⟨rfl, g2, e2, S2, (unhide h1).2.trans f2⟩
theorem g_black (h : Hid (HGq W x l n ao cap nv ph kept done fc bk w al g)) (i : Int) (hi : wfN i) : Calls Tryz.prog 67 #[.pointer (some ⟨x.b.cb, 0, none⟩), .int .i64 i] w fun e w' => e = .returned (.bool (decide (i ∈ bk))) ∧ G w w' := by
  have c5 := (unhide h).cb.c5
  obtain ⟨D, hD, hh⟩ := (unhide h).mp
  have ow := hide hD
  have hI := hh i hi
  clear hh hD
  go_enter Tryz.func67, Tryz.ntmps67
  go_wp2_with (at_lookup; refine wpList_lookup_own_unit _ rfl _ _ 94 rfl 3 147 keyB Tryz.underlying94 (zero_unitB _) x.b.mb _ D rfl (unhide ow) _ (.int .i64 i) rfl (keyOf_int_mk Tryz.underlying3 hi) ?_; rw [hI])
  go_ret
  exact ⟨rfl, G.alloc _ _⟩
theorem g_shades (h : Hid (HGq W x l n ao cap nv ph kept done fc bk w al g)) : Calls Tryz.prog 59 #[.pointer (some ⟨x.b.cb, 0, none⟩)] w fun e w' => e = .returned (.bool (ph == 1 || ph == 2)) ∧ w' = w := by
  have c4 := (unhide h).cb.c4
  cases h1 : ph == 1
  · go_enter Tryz.func59, Tryz.ntmps59
    go_wp2_with fail
    go_ret
    exact ⟨by simp, rfl⟩
  · go_enter Tryz.func59, Tryz.ntmps59
    go_wp2_with fail
    go_ret
    exact ⟨by simp, rfl⟩
/-- While roots are shaded and things are looked at. -/
def baA (al : Al) (bk : List Int) (old v id : Int) : Al := if id ∈ bk then shA al old else shA (shA al old) v
def baG (al : Al) (bk gl : List Int) (old v id : Int) : List Int := if id ∈ bk then shG al gl old else shG (shA al old) (shG al gl old) v
theorem shG_len (al : Al) (gl : List Int) (y : Int) : (shG al gl y).length ≤ gl.length + 1 := by
  unfold shG
  split
  · rw [List.length_append, List.length_singleton]; exact Nat.le_refl _
  · exact Nat.le_succ _
set_option maxHeartbeats 1000000 in
theorem g_barrier (hp : (ph == 1 || ph == 2) = true) (h : Hid (HGq W x l n ao cap nv ph kept done fc bk w al g)) (hn : g.gl.length ≤ 800000) (old v id : Int) (hi : wfN id) : Calls Tryz.prog 53 #[.pointer (some ⟨x.b.cb, 0, none⟩), .int .i64 old, .int .i64 v, .int .i64 id] w fun e w' => e = .returned (.tuple #[]) ∧ ∃ g2 : Gq, g2.gl = baG al bk g.gl old v id ∧ HGq W x l n ao cap nv ph kept done fc bk w' (baA al bk old v id) g2 ∧ Fr (ownG x g) (ownG x g2) w w' := by
  have CS := hide (g_shades h)
  rw [hp] at CS
  have c3 := (unhide h).cb.c3
  have C1 := hide (g_shade h (by omega) old)
  generalize al.a.markB old = mo at C1
  have C2 : Hid (∀ y1 g1, g1.gl = shG al g.gl old → HGq W x l n ao cap nv ph kept done fc bk y1 (shA al old) g1 → Calls Tryz.prog 67 #[.pointer (some ⟨x.b.cb, 0, none⟩), .int .i64 id] y1 fun e w' => e = .returned (.bool (decide (id ∈ bk))) ∧ Hid (HGq W x l n ao cap nv ph kept done fc bk w' (shA al old) g1 ∧ G y1 w')) := hide fun y1 g1 _ hy => (g_black (hide hy) id hi).mono fun _ _ hh => ⟨hh.1, hide ⟨hy.gr hh.2, hh.2⟩⟩
  have C3 : Hid (∀ y1 g1, g1.gl = shG al g.gl old → HGq W x l n ao cap nv ph kept done fc bk y1 (shA al old) g1 → Calls Tryz.prog 66 #[.pointer (some ⟨x.b.kb, 0, none⟩), .int .i64 v] y1 fun e w' => (∃ r, e = .returned (.bool r)) ∧ Hid (∃ g2 : Gq, g2.gl = shG (shA al old) (shG al g.gl old) v ∧ HGq W x l n ao cap nv ph kept done fc bk w' (shA (shA al old) v) g2 ∧ Fr (ownG x g1) (ownG x g2) y1 w')) := hide fun y1 g1 e1 hy => by
    have := g_shade (hide hy) (by rw [e1]; have := shG_len al g.gl old; omega) v
    rw [e1] at this
    exact this.mono fun _ _ hh => ⟨⟨_, hh.1⟩, hide hh.2⟩
  have HC : Hid (∀ y1 g1, HGq W x l n ao cap nv ph kept done fc bk y1 (shA al old) g1 → y1.cell? ⟨x.b.cb, 3, none⟩ = some (.pointer (some ⟨x.b.kb, 0, none⟩))) := hide fun y1 g1 hy => hy.cb.c3
  by_cases hb : id ∈ bk
  · rw [show baA al bk old v id = shA al old from if_pos hb, show baG al bk g.gl old v id = shG al g.gl old from if_pos hb]
    rw [decide_eq_true hb] at C2
    clear h hn hp C3 HC hb
    go_enter Tryz.func53, Tryz.ntmps53
    go_wp2_with fail
    refine (unhide CS).mono ?_
    rintro e w1 ⟨rfl, hw⟩
    rw [hw]
    clear hw CS w1
    go_wp2_with fail
    refine (unhide C1).mono ?_
    rintro e w2 ⟨rfl, g2, e2, S2, f2⟩
    have K2 := hide (unhide C2 w2 g2 e2 S2)
    have F2 := hide (And.intro e2 f2)
    clear C1 C2 e2 S2 f2
    go_wp2_with fail
    refine (unhide K2).mono ?_
    rintro e w3 ⟨rfl, h3⟩
    clear K2
    go_wp2_with fail
    go_end0
    exact ⟨rfl, g2, (unhide F2).1, (unhide h3).1, (unhide F2).2.g (unhide h3).2⟩
  · rw [show baA al bk old v id = shA (shA al old) v from if_neg hb, show baG al bk g.gl old v id = shG (shA al old) (shG al g.gl old) v from if_neg hb]
    rw [decide_eq_false hb] at C2
    clear h hn hp hb
    go_enter Tryz.func53, Tryz.ntmps53
    go_wp2_with fail
    refine (unhide CS).mono ?_
    rintro e w1 ⟨rfl, hw⟩
    rw [hw]
    clear hw CS w1
    go_wp2_with fail
    refine (unhide C1).mono ?_
    rintro e w2 ⟨rfl, g2, e2, S2, f2⟩
    have K2 := hide (unhide C2 w2 g2 e2 S2)
    have F2 := hide (And.intro e2 f2)
    clear C1 C2 e2 S2 f2
    go_wp2_with fail
    refine (unhide K2).mono ?_
    rintro e w3 ⟨rfl, h3⟩
    have d3 := unhide HC w3 g2 (unhide h3).1
    have K3 := hide (unhide C3 w3 g2 (unhide F2).1 (unhide h3).1)
    clear K2 C3 HC
    go_wp2_with fail
    refine (unhide K3).mono ?_
    rintro e w4 ⟨⟨r4, rfl⟩, h4⟩
    clear K3
    go_wp2_with fail
    go_end0
    obtain ⟨g4, e4, S4, f4⟩ := unhide h4
    exact ⟨rfl, g4, e4, S4, ((unhide F2).2.g (unhide h3).2).trans f4⟩
theorem g_barrier0 (hp : (ph == 1 || ph == 2) = false) (h : Hid (HGq W x l n ao cap nv ph kept done fc bk w al g)) (old v id : Int) : Calls Tryz.prog 53 #[.pointer (some ⟨x.b.cb, 0, none⟩), .int .i64 old, .int .i64 v, .int .i64 id] w fun e w' => e = .returned (.tuple #[]) ∧ w' = w := by
  have CS := hide (g_shades h)
  rw [hp] at CS
  clear h hp
  go_enter Tryz.func53, Tryz.ntmps53
  go_wp2_with fail
  refine (unhide CS).mono ?_
  rintro e w1 ⟨rfl, hw⟩
  rw [hw]
  clear hw CS w1
  go_wp2_with fail
  go_returns
  exact ⟨rfl, rfl⟩
end
end Go.Proofs.YtahhkehijokhnaaGreatDoor

/- Package heap, over any view: write, Set, Put; package gantlinelaw14's write.do. -/
namespace Go.Proofs.YtahhkehijokhnaaGreatDoor
set_option maxRecDepth 100000
open Go.ChangeShapes Go.WideShapes Go.ChangeAt Go.RowKit Go.Maps Go.Deep

section
variable {γ : Type} {V : World → Al → γ → Prop} {own : γ → Nat → Prop} {W : World} {x : Hx} {l : List Hd.Shp} {ao : Option Addr} {cap : Nat} {w : World} {al : Al} {g : γ}
theorem hv_write (VB : Hid (∀ w al g, V w al g → HB W w x al l ao cap)) (H : Hid (HV V own x.hb x.b.cb x.xl.d.ab l)) (h : Hid (V w al g)) (a f old v : Int) (tb : Bool) (id : Int) (al1 : Al) (Pg : γ → Prop) (hB : tb = true → BarC V own x.b.cb al g old v id al1 Pg) (hN : tb = false → al1 = al ∧ Pg g) :
    Calls Tryz.prog 37 #[.pointer (some ⟨x.hb, 0, none⟩), .int .i64 a, .int .i64 f, .int .i64 old, .int .i64 v, .bool tb, .int .i64 id] w fun e w' => e = .returned (.tuple #[]) ∧ ∃ g2, Pg g2 ∧ V w' ⟨al1.a.writeA a (wrap64 (f + 1)) v, al1.u⟩ g2 ∧ Fr (own g) (own g2) w w' := by
  have h0 := (unhide VB _ _ _ (unhide h)).h0
  have H0 : Hid (∀ y g1, V y al1 g1 → y.cell? ⟨x.hb, 0, none⟩ = some (.pointer (some ⟨x.b.cb, 0, none⟩))) := hide fun y g1 hy => (unhide VB _ _ _ hy).h0
  have CA : Hid (∀ y g1, V y al1 g1 → Calls Tryz.prog 29 #[.pointer (some ⟨x.b.cb, 0, none⟩)] y fun e w' => e = .returned (.pointer (some ⟨x.xl.d.ab, 0, none⟩)) ∧ w' = y) := hide fun y g1 hy => (unhide H).arena y _ _ hy
  have CW : Hid (∀ y g1, V y al1 g1 → Calls Tryz.prog 30 #[.pointer (some ⟨x.xl.d.ab, 0, none⟩), .int .i64 a, .int .i64 (wrap64 (f + 1)), .int .i64 v] y fun e w' => (∃ r, e = .returned (.int .i64 r)) ∧ Hid (V w' ⟨al1.a.writeA a (wrap64 (f + 1)) v, al1.u⟩ g1 ∧ Fr (own g1) (own g1) y w')) := hide fun y g1 hy => ((unhide H).write y _ _ a (wrap64 (f + 1)) v hy).mono fun _ _ hh => ⟨⟨_, hh.1⟩, hide hh.2⟩
  generalize (⟨al1.a.writeA a (wrap64 (f + 1)) v, al1.u⟩ : Al) = al2 at CW ⊢
  unfold BarC at hB
  cases tb
  · obtain ⟨rfl, pg⟩ := hN rfl
    have C1 := hide (unhide CA w g (unhide h))
    have C2 := hide (unhide CW w g (unhide h))
    replace pg := hide pg
    clear hB hN CA CW H0 h H VB
    go_enter Tryz.func37, Tryz.ntmps37
    go_wp2_with fail
    refine (unhide C1).mono ?_
    rintro e w1 ⟨rfl, hw⟩
    rw [hw]
    clear hw C1 w1
    go_wp2_with fail
    refine (unhide C2).mono ?_
    rintro e w2 ⟨⟨r, rfl⟩, h2⟩
    clear C2
    go_wp2_with fail
    go_end0
    exact ⟨rfl, g, unhide pg, (unhide h2).1, (unhide h2).2⟩
  · have CB := hide (hB rfl w (unhide h))
    clear hB hN h H VB
    go_enter Tryz.func37, Tryz.ntmps37
    go_wp2_with fail
    refine (unhide CB).mono ?_
    rintro e w1 ⟨rfl, g1, pg, v1, f1⟩
    have d0 := unhide H0 w1 g1 v1
    have C1 := hide (unhide CA w1 g1 v1)
    have C2 := hide (unhide CW w1 g1 v1)
    replace pg := hide pg
    replace f1 := hide f1
    clear CB CA CW H0 v1 h0
    go_wp2_with fail
    refine (unhide C1).mono ?_
    rintro e w2 ⟨rfl, hw⟩
    rw [hw]
    clear hw C1 w2
    go_wp2_with fail
    refine (unhide C2).mono ?_
    rintro e w2 ⟨⟨r, rfl⟩, h2⟩
    clear C2
    go_wp2_with fail
    go_end0
    exact ⟨rfl, g1, unhide pg, (unhide h2).1, (unhide f1).trans (unhide h2).2⟩
theorem hv_set (VB : Hid (∀ w al g, V w al g → HB W w x al l ao cap)) (H : Hid (HV V own x.hb x.b.cb x.xl.d.ab l)) (h : Hid (V w al g)) (a f v : Int) (ad br : Bool) (id old : Int) (hT : getT al l a f ad = (old, 0)) (al1 : Al) (Pg : γ → Prop) (hB : (ad && br) = true → BarC V own x.b.cb al g old v id al1 Pg) (hN : (ad && br) = false → al1 = al ∧ Pg g) :
    Calls Tryz.prog 21 #[.pointer (some ⟨x.hb, 0, none⟩), .int .i64 a, .int .i64 f, .int .i64 v, .bool ad, .bool br, .int .i64 id] w fun e w' => e = .returned (.int .i64 0) ∧ ∃ g2, Pg g2 ∧ V w' ⟨al1.a.writeA a (wrap64 (f + 1)) v, al1.u⟩ g2 ∧ Fr (own g) (own g2) w w' := by
  have CG := hide (hb_get (hide (unhide VB _ _ _ (unhide h))) a f ad)
  rw [hT] at CG
  have CW : Hid (∀ y, G w y → Calls Tryz.prog 37 #[.pointer (some ⟨x.hb, 0, none⟩), .int .i64 a, .int .i64 f, .int .i64 old, .int .i64 v, .bool (ad && br), .int .i64 id] y fun e w' => e = .returned (.tuple #[]) ∧ Hid (∃ g2, Pg g2 ∧ V w' ⟨al1.a.writeA a (wrap64 (f + 1)) v, al1.u⟩ g2 ∧ Fr (own g) (own g2) w w')) := hide fun y gy => (hv_write VB H (hide ((unhide H).gr _ _ _ _ (unhide h) gy)) a f old v (ad && br) id al1 Pg hB hN).mono fun _ _ hh => ⟨hh.1, hide (by
    obtain ⟨g2, p2, v2, f2⟩ := hh.2
    exact ⟨g2, p2, v2, (Fr.of_G gy).trans f2⟩)⟩
  generalize (⟨al1.a.writeA a (wrap64 (f + 1)) v, al1.u⟩ : Al) = al2 at CW ⊢
  clear hB hN h H VB hT
  cases ad
  · go_enter Tryz.func21, Tryz.ntmps21
    go_wp2_with fail
    refine (unhide CG).mono ?_
    rintro e w1 ⟨rfl, g1⟩
    have C2 := hide (unhide CW w1 g1)
    clear CG CW g1
    go_wp2_with fail
    refine (unhide C2).mono ?_
    rintro e w2 ⟨rfl, h2⟩
    clear C2
    go_wp2_with fail
    go_ret
    exact ⟨rfl, unhide h2⟩
  · go_enter Tryz.func21, Tryz.ntmps21
    go_wp2_with fail
    refine (unhide CG).mono ?_
    rintro e w1 ⟨rfl, g1⟩
    have C2 := hide (unhide CW w1 g1)
    clear CG CW g1
    go_wp2_with fail
    refine (unhide C2).mono ?_
    rintro e w2 ⟨rfl, h2⟩
    clear C2
    go_wp2_with fail
    go_ret
    exact ⟨rfl, unhide h2⟩
theorem hv_put (VB : Hid (∀ w al g, V w al g → HB W w x al l ao cap)) (H : Hid (HV V own x.hb x.b.cb x.xl.d.ab l)) (h : Hid (V w al g)) (a f v : Int) (ad br : Bool) (id old : Int) (hT : atT al l a f ad = (old, 0)) (al1 : Al) (Pg : γ → Prop) (hB : (ad && br) = true → BarC V own x.b.cb al g old v id al1 Pg) (hN : (ad && br) = false → al1 = al ∧ Pg g) :
    Calls Tryz.prog 16 #[.pointer (some ⟨x.hb, 0, none⟩), .int .i64 a, .int .i64 f, .int .i64 v, .bool ad, .bool br, .int .i64 id] w fun e w' => e = .returned (.int .i64 0) ∧ ∃ g2, Pg g2 ∧ V w' ⟨al1.a.writeA a (wrap64 (f + 1)) v, al1.u⟩ g2 ∧ Fr (own g) (own g2) w w' := by
  have CG := hide (hb_at (hide (unhide VB _ _ _ (unhide h))) a f ad)
  rw [hT] at CG
  have CW : Hid (∀ y, G w y → Calls Tryz.prog 37 #[.pointer (some ⟨x.hb, 0, none⟩), .int .i64 a, .int .i64 f, .int .i64 old, .int .i64 v, .bool (ad && br), .int .i64 id] y fun e w' => e = .returned (.tuple #[]) ∧ Hid (∃ g2, Pg g2 ∧ V w' ⟨al1.a.writeA a (wrap64 (f + 1)) v, al1.u⟩ g2 ∧ Fr (own g) (own g2) w w')) := hide fun y gy => (hv_write VB H (hide ((unhide H).gr _ _ _ _ (unhide h) gy)) a f old v (ad && br) id al1 Pg hB hN).mono fun _ _ hh => ⟨hh.1, hide (by
    obtain ⟨g2, p2, v2, f2⟩ := hh.2
    exact ⟨g2, p2, v2, (Fr.of_G gy).trans f2⟩)⟩
  generalize (⟨al1.a.writeA a (wrap64 (f + 1)) v, al1.u⟩ : Al) = al2 at CW ⊢
  clear hB hN h H VB hT
  cases ad
  · go_enter Tryz.func16, Tryz.ntmps16
    go_wp2_with fail
    refine (unhide CG).mono ?_
    rintro e w1 ⟨rfl, g1⟩
    have C2 := hide (unhide CW w1 g1)
    clear CG CW g1
    go_wp2_with fail
    refine (unhide C2).mono ?_
    rintro e w2 ⟨rfl, h2⟩
    clear C2
    go_wp2_with fail
    go_ret
    exact ⟨rfl, unhide h2⟩
  · go_enter Tryz.func16, Tryz.ntmps16
    go_wp2_with fail
    refine (unhide CG).mono ?_
    rintro e w1 ⟨rfl, g1⟩
    have C2 := hide (unhide CW w1 g1)
    clear CG CW g1
    go_wp2_with fail
    refine (unhide C2).mono ?_
    rintro e w2 ⟨rfl, h2⟩
    clear C2
    go_wp2_with fail
    go_ret
    exact ⟨rfl, unhide h2⟩
end
end Go.Proofs.YtahhkehijokhnaaGreatDoor

/- Package heap: what awake's calls come to, reckoned. -/
namespace Go.Proofs.YtahhkehijokhnaaGreatDoor
set_option maxRecDepth 100000
open Go.ChangeShapes Go.WideShapes Go.ChangeAt Go.RowKit Go.Maps Go.Deep

def ls3 : List Hd.Shp := [⟨0, 2, 2⟩, ⟨1, 0, 0⟩, ⟨1, 0, 1⟩]
theorem ls3_ok : ∀ s ∈ ls3, s.Fit ∧ s.good = true := by
  intro s hs
  simp only [ls3, List.mem_cons, List.not_mem_nil, or_false] at hs
  rcases hs with rfl | rfl | rfl <;> exact ⟨⟨by decide, by decide, by decide⟩, by decide⟩
theorem ls3_nd : ls3.Nodup := by decide
/-- Behind Make(0, 3), Make(1, 4), Set(a, 0, 9), Put(b, 2, 5). -/
def qt1 : Al := ((al0 8).take 3).1
def q1 : Al := ⟨qt1.a.writeA 64 0 (Hd.pkV 3 0 0), qt1.u⟩
def qt2 : Al := (q1.take 4).1
def q2 : Al := ⟨qt2.a.writeA 68 0 (Hd.pkV 4 1 1), qt2.u⟩
def q3 : Al := ⟨q2.a.writeA 64 (wrap64 (0 + 1)) 9, q2.u⟩
def q4 : Al := ⟨q3.a.writeA 68 (wrap64 (2 + 1)) 5, q3.u⟩
theorem tr_of {p : Al × Int × Int} {v e : Int} (h : p.2 = (v, e)) : p = (p.1, v, e) := by rw [← h]
theorem q_t1 : (al0 8).take 3 = (qt1, 64, 0) := tr_of (by decide +kernel)
theorem q_t2 : q1.take 4 = (qt2, 68, 0) := tr_of (by decide +kernel)
theorem q_g1 : getT q2 ls3 64 1 true = (0, 0) := by decide +kernel
theorem q_s1 : getT q2 ls3 64 0 false = (0, 0) := by decide +kernel
theorem q_g2 : getT q3 ls3 64 0 false = (9, 0) := by decide +kernel
theorem q_p1 : atT q3 ls3 68 2 false = (0, 0) := by decide +kernel
theorem q_a1 : atT q4 ls3 68 2 false = (5, 0) := by decide +kernel
theorem q_l1 : lenT q4 ls3 68 = (3, 0) := by decide +kernel
theorem q_o1 : ofP q4 ls3 64 = some (3, 0, 0, ⟨0, 2, 2⟩) := by decide +kernel
theorem q_n1 : Hd.numV ls3 ⟨1, 0, 0⟩ = 1 ∧ Hd.numE ⟨1, 0, 0⟩ = 0 ∧ Hd.addS ls3 ⟨1, 0, 0⟩ = ls3 := by decide +kernel
-- HeapKnown's
theorem q_k1 : getT q2 ls3 0 0 false = (0, 1) := by decide +kernel
theorem q_k2 : getT q2 ls3 64 0 true = (0, 1) := by decide +kernel
theorem q_k3 : getT q2 ls3 64 2 false = (0, 1) := by decide +kernel
theorem q_k4 : atT q2 ls3 68 3 false = (0, 2) := by decide +kernel
theorem q_k5 : atT q2 ls3 68 (-1) false = (0, 2) := by decide +kernel
theorem q_k6 : atT q2 ls3 64 0 false = (0, 1) := by decide +kernel
theorem q_k7 : lenT q2 ls3 64 = (0, 1) := by decide +kernel
theorem q_n2 : Hd.numV ls3 ⟨3, 0, 0⟩ = 3 ∧ Hd.numE ⟨3, 0, 0⟩ = 0 := by decide +kernel
theorem q_n3 (l : List Hd.Shp) : Hd.numV l ⟨7, 0, 0⟩ = 0 ∧ Hd.numE ⟨7, 0, 0⟩ = 1 := ⟨rfl, rfl⟩
end Go.Proofs.YtahhkehijokhnaaGreatDoor

/- Package gantlinelaw14's small calls on a Heap of 8 spans with the law's shapes. -/
namespace Go.Proofs.YtahhkehijokhnaaGreatDoor
set_option maxRecDepth 100000
open Go.ChangeShapes Go.WideShapes Go.ChangeAt Go.RowKit Go.Maps Go.Deep

def shp3 : Obj := .cells #[.int .i64 0, .int .i64 2, .int .u64 2, .int .i64 1, .int .i64 0, .int .u64 0, .int .i64 1, .int .i64 0, .int .u64 1] 37
theorem shp3_at (w : World) : ∀ i s, ls3[i]? = some s → (w.alloc shp3).cell? ⟨w.heap.size, 0 + i * 3, none⟩ = some (.int .i64 s.k) ∧ (w.alloc shp3).cell? ⟨w.heap.size, 0 + i * 3 + 1, none⟩ = some (.int .i64 s.f) ∧ (w.alloc shp3).cell? ⟨w.heap.size, 0 + i * 3 + 2, none⟩ = some (.int .u64 (s.m : Int)) := by
  intro i s hs
  unfold shp3
  rw [World.cell?_alloc_new, World.cell?_alloc_new, World.cell?_alloc_new]
  match i, hs with
  | 0, hs => cases hs; exact ⟨rfl, rfl, rfl⟩
  | 1, hs => cases hs; exact ⟨rfl, rfl, rfl⟩
  | 2, hs => cases hs; exact ⟨rfl, rfl, rfl⟩
  | i + 3, hs => simp [ls3] at hs
theorem shapes14 (w : World) : Calls Tryz.prog 6 #[] w fun r w' => r = .returned (.slice (some ⟨w.heap.size, 0, none⟩) 3 3) ∧ w' = w.alloc shp3 := by
  unfold shp3
  go_enter Tryz.func6, Tryz.ntmps6
  go_wp2_with fail
  go_ret
  exact ⟨rfl, rfl⟩
theorem new14 (w w1 : World) (hw : w1 = w.alloc shp3) (ht : Tab w) : Calls Tryz.prog 7 #[.int .i64 8, .slice (some ⟨w.heap.size, 0, none⟩) 3 3] w1 fun e w' => ∃ x, e = .returned (.tuple #[.pointer (some ⟨x.hb, 0, none⟩), .int .i64 0]) ∧ ∃ ao cap nv c, HS w1 w' x (al0 8) ls3 3 ao cap nv c := by
  subst hw
  exact h_new 8 (by decide) (by decide) (hide (Tab.later ht (G.alloc _ _))) w.heap.size 0 3 ls3 3 rfl (by decide) (hide ls3_ok) (hide ls3_nd) (by rw [World.size_alloc]; omega) (hide (shp3_at w))
section
variable {W w : World} {x : Hx} {al : Al} {ao : Option Addr} {cap : Nat} {nv : Value} {c : Nat → Nat}
theorem mk1 (h : Hid (HS W w x (al0 8) ls3 3 ao cap nv c)) (rv : Value) : Calls Tryz.prog 8 #[.pointer (some ⟨x.hb, 0, none⟩), .int .i64 0, .int .i64 3, rv] w fun r w' => r = .returned (.tuple #[.int .i64 64, .int .i64 0]) ∧ HS W w' x q1 ls3 3 ao cap nv c :=
  h_make h 0 (by decide) ⟨0, 2, 2⟩ rfl 3 64 (by decide) (by decide) qt1 (hide q_t1) rv
theorem mk2 (h : Hid (HS W w x q1 ls3 3 ao cap nv c)) (rv : Value) : Calls Tryz.prog 8 #[.pointer (some ⟨x.hb, 0, none⟩), .int .i64 1, .int .i64 4, rv] w fun r w' => r = .returned (.tuple #[.int .i64 68, .int .i64 0]) ∧ HS W w' x q2 ls3 3 ao cap nv c :=
  h_make h 1 (by decide) ⟨1, 0, 0⟩ rfl 4 68 (by decide) (by decide) qt2 (hide q_t2) rv
theorem get14 (a f : Int) (ad : Bool) (v t : Int) (e : getT al ls3 a f ad = (v, t)) (h : Hid (HS W w x al ls3 3 ao cap nv c)) : Calls Tryz.prog 20 #[.pointer (some ⟨x.hb, 0, none⟩), .int .i64 a, .int .i64 f, .bool ad] w fun r w' => r = .returned (.tuple #[.int .i64 v, .int .i64 t]) ∧ HS W w' x al ls3 3 ao cap nv c :=
  (h_get h a f ad).mono fun _ _ hh => by rw [e] at hh; exact ⟨hh.1, (unhide h).gr hh.2⟩
theorem at14 (a f : Int) (ad : Bool) (v t : Int) (e : atT al ls3 a f ad = (v, t)) (h : Hid (HS W w x al ls3 3 ao cap nv c)) : Calls Tryz.prog 17 #[.pointer (some ⟨x.hb, 0, none⟩), .int .i64 a, .int .i64 f, .bool ad] w fun r w' => r = .returned (.tuple #[.int .i64 v, .int .i64 t]) ∧ HS W w' x al ls3 3 ao cap nv c :=
  (h_at h a f ad).mono fun _ _ hh => by rw [e] at hh; exact ⟨hh.1, (unhide h).gr hh.2⟩
theorem len14 (a v t : Int) (e : lenT al ls3 a = (v, t)) (h : Hid (HS W w x al ls3 3 ao cap nv c)) : Calls Tryz.prog 22 #[.pointer (some ⟨x.hb, 0, none⟩), .int .i64 a] w fun r w' => r = .returned (.tuple #[.int .i64 v, .int .i64 t]) ∧ HS W w' x al ls3 3 ao cap nv c :=
  (h_len h a).mono fun _ _ hh => by rw [e] at hh; exact ⟨hh.1, (unhide h).gr hh.2⟩
theorem st1 (h : Hid (HS W w x q2 ls3 3 ao cap nv c)) : Calls Tryz.prog 21 #[.pointer (some ⟨x.hb, 0, none⟩), .int .i64 64, .int .i64 0, .int .i64 9, .bool false, .bool true, .int .i64 1] w fun r w' => r = .returned (.int .i64 0) ∧ HS W w' x q3 ls3 3 ao cap nv c :=
  (h_set h 64 0 9 false true 1).mono fun _ _ hh => by rw [q_s1, if_pos rfl] at hh; exact hh
theorem pt1 (h : Hid (HS W w x q3 ls3 3 ao cap nv c)) : Calls Tryz.prog 16 #[.pointer (some ⟨x.hb, 0, none⟩), .int .i64 68, .int .i64 2, .int .i64 5, .bool false, .bool true, .int .i64 1] w fun r w' => r = .returned (.int .i64 0) ∧ HS W w' x q4 ls3 3 ao cap nv c :=
  (h_put h 68 2 5 false true 1).mono fun _ _ hh => by rw [q_p1, if_pos rfl] at hh; exact hh
theorem of1 (h : Hid (HS W w x q4 ls3 3 ao cap nv c)) : Calls Tryz.prog 12 #[.pointer (some ⟨x.hb, 0, none⟩), .int .i64 64] w fun r w' => r = .returned (.tuple #[.agg #[.int .i64 3, .int .i64 0, .int .i64 0], .agg #[.int .i64 0, .int .i64 2, .int .u64 2], .bool true]) ∧ HS W w' x q4 ls3 3 ao cap nv c :=
  (h_of h 64).mono fun _ _ hh => by rw [q_o1] at hh; exact ⟨hh.1, (unhide h).gr hh.2⟩
theorem ad1 (h : Hid (HS W w x al ls3 3 ao cap nv c)) : Calls Tryz.prog 9 #[.pointer (some ⟨x.hb, 0, none⟩), .agg #[.int .i64 1, .int .i64 0, .int .u64 0]] w fun r w' => r = .returned (.tuple #[.int .i64 1, .int .i64 0]) ∧ (∃ ao cap nv c, HS W w' x al ls3 3 ao cap nv c) ∧ KpD w c w' :=
  (h_add h rfl (by decide) ⟨1, 0, 0⟩ ⟨by decide, by decide, by decide⟩).mono fun _ _ hh => by
    obtain ⟨hr, ⟨n', ao', cap', nv', c', hn', S⟩, hk⟩ := hh
    rw [q_n1.2.2] at S hn'
    rw [q_n1.1, q_n1.2.1] at hr
    subst hn'
    exact ⟨hr, ⟨ao', cap', nv', c', S⟩, hk (by decide)⟩
end
end Go.Proofs.YtahhkehijokhnaaGreatDoor
