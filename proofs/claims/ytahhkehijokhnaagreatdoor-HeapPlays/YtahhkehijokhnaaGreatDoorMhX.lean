/- Here, one behind the other: CycK5, HeadTab4, HpK, HpMem, HpOf, HpOf2, HpGet, HpMake, HpAdd, HpNew, HpNew2, AllocKeepP, AllocFullP, RmP, HqP, HqA, HpV, HpG, HpG2, HpSet, HqHs, HqM, HqL, HqS, HqActs. -/
import Derived.Test.YtahhkehijokhnaaGreatDoorCycK4
import Derived.Test.YtahhkehijokhnaaGreatDoorHeadTab3
import Derived.Maps.OwnSet
import Derived.Deep.DeepCutAuto
import Derived.Test.YtahhkehijokhnaaGreatDoorAllocPlain
import Derived.Test.YtahhkehijokhnaaGreatDoorApartPlain
import Derived.Test.YtahhkehijokhnaaGreatDoorGreyQ
import Derived.Maps.OwnOps
import Derived.Laws.OwnMore
import Derived.Test.YtahhkehijokhnaaGreatDoorArenaBase
import Derived.Deep.Strs
/- The program's Cycle while nothing is held: Barrier, Born, Scan while it is off; Take; Start; what steps till it is off. -/
namespace Go.Proofs.YtahhkehijokhnaaGreatDoor
set_option maxRecDepth 100000
open Go.ChangeShapes Go.WideShapes Go.ChangeAt Go.RowKit Go.Maps
section
variable {W w w' : World} {xl : Ld} {b : Kn} {hb : Nat} {s s' : Pk}
theorem k_barrier0 {al : Al} {kept done : Int} (h : Hid (KS W w xl b al 0 kept done)) (x y i : Int) : Calls Tryz.prog 53 #[.pointer (some ⟨b.cb, 0, none⟩), .int .i64 x, .int .i64 y, .int .i64 i] w fun e w' => e = .returned (.tuple #[]) ∧ w' = w := by
  have C := hide (k_shades h)
  go_enter Tryz.func53, Tryz.ntmps53
  go_wp2_with fail
  refine (unhide C).mono ?_
  rintro r w1 ⟨rfl, hw1⟩
  subst hw1
  clear C
  go_wp2_with fail
  go_returns
  exact ⟨rfl, rfl⟩
theorem l_clear {al : Al} (h : Hid (StL W w xl al)) : Calls Tryz.prog 77 #[.pointer (some ⟨xl.d.ab, 0, none⟩)] w fun e w' => e = .returned (.tuple #[]) ∧ StL W w' xl ⟨al.a.clear, al.u⟩ ∧ TnL w w' xl :=
  (st_clear (hide (unhide h).st)).mono fun _ _ hh => ⟨hh.1, (unhide h).turn hh.2.1 hh.2.2 rfl, TnL.of_Tn hh.2.2⟩
/-- A taking: the place is marked at once, while things are shaded. -/
def Pk.take (s : Pk) (n : Int) : Pk := if (s.al.take n).2.2 = 0 ∧ (s.ph = 1 ∨ s.ph = 2) then ⟨⟨(s.al.take n).1.a.markA (s.al.take n).2.1, (s.al.take n).1.u⟩, s.ph, s.kept, s.done⟩ else ⟨(s.al.take n).1, s.ph, s.kept, s.done⟩
theorem k_take_no (h : Hid (KH W w xl b hb s)) (n v e : Int) (al' : Al) (hR : Hid (s.al.take n = (al', v, e))) (he : (e != 0) = true) : Calls Tryz.prog 48 #[.pointer (some ⟨b.cb, 0, none⟩), .int .i64 n] w fun r w' => r = .returned (.tuple #[.int .i64 0, .int .i64 e]) ∧ KH W w' xl b hb ⟨al', s.ph, s.kept, s.done⟩ := by
  have c1 := (unhide h).ks.c1
  have C := hide (l_take (hide (unhide h).ks.st) n)
  rw [unhide hR] at C
  simp only at C
  go_enter Tryz.func48, Tryz.ntmps48
  go_wp2_with fail
  refine (unhide C).mono ?_
  rintro r w1 ⟨rfl, s1, t1⟩
  have h1 := hide ((unhide h).turn (s' := ⟨al', s.ph, s.kept, s.done⟩) ((unhide h).ks.turn s1 t1) t1)
  clear C s1 t1
  go_wp2_with fail
  go_ret2
  exact ⟨rfl, unhide h1⟩
theorem k_take_off (h : Hid (KH W w xl b hb s)) (n v : Int) (al' : Al) (hR : Hid (s.al.take n = (al', v, 0))) (hp : (s.ph == 1 || s.ph == 2) = false) : Calls Tryz.prog 48 #[.pointer (some ⟨b.cb, 0, none⟩), .int .i64 n] w fun r w' => r = .returned (.tuple #[.int .i64 v, .int .i64 0]) ∧ KH W w' xl b hb ⟨al', s.ph, s.kept, s.done⟩ := by
  have c1 := (unhide h).ks.c1
  have C := hide (l_take (hide (unhide h).ks.st) n)
  rw [unhide hR] at C
  simp only at C
  go_enter Tryz.func48, Tryz.ntmps48
  go_wp2_with fail
  refine (unhide C).mono ?_
  rintro r w1 ⟨rfl, s1, t1⟩
  have h1 := hide ((unhide h).turn (s' := ⟨al', s.ph, s.kept, s.done⟩) ((unhide h).ks.turn s1 t1) t1)
  have C2 := hide (k_shades (hide (unhide h1).ks))
  simp only [hp] at C2
  clear C s1 t1
  go_wp2_with fail
  refine (unhide C2).mono ?_
  rintro r w2 ⟨rfl, hw2⟩
  subst hw2
  clear C2
  go_wp2_with fail
  go_ret2
  exact ⟨rfl, unhide h1⟩
theorem k_take_on (h : Hid (KH W w xl b hb s)) (n v : Int) (al' : Al) (hR : Hid (s.al.take n = (al', v, 0))) (hp : (s.ph == 1 || s.ph == 2) = true) : Calls Tryz.prog 48 #[.pointer (some ⟨b.cb, 0, none⟩), .int .i64 n] w fun r w' => r = .returned (.tuple #[.int .i64 v, .int .i64 0]) ∧ KH W w' xl b hb ⟨⟨al'.a.markA v, al'.u⟩, s.ph, s.kept, s.done⟩ := by
  have c1 := (unhide h).ks.c1
  have C := hide (l_take (hide (unhide h).ks.st) n)
  rw [unhide hR] at C
  simp only at C
  go_enter Tryz.func48, Tryz.ntmps48
  go_wp2_with fail
  refine (unhide C).mono ?_
  rintro r w1 ⟨rfl, s1, t1⟩
  have h1 := hide ((unhide h).turn (s' := ⟨al', s.ph, s.kept, s.done⟩) ((unhide h).ks.turn s1 t1) t1)
  have C2 := hide (k_shades (hide (unhide h1).ks))
  simp only [hp] at C2
  have c0 := (unhide h1).ks.c0
  have C3 := hide (ls_mark (hide (unhide h1).ks.st) v)
  clear C s1 t1
  go_wp2_with fail
  refine (unhide C2).mono ?_
  rintro r w2 ⟨rfl, hw2⟩
  subst hw2
  clear C2
  go_wp2_with fail
  refine (unhide C3).mono ?_
  rintro r w3 ⟨rfl, s3, t3⟩
  have h3 := hide ((unhide h1).turn (s' := ⟨⟨al'.a.markA v, al'.u⟩, s.ph, s.kept, s.done⟩) ((unhide h1).ks.turn s3 t3) t3)
  clear C3 s3 t3
  go_wp2_with fail
  go_ret2
  exact ⟨rfl, unhide h3⟩
theorem k_start1 (h : Hid (KH W w xl b hb s)) (hp : (s.ph != 0) = true) (r : Value) : Calls Tryz.prog 62 #[.pointer (some ⟨b.cb, 0, none⟩), r] w fun e w' => e = .returned (.bool false) ∧ w' = w := by
  have c4 := (unhide h).ks.c4
  go_enter Tryz.func62, Tryz.ntmps62
  go_wp2_with fail
  go_ret
  exact ⟨rfl, rfl⟩
end
end Go.Proofs.YtahhkehijokhnaaGreatDoor

/- The contract of a Table's Number, in one. -/
namespace Go.Proofs.YtahhkehijokhnaaGreatDoor.Hd
set_option maxRecDepth 100000
open Go.RowKit Go.Maps Go.ChangeShapes Go.WideShapes Go.ChangeAt Go.Deep

/-- A shape that may be. -/
def Shp.good (s : Shp) : Bool := goodB s.k s.f s.m
/-- The shapes of a table behind Number. -/
def addS (l : List Shp) (s : Shp) : List Shp := if s.good = true ∧ s ∉ l then l ++ [s] else l
/-- What Number answers. -/
def numV (l : List Shp) (s : Shp) : Int := if s.good = true then (l.idxOf s : Int) else 0
def numE (s : Shp) : Int := if s.good = true then 0 else 1

theorem TabAt.ne {w : World} {B tb mb : Nat} {ao : Option Addr} {cap : Nat} {l : List Shp} (h : TabAt w B tb mb ao cap l) : tb ≠ mb ∧ (∀ a, ao = some a → a.block ≠ mb) ∧ (∀ a, ao = some a → a.block ≠ tb) := by
  obtain ⟨D, ⟨es, clock, hm, _⟩, _⟩ := h.map
  have hrow := h.row
  refine ⟨?_, ?_, ?_⟩
  · rintro rfl
    have := h.blk
    rw [hm] at this
    cases this
  · rintro a rfl rfl
    rcases hrow.2 with ⟨e, _⟩ | ⟨g, c, cur, e, _, hg, _⟩
    · cases e
    · injection e with e
      injection e with e
      subst e
      rw [hm] at hg
      cases hg
  · rintro a rfl rfl
    rcases hrow.2 with ⟨e, _⟩ | ⟨g, c, cur, e, _, hg, _⟩
    · cases e
    · injection e with e
      injection e with e
      subst e
      have h1 := h.blk
      rw [hg] at h1
      cases h1

theorem tab_add {w w' : World} {B tb mb : Nat} {ao : Option Addr} {cap g cap' : Nat} {l : List Shp} {D : DataW Unit} {s : Shp} (h : TabAt w B tb mb ao cap l) (hs : s.Fit) (hn : s ∉ l)
    (hown : w.ownsMap Tryz.prog 37 (plainElem Tryz.prog 3) mb l.length D) (hhas : ∀ s : Shp, s.Fit → Maps.has D s.key = decide (s ∈ l))
    (hat : ∀ s : Shp, s ∈ l → D.atKey s.key (.lit (.int .i64 0)) = .lit (.int .i64 (l.idxOf s : Int)))
    (E : NumEnd w w' B tb mb ao g cap' l.length (rowOf l ++ s.cells) (D.put s.key (.lit (.int .i64 (l.length : Int))))) : TabAt w' B tb mb (some ⟨g, 0, none⟩) cap' (l ++ [s]) := by
  have hl : (l ++ [s]).length = l.length + 1 := by simp
  have hk : WideAt.IsKeyLit s.key := keyed.key (keyOf_shp s hs w)
  refine ⟨by rw [hl]; exact E.blk, h.btb, h.bmb, by rw [hl, rowOf_snoc]; exact E.row, ⟨_, by rw [hl]; exact E.map, ?_, ?_⟩, ?_⟩
  · intro t ht
    by_cases e : t = s
    · subst e
      rw [has_put_same hown.isMap hk]
      simp
    · rw [has_put_other (fun e2 => e (key_inj ht hs w e2)), hhas t ht]
      simp [e]
  · intro t ht
    by_cases e : t = s
    · subst e
      rw [atKey_put_same hown.isMap hk, List.idxOf_append, if_neg hn]
      simp
    · have ht' : t ∈ l := by simpa [e] using ht
      rw [atKey_put_other (fun e2 => e (key_inj (h.fit t ht') hs w e2)), hat t ht', List.idxOf_append, if_pos ht']
  · intro t ht
    rcases List.mem_append.1 ht with h1 | h1
    · exact h.fit t h1
    · simp at h1
      subst h1
      exact hs

theorem number_any (w : World) (B tb mb : Nat) (ao : Option Addr) (cap : Nat) (l : List Shp) (s : Shp) (h : TabAt w B tb mb ao cap l) (hs : s.Fit) (hlen : l.length < 65536) (hB : B ≤ w.heap.size) :
    Calls Tryz.prog 26 #[.pointer (some ⟨tb, 0, none⟩), .agg #[.int .i64 s.k, .int .i64 s.f, .int .u64 (s.m : Int)]] w fun e w' =>
      ∃ ao' cap', e = .returned (.tuple #[.int .i64 (numV l s), .int .i64 (numE s)]) ∧ TabAt w' B tb mb ao' cap' (addS l s) ∧ Turn w w' tb mb ao ∧ (∀ a, ao' = some a → ao = some a ∨ w.heap.size ≤ a.block) := by
  by_cases hg : s.good = true
  · unfold numV numE addS
    simp only [hg, if_true, true_and]
    have hl := fun k => look_at (h.grown (boxed_G w s k)) s hs
    by_cases hm : s ∈ l
    · simp only [hm, if_true, decide_true] at hl
      rw [if_neg (by simpa using hm)]
      refine (number_old w tb mb s _ hg h.cells.1 hl).mono ?_
      rintro e w' ⟨rfl, hG⟩
      exact ⟨ao, cap, rfl, h.grown hG, Turn.of_G hG, fun a ha => Or.inl ha⟩
    · simp only [hm, if_false, decide_false] at hl
      rw [if_pos hm, List.idxOf_eq_length hm]
      obtain ⟨D, hown, hhas, hat⟩ := h.map
      obtain ⟨n1, n2, n3⟩ := h.ne
      refine (number_new w B tb mb l.length cap ao (rowOf l) D s hg hs hB hlen (hide h.blk) h.cells.1 h.cells.2.1 h.cells.2.2 n1 h.mlt (hide h.row) (hide n2) (hide n3) (hide hown) hl).mono ?_
      rintro e w' ⟨g, cap', rfl, E⟩
      refine ⟨_, cap', rfl, tab_add h hs hm hown hhas hat E, E.turn, ?_⟩
      intro a ha
      injection ha with ha
      subst ha
      exact E.lies
  · have hg' : goodB s.k s.f s.m = false := by
      have : s.good = false := by simpa using hg
      exact this
    unfold numV numE addS
    rw [if_neg hg, if_neg hg, if_neg (fun h => hg h.1)]
    refine (number_bad w tb s hg').mono ?_
    rintro e w' ⟨rfl, hG⟩
    exact ⟨ao, cap, rfl, h.grown hG, Turn.of_G hG, fun a ha => Or.inl ha⟩
end Go.Proofs.YtahhkehijokhnaaGreatDoor.Hd

/- The program's Cycle, made with an empty table beside it. -/
namespace Go.Proofs.YtahhkehijokhnaaGreatDoor
set_option maxRecDepth 100000
open Go.ChangeShapes Go.WideShapes Go.ChangeAt Go.RowKit Go.Maps

theorem ks_newT {n : Nat} {W w3 w4 : World} {xl : Ld} {tb : Nat} (S3 : StL W w4 xl (al0 n)) (Q4 : Gy.QL w4 w3.heap.size [] []) (k0 : w4.cell? ⟨w3.heap.size + 1, 0, none⟩ = some (.pointer (some ⟨xl.d.ab, 0, none⟩)) ∧ w4.cell? ⟨w3.heap.size + 1, 2, none⟩ = some (.pointer (some ⟨w3.heap.size, 0, none⟩)))
    (z4 : w4.heap.size = w3.heap.size + 2) (hW : W.heap.size ≤ w3.heap.size) (l1 : xl.d.wb < w3.heap.size) (l2 : xl.d.sb < w3.heap.size) (l3 : xl.ub < w3.heap.size) (l4 : xl.d.ab < w3.heap.size) (l5 : xl.lb < w3.heap.size) :
    KS W ((w4.alloc (.map #[] 0)).alloc (.cells #[.pointer (some ⟨xl.d.ab, 0, none⟩), .pointer (some ⟨xl.lb, 0, none⟩), .pointer (some ⟨tb, 0, none⟩), .pointer (some ⟨w3.heap.size + 1, 0, none⟩), .int .i64 0, .map (some w4.heap.size), .int .i64 64, .int .i64 0] 96)) xl ⟨w4.heap.size + 1, w4.heap.size, w3.heap.size + 1, tb, w3.heap.size⟩ (al0 n) 0 64 0 := by
  obtain ⟨w5, h5⟩ : ∃ w5, w4.alloc (.map #[] 0) = w5 := ⟨_, rfl⟩
  have z5 : w5.heap.size = w4.heap.size + 1 := by rw [← h5, World.size_alloc]
  have g5 : G w4 w5 := by rw [← h5]; exact G.alloc _ _
  have m5 : w5.heap[w4.heap.size]? = some (.map #[] 0) := by rw [← h5]; exact heap_alloc_new w4 _
  rw [h5, ← z5]
  obtain ⟨w6, h6⟩ : ∃ w6, w5.alloc (.cells #[.pointer (some ⟨xl.d.ab, 0, none⟩), .pointer (some ⟨xl.lb, 0, none⟩), .pointer (some ⟨tb, 0, none⟩), .pointer (some ⟨w3.heap.size + 1, 0, none⟩), .int .i64 0, .map (some w4.heap.size), .int .i64 64, .int .i64 0] 96) = w6 := ⟨_, rfl⟩
  have g6 : G w5 w6 := by rw [← h6]; exact G.alloc _ _
  have z6 : w6.heap.size = w5.heap.size + 1 := by rw [← h6, World.size_alloc]
  have g := g5.trans g6
  have b6 : w6.heap[w5.heap.size]? = some (.cells #[.pointer (some ⟨xl.d.ab, 0, none⟩), .pointer (some ⟨xl.lb, 0, none⟩), .pointer (some ⟨tb, 0, none⟩), .pointer (some ⟨w3.heap.size + 1, 0, none⟩), .int .i64 0, .map (some w4.heap.size), .int .i64 64, .int .i64 0] 96 (0, 0)) := by rw [← h6]; exact heap_alloc_new w5 _
  have hc : ∀ i : Nat, w6.cell? ⟨w5.heap.size, i, none⟩ = #[Value.pointer (some ⟨xl.d.ab, 0, none⟩), .pointer (some ⟨xl.lb, 0, none⟩), .pointer (some ⟨tb, 0, none⟩), .pointer (some ⟨w3.heap.size + 1, 0, none⟩), .int .i64 0, .map (some w4.heap.size), .int .i64 64, .int .i64 0][i]? := fun i => by rw [← h6]; exact World.cell?_alloc_new _ _ _ i
  rw [h6]
  refine ⟨S3.G g, hc 0, hc 1, hc 2, hc 3, hc 4, hc 5, hc 6, hc 7, fun i => by simp [World.frozen?, b6], ⟨0, (g6.block w4.heap.size (by omega)).trans m5⟩, g.cell k0.1, g.cell k0.2, Q4.grown g, fun d hd => ?_, by simp; omega, by simp; omega⟩
  simp at hd
  omega
set_option maxHeartbeats 2000000 in
theorem k_newT {W w : World} (n : Nat) (h0 : 8 ≤ n) (h1 : n ≤ 512) (hb : Hid (Below W.heap.size W w)) (ht : Hid (Tab W)) : Calls Tryz.prog 23 #[.int .i64 (n : Int)] w fun e w' => ∃ xl b tm, e = .returned (.tuple #[.pointer (some ⟨b.cb, 0, none⟩), .int .i64 0]) ∧ KS W w' xl b (al0 n) 0 64 0 ∧ Hd.TabAt w' W.heap.size b.tb tm none 0 [] ∧ (∀ d ∈ [b.cb, b.mb, b.kb, b.q, xl.d.ab, xl.d.wb, xl.d.sb, xl.ub, xl.lb], d ≠ b.tb ∧ d ≠ tm ∧ d < w'.heap.size) ∧ b.tb ≠ tm := by
  have hmm := @run_makeMap Tryz.prog
  have hbs := (unhide hb).size
  have SM := hide (st_make n h0 h1 hb ht)
  have KN := hide (fun (x : World) (d : Ad) (h : Hid (St W x d (ab0 n))) => kl_new n h1 h)
  replace h0 := hide h0
  replace h1 := hide h1
  go_enter Tryz.func23, Tryz.ntmps23
  go_wp2_with fail
  refine (unhide SM).mono ?_
  rintro r w1 ⟨d, rfl, S1, g1, q1, q2, q3⟩
  replace S1 := hide S1
  have z1 := g1.size
  clear g1
  go_wp2_with fail
  refine (headnew_k _).mono ?_
  rintro r w2 ⟨rfl, hw2⟩
  have g2 : Hid (G w1 w2) := hide (by rw [hw2]; exact (G.alloc _ _).more _)
  have z2 : w2.heap.size = w1.heap.size + 2 := by rw [hw2]; simp
  have T2 : Hid (Hd.TabAt w2 W.heap.size (w1.heap.size + 1) w1.heap.size none 0 []) := hide (by rw [hw2]; exact Hd.tab_new w1 W.heap.size (by omega))
  have l01 := (unhide S1).at_.lt0
  have l11 := (unhide S1).at_.lt1 (unhide S1).n8
  have l21 := (unhide S1).at_.lt2 (unhide S1).n8
  clear hw2
  have CA := hide (unhide KN w2 d (hide ((unhide S1).G (unhide g2))))
  go_wp2_with fail
  refine (unhide CA).mono ?_
  rintro r w3 ⟨xl, rfl, hxd, S3, g3, y1, y2, y3⟩
  subst hxd
  replace S3 := hide S3
  have z3 := g3.size
  replace T2 : Hid (Hd.TabAt w3 W.heap.size (w1.heap.size + 1) w1.heap.size none 0 []) := hide ((unhide T2).grown g3)
  clear CA g3
  go_wp2_with fail
  refine (marknew_k _ _ _).mono ?_
  rintro r w4 ⟨rfl, hw4⟩
  have Q4 : Hid (Gy.QL w4 w3.heap.size [] []) := hide (by rw [hw4]; exact (Gy.queue_new w3).grown (G.alloc _ _))
  have g4 : Hid (G w3 w4) := hide (by rw [hw4]; exact (G.alloc _ _).more _)
  have z4 : w4.heap.size = w3.heap.size + 2 := by rw [hw4]; simp
  have k0 : Hid (w4.cell? ⟨w3.heap.size + 1, 0, none⟩ = some (.pointer (some ⟨xl.d.ab, 0, none⟩)) ∧ w4.cell? ⟨w3.heap.size + 1, 2, none⟩ = some (.pointer (some ⟨w3.heap.size, 0, none⟩))) := hide (by
    have hz : (w3.alloc (.cells #[.pointer none, .pointer none, .int .i64 0, .int .i64 0] 134)).heap.size = w3.heap.size + 1 := by rw [World.size_alloc]
    rw [hw4, ← hz]
    exact ⟨World.cell?_alloc_new _ _ _ 0, World.cell?_alloc_new _ _ _ 2⟩)
  clear hw4
  have S4 := (unhide S3).G (unhide g4)
  have l0 := (unhide S3).st.at_.lt0
  have l1 := (unhide S3).st.at_.lt1 (unhide S3).st.n8
  have l2 := (unhide S3).st.at_.lt2 (unhide S3).st.n8
  have z4' := hide z4
  clear z4
  go_wp2_with fail
  go_ret2
  have KK := ks_newT (tb := w1.heap.size + 1) S4 (unhide Q4) (unhide k0) (unhide z4') (by omega) l1 l2 (by omega) l0 (unhide S3).lt0
  have l5 := (unhide S3).lt0
  have hz := unhide z4'
  refine ⟨xl, ⟨w4.heap.size + 1, w4.heap.size, w3.heap.size + 1, w1.heap.size + 1, w3.heap.size⟩, w1.heap.size, rfl, KK, (unhide T2).grown (((unhide g4).more _).more _), fun d hd => ?_, by simp only; omega⟩
  rw [World.size_alloc, World.size_alloc]
  simp only [List.mem_cons, List.not_mem_nil, or_false] at hd
  simp only
  rcases hd with rfl | rfl | rfl | rfl | rfl | rfl | rfl | rfl | rfl <;> refine ⟨?_, ?_, ?_⟩ <;> omega
end Go.Proofs.YtahhkehijokhnaaGreatDoor

/- A Heap in memory while no collection goes on: the Cycle and its table, the Heap's own cells, its row of numbers, its map. -/
namespace Go.Proofs.YtahhkehijokhnaaGreatDoor
set_option maxRecDepth 100000
open Go.ChangeShapes Go.WideShapes Go.ChangeAt Go.RowKit Go.Maps

theorem keyI : Keyed Tryz.prog 3 := int_keyed Tryz.underlying3
abbrev wfN (y : Int) : Prop := (Lit.int .i64 y).wf = true
/-- Where a Heap's things lie. -/
structure Hx where
  xl : Ld
  b : Kn
  tm : Nat
  hb : Nat
  lm : Nat
/-- The map has the numbers from 0 to n - 1, each at itself. -/
def LmAt (w : World) (lm n : Nat) : Prop := ∃ D : DataW Unit, w.ownsMap Tryz.prog 3 (plainElem Tryz.prog 3) lm n D ∧ ∀ y : Int, wfN y → Maps.has D (.int .i64 y) = decide (0 ≤ y ∧ y < (n : Int)) ∧ (0 ≤ y ∧ y < (n : Int) → D.atKey (.int .i64 y) (.lit (.int .i64 0)) = .lit (.int .i64 y))
abbrev nrL (n : Nat) : List Value := (List.range n).map fun (i : Nat) => Value.int .i64 (i : Int)
abbrev NrAt (w : World) (B : Nat) (v : Value) (n : Nat) : Prop := w.ownsRow B 3 1 v n (nrL n)
/-- What reading a Heap wants, whatever its collector does. -/
structure HB (W w : World) (x : Hx) (al : Al) (l : List Hd.Shp) (ao : Option Addr) (cap : Nat) : Prop where
  st : StL W w x.xl al
  c0 : w.cell? ⟨x.b.cb, 0, none⟩ = some (.pointer (some ⟨x.xl.d.ab, 0, none⟩))
  c2 : w.cell? ⟨x.b.cb, 2, none⟩ = some (.pointer (some ⟨x.b.tb, 0, none⟩))
  tab : Hd.TabAt w W.heap.size x.b.tb x.tm ao cap l
  h0 : w.cell? ⟨x.hb, 0, none⟩ = some (.pointer (some ⟨x.b.cb, 0, none⟩))
theorem HB.gr {W w w' : World} {x : Hx} {al : Al} {l : List Hd.Shp} {ao : Option Addr} {cap : Nat} (h : HB W w x al l ao cap) (g : G w w') : HB W w' x al l ao cap := ⟨h.st.G g, g.cell h.c0, g.cell h.c2, h.tab.grown g, g.cell h.h0⟩
theorem b_arena {W w : World} {x : Hx} {al : Al} {l : List Hd.Shp} {ao : Option Addr} {cap : Nat} (h : Hid (HB W w x al l ao cap)) : Calls Tryz.prog 29 #[.pointer (some ⟨x.b.cb, 0, none⟩)] w fun e w' => e = .returned (.pointer (some ⟨x.xl.d.ab, 0, none⟩)) ∧ w' = w := by
  have c0 := (unhide h).c0
  go_enter Tryz.func29, Tryz.ntmps29
  go_wp2_with fail
  go_ret
  exact ⟨rfl, rfl⟩
theorem b_table {W w : World} {x : Hx} {al : Al} {l : List Hd.Shp} {ao : Option Addr} {cap : Nat} (h : Hid (HB W w x al l ao cap)) : Calls Tryz.prog 25 #[.pointer (some ⟨x.b.cb, 0, none⟩)] w fun e w' => e = .returned (.pointer (some ⟨x.b.tb, 0, none⟩)) ∧ w' = w := by
  have c2 := (unhide h).c2
  go_enter Tryz.func25, Tryz.ntmps25
  go_wp2_with fail
  go_ret
  exact ⟨rfl, rfl⟩
/-- A Heap: l: the table's shapes; n: so many of them are numbered; c: whose each block is. -/
structure HS (W w : World) (x : Hx) (al : Al) (l : List Hd.Shp) (n : Nat) (ao : Option Addr) (cap : Nat) (nv : Value) (c : Nat → Nat) : Prop where
  ks : KS W w x.xl x.b al 0 64 0
  tab : Hd.TabAt w W.heap.size x.b.tb x.tm ao cap l
  h0 : w.cell? ⟨x.hb, 0, none⟩ = some (.pointer (some ⟨x.b.cb, 0, none⟩))
  h1 : w.cell? ⟨x.hb, 1, none⟩ = some nv
  h2 : w.cell? ⟨x.hb, 2, none⟩ = some (.map (some x.lm))
  h3 : w.cell? ⟨x.hb, 3, none⟩ = some (.int .i64 0)
  hf : ∀ i, w.frozen? ⟨x.hb, i, none⟩ = false
  num : NrAt w W.heap.size nv n
  mp : LmAt w x.lm n
  lo : W.heap.size ≤ x.hb ∧ W.heap.size ≤ x.lm
  lt : x.lm < w.heap.size
  cA : c x.xl.d.ab = 1 ∧ c x.xl.d.wb = 1 ∧ c x.xl.d.sb = 1 ∧ c x.xl.ub = 1 ∧ c x.xl.lb = 1
  cC : c x.b.cb = 2 ∧ c x.b.mb = 2 ∧ c x.b.kb = 2 ∧ c x.b.q = 2
  c3 : c x.b.tb = 3
  c4 : c x.tm = 4
  c5 : ∀ a, ao = some a → c a.block = 5
  c6 : c x.hb = 6
  c7 : c x.lm = 7
  c8 : ∀ k, nv.ownBlock = some k → c k = 8
section
variable {W w w' : World} {x : Hx} {al al' : Al} {l l' : List Hd.Shp} {n : Nat} {ao : Option Addr} {cap : Nat} {nv : Value} {c : Nat → Nat}
theorem HS.hB (h : HS W w x al l n ao cap nv c) : HB W w x al l ao cap := ⟨h.ks.st, h.ks.c0, h.ks.c2, h.tab, h.h0⟩
theorem HS.hlt (h : HS W w x al l n ao cap nv c) : x.hb < w.heap.size := World.block_lt_of_cell? w _ h.h0
theorem HS.nlt (h : HS W w x al l n ao cap nv c) : ∀ k, nv.ownBlock = some k → k < w.heap.size := fun k hk => by
  rcases h.num.2 with ⟨e, _⟩ | ⟨g, cp, cur, e, _, h3, _⟩
  · rw [e] at hk; cases hk
  · rw [e] at hk
    obtain rfl : g = k := by simpa [Value.ownBlock] using hk
    rcases Nat.lt_or_ge g w.heap.size with hh | hh
    · exact hh
    · rw [Array.getElem?_eq_none hh] at h3; cases h3
theorem LmAt.kept {lm : Nat} (h : LmAt w lm n) (e : w'.heap[lm]? = w.heap[lm]?) : LmAt w' lm n := by
  obtain ⟨D, ⟨es, clock, hb, r⟩, hD⟩ := h
  exact ⟨D, ⟨es, clock, e.trans hb, r⟩, hD⟩
theorem nr_kept {B : Nat} {v : Value} (h : NrAt w B v n) (e : ∀ k, v.ownBlock = some k → w'.heap[k]? = w.heap[k]?) : NrAt w' B v n := by
  refine ⟨h.1, ?_⟩
  rcases h.2 with h0 | ⟨g, cp, cur, e1, e2, e3, e4⟩
  · exact Or.inl h0
  · exact Or.inr ⟨g, cp, cur, e1, e2, (e g (by rw [e1]; rfl)).trans e3, e4⟩
/-- Only the arena's blocks, the allocator's and new ones have been turned. -/
theorem HS.keep (h : HS W w x al l n ao cap nv c) (s : KS W w' x.xl x.b al' 0 64 0) (hs : w.heap.size ≤ w'.heap.size) (k : ∀ d, d < w.heap.size → 3 ≤ c d → w'.heap[d]? = w.heap[d]?) : HS W w' x al' l n ao cap nv c := by
  have kh := k x.hb h.hlt (by rw [h.c6]; decide)
  exact ⟨s, h.tab.kept (k _ h.tab.tlt (by rw [h.c3]; decide)) (k _ h.tab.mlt (by rw [h.c4]; decide)) (fun a ha => k _ (h.tab.aoB a ha).2 (by rw [h.c5 a ha]; decide)), (World.cell?_of_block (a := ⟨x.hb, 0, none⟩) kh).trans h.h0, (World.cell?_of_block (a := ⟨x.hb, 1, none⟩) kh).trans h.h1, (World.cell?_of_block (a := ⟨x.hb, 2, none⟩) kh).trans h.h2, (World.cell?_of_block (a := ⟨x.hb, 3, none⟩) kh).trans h.h3, fun i => (World.frozen?_of_block (a := ⟨x.hb, i, none⟩) kh).trans (h.hf i), nr_kept h.num (fun q hq => k q (h.nlt q hq) (by rw [h.c8 q hq]; decide)), h.mp.kept (k _ h.lt (by rw [h.c7]; decide)), h.lo, Nat.lt_of_lt_of_le h.lt hs, h.cA, h.cC, h.c3, h.c4, h.c5, h.c6, h.c7, h.c8⟩
theorem HS.turn (h : HS W w x al l n ao cap nv c) (s : StL W w' x.xl al') (t : TnL w w' x.xl) : HS W w' x al' l n ao cap nv c := by
  obtain ⟨_, a2, a3, a4, _⟩ := h.cA
  exact h.keep (h.ks.turn s t) t.size fun d hd hc => t.block d hd (fun e => by rw [e, a2] at hc; omega) (fun e => by rw [e, a3] at hc; omega) (fun e => by rw [e, a4] at hc; omega)
theorem HS.gr (h : HS W w x al l n ao cap nv c) (g : G w w') : HS W w' x al l n ao cap nv c := h.keep (h.ks.gr g) g.size fun d hd _ => g.block d hd
/-- What is not the arena's, the allocator's or the Cycle's is as it was. -/
def Kp3 (w : World) (c : Nat → Nat) (w' : World) : Prop := w.heap.size ≤ w'.heap.size ∧ ∀ d, d < w.heap.size → 3 ≤ c d → w'.heap[d]? = w.heap[d]?
theorem Kp3.of_G (g : G w w') : Kp3 w c w' := ⟨g.size, fun d hd _ => g.block d hd⟩
theorem Kp3.trans {w2 : World} (h : Kp3 w c w') (k : Kp3 w' c w2) : Kp3 w c w2 := ⟨Nat.le_trans h.1 k.1, fun d hd hc => (k.2 d (Nat.lt_of_lt_of_le hd h.1) hc).trans (h.2 d hd hc)⟩
theorem HS.kp (h : HS W w x al l n ao cap nv c) (t : TnL w w' x.xl) : Kp3 w c w' := by
  obtain ⟨_, a2, a3, a4, _⟩ := h.cA
  exact ⟨t.size, fun d hd hc => t.block d hd (fun e => by rw [e, a2] at hc; omega) (fun e => by rw [e, a3] at hc; omega) (fun e => by rw [e, a4] at hc; omega)⟩
/-- The arena's and the allocator's blocks are as they were. -/
theorem StL.kept {xl : Ld} (h : StL W w xl al) (hb : Below W.heap.size W w') (k : ∀ d, d = xl.d.ab ∨ d = xl.d.wb ∨ d = xl.d.sb ∨ d = xl.ub ∨ d = xl.lb → w'.heap[d]? = w.heap[d]?) : StL W w' xl al := by
  have kl := k xl.lb (by simp)
  have ku := k xl.ub (by simp)
  exact ⟨⟨h.st.at_.kept (k _ (by simp)) (k _ (by simp)) (k _ (by simp)), h.st.good, hb, h.st.tab⟩, (World.cell?_of_block (a := ⟨xl.lb, 0, none⟩) kl).trans h.c0, (World.cell?_of_block (a := ⟨xl.lb, 1, none⟩) kl).trans h.c1, fun s hs => (World.cell?_of_block (a := ⟨xl.ub, s, none⟩) ku).trans (h.us s hs), fun i => (World.frozen?_of_block (a := ⟨xl.ub, i, none⟩) ku).trans (h.fu i), h.b0, h.b1, h.n0, h.n1, h.n2⟩
theorem HS.alt (h : HS W w x al l n ao cap nv c) : x.xl.d.ab < w.heap.size ∧ x.xl.d.wb < w.heap.size ∧ x.xl.d.sb < w.heap.size ∧ x.xl.ub < w.heap.size ∧ x.xl.lb < w.heap.size :=
  ⟨h.ks.st.st.at_.lt0, h.ks.st.st.at_.lt1 h.ks.st.st.n8, h.ks.st.st.at_.lt2 h.ks.st.st.n8, h.ks.st.lt1, h.ks.st.lt0⟩
/-- Blocks of the Heap's own, or of the table's, have been turned: what the Cycle has is as it was. -/
theorem HS.cyc (h : HS W w x al l n ao cap nv c) (hb : Below W.heap.size W w') (hs : w.heap.size ≤ w'.heap.size) (k : ∀ d, d < w.heap.size → c d ≤ 2 → w'.heap[d]? = w.heap[d]?) : KS W w' x.xl x.b al 0 64 0 := by
  obtain ⟨a1, a2, a3, a4, a5⟩ := h.cA
  obtain ⟨e1, e2, e3, e4⟩ := h.cC
  obtain ⟨l1, l2, l3, l4, l5⟩ := h.alt
  refine h.ks.blocks (h.ks.st.kept hb fun d hd => ?_) hs fun d hd => k d (h.ks.ap d hd).1 ?_
  · rcases hd with rfl | rfl | rfl | rfl | rfl
    · exact k _ l1 (by omega)
    · exact k _ l2 (by omega)
    · exact k _ l3 (by omega)
    · exact k _ l4 (by omega)
    · exact k _ l5 (by omega)
  · simp only [List.mem_cons, List.not_mem_nil, or_false] at hd
    rcases hd with rfl | rfl | rfl | rfl <;> omega
/-- The table has been asked for a number. -/
theorem HS.number9 {ao' : Option Addr} {cap' : Nat} (h : HS W w x al l n ao cap nv c) (T : Hd.TabAt w' W.heap.size x.b.tb x.tm ao' cap' l') (t : Hd.Turn w w' x.b.tb x.tm ao) (ha : ∀ a, ao' = some a → ao = some a ∨ w.heap.size ≤ a.block) :
    ∃ c', HS W w' x al l' n ao' cap' nv c' ∧ ∀ d, d < w.heap.size → c' d = c d := by
  have hb : Below W.heap.size W w' := Below.trans h.ks.st.below (t.below h.ks.st.below.size h.tab.btb h.tab.bmb (fun a ha => (h.tab.aoB a ha).1))
  have k : ∀ d, d < w.heap.size → c d ≠ 3 → c d ≠ 4 → c d ≠ 5 → w'.heap[d]? = w.heap[d]? := fun d hd n3 n4 n5 => t.block d hd (fun e => n3 (by rw [e]; exact h.c3)) (fun e => n4 (by rw [e]; exact h.c4)) (fun a ea e => n5 (by rw [e]; exact h.c5 a ea))
  have kh := k x.hb h.hlt (by rw [h.c6]; decide) (by rw [h.c6]; decide) (by rw [h.c6]; decide)
  have ks := h.cyc hb t.size (fun d hd hc => k d hd (by omega) (by omega) (by omega))
  have cc : ∀ d, d < w.heap.size → (fun d => if w.heap.size ≤ d then 5 else c d) d = c d := fun d hd => by simp only; rw [if_neg (by omega)]
  obtain ⟨l1, l2, l3, l4, l5⟩ := h.alt
  obtain ⟨a1, a2, a3, a4, a5⟩ := h.cA
  obtain ⟨e1, e2, e3, e4⟩ := h.cC
  refine ⟨fun d => if w.heap.size ≤ d then 5 else c d, ⟨ks, T, (World.cell?_of_block (a := ⟨x.hb, 0, none⟩) kh).trans h.h0, (World.cell?_of_block (a := ⟨x.hb, 1, none⟩) kh).trans h.h1, (World.cell?_of_block (a := ⟨x.hb, 2, none⟩) kh).trans h.h2, (World.cell?_of_block (a := ⟨x.hb, 3, none⟩) kh).trans h.h3, fun i => (World.frozen?_of_block (a := ⟨x.hb, i, none⟩) kh).trans (h.hf i), nr_kept h.num (fun q hq => k q (h.nlt q hq) (by rw [h.c8 q hq]; decide) (by rw [h.c8 q hq]; decide) (by rw [h.c8 q hq]; decide)), h.mp.kept (k _ h.lt (by rw [h.c7]; decide) (by rw [h.c7]; decide) (by rw [h.c7]; decide)), h.lo, Nat.lt_of_lt_of_le h.lt t.size, ⟨(cc _ l1).trans a1, (cc _ l2).trans a2, (cc _ l3).trans a3, (cc _ l4).trans a4, (cc _ l5).trans a5⟩, ⟨(cc _ (h.ks.ap _ (by simp)).1).trans e1, (cc _ (h.ks.ap _ (by simp)).1).trans e2, (cc _ (h.ks.ap _ (by simp)).1).trans e3, (cc _ (h.ks.ap _ (by simp)).1).trans e4⟩, (cc _ h.tab.tlt).trans h.c3, (cc _ h.tab.mlt).trans h.c4, fun a ea => ?_, (cc _ h.hlt).trans h.c6, (cc _ h.lt).trans h.c7, fun q hq => (cc _ (h.nlt q hq)).trans (h.c8 q hq)⟩, cc⟩
  rcases ha a ea with e | e
  · exact (cc _ (h.tab.aoB a e).2).trans (h.c5 a e)
  · exact if_pos e
theorem HS.number {ao' : Option Addr} {cap' : Nat} (h : HS W w x al l n ao cap nv c) (T : Hd.TabAt w' W.heap.size x.b.tb x.tm ao' cap' l') (t : Hd.Turn w w' x.b.tb x.tm ao) (ha : ∀ a, ao' = some a → ao = some a ∨ w.heap.size ≤ a.block) :
    ∃ c', HS W w' x al l' n ao' cap' nv c' := by
  obtain ⟨c', S, _⟩ := h.number9 T t ha
  exact ⟨c', S⟩
/-- Old blocks keep their owner; others' blocks are as they were. -/
def K9 (w : World) (c : Nat → Nat) (w' : World) (c' : Nat → Nat) : Prop := w.heap.size ≤ w'.heap.size ∧ ∀ d, d < w.heap.size → c' d = c d ∧ (c d = 9 → w'.heap[d]? = w.heap[d]?)
theorem K9.trans {w w1 w2 : World} {c c1 c2 : Nat → Nat} (h : K9 w c w1 c1) (k : K9 w1 c1 w2 c2) : K9 w c w2 c2 :=
  ⟨Nat.le_trans h.1 k.1, fun d hd => by
    obtain ⟨e1, e2⟩ := h.2 d hd
    obtain ⟨e3, e4⟩ := k.2 d (Nat.lt_of_lt_of_le hd h.1)
    exact ⟨e3.trans e1, fun h9 => (e4 (e1.trans h9)).trans (e2 h9)⟩⟩
end
end Go.Proofs.YtahhkehijokhnaaGreatDoor

/- Package heap: its leaves; Of. -/
namespace Go.Proofs.YtahhkehijokhnaaGreatDoor
set_option maxRecDepth 100000
open Go.ChangeShapes Go.WideShapes Go.ChangeAt Go.RowKit Go.Maps Go.Deep

theorem hp_fields (w : World) (a b c : Int) (h : 1 ≤ a ∧ a ≤ 64) : Calls Tryz.prog 39 #[.agg #[.int .i64 a, .int .i64 b, .int .i64 c]] w fun e w' => e = .returned (.int .i64 (a - 1)) ∧ G w w' := by
  have hw : wrap64 (a - 1) = a - 1 := by unfold wrap64; omega
  clear h
  go_enter Tryz.func39, Tryz.ntmps39
  go_wp2_with fail
  go_ret
  exact ⟨by rw [hw]; rfl, (G.refl w).more _⟩
def hfB (wd sf fd : Int) : Bool := decide (0 ≤ fd) && (decide (fd < sf) && decide (fd < wd - 1))
theorem hp_has (w : World) (a b c k f : Int) (m : Int) (fd : Int) (h : 1 ≤ a ∧ a ≤ 64) : Calls Tryz.prog 41 #[.agg #[.int .i64 a, .int .i64 b, .int .i64 c], .agg #[.int .i64 k, .int .i64 f, .int .u64 m], .int .i64 fd] w fun e w' => e = .returned (.bool (hfB a f fd)) ∧ G w w' := by
  obtain ⟨W1, hW1⟩ : ∃ W1, W1 = (w.alloc (.cells #[.int .i64 a, .int .i64 b, .int .i64 c] 50)).alloc (.cells #[.int .i64 k, .int .i64 f, .int .u64 m] 37) := ⟨_, rfl⟩
  have g1 : G w W1 := by rw [hW1]; exact ((G.refl w).more _).more _
  have a0 : W1.cell? ⟨w.heap.size, 0, none⟩ = some (.int .i64 a) := by rw [hW1]; simp [go_sem]
  have a1 : W1.cell? ⟨w.heap.size, 1, none⟩ = some (.int .i64 b) := by rw [hW1]; simp [go_sem]
  have a2 : W1.cell? ⟨w.heap.size, 2, none⟩ = some (.int .i64 c) := by rw [hW1]; simp [go_sem]
  have b1 : W1.cell? ⟨w.heap.size + 1, 1, none⟩ = some (.int .i64 f) := by rw [hW1]; simp [go_sem]
  have C := hide (hp_fields W1 a b c h)
  replace g1 := hide g1
  clear h
  unfold hfB
  by_cases h0 : 0 ≤ fd
  · by_cases h1 : fd < f
    · rw [decide_eq_true h0, decide_eq_true h1]
      go_enter Tryz.func41, Tryz.ntmps41
      go_upto_region 1 with fail
      rw [← hW1]
      clear hW1
      go_wp2_with fail
      refine (unhide C).mono ?_
      rintro e w2 ⟨rfl, g2⟩
      have g3 := hide ((unhide g1).trans g2)
      clear C g2
      go_wp2_with fail
      go_ret
      exact ⟨by simp, unhide g3⟩
    · rw [decide_eq_true h0, decide_eq_false h1]
      clear C
      go_enter Tryz.func41, Tryz.ntmps41
      go_upto_region 1 with fail
      rw [← hW1]
      clear hW1
      go_wp2_with fail
      go_ret
      exact ⟨by simp, unhide g1⟩
  · rw [decide_eq_false h0]
    clear C
    go_enter Tryz.func41, Tryz.ntmps41
    go_upto_region 1 with fail
    rw [← hW1]
    clear hW1
    go_wp2_with fail
    go_ret
    exact ⟨by simp, unhide g1⟩
theorem hp_adr (w : World) (k f : Int) (m : Nat) (hm : m < 18446744073709551616) : Calls Tryz.prog 38 #[.agg #[.int .i64 k, .int .i64 f, .int .u64 (m : Int)]] w fun e w' => e = .returned (.bool (Hd.holdsB k m 0 2)) ∧ G w w' := by
  have C := hide (fun x => Hd.holds_any k f m 0 2 x hm (by decide))
  generalize Hd.holdsB k m 0 2 = r at C ⊢
  go_enter Tryz.func38, Tryz.ntmps38
  go_wp2_with fail
  refine (unhide C _).mono ?_
  rintro e w2 ⟨rfl, g2⟩
  have g3 := hide ((G.alloc w (.cells #[.int .i64 k, .int .i64 f, .int .u64 (m : Int)] 37)).trans g2)
  clear C g2
  go_wp2_with fail
  go_ret
  exact ⟨rfl, unhide g3⟩
section
variable {W w : World} {x : Hx} {al : Al} {l : List Hd.Shp} {n : Nat} {ao : Option Addr} {cap : Nat} {nv : Value} {c : Nat → Nat}
theorem hb_cycle (h : Hid (HB W w x al l ao cap)) : Calls Tryz.prog 18 #[.pointer (some ⟨x.hb, 0, none⟩)] w fun e w' => e = .returned (.pointer (some ⟨x.b.cb, 0, none⟩)) ∧ w' = w := by
  have h0 := (unhide h).h0
  go_enter Tryz.func18, Tryz.ntmps18
  go_wp2_with fail
  go_ret
  exact ⟨rfl, rfl⟩
theorem h_cycle (h : Hid (HS W w x al l n ao cap nv c)) : Calls Tryz.prog 18 #[.pointer (some ⟨x.hb, 0, none⟩)] w fun e w' => e = .returned (.pointer (some ⟨x.b.cb, 0, none⟩)) ∧ w' = w :=
  hb_cycle (hide (unhide h).hB)
theorem h_forced (h : Hid (HS W w x al l n ao cap nv c)) : Calls Tryz.prog 13 #[.pointer (some ⟨x.hb, 0, none⟩)] w fun e w' => e = .returned (.int .i64 0) ∧ w' = w := by
  have h3 := (unhide h).h3
  go_enter Tryz.func13, Tryz.ntmps13
  go_wp2_with fail
  go_ret
  exact ⟨rfl, rfl⟩
def rdT (al : Al) (a f tr : Int) : Int × Int := if al.a.readE a (wrap64 (f + 1)) = 0 then (al.a.readV a (wrap64 (f + 1)), 0) else (0, tr)
theorem hb_read (h : Hid (HB W w x al l ao cap)) (a f tr : Int) : Calls Tryz.prog 40 #[.pointer (some ⟨x.hb, 0, none⟩), .int .i64 a, .int .i64 f, .int .i64 tr] w fun e w' => e = .returned (.tuple #[.int .i64 (rdT al a f tr).1, .int .i64 (rdT al a f tr).2]) ∧ G w w' := by
  have h0 := (unhide h).h0
  have CA := hide (b_arena h)
  have CR := hide (ls_read (hide (unhide h).st) a (wrap64 (f + 1)))
  unfold rdT
  generalize al.a.readV a (wrap64 (f + 1)) = rv at CR ⊢
  generalize al.a.readE a (wrap64 (f + 1)) = re at CR ⊢
  clear h
  by_cases hr : re = 0
  · rw [if_pos hr]
    subst hr
    go_enter Tryz.func40, Tryz.ntmps40
    go_wp2_with fail
    refine (unhide CA).mono ?_
    rintro e w1 ⟨rfl, hw1⟩
    rw [hw1]
    clear hw1 w1 CA
    go_wp2_with fail
    refine (unhide CR).mono ?_
    rintro e w2 ⟨rfl, _, g2⟩
    replace g2 := hide g2
    clear CR
    go_wp2_with fail
    go_ret2
    exact ⟨rfl, unhide g2⟩
  · rw [if_neg hr]
    have hrb : (re != 0) = true := by simpa using hr
    go_enter Tryz.func40, Tryz.ntmps40
    go_wp2_with fail
    refine (unhide CA).mono ?_
    rintro e w1 ⟨rfl, hw1⟩
    rw [hw1]
    clear hw1 w1 CA
    go_wp2_with fail
    refine (unhide CR).mono ?_
    rintro e w2 ⟨rfl, _, g2⟩
    replace g2 := hide g2
    clear CR
    go_wp2_with fail
    go_ret2
    exact ⟨rfl, unhide g2⟩
theorem h_read (h : Hid (HS W w x al l n ao cap nv c)) (a f tr : Int) : Calls Tryz.prog 40 #[.pointer (some ⟨x.hb, 0, none⟩), .int .i64 a, .int .i64 f, .int .i64 tr] w fun e w' => e = .returned (.tuple #[.int .i64 (rdT al a f tr).1, .int .i64 (rdT al a f tr).2]) ∧ G w w' :=
  hb_read (hide (unhide h).hB) a f tr
theorem h_write (h : Hid (HS W w x al l n ao cap nv c)) (a f old v : Int) (tb : Bool) (id : Int) : Calls Tryz.prog 37 #[.pointer (some ⟨x.hb, 0, none⟩), .int .i64 a, .int .i64 f, .int .i64 old, .int .i64 v, .bool tb, .int .i64 id] w fun e w' => e = .returned (.tuple #[]) ∧ HS W w' x ⟨al.a.writeA a (wrap64 (f + 1)) v, al.u⟩ l n ao cap nv c := by
  have h0 := (unhide h).h0
  have CA := hide (k_arena (hide (unhide h).ks))
  have CB := hide (k_barrier0 (hide (unhide h).ks) old v id)
  have CW : Hid (Calls Tryz.prog 30 #[.pointer (some ⟨x.xl.d.ab, 0, none⟩), .int .i64 a, .int .i64 (wrap64 (f + 1)), .int .i64 v] w fun e w' => (∃ r, e = .returned (.int .i64 r)) ∧ Hid (HS W w' x ⟨al.a.writeA a (wrap64 (f + 1)) v, al.u⟩ l n ao cap nv c)) := hide ((ls_write (hide (unhide h).ks.st) a (wrap64 (f + 1)) v).mono fun _ _ hh => ⟨⟨_, hh.1⟩, hide ((unhide h).turn hh.2.1 hh.2.2)⟩)
  clear h
  cases tb
  · clear CB
    go_enter Tryz.func37, Tryz.ntmps37
    go_wp2_with fail
    refine (unhide CA).mono ?_
    rintro e w1 ⟨rfl, hw1⟩
    rw [hw1]
    clear hw1 w1 CA
    go_wp2_with fail
    refine (unhide CW).mono ?_
    rintro e w2 ⟨⟨r, rfl⟩, S2⟩
    clear CW
    go_wp2_with fail
    go_end0
    exact ⟨rfl, unhide S2⟩
  · go_enter Tryz.func37, Tryz.ntmps37
    go_wp2_with fail
    refine (unhide CB).mono ?_
    rintro e w1 ⟨rfl, hw1⟩
    rw [hw1]
    clear hw1 w1 CB
    go_wp2_with fail
    refine (unhide CA).mono ?_
    rintro e w1 ⟨rfl, hw1⟩
    rw [hw1]
    clear hw1 w1 CA
    go_wp2_with fail
    refine (unhide CW).mono ?_
    rintro e w2 ⟨⟨r, rfl⟩, S2⟩
    clear CW
    go_wp2_with fail
    go_end0
    exact ⟨rfl, unhide S2⟩
end
end Go.Proofs.YtahhkehijokhnaaGreatDoor

/- Package heap: Of. -/
namespace Go.Proofs.YtahhkehijokhnaaGreatDoor
set_option maxRecDepth 100000
open Go.ChangeShapes Go.WideShapes Go.ChangeAt Go.RowKit Go.Maps Go.Deep

theorem put6 {w w2 : World} {s : Nat} (hs : w.heap.size ≤ s) (g : G w w2) {u0 u1 u2 u3 u4 u5 : Value} (a0 : w2.cell? ⟨s, 0, none⟩ = some u0) (a1 : w2.cell? ⟨s, 1, none⟩ = some u1) (a2 : w2.cell? ⟨s, 2, none⟩ = some u2) (b0 : w2.cell? ⟨s + 1, 0, none⟩ = some u3) (b1 : w2.cell? ⟨s + 1, 1, none⟩ = some u4) (b2 : w2.cell? ⟨s + 1, 2, none⟩ = some u5) (v0 v1 v2 v3 v4 v5 : Value) (Y : World) (hY : Y = (((((w2.setCell ⟨s, 0, none⟩ v0).setCell ⟨s, 1, none⟩ v1).setCell ⟨s, 2, none⟩ v2).setCell ⟨s + 1, 0, none⟩ v3).setCell ⟨s + 1, 1, none⟩ v4).setCell ⟨s + 1, 2, none⟩ v5) :
    Y.cell? ⟨s, 0, none⟩ = some v0 ∧ Y.cell? ⟨s, 1, none⟩ = some v1 ∧ Y.cell? ⟨s, 2, none⟩ = some v2 ∧ Y.cell? ⟨s + 1, 0, none⟩ = some v3 ∧ Y.cell? ⟨s + 1, 1, none⟩ = some v4 ∧ Y.cell? ⟨s + 1, 2, none⟩ = some v5 ∧ G w Y := by
  have e : ∀ (y : World) (i j : Nat) (v u : Value), y.cell? ⟨s, i, none⟩ = some u → (y.setCell ⟨s + 1, j, none⟩ v).cell? ⟨s, i, none⟩ = some u := fun y i j v u h => by rw [cell_other _ (Or.inl (by omega))]; exact h
  have e' : ∀ (y : World) (i j : Nat) (v u : Value), y.cell? ⟨s + 1, i, none⟩ = some u → (y.setCell ⟨s, j, none⟩ v).cell? ⟨s + 1, i, none⟩ = some u := fun y i j v u h => by rw [cell_other _ (Or.inl (by omega))]; exact h
  have o : ∀ (y : World) (b i j : Nat) (v u : Value), i ≠ j → y.cell? ⟨b, i, none⟩ = some u → (y.setCell ⟨b, j, none⟩ v).cell? ⟨b, i, none⟩ = some u := fun y b i j v u hn h => by rw [cell_other _ (Or.inr hn)]; exact h
  have q1 := cell_same v0 a0
  have r1 := o w2 s 1 0 v0 _ (by decide) a1
  have q2 := cell_same v1 r1
  have r2 := o _ s 2 1 v1 _ (by decide) (o w2 s 2 0 v0 _ (by decide) a2)
  have q3 := cell_same v2 r2
  have k0 := o _ s 0 2 v2 _ (by decide) (o _ s 0 1 v1 _ (by decide) q1)
  have k1 := o _ s 1 2 v2 _ (by decide) q2
  have t0 := e' _ 0 2 v2 _ (e' _ 0 1 v1 _ (e' w2 0 0 v0 _ b0))
  have t1 := e' _ 1 2 v2 _ (e' _ 1 1 v1 _ (e' w2 1 0 v0 _ b1))
  have t2 := e' _ 2 2 v2 _ (e' _ 2 1 v1 _ (e' w2 2 0 v0 _ b2))
  have p3 := cell_same v3 t0
  have p4 := cell_same v4 (o _ (s + 1) 1 0 v3 _ (by decide) t1)
  have p5 := cell_same v5 (o _ (s + 1) 2 1 v4 _ (by decide) (o _ (s + 1) 2 0 v3 _ (by decide) t2))
  rw [hY]
  exact ⟨e _ 0 2 v5 _ (e _ 0 1 v4 _ (e _ 0 0 v3 _ k0)), e _ 1 2 v5 _ (e _ 1 1 v4 _ (e _ 1 0 v3 _ k1)), e _ 2 2 v5 _ (e _ 2 1 v4 _ (e _ 2 0 v3 _ q3)), o _ (s + 1) 0 2 v5 _ (by decide) (o _ (s + 1) 0 1 v4 _ (by decide) p3), o _ (s + 1) 1 2 v5 _ (by decide) p4, p5, G.set (G.set (G.set (G.set (G.set (G.set g _ _ hs) _ _ hs) _ _ hs) _ _ (by simp only; omega)) _ _ (by simp only; omega)) _ _ (by simp only; omega)⟩
/-- What an object is. -/
def ofP (al : Al) (l : List Hd.Shp) (a : Int) : Option (Int × Int × Int × Hd.Shp) :=
  if al.a.readE a 0 = 0 then (if Hd.uokB (al.a.readV a 0) = true then (match l[(Hd.up2 (al.a.readV a 0)).toNat]? with
    | some s => some (Hd.up0 (al.a.readV a 0), Hd.up1 (al.a.readV a 0), Hd.up2 (al.a.readV a 0), s)
    | none => none) else none) else none
def ofV : Option (Int × Int × Int × Hd.Shp) → Value
  | none => .tuple #[.agg #[.int .i64 0, .int .i64 0, .int .i64 0], .agg #[.int .i64 0, .int .i64 0, .int .u64 0], .bool false]
  | some (a, b, c, s) => .tuple #[.agg #[.int .i64 a, .int .i64 b, .int .i64 c], .agg #[.int .i64 s.k, .int .i64 s.f, .int .u64 (s.m : Int)], .bool true]
section
variable {W w : World} {x : Hx} {al : Al} {l : List Hd.Shp} {n : Nat} {ao : Option Addr} {cap : Nat} {nv : Value} {c : Nat → Nat}
set_option maxHeartbeats 1000000 in
theorem hb_of (h : Hid (HB W w x al l ao cap)) (a : Int) : Calls Tryz.prog 12 #[.pointer (some ⟨x.hb, 0, none⟩), .int .i64 a] w fun e w' => e = .returned (ofV (ofP al l a)) ∧ G w w' := by
  obtain ⟨W1, hW1⟩ : ∃ W1, W1 = (w.alloc (.cells #[.int .i64 0, .int .i64 0, .int .i64 0] 50)).alloc (.cells #[.int .i64 0, .int .i64 0, .int .u64 0] 37) := ⟨_, rfl⟩
  have g1 : G w W1 := by rw [hW1]; exact ((G.refl w).more _).more _
  have BX : Hid (∀ y, G W1 y → (y.cell? ⟨w.heap.size, 0, none⟩ = some (.int .i64 0) ∧ y.cell? ⟨w.heap.size, 1, none⟩ = some (.int .i64 0) ∧ y.cell? ⟨w.heap.size, 2, none⟩ = some (.int .i64 0) ∧ y.cell? ⟨w.heap.size + 1, 0, none⟩ = some (.int .i64 0) ∧ y.cell? ⟨w.heap.size + 1, 1, none⟩ = some (.int .i64 0) ∧ y.cell? ⟨w.heap.size + 1, 2, none⟩ = some (.int .u64 0)) ∧ (∀ i, y.frozen? ⟨w.heap.size, i, none⟩ = false) ∧ (∀ i, y.frozen? ⟨w.heap.size + 1, i, none⟩ = false)) := hide fun y g => by
    have e0 := heap_alloc_new w (.cells #[.int .i64 0, .int .i64 0, .int .i64 0] 50)
    have e1 := heap_alloc_new (w.alloc (.cells #[.int .i64 0, .int .i64 0, .int .i64 0] 50)) (.cells #[.int .i64 0, .int .i64 0, .int .u64 0] 37)
    rw [World.size_alloc] at e1
    have e0' : W1.heap[w.heap.size]? = some (.cells #[.int .i64 0, .int .i64 0, .int .i64 0] 50) := by rw [hW1]; exact ((G.alloc _ _).block _ (by rw [World.size_alloc]; omega)).trans e0
    rw [← hW1] at e1
    have l0 : w.heap.size < W1.heap.size := by rw [hW1, World.size_alloc, World.size_alloc]; omega
    have l1 : w.heap.size + 1 < W1.heap.size := by rw [hW1, World.size_alloc, World.size_alloc]; omega
    have y0 := (g.block _ l0).trans e0'
    have y1 := (g.block _ l1).trans e1
    refine ⟨⟨?_, ?_, ?_, ?_, ?_, ?_⟩, fun i => by simp [World.frozen?, y0], fun i => by simp [World.frozen?, y1]⟩
    all_goals first | (rw [cell_of_row _ _ _ _ _ _ y0]; rfl) | (rw [cell_of_row _ _ _ _ _ _ y1]; rfl)
  have NO : Hid (∀ (w2 : World), G W1 w2 → ∀ Y, Y = (((((w2.setCell ⟨w.heap.size, 0, none⟩ (.int .i64 0)).setCell ⟨w.heap.size, 1, none⟩ (.int .i64 0)).setCell ⟨w.heap.size, 2, none⟩ (.int .i64 0)).setCell ⟨w.heap.size + 1, 0, none⟩ (.int .i64 0)).setCell ⟨w.heap.size + 1, 1, none⟩ (.int .i64 0)).setCell ⟨w.heap.size + 1, 2, none⟩ (.int .u64 0) → (Y.cell? ⟨w.heap.size, 0, none⟩ = some (.int .i64 0) ∧ Y.cell? ⟨w.heap.size, 1, none⟩ = some (.int .i64 0) ∧ Y.cell? ⟨w.heap.size, 2, none⟩ = some (.int .i64 0) ∧ Y.cell? ⟨w.heap.size + 1, 0, none⟩ = some (.int .i64 0) ∧ Y.cell? ⟨w.heap.size + 1, 1, none⟩ = some (.int .i64 0) ∧ Y.cell? ⟨w.heap.size + 1, 2, none⟩ = some (.int .u64 0)) ∧ G w Y) := hide fun w2 g Y hY => by
    obtain ⟨⟨a0, a1, a2, b0, b1, b2⟩, _⟩ := unhide BX w2 g
    obtain ⟨r0, r1, r2, r3, r4, r5, r6⟩ := put6 (Nat.le_refl _) (g1.trans g) a0 a1 a2 b0 b1 b2 _ _ _ _ _ _ Y hY
    exact ⟨⟨r0, r1, r2, r3, r4, r5⟩, r6⟩
  have HH : Hid (∀ y, G W1 y → HB W y x al l ao cap) := hide fun y g => ((unhide h).gr g1).gr g
  have h0 := (unhide HH W1 (G.refl _)).h0
  have CA := hide (b_arena (hide (unhide HH W1 (G.refl _))))
  have CR := hide (ls_read (hide (unhide HH W1 (G.refl _)).st) a 0)
  obtain ⟨R, hR⟩ : ∃ R, R = ofP al l a := ⟨_, rfl⟩
  rw [← hR]
  unfold ofP at hR
  generalize al.a.readV a 0 = rv at CR hR
  generalize al.a.readE a 0 = re at CR hR
  by_cases hre : re = 0
  rotate_left
  · have hrb : (re != 0) = true := by simpa using hre
    obtain rfl : R = none := by rw [hR, if_neg hre]
    clear hR h HH g1
    go_enter Tryz.func12, Tryz.ntmps12
    go_upto_region 1 with fail
    rw [← hW1]
    clear hW1
    go_wp2_with fail
    refine (unhide CA).mono ?_
    rintro e w1 ⟨rfl, hw1⟩
    rw [hw1]
    clear hw1 w1 CA
    go_wp2_with fail
    refine (unhide CR).mono ?_
    rintro e w2 ⟨rfl, _, g2⟩
    obtain ⟨⟨a0, a1, a2, b0, b1, b2⟩, f0, f1⟩ := unhide BX w2 g2
    have NO2 := hide (unhide NO w2 g2)
    clear CR BX NO g2
    go_wp2_with fail
    obtain ⟨Y, hY⟩ : ∃ Y, Y = (((((w2.setCell ⟨w.heap.size, 0, none⟩ (.int .i64 0)).setCell ⟨w.heap.size, 1, none⟩ (.int .i64 0)).setCell ⟨w.heap.size, 2, none⟩ (.int .i64 0)).setCell ⟨w.heap.size + 1, 0, none⟩ (.int .i64 0)).setCell ⟨w.heap.size + 1, 1, none⟩ (.int .i64 0)).setCell ⟨w.heap.size + 1, 2, none⟩ (.int .u64 0) := ⟨_, rfl⟩
    obtain ⟨⟨y0, y1, y2, y3, y4, y5⟩, gY⟩ := unhide NO2 Y hY
    rw [← hY]
    refine bodyPost_ret (by simp [results, Tryz.results12, go_sem, y0, y1, y2, y3, y4, y5]; try rfl) rfl ?_
    exact ⟨rfl, gY⟩
  subst hre
  rw [if_pos rfl] at hR
  have CU : Hid (∀ y, Calls Tryz.prog 34 #[.int .i64 rv] y fun e w' => e = .returned (.tuple #[.agg #[.int .i64 (Hd.ukV rv (Hd.up0 rv)), .int .i64 (Hd.ukV rv (Hd.up1 rv)), .int .i64 (Hd.ukV rv (Hd.up2 rv))], .int .i64 (Hd.ukE rv)]) ∧ G y w') := hide fun y => Hd.unpack_any rv y
  have GW : Hid (G w W1) := hide g1
  by_cases hu : Hd.uokB rv = true
  rotate_left
  · obtain rfl : R = none := by rw [hR, if_neg hu]
    simp only [Hd.ukV, Hd.ukE, if_neg hu] at CU
    clear hR h HH g1 hu GW
    go_enter Tryz.func12, Tryz.ntmps12
    go_upto_region 1 with fail
    rw [← hW1]
    clear hW1
    go_wp2_with fail
    refine (unhide CA).mono ?_
    rintro e w1 ⟨rfl, hw1⟩
    rw [hw1]
    clear hw1 w1 CA
    go_wp2_with fail
    refine (unhide CR).mono ?_
    rintro e w2 ⟨rfl, _, g2⟩
    replace g2 := hide g2
    clear CR
    go_wp2_with fail
    refine (unhide CU w2).mono ?_
    rintro e w3 ⟨rfl, g3⟩
    go_upto_region 5 with fail
    obtain ⟨w4, hw4⟩ : ∃ w4, w4 = w3.alloc (.cells #[.int .i64 0, .int .i64 0, .int .i64 0] 50) := ⟨_, rfl⟩
    rw [← hw4]
    have g4 : G W1 w4 := ((unhide g2).trans g3).trans (by rw [hw4]; exact G.alloc _ _)
    obtain ⟨⟨a0, a1, a2, b0, b1, b2⟩, f0, f1⟩ := unhide BX w4 g4
    have NO2 := hide (unhide NO w4 g4)
    clear CU BX NO g2 g3 g4 hw4
    go_wp2_with fail
    obtain ⟨Y, hY⟩ : ∃ Y, Y = (((((w4.setCell ⟨w.heap.size, 0, none⟩ (.int .i64 0)).setCell ⟨w.heap.size, 1, none⟩ (.int .i64 0)).setCell ⟨w.heap.size, 2, none⟩ (.int .i64 0)).setCell ⟨w.heap.size + 1, 0, none⟩ (.int .i64 0)).setCell ⟨w.heap.size + 1, 1, none⟩ (.int .i64 0)).setCell ⟨w.heap.size + 1, 2, none⟩ (.int .u64 0) := ⟨_, rfl⟩
    obtain ⟨⟨y0, y1, y2, y3, y4, y5⟩, gY⟩ := unhide NO2 Y hY
    rw [← hY]
    refine bodyPost_ret (by simp [results, Tryz.results12, go_sem, y0, y1, y2, y3, y4, y5]; try rfl) rfl ?_
    exact ⟨rfl, gY⟩
  rw [if_pos hu] at hR
  simp only [Hd.ukV, Hd.ukE, if_pos hu] at CU
  have hu2 : 0 ≤ Hd.up2 rv ∧ Hd.up2 rv < 65536 := by unfold Hd.up2; omega
  obtain ⟨k, hk⟩ : ∃ k : Nat, Hd.up2 rv = (k : Int) := ⟨(Hd.up2 rv).toNat, by omega⟩
  rw [hk] at CU hR
  rw [Int.toNat_natCast] at hR
  generalize Hd.up0 rv = u0 at CU hR
  generalize Hd.up1 rv = u1 at CU hR
  clear hu hu2 hk
  obtain ⟨sk, sf, sm, er, hsh, hok⟩ : ∃ (sk sf : Int) (sm : Nat) (er : Int), (∀ y, G W1 y → Calls Tryz.prog 35 #[.pointer (some ⟨x.b.tb, 0, none⟩), .int .i64 (k : Int)] y fun e w' => e = .returned (.tuple #[.agg #[.int .i64 sk, .int .i64 sf, .int .u64 (sm : Int)], .int .i64 er]) ∧ G y w') ∧ ((er = 0 ∧ R = some (u0, u1, (k : Int), (sk, sf, sm))) ∨ (er = 4 ∧ R = none)) := by
    cases hl : l[k]? with
    | some s => exact ⟨s.k, s.f, s.m, 0, fun y g => Hd.shape_yes y _ _ _ _ _ l (unhide HH y g).tab k s hl, Or.inl ⟨rfl, by rw [hR, hl]; rfl⟩⟩
    | none => exact ⟨0, 0, 0, 4, fun y g => Hd.shape_no y _ _ _ _ _ l (unhide HH y g).tab (k : Int) (Or.inr (by have := List.getElem?_eq_none_iff.1 hl; omega)), Or.inr ⟨rfl, by rw [hR, hl]⟩⟩
  clear hR
  replace hsh := hide hsh
  have TBL : Hid (∀ y, G W1 y → Calls Tryz.prog 25 #[.pointer (some ⟨x.b.cb, 0, none⟩)] y fun e w' => e = .returned (.pointer (some ⟨x.b.tb, 0, none⟩)) ∧ w' = y) := hide fun y g => b_table (hide (unhide HH y g))
  have HB0 : Hid (∀ y, G W1 y → y.cell? ⟨x.hb, 0, none⟩ = some (.pointer (some ⟨x.b.cb, 0, none⟩))) := hide fun y g => (unhide HH y g).h0
  clear h HH g1
  go_enter Tryz.func12, Tryz.ntmps12
  go_upto_region 1 with fail
  rw [← hW1]
  clear hW1
  go_wp2_with fail
  refine (unhide CA).mono ?_
  rintro e w1 ⟨rfl, hw1⟩
  rw [hw1]
  clear hw1 w1 CA
  go_wp2_with fail
  refine (unhide CR).mono ?_
  rintro e w2 ⟨rfl, _, g2⟩
  replace g2 := hide g2
  clear CR
  go_wp2_with fail
  refine (unhide CU w2).mono ?_
  rintro e w3 ⟨rfl, g3⟩
  go_upto_region 5 with fail
  obtain ⟨w4, hw4⟩ : ∃ w4, w4 = w3.alloc (.cells #[.int .i64 u0, .int .i64 u1, .int .i64 (k : Int)] 50) := ⟨_, rfl⟩
  rw [← hw4]
  have g14 : G W1 w4 := ((unhide g2).trans g3).trans (by rw [hw4]; exact G.alloc _ _)
  have UB : Hid (∀ y, G w4 y → y.cell? ⟨w3.heap.size, 0, none⟩ = some (.int .i64 u0) ∧ y.cell? ⟨w3.heap.size, 1, none⟩ = some (.int .i64 u1) ∧ y.cell? ⟨w3.heap.size, 2, none⟩ = some (.int .i64 (k : Int))) := hide fun y g => by
    have e0 : w4.heap[w3.heap.size]? = some (.cells #[.int .i64 u0, .int .i64 u1, .int .i64 (k : Int)] 50) := by rw [hw4]; exact heap_alloc_new w3 _
    exact ⟨g.cell (by rw [cell_of_row _ _ _ _ _ _ e0]; rfl), g.cell (by rw [cell_of_row _ _ _ _ _ _ e0]; rfl), g.cell (by rw [cell_of_row _ _ _ _ _ _ e0]; rfl)⟩
  have NW3 : Hid (w.heap.size + 2 ≤ w3.heap.size) := hide (by
    have q1 := ((unhide g2).trans g3).size
    obtain ⟨⟨_, _, _, b0, _⟩, _⟩ := unhide BX W1 (G.refl _)
    have := World.block_lt_of_cell? W1 _ b0
    simp only at this
    omega)
  replace g14 := hide g14
  clear g2 g3 hw4 CU
  have ERB : Hid ((er != 0) = false ∧ R = some (u0, u1, (k : Int), (sk, sf, sm)) ∨ (er != 0) = true ∧ R = none) := hide (by
    rcases hok with ⟨h1, h2⟩ | ⟨h1, h2⟩
    · subst h1; exact Or.inl ⟨rfl, h2⟩
    · subst h1; exact Or.inr ⟨rfl, h2⟩)
  clear hok
  go_upto_region 7 with fail
  go_cut [8, 10] (fun v8 v10 wx => ∃ sB, v10 = .pointer (some ⟨sB, 0, none⟩) ∧ v8 = .int .i64 er ∧ Hid (w4.heap.size ≤ sB ∧ G w4 wx ∧ wx.cell? ⟨sB, 0, none⟩ = some (.int .i64 sk) ∧ wx.cell? ⟨sB, 1, none⟩ = some (.int .i64 sf) ∧ wx.cell? ⟨sB, 2, none⟩ = some (.int .u64 (sm : Int))))
  case first =>
    have ST : Hid (∀ (y z : World), G w4 y → G (y.alloc (.cells #[.int .i64 0, .int .i64 0, .int .u64 0] 37)) z → z.cell? ⟨y.heap.size, 0, none⟩ = some (.int .i64 0) ∧ z.cell? ⟨y.heap.size, 1, none⟩ = some (.int .i64 0) ∧ z.cell? ⟨y.heap.size, 2, none⟩ = some (.int .u64 0) ∧ (∀ i, z.frozen? ⟨y.heap.size, i, none⟩ = false) ∧ ∀ Y, Y = ((z.setCell ⟨y.heap.size, 0, none⟩ (.int .i64 sk)).setCell ⟨y.heap.size, 1, none⟩ (.int .i64 sf)).setCell ⟨y.heap.size, 2, none⟩ (.int .u64 (sm : Int)) → G w4 Y ∧ (w4.heap.size ≤ y.heap.size ∧ G w4 Y ∧ Y.cell? ⟨y.heap.size, 0, none⟩ = some (.int .i64 sk) ∧ Y.cell? ⟨y.heap.size, 1, none⟩ = some (.int .i64 sf) ∧ Y.cell? ⟨y.heap.size, 2, none⟩ = some (.int .u64 (sm : Int)))) := hide fun y z gy gz => by
      have e0 := (gz.block y.heap.size (by rw [World.size_alloc]; omega)).trans (heap_alloc_new y (.cells #[.int .i64 0, .int .i64 0, .int .u64 0] 37))
      have c0 : z.cell? ⟨y.heap.size, 0, none⟩ = some (.int .i64 0) := by rw [cell_of_row _ _ _ _ _ _ e0]; rfl
      have c1 : z.cell? ⟨y.heap.size, 1, none⟩ = some (.int .i64 0) := by rw [cell_of_row _ _ _ _ _ _ e0]; rfl
      have c2 : z.cell? ⟨y.heap.size, 2, none⟩ = some (.int .u64 0) := by rw [cell_of_row _ _ _ _ _ _ e0]; rfl
      refine ⟨c0, c1, c2, fun i => by simp [World.frozen?, e0], fun Y hY => ?_⟩
      have gs := gy.size
      have gY : G w4 Y := by rw [hY]; exact G.set (G.set (G.set ((gy.more _).trans gz) _ _ gs) _ _ gs) _ _ gs
      have o : ∀ (y' : World) (i j : Nat) (v u : Value), i ≠ j → y'.cell? ⟨y.heap.size, i, none⟩ = some u → (y'.setCell ⟨y.heap.size, j, none⟩ v).cell? ⟨y.heap.size, i, none⟩ = some u := fun y' i j v u hn h => by rw [cell_other _ (Or.inr hn)]; exact h
      have q1 := cell_same (.int .i64 sk) c0
      have q2 := cell_same (.int .i64 sf) (o _ 1 0 (.int .i64 sk) _ (by decide) c1)
      have q3 := cell_same (.int .u64 (sm : Int)) (o _ 2 1 (.int .i64 sf) _ (by decide) (o _ 2 0 (.int .i64 sk) _ (by decide) c2))
      refine ⟨gY, gs, gY, ?_, ?_, ?_⟩
      · rw [hY]; exact o _ 0 2 _ _ (by decide) (o _ 0 1 _ _ (by decide) q1)
      · rw [hY]; exact o _ 1 2 _ _ (by decide) q2
      · rw [hY]; exact q3
    refine wp_region_noPanic ?_
    refine wp_region_held_drew (S := fun y => G w4 y) (by kernel_rfl) (G.drewN w4 1) (fun hHeld => ?_)
    obtain ⟨y1, hy1⟩ : ∃ y, y = w4.drew := ⟨_, rfl⟩
    rw [← hy1] at hHeld ⊢
    clear hy1
    refine wpAnyH_take (i := 0) (v := .pointer (some ⟨x.hb, 0, none⟩)) rfl (by kernel_rfl) (by kernel_rfl) (by kernel_rfl) (fun _ _ _ h => h) (Or.inl ⟨by rfl, fun w hSw => by go_simp⟩) (by assumption) ?_
    try simp only [Act.put, List.getElem_toArray, List.getElem_cons_zero, List.setIfInBounds_toArray, List.set_cons_zero, List.set_cons_succ]
    refine wpAnyH_take (i := 1) (v := .pointer (some ⟨x.hb, 0, none⟩)) rfl (by kernel_rfl) (by kernel_rfl) (by kernel_rfl) (fun _ _ _ h => h) (Or.inl ⟨by rfl, fun w hSw => by go_simp⟩) (by assumption) ?_
    try simp only [Act.put, List.getElem_toArray, List.getElem_cons_succ, List.getElem_cons_zero, List.setIfInBounds_toArray, List.set_cons_zero, List.set_cons_succ]
    refine wpAnyH_take (i := 2) (v := .pointer (some ⟨x.hb, 0, none⟩)) rfl (by kernel_rfl) (by kernel_rfl) (by kernel_rfl) (fun _ _ _ h => h) (Or.inl ⟨by rfl, fun w hSw => by go_simp⟩) (by assumption) ?_
    try simp only [Act.put, List.getElem_toArray, List.getElem_cons_succ, List.getElem_cons_zero, List.setIfInBounds_toArray, List.set_cons_zero, List.set_cons_succ]
    refine wpAnyH_take (i := 3) (v := .pointer (some ⟨x.b.cb, 0, none⟩)) rfl (by kernel_rfl) (by kernel_rfl) (by kernel_rfl) (fun _ _ _ h => h) (Or.inl ⟨by rfl, fun w hSw => by have t0 := unhide HB0 w ((unhide g14).trans hSw); go_simp⟩) (by assumption) ?_
    try simp only [Act.put, List.getElem_toArray, List.getElem_cons_succ, List.getElem_cons_zero, List.setIfInBounds_toArray, List.set_cons_zero, List.set_cons_succ]
    refine wpAnyH_take (i := 5) (v := .pointer (some ⟨w3.heap.size, 2, none⟩)) rfl (by kernel_rfl) (by kernel_rfl) (by kernel_rfl) (fun _ _ _ h => h) (Or.inl ⟨by rfl, fun w hSw => by go_simp⟩) (by assumption) ?_
    try simp only [Act.put, List.getElem_toArray, List.getElem_cons_succ, List.getElem_cons_zero, List.setIfInBounds_toArray, List.set_cons_zero, List.set_cons_succ]
    refine wpAnyH_take (i := 6) (v := .int .i64 (k : Int)) rfl (by kernel_rfl) (by kernel_rfl) (by kernel_rfl) (fun _ _ _ h => h) (Or.inl ⟨by rfl, fun w hSw => by have t0 := (unhide UB w hSw).2.2; go_simp⟩) (by assumption) ?_
    try simp only [Act.put, List.getElem_toArray, List.getElem_cons_succ, List.getElem_cons_zero, List.setIfInBounds_toArray, List.set_cons_zero, List.set_cons_succ]
    refine wpAnyH_ready (rs := [4, 11]) (by kernel_rfl) (by simp) ?_
    refine AllReadyH.cons rfl (fun K hK => ?_) (AllReadyH.cons rfl (fun K hK => ?_) AllReadyH.nil)
    · skip
      go_simp
      refine (unhide TBL y1 ((unhide g14).trans hHeld)).mono ?_
      rintro e w9 ⟨rfl, hw9⟩
      rw [hw9]
      clear hw9 w9
      go_wp2_with fail
      refine hK.out _ _ hHeld (fun hH9 => ?_)
      clear hK K hH9
      try simp only [Act.put, List.getElem_toArray, List.getElem_cons_succ, List.getElem_cons_zero, List.setIfInBounds_toArray, List.set_cons_zero, List.set_cons_succ]
      refine wpAnyH_ready (rs := [7, 11]) (by kernel_rfl) (by simp) ?_
      refine AllReadyH.cons rfl (fun K hK => ?_) (AllReadyH.cons rfl (fun K hK => ?_) AllReadyH.nil)
      · skip
        go_simp
        refine (unhide hsh y1 ((unhide g14).trans hHeld)).mono ?_
        rintro e y2 ⟨rfl, y2g⟩
        go_wp2_with fail
        have hH2 := hHeld.trans y2g
        refine hK.out _ _ hH2 (fun hH9 => ?_)
        clear hK K hH9
        try simp only [Act.put, List.getElem_toArray, List.getElem_cons_succ, List.getElem_cons_zero, List.setIfInBounds_toArray, List.set_cons_zero, List.set_cons_succ]
        refine wpAnyH_take (i := 8) (v := .tuple #[.agg #[.int .i64 sk, .int .i64 sf, .int .u64 (sm : Int)], .int .i64 er]) rfl (by kernel_rfl) (by kernel_rfl) (by kernel_rfl) (fun _ _ _ h => h) (Or.inl ⟨by rfl, fun w hSw => by go_simp⟩) (by assumption) ?_
        try simp only [Act.put, List.getElem_toArray, List.getElem_cons_succ, List.getElem_cons_zero, List.setIfInBounds_toArray, List.set_cons_zero, List.set_cons_succ]
        refine wpAnyH_take (i := 9) (v := .agg #[.int .i64 sk, .int .i64 sf, .int .u64 (sm : Int)]) rfl (by kernel_rfl) (by kernel_rfl) (by kernel_rfl) (fun _ _ _ h => h) (Or.inl ⟨by rfl, fun w hSw => by go_simp⟩) (by assumption) ?_
        try simp only [Act.put, List.getElem_toArray, List.getElem_cons_succ, List.getElem_cons_zero, List.setIfInBounds_toArray, List.set_cons_zero, List.set_cons_succ]
        refine wpAnyH_take (i := 10) (v := .int .i64 er) rfl (by kernel_rfl) (by kernel_rfl) (by kernel_rfl) (fun _ _ _ h => h) (Or.inl ⟨by rfl, fun w hSw => by go_simp⟩) (by assumption) ?_
        try simp only [Act.put, List.getElem_toArray, List.getElem_cons_succ, List.getElem_cons_zero, List.setIfInBounds_toArray, List.set_cons_zero, List.set_cons_succ]
        refine wpAnyH_ready (rs := [11]) (by kernel_rfl) (by simp) ?_
        refine AllReadyH.cons rfl (fun K hK => ?_) AllReadyH.nil
        go_simp
        obtain ⟨y3, hy3⟩ : ∃ z, z = y2.alloc (.cells #[.int .i64 0, .int .i64 0, .int .u64 0] 37) := ⟨_, rfl⟩
        rw [← hy3]
        have y3a : G (y2.alloc (.cells #[.int .i64 0, .int .i64 0, .int .u64 0] 37)) y3 := by rw [hy3]; exact G.refl _
        have hH3 : G w4 y3 := by rw [hy3]; exact hH2.more _
        refine hK.out _ _ hH3 (fun hH9 => ?_)
        clear hK K hH9 hy3
        try simp only [Act.put, List.getElem_toArray, List.getElem_cons_succ, List.getElem_cons_zero, List.setIfInBounds_toArray, List.set_cons_zero, List.set_cons_succ]
        obtain ⟨s0, s1, s2, s3, FIN⟩ := unhide ST y2 y3 hH2 y3a
        replace FIN := hide FIN
        refine wpAnyH_ready (rs := [12]) (by kernel_rfl) (by simp) ?_
        refine AllReadyH.cons rfl (fun K hK => ?_) AllReadyH.nil
        go_simp
        obtain ⟨Y, hY⟩ : ∃ Y, Y = ((y3.setCell ⟨y2.heap.size, 0, none⟩ (.int .i64 sk)).setCell ⟨y2.heap.size, 1, none⟩ (.int .i64 sf)).setCell ⟨y2.heap.size, 2, none⟩ (.int .u64 (sm : Int)) := ⟨_, rfl⟩
        obtain ⟨GY, RY⟩ := unhide FIN Y hY
        rw [← hY]
        refine hK.out _ _ GY (fun hH9 => ?_)
        clear hK K hH9 hY FIN
        try simp only [Act.put, List.getElem_toArray, List.getElem_cons_succ, List.getElem_cons_zero, List.setIfInBounds_toArray, List.set_cons_zero, List.set_cons_succ]
        refine wpAnyH_take (i := 13) (v := .int .i64 er) rfl (by kernel_rfl) (by kernel_rfl) (by kernel_rfl) (fun _ _ _ h => h) (Or.inl ⟨by rfl, fun w hSw => by go_simp⟩) (by assumption) ?_
        try simp only [Act.put, List.getElem_toArray, List.getElem_cons_succ, List.getElem_cons_zero, List.setIfInBounds_toArray, List.set_cons_zero, List.set_cons_succ]
        refine wpAnyH_done (by kernel_rfl) (NoPanic.normal ?_) _
        replace RY := hide RY
        clear s0 s1 s2 s3
        go_wp2_with fail
        go_meet
        exact ⟨y2.heap.size, rfl, rfl, RY⟩
      · skip
        go_simp
        obtain ⟨y2, hy2⟩ : ∃ z, z = y1.alloc (.cells #[.int .i64 0, .int .i64 0, .int .u64 0] 37) := ⟨_, rfl⟩
        rw [← hy2]
        have y2a : G (y1.alloc (.cells #[.int .i64 0, .int .i64 0, .int .u64 0] 37)) y2 := by rw [hy2]; exact G.refl _
        have hH2 : G w4 y2 := by rw [hy2]; exact hHeld.more _
        refine hK.out _ _ hH2 (fun hH9 => ?_)
        clear hK K hH9 hy2
        try simp only [Act.put, List.getElem_toArray, List.getElem_cons_succ, List.getElem_cons_zero, List.setIfInBounds_toArray, List.set_cons_zero, List.set_cons_succ]
        refine wpAnyH_ready (rs := [7]) (by kernel_rfl) (by simp) ?_
        refine AllReadyH.cons rfl (fun K hK => ?_) AllReadyH.nil
        go_simp
        refine (unhide hsh y2 ((unhide g14).trans hH2)).mono ?_
        rintro e y3 ⟨rfl, y3g⟩
        go_wp2_with fail
        have hH3 := hH2.trans y3g
        refine hK.out _ _ hH3 (fun hH9 => ?_)
        clear hK K hH9
        try simp only [Act.put, List.getElem_toArray, List.getElem_cons_succ, List.getElem_cons_zero, List.setIfInBounds_toArray, List.set_cons_zero, List.set_cons_succ]
        refine wpAnyH_take (i := 8) (v := .tuple #[.agg #[.int .i64 sk, .int .i64 sf, .int .u64 (sm : Int)], .int .i64 er]) rfl (by kernel_rfl) (by kernel_rfl) (by kernel_rfl) (fun _ _ _ h => h) (Or.inl ⟨by rfl, fun w hSw => by go_simp⟩) (by assumption) ?_
        try simp only [Act.put, List.getElem_toArray, List.getElem_cons_succ, List.getElem_cons_zero, List.setIfInBounds_toArray, List.set_cons_zero, List.set_cons_succ]
        refine wpAnyH_take (i := 9) (v := .agg #[.int .i64 sk, .int .i64 sf, .int .u64 (sm : Int)]) rfl (by kernel_rfl) (by kernel_rfl) (by kernel_rfl) (fun _ _ _ h => h) (Or.inl ⟨by rfl, fun w hSw => by go_simp⟩) (by assumption) ?_
        try simp only [Act.put, List.getElem_toArray, List.getElem_cons_succ, List.getElem_cons_zero, List.setIfInBounds_toArray, List.set_cons_zero, List.set_cons_succ]
        refine wpAnyH_take (i := 10) (v := .int .i64 er) rfl (by kernel_rfl) (by kernel_rfl) (by kernel_rfl) (fun _ _ _ h => h) (Or.inl ⟨by rfl, fun w hSw => by go_simp⟩) (by assumption) ?_
        try simp only [Act.put, List.getElem_toArray, List.getElem_cons_succ, List.getElem_cons_zero, List.setIfInBounds_toArray, List.set_cons_zero, List.set_cons_succ]
        obtain ⟨s0, s1, s2, s3, FIN⟩ := unhide ST y1 y3 hHeld (y2a.trans y3g)
        replace FIN := hide FIN
        refine wpAnyH_ready (rs := [12]) (by kernel_rfl) (by simp) ?_
        refine AllReadyH.cons rfl (fun K hK => ?_) AllReadyH.nil
        go_simp
        obtain ⟨Y, hY⟩ : ∃ Y, Y = ((y3.setCell ⟨y1.heap.size, 0, none⟩ (.int .i64 sk)).setCell ⟨y1.heap.size, 1, none⟩ (.int .i64 sf)).setCell ⟨y1.heap.size, 2, none⟩ (.int .u64 (sm : Int)) := ⟨_, rfl⟩
        obtain ⟨GY, RY⟩ := unhide FIN Y hY
        rw [← hY]
        refine hK.out _ _ GY (fun hH9 => ?_)
        clear hK K hH9 hY FIN
        try simp only [Act.put, List.getElem_toArray, List.getElem_cons_succ, List.getElem_cons_zero, List.setIfInBounds_toArray, List.set_cons_zero, List.set_cons_succ]
        refine wpAnyH_take (i := 13) (v := .int .i64 er) rfl (by kernel_rfl) (by kernel_rfl) (by kernel_rfl) (fun _ _ _ h => h) (Or.inl ⟨by rfl, fun w hSw => by go_simp⟩) (by assumption) ?_
        try simp only [Act.put, List.getElem_toArray, List.getElem_cons_succ, List.getElem_cons_zero, List.setIfInBounds_toArray, List.set_cons_zero, List.set_cons_succ]
        refine wpAnyH_done (by kernel_rfl) (NoPanic.normal ?_) _
        replace RY := hide RY
        clear s0 s1 s2 s3
        go_wp2_with fail
        go_meet
        exact ⟨y1.heap.size, rfl, rfl, RY⟩
    · skip
      go_simp
      obtain ⟨y2, hy2⟩ : ∃ z, z = y1.alloc (.cells #[.int .i64 0, .int .i64 0, .int .u64 0] 37) := ⟨_, rfl⟩
      rw [← hy2]
      have y2a : G (y1.alloc (.cells #[.int .i64 0, .int .i64 0, .int .u64 0] 37)) y2 := by rw [hy2]; exact G.refl _
      have hH2 : G w4 y2 := by rw [hy2]; exact hHeld.more _
      refine hK.out _ _ hH2 (fun hH9 => ?_)
      clear hK K hH9 hy2
      try simp only [Act.put, List.getElem_toArray, List.getElem_cons_succ, List.getElem_cons_zero, List.setIfInBounds_toArray, List.set_cons_zero, List.set_cons_succ]
      refine wpAnyH_ready (rs := [4]) (by kernel_rfl) (by simp) ?_
      refine AllReadyH.cons rfl (fun K hK => ?_) AllReadyH.nil
      go_simp
      refine (unhide TBL y2 ((unhide g14).trans hH2)).mono ?_
      rintro e w9 ⟨rfl, hw9⟩
      rw [hw9]
      clear hw9 w9
      go_wp2_with fail
      refine hK.out _ _ hH2 (fun hH9 => ?_)
      clear hK K hH9
      try simp only [Act.put, List.getElem_toArray, List.getElem_cons_succ, List.getElem_cons_zero, List.setIfInBounds_toArray, List.set_cons_zero, List.set_cons_succ]
      refine wpAnyH_ready (rs := [7]) (by kernel_rfl) (by simp) ?_
      refine AllReadyH.cons rfl (fun K hK => ?_) AllReadyH.nil
      go_simp
      refine (unhide hsh y2 ((unhide g14).trans hH2)).mono ?_
      rintro e y3 ⟨rfl, y3g⟩
      go_wp2_with fail
      have hH3 := hH2.trans y3g
      refine hK.out _ _ hH3 (fun hH9 => ?_)
      clear hK K hH9
      try simp only [Act.put, List.getElem_toArray, List.getElem_cons_succ, List.getElem_cons_zero, List.setIfInBounds_toArray, List.set_cons_zero, List.set_cons_succ]
      refine wpAnyH_take (i := 8) (v := .tuple #[.agg #[.int .i64 sk, .int .i64 sf, .int .u64 (sm : Int)], .int .i64 er]) rfl (by kernel_rfl) (by kernel_rfl) (by kernel_rfl) (fun _ _ _ h => h) (Or.inl ⟨by rfl, fun w hSw => by go_simp⟩) (by assumption) ?_
      try simp only [Act.put, List.getElem_toArray, List.getElem_cons_succ, List.getElem_cons_zero, List.setIfInBounds_toArray, List.set_cons_zero, List.set_cons_succ]
      refine wpAnyH_take (i := 9) (v := .agg #[.int .i64 sk, .int .i64 sf, .int .u64 (sm : Int)]) rfl (by kernel_rfl) (by kernel_rfl) (by kernel_rfl) (fun _ _ _ h => h) (Or.inl ⟨by rfl, fun w hSw => by go_simp⟩) (by assumption) ?_
      try simp only [Act.put, List.getElem_toArray, List.getElem_cons_succ, List.getElem_cons_zero, List.setIfInBounds_toArray, List.set_cons_zero, List.set_cons_succ]
      refine wpAnyH_take (i := 10) (v := .int .i64 er) rfl (by kernel_rfl) (by kernel_rfl) (by kernel_rfl) (fun _ _ _ h => h) (Or.inl ⟨by rfl, fun w hSw => by go_simp⟩) (by assumption) ?_
      try simp only [Act.put, List.getElem_toArray, List.getElem_cons_succ, List.getElem_cons_zero, List.setIfInBounds_toArray, List.set_cons_zero, List.set_cons_succ]
      obtain ⟨s0, s1, s2, s3, FIN⟩ := unhide ST y1 y3 hHeld (y2a.trans y3g)
      replace FIN := hide FIN
      refine wpAnyH_ready (rs := [12]) (by kernel_rfl) (by simp) ?_
      refine AllReadyH.cons rfl (fun K hK => ?_) AllReadyH.nil
      go_simp
      obtain ⟨Y, hY⟩ : ∃ Y, Y = ((y3.setCell ⟨y1.heap.size, 0, none⟩ (.int .i64 sk)).setCell ⟨y1.heap.size, 1, none⟩ (.int .i64 sf)).setCell ⟨y1.heap.size, 2, none⟩ (.int .u64 (sm : Int)) := ⟨_, rfl⟩
      obtain ⟨GY, RY⟩ := unhide FIN Y hY
      rw [← hY]
      refine hK.out _ _ GY (fun hH9 => ?_)
      clear hK K hH9 hY FIN
      try simp only [Act.put, List.getElem_toArray, List.getElem_cons_succ, List.getElem_cons_zero, List.setIfInBounds_toArray, List.set_cons_zero, List.set_cons_succ]
      refine wpAnyH_take (i := 13) (v := .int .i64 er) rfl (by kernel_rfl) (by kernel_rfl) (by kernel_rfl) (fun _ _ _ h => h) (Or.inl ⟨by rfl, fun w hSw => by go_simp⟩) (by assumption) ?_
      try simp only [Act.put, List.getElem_toArray, List.getElem_cons_succ, List.getElem_cons_zero, List.setIfInBounds_toArray, List.set_cons_zero, List.set_cons_succ]
      refine wpAnyH_done (by kernel_rfl) (NoPanic.normal ?_) _
      replace RY := hide RY
      clear s0 s1 s2 s3
      go_wp2_with fail
      go_meet
      exact ⟨y1.heap.size, rfl, rfl, RY⟩
  case rest =>
    obtain ⟨sB, rfl, rfl, HC⟩ := hcut
    obtain ⟨⟨a0, a1, a2, b0, b1, b2⟩, f0, f1⟩ := unhide BX wc ((unhide g14).trans (unhide HC).2.1)
    rcases unhide ERB with ⟨he, rfl⟩ | ⟨he, rfl⟩
    rotate_left
    · have NO2 := hide (unhide NO wc ((unhide g14).trans (unhide HC).2.1))
      clear BX NO ERB TBL HB0 hsh UB HC
      go_wp2_with fail
      obtain ⟨Y, hY⟩ : ∃ Y, Y = (((((wc.setCell ⟨w.heap.size, 0, none⟩ (.int .i64 0)).setCell ⟨w.heap.size, 1, none⟩ (.int .i64 0)).setCell ⟨w.heap.size, 2, none⟩ (.int .i64 0)).setCell ⟨w.heap.size + 1, 0, none⟩ (.int .i64 0)).setCell ⟨w.heap.size + 1, 1, none⟩ (.int .i64 0)).setCell ⟨w.heap.size + 1, 2, none⟩ (.int .u64 0) := ⟨_, rfl⟩
      obtain ⟨⟨y0, y1, y2, y3, y4, y5⟩, gY⟩ := unhide NO2 Y hY
      rw [← hY]
      refine bodyPost_ret (by simp [results, Tryz.results12, go_sem, y0, y1, y2, y3, y4, y5]; try rfl) rfl ?_
      exact ⟨rfl, gY⟩
    · obtain ⟨q0, q1, q2⟩ := unhide UB wc (unhide HC).2.1
      obtain ⟨lB, _, r0, r1, r2⟩ := unhide HC
      have hlt0 : w.heap.size < wc.heap.size := World.block_lt_of_cell? wc _ a0
      have hlt1 : w.heap.size + 1 < wc.heap.size := World.block_lt_of_cell? wc _ b0
      have YES : Hid ((((((((wc.setCell ⟨w.heap.size, 0, none⟩ (.int .i64 u0)).setCell ⟨w.heap.size, 1, none⟩ (.int .i64 u1)).setCell ⟨w.heap.size, 2, none⟩ (.int .i64 (k : Int))).setCell ⟨w.heap.size + 1, 0, none⟩ (.int .i64 sk)).setCell ⟨w.heap.size + 1, 1, none⟩ (.int .i64 sf)).setCell ⟨w.heap.size + 1, 2, none⟩ (.int .u64 (sm : Int))).drew.cell? ⟨w.heap.size, 0, none⟩ = some (.int .i64 u0) ∧ ((((((wc.setCell ⟨w.heap.size, 0, none⟩ (.int .i64 u0)).setCell ⟨w.heap.size, 1, none⟩ (.int .i64 u1)).setCell ⟨w.heap.size, 2, none⟩ (.int .i64 (k : Int))).setCell ⟨w.heap.size + 1, 0, none⟩ (.int .i64 sk)).setCell ⟨w.heap.size + 1, 1, none⟩ (.int .i64 sf)).setCell ⟨w.heap.size + 1, 2, none⟩ (.int .u64 (sm : Int))).drew.cell? ⟨w.heap.size, 1, none⟩ = some (.int .i64 u1) ∧ ((((((wc.setCell ⟨w.heap.size, 0, none⟩ (.int .i64 u0)).setCell ⟨w.heap.size, 1, none⟩ (.int .i64 u1)).setCell ⟨w.heap.size, 2, none⟩ (.int .i64 (k : Int))).setCell ⟨w.heap.size + 1, 0, none⟩ (.int .i64 sk)).setCell ⟨w.heap.size + 1, 1, none⟩ (.int .i64 sf)).setCell ⟨w.heap.size + 1, 2, none⟩ (.int .u64 (sm : Int))).drew.cell? ⟨w.heap.size, 2, none⟩ = some (.int .i64 (k : Int)) ∧ ((((((wc.setCell ⟨w.heap.size, 0, none⟩ (.int .i64 u0)).setCell ⟨w.heap.size, 1, none⟩ (.int .i64 u1)).setCell ⟨w.heap.size, 2, none⟩ (.int .i64 (k : Int))).setCell ⟨w.heap.size + 1, 0, none⟩ (.int .i64 sk)).setCell ⟨w.heap.size + 1, 1, none⟩ (.int .i64 sf)).setCell ⟨w.heap.size + 1, 2, none⟩ (.int .u64 (sm : Int))).drew.cell? ⟨w.heap.size + 1, 0, none⟩ = some (.int .i64 sk) ∧ ((((((wc.setCell ⟨w.heap.size, 0, none⟩ (.int .i64 u0)).setCell ⟨w.heap.size, 1, none⟩ (.int .i64 u1)).setCell ⟨w.heap.size, 2, none⟩ (.int .i64 (k : Int))).setCell ⟨w.heap.size + 1, 0, none⟩ (.int .i64 sk)).setCell ⟨w.heap.size + 1, 1, none⟩ (.int .i64 sf)).setCell ⟨w.heap.size + 1, 2, none⟩ (.int .u64 (sm : Int))).drew.cell? ⟨w.heap.size + 1, 1, none⟩ = some (.int .i64 sf) ∧ ((((((wc.setCell ⟨w.heap.size, 0, none⟩ (.int .i64 u0)).setCell ⟨w.heap.size, 1, none⟩ (.int .i64 u1)).setCell ⟨w.heap.size, 2, none⟩ (.int .i64 (k : Int))).setCell ⟨w.heap.size + 1, 0, none⟩ (.int .i64 sk)).setCell ⟨w.heap.size + 1, 1, none⟩ (.int .i64 sf)).setCell ⟨w.heap.size + 1, 2, none⟩ (.int .u64 (sm : Int))).drew.cell? ⟨w.heap.size + 1, 2, none⟩ = some (.int .u64 (sm : Int))) ∧ G w ((((((wc.setCell ⟨w.heap.size, 0, none⟩ (.int .i64 u0)).setCell ⟨w.heap.size, 1, none⟩ (.int .i64 u1)).setCell ⟨w.heap.size, 2, none⟩ (.int .i64 (k : Int))).setCell ⟨w.heap.size + 1, 0, none⟩ (.int .i64 sk)).setCell ⟨w.heap.size + 1, 1, none⟩ (.int .i64 sf)).setCell ⟨w.heap.size + 1, 2, none⟩ (.int .u64 (sm : Int))).drew) := hide (by
        obtain ⟨Y, hY⟩ : ∃ Y, Y = (((((wc.setCell ⟨w.heap.size, 0, none⟩ (.int .i64 u0)).setCell ⟨w.heap.size, 1, none⟩ (.int .i64 u1)).setCell ⟨w.heap.size, 2, none⟩ (.int .i64 (k : Int))).setCell ⟨w.heap.size + 1, 0, none⟩ (.int .i64 sk)).setCell ⟨w.heap.size + 1, 1, none⟩ (.int .i64 sf)).setCell ⟨w.heap.size + 1, 2, none⟩ (.int .u64 (sm : Int)) := ⟨_, rfl⟩
        obtain ⟨z0, z1, z2, z3, z4, z5, z6⟩ := put6 (Nat.le_refl _) ((unhide GW).trans ((unhide g14).trans (unhide HC).2.1)) a0 a1 a2 b0 b1 b2 _ _ _ _ _ _ Y hY
        rw [← hY]
        exact ⟨⟨z0, z1, z2, z3, z4, z5⟩, z6.drew⟩)
      have nB0 : w3.heap.size ≠ w.heap.size := by have := unhide NW3; omega
      have nB1 : w3.heap.size ≠ w.heap.size + 1 := by have := unhide NW3; omega
      have gs4 := (unhide g14).size
      have hs3 : w3.heap.size < w4.heap.size := by
        obtain ⟨p0, _⟩ := unhide UB w4 (G.refl _)
        exact World.block_lt_of_cell? w4 _ p0
      have nC0 : sB ≠ w.heap.size := by have := unhide NW3; omega
      have nC1 : sB ≠ w.heap.size + 1 := by have := unhide NW3; omega
      clear BX NO ERB TBL HB0 hsh UB HC lB gs4 hs3
      go_upto_region 10 with fail
      go_cut [6] (fun v6 wx => v6 = .bool true ∧ Hid ((wx.cell? ⟨w.heap.size, 0, none⟩ = some (.int .i64 u0) ∧ wx.cell? ⟨w.heap.size, 1, none⟩ = some (.int .i64 u1) ∧ wx.cell? ⟨w.heap.size, 2, none⟩ = some (.int .i64 (k : Int)) ∧ wx.cell? ⟨w.heap.size + 1, 0, none⟩ = some (.int .i64 sk) ∧ wx.cell? ⟨w.heap.size + 1, 1, none⟩ = some (.int .i64 sf) ∧ wx.cell? ⟨w.heap.size + 1, 2, none⟩ = some (.int .u64 (sm : Int))) ∧ G w wx))
      case first =>
        go_region
        all_goals
          go_wp2_with fail
          go_meet
          exact ⟨rfl, YES⟩
      case rest =>
        obtain ⟨rfl, HE⟩ := hcut
        obtain ⟨⟨y0, y1, y2, y3, y4, y5⟩, gY⟩ := unhide HE
        go_wp2_with fail
        refine bodyPost_ret (by simp [results, Tryz.results12, go_sem, y0, y1, y2, y3, y4, y5]; try rfl) rfl ?_
        exact ⟨rfl, gY⟩
theorem h_of (h : Hid (HS W w x al l n ao cap nv c)) (a : Int) : Calls Tryz.prog 12 #[.pointer (some ⟨x.hb, 0, none⟩), .int .i64 a] w fun e w' => e = .returned (ofV (ofP al l a)) ∧ G w w' :=
  hb_of (hide (unhide h).hB) a
end
end Go.Proofs.YtahhkehijokhnaaGreatDoor

/- Package heap: Get, At, Len, Set, Put. -/
namespace Go.Proofs.YtahhkehijokhnaaGreatDoor
set_option maxRecDepth 100000
open Go.ChangeShapes Go.WideShapes Go.ChangeAt Go.RowKit Go.Maps Go.Deep

theorem ofP_some {al : Al} {l : List Hd.Shp} {a wd kd nm : Int} {s : Hd.Shp} (h : ofP al l a = some (wd, kd, nm, s)) : (1 ≤ wd ∧ wd ≤ 64) ∧ s ∈ l := by
  unfold ofP at h
  split at h
  · split at h
    · rename_i hu
      split at h
      · rename_i s' hs
        simp only [Option.some.injEq, Prod.mk.injEq] at h
        obtain ⟨rfl, rfl, rfl, rfl⟩ := h
        refine ⟨?_, List.mem_of_getElem? hs⟩
        unfold Hd.uokB Hd.hokB Hd.inB at hu
        simp at hu
        omega
      · cases h
    · cases h
  · cases h
def getT (al : Al) (l : List Hd.Shp) (a f : Int) (ad : Bool) : Int × Int := match ofP al l a with
  | none => (0, 1)
  | some (wd, kd, _, s) => if kd = 0 ∧ hfB wd s.f f = true ∧ Hd.holdsB s.k s.m f wd = ad then rdT al a f 1 else (0, 1)
def atT (al : Al) (l : List Hd.Shp) (a i : Int) (ad : Bool) : Int × Int := match ofP al l a with
  | none => (0, 1)
  | some (wd, kd, _, s) => if kd = 1 ∧ Hd.holdsB s.k s.m 0 2 = ad then (if i < 0 ∨ wd - 1 ≤ i then (0, 2) else rdT al a i 2) else (0, 1)
def lenT (al : Al) (l : List Hd.Shp) (a : Int) : Int × Int := match ofP al l a with
  | none => (0, 1)
  | some (wd, kd, _, _) => if kd = 1 then (wd - 1, 0) else (0, 1)
theorem two_box (w1 : World) (wd kd nm sk sf : Int) (sm : Nat) (W2 : World) (hW2 : W2 = (w1.alloc (.cells #[.int .i64 wd, .int .i64 kd, .int .i64 nm] 50)).alloc (.cells #[.int .i64 sk, .int .i64 sf, .int .u64 (sm : Int)] 37)) : G w1 W2 ∧ ∀ y, G W2 y → (y.cell? ⟨w1.heap.size, 0, none⟩ = some (.int .i64 wd) ∧ y.cell? ⟨w1.heap.size, 1, none⟩ = some (.int .i64 kd) ∧ y.cell? ⟨w1.heap.size, 2, none⟩ = some (.int .i64 nm)) ∧ (y.cell? ⟨w1.heap.size + 1, 0, none⟩ = some (.int .i64 sk) ∧ y.cell? ⟨w1.heap.size + 1, 1, none⟩ = some (.int .i64 sf) ∧ y.cell? ⟨w1.heap.size + 1, 2, none⟩ = some (.int .u64 (sm : Int))) := by
  refine ⟨by rw [hW2]; exact ((G.refl w1).more _).more _, fun y g => ⟨⟨g.cell ?_, g.cell ?_, g.cell ?_⟩, ⟨g.cell ?_, g.cell ?_, g.cell ?_⟩⟩⟩
  all_goals (rw [hW2]; simp [go_sem])
section
variable {W w : World} {x : Hx} {al : Al} {l : List Hd.Shp} {n : Nat} {ao : Option Addr} {cap : Nat} {nv : Value} {c : Nat → Nat}
set_option maxHeartbeats 1000000 in
theorem hb_len (h : Hid (HB W w x al l ao cap)) (a : Int) : Calls Tryz.prog 22 #[.pointer (some ⟨x.hb, 0, none⟩), .int .i64 a] w fun e w' => e = .returned (.tuple #[.int .i64 (lenT al l a).1, .int .i64 (lenT al l a).2]) ∧ G w w' := by
  have CO := hide (hb_of h a)
  obtain ⟨T, hT⟩ : ∃ T, T = lenT al l a := ⟨_, rfl⟩
  rw [← hT]
  unfold lenT at hT
  cases hq : ofP al l a with
  | none =>
    rw [hq] at CO hT
    simp only [ofV] at CO
    subst hT
    clear h hq
    go_enter Tryz.func22, Tryz.ntmps22
    go_wp2_with fail
    refine (unhide CO).mono ?_
    rintro e w1 ⟨rfl, g1⟩
    go_upto_region 2 with fail
    obtain ⟨W2, hW2⟩ : ∃ W2, W2 = (w1.alloc (.cells #[.int .i64 0, .int .i64 0, .int .i64 0] 50)).alloc (.cells #[.int .i64 0, .int .i64 0, .int .u64 0] 37) := ⟨_, rfl⟩
    rw [← hW2]
    have GF := hide (g1.trans (show G w1 W2 by rw [hW2]; exact ((G.refl w1).more _).more _))
    clear hW2 CO g1
    go_wp2_with fail
    go_ret2
    exact ⟨rfl, unhide GF⟩
  | some q =>
    obtain ⟨wd, kd, nm, sh⟩ := q
    obtain ⟨⟨hw1, hw2⟩, hmem⟩ := ofP_some hq
    have hfit := (unhide h).tab.fit sh hmem
    rw [hq] at CO hT
    simp only [ofV] at CO hT
    have hm64 : sh.m < 18446744073709551616 := hfit.m0
    obtain ⟨sk, hsk⟩ : ∃ sk, sk = sh.k := ⟨_, rfl⟩
    obtain ⟨sf, hsf⟩ : ∃ sf, sf = sh.f := ⟨_, rfl⟩
    obtain ⟨sm, hsm⟩ : ∃ sm, sm = sh.m := ⟨_, rfl⟩
    rw [← hsk, ← hsf, ← hsm] at CO
    rw [← hsm] at hm64

    clear hsk hsf hsm hfit hmem hq
    replace hT := hide hT
    have HH : Hid (∀ y, G w y → HB W y x al l ao cap) := hide fun y g => (unhide h).gr g
    clear h
    go_enter Tryz.func22, Tryz.ntmps22
    go_wp2_with fail
    refine (unhide CO).mono ?_
    rintro e w1 ⟨rfl, g1⟩
    go_upto_region 2 with fail
    obtain ⟨W2, hW2⟩ : ∃ W2, W2 = (w1.alloc (.cells #[.int .i64 wd, .int .i64 kd, .int .i64 nm] 50)).alloc (.cells #[.int .i64 sk, .int .i64 sf, .int .u64 (sm : Int)] 37) := ⟨_, rfl⟩
    rw [← hW2]
    obtain ⟨gq, BQ⟩ := two_box w1 wd kd nm sk sf sm W2 hW2
    have GF := hide (g1.trans gq)
    replace BQ := hide BQ
    obtain ⟨⟨a0, a1, a2⟩, ⟨b0, b1, b2⟩⟩ := unhide BQ W2 (G.refl _)
    clear hW2 CO g1 gq
    have CF := hide (hp_fields W2 wd kd nm ⟨hw1, hw2⟩)
    clear hw1 hw2 hm64 HH
    by_cases hk : kd = 1
    · obtain rfl : T = (wd - 1, 0) := (unhide hT).trans (if_pos hk)
      have hkb : (kd != 1) = false := by simpa using hk
      clear hT hk
      go_wp2_with fail
      refine (unhide CF).mono ?_
      rintro e w3 ⟨rfl, g3⟩
      have GE := hide ((unhide GF).trans g3)
      clear CF g3
      go_wp2_with fail
      go_ret2
      exact ⟨rfl, unhide GE⟩
    · obtain rfl : T = (0, 1) := (unhide hT).trans (if_neg hk)
      have hkb : (kd != 1) = true := by simpa using hk
      clear hT CF hk
      go_wp2_with fail
      go_ret2
      exact ⟨rfl, unhide GF⟩
theorem h_len (h : Hid (HS W w x al l n ao cap nv c)) (a : Int) : Calls Tryz.prog 22 #[.pointer (some ⟨x.hb, 0, none⟩), .int .i64 a] w fun e w' => e = .returned (.tuple #[.int .i64 (lenT al l a).1, .int .i64 (lenT al l a).2]) ∧ G w w' :=
  hb_len (hide (unhide h).hB) a
set_option maxHeartbeats 1000000 in
theorem hb_get (h : Hid (HB W w x al l ao cap)) (a f : Int) (ad : Bool) : Calls Tryz.prog 20 #[.pointer (some ⟨x.hb, 0, none⟩), .int .i64 a, .int .i64 f, .bool ad] w fun e w' => e = .returned (.tuple #[.int .i64 (getT al l a f ad).1, .int .i64 (getT al l a f ad).2]) ∧ G w w' := by
  have CO := hide (hb_of h a)
  obtain ⟨T, hT⟩ : ∃ T, T = getT al l a f ad := ⟨_, rfl⟩
  rw [← hT]
  unfold getT at hT
  cases hq : ofP al l a with
  | none =>
    rw [hq] at CO hT
    simp only [ofV] at CO
    subst hT
    clear h hq
    go_enter Tryz.func20, Tryz.ntmps20
    go_wp2_with fail
    refine (unhide CO).mono ?_
    rintro e w1 ⟨rfl, g1⟩
    go_upto_region 2 with fail
    obtain ⟨W2, hW2⟩ : ∃ W2, W2 = (w1.alloc (.cells #[.int .i64 0, .int .i64 0, .int .i64 0] 50)).alloc (.cells #[.int .i64 0, .int .i64 0, .int .u64 0] 37) := ⟨_, rfl⟩
    rw [← hW2]
    have GF := hide (g1.trans (show G w1 W2 by rw [hW2]; exact ((G.refl w1).more _).more _))
    clear hW2 CO g1
    go_wp2_with fail
    go_ret2
    exact ⟨rfl, unhide GF⟩
  | some q =>
    obtain ⟨wd, kd, nm, sh⟩ := q
    obtain ⟨⟨hw1, hw2⟩, hmem⟩ := ofP_some hq
    have hfit := (unhide h).tab.fit sh hmem
    rw [hq] at CO hT
    simp only [ofV] at CO hT
    have hm64 : sh.m < 18446744073709551616 := hfit.m0
    obtain ⟨sk, hsk⟩ : ∃ sk, sk = sh.k := ⟨_, rfl⟩
    obtain ⟨sf, hsf⟩ : ∃ sf, sf = sh.f := ⟨_, rfl⟩
    obtain ⟨sm, hsm⟩ : ∃ sm, sm = sh.m := ⟨_, rfl⟩
    rw [← hsk, ← hsf, ← hsm] at CO
    rw [← hsm] at hm64
    rw [← hsk, ← hsf, ← hsm] at hT
    clear hsk hsf hsm hfit hmem hq
    replace hT := hide hT
    have HH : Hid (∀ y, G w y → HB W y x al l ao cap) := hide fun y g => (unhide h).gr g
    clear h
    go_enter Tryz.func20, Tryz.ntmps20
    go_wp2_with fail
    refine (unhide CO).mono ?_
    rintro e w1 ⟨rfl, g1⟩
    go_upto_region 2 with fail
    obtain ⟨W2, hW2⟩ : ∃ W2, W2 = (w1.alloc (.cells #[.int .i64 wd, .int .i64 kd, .int .i64 nm] 50)).alloc (.cells #[.int .i64 sk, .int .i64 sf, .int .u64 (sm : Int)] 37) := ⟨_, rfl⟩
    rw [← hW2]
    obtain ⟨gq, BQ⟩ := two_box w1 wd kd nm sk sf sm W2 hW2
    have GF := hide (g1.trans gq)
    replace BQ := hide BQ
    obtain ⟨⟨a0, a1, a2⟩, ⟨b0, b1, b2⟩⟩ := unhide BQ W2 (G.refl _)
    clear hW2 CO g1 gq
    have CH := hide (hp_has W2 wd kd nm sk sf (sm : Int) f ⟨hw1, hw2⟩)
    have CD := hide (fun y => Hd.holds_any sk sf sm f wd y hm64 (by omega))
    have CR := hide (fun y g => hb_read (hide (unhide HH y g)) a f 1)
    clear hw1 hw2 hm64 HH
    generalize hfB wd sf f = hb at CH hT
    generalize Hd.holdsB sk sm f wd = ho at CD hT
    by_cases hk : kd = 0
    rotate_left
    · obtain rfl : T = (0, 1) := (unhide hT).trans (if_neg (fun e => hk e.1))
      have hkb : (kd != 0) = true := by simpa using hk
      clear hT CH CD CR hk
      go_wp2_with fail
      go_ret2
      exact ⟨rfl, unhide GF⟩
    have hkb : (kd != 0) = false := by simpa using hk
    replace hk := hide hk
    go_wp2_with fail
    refine (unhide CH).mono ?_
    rintro e w3 ⟨rfl, g3⟩
    obtain ⟨⟨c0, c1, c2⟩, ⟨d0, d1, d2⟩⟩ := unhide BQ w3 g3
    have GE := hide ((unhide GF).trans g3)
    clear CH g3 a0 a1 a2 b0 b1 b2
    cases hb
    · obtain rfl : T = (0, 1) := (unhide hT).trans (if_neg (fun e => by cases e.2.1))
      clear hT CD CR
      go_wp2_with fail
      go_ret2
      exact ⟨rfl, unhide GE⟩
    go_wp2_with fail
    refine (unhide CD w3).mono ?_
    rintro e w4 ⟨rfl, g4⟩
    have GD := hide ((unhide GE).trans g4)
    clear CD g4 c0 c1 c2 d0 d1 d2
    by_cases ha : ho = ad
    rotate_left
    · obtain rfl : T = (0, 1) := (unhide hT).trans (if_neg (fun e => ha e.2.2))
      have hab : (ho == ad) = false := beq_eq_false_iff_ne.2 ha
      clear hT CR ha
      go_wp2_with fail
      go_ret2
      exact ⟨rfl, unhide GD⟩
    have hTT : T = rdT al a f 1 := (unhide hT).trans (if_pos ⟨unhide hk, (by first | rfl | trivial), ha⟩)
    replace CR := hide (fun y g => by have := unhide CR y g; rw [← hTT] at this; exact this)
    have hab : (ho == ad) = true := beq_iff_eq.2 ha
    clear hT ha hk hTT
    go_wp2_with fail
    refine (unhide CR w4 (unhide GD)).mono ?_
    rintro e w5 ⟨rfl, g5⟩
    have GC := hide ((unhide GD).trans g5)
    clear CR g5
    go_wp2_with fail
    go_ret2
    exact ⟨rfl, unhide GC⟩
theorem h_get (h : Hid (HS W w x al l n ao cap nv c)) (a f : Int) (ad : Bool) : Calls Tryz.prog 20 #[.pointer (some ⟨x.hb, 0, none⟩), .int .i64 a, .int .i64 f, .bool ad] w fun e w' => e = .returned (.tuple #[.int .i64 (getT al l a f ad).1, .int .i64 (getT al l a f ad).2]) ∧ G w w' :=
  hb_get (hide (unhide h).hB) a f ad
set_option maxHeartbeats 1000000 in
theorem hb_at (h : Hid (HB W w x al l ao cap)) (a i : Int) (ad : Bool) : Calls Tryz.prog 17 #[.pointer (some ⟨x.hb, 0, none⟩), .int .i64 a, .int .i64 i, .bool ad] w fun e w' => e = .returned (.tuple #[.int .i64 (atT al l a i ad).1, .int .i64 (atT al l a i ad).2]) ∧ G w w' := by
  have CO := hide (hb_of h a)
  obtain ⟨T, hT⟩ : ∃ T, T = atT al l a i ad := ⟨_, rfl⟩
  rw [← hT]
  unfold atT at hT
  cases hq : ofP al l a with
  | none =>
    rw [hq] at CO hT
    simp only [ofV] at CO
    subst hT
    clear h hq
    go_enter Tryz.func17, Tryz.ntmps17
    go_wp2_with fail
    refine (unhide CO).mono ?_
    rintro e w1 ⟨rfl, g1⟩
    go_upto_region 2 with fail
    obtain ⟨W2, hW2⟩ : ∃ W2, W2 = (w1.alloc (.cells #[.int .i64 0, .int .i64 0, .int .i64 0] 50)).alloc (.cells #[.int .i64 0, .int .i64 0, .int .u64 0] 37) := ⟨_, rfl⟩
    rw [← hW2]
    have GF := hide (g1.trans (show G w1 W2 by rw [hW2]; exact ((G.refl w1).more _).more _))
    clear hW2 CO g1
    go_wp2_with fail
    go_ret2
    exact ⟨rfl, unhide GF⟩
  | some q =>
    obtain ⟨wd, kd, nm, sh⟩ := q
    obtain ⟨⟨hw1, hw2⟩, hmem⟩ := ofP_some hq
    have hfit := (unhide h).tab.fit sh hmem
    rw [hq] at CO hT
    simp only [ofV] at CO hT
    have hm64 : sh.m < 18446744073709551616 := hfit.m0
    obtain ⟨sk, hsk⟩ : ∃ sk, sk = sh.k := ⟨_, rfl⟩
    obtain ⟨sf, hsf⟩ : ∃ sf, sf = sh.f := ⟨_, rfl⟩
    obtain ⟨sm, hsm⟩ : ∃ sm, sm = sh.m := ⟨_, rfl⟩
    rw [← hsk, ← hsf, ← hsm] at CO
    rw [← hsm] at hm64
    rw [← hsk, ← hsm] at hT
    clear hsk hsf hsm hfit hmem hq
    replace hT := hide hT
    have HH : Hid (∀ y, G w y → HB W y x al l ao cap) := hide fun y g => (unhide h).gr g
    clear h
    go_enter Tryz.func17, Tryz.ntmps17
    go_wp2_with fail
    refine (unhide CO).mono ?_
    rintro e w1 ⟨rfl, g1⟩
    go_upto_region 2 with fail
    obtain ⟨W2, hW2⟩ : ∃ W2, W2 = (w1.alloc (.cells #[.int .i64 wd, .int .i64 kd, .int .i64 nm] 50)).alloc (.cells #[.int .i64 sk, .int .i64 sf, .int .u64 (sm : Int)] 37) := ⟨_, rfl⟩
    rw [← hW2]
    obtain ⟨gq, BQ⟩ := two_box w1 wd kd nm sk sf sm W2 hW2
    have GF := hide (g1.trans gq)
    replace BQ := hide BQ
    obtain ⟨⟨a0, a1, a2⟩, ⟨b0, b1, b2⟩⟩ := unhide BQ W2 (G.refl _)
    clear hW2 CO g1 gq
    have CD := hide (fun y => hp_adr y sk sf sm hm64)
    have CF := hide (fun y => hp_fields y wd kd nm ⟨hw1, hw2⟩)
    have CR := hide (fun y g => hb_read (hide (unhide HH y g)) a i 2)
    clear hw1 hw2 hm64 HH
    generalize Hd.holdsB sk sm 0 2 = ho at CD hT
    by_cases hk : kd = 1
    rotate_left
    · obtain rfl : T = (0, 1) := (unhide hT).trans (if_neg (fun e => hk e.1))
      have hkb : (kd != 1) = true := by simpa using hk
      clear hT CD CF CR hk
      go_wp2_with fail
      go_ret2
      exact ⟨rfl, unhide GF⟩
    have hkb : (kd != 1) = false := by simpa using hk
    replace hk := hide hk
    go_wp2_with fail
    refine (unhide CD W2).mono ?_
    rintro e w3 ⟨rfl, g3⟩
    obtain ⟨⟨c0, c1, c2⟩, ⟨d0, d1, d2⟩⟩ := unhide BQ w3 g3
    have GE := hide ((unhide GF).trans g3)
    clear CD g3 a0 a1 a2 b0 b1 b2
    by_cases ha : ho = ad
    rotate_left
    · obtain rfl : T = (0, 1) := (unhide hT).trans (if_neg (fun e => ha e.2))
      have hab : (ho == ad) = false := beq_eq_false_iff_ne.2 ha
      clear hT CF CR ha
      go_wp2_with fail
      go_ret2
      exact ⟨rfl, unhide GE⟩
    have hab : (ho == ad) = true := beq_iff_eq.2 ha
    replace hT := hide ((unhide hT).trans (if_pos ⟨unhide hk, ha⟩))
    clear ha hk
    by_cases hi : i < 0
    · obtain rfl : T = (0, 2) := (unhide hT).trans (if_pos (Or.inl hi))
      clear hT CF CR
      go_wp2_with fail
      go_ret2
      exact ⟨rfl, unhide GE⟩
    go_wp2_with fail
    refine (unhide CF w3).mono ?_
    rintro e w4 ⟨rfl, g4⟩
    have GD := hide ((unhide GE).trans g4)
    clear CF g4 c0 c1 c2 d0 d1 d2
    by_cases hj : wd - 1 ≤ i
    · obtain rfl : T = (0, 2) := (unhide hT).trans (if_pos (Or.inr hj))
      clear hT CR
      go_wp2_with fail
      go_ret2
      exact ⟨rfl, unhide GD⟩
    have hTT : T = rdT al a i 2 := (unhide hT).trans (if_neg (by omega))
    replace CR := hide (fun y g => by have := unhide CR y g; rw [← hTT] at this; exact this)
    clear hT hTT
    go_wp2_with fail
    refine (unhide CR w4 (unhide GD)).mono ?_
    rintro e w5 ⟨rfl, g5⟩
    have GC := hide ((unhide GD).trans g5)
    clear CR g5
    go_wp2_with fail
    go_ret2
    exact ⟨rfl, unhide GC⟩
theorem h_at (h : Hid (HS W w x al l n ao cap nv c)) (a i : Int) (ad : Bool) : Calls Tryz.prog 17 #[.pointer (some ⟨x.hb, 0, none⟩), .int .i64 a, .int .i64 i, .bool ad] w fun e w' => e = .returned (.tuple #[.int .i64 (atT al l a i ad).1, .int .i64 (atT al l a i ad).2]) ∧ G w w' :=
  hb_at (hide (unhide h).hB) a i ad
set_option maxHeartbeats 1000000 in
theorem h_set (h : Hid (HS W w x al l n ao cap nv c)) (a f v : Int) (ad br : Bool) (id : Int) : Calls Tryz.prog 21 #[.pointer (some ⟨x.hb, 0, none⟩), .int .i64 a, .int .i64 f, .int .i64 v, .bool ad, .bool br, .int .i64 id] w fun e w' => e = .returned (.int .i64 (getT al l a f ad).2) ∧ HS W w' x (if (getT al l a f ad).2 = 0 then ⟨al.a.writeA a (wrap64 (f + 1)) v, al.u⟩ else al) l n ao cap nv c := by
  have CG := hide (h_get h a f ad)
  have HH : Hid (∀ y, G w y → HS W y x al l n ao cap nv c) := hide fun y g => (unhide h).gr g
  obtain ⟨⟨rv, rt⟩, hT⟩ : ∃ T, T = getT al l a f ad := ⟨_, rfl⟩
  rw [← hT] at CG ⊢
  simp only at CG ⊢
  clear h hT
  by_cases hr : rt = 0
  · rw [if_pos hr]
    subst hr
    have CW := hide (fun y g (tb : Bool) => h_write (hide (unhide HH y g)) a f rv v tb id)
    clear HH
    cases ad
    all_goals
      go_enter Tryz.func21, Tryz.ntmps21
      go_wp2_with fail
      refine (unhide CG).mono ?_
      rintro e w1 ⟨rfl, g1⟩
      have CW2 := hide (fun tb => unhide CW w1 g1 tb)
      clear CG CW g1
      go_wp2_with fail
      refine (unhide CW2 _).mono ?_
      rintro e w2 ⟨rfl, S2⟩
      replace S2 := hide S2
      clear CW2
      go_wp2_with fail
      go_ret
      exact ⟨rfl, unhide S2⟩
  · rw [if_neg hr]
    have hrb : (rt != 0) = true := by simpa using hr
    go_enter Tryz.func21, Tryz.ntmps21
    go_wp2_with fail
    refine (unhide CG).mono ?_
    rintro e w1 ⟨rfl, g1⟩
    have S1 := hide (unhide HH w1 g1)
    clear CG HH g1
    go_wp2_with fail
    go_ret
    exact ⟨rfl, unhide S1⟩
set_option maxHeartbeats 1000000 in
theorem h_put (h : Hid (HS W w x al l n ao cap nv c)) (a f v : Int) (ad br : Bool) (id : Int) : Calls Tryz.prog 16 #[.pointer (some ⟨x.hb, 0, none⟩), .int .i64 a, .int .i64 f, .int .i64 v, .bool ad, .bool br, .int .i64 id] w fun e w' => e = .returned (.int .i64 (atT al l a f ad).2) ∧ HS W w' x (if (atT al l a f ad).2 = 0 then ⟨al.a.writeA a (wrap64 (f + 1)) v, al.u⟩ else al) l n ao cap nv c := by
  have CG := hide (h_at h a f ad)
  have HH : Hid (∀ y, G w y → HS W y x al l n ao cap nv c) := hide fun y g => (unhide h).gr g
  obtain ⟨⟨rv, rt⟩, hT⟩ : ∃ T, T = atT al l a f ad := ⟨_, rfl⟩
  rw [← hT] at CG ⊢
  simp only at CG ⊢
  clear h hT
  by_cases hr : rt = 0
  · rw [if_pos hr]
    subst hr
    have CW := hide (fun y g (tb : Bool) => h_write (hide (unhide HH y g)) a f rv v tb id)
    clear HH
    cases ad
    all_goals
      go_enter Tryz.func16, Tryz.ntmps16
      go_wp2_with fail
      refine (unhide CG).mono ?_
      rintro e w1 ⟨rfl, g1⟩
      have CW2 := hide (fun tb => unhide CW w1 g1 tb)
      clear CG CW g1
      go_wp2_with fail
      refine (unhide CW2 _).mono ?_
      rintro e w2 ⟨rfl, S2⟩
      replace S2 := hide S2
      clear CW2
      go_wp2_with fail
      go_ret
      exact ⟨rfl, unhide S2⟩
  · rw [if_neg hr]
    have hrb : (rt != 0) = true := by simpa using hr
    go_enter Tryz.func16, Tryz.ntmps16
    go_wp2_with fail
    refine (unhide CG).mono ?_
    rintro e w1 ⟨rfl, g1⟩
    have S1 := hide (unhide HH w1 g1)
    clear CG HH g1
    go_wp2_with fail
    go_ret
    exact ⟨rfl, unhide S1⟩
end
end Go.Proofs.YtahhkehijokhnaaGreatDoor

/- Package heap: take, first, Make, while there is room. -/
namespace Go.Proofs.YtahhkehijokhnaaGreatDoor
set_option maxRecDepth 100000
open Go.ChangeShapes Go.WideShapes Go.ChangeAt Go.RowKit Go.Maps Go.Deep

section
variable {W w : World} {x : Hx} {al : Al} {l : List Hd.Shp} {n : Nat} {ao : Option Addr} {cap : Nat} {nv : Value} {c : Nat → Nat}
theorem hs_takeK (h : Hid (HS W w x al l n ao cap nv c)) (m v : Int) (al' : Al) (hR : Hid (al.take m = (al', v, 0))) : Calls Tryz.prog 48 #[.pointer (some ⟨x.b.cb, 0, none⟩), .int .i64 m] w fun r w' => r = .returned (.tuple #[.int .i64 v, .int .i64 0]) ∧ HS W w' x al' l n ao cap nv c ∧ Kp3 w c w' := by
  have c1 := (unhide h).ks.c1
  have C := hide (l_take (hide (unhide h).ks.st) m)
  rw [unhide hR] at C
  simp only at C
  go_enter Tryz.func48, Tryz.ntmps48
  go_wp2_with fail
  refine (unhide C).mono ?_
  rintro r w1 ⟨rfl, s1, t1⟩
  have h1 := hide ((unhide h).turn s1 t1)
  have p1 := hide ((unhide h).kp t1)
  have C2 := hide (k_shades (hide (unhide h1).ks))
  simp only [show ((0 : Int) == 1 || (0 : Int) == 2) = false from rfl] at C2
  clear C s1 t1
  go_wp2_with fail
  refine (unhide C2).mono ?_
  rintro r w2 ⟨rfl, hw2⟩
  rw [hw2]
  clear C2 hw2 w2
  go_wp2_with fail
  go_ret2
  exact ⟨rfl, unhide h1, unhide p1⟩
theorem h_takeK (h : Hid (HS W w x al l n ao cap nv c)) (m v : Int) (al' : Al) (hR : Hid (al.take m = (al', v, 0))) (rv : Value) : Calls Tryz.prog 28 #[.pointer (some ⟨x.hb, 0, none⟩), .int .i64 m, rv] w fun r w' => r = .returned (.tuple #[.int .i64 v, .int .i64 0]) ∧ HS W w' x al' l n ao cap nv c ∧ Kp3 w c w' := by
  have h0 := (unhide h).h0
  have C := hide (hs_takeK h m v al' hR)
  clear hR h
  go_enter Tryz.func28, Tryz.ntmps28
  go_wp2_with fail
  refine (unhide C).mono ?_
  rintro r w1 ⟨rfl, S1, p1⟩
  replace S1 := hide S1
  replace p1 := hide p1
  clear C
  go_wp2_with fail
  go_ret2
  exact ⟨rfl, unhide S1, unhide p1⟩
theorem NrAt.get {B : Nat} {v : Value} (h : NrAt w B v n) (k : Nat) (hk : k < n) : ∃ g cp, v = .slice (some ⟨g, 0, none⟩) n cp ∧ w.cell? ⟨g, k, none⟩ = some (.int .i64 (k : Int)) := by
  rcases h.2 with ⟨_, e⟩ | ⟨g, cp, cur, e, _, h3, _, _, _, h7⟩
  · omega
  · refine ⟨g, cp, e, ?_⟩
    rw [cell_of_row _ _ _ _ _ _ h3]
    have h8 : (nrL n)[k]? = some (.int .i64 (k : Int)) := by
      unfold nrL
      rw [List.getElem?_map, List.getElem?_range hk]
      rfl
    rw [← h7, List.getElem?_take] at h8
    split at h8
    · simpa using h8
    · cases h8
theorem NrAt.shape {B : Nat} {v : Value} (h : NrAt w B v n) : ∃ ao cp, v = .slice ao n cp := by
  rcases h.2 with ⟨e, e2⟩ | ⟨g, cp, cur, e, _⟩
  · exact ⟨none, 0, by rw [e, e2]⟩
  · exact ⟨_, cp, e⟩
theorem h_first (h : Hid (HS W w x al l n ao cap nv c)) (k : Nat) (hk : k < n) (s : Hd.Shp) (hs : l[k]? = some s) (wd : Int) : Calls Tryz.prog 31 #[.pointer (some ⟨x.hb, 0, none⟩), .int .i64 (k : Int), .int .i64 wd] w fun r w' => r = .returned (.int .i64 (Hd.pkV wd s.k (k : Int))) ∧ G w w' := by
  obtain ⟨g, cp, hv, ck⟩ := (unhide h).num.get k hk
  have h0 := (unhide h).h0
  have h1 := (unhide h).h1
  rw [hv] at h1
  have CT := hide (k_table (hide (unhide h).ks))
  have CS := hide (Hd.shape_yes w _ _ _ _ _ l (unhide h).tab k s hs)
  have hkI : (k : Int) < (n : Int) := by omega
  have hk0 : (0 : Int) ≤ (k : Int) := by omega
  obtain ⟨sk, hsk⟩ : ∃ sk, sk = s.k := ⟨_, rfl⟩
  generalize s.f = sf at CS
  generalize s.m = sm at CS
  rw [← hsk] at CS ⊢
  have CP := hide (fun y => Hd.pack_any wd sk (k : Int) y)
  generalize Hd.pkV wd sk (k : Int) = pv at CP ⊢
  generalize Hd.pkE wd sk (k : Int) = pe at CP
  clear h hs hsk hv hk
  go_enter Tryz.func31, Tryz.ntmps31
  go_wp2_with fail
  refine (unhide CT).mono ?_
  rintro r w1 ⟨rfl, hw1⟩
  rw [hw1]
  clear hw1 w1 CT
  go_wp2_with fail
  refine (unhide CS).mono ?_
  rintro r w2 ⟨rfl, g2⟩
  clear CS
  go_upto_region 3 with fail
  obtain ⟨w3, hw3⟩ : ∃ w3, w3 = w2.alloc (.cells #[.int .i64 sk, .int .i64 sf, .int .u64 (sm : Int)] 37) := ⟨_, rfl⟩
  rw [← hw3]
  have q0 : w3.cell? ⟨w2.heap.size, 0, none⟩ = some (.int .i64 sk) := by rw [hw3]; simp [go_sem]
  have g3 := hide (g2.trans (show G w2 w3 by rw [hw3]; exact G.alloc _ _))
  clear hw3 g2
  go_wp2_with fail
  refine (unhide CP w3).mono ?_
  rintro r w4 ⟨rfl, hw4⟩
  have g4 := hide ((unhide g3).trans (show G w3 w4 by rw [hw4]; exact G.alloc _ _))
  clear hw4 CP g3
  go_wp2_with fail
  go_ret
  exact ⟨rfl, unhide g4⟩
theorem h_make_bad (h : Hid (HS W w x al l n ao cap nv c)) (k wd : Int) (hb : k < 0 ∨ (n : Int) ≤ k ∨ wd < 1 ∨ 64 < wd) (rv : Value) : Calls Tryz.prog 8 #[.pointer (some ⟨x.hb, 0, none⟩), .int .i64 k, .int .i64 wd, rv] w fun r w' => r = .returned (.tuple #[.int .i64 0, .int .i64 1]) ∧ w' = w := by
  obtain ⟨ao', cp, hv⟩ := (unhide h).num.shape
  have h1 := (unhide h).h1
  rw [hv] at h1
  clear h hv
  by_cases a1 : k < 0
  · clear hb
    go_enter Tryz.func8, Tryz.ntmps8
    go_wp2_with fail
    go_ret2
    exact ⟨rfl, rfl⟩
  by_cases a2 : (n : Int) ≤ k
  · clear hb
    go_enter Tryz.func8, Tryz.ntmps8
    go_wp2_with fail
    go_ret2
    exact ⟨rfl, rfl⟩
  by_cases a3 : wd < 1
  · clear hb
    go_enter Tryz.func8, Tryz.ntmps8
    go_wp2_with fail
    go_ret2
    exact ⟨rfl, rfl⟩
  have a4 : 64 < wd := by omega
  clear hb
  go_enter Tryz.func8, Tryz.ntmps8
  go_wp2_with fail
  go_ret2
  exact ⟨rfl, rfl⟩
set_option maxHeartbeats 1000000 in
theorem h_makeK (h : Hid (HS W w x al l n ao cap nv c)) (k : Nat) (hk : k < n) (s : Hd.Shp) (hs : l[k]? = some s) (wd v : Int) (hw1 : 1 ≤ wd) (hw2 : wd ≤ 64) (al' : Al) (hR : Hid (al.take wd = (al', v, 0))) (rv : Value) : Calls Tryz.prog 8 #[.pointer (some ⟨x.hb, 0, none⟩), .int .i64 (k : Int), .int .i64 wd, rv] w fun r w' => r = .returned (.tuple #[.int .i64 v, .int .i64 0]) ∧ HS W w' x ⟨al'.a.writeA v 0 (Hd.pkV wd s.k (k : Int)), al'.u⟩ l n ao cap nv c ∧ Kp3 w c w' := by
  obtain ⟨ao', cp, hv⟩ := (unhide h).num.shape
  have h1 := (unhide h).h1
  rw [hv] at h1
  have CT := hide (h_takeK h wd v al' hR rv)
  have CF : Hid (∀ y, HS W y x al' l n ao cap nv c → Calls Tryz.prog 31 #[.pointer (some ⟨x.hb, 0, none⟩), .int .i64 (k : Int), .int .i64 wd] y fun r w' => r = .returned (.int .i64 (Hd.pkV wd s.k (k : Int))) ∧ G y w') := hide fun y hy => h_first (hide hy) k hk s hs wd
  have hk0 : ¬ (k : Int) < 0 := by omega
  have hkn : ¬ (n : Int) ≤ (k : Int) := by omega
  have hw1' : ¬ wd < 1 := by omega
  have hw2' : ¬ 64 < wd := by omega
  generalize Hd.pkV wd s.k (k : Int) = pv at CF ⊢
  clear h hv hR hs hw1 hw2 hk
  go_enter Tryz.func8, Tryz.ntmps8
  go_wp2_with fail
  refine (unhide CT).mono ?_
  rintro r w1 ⟨rfl, S1, p1⟩
  replace p1 := hide p1
  have q0 := S1.h0
  have CA := hide (k_arena (hide S1.ks))
  have CF1 := hide (unhide CF w1 S1)
  replace S1 := hide S1
  clear CT CF h1
  go_wp2_with fail
  refine (unhide CA).mono ?_
  rintro r w2 ⟨rfl, hw2⟩
  rw [hw2]
  clear hw2 w2 CA
  go_wp2_with fail
  refine (unhide CF1).mono ?_
  rintro r w3 ⟨rfl, g3⟩
  have S3 := (unhide S1).gr g3
  have CW : Hid (Calls Tryz.prog 30 #[.pointer (some ⟨x.xl.d.ab, 0, none⟩), .int .i64 v, .int .i64 0, .int .i64 pv] w3 fun e w' => (∃ r, e = .returned (.int .i64 r)) ∧ Hid (HS W w' x ⟨al'.a.writeA v 0 pv, al'.u⟩ l n ao cap nv c ∧ Kp3 w c w')) := hide ((ls_write (hide S3.ks.st) v 0 pv).mono fun _ _ hh => ⟨⟨_, hh.1⟩, hide ⟨S3.turn hh.2.1 hh.2.2, (unhide p1).trans ((Kp3.of_G g3).trans (S3.kp hh.2.2))⟩⟩)
  clear CF1 g3 S3 S1 q0 p1
  go_wp2_with fail
  refine (unhide CW).mono ?_
  rintro r w4 ⟨⟨r4, rfl⟩, S4⟩
  clear CW
  go_wp2_with fail
  go_ret2
  exact ⟨rfl, unhide S4⟩
theorem h_make (h : Hid (HS W w x al l n ao cap nv c)) (k : Nat) (hk : k < n) (s : Hd.Shp) (hs : l[k]? = some s) (wd v : Int) (hw1 : 1 ≤ wd) (hw2 : wd ≤ 64) (al' : Al) (hR : Hid (al.take wd = (al', v, 0))) (rv : Value) : Calls Tryz.prog 8 #[.pointer (some ⟨x.hb, 0, none⟩), .int .i64 (k : Int), .int .i64 wd, rv] w fun r w' => r = .returned (.tuple #[.int .i64 v, .int .i64 0]) ∧ HS W w' x ⟨al'.a.writeA v 0 (Hd.pkV wd s.k (k : Int)), al'.u⟩ l n ao cap nv c :=
  (h_makeK h k hk s hs wd v hw1 hw2 al' hR rv).mono fun _ _ hh => ⟨hh.1, hh.2.1⟩
end
end Go.Proofs.YtahhkehijokhnaaGreatDoor

/- Package heap: list, Add. -/
namespace Go.Proofs.YtahhkehijokhnaaGreatDoor
set_option maxRecDepth 100000
open Go.ChangeShapes Go.WideShapes Go.ChangeAt Go.RowKit Go.Maps Go.Deep

theorem info_intH : (Tryz.prog.info? 3).map (fun i => (i.zero, i.size, i.bytes)) = some (some (.int .i64 0), 1, 8) := by kernel_rfl
theorem zero_intH (w : World) : (zeroValue 3).run Tryz.prog w = .ok (.int .i64 0) w := by kernel_rfl
theorem wpl_aph {ops : Array Oper} {rest : List Oper} {o : Oper} {a : Act} {w : World} {Q : Exit → Act → World → Prop} (hgd : o.guard = none) (s x : Operand) (t : TypeId) (ho : o.op = .call { callee := .builtin .append, args := #[s, x], argTypes := #[t, t] })
    (vs vx : Value) (hs : a.eval s = vs) (hx : a.eval x = vx) (v' : Value) (w' : World) (hrun : (Builtin.append_ #[t, t] o.type #[vs, vx]).run Tryz.prog w = .ok v' w') (h : wpList Tryz.prog ops Q rest (a.put o.dst v') w') : wpList Tryz.prog ops Q (o :: rest) a w := by
  refine wpList_plain hgd fun K hK => ?_
  unfold Oper.wp execOp
  simp only [ho, resolve, invoke, builtin, Sem.run_bind, Sem.run_pure, Result.andThen_ok, List.map_toArray, List.map_cons, List.map_nil, hs, hx, hrun]
  exact hK _ _ h
theorem nrL_succ (n : Nat) : nrL (n + 1) = nrL n ++ [.int .i64 (n : Int)] := by
  unfold nrL
  rw [List.range_succ, List.map_append]
  rfl
theorem nr_app {w : World} {B n : Nat} {v : Value} (h : NrAt w B v n) (hB : B ≤ w.heap.size) (hn : n ≤ 1000000) :
    ∃ v' w', (Builtin.append_ #[70, 70] 70 #[v, .slice (some ⟨w.heap.size, 0, none⟩) 1 1]).run Tryz.prog (w.alloc (.cells #[.int .i64 (n : Int)] 3)) = .ok v' w' ∧ NrAt w' B v' (n + 1) ∧ (w.alloc (.cells #[.int .i64 (n : Int)] 3)).grownBy w' v.ownBlock ∧ (v'.ownBlock = v.ownBlock ∨ v'.ownBlock = some (w.heap.size + 1)) := by
  obtain ⟨i, hi, hz, hs, hb⟩ := info_parts info_intH
  have ga := G.alloc w (.cells #[.int .i64 (n : Int)] 3)
  have h2 : NrAt (w.alloc (.cells #[.int .i64 (n : Int)] 3)) B v n := by
    rcases h.2 with h0 | ⟨g, cp, cur, e1, e2, e3, e4⟩
    · exact ⟨h.1, Or.inl h0⟩
    · refine ⟨h.1, Or.inr ⟨g, cp, cur, e1, e2, ?_, e4⟩⟩
      have hlt : g < w.heap.size := by
        rcases Nat.lt_or_ge g w.heap.size with hh | hh
        · exact hh
        · rw [Array.getElem?_eq_none hh] at e3; cases e3
      rw [ga.block g hlt]; exact e3
  obtain ⟨v', w', hrun, r1, r2, _, r4⟩ := run_append_own_at (P := Tryz.prog) (w.alloc (.cells #[.int .i64 (n : Int)] 3)) B 70 70 3 i _ 1 8 Tryz.underlying70 hi hz hs hb rfl (by decide) v n _ h2 ⟨w.heap.size, 0, none⟩ 1 1 [.int .i64 (n : Int)] rfl (fun j u hj => by
      rw [Addr.add_lit, cell_of_row _ _ _ _ _ _ (heap_alloc_new w _), Nat.zero_add]
      simpa using hj) (fun u hu => by simp at hu; subst hu; rfl) (by unfold maxLen; omega) (by omega) (Nat.le_trans hB ga.size)
  refine ⟨v', w', hrun, ?_, r2, ?_⟩
  · show w'.ownsRow B 3 1 v' (n + 1) (nrL (n + 1))
    rw [nrL_succ]
    exact r1
  · rw [World.size_alloc] at r4; exact r4
section
variable {W w : World} {x : Hx} {al : Al} {l : List Hd.Shp} {n : Nat} {ao : Option Addr} {cap : Nat} {nv : Value} {c : Nat → Nat}
theorem HS.nlo (h : HS W w x al l n ao cap nv c) : ∀ k, nv.ownBlock = some k → W.heap.size ≤ k := fun k hk => by
  rcases h.num.2 with ⟨e, _⟩ | ⟨g, cp, cur, e, h2, _⟩
  · rw [e] at hk; cases hk
  · rw [e] at hk
    obtain rfl : g = k := by simpa [Value.ownBlock] using hk
    exact h2
theorem HS.listed {w2 w4 : World} {v' : Value} (h : HS W w x al l n ao cap nv c) (g2 : (w.alloc (.cells #[.int .i64 (n : Int)] 3)).grownBy w2 nv.ownBlock) (r : NrAt w2 W.heap.size v' (n + 1)) (ob : v'.ownBlock = nv.ownBlock ∨ v'.ownBlock = some (w.heap.size + 1)) (g4 : (w2.setCell ⟨x.hb, 1, none⟩ v').grownBy w4 (some x.lm)) (m4 : LmAt w4 x.lm (n + 1)) :
    ∃ c', HS W w4 x al l (n + 1) ao cap v' c' ∧ K9 w c w4 c' := by
  have ga := G.alloc w (.cells #[.int .i64 (n : Int)] 3)
  have s2 := g2.size
  have s4 := g4.size
  rw [World.size_alloc] at s2
  rw [World.size_setCell] at s4
  have hl := h.hlt
  have lo := h.lo
  have hne : x.hb ≠ x.lm := fun e => by have := h.c6; rw [e, h.c7] at this; omega
  have k2 : ∀ d, d < w.heap.size → c d ≠ 8 → w2.heap[d]? = w.heap[d]? := fun d hd h8 => (g2.block d (by rw [World.size_alloc]; omega) (fun e => h8 (h.c8 d e.symm))).trans (ga.block d hd)
  have k4 : ∀ d, d < w2.heap.size → d ≠ x.hb → d ≠ x.lm → w4.heap[d]? = w2.heap[d]? := fun d hd h6 h7 => (g4.block d (by rw [World.size_setCell]; exact hd) (fun e => h7 (Option.some.inj e))).trans (Below.heap_setCell _ _ _ _ (by simpa using h6))
  have k : ∀ d, d < w.heap.size → c d ≠ 6 → c d ≠ 7 → c d ≠ 8 → w4.heap[d]? = w.heap[d]? := fun d hd h6 h7 h8 => (k4 d (by omega) (fun e => h6 (by rw [e]; exact h.c6)) (fun e => h7 (by rw [e]; exact h.c7))).trans (k2 d hd h8)
  have kh2 := k2 x.hb hl (by rw [h.c6]; decide)
  have kh4 : w4.heap[x.hb]? = (w2.setCell ⟨x.hb, 1, none⟩ v').heap[x.hb]? := g4.block x.hb (by rw [World.size_setCell]; omega) (fun e => hne (Option.some.inj e))
  have hcell : ∀ i u, i ≠ 1 → w.cell? ⟨x.hb, i, none⟩ = some u → w4.cell? ⟨x.hb, i, none⟩ = some u := fun i u hi hu => (World.cell?_of_block (a := ⟨x.hb, i, none⟩) kh4).trans ((cell_other _ (Or.inr hi)).trans ((World.cell?_of_block (a := ⟨x.hb, i, none⟩) kh2).trans hu))
  have hb : Below W.heap.size W w4 := by
    refine Below.trans h.ks.st.below ⟨g4.os.trans (g2.os.trans ga.os), g4.tape.trans (g2.tape.trans ga.tape), g4.output.trans (g2.output.trans ga.output), by omega, fun d hd => ?_⟩
    have hdw : d < w.heap.size := Nat.lt_of_lt_of_le hd h.ks.st.below.size
    refine (k4 d (by omega) (by omega) (by omega)).trans ((g2.block d (by rw [World.size_alloc]; omega) (fun e => ?_)).trans (ga.block d hdw))
    have := h.nlo d e.symm
    omega
  have ks := h.cyc hb (by omega) (fun d hd hc => k d hd (by omega) (by omega) (by omega))
  have cc : ∀ d, d < w.heap.size → (fun d => if w.heap.size ≤ d then 8 else c d) d = c d := fun d hd => if_neg (by omega)
  obtain ⟨l1, l2, l3, l4, l5⟩ := h.alt
  obtain ⟨a1, a2, a3, a4, a5⟩ := h.cA
  obtain ⟨e1, e2, e3, e4⟩ := h.cC
  have q1 : ∀ q, v'.ownBlock = some q → q ≠ x.hb ∧ q ≠ x.lm ∧ q < w2.heap.size := fun q hq => by
    have hlt : q < w2.heap.size := by
      rcases r.2 with ⟨e, _⟩ | ⟨g, cp, cur, e, _, h3, _⟩
      · rw [e] at hq; cases hq
      · rw [e] at hq
        obtain rfl : g = q := by simpa [Value.ownBlock] using hq
        rcases Nat.lt_or_ge g w2.heap.size with hh | hh
        · exact hh
        · rw [Array.getElem?_eq_none hh] at h3; cases h3
    have hlm := h.lt
    rcases ob with e | e
    · rw [e] at hq
      have h8 := h.c8 q hq
      exact ⟨fun e => by rw [e, h.c6] at h8; omega, fun e => by rw [e, h.c7] at h8; omega, hlt⟩
    · rw [e] at hq
      have := Option.some.inj hq
      exact ⟨by omega, by omega, hlt⟩
  refine ⟨fun d => if w.heap.size ≤ d then 8 else c d, ⟨ks, h.tab.kept (k _ h.tab.tlt (by rw [h.c3]; decide) (by rw [h.c3]; decide) (by rw [h.c3]; decide)) (k _ h.tab.mlt (by rw [h.c4]; decide) (by rw [h.c4]; decide) (by rw [h.c4]; decide)) (fun a ha => k _ (h.tab.aoB a ha).2 (by rw [h.c5 a ha]; decide) (by rw [h.c5 a ha]; decide) (by rw [h.c5 a ha]; decide)), hcell 0 _ (by decide) h.h0, (World.cell?_of_block (a := ⟨x.hb, 1, none⟩) kh4).trans (cell_same _ ((World.cell?_of_block (a := ⟨x.hb, 1, none⟩) kh2).trans h.h1)), hcell 2 _ (by decide) h.h2, hcell 3 _ (by decide) h.h3, fun i => (World.frozen?_of_block (a := ⟨x.hb, i, none⟩) kh4).trans ((World.frozen?_setCell _ _ _ _).trans ((World.frozen?_of_block (a := ⟨x.hb, i, none⟩) kh2).trans (h.hf i))), nr_kept r (fun q hq => k4 q (q1 q hq).2.2 (q1 q hq).1 (q1 q hq).2.1), m4, h.lo, by have := h.lt; omega, ⟨(cc _ l1).trans a1, (cc _ l2).trans a2, (cc _ l3).trans a3, (cc _ l4).trans a4, (cc _ l5).trans a5⟩, ⟨(cc _ (h.ks.ap _ (by simp)).1).trans e1, (cc _ (h.ks.ap _ (by simp)).1).trans e2, (cc _ (h.ks.ap _ (by simp)).1).trans e3, (cc _ (h.ks.ap _ (by simp)).1).trans e4⟩, (cc _ h.tab.tlt).trans h.c3, (cc _ h.tab.mlt).trans h.c4, fun a ea => (cc _ (h.tab.aoB a ea).2).trans (h.c5 a ea), (cc _ h.hlt).trans h.c6, (cc _ h.lt).trans h.c7, fun q hq => ?_⟩, by omega, fun d hd => ⟨cc d hd, fun h9 => k d hd (by omega) (by omega) (by omega)⟩⟩
  rcases ob with e | e
  · rw [e] at hq; exact (cc _ (h.nlt q hq)).trans (h.c8 q hq)
  · rw [e] at hq
    have := Option.some.inj hq
    exact if_pos (by omega)
theorem LmAt.put {w' : World} {lm : Nat} {D : DataW Unit} (hn : n ≤ 1000000) (hD : ∀ y : Int, wfN y → Maps.has D (.int .i64 y) = decide (0 ≤ y ∧ y < (n : Int)) ∧ (0 ≤ y ∧ y < (n : Int) → D.atKey (.int .i64 y) (.lit (.int .i64 0)) = .lit (.int .i64 y))) (hi : w.ownsMap Tryz.prog 3 (plainElem Tryz.prog 3) lm n D) (hm : w'.ownsMap Tryz.prog 3 (plainElem Tryz.prog 3) lm (n + 1) (D.put (.int .i64 (n : Int)) (.lit (.int .i64 (n : Int))))) : LmAt w' lm (n + 1) := by
  refine ⟨_, hm, fun y hy => ?_⟩
  have hwn : wfN (n : Int) := WalkArith.wf_i64 (n := (n : Int)) (by omega)
  by_cases e : y = (n : Int)
  · subst e
    rw [Maps.has_put_same hi.isMap (keyI.key (keyOf_int_mk Tryz.underlying3 hwn))]
    refine ⟨by simp; omega, fun _ => ?_⟩
    rw [atKey_put_same hi.isMap (keyI.key (keyOf_int_mk Tryz.underlying3 hwn))]
  · have hne : (Lit.int .i64 y) ≠ (Lit.int .i64 (n : Int)) := by simpa using e
    rw [Maps.has_put_other (by simpa using e), (hD y hy).1]
    refine ⟨by simp only [decide_eq_decide]; omega, fun hlt => ?_⟩
    rw [atKey_put_other (by simpa using e)]
    exact (hD y hy).2 (by omega)
set_option maxHeartbeats 1000000 in
theorem h_list9 (h : Hid (HS W w x al l n ao cap nv c)) (hn : n ≤ 1000) : Calls Tryz.prog 27 #[.pointer (some ⟨x.hb, 0, none⟩), .int .i64 (n : Int)] w fun r w' => r = .returned (.int .i64 (n : Int)) ∧ ∃ nv' c', HS W w' x al l (n + 1) ao cap nv' c' ∧ K9 w c w' c' := by
  obtain ⟨oa, cp, hv⟩ := (unhide h).num.shape
  obtain ⟨v', w2, hrun, r2, g2, ob⟩ := nr_app (unhide h).num (unhide h).ks.st.below.size (by omega)
  obtain ⟨oa', cp', hv'⟩ := r2.shape
  subst hv'
  obtain ⟨D, hD, hK⟩ := (unhide h).mp
  have h1 := (unhide h).h1
  have f1 := (unhide h).hf 1
  have h2 := (unhide h).h2
  have ga := G.alloc w (.cells #[.int .i64 (n : Int)] 3)
  have h1a := ga.cell h1
  have s2 := g2.size
  rw [World.size_alloc] at s2
  have kh2 : w2.heap[x.hb]? = w.heap[x.hb]? := (g2.block x.hb (by rw [World.size_alloc]; have := (unhide h).hlt; omega) (fun e => by have := (unhide h).c8 _ e.symm; rw [(unhide h).c6] at this; omega)).trans (ga.block x.hb (unhide h).hlt)
  have kl2 : w2.heap[x.lm]? = w.heap[x.lm]? := (g2.block x.lm (by rw [World.size_alloc]; have := (unhide h).lt; omega) (fun e => by have := (unhide h).c8 _ e.symm; rw [(unhide h).c7] at this; omega)).trans (ga.block x.lm (unhide h).lt)
  have q1 := (World.cell?_of_block (a := ⟨x.hb, 1, none⟩) kh2).trans h1
  have qf := (World.frozen?_of_block (a := ⟨x.hb, 1, none⟩) kh2).trans f1
  have hne : x.lm ≠ x.hb := fun e => by have := (unhide h).c7; rw [e, (unhide h).c6] at this; omega
  obtain ⟨w3, hw3⟩ : ∃ w3, w3 = w2.setCell ⟨x.hb, 1, none⟩ (.slice oa' (n + 1) cp') := ⟨_, rfl⟩
  have q2 : w3.cell? ⟨x.hb, 2, none⟩ = some (.map (some x.lm)) := by rw [hw3]; exact (cell_other _ (Or.inr (by decide))).trans ((World.cell?_of_block (a := ⟨x.hb, 2, none⟩) kh2).trans h2)
  have D3 : w3.ownsMap Tryz.prog 3 (plainElem Tryz.prog 3) x.lm n D := by
    obtain ⟨es, clock, hb, r⟩ := hD
    exact ⟨es, clock, by rw [hw3, Below.heap_setCell _ _ _ _ (by simpa using hne), kl2]; exact hb, r⟩
  have hwn : wfN (n : Int) := WalkArith.wf_i64 (n := (n : Int)) (by omega)
  have hkey : keyOf Tryz.prog 3 (.int .i64 (n : Int)) = some (.int .i64 (n : Int)) := keyOf_int_mk Tryz.underlying3 hwn
  have hhas : Maps.has D (.int .i64 (n : Int)) = false := by rw [(hK _ hwn).1]; simp
  have hval : plainElem (H := Unit) Tryz.prog 3 (.int .i64 (n : Int)) = some (.lit (.int .i64 (n : Int)), []) := plainElem_int Tryz.underlying3 hwn
  have FIN : Hid (∀ w4, w4.ownsMap Tryz.prog 3 (plainElem Tryz.prog 3) x.lm (n + 1) (D.put (.int .i64 (n : Int)) (.lit (.int .i64 (n : Int)))) → w3.grownBy w4 (some x.lm) → ∃ nv' c', HS W w4 x al l (n + 1) ao cap nv' c' ∧ K9 w c w4 c') := hide fun w4 m4 g4 => by
    rw [hw3] at g4
    obtain ⟨c', S⟩ := (unhide h).listed g2 r2 ob g4 (LmAt.put (by omega) hK hD m4)
    exact ⟨_, c', S⟩
  have hnm : n < maxLen := by unfold maxLen; omega
  rw [hv] at h1 h1a hrun q1
  replace hw3' := hide hw3
  clear h hv r2 g2 ob hD hK ga s2 kh2 kl2 hne hwn f1
  replace hn := hide hn
  go_enter Tryz.func27, Tryz.ntmps27
  go_upto_region 3 with (at_builtin; refine wpl_aph rfl (.tmp 17) (.tmp 19) 70 rfl _ _ rfl rfl _ _ hrun ?_)
  rw [← hw3]
  clear hw3 hrun q1 qf h1 h1a h2
  go_upto_region 4 with (at_lookup; refine wpList_lookup_own_ok_int _ rfl _ _ 69 rfl 3 3 .i64 keyI Tryz.underlying69 Tryz.underlying3 (zero_intH _) x.lm n D rfl D3 _ _ rfl hkey ?_; intro cc hat hwc; rw [hhas])
  go_wp2_with (at_mapUpdate; refine wpList_mapUpdate_own _ rfl _ _ _ 69 rfl 3 3 keyI Tryz.underlying69 (plainElem (H := Unit) Tryz.prog 3) x.lm n D rfl D3 hnm _ _ _ rfl rfl hkey _ [] hval ?_; intro w4 hm4 hg4; have S4 := hide (unhide FIN w4 hm4 hg4); clear hm4 hg4 FIN)
  go_ret
  exact ⟨rfl, unhide S4⟩
theorem h_list (h : Hid (HS W w x al l n ao cap nv c)) (hn : n ≤ 1000) : Calls Tryz.prog 27 #[.pointer (some ⟨x.hb, 0, none⟩), .int .i64 (n : Int)] w fun r w' => r = .returned (.int .i64 (n : Int)) ∧ ∃ nv' c', HS W w' x al l (n + 1) ao cap nv' c' := (h_list9 h hn).mono fun _ _ ⟨hr, nv', c', S, _⟩ => ⟨hr, nv', c', S⟩
end
end Go.Proofs.YtahhkehijokhnaaGreatDoor

/- Package heap: Add, New. -/
namespace Go.Proofs.YtahhkehijokhnaaGreatDoor
set_option maxRecDepth 100000
open Go.ChangeShapes Go.WideShapes Go.ChangeAt Go.RowKit Go.Maps Go.Deep

section
variable {W w : World} {x : Hx} {al : Al} {l : List Hd.Shp} {n : Nat} {ao : Option Addr} {cap : Nat} {nv : Value} {c : Nat → Nat}
/-- The table is asked for a shape's number. -/
theorem hs_number9 (h : HS W w x al l n ao cap nv c) (s : Hd.Shp) (hs : s.Fit) (hlen : l.length < 65536) : Calls Tryz.prog 26 #[.pointer (some ⟨x.b.tb, 0, none⟩), .agg #[.int .i64 s.k, .int .i64 s.f, .int .u64 (s.m : Int)]] w fun e w' => e = .returned (.tuple #[.int .i64 (Hd.numV l s), .int .i64 (Hd.numE s)]) ∧ (∃ ao' cap' c', HS W w' x al (Hd.addS l s) n ao' cap' nv c' ∧ (w.heap.size ≤ w'.heap.size ∧ ∀ d, d < w.heap.size → c' d = c d)) ∧ ∀ d, d < w.heap.size → c d ≠ 3 → c d ≠ 4 → c d ≠ 5 → w'.heap[d]? = w.heap[d]? := by
  refine (Hd.number_any w W.heap.size x.b.tb x.tm ao cap l s h.tab hs hlen h.ks.st.below.size).mono ?_
  rintro e w' ⟨ao', cap', he, T, tu, ha⟩
  obtain ⟨c', S, cq⟩ := h.number9 T tu ha
  exact ⟨he, ⟨ao', cap', c', S, tu.size, cq⟩, fun d hd n3 n4 n5 => tu.block d hd (fun e => n3 (by rw [e]; exact h.c3)) (fun e => n4 (by rw [e]; exact h.c4)) (fun a ea e => n5 (by rw [e]; exact h.c5 a ea))⟩
theorem hs_number (h : HS W w x al l n ao cap nv c) (s : Hd.Shp) (hs : s.Fit) (hlen : l.length < 65536) : Calls Tryz.prog 26 #[.pointer (some ⟨x.b.tb, 0, none⟩), .agg #[.int .i64 s.k, .int .i64 s.f, .int .u64 (s.m : Int)]] w fun e w' => e = .returned (.tuple #[.int .i64 (Hd.numV l s), .int .i64 (Hd.numE s)]) ∧ (∃ ao' cap' c', HS W w' x al (Hd.addS l s) n ao' cap' nv c') ∧ ∀ d, d < w.heap.size → c d ≠ 3 → c d ≠ 4 → c d ≠ 5 → w'.heap[d]? = w.heap[d]? :=
  (hs_number9 h s hs hlen).mono fun _ _ ⟨he, ⟨ao', cap', c', S, _⟩, hk⟩ => ⟨he, ⟨ao', cap', c', S⟩, hk⟩
/-- New blocks may be given any owner. -/
theorem HS.recol (h : HS W w x al l n ao cap nv c) (w0 : World) (h0 : HS W w0 x al l n ao cap nv c) : HS W w x al l n ao cap nv (fun d => if w0.heap.size ≤ d then 9 else c d) := by
  have cc : ∀ d, d < w0.heap.size → (fun d => if w0.heap.size ≤ d then 9 else c d) d = c d := fun d hd => if_neg (by omega)
  obtain ⟨l1, l2, l3, l4, l5⟩ := h0.alt
  obtain ⟨a1, a2, a3, a4, a5⟩ := h.cA
  obtain ⟨e1, e2, e3, e4⟩ := h.cC
  exact ⟨h.ks, h.tab, h.h0, h.h1, h.h2, h.h3, h.hf, h.num, h.mp, h.lo, h.lt, ⟨(cc _ l1).trans a1, (cc _ l2).trans a2, (cc _ l3).trans a3, (cc _ l4).trans a4, (cc _ l5).trans a5⟩, ⟨(cc _ (h0.ks.ap _ (by simp)).1).trans e1, (cc _ (h0.ks.ap _ (by simp)).1).trans e2, (cc _ (h0.ks.ap _ (by simp)).1).trans e3, (cc _ (h0.ks.ap _ (by simp)).1).trans e4⟩, (cc _ h0.tab.tlt).trans h.c3, (cc _ h0.tab.mlt).trans h.c4, fun a ea => (cc _ (h0.tab.aoB a ea).2).trans (h.c5 a ea), (cc _ h0.hlt).trans h.c6, (cc _ h0.lt).trans h.c7, fun q hq => (cc _ (h0.nlt q hq)).trans (h.c8 q hq)⟩
/-- What is not the table's is as it was. -/
def KpD (w : World) (c : Nat → Nat) (w' : World) : Prop := ∀ d, d < w.heap.size → c d ≠ 3 → c d ≠ 4 → c d ≠ 5 → w'.heap[d]? = w.heap[d]?
def AddK (w : World) (c : Nat → Nat) (l : List Hd.Shp) (s : Hd.Shp) (w' : World) : Prop := s ∈ l → KpD w c w'
set_option maxHeartbeats 1000000 in
theorem h_add9 (h : Hid (HS W w x al l n ao cap nv c)) (hln : l.length = n) (hn : n ≤ 1000) (s : Hd.Shp) (hs : s.Fit) : Calls Tryz.prog 9 #[.pointer (some ⟨x.hb, 0, none⟩), .agg #[.int .i64 s.k, .int .i64 s.f, .int .u64 (s.m : Int)]] w fun r w' => r = .returned (.tuple #[.int .i64 (Hd.numV l s), .int .i64 (Hd.numE s)]) ∧ (∃ n' ao' cap' nv' c', n' = (Hd.addS l s).length ∧ (HS W w' x al (Hd.addS l s) n' ao' cap' nv' c' ∧ K9 w c w' c')) ∧ AddK w c l s w' := by
  obtain ⟨W1, hW1⟩ : ∃ W1, W1 = w.alloc (.cells #[.int .i64 s.k, .int .i64 s.f, .int .u64 (s.m : Int)] 37) := ⟨_, rfl⟩
  have g1 : G w W1 := by rw [hW1]; exact G.alloc _ _
  have e1 : W1.heap[w.heap.size]? = some (.cells #[.int .i64 s.k, .int .i64 s.f, .int .u64 (s.m : Int)] 37) := by rw [hW1]; exact heap_alloc_new w _
  have z1 : w.heap.size < W1.heap.size := by rw [hW1, World.size_alloc]; omega
  have BX : Hid (∀ y : World, y.heap[w.heap.size]? = W1.heap[w.heap.size]? → y.cell? ⟨w.heap.size, 0, none⟩ = some (.int .i64 s.k) ∧ y.cell? ⟨w.heap.size, 1, none⟩ = some (.int .i64 s.f) ∧ y.cell? ⟨w.heap.size, 2, none⟩ = some (.int .u64 (s.m : Int))) := hide fun y hy => by
    have e := hy.trans e1
    exact ⟨by rw [cell_of_row _ _ _ _ _ _ e]; rfl, by rw [cell_of_row _ _ _ _ _ _ e]; rfl, by rw [cell_of_row _ _ _ _ _ _ e]; rfl⟩
  have HH : Hid (∀ y, G W1 y → HS W y x al l n ao cap nv (fun d => if w.heap.size ≤ d then 9 else c d)) := hide fun y g => ((unhide h).gr (g1.trans g)).recol w (unhide h)
  have TB : Hid (∀ y, G W1 y → Calls Tryz.prog 25 #[.pointer (some ⟨x.b.cb, 0, none⟩)] y fun e w' => e = .returned (.pointer (some ⟨x.b.tb, 0, none⟩)) ∧ w' = y) := hide fun y g => k_table (hide (unhide HH y g).ks)
  have NB : Hid (∀ y, G W1 y → Calls Tryz.prog 26 #[.pointer (some ⟨x.b.tb, 0, none⟩), .agg #[.int .i64 s.k, .int .i64 s.f, .int .u64 (s.m : Int)]] y fun e w' => e = .returned (.tuple #[.int .i64 (Hd.numV l s), .int .i64 (Hd.numE s)]) ∧ Hid (((∃ ao' cap' c', (HS W w' x al (Hd.addS l s) n ao' cap' nv c' ∧ K9 w c w' c')) ∧ KpD w c w') ∧ w'.heap[w.heap.size]? = W1.heap[w.heap.size]? ∧ w'.cell? ⟨x.hb, 0, none⟩ = some (.pointer (some ⟨x.b.cb, 0, none⟩)))) := hide fun y g => by
    refine (hs_number9 (unhide HH y g) s hs (by omega)).mono ?_
    rintro e w' ⟨he, ⟨ao', cap', c', S, sz, cq⟩, hk⟩
    have gs := g.size
    have k9 : K9 w c w' c' := ⟨by omega, fun d hd => ⟨(cq d (by omega)).trans (if_neg (by omega)), fun h9 => (hk d (by omega) (by rw [if_neg (by omega)]; omega) (by rw [if_neg (by omega)]; omega) (by rw [if_neg (by omega)]; omega)).trans ((g.block d (by omega)).trans (g1.block d hd))⟩⟩
    exact ⟨he, hide ⟨⟨⟨ao', cap', c', S, k9⟩, fun d hd n3 n4 n5 => (hk d (by have := g.size; omega) (by rw [if_neg (by omega)]; exact n3) (by rw [if_neg (by omega)]; exact n4) (by rw [if_neg (by omega)]; exact n5)).trans ((g.block d (by omega)).trans (g1.block d hd))⟩, (hk _ (by have := g.size; omega) (by simp) (by simp) (by simp)).trans (g.block _ z1), S.h0⟩⟩
  have HB0 : Hid (∀ y, G W1 y → y.cell? ⟨x.hb, 0, none⟩ = some (.pointer (some ⟨x.b.cb, 0, none⟩))) := hide fun y g => (unhide HH y g).h0
  obtain ⟨nV, hnV⟩ : ∃ nV, nV = Hd.numV l s := ⟨_, rfl⟩
  obtain ⟨nE, hnE⟩ : ∃ nE, nE = Hd.numE s := ⟨_, rfl⟩
  obtain ⟨sk, hsk⟩ : ∃ sk, sk = s.k := ⟨_, rfl⟩
  obtain ⟨sf, hsf⟩ : ∃ sf, sf = s.f := ⟨_, rfl⟩
  obtain ⟨sm, hsm⟩ : ∃ sm, sm = s.m := ⟨_, rfl⟩
  -- what comes of it: an error; an old one; a new one
  have WAY : Hid (∀ w2 : World, ((∃ ao' cap' c', (HS W w2 x al (Hd.addS l s) n ao' cap' nv c' ∧ K9 w c w2 c')) ∧ KpD w c w2) → ((nE != 0) = true ∧ nV = 0 ∧ (∃ n' ao' cap' nv' c', n' = (Hd.addS l s).length ∧ (HS W w2 x al (Hd.addS l s) n' ao' cap' nv' c' ∧ K9 w c w2 c')) ∧ AddK w c l s w2) ∨ (nE = 0 ∧ ((0 ≤ nV ∧ nV < (n : Int) ∧ (∃ n' ao' cap' nv' c', n' = (Hd.addS l s).length ∧ (HS W w2 x al (Hd.addS l s) n' ao' cap' nv' c' ∧ K9 w c w2 c')) ∧ AddK w c l s w2) ∨ (nV = (n : Int) ∧ (Hd.addS l s).length = n + 1 ∧ s ∉ l)))) := hide fun w2 ⟨⟨ao', cap', c', S⟩, kp⟩ => by
    rw [hnE, hnV]
    unfold Hd.numE Hd.numV
    by_cases hg : s.good = true
    · right
      rw [if_pos hg, if_pos hg]
      refine ⟨rfl, ?_⟩
      by_cases hm : s ∈ l
      · left
        have ea : Hd.addS l s = l := by unfold Hd.addS; rw [if_neg (fun e => e.2 hm)]
        have := List.idxOf_lt_length_of_mem hm
        refine ⟨by omega, by omega, ⟨n, ao', cap', nv, c', by rw [ea]; exact hln.symm, S⟩, fun _ => kp⟩
      · right
        have ea : Hd.addS l s = l ++ [s] := by unfold Hd.addS; rw [if_pos ⟨hg, hm⟩]
        refine ⟨?_, by rw [ea]; simp [hln], hm⟩
        rw [List.idxOf_eq_length hm, hln]
    · left
      have ea : Hd.addS l s = l := by unfold Hd.addS; rw [if_neg (fun e => hg e.1)]
      rw [if_neg hg, if_neg hg]
      exact ⟨rfl, rfl, ⟨n, ao', cap', nv, c', by rw [ea]; exact hln.symm, S⟩, fun _ => kp⟩
  have MP : Hid (∀ w2 : World, ((∃ ao' cap' c', (HS W w2 x al (Hd.addS l s) n ao' cap' nv c' ∧ K9 w c w2 c')) ∧ KpD w c w2) → w2.cell? ⟨x.hb, 2, none⟩ = some (.map (some x.lm)) ∧ LmAt w2 x.lm n) := hide fun w2 ⟨⟨ao', cap', c', S⟩, kp⟩ => ⟨S.1.h2, S.1.mp⟩
  have LS : Hid (∀ w2 : World, ((∃ ao' cap' c', (HS W w2 x al (Hd.addS l s) n ao' cap' nv c' ∧ K9 w c w2 c')) ∧ KpD w c w2) → (Hd.addS l s).length = n + 1 ∧ s ∉ l → Calls Tryz.prog 27 #[.pointer (some ⟨x.hb, 0, none⟩), .int .i64 (n : Int)] w2 fun r w' => r = .returned (.int .i64 (n : Int)) ∧ Hid ((∃ n' ao' cap' nv' c', n' = (Hd.addS l s).length ∧ (HS W w' x al (Hd.addS l s) n' ao' cap' nv' c' ∧ K9 w c w' c')) ∧ AddK w c l s w')) := hide fun w2 ⟨⟨ao', cap', c', S⟩, kp⟩ hl => by
    refine (h_list9 (hide S.1) hn).mono ?_
    rintro r w' ⟨hr, nv', c'', S', k9⟩
    exact ⟨hr, hide ⟨⟨n + 1, ao', cap', nv', c'', hl.1.symm, S', S.2.trans k9⟩, fun e => absurd e hl.2⟩⟩
  have hwn : wfN (n : Int) := WalkArith.wf_i64 (n := (n : Int)) (by omega)
  have hwy : Hid (∀ y : Int, 0 ≤ y → y ≤ (n : Int) → wfN y) := hide fun y h1 h2 => WalkArith.wf_i64 (n := y) (by omega)
  rw [← hnV, ← hnE] at NB ⊢
  rw [← hsk, ← hsf, ← hsm] at NB BX hW1 ⊢
  generalize Hd.addS l s = la at NB WAY MP LS ⊢
  clear h hnV hnE hsk hsf hsm e1 hs hln hn
  replace g1 := hide g1
  replace z1 := hide z1
  go_enter Tryz.func9, Tryz.ntmps9
  go_upto_region 1 with fail
  rw [← hW1]
  clear hW1
  refine wp_region_noPanic ?_
  refine wp_region_held_drew (S := fun (y : World) => y.heap[w.heap.size]? = W1.heap[w.heap.size]? ∧ y.cell? ⟨x.hb, 0, none⟩ = some (.pointer (some ⟨x.b.cb, 0, none⟩))) (by kernel_rfl) ⟨rfl, unhide HB0 _ (G.drewN W1 1)⟩ (fun hHeld => ?_)
  obtain ⟨y1, hy1⟩ : ∃ y, y = W1.drew := ⟨_, rfl⟩
  have gy : G W1 y1 := by rw [hy1]; exact G.drewN W1 1
  rw [← hy1] at hHeld ⊢
  clear hy1
  refine wpAnyH_take (i := 0) (v := .pointer (some ⟨x.hb, 0, none⟩)) rfl (by kernel_rfl) (by kernel_rfl) (by kernel_rfl) (fun _ _ _ h => h) (Or.inl ⟨by rfl, fun w hSw => by go_simp⟩) (by assumption) ?_
  try simp only [Act.put, List.getElem_toArray, List.getElem_cons_zero, List.setIfInBounds_toArray, List.set_cons_zero, List.set_cons_succ]
  refine wpAnyH_take (i := 1) (v := .pointer (some ⟨x.hb, 0, none⟩)) rfl (by kernel_rfl) (by kernel_rfl) (by kernel_rfl) (fun _ _ _ h => h) (Or.inl ⟨by rfl, fun w hSw => by go_simp⟩) (by assumption) ?_
  try simp only [Act.put, List.getElem_toArray, List.getElem_cons_succ, List.getElem_cons_zero, List.setIfInBounds_toArray, List.set_cons_zero, List.set_cons_succ]
  refine wpAnyH_take (i := 2) (v := .pointer (some ⟨x.hb, 0, none⟩)) rfl (by kernel_rfl) (by kernel_rfl) (by kernel_rfl) (fun _ _ _ h => h) (Or.inl ⟨by rfl, fun w hSw => by go_simp⟩) (by assumption) ?_
  try simp only [Act.put, List.getElem_toArray, List.getElem_cons_succ, List.getElem_cons_zero, List.setIfInBounds_toArray, List.set_cons_zero, List.set_cons_succ]
  refine wpAnyH_take (i := 3) (v := .pointer (some ⟨x.b.cb, 0, none⟩)) rfl (by kernel_rfl) (by kernel_rfl) (by kernel_rfl) (fun _ _ _ h => h) (Or.inl ⟨by rfl, fun w hSw => by have t0 := hSw.2; go_simp⟩) (by assumption) ?_
  try simp only [Act.put, List.getElem_toArray, List.getElem_cons_succ, List.getElem_cons_zero, List.setIfInBounds_toArray, List.set_cons_zero, List.set_cons_succ]
  refine wpAnyH_take (i := 5) (v := .agg #[.int .i64 sk, .int .i64 sf, .int .u64 (sm : Int)]) rfl (by kernel_rfl) (by kernel_rfl) (by kernel_rfl) (fun _ _ _ h => h) (Or.inl ⟨by rfl, fun w hSw => by obtain ⟨t0, t1, t2⟩ := unhide BX w hSw.1; go_simp⟩) (by assumption) ?_
  try simp only [Act.put, List.getElem_toArray, List.getElem_cons_succ, List.getElem_cons_zero, List.setIfInBounds_toArray, List.set_cons_zero, List.set_cons_succ]
  refine wpAnyH_ready (rs := [4]) (by kernel_rfl) (by simp) ?_
  refine AllReadyH.cons rfl (fun K hK => ?_) AllReadyH.nil
  go_simp
  refine (unhide TB y1 gy).mono ?_
  rintro e w9 ⟨rfl, hw9⟩
  rw [hw9]
  clear hw9 w9
  go_wp2_with fail
  refine hK.out _ _ hHeld (fun hH9 => ?_)
  clear hK K hH9
  try simp only [Act.put, List.getElem_toArray, List.getElem_cons_succ, List.getElem_cons_zero, List.setIfInBounds_toArray, List.set_cons_zero, List.set_cons_succ]
  refine wpAnyH_ready (rs := [6]) (by kernel_rfl) (by simp) ?_
  refine AllReadyH.cons rfl (fun K hK => ?_) AllReadyH.nil
  go_simp
  refine (unhide NB y1 gy).mono ?_
  rintro e w2 ⟨rfl, S2⟩
  go_wp2_with fail
  have hS2 := (unhide S2).2
  refine hK.out _ _ hS2 (fun hH9 => ?_)
  clear hK K
  try simp only [Act.put, List.getElem_toArray, List.getElem_cons_succ, List.getElem_cons_zero, List.setIfInBounds_toArray, List.set_cons_zero, List.set_cons_succ]
  refine wpAnyH_take (i := 7) (v := .tuple #[.int .i64 nV, .int .i64 nE]) rfl (by kernel_rfl) (by kernel_rfl) (by kernel_rfl) (fun _ _ _ h => h) (Or.inl ⟨by rfl, fun w hSw => by go_simp⟩) (by assumption) ?_
  try simp only [Act.put, List.getElem_toArray, List.getElem_cons_succ, List.getElem_cons_zero, List.setIfInBounds_toArray, List.set_cons_zero, List.set_cons_succ]
  refine wpAnyH_take (i := 8) (v := .int .i64 nV) rfl (by kernel_rfl) (by kernel_rfl) (by kernel_rfl) (fun _ _ _ h => h) (Or.inl ⟨by rfl, fun w hSw => by go_simp⟩) (by assumption) ?_
  try simp only [Act.put, List.getElem_toArray, List.getElem_cons_succ, List.getElem_cons_zero, List.setIfInBounds_toArray, List.set_cons_zero, List.set_cons_succ]
  refine wpAnyH_take (i := 9) (v := .int .i64 nE) rfl (by kernel_rfl) (by kernel_rfl) (by kernel_rfl) (fun _ _ _ h => h) (Or.inl ⟨by rfl, fun w hSw => by go_simp⟩) (by assumption) ?_
  try simp only [Act.put, List.getElem_toArray, List.getElem_cons_succ, List.getElem_cons_zero, List.setIfInBounds_toArray, List.set_cons_zero, List.set_cons_succ]
  refine wpAnyH_take (i := 10) (v := .int .i64 nV) rfl (by kernel_rfl) (by kernel_rfl) (by kernel_rfl) (fun _ _ _ h => h) (Or.inl ⟨by rfl, fun w hSw => by go_simp⟩) (by assumption) ?_
  try simp only [Act.put, List.getElem_toArray, List.getElem_cons_succ, List.getElem_cons_zero, List.setIfInBounds_toArray, List.set_cons_zero, List.set_cons_succ]
  refine wpAnyH_take (i := 11) (v := .int .i64 nE) rfl (by kernel_rfl) (by kernel_rfl) (by kernel_rfl) (fun _ _ _ h => h) (Or.inl ⟨by rfl, fun w hSw => by go_simp⟩) (by assumption) ?_
  try simp only [Act.put, List.getElem_toArray, List.getElem_cons_succ, List.getElem_cons_zero, List.setIfInBounds_toArray, List.set_cons_zero, List.set_cons_succ]
  refine wpAnyH_done (by kernel_rfl) (NoPanic.normal ?_) _
  clear hHeld gy TB NB HB0 HH BX hS2 hH9
  have S3 := hide (unhide S2).1
  clear S2
  rcases unhide WAY w2 (unhide S3) with ⟨he, rfl, FE⟩ | ⟨rfl, ⟨h0, h1, FE⟩ | ⟨rfl, hl⟩⟩
  · replace FE := hide FE
    clear WAY MP LS
    go_wp2_with fail
    go_ret2
    exact ⟨rfl, unhide FE⟩
  · replace FE := hide FE
    obtain ⟨q2, D, hD, hK⟩ := unhide MP w2 (unhide S3)
    have hwV := unhide hwy nV h0 (by omega)
    have hkey : keyOf Tryz.prog 3 (.int .i64 nV) = some (.int .i64 nV) := keyOf_int_mk Tryz.underlying3 hwV
    have hhas : Maps.has D (.int .i64 nV) = true := by rw [(hK _ hwV).1]; simp; omega
    have hat0 := (hK _ hwV).2 ⟨h0, h1⟩
    clear WAY MP LS hK h0 h1 S3
    go_upto_region 5 with (at_lookup; refine wpList_lookup_own_ok_int _ rfl _ _ 69 rfl 3 3 .i64 keyI Tryz.underlying69 Tryz.underlying3 (zero_intH _) x.lm n D rfl hD _ _ rfl hkey ?_; intro cc hat hwc; obtain rfl : cc = nV := (by rw [hat0] at hat; simpa using hat.symm); rw [hhas])
    go_wp2_with fail
    go_ret2
    exact ⟨rfl, unhide FE⟩
  · obtain ⟨q2, D, hD, hK⟩ := unhide MP w2 (unhide S3)
    have hkey : keyOf Tryz.prog 3 (.int .i64 (n : Int)) = some (.int .i64 (n : Int)) := keyOf_int_mk Tryz.underlying3 hwn
    have hhas : Maps.has D (.int .i64 (n : Int)) = false := by rw [(hK _ hwn).1]; simp
    have CL := hide (unhide LS w2 (unhide S3) hl)
    clear WAY MP LS hK hl S3
    go_upto_region 5 with (at_lookup; refine wpList_lookup_own_ok_int _ rfl _ _ 69 rfl 3 3 .i64 keyI Tryz.underlying69 Tryz.underlying3 (zero_intH _) x.lm n D rfl hD _ _ rfl hkey ?_; intro cc hat hwc; rw [hhas])
    go_wp2_with fail
    refine (unhide CL).mono ?_
    rintro r w4 ⟨rfl, FE⟩
    clear CL
    go_wp2_with fail
    go_ret2
    exact ⟨rfl, unhide FE⟩
theorem h_add (h : Hid (HS W w x al l n ao cap nv c)) (hln : l.length = n) (hn : n ≤ 1000) (s : Hd.Shp) (hs : s.Fit) : Calls Tryz.prog 9 #[.pointer (some ⟨x.hb, 0, none⟩), .agg #[.int .i64 s.k, .int .i64 s.f, .int .u64 (s.m : Int)]] w fun r w' => r = .returned (.tuple #[.int .i64 (Hd.numV l s), .int .i64 (Hd.numE s)]) ∧ (∃ n' ao' cap' nv' c', n' = (Hd.addS l s).length ∧ HS W w' x al (Hd.addS l s) n' ao' cap' nv' c') ∧ AddK w c l s w' :=
  (h_add9 h hln hn s hs).mono fun _ _ ⟨hr, ⟨n', ao', cap', nv', c', hn', S, _⟩, hk⟩ => ⟨hr, ⟨n', ao', cap', nv', c', hn', S⟩, hk⟩
end
end Go.Proofs.YtahhkehijokhnaaGreatDoor

/- Package heap: New. -/
namespace Go.Proofs.YtahhkehijokhnaaGreatDoor
set_option maxRecDepth 100000
open Go.ChangeShapes Go.WideShapes Go.ChangeAt Go.RowKit Go.Maps Go.Deep

theorem hs_start {W w : World} {xl : Ld} {b : Kn} {N tm : Nat} (K : KS W w xl b (al0 N) 0 64 0) (T : Hd.TabAt w W.heap.size b.tb tm none 0 []) (A : ∀ d ∈ [b.cb, b.mb, b.kb, b.q, xl.d.ab, xl.d.wb, xl.d.sb, xl.ub, xl.lb], d ≠ b.tb ∧ d ≠ tm ∧ d < w.heap.size) (ht : b.tb ≠ tm) :
    ∃ c, HS W ((w.alloc (.map #[] 0)).alloc (.cells #[.pointer (some ⟨b.cb, 0, none⟩), .slice none 0 0, .map (some w.heap.size), .int .i64 0] 72)) ⟨xl, b, tm, w.heap.size + 1, w.heap.size⟩ (al0 N) [] 0 none 0 (.slice none 0 0) c := by
  have hW := K.st.below.size
  have z1 : (w.alloc (.map #[] 0)).heap.size = w.heap.size + 1 := World.size_alloc _ _
  have bm : ((w.alloc (.map #[] 0)).alloc (.cells #[.pointer (some ⟨b.cb, 0, none⟩), .slice none 0 0, .map (some w.heap.size), .int .i64 0] 72)).heap[w.heap.size + 1]? = some (.cells #[.pointer (some ⟨b.cb, 0, none⟩), .slice none 0 0, .map (some w.heap.size), .int .i64 0] 72 (0, 0)) := by
    have := heap_alloc_new (w.alloc (.map #[] 0)) (.cells #[.pointer (some ⟨b.cb, 0, none⟩), .slice none 0 0, .map (some w.heap.size), .int .i64 0] 72)
    rw [z1] at this
    exact this
  have g : G w ((w.alloc (.map #[] 0)).alloc (.cells #[.pointer (some ⟨b.cb, 0, none⟩), .slice none 0 0, .map (some w.heap.size), .int .i64 0] 72)) := (G.alloc _ _).more _
  have LM : LmAt ((w.alloc (.map #[] 0)).alloc (.cells #[.pointer (some ⟨b.cb, 0, none⟩), .slice none 0 0, .map (some w.heap.size), .int .i64 0] 72)) w.heap.size 0 :=
    ⟨.map [], (World.ownsMap_made w _ _ _).alloc _, fun y _ => ⟨by rw [Maps.has_eq]; simp, fun h => absurd h.2 (by simpa using h.1)⟩⟩
  have z2 : ((w.alloc (.map #[] 0)).alloc (.cells #[.pointer (some ⟨b.cb, 0, none⟩), .slice none 0 0, .map (some w.heap.size), .int .i64 0] 72)).heap.size = w.heap.size + 2 := by rw [World.size_alloc, z1]
  generalize (w.alloc (.map #[] 0)).alloc (.cells #[.pointer (some ⟨b.cb, 0, none⟩), .slice none 0 0, .map (some w.heap.size), .int .i64 0] 72) = w2 at *
  have hc : ∀ i : Nat, w2.cell? ⟨w.heap.size + 1, i, none⟩ = #[Value.pointer (some ⟨b.cb, 0, none⟩), .slice none 0 0, .map (some w.heap.size), .int .i64 0][i]? := fun i => by rw [cell_of_row _ _ _ _ _ _ bm]
  have l1 := T.tlt
  have l2 := T.mlt
  have F : ∀ d ∈ [b.cb, b.mb, b.kb, b.q, xl.d.ab, xl.d.wb, xl.d.sb, xl.ub, xl.lb], ∀ u v : Nat, (if d = b.tb then 3 else if d = tm then 4 else if d = w.heap.size + 1 then 6 else if d = w.heap.size then 7 else if d ∈ [b.cb, b.mb, b.kb, b.q] then u else v) = if d ∈ [b.cb, b.mb, b.kb, b.q] then u else v := fun d hd u v => by
    obtain ⟨a1, a2, a3⟩ := A d hd
    rw [if_neg a1, if_neg a2, if_neg (by omega), if_neg (by omega)]
  have F1 : ∀ d ∈ [xl.d.ab, xl.d.wb, xl.d.sb, xl.ub, xl.lb], d ∉ [b.cb, b.mb, b.kb, b.q] := fun d hd hm => by
    obtain ⟨_, _, k1, k2, k3, k4, k5⟩ := K.ap d hm
    simp only [List.mem_cons, List.not_mem_nil, or_false] at hd
    rcases hd with e | e | e | e | e
    · exact k4 e
    · exact k1 e
    · exact k2 e
    · exact k3 e
    · exact k5 e
  refine ⟨fun d => if d = b.tb then 3 else if d = tm then 4 else if d = w.heap.size + 1 then 6 else if d = w.heap.size then 7 else if d ∈ [b.cb, b.mb, b.kb, b.q] then 2 else 1, K.gr g, T.grown g, hc 0, hc 1, hc 2, hc 3, fun i => by simp [World.frozen?, bm], World.ownsRow_nil _ _ _ _, LM, ⟨by simp only; omega, by simp only; omega⟩, by simp only; omega, ?_, ?_, ?_, ?_, (fun a ea => by cases ea), ?_, ?_, (fun k hk => by cases hk)⟩
  · refine ⟨?_, ?_, ?_, ?_, ?_⟩
    · exact (F _ (by simp) 2 1).trans (if_neg (F1 _ (by simp)))
    · exact (F _ (by simp) 2 1).trans (if_neg (F1 _ (by simp)))
    · exact (F _ (by simp) 2 1).trans (if_neg (F1 _ (by simp)))
    · exact (F _ (by simp) 2 1).trans (if_neg (F1 _ (by simp)))
    · exact (F _ (by simp) 2 1).trans (if_neg (F1 _ (by simp)))
  · refine ⟨?_, ?_, ?_, ?_⟩
    · exact (F _ (by simp) 2 1).trans (if_pos (by simp))
    · exact (F _ (by simp) 2 1).trans (if_pos (by simp))
    · exact (F _ (by simp) 2 1).trans (if_pos (by simp))
    · exact (F _ (by simp) 2 1).trans (if_pos (by simp))
  · exact if_pos rfl
  · show (if tm = b.tb then 3 else _) = 4
    rw [if_neg (Ne.symm ht), if_pos rfl]
  · show (if w.heap.size + 1 = b.tb then 3 else if w.heap.size + 1 = tm then 4 else if w.heap.size + 1 = w.heap.size + 1 then 6 else _) = 6
    rw [if_neg (by omega), if_neg (by omega), if_pos rfl]
  · show (if w.heap.size = b.tb then 3 else if w.heap.size = tm then 4 else if w.heap.size = w.heap.size + 1 then 6 else if w.heap.size = w.heap.size then 7 else _) = 7
    rw [if_neg (by omega), if_neg (by omega), if_neg (by omega), if_pos rfl]
set_option maxHeartbeats 2000000 in
theorem h_new {W : World} (N : Nat) (h0 : 8 ≤ N) (h1 : N ≤ 512) (ht : Hid (Tab W)) (rb off cp : Nat) (ls : List Hd.Shp) (n : Nat) (hn : n = ls.length) (hlen : n ≤ 1000) (HG : Hid (∀ s ∈ ls, s.Fit ∧ s.good = true)) (ND : Hid ls.Nodup) (hb : rb < W.heap.size)
    (HE : Hid (∀ i s, ls[i]? = some s → W.cell? ⟨rb, off + i * 3, none⟩ = some (.int .i64 s.k) ∧ W.cell? ⟨rb, off + i * 3 + 1, none⟩ = some (.int .i64 s.f) ∧ W.cell? ⟨rb, off + i * 3 + 2, none⟩ = some (.int .u64 (s.m : Int)))) :
    Calls Tryz.prog 7 #[.int .i64 (N : Int), .slice (some ⟨rb, off, none⟩) n cp] W fun e w' => ∃ x, e = .returned (.tuple #[.pointer (some ⟨x.hb, 0, none⟩), .int .i64 0]) ∧ ∃ ao cap nv c, HS W w' x (al0 N) ls n ao cap nv c := by
  have hmm := @run_makeMap Tryz.prog
  have KN := hide (k_newT (W := W) (w := W) N h0 h1 (hide (Below.refl _ _)) ht)
  have hnn := hide hn
  replace h0 := hide h0
  replace h1 := hide h1
  clear hn
  go_enter Tryz.func7, Tryz.ntmps7
  go_wp2_with fail
  refine (unhide KN).mono ?_
  rintro e w1 ⟨xl, b, tm, rfl, K1, T1, A1, ht1⟩
  clear KN
  have KK := hide (And.intro K1 (And.intro T1 (And.intro A1 ht1)))
  clear K1 T1 A1 ht1
  go_wp2_with fail
  go_loopw [25] (fun c wr => ∃ t : Nat, t ≤ n ∧ c = .int .i64 t ∧ Hid (G w1 wr)) (fun c _ => n - (intOf c).toNat)
  case atStart => exact ⟨0, Nat.zero_le _, rfl, hide (G.refl _)⟩
  case round =>
    obtain ⟨t, htn, rfl, g⟩ := hrel
    by_cases hj : t = n
    · have hj' : n = t := hj.symm
      subst hj'
      clear hj
      obtain ⟨wa, hwa⟩ : ∃ wa, wa = wr := ⟨_, rfl⟩
      rw [← hwa] at g ⊢
      clear hwa
      have ST := hide (hs_start ((unhide KK).1.gr (unhide g)) ((unhide KK).2.1.grown (unhide g)) (fun d hd => ⟨((unhide KK).2.2.1 d hd).1, ((unhide KK).2.2.1 d hd).2.1, Nat.lt_of_lt_of_le ((unhide KK).2.2.1 d hd).2.2 (unhide g).size⟩) (unhide KK).2.2.2)
      obtain ⟨x, hx⟩ : ∃ x : Hx, x = ⟨xl, b, tm, wa.heap.size + 1, wa.heap.size⟩ := ⟨_, rfl⟩
      have xb : x.hb = wa.heap.size + 1 := by rw [hx]
      have xc : x.b.cb = b.cb := by rw [hx]
      rw [← hx] at ST
      clear hx g KK
      replace xb := hide xb
      replace xc := hide xc
      go_wp2_with fail
      go_loopw [39] (fun c wr => ∃ t : Nat, t ≤ n ∧ c = .int .i64 t ∧ Hid (∃ ao cap nv c, HS W wr x (al0 N) (ls.take t) t ao cap nv c)) (fun c _ => n - (intOf c).toNat)
      case atStart =>
        refine ⟨0, Nat.zero_le _, rfl, hide ?_⟩
        obtain ⟨c, S⟩ := unhide ST
        exact ⟨none, 0, .slice none 0 0, c, S⟩
      case round =>
        obtain ⟨t, htn, rfl, SS⟩ := hrel
        clear ST
        by_cases hj : t = n
        · have hj' : n = t := hj.symm
          subst hj'
          go_wp2_with fail
          go_ret2
          obtain ⟨ao, cap, nv, c, S⟩ := unhide SS
          refine ⟨x, by rw [unhide xb]; rfl, ao, cap, nv, c, ?_⟩
          rw [List.take_of_length_le (by have := unhide hnn; omega)] at S
          exact S
        · have hjl : (t : Int) < (n : Int) := by omega
          obtain ⟨s, hs⟩ : ∃ s, ls[t]? = some s := ⟨ls[t]'(by have := unhide hnn; omega), List.getElem?_eq_getElem _⟩
          obtain ⟨ao, cap, nv, c, S⟩ := unhide SS
          clear SS
          have hbw : Below W.heap.size W wr := S.ks.st.below
          have hbk : rb < wr.heap.size := Nat.lt_of_lt_of_le hb hbw.size
          have y0 := (hbw.cell (p := ⟨rb, off + t * 3, none⟩) hb).trans (unhide HE t s hs).1
          have y1 := (hbw.cell (p := ⟨rb, off + t * 3 + 1, none⟩) hb).trans (unhide HE t s hs).2.1
          have y2 := (hbw.cell (p := ⟨rb, off + t * 3 + 2, none⟩) hb).trans (unhide HE t s hs).2.2
          obtain ⟨hfit, hgood⟩ := unhide HG s (List.mem_of_getElem? hs)
          have hnot : s ∉ ls.take t := fun hm => by
            obtain ⟨q, hq⟩ := List.getElem?_of_mem hm
            rw [List.getElem?_take] at hq
            split at hq
            · rename_i hqt
              have := (List.getElem?_inj (i := q) (j := t) (by have := unhide hnn; omega) (unhide ND)).1 (hq.trans hs.symm)
              omega
            · cases hq
          have htl : (ls.take t).length = t := by rw [List.length_take]; have := unhide hnn; omega
          have hadd : Hd.addS (ls.take t) s = ls.take (t + 1) := by
            unfold Hd.addS
            rw [if_pos ⟨hgood, hnot⟩, List.take_add_one, hs]
            rfl
          have hV : Hd.numV (ls.take t) s = (t : Int) := by
            unfold Hd.numV
            rw [if_pos hgood, List.idxOf_eq_length hnot, htl]
          have hE0 : Hd.numE s = 0 := by unfold Hd.numE; rw [if_pos hgood]
          obtain ⟨W1, hW1⟩ : ∃ W1, W1 = wr.alloc (.cells #[.int .i64 s.k, .int .i64 s.f, .int .u64 (s.m : Int)] 37) := ⟨_, rfl⟩
          have g1 : G wr W1 := by rw [hW1]; exact G.alloc _ _
          have e1 : W1.heap[wr.heap.size]? = some (.cells #[.int .i64 s.k, .int .i64 s.f, .int .u64 (s.m : Int)] 37) := by rw [hW1]; exact heap_alloc_new wr _
          have z1 : wr.heap.size < W1.heap.size := by rw [hW1, World.size_alloc]; omega
          have BX : Hid (∀ y : World, y.heap[wr.heap.size]? = W1.heap[wr.heap.size]? → y.cell? ⟨wr.heap.size, 0, none⟩ = some (.int .i64 s.k) ∧ y.cell? ⟨wr.heap.size, 1, none⟩ = some (.int .i64 s.f) ∧ y.cell? ⟨wr.heap.size, 2, none⟩ = some (.int .u64 (s.m : Int))) := hide fun y hy => by
            have e := hy.trans e1
            exact ⟨by rw [cell_of_row _ _ _ _ _ _ e]; rfl, by rw [cell_of_row _ _ _ _ _ _ e]; rfl, by rw [cell_of_row _ _ _ _ _ _ e]; rfl⟩
          have HH : Hid (∀ y, G W1 y → HS W y x (al0 N) (ls.take t) t ao cap nv (fun d => if wr.heap.size ≤ d then 9 else c d)) := hide fun y g => (S.gr (g1.trans g)).recol wr S
          have TB : Hid (∀ y, G W1 y → Calls Tryz.prog 25 #[.pointer (some ⟨b.cb, 0, none⟩)] y fun e w' => e = .returned (.pointer (some ⟨x.b.tb, 0, none⟩)) ∧ w' = y) := hide fun y g => by
            rw [← unhide xc]
            exact k_table (hide (unhide HH y g).ks)
          have NB : Hid (∀ y, G W1 y → Calls Tryz.prog 26 #[.pointer (some ⟨x.b.tb, 0, none⟩), .agg #[.int .i64 s.k, .int .i64 s.f, .int .u64 (s.m : Int)]] y fun e w' => e = .returned (.tuple #[.int .i64 (t : Int), .int .i64 0]) ∧ Hid ((∃ ao' cap' c', HS W w' x (al0 N) (ls.take (t + 1)) t ao' cap' nv c') ∧ w'.heap[wr.heap.size]? = W1.heap[wr.heap.size]?)) := hide fun y g => by
            refine (hs_number (unhide HH y g) s hfit (by rw [htl]; omega)).mono ?_
            rintro e w' ⟨he, ⟨ao', cap', c', S⟩, hk⟩
            rw [hadd] at S
            rw [hV, hE0] at he
            exact ⟨he, hide ⟨⟨ao', cap', c', S⟩, (hk _ (by have := g.size; omega) (by simp) (by simp) (by simp)).trans (g.block _ z1)⟩⟩
          have LS : Hid (∀ w2 : World, (∃ ao' cap' c', HS W w2 x (al0 N) (ls.take (t + 1)) t ao' cap' nv c') → Calls Tryz.prog 27 #[.pointer (some ⟨wa.heap.size + 1, 0, none⟩), .int .i64 (t : Int)] w2 fun r w' => r = .returned (.int .i64 (t : Int)) ∧ Hid (∃ ao cap nv c, HS W w' x (al0 N) (ls.take (t + 1)) (t + 1) ao cap nv c)) := hide fun w2 ⟨ao', cap', c', S⟩ => by
            rw [← unhide xb]
            refine (h_list (hide S) (by omega)).mono ?_
            rintro r w' ⟨hr, nv', c'', S'⟩
            exact ⟨hr, hide ⟨ao', cap', nv', c'', S'⟩⟩
          obtain ⟨sk, hsk⟩ : ∃ sk, sk = s.k := ⟨_, rfl⟩
          obtain ⟨sf, hsf⟩ : ∃ sf, sf = s.f := ⟨_, rfl⟩
          obtain ⟨sm, hsm⟩ : ∃ sm, sm = s.m := ⟨_, rfl⟩
          rw [← hsk, ← hsf, ← hsm] at NB BX hW1
          rw [← hsk] at y0
          rw [← hsf] at y1
          rw [← hsm] at y2
          clear hsk hsf hsm e1 S hbw hfit hgood hnot htl hadd hV hE0 HH hs hj
          replace g1 := hide g1
          replace z1 := hide z1
          go_upto_region 14 with fail
          rw [← hW1]
          clear hW1 y0 y1 y2 hbk
          refine wp_region_noPanic ?_
          refine wp_region_held_drew (S := fun (y : World) => y.heap[wr.heap.size]? = W1.heap[wr.heap.size]?) (by kernel_rfl) rfl (fun hHeld => ?_)
          obtain ⟨y1, hy1⟩ : ∃ y, y = W1.drew := ⟨_, rfl⟩
          have gy : G W1 y1 := by rw [hy1]; exact G.drewN W1 1
          rw [← hy1] at hHeld ⊢
          clear hy1
          refine wpAnyH_take (i := 0) (v := .pointer (some ⟨b.cb, 0, none⟩)) rfl (by kernel_rfl) (by kernel_rfl) (by kernel_rfl) (fun _ _ _ h => h) (Or.inl ⟨by rfl, fun w hSw => by go_simp⟩) (by assumption) ?_
          try simp only [Act.put, List.getElem_toArray, List.getElem_cons_zero, List.setIfInBounds_toArray, List.set_cons_zero, List.set_cons_succ]
          refine wpAnyH_take (i := 2) (v := .agg #[.int .i64 sk, .int .i64 sf, .int .u64 (sm : Int)]) rfl (by kernel_rfl) (by kernel_rfl) (by kernel_rfl) (fun _ _ _ h => h) (Or.inl ⟨by rfl, fun w hSw => by obtain ⟨t0, t1, t2⟩ := unhide BX w hSw; go_simp⟩) (by assumption) ?_
          try simp only [Act.put, List.getElem_toArray, List.getElem_cons_succ, List.getElem_cons_zero, List.setIfInBounds_toArray, List.set_cons_zero, List.set_cons_succ]
          refine wpAnyH_ready (rs := [1]) (by kernel_rfl) (by simp) ?_
          refine AllReadyH.cons rfl (fun K hK => ?_) AllReadyH.nil
          go_simp
          refine (unhide TB y1 gy).mono ?_
          rintro e w9 ⟨rfl, hw9⟩
          rw [hw9]
          clear hw9 w9
          go_wp2_with fail
          refine hK.out _ _ hHeld (fun hH9 => ?_)
          clear hK K hH9
          try simp only [Act.put, List.getElem_toArray, List.getElem_cons_succ, List.getElem_cons_zero, List.setIfInBounds_toArray, List.set_cons_zero, List.set_cons_succ]
          refine wpAnyH_ready (rs := [3]) (by kernel_rfl) (by simp) ?_
          refine AllReadyH.cons rfl (fun K hK => ?_) AllReadyH.nil
          go_simp
          refine (unhide NB y1 gy).mono ?_
          rintro e w2 ⟨rfl, S2⟩
          go_wp2_with fail
          have hS2 := (unhide S2).2
          refine hK.out _ _ hS2 (fun hH9 => ?_)
          clear hK K
          try simp only [Act.put, List.getElem_toArray, List.getElem_cons_succ, List.getElem_cons_zero, List.setIfInBounds_toArray, List.set_cons_zero, List.set_cons_succ]
          refine wpAnyH_take (i := 4) (v := .tuple #[.int .i64 (t : Int), .int .i64 0]) rfl (by kernel_rfl) (by kernel_rfl) (by kernel_rfl) (fun _ _ _ h => h) (Or.inl ⟨by rfl, fun w hSw => by go_simp⟩) (by assumption) ?_
          try simp only [Act.put, List.getElem_toArray, List.getElem_cons_succ, List.getElem_cons_zero, List.setIfInBounds_toArray, List.set_cons_zero, List.set_cons_succ]
          refine wpAnyH_take (i := 5) (v := .int .i64 (t : Int)) rfl (by kernel_rfl) (by kernel_rfl) (by kernel_rfl) (fun _ _ _ h => h) (Or.inl ⟨by rfl, fun w hSw => by go_simp⟩) (by assumption) ?_
          try simp only [Act.put, List.getElem_toArray, List.getElem_cons_succ, List.getElem_cons_zero, List.setIfInBounds_toArray, List.set_cons_zero, List.set_cons_succ]
          refine wpAnyH_take (i := 6) (v := .int .i64 0) rfl (by kernel_rfl) (by kernel_rfl) (by kernel_rfl) (fun _ _ _ h => h) (Or.inl ⟨by rfl, fun w hSw => by go_simp⟩) (by assumption) ?_
          try simp only [Act.put, List.getElem_toArray, List.getElem_cons_succ, List.getElem_cons_zero, List.setIfInBounds_toArray, List.set_cons_zero, List.set_cons_succ]
          refine wpAnyH_take (i := 7) (v := .int .i64 (t : Int)) rfl (by kernel_rfl) (by kernel_rfl) (by kernel_rfl) (fun _ _ _ h => h) (Or.inl ⟨by rfl, fun w hSw => by go_simp⟩) (by assumption) ?_
          try simp only [Act.put, List.getElem_toArray, List.getElem_cons_succ, List.getElem_cons_zero, List.setIfInBounds_toArray, List.set_cons_zero, List.set_cons_succ]
          refine wpAnyH_take (i := 8) (v := .int .i64 0) rfl (by kernel_rfl) (by kernel_rfl) (by kernel_rfl) (fun _ _ _ h => h) (Or.inl ⟨by rfl, fun w hSw => by go_simp⟩) (by assumption) ?_
          try simp only [Act.put, List.getElem_toArray, List.getElem_cons_succ, List.getElem_cons_zero, List.setIfInBounds_toArray, List.set_cons_zero, List.set_cons_succ]
          refine wpAnyH_done (by kernel_rfl) (NoPanic.normal ?_) _
          have CL := hide (unhide LS w2 (unhide S2).1)
          clear hHeld gy TB NB BX hS2 hH9 S2 LS g1 z1
          go_wp2_with fail
          refine (unhide CL).mono ?_
          rintro r w4 ⟨rfl, FE⟩
          clear CL
          go_wp2_with fail
          go_round
          case rel => exact ⟨t + 1, by omega, by go_num, FE⟩
          case measure => simp [intOf]; omega
    · have hjl : (t : Int) < (n : Int) := by omega
      obtain ⟨s, hs⟩ : ∃ s, ls[t]? = some s := ⟨ls[t]'(by have := unhide hnn; omega), List.getElem?_eq_getElem _⟩
      have hgood : Hd.goodB s.k s.f s.m = true := (unhide HG s (List.mem_of_getElem? hs)).2
      have hbw : Below W.heap.size W wr := Below.trans (unhide KK).1.st.below ((unhide g).mono (unhide KK).1.st.below.size)
      have hbk : rb < wr.heap.size := Nat.lt_of_lt_of_le hb hbw.size
      have y0 := (hbw.cell (p := ⟨rb, off + t * 3, none⟩) hb).trans (unhide HE t s hs).1
      have y1 := (hbw.cell (p := ⟨rb, off + t * 3 + 1, none⟩) hb).trans (unhide HE t s hs).2.1
      have y2 := (hbw.cell (p := ⟨rb, off + t * 3 + 2, none⟩) hb).trans (unhide HE t s hs).2.2
      clear hj hs hbw
      go_wp2_with fail
      refine (Hd.good_any _ _ _ _).mono ?_
      rintro e w2 ⟨rfl, hw2⟩
      have g2 : Hid (G w1 w2) := hide (by rw [hw2]; exact (((unhide g).more _).more _))
      rw [hgood]
      clear hw2 hgood y0 y1 y2 hbk g
      go_wp2_with fail
      go_round
      case rel => exact ⟨t + 1, by omega, by go_num, g2⟩
      case measure => simp [intOf]; omega

end Go.Proofs.YtahhkehijokhnaaGreatDoor

/- PLAIN: what is marked is there behind any sweeping and taking; no Go in it. -/
namespace Go.Proofs.YtahhkehijokhnaaGreatDoor
set_option maxRecDepth 100000

/-- A place that is taken and marked begins at x; its first word is v. -/
def Kp (a : Ab) (x v : Int) : Prop :=
  ∃ s p : Nat, 1 ≤ s ∧ s < a.n ∧ 0 ≤ a.cls s ∧ (p : Int) < gp (a.cls s) ∧ (a.tk s).testBit p = true ∧ (a.mr s).testBit p = true ∧ x = ga s p (a.cls s) ∧ a.wd x = v

theorem Kp.is {a : Ab} (g : a.Good) {x v : Int} (h : Kp a x v) : a.is x = true := by
  obtain ⟨s, p, h1, h2, h3, h4, h5, _, h7, _⟩ := h
  exact (Ab.is_iff g.ok x).2 ⟨s, p, h1, h2, h3, h4, h5, h7⟩

theorem Kp.sweep {a : Ab} {x v : Int} (h : Kp a x v) (t : Int) : Kp (a.sweepA t) x v := by
  unfold Ab.sweepA
  split
  · obtain ⟨s, p, h1, h2, h3, h4, h5, h6, h7, h8⟩ := h
    refine ⟨s, p, h1, h2, ?_⟩
    show 0 ≤ (if a.kept t.toNat = 0 then upd a.cls t.toNat (-1) else a.cls) s ∧ (p : Int) < gp ((if a.kept t.toNat = 0 then upd a.cls t.toNat (-1) else a.cls) s) ∧ (upd a.tk t.toNat (a.kept t.toNat) s).testBit p = true ∧
      ((if a.kept t.toNat = 0 then upd a.mr t.toNat 0 else a.mr) s).testBit p = true ∧ x = ga s p ((if a.kept t.toNat = 0 then upd a.cls t.toNat (-1) else a.cls) s) ∧ a.wd x = v
    by_cases e : s = t.toNat
    · subst e
      have hb : (a.kept t.toNat).testBit p = true := by rw [kept_bit, h5, h6]; rfl
      have hz : ¬ a.kept t.toNat = 0 := by intro hz; rw [hz] at hb; simp at hb
      rw [if_neg hz, if_neg hz, upd_same]
      exact ⟨h3, h4, hb, h6, h7, h8⟩
    · have e1 : (if a.kept t.toNat = 0 then upd a.cls t.toNat (-1) else a.cls) s = a.cls s := by split; exact upd_other _ _ e; rfl
      have e2 : (if a.kept t.toNat = 0 then upd a.mr t.toNat 0 else a.mr) s = a.mr s := by split; exact upd_other _ _ e; rfl
      rw [e1, e2, upd_other _ _ e]
      exact ⟨h3, h4, h5, h6, h7, h8⟩
  · exact h
theorem Kp.set {a : Ab} {x v : Int} (h : Kp a x v) (t c : Int) : Kp (a.setA t c) x v := by
  unfold Ab.setA
  split
  · rename_i e
    obtain ⟨s, p, h1, h2, h3, h4, h5, h6, h7, h8⟩ := h
    have es : s ≠ t.toNat := by
      intro es
      unfold Ab.setE at e
      split at e
      · omega
      · rename_i hh
        have et : t = (s : Int) := by omega
        rw [et, a.clsI_at h1 h2, if_pos h3] at e
        omega
    refine ⟨s, p, h1, h2, ?_⟩
    show 0 ≤ upd a.cls t.toNat c s ∧ (p : Int) < gp (upd a.cls t.toNat c s) ∧ (upd a.tk t.toNat 0 s).testBit p = true ∧ (upd a.mr t.toNat 0 s).testBit p = true ∧ x = ga s p (upd a.cls t.toNat c s) ∧ a.wd x = v
    rw [upd_other _ _ es, upd_other _ _ es, upd_other _ _ es]
    exact ⟨h3, h4, h5, h6, h7, h8⟩
  · exact h

/-- A place that is taken anew was not taken. -/
theorem took_new {b : Ab} (g : b.Good) {s : Int} (e : b.takeE s = 0) : b.is (b.takeV s) = false := by
  obtain ⟨t, p, rfl, ef, h1, h2, h3, h4, h5, h6, h7, h8, _⟩ := g.free e
  have eV : b.takeV t = ga t p (b.cls t) := by unfold Ab.takeV; rw [if_pos e, ef, h4]
  rw [← Bool.not_eq_true, eV, Ab.is_iff g.ok]
  rintro ⟨s', p', k1, k2, k3, k4, k5, k6⟩
  obtain ⟨rfl, rfl⟩ := ga_inj g.ok h1 h2 h3 h6 k1 k2 k3 k4 k6
  rw [h7] at k5
  cases k5
theorem Kp.take {a : Ab} (g : a.Good) {x v : Int} (h : Kp a x v) {t : Int} (e : a.takeE t = 0) : Kp (a.takeA t) x v := by
  obtain ⟨u, q, rfl, ef, k1, k2, k3, k4, k5, k6, k7, k8, _⟩ := g.free e
  have eA : a.takeA u = a.take u q := by unfold Ab.takeA; rw [if_pos e, ef]; rfl
  rw [eA]
  obtain ⟨s, p, h1, h2, h3, h4, h5, h6, h7, h8⟩ := h
  refine ⟨s, p, h1, h2, h3, h4, ?_, h6, h7, ?_⟩
  · show (upd a.tk u (a.tk u ||| 2 ^ q) s).testBit p = true
    by_cases es : s = u
    · subst es; rw [upd_same, testBit_or_pow, h5]; rfl
    · rw [upd_other _ _ es]; exact h5
  · show (if ga u q (a.cls u) ≤ x ∧ x < ga u q (a.cls u) + gw (a.cls u) then 0 else a.wd x) = v
    rw [if_neg ?_]
    · exact h8
    · intro hx
      have hg : 2 ≤ gw (a.cls s) := by rcases gw_gp (a.cls s) with ⟨_, y⟩ | ⟨_, y, _⟩ <;> omega
      refine places_apart g.ok h1 h2 h3 h4 k1 k2 k3 k6 ?_ (x := x) (by rw [h7]; omega) hx
      rintro ⟨rfl, rfl⟩
      rw [k7] at h5
      cases h5
theorem Kp.mark {a : Ab} {x v : Int} (h : Kp a x v) (y : Int) : Kp (a.markA y) x v := by
  unfold Ab.markA
  split
  · obtain ⟨s, p, h1, h2, h3, h4, h5, h6, h7, h8⟩ := h
    refine ⟨s, p, h1, h2, h3, h4, h5, ?_, h7, h8⟩
    show (upd a.mr (gs y).toNat (a.mr (gs y).toNat ||| 2 ^ (a.pl y).toNat) s).testBit p = true
    by_cases es : s = (gs y).toNat
    · subst es; rw [upd_same, testBit_or_pow, h6]; rfl
    · rw [upd_other _ _ es]; exact h6
  · exact h
theorem Kp.write {a : Ab} (g : a.Good) {x v y k u : Int} (h : Kp a x v) (hw : a.inW y k = true) (hne : x ≠ y) : Kp (a.writeA y k u) x v := by
  have hx := h.is g
  unfold Ab.writeA
  rw [if_pos hw]
  unfold Ab.inW at hw
  simp only [Bool.and_eq_true, decide_eq_true_eq] at hw
  obtain ⟨s, p, h1, h2, h3, h4, h5, h6, h7, h8⟩ := h
  refine ⟨s, p, h1, h2, h3, h4, h5, h6, h7, ?_⟩
  show (if x = y + k then u else a.wd x) = v
  rw [if_neg ?_]
  · exact h8
  · have n1 := g.ok.n1
    have hgs : gs x = s := by rw [h7]; exact (ga_at (s := s) (p := p) h1 (by omega) h3 (g.ok.cr s).2 h4).2.1
    have hg : 2 ≤ gw (a.cls s) := by rcases gw_gp (a.cls s) with ⟨_, z⟩ | ⟨_, z, _⟩ <;> omega
    have := g.disj hx hw.1.1 hne (j := 0) (k := k) ⟨by omega, by rw [hgs, a.clsI_at h1 h2]; omega⟩ ⟨hw.1.2, hw.2⟩
    omega

/-- All of a list, each with 1000 and its address as its word. -/
def Kps (a : Ab) (ks : List Int) : Prop := ∀ x ∈ ks, Kp a x (1000 + x)
/-- What is taken is none of them. -/
theorem Kps.takes {l : Al} {ks : List Int} (g : l.a.Good) (h : Kps l.a ks) (n : Int) :
    Kps (l.take n).1.a ks ∧ ((l.take n).2.2 = 0 → (l.take n).1.a.is (l.take n).2.1 = true ∧ 0 < (l.take n).2.1 ∧ ∀ x ∈ ks, x ≠ (l.take n).2.1) := by
  rcases Al.take_ind (P := fun b => b.Good ∧ Kps b ks) (fun _ s h => ⟨h.1.sweepA' s, fun x hx => (h.2 x hx).sweep s⟩) (fun _ s c h => ⟨h.1.setA' s c, fun x hx => (h.2 x hx).set s c⟩) n ⟨g, h⟩ with ⟨e, _, k⟩ | ⟨e, b, t, ⟨gb, kb⟩, hb, ea, ev⟩
  · exact ⟨k, fun h0 => absurd h0 e⟩
  · rw [ea, ev]
    refine ⟨fun x hx => (kb x hx).take gb hb, fun _ => ?_⟩
    obtain ⟨t0, t1⟩ := took_is gb hb
    refine ⟨t1, t0, fun x hx hxe => ?_⟩
    have h1 := (kb x hx).is gb
    rw [hxe, took_new gb hb] at h1
    cases h1
/-- One more: marked, and written. -/
theorem Kps.keep {a : Ab} {ks : List Int} (g : a.Good) (h : Kps a ks) {x : Int} (hx : a.is x = true) (hne : ∀ y ∈ ks, y ≠ x) : (a.markA x).Good ∧ ((a.markA x).writeA x 0 (1000 + x)).Good ∧ Kps ((a.markA x).writeA x 0 (1000 + x)) (ks ++ [x]) := by
  obtain ⟨s, p, h1, h2, h3, h4, h5, h6⟩ := (Ab.is_iff g.ok x).1 hx
  have n1 := g.ok.n1
  obtain ⟨_, e1, e2, _⟩ := ga_at (s := s) (p := p) h1 (by omega) h3 (g.ok.cr s).2 h4
  rw [← h6] at e1 e2
  have epl : a.pl x = p := by unfold Ab.pl; rw [e1, a.clsI_at h1 h2, e2]
  have gm : (a.markA x).Good := by
    unfold Ab.markA; split
    · rw [e1, epl]; exact g.mark (by simpa using h5)
    · exact g
  have hm : (a.markA x).n = a.n ∧ (a.markA x).cls = a.cls ∧ (a.markA x).tk = a.tk ∧ ((a.markA x).mr s).testBit p = true := by
    unfold Ab.markA; split
    · refine ⟨rfl, rfl, rfl, ?_⟩
      rw [e1, epl]
      show (upd a.mr ((s : Int)).toNat _ s).testBit p = true
      simp only [Int.toNat_natCast]
      rw [upd_same, testBit_or_pow]; simp
    · rename_i hb
      refine ⟨rfl, rfl, rfl, ?_⟩
      unfold Ab.markB at hb
      rw [hx] at hb
      have : a.isM x = true := by simpa using hb
      unfold Ab.isM at this
      rw [e1, epl, (a.I_at h1 h2).2.2] at this
      simpa using this
  have his : (a.markA x).is x = true := (Ab.is_iff gm.ok x).2 ⟨s, p, h1, by rw [hm.1]; exact h2, by rw [hm.2.1]; exact h3, by rw [hm.2.1]; exact h4, by rw [hm.2.2.1]; exact h5, by rw [hm.2.1]; exact h6⟩
  have hg : 2 ≤ gw (a.cls s) := by rcases gw_gp (a.cls s) with ⟨_, z⟩ | ⟨_, z, _⟩ <;> omega
  have hin : (a.markA x).inW x 0 = true := by
    unfold Ab.inW
    rw [his, e1, (a.markA x).clsI_at h1 (by rw [hm.1]; exact h2), hm.2.1]
    simp
    omega
  refine ⟨gm, ?_, ?_⟩
  · unfold Ab.writeA; rw [if_pos hin]; exact gm.write _ _
  · intro y hy
    rcases List.mem_append.1 hy with hy | hy
    · exact ((h y hy).mark x).write gm hin (hne y hy)
    · obtain rfl : y = x := by simpa using hy
      unfold Ab.writeA
      rw [if_pos hin]
      refine ⟨s, p, h1, by show s < (a.markA y).n; rw [hm.1]; exact h2, by show 0 ≤ (a.markA y).cls s; rw [hm.2.1]; exact h3, by show (p : Int) < gp ((a.markA y).cls s); rw [hm.2.1]; exact h4, by show ((a.markA y).tk s).testBit p = true; rw [hm.2.2.1]; exact h5, hm.2.2.2, by show y = ga s p ((a.markA y).cls s); rw [hm.2.1]; exact h6, ?_⟩
      show (if y = y + 0 then 1000 + y else (a.markA y).wd y) = 1000 + y
      rw [if_pos (by omega)]
theorem Kps.read {a : Ab} {ks : List Int} (g : a.Good) (h : Kps a ks) {x : Int} (hx : x ∈ ks) : a.readE x 0 = 0 ∧ a.readV x 0 = 1000 + x := by
  have hk := h x hx
  have hi := hk.is g
  obtain ⟨s, p, h1, h2, h3, h4, h5, _, h6, h8⟩ := hk
  have n1 := g.ok.n1
  obtain ⟨_, e1, e2, _⟩ := ga_at (s := s) (p := p) h1 (by omega) h3 (g.ok.cr s).2 h4
  rw [← h6] at e1 e2
  have hg : 2 ≤ gw (a.cls s) := by rcases gw_gp (a.cls s) with ⟨_, z⟩ | ⟨_, z, _⟩ <;> omega
  have hin : a.inW x 0 = true := by
    unfold Ab.inW
    rw [hi, e1, a.clsI_at h1 h2]
    simp
    omega
  unfold Ab.readE Ab.readV
  rw [if_pos hin, if_pos hin, Int.add_zero]
  exact ⟨rfl, h8⟩

/-! ### how many are unswept -/
theorem unsN_le (u : Nat → Bool) : ∀ k, unsN u k ≤ k
  | 0 => Nat.le_refl _
  | k + 1 => by have := unsN_le u k; unfold unsN; split <;> omega
theorem leastU_none (u : Nat → Bool) : ∀ (k s : Nat), leastU u k s = none → ∀ t, s ≤ t → t < s + k → u t = false
  | 0, _, _, t, h1, h2 => by omega
  | k + 1, s, h, t, h1, h2 => by
    unfold leastU at h
    split at h
    · cases h
    · rename_i hu
      by_cases e : t = s
      · subst e; simpa using hu
      · exact leastU_none u k (s + 1) h t (by omega) (by omega)
theorem leastU_some (u : Nat → Bool) : ∀ (k s t : Nat), leastU u k s = some t → s ≤ t ∧ t < s + k ∧ u t = true ∧ ∀ r, s ≤ r → r < t → u r = false
  | 0, _, _, h => by cases h
  | k + 1, s, t, h => by
    unfold leastU at h
    split at h
    · rename_i hu
      injection h with h
      subst h
      exact ⟨Nat.le_refl _, by omega, hu, fun r h1 h2 => by omega⟩
    · rename_i hu
      obtain ⟨h1, h2, h3, h4⟩ := leastU_some u k (s + 1) t h
      refine ⟨by omega, by omega, h3, fun r r1 r2 => ?_⟩
      by_cases e : r = s
      · subst e; simpa using hu
      · exact h4 r (by omega) r2
theorem unsN_zero (u : Nat → Bool) : ∀ k, (∀ t, t < k → u t = false) → unsN u k = 0
  | 0, _ => rfl
  | k + 1, h => by unfold unsN; rw [unsN_zero u k (fun t ht => h t (by omega)), h k (by omega)]; rfl
theorem unsN_upd (u : Nat → Bool) {s : Nat} (hu : u s = true) : ∀ k, unsN (upd u s false) k + (if s < k then 1 else 0) = unsN u k
  | 0 => rfl
  | k + 1 => by
    have := unsN_upd u hu k
    show unsN (upd u s false) k + (if upd u s false k = true then 1 else 0) + (if s < k + 1 then 1 else 0) = unsN u k + if u k = true then 1 else 0
    by_cases e : k = s
    · subst e
      rw [if_neg (Nat.lt_irrefl _)] at this
      rw [upd_same, hu]
      simp
      omega
    · rw [upd_other _ _ e]
      by_cases h : s < k
      · rw [if_pos h] at this
        rw [if_pos (show s < k + 1 by omega)]
        omega
      · rw [if_neg h] at this
        rw [if_neg (show ¬ s < k + 1 by omega)]
        omega
end Go.Proofs.YtahhkehijokhnaaGreatDoor

/- PLAIN: taking where nothing is unswept; no Go in it. -/
namespace Go.Proofs.YtahhkehijokhnaaGreatDoor
set_option maxRecDepth 100000

def Al.Calm (l : Al) : Prop := ∀ s, l.u s = false
theorem least_of {P : Nat → Prop} (n : Nat) : P n → ∃ j, P j ∧ j ≤ n ∧ ∀ t, t < j → ¬ P t := by
  induction n using Nat.strongRecOn with
  | _ n ih =>
    intro h
    by_cases hh : ∃ m, m < n ∧ P m
    · obtain ⟨m, h1, h2⟩ := hh
      obtain ⟨j, j1, j2, j3⟩ := ih m h1 h2
      exact ⟨j, j1, by omega, j3⟩
    · exact ⟨n, h, Nat.le_refl _, fun t ht hp => hh ⟨t, ht, hp⟩⟩

section
variable {l : Al} {c : Int}
theorem Al.Calm.swp (h : l.Calm) (s : Nat) : l.swp s = l := by unfold Al.swp; rw [if_neg (by rw [h s]; decide)]
theorem toc_none (h : l.Calm) : ∀ k s, (∀ t : Nat, s ≤ t → t < s + k → l.a.clsI t = c → ¬ l.a.takeE t = 0) → Al.toc c k s l = (l, 0, false)
  | 0, _, _ => rfl
  | k + 1, s, H => by
    unfold Al.toc
    rw [h.swp s]
    split
    · rename_i hc
      rw [if_neg (H s (Nat.le_refl _) (by omega) hc)]
      exact toc_none h k (s + 1) fun t t1 t2 => H t (by omega) (by omega)
    · exact toc_none h k (s + 1) fun t t1 t2 => H t (by omega) (by omega)
theorem toc_some (h : l.Calm) {j : Nat} (hc : l.a.clsI j = c) (he : l.a.takeE j = 0) : ∀ k s, s ≤ j → j < s + k → (∀ t : Nat, s ≤ t → t < j → l.a.clsI t = c → ¬ l.a.takeE t = 0) → Al.toc c k s l = (⟨l.a.takeA j, l.u⟩, l.a.takeV j, true)
  | 0, _, h1, h2, _ => by omega
  | k + 1, s, h1, h2, H => by
    unfold Al.toc
    rw [h.swp s]
    by_cases e : s = j
    · subst e
      rw [if_pos hc, if_pos he]
    · split
      · rename_i hs
        rw [if_neg (H s (Nat.le_refl _) (by omega) hs)]
        exact toc_some h hc he k (s + 1) (by omega) (by omega) fun t t1 t2 => H t (by omega) t2
      · exact toc_some h hc he k (s + 1) (by omega) (by omega) fun t t1 t2 => H t (by omega) t2
theorem wo_none {a : Ab} : ∀ k s, (∀ t : Nat, s ≤ t → t < s + k → 0 ≤ a.clsI t) → a.wo k s = none
  | 0, _, _ => rfl
  | k + 1, s, H => by
    unfold Ab.wo
    rw [if_pos (H s (Nat.le_refl _) (by omega))]
    exact wo_none k (s + 1) fun t t1 t2 => H t (by omega) (by omega)
theorem wo_some {a : Ab} {j : Nat} (hj : ¬ 0 ≤ a.clsI j) : ∀ k s, s ≤ j → j < s + k → (∀ t : Nat, s ≤ t → t < j → 0 ≤ a.clsI t) → a.wo k s = some j
  | 0, _, h1, h2, _ => by omega
  | k + 1, s, h1, h2, H => by
    unfold Ab.wo
    by_cases e : s = j
    · subst e; rw [if_neg hj]
    · rw [if_pos (H s (Nat.le_refl _) (by omega))]
      exact wo_some hj k (s + 1) (by omega) (by omega) fun t t1 t2 => H t (by omega) t2
theorem sof_calm (h : l.Calm) : ∀ k s, Al.sof k s l = (l, none)
  | 0, _ => rfl
  | k + 1, s => by
    unfold Al.sof
    rw [if_neg (by rw [h s]; decide)]
    exact sof_calm h k (s + 1)
theorem take3_calm (h : l.Calm) : l.take3 c = (l, 0, 5) := by
  unfold Al.take3
  rw [sof_calm h]
theorem calm_upd {u : Nat → Bool} (h : ∀ s, u s = false) (s : Nat) : ∀ t, upd u s false t = false := by
  intro t
  by_cases e : t = s
  · subst e; exact upd_same _ _ _
  · rw [upd_other _ _ e]; exact h t

theorem takeE0 {a : Ab} {t : Nat} (h1 : 1 ≤ t) (h2 : t < a.n) : a.takeE t = 0 ↔ 0 ≤ a.cls t ∧ (a.tk t : Int) ≠ gf (a.cls t) := by
  unfold Ab.takeE
  rw [(a.I_at h1 h2).1, (a.I_at h1 h2).2.1]
  by_cases h : a.cls t < 0
  · rw [if_pos h]; omega
  · rw [if_neg h]
    by_cases e : (a.tk t : Int) = gf (a.cls t)
    · rw [if_pos e]; simp [e]
    · rw [if_neg e]; simp only [true_iff]; exact ⟨by omega, e⟩
theorem gf_pos {c : Int} (h0 : 0 ≤ c) (h5 : c ≤ 5) : 0 < gf c := by
  rcases cls c with h | h | h | h | h | h | h | h
  · omega
  · omega
  all_goals (subst h; decide)

/-- A span without a class gets one: its first place. -/
theorem first_ok {s : Nat} (h1 : 1 ≤ s) (h2 : s < l.a.n) (hs : l.a.cls s < 0) (h0 : 0 ≤ c) (h5 : c ≤ 5) :
    l.a.setA s c = l.a.set s c ∧ (l.a.set s c).takeE s = 0 ∧ l.first s c = (⟨(l.a.set s c).takeA s, upd l.u s false⟩, (l.a.set s c).takeV s, 0) := by
  have hE : l.a.setE s c = 0 := by
    unfold Ab.setE
    rw [if_neg (by omega), l.a.clsI_at h1 h2, if_neg (by omega)]
  have eA : l.a.setA s c = l.a.set s c := by unfold Ab.setA; rw [if_pos hE]; rfl
  have eT : (l.a.set s c).takeE s = 0 := by
    rw [takeE0 h1 (by exact h2)]
    show 0 ≤ upd l.a.cls s c s ∧ ((upd l.a.tk s 0 s : Nat) : Int) ≠ gf (upd l.a.cls s c s)
    rw [upd_same, upd_same]
    have := gf_pos h0 h5
    exact ⟨h0, by simp; omega⟩
  refine ⟨eA, eT, ?_⟩
  unfold Al.first
  rw [if_pos hE, eA, eT]

theorem gc_r (n : Int) : -1 ≤ gc n ∧ gc n ≤ 5 := by
  unfold gc
  repeat' split
  all_goals omega

/-- The way that a taking goes where nothing is unswept. -/
theorem take_ways (h : l.Calm) {n : Int} (hc : 0 ≤ gc n) :
    (∃ j : Nat, 1 ≤ j ∧ j < l.a.n ∧ l.a.clsI j = gc n ∧ l.a.takeE j = 0 ∧ l.take n = (⟨l.a.takeA j, l.u⟩, l.a.takeV j, 0)) ∨
    ((∀ t : Nat, 1 ≤ t → t < l.a.n → l.a.clsI t = gc n → ¬ l.a.takeE t = 0) ∧
      ((∃ j : Nat, 1 ≤ j ∧ j < l.a.n ∧ l.a.cls j < 0 ∧ (∀ t : Nat, 1 ≤ t → t < j → 0 ≤ l.a.cls t) ∧ l.take n = (⟨(l.a.set j (gc n)).takeA j, upd l.u j false⟩, (l.a.set j (gc n)).takeV j, 0)) ∨
       ((∀ t : Nat, 1 ≤ t → t < l.a.n → 0 ≤ l.a.cls t) ∧ l.take n = (l, 0, 5)))) := by
  have e0 : l.take n = l.takeC (gc n) := by unfold Al.take; rw [if_neg (by omega)]
  by_cases hh : ∃ j : Nat, 1 ≤ j ∧ j < l.a.n ∧ l.a.clsI j = gc n ∧ l.a.takeE j = 0
  · obtain ⟨j0, hj0⟩ := hh
    obtain ⟨j, ⟨j1, j2, j3, j4⟩, _, jl⟩ := least_of (P := fun j : Nat => 1 ≤ j ∧ j < l.a.n ∧ l.a.clsI j = gc n ∧ l.a.takeE j = 0) j0 hj0
    have ht := toc_some h j3 j4 (l.a.n - 1) 1 j1 (by omega) fun t t1 t2 t3 t4 => jl t t2 ⟨t1, by omega, t3, t4⟩
    refine Or.inl ⟨j, j1, j2, j3, j4, ?_⟩
    rw [e0]
    unfold Al.takeC
    rw [ht, if_pos rfl]
  · have ht := toc_none h (c := gc n) (l.a.n - 1) 1 fun t t1 t2 t3 t4 => hh ⟨t, t1, by omega, t3, t4⟩
    refine Or.inr ⟨fun t t1 t2 t3 t4 => hh ⟨t, t1, t2, t3, t4⟩, ?_⟩
    have e1 : l.take n = l.take2 (gc n) := by
      rw [e0]
      unfold Al.takeC
      rw [ht, if_neg (show ¬ (false : Bool) = true by decide)]
    by_cases hw : ∃ j : Nat, 1 ≤ j ∧ j < l.a.n ∧ l.a.cls j < 0
    · obtain ⟨j0, hj0⟩ := hw
      obtain ⟨j, ⟨j1, j2, j3⟩, _, jl⟩ := least_of (P := fun j : Nat => 1 ≤ j ∧ j < l.a.n ∧ l.a.cls j < 0) j0 hj0
      have hl : ∀ t : Nat, 1 ≤ t → t < j → 0 ≤ l.a.cls t := fun t t1 t2 => by
        have := jl t t2
        omega
      refine Or.inl ⟨j, j1, j2, j3, hl, ?_⟩
      have hw2 := wo_some (a := l.a) (j := j) (by rw [l.a.clsI_at j1 j2]; omega) (l.a.n - 1) 1 j1 (by omega) fun t t1 t2 => by rw [l.a.clsI_at t1 (by omega)]; exact hl t t1 t2
      rw [e1]
      unfold Al.take2
      rw [hw2]
      exact (first_ok j1 j2 j3 hc (gc_r n).2).2.2
    · have hl : ∀ t : Nat, 1 ≤ t → t < l.a.n → 0 ≤ l.a.cls t := fun t t1 t2 => by
        have : ¬ l.a.cls t < 0 := fun h => hw ⟨t, t1, t2, h⟩
        omega
      refine Or.inr ⟨hl, ?_⟩
      rw [e1]
      unfold Al.take2
      rw [wo_none (a := l.a) (l.a.n - 1) 1 fun t t1 t2 => by rw [l.a.clsI_at t1 (by omega)]; exact hl t t1 (by omega)]
      exact take3_calm h
theorem take_calm (h : l.Calm) (n : Int) : (l.take n).1.Calm := by
  by_cases hc : 0 ≤ gc n
  · rcases take_ways h hc with ⟨j, _, _, _, _, e⟩ | ⟨_, ⟨j, _, _, _, _, e⟩ | ⟨_, e⟩⟩
    · rw [e]; exact h
    · rw [e]; exact calm_upd h j
    · rw [e]; exact h
  · unfold Al.take; rw [if_pos (by omega)]; exact h

/-- A span is not full just if fewer of its places are taken than there are. -/
theorem full_pop {a : Ab} (g : a.Good) {t : Nat} (h0 : 0 ≤ a.cls t) : (a.tk t : Int) ≠ gf (a.cls t) ↔ (popF 64 (a.tk t) : Int) < gp (a.cls t) := by
  obtain ⟨q, hq, hf⟩ := gf_two h0 (g.ok.cr t).2
  have hq64 : q ≤ 64 := by have := gp_pos h0 (g.ok.cr t).2; omega
  rw [popF_cnt, hq]
  constructor
  · intro hne
    obtain ⟨f1, f2, _⟩ := free_spec (g.ok.tb t h0) h0 (g.ok.cr t).2 hne
    have hle := len_le_of_mem (l := (List.range 64).filter fun p => (a.tk t).testBit p) (m := (List.range q).erase (freeN (a.tk t))) (List.Nodup.sublist List.filter_sublist List.nodup_range) (fun x hx => by
      have hx2 := (List.mem_filter.1 hx).2
      have := g.ok.tb t h0 x hx2
      refine (List.mem_erase_of_ne ?_).2 (by rw [List.mem_range]; omega)
      rintro rfl
      rw [f2] at hx2
      cases hx2)
    rw [List.length_erase_of_mem (by rw [List.mem_range]; omega), List.length_range] at hle
    have : 0 < q := by omega
    omega
  · intro hlt he
    have e1 : a.tk t = 2 ^ q - 1 := by omega
    rw [e1] at hlt
    have e2 : ((List.range 64).filter fun p => (2 ^ q - 1).testBit p) = (List.range q).filter fun _ => true := by
      rw [← range_part q (fun _ => true) 64 hq64]
      refine List.filter_congr fun p _ => ?_
      rw [Nat.testBit_two_pow_sub_one]; simp
    rw [e2, List.filter_eq_self.2 (fun _ _ => rfl), List.length_range] at hlt
    omega
theorem take_room (g : l.a.Good) (h : l.Calm) {n : Int} (hc : 0 ≤ gc n) :
    (l.take n).2.2 = 0 ↔ ∃ s : Nat, 1 ≤ s ∧ s < l.a.n ∧ (l.a.cls s < 0 ∨ l.a.cls s = gc n ∧ (popF 64 (l.a.tk s) : Int) < gp (gc n)) := by
  rcases take_ways h hc with ⟨j, j1, j2, j3, j4, e⟩ | ⟨hn, ⟨j, j1, j2, j3, _, e⟩ | ⟨ha, e⟩⟩
  · rw [e]
    refine ⟨fun _ => ⟨j, j1, j2, Or.inr ?_⟩, fun _ => rfl⟩
    rw [l.a.clsI_at j1 j2] at j3
    obtain ⟨k1, k2⟩ := (takeE0 j1 j2).1 j4
    have := (full_pop g k1).1 k2
    rw [j3] at this
    exact ⟨j3, this⟩
  · rw [e]
    exact ⟨fun _ => ⟨j, j1, j2, Or.inl j3⟩, fun _ => rfl⟩
  · rw [e]
    refine ⟨fun h => absurd h (show ¬ (5 : Int) = 0 by decide), ?_⟩
    rintro ⟨s, s1, s2, s3 | ⟨s3, s4⟩⟩
    · have := ha s s1 s2
      omega
    · exact absurd ((takeE0 s1 s2).2 ⟨ha s s1 s2, (full_pop g (ha s s1 s2)).2 (by rw [s3]; exact s4)⟩) (hn s s1 s2 (by rw [l.a.clsI_at s1 s2]; exact s3))
end
end Go.Proofs.YtahhkehijokhnaaGreatDoor

/- PLAIN: a heap with room never refuses; what a taking keeps. (The same as the first part of CpP, with what is taken behind it.) -/
namespace Go.Proofs.YtahhkehijokhnaaGreatDoor
set_option maxRecDepth 100000
open Go.ChangeShapes Go.WideShapes Go.ChangeAt Go.RowKit Go.Maps

theorem gc_fitC {n : Int} (h1 : 1 ≤ n) (h2 : n ≤ 64) : 0 ≤ gc n ∧ n ≤ gw (gc n) := by
  obtain ⟨k, rfl⟩ : ∃ k : Nat, n = k := ⟨n.toNat, by omega⟩
  have : ∀ k : Fin 65, 1 ≤ k.1 → 0 ≤ gc (k.1 : Int) ∧ (k.1 : Int) ≤ gw (gc (k.1 : Int)) := by decide +kernel
  exact this ⟨k, by omega⟩ (by simp only; omega)
/-- What a taking keeps of a place that was taken. -/
structure Kx (a b : Ab) (x : Int) : Prop where
  is : b.is x = true
  cl : b.clsI (gs x) = a.clsI (gs x)
  wd : ∀ j, 0 ≤ j → j < gw (a.clsI (gs x)) → b.wd (x + j) = a.wd (x + j)
theorem Kx.take {a : Ab} (g : a.Good) {x : Int} (hx : a.is x = true) {t : Int} (e : a.takeE t = 0) : Kx a (a.takeA t) x := by
  obtain ⟨u, q, rfl, ef, k1, k2, k3, k4, k5, k6, k7, k8, _⟩ := g.free e
  have eA : a.takeA u = a.take u q := by unfold Ab.takeA; rw [if_pos e, ef]; rfl
  obtain ⟨s, p, e1, e2, h1, h2, _, h4, h5, h6, h7, _⟩ := g.spot hx
  rw [eA]
  refine ⟨?_, rfl, fun j j0 j1 => ?_⟩
  · have g' := g.take (s := u) (p := q) k3 k6
    refine (Ab.is_iff g'.ok x).2 ⟨s, p, h1, h2, h7, h5, ?_, h6⟩
    show (upd a.tk u (a.tk u ||| 2 ^ q) s).testBit p = true
    by_cases es : s = u
    · subst es; rw [upd_same, testBit_or_pow, h4]; rfl
    · rw [upd_other _ _ es]; exact h4
  · show (if ga u q (a.cls u) ≤ x + j ∧ x + j < ga u q (a.cls u) + gw (a.cls u) then 0 else a.wd (x + j)) = _
    rw [e1, a.clsI_at h1 h2] at j1
    refine if_neg fun hh => places_apart g.ok h1 h2 h7 h5 k1 k2 k3 k6 ?_ (x := x + j) (by rw [← h6]; omega) hh
    rintro ⟨rfl, rfl⟩
    rw [k7] at h4
    cases h4
theorem Kx.set {a : Ab} (g : a.Good) {x : Int} (hx : a.is x = true) {j : Nat} {c : Int} (j1 : 1 ≤ j) (hj : a.cls j < 0) (h0 : 0 ≤ c) (h5 : c ≤ 5) : Kx a (a.set j c) x := by
  obtain ⟨s, p, e1, e2, h1, h2, _, h4, h5', h6, h7, _⟩ := g.spot hx
  have hne : s ≠ j := fun e => by subst e; omega
  have g' := g.set (s := j) (c := c) j1 h0 h5
  have ec : (a.set j c).cls s = a.cls s := upd_other _ _ hne
  refine ⟨(Ab.is_iff g'.ok x).2 ⟨s, p, h1, h2, by rw [ec]; exact h7, by rw [ec]; exact h5', ?_, by rw [ec]; exact h6⟩, ?_, fun _ _ _ => rfl⟩
  · show (upd a.tk j 0 s).testBit p = true
    rw [upd_other _ _ hne]; exact h4
  · rw [e1, Ab.clsI_at _ h1 (show s < (a.set j c).n from h2), a.clsI_at h1 h2]; exact ec
theorem Kx.trans {a b c : Ab} {x : Int} (h : Kx a b x) (k : Kx b c x) : Kx a c x :=
  ⟨k.is, k.cl.trans h.cl, fun j j0 j1 => (k.wd j j0 (by rw [h.cl]; exact j1)).trans (h.wd j j0 j1)⟩
/-- What was taken: its words are 0. -/
structure Nx (a b : Ab) (v n : Int) : Prop where
  is : b.is v = true
  no : a.is v = false
  pos : 0 < v
  fit : n ≤ gw (b.clsI (gs v))
  zero : ∀ j, 0 ≤ j → j < gw (b.clsI (gs v)) → b.wd (v + j) = 0
theorem Nx.take {a : Ab} (g : a.Good) {t n : Int} (e : a.takeE t = 0) (hf : n ≤ gw (a.clsI t)) : Nx a (a.takeA t) (a.takeV t) n := by
  obtain ⟨p1, p2⟩ := took_is g e
  have p3 := took_new g e
  obtain ⟨u, q, rfl, ef, k1, k2, k3, k4, k5, k6, k7, k8, _⟩ := g.free e
  have eA : a.takeA u = a.take u q := by unfold Ab.takeA; rw [if_pos e, ef]; rfl
  have eV : a.takeV u = ga u q (a.cls u) := by unfold Ab.takeV; rw [if_pos e, ef, k4]
  have n1 := g.ok.n1
  obtain ⟨e1, e2, e3, e4⟩ := ga_at (s := u) (p := q) k1 (by omega) k3 (g.ok.cr u).2 k6
  have hc : (a.takeA u).clsI (gs (a.takeV u)) = a.cls u := by rw [eV, e2, eA]; exact (a.clsI_at k1 k2)
  refine ⟨p2, p3, p1, by rw [hc]; rw [a.clsI_at k1 k2] at hf; exact hf, fun j j0 j1 => ?_⟩
  rw [hc] at j1
  rw [eV, eA]
  show (if ga u q (a.cls u) ≤ ga u q (a.cls u) + j ∧ ga u q (a.cls u) + j < ga u q (a.cls u) + gw (a.cls u) then 0 else _) = (0 : Int)
  exact if_pos ⟨by omega, by omega⟩
/-- What is taken behind a taking was taken before, or is what was taken now. -/
theorem ox_take {a : Ab} (g : a.Good) {t x : Int} (e : a.takeE t = 0) (hx : (a.takeA t).is x = true) : x = a.takeV t ∨ a.is x = true := by
  obtain ⟨u, q, rfl, ef, k1, k2, k3, k4, k5, k6, k7, k8, _⟩ := g.free e
  have eA : a.takeA u = a.take u q := by unfold Ab.takeA; rw [if_pos e, ef]; rfl
  have eV : a.takeV u = ga u q (a.cls u) := by unfold Ab.takeV; rw [if_pos e, ef, k4]
  rw [eA] at hx
  obtain ⟨s, p, h1, h2, h7, h5, h4, h6⟩ := (Ab.is_iff (g.take (s := u) (p := q) k3 k6).ok x).1 hx
  have h4' : (upd a.tk u (a.tk u ||| 2 ^ q) s).testBit p = true := h4
  by_cases es : s = u
  · subst es
    rw [upd_same, testBit_or_pow] at h4'
    by_cases ep : p = q
    · subst ep; exact Or.inl (h6.trans eV.symm)
    · refine Or.inr ((Ab.is_iff g.ok x).2 ⟨s, p, h1, h2, h7, h5, ?_, h6⟩)
      simpa [ep, Ne.symm ep] using h4'
  · rw [upd_other _ _ es] at h4'
    exact Or.inr ((Ab.is_iff g.ok x).2 ⟨s, p, h1, h2, h7, h5, h4', h6⟩)
theorem ox_set {a : Ab} (g : a.Good) {x : Int} {j : Nat} {c : Int} (j1 : 1 ≤ j) (hj : a.cls j < 0) (h0 : 0 ≤ c) (h5 : c ≤ 5) (hx : (a.set j c).is x = true) : a.is x = true := by
  obtain ⟨s, p, h1, h2, h7, h5', h4, h6⟩ := (Ab.is_iff (g.set (s := j) (c := c) j1 h0 h5).ok x).1 hx
  have h4' : (upd a.tk j 0 s).testBit p = true := h4
  by_cases es : s = j
  · subst es; rw [upd_same] at h4'; simp at h4'
  · rw [upd_other _ _ es] at h4'
    have ec : (a.set j c).cls s = a.cls s := upd_other _ _ es
    rw [ec] at h7 h5' h6
    exact (Ab.is_iff g.ok x).2 ⟨s, p, h1, h2, h7, h5', h4', h6⟩
/-- A heap with room: so many spans are used at most. -/
structure Rm (al : Al) (N i : Nat) : Prop where
  good : al.a.Good
  calm : al.Calm
  n : al.a.n = N
  free : ∀ s : Nat, i < s → s < N → al.a.cls s < 0
theorem Rm.take {al : Al} {N i : Nat} (h : Rm al N i) (hi : i + 1 < N) {n : Int} (h1 : 1 ≤ n) (h2 : n ≤ 64) :
    ∃ al' v, al.take n = (al', v, 0) ∧ Rm al' N (i + 1) ∧ Nx al.a al'.a v n ∧ (∀ x, al.a.is x = true → Kx al.a al'.a x) ∧ ∀ x, al'.a.is x = true → x = v ∨ al.a.is x = true := by
  obtain ⟨f1, f2⟩ := gc_fitC h1 h2
  have cm := take_calm h.calm n
  have nn := h.n
  rcases take_ways h.calm f1 with ⟨j, j1, j2, j3, j4, e⟩ | ⟨_, ⟨j, j1, j2, j3, j4, e⟩ | ⟨j1, _⟩⟩
  · rw [e] at cm
    refine ⟨_, _, e, ⟨h.good.takeA _, cm, (Ab.takeA_n _ _).trans nn, fun s s1 s2 => ?_⟩, Nx.take h.good j4 (by rw [j3]; exact f2), fun x hx => Kx.take h.good hx j4, fun x hx => ox_take h.good j4 hx⟩
    have : (al.a.takeA j).cls = al.a.cls := by unfold Ab.takeA; split <;> rfl
    show (al.a.takeA j).cls s < 0
    rw [this]
    exact h.free s (by omega) s2
  · rw [e] at cm
    obtain ⟨_, t2, _⟩ := first_ok (l := al) j1 j2 j3 f1 (gc_r n).2
    have g' := h.good.set (s := j) (c := gc n) j1 f1 (gc_r n).2
    have hji : j ≤ i + 1 := by
      rcases Nat.lt_or_ge (i + 1) j with hh | hh
      · have := j4 (i + 1) (by omega) hh
        have := h.free (i + 1) (by omega) (by omega)
        omega
      · exact hh
    refine ⟨_, _, e, ⟨g'.takeA _, cm, (Ab.takeA_n _ _).trans nn, fun s s1 s2 => ?_⟩, ?_, fun x hx => (Kx.set h.good hx j1 j3 f1 (gc_r n).2).trans (Kx.take g' (Kx.set h.good hx j1 j3 f1 (gc_r n).2).is t2), fun x hx => (ox_take g' t2 hx).imp id (ox_set h.good j1 j3 f1 (gc_r n).2)⟩
    · have : ((al.a.set j (gc n)).takeA j).cls = (al.a.set j (gc n)).cls := by unfold Ab.takeA; split <;> rfl
      show ((al.a.set j (gc n)).takeA j).cls s < 0
      rw [this]
      show upd al.a.cls j (gc n) s < 0
      rw [upd_other _ _ (by omega)]
      exact h.free s (by omega) s2
    · have hc : (al.a.set j (gc n)).clsI j = gc n := by rw [Ab.clsI_at _ j1 (show j < (al.a.set j (gc n)).n from j2)]; exact upd_same _ _ _
      have N1 := Nx.take g' t2 (n := n) (by rw [hc]; exact f2)
      refine ⟨N1.is, ?_, N1.pos, N1.fit, N1.zero⟩
      cases hv : al.a.is ((al.a.set j (gc n)).takeV j)
      · rfl
      · have := (Kx.set h.good hv j1 j3 f1 (gc_r n).2).is
        rw [N1.no] at this
        cases this
  · have := j1 (i + 1) (by omega) (by omega)
    have := h.free (i + 1) (by omega) (by omega)
    omega
theorem Rm.write {al : Al} {N i : Nat} (h : Rm al N i) (x k v : Int) : Rm ⟨al.a.writeA x k v, al.u⟩ N i := by
  refine ⟨h.good.writeA x k v, h.calm, (Ab.writeA_n _ _ _ _).trans h.n, fun s s1 s2 => ?_⟩
  have : (al.a.writeA x k v).cls = al.a.cls := by unfold Ab.writeA; split <;> rfl
  show (al.a.writeA x k v).cls s < 0
  rw [this]
  exact h.free s s1 s2
theorem rm0 {N : Nat} (h8 : 8 ≤ N) (h5 : N ≤ 512) : Rm (al0 N) N 0 := ⟨ab0_good h8 h5, fun _ => rfl, rfl, fun _ _ _ => by show (-1 : Int) < 0; decide⟩
end Go.Proofs.YtahhkehijokhnaaGreatDoor

/- PLAIN: the things that HeapPlays makes, as they lie in a heap with room. -/
namespace Go.Proofs.YtahhkehijokhnaaGreatDoor
set_option maxRecDepth 100000
open Go.ChangeShapes Go.WideShapes Go.ChangeAt Go.RowKit Go.Maps

/-- A thing as the law keeps it; nm: its shape's number. -/
structure Tg where
  ad : Int
  nm : Nat
  s : Hd.Shp
  wd : Nat
  v : List Int
/-- It lies so in the heap. -/
structure Th (al : Al) (l : List Hd.Shp) (t : Tg) : Prop where
  is : al.a.is t.ad = true
  pos : 0 < t.ad
  fit : (t.wd : Int) ≤ gw (al.a.clsI (gs t.ad))
  w1 : 1 ≤ t.wd
  w2 : t.wd ≤ 64
  sh : l[t.nm]? = some t.s
  nb : t.nm ≤ 60000
  kd : 0 ≤ t.s.k ∧ t.s.k ≤ 3
  hd : al.a.wd t.ad = Hd.hw (t.wd : Int) t.s.k (t.nm : Int)
  ln : t.v.length = t.wd - 1
  vs : ∀ (j : Nat) x, t.v[j]? = some x → al.a.wd (t.ad + ((j : Int) + 1)) = x
section
variable {al al' : Al} {l : List Hd.Shp} {t u : Tg}
theorem of_none {a : Int} (h : al.a.is a = false) : ofP al l a = none := by
  unfold ofP
  refine if_neg ?_
  unfold Ab.readE Ab.inW
  rw [h]
  simp
theorem Th.hok (h : Th al l t) : Hd.hokB (t.wd : Int) t.s.k (t.nm : Int) = true := by
  have h1 := h.w1
  have h2 := h.w2
  have h3 := h.nb
  have h4 := h.kd
  unfold Hd.hokB Hd.inB
  simp
  omega
theorem Th.inw (h : Th al l t) {j : Int} (h0 : 0 ≤ j) (h1 : j < t.wd) : al.a.inW t.ad j = true := by
  unfold Ab.inW
  have := h.fit
  simp [h.is, h0]
  omega
theorem Th.of (h : Th al l t) : ofP al l t.ad = some ((t.wd : Int), t.s.k, (t.nm : Int), t.s) := by
  have hi := h.inw (j := 0) (by omega) (by have := h.w1; omega)
  have e1 : al.a.readE t.ad 0 = 0 := by unfold Ab.readE; rw [if_pos hi]
  have e2 : al.a.readV t.ad 0 = Hd.hw (t.wd : Int) t.s.k (t.nm : Int) := by unfold Ab.readV; rw [if_pos hi, Int.add_zero]; exact h.hd
  obtain ⟨u0, u1, u2, _, _⟩ := Hd.hw_up h.hok
  unfold ofP
  rw [if_pos e1, e2, if_pos (Hd.hw_uok h.hok), u2, u0, u1, Int.toNat_natCast, h.sh]
theorem Th.rd (h : Th al l t) {f : Nat} (hf : f + 1 < t.wd) (tr : Int) : ∃ x, t.v[f]? = some x ∧ rdT al t.ad (f : Int) tr = (x, 0) := by
  have hl : f < t.v.length := by have := h.ln; omega
  have e : wrap64 ((f : Int) + 1) = (f : Int) + 1 := by have := h.w2; unfold wrap64; omega
  have hi := h.inw (j := (f : Int) + 1) (by omega) (by omega)
  refine ⟨t.v[f], List.getElem?_eq_getElem hl, ?_⟩
  unfold rdT
  rw [e, if_pos (by unfold Ab.readE; rw [if_pos hi])]
  unfold Ab.readV
  rw [if_pos hi, h.vs f _ (List.getElem?_eq_getElem hl)]
theorem Th.kx (h : Th al l t) (k : Kx al.a al'.a t.ad) : Th al' l t := by
  have h1 := h.w1
  have hf := h.fit
  refine ⟨k.is, h.pos, by rw [k.cl]; exact hf, h.w1, h.w2, h.sh, h.nb, h.kd, ?_, h.ln, fun j x hj => ?_⟩
  · have := k.wd 0 (by omega) (by omega)
    rw [Int.add_zero] at this
    exact this.trans h.hd
  · have hl := (List.getElem?_eq_some_iff.1 hj).1
    have := h.ln
    exact (k.wd ((j : Int) + 1) (by omega) (by omega)).trans (h.vs j x hj)
theorem Th.more (h : Th al l t) (s : Hd.Shp) : Th al (Hd.addS l s) t := by
  refine ⟨h.is, h.pos, h.fit, h.w1, h.w2, ?_, h.nb, h.kd, h.hd, h.ln, h.vs⟩
  unfold Hd.addS
  split
  · rw [List.getElem?_append_left (List.getElem?_eq_some_iff.1 h.sh).1]; exact h.sh
  · exact h.sh
/-- Another's word is written. -/
theorem Th.oth (g : al.a.Good) (h : Th al l t) (k : Th al l u) (hne : u.ad ≠ t.ad) {m : Int} (m0 : 0 ≤ m) (m1 : m < u.wd) (v : Int) : Th ⟨al.a.writeA u.ad m v, al.u⟩ l t := by
  have e : al.a.writeA u.ad m v = al.a.write (u.ad + m) v := if_pos (k.inw m0 m1)
  have o : ∀ j : Int, 0 ≤ j → j < t.wd → (al.a.writeA u.ad m v).wd (t.ad + j) = al.a.wd (t.ad + j) := fun j j0 j1 => by
    rw [e]
    exact if_neg (g.disj h.is k.is (Ne.symm hne) ⟨j0, by have := h.fit; omega⟩ ⟨m0, by have := k.fit; omega⟩)
  have ei : (al.a.writeA u.ad m v).is t.ad = al.a.is t.ad := by rw [e]; rfl
  have ec : (al.a.writeA u.ad m v).clsI (gs t.ad) = al.a.clsI (gs t.ad) := by rw [e]; rfl
  have h1 := h.w1
  refine ⟨ei.trans h.is, h.pos, by show _ ≤ gw ((al.a.writeA u.ad m v).clsI (gs t.ad)); rw [ec]; exact h.fit, h.w1, h.w2, h.sh, h.nb, h.kd, ?_, h.ln, fun j x hj => ?_⟩
  · have := o 0 (by omega) (by omega)
    rw [Int.add_zero] at this
    exact this.trans h.hd
  · have hl := (List.getElem?_eq_some_iff.1 hj).1
    have := h.ln
    exact (o ((j : Int) + 1) (by omega) (by omega)).trans (h.vs j x hj)
/-- A word of its own is written. -/
theorem Th.put (h : Th al l t) {f : Nat} (hf : f + 1 < t.wd) (v : Int) : Th ⟨al.a.writeA t.ad ((f : Int) + 1) v, al.u⟩ l { t with v := t.v.set f v } := by
  have e : al.a.writeA t.ad ((f : Int) + 1) v = al.a.write (t.ad + ((f : Int) + 1)) v := if_pos (h.inw (by omega) (by omega))
  have ei : (al.a.writeA t.ad ((f : Int) + 1) v).is t.ad = al.a.is t.ad := by rw [e]; rfl
  have ec : (al.a.writeA t.ad ((f : Int) + 1) v).clsI (gs t.ad) = al.a.clsI (gs t.ad) := by rw [e]; rfl
  have o : ∀ y, (al.a.writeA t.ad ((f : Int) + 1) v).wd y = if y = t.ad + ((f : Int) + 1) then v else al.a.wd y := fun y => by rw [e]; rfl
  refine ⟨ei.trans h.is, h.pos, by show _ ≤ gw ((al.a.writeA t.ad ((f : Int) + 1) v).clsI (gs t.ad)); rw [ec]; exact h.fit, h.w1, h.w2, h.sh, h.nb, h.kd, ?_, by simpa using h.ln, fun j x hj => ?_⟩
  · show (al.a.writeA t.ad ((f : Int) + 1) v).wd t.ad = _
    rw [o, if_neg (by omega)]
    exact h.hd
  · show (al.a.writeA t.ad ((f : Int) + 1) v).wd (t.ad + ((j : Int) + 1)) = x
    rw [o]
    have hj' : (t.v.set f v)[j]? = some x := hj
    by_cases ej : f = j
    · subst ej
      rw [List.getElem?_set_self (by have := h.ln; omega)] at hj'
      rw [if_pos rfl]
      exact Option.some.inj hj'
    · rw [List.getElem?_set_ne ej] at hj'
      rw [if_neg (by omega)]
      exact h.vs j x hj'
/-- What was just made. -/
theorem Th.new {a0 : Ab} {v : Int} {wd nm : Nat} {s : Hd.Shp} (hN : Nx a0 al.a v (wd : Int)) (w1 : 1 ≤ wd) (w2 : wd ≤ 64) (sh : l[nm]? = some s) (nb : nm ≤ 60000) (kd : 0 ≤ s.k ∧ s.k ≤ 3) :
    Th ⟨al.a.writeA v 0 (Hd.pkV (wd : Int) s.k (nm : Int)), al.u⟩ l ⟨v, nm, s, wd, List.replicate (wd - 1) 0⟩ := by
  have hok : Hd.hokB (wd : Int) s.k (nm : Int) = true := by
    unfold Hd.hokB Hd.inB
    simp
    omega
  have epk : Hd.pkV (wd : Int) s.k (nm : Int) = Hd.hw (wd : Int) s.k (nm : Int) := if_pos hok
  have hfit := hN.fit
  have hin : al.a.inW v 0 = true := by unfold Ab.inW; simp [hN.is]; omega
  have e : al.a.writeA v 0 (Hd.pkV (wd : Int) s.k (nm : Int)) = al.a.write (v + 0) (Hd.hw (wd : Int) s.k (nm : Int)) := by rw [epk]; exact if_pos hin
  have o : ∀ y, (al.a.writeA v 0 (Hd.pkV (wd : Int) s.k (nm : Int))).wd y = if y = v + 0 then Hd.hw (wd : Int) s.k (nm : Int) else al.a.wd y := fun y => by rw [e]; rfl
  have ei : (al.a.writeA v 0 (Hd.pkV (wd : Int) s.k (nm : Int))).is v = al.a.is v := by rw [e]; rfl
  have ec : (al.a.writeA v 0 (Hd.pkV (wd : Int) s.k (nm : Int))).clsI (gs v) = al.a.clsI (gs v) := by rw [e]; rfl
  refine ⟨ei.trans hN.is, hN.pos, by show _ ≤ gw ((al.a.writeA v 0 _).clsI (gs v)); rw [ec]; exact hN.fit, w1, w2, sh, nb, kd, ?_, by simp, fun j x hj => ?_⟩
  · show (al.a.writeA v 0 _).wd v = _
    rw [o, if_pos (by omega)]
  · show (al.a.writeA v 0 _).wd (v + ((j : Int) + 1)) = x
    have hl := (List.getElem?_eq_some_iff.1 hj).1
    have hj' : (List.replicate (wd - 1) (0 : Int))[j]? = some x := hj
    have hl' : j < wd - 1 := by simpa using hl
    rw [List.getElem?_replicate, if_pos hl'] at hj'
    rw [o, if_neg (by omega), hN.zero ((j : Int) + 1) (by omega) (by omega)]
    exact Option.some.inj hj'
end
/-- All the things: just these are there. -/
structure Ts (al : Al) (l : List Hd.Shp) (ts : List Tg) : Prop where
  all : ∀ (k : Nat) t, ts[k]? = some t → Th al l t
  ne : ∀ (i j : Nat) t u, ts[i]? = some t → ts[j]? = some u → t.ad = u.ad → i = j
  only : ∀ x, al.a.is x = true → ∃ (k : Nat) (t : Tg), ts[k]? = some t ∧ t.ad = x
section
variable {al al' : Al} {l : List Hd.Shp} {ts : List Tg}
theorem Ts.nil (N : Nat) (l : List Hd.Shp) (h8 : 8 ≤ N) (h5 : N ≤ 512) : Ts (al0 N) l [] := by
  refine ⟨fun k t h => by simp at h, fun i j t u h => by simp at h, fun x hx => ?_⟩
  obtain ⟨s, p, _, _, h3, _⟩ := (Ab.is_iff (ab0_good h8 h5).ok x).1 hx
  have : (ab0 N).cls s = -1 := rfl
  omega
theorem Ts.more (h : Ts al l ts) (s : Hd.Shp) : Ts al (Hd.addS l s) ts := ⟨fun k t hk => (h.all k t hk).more s, h.ne, h.only⟩
theorem Ts.add {v : Int} {wd nm : Nat} {s : Hd.Shp} (h : Ts al l ts) (hN : Nx al.a al'.a v (wd : Int)) (g : al'.a.Good) (hK : ∀ x, al.a.is x = true → Kx al.a al'.a x) (hO : ∀ x, al'.a.is x = true → x = v ∨ al.a.is x = true) (w1 : 1 ≤ wd) (w2 : wd ≤ 64) (sh : l[nm]? = some s) (nb : nm ≤ 60000) (kd : 0 ≤ s.k ∧ s.k ≤ 3) :
    Ts ⟨al'.a.writeA v 0 (Hd.pkV (wd : Int) s.k (nm : Int)), al'.u⟩ l (ts ++ [⟨v, nm, s, wd, List.replicate (wd - 1) 0⟩]) := by
  have T := Th.new hN w1 w2 sh nb kd
  have hin : al'.a.inW v 0 = true := by
    have := hN.fit
    unfold Ab.inW; simp [hN.is]; omega
  have e : al'.a.writeA v 0 (Hd.pkV (wd : Int) s.k (nm : Int)) = al'.a.write (v + 0) (Hd.pkV (wd : Int) s.k (nm : Int)) := if_pos hin
  have hold : ∀ (k : Nat) t, ts[k]? = some t → t.ad ≠ v ∧ Th ⟨al'.a.writeA v 0 (Hd.pkV (wd : Int) s.k (nm : Int)), al'.u⟩ l t := fun k t hk => by
    have ht := h.all k t hk
    have hne : t.ad ≠ v := fun ee => by
      have a1 := ht.is
      rw [ee, hN.no] at a1
      cases a1
    have h2 := ht.kx (hK _ ht.is)
    refine ⟨hne, ?_⟩
    have o : ∀ j : Int, 0 ≤ j → j < t.wd → (al'.a.writeA v 0 (Hd.pkV (wd : Int) s.k (nm : Int))).wd (t.ad + j) = al'.a.wd (t.ad + j) := fun j j0 j1 => by
      rw [e]
      exact if_neg (g.disj h2.is hN.is hne ⟨j0, by have := h2.fit; omega⟩ ⟨by omega, by have := hN.fit; omega⟩)
    refine h2.kx (al' := ⟨al'.a.writeA v 0 (Hd.pkV (wd : Int) s.k (nm : Int)), al'.u⟩) ⟨by show (al'.a.writeA v 0 _).is t.ad = true; rw [e]; exact h2.is, by show (al'.a.writeA v 0 _).clsI (gs t.ad) = _; rw [e]; rfl, fun j j0 j1 => ?_⟩
    show (al'.a.writeA v 0 _).wd (t.ad + j) = al'.a.wd (t.ad + j)
    rw [e]
    exact if_neg (g.disj h2.is hN.is hne ⟨j0, j1⟩ ⟨by omega, by have := hN.fit; omega⟩)
  have at_ : ∀ (k : Nat) t, (ts ++ [(⟨v, nm, s, wd, List.replicate (wd - 1) 0⟩ : Tg)])[k]? = some t → ts[k]? = some t ∨ (k = ts.length ∧ t = ⟨v, nm, s, wd, List.replicate (wd - 1) 0⟩) := fun k t hk => by
    rcases Nat.lt_or_ge k ts.length with hl | hl
    · rw [List.getElem?_append_left hl] at hk; exact Or.inl hk
    · rw [List.getElem?_append_right hl] at hk
      have hz : k - ts.length = 0 := by
        have := (List.getElem?_eq_some_iff.1 hk).1
        simp at this
        omega
      rw [hz] at hk
      simp at hk
      exact Or.inr ⟨by omega, hk.symm⟩
  refine ⟨fun k t hk => ?_, fun i j t u hi hj hu => ?_, fun x hx => ?_⟩
  · rcases at_ k t hk with hk | ⟨_, rfl⟩
    · exact (hold k t hk).2
    · exact T
  · rcases at_ i t hi with hi | ⟨e1, rfl⟩ <;> rcases at_ j u hj with hj | ⟨e2, rfl⟩
    · exact h.ne i j t u hi hj hu
    · exact absurd hu (hold i t hi).1
    · exact absurd hu.symm (hold j u hj).1
    · rw [e1, e2]
  · have hx' : al'.a.is x = true := by
      have h1 : (al'.a.writeA v 0 (Hd.pkV (wd : Int) s.k (nm : Int))).is x = true := hx
      rw [e] at h1
      exact h1
    rcases hO x hx' with rfl | ho
    · exact ⟨ts.length, ⟨x, nm, s, wd, List.replicate (wd - 1) 0⟩, by simp, rfl⟩
    · obtain ⟨k, t, hk, ht⟩ := h.only x ho
      exact ⟨k, t, by rw [List.getElem?_append_left (List.getElem?_eq_some_iff.1 hk).1]; exact hk, ht⟩
/-- A word of a thing is written. -/
theorem Ts.put (h : Ts al l ts) (g : al.a.Good) {k : Nat} {t : Tg} (hk : ts[k]? = some t) {f : Nat} (hf : f + 1 < t.wd) (v : Int) : Ts ⟨al.a.writeA t.ad ((f : Int) + 1) v, al.u⟩ l (ts.set k { t with v := t.v.set f v }) := by
  have ht := h.all k t hk
  have hl := (List.getElem?_eq_some_iff.1 hk).1
  have e : al.a.writeA t.ad ((f : Int) + 1) v = al.a.write (t.ad + ((f : Int) + 1)) v := if_pos (ht.inw (by omega) (by omega))
  have at_ : ∀ (i : Nat) u, (ts.set k { t with v := t.v.set f v })[i]? = some u → (i = k ∧ u = { t with v := t.v.set f v }) ∨ (i ≠ k ∧ ts[i]? = some u) := fun i u hi => by
    by_cases ei : k = i
    · subst ei
      rw [List.getElem?_set_self hl] at hi
      exact Or.inl ⟨rfl, (Option.some.inj hi).symm⟩
    · rw [List.getElem?_set_ne ei] at hi
      exact Or.inr ⟨Ne.symm ei, hi⟩
  refine ⟨fun i u hi => ?_, fun i j u u' hi hj hu => ?_, fun x hx => ?_⟩
  · rcases at_ i u hi with ⟨rfl, rfl⟩ | ⟨hne, hi⟩
    · exact ht.put hf v
    · exact (h.all i u hi).oth g ht (fun ee => hne (h.ne i k u t hi hk ee.symm)) (by omega) (by omega) v
  · rcases at_ i u hi with ⟨e1, e1'⟩ | ⟨h1, hi'⟩ <;> rcases at_ j u' hj with ⟨e2, e2'⟩ | ⟨h2, hj'⟩
    · rw [e1, e2]
    · rw [e1'] at hu
      exact absurd (h.ne _ _ _ _ hk hj' hu) (Ne.symm h2)
    · rw [e2'] at hu
      exact absurd (h.ne _ _ _ _ hi' hk hu) h1
    · exact h.ne i j u u' hi' hj' hu
  · have hx' : al.a.is x = true := by
      have h1 : (al.a.writeA t.ad ((f : Int) + 1) v).is x = true := hx
      rw [e] at h1
      exact h1
    obtain ⟨i, u, hi, hu⟩ := h.only x hx'
    by_cases ei : k = i
    · subst ei
      rw [hk] at hi
      obtain rfl := Option.some.inj hi
      exact ⟨k, _, List.getElem?_set_self hl, hu⟩
    · exact ⟨i, u, by rw [List.getElem?_set_ne ei]; exact hi, hu⟩
theorem Ts.none (h : Ts al l ts) {a : Int} (ha : ∀ (k : Nat) t, ts[k]? = some t → t.ad ≠ a) : ofP al l a = .none := by
  refine of_none ?_
  cases e : al.a.is a
  · rfl
  · obtain ⟨k, t, hk, ht⟩ := h.only a e
    exact absurd ht (ha k t hk)
end
end Go.Proofs.YtahhkehijokhnaaGreatDoor

/- PLAIN: what is answered of a thing, as HeapPlays asks it. -/
namespace Go.Proofs.YtahhkehijokhnaaGreatDoor
set_option maxRecDepth 100000
open Go.ChangeShapes Go.WideShapes Go.ChangeAt Go.RowKit Go.Maps

/-- A field of it may be read so. -/
def mayF (t : Tg) (f : Int) (ad : Bool) : Bool := decide (t.s.k = 0) && decide (0 ≤ f) && decide (f < t.s.f) && decide (f ≤ (t.wd : Int) - 2) && (t.s.m.testBit f.toNat == ad)
/-- An element of it may be asked for so. -/
def mayE (t : Tg) (ad : Bool) : Bool := decide (t.s.k = 1) && (decide (t.s.m = 1) == ad)
section
variable {al : Al} {l : List Hd.Shp} {t : Tg}
theorem Th.getY (h : Th al l t) {f : Int} {ad : Bool} (hm : mayF t f ad = true) : ∃ x, t.v[f.toNat]? = some x ∧ f.toNat + 1 < t.wd ∧ ((f.toNat : Nat) : Int) = f ∧ getT al l t.ad f ad = (x, 0) := by
  unfold mayF at hm
  simp only [Bool.and_eq_true, decide_eq_true_eq, beq_iff_eq] at hm
  obtain ⟨⟨⟨⟨h1, h2⟩, h3⟩, h4⟩, h5⟩ := hm
  have hw := h.w1
  obtain ⟨n, rfl⟩ : ∃ n : Nat, f = n := ⟨f.toNat, by omega⟩
  rw [Int.toNat_natCast] at h5 ⊢
  obtain ⟨x, hx, hr⟩ := h.rd (f := n) (by omega) 1
  refine ⟨x, hx, by omega, rfl, ?_⟩
  unfold getT
  rw [h.of]
  refine (if_pos ⟨h1, ?_, ?_⟩).trans hr
  · unfold hfB; simp; omega
  · unfold Hd.holdsB
    rw [if_neg (by omega), if_pos (Or.inl h1), Int.toNat_natCast]
    exact h5
theorem Th.getN (h : Th al l t) {f : Int} {ad : Bool} (hm : mayF t f ad = false) : getT al l t.ad f ad = (0, 1) := by
  unfold getT
  rw [h.of]
  refine if_neg ?_
  rintro ⟨h1, h2, h3⟩
  unfold hfB at h2
  simp only [Bool.and_eq_true, decide_eq_true_eq] at h2
  obtain ⟨h4, h5, h6⟩ := h2
  unfold Hd.holdsB at h3
  rw [if_neg (by omega), if_pos (Or.inl h1)] at h3
  have : mayF t f ad = true := by
    unfold mayF
    simp only [Bool.and_eq_true, decide_eq_true_eq, beq_iff_eq]
    exact ⟨⟨⟨⟨h1, h4⟩, h5⟩, by omega⟩, h3⟩
  rw [hm] at this
  cases this
theorem bit_one {m : Nat} (h : m ≤ 1) : m.testBit 0 = decide (m = 1) := by
  rcases Nat.lt_or_ge m 1 with h1 | h1
  · obtain rfl : m = 0 := by omega
    rfl
  · obtain rfl : m = 1 := by omega
    rfl
theorem Th.holds1 (h1 : t.s.k = 1) (hg : t.s.good = true) : Hd.holdsB t.s.k t.s.m 0 2 = decide (t.s.m = 1) := by
  have hm : t.s.m ≤ 1 := by
    unfold Hd.Shp.good Hd.goodB at hg
    rw [h1, if_neg (by omega), if_pos (by omega)] at hg
    simp at hg
    exact hg.2
  unfold Hd.holdsB
  rw [if_neg (by omega), h1, if_neg (by omega), if_pos rfl]
  exact bit_one hm
theorem Th.atN (h : Th al l t) (hg : t.s.good = true) {i : Int} {ad : Bool} (hm : mayE t ad = false) : atT al l t.ad i ad = (0, 1) := by
  unfold atT
  rw [h.of]
  refine if_neg ?_
  rintro ⟨h1, h2⟩
  rw [Th.holds1 h1 hg] at h2
  have : mayE t ad = true := by unfold mayE; simp only [Bool.and_eq_true, decide_eq_true_eq, beq_iff_eq]; exact ⟨h1, h2⟩
  rw [hm] at this
  cases this
theorem Th.atO (h : Th al l t) (hg : t.s.good = true) {i : Int} {ad : Bool} (hm : mayE t ad = true) (hi : i < 0 ∨ (t.wd : Int) - 2 < i) : atT al l t.ad i ad = (0, 2) := by
  unfold mayE at hm
  simp only [Bool.and_eq_true, decide_eq_true_eq, beq_iff_eq] at hm
  unfold atT
  rw [h.of]
  refine (if_pos ⟨hm.1, by rw [Th.holds1 hm.1 hg]; exact hm.2⟩).trans ?_
  exact if_pos (by omega)
theorem Th.atY (h : Th al l t) (hg : t.s.good = true) {i : Nat} {ad : Bool} (hm : mayE t ad = true) (hi : i + 1 < t.wd) : ∃ x, t.v[i]? = some x ∧ atT al l t.ad (i : Int) ad = (x, 0) := by
  unfold mayE at hm
  simp only [Bool.and_eq_true, decide_eq_true_eq, beq_iff_eq] at hm
  obtain ⟨x, hx, hr⟩ := h.rd hi 2
  refine ⟨x, hx, ?_⟩
  unfold atT
  rw [h.of]
  refine (if_pos ⟨hm.1, by rw [Th.holds1 hm.1 hg]; exact hm.2⟩).trans ?_
  exact (if_neg (by omega)).trans hr
theorem Th.lenY (h : Th al l t) (h1 : t.s.k = 1) : lenT al l t.ad = ((t.wd : Int) - 1, 0) := by
  unfold lenT
  rw [h.of]
  exact if_pos h1
theorem Th.lenN (h : Th al l t) (h1 : t.s.k ≠ 1) : lenT al l t.ad = (0, 1) := by
  unfold lenT
  rw [h.of]
  exact if_neg h1
theorem none_T {a : Int} (h : ofP al l a = none) : (∀ f ad, getT al l a f ad = (0, 1)) ∧ (∀ f ad, atT al l a f ad = (0, 1)) ∧ lenT al l a = (0, 1) := by
  refine ⟨fun f ad => ?_, fun f ad => ?_, ?_⟩
  · unfold getT; rw [h]
  · unfold atT; rw [h]
  · unfold lenT; rw [h]
end
end Go.Proofs.YtahhkehijokhnaaGreatDoor

/- A view of a heap, whatever its collector does. -/
namespace Go.Proofs.YtahhkehijokhnaaGreatDoor
set_option maxRecDepth 100000
open Go.ChangeShapes Go.WideShapes Go.ChangeAt Go.RowKit Go.Maps Go.Deep

/-- What a call turns: blocks of the heap's own (o), and it may have more of them then (o'), new ones. -/
structure Fr (o o' : Nat → Prop) (w w' : World) : Prop where
  size : w.heap.size ≤ w'.heap.size
  kept : ∀ d, d < w.heap.size → ¬ o d → w'.heap[d]? = w.heap[d]?
  more : ∀ d, o' d → o d ∨ w.heap.size ≤ d
section
variable {o o1 o2 : Nat → Prop} {w w1 w2 : World}
theorem Fr.of_G (g : G w w1) : Fr o o w w1 := ⟨g.size, fun d hd _ => g.block d hd, fun _ h => Or.inl h⟩
theorem Fr.trans (h : Fr o o1 w w1) (k : Fr o1 o2 w1 w2) : Fr o o2 w w2 := by
  refine ⟨Nat.le_trans h.size k.size, fun d hd ho => (k.kept d (Nat.lt_of_lt_of_le hd h.size) (fun h1 => ?_)).trans (h.kept d hd ho), fun d hd => ?_⟩
  · rcases h.more d h1 with e | e
    · exact ho e
    · omega
  · rcases k.more d hd with e | e
    · exact h.more d e
    · exact Or.inr (Nat.le_trans h.size e)
theorem Fr.g (h : Fr o o1 w w1) (k : G w1 w2) : Fr o o1 w w2 := h.trans (Fr.of_G k)
theorem Fr.cell (h : Fr o o1 w w1) {b i : Nat} {v : Value} (hb : b < w.heap.size) (ho : ¬ o b) (hc : w.cell? ⟨b, i, none⟩ = some v) : w1.cell? ⟨b, i, none⟩ = some v :=
  (World.cell?_of_block (a := ⟨b, i, none⟩) (h.kept b hb ho)).trans hc
end
/-- A view of a heap: V: its arena and allocator are al, g: what else is known; own: its blocks. -/
structure HV {γ : Type} (V : World → Al → γ → Prop) (own : γ → Nat → Prop) (hb cb ab : Nat) (l : List Hd.Shp) : Prop where
  of_ : ∀ w al g a, V w al g → Calls Tryz.prog 12 #[.pointer (some ⟨hb, 0, none⟩), .int .i64 a] w fun e w' => e = .returned (ofV (ofP al l a)) ∧ G w w'
  gr : ∀ w w' al g, V w al g → G w w' → V w' al g
  lt : ∀ w al g, V w al g → ∀ d, own g d → d < w.heap.size
  cyc : ∀ w al g, V w al g → Calls Tryz.prog 18 #[.pointer (some ⟨hb, 0, none⟩)] w fun e w' => e = .returned (.pointer (some ⟨cb, 0, none⟩)) ∧ w' = w
  arena : ∀ w al g, V w al g → Calls Tryz.prog 29 #[.pointer (some ⟨cb, 0, none⟩)] w fun e w' => e = .returned (.pointer (some ⟨ab, 0, none⟩)) ∧ w' = w
  read : ∀ w al g a i, V w al g → Calls Tryz.prog 33 #[.pointer (some ⟨ab, 0, none⟩), .int .i64 a, .int .i64 i] w fun e w' => e = .returned (.tuple #[.int .i64 (al.a.readV a i), .int .i64 (al.a.readE a i)]) ∧ G w w'
  write : ∀ w al g a i v, V w al g → Calls Tryz.prog 30 #[.pointer (some ⟨ab, 0, none⟩), .int .i64 a, .int .i64 i, .int .i64 v] w fun e w' => e = .returned (.int .i64 (al.a.readE a i)) ∧ V w' ⟨al.a.writeA a i v, al.u⟩ g ∧ Fr (own g) (own g) w w'
  fit : ∀ s ∈ l, s.m < 18446744073709551616
/-- What a Barrier does: Pg: what is known of the rest then. -/
def BarC {γ : Type} (V : World → Al → γ → Prop) (own : γ → Nat → Prop) (cb : Nat) (al : Al) (g : γ) (old v id : Int) (al2 : Al) (Pg : γ → Prop) : Prop :=
  ∀ y, V y al g → Calls Tryz.prog 53 #[.pointer (some ⟨cb, 0, none⟩), .int .i64 old, .int .i64 v, .int .i64 id] y fun e w' => e = .returned (.tuple #[]) ∧ ∃ g2, Pg g2 ∧ V w' al2 g2 ∧ Fr (own g) (own g2) y w'
end Go.Proofs.YtahhkehijokhnaaGreatDoor

/- A Heap in memory, whatever its collector does: the black stacks, the grey ones; Shade, Black, Barrier, Left. -/
namespace Go.Proofs.YtahhkehijokhnaaGreatDoor
set_option maxRecDepth 100000
open Go.ChangeShapes Go.WideShapes Go.ChangeAt Go.RowKit Go.Maps Go.ChangeMaps Go.MapKept Go.Deep

/-- The black stacks' map. -/
def BkAt (w : World) (mb : Nat) (bk : List Int) : Prop := ∃ D : DataW Unit, w.ownsMap Tryz.prog 3 unitElem mb bk.length D ∧ ∀ y, wfN y → Maps.has D (.int .i64 y) = decide (y ∈ bk)
theorem BkAt.kept {w w' : World} {mb : Nat} {bk : List Int} (h : BkAt w mb bk) (e : w'.heap[mb]? = w.heap[mb]?) : BkAt w' mb bk := by
  obtain ⟨D, ⟨es, c, hb, r⟩, hh⟩ := h
  exact ⟨D, ⟨es, c, e.trans hb, r⟩, hh⟩
theorem BkAt.lt {w : World} {mb : Nat} {bk : List Int} (h : BkAt w mb bk) : mb < w.heap.size := by
  obtain ⟨D, ⟨es, c, hb, r⟩, hh⟩ := h
  rcases Nat.lt_or_ge mb w.heap.size with h1 | h1
  · exact h1
  · rw [Array.getElem?_eq_none h1] at hb; cases hb
/-- The Cycle's own cells. -/
structure CbAt (w : World) (x : Hx) (ph kept done : Int) : Prop where
  c0 : w.cell? ⟨x.b.cb, 0, none⟩ = some (.pointer (some ⟨x.xl.d.ab, 0, none⟩))
  c1 : w.cell? ⟨x.b.cb, 1, none⟩ = some (.pointer (some ⟨x.xl.lb, 0, none⟩))
  c2 : w.cell? ⟨x.b.cb, 2, none⟩ = some (.pointer (some ⟨x.b.tb, 0, none⟩))
  c3 : w.cell? ⟨x.b.cb, 3, none⟩ = some (.pointer (some ⟨x.b.kb, 0, none⟩))
  c4 : w.cell? ⟨x.b.cb, 4, none⟩ = some (.int .i64 ph)
  c5 : w.cell? ⟨x.b.cb, 5, none⟩ = some (.map (some x.b.mb))
  c6 : w.cell? ⟨x.b.cb, 6, none⟩ = some (.int .i64 kept)
  c7 : w.cell? ⟨x.b.cb, 7, none⟩ = some (.int .i64 done)
  fz : ∀ i, w.frozen? ⟨x.b.cb, i, none⟩ = false
theorem CbAt.kept {w w' : World} {x : Hx} {ph kept done : Int} (h : CbAt w x ph kept done) (e : w'.heap[x.b.cb]? = w.heap[x.b.cb]?) : CbAt w' x ph kept done :=
  ⟨(World.cell?_of_block (a := ⟨x.b.cb, 0, none⟩) e).trans h.c0, (World.cell?_of_block (a := ⟨x.b.cb, 1, none⟩) e).trans h.c1, (World.cell?_of_block (a := ⟨x.b.cb, 2, none⟩) e).trans h.c2, (World.cell?_of_block (a := ⟨x.b.cb, 3, none⟩) e).trans h.c3, (World.cell?_of_block (a := ⟨x.b.cb, 4, none⟩) e).trans h.c4, (World.cell?_of_block (a := ⟨x.b.cb, 5, none⟩) e).trans h.c5, (World.cell?_of_block (a := ⟨x.b.cb, 6, none⟩) e).trans h.c6, (World.cell?_of_block (a := ⟨x.b.cb, 7, none⟩) e).trans h.c7, fun i => (World.frozen?_of_block (a := ⟨x.b.cb, i, none⟩) e).trans (h.fz i)⟩
theorem CbAt.phase {w : World} {x : Hx} {ph kept done : Int} (h : CbAt w x ph kept done) (p : Int) : CbAt (w.setCell ⟨x.b.cb, 4, none⟩ (.int .i64 p)) x p kept done :=
  ⟨cellO (by decide) h.c0, cellO (by decide) h.c1, cellO (by decide) h.c2, cellO (by decide) h.c3, cell_same _ h.c4, cellO (by decide) h.c5, cellO (by decide) h.c6, cellO (by decide) h.c7, fun i => by rw [World.frozen?_setCell]; exact h.fz i⟩
/-- A Heap: c: whose block is it: 1 arena and allocator's rows, 16 their heads, 2 the Cycle, 12 the marker, 13 the black ones, 14 and 15 the queue, 3 table, 4 its map, 5 its row, 6 the Heap, 7 least, 8 numbers. -/
structure HG (W w : World) (x : Hx) (al : Al) (l : List Hd.Shp) (n : Nat) (ao : Option Addr) (cap : Nat) (nv : Value) (c : Nat → Nat) (ph kept done fc : Int) (bk gl : List Int) (qs : List Nat) : Prop where
  st : StL W w x.xl al
  cb : CbAt w x ph kept done
  mp : BkAt w x.b.mb bk
  k0 : w.cell? ⟨x.b.kb, 0, none⟩ = some (.pointer (some ⟨x.xl.d.ab, 0, none⟩))
  k2 : w.cell? ⟨x.b.kb, 2, none⟩ = some (.pointer (some ⟨x.b.q, 0, none⟩))
  que : Gy.QL w x.b.q qs gl
  tab : Hd.TabAt w W.heap.size x.b.tb x.tm ao cap l
  h0 : w.cell? ⟨x.hb, 0, none⟩ = some (.pointer (some ⟨x.b.cb, 0, none⟩))
  h1 : w.cell? ⟨x.hb, 1, none⟩ = some nv
  h2 : w.cell? ⟨x.hb, 2, none⟩ = some (.map (some x.lm))
  h3 : w.cell? ⟨x.hb, 3, none⟩ = some (.int .i64 fc)
  hf : ∀ i, w.frozen? ⟨x.hb, i, none⟩ = false
  num : NrAt w W.heap.size nv n
  lmp : LmAt w x.lm n
  lo : W.heap.size ≤ x.b.cb ∧ W.heap.size ≤ x.b.kb ∧ W.heap.size ≤ x.b.mb ∧ W.heap.size ≤ x.b.q ∧ W.heap.size ≤ x.hb ∧ W.heap.size ≤ x.lm
  lq : ∀ d ∈ qs, W.heap.size ≤ d
  lt : x.lm < w.heap.size
  a1 : c x.xl.d.wb = 1 ∧ c x.xl.d.sb = 1 ∧ c x.xl.ub = 1
  a2 : c x.xl.d.ab = 16 ∧ c x.xl.lb = 16
  kc : c x.b.cb = 2 ∧ c x.b.kb = 12 ∧ c x.b.mb = 13 ∧ c x.b.q = 14
  cq : ∀ d ∈ qs, c d = 15
  c3 : c x.b.tb = 3
  c4 : c x.tm = 4
  c5 : ∀ a, ao = some a → c a.block = 5
  c6 : c x.hb = 6
  c7 : c x.lm = 7
  c8 : ∀ k, nv.ownBlock = some k → c k = 8
section
variable {W w w' : World} {x : Hx} {al al' : Al} {l : List Hd.Shp} {n : Nat} {ao : Option Addr} {cap : Nat} {nv : Value} {c c' : Nat → Nat} {ph kept done fc ph' kept' done' : Int} {bk gl bk' gl' : List Int} {qs qs' : List Nat}
theorem HG.hB (h : HG W w x al l n ao cap nv c ph kept done fc bk gl qs) : HB W w x al l ao cap := ⟨h.st, h.cb.c0, h.cb.c2, h.tab, h.h0⟩
theorem HG.alt (h : HG W w x al l n ao cap nv c ph kept done fc bk gl qs) : x.xl.d.ab < w.heap.size ∧ x.xl.d.wb < w.heap.size ∧ x.xl.d.sb < w.heap.size ∧ x.xl.ub < w.heap.size ∧ x.xl.lb < w.heap.size :=
  ⟨h.st.st.at_.lt0, h.st.st.at_.lt1 h.st.st.n8, h.st.st.at_.lt2 h.st.st.n8, h.st.lt1, h.st.lt0⟩
theorem HG.clt (h : HG W w x al l n ao cap nv c ph kept done fc bk gl qs) : x.b.cb < w.heap.size ∧ x.b.kb < w.heap.size ∧ x.b.mb < w.heap.size ∧ x.b.q < w.heap.size ∧ x.hb < w.heap.size :=
  ⟨World.block_lt_of_cell? w _ h.cb.c0, World.block_lt_of_cell? w _ h.k0, h.mp.lt, h.que.lt, World.block_lt_of_cell? w _ h.h0⟩
theorem HG.nlt (h : HG W w x al l n ao cap nv c ph kept done fc bk gl qs) : ∀ k, nv.ownBlock = some k → k < w.heap.size := fun k hk => by
  rcases h.num.2 with ⟨e, _⟩ | ⟨g, cp, cur, e, _, h3, _⟩
  · rw [e] at hk; cases hk
  · rw [e] at hk
    obtain rfl : g = k := by simpa [Value.ownBlock] using hk
    rcases Nat.lt_or_ge g w.heap.size with hh | hh
    · exact hh
    · rw [Array.getElem?_eq_none hh] at h3; cases h3
/-- What else it has is as it was. -/
theorem HG.re (h : HG W w x al l n ao cap nv c ph kept done fc bk gl qs) (hs : w.heap.size ≤ w'.heap.size) (st : StL W w' x.xl al')
    (kp : ∀ d, d < w.heap.size → c d ≠ 1 → c d ≠ 2 → c d ≠ 13 → c d ≠ 14 → c d ≠ 15 → w'.heap[d]? = w.heap[d]?) (cb : CbAt w' x ph' kept' done') (mp : BkAt w' x.b.mb bk') (que : Gy.QL w' x.b.q qs' gl')
    (hc : ∀ d, d < w.heap.size → c' d = c d) (hq : ∀ d ∈ qs', c' d = 15 ∧ W.heap.size ≤ d) : HG W w' x al' l n ao cap nv c' ph' kept' done' fc bk' gl' qs' := by
  obtain ⟨l1, l2, l3, l4, l5⟩ := h.alt
  obtain ⟨e1, e2, e3, e4, e5⟩ := h.clt
  obtain ⟨a1, a2, a3⟩ := h.a1
  obtain ⟨b1, b2⟩ := h.a2
  obtain ⟨k1, k2, k3, k4⟩ := h.kc
  have kk := kp x.b.kb e2 (by omega) (by omega) (by omega) (by omega) (by omega)
  have kh := kp x.hb e5 (by rw [h.c6]; decide) (by rw [h.c6]; decide) (by rw [h.c6]; decide) (by rw [h.c6]; decide) (by rw [h.c6]; decide)
  exact ⟨st, cb, mp, (World.cell?_of_block (a := ⟨x.b.kb, 0, none⟩) kk).trans h.k0, (World.cell?_of_block (a := ⟨x.b.kb, 2, none⟩) kk).trans h.k2, que,
    h.tab.kept (kp _ h.tab.tlt (by rw [h.c3]; decide) (by rw [h.c3]; decide) (by rw [h.c3]; decide) (by rw [h.c3]; decide) (by rw [h.c3]; decide)) (kp _ h.tab.mlt (by rw [h.c4]; decide) (by rw [h.c4]; decide) (by rw [h.c4]; decide) (by rw [h.c4]; decide) (by rw [h.c4]; decide)) (fun a ha => kp _ (h.tab.aoB a ha).2 (by rw [h.c5 a ha]; decide) (by rw [h.c5 a ha]; decide) (by rw [h.c5 a ha]; decide) (by rw [h.c5 a ha]; decide) (by rw [h.c5 a ha]; decide)),
    (World.cell?_of_block (a := ⟨x.hb, 0, none⟩) kh).trans h.h0, (World.cell?_of_block (a := ⟨x.hb, 1, none⟩) kh).trans h.h1, (World.cell?_of_block (a := ⟨x.hb, 2, none⟩) kh).trans h.h2, (World.cell?_of_block (a := ⟨x.hb, 3, none⟩) kh).trans h.h3, fun i => (World.frozen?_of_block (a := ⟨x.hb, i, none⟩) kh).trans (h.hf i),
    nr_kept h.num (fun q hq => kp q (h.nlt q hq) (by rw [h.c8 q hq]; decide) (by rw [h.c8 q hq]; decide) (by rw [h.c8 q hq]; decide) (by rw [h.c8 q hq]; decide) (by rw [h.c8 q hq]; decide)), h.lmp.kept (kp _ h.lt (by rw [h.c7]; decide) (by rw [h.c7]; decide) (by rw [h.c7]; decide) (by rw [h.c7]; decide) (by rw [h.c7]; decide)),
    h.lo, fun d hd => (hq d hd).2, Nat.lt_of_lt_of_le h.lt hs, ⟨(hc _ l2).trans a1, (hc _ l3).trans a2, (hc _ l4).trans a3⟩, ⟨(hc _ l1).trans b1, (hc _ l5).trans b2⟩, ⟨(hc _ e1).trans k1, (hc _ e2).trans k2, (hc _ e3).trans k3, (hc _ e4).trans k4⟩, fun d hd => (hq d hd).1,
    (hc _ h.tab.tlt).trans h.c3, (hc _ h.tab.mlt).trans h.c4, fun a ha => (hc _ (h.tab.aoB a ha).2).trans (h.c5 a ha), (hc _ e5).trans h.c6, (hc _ h.lt).trans h.c7, fun q hq => (hc _ (h.nlt q hq)).trans (h.c8 q hq)⟩
theorem HG.hq (h : HG W w x al l n ao cap nv c ph kept done fc bk gl qs) : ∀ d ∈ qs, c d = 15 ∧ W.heap.size ≤ d := fun d hd => ⟨h.cq d hd, h.lq d hd⟩
theorem HG.gr (h : HG W w x al l n ao cap nv c ph kept done fc bk gl qs) (g : G w w') : HG W w' x al l n ao cap nv c ph kept done fc bk gl qs :=
  h.re g.size (h.st.G g) (fun d hd _ _ _ _ _ => g.block d hd) (h.cb.kept (g.block _ h.clt.1)) (h.mp.kept (g.block _ h.clt.2.2.1)) (h.que.grown g) (fun _ _ => rfl) h.hq
/-- The arena's rows, the allocator's. -/
theorem HG.turn (h : HG W w x al l n ao cap nv c ph kept done fc bk gl qs) (s : StL W w' x.xl al') (t : TnL w w' x.xl) : HG W w' x al' l n ao cap nv c ph kept done fc bk gl qs := by
  obtain ⟨a1, a2, a3⟩ := h.a1
  obtain ⟨k1, k2, k3, k4⟩ := h.kc
  obtain ⟨e1, e2, e3, e4, e5⟩ := h.clt
  have kp : ∀ d, d < w.heap.size → c d ≠ 1 → w'.heap[d]? = w.heap[d]? := fun d hd n1 => t.block d hd (fun e => n1 (by rw [e]; exact a1)) (fun e => n1 (by rw [e]; exact a2)) (fun e => n1 (by rw [e]; exact a3))
  exact h.re t.size s (fun d hd n1 _ _ _ _ => kp d hd n1) (h.cb.kept (kp _ e1 (by omega))) (h.mp.kept (kp _ e3 (by omega))) (h.que.kept (kp _ e4 (by omega)) (fun d hd => kp d (h.que.ltb d hd) (by rw [h.cq d hd]; decide))) (fun _ _ => rfl) h.hq
/-- A block that is not the arena's is turned: the arena is as it was. -/
theorem HG.stk (h : HG W w x al l n ao cap nv c ph kept done fc bk gl qs) (hb : Below W.heap.size W w') (kp : ∀ d, d < w.heap.size → c d = 1 ∨ c d = 16 → w'.heap[d]? = w.heap[d]?) : StL W w' x.xl al := by
  obtain ⟨a1, a2, a3⟩ := h.a1
  obtain ⟨b1, b2⟩ := h.a2
  obtain ⟨l1, l2, l3, l4, l5⟩ := h.alt
  refine h.st.kept hb fun d hd => ?_
  rcases hd with rfl | rfl | rfl | rfl | rfl
  · exact kp _ l1 (Or.inr b1)
  · exact kp _ l2 (Or.inl a1)
  · exact kp _ l3 (Or.inl a2)
  · exact kp _ l4 (Or.inl a3)
  · exact kp _ l5 (Or.inr b2)
/-- The queue has been turned. -/
theorem HG.queue (h : HG W w x al l n ao cap nv c ph kept done fc bk gl qs) (L : Gy.Left w w' x.b.q qs gl') : ∃ c' qs', (∀ d, d < w.heap.size → c' d = c d) ∧ (∀ d ∈ qs', d ∈ qs ∨ w.heap.size ≤ d) ∧ HG W w' x al l n ao cap nv c' ph kept done fc bk gl' qs' := by
  obtain ⟨qs', Q, t, hn⟩ := L
  obtain ⟨k1, k2, k3, k4⟩ := h.kc
  obtain ⟨e1, e2, e3, e4, e5⟩ := h.clt
  have kp : ∀ d, d < w.heap.size → c d ≠ 14 → c d ≠ 15 → w'.heap[d]? = w.heap[d]? := fun d hd n1 n2 => t.block d hd (fun e => n1 (by rw [e]; exact k4)) (fun e => n2 (h.cq d e))
  have hb : Below W.heap.size W w' := by
    refine Below.trans h.st.below ⟨t.os, t.tape, t.output, t.size, fun d hd => ?_⟩
    have hd' : d < w.heap.size := Nat.lt_of_lt_of_le hd h.st.below.size
    refine t.block d hd' (fun e => ?_) (fun e => ?_)
    · have := h.lo; omega
    · have := h.lq d e; omega
  have cc : ∀ d, d < w.heap.size → (fun d => if w.heap.size ≤ d then 15 else c d) d = c d := fun d hd => if_neg (by omega)
  refine ⟨fun d => if w.heap.size ≤ d then 15 else c d, qs', cc, hn, h.re t.size (h.stk hb fun d hd hc => kp d hd (by omega) (by omega)) (fun d hd _ _ _ n1 n2 => kp d hd n1 n2) (h.cb.kept (kp _ e1 (by omega) (by omega))) (h.mp.kept (kp _ e3 (by omega) (by omega))) Q cc fun d hd => ?_⟩
  rcases hn d hd with e | e
  · exact ⟨(cc d (h.que.ltb d e)).trans (h.cq d e), h.lq d e⟩
  · exact ⟨if_pos e, Nat.le_trans h.st.below.size e⟩
/-- The phase is another. -/
theorem HG.phase (h : HG W w x al l n ao cap nv c ph kept done fc bk gl qs) (p : Int) : HG W (w.setCell ⟨x.b.cb, 4, none⟩ (.int .i64 p)) x al l n ao cap nv c p kept done fc bk gl qs := by
  obtain ⟨k1, k2, k3, k4⟩ := h.kc
  obtain ⟨e1, e2, e3, e4, e5⟩ := h.clt
  have kp : ∀ d, c d ≠ 2 → (w.setCell ⟨x.b.cb, 4, none⟩ (.int .i64 p)).heap[d]? = w.heap[d]? := fun d n2 => Below.heap_setCell _ _ _ _ (by show d ≠ x.b.cb; intro e; exact n2 (by rw [e]; exact k1))
  exact h.re (by rw [World.size_setCell]; exact Nat.le_refl _) (h.stk (h.st.below.setCell h.lo.1 _) fun d _ hc => kp d (by omega)) (fun d _ _ n2 _ _ _ => kp d n2) (h.cb.phase p) (h.mp.kept (kp _ (by omega))) (h.que.kept (kp _ (by omega)) (fun d hd => kp d (by rw [h.cq d hd]; decide))) (fun _ _ => rfl) h.hq
/-- The map of the black ones has been turned. -/
theorem HG.mapped (h : HG W w x al l n ao cap nv c ph kept done fc bk gl qs) (hb : Below W.heap.size W w') (hs : w.heap.size ≤ w'.heap.size) (kp : ∀ d, d < w.heap.size → d ≠ x.b.mb → w'.heap[d]? = w.heap[d]?) (mp : BkAt w' x.b.mb bk') : HG W w' x al l n ao cap nv c ph kept done fc bk' gl qs := by
  obtain ⟨k1, k2, k3, k4⟩ := h.kc
  obtain ⟨e1, e2, e3, e4, e5⟩ := h.clt
  have kp' : ∀ d, d < w.heap.size → c d ≠ 13 → w'.heap[d]? = w.heap[d]? := fun d hd n => kp d hd (fun e => n (by rw [e]; exact k3))
  exact h.re hs (h.stk hb fun d hd hc => kp' d hd (by omega)) (fun d hd _ _ n _ _ => kp' d hd n) (h.cb.kept (kp' _ e1 (by omega))) mp (h.que.kept (kp' _ e4 (by omega)) (fun d hd => kp' d (h.que.ltb d hd) (by rw [h.cq d hd]; decide))) (fun _ _ => rfl) h.hq
/-- While no collection goes on, and none is black. -/
theorem HS.hG (h : HS W w x al l n ao cap nv c) : ∃ c', HG W w x al l n ao cap nv c' 0 64 0 0 [] [] [] := by
  obtain ⟨a1, a2, a3, a4, a5⟩ := h.cA
  obtain ⟨k1, k2, k3, k4⟩ := h.cC
  have hkq : x.b.kb ≠ x.b.q := fun e => by
    obtain ⟨f, cc, hq, _⟩ := h.ks.que
    have h1 := h.ks.k0
    rw [e, hq.c0] at h1
    simp at h1
  obtain ⟨n1, n2, n3⟩ := h.ks.nd
  obtain ⟨n4, n5⟩ := h.ks.nm
  have ap := fun d hd => (h.ks.ap d hd).2
  have p1 := ap x.b.cb (by simp)
  have p2 := ap x.b.mb (by simp)
  have p3 := ap x.b.kb (by simp)
  have p4 := ap x.b.q (by simp)
  have m01 := h.ks.st.st.at_.n01
  have m02 := h.ks.st.st.at_.n02
  have m0 := h.ks.st.n0
  have m1 := h.ks.st.n1
  have m2 := h.ks.st.n2
  have mpx : BkAt w x.b.mb [] := by
    obtain ⟨cl, hcl⟩ := h.ks.mp
    exact ⟨.map [], ⟨#[], cl, hcl, ⟨by simp, stamped_empty cl, by simp⟩, Nat.le_refl _, rfl⟩, fun y _ => by simp [Maps.has]⟩
  obtain ⟨c', hc'⟩ : ∃ c' : Nat → Nat, c' = fun d => if d = x.xl.d.ab ∨ d = x.xl.lb then 16 else if d = x.b.kb then 12 else if d = x.b.mb then 13 else if d = x.b.q then 14 else c d := ⟨_, rfl⟩
  have old : ∀ d, c d ≠ 1 → c d ≠ 2 → c' d = c d := fun d d1 d2 => by
    rw [hc']
    simp only
    rw [if_neg (fun e => by rcases e with e | e <;> rw [e] at d1 <;> omega), if_neg (fun e => by rw [e] at d2; omega), if_neg (fun e => by rw [e] at d2; omega), if_neg (fun e => by rw [e] at d2; omega)]
  have same : ∀ d, d ≠ x.xl.d.ab → d ≠ x.xl.lb → d ≠ x.b.kb → d ≠ x.b.mb → d ≠ x.b.q → c' d = c d := fun d d1 d2 d3 d4 d5 => by
    rw [hc']
    simp only
    rw [if_neg (fun e => by rcases e with e | e; exact d1 e; exact d2 e), if_neg d3, if_neg d4, if_neg d5]
  have e16 : ∀ d, d = x.xl.d.ab ∨ d = x.xl.lb → c' d = 16 := fun d e => by rw [hc']; simp only; rw [if_pos e]
  have e12 : c' x.b.kb = 12 := by rw [hc']; simp only; rw [if_neg (fun e => by rcases e with e | e; exact p3.2.2.2.2.1 e; exact p3.2.2.2.2.2 e), if_pos trivial]
  have e13 : c' x.b.mb = 13 := by rw [hc']; simp only; rw [if_neg (fun e => by rcases e with e | e; exact p2.2.2.2.2.1 e; exact p2.2.2.2.2.2 e), if_neg n4, if_pos trivial]
  have e14 : c' x.b.q = 14 := by rw [hc']; simp only; rw [if_neg (fun e => by rcases e with e | e; exact p4.2.2.2.2.1 e; exact p4.2.2.2.2.2 e), if_neg (Ne.symm hkq), if_neg (Ne.symm n5), if_pos trivial]
  refine ⟨c', h.ks.st, ⟨h.ks.c0, h.ks.c1, h.ks.c2, h.ks.c3, h.ks.c4, h.ks.c5, h.ks.c6, h.ks.c7, h.ks.fz⟩, mpx, h.ks.k0, h.ks.k2, h.ks.que, h.tab, h.h0, h.h1, h.h2, h.h3, h.hf, h.num, h.mp, ⟨p1.1, p3.1, p2.1, p4.1, h.lo.1, h.lo.2⟩, fun d hd => (by cases hd), h.lt, ⟨?_, ?_, ?_⟩, ⟨e16 _ (Or.inl rfl), e16 _ (Or.inr rfl)⟩, ⟨?_, e12, e13, e14⟩, fun d hd => (by cases hd), ?_, ?_, fun a ha => ?_, ?_, ?_, fun k hk => ?_⟩
  · exact (same _ (Ne.symm m01) (Ne.symm m1.1) (Ne.symm p3.2.1) (Ne.symm p2.2.1) (Ne.symm p4.2.1)).trans a2
  · exact (same _ (Ne.symm m02) (Ne.symm m1.2) (Ne.symm p3.2.2.1) (Ne.symm p2.2.2.1) (Ne.symm p4.2.2.1)).trans a3
  · exact (same _ m2.1 (Ne.symm m0) (Ne.symm p3.2.2.2.1) (Ne.symm p2.2.2.2.1) (Ne.symm p4.2.2.2.1)).trans a4
  · exact (same _ p1.2.2.2.2.1 p1.2.2.2.2.2 n2 n1 n3).trans k1
  · exact (old _ (by rw [h.c3]; decide) (by rw [h.c3]; decide)).trans h.c3
  · exact (old _ (by rw [h.c4]; decide) (by rw [h.c4]; decide)).trans h.c4
  · exact (old _ (by rw [h.c5 a ha]; decide) (by rw [h.c5 a ha]; decide)).trans (h.c5 a ha)
  · exact (old _ (by rw [h.c6]; decide) (by rw [h.c6]; decide)).trans h.c6
  · exact (old _ (by rw [h.c7]; decide) (by rw [h.c7]; decide)).trans h.c7
  · exact (old _ (by rw [h.c8 k hk]; decide) (by rw [h.c8 k hk]; decide)).trans (h.c8 k hk)
end
end Go.Proofs.YtahhkehijokhnaaGreatDoor

/- A Heap in memory, whatever its collector does: Shade, Black, Barrier, Left; the view. -/
namespace Go.Proofs.YtahhkehijokhnaaGreatDoor
set_option maxRecDepth 100000
open Go.ChangeShapes Go.WideShapes Go.ChangeAt Go.RowKit Go.Maps Go.ChangeMaps Go.MapKept Go.Deep

theorem keyB : Keyed Tryz.prog 3 := int_keyed Tryz.underlying3
theorem zero_unitB (w : World) : (zeroValue 147).run Tryz.prog w = .ok (.agg #[]) w := by kernel_rfl
/-- What of it changes. -/
structure Gq where
  c : Nat → Nat
  gl : List Int
  qs : List Nat
/-- The blocks that its calls turn. -/
def ownG (x : Hx) (g : Gq) (d : Nat) : Prop := d = x.xl.d.wb ∨ d = x.xl.d.sb ∨ d = x.xl.ub ∨ d = x.b.cb ∨ d = x.b.mb ∨ d = x.b.q ∨ d ∈ g.qs
section
variable {W w w' : World} {x : Hx} {al al' : Al} {l : List Hd.Shp} {n : Nat} {ao : Option Addr} {cap : Nat} {nv : Value} {ph kept done fc : Int} {bk : List Int} {g : Gq}
abbrev HGq (W : World) (x : Hx) (l : List Hd.Shp) (n : Nat) (ao : Option Addr) (cap : Nat) (nv : Value) (ph kept done fc : Int) (bk : List Int) (w : World) (al : Al) (g : Gq) : Prop := HG W w x al l n ao cap nv g.c ph kept done fc bk g.gl g.qs
theorem frg_tn (t : TnL w w' x.xl) : Fr (ownG x g) (ownG x g) w w' := ⟨t.size, fun d hd ho => t.block d hd (fun e => ho (Or.inl e)) (fun e => ho (Or.inr (Or.inl e))) (fun e => ho (Or.inr (Or.inr (Or.inl e)))), fun _ h => Or.inl h⟩
theorem hv_hg (W : World) (x : Hx) (l : List Hd.Shp) (n : Nat) (ao : Option Addr) (cap : Nat) (nv : Value) (ph kept done fc : Int) (bk : List Int) (hf : ∀ s ∈ l, s.m < 18446744073709551616) : HV (HGq W x l n ao cap nv ph kept done fc bk) (ownG x) x.hb x.b.cb x.xl.d.ab l := by
  refine ⟨fun w al _ a h => hb_of (hide h.hB) a, fun w w' al _ h g => h.gr g, fun w al _ h d hd => ?_, fun w al _ h => hb_cycle (hide h.hB), fun w al _ h => b_arena (hide h.hB), fun w al _ a i h => (ls_read (hide h.st) a i).mono fun _ _ hh => ⟨hh.1, hh.2.2⟩, fun w al _ a i v h => (ls_write (hide h.st) a i v).mono fun _ _ hh => ⟨hh.1, h.turn hh.2.1 hh.2.2, frg_tn hh.2.2⟩, hf⟩
  obtain ⟨_, l2, l3, l4, _⟩ := h.alt
  obtain ⟨e1, e2, e3, e4, e5⟩ := h.clt
  rcases hd with rfl | rfl | rfl | rfl | rfl | rfl | hd
  · exact l2
  · exact l3
  · exact l4
  · exact e1
  · exact e3
  · exact e4
  · exact h.que.ltb d hd
/-- Shading, plainly. -/
def shA (al : Al) (y : Int) : Al := ⟨al.a.markA y, al.u⟩
def shG (al : Al) (gl : List Int) (y : Int) : List Int := if al.a.markB y = true then gl ++ [y] else gl
theorem g_shade (h : Hid (HGq W x l n ao cap nv ph kept done fc bk w al g)) (hn : g.gl.length ≤ 900000) (y : Int) : Calls Tryz.prog 66 #[.pointer (some ⟨x.b.kb, 0, none⟩), .int .i64 y] w fun e w' => e = .returned (.bool (al.a.markB y)) ∧ ∃ g2 : Gq, g2.gl = shG al g.gl y ∧ HGq W x l n ao cap nv ph kept done fc bk w' (shA al y) g2 ∧ Fr (ownG x g) (ownG x g2) w w' := by
  have k0 := (unhide h).k0
  have CM : Hid (Calls Tryz.prog 60 #[.pointer (some ⟨x.xl.d.ab, 0, none⟩), .int .i64 y] w fun e w' => e = .returned (.bool (al.a.markB y)) ∧ Hid (HGq W x l n ao cap nv ph kept done fc bk w' (shA al y) g ∧ Fr (ownG x g) (ownG x g) w w')) := hide ((ls_mark (hide (unhide h).st) y).mono fun _ _ hh => ⟨hh.1, hide ⟨(unhide h).turn hh.2.1 hh.2.2, frg_tn hh.2.2⟩⟩)
  have CQ : Hid (∀ y1, HGq W x l n ao cap nv ph kept done fc bk y1 (shA al y) g → Calls Tryz.prog 83 #[.pointer (some ⟨x.b.q, 0, none⟩), .int .i64 y] y1 fun e w' => e = .returned (.tuple #[]) ∧ Hid (∃ g2 : Gq, g2.gl = g.gl ++ [y] ∧ HGq W x l n ao cap nv ph kept done fc bk w' (shA al y) g2 ∧ Fr (ownG x g) (ownG x g2) y1 w')) := hide fun y1 hy => (Gy.q_add hy.que hn y).mono fun _ _ hh => by
    obtain ⟨c', qs', hc, hq, S⟩ := hy.queue hh.2
    obtain ⟨_, _, t, _⟩ := hh.2
    refine ⟨hh.1, hide ⟨⟨c', g.gl ++ [y], qs'⟩, rfl, S, t.size, fun d hd ho => t.block d hd (fun e => ho (Or.inr (Or.inr (Or.inr (Or.inr (Or.inr (Or.inl e))))))) (fun e => ho (Or.inr (Or.inr (Or.inr (Or.inr (Or.inr (Or.inr e))))))), fun d hd => ?_⟩⟩
    rcases hd with e | e | e | e | e | e | e
    · exact Or.inl (Or.inl e)
    · exact Or.inl (Or.inr (Or.inl e))
    · exact Or.inl (Or.inr (Or.inr (Or.inl e)))
    · exact Or.inl (Or.inr (Or.inr (Or.inr (Or.inl e))))
    · exact Or.inl (Or.inr (Or.inr (Or.inr (Or.inr (Or.inl e)))))
    · exact Or.inl (Or.inr (Or.inr (Or.inr (Or.inr (Or.inr (Or.inl e))))))
    · rcases hq d e with e | e
      · exact Or.inl (Or.inr (Or.inr (Or.inr (Or.inr (Or.inr (Or.inr e))))))
      · exact Or.inr e
  have HK : Hid (∀ y1, HGq W x l n ao cap nv ph kept done fc bk y1 (shA al y) g → y1.cell? ⟨x.b.kb, 2, none⟩ = some (.pointer (some ⟨x.b.q, 0, none⟩))) := hide fun y1 hy => hy.k2
  unfold shG
  generalize al.a.markB y = mb at CM ⊢
  clear h hn
  cases mb
  · go_enter Tryz.func66, Tryz.ntmps66
    go_wp2_with fail
    refine (unhide CM).mono ?_
    rintro e w1 ⟨rfl, h1⟩
    clear CM CQ HK
    go_wp2_with fail
    go_ret
    exact ⟨rfl, g, rfl, (unhide h1).1, (unhide h1).2⟩
  · go_enter Tryz.func66, Tryz.ntmps66
    go_wp2_with fail
    refine (unhide CM).mono ?_
    rintro e w1 ⟨rfl, h1⟩
    have k2 := unhide HK w1 (unhide h1).1
    have CQ1 := hide (unhide CQ w1 (unhide h1).1)
    clear CM CQ HK
    go_wp2_with fail
    refine (unhide CQ1).mono ?_
    rintro e w2 ⟨rfl, h2⟩
    clear CQ1
    go_wp2_with fail
    go_ret
    obtain ⟨g2, e2, S2, f2⟩ := unhide h2
    exact ⟨rfl, g2, e2, S2, (unhide h1).2.trans f2⟩
theorem g_black (h : Hid (HGq W x l n ao cap nv ph kept done fc bk w al g)) (i : Int) (hi : wfN i) : Calls Tryz.prog 67 #[.pointer (some ⟨x.b.cb, 0, none⟩), .int .i64 i] w fun e w' => e = .returned (.bool (decide (i ∈ bk))) ∧ G w w' := by
  have c5 := (unhide h).cb.c5
  obtain ⟨D, hD, hh⟩ := (unhide h).mp
  have ow := hide hD
  have hI := hh i hi
  clear hh hD
  go_enter Tryz.func67, Tryz.ntmps67
  go_wp2_with (at_lookup; refine wpList_lookup_own_unit _ rfl _ _ 94 rfl 3 147 keyB Tryz.underlying94 (zero_unitB _) x.b.mb _ D rfl (unhide ow) _ (.int .i64 i) rfl (keyOf_int_mk Tryz.underlying3 hi) ?_; rw [hI])
  go_ret
  exact ⟨rfl, G.alloc _ _⟩
theorem g_shades (h : Hid (HGq W x l n ao cap nv ph kept done fc bk w al g)) : Calls Tryz.prog 59 #[.pointer (some ⟨x.b.cb, 0, none⟩)] w fun e w' => e = .returned (.bool (ph == 1 || ph == 2)) ∧ w' = w := by
  have c4 := (unhide h).cb.c4
  cases h1 : ph == 1
  · go_enter Tryz.func59, Tryz.ntmps59
    go_wp2_with fail
    go_ret
    exact ⟨by simp, rfl⟩
  · go_enter Tryz.func59, Tryz.ntmps59
    go_wp2_with fail
    go_ret
    exact ⟨by simp, rfl⟩
/-- While roots are shaded and things are looked at. -/
def baA (al : Al) (bk : List Int) (old v id : Int) : Al := if id ∈ bk then shA al old else shA (shA al old) v
def baG (al : Al) (bk gl : List Int) (old v id : Int) : List Int := if id ∈ bk then shG al gl old else shG (shA al old) (shG al gl old) v
theorem shG_len (al : Al) (gl : List Int) (y : Int) : (shG al gl y).length ≤ gl.length + 1 := by
  unfold shG
  split
  · rw [List.length_append, List.length_singleton]; exact Nat.le_refl _
  · exact Nat.le_succ _
set_option maxHeartbeats 1000000 in
theorem g_barrier (hp : (ph == 1 || ph == 2) = true) (h : Hid (HGq W x l n ao cap nv ph kept done fc bk w al g)) (hn : g.gl.length ≤ 800000) (old v id : Int) (hi : wfN id) : Calls Tryz.prog 53 #[.pointer (some ⟨x.b.cb, 0, none⟩), .int .i64 old, .int .i64 v, .int .i64 id] w fun e w' => e = .returned (.tuple #[]) ∧ ∃ g2 : Gq, g2.gl = baG al bk g.gl old v id ∧ HGq W x l n ao cap nv ph kept done fc bk w' (baA al bk old v id) g2 ∧ Fr (ownG x g) (ownG x g2) w w' := by
  have CS := hide (g_shades h)
  rw [hp] at CS
  have c3 := (unhide h).cb.c3
  have C1 := hide (g_shade h (by omega) old)
  generalize al.a.markB old = mo at C1
  have C2 : Hid (∀ y1 g1, g1.gl = shG al g.gl old → HGq W x l n ao cap nv ph kept done fc bk y1 (shA al old) g1 → Calls Tryz.prog 67 #[.pointer (some ⟨x.b.cb, 0, none⟩), .int .i64 id] y1 fun e w' => e = .returned (.bool (decide (id ∈ bk))) ∧ Hid (HGq W x l n ao cap nv ph kept done fc bk w' (shA al old) g1 ∧ G y1 w')) := hide fun y1 g1 _ hy => (g_black (hide hy) id hi).mono fun _ _ hh => ⟨hh.1, hide ⟨hy.gr hh.2, hh.2⟩⟩
  have C3 : Hid (∀ y1 g1, g1.gl = shG al g.gl old → HGq W x l n ao cap nv ph kept done fc bk y1 (shA al old) g1 → Calls Tryz.prog 66 #[.pointer (some ⟨x.b.kb, 0, none⟩), .int .i64 v] y1 fun e w' => (∃ r, e = .returned (.bool r)) ∧ Hid (∃ g2 : Gq, g2.gl = shG (shA al old) (shG al g.gl old) v ∧ HGq W x l n ao cap nv ph kept done fc bk w' (shA (shA al old) v) g2 ∧ Fr (ownG x g1) (ownG x g2) y1 w')) := hide fun y1 g1 e1 hy => by
    have := g_shade (hide hy) (by rw [e1]; have := shG_len al g.gl old; omega) v
    rw [e1] at this
    exact this.mono fun _ _ hh => ⟨⟨_, hh.1⟩, hide hh.2⟩
  have HC : Hid (∀ y1 g1, HGq W x l n ao cap nv ph kept done fc bk y1 (shA al old) g1 → y1.cell? ⟨x.b.cb, 3, none⟩ = some (.pointer (some ⟨x.b.kb, 0, none⟩))) := hide fun y1 g1 hy => hy.cb.c3
  by_cases hb : id ∈ bk
  · rw [show baA al bk old v id = shA al old from if_pos hb, show baG al bk g.gl old v id = shG al g.gl old from if_pos hb]
    rw [decide_eq_true hb] at C2
    clear h hn hp C3 HC hb
    go_enter Tryz.func53, Tryz.ntmps53
    go_wp2_with fail
    refine (unhide CS).mono ?_
    rintro e w1 ⟨rfl, hw⟩
    rw [hw]
    clear hw CS w1
    go_wp2_with fail
    refine (unhide C1).mono ?_
    rintro e w2 ⟨rfl, g2, e2, S2, f2⟩
    have K2 := hide (unhide C2 w2 g2 e2 S2)
    have F2 := hide (And.intro e2 f2)
    clear C1 C2 e2 S2 f2
    go_wp2_with fail
    refine (unhide K2).mono ?_
    rintro e w3 ⟨rfl, h3⟩
    clear K2
    go_wp2_with fail
    go_end0
    exact ⟨rfl, g2, (unhide F2).1, (unhide h3).1, (unhide F2).2.g (unhide h3).2⟩
  · rw [show baA al bk old v id = shA (shA al old) v from if_neg hb, show baG al bk g.gl old v id = shG (shA al old) (shG al g.gl old) v from if_neg hb]
    rw [decide_eq_false hb] at C2
    clear h hn hp hb
    go_enter Tryz.func53, Tryz.ntmps53
    go_wp2_with fail
    refine (unhide CS).mono ?_
    rintro e w1 ⟨rfl, hw⟩
    rw [hw]
    clear hw CS w1
    go_wp2_with fail
    refine (unhide C1).mono ?_
    rintro e w2 ⟨rfl, g2, e2, S2, f2⟩
    have K2 := hide (unhide C2 w2 g2 e2 S2)
    have F2 := hide (And.intro e2 f2)
    clear C1 C2 e2 S2 f2
    go_wp2_with fail
    refine (unhide K2).mono ?_
    rintro e w3 ⟨rfl, h3⟩
    have d3 := unhide HC w3 g2 (unhide h3).1
    have K3 := hide (unhide C3 w3 g2 (unhide F2).1 (unhide h3).1)
    clear K2 C3 HC
    go_wp2_with fail
    refine (unhide K3).mono ?_
    rintro e w4 ⟨⟨r4, rfl⟩, h4⟩
    clear K3
    go_wp2_with fail
    go_end0
    obtain ⟨g4, e4, S4, f4⟩ := unhide h4
    exact ⟨rfl, g4, e4, S4, ((unhide F2).2.g (unhide h3).2).trans f4⟩
theorem g_barrier0 (hp : (ph == 1 || ph == 2) = false) (h : Hid (HGq W x l n ao cap nv ph kept done fc bk w al g)) (old v id : Int) : Calls Tryz.prog 53 #[.pointer (some ⟨x.b.cb, 0, none⟩), .int .i64 old, .int .i64 v, .int .i64 id] w fun e w' => e = .returned (.tuple #[]) ∧ w' = w := by
  have CS := hide (g_shades h)
  rw [hp] at CS
  clear h hp
  go_enter Tryz.func53, Tryz.ntmps53
  go_wp2_with fail
  refine (unhide CS).mono ?_
  rintro e w1 ⟨rfl, hw⟩
  rw [hw]
  clear hw CS w1
  go_wp2_with fail
  go_returns
  exact ⟨rfl, rfl⟩
end
end Go.Proofs.YtahhkehijokhnaaGreatDoor

/- Package heap, over any view: write, Set, Put; package gantlinelaw14's write.do. -/
namespace Go.Proofs.YtahhkehijokhnaaGreatDoor
set_option maxRecDepth 100000
open Go.ChangeShapes Go.WideShapes Go.ChangeAt Go.RowKit Go.Maps Go.Deep

section
variable {γ : Type} {V : World → Al → γ → Prop} {own : γ → Nat → Prop} {W : World} {x : Hx} {l : List Hd.Shp} {ao : Option Addr} {cap : Nat} {w : World} {al : Al} {g : γ}
theorem hv_write (VB : Hid (∀ w al g, V w al g → HB W w x al l ao cap)) (H : Hid (HV V own x.hb x.b.cb x.xl.d.ab l)) (h : Hid (V w al g)) (a f old v : Int) (tb : Bool) (id : Int) (al1 : Al) (Pg : γ → Prop) (hB : tb = true → BarC V own x.b.cb al g old v id al1 Pg) (hN : tb = false → al1 = al ∧ Pg g) :
    Calls Tryz.prog 37 #[.pointer (some ⟨x.hb, 0, none⟩), .int .i64 a, .int .i64 f, .int .i64 old, .int .i64 v, .bool tb, .int .i64 id] w fun e w' => e = .returned (.tuple #[]) ∧ ∃ g2, Pg g2 ∧ V w' ⟨al1.a.writeA a (wrap64 (f + 1)) v, al1.u⟩ g2 ∧ Fr (own g) (own g2) w w' := by
  have h0 := (unhide VB _ _ _ (unhide h)).h0
  have H0 : Hid (∀ y g1, V y al1 g1 → y.cell? ⟨x.hb, 0, none⟩ = some (.pointer (some ⟨x.b.cb, 0, none⟩))) := hide fun y g1 hy => (unhide VB _ _ _ hy).h0
  have CA : Hid (∀ y g1, V y al1 g1 → Calls Tryz.prog 29 #[.pointer (some ⟨x.b.cb, 0, none⟩)] y fun e w' => e = .returned (.pointer (some ⟨x.xl.d.ab, 0, none⟩)) ∧ w' = y) := hide fun y g1 hy => (unhide H).arena y _ _ hy
  have CW : Hid (∀ y g1, V y al1 g1 → Calls Tryz.prog 30 #[.pointer (some ⟨x.xl.d.ab, 0, none⟩), .int .i64 a, .int .i64 (wrap64 (f + 1)), .int .i64 v] y fun e w' => (∃ r, e = .returned (.int .i64 r)) ∧ Hid (V w' ⟨al1.a.writeA a (wrap64 (f + 1)) v, al1.u⟩ g1 ∧ Fr (own g1) (own g1) y w')) := hide fun y g1 hy => ((unhide H).write y _ _ a (wrap64 (f + 1)) v hy).mono fun _ _ hh => ⟨⟨_, hh.1⟩, hide hh.2⟩
  generalize (⟨al1.a.writeA a (wrap64 (f + 1)) v, al1.u⟩ : Al) = al2 at CW ⊢
  unfold BarC at hB
  cases tb
  · obtain ⟨rfl, pg⟩ := hN rfl
    have C1 := hide (unhide CA w g (unhide h))
    have C2 := hide (unhide CW w g (unhide h))
    replace pg := hide pg
    clear hB hN CA CW H0 h H VB
    go_enter Tryz.func37, Tryz.ntmps37
    go_wp2_with fail
    refine (unhide C1).mono ?_
    rintro e w1 ⟨rfl, hw⟩
    rw [hw]
    clear hw C1 w1
    go_wp2_with fail
    refine (unhide C2).mono ?_
    rintro e w2 ⟨⟨r, rfl⟩, h2⟩
    clear C2
    go_wp2_with fail
    go_end0
    exact ⟨rfl, g, unhide pg, (unhide h2).1, (unhide h2).2⟩
  · have CB := hide (hB rfl w (unhide h))
    clear hB hN h H VB
    go_enter Tryz.func37, Tryz.ntmps37
    go_wp2_with fail
    refine (unhide CB).mono ?_
    rintro e w1 ⟨rfl, g1, pg, v1, f1⟩
    have d0 := unhide H0 w1 g1 v1
    have C1 := hide (unhide CA w1 g1 v1)
    have C2 := hide (unhide CW w1 g1 v1)
    replace pg := hide pg
    replace f1 := hide f1
    clear CB CA CW H0 v1 h0
    go_wp2_with fail
    refine (unhide C1).mono ?_
    rintro e w2 ⟨rfl, hw⟩
    rw [hw]
    clear hw C1 w2
    go_wp2_with fail
    refine (unhide C2).mono ?_
    rintro e w2 ⟨⟨r, rfl⟩, h2⟩
    clear C2
    go_wp2_with fail
    go_end0
    exact ⟨rfl, g1, unhide pg, (unhide h2).1, (unhide f1).trans (unhide h2).2⟩
theorem hv_set (VB : Hid (∀ w al g, V w al g → HB W w x al l ao cap)) (H : Hid (HV V own x.hb x.b.cb x.xl.d.ab l)) (h : Hid (V w al g)) (a f v : Int) (ad br : Bool) (id old : Int) (hT : getT al l a f ad = (old, 0)) (al1 : Al) (Pg : γ → Prop) (hB : (ad && br) = true → BarC V own x.b.cb al g old v id al1 Pg) (hN : (ad && br) = false → al1 = al ∧ Pg g) :
    Calls Tryz.prog 21 #[.pointer (some ⟨x.hb, 0, none⟩), .int .i64 a, .int .i64 f, .int .i64 v, .bool ad, .bool br, .int .i64 id] w fun e w' => e = .returned (.int .i64 0) ∧ ∃ g2, Pg g2 ∧ V w' ⟨al1.a.writeA a (wrap64 (f + 1)) v, al1.u⟩ g2 ∧ Fr (own g) (own g2) w w' := by
  have CG := hide (hb_get (hide (unhide VB _ _ _ (unhide h))) a f ad)
  rw [hT] at CG
  have CW : Hid (∀ y, G w y → Calls Tryz.prog 37 #[.pointer (some ⟨x.hb, 0, none⟩), .int .i64 a, .int .i64 f, .int .i64 old, .int .i64 v, .bool (ad && br), .int .i64 id] y fun e w' => e = .returned (.tuple #[]) ∧ Hid (∃ g2, Pg g2 ∧ V w' ⟨al1.a.writeA a (wrap64 (f + 1)) v, al1.u⟩ g2 ∧ Fr (own g) (own g2) w w')) := hide fun y gy => (hv_write VB H (hide ((unhide H).gr _ _ _ _ (unhide h) gy)) a f old v (ad && br) id al1 Pg hB hN).mono fun _ _ hh => ⟨hh.1, hide (by
    obtain ⟨g2, p2, v2, f2⟩ := hh.2
    exact ⟨g2, p2, v2, (Fr.of_G gy).trans f2⟩)⟩
  generalize (⟨al1.a.writeA a (wrap64 (f + 1)) v, al1.u⟩ : Al) = al2 at CW ⊢
  clear hB hN h H VB hT
  cases ad
  · go_enter Tryz.func21, Tryz.ntmps21
    go_wp2_with fail
    refine (unhide CG).mono ?_
    rintro e w1 ⟨rfl, g1⟩
    have C2 := hide (unhide CW w1 g1)
    clear CG CW g1
    go_wp2_with fail
    refine (unhide C2).mono ?_
    rintro e w2 ⟨rfl, h2⟩
    clear C2
    go_wp2_with fail
    go_ret
    exact ⟨rfl, unhide h2⟩
  · go_enter Tryz.func21, Tryz.ntmps21
    go_wp2_with fail
    refine (unhide CG).mono ?_
    rintro e w1 ⟨rfl, g1⟩
    have C2 := hide (unhide CW w1 g1)
    clear CG CW g1
    go_wp2_with fail
    refine (unhide C2).mono ?_
    rintro e w2 ⟨rfl, h2⟩
    clear C2
    go_wp2_with fail
    go_ret
    exact ⟨rfl, unhide h2⟩
theorem hv_put (VB : Hid (∀ w al g, V w al g → HB W w x al l ao cap)) (H : Hid (HV V own x.hb x.b.cb x.xl.d.ab l)) (h : Hid (V w al g)) (a f v : Int) (ad br : Bool) (id old : Int) (hT : atT al l a f ad = (old, 0)) (al1 : Al) (Pg : γ → Prop) (hB : (ad && br) = true → BarC V own x.b.cb al g old v id al1 Pg) (hN : (ad && br) = false → al1 = al ∧ Pg g) :
    Calls Tryz.prog 16 #[.pointer (some ⟨x.hb, 0, none⟩), .int .i64 a, .int .i64 f, .int .i64 v, .bool ad, .bool br, .int .i64 id] w fun e w' => e = .returned (.int .i64 0) ∧ ∃ g2, Pg g2 ∧ V w' ⟨al1.a.writeA a (wrap64 (f + 1)) v, al1.u⟩ g2 ∧ Fr (own g) (own g2) w w' := by
  have CG := hide (hb_at (hide (unhide VB _ _ _ (unhide h))) a f ad)
  rw [hT] at CG
  have CW : Hid (∀ y, G w y → Calls Tryz.prog 37 #[.pointer (some ⟨x.hb, 0, none⟩), .int .i64 a, .int .i64 f, .int .i64 old, .int .i64 v, .bool (ad && br), .int .i64 id] y fun e w' => e = .returned (.tuple #[]) ∧ Hid (∃ g2, Pg g2 ∧ V w' ⟨al1.a.writeA a (wrap64 (f + 1)) v, al1.u⟩ g2 ∧ Fr (own g) (own g2) w w')) := hide fun y gy => (hv_write VB H (hide ((unhide H).gr _ _ _ _ (unhide h) gy)) a f old v (ad && br) id al1 Pg hB hN).mono fun _ _ hh => ⟨hh.1, hide (by
    obtain ⟨g2, p2, v2, f2⟩ := hh.2
    exact ⟨g2, p2, v2, (Fr.of_G gy).trans f2⟩)⟩
  generalize (⟨al1.a.writeA a (wrap64 (f + 1)) v, al1.u⟩ : Al) = al2 at CW ⊢
  clear hB hN h H VB hT
  cases ad
  · go_enter Tryz.func16, Tryz.ntmps16
    go_wp2_with fail
    refine (unhide CG).mono ?_
    rintro e w1 ⟨rfl, g1⟩
    have C2 := hide (unhide CW w1 g1)
    clear CG CW g1
    go_wp2_with fail
    refine (unhide C2).mono ?_
    rintro e w2 ⟨rfl, h2⟩
    clear C2
    go_wp2_with fail
    go_ret
    exact ⟨rfl, unhide h2⟩
  · go_enter Tryz.func16, Tryz.ntmps16
    go_wp2_with fail
    refine (unhide CG).mono ?_
    rintro e w1 ⟨rfl, g1⟩
    have C2 := hide (unhide CW w1 g1)
    clear CG CW g1
    go_wp2_with fail
    refine (unhide C2).mono ?_
    rintro e w2 ⟨rfl, h2⟩
    clear C2
    go_wp2_with fail
    go_ret
    exact ⟨rfl, unhide h2⟩
end
end Go.Proofs.YtahhkehijokhnaaGreatDoor

/- Package heap at rest: Set and Put, and what they keep. -/
namespace Go.Proofs.YtahhkehijokhnaaGreatDoor
set_option maxRecDepth 100000
open Go.ChangeShapes Go.WideShapes Go.ChangeAt Go.RowKit Go.Maps Go.Deep

/-- The blocks that an arena's and an allocator's calls turn. -/
abbrev ownH (x : Hx) (_ : Unit) (d : Nat) : Prop := d = x.xl.d.wb ∨ d = x.xl.d.sb ∨ d = x.xl.ub
section
variable {W w : World} {x : Hx} {al : Al} {l : List Hd.Shp} {n : Nat} {ao : Option Addr} {cap : Nat} {nv : Value} {c : Nat → Nat}
theorem fr_of_tn {w' : World} (t : TnL w w' x.xl) : Fr (ownH x ()) (ownH x ()) w w' := ⟨t.size, fun d hd ho => t.block d hd (fun e => ho (Or.inl e)) (fun e => ho (Or.inr (Or.inl e))) (fun e => ho (Or.inr (Or.inr e))), fun _ h => Or.inl h⟩
theorem hv_hs (W : World) (x : Hx) (l : List Hd.Shp) (n : Nat) (ao : Option Addr) (cap : Nat) (nv : Value) (c : Nat → Nat) (hf : ∀ s ∈ l, s.m < 18446744073709551616) : HV (fun w al (_ : Unit) => HS W w x al l n ao cap nv c) (ownH x) x.hb x.b.cb x.xl.d.ab l := by
  refine ⟨fun w al _ a h => h_of (hide h) a, fun w w' al _ h g => h.gr g, fun w al _ h d hd => ?_, fun w al _ h => h_cycle (hide h), fun w al _ h => k_arena (hide h.ks), fun w al _ a i h => (ls_read (hide h.ks.st) a i).mono fun _ _ hh => ⟨hh.1, hh.2.2⟩, fun w al _ a i v h => (ls_write (hide h.ks.st) a i v).mono fun _ _ hh => ⟨hh.1, h.turn hh.2.1 hh.2.2, fr_of_tn hh.2.2⟩, hf⟩
  obtain ⟨_, l2, l3, l4, _⟩ := h.alt
  rcases hd with rfl | rfl | rfl
  · exact l2
  · exact l3
  · exact l4
theorem bar_hs (W : World) (x : Hx) (l : List Hd.Shp) (n : Nat) (ao : Option Addr) (cap : Nat) (nv : Value) (c : Nat → Nat) (al : Al) (o v id : Int) : BarC (fun w al (_ : Unit) => HS W w x al l n ao cap nv c) (ownH x) x.b.cb al () o v id al (fun _ => True) := fun y hy =>
  (k_barrier0 (hide hy.ks) o v id).mono fun _ _ hh => ⟨hh.1, (), trivial, by rw [hh.2]; exact hy, by rw [hh.2]; exact Fr.of_G (G.refl _)⟩
theorem hq_set (hf : ∀ s ∈ l, s.m < 18446744073709551616) (h : Hid (HS W w x al l n ao cap nv c)) (a f v : Int) (ad br : Bool) (id old : Int) (hT : getT al l a f ad = (old, 0)) : Calls Tryz.prog 21 #[.pointer (some ⟨x.hb, 0, none⟩), .int .i64 a, .int .i64 f, .int .i64 v, .bool ad, .bool br, .int .i64 id] w fun e w' => e = .returned (.int .i64 0) ∧ HS W w' x ⟨al.a.writeA a (wrap64 (f + 1)) v, al.u⟩ l n ao cap nv c ∧ Fr (ownH x ()) (ownH x ()) w w' :=
  (hv_set (V := fun w al (_ : Unit) => HS W w x al l n ao cap nv c) (own := ownH x) (g := ()) (hide fun _ _ _ hh => hh.hB) (hide (hv_hs W x l n ao cap nv c hf)) h a f v ad br id old hT al (fun _ => True) (fun _ => bar_hs W x l n ao cap nv c al old v id) (fun _ => ⟨rfl, trivial⟩)).mono fun _ _ ⟨he, _, _, S, F⟩ => ⟨he, S, F⟩
theorem hq_put (hf : ∀ s ∈ l, s.m < 18446744073709551616) (h : Hid (HS W w x al l n ao cap nv c)) (a f v : Int) (ad br : Bool) (id old : Int) (hT : atT al l a f ad = (old, 0)) : Calls Tryz.prog 16 #[.pointer (some ⟨x.hb, 0, none⟩), .int .i64 a, .int .i64 f, .int .i64 v, .bool ad, .bool br, .int .i64 id] w fun e w' => e = .returned (.int .i64 0) ∧ HS W w' x ⟨al.a.writeA a (wrap64 (f + 1)) v, al.u⟩ l n ao cap nv c ∧ Fr (ownH x ()) (ownH x ()) w w' :=
  (hv_put (V := fun w al (_ : Unit) => HS W w x al l n ao cap nv c) (own := ownH x) (g := ()) (hide fun _ _ _ hh => hh.hB) (hide (hv_hs W x l n ao cap nv c hf)) h a f v ad br id old hT al (fun _ => True) (fun _ => bar_hs W x l n ao cap nv c al old v id) (fun _ => ⟨rfl, trivial⟩)).mono fun _ _ ⟨he, _, _, S, F⟩ => ⟨he, S, F⟩
set_option maxHeartbeats 1000000 in
theorem hq_set_no (h : Hid (HS W w x al l n ao cap nv c)) (a f v : Int) (ad br : Bool) (id tr : Int) (hT : getT al l a f ad = (0, tr)) (hr : tr ≠ 0) : Calls Tryz.prog 21 #[.pointer (some ⟨x.hb, 0, none⟩), .int .i64 a, .int .i64 f, .int .i64 v, .bool ad, .bool br, .int .i64 id] w fun e w' => e = .returned (.int .i64 tr) ∧ G w w' := by
  have CG := hide (h_get h a f ad)
  rw [hT] at CG
  have hrb : (tr != 0) = true := by simpa using hr
  clear h hT hr
  go_enter Tryz.func21, Tryz.ntmps21
  go_wp2_with fail
  refine (unhide CG).mono ?_
  rintro e w1 ⟨rfl, g1⟩
  replace g1 := hide g1
  clear CG
  go_wp2_with fail
  go_ret
  exact ⟨rfl, unhide g1⟩
set_option maxHeartbeats 1000000 in
theorem hq_put_no (h : Hid (HS W w x al l n ao cap nv c)) (a f v : Int) (ad br : Bool) (id tr : Int) (hT : atT al l a f ad = (0, tr)) (hr : tr ≠ 0) : Calls Tryz.prog 16 #[.pointer (some ⟨x.hb, 0, none⟩), .int .i64 a, .int .i64 f, .int .i64 v, .bool ad, .bool br, .int .i64 id] w fun e w' => e = .returned (.int .i64 tr) ∧ G w w' := by
  have CG := hide (h_at h a f ad)
  rw [hT] at CG
  have hrb : (tr != 0) = true := by simpa using hr
  clear h hT hr
  go_enter Tryz.func16, Tryz.ntmps16
  go_wp2_with fail
  refine (unhide CG).mono ?_
  rintro e w1 ⟨rfl, g1⟩
  replace g1 := hide g1
  clear CG
  go_wp2_with fail
  go_ret
  exact ⟨rfl, unhide g1⟩
/-- Others' blocks are as they were. -/
theorem fr_nine {w' : World} (S : HS W w x al l n ao cap nv c) (f : Fr (ownH x ()) (ownH x ()) w w') : ∀ d, d < w.heap.size → c d = 9 → w'.heap[d]? = w.heap[d]? := fun d hd h9 => f.kept d hd (fun ho => by
  obtain ⟨_, a2, a3, a4, _⟩ := S.cA
  rcases ho with e | e | e
  · rw [e, a2] at h9; omega
  · rw [e, a3] at h9; omega
  · rw [e, a4] at h9; omega)
end
end Go.Proofs.YtahhkehijokhnaaGreatDoor

/- HeapPlays: the law's own rows beside its heap. -/
namespace Go.Proofs.YtahhkehijokhnaaGreatDoor
set_option maxRecDepth 100000
open Go.ChangeShapes Go.WideShapes Go.ChangeAt Go.RowKit Go.Maps

theorem info_thing : (Tryz.prog.info? 43).map (fun i => (i.zero, i.size, i.bytes)) = some (some (.agg #[.int .i64 0, .int .i64 0, .int .i64 0, .int .u64 0, .int .i64 0, .slice none 0 0]), 6, 64) := by kernel_rfl
theorem info_shq : (Tryz.prog.info? 37).map (fun i => (i.zero, i.size, i.bytes)) = some (some (.agg #[.int .i64 0, .int .i64 0, .int .u64 0]), 3, 24) := by kernel_rfl
theorem info_64q : (Tryz.prog.info? 2).map (fun i => (i.zero, i.size, i.bytes)) = some (some (.int .i64 0), 1, 8) := by kernel_rfl
/-- A thing's cells; vb: where its words lie. -/
def Tg.cells (t : Tg) (vb : Nat) : List Value := [.int .i64 t.ad, .int .i64 t.s.k, .int .i64 t.s.f, .int .u64 (t.s.m : Int), .int .i64 (t.wd : Int), .slice (some ⟨vb, 0, none⟩) (t.wd - 1) (t.wd - 1)]
theorem row_kept {w w' : World} {B n z : Nat} {T : TypeId} {v : Value} {l : List Value} (h : w.ownsRow B T z v n l) (e : ∀ k, v.ownBlock = some k → w'.heap[k]? = w.heap[k]?) : w'.ownsRow B T z v n l := by
  refine ⟨h.1, ?_⟩
  rcases h.2 with h0 | ⟨g, cp, cur, e1, e2, e3, e4⟩
  · exact Or.inl h0
  · exact Or.inr ⟨g, cp, cur, e1, e2, (e g (by rw [e1]; rfl)).trans e3, e4⟩
/-- Append of one new element that lies in a block of its own. -/
theorem app_one {w : World} {B n z by_ : Nat} {ty e : TypeId} {i : TypeInfo} {zv v : Value} {l : List Value} (ht : Tryz.prog.underlying ty = some (.slice e)) (hi : Tryz.prog.info? e = some i) (hz : i.zero = some zv) (hs : i.size = z) (hb : i.bytes = by_) (hzs : zv.cells.size = z) (h0 : 0 < z) (h100 : by_ ≤ 100)
    (h : w.ownsRow B e z v n l) (hB : B ≤ w.heap.size) (hn : n ≤ 1000000) (cs : List Value) (hl : cs.length = z) (h1 : ∀ u ∈ cs, u.oneCell' = true) :
    ∃ v' w', (Builtin.append_ #[ty, ty] ty #[v, .slice (some ⟨w.heap.size, 0, none⟩) 1 1]).run Tryz.prog (w.alloc (.cells cs.toArray e)) = .ok v' w' ∧ w'.ownsRow B e z v' (n + 1) (l ++ cs) ∧ (w.alloc (.cells cs.toArray e)).grownBy w' v.ownBlock ∧ (v'.ownBlock = v.ownBlock ∨ v'.ownBlock = some (w.heap.size + 1)) := by
  have ga := G.alloc w (.cells cs.toArray e)
  obtain ⟨v', w', hrun, r1, r2, _, r4⟩ := run_append_own_at (P := Tryz.prog) (w.alloc (.cells cs.toArray e)) B ty ty e i zv z by_ ht hi hz hs hb hzs h0 v n l (h.alloc _) ⟨w.heap.size, 0, none⟩ 1 1 cs (by rw [hl, Nat.one_mul]) (fun j u hj => by
      rw [Addr.add_lit, cell_of_row _ _ _ _ _ _ (heap_alloc_new w _), Nat.zero_add]
      simpa using hj) h1 (by unfold maxLen; omega) (by
      have : (n + 1) * by_ ≤ 1000001 * 100 := Nat.mul_le_mul (by omega) h100
      omega) (Nat.le_trans hB ga.size)
  exact ⟨v', w', hrun, r1, r2, by rw [World.size_alloc] at r4; exact r4⟩
theorem appT {w : World} {B n : Nat} {v : Value} {l : List Value} (h : w.ownsRow B 43 6 v n l) (hB : B ≤ w.heap.size) (hn : n ≤ 1000000) (t : Tg) (vb : Nat) :
    ∃ v' w', (Builtin.append_ #[34, 34] 34 #[v, .slice (some ⟨w.heap.size, 0, none⟩) 1 1]).run Tryz.prog (w.alloc (.cells (t.cells vb).toArray 43)) = .ok v' w' ∧ w'.ownsRow B 43 6 v' (n + 1) (l ++ t.cells vb) ∧ (w.alloc (.cells (t.cells vb).toArray 43)).grownBy w' v.ownBlock ∧ (v'.ownBlock = v.ownBlock ∨ v'.ownBlock = some (w.heap.size + 1)) := by
  obtain ⟨i, hi, hz, hs, hb⟩ := info_parts info_thing
  exact app_one Tryz.underlying34 hi hz hs hb rfl (by decide) (by decide) h hB hn _ rfl (fun u hu => by
    simp [Tg.cells] at hu
    rcases hu with rfl | rfl | rfl | rfl | rfl | rfl <;> rfl)
theorem appS {w : World} {B n : Nat} {v : Value} {l : List Value} (h : w.ownsRow B 37 3 v n l) (hB : B ≤ w.heap.size) (hn : n ≤ 1000000) (s : Hd.Shp) :
    ∃ v' w', (Builtin.append_ #[24, 24] 24 #[v, .slice (some ⟨w.heap.size, 0, none⟩) 1 1]).run Tryz.prog (w.alloc (.cells s.cells.toArray 37)) = .ok v' w' ∧ w'.ownsRow B 37 3 v' (n + 1) (l ++ s.cells) ∧ (w.alloc (.cells s.cells.toArray 37)).grownBy w' v.ownBlock ∧ (v'.ownBlock = v.ownBlock ∨ v'.ownBlock = some (w.heap.size + 1)) := by
  obtain ⟨i, hi, hz, hs, hb⟩ := info_parts info_shq
  exact app_one Tryz.underlying24 hi hz hs hb rfl (by decide) (by decide) h hB hn _ rfl (fun u hu => by
    simp [Hd.Shp.cells] at hu
    rcases hu with rfl | rfl | rfl <;> rfl)
theorem appI {w : World} {B n : Nat} {v : Value} {l : List Value} (h : w.ownsRow B 2 1 v n l) (hB : B ≤ w.heap.size) (hn : n ≤ 1000000) (x : Int) :
    ∃ v' w', (Builtin.append_ #[31, 31] 31 #[v, .slice (some ⟨w.heap.size, 0, none⟩) 1 1]).run Tryz.prog (w.alloc (.cells #[.int .i64 x] 2)) = .ok v' w' ∧ w'.ownsRow B 2 1 v' (n + 1) (l ++ [.int .i64 x]) ∧ (w.alloc (.cells #[.int .i64 x] 2)).grownBy w' v.ownBlock ∧ (v'.ownBlock = v.ownBlock ∨ v'.ownBlock = some (w.heap.size + 1)) := by
  obtain ⟨i, hi, hz, hs, hb⟩ := info_parts info_64q
  exact app_one Tryz.underlying31 hi hz hs hb rfl (by decide) (by decide) h hB hn [.int .i64 x] rfl (fun u hu => by simp at hu; subst hu; rfl)
/-- A cell of a row. -/
theorem row_cell {w : World} {B n z : Nat} {T : TypeId} {v : Value} {l : List Value} (h : w.ownsRow B T z v n l) {j : Nat} {u : Value} (hj : l[j]? = some u) : ∃ g cap, v = .slice (some ⟨g, 0, none⟩) n cap ∧ w.cell? ⟨g, j, none⟩ = some u := by
  rcases h.2 with ⟨rfl, rfl⟩ | ⟨g, cap, cur, rfl, _, e3, _, _, _, e7⟩
  · have := h.1
    rw [Nat.zero_mul] at this
    rw [List.length_eq_zero_iff.1 this] at hj
    simp at hj
  · refine ⟨g, cap, rfl, ?_⟩
    rw [cell_of_row _ _ _ _ _ _ e3]
    rw [← e7] at hj
    rw [List.getElem?_take] at hj
    split at hj
    · simpa using hj
    · cases hj
end Go.Proofs.YtahhkehijokhnaaGreatDoor

/- HeapPlays: all the law's rows together, beside its heap. -/
namespace Go.Proofs.YtahhkehijokhnaaGreatDoor
set_option maxRecDepth 100000
open Go.ChangeShapes Go.WideShapes Go.ChangeAt Go.RowKit Go.Maps

theorem flat_at {α β : Type} (f : α → List β) (z : Nat) : ∀ (L : List α), (∀ a ∈ L, (f a).length = z) → ∀ (k i : Nat) (a : α), L[k]? = some a → i < z → (L.flatMap f)[k * z + i]? = (f a)[i]?
  | [], _, k, i, a, hk, _ => by simp at hk
  | b :: L, hz, 0, i, a, hk, hi => by
    have : b = a := by simpa using hk
    subst this
    rw [List.flatMap_cons, Nat.zero_mul, Nat.zero_add, List.getElem?_append_left (by rw [hz b (by simp)]; exact hi)]
  | b :: L, hz, k + 1, i, a, hk, hi => by
    have hb := hz b (by simp)
    have e : (k + 1) * z + i = (f b).length + (k * z + i) := by rw [hb, Nat.add_mul, Nat.one_mul]; omega
    rw [List.flatMap_cons, e, List.getElem?_append_right (by omega), Nat.add_sub_cancel_left]
    exact flat_at f z L (fun a ha => hz a (by simp [ha])) k i a (by simpa using hk) hi
def tcs (ts : List Tg) (vo : List Nat) : List Value := (ts.zip vo).flatMap fun p => p.1.cells p.2
def scs (l : List Hd.Shp) : List Value := l.flatMap Hd.Shp.cells
theorem tcs_at {ts : List Tg} {vo : List Nat} {k b : Nat} {t : Tg} (hk : ts[k]? = some t) (hb : vo[k]? = some b) {i : Nat} (hi : i < 6) : (tcs ts vo)[k * 6 + i]? = (t.cells b)[i]? := by
  unfold tcs
  exact flat_at (fun p : Tg × Nat => p.1.cells p.2) 6 _ (fun _ _ => rfl) k i (t, b) (by rw [List.getElem?_zip_eq_some]; exact ⟨hk, hb⟩) hi
theorem scs_at {l : List Hd.Shp} {k : Nat} {s : Hd.Shp} (hk : l[k]? = some s) {i : Nat} (hi : i < 3) : (scs l)[k * 3 + i]? = s.cells[i]? := by
  unfold scs
  exact flat_at Hd.Shp.cells 3 _ (fun _ _ => rfl) k i s hk hi
theorem tcs_app {ts : List Tg} {vo : List Nat} (h : vo.length = ts.length) (t : Tg) (b : Nat) : tcs (ts ++ [t]) (vo ++ [b]) = tcs ts vo ++ t.cells b := by
  unfold tcs
  rw [List.zip_append h.symm, List.flatMap_append]
  simp
theorem scs_app (l : List Hd.Shp) (s : Hd.Shp) : scs (l ++ [s]) = scs l ++ s.cells := by
  unfold scs
  rw [List.flatMap_append]
  simp
/-- A thing's words in its own row. -/
structure VAt (w : World) (b : Nat) (v : List Int) : Prop where
  cs : ∀ (j : Nat) x, v[j]? = some x → w.cell? ⟨b, j, none⟩ = some (.int .i64 x)
  fz : ∀ j, w.frozen? ⟨b, j, none⟩ = false
  lt : b < w.heap.size
theorem VAt.kept {w w' : World} {b : Nat} {v : List Int} (h : VAt w b v) (k : w'.heap[b]? = w.heap[b]?) (hs : w.heap.size ≤ w'.heap.size) : VAt w' b v :=
  ⟨fun j x hj => (World.cell?_of_block (a := ⟨b, j, none⟩) k).trans (h.cs j x hj), fun j => (World.frozen?_of_block (a := ⟨b, j, none⟩) k).trans (h.fz j), Nat.lt_of_lt_of_le h.lt hs⟩
/-- The law's rows: things, held, shapes; each thing's words. -/
structure Lq (S : Nat) (w : World) (hb : Nat) (tv rv sv : Value) (ts : List Tg) (vo : List Nat) (lr : List Int) (l : List Hd.Shp) : Prop where
  tr : w.ownsRow S 43 6 tv ts.length (tcs ts vo)
  rr : w.ownsRow S 2 1 rv lr.length (lr.map fun x => Value.int .i64 x)
  sr : w.ownsRow S 37 3 sv l.length (scs l)
  hc : w.cell? ⟨hb, 0, none⟩ = some rv
  hf : w.frozen? ⟨hb, 0, none⟩ = false
  vl : vo.length = ts.length
  vs : ∀ (k : Nat) t b, ts[k]? = some t → vo[k]? = some b → VAt w b t.v
  lo : S ≤ hb ∧ ∀ b ∈ vo, S ≤ b
  col : ∃ e : Nat → Nat, e hb = 1 ∧ (∀ d, tv.ownBlock = some d → e d = 2) ∧ (∀ d, rv.ownBlock = some d → e d = 3) ∧ (∀ d, sv.ownBlock = some d → e d = 4) ∧ ∀ (k : Nat) b, vo[k]? = some b → e b = 10 + k
/-- Whose blocks are the law's. -/
def lqB (hb : Nat) (tv rv sv : Value) (vo : List Nat) (d : Nat) : Prop := d = hb ∨ tv.ownBlock = some d ∨ rv.ownBlock = some d ∨ sv.ownBlock = some d ∨ d ∈ vo
section
variable {S : Nat} {w w' : World} {hb : Nat} {tv rv sv : Value} {ts : List Tg} {vo : List Nat} {lr : List Int} {l : List Hd.Shp}
theorem Lq.hlt (h : Lq S w hb tv rv sv ts vo lr l) : hb < w.heap.size := World.block_lt_of_cell? w _ h.hc
theorem Lq.lt (h : Lq S w hb tv rv sv ts vo lr l) {d : Nat} (hd : lqB hb tv rv sv vo d) : d < w.heap.size := by
  rcases hd with rfl | e | e | e | e
  · exact h.hlt
  · exact (h.tr.lt d e).2
  · exact (h.rr.lt d e).2
  · exact (h.sr.lt d e).2
  · obtain ⟨k, hk⟩ := List.getElem?_of_mem e
    have hkl := (List.getElem?_eq_some_iff.1 hk).1
    rw [h.vl] at hkl
    exact (h.vs k _ d (List.getElem?_eq_getElem hkl) hk).lt
theorem Lq.kept (h : Lq S w hb tv rv sv ts vo lr l) (hs : w.heap.size ≤ w'.heap.size) (k : ∀ d, lqB hb tv rv sv vo d → w'.heap[d]? = w.heap[d]?) : Lq S w' hb tv rv sv ts vo lr l := by
  have kh := k hb (Or.inl rfl)
  exact ⟨row_kept h.tr fun d hd => k d (Or.inr (Or.inl hd)), row_kept h.rr fun d hd => k d (Or.inr (Or.inr (Or.inl hd))), row_kept h.sr fun d hd => k d (Or.inr (Or.inr (Or.inr (Or.inl hd)))), (World.cell?_of_block (a := ⟨hb, 0, none⟩) kh).trans h.hc, (World.frozen?_of_block (a := ⟨hb, 0, none⟩) kh).trans h.hf, h.vl, fun j t b h1 h2 => (h.vs j t b h1 h2).kept (k b (Or.inr (Or.inr (Or.inr (Or.inr (List.mem_of_getElem? h2)))))) hs, h.lo, h.col⟩
theorem Lq.gr (h : Lq S w hb tv rv sv ts vo lr l) (g : G w w') : Lq S w' hb tv rv sv ts vo lr l := h.kept g.size fun d hd => g.block d (h.lt hd)
/-- Field i of thing k. -/
theorem Lq.thing (h : Lq S w hb tv rv sv ts vo lr l) {k : Nat} {t : Tg} (hk : ts[k]? = some t) : ∃ g cap b, tv = .slice (some ⟨g, 0, none⟩) ts.length cap ∧ vo[k]? = some b ∧ VAt w b t.v ∧ ∀ (i : Nat) u, (t.cells b)[i]? = some u → w.cell? ⟨g, k * 6 + i, none⟩ = some u := by
  have hl := (List.getElem?_eq_some_iff.1 hk).1
  have hb : vo[k]? = some (vo[k]'(by rw [h.vl]; exact hl)) := List.getElem?_eq_getElem _
  obtain ⟨g, cap, e, _⟩ := row_cell h.tr (j := k * 6 + 0) (u := .int .i64 t.ad) (by rw [tcs_at hk hb (by decide)]; rfl)
  refine ⟨g, cap, _, e, hb, h.vs k t _ hk hb, fun i u hi => ?_⟩
  have hi6 : i < 6 := (List.getElem?_eq_some_iff.1 hi).1
  obtain ⟨g', cap', e', c'⟩ := row_cell h.tr (j := k * 6 + i) (u := u) (by rw [tcs_at hk hb hi6]; exact hi)
  rw [e] at e'
  obtain ⟨rfl, _⟩ : g = g' ∧ cap = cap' := by simpa using e'
  exact c'
theorem tcs_set : ∀ (ts : List Tg) (vo : List Nat) (k : Nat) (t : Tg) (v' : List Int), ts[k]? = some t → tcs (ts.set k { t with v := v' }) vo = tcs ts vo
  | [], _, k, t, v', hk => by simp at hk
  | _ :: _, [], k, t, v', hk => by unfold tcs; simp
  | u :: ts, b :: vo, 0, t, v', hk => by
    have : u = t := by simpa using hk
    subst this
    unfold tcs
    simp [Tg.cells]
  | u :: ts, b :: vo, k + 1, t, v', hk => by
    have ih := tcs_set ts vo k t v' (by simpa using hk)
    unfold tcs at ih ⊢
    rw [List.set_cons_succ, List.zip_cons_cons, List.zip_cons_cons, List.flatMap_cons, List.flatMap_cons, ih]
/-- A word of a thing's own row is written. -/
theorem Lq.put (h : Lq S w hb tv rv sv ts vo lr l) {k b : Nat} {t : Tg} (hk : ts[k]? = some t) (hb' : vo[k]? = some b) {f : Nat} (hf : f < t.v.length) (x : Int) : Lq S (w.setCell ⟨b, f, none⟩ (.int .i64 x)) hb tv rv sv (ts.set k { t with v := t.v.set f x }) vo lr l := by
  obtain ⟨e, e1, e2, e3, e4, e5⟩ := h.col
  have eb := e5 k b hb'
  have kp : ∀ d, d ≠ b → (w.setCell ⟨b, f, none⟩ (.int .i64 x)).heap[d]? = w.heap[d]? := fun d hd => Below.heap_setCell _ _ _ _ (by simpa using hd)
  have hl := (List.getElem?_eq_some_iff.1 hk).1
  have kh := kp hb (fun ee => by rw [← ee, e1] at eb; omega)
  have V := h.vs k t b hk hb'
  refine ⟨by rw [tcs_set ts vo k t _ hk, List.length_set]; exact row_kept h.tr fun d hd => kp d (fun ee => by have := e2 d hd; rw [ee, eb] at this; omega), row_kept h.rr fun d hd => kp d (fun ee => by have := e3 d hd; rw [ee, eb] at this; omega), row_kept h.sr fun d hd => kp d (fun ee => by have := e4 d hd; rw [ee, eb] at this; omega), (World.cell?_of_block (a := ⟨hb, 0, none⟩) kh).trans h.hc, (World.frozen?_of_block (a := ⟨hb, 0, none⟩) kh).trans h.hf, by rw [List.length_set]; exact h.vl, fun j u b2 h1 h2 => ?_, h.lo, e, e1, e2, e3, e4, e5⟩
  by_cases ej : k = j
  · subst ej
    rw [List.getElem?_set_self hl] at h1
    obtain rfl := Option.some.inj h1
    rw [hb'] at h2
    obtain rfl := Option.some.inj h2
    refine ⟨fun j y hj => ?_, fun j => (World.frozen?_setCell _ _ _ _).trans (V.fz j), by rw [World.size_setCell]; exact V.lt⟩
    have hj' : (t.v.set f x)[j]? = some y := hj
    by_cases ef : f = j
    · subst ef
      rw [List.getElem?_set_self hf] at hj'
      rw [cell_same _ (V.cs f _ (List.getElem?_eq_getElem hf)), ← Option.some.inj hj']
    · rw [List.getElem?_set_ne ef] at hj'
      exact (cell_other _ (Or.inr (Ne.symm ef))).trans (V.cs j y hj')
  · rw [List.getElem?_set_ne ej] at h1
    have e2' := e5 j b2 h2
    exact (h.vs j u b2 h1 h2).kept (kp b2 (fun ee => by rw [ee, eb] at e2'; omega)) (by rw [World.size_setCell]; exact Nat.le_refl _)
/-- One more shape. -/
theorem Lq.appS {o : Obj} {sv' : Value} {s : Hd.Shp} (h : Lq S w hb tv rv sv ts vo lr l) (r : w'.ownsRow S 37 3 sv' (l.length + 1) (scs l ++ s.cells)) (g : (w.alloc o).grownBy w' sv.ownBlock) (ob : sv'.ownBlock = sv.ownBlock ∨ sv'.ownBlock = some (w.heap.size + 1)) : Lq S w' hb tv rv sv' ts vo lr (l ++ [s]) := by
  obtain ⟨e, e1, e2, e3, e4, e5⟩ := h.col
  have s1 := g.size
  rw [World.size_alloc] at s1
  have kp : ∀ d, d < w.heap.size → e d ≠ 4 → w'.heap[d]? = w.heap[d]? := fun d hd hne => (g.block d (by rw [World.size_alloc]; omega) (fun q => hne (e4 d q.symm))).trans ((G.alloc w o).block d hd)
  have cc : ∀ d, d < w.heap.size → (fun d => if w.heap.size ≤ d then 4 else e d) d = e d := fun d hd => if_neg (by omega)
  have kh := kp hb h.hlt (by rw [e1]; decide)
  have lv : ∀ (k : Nat) b, vo[k]? = some b → b < w.heap.size := fun k b hk => h.lt (Or.inr (Or.inr (Or.inr (Or.inr (List.mem_of_getElem? hk)))))
  refine ⟨row_kept h.tr fun d hd => kp d (h.tr.lt d hd).2 (by rw [e2 d hd]; decide), row_kept h.rr fun d hd => kp d (h.rr.lt d hd).2 (by rw [e3 d hd]; decide), by rw [scs_app, List.length_append]; exact r, (World.cell?_of_block (a := ⟨hb, 0, none⟩) kh).trans h.hc, (World.frozen?_of_block (a := ⟨hb, 0, none⟩) kh).trans h.hf, h.vl, fun j t b h1 h2 => (h.vs j t b h1 h2).kept (kp b (lv j b h2) (by rw [e5 j b h2]; omega)) (by omega), h.lo, _, (cc _ h.hlt).trans e1, fun d hd => (cc _ (h.tr.lt d hd).2).trans (e2 d hd), fun d hd => (cc _ (h.rr.lt d hd).2).trans (e3 d hd), fun d hd => ?_, fun k b hk => (cc _ (lv k b hk)).trans (e5 k b hk)⟩
  rcases ob with q | q
  · rw [q] at hd; exact (cc d (h.sr.lt d hd).2).trans (e4 d hd)
  · rw [q] at hd; cases hd; exact if_pos (by omega)
/-- One more that is held. -/
theorem Lq.appR {o : Obj} {rv' : Value} {x : Int} (h : Lq S w hb tv rv sv ts vo lr l) (r : w'.ownsRow S 2 1 rv' (lr.length + 1) ((lr.map fun x => Value.int .i64 x) ++ [.int .i64 x])) (g : (w.alloc o).grownBy w' rv.ownBlock) (ob : rv'.ownBlock = rv.ownBlock ∨ rv'.ownBlock = some (w.heap.size + 1)) :
    w'.cell? ⟨hb, 0, none⟩ = some rv ∧ w'.frozen? ⟨hb, 0, none⟩ = false ∧ Lq S (w'.setCell ⟨hb, 0, none⟩ rv') hb tv rv' sv ts vo (lr ++ [x]) l := by
  obtain ⟨e, e1, e2, e3, e4, e5⟩ := h.col
  have s1 := g.size
  rw [World.size_alloc] at s1
  have kp : ∀ d, d < w.heap.size → e d ≠ 3 → w'.heap[d]? = w.heap[d]? := fun d hd hne => (g.block d (by rw [World.size_alloc]; omega) (fun q => hne (e3 d q.symm))).trans ((G.alloc w o).block d hd)
  have kh := kp hb h.hlt (by rw [e1]; decide)
  have c1 := (World.cell?_of_block (a := ⟨hb, 0, none⟩) kh).trans h.hc
  have c2 := (World.frozen?_of_block (a := ⟨hb, 0, none⟩) kh).trans h.hf
  have ks : ∀ d, d ≠ hb → (w'.setCell ⟨hb, 0, none⟩ rv').heap[d]? = w'.heap[d]? := fun d hd => Below.heap_setCell _ _ _ _ (by simpa using hd)
  have kk : ∀ d, d < w.heap.size → e d ≠ 3 → e d ≠ 1 → (w'.setCell ⟨hb, 0, none⟩ rv').heap[d]? = w.heap[d]? := fun d hd h3 h1 => (ks d (fun ee => h1 (by rw [ee]; exact e1))).trans (kp d hd h3)
  have cc : ∀ d, d < w.heap.size → (fun d => if w.heap.size ≤ d then 3 else e d) d = e d := fun d hd => if_neg (by omega)
  have lv : ∀ (k : Nat) b, vo[k]? = some b → b < w.heap.size := fun k b hk => h.lt (Or.inr (Or.inr (Or.inr (Or.inr (List.mem_of_getElem? hk)))))
  have ho : ∀ d, rv'.ownBlock = some d → (fun d => if w.heap.size ≤ d then 3 else e d) d = 3 := fun d hd => by
    rcases ob with q | q
    · rw [q] at hd; exact (cc d (h.rr.lt d hd).2).trans (e3 d hd)
    · rw [q] at hd; cases hd; exact if_pos (by omega)
  refine ⟨c1, c2, row_kept h.tr fun d hd => kk d (h.tr.lt d hd).2 (by rw [e2 d hd]; decide) (by rw [e2 d hd]; decide), by rw [List.map_append, List.length_append]; exact row_kept r fun d hd => ks d (fun ee => by
      have h1 := ho d hd
      rw [ee] at h1
      have h2 := (cc hb h.hlt).trans e1
      rw [h1] at h2
      omega), row_kept h.sr fun d hd => kk d (h.sr.lt d hd).2 (by rw [e4 d hd]; decide) (by rw [e4 d hd]; decide), cell_same _ c1, (World.frozen?_setCell _ _ _ _).trans c2, h.vl, fun j t b h1 h2 => (h.vs j t b h1 h2).kept (kk b (lv j b h2) (by rw [e5 j b h2]; omega) (by rw [e5 j b h2]; omega)) (by rw [World.size_setCell]; omega), h.lo, _, (cc _ h.hlt).trans e1, fun d hd => (cc _ (h.tr.lt d hd).2).trans (e2 d hd), ho, fun d hd => (cc _ (h.sr.lt d hd).2).trans (e4 d hd), fun k b hk => (cc _ (lv k b hk)).trans (e5 k b hk)⟩
/-- One more thing, with its row of words. -/
theorem Lq.appT {o : Obj} {tv' : Value} {t : Tg} {vb : Nat} (h : Lq S w hb tv rv sv ts vo lr l) (V : VAt w vb t.v) (hS : S ≤ vb) (hn : ¬ lqB hb tv rv sv vo vb) (r : w'.ownsRow S 43 6 tv' (ts.length + 1) (tcs ts vo ++ t.cells vb)) (g : (w.alloc o).grownBy w' tv.ownBlock) (ob : tv'.ownBlock = tv.ownBlock ∨ tv'.ownBlock = some (w.heap.size + 1)) :
    Lq S w' hb tv' rv sv (ts ++ [t]) (vo ++ [vb]) lr l := by
  obtain ⟨e, e1, e2, e3, e4, e5⟩ := h.col
  have s1 := g.size
  rw [World.size_alloc] at s1
  have kp : ∀ d, d < w.heap.size → tv.ownBlock ≠ some d → w'.heap[d]? = w.heap[d]? := fun d hd hne => (g.block d (by rw [World.size_alloc]; omega) (fun q => hne q.symm)).trans ((G.alloc w o).block d hd)
  have kc : ∀ d, d < w.heap.size → e d ≠ 2 → w'.heap[d]? = w.heap[d]? := fun d hd hne => kp d hd (fun q => hne (e2 d q))
  have cc : ∀ d, d < w.heap.size → lqB hb tv rv sv vo d → (fun d => if w.heap.size ≤ d then 2 else if d = vb then 10 + ts.length else e d) d = e d := fun d hd hl => by
    show (if w.heap.size ≤ d then 2 else if d = vb then 10 + ts.length else e d) = e d
    rw [if_neg (by omega), if_neg (fun ee => hn (by rw [← ee]; exact hl))]
  have kh := kc hb h.hlt (by rw [e1]; decide)
  have lm : ∀ (k : Nat) b, vo[k]? = some b → lqB hb tv rv sv vo b := fun k b hk => Or.inr (Or.inr (Or.inr (Or.inr (List.mem_of_getElem? hk))))
  have at_ : ∀ (k : Nat) b, (vo ++ [vb])[k]? = some b → (k < ts.length ∧ vo[k]? = some b) ∨ (k = ts.length ∧ b = vb) := fun k b hk => by
    rcases Nat.lt_or_ge k vo.length with hl | hl
    · rw [List.getElem?_append_left hl] at hk; exact Or.inl ⟨by rw [← h.vl]; exact hl, hk⟩
    · have hk2 := (List.getElem?_eq_some_iff.1 hk).1
      simp at hk2
      obtain rfl : k = vo.length := by omega
      simp at hk
      exact Or.inr ⟨h.vl, hk.symm⟩
  refine ⟨by rw [tcs_app h.vl, List.length_append]; exact r, row_kept h.rr fun d hd => kc d (h.rr.lt d hd).2 (by rw [e3 d hd]; decide), row_kept h.sr fun d hd => kc d (h.sr.lt d hd).2 (by rw [e4 d hd]; decide), (World.cell?_of_block (a := ⟨hb, 0, none⟩) kh).trans h.hc, (World.frozen?_of_block (a := ⟨hb, 0, none⟩) kh).trans h.hf, by simp [h.vl], fun j u b h1 h2 => ?_, ⟨h.lo.1, fun b hb2 => ?_⟩, _, (cc _ h.hlt (Or.inl rfl)).trans e1, fun d hd => ?_, fun d hd => (cc _ (h.rr.lt d hd).2 (Or.inr (Or.inr (Or.inl hd)))).trans (e3 d hd), fun d hd => (cc _ (h.sr.lt d hd).2 (Or.inr (Or.inr (Or.inr (Or.inl hd))))).trans (e4 d hd), fun k b hk => ?_⟩
  · rcases at_ j b h2 with ⟨hj, h2⟩ | ⟨rfl, rfl⟩
    · rw [List.getElem?_append_left hj] at h1
      exact (h.vs j u b h1 h2).kept (kc b (h.lt (lm j b h2)) (by rw [e5 j b h2]; omega)) (by omega)
    · simp at h1
      subst h1
      exact V.kept (kp b V.lt (fun q => hn (Or.inr (Or.inl q)))) (by omega)
  · rcases List.mem_append.1 hb2 with hm | hm
    · exact h.lo.2 b hm
    · simp at hm; rw [hm]; exact hS
  · rcases ob with q | q
    · rw [q] at hd; exact (cc d (h.tr.lt d hd).2 (Or.inr (Or.inl hd))).trans (e2 d hd)
    · rw [q] at hd; cases hd; exact if_pos (by omega)
  · rcases at_ k b hk with ⟨_, hk⟩ | ⟨rfl, rfl⟩
    · exact (cc b (h.lt (lm k b hk)) (lm k b hk)).trans (e5 k b hk)
    · show (if w.heap.size ≤ b then 2 else if b = b then 10 + ts.length else e b) = 10 + ts.length
      rw [if_neg (by have := V.lt; omega), if_pos rfl]
end
end Go.Proofs.YtahhkehijokhnaaGreatDoor

/- HeapPlays: its heap and its rows together. th: the things as the heap holds them, tl: as the law keeps them. -/
namespace Go.Proofs.YtahhkehijokhnaaGreatDoor
set_option maxRecDepth 100000
open Go.ChangeShapes Go.WideShapes Go.ChangeAt Go.RowKit Go.Maps

/-- Where all lies. -/
structure Lz where
  W : World
  x : Hx
  S : Nat
  hb : Nat
def Pq (L : Lz) (tv rv sv : Value) (th tl : List Tg) (vo : List Nat) (lr : List Int) (l ll : List Hd.Shp) (w : World) : Prop :=
  ∃ al ao cap nv c i, HS L.W w L.x al l l.length ao cap nv c ∧ Rm al 100 i ∧ i ≤ th.length ∧ Ts al l th ∧ Lq L.S w L.hb tv rv sv tl vo lr ll ∧ (∀ d, lqB L.hb tv rv sv vo d → c d = 9) ∧ (∀ d, w.heap.size ≤ d → c d = 9) ∧ (∀ s ∈ l, s.good = true ∧ s.m < 18446744073709551616) ∧ l.length ≤ 100
section
variable {L : Lz} {tv rv sv : Value} {th tl : List Tg} {vo : List Nat} {lr : List Int} {l ll : List Hd.Shp} {w w' : World}
theorem HS.nine {W : World} {x : Hx} {al : Al} {n : Nat} {ao : Option Addr} {cap : Nat} {nv : Value} {c : Nat → Nat} (h : HS W w x al l n ao cap nv c) : ∃ c', HS W w x al l n ao cap nv c' ∧ (∀ d, w.heap.size ≤ d → c' d = 9) ∧ ∀ d, d < w.heap.size → c' d = c d :=
  ⟨_, h.recol w h, fun _ hd => if_pos hd, fun _ hd => if_neg (by omega)⟩
theorem Pq.gr (h : Pq L tv rv sv th tl vo lr l ll w) (g : G w w') : Pq L tv rv sv th tl vo lr l ll w' := by
  obtain ⟨al, ao, cap, nv, c, i, H, R, hi, T, Q, n1, n2, gs, hl⟩ := h
  exact ⟨al, ao, cap, nv, c, i, H.gr g, R, hi, T, Q.gr g, n1, fun d hd => n2 d (Nat.le_trans g.size hd), gs, hl⟩
theorem Pq.below (h : Pq L tv rv sv th tl vo lr l ll w) : Below L.W.heap.size L.W w := by
  obtain ⟨al, ao, cap, nv, c, i, H, _⟩ := h
  exact H.ks.st.below
theorem good_kd {s : Hd.Shp} (h : s.good = true) : 0 ≤ s.k ∧ s.k ≤ 3 := by
  unfold Hd.Shp.good Hd.goodB at h
  split at h
  · omega
  · split at h
    · omega
    · cases h
/-- Make: it is made. -/
theorem pq_make (h : Hid (Pq L tv rv sv th tl vo lr l ll w)) {k : Nat} {s : Hd.Shp} (hk : l[k]? = some s) {wd : Nat} (w1 : 1 ≤ wd) (w2 : wd ≤ 64) (hn : th.length < 60) (ra : Value) :
    Calls Tryz.prog 8 #[.pointer (some ⟨L.x.hb, 0, none⟩), .int .i64 (k : Int), .int .i64 (wd : Int), ra] w fun r w' => ∃ v : Int, r = .returned (.tuple #[.int .i64 v, .int .i64 0]) ∧ v ≠ 0 ∧ Pq L tv rv sv (th ++ [⟨v, k, s, wd, List.replicate (wd - 1) 0⟩]) tl vo lr l ll w' := by
  obtain ⟨al, ao, cap, nv, c, i, H, R, hi, T, Q, n1, n2, gs, hl⟩ := unhide h
  have hkl := (List.getElem?_eq_some_iff.1 hk).1
  obtain ⟨al', v, e, R', hN, hK, hO⟩ := R.take (by omega) (n := (wd : Int)) (by omega) (by omega)
  refine (h_makeK (hide H) k hkl s hk (wd : Int) v (by omega) (by omega) al' (hide e) ra).mono ?_
  rintro r w' ⟨hr, H', kp⟩
  obtain ⟨c', H2, c1, c2⟩ := H'.nine
  refine ⟨v, hr, by have := hN.pos; omega, _, ao, cap, nv, c', i + 1, H2, R'.write v 0 _, by simp; omega, T.add hN R'.good hK hO w1 w2 hk (by omega) (good_kd (gs s (List.mem_of_getElem? hk)).1), Q.kept kp.1 fun d hd => kp.2 d (Q.lt hd) (by rw [n1 d hd]; omega), fun d hd => (c2 d (Nat.lt_of_lt_of_le (Q.lt hd) kp.1)).trans (n1 d hd), c1, gs, hl⟩
theorem pq_make_bad (h : Hid (Pq L tv rv sv th tl vo lr l ll w)) (k wd : Int) (hb : k < 0 ∨ (l.length : Int) ≤ k ∨ wd < 1 ∨ 64 < wd) (ra : Value) :
    Calls Tryz.prog 8 #[.pointer (some ⟨L.x.hb, 0, none⟩), .int .i64 k, .int .i64 wd, ra] w fun r w' => r = .returned (.tuple #[.int .i64 0, .int .i64 1]) ∧ w' = w := by
  obtain ⟨al, ao, cap, nv, c, i, H, _⟩ := unhide h
  exact h_make_bad (hide H) k wd hb ra
/-- Add. -/
theorem pq_add (h : Hid (Pq L tv rv sv th tl vo lr l ll w)) (s : Hd.Shp) (hs : s.Fit) (h64 : s.m < 18446744073709551616) (hl9 : l.length < 100) :
    Calls Tryz.prog 9 #[.pointer (some ⟨L.x.hb, 0, none⟩), .agg #[.int .i64 s.k, .int .i64 s.f, .int .u64 (s.m : Int)]] w fun r w' => r = .returned (.tuple #[.int .i64 (Hd.numV l s), .int .i64 (Hd.numE s)]) ∧ Pq L tv rv sv th tl vo lr (Hd.addS l s) ll w' := by
  obtain ⟨al, ao, cap, nv, c, i, H, R, hi, T, Q, n1, n2, gs, hl⟩ := unhide h
  refine (h_add9 (hide H) rfl (by omega) s hs).mono ?_
  rintro r w' ⟨hr, ⟨n', ao', cap', nv', c', hn', H', k9⟩, _⟩
  subst hn'
  obtain ⟨c2, H2, e1, e2⟩ := H'.nine
  refine ⟨hr, al, ao', cap', nv', c2, i, H2, R, hi, T.more s, Q.kept k9.1 fun d hd => (k9.2 d (Q.lt hd)).2 (n1 d hd), fun d hd => (e2 d (Nat.lt_of_lt_of_le (Q.lt hd) k9.1)).trans ((k9.2 d (Q.lt hd)).1.trans (n1 d hd)), e1, fun t ht => ?_, ?_⟩
  · unfold Hd.addS at ht
    split at ht
    · rename_i hg
      rcases List.mem_append.1 ht with hm | hm
      · exact gs t hm
      · simp at hm; rw [hm]; exact ⟨hg.1, h64⟩
    · exact gs t ht
  · unfold Hd.addS
    split
    · simp; omega
    · exact hl
/-- Set and Put: a word is written. -/
theorem pq_set (h : Hid (Pq L tv rv sv th tl vo lr l ll w)) {k : Nat} {t : Tg} (hk : th[k]? = some t) {f : Int} {ad : Bool} (hm : mayF t f ad = true) (v : Int) (br : Bool) (id : Int) :
    Calls Tryz.prog 21 #[.pointer (some ⟨L.x.hb, 0, none⟩), .int .i64 t.ad, .int .i64 f, .int .i64 v, .bool ad, .bool br, .int .i64 id] w fun e w' => e = .returned (.int .i64 0) ∧ Pq L tv rv sv (th.set k { t with v := t.v.set f.toNat v }) tl vo lr l ll w' := by
  obtain ⟨al, ao, cap, nv, c, i, H, R, hi, T, Q, n1, n2, gs, hl⟩ := unhide h
  obtain ⟨x, hx, hf, ef, hT⟩ := (T.all k t hk).getY hm
  refine (hq_set (fun s hs => (gs s hs).2) (hide H) t.ad f v ad br id x hT).mono ?_
  rintro e w' ⟨he, H', F⟩
  have e1 : wrap64 (f + 1) = ((f.toNat : Nat) : Int) + 1 := by rw [ef]; have := (T.all k t hk).w2; unfold wrap64; omega
  rw [e1] at H'
  obtain ⟨c2, H2, q1, q2⟩ := H'.nine
  have k9 := fr_nine H F
  exact ⟨he, _, ao, cap, nv, c2, i, H2, R.write t.ad _ v, by rw [List.length_set]; exact hi, T.put R.good hk hf v, Q.kept F.size fun d hd => k9 d (Q.lt hd) (n1 d hd), fun d hd => (q2 d (Nat.lt_of_lt_of_le (Q.lt hd) F.size)).trans (n1 d hd), q1, gs, hl⟩
theorem pq_put (h : Hid (Pq L tv rv sv th tl vo lr l ll w)) {k : Nat} {t : Tg} (hk : th[k]? = some t) {f : Nat} {ad : Bool} (hm : mayE t ad = true) (hf : f + 1 < t.wd) (v : Int) (br : Bool) (id : Int) :
    Calls Tryz.prog 16 #[.pointer (some ⟨L.x.hb, 0, none⟩), .int .i64 t.ad, .int .i64 (f : Int), .int .i64 v, .bool ad, .bool br, .int .i64 id] w fun e w' => e = .returned (.int .i64 0) ∧ Pq L tv rv sv (th.set k { t with v := t.v.set f v }) tl vo lr l ll w' := by
  obtain ⟨al, ao, cap, nv, c, i, H, R, hi, T, Q, n1, n2, gs, hl⟩ := unhide h
  have ht := T.all k t hk
  obtain ⟨x, hx, hT⟩ := ht.atY (gs _ (List.mem_of_getElem? ht.sh)).1 hm hf
  refine (hq_put (fun s hs => (gs s hs).2) (hide H) t.ad (f : Int) v ad br id x hT).mono ?_
  rintro e w' ⟨he, H', F⟩
  have e1 : wrap64 ((f : Int) + 1) = (f : Int) + 1 := by have := ht.w2; unfold wrap64; omega
  rw [e1] at H'
  obtain ⟨c2, H2, q1, q2⟩ := H'.nine
  have k9 := fr_nine H F
  exact ⟨he, _, ao, cap, nv, c2, i, H2, R.write t.ad _ v, by rw [List.length_set]; exact hi, T.put R.good hk hf v, Q.kept F.size fun d hd => k9 d (Q.lt hd) (n1 d hd), fun d hd => (q2 d (Nat.lt_of_lt_of_le (Q.lt hd) F.size)).trans (n1 d hd), q1, gs, hl⟩
end
section
variable {W w w' : World} {x : Hx} {al : Al} {l : List Hd.Shp} {n : Nat} {ao : Option Addr} {cap : Nat} {nv : Value} {c : Nat → Nat}
/-- Only blocks that are others' have been turned. -/
theorem HS.beside (h : HS W w x al l n ao cap nv c) (hb : Below W.heap.size W w') (hs : w.heap.size ≤ w'.heap.size) (k : ∀ d, d < w.heap.size → c d ≠ 9 → w'.heap[d]? = w.heap[d]?) : HS W w' x al l n ao cap nv c := by
  have kh := k x.hb h.hlt (by rw [h.c6]; decide)
  exact ⟨h.cyc hb hs fun d hd hc => k d hd (by omega), h.tab.kept (k _ h.tab.tlt (by rw [h.c3]; decide)) (k _ h.tab.mlt (by rw [h.c4]; decide)) (fun a ha => k _ (h.tab.aoB a ha).2 (by rw [h.c5 a ha]; decide)), (World.cell?_of_block (a := ⟨x.hb, 0, none⟩) kh).trans h.h0, (World.cell?_of_block (a := ⟨x.hb, 1, none⟩) kh).trans h.h1, (World.cell?_of_block (a := ⟨x.hb, 2, none⟩) kh).trans h.h2, (World.cell?_of_block (a := ⟨x.hb, 3, none⟩) kh).trans h.h3, fun i => (World.frozen?_of_block (a := ⟨x.hb, i, none⟩) kh).trans (h.hf i), nr_kept h.num (fun q hq => k q (h.nlt q hq) (by rw [h.c8 q hq]; decide)), h.mp.kept (k _ h.lt (by rw [h.c7]; decide)), h.lo, Nat.lt_of_lt_of_le h.lt hs, h.cA, h.cC, h.c3, h.c4, h.c5, h.c6, h.c7, h.c8⟩
end
section
variable {L : Lz} {tv rv sv tv' rv' sv' : Value} {th tl tl' : List Tg} {vo vo' : List Nat} {lr lr' : List Int} {l ll ll' : List Hd.Shp} {w w' : World}
/-- The law's own rows are turned. -/
theorem Pq.side (h : Pq L tv rv sv th tl vo lr l ll w) (Q' : Lq L.S w' L.hb tv' rv' sv' tl' vo' lr' ll') (hb : Below L.W.heap.size L.W w') (hs : w.heap.size ≤ w'.heap.size) (k : ∀ d, d < w.heap.size → ¬ lqB L.hb tv rv sv vo d → w'.heap[d]? = w.heap[d]?) (hn : ∀ d, lqB L.hb tv' rv' sv' vo' d → lqB L.hb tv rv sv vo d ∨ w.heap.size ≤ d) : Pq L tv' rv' sv' th tl' vo' lr' l ll' w' := by
  obtain ⟨al, ao, cap, nv, c, i, H, R, hi, T, Q, n1, n2, gs, hl⟩ := h
  refine ⟨al, ao, cap, nv, c, i, H.beside hb hs fun d hd hc => k d hd (fun hq => hc (n1 d hq)), R, hi, T, Q', fun d hd => ?_, fun d hd => n2 d (by omega), gs, hl⟩
  rcases hn d hd with e | e
  · exact n1 d e
  · exact n2 d e
/-- What is told of a thing, or of what is none. -/
theorem pq_get (h : Hid (Pq L tv rv sv th tl vo lr l ll w)) (a f : Int) (ad : Bool) : ∃ T : Int × Int, ((∀ (k : Nat) t, th[k]? = some t → t.ad ≠ a) → T = (0, 1)) ∧ (∀ (k : Nat) t, th[k]? = some t → t.ad = a → (mayF t f ad = true → ∃ x, t.v[f.toNat]? = some x ∧ T = (x, 0)) ∧ (mayF t f ad = false → T = (0, 1))) ∧
    Calls Tryz.prog 20 #[.pointer (some ⟨L.x.hb, 0, none⟩), .int .i64 a, .int .i64 f, .bool ad] w fun e w' => e = .returned (.tuple #[.int .i64 T.1, .int .i64 T.2]) ∧ G w w' := by
  obtain ⟨al, ao, cap, nv, c, i, H, R, hi, T, Q, n1, n2, gs, hl⟩ := unhide h
  refine ⟨getT al l a f ad, fun hn => (none_T (T.none hn)).1 f ad, fun k t hk ha => ?_, h_get (hide H) a f ad⟩
  subst ha
  refine ⟨fun hm => ?_, fun hm => (T.all k t hk).getN hm⟩
  obtain ⟨x, h1, _, _, h2⟩ := (T.all k t hk).getY hm
  exact ⟨x, h1, h2⟩
theorem pq_of (h : Hid (Pq L tv rv sv th tl vo lr l ll w)) {k : Nat} {t : Tg} (hk : th[k]? = some t) : Calls Tryz.prog 12 #[.pointer (some ⟨L.x.hb, 0, none⟩), .int .i64 t.ad] w fun e w' => e = .returned (.tuple #[.agg #[.int .i64 (t.wd : Int), .int .i64 t.s.k, .int .i64 (t.nm : Int)], .agg #[.int .i64 t.s.k, .int .i64 t.s.f, .int .u64 (t.s.m : Int)], .bool true]) ∧ G w w' := by
  obtain ⟨al, ao, cap, nv, c, i, H, R, hi, T, Q, n1, n2, gs, hl⟩ := unhide h
  have := h_of (hide H) t.ad
  rw [(T.all k t hk).of] at this
  exact this
theorem pq_at (h : Hid (Pq L tv rv sv th tl vo lr l ll w)) (a f : Int) (ad : Bool) : ∃ T : Int × Int, ((∀ (k : Nat) t, th[k]? = some t → t.ad ≠ a) → T = (0, 1)) ∧ (∀ (k : Nat) t, th[k]? = some t → t.ad = a → (mayE t ad = false → T = (0, 1)) ∧ (mayE t ad = true → (f < 0 ∨ (t.wd : Int) - 2 < f → T = (0, 2)) ∧ (0 ≤ f → f ≤ (t.wd : Int) - 2 → ∃ x, t.v[f.toNat]? = some x ∧ T = (x, 0)))) ∧
    Calls Tryz.prog 17 #[.pointer (some ⟨L.x.hb, 0, none⟩), .int .i64 a, .int .i64 f, .bool ad] w fun e w' => e = .returned (.tuple #[.int .i64 T.1, .int .i64 T.2]) ∧ G w w' := by
  obtain ⟨al, ao, cap, nv, c, i, H, R, hi, T, Q, n1, n2, gs, hl⟩ := unhide h
  refine ⟨atT al l a f ad, fun hn => (none_T (T.none hn)).2.1 f ad, fun k t hk ha => ?_, h_at (hide H) a f ad⟩
  subst ha
  have ht := T.all k t hk
  have hg := (gs _ (List.mem_of_getElem? ht.sh)).1
  refine ⟨fun hm => ht.atN hg hm, fun hm => ⟨fun ho => ht.atO hg hm ho, fun f0 f1 => ?_⟩⟩
  obtain ⟨n, rfl⟩ : ∃ n : Nat, f = n := ⟨f.toNat, by omega⟩
  obtain ⟨x, h1, h2⟩ := ht.atY hg (i := n) hm (by omega)
  exact ⟨x, by rw [Int.toNat_natCast]; exact h1, h2⟩
theorem pq_len (h : Hid (Pq L tv rv sv th tl vo lr l ll w)) (a : Int) : ∃ T : Int × Int, ((∀ (k : Nat) t, th[k]? = some t → t.ad ≠ a) → T = (0, 1)) ∧ (∀ (k : Nat) t, th[k]? = some t → t.ad = a → (t.s.k = 1 → T = ((t.wd : Int) - 1, 0)) ∧ (t.s.k ≠ 1 → T = (0, 1))) ∧
    Calls Tryz.prog 22 #[.pointer (some ⟨L.x.hb, 0, none⟩), .int .i64 a] w fun e w' => e = .returned (.tuple #[.int .i64 T.1, .int .i64 T.2]) ∧ G w w' := by
  obtain ⟨al, ao, cap, nv, c, i, H, R, hi, T, Q, n1, n2, gs, hl⟩ := unhide h
  refine ⟨lenT al l a, fun hn => (none_T (T.none hn)).2.2, fun k t hk ha => ?_, h_len (hide H) a⟩
  subst ha
  exact ⟨fun h1 => (T.all k t hk).lenY h1, fun h1 => (T.all k t hk).lenN h1⟩
/-- Set where it is a trap. -/
theorem pq_set_no (h : Hid (Pq L tv rv sv th tl vo lr l ll w)) (a f v : Int) (ad br : Bool) (id : Int) (hc : (∀ (k : Nat) t, th[k]? = some t → t.ad ≠ a) ∨ ∃ (k : Nat) (t : Tg), th[k]? = some t ∧ t.ad = a ∧ mayF t f ad = false) : Calls Tryz.prog 21 #[.pointer (some ⟨L.x.hb, 0, none⟩), .int .i64 a, .int .i64 f, .int .i64 v, .bool ad, .bool br, .int .i64 id] w fun e w' => e = .returned (.int .i64 1) ∧ G w w' := by
  obtain ⟨al, ao, cap, nv, c, i, H, R, hi, T, Q, n1, n2, gs, hl⟩ := unhide h
  refine hq_set_no (hide H) a f v ad br id 1 ?_ (by decide)
  rcases hc with hn | ⟨k, t, hk, rfl, hm⟩
  · exact (none_T (T.none hn)).1 f ad
  · exact (T.all k t hk).getN hm
/-- Put where it is a trap. -/
theorem pq_put_no (h : Hid (Pq L tv rv sv th tl vo lr l ll w)) (a f v : Int) (ad br : Bool) (id : Int) (hc : (∀ (k : Nat) t, th[k]? = some t → t.ad ≠ a) ∨ ∃ (k : Nat) (t : Tg), th[k]? = some t ∧ t.ad = a ∧ mayE t ad = false) : Calls Tryz.prog 16 #[.pointer (some ⟨L.x.hb, 0, none⟩), .int .i64 a, .int .i64 f, .int .i64 v, .bool ad, .bool br, .int .i64 id] w fun e w' => e = .returned (.int .i64 1) ∧ G w w' := by
  obtain ⟨al, ao, cap, nv, c, i, H, R, hi, T, Q, n1, n2, gs, hl⟩ := unhide h
  refine hq_put_no (hide H) a f v ad br id 1 ?_ (by decide)
  rcases hc with hn | ⟨k, t, hk, rfl, hm⟩
  · exact (none_T (T.none hn)).2.1 f ad
  · exact (T.all k t hk).atN (gs _ (List.mem_of_getElem? (T.all k t hk).sh)).1 hm
theorem pq_put_out (h : Hid (Pq L tv rv sv th tl vo lr l ll w)) {k : Nat} {t : Tg} (hk : th[k]? = some t) (f v : Int) (ad br : Bool) (id : Int) (hm : mayE t ad = true) (ho : f < 0 ∨ (t.wd : Int) - 2 < f) : Calls Tryz.prog 16 #[.pointer (some ⟨L.x.hb, 0, none⟩), .int .i64 t.ad, .int .i64 f, .int .i64 v, .bool ad, .bool br, .int .i64 id] w fun e w' => e = .returned (.int .i64 2) ∧ G w w' := by
  obtain ⟨al, ao, cap, nv, c, i, H, R, hi, T, Q, n1, n2, gs, hl⟩ := unhide h
  exact hq_put_no (hide H) t.ad f v ad br id 2 ((T.all k t hk).atO (gs _ (List.mem_of_getElem? (T.all k t hk).sh)).1 hm ho) (by decide)
theorem pq_forced (h : Hid (Pq L tv rv sv th tl vo lr l ll w)) : Calls Tryz.prog 13 #[.pointer (some ⟨L.x.hb, 0, none⟩)] w fun e w' => e = .returned (.int .i64 0) ∧ w' = w := by
  obtain ⟨al, ao, cap, nv, c, i, H, R, hi, T, Q, n1, n2, gs, hl⟩ := unhide h
  exact h_forced (hide H)
end
end Go.Proofs.YtahhkehijokhnaaGreatDoor

/- A list of calls that came in (package gantlinelaw14). -/
namespace Go.Proofs.YtahhkehijokhnaaGreatDoor
set_option maxRecDepth 100000
open Go.ChangeShapes Go.WideShapes Go.ChangeAt Go.RowKit Go.Deep

/-- A call. -/
structure Ac where
  op : Int
  sh : Int
  n : Int
  k : Int
  f : Int
  v : Int
  ad : Bool
  raw : Bool
  s : Hd.Shp
def Ac.cells (x : Ac) : List Value := [.int .i64 x.op, .int .i64 x.sh, .int .i64 x.n, .int .i64 x.k, .int .i64 x.f, .int .i64 x.v, .bool x.ad, .bool x.raw, .int .i64 x.s.k, .int .i64 x.s.f, .int .u64 (x.s.m : Int)]
def Ac.val (x : Ac) : Value := .agg #[.int .i64 x.op, .int .i64 x.sh, .int .i64 x.n, .int .i64 x.k, .int .i64 x.f, .int .i64 x.v, .bool x.ad, .bool x.raw, .int .i64 x.s.k, .int .i64 x.s.f, .int .u64 (x.s.m : Int)]
def Ac.obj (x : Ac) : Obj := .cells #[.int .i64 x.op, .int .i64 x.sh, .int .i64 x.n, .int .i64 x.k, .int .i64 x.f, .int .i64 x.v, .bool x.ad, .bool x.raw, .int .i64 x.s.k, .int .i64 x.s.f, .int .u64 (x.s.m : Int)] 39
structure Ac.Fit (x : Ac) : Prop where
  f0 : (Lit.int .i64 x.f).wf = true
  s0 : x.s.Fit
theorem cells_act : Tryz.prog.cellsOf 39 = 11 := by kernel_rfl
theorem cells_shpA : Tryz.prog.cellsOf 37 = 3 := by kernel_rfl
theorem cells_intA : Tryz.prog.cellsOf 3 = 1 := by kernel_rfl
theorem cells_i64A : Tryz.prog.cellsOf 2 = 1 := by kernel_rfl
theorem cells_u64A : Tryz.prog.cellsOf 35 = 1 := by kernel_rfl
theorem cells_boolA : Tryz.prog.cellsOf 4 = 1 := by kernel_rfl

theorem trod_struct9 {P : Program} {H : Type} {enc : TypeId × Value → H} {w : World} {base : Nat} {spare : Nat → Bool} {held : Bool} {t : TypeId} {f0 f1 f2 f3 f4 f5 f6 f7 f8 : Field} {fuel : Nat} {cs : List Value} {x : DataW H × List MemPlace} (ht : P.underlying t = some (.struct #[f0, f1, f2, f3, f4, f5, f6, f7, f8])) (h : DataW.trod enc P w base spare held fuel t cs = some x) :
    ∃ y0 y1 y2 y3 y4 y5 y6 y7 y8 n, cs.length = P.cellsOf t ∧ DataW.trod enc P w base spare held n f0.type ((cs.drop f0.offset).take (P.cellsOf f0.type)) = some y0 ∧ DataW.trod enc P w base spare held n f1.type ((cs.drop f1.offset).take (P.cellsOf f1.type)) = some y1 ∧ DataW.trod enc P w base spare held n f2.type ((cs.drop f2.offset).take (P.cellsOf f2.type)) = some y2 ∧ DataW.trod enc P w base spare held n f3.type ((cs.drop f3.offset).take (P.cellsOf f3.type)) = some y3 ∧ DataW.trod enc P w base spare held n f4.type ((cs.drop f4.offset).take (P.cellsOf f4.type)) = some y4 ∧ DataW.trod enc P w base spare held n f5.type ((cs.drop f5.offset).take (P.cellsOf f5.type)) = some y5 ∧ DataW.trod enc P w base spare held n f6.type ((cs.drop f6.offset).take (P.cellsOf f6.type)) = some y6 ∧ DataW.trod enc P w base spare held n f7.type ((cs.drop f7.offset).take (P.cellsOf f7.type)) = some y7 ∧ DataW.trod enc P w base spare held n f8.type ((cs.drop f8.offset).take (P.cellsOf f8.type)) = some y8 := by
  obtain ⟨xs, n, _, rfl, hl, hlen, hf⟩ := DataW.trod_struct ht h
  match xs, hlen with
  | [y0, y1, y2, y3, y4, y5, y6, y7, y8], _ => exact ⟨y0, y1, y2, y3, y4, y5, y6, y7, y8, n, hl, by simpa using hf 0 f0 rfl, by simpa using hf 1 f1 rfl, by simpa using hf 2 f2 rfl, by simpa using hf 3 f3 rfl, by simpa using hf 4 f4 rfl, by simpa using hf 5 f5 rfl, by simpa using hf 6 f6 rfl, by simpa using hf 7 f7 rfl, by simpa using hf 8 f8 rfl⟩
theorem trod_struct3A {P : Program} {H : Type} {enc : TypeId × Value → H} {w : World} {base : Nat} {spare : Nat → Bool} {held : Bool} {t : TypeId} {f0 f1 f2 : Field} {fuel : Nat} {cs : List Value} {x : DataW H × List MemPlace} (ht : P.underlying t = some (.struct #[f0, f1, f2])) (h : DataW.trod enc P w base spare held fuel t cs = some x) :
    ∃ y0 y1 y2 n, cs.length = P.cellsOf t ∧ DataW.trod enc P w base spare held n f0.type ((cs.drop f0.offset).take (P.cellsOf f0.type)) = some y0 ∧ DataW.trod enc P w base spare held n f1.type ((cs.drop f1.offset).take (P.cellsOf f1.type)) = some y1 ∧ DataW.trod enc P w base spare held n f2.type ((cs.drop f2.offset).take (P.cellsOf f2.type)) = some y2 := by
  obtain ⟨xs, n, _, rfl, hl, hlen, hf⟩ := DataW.trod_struct ht h
  match xs, hlen with
  | [y0, y1, y2], _ => exact ⟨y0, y1, y2, n, hl, by simpa using hf 0 f0 rfl, by simpa using hf 1 f1 rfl, by simpa using hf 2 f2 rfl⟩
theorem shpA_of_cells {H : Type} {enc : TypeId × Value → H} {w : World} {base : Nat} {spare : Nat → Bool} {held : Bool} {fuel : Nat} {cs : List Value} {x : DataW H × List MemPlace}
    (hf : DataW.trod enc Tryz.prog w base spare held fuel 37 cs = some x) : ∃ s : Hd.Shp, cs = s.cells ∧ s.Fit := by
  obtain ⟨y0, y1, y2, n, hl, t0, t1, t2⟩ := trod_struct3A Tryz.underlying37 hf
  rw [cells_shpA] at hl
  match cs, hl with
  | [x0, x1, x2], _ =>
    simp only [cells_intA, cells_u64A, List.take, List.drop] at t0 t1 t2
    obtain ⟨a, e0, _, w0⟩ := DataW.trod_int Tryz.underlying3 t0
    obtain ⟨b, e1, _, w1⟩ := DataW.trod_int Tryz.underlying3 t1
    obtain ⟨c, e2, _, w2⟩ := DataW.trod_int Tryz.underlying35 t2
    simp at e0 e1 e2
    subst e0 e1 e2
    have hb := bounds_u64 w2
    obtain ⟨m, rfl⟩ := Int.eq_ofNat_of_zero_le hb.1
    exact ⟨⟨a, b, m⟩, rfl, w0, w1, by show m < _; omega⟩

theorem act_of_cells {H : Type} {enc : TypeId × Value → H} {w : World} {base : Nat} {spare : Nat → Bool} {held : Bool} {fuel : Nat} {cs : List Value} {x : DataW H × List MemPlace}
    (hf : DataW.trod enc Tryz.prog w base spare held fuel 39 cs = some x) : ∃ s : Ac, cs = s.cells ∧ s.Fit := by
  obtain ⟨y0, y1, y2, y3, y4, y5, y6, y7, y8, n, hl, t0, t1, t2, t3, t4, t5, t6, t7, t8⟩ := trod_struct9 Tryz.underlying39 hf
  rw [cells_act] at hl
  match cs, hl with
  | [x0, x1, x2, x3, x4, x5, x6, x7, x8, x9, x10], _ =>
    simp only [cells_intA, cells_i64A, cells_boolA, cells_shpA, List.take, List.drop] at t0 t1 t2 t3 t4 t5 t6 t7 t8
    obtain ⟨a0, e0, _⟩ := DataW.trod_int Tryz.underlying3 t0
    obtain ⟨a1, e1, _⟩ := DataW.trod_int Tryz.underlying3 t1
    obtain ⟨a2, e2, _⟩ := DataW.trod_int Tryz.underlying3 t2
    obtain ⟨a3, e3, _⟩ := DataW.trod_int Tryz.underlying3 t3
    obtain ⟨a4, e4, _, w4⟩ := DataW.trod_int Tryz.underlying2 t4
    obtain ⟨a5, e5, _⟩ := DataW.trod_int Tryz.underlying2 t5
    obtain ⟨a6, e6, _⟩ := DataW.trod_bool Tryz.underlying4 t6
    obtain ⟨a7, e7, _⟩ := DataW.trod_bool Tryz.underlying4 t7
    obtain ⟨s, e8, hs⟩ := shpA_of_cells t8
    simp [Hd.Shp.cells] at e0 e1 e2 e3 e4 e5 e6 e7 e8
    obtain ⟨e8, e9, e10⟩ := e8
    subst e0 e1 e2 e3 e4 e5 e6 e7 e8 e9 e10
    exact ⟨⟨a0, a1, a2, a3, a4, a5, a6, a7, s⟩, rfl, w4, hs⟩

/-- The cells of a call at an address. -/
def ActAt (w : World) (b o : Nat) (x : Ac) : Prop := ∀ (j : Nat) v, x.cells[j]? = some v → w.cell? ⟨b, o + j, none⟩ = some v

/-- The calls l lie at ao in w. -/
def IsActs (w : World) (ao : Option Addr) (n : Nat) (l : List Ac) : Prop :=
  l.length = n ∧ n ≤ maxLen ∧ (n = 0 ∨ ∃ b off, ao = some ⟨b, off, none⟩ ∧ b < w.heap.size ∧ ∀ i s, l[i]? = some s → ActAt w b (off + i * 11) s ∧ s.Fit)

theorem spot_none {w : World} {a : Addr} {v : Value} (h : w.cell? a = some v) : a = ⟨a.block, a.off, none⟩ := by
  obtain ⟨b, o, sp⟩ := a
  cases sp with
  | none => rfl
  | some x =>
    unfold World.cell? at h
    split at h <;> simp at h

theorem open_acts {H : Type} {enc : TypeId × Value → H} {w : World} {base b0 : Nat} {spare : Nat → Bool} {held : Bool} {r : Reach} {v : Value} {d : DataW H} {ps : List MemPlace}
    (hval : Value.okWide Tryz.prog w r b0 22 v) (hd : DataW.Trod enc Tryz.prog w base spare held 22 v d ps) :
    ∃ ao n c l, v = .slice ao n c ∧ IsActs w ao n l := by
  obtain ⟨ao, len, cap, rfl⟩ := okWide_slice Tryz.underlying22 hval
  obtain ⟨fuel, hf⟩ := hd
  rcases open_slice Tryz.underlying22 hf with ⟨hcs, _⟩ | ⟨a, len', cap', m, n, D, Pl, hcs, _, hl, hm, em, _, hel⟩
  · simp [Value.cells] at hcs
    obtain ⟨rfl, rfl, rfl⟩ := hcs
    exact ⟨none, 0, 0, [], rfl, rfl, Nat.zero_le _, Or.inl rfl⟩
  · simp [Value.cells] at hcs
    obtain ⟨rfl, rfl, rfl⟩ := hcs
    have hlm : len ≤ m := by rw [em]; split <;> omega
    have hs : ∀ i, i < len → ∃ s : Ac, w.cells? base (a.add (i * 11)) 11 = some s.cells ∧ s.Fit := by
      intro i hi
      obtain ⟨cs', h1, h2⟩ := hel i (by omega)
      rw [cells_act] at h1
      obtain ⟨s, rfl, hs⟩ := act_of_cells h2
      exact ⟨s, h1, hs⟩
    have : Inhabited Ac := ⟨⟨0, 0, 0, 0, 0, 0, false, false, ⟨0, 0, 0⟩⟩⟩
    obtain ⟨S, hS⟩ := choose_lt hs
    refine ⟨some a, len, cap, (List.range len).map S, rfl, by simp, by omega, ?_⟩
    by_cases h0 : len = 0
    · exact Or.inl h0
    right
    have hc : ∀ i, i < len → ∀ j, j < 11 → w.cell? ((a.add (i * 11)).add j) = (S i).cells[j]? := fun i hi j hj => (World.cells?_some (hS i hi).1).2.2 j hj
    have hz := hc 0 (by omega) 0 (by omega)
    simp [Ac.cells, Addr.add] at hz
    have ea := spot_none hz
    obtain ⟨ab, aoff, asp⟩ := a
    simp at ea
    subst ea
    refine ⟨ab, aoff, rfl, World.block_lt_of_cell? w _ hz, ?_⟩
    intro i s hi
    have hil : i < len := by
      have := (List.getElem?_eq_some_iff.1 hi).1
      simpa using this
    obtain rfl : S i = s := by simpa [hil] using hi
    refine ⟨fun j v hj => ?_, (hS i hil).2⟩
    have hj11 : j < 11 := by
      have := (List.getElem?_eq_some_iff.1 hj).1
      simpa [Ac.cells] using this
    have c0 := hc i hil j hj11
    rw [Addr.add_lit, Addr.add_lit] at c0
    exact c0.trans hj

theorem IsActs.at_ {W w : World} {ao : Option Addr} {n : Nat} {l : List Ac} (h : IsActs W ao n l) (hb : Below W.heap.size W w) {i : Nat} (hi : i < n) : ∃ s b off, l[i]? = some s ∧ ao = some ⟨b, off, none⟩ ∧ b < w.heap.size ∧ ActAt w b (off + i * 11) s ∧ s.Fit := by
  obtain ⟨h1, _, h3⟩ := h
  rcases h3 with h3 | ⟨b, off, rfl, hlt, h3⟩
  · omega
  · obtain ⟨s, hs⟩ : ∃ s, l[i]? = some s := ⟨l[i]'(by omega), List.getElem?_eq_getElem (by omega)⟩
    obtain ⟨c0, c1⟩ := h3 i s hs
    have e : ∀ o, w.cell? ⟨b, o, none⟩ = W.cell? ⟨b, o, none⟩ := fun o => World.cell?_of_block (hb.block b hlt)
    exact ⟨s, b, off, hs, rfl, Nat.lt_of_lt_of_le hlt hb.size, fun j v hj => (e _).trans (c0 j v hj), c1⟩
end Go.Proofs.YtahhkehijokhnaaGreatDoor
