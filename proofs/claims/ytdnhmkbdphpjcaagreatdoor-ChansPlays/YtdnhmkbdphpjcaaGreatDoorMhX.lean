/- Here, one behind the other: CycK5, HeadTab4, HpK, HpMem, HpOf, HpOf2, HpGet, HpMake, HpV, CzP, HpAdd, HpNew, HpNew2, CzV, CzV2, CzV3, CzV4, CzV5, CzV6, CzV7, CzV8, CzH, CzStep, AllocKeepP, AllocFullP, CpP, CpMem, CpW1, GreyAll, GreyAwake, GreyRow, CpW2, CpActs. -/
import Derived.Test.YtdnhmkbdphpjcaaGreatDoorCycK4
import Derived.Test.YtdnhmkbdphpjcaaGreatDoorHeadTab3
import Derived.Maps.OwnSet
import Derived.Deep.DeepCutAuto
import Derived.Deep.RegionHeld3
import Derived.Test.YtdnhmkbdphpjcaaGreatDoorAllocPlain
import Derived.Test.YtdnhmkbdphpjcaaGreatDoorApartPlain
import Derived.Laws.OwnMore
import Derived.Test.YtdnhmkbdphpjcaaGreatDoorGreyQ
import Derived.Test.YtdnhmkbdphpjcaaGreatDoorArenaBase
import Derived.Deep.Strs
/- The program's Cycle while nothing is held: Barrier, Born, Scan while it is off; Take; Start; what steps till it is off. -/
namespace Go.Proofs.YtdnhmkbdphpjcaaGreatDoor
set_option maxRecDepth 100000
open Go.ChangeShapes Go.WideShapes Go.ChangeAt Go.RowKit Go.Maps
section
variable {W w w' : World} {xl : Ld} {b : Kn} {hb : Nat} {s s' : Pk}
theorem k_barrier0 {al : Al} {kept done : Int} (h : Hid (KS W w xl b al 0 kept done)) (x y i : Int) : Calls Tryz.prog 63 #[.pointer (some ⟨b.cb, 0, none⟩), .int .i64 x, .int .i64 y, .int .i64 i] w fun e w' => e = .returned (.tuple #[]) ∧ w' = w := by
  have C := hide (k_shades h)
  go_enter Tryz.func63, Tryz.ntmps63
  go_wp2_with fail
  refine (unhide C).mono ?_
  rintro r w1 ⟨rfl, hw1⟩
  subst hw1
  clear C
  go_wp2_with fail
  go_returns
  exact ⟨rfl, rfl⟩
theorem k_scan0 {al : Al} {kept done : Int} (h : Hid (KS W w xl b al 0 kept done)) (r : Value) (i : Int) : Calls Tryz.prog 26 #[.pointer (some ⟨b.cb, 0, none⟩), r, .int .i64 i] w fun e w' => e = .returned (.bool false) ∧ w' = w := by
  have C := hide (k_shades h)
  go_enter Tryz.func26, Tryz.ntmps26
  go_wp2_with fail
  refine (unhide C).mono ?_
  rintro r w1 ⟨rfl, hw1⟩
  subst hw1
  clear C
  go_wp2_with fail
  go_ret
  exact ⟨rfl, rfl⟩
theorem l_clear {al : Al} (h : Hid (StL W w xl al)) : Calls Tryz.prog 46 #[.pointer (some ⟨xl.d.ab, 0, none⟩)] w fun e w' => e = .returned (.tuple #[]) ∧ StL W w' xl ⟨al.a.clear, al.u⟩ ∧ TnL w w' xl :=
  (st_clear (hide (unhide h).st)).mono fun _ _ hh => ⟨hh.1, (unhide h).turn hh.2.1 hh.2.2 rfl, TnL.of_Tn hh.2.2⟩
/-- A taking: the place is marked at once, while things are shaded. -/
def Pk.take (s : Pk) (n : Int) : Pk := if (s.al.take n).2.2 = 0 ∧ (s.ph = 1 ∨ s.ph = 2) then ⟨⟨(s.al.take n).1.a.markA (s.al.take n).2.1, (s.al.take n).1.u⟩, s.ph, s.kept, s.done⟩ else ⟨(s.al.take n).1, s.ph, s.kept, s.done⟩
theorem k_take_no (h : Hid (KH W w xl b hb s)) (n v e : Int) (al' : Al) (hR : Hid (s.al.take n = (al', v, e))) (he : (e != 0) = true) : Calls Tryz.prog 64 #[.pointer (some ⟨b.cb, 0, none⟩), .int .i64 n] w fun r w' => r = .returned (.tuple #[.int .i64 0, .int .i64 e]) ∧ KH W w' xl b hb ⟨al', s.ph, s.kept, s.done⟩ := by
  have c1 := (unhide h).ks.c1
  have C := hide (l_take (hide (unhide h).ks.st) n)
  rw [unhide hR] at C
  simp only at C
  go_enter Tryz.func64, Tryz.ntmps64
  go_wp2_with fail
  refine (unhide C).mono ?_
  rintro r w1 ⟨rfl, s1, t1⟩
  have h1 := hide ((unhide h).turn (s' := ⟨al', s.ph, s.kept, s.done⟩) ((unhide h).ks.turn s1 t1) t1)
  clear C s1 t1
  go_wp2_with fail
  go_ret2
  exact ⟨rfl, unhide h1⟩
theorem k_take_off (h : Hid (KH W w xl b hb s)) (n v : Int) (al' : Al) (hR : Hid (s.al.take n = (al', v, 0))) (hp : (s.ph == 1 || s.ph == 2) = false) : Calls Tryz.prog 64 #[.pointer (some ⟨b.cb, 0, none⟩), .int .i64 n] w fun r w' => r = .returned (.tuple #[.int .i64 v, .int .i64 0]) ∧ KH W w' xl b hb ⟨al', s.ph, s.kept, s.done⟩ := by
  have c1 := (unhide h).ks.c1
  have C := hide (l_take (hide (unhide h).ks.st) n)
  rw [unhide hR] at C
  simp only at C
  go_enter Tryz.func64, Tryz.ntmps64
  go_wp2_with fail
  refine (unhide C).mono ?_
  rintro r w1 ⟨rfl, s1, t1⟩
  have h1 := hide ((unhide h).turn (s' := ⟨al', s.ph, s.kept, s.done⟩) ((unhide h).ks.turn s1 t1) t1)
  have C2 := hide (k_shades (hide (unhide h1).ks))
  simp only [hp] at C2
  clear C s1 t1
  go_wp2_with fail
  refine (unhide C2).mono ?_
  rintro r w2 ⟨rfl, hw2⟩
  subst hw2
  clear C2
  go_wp2_with fail
  go_ret2
  exact ⟨rfl, unhide h1⟩
theorem k_take_on (h : Hid (KH W w xl b hb s)) (n v : Int) (al' : Al) (hR : Hid (s.al.take n = (al', v, 0))) (hp : (s.ph == 1 || s.ph == 2) = true) : Calls Tryz.prog 64 #[.pointer (some ⟨b.cb, 0, none⟩), .int .i64 n] w fun r w' => r = .returned (.tuple #[.int .i64 v, .int .i64 0]) ∧ KH W w' xl b hb ⟨⟨al'.a.markA v, al'.u⟩, s.ph, s.kept, s.done⟩ := by
  have c1 := (unhide h).ks.c1
  have C := hide (l_take (hide (unhide h).ks.st) n)
  rw [unhide hR] at C
  simp only at C
  go_enter Tryz.func64, Tryz.ntmps64
  go_wp2_with fail
  refine (unhide C).mono ?_
  rintro r w1 ⟨rfl, s1, t1⟩
  have h1 := hide ((unhide h).turn (s' := ⟨al', s.ph, s.kept, s.done⟩) ((unhide h).ks.turn s1 t1) t1)
  have C2 := hide (k_shades (hide (unhide h1).ks))
  simp only [hp] at C2
  have c0 := (unhide h1).ks.c0
  have C3 := hide (ls_mark (hide (unhide h1).ks.st) v)
  clear C s1 t1
  go_wp2_with fail
  refine (unhide C2).mono ?_
  rintro r w2 ⟨rfl, hw2⟩
  subst hw2
  clear C2
  go_wp2_with fail
  refine (unhide C3).mono ?_
  rintro r w3 ⟨rfl, s3, t3⟩
  have h3 := hide ((unhide h1).turn (s' := ⟨⟨al'.a.markA v, al'.u⟩, s.ph, s.kept, s.done⟩) ((unhide h1).ks.turn s3 t3) t3)
  clear C3 s3 t3
  go_wp2_with fail
  go_ret2
  exact ⟨rfl, unhide h3⟩
theorem k_start1 (h : Hid (KH W w xl b hb s)) (hp : (s.ph != 0) = true) (r : Value) : Calls Tryz.prog 25 #[.pointer (some ⟨b.cb, 0, none⟩), r] w fun e w' => e = .returned (.bool false) ∧ w' = w := by
  have c4 := (unhide h).ks.c4
  go_enter Tryz.func25, Tryz.ntmps25
  go_wp2_with fail
  go_ret
  exact ⟨rfl, rfl⟩
end
end Go.Proofs.YtdnhmkbdphpjcaaGreatDoor

/- The contract of a Table's Number, in one. -/
namespace Go.Proofs.YtdnhmkbdphpjcaaGreatDoor.Hd
set_option maxRecDepth 100000
open Go.RowKit Go.Maps Go.ChangeShapes Go.WideShapes Go.ChangeAt Go.Deep

/-- A shape that may be. -/
def Shp.good (s : Shp) : Bool := goodB s.k s.f s.m
/-- The shapes of a table behind Number. -/
def addS (l : List Shp) (s : Shp) : List Shp := if s.good = true ∧ s ∉ l then l ++ [s] else l
/-- What Number answers. -/
def numV (l : List Shp) (s : Shp) : Int := if s.good = true then (l.idxOf s : Int) else 0
def numE (s : Shp) : Int := if s.good = true then 0 else 1

theorem TabAt.ne {w : World} {B tb mb : Nat} {ao : Option Addr} {cap : Nat} {l : List Shp} (h : TabAt w B tb mb ao cap l) : tb ≠ mb ∧ (∀ a, ao = some a → a.block ≠ mb) ∧ (∀ a, ao = some a → a.block ≠ tb) := by
  obtain ⟨D, ⟨es, clock, hm, _⟩, _⟩ := h.map
  have hrow := h.row
  refine ⟨?_, ?_, ?_⟩
  · rintro rfl
    have := h.blk
    rw [hm] at this
    cases this
  · rintro a rfl rfl
    rcases hrow.2 with ⟨e, _⟩ | ⟨g, c, cur, e, _, hg, _⟩
    · cases e
    · injection e with e
      injection e with e
      subst e
      rw [hm] at hg
      cases hg
  · rintro a rfl rfl
    rcases hrow.2 with ⟨e, _⟩ | ⟨g, c, cur, e, _, hg, _⟩
    · cases e
    · injection e with e
      injection e with e
      subst e
      have h1 := h.blk
      rw [hg] at h1
      cases h1

theorem tab_add {w w' : World} {B tb mb : Nat} {ao : Option Addr} {cap g cap' : Nat} {l : List Shp} {D : DataW Unit} {s : Shp} (h : TabAt w B tb mb ao cap l) (hs : s.Fit) (hn : s ∉ l)
    (hown : w.ownsMap Tryz.prog 72 (plainElem Tryz.prog 3) mb l.length D) (hhas : ∀ s : Shp, s.Fit → Maps.has D s.key = decide (s ∈ l))
    (hat : ∀ s : Shp, s ∈ l → D.atKey s.key (.lit (.int .i64 0)) = .lit (.int .i64 (l.idxOf s : Int)))
    (E : NumEnd w w' B tb mb ao g cap' l.length (rowOf l ++ s.cells) (D.put s.key (.lit (.int .i64 (l.length : Int))))) : TabAt w' B tb mb (some ⟨g, 0, none⟩) cap' (l ++ [s]) := by
  have hl : (l ++ [s]).length = l.length + 1 := by simp
  have hk : WideAt.IsKeyLit s.key := keyed.key (keyOf_shp s hs w)
  refine ⟨by rw [hl]; exact E.blk, h.btb, h.bmb, by rw [hl, rowOf_snoc]; exact E.row, ⟨_, by rw [hl]; exact E.map, ?_, ?_⟩, ?_⟩
  · intro t ht
    by_cases e : t = s
    · subst e
      rw [has_put_same hown.isMap hk]
      simp
    · rw [has_put_other (fun e2 => e (key_inj ht hs w e2)), hhas t ht]
      simp [e]
  · intro t ht
    by_cases e : t = s
    · subst e
      rw [atKey_put_same hown.isMap hk, List.idxOf_append, if_neg hn]
      simp
    · have ht' : t ∈ l := by simpa [e] using ht
      rw [atKey_put_other (fun e2 => e (key_inj (h.fit t ht') hs w e2)), hat t ht', List.idxOf_append, if_pos ht']
  · intro t ht
    rcases List.mem_append.1 ht with h1 | h1
    · exact h.fit t h1
    · simp at h1
      subst h1
      exact hs

theorem number_any (w : World) (B tb mb : Nat) (ao : Option Addr) (cap : Nat) (l : List Shp) (s : Shp) (h : TabAt w B tb mb ao cap l) (hs : s.Fit) (hlen : l.length < 65536) (hB : B ≤ w.heap.size) :
    Calls Tryz.prog 32 #[.pointer (some ⟨tb, 0, none⟩), .agg #[.int .i64 s.k, .int .i64 s.f, .int .u64 (s.m : Int)]] w fun e w' =>
      ∃ ao' cap', e = .returned (.tuple #[.int .i64 (numV l s), .int .i64 (numE s)]) ∧ TabAt w' B tb mb ao' cap' (addS l s) ∧ Turn w w' tb mb ao ∧ (∀ a, ao' = some a → ao = some a ∨ w.heap.size ≤ a.block) := by
  by_cases hg : s.good = true
  · unfold numV numE addS
    simp only [hg, if_true, true_and]
    have hl := fun k => look_at (h.grown (boxed_G w s k)) s hs
    by_cases hm : s ∈ l
    · simp only [hm, if_true, decide_true] at hl
      rw [if_neg (by simpa using hm)]
      refine (number_old w tb mb s _ hg h.cells.1 hl).mono ?_
      rintro e w' ⟨rfl, hG⟩
      exact ⟨ao, cap, rfl, h.grown hG, Turn.of_G hG, fun a ha => Or.inl ha⟩
    · simp only [hm, if_false, decide_false] at hl
      rw [if_pos hm, List.idxOf_eq_length hm]
      obtain ⟨D, hown, hhas, hat⟩ := h.map
      obtain ⟨n1, n2, n3⟩ := h.ne
      refine (number_new w B tb mb l.length cap ao (rowOf l) D s hg hs hB hlen (hide h.blk) h.cells.1 h.cells.2.1 h.cells.2.2 n1 h.mlt (hide h.row) (hide n2) (hide n3) (hide hown) hl).mono ?_
      rintro e w' ⟨g, cap', rfl, E⟩
      refine ⟨_, cap', rfl, tab_add h hs hm hown hhas hat E, E.turn, ?_⟩
      intro a ha
      injection ha with ha
      subst ha
      exact E.lies
  · have hg' : goodB s.k s.f s.m = false := by
      have : s.good = false := by simpa using hg
      exact this
    unfold numV numE addS
    rw [if_neg hg, if_neg hg, if_neg (fun h => hg h.1)]
    refine (number_bad w tb s hg').mono ?_
    rintro e w' ⟨rfl, hG⟩
    exact ⟨ao, cap, rfl, h.grown hG, Turn.of_G hG, fun a ha => Or.inl ha⟩
end Go.Proofs.YtdnhmkbdphpjcaaGreatDoor.Hd

/- The program's Cycle, made with an empty table beside it. -/
namespace Go.Proofs.YtdnhmkbdphpjcaaGreatDoor
set_option maxRecDepth 100000
open Go.ChangeShapes Go.WideShapes Go.ChangeAt Go.RowKit Go.Maps

theorem ks_newT {n : Nat} {W w3 w4 : World} {xl : Ld} {tb : Nat} (S3 : StL W w4 xl (al0 n)) (Q4 : Gy.QL w4 w3.heap.size [] []) (k0 : w4.cell? ⟨w3.heap.size + 1, 0, none⟩ = some (.pointer (some ⟨xl.d.ab, 0, none⟩)) ∧ w4.cell? ⟨w3.heap.size + 1, 2, none⟩ = some (.pointer (some ⟨w3.heap.size, 0, none⟩)))
    (z4 : w4.heap.size = w3.heap.size + 2) (hW : W.heap.size ≤ w3.heap.size) (l1 : xl.d.wb < w3.heap.size) (l2 : xl.d.sb < w3.heap.size) (l3 : xl.ub < w3.heap.size) (l4 : xl.d.ab < w3.heap.size) (l5 : xl.lb < w3.heap.size) :
    KS W ((w4.alloc (.map #[] 0)).alloc (.cells #[.pointer (some ⟨xl.d.ab, 0, none⟩), .pointer (some ⟨xl.lb, 0, none⟩), .pointer (some ⟨tb, 0, none⟩), .pointer (some ⟨w3.heap.size + 1, 0, none⟩), .int .i64 0, .map (some w4.heap.size), .int .i64 64, .int .i64 0] 99)) xl ⟨w4.heap.size + 1, w4.heap.size, w3.heap.size + 1, tb, w3.heap.size⟩ (al0 n) 0 64 0 := by
  obtain ⟨w5, h5⟩ : ∃ w5, w4.alloc (.map #[] 0) = w5 := ⟨_, rfl⟩
  have z5 : w5.heap.size = w4.heap.size + 1 := by rw [← h5, World.size_alloc]
  have g5 : G w4 w5 := by rw [← h5]; exact G.alloc _ _
  have m5 : w5.heap[w4.heap.size]? = some (.map #[] 0) := by rw [← h5]; exact heap_alloc_new w4 _
  rw [h5, ← z5]
  obtain ⟨w6, h6⟩ : ∃ w6, w5.alloc (.cells #[.pointer (some ⟨xl.d.ab, 0, none⟩), .pointer (some ⟨xl.lb, 0, none⟩), .pointer (some ⟨tb, 0, none⟩), .pointer (some ⟨w3.heap.size + 1, 0, none⟩), .int .i64 0, .map (some w4.heap.size), .int .i64 64, .int .i64 0] 99) = w6 := ⟨_, rfl⟩
  have g6 : G w5 w6 := by rw [← h6]; exact G.alloc _ _
  have z6 : w6.heap.size = w5.heap.size + 1 := by rw [← h6, World.size_alloc]
  have g := g5.trans g6
  have b6 : w6.heap[w5.heap.size]? = some (.cells #[.pointer (some ⟨xl.d.ab, 0, none⟩), .pointer (some ⟨xl.lb, 0, none⟩), .pointer (some ⟨tb, 0, none⟩), .pointer (some ⟨w3.heap.size + 1, 0, none⟩), .int .i64 0, .map (some w4.heap.size), .int .i64 64, .int .i64 0] 99 (0, 0)) := by rw [← h6]; exact heap_alloc_new w5 _
  have hc : ∀ i : Nat, w6.cell? ⟨w5.heap.size, i, none⟩ = #[Value.pointer (some ⟨xl.d.ab, 0, none⟩), .pointer (some ⟨xl.lb, 0, none⟩), .pointer (some ⟨tb, 0, none⟩), .pointer (some ⟨w3.heap.size + 1, 0, none⟩), .int .i64 0, .map (some w4.heap.size), .int .i64 64, .int .i64 0][i]? := fun i => by rw [← h6]; exact World.cell?_alloc_new _ _ _ i
  rw [h6]
  refine ⟨S3.G g, hc 0, hc 1, hc 2, hc 3, hc 4, hc 5, hc 6, hc 7, fun i => by simp [World.frozen?, b6], ⟨0, (g6.block w4.heap.size (by omega)).trans m5⟩, g.cell k0.1, g.cell k0.2, Q4.grown g, fun d hd => ?_, by simp; omega, by simp; omega⟩
  simp at hd
  omega
set_option maxHeartbeats 2000000 in
theorem k_newT {W w : World} (n : Nat) (h0 : 8 ≤ n) (h1 : n ≤ 512) (hb : Hid (Below W.heap.size W w)) (ht : Hid (Tab W)) : Calls Tryz.prog 29 #[.int .i64 (n : Int)] w fun e w' => ∃ xl b tm, e = .returned (.tuple #[.pointer (some ⟨b.cb, 0, none⟩), .int .i64 0]) ∧ KS W w' xl b (al0 n) 0 64 0 ∧ Hd.TabAt w' W.heap.size b.tb tm none 0 [] ∧ (∀ d ∈ [b.cb, b.mb, b.kb, b.q, xl.d.ab, xl.d.wb, xl.d.sb, xl.ub, xl.lb], d ≠ b.tb ∧ d ≠ tm ∧ d < w'.heap.size) ∧ b.tb ≠ tm := by
  have hmm := @run_makeMap Tryz.prog
  have hbs := (unhide hb).size
  have SM := hide (st_make n h0 h1 hb ht)
  have KN := hide (fun (x : World) (d : Ad) (h : Hid (St W x d (ab0 n))) => kl_new n h1 h)
  replace h0 := hide h0
  replace h1 := hide h1
  go_enter Tryz.func29, Tryz.ntmps29
  go_wp2_with fail
  refine (unhide SM).mono ?_
  rintro r w1 ⟨d, rfl, S1, g1, q1, q2, q3⟩
  replace S1 := hide S1
  have z1 := g1.size
  clear g1
  go_wp2_with fail
  refine (headnew_k _).mono ?_
  rintro r w2 ⟨rfl, hw2⟩
  have g2 : Hid (G w1 w2) := hide (by rw [hw2]; exact (G.alloc _ _).more _)
  have z2 : w2.heap.size = w1.heap.size + 2 := by rw [hw2]; simp
  have T2 : Hid (Hd.TabAt w2 W.heap.size (w1.heap.size + 1) w1.heap.size none 0 []) := hide (by rw [hw2]; exact Hd.tab_new w1 W.heap.size (by omega))
  have l01 := (unhide S1).at_.lt0
  have l11 := (unhide S1).at_.lt1 (unhide S1).n8
  have l21 := (unhide S1).at_.lt2 (unhide S1).n8
  clear hw2
  have CA := hide (unhide KN w2 d (hide ((unhide S1).G (unhide g2))))
  go_wp2_with fail
  refine (unhide CA).mono ?_
  rintro r w3 ⟨xl, rfl, hxd, S3, g3, y1, y2, y3⟩
  subst hxd
  replace S3 := hide S3
  have z3 := g3.size
  replace T2 : Hid (Hd.TabAt w3 W.heap.size (w1.heap.size + 1) w1.heap.size none 0 []) := hide ((unhide T2).grown g3)
  clear CA g3
  go_wp2_with fail
  refine (marknew_k _ _ _).mono ?_
  rintro r w4 ⟨rfl, hw4⟩
  have Q4 : Hid (Gy.QL w4 w3.heap.size [] []) := hide (by rw [hw4]; exact (Gy.queue_new w3).grown (G.alloc _ _))
  have g4 : Hid (G w3 w4) := hide (by rw [hw4]; exact (G.alloc _ _).more _)
  have z4 : w4.heap.size = w3.heap.size + 2 := by rw [hw4]; simp
  have k0 : Hid (w4.cell? ⟨w3.heap.size + 1, 0, none⟩ = some (.pointer (some ⟨xl.d.ab, 0, none⟩)) ∧ w4.cell? ⟨w3.heap.size + 1, 2, none⟩ = some (.pointer (some ⟨w3.heap.size, 0, none⟩))) := hide (by
    have hz : (w3.alloc (.cells #[.pointer none, .pointer none, .int .i64 0, .int .i64 0] 146)).heap.size = w3.heap.size + 1 := by rw [World.size_alloc]
    rw [hw4, ← hz]
    exact ⟨World.cell?_alloc_new _ _ _ 0, World.cell?_alloc_new _ _ _ 2⟩)
  clear hw4
  have S4 := (unhide S3).G (unhide g4)
  have l0 := (unhide S3).st.at_.lt0
  have l1 := (unhide S3).st.at_.lt1 (unhide S3).st.n8
  have l2 := (unhide S3).st.at_.lt2 (unhide S3).st.n8
  have z4' := hide z4
  clear z4
  go_wp2_with fail
  go_ret2
  have KK := ks_newT (tb := w1.heap.size + 1) S4 (unhide Q4) (unhide k0) (unhide z4') (by omega) l1 l2 (by omega) l0 (unhide S3).lt0
  have l5 := (unhide S3).lt0
  have hz := unhide z4'
  refine ⟨xl, ⟨w4.heap.size + 1, w4.heap.size, w3.heap.size + 1, w1.heap.size + 1, w3.heap.size⟩, w1.heap.size, rfl, KK, (unhide T2).grown (((unhide g4).more _).more _), fun d hd => ?_, by simp only; omega⟩
  rw [World.size_alloc, World.size_alloc]
  simp only [List.mem_cons, List.not_mem_nil, or_false] at hd
  simp only
  rcases hd with rfl | rfl | rfl | rfl | rfl | rfl | rfl | rfl | rfl <;> refine ⟨?_, ?_, ?_⟩ <;> omega
end Go.Proofs.YtdnhmkbdphpjcaaGreatDoor

/- A Heap in memory while no collection goes on: the Cycle and its table, the Heap's own cells, its row of numbers, its map. -/
namespace Go.Proofs.YtdnhmkbdphpjcaaGreatDoor
set_option maxRecDepth 100000
open Go.ChangeShapes Go.WideShapes Go.ChangeAt Go.RowKit Go.Maps

theorem keyI : Keyed Tryz.prog 3 := int_keyed Tryz.underlying3
abbrev wfN (y : Int) : Prop := (Lit.int .i64 y).wf = true
/-- Where a Heap's things lie. -/
structure Hx where
  xl : Ld
  b : Kn
  tm : Nat
  hb : Nat
  lm : Nat
/-- The map has the numbers from 0 to n - 1, each at itself. -/
def LmAt (w : World) (lm n : Nat) : Prop := ∃ D : DataW Unit, w.ownsMap Tryz.prog 3 (plainElem Tryz.prog 3) lm n D ∧ ∀ y : Int, wfN y → Maps.has D (.int .i64 y) = decide (0 ≤ y ∧ y < (n : Int)) ∧ (0 ≤ y ∧ y < (n : Int) → D.atKey (.int .i64 y) (.lit (.int .i64 0)) = .lit (.int .i64 y))
abbrev nrL (n : Nat) : List Value := (List.range n).map fun (i : Nat) => Value.int .i64 (i : Int)
abbrev NrAt (w : World) (B : Nat) (v : Value) (n : Nat) : Prop := w.ownsRow B 3 1 v n (nrL n)
/-- What reading a Heap wants, whatever its collector does. -/
structure HB (W w : World) (x : Hx) (al : Al) (l : List Hd.Shp) (ao : Option Addr) (cap : Nat) : Prop where
  st : StL W w x.xl al
  c0 : w.cell? ⟨x.b.cb, 0, none⟩ = some (.pointer (some ⟨x.xl.d.ab, 0, none⟩))
  c2 : w.cell? ⟨x.b.cb, 2, none⟩ = some (.pointer (some ⟨x.b.tb, 0, none⟩))
  tab : Hd.TabAt w W.heap.size x.b.tb x.tm ao cap l
  h0 : w.cell? ⟨x.hb, 0, none⟩ = some (.pointer (some ⟨x.b.cb, 0, none⟩))
theorem HB.gr {W w w' : World} {x : Hx} {al : Al} {l : List Hd.Shp} {ao : Option Addr} {cap : Nat} (h : HB W w x al l ao cap) (g : G w w') : HB W w' x al l ao cap := ⟨h.st.G g, g.cell h.c0, g.cell h.c2, h.tab.grown g, g.cell h.h0⟩
theorem b_arena {W w : World} {x : Hx} {al : Al} {l : List Hd.Shp} {ao : Option Addr} {cap : Nat} (h : Hid (HB W w x al l ao cap)) : Calls Tryz.prog 22 #[.pointer (some ⟨x.b.cb, 0, none⟩)] w fun e w' => e = .returned (.pointer (some ⟨x.xl.d.ab, 0, none⟩)) ∧ w' = w := by
  have c0 := (unhide h).c0
  go_enter Tryz.func22, Tryz.ntmps22
  go_wp2_with fail
  go_ret
  exact ⟨rfl, rfl⟩
theorem b_table {W w : World} {x : Hx} {al : Al} {l : List Hd.Shp} {ao : Option Addr} {cap : Nat} (h : Hid (HB W w x al l ao cap)) : Calls Tryz.prog 31 #[.pointer (some ⟨x.b.cb, 0, none⟩)] w fun e w' => e = .returned (.pointer (some ⟨x.b.tb, 0, none⟩)) ∧ w' = w := by
  have c2 := (unhide h).c2
  go_enter Tryz.func31, Tryz.ntmps31
  go_wp2_with fail
  go_ret
  exact ⟨rfl, rfl⟩
/-- A Heap: l: the table's shapes; n: so many of them are numbered; c: whose each block is. -/
structure HS (W w : World) (x : Hx) (al : Al) (l : List Hd.Shp) (n : Nat) (ao : Option Addr) (cap : Nat) (nv : Value) (c : Nat → Nat) : Prop where
  ks : KS W w x.xl x.b al 0 64 0
  tab : Hd.TabAt w W.heap.size x.b.tb x.tm ao cap l
  h0 : w.cell? ⟨x.hb, 0, none⟩ = some (.pointer (some ⟨x.b.cb, 0, none⟩))
  h1 : w.cell? ⟨x.hb, 1, none⟩ = some nv
  h2 : w.cell? ⟨x.hb, 2, none⟩ = some (.map (some x.lm))
  h3 : w.cell? ⟨x.hb, 3, none⟩ = some (.int .i64 0)
  hf : ∀ i, w.frozen? ⟨x.hb, i, none⟩ = false
  num : NrAt w W.heap.size nv n
  mp : LmAt w x.lm n
  lo : W.heap.size ≤ x.hb ∧ W.heap.size ≤ x.lm
  lt : x.lm < w.heap.size
  cA : c x.xl.d.ab = 1 ∧ c x.xl.d.wb = 1 ∧ c x.xl.d.sb = 1 ∧ c x.xl.ub = 1 ∧ c x.xl.lb = 1
  cC : c x.b.cb = 2 ∧ c x.b.mb = 2 ∧ c x.b.kb = 2 ∧ c x.b.q = 2
  c3 : c x.b.tb = 3
  c4 : c x.tm = 4
  c5 : ∀ a, ao = some a → c a.block = 5
  c6 : c x.hb = 6
  c7 : c x.lm = 7
  c8 : ∀ k, nv.ownBlock = some k → c k = 8
section
variable {W w w' : World} {x : Hx} {al al' : Al} {l l' : List Hd.Shp} {n : Nat} {ao : Option Addr} {cap : Nat} {nv : Value} {c : Nat → Nat}
theorem HS.hB (h : HS W w x al l n ao cap nv c) : HB W w x al l ao cap := ⟨h.ks.st, h.ks.c0, h.ks.c2, h.tab, h.h0⟩
theorem HS.hlt (h : HS W w x al l n ao cap nv c) : x.hb < w.heap.size := World.block_lt_of_cell? w _ h.h0
theorem HS.nlt (h : HS W w x al l n ao cap nv c) : ∀ k, nv.ownBlock = some k → k < w.heap.size := fun k hk => by
  rcases h.num.2 with ⟨e, _⟩ | ⟨g, cp, cur, e, _, h3, _⟩
  · rw [e] at hk; cases hk
  · rw [e] at hk
    obtain rfl : g = k := by simpa [Value.ownBlock] using hk
    rcases Nat.lt_or_ge g w.heap.size with hh | hh
    · exact hh
    · rw [Array.getElem?_eq_none hh] at h3; cases h3
theorem LmAt.kept {lm : Nat} (h : LmAt w lm n) (e : w'.heap[lm]? = w.heap[lm]?) : LmAt w' lm n := by
  obtain ⟨D, ⟨es, clock, hb, r⟩, hD⟩ := h
  exact ⟨D, ⟨es, clock, e.trans hb, r⟩, hD⟩
theorem nr_kept {B : Nat} {v : Value} (h : NrAt w B v n) (e : ∀ k, v.ownBlock = some k → w'.heap[k]? = w.heap[k]?) : NrAt w' B v n := by
  refine ⟨h.1, ?_⟩
  rcases h.2 with h0 | ⟨g, cp, cur, e1, e2, e3, e4⟩
  · exact Or.inl h0
  · exact Or.inr ⟨g, cp, cur, e1, e2, (e g (by rw [e1]; rfl)).trans e3, e4⟩
/-- Only the arena's blocks, the allocator's and new ones have been turned. -/
theorem HS.keep (h : HS W w x al l n ao cap nv c) (s : KS W w' x.xl x.b al' 0 64 0) (hs : w.heap.size ≤ w'.heap.size) (k : ∀ d, d < w.heap.size → 3 ≤ c d → w'.heap[d]? = w.heap[d]?) : HS W w' x al' l n ao cap nv c := by
  have kh := k x.hb h.hlt (by rw [h.c6]; decide)
  exact ⟨s, h.tab.kept (k _ h.tab.tlt (by rw [h.c3]; decide)) (k _ h.tab.mlt (by rw [h.c4]; decide)) (fun a ha => k _ (h.tab.aoB a ha).2 (by rw [h.c5 a ha]; decide)), (World.cell?_of_block (a := ⟨x.hb, 0, none⟩) kh).trans h.h0, (World.cell?_of_block (a := ⟨x.hb, 1, none⟩) kh).trans h.h1, (World.cell?_of_block (a := ⟨x.hb, 2, none⟩) kh).trans h.h2, (World.cell?_of_block (a := ⟨x.hb, 3, none⟩) kh).trans h.h3, fun i => (World.frozen?_of_block (a := ⟨x.hb, i, none⟩) kh).trans (h.hf i), nr_kept h.num (fun q hq => k q (h.nlt q hq) (by rw [h.c8 q hq]; decide)), h.mp.kept (k _ h.lt (by rw [h.c7]; decide)), h.lo, Nat.lt_of_lt_of_le h.lt hs, h.cA, h.cC, h.c3, h.c4, h.c5, h.c6, h.c7, h.c8⟩
theorem HS.turn (h : HS W w x al l n ao cap nv c) (s : StL W w' x.xl al') (t : TnL w w' x.xl) : HS W w' x al' l n ao cap nv c := by
  obtain ⟨_, a2, a3, a4, _⟩ := h.cA
  exact h.keep (h.ks.turn s t) t.size fun d hd hc => t.block d hd (fun e => by rw [e, a2] at hc; omega) (fun e => by rw [e, a3] at hc; omega) (fun e => by rw [e, a4] at hc; omega)
theorem HS.gr (h : HS W w x al l n ao cap nv c) (g : G w w') : HS W w' x al l n ao cap nv c := h.keep (h.ks.gr g) g.size fun d hd _ => g.block d hd
/-- What is not the arena's, the allocator's or the Cycle's is as it was. -/
def Kp3 (w : World) (c : Nat → Nat) (w' : World) : Prop := w.heap.size ≤ w'.heap.size ∧ ∀ d, d < w.heap.size → 3 ≤ c d → w'.heap[d]? = w.heap[d]?
theorem Kp3.of_G (g : G w w') : Kp3 w c w' := ⟨g.size, fun d hd _ => g.block d hd⟩
theorem Kp3.trans {w2 : World} (h : Kp3 w c w') (k : Kp3 w' c w2) : Kp3 w c w2 := ⟨Nat.le_trans h.1 k.1, fun d hd hc => (k.2 d (Nat.lt_of_lt_of_le hd h.1) hc).trans (h.2 d hd hc)⟩
theorem HS.kp (h : HS W w x al l n ao cap nv c) (t : TnL w w' x.xl) : Kp3 w c w' := by
  obtain ⟨_, a2, a3, a4, _⟩ := h.cA
  exact ⟨t.size, fun d hd hc => t.block d hd (fun e => by rw [e, a2] at hc; omega) (fun e => by rw [e, a3] at hc; omega) (fun e => by rw [e, a4] at hc; omega)⟩
/-- The arena's and the allocator's blocks are as they were. -/
theorem StL.kept {xl : Ld} (h : StL W w xl al) (hb : Below W.heap.size W w') (k : ∀ d, d = xl.d.ab ∨ d = xl.d.wb ∨ d = xl.d.sb ∨ d = xl.ub ∨ d = xl.lb → w'.heap[d]? = w.heap[d]?) : StL W w' xl al := by
  have kl := k xl.lb (by simp)
  have ku := k xl.ub (by simp)
  exact ⟨⟨h.st.at_.kept (k _ (by simp)) (k _ (by simp)) (k _ (by simp)), h.st.good, hb, h.st.tab⟩, (World.cell?_of_block (a := ⟨xl.lb, 0, none⟩) kl).trans h.c0, (World.cell?_of_block (a := ⟨xl.lb, 1, none⟩) kl).trans h.c1, fun s hs => (World.cell?_of_block (a := ⟨xl.ub, s, none⟩) ku).trans (h.us s hs), fun i => (World.frozen?_of_block (a := ⟨xl.ub, i, none⟩) ku).trans (h.fu i), h.b0, h.b1, h.n0, h.n1, h.n2⟩
theorem HS.alt (h : HS W w x al l n ao cap nv c) : x.xl.d.ab < w.heap.size ∧ x.xl.d.wb < w.heap.size ∧ x.xl.d.sb < w.heap.size ∧ x.xl.ub < w.heap.size ∧ x.xl.lb < w.heap.size :=
  ⟨h.ks.st.st.at_.lt0, h.ks.st.st.at_.lt1 h.ks.st.st.n8, h.ks.st.st.at_.lt2 h.ks.st.st.n8, h.ks.st.lt1, h.ks.st.lt0⟩
/-- Blocks of the Heap's own, or of the table's, have been turned: what the Cycle has is as it was. -/
theorem HS.cyc (h : HS W w x al l n ao cap nv c) (hb : Below W.heap.size W w') (hs : w.heap.size ≤ w'.heap.size) (k : ∀ d, d < w.heap.size → c d ≤ 2 → w'.heap[d]? = w.heap[d]?) : KS W w' x.xl x.b al 0 64 0 := by
  obtain ⟨a1, a2, a3, a4, a5⟩ := h.cA
  obtain ⟨e1, e2, e3, e4⟩ := h.cC
  obtain ⟨l1, l2, l3, l4, l5⟩ := h.alt
  refine h.ks.blocks (h.ks.st.kept hb fun d hd => ?_) hs fun d hd => k d (h.ks.ap d hd).1 ?_
  · rcases hd with rfl | rfl | rfl | rfl | rfl
    · exact k _ l1 (by omega)
    · exact k _ l2 (by omega)
    · exact k _ l3 (by omega)
    · exact k _ l4 (by omega)
    · exact k _ l5 (by omega)
  · simp only [List.mem_cons, List.not_mem_nil, or_false] at hd
    rcases hd with rfl | rfl | rfl | rfl <;> omega
/-- The table has been asked for a number. -/
theorem HS.number {ao' : Option Addr} {cap' : Nat} (h : HS W w x al l n ao cap nv c) (T : Hd.TabAt w' W.heap.size x.b.tb x.tm ao' cap' l') (t : Hd.Turn w w' x.b.tb x.tm ao) (ha : ∀ a, ao' = some a → ao = some a ∨ w.heap.size ≤ a.block) :
    ∃ c', HS W w' x al l' n ao' cap' nv c' := by
  have hb : Below W.heap.size W w' := Below.trans h.ks.st.below (t.below h.ks.st.below.size h.tab.btb h.tab.bmb (fun a ha => (h.tab.aoB a ha).1))
  have k : ∀ d, d < w.heap.size → c d ≠ 3 → c d ≠ 4 → c d ≠ 5 → w'.heap[d]? = w.heap[d]? := fun d hd n3 n4 n5 => t.block d hd (fun e => n3 (by rw [e]; exact h.c3)) (fun e => n4 (by rw [e]; exact h.c4)) (fun a ea e => n5 (by rw [e]; exact h.c5 a ea))
  have kh := k x.hb h.hlt (by rw [h.c6]; decide) (by rw [h.c6]; decide) (by rw [h.c6]; decide)
  have ks := h.cyc hb t.size (fun d hd hc => k d hd (by omega) (by omega) (by omega))
  have cc : ∀ d, d < w.heap.size → (fun d => if w.heap.size ≤ d then 5 else c d) d = c d := fun d hd => by simp only; rw [if_neg (by omega)]
  obtain ⟨l1, l2, l3, l4, l5⟩ := h.alt
  obtain ⟨a1, a2, a3, a4, a5⟩ := h.cA
  obtain ⟨e1, e2, e3, e4⟩ := h.cC
  refine ⟨fun d => if w.heap.size ≤ d then 5 else c d, ⟨ks, T, (World.cell?_of_block (a := ⟨x.hb, 0, none⟩) kh).trans h.h0, (World.cell?_of_block (a := ⟨x.hb, 1, none⟩) kh).trans h.h1, (World.cell?_of_block (a := ⟨x.hb, 2, none⟩) kh).trans h.h2, (World.cell?_of_block (a := ⟨x.hb, 3, none⟩) kh).trans h.h3, fun i => (World.frozen?_of_block (a := ⟨x.hb, i, none⟩) kh).trans (h.hf i), nr_kept h.num (fun q hq => k q (h.nlt q hq) (by rw [h.c8 q hq]; decide) (by rw [h.c8 q hq]; decide) (by rw [h.c8 q hq]; decide)), h.mp.kept (k _ h.lt (by rw [h.c7]; decide) (by rw [h.c7]; decide) (by rw [h.c7]; decide)), h.lo, Nat.lt_of_lt_of_le h.lt t.size, ⟨(cc _ l1).trans a1, (cc _ l2).trans a2, (cc _ l3).trans a3, (cc _ l4).trans a4, (cc _ l5).trans a5⟩, ⟨(cc _ (h.ks.ap _ (by simp)).1).trans e1, (cc _ (h.ks.ap _ (by simp)).1).trans e2, (cc _ (h.ks.ap _ (by simp)).1).trans e3, (cc _ (h.ks.ap _ (by simp)).1).trans e4⟩, (cc _ h.tab.tlt).trans h.c3, (cc _ h.tab.mlt).trans h.c4, fun a ea => ?_, (cc _ h.hlt).trans h.c6, (cc _ h.lt).trans h.c7, fun q hq => (cc _ (h.nlt q hq)).trans (h.c8 q hq)⟩⟩
  rcases ha a ea with e | e
  · exact (cc _ (h.tab.aoB a e).2).trans (h.c5 a e)
  · exact if_pos e
end
end Go.Proofs.YtdnhmkbdphpjcaaGreatDoor

/- Package heap: its leaves; Of. -/
namespace Go.Proofs.YtdnhmkbdphpjcaaGreatDoor
set_option maxRecDepth 100000
open Go.ChangeShapes Go.WideShapes Go.ChangeAt Go.RowKit Go.Maps Go.Deep
def hfB (wd sf fd : Int) : Bool := decide (0 ≤ fd) && (decide (fd < sf) && decide (fd < wd - 1))
section
variable {W w : World} {x : Hx} {al : Al} {l : List Hd.Shp} {n : Nat} {ao : Option Addr} {cap : Nat} {nv : Value} {c : Nat → Nat}
theorem hb_cycle (h : Hid (HB W w x al l ao cap)) : Calls Tryz.prog 20 #[.pointer (some ⟨x.hb, 0, none⟩)] w fun e w' => e = .returned (.pointer (some ⟨x.b.cb, 0, none⟩)) ∧ w' = w := by
  have h0 := (unhide h).h0
  go_enter Tryz.func20, Tryz.ntmps20
  go_wp2_with fail
  go_ret
  exact ⟨rfl, rfl⟩
theorem h_cycle (h : Hid (HS W w x al l n ao cap nv c)) : Calls Tryz.prog 20 #[.pointer (some ⟨x.hb, 0, none⟩)] w fun e w' => e = .returned (.pointer (some ⟨x.b.cb, 0, none⟩)) ∧ w' = w :=
  hb_cycle (hide (unhide h).hB)
def rdT (al : Al) (a f tr : Int) : Int × Int := if al.a.readE a (wrap64 (f + 1)) = 0 then (al.a.readV a (wrap64 (f + 1)), 0) else (0, tr)
end
end Go.Proofs.YtdnhmkbdphpjcaaGreatDoor

/- Package heap: Of. -/
namespace Go.Proofs.YtdnhmkbdphpjcaaGreatDoor
set_option maxRecDepth 100000
open Go.ChangeShapes Go.WideShapes Go.ChangeAt Go.RowKit Go.Maps Go.Deep

theorem put6 {w w2 : World} {s : Nat} (hs : w.heap.size ≤ s) (g : G w w2) {u0 u1 u2 u3 u4 u5 : Value} (a0 : w2.cell? ⟨s, 0, none⟩ = some u0) (a1 : w2.cell? ⟨s, 1, none⟩ = some u1) (a2 : w2.cell? ⟨s, 2, none⟩ = some u2) (b0 : w2.cell? ⟨s + 1, 0, none⟩ = some u3) (b1 : w2.cell? ⟨s + 1, 1, none⟩ = some u4) (b2 : w2.cell? ⟨s + 1, 2, none⟩ = some u5) (v0 v1 v2 v3 v4 v5 : Value) (Y : World) (hY : Y = (((((w2.setCell ⟨s, 0, none⟩ v0).setCell ⟨s, 1, none⟩ v1).setCell ⟨s, 2, none⟩ v2).setCell ⟨s + 1, 0, none⟩ v3).setCell ⟨s + 1, 1, none⟩ v4).setCell ⟨s + 1, 2, none⟩ v5) :
    Y.cell? ⟨s, 0, none⟩ = some v0 ∧ Y.cell? ⟨s, 1, none⟩ = some v1 ∧ Y.cell? ⟨s, 2, none⟩ = some v2 ∧ Y.cell? ⟨s + 1, 0, none⟩ = some v3 ∧ Y.cell? ⟨s + 1, 1, none⟩ = some v4 ∧ Y.cell? ⟨s + 1, 2, none⟩ = some v5 ∧ G w Y := by
  have e : ∀ (y : World) (i j : Nat) (v u : Value), y.cell? ⟨s, i, none⟩ = some u → (y.setCell ⟨s + 1, j, none⟩ v).cell? ⟨s, i, none⟩ = some u := fun y i j v u h => by rw [cell_other _ (Or.inl (by omega))]; exact h
  have e' : ∀ (y : World) (i j : Nat) (v u : Value), y.cell? ⟨s + 1, i, none⟩ = some u → (y.setCell ⟨s, j, none⟩ v).cell? ⟨s + 1, i, none⟩ = some u := fun y i j v u h => by rw [cell_other _ (Or.inl (by omega))]; exact h
  have o : ∀ (y : World) (b i j : Nat) (v u : Value), i ≠ j → y.cell? ⟨b, i, none⟩ = some u → (y.setCell ⟨b, j, none⟩ v).cell? ⟨b, i, none⟩ = some u := fun y b i j v u hn h => by rw [cell_other _ (Or.inr hn)]; exact h
  have q1 := cell_same v0 a0
  have r1 := o w2 s 1 0 v0 _ (by decide) a1
  have q2 := cell_same v1 r1
  have r2 := o _ s 2 1 v1 _ (by decide) (o w2 s 2 0 v0 _ (by decide) a2)
  have q3 := cell_same v2 r2
  have k0 := o _ s 0 2 v2 _ (by decide) (o _ s 0 1 v1 _ (by decide) q1)
  have k1 := o _ s 1 2 v2 _ (by decide) q2
  have t0 := e' _ 0 2 v2 _ (e' _ 0 1 v1 _ (e' w2 0 0 v0 _ b0))
  have t1 := e' _ 1 2 v2 _ (e' _ 1 1 v1 _ (e' w2 1 0 v0 _ b1))
  have t2 := e' _ 2 2 v2 _ (e' _ 2 1 v1 _ (e' w2 2 0 v0 _ b2))
  have p3 := cell_same v3 t0
  have p4 := cell_same v4 (o _ (s + 1) 1 0 v3 _ (by decide) t1)
  have p5 := cell_same v5 (o _ (s + 1) 2 1 v4 _ (by decide) (o _ (s + 1) 2 0 v3 _ (by decide) t2))
  rw [hY]
  exact ⟨e _ 0 2 v5 _ (e _ 0 1 v4 _ (e _ 0 0 v3 _ k0)), e _ 1 2 v5 _ (e _ 1 1 v4 _ (e _ 1 0 v3 _ k1)), e _ 2 2 v5 _ (e _ 2 1 v4 _ (e _ 2 0 v3 _ q3)), o _ (s + 1) 0 2 v5 _ (by decide) (o _ (s + 1) 0 1 v4 _ (by decide) p3), o _ (s + 1) 1 2 v5 _ (by decide) p4, p5, G.set (G.set (G.set (G.set (G.set (G.set g _ _ hs) _ _ hs) _ _ hs) _ _ (by simp only; omega)) _ _ (by simp only; omega)) _ _ (by simp only; omega)⟩
/-- What an object is. -/
def ofP (al : Al) (l : List Hd.Shp) (a : Int) : Option (Int × Int × Int × Hd.Shp) :=
  if al.a.readE a 0 = 0 then (if Hd.uokB (al.a.readV a 0) = true then (match l[(Hd.up2 (al.a.readV a 0)).toNat]? with
    | some s => some (Hd.up0 (al.a.readV a 0), Hd.up1 (al.a.readV a 0), Hd.up2 (al.a.readV a 0), s)
    | none => none) else none) else none
def ofV : Option (Int × Int × Int × Hd.Shp) → Value
  | none => .tuple #[.agg #[.int .i64 0, .int .i64 0, .int .i64 0], .agg #[.int .i64 0, .int .i64 0, .int .u64 0], .bool false]
  | some (a, b, c, s) => .tuple #[.agg #[.int .i64 a, .int .i64 b, .int .i64 c], .agg #[.int .i64 s.k, .int .i64 s.f, .int .u64 (s.m : Int)], .bool true]
section
variable {W w : World} {x : Hx} {al : Al} {l : List Hd.Shp} {n : Nat} {ao : Option Addr} {cap : Nat} {nv : Value} {c : Nat → Nat}
set_option maxHeartbeats 1000000 in
theorem hb_of (h : Hid (HB W w x al l ao cap)) (a : Int) : Calls Tryz.prog 59 #[.pointer (some ⟨x.hb, 0, none⟩), .int .i64 a] w fun e w' => e = .returned (ofV (ofP al l a)) ∧ G w w' := by
  obtain ⟨W1, hW1⟩ : ∃ W1, W1 = (w.alloc (.cells #[.int .i64 0, .int .i64 0, .int .i64 0] 128)).alloc (.cells #[.int .i64 0, .int .i64 0, .int .u64 0] 72) := ⟨_, rfl⟩
  have g1 : G w W1 := by rw [hW1]; exact ((G.refl w).more _).more _
  have BX : Hid (∀ y, G W1 y → (y.cell? ⟨w.heap.size, 0, none⟩ = some (.int .i64 0) ∧ y.cell? ⟨w.heap.size, 1, none⟩ = some (.int .i64 0) ∧ y.cell? ⟨w.heap.size, 2, none⟩ = some (.int .i64 0) ∧ y.cell? ⟨w.heap.size + 1, 0, none⟩ = some (.int .i64 0) ∧ y.cell? ⟨w.heap.size + 1, 1, none⟩ = some (.int .i64 0) ∧ y.cell? ⟨w.heap.size + 1, 2, none⟩ = some (.int .u64 0)) ∧ (∀ i, y.frozen? ⟨w.heap.size, i, none⟩ = false) ∧ (∀ i, y.frozen? ⟨w.heap.size + 1, i, none⟩ = false)) := hide fun y g => by
    have e0 := heap_alloc_new w (.cells #[.int .i64 0, .int .i64 0, .int .i64 0] 128)
    have e1 := heap_alloc_new (w.alloc (.cells #[.int .i64 0, .int .i64 0, .int .i64 0] 128)) (.cells #[.int .i64 0, .int .i64 0, .int .u64 0] 72)
    rw [World.size_alloc] at e1
    have e0' : W1.heap[w.heap.size]? = some (.cells #[.int .i64 0, .int .i64 0, .int .i64 0] 128) := by rw [hW1]; exact ((G.alloc _ _).block _ (by rw [World.size_alloc]; omega)).trans e0
    rw [← hW1] at e1
    have l0 : w.heap.size < W1.heap.size := by rw [hW1, World.size_alloc, World.size_alloc]; omega
    have l1 : w.heap.size + 1 < W1.heap.size := by rw [hW1, World.size_alloc, World.size_alloc]; omega
    have y0 := (g.block _ l0).trans e0'
    have y1 := (g.block _ l1).trans e1
    refine ⟨⟨?_, ?_, ?_, ?_, ?_, ?_⟩, fun i => by simp [World.frozen?, y0], fun i => by simp [World.frozen?, y1]⟩
    all_goals first | (rw [cell_of_row _ _ _ _ _ _ y0]; rfl) | (rw [cell_of_row _ _ _ _ _ _ y1]; rfl)
  have NO : Hid (∀ (w2 : World), G W1 w2 → ∀ Y, Y = (((((w2.setCell ⟨w.heap.size, 0, none⟩ (.int .i64 0)).setCell ⟨w.heap.size, 1, none⟩ (.int .i64 0)).setCell ⟨w.heap.size, 2, none⟩ (.int .i64 0)).setCell ⟨w.heap.size + 1, 0, none⟩ (.int .i64 0)).setCell ⟨w.heap.size + 1, 1, none⟩ (.int .i64 0)).setCell ⟨w.heap.size + 1, 2, none⟩ (.int .u64 0) → (Y.cell? ⟨w.heap.size, 0, none⟩ = some (.int .i64 0) ∧ Y.cell? ⟨w.heap.size, 1, none⟩ = some (.int .i64 0) ∧ Y.cell? ⟨w.heap.size, 2, none⟩ = some (.int .i64 0) ∧ Y.cell? ⟨w.heap.size + 1, 0, none⟩ = some (.int .i64 0) ∧ Y.cell? ⟨w.heap.size + 1, 1, none⟩ = some (.int .i64 0) ∧ Y.cell? ⟨w.heap.size + 1, 2, none⟩ = some (.int .u64 0)) ∧ G w Y) := hide fun w2 g Y hY => by
    obtain ⟨⟨a0, a1, a2, b0, b1, b2⟩, _⟩ := unhide BX w2 g
    obtain ⟨r0, r1, r2, r3, r4, r5, r6⟩ := put6 (Nat.le_refl _) (g1.trans g) a0 a1 a2 b0 b1 b2 _ _ _ _ _ _ Y hY
    exact ⟨⟨r0, r1, r2, r3, r4, r5⟩, r6⟩
  have HH : Hid (∀ y, G W1 y → HB W y x al l ao cap) := hide fun y g => ((unhide h).gr g1).gr g
  have h0 := (unhide HH W1 (G.refl _)).h0
  have CA := hide (b_arena (hide (unhide HH W1 (G.refl _))))
  have CR := hide (ls_read (hide (unhide HH W1 (G.refl _)).st) a 0)
  obtain ⟨R, hR⟩ : ∃ R, R = ofP al l a := ⟨_, rfl⟩
  rw [← hR]
  unfold ofP at hR
  generalize al.a.readV a 0 = rv at CR hR
  generalize al.a.readE a 0 = re at CR hR
  by_cases hre : re = 0
  rotate_left
  · have hrb : (re != 0) = true := by simpa using hre
    obtain rfl : R = none := by rw [hR, if_neg hre]
    clear hR h HH g1
    go_enter Tryz.func59, Tryz.ntmps59
    go_upto_region 1 with fail
    rw [← hW1]
    clear hW1
    go_wp2_with fail
    refine (unhide CA).mono ?_
    rintro e w1 ⟨rfl, hw1⟩
    rw [hw1]
    clear hw1 w1 CA
    go_wp2_with fail
    refine (unhide CR).mono ?_
    rintro e w2 ⟨rfl, _, g2⟩
    obtain ⟨⟨a0, a1, a2, b0, b1, b2⟩, f0, f1⟩ := unhide BX w2 g2
    have NO2 := hide (unhide NO w2 g2)
    clear CR BX NO g2
    go_wp2_with fail
    obtain ⟨Y, hY⟩ : ∃ Y, Y = (((((w2.setCell ⟨w.heap.size, 0, none⟩ (.int .i64 0)).setCell ⟨w.heap.size, 1, none⟩ (.int .i64 0)).setCell ⟨w.heap.size, 2, none⟩ (.int .i64 0)).setCell ⟨w.heap.size + 1, 0, none⟩ (.int .i64 0)).setCell ⟨w.heap.size + 1, 1, none⟩ (.int .i64 0)).setCell ⟨w.heap.size + 1, 2, none⟩ (.int .u64 0) := ⟨_, rfl⟩
    obtain ⟨⟨y0, y1, y2, y3, y4, y5⟩, gY⟩ := unhide NO2 Y hY
    rw [← hY]
    refine bodyPost_ret (by simp [results, Tryz.results59, go_sem, y0, y1, y2, y3, y4, y5]; try rfl) rfl ?_
    exact ⟨rfl, gY⟩
  subst hre
  rw [if_pos rfl] at hR
  have CU : Hid (∀ y, Calls Tryz.prog 78 #[.int .i64 rv] y fun e w' => e = .returned (.tuple #[.agg #[.int .i64 (Hd.ukV rv (Hd.up0 rv)), .int .i64 (Hd.ukV rv (Hd.up1 rv)), .int .i64 (Hd.ukV rv (Hd.up2 rv))], .int .i64 (Hd.ukE rv)]) ∧ G y w') := hide fun y => Hd.unpack_any rv y
  have GW : Hid (G w W1) := hide g1
  by_cases hu : Hd.uokB rv = true
  rotate_left
  · obtain rfl : R = none := by rw [hR, if_neg hu]
    simp only [Hd.ukV, Hd.ukE, if_neg hu] at CU
    clear hR h HH g1 hu GW
    go_enter Tryz.func59, Tryz.ntmps59
    go_upto_region 1 with fail
    rw [← hW1]
    clear hW1
    go_wp2_with fail
    refine (unhide CA).mono ?_
    rintro e w1 ⟨rfl, hw1⟩
    rw [hw1]
    clear hw1 w1 CA
    go_wp2_with fail
    refine (unhide CR).mono ?_
    rintro e w2 ⟨rfl, _, g2⟩
    replace g2 := hide g2
    clear CR
    go_wp2_with fail
    refine (unhide CU w2).mono ?_
    rintro e w3 ⟨rfl, g3⟩
    go_upto_region 5 with fail
    obtain ⟨w4, hw4⟩ : ∃ w4, w4 = w3.alloc (.cells #[.int .i64 0, .int .i64 0, .int .i64 0] 128) := ⟨_, rfl⟩
    rw [← hw4]
    have g4 : G W1 w4 := ((unhide g2).trans g3).trans (by rw [hw4]; exact G.alloc _ _)
    obtain ⟨⟨a0, a1, a2, b0, b1, b2⟩, f0, f1⟩ := unhide BX w4 g4
    have NO2 := hide (unhide NO w4 g4)
    clear CU BX NO g2 g3 g4 hw4
    go_wp2_with fail
    obtain ⟨Y, hY⟩ : ∃ Y, Y = (((((w4.setCell ⟨w.heap.size, 0, none⟩ (.int .i64 0)).setCell ⟨w.heap.size, 1, none⟩ (.int .i64 0)).setCell ⟨w.heap.size, 2, none⟩ (.int .i64 0)).setCell ⟨w.heap.size + 1, 0, none⟩ (.int .i64 0)).setCell ⟨w.heap.size + 1, 1, none⟩ (.int .i64 0)).setCell ⟨w.heap.size + 1, 2, none⟩ (.int .u64 0) := ⟨_, rfl⟩
    obtain ⟨⟨y0, y1, y2, y3, y4, y5⟩, gY⟩ := unhide NO2 Y hY
    rw [← hY]
    refine bodyPost_ret (by simp [results, Tryz.results59, go_sem, y0, y1, y2, y3, y4, y5]; try rfl) rfl ?_
    exact ⟨rfl, gY⟩
  rw [if_pos hu] at hR
  simp only [Hd.ukV, Hd.ukE, if_pos hu] at CU
  have hu2 : 0 ≤ Hd.up2 rv ∧ Hd.up2 rv < 65536 := by unfold Hd.up2; omega
  obtain ⟨k, hk⟩ : ∃ k : Nat, Hd.up2 rv = (k : Int) := ⟨(Hd.up2 rv).toNat, by omega⟩
  rw [hk] at CU hR
  rw [Int.toNat_natCast] at hR
  generalize Hd.up0 rv = u0 at CU hR
  generalize Hd.up1 rv = u1 at CU hR
  clear hu hu2 hk
  obtain ⟨sk, sf, sm, er, hsh, hok⟩ : ∃ (sk sf : Int) (sm : Nat) (er : Int), (∀ y, G W1 y → Calls Tryz.prog 65 #[.pointer (some ⟨x.b.tb, 0, none⟩), .int .i64 (k : Int)] y fun e w' => e = .returned (.tuple #[.agg #[.int .i64 sk, .int .i64 sf, .int .u64 (sm : Int)], .int .i64 er]) ∧ G y w') ∧ ((er = 0 ∧ R = some (u0, u1, (k : Int), (sk, sf, sm))) ∨ (er = 4 ∧ R = none)) := by
    cases hl : l[k]? with
    | some s => exact ⟨s.k, s.f, s.m, 0, fun y g => Hd.shape_yes y _ _ _ _ _ l (unhide HH y g).tab k s hl, Or.inl ⟨rfl, by rw [hR, hl]; rfl⟩⟩
    | none => exact ⟨0, 0, 0, 4, fun y g => Hd.shape_no y _ _ _ _ _ l (unhide HH y g).tab (k : Int) (Or.inr (by have := List.getElem?_eq_none_iff.1 hl; omega)), Or.inr ⟨rfl, by rw [hR, hl]⟩⟩
  clear hR
  replace hsh := hide hsh
  have TBL : Hid (∀ y, G W1 y → Calls Tryz.prog 31 #[.pointer (some ⟨x.b.cb, 0, none⟩)] y fun e w' => e = .returned (.pointer (some ⟨x.b.tb, 0, none⟩)) ∧ w' = y) := hide fun y g => b_table (hide (unhide HH y g))
  have HB0 : Hid (∀ y, G W1 y → y.cell? ⟨x.hb, 0, none⟩ = some (.pointer (some ⟨x.b.cb, 0, none⟩))) := hide fun y g => (unhide HH y g).h0
  clear h HH g1
  go_enter Tryz.func59, Tryz.ntmps59
  go_upto_region 1 with fail
  rw [← hW1]
  clear hW1
  go_wp2_with fail
  refine (unhide CA).mono ?_
  rintro e w1 ⟨rfl, hw1⟩
  rw [hw1]
  clear hw1 w1 CA
  go_wp2_with fail
  refine (unhide CR).mono ?_
  rintro e w2 ⟨rfl, _, g2⟩
  replace g2 := hide g2
  clear CR
  go_wp2_with fail
  refine (unhide CU w2).mono ?_
  rintro e w3 ⟨rfl, g3⟩
  go_upto_region 5 with fail
  obtain ⟨w4, hw4⟩ : ∃ w4, w4 = w3.alloc (.cells #[.int .i64 u0, .int .i64 u1, .int .i64 (k : Int)] 128) := ⟨_, rfl⟩
  rw [← hw4]
  have g14 : G W1 w4 := ((unhide g2).trans g3).trans (by rw [hw4]; exact G.alloc _ _)
  have UB : Hid (∀ y, G w4 y → y.cell? ⟨w3.heap.size, 0, none⟩ = some (.int .i64 u0) ∧ y.cell? ⟨w3.heap.size, 1, none⟩ = some (.int .i64 u1) ∧ y.cell? ⟨w3.heap.size, 2, none⟩ = some (.int .i64 (k : Int))) := hide fun y g => by
    have e0 : w4.heap[w3.heap.size]? = some (.cells #[.int .i64 u0, .int .i64 u1, .int .i64 (k : Int)] 128) := by rw [hw4]; exact heap_alloc_new w3 _
    exact ⟨g.cell (by rw [cell_of_row _ _ _ _ _ _ e0]; rfl), g.cell (by rw [cell_of_row _ _ _ _ _ _ e0]; rfl), g.cell (by rw [cell_of_row _ _ _ _ _ _ e0]; rfl)⟩
  have NW3 : Hid (w.heap.size + 2 ≤ w3.heap.size) := hide (by
    have q1 := ((unhide g2).trans g3).size
    obtain ⟨⟨_, _, _, b0, _⟩, _⟩ := unhide BX W1 (G.refl _)
    have := World.block_lt_of_cell? W1 _ b0
    simp only at this
    omega)
  replace g14 := hide g14
  clear g2 g3 hw4 CU
  have ERB : Hid ((er != 0) = false ∧ R = some (u0, u1, (k : Int), (sk, sf, sm)) ∨ (er != 0) = true ∧ R = none) := hide (by
    rcases hok with ⟨h1, h2⟩ | ⟨h1, h2⟩
    · subst h1; exact Or.inl ⟨rfl, h2⟩
    · subst h1; exact Or.inr ⟨rfl, h2⟩)
  clear hok
  go_upto_region 7 with fail
  go_cut [8, 10] (fun v8 v10 wx => ∃ sB, v10 = .pointer (some ⟨sB, 0, none⟩) ∧ v8 = .int .i64 er ∧ Hid (w4.heap.size ≤ sB ∧ G w4 wx ∧ wx.cell? ⟨sB, 0, none⟩ = some (.int .i64 sk) ∧ wx.cell? ⟨sB, 1, none⟩ = some (.int .i64 sf) ∧ wx.cell? ⟨sB, 2, none⟩ = some (.int .u64 (sm : Int))))
  case first =>
    have ST : Hid (∀ (y z : World), G w4 y → G (y.alloc (.cells #[.int .i64 0, .int .i64 0, .int .u64 0] 72)) z → z.cell? ⟨y.heap.size, 0, none⟩ = some (.int .i64 0) ∧ z.cell? ⟨y.heap.size, 1, none⟩ = some (.int .i64 0) ∧ z.cell? ⟨y.heap.size, 2, none⟩ = some (.int .u64 0) ∧ (∀ i, z.frozen? ⟨y.heap.size, i, none⟩ = false) ∧ ∀ Y, Y = ((z.setCell ⟨y.heap.size, 0, none⟩ (.int .i64 sk)).setCell ⟨y.heap.size, 1, none⟩ (.int .i64 sf)).setCell ⟨y.heap.size, 2, none⟩ (.int .u64 (sm : Int)) → G w4 Y ∧ (w4.heap.size ≤ y.heap.size ∧ G w4 Y ∧ Y.cell? ⟨y.heap.size, 0, none⟩ = some (.int .i64 sk) ∧ Y.cell? ⟨y.heap.size, 1, none⟩ = some (.int .i64 sf) ∧ Y.cell? ⟨y.heap.size, 2, none⟩ = some (.int .u64 (sm : Int)))) := hide fun y z gy gz => by
      have e0 := (gz.block y.heap.size (by rw [World.size_alloc]; omega)).trans (heap_alloc_new y (.cells #[.int .i64 0, .int .i64 0, .int .u64 0] 72))
      have c0 : z.cell? ⟨y.heap.size, 0, none⟩ = some (.int .i64 0) := by rw [cell_of_row _ _ _ _ _ _ e0]; rfl
      have c1 : z.cell? ⟨y.heap.size, 1, none⟩ = some (.int .i64 0) := by rw [cell_of_row _ _ _ _ _ _ e0]; rfl
      have c2 : z.cell? ⟨y.heap.size, 2, none⟩ = some (.int .u64 0) := by rw [cell_of_row _ _ _ _ _ _ e0]; rfl
      refine ⟨c0, c1, c2, fun i => by simp [World.frozen?, e0], fun Y hY => ?_⟩
      have gs := gy.size
      have gY : G w4 Y := by rw [hY]; exact G.set (G.set (G.set ((gy.more _).trans gz) _ _ gs) _ _ gs) _ _ gs
      have o : ∀ (y' : World) (i j : Nat) (v u : Value), i ≠ j → y'.cell? ⟨y.heap.size, i, none⟩ = some u → (y'.setCell ⟨y.heap.size, j, none⟩ v).cell? ⟨y.heap.size, i, none⟩ = some u := fun y' i j v u hn h => by rw [cell_other _ (Or.inr hn)]; exact h
      have q1 := cell_same (.int .i64 sk) c0
      have q2 := cell_same (.int .i64 sf) (o _ 1 0 (.int .i64 sk) _ (by decide) c1)
      have q3 := cell_same (.int .u64 (sm : Int)) (o _ 2 1 (.int .i64 sf) _ (by decide) (o _ 2 0 (.int .i64 sk) _ (by decide) c2))
      refine ⟨gY, gs, gY, ?_, ?_, ?_⟩
      · rw [hY]; exact o _ 0 2 _ _ (by decide) (o _ 0 1 _ _ (by decide) q1)
      · rw [hY]; exact o _ 1 2 _ _ (by decide) q2
      · rw [hY]; exact q3
    refine wp_region_noPanic ?_
    refine wp_region_held_drew (S := fun y => G w4 y) (by kernel_rfl) (G.drewN w4 1) (fun hHeld => ?_)
    obtain ⟨y1, hy1⟩ : ∃ y, y = w4.drew := ⟨_, rfl⟩
    rw [← hy1] at hHeld ⊢
    clear hy1
    refine wpAnyH_take (i := 0) (v := .pointer (some ⟨x.hb, 0, none⟩)) rfl (by kernel_rfl) (by kernel_rfl) (by kernel_rfl) (fun _ _ _ h => h) (Or.inl ⟨by rfl, fun w hSw => by go_simp⟩) (by assumption) ?_
    try simp only [Act.put, List.getElem_toArray, List.getElem_cons_zero, List.setIfInBounds_toArray, List.set_cons_zero, List.set_cons_succ]
    refine wpAnyH_take (i := 1) (v := .pointer (some ⟨x.hb, 0, none⟩)) rfl (by kernel_rfl) (by kernel_rfl) (by kernel_rfl) (fun _ _ _ h => h) (Or.inl ⟨by rfl, fun w hSw => by go_simp⟩) (by assumption) ?_
    try simp only [Act.put, List.getElem_toArray, List.getElem_cons_succ, List.getElem_cons_zero, List.setIfInBounds_toArray, List.set_cons_zero, List.set_cons_succ]
    refine wpAnyH_take (i := 2) (v := .pointer (some ⟨x.hb, 0, none⟩)) rfl (by kernel_rfl) (by kernel_rfl) (by kernel_rfl) (fun _ _ _ h => h) (Or.inl ⟨by rfl, fun w hSw => by go_simp⟩) (by assumption) ?_
    try simp only [Act.put, List.getElem_toArray, List.getElem_cons_succ, List.getElem_cons_zero, List.setIfInBounds_toArray, List.set_cons_zero, List.set_cons_succ]
    refine wpAnyH_take (i := 3) (v := .pointer (some ⟨x.b.cb, 0, none⟩)) rfl (by kernel_rfl) (by kernel_rfl) (by kernel_rfl) (fun _ _ _ h => h) (Or.inl ⟨by rfl, fun w hSw => by have t0 := unhide HB0 w ((unhide g14).trans hSw); go_simp⟩) (by assumption) ?_
    try simp only [Act.put, List.getElem_toArray, List.getElem_cons_succ, List.getElem_cons_zero, List.setIfInBounds_toArray, List.set_cons_zero, List.set_cons_succ]
    refine wpAnyH_take (i := 5) (v := .pointer (some ⟨w3.heap.size, 2, none⟩)) rfl (by kernel_rfl) (by kernel_rfl) (by kernel_rfl) (fun _ _ _ h => h) (Or.inl ⟨by rfl, fun w hSw => by go_simp⟩) (by assumption) ?_
    try simp only [Act.put, List.getElem_toArray, List.getElem_cons_succ, List.getElem_cons_zero, List.setIfInBounds_toArray, List.set_cons_zero, List.set_cons_succ]
    refine wpAnyH_take (i := 6) (v := .int .i64 (k : Int)) rfl (by kernel_rfl) (by kernel_rfl) (by kernel_rfl) (fun _ _ _ h => h) (Or.inl ⟨by rfl, fun w hSw => by have t0 := (unhide UB w hSw).2.2; go_simp⟩) (by assumption) ?_
    try simp only [Act.put, List.getElem_toArray, List.getElem_cons_succ, List.getElem_cons_zero, List.setIfInBounds_toArray, List.set_cons_zero, List.set_cons_succ]
    refine wpAnyH_ready (rs := [4, 11]) (by kernel_rfl) (by simp) ?_
    refine AllReadyH.cons rfl (fun K hK => ?_) (AllReadyH.cons rfl (fun K hK => ?_) AllReadyH.nil)
    · skip
      go_simp
      refine (unhide TBL y1 ((unhide g14).trans hHeld)).mono ?_
      rintro e w9 ⟨rfl, hw9⟩
      rw [hw9]
      clear hw9 w9
      go_wp2_with fail
      refine hK.out _ _ hHeld (fun hH9 => ?_)
      clear hK K hH9
      try simp only [Act.put, List.getElem_toArray, List.getElem_cons_succ, List.getElem_cons_zero, List.setIfInBounds_toArray, List.set_cons_zero, List.set_cons_succ]
      refine wpAnyH_ready (rs := [7, 11]) (by kernel_rfl) (by simp) ?_
      refine AllReadyH.cons rfl (fun K hK => ?_) (AllReadyH.cons rfl (fun K hK => ?_) AllReadyH.nil)
      · skip
        go_simp
        refine (unhide hsh y1 ((unhide g14).trans hHeld)).mono ?_
        rintro e y2 ⟨rfl, y2g⟩
        go_wp2_with fail
        have hH2 := hHeld.trans y2g
        refine hK.out _ _ hH2 (fun hH9 => ?_)
        clear hK K hH9
        try simp only [Act.put, List.getElem_toArray, List.getElem_cons_succ, List.getElem_cons_zero, List.setIfInBounds_toArray, List.set_cons_zero, List.set_cons_succ]
        refine wpAnyH_take (i := 8) (v := .tuple #[.agg #[.int .i64 sk, .int .i64 sf, .int .u64 (sm : Int)], .int .i64 er]) rfl (by kernel_rfl) (by kernel_rfl) (by kernel_rfl) (fun _ _ _ h => h) (Or.inl ⟨by rfl, fun w hSw => by go_simp⟩) (by assumption) ?_
        try simp only [Act.put, List.getElem_toArray, List.getElem_cons_succ, List.getElem_cons_zero, List.setIfInBounds_toArray, List.set_cons_zero, List.set_cons_succ]
        refine wpAnyH_take (i := 9) (v := .agg #[.int .i64 sk, .int .i64 sf, .int .u64 (sm : Int)]) rfl (by kernel_rfl) (by kernel_rfl) (by kernel_rfl) (fun _ _ _ h => h) (Or.inl ⟨by rfl, fun w hSw => by go_simp⟩) (by assumption) ?_
        try simp only [Act.put, List.getElem_toArray, List.getElem_cons_succ, List.getElem_cons_zero, List.setIfInBounds_toArray, List.set_cons_zero, List.set_cons_succ]
        refine wpAnyH_take (i := 10) (v := .int .i64 er) rfl (by kernel_rfl) (by kernel_rfl) (by kernel_rfl) (fun _ _ _ h => h) (Or.inl ⟨by rfl, fun w hSw => by go_simp⟩) (by assumption) ?_
        try simp only [Act.put, List.getElem_toArray, List.getElem_cons_succ, List.getElem_cons_zero, List.setIfInBounds_toArray, List.set_cons_zero, List.set_cons_succ]
        refine wpAnyH_ready (rs := [11]) (by kernel_rfl) (by simp) ?_
        refine AllReadyH.cons rfl (fun K hK => ?_) AllReadyH.nil
        go_simp
        obtain ⟨y3, hy3⟩ : ∃ z, z = y2.alloc (.cells #[.int .i64 0, .int .i64 0, .int .u64 0] 72) := ⟨_, rfl⟩
        rw [← hy3]
        have y3a : G (y2.alloc (.cells #[.int .i64 0, .int .i64 0, .int .u64 0] 72)) y3 := by rw [hy3]; exact G.refl _
        have hH3 : G w4 y3 := by rw [hy3]; exact hH2.more _
        refine hK.out _ _ hH3 (fun hH9 => ?_)
        clear hK K hH9 hy3
        try simp only [Act.put, List.getElem_toArray, List.getElem_cons_succ, List.getElem_cons_zero, List.setIfInBounds_toArray, List.set_cons_zero, List.set_cons_succ]
        obtain ⟨s0, s1, s2, s3, FIN⟩ := unhide ST y2 y3 hH2 y3a
        replace FIN := hide FIN
        refine wpAnyH_ready (rs := [12]) (by kernel_rfl) (by simp) ?_
        refine AllReadyH.cons rfl (fun K hK => ?_) AllReadyH.nil
        go_simp
        obtain ⟨Y, hY⟩ : ∃ Y, Y = ((y3.setCell ⟨y2.heap.size, 0, none⟩ (.int .i64 sk)).setCell ⟨y2.heap.size, 1, none⟩ (.int .i64 sf)).setCell ⟨y2.heap.size, 2, none⟩ (.int .u64 (sm : Int)) := ⟨_, rfl⟩
        obtain ⟨GY, RY⟩ := unhide FIN Y hY
        rw [← hY]
        refine hK.out _ _ GY (fun hH9 => ?_)
        clear hK K hH9 hY FIN
        try simp only [Act.put, List.getElem_toArray, List.getElem_cons_succ, List.getElem_cons_zero, List.setIfInBounds_toArray, List.set_cons_zero, List.set_cons_succ]
        refine wpAnyH_take (i := 13) (v := .int .i64 er) rfl (by kernel_rfl) (by kernel_rfl) (by kernel_rfl) (fun _ _ _ h => h) (Or.inl ⟨by rfl, fun w hSw => by go_simp⟩) (by assumption) ?_
        try simp only [Act.put, List.getElem_toArray, List.getElem_cons_succ, List.getElem_cons_zero, List.setIfInBounds_toArray, List.set_cons_zero, List.set_cons_succ]
        refine wpAnyH_done (by kernel_rfl) (NoPanic.normal ?_) _
        replace RY := hide RY
        clear s0 s1 s2 s3
        go_wp2_with fail
        go_meet
        exact ⟨y2.heap.size, rfl, rfl, RY⟩
      · skip
        go_simp
        obtain ⟨y2, hy2⟩ : ∃ z, z = y1.alloc (.cells #[.int .i64 0, .int .i64 0, .int .u64 0] 72) := ⟨_, rfl⟩
        rw [← hy2]
        have y2a : G (y1.alloc (.cells #[.int .i64 0, .int .i64 0, .int .u64 0] 72)) y2 := by rw [hy2]; exact G.refl _
        have hH2 : G w4 y2 := by rw [hy2]; exact hHeld.more _
        refine hK.out _ _ hH2 (fun hH9 => ?_)
        clear hK K hH9 hy2
        try simp only [Act.put, List.getElem_toArray, List.getElem_cons_succ, List.getElem_cons_zero, List.setIfInBounds_toArray, List.set_cons_zero, List.set_cons_succ]
        refine wpAnyH_ready (rs := [7]) (by kernel_rfl) (by simp) ?_
        refine AllReadyH.cons rfl (fun K hK => ?_) AllReadyH.nil
        go_simp
        refine (unhide hsh y2 ((unhide g14).trans hH2)).mono ?_
        rintro e y3 ⟨rfl, y3g⟩
        go_wp2_with fail
        have hH3 := hH2.trans y3g
        refine hK.out _ _ hH3 (fun hH9 => ?_)
        clear hK K hH9
        try simp only [Act.put, List.getElem_toArray, List.getElem_cons_succ, List.getElem_cons_zero, List.setIfInBounds_toArray, List.set_cons_zero, List.set_cons_succ]
        refine wpAnyH_take (i := 8) (v := .tuple #[.agg #[.int .i64 sk, .int .i64 sf, .int .u64 (sm : Int)], .int .i64 er]) rfl (by kernel_rfl) (by kernel_rfl) (by kernel_rfl) (fun _ _ _ h => h) (Or.inl ⟨by rfl, fun w hSw => by go_simp⟩) (by assumption) ?_
        try simp only [Act.put, List.getElem_toArray, List.getElem_cons_succ, List.getElem_cons_zero, List.setIfInBounds_toArray, List.set_cons_zero, List.set_cons_succ]
        refine wpAnyH_take (i := 9) (v := .agg #[.int .i64 sk, .int .i64 sf, .int .u64 (sm : Int)]) rfl (by kernel_rfl) (by kernel_rfl) (by kernel_rfl) (fun _ _ _ h => h) (Or.inl ⟨by rfl, fun w hSw => by go_simp⟩) (by assumption) ?_
        try simp only [Act.put, List.getElem_toArray, List.getElem_cons_succ, List.getElem_cons_zero, List.setIfInBounds_toArray, List.set_cons_zero, List.set_cons_succ]
        refine wpAnyH_take (i := 10) (v := .int .i64 er) rfl (by kernel_rfl) (by kernel_rfl) (by kernel_rfl) (fun _ _ _ h => h) (Or.inl ⟨by rfl, fun w hSw => by go_simp⟩) (by assumption) ?_
        try simp only [Act.put, List.getElem_toArray, List.getElem_cons_succ, List.getElem_cons_zero, List.setIfInBounds_toArray, List.set_cons_zero, List.set_cons_succ]
        obtain ⟨s0, s1, s2, s3, FIN⟩ := unhide ST y1 y3 hHeld (y2a.trans y3g)
        replace FIN := hide FIN
        refine wpAnyH_ready (rs := [12]) (by kernel_rfl) (by simp) ?_
        refine AllReadyH.cons rfl (fun K hK => ?_) AllReadyH.nil
        go_simp
        obtain ⟨Y, hY⟩ : ∃ Y, Y = ((y3.setCell ⟨y1.heap.size, 0, none⟩ (.int .i64 sk)).setCell ⟨y1.heap.size, 1, none⟩ (.int .i64 sf)).setCell ⟨y1.heap.size, 2, none⟩ (.int .u64 (sm : Int)) := ⟨_, rfl⟩
        obtain ⟨GY, RY⟩ := unhide FIN Y hY
        rw [← hY]
        refine hK.out _ _ GY (fun hH9 => ?_)
        clear hK K hH9 hY FIN
        try simp only [Act.put, List.getElem_toArray, List.getElem_cons_succ, List.getElem_cons_zero, List.setIfInBounds_toArray, List.set_cons_zero, List.set_cons_succ]
        refine wpAnyH_take (i := 13) (v := .int .i64 er) rfl (by kernel_rfl) (by kernel_rfl) (by kernel_rfl) (fun _ _ _ h => h) (Or.inl ⟨by rfl, fun w hSw => by go_simp⟩) (by assumption) ?_
        try simp only [Act.put, List.getElem_toArray, List.getElem_cons_succ, List.getElem_cons_zero, List.setIfInBounds_toArray, List.set_cons_zero, List.set_cons_succ]
        refine wpAnyH_done (by kernel_rfl) (NoPanic.normal ?_) _
        replace RY := hide RY
        clear s0 s1 s2 s3
        go_wp2_with fail
        go_meet
        exact ⟨y1.heap.size, rfl, rfl, RY⟩
    · skip
      go_simp
      obtain ⟨y2, hy2⟩ : ∃ z, z = y1.alloc (.cells #[.int .i64 0, .int .i64 0, .int .u64 0] 72) := ⟨_, rfl⟩
      rw [← hy2]
      have y2a : G (y1.alloc (.cells #[.int .i64 0, .int .i64 0, .int .u64 0] 72)) y2 := by rw [hy2]; exact G.refl _
      have hH2 : G w4 y2 := by rw [hy2]; exact hHeld.more _
      refine hK.out _ _ hH2 (fun hH9 => ?_)
      clear hK K hH9 hy2
      try simp only [Act.put, List.getElem_toArray, List.getElem_cons_succ, List.getElem_cons_zero, List.setIfInBounds_toArray, List.set_cons_zero, List.set_cons_succ]
      refine wpAnyH_ready (rs := [4]) (by kernel_rfl) (by simp) ?_
      refine AllReadyH.cons rfl (fun K hK => ?_) AllReadyH.nil
      go_simp
      refine (unhide TBL y2 ((unhide g14).trans hH2)).mono ?_
      rintro e w9 ⟨rfl, hw9⟩
      rw [hw9]
      clear hw9 w9
      go_wp2_with fail
      refine hK.out _ _ hH2 (fun hH9 => ?_)
      clear hK K hH9
      try simp only [Act.put, List.getElem_toArray, List.getElem_cons_succ, List.getElem_cons_zero, List.setIfInBounds_toArray, List.set_cons_zero, List.set_cons_succ]
      refine wpAnyH_ready (rs := [7]) (by kernel_rfl) (by simp) ?_
      refine AllReadyH.cons rfl (fun K hK => ?_) AllReadyH.nil
      go_simp
      refine (unhide hsh y2 ((unhide g14).trans hH2)).mono ?_
      rintro e y3 ⟨rfl, y3g⟩
      go_wp2_with fail
      have hH3 := hH2.trans y3g
      refine hK.out _ _ hH3 (fun hH9 => ?_)
      clear hK K hH9
      try simp only [Act.put, List.getElem_toArray, List.getElem_cons_succ, List.getElem_cons_zero, List.setIfInBounds_toArray, List.set_cons_zero, List.set_cons_succ]
      refine wpAnyH_take (i := 8) (v := .tuple #[.agg #[.int .i64 sk, .int .i64 sf, .int .u64 (sm : Int)], .int .i64 er]) rfl (by kernel_rfl) (by kernel_rfl) (by kernel_rfl) (fun _ _ _ h => h) (Or.inl ⟨by rfl, fun w hSw => by go_simp⟩) (by assumption) ?_
      try simp only [Act.put, List.getElem_toArray, List.getElem_cons_succ, List.getElem_cons_zero, List.setIfInBounds_toArray, List.set_cons_zero, List.set_cons_succ]
      refine wpAnyH_take (i := 9) (v := .agg #[.int .i64 sk, .int .i64 sf, .int .u64 (sm : Int)]) rfl (by kernel_rfl) (by kernel_rfl) (by kernel_rfl) (fun _ _ _ h => h) (Or.inl ⟨by rfl, fun w hSw => by go_simp⟩) (by assumption) ?_
      try simp only [Act.put, List.getElem_toArray, List.getElem_cons_succ, List.getElem_cons_zero, List.setIfInBounds_toArray, List.set_cons_zero, List.set_cons_succ]
      refine wpAnyH_take (i := 10) (v := .int .i64 er) rfl (by kernel_rfl) (by kernel_rfl) (by kernel_rfl) (fun _ _ _ h => h) (Or.inl ⟨by rfl, fun w hSw => by go_simp⟩) (by assumption) ?_
      try simp only [Act.put, List.getElem_toArray, List.getElem_cons_succ, List.getElem_cons_zero, List.setIfInBounds_toArray, List.set_cons_zero, List.set_cons_succ]
      obtain ⟨s0, s1, s2, s3, FIN⟩ := unhide ST y1 y3 hHeld (y2a.trans y3g)
      replace FIN := hide FIN
      refine wpAnyH_ready (rs := [12]) (by kernel_rfl) (by simp) ?_
      refine AllReadyH.cons rfl (fun K hK => ?_) AllReadyH.nil
      go_simp
      obtain ⟨Y, hY⟩ : ∃ Y, Y = ((y3.setCell ⟨y1.heap.size, 0, none⟩ (.int .i64 sk)).setCell ⟨y1.heap.size, 1, none⟩ (.int .i64 sf)).setCell ⟨y1.heap.size, 2, none⟩ (.int .u64 (sm : Int)) := ⟨_, rfl⟩
      obtain ⟨GY, RY⟩ := unhide FIN Y hY
      rw [← hY]
      refine hK.out _ _ GY (fun hH9 => ?_)
      clear hK K hH9 hY FIN
      try simp only [Act.put, List.getElem_toArray, List.getElem_cons_succ, List.getElem_cons_zero, List.setIfInBounds_toArray, List.set_cons_zero, List.set_cons_succ]
      refine wpAnyH_take (i := 13) (v := .int .i64 er) rfl (by kernel_rfl) (by kernel_rfl) (by kernel_rfl) (fun _ _ _ h => h) (Or.inl ⟨by rfl, fun w hSw => by go_simp⟩) (by assumption) ?_
      try simp only [Act.put, List.getElem_toArray, List.getElem_cons_succ, List.getElem_cons_zero, List.setIfInBounds_toArray, List.set_cons_zero, List.set_cons_succ]
      refine wpAnyH_done (by kernel_rfl) (NoPanic.normal ?_) _
      replace RY := hide RY
      clear s0 s1 s2 s3
      go_wp2_with fail
      go_meet
      exact ⟨y1.heap.size, rfl, rfl, RY⟩
  case rest =>
    obtain ⟨sB, rfl, rfl, HC⟩ := hcut
    obtain ⟨⟨a0, a1, a2, b0, b1, b2⟩, f0, f1⟩ := unhide BX wc ((unhide g14).trans (unhide HC).2.1)
    rcases unhide ERB with ⟨he, rfl⟩ | ⟨he, rfl⟩
    rotate_left
    · have NO2 := hide (unhide NO wc ((unhide g14).trans (unhide HC).2.1))
      clear BX NO ERB TBL HB0 hsh UB HC
      go_wp2_with fail
      obtain ⟨Y, hY⟩ : ∃ Y, Y = (((((wc.setCell ⟨w.heap.size, 0, none⟩ (.int .i64 0)).setCell ⟨w.heap.size, 1, none⟩ (.int .i64 0)).setCell ⟨w.heap.size, 2, none⟩ (.int .i64 0)).setCell ⟨w.heap.size + 1, 0, none⟩ (.int .i64 0)).setCell ⟨w.heap.size + 1, 1, none⟩ (.int .i64 0)).setCell ⟨w.heap.size + 1, 2, none⟩ (.int .u64 0) := ⟨_, rfl⟩
      obtain ⟨⟨y0, y1, y2, y3, y4, y5⟩, gY⟩ := unhide NO2 Y hY
      rw [← hY]
      refine bodyPost_ret (by simp [results, Tryz.results59, go_sem, y0, y1, y2, y3, y4, y5]; try rfl) rfl ?_
      exact ⟨rfl, gY⟩
    · obtain ⟨q0, q1, q2⟩ := unhide UB wc (unhide HC).2.1
      obtain ⟨lB, _, r0, r1, r2⟩ := unhide HC
      have hlt0 : w.heap.size < wc.heap.size := World.block_lt_of_cell? wc _ a0
      have hlt1 : w.heap.size + 1 < wc.heap.size := World.block_lt_of_cell? wc _ b0
      have YES : Hid ((((((((wc.setCell ⟨w.heap.size, 0, none⟩ (.int .i64 u0)).setCell ⟨w.heap.size, 1, none⟩ (.int .i64 u1)).setCell ⟨w.heap.size, 2, none⟩ (.int .i64 (k : Int))).setCell ⟨w.heap.size + 1, 0, none⟩ (.int .i64 sk)).setCell ⟨w.heap.size + 1, 1, none⟩ (.int .i64 sf)).setCell ⟨w.heap.size + 1, 2, none⟩ (.int .u64 (sm : Int))).drew.cell? ⟨w.heap.size, 0, none⟩ = some (.int .i64 u0) ∧ ((((((wc.setCell ⟨w.heap.size, 0, none⟩ (.int .i64 u0)).setCell ⟨w.heap.size, 1, none⟩ (.int .i64 u1)).setCell ⟨w.heap.size, 2, none⟩ (.int .i64 (k : Int))).setCell ⟨w.heap.size + 1, 0, none⟩ (.int .i64 sk)).setCell ⟨w.heap.size + 1, 1, none⟩ (.int .i64 sf)).setCell ⟨w.heap.size + 1, 2, none⟩ (.int .u64 (sm : Int))).drew.cell? ⟨w.heap.size, 1, none⟩ = some (.int .i64 u1) ∧ ((((((wc.setCell ⟨w.heap.size, 0, none⟩ (.int .i64 u0)).setCell ⟨w.heap.size, 1, none⟩ (.int .i64 u1)).setCell ⟨w.heap.size, 2, none⟩ (.int .i64 (k : Int))).setCell ⟨w.heap.size + 1, 0, none⟩ (.int .i64 sk)).setCell ⟨w.heap.size + 1, 1, none⟩ (.int .i64 sf)).setCell ⟨w.heap.size + 1, 2, none⟩ (.int .u64 (sm : Int))).drew.cell? ⟨w.heap.size, 2, none⟩ = some (.int .i64 (k : Int)) ∧ ((((((wc.setCell ⟨w.heap.size, 0, none⟩ (.int .i64 u0)).setCell ⟨w.heap.size, 1, none⟩ (.int .i64 u1)).setCell ⟨w.heap.size, 2, none⟩ (.int .i64 (k : Int))).setCell ⟨w.heap.size + 1, 0, none⟩ (.int .i64 sk)).setCell ⟨w.heap.size + 1, 1, none⟩ (.int .i64 sf)).setCell ⟨w.heap.size + 1, 2, none⟩ (.int .u64 (sm : Int))).drew.cell? ⟨w.heap.size + 1, 0, none⟩ = some (.int .i64 sk) ∧ ((((((wc.setCell ⟨w.heap.size, 0, none⟩ (.int .i64 u0)).setCell ⟨w.heap.size, 1, none⟩ (.int .i64 u1)).setCell ⟨w.heap.size, 2, none⟩ (.int .i64 (k : Int))).setCell ⟨w.heap.size + 1, 0, none⟩ (.int .i64 sk)).setCell ⟨w.heap.size + 1, 1, none⟩ (.int .i64 sf)).setCell ⟨w.heap.size + 1, 2, none⟩ (.int .u64 (sm : Int))).drew.cell? ⟨w.heap.size + 1, 1, none⟩ = some (.int .i64 sf) ∧ ((((((wc.setCell ⟨w.heap.size, 0, none⟩ (.int .i64 u0)).setCell ⟨w.heap.size, 1, none⟩ (.int .i64 u1)).setCell ⟨w.heap.size, 2, none⟩ (.int .i64 (k : Int))).setCell ⟨w.heap.size + 1, 0, none⟩ (.int .i64 sk)).setCell ⟨w.heap.size + 1, 1, none⟩ (.int .i64 sf)).setCell ⟨w.heap.size + 1, 2, none⟩ (.int .u64 (sm : Int))).drew.cell? ⟨w.heap.size + 1, 2, none⟩ = some (.int .u64 (sm : Int))) ∧ G w ((((((wc.setCell ⟨w.heap.size, 0, none⟩ (.int .i64 u0)).setCell ⟨w.heap.size, 1, none⟩ (.int .i64 u1)).setCell ⟨w.heap.size, 2, none⟩ (.int .i64 (k : Int))).setCell ⟨w.heap.size + 1, 0, none⟩ (.int .i64 sk)).setCell ⟨w.heap.size + 1, 1, none⟩ (.int .i64 sf)).setCell ⟨w.heap.size + 1, 2, none⟩ (.int .u64 (sm : Int))).drew) := hide (by
        obtain ⟨Y, hY⟩ : ∃ Y, Y = (((((wc.setCell ⟨w.heap.size, 0, none⟩ (.int .i64 u0)).setCell ⟨w.heap.size, 1, none⟩ (.int .i64 u1)).setCell ⟨w.heap.size, 2, none⟩ (.int .i64 (k : Int))).setCell ⟨w.heap.size + 1, 0, none⟩ (.int .i64 sk)).setCell ⟨w.heap.size + 1, 1, none⟩ (.int .i64 sf)).setCell ⟨w.heap.size + 1, 2, none⟩ (.int .u64 (sm : Int)) := ⟨_, rfl⟩
        obtain ⟨z0, z1, z2, z3, z4, z5, z6⟩ := put6 (Nat.le_refl _) ((unhide GW).trans ((unhide g14).trans (unhide HC).2.1)) a0 a1 a2 b0 b1 b2 _ _ _ _ _ _ Y hY
        rw [← hY]
        exact ⟨⟨z0, z1, z2, z3, z4, z5⟩, z6.drew⟩)
      have nB0 : w3.heap.size ≠ w.heap.size := by have := unhide NW3; omega
      have nB1 : w3.heap.size ≠ w.heap.size + 1 := by have := unhide NW3; omega
      have gs4 := (unhide g14).size
      have hs3 : w3.heap.size < w4.heap.size := by
        obtain ⟨p0, _⟩ := unhide UB w4 (G.refl _)
        exact World.block_lt_of_cell? w4 _ p0
      have nC0 : sB ≠ w.heap.size := by have := unhide NW3; omega
      have nC1 : sB ≠ w.heap.size + 1 := by have := unhide NW3; omega
      clear BX NO ERB TBL HB0 hsh UB HC lB gs4 hs3
      go_upto_region 10 with fail
      go_cut [6] (fun v6 wx => v6 = .bool true ∧ Hid ((wx.cell? ⟨w.heap.size, 0, none⟩ = some (.int .i64 u0) ∧ wx.cell? ⟨w.heap.size, 1, none⟩ = some (.int .i64 u1) ∧ wx.cell? ⟨w.heap.size, 2, none⟩ = some (.int .i64 (k : Int)) ∧ wx.cell? ⟨w.heap.size + 1, 0, none⟩ = some (.int .i64 sk) ∧ wx.cell? ⟨w.heap.size + 1, 1, none⟩ = some (.int .i64 sf) ∧ wx.cell? ⟨w.heap.size + 1, 2, none⟩ = some (.int .u64 (sm : Int))) ∧ G w wx))
      case first =>
        go_region
        all_goals
          go_wp2_with fail
          go_meet
          exact ⟨rfl, YES⟩
      case rest =>
        obtain ⟨rfl, HE⟩ := hcut
        obtain ⟨⟨y0, y1, y2, y3, y4, y5⟩, gY⟩ := unhide HE
        go_wp2_with fail
        refine bodyPost_ret (by simp [results, Tryz.results59, go_sem, y0, y1, y2, y3, y4, y5]; try rfl) rfl ?_
        exact ⟨rfl, gY⟩
theorem h_of (h : Hid (HS W w x al l n ao cap nv c)) (a : Int) : Calls Tryz.prog 59 #[.pointer (some ⟨x.hb, 0, none⟩), .int .i64 a] w fun e w' => e = .returned (ofV (ofP al l a)) ∧ G w w' :=
  hb_of (hide (unhide h).hB) a
end
end Go.Proofs.YtdnhmkbdphpjcaaGreatDoor

/- Package heap: Get, At, Len, Set, Put. -/
namespace Go.Proofs.YtdnhmkbdphpjcaaGreatDoor
set_option maxRecDepth 100000
open Go.ChangeShapes Go.WideShapes Go.ChangeAt Go.RowKit Go.Maps Go.Deep

theorem ofP_some {al : Al} {l : List Hd.Shp} {a wd kd nm : Int} {s : Hd.Shp} (h : ofP al l a = some (wd, kd, nm, s)) : (1 ≤ wd ∧ wd ≤ 64) ∧ s ∈ l := by
  unfold ofP at h
  split at h
  · split at h
    · rename_i hu
      split at h
      · rename_i s' hs
        simp only [Option.some.injEq, Prod.mk.injEq] at h
        obtain ⟨rfl, rfl, rfl, rfl⟩ := h
        refine ⟨?_, List.mem_of_getElem? hs⟩
        unfold Hd.uokB Hd.hokB Hd.inB at hu
        simp at hu
        omega
      · cases h
    · cases h
  · cases h
def getT (al : Al) (l : List Hd.Shp) (a f : Int) (ad : Bool) : Int × Int := match ofP al l a with
  | none => (0, 1)
  | some (wd, kd, _, s) => if kd = 0 ∧ hfB wd s.f f = true ∧ Hd.holdsB s.k s.m f wd = ad then rdT al a f 1 else (0, 1)
def atT (al : Al) (l : List Hd.Shp) (a i : Int) (ad : Bool) : Int × Int := match ofP al l a with
  | none => (0, 1)
  | some (wd, kd, _, s) => if kd = 1 ∧ Hd.holdsB s.k s.m 0 2 = ad then (if i < 0 ∨ wd - 1 ≤ i then (0, 2) else rdT al a i 2) else (0, 1)
def lenT (al : Al) (l : List Hd.Shp) (a : Int) : Int × Int := match ofP al l a with
  | none => (0, 1)
  | some (wd, kd, _, _) => if kd = 1 then (wd - 1, 0) else (0, 1)
theorem two_box (w1 : World) (wd kd nm sk sf : Int) (sm : Nat) (W2 : World) (hW2 : W2 = (w1.alloc (.cells #[.int .i64 wd, .int .i64 kd, .int .i64 nm] 128)).alloc (.cells #[.int .i64 sk, .int .i64 sf, .int .u64 (sm : Int)] 72)) : G w1 W2 ∧ ∀ y, G W2 y → (y.cell? ⟨w1.heap.size, 0, none⟩ = some (.int .i64 wd) ∧ y.cell? ⟨w1.heap.size, 1, none⟩ = some (.int .i64 kd) ∧ y.cell? ⟨w1.heap.size, 2, none⟩ = some (.int .i64 nm)) ∧ (y.cell? ⟨w1.heap.size + 1, 0, none⟩ = some (.int .i64 sk) ∧ y.cell? ⟨w1.heap.size + 1, 1, none⟩ = some (.int .i64 sf) ∧ y.cell? ⟨w1.heap.size + 1, 2, none⟩ = some (.int .u64 (sm : Int))) := by
  refine ⟨by rw [hW2]; exact ((G.refl w1).more _).more _, fun y g => ⟨⟨g.cell ?_, g.cell ?_, g.cell ?_⟩, ⟨g.cell ?_, g.cell ?_, g.cell ?_⟩⟩⟩
  all_goals (rw [hW2]; simp [go_sem])
section
variable {W w : World} {x : Hx} {al : Al} {l : List Hd.Shp} {n : Nat} {ao : Option Addr} {cap : Nat} {nv : Value} {c : Nat → Nat}
end
end Go.Proofs.YtdnhmkbdphpjcaaGreatDoor

/- Package heap: take, first, Make, while there is room. -/
namespace Go.Proofs.YtdnhmkbdphpjcaaGreatDoor
set_option maxRecDepth 100000
open Go.ChangeShapes Go.WideShapes Go.ChangeAt Go.RowKit Go.Maps Go.Deep

section
variable {W w : World} {x : Hx} {al : Al} {l : List Hd.Shp} {n : Nat} {ao : Option Addr} {cap : Nat} {nv : Value} {c : Nat → Nat}
theorem hs_takeK (h : Hid (HS W w x al l n ao cap nv c)) (m v : Int) (al' : Al) (hR : Hid (al.take m = (al', v, 0))) : Calls Tryz.prog 64 #[.pointer (some ⟨x.b.cb, 0, none⟩), .int .i64 m] w fun r w' => r = .returned (.tuple #[.int .i64 v, .int .i64 0]) ∧ HS W w' x al' l n ao cap nv c ∧ Kp3 w c w' := by
  have c1 := (unhide h).ks.c1
  have C := hide (l_take (hide (unhide h).ks.st) m)
  rw [unhide hR] at C
  simp only at C
  go_enter Tryz.func64, Tryz.ntmps64
  go_wp2_with fail
  refine (unhide C).mono ?_
  rintro r w1 ⟨rfl, s1, t1⟩
  have h1 := hide ((unhide h).turn s1 t1)
  have p1 := hide ((unhide h).kp t1)
  have C2 := hide (k_shades (hide (unhide h1).ks))
  simp only [show ((0 : Int) == 1 || (0 : Int) == 2) = false from rfl] at C2
  clear C s1 t1
  go_wp2_with fail
  refine (unhide C2).mono ?_
  rintro r w2 ⟨rfl, hw2⟩
  rw [hw2]
  clear C2 hw2 w2
  go_wp2_with fail
  go_ret2
  exact ⟨rfl, unhide h1, unhide p1⟩
theorem h_takeK (h : Hid (HS W w x al l n ao cap nv c)) (m v : Int) (al' : Al) (hR : Hid (al.take m = (al', v, 0))) (rv : Value) : Calls Tryz.prog 41 #[.pointer (some ⟨x.hb, 0, none⟩), .int .i64 m, rv] w fun r w' => r = .returned (.tuple #[.int .i64 v, .int .i64 0]) ∧ HS W w' x al' l n ao cap nv c ∧ Kp3 w c w' := by
  have h0 := (unhide h).h0
  have C := hide (hs_takeK h m v al' hR)
  clear hR h
  go_enter Tryz.func41, Tryz.ntmps41
  go_wp2_with fail
  refine (unhide C).mono ?_
  rintro r w1 ⟨rfl, S1, p1⟩
  replace S1 := hide S1
  replace p1 := hide p1
  clear C
  go_wp2_with fail
  go_ret2
  exact ⟨rfl, unhide S1, unhide p1⟩
theorem NrAt.get {B : Nat} {v : Value} (h : NrAt w B v n) (k : Nat) (hk : k < n) : ∃ g cp, v = .slice (some ⟨g, 0, none⟩) n cp ∧ w.cell? ⟨g, k, none⟩ = some (.int .i64 (k : Int)) := by
  rcases h.2 with ⟨_, e⟩ | ⟨g, cp, cur, e, _, h3, _, _, _, h7⟩
  · omega
  · refine ⟨g, cp, e, ?_⟩
    rw [cell_of_row _ _ _ _ _ _ h3]
    have h8 : (nrL n)[k]? = some (.int .i64 (k : Int)) := by
      unfold nrL
      rw [List.getElem?_map, List.getElem?_range hk]
      rfl
    rw [← h7, List.getElem?_take] at h8
    split at h8
    · simpa using h8
    · cases h8
theorem NrAt.shape {B : Nat} {v : Value} (h : NrAt w B v n) : ∃ ao cp, v = .slice ao n cp := by
  rcases h.2 with ⟨e, e2⟩ | ⟨g, cp, cur, e, _⟩
  · exact ⟨none, 0, by rw [e, e2]⟩
  · exact ⟨_, cp, e⟩
theorem h_first (h : Hid (HS W w x al l n ao cap nv c)) (k : Nat) (hk : k < n) (s : Hd.Shp) (hs : l[k]? = some s) (wd : Int) : Calls Tryz.prog 42 #[.pointer (some ⟨x.hb, 0, none⟩), .int .i64 (k : Int), .int .i64 wd] w fun r w' => r = .returned (.int .i64 (Hd.pkV wd s.k (k : Int))) ∧ G w w' := by
  obtain ⟨g, cp, hv, ck⟩ := (unhide h).num.get k hk
  have h0 := (unhide h).h0
  have h1 := (unhide h).h1
  rw [hv] at h1
  have CT := hide (k_table (hide (unhide h).ks))
  have CS := hide (Hd.shape_yes w _ _ _ _ _ l (unhide h).tab k s hs)
  have hkI : (k : Int) < (n : Int) := by omega
  have hk0 : (0 : Int) ≤ (k : Int) := by omega
  obtain ⟨sk, hsk⟩ : ∃ sk, sk = s.k := ⟨_, rfl⟩
  generalize s.f = sf at CS
  generalize s.m = sm at CS
  rw [← hsk] at CS ⊢
  have CP := hide (fun y => Hd.pack_any wd sk (k : Int) y)
  generalize Hd.pkV wd sk (k : Int) = pv at CP ⊢
  generalize Hd.pkE wd sk (k : Int) = pe at CP
  clear h hs hsk hv hk
  go_enter Tryz.func42, Tryz.ntmps42
  go_wp2_with fail
  refine (unhide CT).mono ?_
  rintro r w1 ⟨rfl, hw1⟩
  rw [hw1]
  clear hw1 w1 CT
  go_wp2_with fail
  refine (unhide CS).mono ?_
  rintro r w2 ⟨rfl, g2⟩
  clear CS
  go_upto_region 3 with fail
  obtain ⟨w3, hw3⟩ : ∃ w3, w3 = w2.alloc (.cells #[.int .i64 sk, .int .i64 sf, .int .u64 (sm : Int)] 72) := ⟨_, rfl⟩
  rw [← hw3]
  have q0 : w3.cell? ⟨w2.heap.size, 0, none⟩ = some (.int .i64 sk) := by rw [hw3]; simp [go_sem]
  have g3 := hide (g2.trans (show G w2 w3 by rw [hw3]; exact G.alloc _ _))
  clear hw3 g2
  go_wp2_with fail
  refine (unhide CP w3).mono ?_
  rintro r w4 ⟨rfl, hw4⟩
  have g4 := hide ((unhide g3).trans (show G w3 w4 by rw [hw4]; exact G.alloc _ _))
  clear hw4 CP g3
  go_wp2_with fail
  go_ret
  exact ⟨rfl, unhide g4⟩
theorem h_make_bad (h : Hid (HS W w x al l n ao cap nv c)) (k wd : Int) (hb : k < 0 ∨ (n : Int) ≤ k ∨ wd < 1 ∨ 64 < wd) (rv : Value) : Calls Tryz.prog 19 #[.pointer (some ⟨x.hb, 0, none⟩), .int .i64 k, .int .i64 wd, rv] w fun r w' => r = .returned (.tuple #[.int .i64 0, .int .i64 1]) ∧ w' = w := by
  obtain ⟨ao', cp, hv⟩ := (unhide h).num.shape
  have h1 := (unhide h).h1
  rw [hv] at h1
  clear h hv
  by_cases a1 : k < 0
  · clear hb
    go_enter Tryz.func19, Tryz.ntmps19
    go_wp2_with fail
    go_ret2
    exact ⟨rfl, rfl⟩
  by_cases a2 : (n : Int) ≤ k
  · clear hb
    go_enter Tryz.func19, Tryz.ntmps19
    go_wp2_with fail
    go_ret2
    exact ⟨rfl, rfl⟩
  by_cases a3 : wd < 1
  · clear hb
    go_enter Tryz.func19, Tryz.ntmps19
    go_wp2_with fail
    go_ret2
    exact ⟨rfl, rfl⟩
  have a4 : 64 < wd := by omega
  clear hb
  go_enter Tryz.func19, Tryz.ntmps19
  go_wp2_with fail
  go_ret2
  exact ⟨rfl, rfl⟩
set_option maxHeartbeats 1000000 in
theorem h_makeK (h : Hid (HS W w x al l n ao cap nv c)) (k : Nat) (hk : k < n) (s : Hd.Shp) (hs : l[k]? = some s) (wd v : Int) (hw1 : 1 ≤ wd) (hw2 : wd ≤ 64) (al' : Al) (hR : Hid (al.take wd = (al', v, 0))) (rv : Value) : Calls Tryz.prog 19 #[.pointer (some ⟨x.hb, 0, none⟩), .int .i64 (k : Int), .int .i64 wd, rv] w fun r w' => r = .returned (.tuple #[.int .i64 v, .int .i64 0]) ∧ HS W w' x ⟨al'.a.writeA v 0 (Hd.pkV wd s.k (k : Int)), al'.u⟩ l n ao cap nv c ∧ Kp3 w c w' := by
  obtain ⟨ao', cp, hv⟩ := (unhide h).num.shape
  have h1 := (unhide h).h1
  rw [hv] at h1
  have CT := hide (h_takeK h wd v al' hR rv)
  have CF : Hid (∀ y, HS W y x al' l n ao cap nv c → Calls Tryz.prog 42 #[.pointer (some ⟨x.hb, 0, none⟩), .int .i64 (k : Int), .int .i64 wd] y fun r w' => r = .returned (.int .i64 (Hd.pkV wd s.k (k : Int))) ∧ G y w') := hide fun y hy => h_first (hide hy) k hk s hs wd
  have hk0 : ¬ (k : Int) < 0 := by omega
  have hkn : ¬ (n : Int) ≤ (k : Int) := by omega
  have hw1' : ¬ wd < 1 := by omega
  have hw2' : ¬ 64 < wd := by omega
  generalize Hd.pkV wd s.k (k : Int) = pv at CF ⊢
  clear h hv hR hs hw1 hw2 hk
  go_enter Tryz.func19, Tryz.ntmps19
  go_wp2_with fail
  refine (unhide CT).mono ?_
  rintro r w1 ⟨rfl, S1, p1⟩
  replace p1 := hide p1
  have q0 := S1.h0
  have CA := hide (k_arena (hide S1.ks))
  have CF1 := hide (unhide CF w1 S1)
  replace S1 := hide S1
  clear CT CF h1
  go_wp2_with fail
  refine (unhide CA).mono ?_
  rintro r w2 ⟨rfl, hw2⟩
  rw [hw2]
  clear hw2 w2 CA
  go_wp2_with fail
  refine (unhide CF1).mono ?_
  rintro r w3 ⟨rfl, g3⟩
  have S3 := (unhide S1).gr g3
  have CW : Hid (Calls Tryz.prog 34 #[.pointer (some ⟨x.xl.d.ab, 0, none⟩), .int .i64 v, .int .i64 0, .int .i64 pv] w3 fun e w' => (∃ r, e = .returned (.int .i64 r)) ∧ Hid (HS W w' x ⟨al'.a.writeA v 0 pv, al'.u⟩ l n ao cap nv c ∧ Kp3 w c w')) := hide ((ls_write (hide S3.ks.st) v 0 pv).mono fun _ _ hh => ⟨⟨_, hh.1⟩, hide ⟨S3.turn hh.2.1 hh.2.2, (unhide p1).trans ((Kp3.of_G g3).trans (S3.kp hh.2.2))⟩⟩)
  clear CF1 g3 S3 S1 q0 p1
  go_wp2_with fail
  refine (unhide CW).mono ?_
  rintro r w4 ⟨⟨r4, rfl⟩, S4⟩
  clear CW
  go_wp2_with fail
  go_ret2
  exact ⟨rfl, unhide S4⟩
theorem h_make (h : Hid (HS W w x al l n ao cap nv c)) (k : Nat) (hk : k < n) (s : Hd.Shp) (hs : l[k]? = some s) (wd v : Int) (hw1 : 1 ≤ wd) (hw2 : wd ≤ 64) (al' : Al) (hR : Hid (al.take wd = (al', v, 0))) (rv : Value) : Calls Tryz.prog 19 #[.pointer (some ⟨x.hb, 0, none⟩), .int .i64 (k : Int), .int .i64 wd, rv] w fun r w' => r = .returned (.tuple #[.int .i64 v, .int .i64 0]) ∧ HS W w' x ⟨al'.a.writeA v 0 (Hd.pkV wd s.k (k : Int)), al'.u⟩ l n ao cap nv c :=
  (h_makeK h k hk s hs wd v hw1 hw2 al' hR rv).mono fun _ _ hh => ⟨hh.1, hh.2.1⟩
end
end Go.Proofs.YtdnhmkbdphpjcaaGreatDoor

/- A view of a heap, whatever its collector does. -/
namespace Go.Proofs.YtdnhmkbdphpjcaaGreatDoor
set_option maxRecDepth 100000
open Go.ChangeShapes Go.WideShapes Go.ChangeAt Go.RowKit Go.Maps Go.Deep

/-- What a call turns: blocks of the heap's own (o), and it may have more of them then (o'), new ones. -/
structure Fr (o o' : Nat → Prop) (w w' : World) : Prop where
  size : w.heap.size ≤ w'.heap.size
  kept : ∀ d, d < w.heap.size → ¬ o d → w'.heap[d]? = w.heap[d]?
  more : ∀ d, o' d → o d ∨ w.heap.size ≤ d
section
variable {o o1 o2 : Nat → Prop} {w w1 w2 : World}
theorem Fr.of_G (g : G w w1) : Fr o o w w1 := ⟨g.size, fun d hd _ => g.block d hd, fun _ h => Or.inl h⟩
theorem Fr.trans (h : Fr o o1 w w1) (k : Fr o1 o2 w1 w2) : Fr o o2 w w2 := by
  refine ⟨Nat.le_trans h.size k.size, fun d hd ho => (k.kept d (Nat.lt_of_lt_of_le hd h.size) (fun h1 => ?_)).trans (h.kept d hd ho), fun d hd => ?_⟩
  · rcases h.more d h1 with e | e
    · exact ho e
    · omega
  · rcases k.more d hd with e | e
    · exact h.more d e
    · exact Or.inr (Nat.le_trans h.size e)
theorem Fr.g (h : Fr o o1 w w1) (k : G w1 w2) : Fr o o1 w w2 := h.trans (Fr.of_G k)
theorem Fr.cell (h : Fr o o1 w w1) {b i : Nat} {v : Value} (hb : b < w.heap.size) (ho : ¬ o b) (hc : w.cell? ⟨b, i, none⟩ = some v) : w1.cell? ⟨b, i, none⟩ = some v :=
  (World.cell?_of_block (a := ⟨b, i, none⟩) (h.kept b hb ho)).trans hc
end
/-- A view of a heap: V: its arena and allocator are al, g: what else is known; own: its blocks. -/
structure HV {γ : Type} (V : World → Al → γ → Prop) (own : γ → Nat → Prop) (hb cb ab : Nat) (l : List Hd.Shp) : Prop where
  of_ : ∀ w al g a, V w al g → Calls Tryz.prog 59 #[.pointer (some ⟨hb, 0, none⟩), .int .i64 a] w fun e w' => e = .returned (ofV (ofP al l a)) ∧ G w w'
  gr : ∀ w w' al g, V w al g → G w w' → V w' al g
  lt : ∀ w al g, V w al g → ∀ d, own g d → d < w.heap.size
  cyc : ∀ w al g, V w al g → Calls Tryz.prog 20 #[.pointer (some ⟨hb, 0, none⟩)] w fun e w' => e = .returned (.pointer (some ⟨cb, 0, none⟩)) ∧ w' = w
  arena : ∀ w al g, V w al g → Calls Tryz.prog 22 #[.pointer (some ⟨cb, 0, none⟩)] w fun e w' => e = .returned (.pointer (some ⟨ab, 0, none⟩)) ∧ w' = w
  read : ∀ w al g a i, V w al g → Calls Tryz.prog 62 #[.pointer (some ⟨ab, 0, none⟩), .int .i64 a, .int .i64 i] w fun e w' => e = .returned (.tuple #[.int .i64 (al.a.readV a i), .int .i64 (al.a.readE a i)]) ∧ G w w'
  write : ∀ w al g a i v, V w al g → Calls Tryz.prog 34 #[.pointer (some ⟨ab, 0, none⟩), .int .i64 a, .int .i64 i, .int .i64 v] w fun e w' => e = .returned (.int .i64 (al.a.readE a i)) ∧ V w' ⟨al.a.writeA a i v, al.u⟩ g ∧ Fr (own g) (own g) w w'
  fit : ∀ s ∈ l, s.m < 18446744073709551616
/-- What a Barrier does: Pg: what is known of the rest then. -/
def BarC {γ : Type} (V : World → Al → γ → Prop) (own : γ → Nat → Prop) (cb : Nat) (al : Al) (g : γ) (old v id : Int) (al2 : Al) (Pg : γ → Prop) : Prop :=
  ∀ y, V y al g → Calls Tryz.prog 63 #[.pointer (some ⟨cb, 0, none⟩), .int .i64 old, .int .i64 v, .int .i64 id] y fun e w' => e = .returned (.tuple #[]) ∧ ∃ g2, Pg g2 ∧ V w' al2 g2 ∧ Fr (own g) (own g2) y w'
end Go.Proofs.YtdnhmkbdphpjcaaGreatDoor

/- PLAIN: channels in an arena's words (chapter 15): what is in one, put in, taken out, closed. -/
namespace Go.Proofs.YtdnhmkbdphpjcaaGreatDoor
set_option maxRecDepth 100000
open Go.ChangeShapes Go.WideShapes Go.ChangeAt Go.RowKit Go.Maps

theorem wd_write (a : Ab) (p v y : Int) : (a.write p v).wd y = if y = p then v else a.wd y := rfl
theorem wd_same (a : Ab) (p v : Int) : (a.write p v).wd p = v := if_pos rfl
theorem wd_other (a : Ab) {p v y : Int} (h : y ≠ p) : (a.write p v).wd y = a.wd y := if_neg h
theorem inW_write (a : Ab) (p v x i : Int) : (a.write p v).inW x i = a.inW x i := rfl
theorem ofP_write {al : Al} {l : List Hd.Shp} {a p v : Int} (h : p ≠ a) : ofP ⟨al.a.write p v, al.u⟩ l a = ofP al l a := by
  have h1 : (al.a.write p v).readE a 0 = al.a.readE a 0 := rfl
  have h2 : (al.a.write p v).readV a 0 = al.a.readV a 0 := by
    unfold Ab.readV
    rw [inW_write]
    have : (al.a.write p v).wd (a + 0) = al.a.wd (a + 0) := wd_other _ (by omega)
    rw [this]
  unfold ofP
  simp only
  rw [h1, h2]
/-- A channel: its room, whether its elements are addresses. -/
structure Cz (al : Al) (l : List Hd.Shp) (a : Int) (R : Nat) (adr : Bool) : Prop where
  of_ : ∃ sh s, ofP al l a = some ((R : Int) + 5, 3, sh, s) ∧ Hd.holdsB s.k s.m 4 6 = adr
  inw : ∀ j : Nat, j < R + 5 → al.a.inW a (j : Int) = true
  room : al.a.wd (a + 1) = (R : Int)
  r0 : R ≤ 59
/-- What is in it: f: where the first one is. -/
structure Cq (b : Ab) (a : Int) (R f : Nat) (q : List Int) (cl : Bool) : Prop where
  cnt : b.wd (a + 2) = (q.length : Int)
  fst : b.wd (a + 3) = (f : Int)
  shut : b.wd (a + 4) = if cl = true then 1 else 0
  len : q.length ≤ R
  fR : f ≤ R
  fl : 0 < R → f < R
  at_ : ∀ i v, q[i]? = some v → b.wd (a + (5 + ((f + i) % R : Nat))) = v
section
variable {al : Al} {l : List Hd.Shp} {a : Int} {R f : Nat} {adr cl : Bool} {q : List Int} {b : Ab}
theorem Cz.write (h : Cz al l a R adr) {p v : Int} (h0 : p ≠ a) (h1 : p ≠ a + 1) : Cz ⟨al.a.write p v, al.u⟩ l a R adr :=
  ⟨by rw [ofP_write h0]; exact h.of_, h.inw, (wd_other _ (Ne.symm h1)).trans h.room, h.r0⟩
theorem Cq.other (h : Cq b a R f q cl) {p v : Int} (hp : p < a ∨ a + (5 + (R : Int)) ≤ p) : Cq (b.write p v) a R f q cl := by
  refine ⟨(wd_other _ (by omega)).trans h.cnt, (wd_other _ (by omega)).trans h.fst, (wd_other _ (by omega)).trans h.shut, h.len, h.fR, h.fl, fun i u hi => (wd_other _ ?_).trans (h.at_ i u hi)⟩
  have hlt : i < q.length := (List.getElem?_eq_some_iff.1 hi).1
  have hm : (f + i) % R < R := Nat.mod_lt _ (by have := h.len; omega)
  omega
/-- One more is put in. -/
def pushB (b : Ab) (a : Int) (R f n : Nat) (v : Int) : Ab := (b.write (a + (5 + ((f + n) % R : Nat))) v).write (a + 2) ((n : Int) + 1)
theorem Cq.push (h : Cq b a R f q cl) (hl : q.length < R) (v : Int) : Cq (pushB b a R f q.length v) a R f (q ++ [v]) cl := by
  have hm : (f + q.length) % R < R := Nat.mod_lt _ (by omega)
  have hf := h.fl (by omega)
  unfold pushB
  refine ⟨?_, ?_, ?_, ?_, h.fR, h.fl, fun i u hi => ?_⟩
  · rw [wd_same, List.length_append, List.length_singleton]; omega
  · rw [wd_other _ (by omega), wd_other _ (by omega)]; exact h.fst
  · rw [wd_other _ (by omega), wd_other _ (by omega)]; exact h.shut
  · rw [List.length_append, List.length_singleton]; omega
  · rw [wd_other _ (by omega)]
    by_cases e : i = q.length
    · subst e
      rw [wd_same]
      simpa using hi
    · have hlt : i < q.length := by
        have := (List.getElem?_eq_some_iff.1 hi).1
        rw [List.length_append, List.length_singleton] at this
        omega
      rw [List.getElem?_append_left hlt] at hi
      rw [wd_other _ ?_]
      · exact h.at_ i u hi
      · have hne : (f + i) % R ≠ (f + q.length) % R := by
          intro he
          have h1 : f + i < R + R := by omega
          have h2 : f + q.length < R + R := by omega
          have m1 : (f + i) % R = if f + i < R then f + i else f + i - R := by
            split
            · exact Nat.mod_eq_of_lt (by assumption)
            · rw [Nat.mod_eq_sub_mod (by omega)]; exact Nat.mod_eq_of_lt (by omega)
          have m2 : (f + q.length) % R = if f + q.length < R then f + q.length else f + q.length - R := by
            split
            · exact Nat.mod_eq_of_lt (by assumption)
            · rw [Nat.mod_eq_sub_mod (by omega)]; exact Nat.mod_eq_of_lt (by omega)
          rw [m1, m2] at he
          split at he <;> split at he <;> omega
        omega
/-- The first is taken out. -/
def popB (b : Ab) (a : Int) (R f n : Nat) : Ab := ((b.write (a + (5 + (f : Int))) 0).write (a + 3) (((f + 1) % R : Nat) : Int)).write (a + 2) ((n : Int) - 1)
theorem Cq.pop {v : Int} (h : Cq b a R f (v :: q) cl) : b.wd (a + (5 + (f : Int))) = v ∧ Cq (popB b a R f (v :: q).length) a R ((f + 1) % R) q cl := by
  have hl := h.len
  rw [List.length_cons] at hl
  have hf := h.fl (by omega)
  have hm : (f + 1) % R < R := Nat.mod_lt _ (by omega)
  unfold popB
  refine ⟨?_, ?_, ?_, ?_, by omega, by omega, fun _ => hm, fun i u hi => ?_⟩
  · have := h.at_ 0 v rfl
    rw [Nat.add_zero, Nat.mod_eq_of_lt hf] at this
    exact this
  · rw [wd_same, List.length_cons]; omega
  · rw [wd_other _ (by omega), wd_same]
  · rw [wd_other _ (by omega), wd_other _ (by omega), wd_other _ (by omega)]; exact h.shut
  · have hlt : i < q.length := (List.getElem?_eq_some_iff.1 hi).1
    have e1 : ((f + 1) % R + i) % R = (f + (i + 1)) % R := by rw [Nat.mod_add_mod]; congr 1; omega
    rw [e1, wd_other _ (by omega), wd_other _ (by omega), wd_other _ ?_]
    · exact h.at_ (i + 1) u (by simpa using hi)
    · have hne : (f + (i + 1)) % R ≠ f := by
        intro he
        by_cases h1 : f + (i + 1) < R
        · rw [Nat.mod_eq_of_lt h1] at he; omega
        · rw [Nat.mod_eq_sub_mod (by omega), Nat.mod_eq_of_lt (by omega)] at he; omega
      omega
theorem Cq.close (h : Cq b a R f q cl) : Cq (b.write (a + 4) 1) a R f q true := by
  refine ⟨(wd_other _ (by omega)).trans h.cnt, (wd_other _ (by omega)).trans h.fst, wd_same _ _ _, h.len, h.fR, h.fl, fun i u hi => (wd_other _ (by omega)).trans (h.at_ i u hi)⟩
theorem Cz.push (h : Cz al l a R adr) (n : Nat) (v : Int) : Cz ⟨pushB al.a a R f n v, al.u⟩ l a R adr := by
  have h1 : Cz ⟨al.a.write (a + (5 + ((f + n) % R : Nat))) v, al.u⟩ l a R adr := h.write (by omega) (by omega)
  exact h1.write (by omega) (by omega)
theorem Cz.pop (h : Cz al l a R adr) (n : Nat) : Cz ⟨popB al.a a R f n, al.u⟩ l a R adr := by
  have h1 : Cz ⟨al.a.write (a + (5 + (f : Int))) 0, al.u⟩ l a R adr := h.write (by omega) (by omega)
  have h2 := h1.write (p := a + 3) (v := (((f + 1) % R : Nat) : Int)) (by omega) (by omega)
  exact h2.write (by omega) (by omega)
theorem Cz.close (h : Cz al l a R adr) : Cz ⟨al.a.write (a + 4) 1, al.u⟩ l a R adr := h.write (by omega) (by omega)
end
end Go.Proofs.YtdnhmkbdphpjcaaGreatDoor

/- Package heap: list, Add. -/
namespace Go.Proofs.YtdnhmkbdphpjcaaGreatDoor
set_option maxRecDepth 100000
open Go.ChangeShapes Go.WideShapes Go.ChangeAt Go.RowKit Go.Maps Go.Deep

theorem info_intH : (Tryz.prog.info? 3).map (fun i => (i.zero, i.size, i.bytes)) = some (some (.int .i64 0), 1, 8) := by kernel_rfl
theorem zero_intH (w : World) : (zeroValue 3).run Tryz.prog w = .ok (.int .i64 0) w := by kernel_rfl
theorem wpl_aph {ops : Array Oper} {rest : List Oper} {o : Oper} {a : Act} {w : World} {Q : Exit → Act → World → Prop} (hgd : o.guard = none) (s x : Operand) (t : TypeId) (ho : o.op = .call { callee := .builtin .append, args := #[s, x], argTypes := #[t, t] })
    (vs vx : Value) (hs : a.eval s = vs) (hx : a.eval x = vx) (v' : Value) (w' : World) (hrun : (Builtin.append_ #[t, t] o.type #[vs, vx]).run Tryz.prog w = .ok v' w') (h : wpList Tryz.prog ops Q rest (a.put o.dst v') w') : wpList Tryz.prog ops Q (o :: rest) a w := by
  refine wpList_plain hgd fun K hK => ?_
  unfold Oper.wp execOp
  simp only [ho, resolve, invoke, builtin, Sem.run_bind, Sem.run_pure, Result.andThen_ok, List.map_toArray, List.map_cons, List.map_nil, hs, hx, hrun]
  exact hK _ _ h
theorem nrL_succ (n : Nat) : nrL (n + 1) = nrL n ++ [.int .i64 (n : Int)] := by
  unfold nrL
  rw [List.range_succ, List.map_append]
  rfl
theorem nr_app {w : World} {B n : Nat} {v : Value} (h : NrAt w B v n) (hB : B ≤ w.heap.size) (hn : n ≤ 1000000) :
    ∃ v' w', (Builtin.append_ #[75, 75] 75 #[v, .slice (some ⟨w.heap.size, 0, none⟩) 1 1]).run Tryz.prog (w.alloc (.cells #[.int .i64 (n : Int)] 3)) = .ok v' w' ∧ NrAt w' B v' (n + 1) ∧ (w.alloc (.cells #[.int .i64 (n : Int)] 3)).grownBy w' v.ownBlock ∧ (v'.ownBlock = v.ownBlock ∨ v'.ownBlock = some (w.heap.size + 1)) := by
  obtain ⟨i, hi, hz, hs, hb⟩ := info_parts info_intH
  have ga := G.alloc w (.cells #[.int .i64 (n : Int)] 3)
  have h2 : NrAt (w.alloc (.cells #[.int .i64 (n : Int)] 3)) B v n := by
    rcases h.2 with h0 | ⟨g, cp, cur, e1, e2, e3, e4⟩
    · exact ⟨h.1, Or.inl h0⟩
    · refine ⟨h.1, Or.inr ⟨g, cp, cur, e1, e2, ?_, e4⟩⟩
      have hlt : g < w.heap.size := by
        rcases Nat.lt_or_ge g w.heap.size with hh | hh
        · exact hh
        · rw [Array.getElem?_eq_none hh] at e3; cases e3
      rw [ga.block g hlt]; exact e3
  obtain ⟨v', w', hrun, r1, r2, _, r4⟩ := run_append_own_at (P := Tryz.prog) (w.alloc (.cells #[.int .i64 (n : Int)] 3)) B 75 75 3 i _ 1 8 Tryz.underlying75 hi hz hs hb rfl (by decide) v n _ h2 ⟨w.heap.size, 0, none⟩ 1 1 [.int .i64 (n : Int)] rfl (fun j u hj => by
      rw [Addr.add_lit, cell_of_row _ _ _ _ _ _ (heap_alloc_new w _), Nat.zero_add]
      simpa using hj) (fun u hu => by simp at hu; subst hu; rfl) (by unfold maxLen; omega) (by omega) (Nat.le_trans hB ga.size)
  refine ⟨v', w', hrun, ?_, r2, ?_⟩
  · show w'.ownsRow B 3 1 v' (n + 1) (nrL (n + 1))
    rw [nrL_succ]
    exact r1
  · rw [World.size_alloc] at r4; exact r4
section
variable {W w : World} {x : Hx} {al : Al} {l : List Hd.Shp} {n : Nat} {ao : Option Addr} {cap : Nat} {nv : Value} {c : Nat → Nat}
theorem HS.nlo (h : HS W w x al l n ao cap nv c) : ∀ k, nv.ownBlock = some k → W.heap.size ≤ k := fun k hk => by
  rcases h.num.2 with ⟨e, _⟩ | ⟨g, cp, cur, e, h2, _⟩
  · rw [e] at hk; cases hk
  · rw [e] at hk
    obtain rfl : g = k := by simpa [Value.ownBlock] using hk
    exact h2
theorem HS.listed {w2 w4 : World} {v' : Value} (h : HS W w x al l n ao cap nv c) (g2 : (w.alloc (.cells #[.int .i64 (n : Int)] 3)).grownBy w2 nv.ownBlock) (r : NrAt w2 W.heap.size v' (n + 1)) (ob : v'.ownBlock = nv.ownBlock ∨ v'.ownBlock = some (w.heap.size + 1)) (g4 : (w2.setCell ⟨x.hb, 1, none⟩ v').grownBy w4 (some x.lm)) (m4 : LmAt w4 x.lm (n + 1)) :
    ∃ c', HS W w4 x al l (n + 1) ao cap v' c' := by
  have ga := G.alloc w (.cells #[.int .i64 (n : Int)] 3)
  have s2 := g2.size
  have s4 := g4.size
  rw [World.size_alloc] at s2
  rw [World.size_setCell] at s4
  have hl := h.hlt
  have lo := h.lo
  have hne : x.hb ≠ x.lm := fun e => by have := h.c6; rw [e, h.c7] at this; omega
  have k2 : ∀ d, d < w.heap.size → c d ≠ 8 → w2.heap[d]? = w.heap[d]? := fun d hd h8 => (g2.block d (by rw [World.size_alloc]; omega) (fun e => h8 (h.c8 d e.symm))).trans (ga.block d hd)
  have k4 : ∀ d, d < w2.heap.size → d ≠ x.hb → d ≠ x.lm → w4.heap[d]? = w2.heap[d]? := fun d hd h6 h7 => (g4.block d (by rw [World.size_setCell]; exact hd) (fun e => h7 (Option.some.inj e))).trans (Below.heap_setCell _ _ _ _ (by simpa using h6))
  have k : ∀ d, d < w.heap.size → c d ≠ 6 → c d ≠ 7 → c d ≠ 8 → w4.heap[d]? = w.heap[d]? := fun d hd h6 h7 h8 => (k4 d (by omega) (fun e => h6 (by rw [e]; exact h.c6)) (fun e => h7 (by rw [e]; exact h.c7))).trans (k2 d hd h8)
  have kh2 := k2 x.hb hl (by rw [h.c6]; decide)
  have kh4 : w4.heap[x.hb]? = (w2.setCell ⟨x.hb, 1, none⟩ v').heap[x.hb]? := g4.block x.hb (by rw [World.size_setCell]; omega) (fun e => hne (Option.some.inj e))
  have hcell : ∀ i u, i ≠ 1 → w.cell? ⟨x.hb, i, none⟩ = some u → w4.cell? ⟨x.hb, i, none⟩ = some u := fun i u hi hu => (World.cell?_of_block (a := ⟨x.hb, i, none⟩) kh4).trans ((cell_other _ (Or.inr hi)).trans ((World.cell?_of_block (a := ⟨x.hb, i, none⟩) kh2).trans hu))
  have hb : Below W.heap.size W w4 := by
    refine Below.trans h.ks.st.below ⟨g4.os.trans (g2.os.trans ga.os), g4.tape.trans (g2.tape.trans ga.tape), g4.output.trans (g2.output.trans ga.output), by omega, fun d hd => ?_⟩
    have hdw : d < w.heap.size := Nat.lt_of_lt_of_le hd h.ks.st.below.size
    refine (k4 d (by omega) (by omega) (by omega)).trans ((g2.block d (by rw [World.size_alloc]; omega) (fun e => ?_)).trans (ga.block d hdw))
    have := h.nlo d e.symm
    omega
  have ks := h.cyc hb (by omega) (fun d hd hc => k d hd (by omega) (by omega) (by omega))
  have cc : ∀ d, d < w.heap.size → (fun d => if w.heap.size ≤ d then 8 else c d) d = c d := fun d hd => if_neg (by omega)
  obtain ⟨l1, l2, l3, l4, l5⟩ := h.alt
  obtain ⟨a1, a2, a3, a4, a5⟩ := h.cA
  obtain ⟨e1, e2, e3, e4⟩ := h.cC
  have q1 : ∀ q, v'.ownBlock = some q → q ≠ x.hb ∧ q ≠ x.lm ∧ q < w2.heap.size := fun q hq => by
    have hlt : q < w2.heap.size := by
      rcases r.2 with ⟨e, _⟩ | ⟨g, cp, cur, e, _, h3, _⟩
      · rw [e] at hq; cases hq
      · rw [e] at hq
        obtain rfl : g = q := by simpa [Value.ownBlock] using hq
        rcases Nat.lt_or_ge g w2.heap.size with hh | hh
        · exact hh
        · rw [Array.getElem?_eq_none hh] at h3; cases h3
    have hlm := h.lt
    rcases ob with e | e
    · rw [e] at hq
      have h8 := h.c8 q hq
      exact ⟨fun e => by rw [e, h.c6] at h8; omega, fun e => by rw [e, h.c7] at h8; omega, hlt⟩
    · rw [e] at hq
      have := Option.some.inj hq
      exact ⟨by omega, by omega, hlt⟩
  refine ⟨fun d => if w.heap.size ≤ d then 8 else c d, ⟨ks, h.tab.kept (k _ h.tab.tlt (by rw [h.c3]; decide) (by rw [h.c3]; decide) (by rw [h.c3]; decide)) (k _ h.tab.mlt (by rw [h.c4]; decide) (by rw [h.c4]; decide) (by rw [h.c4]; decide)) (fun a ha => k _ (h.tab.aoB a ha).2 (by rw [h.c5 a ha]; decide) (by rw [h.c5 a ha]; decide) (by rw [h.c5 a ha]; decide)), hcell 0 _ (by decide) h.h0, (World.cell?_of_block (a := ⟨x.hb, 1, none⟩) kh4).trans (cell_same _ ((World.cell?_of_block (a := ⟨x.hb, 1, none⟩) kh2).trans h.h1)), hcell 2 _ (by decide) h.h2, hcell 3 _ (by decide) h.h3, fun i => (World.frozen?_of_block (a := ⟨x.hb, i, none⟩) kh4).trans ((World.frozen?_setCell _ _ _ _).trans ((World.frozen?_of_block (a := ⟨x.hb, i, none⟩) kh2).trans (h.hf i))), nr_kept r (fun q hq => k4 q (q1 q hq).2.2 (q1 q hq).1 (q1 q hq).2.1), m4, h.lo, by have := h.lt; omega, ⟨(cc _ l1).trans a1, (cc _ l2).trans a2, (cc _ l3).trans a3, (cc _ l4).trans a4, (cc _ l5).trans a5⟩, ⟨(cc _ (h.ks.ap _ (by simp)).1).trans e1, (cc _ (h.ks.ap _ (by simp)).1).trans e2, (cc _ (h.ks.ap _ (by simp)).1).trans e3, (cc _ (h.ks.ap _ (by simp)).1).trans e4⟩, (cc _ h.tab.tlt).trans h.c3, (cc _ h.tab.mlt).trans h.c4, fun a ea => (cc _ (h.tab.aoB a ea).2).trans (h.c5 a ea), (cc _ h.hlt).trans h.c6, (cc _ h.lt).trans h.c7, fun q hq => ?_⟩⟩
  rcases ob with e | e
  · rw [e] at hq; exact (cc _ (h.nlt q hq)).trans (h.c8 q hq)
  · rw [e] at hq
    have := Option.some.inj hq
    exact if_pos (by omega)
theorem LmAt.put {w' : World} {lm : Nat} {D : DataW Unit} (hn : n ≤ 1000000) (hD : ∀ y : Int, wfN y → Maps.has D (.int .i64 y) = decide (0 ≤ y ∧ y < (n : Int)) ∧ (0 ≤ y ∧ y < (n : Int) → D.atKey (.int .i64 y) (.lit (.int .i64 0)) = .lit (.int .i64 y))) (hi : w.ownsMap Tryz.prog 3 (plainElem Tryz.prog 3) lm n D) (hm : w'.ownsMap Tryz.prog 3 (plainElem Tryz.prog 3) lm (n + 1) (D.put (.int .i64 (n : Int)) (.lit (.int .i64 (n : Int))))) : LmAt w' lm (n + 1) := by
  refine ⟨_, hm, fun y hy => ?_⟩
  have hwn : wfN (n : Int) := WalkArith.wf_i64 (n := (n : Int)) (by omega)
  by_cases e : y = (n : Int)
  · subst e
    rw [Maps.has_put_same hi.isMap (keyI.key (keyOf_int_mk Tryz.underlying3 hwn))]
    refine ⟨by simp; omega, fun _ => ?_⟩
    rw [atKey_put_same hi.isMap (keyI.key (keyOf_int_mk Tryz.underlying3 hwn))]
  · have hne : (Lit.int .i64 y) ≠ (Lit.int .i64 (n : Int)) := by simpa using e
    rw [Maps.has_put_other (by simpa using e), (hD y hy).1]
    refine ⟨by simp only [decide_eq_decide]; omega, fun hlt => ?_⟩
    rw [atKey_put_other (by simpa using e)]
    exact (hD y hy).2 (by omega)
set_option maxHeartbeats 1000000 in
theorem h_list (h : Hid (HS W w x al l n ao cap nv c)) (hn : n ≤ 1000) : Calls Tryz.prog 33 #[.pointer (some ⟨x.hb, 0, none⟩), .int .i64 (n : Int)] w fun r w' => r = .returned (.int .i64 (n : Int)) ∧ ∃ nv' c', HS W w' x al l (n + 1) ao cap nv' c' := by
  obtain ⟨oa, cp, hv⟩ := (unhide h).num.shape
  obtain ⟨v', w2, hrun, r2, g2, ob⟩ := nr_app (unhide h).num (unhide h).ks.st.below.size (by omega)
  obtain ⟨oa', cp', hv'⟩ := r2.shape
  subst hv'
  obtain ⟨D, hD, hK⟩ := (unhide h).mp
  have h1 := (unhide h).h1
  have f1 := (unhide h).hf 1
  have h2 := (unhide h).h2
  have ga := G.alloc w (.cells #[.int .i64 (n : Int)] 3)
  have h1a := ga.cell h1
  have s2 := g2.size
  rw [World.size_alloc] at s2
  have kh2 : w2.heap[x.hb]? = w.heap[x.hb]? := (g2.block x.hb (by rw [World.size_alloc]; have := (unhide h).hlt; omega) (fun e => by have := (unhide h).c8 _ e.symm; rw [(unhide h).c6] at this; omega)).trans (ga.block x.hb (unhide h).hlt)
  have kl2 : w2.heap[x.lm]? = w.heap[x.lm]? := (g2.block x.lm (by rw [World.size_alloc]; have := (unhide h).lt; omega) (fun e => by have := (unhide h).c8 _ e.symm; rw [(unhide h).c7] at this; omega)).trans (ga.block x.lm (unhide h).lt)
  have q1 := (World.cell?_of_block (a := ⟨x.hb, 1, none⟩) kh2).trans h1
  have qf := (World.frozen?_of_block (a := ⟨x.hb, 1, none⟩) kh2).trans f1
  have hne : x.lm ≠ x.hb := fun e => by have := (unhide h).c7; rw [e, (unhide h).c6] at this; omega
  obtain ⟨w3, hw3⟩ : ∃ w3, w3 = w2.setCell ⟨x.hb, 1, none⟩ (.slice oa' (n + 1) cp') := ⟨_, rfl⟩
  have q2 : w3.cell? ⟨x.hb, 2, none⟩ = some (.map (some x.lm)) := by rw [hw3]; exact (cell_other _ (Or.inr (by decide))).trans ((World.cell?_of_block (a := ⟨x.hb, 2, none⟩) kh2).trans h2)
  have D3 : w3.ownsMap Tryz.prog 3 (plainElem Tryz.prog 3) x.lm n D := by
    obtain ⟨es, clock, hb, r⟩ := hD
    exact ⟨es, clock, by rw [hw3, Below.heap_setCell _ _ _ _ (by simpa using hne), kl2]; exact hb, r⟩
  have hwn : wfN (n : Int) := WalkArith.wf_i64 (n := (n : Int)) (by omega)
  have hkey : keyOf Tryz.prog 3 (.int .i64 (n : Int)) = some (.int .i64 (n : Int)) := keyOf_int_mk Tryz.underlying3 hwn
  have hhas : Maps.has D (.int .i64 (n : Int)) = false := by rw [(hK _ hwn).1]; simp
  have hval : plainElem (H := Unit) Tryz.prog 3 (.int .i64 (n : Int)) = some (.lit (.int .i64 (n : Int)), []) := plainElem_int Tryz.underlying3 hwn
  have FIN : Hid (∀ w4, w4.ownsMap Tryz.prog 3 (plainElem Tryz.prog 3) x.lm (n + 1) (D.put (.int .i64 (n : Int)) (.lit (.int .i64 (n : Int)))) → w3.grownBy w4 (some x.lm) → ∃ nv' c', HS W w4 x al l (n + 1) ao cap nv' c') := hide fun w4 m4 g4 => by
    rw [hw3] at g4
    obtain ⟨c', S⟩ := (unhide h).listed g2 r2 ob g4 (LmAt.put (by omega) hK hD m4)
    exact ⟨_, c', S⟩
  have hnm : n < maxLen := by unfold maxLen; omega
  rw [hv] at h1 h1a hrun q1
  replace hw3' := hide hw3
  clear h hv r2 g2 ob hD hK ga s2 kh2 kl2 hne hwn f1
  replace hn := hide hn
  go_enter Tryz.func33, Tryz.ntmps33
  go_upto_region 3 with (at_builtin; refine wpl_aph rfl (.tmp 17) (.tmp 19) 75 rfl _ _ rfl rfl _ _ hrun ?_)
  rw [← hw3]
  clear hw3 hrun q1 qf h1 h1a h2
  go_upto_region 4 with (at_lookup; refine wpList_lookup_own_ok_int _ rfl _ _ 74 rfl 3 3 .i64 keyI Tryz.underlying74 Tryz.underlying3 (zero_intH _) x.lm n D rfl D3 _ _ rfl hkey ?_; intro cc hat hwc; rw [hhas])
  go_wp2_with (at_mapUpdate; refine wpList_mapUpdate_own _ rfl _ _ _ 74 rfl 3 3 keyI Tryz.underlying74 (plainElem (H := Unit) Tryz.prog 3) x.lm n D rfl D3 hnm _ _ _ rfl rfl hkey _ [] hval ?_; intro w4 hm4 hg4; have S4 := hide (unhide FIN w4 hm4 hg4); clear hm4 hg4 FIN)
  go_ret
  exact ⟨rfl, unhide S4⟩
end
end Go.Proofs.YtdnhmkbdphpjcaaGreatDoor

/- Package heap: Add, New. -/
namespace Go.Proofs.YtdnhmkbdphpjcaaGreatDoor
set_option maxRecDepth 100000
open Go.ChangeShapes Go.WideShapes Go.ChangeAt Go.RowKit Go.Maps Go.Deep

section
variable {W w : World} {x : Hx} {al : Al} {l : List Hd.Shp} {n : Nat} {ao : Option Addr} {cap : Nat} {nv : Value} {c : Nat → Nat}
/-- The table is asked for a shape's number. -/
theorem hs_number (h : HS W w x al l n ao cap nv c) (s : Hd.Shp) (hs : s.Fit) (hlen : l.length < 65536) : Calls Tryz.prog 32 #[.pointer (some ⟨x.b.tb, 0, none⟩), .agg #[.int .i64 s.k, .int .i64 s.f, .int .u64 (s.m : Int)]] w fun e w' => e = .returned (.tuple #[.int .i64 (Hd.numV l s), .int .i64 (Hd.numE s)]) ∧ (∃ ao' cap' c', HS W w' x al (Hd.addS l s) n ao' cap' nv c') ∧ ∀ d, d < w.heap.size → c d ≠ 3 → c d ≠ 4 → c d ≠ 5 → w'.heap[d]? = w.heap[d]? := by
  refine (Hd.number_any w W.heap.size x.b.tb x.tm ao cap l s h.tab hs hlen h.ks.st.below.size).mono ?_
  rintro e w' ⟨ao', cap', he, T, tu, ha⟩
  obtain ⟨c', S⟩ := h.number T tu ha
  exact ⟨he, ⟨ao', cap', c', S⟩, fun d hd n3 n4 n5 => tu.block d hd (fun e => n3 (by rw [e]; exact h.c3)) (fun e => n4 (by rw [e]; exact h.c4)) (fun a ea e => n5 (by rw [e]; exact h.c5 a ea))⟩
/-- New blocks may be given any owner. -/
theorem HS.recol (h : HS W w x al l n ao cap nv c) (w0 : World) (h0 : HS W w0 x al l n ao cap nv c) : HS W w x al l n ao cap nv (fun d => if w0.heap.size ≤ d then 9 else c d) := by
  have cc : ∀ d, d < w0.heap.size → (fun d => if w0.heap.size ≤ d then 9 else c d) d = c d := fun d hd => if_neg (by omega)
  obtain ⟨l1, l2, l3, l4, l5⟩ := h0.alt
  obtain ⟨a1, a2, a3, a4, a5⟩ := h.cA
  obtain ⟨e1, e2, e3, e4⟩ := h.cC
  exact ⟨h.ks, h.tab, h.h0, h.h1, h.h2, h.h3, h.hf, h.num, h.mp, h.lo, h.lt, ⟨(cc _ l1).trans a1, (cc _ l2).trans a2, (cc _ l3).trans a3, (cc _ l4).trans a4, (cc _ l5).trans a5⟩, ⟨(cc _ (h0.ks.ap _ (by simp)).1).trans e1, (cc _ (h0.ks.ap _ (by simp)).1).trans e2, (cc _ (h0.ks.ap _ (by simp)).1).trans e3, (cc _ (h0.ks.ap _ (by simp)).1).trans e4⟩, (cc _ h0.tab.tlt).trans h.c3, (cc _ h0.tab.mlt).trans h.c4, fun a ea => (cc _ (h0.tab.aoB a ea).2).trans (h.c5 a ea), (cc _ h0.hlt).trans h.c6, (cc _ h0.lt).trans h.c7, fun q hq => (cc _ (h0.nlt q hq)).trans (h.c8 q hq)⟩
/-- What is not the table's is as it was. -/
def KpD (w : World) (c : Nat → Nat) (w' : World) : Prop := ∀ d, d < w.heap.size → c d ≠ 3 → c d ≠ 4 → c d ≠ 5 → w'.heap[d]? = w.heap[d]?
def AddK (w : World) (c : Nat → Nat) (l : List Hd.Shp) (s : Hd.Shp) (w' : World) : Prop := s ∈ l → KpD w c w'
end
end Go.Proofs.YtdnhmkbdphpjcaaGreatDoor

/- Package heap: New. -/
namespace Go.Proofs.YtdnhmkbdphpjcaaGreatDoor
set_option maxRecDepth 100000
open Go.ChangeShapes Go.WideShapes Go.ChangeAt Go.RowKit Go.Maps Go.Deep

theorem hs_start {W w : World} {xl : Ld} {b : Kn} {N tm : Nat} (K : KS W w xl b (al0 N) 0 64 0) (T : Hd.TabAt w W.heap.size b.tb tm none 0 []) (A : ∀ d ∈ [b.cb, b.mb, b.kb, b.q, xl.d.ab, xl.d.wb, xl.d.sb, xl.ub, xl.lb], d ≠ b.tb ∧ d ≠ tm ∧ d < w.heap.size) (ht : b.tb ≠ tm) :
    ∃ c, HS W ((w.alloc (.map #[] 0)).alloc (.cells #[.pointer (some ⟨b.cb, 0, none⟩), .slice none 0 0, .map (some w.heap.size), .int .i64 0] 77)) ⟨xl, b, tm, w.heap.size + 1, w.heap.size⟩ (al0 N) [] 0 none 0 (.slice none 0 0) c := by
  have hW := K.st.below.size
  have z1 : (w.alloc (.map #[] 0)).heap.size = w.heap.size + 1 := World.size_alloc _ _
  have bm : ((w.alloc (.map #[] 0)).alloc (.cells #[.pointer (some ⟨b.cb, 0, none⟩), .slice none 0 0, .map (some w.heap.size), .int .i64 0] 77)).heap[w.heap.size + 1]? = some (.cells #[.pointer (some ⟨b.cb, 0, none⟩), .slice none 0 0, .map (some w.heap.size), .int .i64 0] 77 (0, 0)) := by
    have := heap_alloc_new (w.alloc (.map #[] 0)) (.cells #[.pointer (some ⟨b.cb, 0, none⟩), .slice none 0 0, .map (some w.heap.size), .int .i64 0] 77)
    rw [z1] at this
    exact this
  have g : G w ((w.alloc (.map #[] 0)).alloc (.cells #[.pointer (some ⟨b.cb, 0, none⟩), .slice none 0 0, .map (some w.heap.size), .int .i64 0] 77)) := (G.alloc _ _).more _
  have LM : LmAt ((w.alloc (.map #[] 0)).alloc (.cells #[.pointer (some ⟨b.cb, 0, none⟩), .slice none 0 0, .map (some w.heap.size), .int .i64 0] 77)) w.heap.size 0 :=
    ⟨.map [], (World.ownsMap_made w _ _ _).alloc _, fun y _ => ⟨by rw [Maps.has_eq]; simp, fun h => absurd h.2 (by simpa using h.1)⟩⟩
  have z2 : ((w.alloc (.map #[] 0)).alloc (.cells #[.pointer (some ⟨b.cb, 0, none⟩), .slice none 0 0, .map (some w.heap.size), .int .i64 0] 77)).heap.size = w.heap.size + 2 := by rw [World.size_alloc, z1]
  generalize (w.alloc (.map #[] 0)).alloc (.cells #[.pointer (some ⟨b.cb, 0, none⟩), .slice none 0 0, .map (some w.heap.size), .int .i64 0] 77) = w2 at *
  have hc : ∀ i : Nat, w2.cell? ⟨w.heap.size + 1, i, none⟩ = #[Value.pointer (some ⟨b.cb, 0, none⟩), .slice none 0 0, .map (some w.heap.size), .int .i64 0][i]? := fun i => by rw [cell_of_row _ _ _ _ _ _ bm]
  have l1 := T.tlt
  have l2 := T.mlt
  have F : ∀ d ∈ [b.cb, b.mb, b.kb, b.q, xl.d.ab, xl.d.wb, xl.d.sb, xl.ub, xl.lb], ∀ u v : Nat, (if d = b.tb then 3 else if d = tm then 4 else if d = w.heap.size + 1 then 6 else if d = w.heap.size then 7 else if d ∈ [b.cb, b.mb, b.kb, b.q] then u else v) = if d ∈ [b.cb, b.mb, b.kb, b.q] then u else v := fun d hd u v => by
    obtain ⟨a1, a2, a3⟩ := A d hd
    rw [if_neg a1, if_neg a2, if_neg (by omega), if_neg (by omega)]
  have F1 : ∀ d ∈ [xl.d.ab, xl.d.wb, xl.d.sb, xl.ub, xl.lb], d ∉ [b.cb, b.mb, b.kb, b.q] := fun d hd hm => by
    obtain ⟨_, _, k1, k2, k3, k4, k5⟩ := K.ap d hm
    simp only [List.mem_cons, List.not_mem_nil, or_false] at hd
    rcases hd with e | e | e | e | e
    · exact k4 e
    · exact k1 e
    · exact k2 e
    · exact k3 e
    · exact k5 e
  refine ⟨fun d => if d = b.tb then 3 else if d = tm then 4 else if d = w.heap.size + 1 then 6 else if d = w.heap.size then 7 else if d ∈ [b.cb, b.mb, b.kb, b.q] then 2 else 1, K.gr g, T.grown g, hc 0, hc 1, hc 2, hc 3, fun i => by simp [World.frozen?, bm], World.ownsRow_nil _ _ _ _, LM, ⟨by simp only; omega, by simp only; omega⟩, by simp only; omega, ?_, ?_, ?_, ?_, (fun a ea => by cases ea), ?_, ?_, (fun k hk => by cases hk)⟩
  · refine ⟨?_, ?_, ?_, ?_, ?_⟩
    · exact (F _ (by simp) 2 1).trans (if_neg (F1 _ (by simp)))
    · exact (F _ (by simp) 2 1).trans (if_neg (F1 _ (by simp)))
    · exact (F _ (by simp) 2 1).trans (if_neg (F1 _ (by simp)))
    · exact (F _ (by simp) 2 1).trans (if_neg (F1 _ (by simp)))
    · exact (F _ (by simp) 2 1).trans (if_neg (F1 _ (by simp)))
  · refine ⟨?_, ?_, ?_, ?_⟩
    · exact (F _ (by simp) 2 1).trans (if_pos (by simp))
    · exact (F _ (by simp) 2 1).trans (if_pos (by simp))
    · exact (F _ (by simp) 2 1).trans (if_pos (by simp))
    · exact (F _ (by simp) 2 1).trans (if_pos (by simp))
  · exact if_pos rfl
  · show (if tm = b.tb then 3 else _) = 4
    rw [if_neg (Ne.symm ht), if_pos rfl]
  · show (if w.heap.size + 1 = b.tb then 3 else if w.heap.size + 1 = tm then 4 else if w.heap.size + 1 = w.heap.size + 1 then 6 else _) = 6
    rw [if_neg (by omega), if_neg (by omega), if_pos rfl]
  · show (if w.heap.size = b.tb then 3 else if w.heap.size = tm then 4 else if w.heap.size = w.heap.size + 1 then 6 else if w.heap.size = w.heap.size then 7 else _) = 7
    rw [if_neg (by omega), if_neg (by omega), if_neg (by omega), if_pos rfl]
set_option maxHeartbeats 2000000 in
theorem h_new {W : World} (N : Nat) (h0 : 8 ≤ N) (h1 : N ≤ 512) (ht : Hid (Tab W)) (rb off cp : Nat) (ls : List Hd.Shp) (n : Nat) (hn : n = ls.length) (hlen : n ≤ 1000) (HG : Hid (∀ s ∈ ls, s.Fit ∧ s.good = true)) (ND : Hid ls.Nodup) (hb : rb < W.heap.size)
    (HE : Hid (∀ i s, ls[i]? = some s → W.cell? ⟨rb, off + i * 3, none⟩ = some (.int .i64 s.k) ∧ W.cell? ⟨rb, off + i * 3 + 1, none⟩ = some (.int .i64 s.f) ∧ W.cell? ⟨rb, off + i * 3 + 2, none⟩ = some (.int .u64 (s.m : Int)))) :
    Calls Tryz.prog 9 #[.int .i64 (N : Int), .slice (some ⟨rb, off, none⟩) n cp] W fun e w' => ∃ x, e = .returned (.tuple #[.pointer (some ⟨x.hb, 0, none⟩), .int .i64 0]) ∧ ∃ ao cap nv c, HS W w' x (al0 N) ls n ao cap nv c := by
  have hmm := @run_makeMap Tryz.prog
  have KN := hide (k_newT (W := W) (w := W) N h0 h1 (hide (Below.refl _ _)) ht)
  have hnn := hide hn
  replace h0 := hide h0
  replace h1 := hide h1
  clear hn
  go_enter Tryz.func9, Tryz.ntmps9
  go_wp2_with fail
  refine (unhide KN).mono ?_
  rintro e w1 ⟨xl, b, tm, rfl, K1, T1, A1, ht1⟩
  clear KN
  have KK := hide (And.intro K1 (And.intro T1 (And.intro A1 ht1)))
  clear K1 T1 A1 ht1
  go_wp2_with fail
  go_loopw [25] (fun c wr => ∃ t : Nat, t ≤ n ∧ c = .int .i64 t ∧ Hid (G w1 wr)) (fun c _ => n - (intOf c).toNat)
  case atStart => exact ⟨0, Nat.zero_le _, rfl, hide (G.refl _)⟩
  case round =>
    obtain ⟨t, htn, rfl, g⟩ := hrel
    by_cases hj : t = n
    · have hj' : n = t := hj.symm
      subst hj'
      clear hj
      obtain ⟨wa, hwa⟩ : ∃ wa, wa = wr := ⟨_, rfl⟩
      rw [← hwa] at g ⊢
      clear hwa
      have ST := hide (hs_start ((unhide KK).1.gr (unhide g)) ((unhide KK).2.1.grown (unhide g)) (fun d hd => ⟨((unhide KK).2.2.1 d hd).1, ((unhide KK).2.2.1 d hd).2.1, Nat.lt_of_lt_of_le ((unhide KK).2.2.1 d hd).2.2 (unhide g).size⟩) (unhide KK).2.2.2)
      obtain ⟨x, hx⟩ : ∃ x : Hx, x = ⟨xl, b, tm, wa.heap.size + 1, wa.heap.size⟩ := ⟨_, rfl⟩
      have xb : x.hb = wa.heap.size + 1 := by rw [hx]
      have xc : x.b.cb = b.cb := by rw [hx]
      rw [← hx] at ST
      clear hx g KK
      replace xb := hide xb
      replace xc := hide xc
      go_wp2_with fail
      go_loopw [39] (fun c wr => ∃ t : Nat, t ≤ n ∧ c = .int .i64 t ∧ Hid (∃ ao cap nv c, HS W wr x (al0 N) (ls.take t) t ao cap nv c)) (fun c _ => n - (intOf c).toNat)
      case atStart =>
        refine ⟨0, Nat.zero_le _, rfl, hide ?_⟩
        obtain ⟨c, S⟩ := unhide ST
        exact ⟨none, 0, .slice none 0 0, c, S⟩
      case round =>
        obtain ⟨t, htn, rfl, SS⟩ := hrel
        clear ST
        by_cases hj : t = n
        · have hj' : n = t := hj.symm
          subst hj'
          go_wp2_with fail
          go_ret2
          obtain ⟨ao, cap, nv, c, S⟩ := unhide SS
          refine ⟨x, by rw [unhide xb]; rfl, ao, cap, nv, c, ?_⟩
          rw [List.take_of_length_le (by have := unhide hnn; omega)] at S
          exact S
        · have hjl : (t : Int) < (n : Int) := by omega
          obtain ⟨s, hs⟩ : ∃ s, ls[t]? = some s := ⟨ls[t]'(by have := unhide hnn; omega), List.getElem?_eq_getElem _⟩
          obtain ⟨ao, cap, nv, c, S⟩ := unhide SS
          clear SS
          have hbw : Below W.heap.size W wr := S.ks.st.below
          have hbk : rb < wr.heap.size := Nat.lt_of_lt_of_le hb hbw.size
          have y0 := (hbw.cell (p := ⟨rb, off + t * 3, none⟩) hb).trans (unhide HE t s hs).1
          have y1 := (hbw.cell (p := ⟨rb, off + t * 3 + 1, none⟩) hb).trans (unhide HE t s hs).2.1
          have y2 := (hbw.cell (p := ⟨rb, off + t * 3 + 2, none⟩) hb).trans (unhide HE t s hs).2.2
          obtain ⟨hfit, hgood⟩ := unhide HG s (List.mem_of_getElem? hs)
          have hnot : s ∉ ls.take t := fun hm => by
            obtain ⟨q, hq⟩ := List.getElem?_of_mem hm
            rw [List.getElem?_take] at hq
            split at hq
            · rename_i hqt
              have := (List.getElem?_inj (i := q) (j := t) (by have := unhide hnn; omega) (unhide ND)).1 (hq.trans hs.symm)
              omega
            · cases hq
          have htl : (ls.take t).length = t := by rw [List.length_take]; have := unhide hnn; omega
          have hadd : Hd.addS (ls.take t) s = ls.take (t + 1) := by
            unfold Hd.addS
            rw [if_pos ⟨hgood, hnot⟩, List.take_add_one, hs]
            rfl
          have hV : Hd.numV (ls.take t) s = (t : Int) := by
            unfold Hd.numV
            rw [if_pos hgood, List.idxOf_eq_length hnot, htl]
          have hE0 : Hd.numE s = 0 := by unfold Hd.numE; rw [if_pos hgood]
          obtain ⟨W1, hW1⟩ : ∃ W1, W1 = wr.alloc (.cells #[.int .i64 s.k, .int .i64 s.f, .int .u64 (s.m : Int)] 72) := ⟨_, rfl⟩
          have g1 : G wr W1 := by rw [hW1]; exact G.alloc _ _
          have e1 : W1.heap[wr.heap.size]? = some (.cells #[.int .i64 s.k, .int .i64 s.f, .int .u64 (s.m : Int)] 72) := by rw [hW1]; exact heap_alloc_new wr _
          have z1 : wr.heap.size < W1.heap.size := by rw [hW1, World.size_alloc]; omega
          have BX : Hid (∀ y : World, y.heap[wr.heap.size]? = W1.heap[wr.heap.size]? → y.cell? ⟨wr.heap.size, 0, none⟩ = some (.int .i64 s.k) ∧ y.cell? ⟨wr.heap.size, 1, none⟩ = some (.int .i64 s.f) ∧ y.cell? ⟨wr.heap.size, 2, none⟩ = some (.int .u64 (s.m : Int))) := hide fun y hy => by
            have e := hy.trans e1
            exact ⟨by rw [cell_of_row _ _ _ _ _ _ e]; rfl, by rw [cell_of_row _ _ _ _ _ _ e]; rfl, by rw [cell_of_row _ _ _ _ _ _ e]; rfl⟩
          have HH : Hid (∀ y, G W1 y → HS W y x (al0 N) (ls.take t) t ao cap nv (fun d => if wr.heap.size ≤ d then 9 else c d)) := hide fun y g => (S.gr (g1.trans g)).recol wr S
          have TB : Hid (∀ y, G W1 y → Calls Tryz.prog 31 #[.pointer (some ⟨b.cb, 0, none⟩)] y fun e w' => e = .returned (.pointer (some ⟨x.b.tb, 0, none⟩)) ∧ w' = y) := hide fun y g => by
            rw [← unhide xc]
            exact k_table (hide (unhide HH y g).ks)
          have NB : Hid (∀ y, G W1 y → Calls Tryz.prog 32 #[.pointer (some ⟨x.b.tb, 0, none⟩), .agg #[.int .i64 s.k, .int .i64 s.f, .int .u64 (s.m : Int)]] y fun e w' => e = .returned (.tuple #[.int .i64 (t : Int), .int .i64 0]) ∧ Hid ((∃ ao' cap' c', HS W w' x (al0 N) (ls.take (t + 1)) t ao' cap' nv c') ∧ w'.heap[wr.heap.size]? = W1.heap[wr.heap.size]?)) := hide fun y g => by
            refine (hs_number (unhide HH y g) s hfit (by rw [htl]; omega)).mono ?_
            rintro e w' ⟨he, ⟨ao', cap', c', S⟩, hk⟩
            rw [hadd] at S
            rw [hV, hE0] at he
            exact ⟨he, hide ⟨⟨ao', cap', c', S⟩, (hk _ (by have := g.size; omega) (by simp) (by simp) (by simp)).trans (g.block _ z1)⟩⟩
          have LS : Hid (∀ w2 : World, (∃ ao' cap' c', HS W w2 x (al0 N) (ls.take (t + 1)) t ao' cap' nv c') → Calls Tryz.prog 33 #[.pointer (some ⟨wa.heap.size + 1, 0, none⟩), .int .i64 (t : Int)] w2 fun r w' => r = .returned (.int .i64 (t : Int)) ∧ Hid (∃ ao cap nv c, HS W w' x (al0 N) (ls.take (t + 1)) (t + 1) ao cap nv c)) := hide fun w2 ⟨ao', cap', c', S⟩ => by
            rw [← unhide xb]
            refine (h_list (hide S) (by omega)).mono ?_
            rintro r w' ⟨hr, nv', c'', S'⟩
            exact ⟨hr, hide ⟨ao', cap', nv', c'', S'⟩⟩
          obtain ⟨sk, hsk⟩ : ∃ sk, sk = s.k := ⟨_, rfl⟩
          obtain ⟨sf, hsf⟩ : ∃ sf, sf = s.f := ⟨_, rfl⟩
          obtain ⟨sm, hsm⟩ : ∃ sm, sm = s.m := ⟨_, rfl⟩
          rw [← hsk, ← hsf, ← hsm] at NB BX hW1
          rw [← hsk] at y0
          rw [← hsf] at y1
          rw [← hsm] at y2
          clear hsk hsf hsm e1 S hbw hfit hgood hnot htl hadd hV hE0 HH hs hj
          replace g1 := hide g1
          replace z1 := hide z1
          go_upto_region 14 with fail
          rw [← hW1]
          clear hW1 y0 y1 y2 hbk
          refine wp_region_noPanic ?_
          refine wp_region_held_drew (S := fun (y : World) => y.heap[wr.heap.size]? = W1.heap[wr.heap.size]?) (by kernel_rfl) rfl (fun hHeld => ?_)
          obtain ⟨y1, hy1⟩ : ∃ y, y = W1.drew := ⟨_, rfl⟩
          have gy : G W1 y1 := by rw [hy1]; exact G.drewN W1 1
          rw [← hy1] at hHeld ⊢
          clear hy1
          refine wpAnyH_take (i := 0) (v := .pointer (some ⟨b.cb, 0, none⟩)) rfl (by kernel_rfl) (by kernel_rfl) (by kernel_rfl) (fun _ _ _ h => h) (Or.inl ⟨by rfl, fun w hSw => by go_simp⟩) (by assumption) ?_
          try simp only [Act.put, List.getElem_toArray, List.getElem_cons_zero, List.setIfInBounds_toArray, List.set_cons_zero, List.set_cons_succ]
          refine wpAnyH_take (i := 2) (v := .agg #[.int .i64 sk, .int .i64 sf, .int .u64 (sm : Int)]) rfl (by kernel_rfl) (by kernel_rfl) (by kernel_rfl) (fun _ _ _ h => h) (Or.inl ⟨by rfl, fun w hSw => by obtain ⟨t0, t1, t2⟩ := unhide BX w hSw; go_simp⟩) (by assumption) ?_
          try simp only [Act.put, List.getElem_toArray, List.getElem_cons_succ, List.getElem_cons_zero, List.setIfInBounds_toArray, List.set_cons_zero, List.set_cons_succ]
          refine wpAnyH_ready (rs := [1]) (by kernel_rfl) (by simp) ?_
          refine AllReadyH.cons rfl (fun K hK => ?_) AllReadyH.nil
          go_simp
          refine (unhide TB y1 gy).mono ?_
          rintro e w9 ⟨rfl, hw9⟩
          rw [hw9]
          clear hw9 w9
          go_wp2_with fail
          refine hK.out _ _ hHeld (fun hH9 => ?_)
          clear hK K hH9
          try simp only [Act.put, List.getElem_toArray, List.getElem_cons_succ, List.getElem_cons_zero, List.setIfInBounds_toArray, List.set_cons_zero, List.set_cons_succ]
          refine wpAnyH_ready (rs := [3]) (by kernel_rfl) (by simp) ?_
          refine AllReadyH.cons rfl (fun K hK => ?_) AllReadyH.nil
          go_simp
          refine (unhide NB y1 gy).mono ?_
          rintro e w2 ⟨rfl, S2⟩
          go_wp2_with fail
          have hS2 := (unhide S2).2
          refine hK.out _ _ hS2 (fun hH9 => ?_)
          clear hK K
          try simp only [Act.put, List.getElem_toArray, List.getElem_cons_succ, List.getElem_cons_zero, List.setIfInBounds_toArray, List.set_cons_zero, List.set_cons_succ]
          refine wpAnyH_take (i := 4) (v := .tuple #[.int .i64 (t : Int), .int .i64 0]) rfl (by kernel_rfl) (by kernel_rfl) (by kernel_rfl) (fun _ _ _ h => h) (Or.inl ⟨by rfl, fun w hSw => by go_simp⟩) (by assumption) ?_
          try simp only [Act.put, List.getElem_toArray, List.getElem_cons_succ, List.getElem_cons_zero, List.setIfInBounds_toArray, List.set_cons_zero, List.set_cons_succ]
          refine wpAnyH_take (i := 5) (v := .int .i64 (t : Int)) rfl (by kernel_rfl) (by kernel_rfl) (by kernel_rfl) (fun _ _ _ h => h) (Or.inl ⟨by rfl, fun w hSw => by go_simp⟩) (by assumption) ?_
          try simp only [Act.put, List.getElem_toArray, List.getElem_cons_succ, List.getElem_cons_zero, List.setIfInBounds_toArray, List.set_cons_zero, List.set_cons_succ]
          refine wpAnyH_take (i := 6) (v := .int .i64 0) rfl (by kernel_rfl) (by kernel_rfl) (by kernel_rfl) (fun _ _ _ h => h) (Or.inl ⟨by rfl, fun w hSw => by go_simp⟩) (by assumption) ?_
          try simp only [Act.put, List.getElem_toArray, List.getElem_cons_succ, List.getElem_cons_zero, List.setIfInBounds_toArray, List.set_cons_zero, List.set_cons_succ]
          refine wpAnyH_take (i := 7) (v := .int .i64 (t : Int)) rfl (by kernel_rfl) (by kernel_rfl) (by kernel_rfl) (fun _ _ _ h => h) (Or.inl ⟨by rfl, fun w hSw => by go_simp⟩) (by assumption) ?_
          try simp only [Act.put, List.getElem_toArray, List.getElem_cons_succ, List.getElem_cons_zero, List.setIfInBounds_toArray, List.set_cons_zero, List.set_cons_succ]
          refine wpAnyH_take (i := 8) (v := .int .i64 0) rfl (by kernel_rfl) (by kernel_rfl) (by kernel_rfl) (fun _ _ _ h => h) (Or.inl ⟨by rfl, fun w hSw => by go_simp⟩) (by assumption) ?_
          try simp only [Act.put, List.getElem_toArray, List.getElem_cons_succ, List.getElem_cons_zero, List.setIfInBounds_toArray, List.set_cons_zero, List.set_cons_succ]
          refine wpAnyH_done (by kernel_rfl) (NoPanic.normal ?_) _
          have CL := hide (unhide LS w2 (unhide S2).1)
          clear hHeld gy TB NB BX hS2 hH9 S2 LS g1 z1
          go_wp2_with fail
          refine (unhide CL).mono ?_
          rintro r w4 ⟨rfl, FE⟩
          clear CL
          go_wp2_with fail
          go_round
          case rel => exact ⟨t + 1, by omega, by go_num, FE⟩
          case measure => simp [intOf]; omega
    · have hjl : (t : Int) < (n : Int) := by omega
      obtain ⟨s, hs⟩ : ∃ s, ls[t]? = some s := ⟨ls[t]'(by have := unhide hnn; omega), List.getElem?_eq_getElem _⟩
      have hgood : Hd.goodB s.k s.f s.m = true := (unhide HG s (List.mem_of_getElem? hs)).2
      have hbw : Below W.heap.size W wr := Below.trans (unhide KK).1.st.below ((unhide g).mono (unhide KK).1.st.below.size)
      have hbk : rb < wr.heap.size := Nat.lt_of_lt_of_le hb hbw.size
      have y0 := (hbw.cell (p := ⟨rb, off + t * 3, none⟩) hb).trans (unhide HE t s hs).1
      have y1 := (hbw.cell (p := ⟨rb, off + t * 3 + 1, none⟩) hb).trans (unhide HE t s hs).2.1
      have y2 := (hbw.cell (p := ⟨rb, off + t * 3 + 2, none⟩) hb).trans (unhide HE t s hs).2.2
      clear hj hs hbw
      go_wp2_with fail
      refine (Hd.good_any _ _ _ _).mono ?_
      rintro e w2 ⟨rfl, hw2⟩
      have g2 : Hid (G w1 w2) := hide (by rw [hw2]; exact (((unhide g).more _).more _))
      rw [hgood]
      clear hw2 hgood y0 y1 y2 hbk g
      go_wp2_with fail
      go_round
      case rel => exact ⟨t + 1, by omega, by go_num, g2⟩
      case measure => simp [intOf]; omega

end Go.Proofs.YtdnhmkbdphpjcaaGreatDoor

/- Package chans, over any view of a heap: the channel's own small calls. -/
namespace Go.Proofs.YtdnhmkbdphpjcaaGreatDoor
set_option maxRecDepth 100000
open Go.ChangeShapes Go.WideShapes Go.ChangeAt Go.RowKit Go.Maps Go.Deep

theorem box4 {w1 W2 : World} {v0 v1 v2 v3 : Value} (hW2 : W2 = w1.alloc (.cells #[v0, v1, v2, v3] 87)) : G w1 W2 ∧ ∀ y o o', (∀ d, o d → d < w1.heap.size) → Fr o o' W2 y → y.cell? ⟨w1.heap.size, 0, none⟩ = some v0 ∧ y.cell? ⟨w1.heap.size, 1, none⟩ = some v1 ∧ y.cell? ⟨w1.heap.size, 2, none⟩ = some v2 ∧ y.cell? ⟨w1.heap.size, 3, none⟩ = some v3 := by
  refine ⟨by rw [hW2]; exact G.alloc _ _, fun y o o' ho f => ?_⟩
  have hl : w1.heap.size < W2.heap.size := by rw [hW2, World.size_alloc]; omega
  have hn : ¬ o w1.heap.size := fun h => Nat.lt_irrefl _ (ho _ h)
  refine ⟨f.cell hl hn ?_, f.cell hl hn ?_, f.cell hl hn ?_, f.cell hl hn ?_⟩ <;> (rw [hW2]; exact World.cell?_alloc_new _ _ _ _)
abbrev chv (po : Option Addr) (a F : Int) (b : Bool) : Value := .agg #[.pointer po, .int .i64 a, .int .i64 F, .bool b]
theorem c_has (w : World) (po : Option Addr) (a F f : Int) (b : Bool) : Calls Tryz.prog 61 #[chv po a F b, .int .i64 f] w fun e w' => e = .returned (.bool (decide (0 ≤ f) && decide (f < F))) ∧ G w w' := by
  obtain ⟨W2, hW2⟩ : ∃ W2, W2 = w.alloc (.cells #[.pointer po, .int .i64 a, .int .i64 F, .bool b] 87) := ⟨_, rfl⟩
  obtain ⟨g2, bx⟩ := box4 hW2
  obtain ⟨b0, b1, b2, b3⟩ := bx W2 (fun _ => False) (fun _ => False) (fun _ h => h.elim) (Fr.of_G (G.refl _))
  replace g2 := hide g2
  clear bx
  by_cases h0 : 0 ≤ f
  · rw [decide_eq_true h0]
    go_enter Tryz.func61, Tryz.ntmps61
    go_upto_region 1 with fail
    rw [← hW2]
    clear hW2
    go_wp2_with fail
    go_ret
    exact ⟨by simp, unhide g2⟩
  · rw [decide_eq_false h0]
    go_enter Tryz.func61, Tryz.ntmps61
    go_upto_region 1 with fail
    rw [← hW2]
    clear hW2
    go_wp2_with fail
    go_ret
    exact ⟨by simp, unhide g2⟩
/-- No such field: 0. -/
theorem c_get_out (w : World) (po : Option Addr) (a F f : Int) (b : Bool) (hf : (decide (0 ≤ f) && decide (f < F)) = false) : Calls Tryz.prog 36 #[chv po a F b, .int .i64 f] w fun e w' => e = .returned (.int .i64 0) ∧ G w w' := by
  obtain ⟨W2, hW2⟩ : ∃ W2, W2 = w.alloc (.cells #[.pointer po, .int .i64 a, .int .i64 F, .bool b] 87) := ⟨_, rfl⟩
  obtain ⟨g2, bx⟩ := box4 hW2
  obtain ⟨b0, b1, b2, b3⟩ := bx W2 (fun _ => False) (fun _ => False) (fun _ h => h.elim) (Fr.of_G (G.refl _))
  replace g2 := hide g2
  have C := hide (c_has W2 po a F f b)
  rw [hf] at C
  clear bx hf
  go_enter Tryz.func36, Tryz.ntmps36
  go_upto_region 1 with fail
  rw [← hW2]
  clear hW2
  go_wp2_with fail
  refine (unhide C).mono ?_
  rintro e w3 ⟨rfl, g3⟩
  have g4 := hide ((unhide g2).trans g3)
  clear C g3
  go_wp2_with fail
  go_ret
  exact ⟨rfl, unhide g4⟩
section
variable {γ : Type} {V : World → Al → γ → Prop} {own : γ → Nat → Prop} {hb cb ab : Nat} {l : List Hd.Shp} {w : World} {al : Al} {g : γ}
/-- A field. -/
theorem c_get (H : Hid (HV V own hb cb ab l)) (h : Hid (V w al g)) (a F f : Int) (b : Bool) (hf : (decide (0 ≤ f) && decide (f < F)) = true) (f1 : Int) (h1 : wrap64 (1 + f) = f1) : Calls Tryz.prog 36 #[chv (some ⟨hb, 0, none⟩) a F b, .int .i64 f] w fun e w' => e = .returned (.int .i64 (al.a.readV a f1)) ∧ G w w' := by
  obtain ⟨W2, hW2⟩ : ∃ W2, W2 = w.alloc (.cells #[.pointer (some ⟨hb, 0, none⟩), .int .i64 a, .int .i64 F, .bool b] 87) := ⟨_, rfl⟩
  obtain ⟨g2, bx⟩ := box4 hW2
  have BX : Hid (∀ y, G W2 y → y.cell? ⟨w.heap.size, 0, none⟩ = some (.pointer (some ⟨hb, 0, none⟩)) ∧ y.cell? ⟨w.heap.size, 1, none⟩ = some (.int .i64 a) ∧ y.cell? ⟨w.heap.size, 2, none⟩ = some (.int .i64 F) ∧ y.cell? ⟨w.heap.size, 3, none⟩ = some (.bool b)) := hide fun y gy => bx y (fun _ => False) (fun _ => False) (fun _ h => h.elim) (Fr.of_G gy)
  obtain ⟨b0, b1, b2, b3⟩ := unhide BX W2 (G.refl _)
  have GW : Hid (∀ y, G W2 y → G w y) := hide fun y gy => g2.trans gy
  have C := hide (c_has W2 (some ⟨hb, 0, none⟩) a F f b)
  have C1 : Hid (∀ y, (G W2 y ∧ y.cell? ⟨w.heap.size, 0, none⟩ = some (.pointer (some ⟨hb, 0, none⟩)) ∧ y.cell? ⟨w.heap.size, 1, none⟩ = some (.int .i64 a)) → Calls Tryz.prog 20 #[.pointer (some ⟨hb, 0, none⟩)] y fun e w' => e = .returned (.pointer (some ⟨cb, 0, none⟩)) ∧ G y w') := hide fun y gy => ((unhide H).cyc y al g ((unhide H).gr _ _ _ _ (unhide h) (g2.trans gy.1))).mono fun _ _ hh => ⟨hh.1, by rw [hh.2]; exact G.refl _⟩
  have C2 : Hid (∀ y, (G W2 y ∧ y.cell? ⟨w.heap.size, 0, none⟩ = some (.pointer (some ⟨hb, 0, none⟩)) ∧ y.cell? ⟨w.heap.size, 1, none⟩ = some (.int .i64 a)) → Calls Tryz.prog 22 #[.pointer (some ⟨cb, 0, none⟩)] y fun e w' => e = .returned (.pointer (some ⟨ab, 0, none⟩)) ∧ G y w') := hide fun y gy => ((unhide H).arena y al g ((unhide H).gr _ _ _ _ (unhide h) (g2.trans gy.1))).mono fun _ _ hh => ⟨hh.1, by rw [hh.2]; exact G.refl _⟩
  have C3 : Hid (∀ y, (G W2 y ∧ y.cell? ⟨w.heap.size, 0, none⟩ = some (.pointer (some ⟨hb, 0, none⟩)) ∧ y.cell? ⟨w.heap.size, 1, none⟩ = some (.int .i64 a)) → Calls Tryz.prog 62 #[.pointer (some ⟨ab, 0, none⟩), .int .i64 a, .int .i64 (IntKind.i64.wrap (1 + f))] y fun e w' => e = .returned (.tuple #[.int .i64 (al.a.readV a f1), .int .i64 (al.a.readE a f1)]) ∧ G y w') := hide fun y gy => by
    have e : IntKind.i64.wrap (1 + f) = f1 := by rw [← h1, IntKind.wrap_i64]; unfold wrap64; omega
    rw [e]
    exact (unhide H).read y al g a f1 ((unhide H).gr _ _ _ _ (unhide h) (g2.trans gy.1))
  rw [hf] at C
  generalize al.a.readV a f1 = rv at C3 ⊢
  generalize al.a.readE a f1 = re at C3
  clear bx hf g2 h H h1
  go_enter Tryz.func36, Tryz.ntmps36
  go_upto_region 1 with fail
  rw [← hW2]
  clear hW2
  go_wp2_with fail
  refine (unhide C).mono ?_
  rintro e w3 ⟨rfl, g3⟩
  obtain ⟨b0, b1, b2, b3⟩ := unhide BX w3 g3
  have KD : Hid (G W2 w3.drew ∧ w3.drew.cell? ⟨w.heap.size, 0, none⟩ = some (.pointer (some ⟨hb, 0, none⟩)) ∧ w3.drew.cell? ⟨w.heap.size, 1, none⟩ = some (.int .i64 a)) := hide ⟨g3.drew, (unhide BX _ g3.drew).1, (unhide BX _ g3.drew).2.1⟩
  have KC : Hid (∀ x y, (G W2 x ∧ x.cell? ⟨w.heap.size, 0, none⟩ = some (.pointer (some ⟨hb, 0, none⟩)) ∧ x.cell? ⟨w.heap.size, 1, none⟩ = some (.int .i64 a)) → G x y → (G W2 y ∧ y.cell? ⟨w.heap.size, 0, none⟩ = some (.pointer (some ⟨hb, 0, none⟩)) ∧ y.cell? ⟨w.heap.size, 1, none⟩ = some (.int .i64 a))) := hide fun x y hx gx => ⟨hx.1.trans gx, gx.cell hx.2.1, gx.cell hx.2.2⟩
  clear C g3
  go_wp2_with fail
  go_region_held3 (fun x => G W2 x ∧ x.cell? ⟨w.heap.size, 0, none⟩ = some (.pointer (some ⟨hb, 0, none⟩)) ∧ x.cell? ⟨w.heap.size, 1, none⟩ = some (.int .i64 a))
    (first | assumption | exact unhide KD | exact unhide KC _ _ (by assumption) (by assumption))
    ((first
      | (go_at_call 20; refine (unhide C1 _ ?_).mono ?_; assumption; rintro e x4 ⟨rfl, hg4⟩)
      | (go_at_call 22; refine (unhide C2 _ ?_).mono ?_; assumption; rintro e x5 ⟨rfl, hg5⟩)
      | (go_at_call 62; refine (unhide C3 _ ?_).mono ?_; assumption; rintro e x6 ⟨rfl, hg6⟩)))
  all_goals
    go_wp2_with fail
    go_ret
    exact ⟨rfl, unhide GW _ (by assumption : G W2 _ ∧ _).1⟩
end
end Go.Proofs.YtdnhmkbdphpjcaaGreatDoor

/- Package chans, over any view of a heap: find, set, round, closed. -/
namespace Go.Proofs.YtdnhmkbdphpjcaaGreatDoor
set_option maxRecDepth 100000
open Go.ChangeShapes Go.WideShapes Go.ChangeAt Go.RowKit Go.Maps Go.Deep

theorem put4 {w w2 : World} {s : Nat} (hs : w.heap.size ≤ s) (g : G w w2) {u0 u1 u2 u3 : Value} (a0 : w2.cell? ⟨s, 0, none⟩ = some u0) (a1 : w2.cell? ⟨s, 1, none⟩ = some u1) (a2 : w2.cell? ⟨s, 2, none⟩ = some u2) (a3 : w2.cell? ⟨s, 3, none⟩ = some u3) (v0 v1 v2 v3 : Value) (Y : World) (hY : Y = (((w2.setCell ⟨s, 0, none⟩ v0).setCell ⟨s, 1, none⟩ v1).setCell ⟨s, 2, none⟩ v2).setCell ⟨s, 3, none⟩ v3) :
    Y.cell? ⟨s, 0, none⟩ = some v0 ∧ Y.cell? ⟨s, 1, none⟩ = some v1 ∧ Y.cell? ⟨s, 2, none⟩ = some v2 ∧ Y.cell? ⟨s, 3, none⟩ = some v3 ∧ G w Y := by
  have o : ∀ (y : World) (i j : Nat) (v u : Value), i ≠ j → y.cell? ⟨s, i, none⟩ = some u → (y.setCell ⟨s, j, none⟩ v).cell? ⟨s, i, none⟩ = some u := fun y i j v u hn h => by rw [cell_other _ (Or.inr hn)]; exact h
  have q0 := cell_same v0 a0
  have q1 := cell_same v1 (o w2 1 0 v0 _ (by decide) a1)
  have q2 := cell_same v2 (o _ 2 1 v1 _ (by decide) (o w2 2 0 v0 _ (by decide) a2))
  have q3 := cell_same v3 (o _ 3 2 v2 _ (by decide) (o _ 3 1 v1 _ (by decide) (o w2 3 0 v0 _ (by decide) a3)))
  rw [hY]
  exact ⟨o _ 0 3 v3 _ (by decide) (o _ 0 2 v2 _ (by decide) (o _ 0 1 v1 _ (by decide) q0)), o _ 1 3 v3 _ (by decide) (o _ 1 2 v2 _ (by decide) q1), o _ 2 3 v3 _ (by decide) q2, q3, G.set (G.set (G.set (G.set g _ _ hs) _ _ hs) _ _ hs) _ _ hs⟩
section
variable {γ : Type} {V : World → Al → γ → Prop} {own : γ → Nat → Prop} {hb cb ab : Nat} {l : List Hd.Shp} {w : World} {al : Al} {g : γ}
set_option maxHeartbeats 1000000 in
/-- There is none. -/
theorem c_find_no (H : Hid (HV V own hb cb ab l)) (h : Hid (V w al g)) (a : Int) (ho : ofP al l a = none) : Calls Tryz.prog 35 #[.pointer (some ⟨hb, 0, none⟩), .int .i64 a] w fun e w' => e = .returned (.tuple #[chv none 0 0 false, .bool false]) ∧ G w w' := by
  obtain ⟨W1, hW1⟩ : ∃ W1, W1 = w.alloc (.cells #[.pointer none, .int .i64 0, .int .i64 0, .bool false] 87) := ⟨_, rfl⟩
  obtain ⟨g1, bx⟩ := box4 hW1
  have hz : w.heap.size < W1.heap.size := by rw [hW1, World.size_alloc]; omega
  have fz : ∀ y, G W1 y → ∀ i, y.frozen? ⟨w.heap.size, i, none⟩ = false := fun y gy i => by
    have e0 : W1.heap[w.heap.size]? = some (.cells #[.pointer none, .int .i64 0, .int .i64 0, .bool false] 87) := by rw [hW1]; exact heap_alloc_new w _
    have e := (gy.block _ hz).trans e0
    simp [World.frozen?, e]
  have BX : Hid (∀ y, G W1 y → (y.cell? ⟨w.heap.size, 0, none⟩ = some (.pointer none) ∧ y.cell? ⟨w.heap.size, 1, none⟩ = some (.int .i64 0) ∧ y.cell? ⟨w.heap.size, 2, none⟩ = some (.int .i64 0) ∧ y.cell? ⟨w.heap.size, 3, none⟩ = some (.bool false)) ∧ (∀ i, y.frozen? ⟨w.heap.size, i, none⟩ = false)) := hide fun y gy => ⟨bx y (fun _ => False) (fun _ => False) (fun _ h => h.elim) (Fr.of_G gy), fz y gy⟩
  have CO := hide ((unhide H).of_ W1 al g a ((unhide H).gr _ _ _ _ (unhide h) g1))
  rw [ho] at CO
  simp only [ofV] at CO
  replace g1 := hide g1
  clear bx ho hz fz H h
  go_enter Tryz.func35, Tryz.ntmps35
  go_upto_region 1 with fail
  rw [← hW1]
  clear hW1
  go_wp2_with fail
  refine (unhide CO).mono ?_
  rintro e w1 ⟨rfl, g2⟩
  clear CO
  go_upto_region 2 with fail
  obtain ⟨W2, hW2⟩ : ∃ W2, W2 = (w1.alloc (.cells #[.int .i64 0, .int .i64 0, .int .i64 0] 128)).alloc (.cells #[.int .i64 0, .int .i64 0, .int .u64 0] 72) := ⟨_, rfl⟩
  rw [← hW2]
  have g3 : G W1 W2 := g2.trans (by rw [hW2]; exact ((G.refl w1).more _).more _)
  obtain ⟨⟨b0, b1, b2, b3⟩, bf⟩ := unhide BX W2 g3
  have FIN : Hid (∀ Y, Y = (((W2.setCell ⟨w.heap.size, 0, none⟩ (.pointer none)).setCell ⟨w.heap.size, 1, none⟩ (.int .i64 0)).setCell ⟨w.heap.size, 2, none⟩ (.int .i64 0)).setCell ⟨w.heap.size, 3, none⟩ (.bool false) → _) := hide fun Y hY => put4 (Nat.le_refl _) ((unhide g1).trans g3) b0 b1 b2 b3 _ _ _ _ Y hY
  clear hW2 g2 g3
  go_wp2_with fail
  obtain ⟨Y, hY⟩ : ∃ Y, Y = (((W2.setCell ⟨w.heap.size, 0, none⟩ (.pointer none)).setCell ⟨w.heap.size, 1, none⟩ (.int .i64 0)).setCell ⟨w.heap.size, 2, none⟩ (.int .i64 0)).setCell ⟨w.heap.size, 3, none⟩ (.bool false) := ⟨_, rfl⟩
  obtain ⟨y0, y1, y2, y3, gY⟩ := unhide FIN Y hY
  rw [← hY]
  refine bodyPost_ret (by simp [results, Tryz.results35, go_sem, y0, y1, y2, y3]; try rfl) rfl ?_
  exact ⟨rfl, gY⟩
set_option maxHeartbeats 1000000 in
theorem c_find (H : Hid (HV V own hb cb ab l)) (h : Hid (V w al g)) (a F sh : Int) (s : Hd.Shp) (adr : Bool) (ho : ofP al l a = some (F + 1, 3, sh, s)) (hh : Hd.holdsB s.k s.m 4 6 = adr) : Calls Tryz.prog 35 #[.pointer (some ⟨hb, 0, none⟩), .int .i64 a] w fun e w' => e = .returned (.tuple #[chv (some ⟨hb, 0, none⟩) a F adr, .bool true]) ∧ G w w' := by
  obtain ⟨W1, hW1⟩ : ∃ W1, W1 = w.alloc (.cells #[.pointer none, .int .i64 0, .int .i64 0, .bool false] 87) := ⟨_, rfl⟩
  obtain ⟨g1, bx⟩ := box4 hW1
  have hz : w.heap.size < W1.heap.size := by rw [hW1, World.size_alloc]; omega
  have fz : ∀ y, G W1 y → ∀ i, y.frozen? ⟨w.heap.size, i, none⟩ = false := fun y gy i => by
    have e0 : W1.heap[w.heap.size]? = some (.cells #[.pointer none, .int .i64 0, .int .i64 0, .bool false] 87) := by rw [hW1]; exact heap_alloc_new w _
    have e := (gy.block _ hz).trans e0
    simp [World.frozen?, e]
  have BX : Hid (∀ y, G W1 y → (y.cell? ⟨w.heap.size, 0, none⟩ = some (.pointer none) ∧ y.cell? ⟨w.heap.size, 1, none⟩ = some (.int .i64 0) ∧ y.cell? ⟨w.heap.size, 2, none⟩ = some (.int .i64 0) ∧ y.cell? ⟨w.heap.size, 3, none⟩ = some (.bool false)) ∧ (∀ i, y.frozen? ⟨w.heap.size, i, none⟩ = false)) := hide fun y gy => ⟨bx y (fun _ => False) (fun _ => False) (fun _ h => h.elim) (Fr.of_G gy), fz y gy⟩
  have CO := hide ((unhide H).of_ W1 al g a ((unhide H).gr _ _ _ _ (unhide h) g1))
  obtain ⟨⟨hw1, hw2⟩, hmem⟩ := ofP_some ho
  have hm64 := (unhide H).fit s hmem
  rw [ho] at CO
  simp only [ofV] at CO
  have hw : wrap64 (F + 1 - 1) = F := by unfold wrap64; omega
  generalize F + 1 = F1 at CO hw
  obtain ⟨sk, hsk⟩ : ∃ sk, sk = s.k := ⟨_, rfl⟩
  obtain ⟨sf, hsf⟩ : ∃ sf, sf = s.f := ⟨_, rfl⟩
  obtain ⟨sm, hsm⟩ : ∃ sm, sm = s.m := ⟨_, rfl⟩
  rw [← hsk, ← hsf, ← hsm] at CO
  rw [← hsk, ← hsm] at hh
  rw [← hsm] at hm64
  have CH := hide (fun x => Hd.holds_any sk sf sm 4 6 x hm64 (by decide))
  rw [hh] at CH
  replace g1 := hide g1
  clear bx ho hz fz H h hw1 hw2 hmem hm64 hsk hsf hsm hh
  go_enter Tryz.func35, Tryz.ntmps35
  go_upto_region 1 with fail
  rw [← hW1]
  clear hW1
  go_wp2_with fail
  refine (unhide CO).mono ?_
  rintro e w1 ⟨rfl, g2⟩
  clear CO
  go_upto_region 2 with fail
  obtain ⟨W2, hW2⟩ : ∃ W2, W2 = (w1.alloc (.cells #[.int .i64 F1, .int .i64 3, .int .i64 sh] 128)).alloc (.cells #[.int .i64 sk, .int .i64 sf, .int .u64 (sm : Int)] 72) := ⟨_, rfl⟩
  rw [← hW2]
  obtain ⟨gq, BQ⟩ := two_box w1 F1 3 sh sk sf sm W2 hW2
  have g3 : Hid (G W1 W2) := hide (g2.trans gq)
  obtain ⟨⟨a0, a1, a2⟩, ⟨e0, e1, e2⟩⟩ := BQ W2 (G.refl _)
  replace BQ := hide BQ
  clear hW2 g2 gq
  go_wp2_with fail
  refine (unhide CH _).mono ?_
  rintro e w3 ⟨rfl, g4⟩
  obtain ⟨⟨a0, a1, a2⟩, _⟩ := unhide BQ w3 g4
  have g5 : G W1 w3 := (unhide g3).trans g4
  obtain ⟨⟨b0, b1, b2, b3⟩, bf⟩ := unhide BX w3 g5
  have FIN : Hid (∀ Y, Y = (((w3.setCell ⟨w.heap.size, 0, none⟩ (.pointer (some ⟨hb, 0, none⟩))).setCell ⟨w.heap.size, 1, none⟩ (.int .i64 a)).setCell ⟨w.heap.size, 2, none⟩ (.int .i64 F)).setCell ⟨w.heap.size, 3, none⟩ (.bool adr) → _) := hide fun Y hY => put4 (Nat.le_refl _) ((unhide g1).trans g5) b0 b1 b2 b3 _ _ _ _ Y hY
  clear g4 g5 CH BQ e0 e1 e2
  go_wp2_with fail
  obtain ⟨Y, hY⟩ : ∃ Y, Y = (((w3.setCell ⟨w.heap.size, 0, none⟩ (.pointer (some ⟨hb, 0, none⟩))).setCell ⟨w.heap.size, 1, none⟩ (.int .i64 a)).setCell ⟨w.heap.size, 2, none⟩ (.int .i64 F)).setCell ⟨w.heap.size, 3, none⟩ (.bool adr) := ⟨_, rfl⟩
  obtain ⟨y0, y1, y2, y3, gY⟩ := unhide FIN Y hY
  rw [← hY]
  refine bodyPost_ret (by simp [results, Tryz.results35, go_sem, y0, y1, y2, y3]; try rfl) rfl ?_
  exact ⟨rfl, gY⟩
end
end Go.Proofs.YtdnhmkbdphpjcaaGreatDoor

/- Package chans, over any view of a heap: set, round, closed, swap. -/
namespace Go.Proofs.YtdnhmkbdphpjcaaGreatDoor
set_option maxRecDepth 100000
open Go.ChangeShapes Go.WideShapes Go.ChangeAt Go.RowKit Go.Maps Go.Deep

section
variable {γ : Type} {V : World → Al → γ → Prop} {own : γ → Nat → Prop} {hb cb ab : Nat} {l : List Hd.Shp} {w : World} {al : Al} {g : γ}
set_option maxHeartbeats 1000000 in
theorem c_set (H : Hid (HV V own hb cb ab l)) (h : Hid (V w al g)) (a F f v : Int) (b : Bool) (hf : (decide (0 ≤ f) && decide (f < F)) = true) (f1 : Int) (h1 : wrap64 (1 + f) = f1) (hE : al.a.readE a f1 = 0) : Calls Tryz.prog 38 #[chv (some ⟨hb, 0, none⟩) a F b, .int .i64 f, .int .i64 v] w fun e w' => e = .returned (.bool true) ∧ V w' ⟨al.a.writeA a f1 v, al.u⟩ g ∧ Fr (own g) (own g) w w' := by
  obtain ⟨W2, hW2⟩ : ∃ W2, W2 = w.alloc (.cells #[.pointer (some ⟨hb, 0, none⟩), .int .i64 a, .int .i64 F, .bool b] 87) := ⟨_, rfl⟩
  obtain ⟨g2, bx⟩ := box4 hW2
  have hlt := (unhide H).lt _ _ _ (unhide h)
  have BX : Hid (∀ y, Fr (own g) (own g) W2 y → y.cell? ⟨w.heap.size, 0, none⟩ = some (.pointer (some ⟨hb, 0, none⟩)) ∧ y.cell? ⟨w.heap.size, 1, none⟩ = some (.int .i64 a) ∧ y.cell? ⟨w.heap.size, 2, none⟩ = some (.int .i64 F) ∧ y.cell? ⟨w.heap.size, 3, none⟩ = some (.bool b)) := hide fun y f => bx y (own g) (own g) hlt f
  obtain ⟨b0, b1, b2, b3⟩ := unhide BX W2 (Fr.of_G (G.refl _))
  have CH : Hid (∀ y, (y.cell? ⟨w.heap.size, 0, none⟩ = some (.pointer (some ⟨hb, 0, none⟩)) ∧ y.cell? ⟨w.heap.size, 1, none⟩ = some (.int .i64 a) ∧ y.cell? ⟨w.heap.size, 2, none⟩ = some (.int .i64 F) ∧ y.cell? ⟨w.heap.size, 3, none⟩ = some (.bool b)) → Calls Tryz.prog 61 #[chv (some ⟨hb, 0, none⟩) a F b, .int .i64 f] y fun e w' => e = .returned (.bool true) ∧ G y w') := hide fun y _ => by
    have := c_has y (some ⟨hb, 0, none⟩) a F f b
    rw [hf] at this
    exact this
  have C1 : Hid (∀ y, G W2 y → Calls Tryz.prog 20 #[.pointer (some ⟨hb, 0, none⟩)] y fun e w' => e = .returned (.pointer (some ⟨cb, 0, none⟩)) ∧ w' = y) := hide fun y gy => (unhide H).cyc y al g ((unhide H).gr _ _ _ _ (unhide h) (g2.trans gy))
  have C2 : Hid (∀ y, G W2 y → Calls Tryz.prog 22 #[.pointer (some ⟨cb, 0, none⟩)] y fun e w' => e = .returned (.pointer (some ⟨ab, 0, none⟩)) ∧ w' = y) := hide fun y gy => (unhide H).arena y al g ((unhide H).gr _ _ _ _ (unhide h) (g2.trans gy))
  have C3 : Hid (∀ y, G W2 y → Calls Tryz.prog 34 #[.pointer (some ⟨ab, 0, none⟩), .int .i64 a, .int .i64 (IntKind.i64.wrap (1 + f)), .int .i64 v] y fun e w' => e = .returned (.int .i64 0) ∧ Hid (V w' ⟨al.a.writeA a f1 v, al.u⟩ g ∧ Fr (own g) (own g) W2 w')) := hide fun y gy => by
    have e : IntKind.i64.wrap (1 + f) = f1 := by rw [← h1, IntKind.wrap_i64]; unfold wrap64; omega
    rw [e]
    refine ((unhide H).write y al g a f1 v ((unhide H).gr _ _ _ _ (unhide h) (g2.trans gy))).mono fun _ _ hh => ?_
    rw [hE] at hh
    exact ⟨hh.1, hide ⟨hh.2.1, (Fr.of_G gy).trans hh.2.2⟩⟩
  have FW : Hid (∀ y, Fr (own g) (own g) W2 y → Fr (own g) (own g) w y) := hide fun y f => (Fr.of_G g2).trans f
  obtain ⟨al', hal⟩ : ∃ al', al' = (⟨al.a.writeA a f1 v, al.u⟩ : Al) := ⟨_, rfl⟩
  rw [← hal] at C3 ⊢
  have KD : Hid (W2.drew.cell? ⟨w.heap.size, 0, none⟩ = some (.pointer (some ⟨hb, 0, none⟩)) ∧ W2.drew.cell? ⟨w.heap.size, 1, none⟩ = some (.int .i64 a) ∧ W2.drew.cell? ⟨w.heap.size, 2, none⟩ = some (.int .i64 F) ∧ W2.drew.cell? ⟨w.heap.size, 3, none⟩ = some (.bool b)) := hide (unhide BX _ (Fr.of_G (G.refl _).drew))
  have KC : Hid (∀ x y : World, (x.cell? ⟨w.heap.size, 0, none⟩ = some (.pointer (some ⟨hb, 0, none⟩)) ∧ x.cell? ⟨w.heap.size, 1, none⟩ = some (.int .i64 a) ∧ x.cell? ⟨w.heap.size, 2, none⟩ = some (.int .i64 F) ∧ x.cell? ⟨w.heap.size, 3, none⟩ = some (.bool b)) → G x y → (y.cell? ⟨w.heap.size, 0, none⟩ = some (.pointer (some ⟨hb, 0, none⟩)) ∧ y.cell? ⟨w.heap.size, 1, none⟩ = some (.int .i64 a) ∧ y.cell? ⟨w.heap.size, 2, none⟩ = some (.int .i64 F) ∧ y.cell? ⟨w.heap.size, 3, none⟩ = some (.bool b))) := hide fun x y hx gx => ⟨gx.cell hx.1, gx.cell hx.2.1, gx.cell hx.2.2.1, gx.cell hx.2.2.2⟩
  clear bx hf g2 h H h1 hE hal hlt
  go_enter Tryz.func38, Tryz.ntmps38
  go_upto_region 1 with fail
  rw [← hW2]
  clear hW2
  go_region_held3 (fun x => x.cell? ⟨w.heap.size, 0, none⟩ = some (.pointer (some ⟨hb, 0, none⟩)) ∧ x.cell? ⟨w.heap.size, 1, none⟩ = some (.int .i64 a) ∧ x.cell? ⟨w.heap.size, 2, none⟩ = some (.int .i64 F) ∧ x.cell? ⟨w.heap.size, 3, none⟩ = some (.bool b))
    (first | assumption | exact unhide KD | exact unhide KC _ _ (by assumption) (by assumption))
    ((first
      | (go_at_call 61; refine (unhide CH _ ?_).mono ?_; assumption; rintro e x3 ⟨rfl, hg3⟩; have gW3 := (G.refl W2).drew.trans hg3)
      | (go_at_call 20; refine (unhide C1 _ gW3).mono ?_; rintro e x4 ⟨rfl, rfl⟩)
      | (go_at_call 22; refine (unhide C2 _ gW3).mono ?_; rintro e x5 ⟨rfl, rfl⟩)
      | (go_at_call 34; refine (unhide C3 _ gW3).mono ?_; rintro e x6 ⟨rfl, h6⟩; have S6 := unhide BX x6 (unhide h6).2)))
  all_goals
    go_wp2_with fail
    go_ret
    exact ⟨rfl, (unhide h6).1, unhide FW _ (unhide h6).2⟩
/-- The place in the ring. -/
theorem c_round (H : Hid (HV V own hb cb ab l)) (h : Hid (V w al g)) (a F : Int) (b : Bool) (hF : 0 < F) (R far z : Int) (hR : al.a.readV a 1 = R) (h1 : 1 ≤ R) (hz : Int.tmod far R = z) : Calls Tryz.prog 39 #[chv (some ⟨hb, 0, none⟩) a F b, .int .i64 far] w fun e w' => e = .returned (.int .i64 z) ∧ G w w' := by
  obtain ⟨W2, hW2⟩ : ∃ W2, W2 = w.alloc (.cells #[.pointer (some ⟨hb, 0, none⟩), .int .i64 a, .int .i64 F, .bool b] 87) := ⟨_, rfl⟩
  obtain ⟨g2, bx⟩ := box4 hW2
  obtain ⟨b0, b1, b2, b3⟩ := bx W2 (fun _ => False) (fun _ => False) (fun _ h => h.elim) (Fr.of_G (G.refl _))
  have C := hide (c_get H (hide ((unhide H).gr _ _ _ _ (unhide h) g2)) a F 0 b (by simp [hF]) 1 (by decide +kernel))
  rw [hR] at C
  have hR0 : ¬ R = 0 := by omega
  have hd : decide (R < 1) = false := by simp; omega
  replace g2 := hide g2
  clear bx H h hR hF
  go_enter Tryz.func39, Tryz.ntmps39
  go_upto_region 1 with fail
  rw [← hW2]
  clear hW2
  go_wp2_with fail
  refine (unhide C).mono ?_
  rintro e w3 ⟨rfl, g3⟩
  have g4 := hide ((unhide g2).trans g3)
  clear C g3
  go_wp2_with fail
  go_ret
  exact ⟨by rw [← hz]; rfl, unhide g4⟩
theorem c_closed (H : Hid (HV V own hb cb ab l)) (h : Hid (V w al g)) (a F : Int) (b : Bool) (hF : 3 < F) (cl : Bool) (hc : al.a.readV a 4 = if cl = true then 1 else 0) : Calls Tryz.prog 40 #[chv (some ⟨hb, 0, none⟩) a F b] w fun e w' => e = .returned (.bool cl) ∧ G w w' := by
  obtain ⟨W2, hW2⟩ : ∃ W2, W2 = w.alloc (.cells #[.pointer (some ⟨hb, 0, none⟩), .int .i64 a, .int .i64 F, .bool b] 87) := ⟨_, rfl⟩
  obtain ⟨g2, bx⟩ := box4 hW2
  obtain ⟨b0, b1, b2, b3⟩ := bx W2 (fun _ => False) (fun _ => False) (fun _ h => h.elim) (Fr.of_G (G.refl _))
  have C := hide (c_get H (hide ((unhide H).gr _ _ _ _ (unhide h) g2)) a F 3 b (by simp [hF]) 4 (by decide +kernel))
  rw [hc] at C
  replace g2 := hide g2
  clear bx H h hc hF
  cases cl
  · go_enter Tryz.func40, Tryz.ntmps40
    go_upto_region 1 with fail
    rw [← hW2]
    clear hW2
    go_wp2_with fail
    refine (unhide C).mono ?_
    rintro e w3 ⟨rfl, g3⟩
    have g4 := hide ((unhide g2).trans g3)
    clear C g3
    go_wp2_with fail
    go_ret
    exact ⟨rfl, unhide g4⟩
  · go_enter Tryz.func40, Tryz.ntmps40
    go_upto_region 1 with fail
    rw [← hW2]
    clear hW2
    go_wp2_with fail
    refine (unhide C).mono ?_
    rintro e w3 ⟨rfl, g3⟩
    have g4 := hide ((unhide g2).trans g3)
    clear C g3
    go_wp2_with fail
    go_ret
    exact ⟨rfl, unhide g4⟩
end
end Go.Proofs.YtdnhmkbdphpjcaaGreatDoor

/- Package chans, over any view of a heap: swap; Room, Count, Closed, Is, Close, where there is none and where there is one. -/
namespace Go.Proofs.YtdnhmkbdphpjcaaGreatDoor
set_option maxRecDepth 100000
open Go.ChangeShapes Go.WideShapes Go.ChangeAt Go.RowKit Go.Maps Go.Deep

section
variable {γ : Type} {V : World → Al → γ → Prop} {own : γ → Nat → Prop} {hb cb ab : Nat} {l : List Hd.Shp} {w : World} {al : Al} {g : γ}
set_option maxHeartbeats 1000000 in
theorem c_swap (H : Hid (HV V own hb cb ab l)) (h : Hid (V w al g)) (a F : Int) (b : Bool) (R far z v id : Int) (hR : al.a.readV a 1 = R) (h1 : 1 ≤ R) (hz : Int.tmod far R = z) (hz0 : 0 ≤ z) (hzF : 4 + z < F) (hF9 : F ≤ 64) (hE : al.a.readE a (5 + z) = 0) (al2 : Al) (Pg : γ → Prop)
    (hB : b = true → BarC V own cb ⟨al.a.writeA a (5 + z) v, al.u⟩ g (al.a.readV a (5 + z)) v id al2 Pg) (hN : b = false → al2 = ⟨al.a.writeA a (5 + z) v, al.u⟩ ∧ Pg g) :
    Calls Tryz.prog 37 #[chv (some ⟨hb, 0, none⟩) a F b, .int .i64 far, .int .i64 v, .int .i64 id] w fun e w' => e = .returned (.tuple #[.int .i64 (al.a.readV a (5 + z)), .bool true]) ∧ ∃ g2, Pg g2 ∧ V w' al2 g2 ∧ Fr (own g) (own g2) w w' := by
  obtain ⟨W2, hW2⟩ : ∃ W2, W2 = w.alloc (.cells #[.pointer (some ⟨hb, 0, none⟩), .int .i64 a, .int .i64 F, .bool b] 87) := ⟨_, rfl⟩
  obtain ⟨gw, bx⟩ := box4 hW2
  have hlt := (unhide H).lt _ _ _ (unhide h)
  have BX : Hid (∀ y, Fr (own g) (own g) W2 y → y.cell? ⟨w.heap.size, 0, none⟩ = some (.pointer (some ⟨hb, 0, none⟩)) ∧ y.cell? ⟨w.heap.size, 1, none⟩ = some (.int .i64 a) ∧ y.cell? ⟨w.heap.size, 2, none⟩ = some (.int .i64 F) ∧ y.cell? ⟨w.heap.size, 3, none⟩ = some (.bool b)) := hide fun y f => bx y (own g) (own g) hlt f
  obtain ⟨b0, b1, b2, b3⟩ := unhide BX W2 (Fr.of_G (G.refl _))
  have VG : Hid (∀ y, G W2 y → V y al g) := hide fun y gy => (unhide H).gr _ _ _ _ (unhide h) (gw.trans gy)
  have CR := hide (c_round H (hide (unhide VG W2 (G.refl _))) a F b (by omega) R far z hR h1 hz)
  have hd : decide (z < 0) = false := by simp; omega
  obtain ⟨f, hf⟩ : ∃ f, 4 + z = f := ⟨_, rfl⟩
  have hw4 : wrap64 (4 + z) = f := by unfold wrap64; omega
  have hfd : (decide (0 ≤ f) && decide (f < F)) = true := by simp; omega
  have hw1 : wrap64 (1 + f) = 5 + z := by unfold wrap64; omega
  have CG : Hid (∀ y, G W2 y → Calls Tryz.prog 36 #[chv (some ⟨hb, 0, none⟩) a F b, .int .i64 f] y fun e w' => e = .returned (.int .i64 (al.a.readV a (5 + z))) ∧ G y w') := hide fun y gy => c_get H (hide (unhide VG y gy)) a F f b hfd (5 + z) hw1
  have CS : Hid (∀ y, G W2 y → Calls Tryz.prog 38 #[chv (some ⟨hb, 0, none⟩) a F b, .int .i64 f, .int .i64 v] y fun e w' => e = .returned (.bool true) ∧ Hid (V w' ⟨al.a.writeA a (5 + z) v, al.u⟩ g ∧ Fr (own g) (own g) W2 w')) := hide fun y gy => (c_set H (hide (unhide VG y gy)) a F f v b hfd (5 + z) hw1 hE).mono fun _ _ hh => ⟨hh.1, hide ⟨hh.2.1, (Fr.of_G gy).trans hh.2.2⟩⟩
  have CC : Hid (∀ y, V y ⟨al.a.writeA a (5 + z) v, al.u⟩ g → Calls Tryz.prog 20 #[.pointer (some ⟨hb, 0, none⟩)] y fun e w' => e = .returned (.pointer (some ⟨cb, 0, none⟩)) ∧ w' = y) := hide fun y hy => (unhide H).cyc y _ g hy
  have FW : Hid (∀ y o', Fr (own g) o' W2 y → Fr (own g) o' w y) := hide fun y o' f => (Fr.of_G gw).trans f
  unfold BarC at hB
  generalize al.a.readV a (5 + z) = old at CG hB ⊢
  generalize (⟨al.a.writeA a (5 + z) v, al.u⟩ : Al) = al1 at CS CC hB hN
  clear bx hlt H h hR h1 hz hz0 hzF hF9 hE gw VG hf hfd hw1
  cases b
  · obtain ⟨rfl, pg⟩ := hN rfl
    replace pg := hide pg
    clear hB hN CC
    go_enter Tryz.func37, Tryz.ntmps37
    go_upto_region 1 with fail
    rw [← hW2]
    clear hW2
    go_wp2_with fail
    refine (unhide CR).mono ?_
    rintro e w3 ⟨rfl, g3⟩
    obtain ⟨b0, b1, b2, b3⟩ := unhide BX w3 (Fr.of_G g3)
    have CG3 := hide (unhide CG w3 g3)
    replace g3 := hide g3
    clear CR CG
    go_wp2_with fail
    refine (unhide CG3).mono ?_
    rintro e w4 ⟨rfl, g4⟩
    have g5 := (unhide g3).trans g4
    obtain ⟨b0, b1, b2, b3⟩ := unhide BX w4 (Fr.of_G g5)
    have CS3 := hide (unhide CS w4 g5)
    clear CG3 CS g4 g5 g3
    go_wp2_with fail
    refine (unhide CS3).mono ?_
    rintro e w5 ⟨rfl, h5⟩
    obtain ⟨b0, b1, b2, b3⟩ := unhide BX w5 (unhide h5).2
    clear CS3
    go_wp2_with fail
    go_ret2
    exact ⟨rfl, g, unhide pg, (unhide h5).1, unhide FW _ _ (unhide h5).2⟩
  · have CB := hide (hB rfl)
    clear hB hN
    go_enter Tryz.func37, Tryz.ntmps37
    go_upto_region 1 with fail
    rw [← hW2]
    clear hW2
    go_wp2_with fail
    refine (unhide CR).mono ?_
    rintro e w3 ⟨rfl, g3⟩
    obtain ⟨b0, b1, b2, b3⟩ := unhide BX w3 (Fr.of_G g3)
    have CG3 := hide (unhide CG w3 g3)
    replace g3 := hide g3
    clear CR CG
    go_wp2_with fail
    refine (unhide CG3).mono ?_
    rintro e w4 ⟨rfl, g4⟩
    have g5 := (unhide g3).trans g4
    obtain ⟨b0, b1, b2, b3⟩ := unhide BX w4 (Fr.of_G g5)
    have CS3 := hide (unhide CS w4 g5)
    clear CG3 CS g4 g5 g3
    go_wp2_with fail
    refine (unhide CS3).mono ?_
    rintro e w5 ⟨rfl, h5⟩
    obtain ⟨b0, b1, b2, b3⟩ := unhide BX w5 (unhide h5).2
    have CC5 := hide (unhide CC w5 (unhide h5).1)
    have CB5 := hide (unhide CB w5 (unhide h5).1)
    clear CS3 CC CB
    go_wp2_with fail
    refine (unhide CC5).mono ?_
    rintro e w6 ⟨rfl, hw6⟩
    rw [hw6]
    clear hw6 w6 CC5
    go_wp2_with fail
    refine (unhide CB5).mono ?_
    rintro e w7 ⟨rfl, g2, pg, h7, f7⟩
    have h8 := hide (And.intro pg (And.intro h7 (unhide FW _ _ ((unhide h5).2.trans f7))))
    clear CB5 h7 f7 pg
    go_wp2_with fail
    go_ret2
    exact ⟨rfl, g2, unhide h8⟩
end
end Go.Proofs.YtdnhmkbdphpjcaaGreatDoor

/- Package chans, over any view of a heap: Room, Count, Closed, Is, Close. -/
namespace Go.Proofs.YtdnhmkbdphpjcaaGreatDoor
set_option maxRecDepth 100000
open Go.ChangeShapes Go.WideShapes Go.ChangeAt Go.RowKit Go.Maps Go.Deep

section
variable {γ : Type} {V : World → Al → γ → Prop} {own : γ → Nat → Prop} {hb cb ab : Nat} {l : List Hd.Shp} {w : World} {al : Al} {g : γ} {a : Int} {R f : Nat} {adr cl : Bool} {q : List Int}
theorem Cz.rd (h : Cz al l a R adr) (j : Nat) (hj : j < R + 5) : al.a.readV a (j : Int) = al.a.wd (a + j) ∧ al.a.readE a (j : Int) = 0 := by
  unfold Ab.readV Ab.readE
  rw [if_pos (h.inw j hj), if_pos (h.inw j hj)]
  exact ⟨rfl, rfl⟩
theorem Cz.wr (h : Cz al l a R adr) (j : Nat) (hj : j < R + 5) (v : Int) : al.a.writeA a (j : Int) v = al.a.write (a + j) v := if_pos (h.inw j hj)
/-- The one that was found, in a box of the caller's own. -/
theorem c_found (H : Hid (HV V own hb cb ab l)) (h : Hid (V w al g)) (C : Cz al l a R adr) : Calls Tryz.prog 35 #[.pointer (some ⟨hb, 0, none⟩), .int .i64 a] w fun e w1 => e = .returned (.tuple #[chv (some ⟨hb, 0, none⟩) a ((R : Int) + 4) adr, .bool true]) ∧
    Hid (∀ W2, W2 = w1.alloc (.cells #[.pointer (some ⟨hb, 0, none⟩), .int .i64 a, .int .i64 ((R : Int) + 4), .bool adr] 87) → G w W2 ∧ V W2 al g ∧ ∀ y o', Fr (own g) o' W2 y → y.cell? ⟨w1.heap.size, 0, none⟩ = some (.pointer (some ⟨hb, 0, none⟩)) ∧ y.cell? ⟨w1.heap.size, 1, none⟩ = some (.int .i64 a) ∧ y.cell? ⟨w1.heap.size, 2, none⟩ = some (.int .i64 ((R : Int) + 4)) ∧ y.cell? ⟨w1.heap.size, 3, none⟩ = some (.bool adr)) := by
  obtain ⟨sh, s, ho, hh⟩ := C.of_
  rw [show (R : Int) + 5 = (R : Int) + 4 + 1 by omega] at ho
  refine (c_find H h a _ sh s adr ho hh).mono fun e w1 he => ⟨he.1, hide fun W2 hW2 => ?_⟩
  obtain ⟨g2, bx⟩ := box4 hW2
  have V1 := (unhide H).gr _ _ _ _ (unhide h) he.2
  exact ⟨he.2.trans g2, (unhide H).gr _ _ _ _ V1 g2, fun y o' f => bx y (own g) o' ((unhide H).lt _ _ _ V1) f⟩
theorem c_found_no (H : Hid (HV V own hb cb ab l)) (h : Hid (V w al g)) (ho : ofP al l a = none) : Calls Tryz.prog 35 #[.pointer (some ⟨hb, 0, none⟩), .int .i64 a] w fun e w1 => e = .returned (.tuple #[chv none 0 0 false, .bool false]) ∧
    Hid (∀ W2, W2 = w1.alloc (.cells #[.pointer none, .int .i64 0, .int .i64 0, .bool false] 87) → G w W2 ∧ ∀ y, G W2 y → y.cell? ⟨w1.heap.size, 0, none⟩ = some (.pointer none) ∧ y.cell? ⟨w1.heap.size, 1, none⟩ = some (.int .i64 0) ∧ y.cell? ⟨w1.heap.size, 2, none⟩ = some (.int .i64 0) ∧ y.cell? ⟨w1.heap.size, 3, none⟩ = some (.bool false)) := by
  refine (c_find_no H h a ho).mono fun e w1 he => ⟨he.1, hide fun W2 hW2 => ?_⟩
  obtain ⟨g2, bx⟩ := box4 hW2
  exact ⟨he.2.trans g2, fun y gy => bx y (fun _ => False) (fun _ => False) (fun _ h => h.elim) (Fr.of_G gy)⟩
theorem c_room (H : Hid (HV V own hb cb ab l)) (h : Hid (V w al g)) (C : Cz al l a R adr) : Calls Tryz.prog 16 #[.pointer (some ⟨hb, 0, none⟩), .int .i64 a] w fun e w' => e = .returned (.int .i64 (R : Int)) ∧ G w w' := by
  have CF := hide (c_found H h C)
  have hv := (C.rd 1 (by omega)).1
  have CG : Hid (∀ y, V y al g → Calls Tryz.prog 36 #[chv (some ⟨hb, 0, none⟩) a ((R : Int) + 4) adr, .int .i64 0] y fun e w' => e = .returned (.int .i64 (R : Int)) ∧ G y w') := hide fun y hy => by
    have := c_get H (hide hy) a ((R : Int) + 4) 0 adr (by simp; omega) 1 (by decide +kernel)
    rw [show al.a.readV a 1 = _ from hv, show al.a.wd (a + (1 : Nat)) = _ from C.room] at this
    exact this
  generalize (R : Int) = rn at CF CG ⊢
  generalize rn + 4 = F at CF CG
  clear H h C hv
  go_enter Tryz.func16, Tryz.ntmps16
  go_wp2_with fail
  refine (unhide CF).mono ?_
  rintro e w1 ⟨rfl, B1⟩
  clear CF
  go_upto_region 2 with fail
  obtain ⟨W2, hW2⟩ : ∃ W2, W2 = w1.alloc (.cells #[.pointer (some ⟨hb, 0, none⟩), .int .i64 a, .int .i64 F, .bool adr] 87) := ⟨_, rfl⟩
  obtain ⟨g2, V2, BX⟩ := unhide B1 W2 hW2
  obtain ⟨b0, b1, b2, b3⟩ := BX W2 (own g) (Fr.of_G (G.refl _))
  rw [← hW2]
  have C2 := hide (unhide CG W2 V2)
  replace g2 := hide g2
  clear hW2 BX B1 V2 CG
  go_wp2_with fail
  refine (unhide C2).mono ?_
  rintro e w3 ⟨rfl, g3⟩
  have g4 := hide ((unhide g2).trans g3)
  clear C2 g3
  go_wp2_with fail
  go_ret
  exact ⟨rfl, unhide g4⟩
theorem c_room_no (H : Hid (HV V own hb cb ab l)) (h : Hid (V w al g)) (ho : ofP al l a = none) : Calls Tryz.prog 16 #[.pointer (some ⟨hb, 0, none⟩), .int .i64 a] w fun e w' => e = .returned (.int .i64 0) ∧ G w w' := by
  have CF := hide (c_found_no H h ho)
  clear H h ho
  go_enter Tryz.func16, Tryz.ntmps16
  go_wp2_with fail
  refine (unhide CF).mono ?_
  rintro e w1 ⟨rfl, B1⟩
  clear CF
  go_upto_region 2 with fail
  obtain ⟨W2, hW2⟩ : ∃ W2, W2 = w1.alloc (.cells #[.pointer none, .int .i64 0, .int .i64 0, .bool false] 87) := ⟨_, rfl⟩
  obtain ⟨g2, BX⟩ := unhide B1 W2 hW2
  obtain ⟨b0, b1, b2, b3⟩ := BX W2 (G.refl _)
  rw [← hW2]
  have C2 := hide (c_get_out W2 none 0 0 0 false (by decide))
  replace g2 := hide g2
  clear hW2 BX B1
  go_wp2_with fail
  refine (unhide C2).mono ?_
  rintro e w3 ⟨rfl, g3⟩
  have g4 := hide ((unhide g2).trans g3)
  clear C2 g3
  go_wp2_with fail
  go_ret
  exact ⟨rfl, unhide g4⟩
theorem c_count (H : Hid (HV V own hb cb ab l)) (h : Hid (V w al g)) (C : Cz al l a R adr) (Q : Cq al.a a R f q cl) : Calls Tryz.prog 17 #[.pointer (some ⟨hb, 0, none⟩), .int .i64 a] w fun e w' => e = .returned (.int .i64 (q.length : Int)) ∧ G w w' := by
  have CF := hide (c_found H h C)
  have hv := (C.rd 2 (by omega)).1
  have CG : Hid (∀ y, V y al g → Calls Tryz.prog 36 #[chv (some ⟨hb, 0, none⟩) a ((R : Int) + 4) adr, .int .i64 1] y fun e w' => e = .returned (.int .i64 (q.length : Int)) ∧ G y w') := hide fun y hy => by
    have := c_get H (hide hy) a ((R : Int) + 4) 1 adr (by simp; omega) 2 (by decide +kernel)
    rw [show al.a.readV a 2 = _ from hv, show al.a.wd (a + (2 : Nat)) = _ from Q.cnt] at this
    exact this
  generalize (q.length : Int) = rn at CG ⊢
  generalize (R : Int) + 4 = F at CF CG
  clear H h C hv Q
  go_enter Tryz.func17, Tryz.ntmps17
  go_wp2_with fail
  refine (unhide CF).mono ?_
  rintro e w1 ⟨rfl, B1⟩
  clear CF
  go_upto_region 2 with fail
  obtain ⟨W2, hW2⟩ : ∃ W2, W2 = w1.alloc (.cells #[.pointer (some ⟨hb, 0, none⟩), .int .i64 a, .int .i64 F, .bool adr] 87) := ⟨_, rfl⟩
  obtain ⟨g2, V2, BX⟩ := unhide B1 W2 hW2
  obtain ⟨b0, b1, b2, b3⟩ := BX W2 (own g) (Fr.of_G (G.refl _))
  rw [← hW2]
  have C2 := hide (unhide CG W2 V2)
  replace g2 := hide g2
  clear hW2 BX B1 V2 CG
  go_wp2_with fail
  refine (unhide C2).mono ?_
  rintro e w3 ⟨rfl, g3⟩
  have g4 := hide ((unhide g2).trans g3)
  clear C2 g3
  go_wp2_with fail
  go_ret
  exact ⟨rfl, unhide g4⟩
theorem c_count_no (H : Hid (HV V own hb cb ab l)) (h : Hid (V w al g)) (ho : ofP al l a = none) : Calls Tryz.prog 17 #[.pointer (some ⟨hb, 0, none⟩), .int .i64 a] w fun e w' => e = .returned (.int .i64 0) ∧ G w w' := by
  have CF := hide (c_found_no H h ho)
  clear H h ho
  go_enter Tryz.func17, Tryz.ntmps17
  go_wp2_with fail
  refine (unhide CF).mono ?_
  rintro e w1 ⟨rfl, B1⟩
  clear CF
  go_upto_region 2 with fail
  obtain ⟨W2, hW2⟩ : ∃ W2, W2 = w1.alloc (.cells #[.pointer none, .int .i64 0, .int .i64 0, .bool false] 87) := ⟨_, rfl⟩
  obtain ⟨g2, BX⟩ := unhide B1 W2 hW2
  obtain ⟨b0, b1, b2, b3⟩ := BX W2 (G.refl _)
  rw [← hW2]
  have C2 := hide (c_get_out W2 none 0 0 1 false (by decide))
  replace g2 := hide g2
  clear hW2 BX B1
  go_wp2_with fail
  refine (unhide C2).mono ?_
  rintro e w3 ⟨rfl, g3⟩
  have g4 := hide ((unhide g2).trans g3)
  clear C2 g3
  go_wp2_with fail
  go_ret
  exact ⟨rfl, unhide g4⟩
theorem Cz.shut (C : Cz al l a R adr) (Q : Cq al.a a R f q cl) : al.a.readV a 4 = if cl = true then 1 else 0 := ((C.rd 4 (by omega)).1).trans Q.shut
theorem c_shut (H : Hid (HV V own hb cb ab l)) (h : Hid (V w al g)) (C : Cz al l a R adr) (Q : Cq al.a a R f q cl) : Calls Tryz.prog 15 #[.pointer (some ⟨hb, 0, none⟩), .int .i64 a] w fun e w' => e = .returned (.bool cl) ∧ G w w' := by
  have CF := hide (c_found H h C)
  have CG : Hid (∀ y, V y al g → Calls Tryz.prog 40 #[chv (some ⟨hb, 0, none⟩) a ((R : Int) + 4) adr] y fun e w' => e = .returned (.bool cl) ∧ G y w') := hide fun y hy => c_closed H (hide hy) a _ adr (by omega) cl (C.shut Q)
  generalize (R : Int) + 4 = F at CF CG
  clear H h C Q
  go_enter Tryz.func15, Tryz.ntmps15
  go_wp2_with fail
  refine (unhide CF).mono ?_
  rintro e w1 ⟨rfl, B1⟩
  clear CF
  go_upto_region 2 with fail
  obtain ⟨W2, hW2⟩ : ∃ W2, W2 = w1.alloc (.cells #[.pointer (some ⟨hb, 0, none⟩), .int .i64 a, .int .i64 F, .bool adr] 87) := ⟨_, rfl⟩
  obtain ⟨g2, V2, BX⟩ := unhide B1 W2 hW2
  obtain ⟨b0, b1, b2, b3⟩ := BX W2 (own g) (Fr.of_G (G.refl _))
  rw [← hW2]
  have C2 := hide (unhide CG W2 V2)
  replace g2 := hide g2
  clear hW2 BX B1 V2 CG
  go_wp2_with fail
  refine (unhide C2).mono ?_
  rintro e w3 ⟨rfl, g3⟩
  have g4 := hide ((unhide g2).trans g3)
  clear C2 g3
  go_wp2_with fail
  go_ret
  exact ⟨rfl, unhide g4⟩
theorem c_shut_no (H : Hid (HV V own hb cb ab l)) (h : Hid (V w al g)) (ho : ofP al l a = none) : Calls Tryz.prog 15 #[.pointer (some ⟨hb, 0, none⟩), .int .i64 a] w fun e w' => e = .returned (.bool true) ∧ G w w' := by
  have CF := hide (c_found_no H h ho)
  clear H h ho
  go_enter Tryz.func15, Tryz.ntmps15
  go_wp2_with fail
  refine (unhide CF).mono ?_
  rintro e w1 ⟨rfl, B1⟩
  clear CF
  go_upto_region 2 with fail
  obtain ⟨W2, hW2⟩ : ∃ W2, W2 = w1.alloc (.cells #[.pointer none, .int .i64 0, .int .i64 0, .bool false] 87) := ⟨_, rfl⟩
  obtain ⟨g2, BX⟩ := unhide B1 W2 hW2
  rw [← hW2]
  replace g2 := hide g2
  clear hW2 BX B1
  go_wp2_with fail
  go_ret
  exact ⟨rfl, unhide g2⟩
theorem c_is (H : Hid (HV V own hb cb ab l)) (h : Hid (V w al g)) (C : Cz al l a R adr) (b : Bool) : Calls Tryz.prog 18 #[.pointer (some ⟨hb, 0, none⟩), .int .i64 a, .bool b] w fun e w' => e = .returned (.bool (adr == b)) ∧ G w w' := by
  have CF := hide (c_found H h C)
  generalize (R : Int) + 4 = F at CF
  clear H h C
  go_enter Tryz.func18, Tryz.ntmps18
  go_wp2_with fail
  refine (unhide CF).mono ?_
  rintro e w1 ⟨rfl, B1⟩
  clear CF
  go_upto_region 2 with fail
  obtain ⟨W2, hW2⟩ : ∃ W2, W2 = w1.alloc (.cells #[.pointer (some ⟨hb, 0, none⟩), .int .i64 a, .int .i64 F, .bool adr] 87) := ⟨_, rfl⟩
  obtain ⟨g2, V2, BX⟩ := unhide B1 W2 hW2
  obtain ⟨b0, b1, b2, b3⟩ := BX W2 (own g) (Fr.of_G (G.refl _))
  rw [← hW2]
  replace g2 := hide g2
  clear hW2 BX B1 V2
  go_wp2_with fail
  go_ret
  exact ⟨by simp, unhide g2⟩
theorem c_is_no (H : Hid (HV V own hb cb ab l)) (h : Hid (V w al g)) (ho : ofP al l a = none) (b : Bool) : Calls Tryz.prog 18 #[.pointer (some ⟨hb, 0, none⟩), .int .i64 a, .bool b] w fun e w' => e = .returned (.bool false) ∧ G w w' := by
  have CF := hide (c_found_no H h ho)
  clear H h ho
  go_enter Tryz.func18, Tryz.ntmps18
  go_wp2_with fail
  refine (unhide CF).mono ?_
  rintro e w1 ⟨rfl, B1⟩
  clear CF
  go_upto_region 2 with fail
  obtain ⟨W2, hW2⟩ : ∃ W2, W2 = w1.alloc (.cells #[.pointer none, .int .i64 0, .int .i64 0, .bool false] 87) := ⟨_, rfl⟩
  obtain ⟨g2, BX⟩ := unhide B1 W2 hW2
  rw [← hW2]
  replace g2 := hide g2
  clear hW2 BX B1
  go_wp2_with fail
  go_ret
  exact ⟨rfl, unhide g2⟩
end
end Go.Proofs.YtdnhmkbdphpjcaaGreatDoor

/- Package chans, over any view of a heap: Close, Push. -/
namespace Go.Proofs.YtdnhmkbdphpjcaaGreatDoor
set_option maxRecDepth 100000
open Go.ChangeShapes Go.WideShapes Go.ChangeAt Go.RowKit Go.Maps Go.Deep

section
variable {γ : Type} {V : World → Al → γ → Prop} {own : γ → Nat → Prop} {hb cb ab : Nat} {l : List Hd.Shp} {w : World} {al : Al} {g : γ} {a : Int} {R f : Nat} {adr cl : Bool} {q : List Int}
theorem c_close_no (H : Hid (HV V own hb cb ab l)) (h : Hid (V w al g)) (ho : ofP al l a = none) : Calls Tryz.prog 14 #[.pointer (some ⟨hb, 0, none⟩), .int .i64 a] w fun e w' => e = .returned (.bool false) ∧ G w w' := by
  have CF := hide (c_found_no H h ho)
  clear H h ho
  go_enter Tryz.func14, Tryz.ntmps14
  go_wp2_with fail
  refine (unhide CF).mono ?_
  rintro e w1 ⟨rfl, B1⟩
  clear CF
  go_upto_region 2 with fail
  obtain ⟨W2, hW2⟩ : ∃ W2, W2 = w1.alloc (.cells #[.pointer none, .int .i64 0, .int .i64 0, .bool false] 87) := ⟨_, rfl⟩
  obtain ⟨g2, BX⟩ := unhide B1 W2 hW2
  rw [← hW2]
  replace g2 := hide g2
  clear hW2 BX B1
  go_wp2_with fail
  go_ret
  exact ⟨rfl, unhide g2⟩
theorem c_close_shut (H : Hid (HV V own hb cb ab l)) (h : Hid (V w al g)) (C : Cz al l a R adr) (Q : Cq al.a a R f q true) : Calls Tryz.prog 14 #[.pointer (some ⟨hb, 0, none⟩), .int .i64 a] w fun e w' => e = .returned (.bool false) ∧ G w w' := by
  have CF := hide (c_found H h C)
  have CG : Hid (∀ y, V y al g → Calls Tryz.prog 40 #[chv (some ⟨hb, 0, none⟩) a ((R : Int) + 4) adr] y fun e w' => e = .returned (.bool true) ∧ G y w') := hide fun y hy => c_closed H (hide hy) a _ adr (by omega) true (C.shut Q)
  generalize (R : Int) + 4 = F at CF CG
  clear H h C Q
  go_enter Tryz.func14, Tryz.ntmps14
  go_wp2_with fail
  refine (unhide CF).mono ?_
  rintro e w1 ⟨rfl, B1⟩
  clear CF
  go_upto_region 2 with fail
  obtain ⟨W2, hW2⟩ : ∃ W2, W2 = w1.alloc (.cells #[.pointer (some ⟨hb, 0, none⟩), .int .i64 a, .int .i64 F, .bool adr] 87) := ⟨_, rfl⟩
  obtain ⟨g2, V2, BX⟩ := unhide B1 W2 hW2
  obtain ⟨b0, b1, b2, b3⟩ := BX W2 (own g) (Fr.of_G (G.refl _))
  rw [← hW2]
  have C2 := hide (unhide CG W2 V2)
  replace g2 := hide g2
  clear hW2 BX B1 V2 CG
  go_wp2_with fail
  refine (unhide C2).mono ?_
  rintro e w3 ⟨rfl, g3⟩
  have g4 := hide ((unhide g2).trans g3)
  clear C2 g3
  go_wp2_with fail
  go_ret
  exact ⟨rfl, unhide g4⟩
theorem c_close (H : Hid (HV V own hb cb ab l)) (h : Hid (V w al g)) (C : Cz al l a R adr) (Q : Cq al.a a R f q false) : Calls Tryz.prog 14 #[.pointer (some ⟨hb, 0, none⟩), .int .i64 a] w fun e w' => e = .returned (.bool true) ∧ V w' ⟨al.a.write (a + 4) 1, al.u⟩ g ∧ Fr (own g) (own g) w w' := by
  have CF := hide (c_found H h C)
  have CG : Hid (∀ y, V y al g → Calls Tryz.prog 40 #[chv (some ⟨hb, 0, none⟩) a ((R : Int) + 4) adr] y fun e w' => e = .returned (.bool false) ∧ G y w') := hide fun y hy => c_closed H (hide hy) a _ adr (by omega) false (C.shut Q)
  have CS : Hid (∀ y, V y al g → Calls Tryz.prog 38 #[chv (some ⟨hb, 0, none⟩) a ((R : Int) + 4) adr, .int .i64 3, .int .i64 1] y fun e w' => e = .returned (.bool true) ∧ Hid (V w' ⟨al.a.write (a + 4) 1, al.u⟩ g ∧ Fr (own g) (own g) y w')) := hide fun y hy => by
    have := c_set H (hide hy) a ((R : Int) + 4) 3 1 adr (by simp; omega) 4 (by decide +kernel) (C.rd 4 (by omega)).2
    rw [show al.a.writeA a 4 1 = _ from C.wr 4 (by omega) 1] at this
    exact this.mono fun _ _ hh => ⟨hh.1, hide hh.2⟩
  have VG : Hid (∀ y y', V y al g → G y y' → V y' al g) := hide fun y y' hy gy => (unhide H).gr _ _ _ _ hy gy
  generalize (⟨al.a.write (a + 4) 1, al.u⟩ : Al) = al1 at CS ⊢
  generalize (R : Int) + 4 = F at CF CG CS
  clear H h C Q
  go_enter Tryz.func14, Tryz.ntmps14
  go_wp2_with fail
  refine (unhide CF).mono ?_
  rintro e w1 ⟨rfl, B1⟩
  clear CF
  go_upto_region 2 with fail
  obtain ⟨W2, hW2⟩ : ∃ W2, W2 = w1.alloc (.cells #[.pointer (some ⟨hb, 0, none⟩), .int .i64 a, .int .i64 F, .bool adr] 87) := ⟨_, rfl⟩
  obtain ⟨g2, V2, BX⟩ := unhide B1 W2 hW2
  obtain ⟨b0, b1, b2, b3⟩ := BX W2 (own g) (Fr.of_G (G.refl _))
  rw [← hW2]
  have C2 := hide (unhide CG W2 V2)
  replace V2 := hide V2
  replace g2 := hide g2
  replace BX := hide BX
  clear hW2 B1 CG
  go_wp2_with fail
  refine (unhide C2).mono ?_
  rintro e w3 ⟨rfl, g3⟩
  obtain ⟨b0, b1, b2, b3⟩ := unhide BX w3 (own g) (Fr.of_G g3)
  have C3 := hide (unhide CS w3 (unhide VG _ _ (unhide V2) g3))
  have g4 := hide ((unhide g2).trans g3)
  clear C2 g3 CS VG
  go_wp2_with fail
  refine (unhide C3).mono ?_
  rintro e w5 ⟨rfl, h5⟩
  clear C3
  go_wp2_with fail
  go_ret
  exact ⟨rfl, (unhide h5).1, (Fr.of_G (unhide g4)).trans (unhide h5).2⟩
theorem c_push_no (H : Hid (HV V own hb cb ab l)) (h : Hid (V w al g)) (ho : ofP al l a = none) (v id : Int) : Calls Tryz.prog 13 #[.pointer (some ⟨hb, 0, none⟩), .int .i64 a, .int .i64 v, .int .i64 id] w fun e w' => e = .returned (.bool false) ∧ G w w' := by
  have CF := hide (c_found_no H h ho)
  clear H h ho
  go_enter Tryz.func13, Tryz.ntmps13
  go_wp2_with fail
  refine (unhide CF).mono ?_
  rintro e w1 ⟨rfl, B1⟩
  clear CF
  go_upto_region 2 with fail
  obtain ⟨W2, hW2⟩ : ∃ W2, W2 = w1.alloc (.cells #[.pointer none, .int .i64 0, .int .i64 0, .bool false] 87) := ⟨_, rfl⟩
  obtain ⟨g2, BX⟩ := unhide B1 W2 hW2
  obtain ⟨b0, b1, b2, b3⟩ := BX W2 (G.refl _)
  rw [← hW2]
  have C2 := hide (c_get_out W2 none 0 0 1 false (by decide))
  replace g2 := hide g2
  clear hW2 BX B1
  go_wp2_with fail
  refine (unhide C2).mono ?_
  rintro e w3 ⟨rfl, g3⟩
  have g4 := hide ((unhide g2).trans g3)
  clear C2 g3
  go_wp2_with fail
  go_ret
  exact ⟨rfl, unhide g4⟩
set_option maxHeartbeats 1000000 in
theorem c_push_full (H : Hid (HV V own hb cb ab l)) (h : Hid (V w al g)) (C : Cz al l a R adr) (Q : Cq al.a a R f q cl) (hl : cl = true ∨ R ≤ q.length) (v id : Int) : Calls Tryz.prog 13 #[.pointer (some ⟨hb, 0, none⟩), .int .i64 a, .int .i64 v, .int .i64 id] w fun e w' => e = .returned (.bool false) ∧ G w w' := by
  have CF := hide (c_found H h C)
  have CG : Hid (∀ y, V y al g → Calls Tryz.prog 40 #[chv (some ⟨hb, 0, none⟩) a ((R : Int) + 4) adr] y fun e w' => e = .returned (.bool cl) ∧ G y w') := hide fun y hy => c_closed H (hide hy) a _ adr (by omega) cl (C.shut Q)
  have CN : Hid (∀ y, V y al g → Calls Tryz.prog 36 #[chv (some ⟨hb, 0, none⟩) a ((R : Int) + 4) adr, .int .i64 1] y fun e w' => e = .returned (.int .i64 (q.length : Int)) ∧ G y w') := hide fun y hy => by
    have := c_get H (hide hy) a ((R : Int) + 4) 1 adr (by simp; omega) 2 (by decide +kernel)
    rw [show al.a.readV a 2 = _ from (C.rd 2 (by omega)).1, show al.a.wd (a + (2 : Nat)) = _ from Q.cnt] at this
    exact this
  have CR : Hid (∀ y, V y al g → Calls Tryz.prog 36 #[chv (some ⟨hb, 0, none⟩) a ((R : Int) + 4) adr, .int .i64 0] y fun e w' => e = .returned (.int .i64 (R : Int)) ∧ G y w') := hide fun y hy => by
    have := c_get H (hide hy) a ((R : Int) + 4) 0 adr (by simp; omega) 1 (by decide +kernel)
    rw [show al.a.readV a 1 = _ from (C.rd 1 (by omega)).1, show al.a.wd (a + (1 : Nat)) = _ from C.room] at this
    exact this
  have VG : Hid (∀ y y', V y al g → G y y' → V y' al g) := hide fun y y' hy gy => (unhide H).gr _ _ _ _ hy gy
  have hl' : cl = true ∨ (R : Int) ≤ (q.length : Int) := by
    rcases hl with e | e
    · exact Or.inl e
    · exact Or.inr (by omega)
  generalize (R : Int) + 4 = F at CF CG CN CR
  generalize (R : Int) = rn at CR hl'
  generalize (q.length : Int) = cn at CN hl'
  clear H h C Q hl
  cases cl
  · have hle : rn ≤ cn := by
      rcases hl' with e | e
      · cases e
      · exact e
    clear hl'
    go_enter Tryz.func13, Tryz.ntmps13
    go_wp2_with fail
    refine (unhide CF).mono ?_
    rintro e w1 ⟨rfl, B1⟩
    clear CF
    go_upto_region 2 with fail
    obtain ⟨W2, hW2⟩ : ∃ W2, W2 = w1.alloc (.cells #[.pointer (some ⟨hb, 0, none⟩), .int .i64 a, .int .i64 F, .bool adr] 87) := ⟨_, rfl⟩
    obtain ⟨g2, V2, BX⟩ := unhide B1 W2 hW2
    obtain ⟨b0, b1, b2, b3⟩ := BX W2 (own g) (Fr.of_G (G.refl _))
    rw [← hW2]
    have C2 := hide (unhide CN W2 V2)
    replace V2 := hide V2
    replace g2 := hide g2
    replace BX := hide BX
    clear hW2 B1 CN
    go_wp2_with fail
    refine (unhide C2).mono ?_
    rintro e w3 ⟨rfl, g3⟩
    obtain ⟨b0, b1, b2, b3⟩ := unhide BX w3 (own g) (Fr.of_G g3)
    have V3 := unhide VG _ _ (unhide V2) g3
    have C3 := hide (unhide CG w3 V3)
    replace V3 := hide V3
    replace g3 := hide g3
    clear C2 CG
    go_wp2_with fail
    refine (unhide C3).mono ?_
    rintro e w4 ⟨rfl, g4⟩
    have g4' := (unhide g3).trans g4
    obtain ⟨b0, b1, b2, b3⟩ := unhide BX w4 (own g) (Fr.of_G g4')
    have C4 := hide (unhide CR w4 (unhide VG _ _ (unhide V3) g4))
    have g5 := hide ((unhide g2).trans g4')
    clear C3 CR g4 g4'
    go_wp2_with fail
    refine (unhide C4).mono ?_
    rintro e w5 ⟨rfl, g6⟩
    have g7 := hide ((unhide g5).trans g6)
    clear C4 g6
    go_wp2_with fail
    go_ret
    exact ⟨rfl, unhide g7⟩
  · clear hl' CR
    go_enter Tryz.func13, Tryz.ntmps13
    go_wp2_with fail
    refine (unhide CF).mono ?_
    rintro e w1 ⟨rfl, B1⟩
    clear CF
    go_upto_region 2 with fail
    obtain ⟨W2, hW2⟩ : ∃ W2, W2 = w1.alloc (.cells #[.pointer (some ⟨hb, 0, none⟩), .int .i64 a, .int .i64 F, .bool adr] 87) := ⟨_, rfl⟩
    obtain ⟨g2, V2, BX⟩ := unhide B1 W2 hW2
    obtain ⟨b0, b1, b2, b3⟩ := BX W2 (own g) (Fr.of_G (G.refl _))
    rw [← hW2]
    have C2 := hide (unhide CN W2 V2)
    replace V2 := hide V2
    replace g2 := hide g2
    replace BX := hide BX
    clear hW2 B1 CN
    go_wp2_with fail
    refine (unhide C2).mono ?_
    rintro e w3 ⟨rfl, g3⟩
    obtain ⟨b0, b1, b2, b3⟩ := unhide BX w3 (own g) (Fr.of_G g3)
    have C3 := hide (unhide CG w3 (unhide VG _ _ (unhide V2) g3))
    have g4 := hide ((unhide g2).trans g3)
    clear C2 CG g3
    go_wp2_with fail
    refine (unhide C3).mono ?_
    rintro e w4 ⟨rfl, g5⟩
    have g6 := hide ((unhide g4).trans g5)
    clear C3 g5
    go_wp2_with fail
    go_ret
    exact ⟨rfl, unhide g6⟩
end
end Go.Proofs.YtdnhmkbdphpjcaaGreatDoor

/- Package chans, over any view of a heap: Push and Pop. -/
namespace Go.Proofs.YtdnhmkbdphpjcaaGreatDoor
set_option maxRecDepth 100000
open Go.ChangeShapes Go.WideShapes Go.ChangeAt Go.RowKit Go.Maps Go.Deep

theorem tmod_nat (m n : Nat) : Int.tmod (m : Int) (n : Int) = ((m % n : Nat) : Int) := (Int.ofNat_tmod m n).symm
section
variable {γ : Type} {V : World → Al → γ → Prop} {own : γ → Nat → Prop} {hb cb ab : Nat} {l : List Hd.Shp} {w : World} {al : Al} {g : γ} {a : Int} {R f : Nat} {adr cl : Bool} {q : List Int}
/-- A thing is put at a place of the ring. -/
theorem c_swapR (H : Hid (HV V own hb cb ab l)) (C : Cz al l a R adr) (far z : Nat) (hz : far % R = z) (hR : 0 < R) (v id : Int) (al2 : Al) (Pg : γ → Prop)
    (hB : adr = true → BarC V own cb ⟨al.a.write (a + (5 + (z : Int))) v, al.u⟩ g (al.a.wd (a + (5 + (z : Int)))) v id al2 Pg) (hN : adr = false → al2 = ⟨al.a.write (a + (5 + (z : Int))) v, al.u⟩ ∧ Pg g) (y : World) (hy : V y al g) :
    Calls Tryz.prog 37 #[chv (some ⟨hb, 0, none⟩) a ((R : Int) + 4) adr, .int .i64 (far : Int), .int .i64 v, .int .i64 id] y fun e w' => e = .returned (.tuple #[.int .i64 (al.a.wd (a + (5 + (z : Int)))), .bool true]) ∧ ∃ g2, Pg g2 ∧ V w' al2 g2 ∧ Fr (own g) (own g2) y w' := by
  have hzR : z < R := by rw [← hz]; exact Nat.mod_lt _ hR
  have r0 := C.r0
  have e5 : ((5 + z : Nat) : Int) = 5 + (z : Int) := by omega
  have h1 := C.rd (5 + z) (by omega)
  have h2 := C.wr (5 + z) (by omega) v
  rw [e5] at h1 h2
  have h3 := c_swap H (hide hy) a ((R : Int) + 4) adr (R : Int) (far : Int) (z : Int) v id ((C.rd 1 (by omega)).1.trans C.room) (by omega) (by rw [tmod_nat, hz]) (by omega) (by omega) (by omega) h1.2 al2 Pg (by rw [h1.1, h2]; exact hB) (by rw [h2]; exact hN)
  rw [h1.1] at h3
  exact h3
set_option maxHeartbeats 2000000 in
theorem c_push (H : Hid (HV V own hb cb ab l)) (h : Hid (V w al g)) (C : Cz al l a R adr) (Q : Cq al.a a R f q false) (hl : q.length < R) (v id : Int) (al2 : Al) (Pg : γ → Prop)
    (hB : adr = true → BarC V own cb ⟨al.a.write (a + (5 + ((f + q.length) % R : Nat))) v, al.u⟩ g (al.a.wd (a + (5 + ((f + q.length) % R : Nat)))) v id al2 Pg) (hN : adr = false → al2 = ⟨al.a.write (a + (5 + ((f + q.length) % R : Nat))) v, al.u⟩ ∧ Pg g) (C2 : Cz al2 l a R adr) :
    Calls Tryz.prog 13 #[.pointer (some ⟨hb, 0, none⟩), .int .i64 a, .int .i64 v, .int .i64 id] w fun e w' => e = .returned (.bool true) ∧ ∃ g2, Pg g2 ∧ V w' ⟨al2.a.write (a + 2) ((q.length : Int) + 1), al2.u⟩ g2 ∧ Fr (own g) (own g2) w w' := by
  have CF := hide (c_found H h C)
  have hfl := Q.fl (by omega)
  have r0 := C.r0
  have CG : Hid (∀ y, V y al g → Calls Tryz.prog 40 #[chv (some ⟨hb, 0, none⟩) a ((R : Int) + 4) adr] y fun e w' => e = .returned (.bool false) ∧ G y w') := hide fun y hy => c_closed H (hide hy) a _ adr (by omega) false (C.shut Q)
  have CN : Hid (∀ y, V y al g → Calls Tryz.prog 36 #[chv (some ⟨hb, 0, none⟩) a ((R : Int) + 4) adr, .int .i64 1] y fun e w' => e = .returned (.int .i64 (q.length : Int)) ∧ G y w') := hide fun y hy => by
    have := c_get H (hide hy) a ((R : Int) + 4) 1 adr (by simp; omega) 2 (by decide +kernel)
    rw [show al.a.readV a 2 = _ from (C.rd 2 (by omega)).1, show al.a.wd (a + (2 : Nat)) = _ from Q.cnt] at this
    exact this
  have CR : Hid (∀ y, V y al g → Calls Tryz.prog 36 #[chv (some ⟨hb, 0, none⟩) a ((R : Int) + 4) adr, .int .i64 0] y fun e w' => e = .returned (.int .i64 (R : Int)) ∧ G y w') := hide fun y hy => by
    have := c_get H (hide hy) a ((R : Int) + 4) 0 adr (by simp; omega) 1 (by decide +kernel)
    rw [show al.a.readV a 1 = _ from (C.rd 1 (by omega)).1, show al.a.wd (a + (1 : Nat)) = _ from C.room] at this
    exact this
  have CT : Hid (∀ y, V y al g → Calls Tryz.prog 36 #[chv (some ⟨hb, 0, none⟩) a ((R : Int) + 4) adr, .int .i64 2] y fun e w' => e = .returned (.int .i64 (f : Int)) ∧ G y w') := hide fun y hy => by
    have := c_get H (hide hy) a ((R : Int) + 4) 2 adr (by simp; omega) 3 (by decide +kernel)
    rw [show al.a.readV a 3 = _ from (C.rd 3 (by omega)).1, show al.a.wd (a + (3 : Nat)) = _ from Q.fst] at this
    exact this
  have CW : Hid (∀ y, V y al g → Calls Tryz.prog 37 #[chv (some ⟨hb, 0, none⟩) a ((R : Int) + 4) adr, .int .i64 (IntKind.i64.wrap ((f : Int) + (q.length : Int))), .int .i64 v, .int .i64 id] y fun e w' => (∃ old, e = .returned (.tuple #[.int .i64 old, .bool true])) ∧ Hid (∃ g2, Pg g2 ∧ V w' al2 g2 ∧ Fr (own g) (own g2) y w')) := hide fun y hy => by
    have e : IntKind.i64.wrap ((f : Int) + (q.length : Int)) = ((f + q.length : Nat) : Int) := by rw [IntKind.wrap_i64]; omega
    rw [e]
    exact (c_swapR H C (f + q.length) _ rfl (by omega) v id al2 Pg hB hN y hy).mono fun _ _ hh => ⟨⟨_, hh.1⟩, hide hh.2⟩
  have CS : Hid (∀ y g2, V y al2 g2 → Calls Tryz.prog 38 #[chv (some ⟨hb, 0, none⟩) a ((R : Int) + 4) adr, .int .i64 1, .int .i64 ((q.length : Int) + 1)] y fun e w' => e = .returned (.bool true) ∧ Hid (V w' ⟨al2.a.write (a + 2) ((q.length : Int) + 1), al2.u⟩ g2 ∧ Fr (own g2) (own g2) y w')) := hide fun y g2 hy => by
    have := c_set H (hide hy) a ((R : Int) + 4) 1 ((q.length : Int) + 1) adr (by simp; omega) 2 (by decide +kernel) (C2.rd 2 (by omega)).2
    rw [show al2.a.writeA a 2 ((q.length : Int) + 1) = _ from C2.wr 2 (by omega) _] at this
    exact this.mono fun _ _ hh => ⟨hh.1, hide hh.2⟩
  have VG : Hid (∀ y y', V y al g → G y y' → V y' al g) := hide fun y y' hy gy => (unhide H).gr _ _ _ _ hy gy
  have hd : ¬ (R : Int) ≤ (q.length : Int) := by omega
  obtain ⟨cn1, hc1⟩ : ∃ c, c = (q.length : Int) + 1 := ⟨_, rfl⟩
  have hw : wrap64 ((q.length : Int) + 1) = cn1 := by rw [hc1]; unfold wrap64; omega
  rw [← hc1] at CS ⊢
  clear hc1
  generalize (⟨al2.a.write (a + 2) cn1, al2.u⟩ : Al) = al3 at CS ⊢
  generalize (R : Int) + 4 = F at CF CG CN CR CT CW CS
  generalize (R : Int) = rn at CR hd
  generalize (q.length : Int) = cn at CN CW CS hd hw
  generalize (f : Int) = fn at CT CW
  clear H h C Q hl hB hN C2 hfl r0
  go_enter Tryz.func13, Tryz.ntmps13
  go_wp2_with fail
  refine (unhide CF).mono ?_
  rintro e w1 ⟨rfl, B1⟩
  clear CF
  go_upto_region 2 with fail
  obtain ⟨W2, hW2⟩ : ∃ W2, W2 = w1.alloc (.cells #[.pointer (some ⟨hb, 0, none⟩), .int .i64 a, .int .i64 F, .bool adr] 87) := ⟨_, rfl⟩
  obtain ⟨gw, V2, BX⟩ := unhide B1 W2 hW2
  obtain ⟨b0, b1, b2, b3⟩ := BX W2 (own g) (Fr.of_G (G.refl _))
  rw [← hW2]
  have K2 := hide (unhide CN W2 V2)
  replace V2 : Hid (∀ y, G W2 y → V y al g) := hide fun y gy => unhide VG _ _ V2 gy
  replace gw := hide gw
  replace BX := hide BX
  clear hW2 B1 CN VG
  go_wp2_with fail
  refine (unhide K2).mono ?_
  rintro e w3 ⟨rfl, g3⟩
  obtain ⟨b0, b1, b2, b3⟩ := unhide BX w3 (own g) (Fr.of_G g3)
  have K3 := hide (unhide CG w3 (unhide V2 _ g3))
  replace g3 := hide g3
  clear K2 CG
  go_wp2_with fail
  refine (unhide K3).mono ?_
  rintro e w4 ⟨rfl, g4⟩
  have g4' := (unhide g3).trans g4
  obtain ⟨b0, b1, b2, b3⟩ := unhide BX w4 (own g) (Fr.of_G g4')
  have K4 := hide (unhide CR w4 (unhide V2 _ g4'))
  replace g4' := hide g4'
  clear K3 CR g4 g3
  go_wp2_with fail
  refine (unhide K4).mono ?_
  rintro e w5 ⟨rfl, g5⟩
  have g5' := (unhide g4').trans g5
  clear K4 g4' g5
  have KD : Hid (w5.drew.cell? ⟨w1.heap.size, 0, none⟩ = some (.pointer (some ⟨hb, 0, none⟩)) ∧ w5.drew.cell? ⟨w1.heap.size, 1, none⟩ = some (.int .i64 a) ∧ w5.drew.cell? ⟨w1.heap.size, 2, none⟩ = some (.int .i64 F) ∧ w5.drew.cell? ⟨w1.heap.size, 3, none⟩ = some (.bool adr)) := hide (unhide BX _ _ (Fr.of_G g5'.drew))
  have KC : Hid (∀ x y : World, (x.cell? ⟨w1.heap.size, 0, none⟩ = some (.pointer (some ⟨hb, 0, none⟩)) ∧ x.cell? ⟨w1.heap.size, 1, none⟩ = some (.int .i64 a) ∧ x.cell? ⟨w1.heap.size, 2, none⟩ = some (.int .i64 F) ∧ x.cell? ⟨w1.heap.size, 3, none⟩ = some (.bool adr)) → G x y → (y.cell? ⟨w1.heap.size, 0, none⟩ = some (.pointer (some ⟨hb, 0, none⟩)) ∧ y.cell? ⟨w1.heap.size, 1, none⟩ = some (.int .i64 a) ∧ y.cell? ⟨w1.heap.size, 2, none⟩ = some (.int .i64 F) ∧ y.cell? ⟨w1.heap.size, 3, none⟩ = some (.bool adr))) := hide fun x y hx gx => ⟨gx.cell hx.1, gx.cell hx.2.1, gx.cell hx.2.2.1, gx.cell hx.2.2.2⟩
  obtain ⟨b0, b1, b2, b3⟩ := unhide BX w5 (own g) (Fr.of_G g5')
  have gd := g5'.drew
  replace g5' := hide g5'
  go_upto_region 5 with fail
  go_region_held3 (fun x => x.cell? ⟨w1.heap.size, 0, none⟩ = some (.pointer (some ⟨hb, 0, none⟩)) ∧ x.cell? ⟨w1.heap.size, 1, none⟩ = some (.int .i64 a) ∧ x.cell? ⟨w1.heap.size, 2, none⟩ = some (.int .i64 F) ∧ x.cell? ⟨w1.heap.size, 3, none⟩ = some (.bool adr))
    (first | assumption | exact unhide KD | exact unhide KC _ _ (by assumption) (by assumption))
    ((first
      | (go_at_call 36; refine (unhide CT _ (unhide V2 _ gd)).mono ?_; rintro e x6 ⟨rfl, hg6⟩; have gW6 := gd.trans hg6)
      | (go_at_call 37; refine (unhide CW _ (unhide V2 _ gW6)).mono ?_; rintro e x7 ⟨⟨old, rfl⟩, h7⟩; obtain ⟨g2, pg, v7, f7'⟩ := unhide h7; have f7 := (Fr.of_G (o := own g) gW6).trans f7'; have S7 := unhide BX x7 _ f7)))
  all_goals
    have K8 := hide (unhide CS x7 g2 v7)
    replace f7 := hide f7
    replace pg := hide pg
    clear v7 f7' h7
    obtain ⟨b0, b1, b2, b3⟩ := S7
    go_wp2_with fail
    refine (unhide K8).mono ?_
    rintro e w9 ⟨rfl, h9⟩
    clear K8
    go_wp2_with fail
    go_ret
    exact ⟨rfl, g2, unhide pg, (unhide h9).1, (Fr.of_G (unhide gw)).trans ((unhide f7).trans (unhide h9).2)⟩
end
end Go.Proofs.YtdnhmkbdphpjcaaGreatDoor

/- Package chans, over any view of a heap: Pop. -/
namespace Go.Proofs.YtdnhmkbdphpjcaaGreatDoor
set_option maxRecDepth 100000
open Go.ChangeShapes Go.WideShapes Go.ChangeAt Go.RowKit Go.Maps Go.Deep

section
variable {γ : Type} {V : World → Al → γ → Prop} {own : γ → Nat → Prop} {hb cb ab : Nat} {l : List Hd.Shp} {w : World} {al : Al} {g : γ} {a : Int} {R f : Nat} {adr cl : Bool} {q : List Int}
set_option maxHeartbeats 1000000 in
theorem c_pop_no (H : Hid (HV V own hb cb ab l)) (h : Hid (V w al g)) (ho : ofP al l a = none) : Calls Tryz.prog 12 #[.pointer (some ⟨hb, 0, none⟩), .int .i64 a] w fun e w' => e = .returned (.tuple #[.int .i64 0, .bool false]) ∧ G w w' := by
  have CF := hide (c_found_no H h ho)
  clear H h ho
  go_enter Tryz.func12, Tryz.ntmps12
  go_wp2_with fail
  refine (unhide CF).mono ?_
  rintro e w1 ⟨rfl, B1⟩
  clear CF
  go_upto_region 2 with fail
  obtain ⟨W2, hW2⟩ : ∃ W2, W2 = w1.alloc (.cells #[.pointer none, .int .i64 0, .int .i64 0, .bool false] 87) := ⟨_, rfl⟩
  obtain ⟨gw, BX⟩ := unhide B1 W2 hW2
  obtain ⟨b0, b1, b2, b3⟩ := BX W2 (G.refl _)
  rw [← hW2]
  replace gw := hide gw
  clear hW2 B1
  have C1 : Hid (∀ y : World, (y.cell? ⟨w1.heap.size, 0, none⟩ = some (.pointer none) ∧ y.cell? ⟨w1.heap.size, 1, none⟩ = some (.int .i64 0) ∧ y.cell? ⟨w1.heap.size, 2, none⟩ = some (.int .i64 0) ∧ y.cell? ⟨w1.heap.size, 3, none⟩ = some (.bool false)) → Calls Tryz.prog 36 #[chv none 0 0 false, .int .i64 1] y fun e w' => e = .returned (.int .i64 0) ∧ G y w') := hide fun y _ => c_get_out y none 0 0 1 false (by decide)
  have C2 : Hid (∀ y : World, (y.cell? ⟨w1.heap.size, 0, none⟩ = some (.pointer none) ∧ y.cell? ⟨w1.heap.size, 1, none⟩ = some (.int .i64 0) ∧ y.cell? ⟨w1.heap.size, 2, none⟩ = some (.int .i64 0) ∧ y.cell? ⟨w1.heap.size, 3, none⟩ = some (.bool false)) → Calls Tryz.prog 36 #[chv none 0 0 false, .int .i64 2] y fun e w' => e = .returned (.int .i64 0) ∧ G y w') := hide fun y _ => c_get_out y none 0 0 2 false (by decide)
  have KD : Hid (W2.drew.cell? ⟨w1.heap.size, 0, none⟩ = some (.pointer none) ∧ W2.drew.cell? ⟨w1.heap.size, 1, none⟩ = some (.int .i64 0) ∧ W2.drew.cell? ⟨w1.heap.size, 2, none⟩ = some (.int .i64 0) ∧ W2.drew.cell? ⟨w1.heap.size, 3, none⟩ = some (.bool false)) := hide (BX _ (G.refl _).drew)
  have KC : Hid (∀ x y : World, (x.cell? ⟨w1.heap.size, 0, none⟩ = some (.pointer none) ∧ x.cell? ⟨w1.heap.size, 1, none⟩ = some (.int .i64 0) ∧ x.cell? ⟨w1.heap.size, 2, none⟩ = some (.int .i64 0) ∧ x.cell? ⟨w1.heap.size, 3, none⟩ = some (.bool false)) → G x y → (y.cell? ⟨w1.heap.size, 0, none⟩ = some (.pointer none) ∧ y.cell? ⟨w1.heap.size, 1, none⟩ = some (.int .i64 0) ∧ y.cell? ⟨w1.heap.size, 2, none⟩ = some (.int .i64 0) ∧ y.cell? ⟨w1.heap.size, 3, none⟩ = some (.bool false))) := hide fun x y hx gx => ⟨gx.cell hx.1, gx.cell hx.2.1, gx.cell hx.2.2.1, gx.cell hx.2.2.2⟩
  clear BX
  go_region_held3 (fun x => x.cell? ⟨w1.heap.size, 0, none⟩ = some (.pointer none) ∧ x.cell? ⟨w1.heap.size, 1, none⟩ = some (.int .i64 0) ∧ x.cell? ⟨w1.heap.size, 2, none⟩ = some (.int .i64 0) ∧ x.cell? ⟨w1.heap.size, 3, none⟩ = some (.bool false))
    (first | assumption | exact unhide KD | exact unhide KC _ _ (by assumption) (by assumption))
    ((first
      | (go_at_call_of 36 (Value.int IntKind.i64 1); refine (unhide C1 _ ?_).mono ?_; assumption; rintro e x3 ⟨rfl, hg3⟩)
      | (go_at_call_of 36 (Value.int IntKind.i64 2); refine (unhide C2 _ ?_).mono ?_; assumption; rintro e x4 ⟨rfl, hg4⟩)))
  all_goals
    have g5 := hide ((unhide gw).trans (((G.refl W2).drew.trans hg3).trans hg4))
    go_wp2_with fail
    go_ret2
    exact ⟨rfl, unhide g5⟩
set_option maxHeartbeats 1000000 in
theorem c_pop_empty (H : Hid (HV V own hb cb ab l)) (h : Hid (V w al g)) (C : Cz al l a R adr) (Q : Cq al.a a R f [] cl) : Calls Tryz.prog 12 #[.pointer (some ⟨hb, 0, none⟩), .int .i64 a] w fun e w' => e = .returned (.tuple #[.int .i64 0, .bool false]) ∧ G w w' := by
  have CF := hide (c_found H h C)
  have CN : Hid (∀ y, V y al g → Calls Tryz.prog 36 #[chv (some ⟨hb, 0, none⟩) a ((R : Int) + 4) adr, .int .i64 1] y fun e w' => e = .returned (.int .i64 0) ∧ G y w') := hide fun y hy => by
    have := c_get H (hide hy) a ((R : Int) + 4) 1 adr (by simp; omega) 2 (by decide +kernel)
    rw [show al.a.readV a 2 = _ from (C.rd 2 (by omega)).1, show al.a.wd (a + (2 : Nat)) = _ from Q.cnt] at this
    exact this
  have CT : Hid (∀ y, V y al g → Calls Tryz.prog 36 #[chv (some ⟨hb, 0, none⟩) a ((R : Int) + 4) adr, .int .i64 2] y fun e w' => e = .returned (.int .i64 (f : Int)) ∧ G y w') := hide fun y hy => by
    have := c_get H (hide hy) a ((R : Int) + 4) 2 adr (by simp; omega) 3 (by decide +kernel)
    rw [show al.a.readV a 3 = _ from (C.rd 3 (by omega)).1, show al.a.wd (a + (3 : Nat)) = _ from Q.fst] at this
    exact this
  have VG : Hid (∀ y y', V y al g → G y y' → V y' al g) := hide fun y y' hy gy => (unhide H).gr _ _ _ _ hy gy
  generalize (R : Int) + 4 = F at CF CN CT
  generalize (f : Int) = fn at CT
  clear H h C Q
  go_enter Tryz.func12, Tryz.ntmps12
  go_wp2_with fail
  refine (unhide CF).mono ?_
  rintro e w1 ⟨rfl, B1⟩
  clear CF
  go_upto_region 2 with fail
  obtain ⟨W2, hW2⟩ : ∃ W2, W2 = w1.alloc (.cells #[.pointer (some ⟨hb, 0, none⟩), .int .i64 a, .int .i64 F, .bool adr] 87) := ⟨_, rfl⟩
  obtain ⟨gw, V2, BX⟩ := unhide B1 W2 hW2
  obtain ⟨b0, b1, b2, b3⟩ := BX W2 (own g) (Fr.of_G (G.refl _))
  rw [← hW2]
  replace V2 : Hid (∀ y, G W2 y → V y al g) := hide fun y gy => unhide VG _ _ V2 gy
  replace gw := hide gw
  clear hW2 B1 VG
  have KD : Hid (W2.drew.cell? ⟨w1.heap.size, 0, none⟩ = some (.pointer (some ⟨hb, 0, none⟩)) ∧ W2.drew.cell? ⟨w1.heap.size, 1, none⟩ = some (.int .i64 a) ∧ W2.drew.cell? ⟨w1.heap.size, 2, none⟩ = some (.int .i64 F) ∧ W2.drew.cell? ⟨w1.heap.size, 3, none⟩ = some (.bool adr)) := hide (BX _ (own g) (Fr.of_G (G.refl _).drew))
  have KC : Hid (∀ x y : World, (x.cell? ⟨w1.heap.size, 0, none⟩ = some (.pointer (some ⟨hb, 0, none⟩)) ∧ x.cell? ⟨w1.heap.size, 1, none⟩ = some (.int .i64 a) ∧ x.cell? ⟨w1.heap.size, 2, none⟩ = some (.int .i64 F) ∧ x.cell? ⟨w1.heap.size, 3, none⟩ = some (.bool adr)) → G x y → (y.cell? ⟨w1.heap.size, 0, none⟩ = some (.pointer (some ⟨hb, 0, none⟩)) ∧ y.cell? ⟨w1.heap.size, 1, none⟩ = some (.int .i64 a) ∧ y.cell? ⟨w1.heap.size, 2, none⟩ = some (.int .i64 F) ∧ y.cell? ⟨w1.heap.size, 3, none⟩ = some (.bool adr))) := hide fun x y hx gx => ⟨gx.cell hx.1, gx.cell hx.2.1, gx.cell hx.2.2.1, gx.cell hx.2.2.2⟩
  replace BX := hide BX
  have gd := (G.refl W2).drew
  go_region_held3 (fun x => x.cell? ⟨w1.heap.size, 0, none⟩ = some (.pointer (some ⟨hb, 0, none⟩)) ∧ x.cell? ⟨w1.heap.size, 1, none⟩ = some (.int .i64 a) ∧ x.cell? ⟨w1.heap.size, 2, none⟩ = some (.int .i64 F) ∧ x.cell? ⟨w1.heap.size, 3, none⟩ = some (.bool adr))
    (first | assumption | exact unhide KD | exact unhide KC _ _ (by assumption) (by assumption))
    ((first
      | (go_at_call_of 36 (Value.int IntKind.i64 1); refine (unhide CN _ (unhide V2 _ gd)).mono ?_; rintro e x3 ⟨rfl, hg3⟩; have gW3 := gd.trans hg3)
      | (go_at_call_of 36 (Value.int IntKind.i64 2); refine (unhide CT _ (unhide V2 _ gW3)).mono ?_; rintro e x4 ⟨rfl, hg4⟩; have gW4 := gW3.trans hg4)))
  all_goals
    have g5 := hide ((unhide gw).trans gW4)
    clear KD KC gd hg3 gW3 hg4 gW4
    go_wp2_with fail
    go_ret2
    exact ⟨rfl, unhide g5⟩
set_option maxHeartbeats 2000000 in
theorem c_pop {v : Int} (H : Hid (HV V own hb cb ab l)) (h : Hid (V w al g)) (C : Cz al l a R adr) (Q : Cq al.a a R f (v :: q) cl) (al2 : Al) (Pg : γ → Prop)
    (hB : adr = true → BarC V own cb ⟨al.a.write (a + (5 + (f : Int))) 0, al.u⟩ g v 0 (-1) al2 Pg) (hN : adr = false → al2 = ⟨al.a.write (a + (5 + (f : Int))) 0, al.u⟩ ∧ Pg g) (C2 : Cz al2 l a R adr) :
    Calls Tryz.prog 12 #[.pointer (some ⟨hb, 0, none⟩), .int .i64 a] w fun e w' => e = .returned (.tuple #[.int .i64 v, .bool true]) ∧ ∃ g2, Pg g2 ∧ V w' ⟨(al2.a.write (a + 3) (((f + 1) % R : Nat) : Int)).write (a + 2) (((v :: q).length : Int) - 1), al2.u⟩ g2 ∧ Fr (own g) (own g2) w w' := by
  have CF := hide (c_found H h C)
  have hlen := Q.len
  rw [List.length_cons] at hlen
  have hfl := Q.fl (by omega)
  have r0 := C.r0
  have hv := Q.pop.1
  have CN : Hid (∀ y, V y al g → Calls Tryz.prog 36 #[chv (some ⟨hb, 0, none⟩) a ((R : Int) + 4) adr, .int .i64 1] y fun e w' => e = .returned (.int .i64 ((v :: q).length : Int)) ∧ G y w') := hide fun y hy => by
    have := c_get H (hide hy) a ((R : Int) + 4) 1 adr (by simp; omega) 2 (by decide +kernel)
    rw [show al.a.readV a 2 = _ from (C.rd 2 (by omega)).1, show al.a.wd (a + (2 : Nat)) = _ from Q.cnt] at this
    exact this
  have CT : Hid (∀ y, V y al g → Calls Tryz.prog 36 #[chv (some ⟨hb, 0, none⟩) a ((R : Int) + 4) adr, .int .i64 2] y fun e w' => e = .returned (.int .i64 (f : Int)) ∧ G y w') := hide fun y hy => by
    have := c_get H (hide hy) a ((R : Int) + 4) 2 adr (by simp; omega) 3 (by decide +kernel)
    rw [show al.a.readV a 3 = _ from (C.rd 3 (by omega)).1, show al.a.wd (a + (3 : Nat)) = _ from Q.fst] at this
    exact this
  have VG : Hid (∀ y y', V y al g → G y y' → V y' al g) := hide fun y y' hy gy => (unhide H).gr _ _ _ _ hy gy
  have VG2 : Hid (∀ y y' g2, V y al2 g2 → G y y' → V y' al2 g2) := hide fun y y' g2 hy gy => (unhide H).gr _ _ _ _ hy gy
  have CW : Hid (∀ y, V y al g → Calls Tryz.prog 37 #[chv (some ⟨hb, 0, none⟩) a ((R : Int) + 4) adr, .int .i64 (f : Int), .int .i64 0, .int .i64 (-1)] y fun e w' => e = .returned (.tuple #[.int .i64 v, .bool true]) ∧ Hid (∃ g2, Pg g2 ∧ V w' al2 g2 ∧ Fr (own g) (own g2) y w')) := hide fun y hy => by
    have := c_swapR H C f f (Nat.mod_eq_of_lt hfl) (by omega) 0 (-1) al2 Pg (by rw [hv]; exact hB) hN y hy
    rw [hv] at this
    exact this.mono fun _ _ hh => ⟨hh.1, hide hh.2⟩
  have CR : Hid (∀ y g2, V y al2 g2 → Calls Tryz.prog 39 #[chv (some ⟨hb, 0, none⟩) a ((R : Int) + 4) adr, .int .i64 (IntKind.i64.wrap ((f : Int) + 1))] y fun e w' => e = .returned (.int .i64 (((f + 1) % R : Nat) : Int)) ∧ G y w' ∧ Hid (V w' al2 g2)) := hide fun y g2 hy => by
    have e : IntKind.i64.wrap ((f : Int) + 1) = ((f + 1 : Nat) : Int) := by rw [IntKind.wrap_i64]; omega
    rw [e]
    exact (c_round H (hide hy) a ((R : Int) + 4) adr (by omega) (R : Int) _ _ ((C2.rd 1 (by omega)).1.trans C2.room) (by omega) (tmod_nat _ _)).mono fun _ _ hh => ⟨hh.1, hh.2, hide ((unhide H).gr _ _ _ _ hy hh.2)⟩
  obtain ⟨f3, hf3⟩ : ∃ c, c = (((f + 1) % R : Nat) : Int) := ⟨_, rfl⟩
  rw [← hf3] at CR ⊢
  have C3 : Cz ⟨al2.a.write (a + 3) f3, al2.u⟩ l a R adr := C2.write (by omega) (by omega)
  have CS : Hid (∀ y g2, V y al2 g2 → Calls Tryz.prog 38 #[chv (some ⟨hb, 0, none⟩) a ((R : Int) + 4) adr, .int .i64 2, .int .i64 f3] y fun e w' => e = .returned (.bool true) ∧ Hid (V w' ⟨al2.a.write (a + 3) f3, al2.u⟩ g2 ∧ Fr (own g2) (own g2) y w')) := hide fun y g2 hy => by
    have := c_set H (hide hy) a ((R : Int) + 4) 2 f3 adr (by simp; omega) 3 (by decide +kernel) (C2.rd 3 (by omega)).2
    rw [show al2.a.writeA a 3 f3 = _ from C2.wr 3 (by omega) _] at this
    exact this.mono fun _ _ hh => ⟨hh.1, hide hh.2⟩
  obtain ⟨cn1, hc1⟩ : ∃ c, c = ((v :: q).length : Int) - 1 := ⟨_, rfl⟩
  have hw : wrap64 (((v :: q).length : Int) - 1) = cn1 := by rw [hc1]; unfold wrap64; rw [List.length_cons]; omega
  have hd : ¬ ((v :: q).length : Int) < 1 := by rw [List.length_cons]; omega
  rw [← hc1]
  clear hc1
  have CS1 : Hid (∀ y g2, V y ⟨al2.a.write (a + 3) f3, al2.u⟩ g2 → Calls Tryz.prog 38 #[chv (some ⟨hb, 0, none⟩) a ((R : Int) + 4) adr, .int .i64 1, .int .i64 cn1] y fun e w' => e = .returned (.bool true) ∧ Hid (V w' ⟨(al2.a.write (a + 3) f3).write (a + 2) cn1, al2.u⟩ g2 ∧ Fr (own g2) (own g2) y w')) := hide fun y g2 hy => by
    have := c_set H (hide hy) a ((R : Int) + 4) 1 cn1 adr (by simp; omega) 2 (by decide +kernel) (C3.rd 2 (by omega)).2
    rw [show (al2.a.write (a + 3) f3).writeA a 2 cn1 = _ from C3.wr 2 (by omega) _] at this
    exact this.mono fun _ _ hh => ⟨hh.1, hide hh.2⟩
  generalize (⟨(al2.a.write (a + 3) f3).write (a + 2) cn1, al2.u⟩ : Al) = al4 at CS1 ⊢
  generalize (⟨al2.a.write (a + 3) f3, al2.u⟩ : Al) = al3 at CS CS1
  generalize (R : Int) + 4 = F at CF CN CT CW CR CS CS1
  generalize ((v :: q).length : Int) = cn at CN hw hd
  generalize (f : Int) = fn at CT CW CR
  clear H h C Q hB hN C2 C3 hfl r0 hlen hv hf3
  go_enter Tryz.func12, Tryz.ntmps12
  go_wp2_with fail
  refine (unhide CF).mono ?_
  rintro e w1 ⟨rfl, B1⟩
  clear CF
  go_upto_region 2 with fail
  obtain ⟨W2, hW2⟩ : ∃ W2, W2 = w1.alloc (.cells #[.pointer (some ⟨hb, 0, none⟩), .int .i64 a, .int .i64 F, .bool adr] 87) := ⟨_, rfl⟩
  obtain ⟨gw, V2, BX⟩ := unhide B1 W2 hW2
  obtain ⟨b0, b1, b2, b3⟩ := BX W2 (own g) (Fr.of_G (G.refl _))
  rw [← hW2]
  replace V2 : Hid (∀ y, G W2 y → V y al g) := hide fun y gy => unhide VG _ _ V2 gy
  replace gw := hide gw
  clear hW2 B1 VG
  have KD : Hid (W2.drew.cell? ⟨w1.heap.size, 0, none⟩ = some (.pointer (some ⟨hb, 0, none⟩)) ∧ W2.drew.cell? ⟨w1.heap.size, 1, none⟩ = some (.int .i64 a) ∧ W2.drew.cell? ⟨w1.heap.size, 2, none⟩ = some (.int .i64 F) ∧ W2.drew.cell? ⟨w1.heap.size, 3, none⟩ = some (.bool adr)) := hide (BX _ (own g) (Fr.of_G (G.refl _).drew))
  have KC : Hid (∀ x y : World, (x.cell? ⟨w1.heap.size, 0, none⟩ = some (.pointer (some ⟨hb, 0, none⟩)) ∧ x.cell? ⟨w1.heap.size, 1, none⟩ = some (.int .i64 a) ∧ x.cell? ⟨w1.heap.size, 2, none⟩ = some (.int .i64 F) ∧ x.cell? ⟨w1.heap.size, 3, none⟩ = some (.bool adr)) → G x y → (y.cell? ⟨w1.heap.size, 0, none⟩ = some (.pointer (some ⟨hb, 0, none⟩)) ∧ y.cell? ⟨w1.heap.size, 1, none⟩ = some (.int .i64 a) ∧ y.cell? ⟨w1.heap.size, 2, none⟩ = some (.int .i64 F) ∧ y.cell? ⟨w1.heap.size, 3, none⟩ = some (.bool adr))) := hide fun x y hx gx => ⟨gx.cell hx.1, gx.cell hx.2.1, gx.cell hx.2.2.1, gx.cell hx.2.2.2⟩
  replace BX := hide BX
  have gd := (G.refl W2).drew
  go_region_held3 (fun x => x.cell? ⟨w1.heap.size, 0, none⟩ = some (.pointer (some ⟨hb, 0, none⟩)) ∧ x.cell? ⟨w1.heap.size, 1, none⟩ = some (.int .i64 a) ∧ x.cell? ⟨w1.heap.size, 2, none⟩ = some (.int .i64 F) ∧ x.cell? ⟨w1.heap.size, 3, none⟩ = some (.bool adr))
    (first | assumption | exact unhide KD | exact unhide KC _ _ (by assumption) (by assumption))
    ((first
      | (go_at_call_of 36 (Value.int IntKind.i64 1); refine (unhide CN _ (unhide V2 _ gd)).mono ?_; rintro e x3 ⟨rfl, hg3⟩; have gW3 := gd.trans hg3)
      | (go_at_call_of 36 (Value.int IntKind.i64 2); refine (unhide CT _ (unhide V2 _ gW3)).mono ?_; rintro e x4 ⟨rfl, hg4⟩; have gW4 := gW3.trans hg4)))
  all_goals
    clear KD KC gd hg3 gW3 hg4
    obtain ⟨b0, b1, b2, b3⟩ := unhide BX x4 (own g) (Fr.of_G gW4)
    have K5 := hide (unhide CW x4 (unhide V2 _ gW4))
    replace gW4 := hide gW4
    go_wp2_with fail
    refine (unhide K5).mono ?_
    rintro e w5 ⟨rfl, h5⟩
    clear K5
    obtain ⟨g2, pg, v5, f5'⟩ := unhide h5
    have f5 := (Fr.of_G (o := own g) (unhide gW4)).trans f5'
    replace pg := hide pg
    obtain ⟨b0, b1, b2, b3⟩ := unhide BX w5 (own g2) f5
    have V5 : Hid (∀ y, G w5 y → V y al2 g2) := hide fun y gy => unhide VG2 _ _ g2 v5 gy
    have BX5 : Hid (∀ y, Fr (own g2) (own g2) w5 y → (y.cell? ⟨w1.heap.size, 0, none⟩ = some (.pointer (some ⟨hb, 0, none⟩)) ∧ y.cell? ⟨w1.heap.size, 1, none⟩ = some (.int .i64 a) ∧ y.cell? ⟨w1.heap.size, 2, none⟩ = some (.int .i64 F) ∧ y.cell? ⟨w1.heap.size, 3, none⟩ = some (.bool adr))) := hide fun y fy => unhide BX y (own g2) (f5.trans fy)
    replace f5 := hide f5
    clear v5 f5' h5
    have KD : Hid (w5.drew.cell? ⟨w1.heap.size, 0, none⟩ = some (.pointer (some ⟨hb, 0, none⟩)) ∧ w5.drew.cell? ⟨w1.heap.size, 1, none⟩ = some (.int .i64 a) ∧ w5.drew.cell? ⟨w1.heap.size, 2, none⟩ = some (.int .i64 F) ∧ w5.drew.cell? ⟨w1.heap.size, 3, none⟩ = some (.bool adr)) := hide (unhide BX5 _ (Fr.of_G (G.refl _).drew))
    have KC : Hid (∀ x y : World, (x.cell? ⟨w1.heap.size, 0, none⟩ = some (.pointer (some ⟨hb, 0, none⟩)) ∧ x.cell? ⟨w1.heap.size, 1, none⟩ = some (.int .i64 a) ∧ x.cell? ⟨w1.heap.size, 2, none⟩ = some (.int .i64 F) ∧ x.cell? ⟨w1.heap.size, 3, none⟩ = some (.bool adr)) → G x y → (y.cell? ⟨w1.heap.size, 0, none⟩ = some (.pointer (some ⟨hb, 0, none⟩)) ∧ y.cell? ⟨w1.heap.size, 1, none⟩ = some (.int .i64 a) ∧ y.cell? ⟨w1.heap.size, 2, none⟩ = some (.int .i64 F) ∧ y.cell? ⟨w1.heap.size, 3, none⟩ = some (.bool adr))) := hide fun x y hx gx => ⟨gx.cell hx.1, gx.cell hx.2.1, gx.cell hx.2.2.1, gx.cell hx.2.2.2⟩
    have gd := (G.refl w5).drew
    go_upto_region 8 with fail
    go_region_held3 (fun x => x.cell? ⟨w1.heap.size, 0, none⟩ = some (.pointer (some ⟨hb, 0, none⟩)) ∧ x.cell? ⟨w1.heap.size, 1, none⟩ = some (.int .i64 a) ∧ x.cell? ⟨w1.heap.size, 2, none⟩ = some (.int .i64 F) ∧ x.cell? ⟨w1.heap.size, 3, none⟩ = some (.bool adr))
      (first | assumption | exact unhide KD | exact unhide KC _ _ (by assumption) (by assumption))
      ((first
        | (go_at_call 39; refine (unhide CR _ g2 (unhide V5 _ gd)).mono ?_; rintro e x6 ⟨rfl, hg6, hv6⟩; have gW6 := gd.trans hg6)
        | (go_at_call 38; refine (unhide CS _ g2 (unhide hv6)).mono ?_; rintro e x7 ⟨rfl, h7⟩; have f7 := (Fr.of_G (o := own g2) gW6).trans (unhide h7).2; have S7 := unhide BX5 x7 f7)))
    all_goals
      clear KD KC gd hg6
      obtain ⟨b0, b1, b2, b3⟩ := S7
      have K8 := hide (unhide CS1 x7 g2 (unhide h7).1)
      replace f7 := hide f7
      go_wp2_with fail
      refine (unhide K8).mono ?_
      rintro e w9 ⟨rfl, h9⟩
      clear K8
      go_wp2_with fail
      go_ret2
      exact ⟨rfl, g2, unhide pg, (unhide h9).1, (Fr.of_G (unhide gw)).trans ((unhide f5).trans ((unhide f7).trans (unhide h9).2))⟩
end
end Go.Proofs.YtdnhmkbdphpjcaaGreatDoor

/- Package chans over a Heap while no collection goes on: the view; Make; what awake's calls and ChansRing's come to. -/
namespace Go.Proofs.YtdnhmkbdphpjcaaGreatDoor
set_option maxRecDepth 100000
open Go.ChangeShapes Go.WideShapes Go.ChangeAt Go.RowKit Go.Maps Go.Deep

/-- The blocks that an arena's and an allocator's calls turn. -/
abbrev ownH (x : Hx) (_ : Unit) (d : Nat) : Prop := d = x.xl.d.wb ∨ d = x.xl.d.sb ∨ d = x.xl.ub
section
variable {W w : World} {x : Hx} {al : Al} {l : List Hd.Shp} {n : Nat} {ao : Option Addr} {cap : Nat} {nv : Value} {c : Nat → Nat}
theorem fr_of_tn {w' : World} (t : TnL w w' x.xl) : Fr (ownH x ()) (ownH x ()) w w' := ⟨t.size, fun d hd ho => t.block d hd (fun e => ho (Or.inl e)) (fun e => ho (Or.inr (Or.inl e))) (fun e => ho (Or.inr (Or.inr e))), fun _ h => Or.inl h⟩
theorem hv_hs (W : World) (x : Hx) (l : List Hd.Shp) (n : Nat) (ao : Option Addr) (cap : Nat) (nv : Value) (c : Nat → Nat) (hf : ∀ s ∈ l, s.m < 18446744073709551616) : HV (fun w al (_ : Unit) => HS W w x al l n ao cap nv c) (ownH x) x.hb x.b.cb x.xl.d.ab l := by
  refine ⟨fun w al _ a h => h_of (hide h) a, fun w w' al _ h g => h.gr g, fun w al _ h d hd => ?_, fun w al _ h => h_cycle (hide h), fun w al _ h => k_arena (hide h.ks), fun w al _ a i h => (ls_read (hide h.ks.st) a i).mono fun _ _ hh => ⟨hh.1, hh.2.2⟩, fun w al _ a i v h => (ls_write (hide h.ks.st) a i v).mono fun _ _ hh => ⟨hh.1, h.turn hh.2.1 hh.2.2, fr_of_tn hh.2.2⟩, hf⟩
  obtain ⟨_, l2, l3, l4, _⟩ := h.alt
  rcases hd with rfl | rfl | rfl
  · exact l2
  · exact l3
  · exact l4
theorem bar_hs (W : World) (x : Hx) (l : List Hd.Shp) (n : Nat) (ao : Option Addr) (cap : Nat) (nv : Value) (c : Nat → Nat) (al : Al) (o v id : Int) : BarC (fun w al (_ : Unit) => HS W w x al l n ao cap nv c) (ownH x) x.b.cb al () o v id al (fun _ => True) := fun y hy =>
  (k_barrier0 (hide hy.ks) o v id).mono fun _ _ hh => ⟨hh.1, (), trivial, by rw [hh.2]; exact hy, by rw [hh.2]; exact Fr.of_G (G.refl _)⟩
theorem c_make_size (w : World) (hb : Nat) (k R : Int) (rv : Value) (h : R < 0 ∨ 59 < R) : Calls Tryz.prog 11 #[.pointer (some ⟨hb, 0, none⟩), .int .i64 k, .int .i64 R, rv] w fun e w' => e = .returned (.tuple #[.int .i64 0, .int .i64 5, .int .i64 0]) ∧ w' = w := by
  by_cases h0 : R < 0
  · clear h
    go_enter Tryz.func11, Tryz.ntmps11
    go_wp2_with fail
    go_returns
    exact ⟨rfl, rfl⟩
  · have h1 : 59 < R := by omega
    have d0 : decide (R < 0) = false := by simp; omega
    clear h h0
    go_enter Tryz.func11, Tryz.ntmps11
    go_wp2_with fail
    go_returns
    exact ⟨rfl, rfl⟩
theorem c_make_bad (h : Hid (HS W w x al l n ao cap nv c)) (k R : Int) (hk : k < 0 ∨ (n : Int) ≤ k) (h0 : 0 ≤ R) (h1 : R ≤ 59) (rv : Value) : Calls Tryz.prog 11 #[.pointer (some ⟨x.hb, 0, none⟩), .int .i64 k, .int .i64 R, rv] w fun e w' => e = .returned (.tuple #[.int .i64 0, .int .i64 0, .int .i64 1]) ∧ w' = w := by
  have d0 : decide (R < 0) = false := by simp; omega
  have d1 : decide (59 < R) = false := by simp; omega
  obtain ⟨R5, hR5⟩ : ∃ r, r = R + 5 := ⟨_, rfl⟩
  have hw : wrap64 (R + 5) = R5 := by rw [hR5]; unfold wrap64; omega
  have C := hide (h_make_bad h k R5 (by omega) rv)
  clear h hk h0 h1 hR5
  go_enter Tryz.func11, Tryz.ntmps11
  go_wp2_with fail
  refine (unhide C).mono ?_
  rintro e w1 ⟨rfl, hw1⟩
  rw [hw1]
  clear hw1 C w1
  go_wp2_with fail
  go_returns
  exact ⟨rfl, rfl⟩
set_option maxHeartbeats 1000000 in
theorem c_make (h : Hid (HS W w x al l n ao cap nv c)) (k : Nat) (hk : k < n) (s : Hd.Shp) (hs : l[k]? = some s) (R : Nat) (h1 : R ≤ 59) (v : Int) (al' : Al) (hR : Hid (al.take ((R : Int) + 5) = (al', v, 0))) (rv : Value) : Calls Tryz.prog 11 #[.pointer (some ⟨x.hb, 0, none⟩), .int .i64 (k : Int), .int .i64 (R : Int), rv] w fun e w' => e = .returned (.tuple #[.int .i64 v, .int .i64 0, .int .i64 0]) ∧ HS W w' x ⟨(al'.a.writeA v 0 (Hd.pkV ((R : Int) + 5) s.k (k : Int))).writeA v 1 (R : Int), al'.u⟩ l n ao cap nv c ∧ Kp3 w c w' := by
  have d0 : decide ((R : Int) < 0) = false := by simp
  have d1 : decide (59 < (R : Int)) = false := by simp; omega
  have C := hide (h_makeK h k hk s hs ((R : Int) + 5) v (by omega) (by omega) al' hR rv)
  obtain ⟨R5, hR5⟩ : ∃ r, r = (R : Int) + 5 := ⟨_, rfl⟩
  have hw : wrap64 ((R : Int) + 5) = R5 := by rw [hR5]; unfold wrap64; omega
  rw [← hR5] at C ⊢
  generalize al'.a.writeA v 0 (Hd.pkV R5 s.k (k : Int)) = a2 at C ⊢
  have CC : Hid (∀ y, HS W y x ⟨a2, al'.u⟩ l n ao cap nv c → Calls Tryz.prog 20 #[.pointer (some ⟨x.hb, 0, none⟩)] y fun e w' => e = .returned (.pointer (some ⟨x.b.cb, 0, none⟩)) ∧ w' = y) := hide fun y hy => h_cycle (hide hy)
  have CA : Hid (∀ y, HS W y x ⟨a2, al'.u⟩ l n ao cap nv c → Calls Tryz.prog 22 #[.pointer (some ⟨x.b.cb, 0, none⟩)] y fun e w' => e = .returned (.pointer (some ⟨x.xl.d.ab, 0, none⟩)) ∧ w' = y) := hide fun y hy => k_arena (hide hy.ks)
  have CW : Hid (∀ y, HS W y x ⟨a2, al'.u⟩ l n ao cap nv c → Kp3 w c y → Calls Tryz.prog 34 #[.pointer (some ⟨x.xl.d.ab, 0, none⟩), .int .i64 v, .int .i64 1, .int .i64 (R : Int)] y fun e w' => (∃ r, e = .returned (.int .i64 r)) ∧ Hid (HS W w' x ⟨a2.writeA v 1 (R : Int), al'.u⟩ l n ao cap nv c ∧ Kp3 w c w')) := hide fun y hy hk => (ls_write (hide hy.ks.st) v 1 (R : Int)).mono fun _ _ hh => ⟨⟨_, hh.1⟩, hide ⟨hy.turn hh.2.1 hh.2.2, hk.trans (hy.kp hh.2.2)⟩⟩
  generalize (R : Int) = rn at d0 d1 hw CW ⊢
  clear h hk hs h1 hR hR5
  go_enter Tryz.func11, Tryz.ntmps11
  go_wp2_with fail
  refine (unhide C).mono ?_
  rintro e w1 ⟨rfl, S1, k1⟩
  have C1 := hide (unhide CC w1 S1)
  have C2 := hide (unhide CA w1 S1)
  have C3 := hide (unhide CW w1 S1 k1)
  clear C CC CA CW S1 k1
  go_wp2_with fail
  refine (unhide C1).mono ?_
  rintro e w2 ⟨rfl, hw2⟩
  rw [hw2]
  clear hw2 C1 w2
  go_wp2_with fail
  refine (unhide C2).mono ?_
  rintro e w2 ⟨rfl, hw2⟩
  rw [hw2]
  clear hw2 C2 w2
  go_wp2_with fail
  refine (unhide C3).mono ?_
  rintro e w3 ⟨⟨r, rfl⟩, S3⟩
  clear C3
  go_wp2_with fail
  go_returns
  exact ⟨rfl, unhide S3⟩
end
/-! ### the law's shapes; a channel made first -/
def ls5 : List Hd.Shp := [⟨3, 0, 0⟩, ⟨3, 0, 1⟩, ⟨0, 0, 0⟩]
theorem ls5_ok : ∀ s ∈ ls5, s.Fit ∧ s.good = true := by
  intro s hs
  simp only [ls5, List.mem_cons, List.not_mem_nil, or_false] at hs
  rcases hs with rfl | rfl | rfl <;> exact ⟨⟨by decide, by decide, by decide⟩, by decide⟩
theorem ls5_nd : ls5.Nodup := by decide
theorem ls5_m : ∀ s ∈ ls5, s.m < 18446744073709551616 := fun s hs => (ls5_ok s hs).1.m0
def shp5 : Obj := .cells #[.int .i64 3, .int .i64 0, .int .u64 0, .int .i64 3, .int .i64 0, .int .u64 1, .int .i64 0, .int .i64 0, .int .u64 0] 72
theorem shp5_at (w : World) : ∀ i s, ls5[i]? = some s → (w.alloc shp5).cell? ⟨w.heap.size, 0 + i * 3, none⟩ = some (.int .i64 s.k) ∧ (w.alloc shp5).cell? ⟨w.heap.size, 0 + i * 3 + 1, none⟩ = some (.int .i64 s.f) ∧ (w.alloc shp5).cell? ⟨w.heap.size, 0 + i * 3 + 2, none⟩ = some (.int .u64 (s.m : Int)) := by
  intro i s hs
  unfold shp5
  rw [World.cell?_alloc_new, World.cell?_alloc_new, World.cell?_alloc_new]
  match i, hs with
  | 0, hs => cases hs; exact ⟨rfl, rfl, rfl⟩
  | 1, hs => cases hs; exact ⟨rfl, rfl, rfl⟩
  | 2, hs => cases hs; exact ⟨rfl, rfl, rfl⟩
  | i + 3, hs => simp [ls5] at hs
theorem shapes15 (w : World) : Calls Tryz.prog 10 #[] w fun r w' => r = .returned (.slice (some ⟨w.heap.size, 0, none⟩) 3 3) ∧ w' = w.alloc shp5 := by
  unfold shp5
  go_enter Tryz.func10, Tryz.ntmps10
  go_wp2_with fail
  go_ret
  exact ⟨rfl, rfl⟩
theorem new15 (N : Nat) (h8 : 8 ≤ N) (h5 : N ≤ 512) (w w1 : World) (hw : w1 = w.alloc shp5) (ht : Tab w) : Calls Tryz.prog 9 #[.int .i64 (N : Int), .slice (some ⟨w.heap.size, 0, none⟩) 3 3] w1 fun e w' => ∃ x, e = .returned (.tuple #[.pointer (some ⟨x.hb, 0, none⟩), .int .i64 0]) ∧ ∃ ao cap nv c, HS w1 w' x (al0 N) ls5 3 ao cap nv c := by
  subst hw
  exact h_new N h8 h5 (hide (Tab.later ht (G.alloc _ _))) w.heap.size 0 3 ls5 3 rfl (by decide) (hide ls5_ok) (hide ls5_nd) (by rw [World.size_alloc]; omega) (hide (shp5_at w))
/-- Behind Make(0, R), the first call on a heap of 8 spans. -/
def rt (R : Nat) : Al := ((al0 8).take ((R : Int) + 5)).1
def rq (R : Nat) : Al := ⟨((rt R).a.writeA 64 0 (Hd.pkV ((R : Int) + 5) 3 0)).writeA 64 1 (R : Int), (rt R).u⟩
theorem trz_of {p : Al × Int × Int} {v e : Int} (h : p.2 = (v, e)) : p = (p.1, v, e) := by rw [← h]
theorem rt_take : ∀ R : Fin 60, ((al0 8).take ((R.1 : Int) + 5)).2 = (64, 0) := by decide +kernel
def ofB3 (n : Int) : Option (Int × Int × Int × Hd.Shp) → Bool
  | some (a, b, c, s) => decide (a = n) && decide (b = 3) && decide (c = 0) && decide (s.k = 3) && decide (s.f = 0) && decide (s.m = 0)
  | none => false
theorem ofB3_eq {n : Int} : ∀ {o : Option (Int × Int × Int × Hd.Shp)}, ofB3 n o = true → o = some (n, 3, 0, ⟨3, 0, 0⟩)
  | none, h => by cases h
  | some (a, b, c, s), h => by
    simp only [ofB3, Bool.and_eq_true, decide_eq_true_eq] at h
    obtain ⟨⟨⟨⟨⟨rfl, rfl⟩, rfl⟩, h1⟩, h2⟩, h3⟩ := h
    obtain ⟨k, f, m⟩ := s
    obtain rfl : k = 3 := h1
    obtain rfl : f = 0 := h2
    obtain rfl : m = 0 := h3
    rfl
theorem rq_of1 : ∀ R : Fin 60, ofB3 ((R.1 : Int) + 5) (ofP (rq R.1) ls5 64) = true := by decide +kernel
theorem rq_in : ∀ R : Fin 60, ∀ k : Fin 64, k.1 < R.1 + 5 → (rq R.1).a.inW 64 (k.1 : Int) = true := by decide +kernel
theorem rq_wd : ∀ R : Fin 60, (rq R.1).a.wd (64 + 1) = (R.1 : Int) ∧ (rq R.1).a.wd (64 + 2) = 0 ∧ (rq R.1).a.wd (64 + 3) = 0 ∧ (rq R.1).a.wd (64 + 4) = 0 := by decide +kernel
theorem rq_cz (R : Nat) (h : R ≤ 59) : Cz (rq R) ls5 64 R false :=
  ⟨⟨0, ⟨3, 0, 0⟩, ofB3_eq (rq_of1 ⟨R, by omega⟩), by decide⟩, fun j hj => rq_in ⟨R, by omega⟩ ⟨j, by omega⟩ hj, (rq_wd ⟨R, by omega⟩).1, h⟩
theorem rq_cq (R : Nat) (h : R ≤ 59) : Cq (rq R).a 64 R 0 [] false :=
  ⟨(rq_wd ⟨R, by omega⟩).2.1, (rq_wd ⟨R, by omega⟩).2.2.1, (rq_wd ⟨R, by omega⟩).2.2.2, Nat.zero_le _, Nat.zero_le _, fun h => h, fun i v hi => by simp at hi⟩
end Go.Proofs.YtdnhmkbdphpjcaaGreatDoor

/- One channel of numbers on a Heap while no collection goes on: its calls. -/
namespace Go.Proofs.YtdnhmkbdphpjcaaGreatDoor
set_option maxRecDepth 100000
open Go.ChangeShapes Go.WideShapes Go.ChangeAt Go.RowKit Go.Maps Go.Deep

/-- A Heap with a channel of numbers at a: what is in it. -/
def ChS (W : World) (x : Hx) (n : Nat) (ao : Option Addr) (cap : Nat) (nv : Value) (c : Nat → Nat) (a : Int) (R : Nat) (q : List Int) (cl : Bool) (w : World) : Prop :=
  ∃ al f, HS W w x al ls5 n ao cap nv c ∧ Cz al ls5 a R false ∧ Cq al.a a R f q cl
section
variable {W w : World} {x : Hx} {n : Nat} {ao : Option Addr} {cap : Nat} {nv : Value} {c : Nat → Nat} {a : Int} {R : Nat} {q : List Int} {cl : Bool}
theorem ChS.gr {w' : World} (h : ChS W x n ao cap nv c a R q cl w) (g : G w w') : ChS W x n ao cap nv c a R q cl w' := by
  obtain ⟨al, f, S, C, Q⟩ := h
  exact ⟨al, f, S.gr g, C, Q⟩
theorem ChS.below (h : ChS W x n ao cap nv c a R q cl w) : Below W.heap.size W w := by
  obtain ⟨al, f, S, C, Q⟩ := h
  exact S.ks.st.below
theorem s_push (h : Hid (ChS W x n ao cap nv c a R q false w)) (hl : q.length < R) (v id : Int) : Calls Tryz.prog 13 #[.pointer (some ⟨x.hb, 0, none⟩), .int .i64 a, .int .i64 v, .int .i64 id] w fun e w' => e = .returned (.bool true) ∧ ChS W x n ao cap nv c a R (q ++ [v]) false w' ∧ Fr (ownH x ()) (ownH x ()) w w' := by
  obtain ⟨al, f, S, C, Q⟩ := unhide h
  refine (c_push (hide (hv_hs W x ls5 n ao cap nv c ls5_m)) (g := ()) (hide S) C Q hl v id _ (fun _ => True) (fun e => by cases e) (fun _ => ⟨rfl, trivial⟩) (C.write (by omega) (by omega))).mono ?_
  rintro e w' ⟨he, g2, _, S2, F2⟩
  exact ⟨he, ⟨_, f, S2, C.push q.length v, Q.push hl v⟩, F2⟩
theorem s_push_full (h : Hid (ChS W x n ao cap nv c a R q cl w)) (hl : cl = true ∨ R ≤ q.length) (v id : Int) : Calls Tryz.prog 13 #[.pointer (some ⟨x.hb, 0, none⟩), .int .i64 a, .int .i64 v, .int .i64 id] w fun e w' => e = .returned (.bool false) ∧ G w w' := by
  obtain ⟨al, f, S, C, Q⟩ := unhide h
  exact c_push_full (hide (hv_hs W x ls5 n ao cap nv c ls5_m)) (g := ()) (hide S) C Q hl v id
theorem s_pop {v : Int} (h : Hid (ChS W x n ao cap nv c a R (v :: q) cl w)) : Calls Tryz.prog 12 #[.pointer (some ⟨x.hb, 0, none⟩), .int .i64 a] w fun e w' => e = .returned (.tuple #[.int .i64 v, .bool true]) ∧ ChS W x n ao cap nv c a R q cl w' ∧ Fr (ownH x ()) (ownH x ()) w w' := by
  obtain ⟨al, f, S, C, Q⟩ := unhide h
  refine (c_pop (hide (hv_hs W x ls5 n ao cap nv c ls5_m)) (g := ()) (hide S) C Q _ (fun _ => True) (fun e => by cases e) (fun _ => ⟨rfl, trivial⟩) (C.write (by omega) (by omega))).mono ?_
  rintro e w' ⟨he, g2, _, S2, F2⟩
  exact ⟨he, ⟨_, _, S2, C.pop _, Q.pop.2⟩, F2⟩
theorem s_pop_empty (h : Hid (ChS W x n ao cap nv c a R [] cl w)) : Calls Tryz.prog 12 #[.pointer (some ⟨x.hb, 0, none⟩), .int .i64 a] w fun e w' => e = .returned (.tuple #[.int .i64 0, .bool false]) ∧ G w w' := by
  obtain ⟨al, f, S, C, Q⟩ := unhide h
  exact c_pop_empty (hide (hv_hs W x ls5 n ao cap nv c ls5_m)) (g := ()) (hide S) C Q
theorem s_close (h : Hid (ChS W x n ao cap nv c a R q false w)) : Calls Tryz.prog 14 #[.pointer (some ⟨x.hb, 0, none⟩), .int .i64 a] w fun e w' => e = .returned (.bool true) ∧ ChS W x n ao cap nv c a R q true w' ∧ Fr (ownH x ()) (ownH x ()) w w' := by
  obtain ⟨al, f, S, C, Q⟩ := unhide h
  exact (c_close (hide (hv_hs W x ls5 n ao cap nv c ls5_m)) (g := ()) (hide S) C Q).mono fun _ _ hh => ⟨hh.1, ⟨_, f, hh.2.1, C.close, Q.close⟩, hh.2.2⟩
theorem s_close_shut (h : Hid (ChS W x n ao cap nv c a R q true w)) : Calls Tryz.prog 14 #[.pointer (some ⟨x.hb, 0, none⟩), .int .i64 a] w fun e w' => e = .returned (.bool false) ∧ G w w' := by
  obtain ⟨al, f, S, C, Q⟩ := unhide h
  exact c_close_shut (hide (hv_hs W x ls5 n ao cap nv c ls5_m)) (g := ()) (hide S) C Q
theorem s_count (h : Hid (ChS W x n ao cap nv c a R q cl w)) : Calls Tryz.prog 17 #[.pointer (some ⟨x.hb, 0, none⟩), .int .i64 a] w fun e w' => e = .returned (.int .i64 (q.length : Int)) ∧ G w w' := by
  obtain ⟨al, f, S, C, Q⟩ := unhide h
  exact c_count (hide (hv_hs W x ls5 n ao cap nv c ls5_m)) (g := ()) (hide S) C Q
theorem s_room (h : Hid (ChS W x n ao cap nv c a R q cl w)) : Calls Tryz.prog 16 #[.pointer (some ⟨x.hb, 0, none⟩), .int .i64 a] w fun e w' => e = .returned (.int .i64 (R : Int)) ∧ G w w' := by
  obtain ⟨al, f, S, C, Q⟩ := unhide h
  exact c_room (hide (hv_hs W x ls5 n ao cap nv c ls5_m)) (g := ()) (hide S) C
theorem s_closed (h : Hid (ChS W x n ao cap nv c a R q cl w)) : Calls Tryz.prog 15 #[.pointer (some ⟨x.hb, 0, none⟩), .int .i64 a] w fun e w' => e = .returned (.bool cl) ∧ G w w' := by
  obtain ⟨al, f, S, C, Q⟩ := unhide h
  exact c_shut (hide (hv_hs W x ls5 n ao cap nv c ls5_m)) (g := ()) (hide S) C Q
theorem s_is (h : Hid (ChS W x n ao cap nv c a R q cl w)) (b : Bool) : Calls Tryz.prog 18 #[.pointer (some ⟨x.hb, 0, none⟩), .int .i64 a, .bool b] w fun e w' => e = .returned (.bool (false == b)) ∧ G w w' := by
  obtain ⟨al, f, S, C, Q⟩ := unhide h
  exact c_is (hide (hv_hs W x ls5 n ao cap nv c ls5_m)) (g := ()) (hide S) C b
/-- Made first on a heap of 8 spans. -/
theorem s_make (h : Hid (HS W w x (al0 8) ls5 3 ao cap nv c)) (R : Nat) (hR : R ≤ 59) (rv : Value) : Calls Tryz.prog 11 #[.pointer (some ⟨x.hb, 0, none⟩), .int .i64 0, .int .i64 (R : Int), rv] w fun e w' => e = .returned (.tuple #[.int .i64 64, .int .i64 0, .int .i64 0]) ∧ ChS W x 3 ao cap nv c 64 R [] false w' ∧ Kp3 w c w' :=
  (c_make h 0 (by decide) ⟨3, 0, 0⟩ rfl R hR 64 (rt R) (hide (trz_of (rt_take ⟨R, by omega⟩))) rv).mono fun _ _ hh => ⟨hh.1, ⟨rq R, 0, hh.2.1, rq_cz R hR, rq_cq R hR⟩, hh.2.2⟩
end
end Go.Proofs.YtdnhmkbdphpjcaaGreatDoor

/- PLAIN: what is marked is there behind any sweeping and taking; no Go in it. -/
namespace Go.Proofs.YtdnhmkbdphpjcaaGreatDoor
set_option maxRecDepth 100000

/-- A place that is taken and marked begins at x; its first word is v. -/
def Kp (a : Ab) (x v : Int) : Prop :=
  ∃ s p : Nat, 1 ≤ s ∧ s < a.n ∧ 0 ≤ a.cls s ∧ (p : Int) < gp (a.cls s) ∧ (a.tk s).testBit p = true ∧ (a.mr s).testBit p = true ∧ x = ga s p (a.cls s) ∧ a.wd x = v

theorem Kp.is {a : Ab} (g : a.Good) {x v : Int} (h : Kp a x v) : a.is x = true := by
  obtain ⟨s, p, h1, h2, h3, h4, h5, _, h7, _⟩ := h
  exact (Ab.is_iff g.ok x).2 ⟨s, p, h1, h2, h3, h4, h5, h7⟩

theorem Kp.sweep {a : Ab} {x v : Int} (h : Kp a x v) (t : Int) : Kp (a.sweepA t) x v := by
  unfold Ab.sweepA
  split
  · obtain ⟨s, p, h1, h2, h3, h4, h5, h6, h7, h8⟩ := h
    refine ⟨s, p, h1, h2, ?_⟩
    show 0 ≤ (if a.kept t.toNat = 0 then upd a.cls t.toNat (-1) else a.cls) s ∧ (p : Int) < gp ((if a.kept t.toNat = 0 then upd a.cls t.toNat (-1) else a.cls) s) ∧ (upd a.tk t.toNat (a.kept t.toNat) s).testBit p = true ∧
      ((if a.kept t.toNat = 0 then upd a.mr t.toNat 0 else a.mr) s).testBit p = true ∧ x = ga s p ((if a.kept t.toNat = 0 then upd a.cls t.toNat (-1) else a.cls) s) ∧ a.wd x = v
    by_cases e : s = t.toNat
    · subst e
      have hb : (a.kept t.toNat).testBit p = true := by rw [kept_bit, h5, h6]; rfl
      have hz : ¬ a.kept t.toNat = 0 := by intro hz; rw [hz] at hb; simp at hb
      rw [if_neg hz, if_neg hz, upd_same]
      exact ⟨h3, h4, hb, h6, h7, h8⟩
    · have e1 : (if a.kept t.toNat = 0 then upd a.cls t.toNat (-1) else a.cls) s = a.cls s := by split; exact upd_other _ _ e; rfl
      have e2 : (if a.kept t.toNat = 0 then upd a.mr t.toNat 0 else a.mr) s = a.mr s := by split; exact upd_other _ _ e; rfl
      rw [e1, e2, upd_other _ _ e]
      exact ⟨h3, h4, h5, h6, h7, h8⟩
  · exact h
theorem Kp.set {a : Ab} {x v : Int} (h : Kp a x v) (t c : Int) : Kp (a.setA t c) x v := by
  unfold Ab.setA
  split
  · rename_i e
    obtain ⟨s, p, h1, h2, h3, h4, h5, h6, h7, h8⟩ := h
    have es : s ≠ t.toNat := by
      intro es
      unfold Ab.setE at e
      split at e
      · omega
      · rename_i hh
        have et : t = (s : Int) := by omega
        rw [et, a.clsI_at h1 h2, if_pos h3] at e
        omega
    refine ⟨s, p, h1, h2, ?_⟩
    show 0 ≤ upd a.cls t.toNat c s ∧ (p : Int) < gp (upd a.cls t.toNat c s) ∧ (upd a.tk t.toNat 0 s).testBit p = true ∧ (upd a.mr t.toNat 0 s).testBit p = true ∧ x = ga s p (upd a.cls t.toNat c s) ∧ a.wd x = v
    rw [upd_other _ _ es, upd_other _ _ es, upd_other _ _ es]
    exact ⟨h3, h4, h5, h6, h7, h8⟩
  · exact h

/-- A place that is taken anew was not taken. -/
theorem took_new {b : Ab} (g : b.Good) {s : Int} (e : b.takeE s = 0) : b.is (b.takeV s) = false := by
  obtain ⟨t, p, rfl, ef, h1, h2, h3, h4, h5, h6, h7, h8, _⟩ := g.free e
  have eV : b.takeV t = ga t p (b.cls t) := by unfold Ab.takeV; rw [if_pos e, ef, h4]
  rw [← Bool.not_eq_true, eV, Ab.is_iff g.ok]
  rintro ⟨s', p', k1, k2, k3, k4, k5, k6⟩
  obtain ⟨rfl, rfl⟩ := ga_inj g.ok h1 h2 h3 h6 k1 k2 k3 k4 k6
  rw [h7] at k5
  cases k5
theorem Kp.take {a : Ab} (g : a.Good) {x v : Int} (h : Kp a x v) {t : Int} (e : a.takeE t = 0) : Kp (a.takeA t) x v := by
  obtain ⟨u, q, rfl, ef, k1, k2, k3, k4, k5, k6, k7, k8, _⟩ := g.free e
  have eA : a.takeA u = a.take u q := by unfold Ab.takeA; rw [if_pos e, ef]; rfl
  rw [eA]
  obtain ⟨s, p, h1, h2, h3, h4, h5, h6, h7, h8⟩ := h
  refine ⟨s, p, h1, h2, h3, h4, ?_, h6, h7, ?_⟩
  · show (upd a.tk u (a.tk u ||| 2 ^ q) s).testBit p = true
    by_cases es : s = u
    · subst es; rw [upd_same, testBit_or_pow, h5]; rfl
    · rw [upd_other _ _ es]; exact h5
  · show (if ga u q (a.cls u) ≤ x ∧ x < ga u q (a.cls u) + gw (a.cls u) then 0 else a.wd x) = v
    rw [if_neg ?_]
    · exact h8
    · intro hx
      have hg : 2 ≤ gw (a.cls s) := by rcases gw_gp (a.cls s) with ⟨_, y⟩ | ⟨_, y, _⟩ <;> omega
      refine places_apart g.ok h1 h2 h3 h4 k1 k2 k3 k6 ?_ (x := x) (by rw [h7]; omega) hx
      rintro ⟨rfl, rfl⟩
      rw [k7] at h5
      cases h5
theorem Kp.mark {a : Ab} {x v : Int} (h : Kp a x v) (y : Int) : Kp (a.markA y) x v := by
  unfold Ab.markA
  split
  · obtain ⟨s, p, h1, h2, h3, h4, h5, h6, h7, h8⟩ := h
    refine ⟨s, p, h1, h2, h3, h4, h5, ?_, h7, h8⟩
    show (upd a.mr (gs y).toNat (a.mr (gs y).toNat ||| 2 ^ (a.pl y).toNat) s).testBit p = true
    by_cases es : s = (gs y).toNat
    · subst es; rw [upd_same, testBit_or_pow, h6]; rfl
    · rw [upd_other _ _ es]; exact h6
  · exact h
theorem Kp.write {a : Ab} (g : a.Good) {x v y k u : Int} (h : Kp a x v) (hw : a.inW y k = true) (hne : x ≠ y) : Kp (a.writeA y k u) x v := by
  have hx := h.is g
  unfold Ab.writeA
  rw [if_pos hw]
  unfold Ab.inW at hw
  simp only [Bool.and_eq_true, decide_eq_true_eq] at hw
  obtain ⟨s, p, h1, h2, h3, h4, h5, h6, h7, h8⟩ := h
  refine ⟨s, p, h1, h2, h3, h4, h5, h6, h7, ?_⟩
  show (if x = y + k then u else a.wd x) = v
  rw [if_neg ?_]
  · exact h8
  · have n1 := g.ok.n1
    have hgs : gs x = s := by rw [h7]; exact (ga_at (s := s) (p := p) h1 (by omega) h3 (g.ok.cr s).2 h4).2.1
    have hg : 2 ≤ gw (a.cls s) := by rcases gw_gp (a.cls s) with ⟨_, z⟩ | ⟨_, z, _⟩ <;> omega
    have := g.disj hx hw.1.1 hne (j := 0) (k := k) ⟨by omega, by rw [hgs, a.clsI_at h1 h2]; omega⟩ ⟨hw.1.2, hw.2⟩
    omega

/-- All of a list, each with 1000 and its address as its word. -/
def Kps (a : Ab) (ks : List Int) : Prop := ∀ x ∈ ks, Kp a x (1000 + x)
/-- What is taken is none of them. -/
theorem Kps.takes {l : Al} {ks : List Int} (g : l.a.Good) (h : Kps l.a ks) (n : Int) :
    Kps (l.take n).1.a ks ∧ ((l.take n).2.2 = 0 → (l.take n).1.a.is (l.take n).2.1 = true ∧ 0 < (l.take n).2.1 ∧ ∀ x ∈ ks, x ≠ (l.take n).2.1) := by
  rcases Al.take_ind (P := fun b => b.Good ∧ Kps b ks) (fun _ s h => ⟨h.1.sweepA' s, fun x hx => (h.2 x hx).sweep s⟩) (fun _ s c h => ⟨h.1.setA' s c, fun x hx => (h.2 x hx).set s c⟩) n ⟨g, h⟩ with ⟨e, _, k⟩ | ⟨e, b, t, ⟨gb, kb⟩, hb, ea, ev⟩
  · exact ⟨k, fun h0 => absurd h0 e⟩
  · rw [ea, ev]
    refine ⟨fun x hx => (kb x hx).take gb hb, fun _ => ?_⟩
    obtain ⟨t0, t1⟩ := took_is gb hb
    refine ⟨t1, t0, fun x hx hxe => ?_⟩
    have h1 := (kb x hx).is gb
    rw [hxe, took_new gb hb] at h1
    cases h1
/-- One more: marked, and written. -/
theorem Kps.keep {a : Ab} {ks : List Int} (g : a.Good) (h : Kps a ks) {x : Int} (hx : a.is x = true) (hne : ∀ y ∈ ks, y ≠ x) : (a.markA x).Good ∧ ((a.markA x).writeA x 0 (1000 + x)).Good ∧ Kps ((a.markA x).writeA x 0 (1000 + x)) (ks ++ [x]) := by
  obtain ⟨s, p, h1, h2, h3, h4, h5, h6⟩ := (Ab.is_iff g.ok x).1 hx
  have n1 := g.ok.n1
  obtain ⟨_, e1, e2, _⟩ := ga_at (s := s) (p := p) h1 (by omega) h3 (g.ok.cr s).2 h4
  rw [← h6] at e1 e2
  have epl : a.pl x = p := by unfold Ab.pl; rw [e1, a.clsI_at h1 h2, e2]
  have gm : (a.markA x).Good := by
    unfold Ab.markA; split
    · rw [e1, epl]; exact g.mark (by simpa using h5)
    · exact g
  have hm : (a.markA x).n = a.n ∧ (a.markA x).cls = a.cls ∧ (a.markA x).tk = a.tk ∧ ((a.markA x).mr s).testBit p = true := by
    unfold Ab.markA; split
    · refine ⟨rfl, rfl, rfl, ?_⟩
      rw [e1, epl]
      show (upd a.mr ((s : Int)).toNat _ s).testBit p = true
      simp only [Int.toNat_natCast]
      rw [upd_same, testBit_or_pow]; simp
    · rename_i hb
      refine ⟨rfl, rfl, rfl, ?_⟩
      unfold Ab.markB at hb
      rw [hx] at hb
      have : a.isM x = true := by simpa using hb
      unfold Ab.isM at this
      rw [e1, epl, (a.I_at h1 h2).2.2] at this
      simpa using this
  have his : (a.markA x).is x = true := (Ab.is_iff gm.ok x).2 ⟨s, p, h1, by rw [hm.1]; exact h2, by rw [hm.2.1]; exact h3, by rw [hm.2.1]; exact h4, by rw [hm.2.2.1]; exact h5, by rw [hm.2.1]; exact h6⟩
  have hg : 2 ≤ gw (a.cls s) := by rcases gw_gp (a.cls s) with ⟨_, z⟩ | ⟨_, z, _⟩ <;> omega
  have hin : (a.markA x).inW x 0 = true := by
    unfold Ab.inW
    rw [his, e1, (a.markA x).clsI_at h1 (by rw [hm.1]; exact h2), hm.2.1]
    simp
    omega
  refine ⟨gm, ?_, ?_⟩
  · unfold Ab.writeA; rw [if_pos hin]; exact gm.write _ _
  · intro y hy
    rcases List.mem_append.1 hy with hy | hy
    · exact ((h y hy).mark x).write gm hin (hne y hy)
    · obtain rfl : y = x := by simpa using hy
      unfold Ab.writeA
      rw [if_pos hin]
      refine ⟨s, p, h1, by show s < (a.markA y).n; rw [hm.1]; exact h2, by show 0 ≤ (a.markA y).cls s; rw [hm.2.1]; exact h3, by show (p : Int) < gp ((a.markA y).cls s); rw [hm.2.1]; exact h4, by show ((a.markA y).tk s).testBit p = true; rw [hm.2.2.1]; exact h5, hm.2.2.2, by show y = ga s p ((a.markA y).cls s); rw [hm.2.1]; exact h6, ?_⟩
      show (if y = y + 0 then 1000 + y else (a.markA y).wd y) = 1000 + y
      rw [if_pos (by omega)]
theorem Kps.read {a : Ab} {ks : List Int} (g : a.Good) (h : Kps a ks) {x : Int} (hx : x ∈ ks) : a.readE x 0 = 0 ∧ a.readV x 0 = 1000 + x := by
  have hk := h x hx
  have hi := hk.is g
  obtain ⟨s, p, h1, h2, h3, h4, h5, _, h6, h8⟩ := hk
  have n1 := g.ok.n1
  obtain ⟨_, e1, e2, _⟩ := ga_at (s := s) (p := p) h1 (by omega) h3 (g.ok.cr s).2 h4
  rw [← h6] at e1 e2
  have hg : 2 ≤ gw (a.cls s) := by rcases gw_gp (a.cls s) with ⟨_, z⟩ | ⟨_, z, _⟩ <;> omega
  have hin : a.inW x 0 = true := by
    unfold Ab.inW
    rw [hi, e1, a.clsI_at h1 h2]
    simp
    omega
  unfold Ab.readE Ab.readV
  rw [if_pos hin, if_pos hin, Int.add_zero]
  exact ⟨rfl, h8⟩

/-! ### how many are unswept -/
theorem unsN_le (u : Nat → Bool) : ∀ k, unsN u k ≤ k
  | 0 => Nat.le_refl _
  | k + 1 => by have := unsN_le u k; unfold unsN; split <;> omega
theorem leastU_none (u : Nat → Bool) : ∀ (k s : Nat), leastU u k s = none → ∀ t, s ≤ t → t < s + k → u t = false
  | 0, _, _, t, h1, h2 => by omega
  | k + 1, s, h, t, h1, h2 => by
    unfold leastU at h
    split at h
    · cases h
    · rename_i hu
      by_cases e : t = s
      · subst e; simpa using hu
      · exact leastU_none u k (s + 1) h t (by omega) (by omega)
theorem leastU_some (u : Nat → Bool) : ∀ (k s t : Nat), leastU u k s = some t → s ≤ t ∧ t < s + k ∧ u t = true ∧ ∀ r, s ≤ r → r < t → u r = false
  | 0, _, _, h => by cases h
  | k + 1, s, t, h => by
    unfold leastU at h
    split at h
    · rename_i hu
      injection h with h
      subst h
      exact ⟨Nat.le_refl _, by omega, hu, fun r h1 h2 => by omega⟩
    · rename_i hu
      obtain ⟨h1, h2, h3, h4⟩ := leastU_some u k (s + 1) t h
      refine ⟨by omega, by omega, h3, fun r r1 r2 => ?_⟩
      by_cases e : r = s
      · subst e; simpa using hu
      · exact h4 r (by omega) r2
theorem unsN_zero (u : Nat → Bool) : ∀ k, (∀ t, t < k → u t = false) → unsN u k = 0
  | 0, _ => rfl
  | k + 1, h => by unfold unsN; rw [unsN_zero u k (fun t ht => h t (by omega)), h k (by omega)]; rfl
theorem unsN_upd (u : Nat → Bool) {s : Nat} (hu : u s = true) : ∀ k, unsN (upd u s false) k + (if s < k then 1 else 0) = unsN u k
  | 0 => rfl
  | k + 1 => by
    have := unsN_upd u hu k
    show unsN (upd u s false) k + (if upd u s false k = true then 1 else 0) + (if s < k + 1 then 1 else 0) = unsN u k + if u k = true then 1 else 0
    by_cases e : k = s
    · subst e
      rw [if_neg (Nat.lt_irrefl _)] at this
      rw [upd_same, hu]
      simp
      omega
    · rw [upd_other _ _ e]
      by_cases h : s < k
      · rw [if_pos h] at this
        rw [if_pos (show s < k + 1 by omega)]
        omega
      · rw [if_neg h] at this
        rw [if_neg (show ¬ s < k + 1 by omega)]
        omega
end Go.Proofs.YtdnhmkbdphpjcaaGreatDoor

/- PLAIN: taking where nothing is unswept; no Go in it. -/
namespace Go.Proofs.YtdnhmkbdphpjcaaGreatDoor
set_option maxRecDepth 100000

def Al.Calm (l : Al) : Prop := ∀ s, l.u s = false
theorem least_of {P : Nat → Prop} (n : Nat) : P n → ∃ j, P j ∧ j ≤ n ∧ ∀ t, t < j → ¬ P t := by
  induction n using Nat.strongRecOn with
  | _ n ih =>
    intro h
    by_cases hh : ∃ m, m < n ∧ P m
    · obtain ⟨m, h1, h2⟩ := hh
      obtain ⟨j, j1, j2, j3⟩ := ih m h1 h2
      exact ⟨j, j1, by omega, j3⟩
    · exact ⟨n, h, Nat.le_refl _, fun t ht hp => hh ⟨t, ht, hp⟩⟩

section
variable {l : Al} {c : Int}
theorem Al.Calm.swp (h : l.Calm) (s : Nat) : l.swp s = l := by unfold Al.swp; rw [if_neg (by rw [h s]; decide)]
theorem toc_none (h : l.Calm) : ∀ k s, (∀ t : Nat, s ≤ t → t < s + k → l.a.clsI t = c → ¬ l.a.takeE t = 0) → Al.toc c k s l = (l, 0, false)
  | 0, _, _ => rfl
  | k + 1, s, H => by
    unfold Al.toc
    rw [h.swp s]
    split
    · rename_i hc
      rw [if_neg (H s (Nat.le_refl _) (by omega) hc)]
      exact toc_none h k (s + 1) fun t t1 t2 => H t (by omega) (by omega)
    · exact toc_none h k (s + 1) fun t t1 t2 => H t (by omega) (by omega)
theorem toc_some (h : l.Calm) {j : Nat} (hc : l.a.clsI j = c) (he : l.a.takeE j = 0) : ∀ k s, s ≤ j → j < s + k → (∀ t : Nat, s ≤ t → t < j → l.a.clsI t = c → ¬ l.a.takeE t = 0) → Al.toc c k s l = (⟨l.a.takeA j, l.u⟩, l.a.takeV j, true)
  | 0, _, h1, h2, _ => by omega
  | k + 1, s, h1, h2, H => by
    unfold Al.toc
    rw [h.swp s]
    by_cases e : s = j
    · subst e
      rw [if_pos hc, if_pos he]
    · split
      · rename_i hs
        rw [if_neg (H s (Nat.le_refl _) (by omega) hs)]
        exact toc_some h hc he k (s + 1) (by omega) (by omega) fun t t1 t2 => H t (by omega) t2
      · exact toc_some h hc he k (s + 1) (by omega) (by omega) fun t t1 t2 => H t (by omega) t2
theorem wo_none {a : Ab} : ∀ k s, (∀ t : Nat, s ≤ t → t < s + k → 0 ≤ a.clsI t) → a.wo k s = none
  | 0, _, _ => rfl
  | k + 1, s, H => by
    unfold Ab.wo
    rw [if_pos (H s (Nat.le_refl _) (by omega))]
    exact wo_none k (s + 1) fun t t1 t2 => H t (by omega) (by omega)
theorem wo_some {a : Ab} {j : Nat} (hj : ¬ 0 ≤ a.clsI j) : ∀ k s, s ≤ j → j < s + k → (∀ t : Nat, s ≤ t → t < j → 0 ≤ a.clsI t) → a.wo k s = some j
  | 0, _, h1, h2, _ => by omega
  | k + 1, s, h1, h2, H => by
    unfold Ab.wo
    by_cases e : s = j
    · subst e; rw [if_neg hj]
    · rw [if_pos (H s (Nat.le_refl _) (by omega))]
      exact wo_some hj k (s + 1) (by omega) (by omega) fun t t1 t2 => H t (by omega) t2
theorem sof_calm (h : l.Calm) : ∀ k s, Al.sof k s l = (l, none)
  | 0, _ => rfl
  | k + 1, s => by
    unfold Al.sof
    rw [if_neg (by rw [h s]; decide)]
    exact sof_calm h k (s + 1)
theorem take3_calm (h : l.Calm) : l.take3 c = (l, 0, 5) := by
  unfold Al.take3
  rw [sof_calm h]
theorem calm_upd {u : Nat → Bool} (h : ∀ s, u s = false) (s : Nat) : ∀ t, upd u s false t = false := by
  intro t
  by_cases e : t = s
  · subst e; exact upd_same _ _ _
  · rw [upd_other _ _ e]; exact h t

theorem takeE0 {a : Ab} {t : Nat} (h1 : 1 ≤ t) (h2 : t < a.n) : a.takeE t = 0 ↔ 0 ≤ a.cls t ∧ (a.tk t : Int) ≠ gf (a.cls t) := by
  unfold Ab.takeE
  rw [(a.I_at h1 h2).1, (a.I_at h1 h2).2.1]
  by_cases h : a.cls t < 0
  · rw [if_pos h]; omega
  · rw [if_neg h]
    by_cases e : (a.tk t : Int) = gf (a.cls t)
    · rw [if_pos e]; simp [e]
    · rw [if_neg e]; simp only [true_iff]; exact ⟨by omega, e⟩
theorem gf_pos {c : Int} (h0 : 0 ≤ c) (h5 : c ≤ 5) : 0 < gf c := by
  rcases cls c with h | h | h | h | h | h | h | h
  · omega
  · omega
  all_goals (subst h; decide)

/-- A span without a class gets one: its first place. -/
theorem first_ok {s : Nat} (h1 : 1 ≤ s) (h2 : s < l.a.n) (hs : l.a.cls s < 0) (h0 : 0 ≤ c) (h5 : c ≤ 5) :
    l.a.setA s c = l.a.set s c ∧ (l.a.set s c).takeE s = 0 ∧ l.first s c = (⟨(l.a.set s c).takeA s, upd l.u s false⟩, (l.a.set s c).takeV s, 0) := by
  have hE : l.a.setE s c = 0 := by
    unfold Ab.setE
    rw [if_neg (by omega), l.a.clsI_at h1 h2, if_neg (by omega)]
  have eA : l.a.setA s c = l.a.set s c := by unfold Ab.setA; rw [if_pos hE]; rfl
  have eT : (l.a.set s c).takeE s = 0 := by
    rw [takeE0 h1 (by exact h2)]
    show 0 ≤ upd l.a.cls s c s ∧ ((upd l.a.tk s 0 s : Nat) : Int) ≠ gf (upd l.a.cls s c s)
    rw [upd_same, upd_same]
    have := gf_pos h0 h5
    exact ⟨h0, by simp; omega⟩
  refine ⟨eA, eT, ?_⟩
  unfold Al.first
  rw [if_pos hE, eA, eT]

theorem gc_r (n : Int) : -1 ≤ gc n ∧ gc n ≤ 5 := by
  unfold gc
  repeat' split
  all_goals omega

/-- The way that a taking goes where nothing is unswept. -/
theorem take_ways (h : l.Calm) {n : Int} (hc : 0 ≤ gc n) :
    (∃ j : Nat, 1 ≤ j ∧ j < l.a.n ∧ l.a.clsI j = gc n ∧ l.a.takeE j = 0 ∧ l.take n = (⟨l.a.takeA j, l.u⟩, l.a.takeV j, 0)) ∨
    ((∀ t : Nat, 1 ≤ t → t < l.a.n → l.a.clsI t = gc n → ¬ l.a.takeE t = 0) ∧
      ((∃ j : Nat, 1 ≤ j ∧ j < l.a.n ∧ l.a.cls j < 0 ∧ (∀ t : Nat, 1 ≤ t → t < j → 0 ≤ l.a.cls t) ∧ l.take n = (⟨(l.a.set j (gc n)).takeA j, upd l.u j false⟩, (l.a.set j (gc n)).takeV j, 0)) ∨
       ((∀ t : Nat, 1 ≤ t → t < l.a.n → 0 ≤ l.a.cls t) ∧ l.take n = (l, 0, 5)))) := by
  have e0 : l.take n = l.takeC (gc n) := by unfold Al.take; rw [if_neg (by omega)]
  by_cases hh : ∃ j : Nat, 1 ≤ j ∧ j < l.a.n ∧ l.a.clsI j = gc n ∧ l.a.takeE j = 0
  · obtain ⟨j0, hj0⟩ := hh
    obtain ⟨j, ⟨j1, j2, j3, j4⟩, _, jl⟩ := least_of (P := fun j : Nat => 1 ≤ j ∧ j < l.a.n ∧ l.a.clsI j = gc n ∧ l.a.takeE j = 0) j0 hj0
    have ht := toc_some h j3 j4 (l.a.n - 1) 1 j1 (by omega) fun t t1 t2 t3 t4 => jl t t2 ⟨t1, by omega, t3, t4⟩
    refine Or.inl ⟨j, j1, j2, j3, j4, ?_⟩
    rw [e0]
    unfold Al.takeC
    rw [ht, if_pos rfl]
  · have ht := toc_none h (c := gc n) (l.a.n - 1) 1 fun t t1 t2 t3 t4 => hh ⟨t, t1, by omega, t3, t4⟩
    refine Or.inr ⟨fun t t1 t2 t3 t4 => hh ⟨t, t1, t2, t3, t4⟩, ?_⟩
    have e1 : l.take n = l.take2 (gc n) := by
      rw [e0]
      unfold Al.takeC
      rw [ht, if_neg (show ¬ (false : Bool) = true by decide)]
    by_cases hw : ∃ j : Nat, 1 ≤ j ∧ j < l.a.n ∧ l.a.cls j < 0
    · obtain ⟨j0, hj0⟩ := hw
      obtain ⟨j, ⟨j1, j2, j3⟩, _, jl⟩ := least_of (P := fun j : Nat => 1 ≤ j ∧ j < l.a.n ∧ l.a.cls j < 0) j0 hj0
      have hl : ∀ t : Nat, 1 ≤ t → t < j → 0 ≤ l.a.cls t := fun t t1 t2 => by
        have := jl t t2
        omega
      refine Or.inl ⟨j, j1, j2, j3, hl, ?_⟩
      have hw2 := wo_some (a := l.a) (j := j) (by rw [l.a.clsI_at j1 j2]; omega) (l.a.n - 1) 1 j1 (by omega) fun t t1 t2 => by rw [l.a.clsI_at t1 (by omega)]; exact hl t t1 t2
      rw [e1]
      unfold Al.take2
      rw [hw2]
      exact (first_ok j1 j2 j3 hc (gc_r n).2).2.2
    · have hl : ∀ t : Nat, 1 ≤ t → t < l.a.n → 0 ≤ l.a.cls t := fun t t1 t2 => by
        have : ¬ l.a.cls t < 0 := fun h => hw ⟨t, t1, t2, h⟩
        omega
      refine Or.inr ⟨hl, ?_⟩
      rw [e1]
      unfold Al.take2
      rw [wo_none (a := l.a) (l.a.n - 1) 1 fun t t1 t2 => by rw [l.a.clsI_at t1 (by omega)]; exact hl t t1 (by omega)]
      exact take3_calm h
theorem take_calm (h : l.Calm) (n : Int) : (l.take n).1.Calm := by
  by_cases hc : 0 ≤ gc n
  · rcases take_ways h hc with ⟨j, _, _, _, _, e⟩ | ⟨_, ⟨j, _, _, _, _, e⟩ | ⟨_, e⟩⟩
    · rw [e]; exact h
    · rw [e]; exact calm_upd h j
    · rw [e]; exact h
  · unfold Al.take; rw [if_pos (by omega)]; exact h

/-- A span is not full just if fewer of its places are taken than there are. -/
theorem full_pop {a : Ab} (g : a.Good) {t : Nat} (h0 : 0 ≤ a.cls t) : (a.tk t : Int) ≠ gf (a.cls t) ↔ (popF 64 (a.tk t) : Int) < gp (a.cls t) := by
  obtain ⟨q, hq, hf⟩ := gf_two h0 (g.ok.cr t).2
  have hq64 : q ≤ 64 := by have := gp_pos h0 (g.ok.cr t).2; omega
  rw [popF_cnt, hq]
  constructor
  · intro hne
    obtain ⟨f1, f2, _⟩ := free_spec (g.ok.tb t h0) h0 (g.ok.cr t).2 hne
    have hle := len_le_of_mem (l := (List.range 64).filter fun p => (a.tk t).testBit p) (m := (List.range q).erase (freeN (a.tk t))) (List.Nodup.sublist List.filter_sublist List.nodup_range) (fun x hx => by
      have hx2 := (List.mem_filter.1 hx).2
      have := g.ok.tb t h0 x hx2
      refine (List.mem_erase_of_ne ?_).2 (by rw [List.mem_range]; omega)
      rintro rfl
      rw [f2] at hx2
      cases hx2)
    rw [List.length_erase_of_mem (by rw [List.mem_range]; omega), List.length_range] at hle
    have : 0 < q := by omega
    omega
  · intro hlt he
    have e1 : a.tk t = 2 ^ q - 1 := by omega
    rw [e1] at hlt
    have e2 : ((List.range 64).filter fun p => (2 ^ q - 1).testBit p) = (List.range q).filter fun _ => true := by
      rw [← range_part q (fun _ => true) 64 hq64]
      refine List.filter_congr fun p _ => ?_
      rw [Nat.testBit_two_pow_sub_one]; simp
    rw [e2, List.filter_eq_self.2 (fun _ _ => rfl), List.length_range] at hlt
    omega
theorem take_room (g : l.a.Good) (h : l.Calm) {n : Int} (hc : 0 ≤ gc n) :
    (l.take n).2.2 = 0 ↔ ∃ s : Nat, 1 ≤ s ∧ s < l.a.n ∧ (l.a.cls s < 0 ∨ l.a.cls s = gc n ∧ (popF 64 (l.a.tk s) : Int) < gp (gc n)) := by
  rcases take_ways h hc with ⟨j, j1, j2, j3, j4, e⟩ | ⟨hn, ⟨j, j1, j2, j3, _, e⟩ | ⟨ha, e⟩⟩
  · rw [e]
    refine ⟨fun _ => ⟨j, j1, j2, Or.inr ?_⟩, fun _ => rfl⟩
    rw [l.a.clsI_at j1 j2] at j3
    obtain ⟨k1, k2⟩ := (takeE0 j1 j2).1 j4
    have := (full_pop g k1).1 k2
    rw [j3] at this
    exact ⟨j3, this⟩
  · rw [e]
    exact ⟨fun _ => ⟨j, j1, j2, Or.inl j3⟩, fun _ => rfl⟩
  · rw [e]
    refine ⟨fun h => absurd h (show ¬ (5 : Int) = 0 by decide), ?_⟩
    rintro ⟨s, s1, s2, s3 | ⟨s3, s4⟩⟩
    · have := ha s s1 s2
      omega
    · exact absurd ((takeE0 s1 s2).2 ⟨ha s s1 s2, (full_pop g (ha s s1 s2)).2 (by rw [s3]; exact s4)⟩) (hn s s1 s2 (by rw [l.a.clsI_at s1 s2]; exact s3))
end
end Go.Proofs.YtdnhmkbdphpjcaaGreatDoor

/- PLAIN: several channels in one heap with room: made, put into, taken out of, closed. -/
namespace Go.Proofs.YtdnhmkbdphpjcaaGreatDoor
set_option maxRecDepth 100000
open Go.ChangeShapes Go.WideShapes Go.ChangeAt Go.RowKit Go.Maps

theorem gc_fitC {n : Int} (h1 : 1 ≤ n) (h2 : n ≤ 64) : 0 ≤ gc n ∧ n ≤ gw (gc n) := by
  obtain ⟨k, rfl⟩ : ∃ k : Nat, n = k := ⟨n.toNat, by omega⟩
  have : ∀ k : Fin 65, 1 ≤ k.1 → 0 ≤ gc (k.1 : Int) ∧ (k.1 : Int) ≤ gw (gc (k.1 : Int)) := by decide +kernel
  exact this ⟨k, by omega⟩ (by simp only; omega)
/-- What a taking keeps of a place that was taken. -/
structure Kx (a b : Ab) (x : Int) : Prop where
  is : b.is x = true
  cl : b.clsI (gs x) = a.clsI (gs x)
  wd : ∀ j, 0 ≤ j → j < gw (a.clsI (gs x)) → b.wd (x + j) = a.wd (x + j)
theorem Kx.take {a : Ab} (g : a.Good) {x : Int} (hx : a.is x = true) {t : Int} (e : a.takeE t = 0) : Kx a (a.takeA t) x := by
  obtain ⟨u, q, rfl, ef, k1, k2, k3, k4, k5, k6, k7, k8, _⟩ := g.free e
  have eA : a.takeA u = a.take u q := by unfold Ab.takeA; rw [if_pos e, ef]; rfl
  obtain ⟨s, p, e1, e2, h1, h2, _, h4, h5, h6, h7, _⟩ := g.spot hx
  rw [eA]
  refine ⟨?_, rfl, fun j j0 j1 => ?_⟩
  · have g' := g.take (s := u) (p := q) k3 k6
    refine (Ab.is_iff g'.ok x).2 ⟨s, p, h1, h2, h7, h5, ?_, h6⟩
    show (upd a.tk u (a.tk u ||| 2 ^ q) s).testBit p = true
    by_cases es : s = u
    · subst es; rw [upd_same, testBit_or_pow, h4]; rfl
    · rw [upd_other _ _ es]; exact h4
  · show (if ga u q (a.cls u) ≤ x + j ∧ x + j < ga u q (a.cls u) + gw (a.cls u) then 0 else a.wd (x + j)) = _
    rw [e1, a.clsI_at h1 h2] at j1
    refine if_neg fun hh => places_apart g.ok h1 h2 h7 h5 k1 k2 k3 k6 ?_ (x := x + j) (by rw [← h6]; omega) hh
    rintro ⟨rfl, rfl⟩
    rw [k7] at h4
    cases h4
theorem Kx.set {a : Ab} (g : a.Good) {x : Int} (hx : a.is x = true) {j : Nat} {c : Int} (j1 : 1 ≤ j) (hj : a.cls j < 0) (h0 : 0 ≤ c) (h5 : c ≤ 5) : Kx a (a.set j c) x := by
  obtain ⟨s, p, e1, e2, h1, h2, _, h4, h5', h6, h7, _⟩ := g.spot hx
  have hne : s ≠ j := fun e => by subst e; omega
  have g' := g.set (s := j) (c := c) j1 h0 h5
  have ec : (a.set j c).cls s = a.cls s := upd_other _ _ hne
  refine ⟨(Ab.is_iff g'.ok x).2 ⟨s, p, h1, h2, by rw [ec]; exact h7, by rw [ec]; exact h5', ?_, by rw [ec]; exact h6⟩, ?_, fun _ _ _ => rfl⟩
  · show (upd a.tk j 0 s).testBit p = true
    rw [upd_other _ _ hne]; exact h4
  · rw [e1, Ab.clsI_at _ h1 (show s < (a.set j c).n from h2), a.clsI_at h1 h2]; exact ec
theorem Kx.trans {a b c : Ab} {x : Int} (h : Kx a b x) (k : Kx b c x) : Kx a c x :=
  ⟨k.is, k.cl.trans h.cl, fun j j0 j1 => (k.wd j j0 (by rw [h.cl]; exact j1)).trans (h.wd j j0 j1)⟩
/-- What was taken: its words are 0. -/
structure Nx (a b : Ab) (v n : Int) : Prop where
  is : b.is v = true
  no : a.is v = false
  pos : 0 < v
  fit : n ≤ gw (b.clsI (gs v))
  zero : ∀ j, 0 ≤ j → j < gw (b.clsI (gs v)) → b.wd (v + j) = 0
theorem Nx.take {a : Ab} (g : a.Good) {t n : Int} (e : a.takeE t = 0) (hf : n ≤ gw (a.clsI t)) : Nx a (a.takeA t) (a.takeV t) n := by
  obtain ⟨p1, p2⟩ := took_is g e
  have p3 := took_new g e
  obtain ⟨u, q, rfl, ef, k1, k2, k3, k4, k5, k6, k7, k8, _⟩ := g.free e
  have eA : a.takeA u = a.take u q := by unfold Ab.takeA; rw [if_pos e, ef]; rfl
  have eV : a.takeV u = ga u q (a.cls u) := by unfold Ab.takeV; rw [if_pos e, ef, k4]
  have n1 := g.ok.n1
  obtain ⟨e1, e2, e3, e4⟩ := ga_at (s := u) (p := q) k1 (by omega) k3 (g.ok.cr u).2 k6
  have hc : (a.takeA u).clsI (gs (a.takeV u)) = a.cls u := by rw [eV, e2, eA]; exact (a.clsI_at k1 k2)
  refine ⟨p2, p3, p1, by rw [hc]; rw [a.clsI_at k1 k2] at hf; exact hf, fun j j0 j1 => ?_⟩
  rw [hc] at j1
  rw [eV, eA]
  show (if ga u q (a.cls u) ≤ ga u q (a.cls u) + j ∧ ga u q (a.cls u) + j < ga u q (a.cls u) + gw (a.cls u) then 0 else _) = (0 : Int)
  exact if_pos ⟨by omega, by omega⟩
/-- A heap with room: so many spans are used at most. -/
structure Rm (al : Al) (N i : Nat) : Prop where
  good : al.a.Good
  calm : al.Calm
  n : al.a.n = N
  free : ∀ s : Nat, i < s → s < N → al.a.cls s < 0
theorem Rm.take {al : Al} {N i : Nat} (h : Rm al N i) (hi : i + 1 < N) {n : Int} (h1 : 1 ≤ n) (h2 : n ≤ 64) :
    ∃ al' v, al.take n = (al', v, 0) ∧ Rm al' N (i + 1) ∧ Nx al.a al'.a v n ∧ ∀ x, al.a.is x = true → Kx al.a al'.a x := by
  obtain ⟨f1, f2⟩ := gc_fitC h1 h2
  have cm := take_calm h.calm n
  have nn := h.n
  rcases take_ways h.calm f1 with ⟨j, j1, j2, j3, j4, e⟩ | ⟨_, ⟨j, j1, j2, j3, j4, e⟩ | ⟨j1, _⟩⟩
  · rw [e] at cm
    refine ⟨_, _, e, ⟨h.good.takeA _, cm, (Ab.takeA_n _ _).trans nn, fun s s1 s2 => ?_⟩, Nx.take h.good j4 (by rw [j3]; exact f2), fun x hx => Kx.take h.good hx j4⟩
    have : (al.a.takeA j).cls = al.a.cls := by unfold Ab.takeA; split <;> rfl
    show (al.a.takeA j).cls s < 0
    rw [this]
    exact h.free s (by omega) s2
  · rw [e] at cm
    obtain ⟨_, t2, _⟩ := first_ok (l := al) j1 j2 j3 f1 (gc_r n).2
    have g' := h.good.set (s := j) (c := gc n) j1 f1 (gc_r n).2
    have hji : j ≤ i + 1 := by
      rcases Nat.lt_or_ge (i + 1) j with hh | hh
      · have := j4 (i + 1) (by omega) hh
        have := h.free (i + 1) (by omega) (by omega)
        omega
      · exact hh
    refine ⟨_, _, e, ⟨g'.takeA _, cm, (Ab.takeA_n _ _).trans nn, fun s s1 s2 => ?_⟩, ?_, fun x hx => (Kx.set h.good hx j1 j3 f1 (gc_r n).2).trans (Kx.take g' (Kx.set h.good hx j1 j3 f1 (gc_r n).2).is t2)⟩
    · have : ((al.a.set j (gc n)).takeA j).cls = (al.a.set j (gc n)).cls := by unfold Ab.takeA; split <;> rfl
      show ((al.a.set j (gc n)).takeA j).cls s < 0
      rw [this]
      show upd al.a.cls j (gc n) s < 0
      rw [upd_other _ _ (by omega)]
      exact h.free s (by omega) s2
    · have hc : (al.a.set j (gc n)).clsI j = gc n := by rw [Ab.clsI_at _ j1 (show j < (al.a.set j (gc n)).n from j2)]; exact upd_same _ _ _
      have N1 := Nx.take g' t2 (n := n) (by rw [hc]; exact f2)
      refine ⟨N1.is, ?_, N1.pos, N1.fit, N1.zero⟩
      cases hv : al.a.is ((al.a.set j (gc n)).takeV j)
      · rfl
      · have := (Kx.set h.good hv j1 j3 f1 (gc_r n).2).is
        rw [N1.no] at this
        cases this
  · have := j1 (i + 1) (by omega) (by omega)
    have := h.free (i + 1) (by omega) (by omega)
    omega
theorem Rm.write {al : Al} {N i : Nat} (h : Rm al N i) (x k v : Int) : Rm ⟨al.a.writeA x k v, al.u⟩ N i := by
  refine ⟨h.good.writeA x k v, h.calm, (Ab.writeA_n _ _ _ _).trans h.n, fun s s1 s2 => ?_⟩
  have : (al.a.writeA x k v).cls = al.a.cls := by unfold Ab.writeA; split <;> rfl
  show (al.a.writeA x k v).cls s < 0
  rw [this]
  exact h.free s s1 s2
theorem rm0 {N : Nat} (h8 : 8 ≤ N) (h5 : N ≤ 512) : Rm (al0 N) N 0 := ⟨ab0_good h8 h5, fun _ => rfl, rfl, fun _ _ _ => by show (-1 : Int) < 0; decide⟩
/-! ### channels -/
section
variable {al al' : Al} {l : List Hd.Shp} {a b : Int} {R S f : Nat} {adr cl : Bool} {q : List Int}
theorem Cz.is (h : Cz al l a R adr) : al.a.is a = true := by
  have := h.inw 0 (by omega)
  unfold Ab.inW at this
  simp only [Bool.and_eq_true] at this
  exact this.1.1
theorem Cz.fits (h : Cz al l a R adr) {j : Nat} (hj : j < R + 5) : (j : Int) < gw (al.a.clsI (gs a)) := by
  have := h.inw j hj
  unfold Ab.inW at this
  simp only [Bool.and_eq_true, decide_eq_true_eq] at this
  exact this.2
theorem Cz.apart (g : al.a.Good) (h : Cz al l a R adr) {adr' : Bool} (k : Cz al l b S adr') (hne : a ≠ b) {i m : Nat} (hi : i < R + 5) (hm : m < S + 5) : a + (i : Int) ≠ b + (m : Int) :=
  g.disj h.is k.is hne ⟨by omega, h.fits hi⟩ ⟨by omega, k.fits hm⟩
theorem Cz.on (h : Cz al l a R adr) (h1 : ∀ j : Nat, j < R + 5 → al'.a.inW a (j : Int) = true) (h2 : ∀ j : Nat, j < R + 5 → al'.a.wd (a + (j : Int)) = al.a.wd (a + (j : Int))) : Cz al' l a R adr := by
  refine ⟨?_, h1, (h2 1 (by omega)).trans h.room, h.r0⟩
  have e0 := h1 0 (by omega)
  have e1 := h.inw 0 (by omega)
  have e2 := h2 0 (by omega)
  have : ofP al' l a = ofP al l a := by
    unfold ofP Ab.readE Ab.readV
    rw [show ((0 : Nat) : Int) = 0 from rfl] at e0 e1 e2
    rw [e0, e1, e2]
  rw [this]
  exact h.of_
theorem Cq.on {b' b : Ab} (h : Cq b a R f q cl) (h2 : ∀ j : Nat, j < R + 5 → b'.wd (a + (j : Int)) = b.wd (a + (j : Int))) : Cq b' a R f q cl := by
  refine ⟨(h2 2 (by omega)).trans h.cnt, (h2 3 (by omega)).trans h.fst, (h2 4 (by omega)).trans h.shut, h.len, h.fR, h.fl, fun i v hi => ?_⟩
  have hlt : i < q.length := (List.getElem?_eq_some_iff.1 hi).1
  have hm : (f + i) % R < R := Nat.mod_lt _ (by have := h.len; omega)
  have := h2 (5 + (f + i) % R) (by omega)
  rw [show ((5 + (f + i) % R : Nat) : Int) = 5 + (((f + i) % R : Nat) : Int) by omega] at this
  exact this.trans (h.at_ i v hi)
theorem inW_of {a : Ab} {x : Int} (h : a.is x = true) {j : Nat} (hj : (j : Int) < gw (a.clsI (gs x))) : a.inW x (j : Int) = true := by
  unfold Ab.inW
  simp [h, hj]
theorem Cz.kx (h : Cz al l a R adr) (k : Kx al.a al'.a a) : Cz al' l a R adr :=
  h.on (fun j hj => inW_of k.is (by rw [k.cl]; exact h.fits hj)) fun j hj => k.wd j (by omega) (h.fits hj)
theorem Cz.kq (h : Cz al l a R adr) (k : Kx al.a al'.a a) (Q : Cq al.a a R f q cl) : Cq al'.a a R f q cl := Q.on fun j hj => k.wd j (by omega) (h.fits hj)
/-- Another channel's word is written. -/
theorem Cz.oth (g : al.a.Good) (h : Cz al l a R adr) {adr' : Bool} (k : Cz al l b S adr') (hne : b ≠ a) {m : Nat} (hm : m < S + 5) (v : Int) : Cz ⟨al.a.write (b + (m : Int)) v, al.u⟩ l a R adr :=
  h.on h.inw fun _ hj => wd_other _ (fun e => Cz.apart g k h hne hm hj e.symm)
theorem Cz.othq (g : al.a.Good) (h : Cz al l a R adr) {adr' : Bool} (k : Cz al l b S adr') (hne : b ≠ a) {m : Nat} (hm : m < S + 5) (v : Int) (Q : Cq al.a a R f q cl) : Cq (al.a.write (b + (m : Int)) v) a R f q cl :=
  Q.on fun _ hj => wd_other _ (fun e => Cz.apart g k h hne hm hj e.symm)
end
/-- What a head tells. -/
def ofW (l : List Hd.Shp) (w : Int) : Option (Int × Int × Int × Hd.Shp) := if Hd.uokB w = true then (match l[(Hd.up2 w).toNat]? with
    | some s => some (Hd.up0 w, Hd.up1 w, Hd.up2 w, s)
    | none => none) else none
theorem ofP_ofW {al : Al} {l : List Hd.Shp} {a : Int} (h : al.a.readE a 0 = 0) : ofP al l a = ofW l (al.a.readV a 0) := by
  unfold ofP ofW
  exact (if_pos h).trans rfl
theorem ofW_new1 : ∀ R : Fin 60, ofB3 ((R.1 : Int) + 5) (ofW ls5 (Hd.pkV ((R.1 : Int) + 5) 3 0)) = true := by decide +kernel
/-- A channel that was just made. -/
theorem cz_new {a0 : Ab} {al : Al} {v : Int} {R : Nat} (hR : R ≤ 59) (h : Nx a0 al.a v ((R : Int) + 5)) : al.a.writeA v 0 (Hd.pkV ((R : Int) + 5) 3 0) = al.a.write (v + ((0 : Nat) : Int)) (Hd.pkV ((R : Int) + 5) 3 0) ∧ (al.a.write (v + ((0 : Nat) : Int)) (Hd.pkV ((R : Int) + 5) 3 0)).writeA v 1 (R : Int) = (al.a.write (v + ((0 : Nat) : Int)) (Hd.pkV ((R : Int) + 5) 3 0)).write (v + ((1 : Nat) : Int)) (R : Int) ∧
    Cz ⟨(al.a.write (v + ((0 : Nat) : Int)) (Hd.pkV ((R : Int) + 5) 3 0)).write (v + ((1 : Nat) : Int)) (R : Int), al.u⟩ ls5 v R false ∧ Cq ((al.a.write (v + ((0 : Nat) : Int)) (Hd.pkV ((R : Int) + 5) 3 0)).write (v + ((1 : Nat) : Int)) (R : Int)) v R 0 [] false := by
  have hin : ∀ j : Nat, j < R + 5 → al.a.inW v (j : Int) = true := fun j hj => inW_of h.is (by have := h.fit; omega)
  have hz : ∀ j : Nat, 2 ≤ j → j < R + 5 → ((al.a.write (v + ((0 : Nat) : Int)) (Hd.pkV ((R : Int) + 5) 3 0)).write (v + ((1 : Nat) : Int)) (R : Int)).wd (v + (j : Int)) = 0 := fun j h2 hj => by
    rw [wd_other _ (by omega), wd_other _ (by omega)]
    exact h.zero j (by omega) (by have := h.fit; omega)
  refine ⟨if_pos (hin 0 (by omega)), if_pos (hin 1 (by omega)), ⟨⟨0, ⟨3, 0, 0⟩, ?_, by decide⟩, hin, by rw [show ((1 : Nat) : Int) = 1 from rfl]; exact wd_same _ _ _, hR⟩, ⟨hz 2 (by omega) (by omega), hz 3 (by omega) (by omega), hz 4 (by omega) (by omega), Nat.zero_le _, Nat.zero_le _, fun h => h, fun i u hi => by simp at hi⟩⟩
  obtain ⟨X, hX⟩ : ∃ X : Ab, X = (al.a.write (v + ((0 : Nat) : Int)) (Hd.pkV ((R : Int) + 5) 3 0)).write (v + ((1 : Nat) : Int)) (R : Int) := ⟨_, rfl⟩
  have hi0 : X.inW v 0 = true := by rw [hX]; exact hin 0 (by omega)
  have hV : X.readV v 0 = Hd.pkV ((R : Int) + 5) 3 0 := by
    unfold Ab.readV
    rw [if_pos hi0, hX, wd_other _ (by omega)]
    exact if_pos rfl
  rw [← hX, ofP_ofW (al := (⟨X, al.u⟩ : Al)) (if_pos hi0)]
  show ofW ls5 (X.readV v 0) = _
  rw [hV]
  exact ofB3_eq (ofW_new1 ⟨R, by omega⟩)
/-- All channels of the law. -/
structure Chs (al : Al) (rs at_ : List Int) (qs : Nat → List Int) (cl : Nat → Bool) : Prop where
  ok : ∀ (k : Nat) (r a : Int), rs[k]? = some r → at_[k]? = some a → 0 ≤ r ∧ r ≤ 59 → Cz al ls5 a r.toNat false ∧ ∃ f, Cq al.a a r.toNat f (qs k) (cl k)
  bad : ∀ (k : Nat) (r a : Int), rs[k]? = some r → at_[k]? = some a → ¬ (0 ≤ r ∧ r ≤ 59) → a = 0 ∧ qs k = []
  ne : ∀ (j k : Nat) (a b : Int), at_[j]? = some a → at_[k]? = some b → j ≠ k → a ≠ 0 → a ≠ b
  le : at_.length ≤ rs.length
section
variable {al al' : Al} {rs at_ : List Int} {qs : Nat → List Int} {cl : Nat → Bool}
theorem chs0 (al : Al) (rs : List Int) : Chs al rs [] (fun _ => []) (fun _ => false) := ⟨fun k r a _ h => by simp at h, fun k r a _ h => by simp at h, fun j k a b h => by simp at h, Nat.zero_le _⟩
theorem Chs.room (h : Chs al rs at_ qs cl) {k : Nat} {a : Int} (ha : at_[k]? = some a) : ∃ r, rs[k]? = some r := by
  have h1 : k < at_.length := (List.getElem?_eq_some_iff.1 ha).1
  have h2 := h.le
  exact ⟨rs[k]'(by omega), List.getElem?_eq_getElem (by omega)⟩
theorem Chs.skip (h : Chs al rs at_ qs cl) {r : Int} (hr : rs[at_.length]? = some r) (hb : ¬ (0 ≤ r ∧ r ≤ 59)) (hq : qs at_.length = []) : Chs al rs (at_ ++ [0]) qs cl := by
  have hl : at_.length < rs.length := (List.getElem?_eq_some_iff.1 hr).1
  have sp : ∀ {k : Nat} {a : Int}, (at_ ++ [(0 : Int)])[k]? = some a → at_[k]? = some a ∨ (k = at_.length ∧ a = 0) := fun {k a} e => by
    rcases Nat.lt_or_ge k at_.length with hh | hh
    · rw [List.getElem?_append_left hh] at e; exact Or.inl e
    · rw [List.getElem?_append_right hh] at e
      rcases Nat.eq_or_lt_of_le hh with h0 | h0
      · rw [← h0, Nat.sub_self] at e
        simp at e
        exact Or.inr ⟨h0.symm, e.symm⟩
      · rw [List.getElem?_eq_none (by simp; omega)] at e; cases e
  refine ⟨fun k r' a hr' ha hg => ?_, fun k r' a hr' ha hg => ?_, fun j k a b ha hb' hne h0 => ?_, by rw [List.length_append, List.length_singleton]; omega⟩
  · rcases sp ha with e | ⟨rfl, rfl⟩
    · exact h.ok k r' a hr' e hg
    · rw [hr] at hr'; cases hr'; exact absurd hg hb
  · rcases sp ha with e | ⟨rfl, rfl⟩
    · exact h.bad k r' a hr' e hg
    · exact ⟨rfl, hq⟩
  · rcases sp ha with e | ⟨rfl, rfl⟩
    · rcases sp hb' with e' | ⟨rfl, rfl⟩
      · exact h.ne j k a b e e' hne h0
      · exact h0
    · exact absurd rfl h0
/-- What each has is kept. -/
theorem Chs.same (h : Chs al rs at_ qs cl) (k : ∀ a R f q c, Cz al ls5 a R false → a ∈ at_ → Cq al.a a R f q c → Cz al' ls5 a R false ∧ Cq al'.a a R f q c) : Chs al' rs at_ qs cl :=
  ⟨fun j r a hr ha hg => by
    obtain ⟨C, f, Q⟩ := h.ok j r a hr ha hg
    obtain ⟨C', Q'⟩ := k a _ f _ _ C (List.mem_of_getElem? ha) Q
    exact ⟨C', f, Q'⟩, h.bad, h.ne, h.le⟩
theorem Chs.isOf (h : Chs al rs at_ qs cl) {a : Int} (ha : a ∈ at_) (h0 : a ≠ 0) : al.a.is a = true := by
  obtain ⟨k, hk⟩ := List.mem_iff_getElem?.1 ha
  obtain ⟨r, hr⟩ := h.room hk
  by_cases hg : 0 ≤ r ∧ r ≤ 59
  · exact (h.ok k r a hr hk hg).1.is
  · exact absurd (h.bad k r a hr hk hg).1 h0
theorem Chs.make {N i : Nat} (h : Chs al rs at_ (fun _ => []) (fun _ => false)) (_rm : Rm al N i) {R : Nat} {v : Int} (hr : rs[at_.length]? = some (R : Int)) (hR : R ≤ 59) (rm' : Rm al' N (i + 1)) (nx : Nx al.a al'.a v ((R : Int) + 5)) (kx : ∀ x, al.a.is x = true → Kx al.a al'.a x) :
    Chs ⟨(al'.a.writeA v 0 (Hd.pkV ((R : Int) + 5) 3 0)).writeA v 1 (R : Int), al'.u⟩ rs (at_ ++ [v]) (fun _ => []) (fun _ => false) ∧ Rm ⟨(al'.a.writeA v 0 (Hd.pkV ((R : Int) + 5) 3 0)).writeA v 1 (R : Int), al'.u⟩ N (i + 1) ∧ Cz ⟨(al'.a.writeA v 0 (Hd.pkV ((R : Int) + 5) 3 0)).writeA v 1 (R : Int), al'.u⟩ ls5 v R false := by
  have hl : at_.length < rs.length := (List.getElem?_eq_some_iff.1 hr).1
  obtain ⟨e1, e2, C, Q⟩ := cz_new hR nx
  have rm2 := (rm'.write v 0 (Hd.pkV ((R : Int) + 5) 3 0)).write v 1 (R : Int)
  simp only at rm2
  rw [e1, e2] at rm2 ⊢
  have hvn : ∀ a ∈ at_, a ≠ v := fun a ha e => by
    by_cases h0 : a = 0
    · have := nx.pos; omega
    · have := h.isOf ha h0
      rw [e, nx.no] at this
      cases this
  have sp : ∀ {k : Nat} {a : Int}, (at_ ++ [v])[k]? = some a → at_[k]? = some a ∨ (k = at_.length ∧ a = v) := fun {k a} e => by
    rcases Nat.lt_or_ge k at_.length with hh | hh
    · rw [List.getElem?_append_left hh] at e; exact Or.inl e
    · rw [List.getElem?_append_right hh] at e
      rcases Nat.eq_or_lt_of_le hh with h0 | h0
      · rw [← h0, Nat.sub_self] at e
        simp at e
        exact Or.inr ⟨h0.symm, e.symm⟩
      · rw [List.getElem?_eq_none (by simp; omega)] at e; cases e
  have old : ∀ a R' f q c, Cz al ls5 a R' false → a ∈ at_ → Cq al.a a R' f q c → Cz ⟨(al'.a.write (v + ((0 : Nat) : Int)) (Hd.pkV ((R : Int) + 5) 3 0)).write (v + ((1 : Nat) : Int)) (R : Int), al'.u⟩ ls5 a R' false ∧ Cq ((al'.a.write (v + ((0 : Nat) : Int)) (Hd.pkV ((R : Int) + 5) 3 0)).write (v + ((1 : Nat) : Int)) (R : Int)) a R' f q c := fun a R' f q c C1 ha Q1 => by
    have K := kx a C1.is
    have C2 := C1.kx K
    have Q2 := C1.kq K Q1
    have hp : ∀ j : Nat, j < R' + 5 → ∀ m : Nat, m < R + 5 → a + (j : Int) ≠ v + (m : Int) := fun j hj m hm => rm'.good.disj C2.is nx.is (hvn a ha) ⟨by omega, C2.fits hj⟩ ⟨by omega, by have := nx.fit; omega⟩
    have hw : ∀ j : Nat, j < R' + 5 → ((al'.a.write (v + ((0 : Nat) : Int)) (Hd.pkV ((R : Int) + 5) 3 0)).write (v + ((1 : Nat) : Int)) (R : Int)).wd (a + (j : Int)) = al'.a.wd (a + (j : Int)) := fun j hj => by
      rw [wd_other _ (hp j hj 1 (by omega)), wd_other _ (hp j hj 0 (by omega))]
    exact ⟨C2.on C2.inw hw, Q2.on hw⟩
  have h2 := h.same old
  refine ⟨⟨fun k r' a hr' ha hg => ?_, fun k r' a hr' ha hg => ?_, fun j k a b ha hb' hne h0 => ?_, by rw [List.length_append, List.length_singleton]; omega⟩, rm2, C⟩
  · rcases sp ha with e | ⟨rfl, rfl⟩
    · exact h2.ok k r' a hr' e hg
    · rw [hr] at hr'
      cases hr'
      rw [Int.toNat_natCast]
      exact ⟨C, 0, Q⟩
  · rcases sp ha with e | ⟨rfl, rfl⟩
    · exact h2.bad k r' a hr' e hg
    · rw [hr] at hr'
      cases hr'
      omega
  · rcases sp ha with e | ⟨rfl, rfl⟩
    · rcases sp hb' with e' | ⟨rfl, rfl⟩
      · exact h.ne j k a b e e' hne h0
      · exact hvn a (List.mem_of_getElem? e)
    · rcases sp hb' with e' | ⟨rfl, rfl⟩
      · exact Ne.symm (hvn b (List.mem_of_getElem? e'))
      · exact absurd rfl hne
/-- One channel is another then; the rest is as it was. -/
theorem Chs.one (h : Chs al rs at_ qs cl) {k : Nat} {r a : Int} (hr : rs[k]? = some r) (ha : at_[k]? = some a) {q' : List Int} {c' : Bool} (C' : Cz al' ls5 a r.toNat false) (Q' : ∃ f, Cq al'.a a r.toNat f q' c') (hg : 0 ≤ r ∧ r ≤ 59)
    (k' : ∀ b R f q c, Cz al ls5 b R false → b ≠ a → Cq al.a b R f q c → Cz al' ls5 b R false ∧ Cq al'.a b R f q c) (ha0 : a ≠ 0) : Chs al' rs at_ (fun j => if j = k then q' else qs j) (fun j => if j = k then c' else cl j) := by
  refine ⟨fun j r' b hr' hb hg' => ?_, fun j r' b hr' hb hg' => ?_, h.ne, h.le⟩
  · by_cases e : j = k
    · subst e
      rw [hr] at hr'
      cases hr'
      rw [ha] at hb
      cases hb
      simp only [if_true]
      exact ⟨C', Q'⟩
    · simp only [if_neg e]
      obtain ⟨C, f, Q⟩ := h.ok j r' b hr' hb hg'
      have hne : b ≠ a := fun e' => h.ne k j a b ha hb (Ne.symm e) ha0 e'.symm
      obtain ⟨C2, Q2⟩ := k' b _ f _ _ C hne Q
      exact ⟨C2, f, Q2⟩
  · by_cases e : j = k
    · subst e
      rw [hr] at hr'
      cases hr'
      exact absurd hg hg'
    · simp only [if_neg e]
      exact h.bad j r' b hr' hb hg'
theorem Chs.ne0 (h : Chs al rs at_ qs cl) (g : al.a.Good) {k : Nat} {r a : Int} (hr : rs[k]? = some r) (ha : at_[k]? = some a) (hg : 0 ≤ r ∧ r ≤ 59) : a ≠ 0 := by
  have := (g.inside (h.ok k r a hr ha hg).1.is).1
  omega
theorem Chs.push (h : Chs al rs at_ qs cl) (g : al.a.Good) {k f : Nat} {r a v : Int} (hr : rs[k]? = some r) (ha : at_[k]? = some a) (hg : 0 ≤ r ∧ r ≤ 59) (C : Cz al ls5 a r.toNat false) (Q : Cq al.a a r.toNat f (qs k) (cl k)) (hl : (qs k).length < r.toNat) :
    Chs ⟨pushB al.a a r.toNat f (qs k).length v, al.u⟩ rs at_ (fun j => if j = k then qs k ++ [v] else qs j) (fun j => if j = k then cl k else cl j) := by
  refine h.one hr ha (C.push _ v) ⟨f, Q.push hl v⟩ hg (fun b R f' q c C1 hne Q1 => ?_) (h.ne0 g hr ha hg)
  have hm : (f + (qs k).length) % r.toNat < r.toNat := Nat.mod_lt _ (by omega)
  have e5 : ((5 + (f + (qs k).length) % r.toNat : Nat) : Int) = 5 + (((f + (qs k).length) % r.toNat : Nat) : Int) := by omega
  have hw : ∀ j : Nat, j < R + 5 → (pushB al.a a r.toNat f (qs k).length v).wd (b + (j : Int)) = al.a.wd (b + (j : Int)) := fun j hj => by
    unfold pushB
    have n2 : b + (j : Int) ≠ a + 2 := Cz.apart g C1 C hne hj (m := 2) (by omega)
    have n5 := Cz.apart g C1 C hne hj (m := 5 + (f + (qs k).length) % r.toNat) (by omega)
    rw [e5] at n5
    rw [wd_other _ n2, wd_other _ n5]
  exact ⟨C1.on C1.inw hw, Q1.on hw⟩
theorem Chs.pop (h : Chs al rs at_ qs cl) (g : al.a.Good) {k f : Nat} {r a v : Int} {q : List Int} (hr : rs[k]? = some r) (ha : at_[k]? = some a) (hg : 0 ≤ r ∧ r ≤ 59) (C : Cz al ls5 a r.toNat false) (Q : Cq al.a a r.toNat f (v :: q) (cl k)) :
    Chs ⟨popB al.a a r.toNat f (v :: q).length, al.u⟩ rs at_ (fun j => if j = k then q else qs j) (fun j => if j = k then cl k else cl j) := by
  refine h.one hr ha (C.pop _) ⟨_, Q.pop.2⟩ hg (fun b R f' q' c C1 hne Q1 => ?_) (h.ne0 g hr ha hg)
  have hl := Q.len
  rw [List.length_cons] at hl
  have hf := Q.fl (by omega)
  have e5 : ((5 + f : Nat) : Int) = 5 + (f : Int) := by omega
  have hw : ∀ j : Nat, j < R + 5 → (popB al.a a r.toNat f (v :: q).length).wd (b + (j : Int)) = al.a.wd (b + (j : Int)) := fun j hj => by
    unfold popB
    have n2 : b + (j : Int) ≠ a + 2 := Cz.apart g C1 C hne hj (m := 2) (by omega)
    have n3 : b + (j : Int) ≠ a + 3 := Cz.apart g C1 C hne hj (m := 3) (by omega)
    have n5 := Cz.apart g C1 C hne hj (m := 5 + f) (by omega)
    rw [e5] at n5
    rw [wd_other _ n2, wd_other _ n3, wd_other _ n5]
  exact ⟨C1.on C1.inw hw, Q1.on hw⟩
theorem Chs.close (h : Chs al rs at_ qs cl) (g : al.a.Good) {k f : Nat} {r a : Int} (hr : rs[k]? = some r) (ha : at_[k]? = some a) (hg : 0 ≤ r ∧ r ≤ 59) (C : Cz al ls5 a r.toNat false) (Q : Cq al.a a r.toNat f (qs k) (cl k)) :
    Chs ⟨al.a.write (a + 4) 1, al.u⟩ rs at_ (fun j => if j = k then qs k else qs j) (fun j => if j = k then true else cl j) := by
  refine h.one hr ha C.close ⟨f, Q.close⟩ hg (fun b R f' q c C1 hne Q1 => ?_) (h.ne0 g hr ha hg)
  have hw : ∀ j : Nat, j < R + 5 → (al.a.write (a + 4) 1).wd (b + (j : Int)) = al.a.wd (b + (j : Int)) := fun j hj => wd_other _ (Cz.apart g C1 C hne hj (m := 4) (by omega))
  exact ⟨C1.on C1.inw hw, Q1.on hw⟩
end
/-- Address 0 is no thing's. -/
theorem of_zero (al : Al) (l : List Hd.Shp) : ofP al l 0 = none := by
  have hi : al.a.inW 0 0 = false := by
    have : al.a.clsI (gs 0) = -1 := by
      have e : gs 0 = 0 := by decide +kernel
      unfold Ab.clsI
      rw [e]
      exact if_neg (by omega)
    unfold Ab.inW Ab.is
    rw [this]
    rfl
  unfold ofP Ab.readE
  rw [hi]
  rfl
end Go.Proofs.YtdnhmkbdphpjcaaGreatDoor

/- ChansPlays: the law's own rows beside its heap, while channels are made. -/
namespace Go.Proofs.YtdnhmkbdphpjcaaGreatDoor
set_option maxRecDepth 100000
open Go.ChangeShapes Go.WideShapes Go.ChangeAt Go.RowKit Go.Maps

section
variable {W w w' : World} {x : Hx} {al : Al} {l : List Hd.Shp} {n : Nat} {ao : Option Addr} {cap : Nat} {nv : Value} {c : Nat → Nat}
/-- Only blocks that are others' have been turned. -/
theorem HS.beside (h : HS W w x al l n ao cap nv c) (hb : Below W.heap.size W w') (hs : w.heap.size ≤ w'.heap.size) (k : ∀ d, d < w.heap.size → c d ≠ 9 → w'.heap[d]? = w.heap[d]?) : HS W w' x al l n ao cap nv c := by
  have kh := k x.hb h.hlt (by rw [h.c6]; decide)
  exact ⟨h.cyc hb hs fun d hd hc => k d hd (by omega), h.tab.kept (k _ h.tab.tlt (by rw [h.c3]; decide)) (k _ h.tab.mlt (by rw [h.c4]; decide)) (fun a ha => k _ (h.tab.aoB a ha).2 (by rw [h.c5 a ha]; decide)), (World.cell?_of_block (a := ⟨x.hb, 0, none⟩) kh).trans h.h0, (World.cell?_of_block (a := ⟨x.hb, 1, none⟩) kh).trans h.h1, (World.cell?_of_block (a := ⟨x.hb, 2, none⟩) kh).trans h.h2, (World.cell?_of_block (a := ⟨x.hb, 3, none⟩) kh).trans h.h3, fun i => (World.frozen?_of_block (a := ⟨x.hb, i, none⟩) kh).trans (h.hf i), nr_kept h.num (fun q hq => k q (h.nlt q hq) (by rw [h.c8 q hq]; decide)), h.mp.kept (k _ h.lt (by rw [h.c7]; decide)), h.lo, Nat.lt_of_lt_of_le h.lt hs, h.cA, h.cC, h.c3, h.c4, h.c5, h.c6, h.c7, h.c8⟩
/-- w' is w but for blocks from S on. -/
structure Ov (S : Nat) (w w' : World) : Prop where
  os : w'.os = w.os
  tape : w'.tape = w.tape
  output : w'.output = w.output
  size : w.heap.size ≤ w'.heap.size
  block : ∀ d, d < w.heap.size → d < S → w'.heap[d]? = w.heap[d]?
theorem HS.over {S : Nat} (h : HS W w x al l n ao cap nv c) (h9 : ∀ d, S ≤ d → c d = 9) (hW : W.heap.size ≤ S) (v : Ov S w w') : HS W w' x al l n ao cap nv c :=
  h.beside (Below.trans h.ks.st.below ⟨v.os, v.tape, v.output, v.size, fun d hd => v.block d (Nat.lt_of_lt_of_le hd h.ks.st.below.size) (by omega)⟩) v.size fun d hd hc => v.block d hd (by
    rcases Nat.lt_or_ge d S with e | e
    · exact e
    · exact absurd (h9 d e) hc)
theorem Ov.gb {S : Nat} {row : Option Nat} (g : w.grownBy w' row) (hr : ∀ d, row = some d → S ≤ d) : Ov S w w' := ⟨g.os, g.tape, g.output, g.size, fun d hd hS => g.block d hd (fun e => by have := hr d e.symm; omega)⟩
theorem Ov.of_G {S : Nat} (g : G w w') : Ov S w w' := ⟨g.os, g.tape, g.output, g.size, fun d hd _ => g.block d hd⟩
theorem Ov.trans {S : Nat} {w2 : World} (h : Ov S w w') (k : Ov S w' w2) : Ov S w w2 := ⟨k.os.trans h.os, k.tape.trans h.tape, k.output.trans h.output, Nat.le_trans h.size k.size, fun d hd hS => (k.block d (Nat.lt_of_lt_of_le hd h.size) hS).trans (h.block d hd hS)⟩
theorem Ov.set {S b i : Nat} (v : Value) (hb : S ≤ b) : Ov S w (w.setCell ⟨b, i, none⟩ v) := ⟨rfl, rfl, rfl, by rw [World.size_setCell]; exact Nat.le_refl _, fun d _ hS => Below.heap_setCell _ _ _ _ (by show d ≠ b; omega)⟩
end
theorem ow_kept {w w' : World} {B n : Nat} {T : TypeId} {v : Value} {l : List Value} (h : w.ownsRow B T 1 v n l) (e : ∀ k, v.ownBlock = some k → w'.heap[k]? = w.heap[k]?) : w'.ownsRow B T 1 v n l := by
  refine ⟨h.1, ?_⟩
  rcases h.2 with h0 | ⟨g, cp, cur, e1, e2, e3, e4⟩
  · exact Or.inl h0
  · exact Or.inr ⟨g, cp, cur, e1, e2, (e g (by rw [e1]; rfl)).trans e3, e4⟩
theorem ow_shape {w : World} {B n : Nat} {T : TypeId} {v : Value} {l : List Value} (h : w.ownsRow B T 1 v n l) : ∃ ao cp, v = .slice ao n cp := by
  rcases h.2 with ⟨e, e2⟩ | ⟨g, cp, cur, e, _⟩
  · exact ⟨none, 0, by rw [e, e2]⟩
  · exact ⟨_, cp, e⟩
theorem info_64c : (Tryz.prog.info? 2).map (fun i => (i.zero, i.size, i.bytes)) = some (some (.int .i64 0), 1, 8) := by kernel_rfl
theorem info_slc : (Tryz.prog.info? 33).map (fun i => (i.zero, i.size, i.bytes)) = some (some (.slice none 0 0), 1, 24) := by kernel_rfl
theorem app64 {w : World} {B n : Nat} {v : Value} {l : List Value} (h : w.ownsRow B 2 1 v n l) (hB : B ≤ w.heap.size) (hn : n ≤ 1000000) (x : Int) :
    ∃ v' w', (Builtin.append_ #[33, 33] 33 #[v, .slice (some ⟨w.heap.size, 0, none⟩) 1 1]).run Tryz.prog (w.alloc (.cells #[.int .i64 x] 2)) = .ok v' w' ∧ w'.ownsRow B 2 1 v' (n + 1) (l ++ [.int .i64 x]) ∧ (w.alloc (.cells #[.int .i64 x] 2)).grownBy w' v.ownBlock ∧ (v'.ownBlock = v.ownBlock ∨ v'.ownBlock = some (w.heap.size + 1)) := by
  obtain ⟨i, hi, hz, hs, hb⟩ := info_parts info_64c
  have ga := G.alloc w (.cells #[.int .i64 x] 2)
  obtain ⟨v', w', hrun, r1, r2, _, r4⟩ := run_append_own_at (P := Tryz.prog) (w.alloc (.cells #[.int .i64 x] 2)) B 33 33 2 i _ 1 8 Tryz.underlying33 hi hz hs hb rfl (by decide) v n _ (h.alloc _) ⟨w.heap.size, 0, none⟩ 1 1 [.int .i64 x] rfl (fun j u hj => by
      rw [Addr.add_lit, cell_of_row _ _ _ _ _ _ (heap_alloc_new w _), Nat.zero_add]
      simpa using hj) (fun u hu => by simp at hu; subst hu; rfl) (by unfold maxLen; omega) (by omega) (Nat.le_trans hB ga.size)
  exact ⟨v', w', hrun, r1, r2, by rw [World.size_alloc] at r4; exact r4⟩
theorem appSl {w : World} {B n : Nat} {v : Value} {l : List Value} (h : w.ownsRow B 33 1 v n l) (hB : B ≤ w.heap.size) (hn : n ≤ 1000000) :
    ∃ v' w', (Builtin.append_ #[43, 43] 43 #[v, .slice (some ⟨w.heap.size, 0, none⟩) 1 1]).run Tryz.prog (w.alloc (.cells #[.slice none 0 0] 33)) = .ok v' w' ∧ w'.ownsRow B 33 1 v' (n + 1) (l ++ [.slice none 0 0]) ∧ (w.alloc (.cells #[.slice none 0 0] 33)).grownBy w' v.ownBlock ∧ (v'.ownBlock = v.ownBlock ∨ v'.ownBlock = some (w.heap.size + 1)) := by
  obtain ⟨i, hi, hz, hs, hb⟩ := info_parts info_slc
  have ga := G.alloc w (.cells #[.slice none 0 0] 33)
  obtain ⟨v', w', hrun, r1, r2, _, r4⟩ := run_append_own_at (P := Tryz.prog) (w.alloc (.cells #[.slice none 0 0] 33)) B 43 43 33 i _ 1 24 Tryz.underlying43 hi hz hs hb rfl (by decide) v n _ (h.alloc _) ⟨w.heap.size, 0, none⟩ 1 1 [.slice none 0 0] rfl (fun j u hj => by
      rw [Addr.add_lit, cell_of_row _ _ _ _ _ _ (heap_alloc_new w _), Nat.zero_add]
      simpa using hj) (fun u hu => by simp at hu; subst hu; rfl) (by unfold maxLen; omega) (by omega) (Nat.le_trans hB ga.size)
  exact ⟨v', w', hrun, r1, r2, by rw [World.size_alloc] at r4; exact r4⟩
/-- The law's rows: the addresses, what is in the channels, the holder's, which are closed. -/
structure L1 (S N : Nat) (w : World) (hb cb : Nat) (va vv vr : Value) (la lv lr : List Value) : Prop where
  ra : w.ownsRow S 2 1 va la.length la
  rv : w.ownsRow S 33 1 vv lv.length lv
  rr : w.ownsRow S 2 1 vr lr.length lr
  hc : w.cell? ⟨hb, 0, none⟩ = some vr
  hf : w.frozen? ⟨hb, 0, none⟩ = false
  cl : ∀ k, k < N → w.cell? ⟨cb, k, none⟩ = some (.bool false)
  cf : ∀ k, w.frozen? ⟨cb, k, none⟩ = false
  cz : cb < w.heap.size
  lo : S ≤ hb ∧ S ≤ cb
  col : ∃ e : Nat → Nat, e hb = 1 ∧ e cb = 2 ∧ (∀ d, va.ownBlock = some d → e d = 3) ∧ (∀ d, vv.ownBlock = some d → e d = 4) ∧ (∀ d, vr.ownBlock = some d → e d = 5)
section
variable {S N hb cb : Nat} {w w' : World} {va vv vr va' vv' vr' : Value} {la lv lr : List Value} {x : Value} {o : Obj}
theorem L1.hz (h : L1 S N w hb cb va vv vr la lv lr) : hb < w.heap.size := World.block_lt_of_cell? w _ h.hc
theorem L1.kept (h : L1 S N w hb cb va vv vr la lv lr) (hs : w.heap.size ≤ w'.heap.size) (k : ∀ d, S ≤ d → d < w.heap.size → w'.heap[d]? = w.heap[d]?) : L1 S N w' hb cb va vv vr la lv lr := by
  have kh := k hb h.lo.1 h.hz
  have kc := k cb h.lo.2 h.cz
  exact ⟨ow_kept h.ra fun d hd => k d (h.ra.lt d hd).1 (h.ra.lt d hd).2, ow_kept h.rv fun d hd => k d (h.rv.lt d hd).1 (h.rv.lt d hd).2, ow_kept h.rr fun d hd => k d (h.rr.lt d hd).1 (h.rr.lt d hd).2, (World.cell?_of_block (a := ⟨hb, 0, none⟩) kh).trans h.hc, (World.frozen?_of_block (a := ⟨hb, 0, none⟩) kh).trans h.hf, fun j hj => (World.cell?_of_block (a := ⟨cb, j, none⟩) kc).trans (h.cl j hj), fun j => (World.frozen?_of_block (a := ⟨cb, j, none⟩) kc).trans (h.cf j), Nat.lt_of_lt_of_le h.cz hs, h.lo, h.col⟩
theorem L1.appA (h : L1 S N w hb cb va vv vr la lv lr) (r : w'.ownsRow S 2 1 va' (la.length + 1) (la ++ [x])) (g : (w.alloc o).grownBy w' va.ownBlock) (ob : va'.ownBlock = va.ownBlock ∨ va'.ownBlock = some (w.heap.size + 1)) : L1 S N w' hb cb va' vv vr (la ++ [x]) lv lr := by
  obtain ⟨e, e1, e2, e3, e4, e5⟩ := h.col
  have s1 := g.size
  rw [World.size_alloc] at s1
  have kp : ∀ d, d < w.heap.size → e d ≠ 3 → w'.heap[d]? = w.heap[d]? := fun d hd hne => (g.block d (by rw [World.size_alloc]; omega) (fun q => hne (e3 d q.symm))).trans ((G.alloc w o).block d hd)
  have cc : ∀ d, d < w.heap.size → (fun d => if w.heap.size ≤ d then 3 else e d) d = e d := fun d hd => if_neg (by omega)
  have ho : ∀ d, va'.ownBlock = some d → (fun d => if w.heap.size ≤ d then 3 else e d) d = 3 := fun d hd => by
    rcases ob with q | q
    · rw [q] at hd; exact (cc d (h.ra.lt d hd).2).trans (e3 d hd)
    · rw [q] at hd; cases hd; exact if_pos (by omega)
  have kh := kp hb h.hz (by rw [e1]; decide)
  have kc := kp cb h.cz (by rw [e2]; decide)
  exact ⟨(by rw [List.length_append]; exact r), ow_kept h.rv fun d hd => kp d (h.rv.lt d hd).2 (by rw [e4 d hd]; decide), ow_kept h.rr fun d hd => kp d (h.rr.lt d hd).2 (by rw [e5 d hd]; decide), (World.cell?_of_block (a := ⟨hb, 0, none⟩) kh).trans h.hc, (World.frozen?_of_block (a := ⟨hb, 0, none⟩) kh).trans h.hf, fun j hj => (World.cell?_of_block (a := ⟨cb, j, none⟩) kc).trans (h.cl j hj), fun j => (World.frozen?_of_block (a := ⟨cb, j, none⟩) kc).trans (h.cf j), by have := h.cz; omega, h.lo, _, (cc _ h.hz).trans e1, (cc _ h.cz).trans e2, ho, fun d hd => (cc d (h.rv.lt d hd).2).trans (e4 d hd), fun d hd => (cc d (h.rr.lt d hd).2).trans (e5 d hd)⟩
theorem L1.appV (h : L1 S N w hb cb va vv vr la lv lr) (r : w'.ownsRow S 33 1 vv' (lv.length + 1) (lv ++ [x])) (g : (w.alloc o).grownBy w' vv.ownBlock) (ob : vv'.ownBlock = vv.ownBlock ∨ vv'.ownBlock = some (w.heap.size + 1)) : L1 S N w' hb cb va vv' vr la (lv ++ [x]) lr := by
  obtain ⟨e, e1, e2, e3, e4, e5⟩ := h.col
  have s1 := g.size
  rw [World.size_alloc] at s1
  have kp : ∀ d, d < w.heap.size → e d ≠ 4 → w'.heap[d]? = w.heap[d]? := fun d hd hne => (g.block d (by rw [World.size_alloc]; omega) (fun q => hne (e4 d q.symm))).trans ((G.alloc w o).block d hd)
  have cc : ∀ d, d < w.heap.size → (fun d => if w.heap.size ≤ d then 4 else e d) d = e d := fun d hd => if_neg (by omega)
  have ho : ∀ d, vv'.ownBlock = some d → (fun d => if w.heap.size ≤ d then 4 else e d) d = 4 := fun d hd => by
    rcases ob with q | q
    · rw [q] at hd; exact (cc d (h.rv.lt d hd).2).trans (e4 d hd)
    · rw [q] at hd; cases hd; exact if_pos (by omega)
  have kh := kp hb h.hz (by rw [e1]; decide)
  have kc := kp cb h.cz (by rw [e2]; decide)
  exact ⟨ow_kept h.ra fun d hd => kp d (h.ra.lt d hd).2 (by rw [e3 d hd]; decide), (by rw [List.length_append]; exact r), ow_kept h.rr fun d hd => kp d (h.rr.lt d hd).2 (by rw [e5 d hd]; decide), (World.cell?_of_block (a := ⟨hb, 0, none⟩) kh).trans h.hc, (World.frozen?_of_block (a := ⟨hb, 0, none⟩) kh).trans h.hf, fun j hj => (World.cell?_of_block (a := ⟨cb, j, none⟩) kc).trans (h.cl j hj), fun j => (World.frozen?_of_block (a := ⟨cb, j, none⟩) kc).trans (h.cf j), by have := h.cz; omega, h.lo, _, (cc _ h.hz).trans e1, (cc _ h.cz).trans e2, fun d hd => (cc d (h.ra.lt d hd).2).trans (e3 d hd), ho, fun d hd => (cc d (h.rr.lt d hd).2).trans (e5 d hd)⟩
theorem L1.appR (h : L1 S N w hb cb va vv vr la lv lr) (r : w'.ownsRow S 2 1 vr' (lr.length + 1) (lr ++ [x])) (g : (w.alloc o).grownBy w' vr.ownBlock) (ob : vr'.ownBlock = vr.ownBlock ∨ vr'.ownBlock = some (w.heap.size + 1)) : L1 S N (w'.setCell ⟨hb, 0, none⟩ vr') hb cb va vv vr' la lv (lr ++ [x]) := by
  obtain ⟨e, e1, e2, e3, e4, e5⟩ := h.col
  have s1 := g.size
  rw [World.size_alloc] at s1
  have kp : ∀ d, d < w.heap.size → e d ≠ 5 → w'.heap[d]? = w.heap[d]? := fun d hd hne => (g.block d (by rw [World.size_alloc]; omega) (fun q => hne (e5 d q.symm))).trans ((G.alloc w o).block d hd)
  have cc : ∀ d, d < w.heap.size → (fun d => if w.heap.size ≤ d then 5 else e d) d = e d := fun d hd => if_neg (by omega)
  have ho : ∀ d, vr'.ownBlock = some d → (fun d => if w.heap.size ≤ d then 5 else e d) d = 5 := fun d hd => by
    rcases ob with q | q
    · rw [q] at hd; exact (cc d (h.rr.lt d hd).2).trans (e5 d hd)
    · rw [q] at hd; cases hd; exact if_pos (by omega)
  have kh := kp hb h.hz (by rw [e1]; decide)
  have kc := kp cb h.cz (by rw [e2]; decide)
  have hc1 := (World.cell?_of_block (a := ⟨hb, 0, none⟩) kh).trans h.hc
  have ks : ∀ d, d ≠ hb → (w'.setCell ⟨hb, 0, none⟩ vr').heap[d]? = w'.heap[d]? := fun d hd => Below.heap_setCell _ _ _ _ (by show d ≠ hb; exact hd)
  have nb : ∀ d, e d ≠ 1 → d ≠ hb := fun d hd q => hd (by rw [q]; exact e1)
  have ncb : cb ≠ hb := nb cb (by rw [e2]; decide)
  have k2 := (ks cb ncb).trans kc
  refine ⟨ow_kept h.ra fun d hd => (ks d (nb d (by rw [e3 d hd]; decide))).trans (kp d (h.ra.lt d hd).2 (by rw [e3 d hd]; decide)), ow_kept h.rv fun d hd => (ks d (nb d (by rw [e4 d hd]; decide))).trans (kp d (h.rv.lt d hd).2 (by rw [e4 d hd]; decide)), ow_kept (by rw [List.length_append]; exact r) fun d hd => ks d (fun q => ?_), cell_same _ hc1, by rw [World.frozen?_setCell]; exact (World.frozen?_of_block (a := ⟨hb, 0, none⟩) kh).trans h.hf, fun j hj => (World.cell?_of_block (a := ⟨cb, j, none⟩) k2).trans (h.cl j hj), fun j => (World.frozen?_of_block (a := ⟨cb, j, none⟩) k2).trans (h.cf j), by rw [World.size_setCell]; have := h.cz; omega, h.lo, _, (cc _ h.hz).trans e1, (cc _ h.cz).trans e2, fun d hd => (cc d (h.ra.lt d hd).2).trans (e3 d hd), fun d hd => (cc d (h.rv.lt d hd).2).trans (e4 d hd), ho⟩
  have := ho d hd
  rw [q, cc hb h.hz, e1] at this
  omega
end
end Go.Proofs.YtdnhmkbdphpjcaaGreatDoor

/- ChansPlays: while channels are made. -/
namespace Go.Proofs.YtdnhmkbdphpjcaaGreatDoor
set_option maxRecDepth 100000
open Go.ChangeShapes Go.WideShapes Go.ChangeAt Go.RowKit Go.Maps Go.Deep

abbrev ivs (l : List Int) : List Value := l.map fun a => Value.int .i64 a
abbrev nils (i : Nat) : List Value := List.replicate i (.slice none 0 0)
/-- Where the law's things lie. -/
structure Lw where
  W : World
  x : Hx
  ao : Option Addr
  cap : Nat
  nv : Value
  c : Nat → Nat
  S : Nat
  hb : Nat
  cb : Nat
  rs : List Int
structure Lw.Ok (L : Lw) : Prop where
  h9 : ∀ d, L.S ≤ d → L.c d = 9
  hW : L.W.heap.size ≤ L.S
/-- A channel is made; its address is laid down in some of the rows. -/
def PG (L : Lw) (at_ : List Int) (va vv vr : Value) (la lv lr : List Value) (w : World) : Prop :=
  L.Ok ∧ ∃ al, HS L.W w L.x al ls5 3 L.ao L.cap L.nv L.c ∧ Rm al 40 at_.length ∧ Chs al L.rs at_ (fun _ => []) (fun _ => false) ∧ L1 L.S L.rs.length w L.hb L.cb va vv vr la lv lr ∧ L.S ≤ w.heap.size
section
variable {L : Lw} {at_ : List Int} {va vv vr : Value} {la lv lr : List Value} {w w' : World}
theorem PG.gr (h : PG L at_ va vv vr la lv lr w) (g : G w w') : PG L at_ va vv vr la lv lr w' := by
  obtain ⟨k, al, S, R, C, M, z⟩ := h
  exact ⟨k, al, S.gr g, R, C, M.kept g.size fun d _ hd => g.block d hd, Nat.le_trans z g.size⟩
theorem PG.below (h : PG L at_ va vv vr la lv lr w) : Below L.W.heap.size L.W w := by
  obtain ⟨k, al, S, R, C, M, z⟩ := h
  exact S.ks.st.below
theorem PG.shA (h : PG L at_ va vv vr la lv lr w) : ∃ ao cp, va = .slice ao la.length cp := by
  obtain ⟨k, al, S, R, C, M, z⟩ := h
  exact ow_shape M.ra
theorem PG.shV (h : PG L at_ va vv vr la lv lr w) : ∃ ao cp, vv = .slice ao lv.length cp := by
  obtain ⟨k, al, S, R, C, M, z⟩ := h
  exact ow_shape M.rv
theorem PG.shR (h : PG L at_ va vv vr la lv lr w) : ∃ ao cp, vr = .slice ao lr.length cp := by
  obtain ⟨k, al, S, R, C, M, z⟩ := h
  exact ow_shape M.rr
theorem PG.cellR (h : PG L at_ va vv vr la lv lr w) : w.cell? ⟨L.hb, 0, none⟩ = some vr ∧ w.frozen? ⟨L.hb, 0, none⟩ = false ∧ L.hb < w.heap.size := by
  obtain ⟨k, al, S, R, C, M, z⟩ := h
  exact ⟨M.hc, M.hf, M.hz⟩
theorem PG.appA (h : PG L at_ va vv vr la lv lr w) (hn : la.length ≤ 1000) (v : Int) : ∃ va' w', (Builtin.append_ #[33, 33] 33 #[va, .slice (some ⟨w.heap.size, 0, none⟩) 1 1]).run Tryz.prog (w.alloc (.cells #[.int .i64 v] 2)) = .ok va' w' ∧ PG L at_ va' vv vr (la ++ [.int .i64 v]) lv lr w' := by
  obtain ⟨k, al, S, R, C, M, z⟩ := h
  obtain ⟨v', w', hrun, r1, r2, r3⟩ := app64 M.ra z (by omega) v
  have ov : Ov L.S w w' := (Ov.of_G (G.alloc w _)).trans (Ov.gb r2 fun d hd => (M.ra.lt d hd).1)
  exact ⟨v', w', hrun, k, al, S.over k.h9 k.hW ov, R, C, M.appA r1 r2 r3, Nat.le_trans z ov.size⟩
theorem PG.appV (h : PG L at_ va vv vr la lv lr w) (hn : lv.length ≤ 1000) : ∃ vv' w', (Builtin.append_ #[43, 43] 43 #[vv, .slice (some ⟨w.heap.size, 0, none⟩) 1 1]).run Tryz.prog (w.alloc (.cells #[.slice none 0 0] 33)) = .ok vv' w' ∧ PG L at_ va vv' vr la (lv ++ [.slice none 0 0]) lr w' := by
  obtain ⟨k, al, S, R, C, M, z⟩ := h
  obtain ⟨v', w', hrun, r1, r2, r3⟩ := appSl M.rv z (by omega)
  have ov : Ov L.S w w' := (Ov.of_G (G.alloc w _)).trans (Ov.gb r2 fun d hd => (M.rv.lt d hd).1)
  exact ⟨v', w', hrun, k, al, S.over k.h9 k.hW ov, R, C, M.appV r1 r2 r3, Nat.le_trans z ov.size⟩
theorem PG.appR (h : PG L at_ va vv vr la lv lr w) (hn : lr.length ≤ 1000) (v : Int) : ∃ vr' w', (Builtin.append_ #[33, 33] 33 #[vr, .slice (some ⟨w.heap.size, 0, none⟩) 1 1]).run Tryz.prog (w.alloc (.cells #[.int .i64 v] 2)) = .ok vr' w' ∧ (∃ ao cp, vr' = .slice ao (lr.length + 1) cp) ∧ (w'.cell? ⟨L.hb, 0, none⟩ = some vr ∧ w'.frozen? ⟨L.hb, 0, none⟩ = false) ∧ PG L at_ va vv vr' la lv (lr ++ [.int .i64 v]) (w'.setCell ⟨L.hb, 0, none⟩ vr') := by
  obtain ⟨k, al, S, R, C, M, z⟩ := h
  obtain ⟨v', w', hrun, r1, r2, r3⟩ := app64 M.rr z (by omega) v
  have ov : Ov L.S w w' := (Ov.of_G (G.alloc w _)).trans (Ov.gb r2 fun d hd => (M.rr.lt d hd).1)
  have ov2 : Ov L.S w (w'.setCell ⟨L.hb, 0, none⟩ v') := ov.trans (Ov.set v' M.lo.1)
  have kh : w'.heap[L.hb]? = w.heap[L.hb]? := by
    obtain ⟨e, e1, _, _, _, e5⟩ := M.col
    exact (r2.block L.hb (by rw [World.size_alloc]; have := M.hz; omega) (fun q => by have := e5 _ q.symm; omega)).trans ((G.alloc w _).block _ M.hz)
  exact ⟨v', w', hrun, ow_shape r1, ⟨(World.cell?_of_block (a := ⟨L.hb, 0, none⟩) kh).trans M.hc, (World.frozen?_of_block (a := ⟨L.hb, 0, none⟩) kh).trans M.hf⟩, k, al, S.over k.h9 k.hW ov2, R, C, M.appR r1 r2 r3, Nat.le_trans z ov2.size⟩
/-- Make: where the room is none. -/
theorem PG.skip (h : PG L at_ va vv vr la lv lr w) {r : Int} (hr : L.rs[at_.length]? = some r) (hb : ¬ (0 ≤ r ∧ r ≤ 59)) : PG L (at_ ++ [0]) va vv vr la lv lr w := by
  obtain ⟨k, al, S, R, C, M, z⟩ := h
  refine ⟨k, al, S, ⟨R.good, R.calm, R.n, fun s s1 s2 => R.free s (by rw [List.length_append, List.length_singleton] at s1; omega) s2⟩, C.skip hr hb rfl, M, z⟩
theorem p_make (h : Hid (PG L at_ va vv vr la lv lr w)) (R : Nat) (hr : L.rs[at_.length]? = some (R : Int)) (hR : R ≤ 59) (h8 : at_.length ≤ 7) (rv : Value) : Calls Tryz.prog 11 #[.pointer (some ⟨L.x.hb, 0, none⟩), .int .i64 0, .int .i64 (R : Int), rv] w fun e w' => ∃ v, e = .returned (.tuple #[.int .i64 v, .int .i64 0, .int .i64 0]) ∧ PG L (at_ ++ [v]) va vv vr la lv lr w' := by
  obtain ⟨k, al, S, Rr, C, M, z⟩ := unhide h
  obtain ⟨al', v, ht, rm', nx, kx⟩ := Rr.take (n := (R : Int) + 5) (by omega) (by omega) (by omega)
  refine (c_make (hide S) 0 (by decide) ⟨3, 0, 0⟩ rfl R hR v al' (hide ht) rv).mono ?_
  rintro e w' ⟨he, S', K3⟩
  obtain ⟨C', rm2, _⟩ := C.make Rr hr hR rm' nx kx
  refine ⟨v, he, k, _, S', ?_, C', M.kept K3.1 fun d hd hl => K3.2 d hl (by rw [k.h9 d hd]; decide), Nat.le_trans z K3.1⟩
  rw [List.length_append, List.length_singleton]
  exact rm2
theorem p_room (h : Hid (PG L at_ va vv vr la lv lr w)) {k : Nat} {a : Int} (R : Nat) (hr : L.rs[k]? = some (R : Int)) (ha : at_[k]? = some a) (hR : R ≤ 59) : Calls Tryz.prog 16 #[.pointer (some ⟨L.x.hb, 0, none⟩), .int .i64 a] w fun e w' => e = .returned (.int .i64 (R : Int)) ∧ G w w' := by
  obtain ⟨_, al, S, Rr, C, M, z⟩ := unhide h
  have := (C.ok k _ a hr ha ⟨by omega, by omega⟩).1
  rw [Int.toNat_natCast] at this
  exact c_room (hide (hv_hs L.W L.x ls5 3 L.ao L.cap L.nv L.c ls5_m)) (g := ()) (hide S) this
end
/-- How it begins. -/
theorem pg_start {W w2 : World} {x : Hx} {ao : Option Addr} {cap : Nat} {nv : Value} {c : Nat → Nat} {rs : List Int} (h : HS W w2 x (al0 40) ls5 3 ao cap nv c) (C : Array Value) (HC : ∀ (w : World) b, w.heap[b]? = some (.cells C 4 (0, 0)) → (∀ s, s < rs.length → w.cell? ⟨b, s, none⟩ = some (.bool false)) ∧ ∀ i, w.frozen? ⟨b, i, none⟩ = false) (w3 w4 : World) (h3 : w3 = w2.alloc (.cells #[.slice none 0 0] 35)) (h4 : w4 = w3.alloc (.cells C 4)) :
    PG ⟨W, x, ao, cap, nv, fun d => if w2.heap.size ≤ d then 9 else c d, w2.heap.size, w2.heap.size, w3.heap.size, rs⟩ [] (.slice none 0 0) (.slice none 0 0) (.slice none 0 0) [] [] [] w4 := by
  have g3 : G w2 w3 := by rw [h3]; exact G.alloc _ _
  have g4 : G w3 w4 := by rw [h4]; exact G.alloc _ _
  have z3 : w3.heap.size = w2.heap.size + 1 := by rw [h3, World.size_alloc]
  have z4 : w4.heap.size = w3.heap.size + 1 := by rw [h4, World.size_alloc]
  have b4 : w4.heap[w3.heap.size]? = some (.cells C 4 (0, 0)) := by rw [h4]; exact heap_alloc_new _ _
  have b3 : w4.heap[w2.heap.size]? = some (.cells #[.slice none 0 0] 35 (0, 0)) := (g4.block _ (by omega)).trans (by rw [h3]; exact heap_alloc_new _ _)
  obtain ⟨q1, q2⟩ := HC w4 _ b4
  refine ⟨⟨fun d hd => if_pos hd, h.ks.st.below.size⟩, al0 40, (h.gr (g3.trans g4)).recol w2 h, rm0 (by decide) (by decide), chs0 _ _, ⟨⟨rfl, Or.inl ⟨rfl, rfl⟩⟩, ⟨rfl, Or.inl ⟨rfl, rfl⟩⟩, ⟨rfl, Or.inl ⟨rfl, rfl⟩⟩, by rw [cell_of_row _ _ _ _ _ _ b3]; rfl, by simp [World.frozen?, b3], q1, q2, by show w3.heap.size < w4.heap.size; omega, ⟨Nat.le_refl _, by show w2.heap.size ≤ w3.heap.size; omega⟩, fun d => if d = w2.heap.size then 1 else 2, if_pos rfl, if_neg (by show ¬ w3.heap.size = w2.heap.size; omega), fun d hd => (by cases hd), fun d hd => (by cases hd), fun d hd => (by cases hd)⟩, by show w2.heap.size ≤ w4.heap.size; omega⟩
end Go.Proofs.YtdnhmkbdphpjcaaGreatDoor

/- The contract of All. -/
namespace Go.Proofs.YtdnhmkbdphpjcaaGreatDoor.Gy
set_option maxRecDepth 100000
open Go.RowKit Go.Maps Go.ChangeShapes Go.WideShapes Go.ChangeAt

theorem info_int64 : (Tryz.prog.info? 2).map (fun i => (i.zero, i.size, i.bytes)) = some (some (.int .i64 0), 1, 8) := by kernel_rfl

/-- The first m of the numbers, as cells. -/
def pre (c : Nat → Int) (f m : Nat) : List Value := (List.range m).map fun i => .int .i64 (c (f + i))
theorem pre_len (c : Nat → Int) (f m : Nat) : (pre c f m).length = m := by simp [pre]
theorem pre_get {c : Nat → Int} {f m i : Nat} (h : i < m) : (pre c f m)[i]? = some (.int .i64 (c (f + i))) := by simp [pre, h]
theorem pre_app (c : Nat → Int) (f m d : Nat) : pre c f m ++ pre c (f + m) d = pre c f (m + d) := by
  apply List.ext_getElem?
  intro i
  rcases Nat.lt_or_ge i m with h | h
  · rw [List.getElem?_append_left (by rw [pre_len]; exact h), pre_get h, pre_get (by omega)]
  · rw [List.getElem?_append_right (by rw [pre_len]; exact h), pre_len]
    rcases Nat.lt_or_ge i (m + d) with h2 | h2
    · rw [pre_get (by omega), pre_get (by omega)]
      congr 3
      omega
    · rw [List.getElem?_eq_none (by rw [pre_len]; omega), List.getElem?_eq_none (by rw [pre_len]; omega)]
theorem pre_one (c : Nat → Int) (f m : Nat) : ∀ u ∈ pre c f m, u.oneCell' = true := by
  intro u hu
  simp [pre] at hu
  obtain ⟨i, _, rfl⟩ := hu
  rfl

def slLen : Value → Nat
  | .slice _ n _ => n
  | _ => 0

/-- While All fills its row. -/
structure AllS (w wr : World) (c : Nat → Int) (f n m : Nat) : Prop where
  row : wr.ownsRow w.heap.size 2 1 (.slice (some ⟨w.heap.size, 0, none⟩) m n) m (pre c f m)
  g : G w wr

theorem grownBy_G {w0 w w' : World} {b : Nat} (g : G w0 w) (h : w.grownBy w' (some b)) (hb : w0.heap.size ≤ b) : G w0 w' :=
  ⟨h.os.trans g.os, h.tape.trans g.tape, h.output.trans g.output, Nat.le_trans g.size h.size, fun k hk => (h.block k (Nat.lt_of_lt_of_le hk g.size) (by simp; omega)).trans (g.block k hk)⟩

theorem mk_all (n : Nat) (hn : n ≤ 1000000) (w : World) : (Instr.makeSlice 33 (.int .i64 0) (.int .i64 (n : Int))).run Tryz.prog w =
    .ok (.slice (some ⟨w.heap.size, 0, none⟩) 0 n) (w.alloc (.cells (madeCells #[.int .i64 0] n) 2)) := by
  obtain ⟨i0, hi0, hz0, hz1, hz2⟩ := info_parts info_int64
  have := run_make (P := Tryz.prog) w 33 2 i0 (.int .i64 0) Tryz.underlying33 hi0 hz0 .i64 .i64 0 (n : Int) (by omega) (by omega) (by rw [hz2]; omega) (by omega)
  rw [this, hz1]
  simp only [Int.toNat_natCast, Nat.mul_one]
  rfl

theorem arr_len : Tryz.prog.arrayLen 161 = 16 := by kernel_rfl
theorem arr_elem : Tryz.prog.elem 161 = 2 := by kernel_rfl
theorem arr_under : Tryz.prog.underlying 161 = some (.array (Tryz.prog.arrayLen 161) (Tryz.prog.elem 161)) := by kernel_rfl
theorem sl_arr (w : World) (b t : Nat) (z : Int) (h0 : t < 16) (h1 : (t : Int) ≤ z) (h2 : z ≤ 16) :
    (Instr.sliceAt 161 (.pointer (some ⟨b, 0, none⟩)) (some (.int .i64 (t : Int))) (some (.int .i64 z)) none).run Tryz.prog w = .ok (.slice (some ⟨b, t, none⟩) (z.toNat - t) (16 - t)) w := by
  obtain ⟨i0, hi0, hz0, hz1, hz2⟩ := info_parts info_int64
  rw [run_sliceAt_array_lh w 161 ⟨b, 0, none⟩ arr_under .i64 .i64 (t : Int) z (by omega) h1 (by rw [arr_len]; omega), arr_elem, arr_len]
  simp [sizeOf, typeInfo, hi0, hz1, Result.andThen, slicedAt]
  rw [if_neg (by omega), Addr.add_lit, Nat.zero_add]

/-- One round of All: a block's numbers behind the others. -/
theorem AllS.app {w wr w' : World} {c : Nat → Int} {f n m d : Nat} (h : AllS w wr c f n m) (hr : w'.ownsRow w.heap.size 2 1 (.slice (some ⟨w.heap.size, 0, none⟩) (m + d) n) (m + d) (pre c f m ++ pre c (f + m) d)) (hg : wr.grownBy w' (some w.heap.size)) : AllS w w' c f n (m + d) :=
  ⟨by rw [pre_app] at hr; exact hr, grownBy_G h.g hg (Nat.le_refl _)⟩

theorem far_cell {w w' : World} {S b i : Nat} (hg : w.grownBy w' (some S)) (h1 : b < S) (h2 : b < w.heap.size) : w'.cell? ⟨b, i, none⟩ = w.cell? ⟨b, i, none⟩ :=
  World.cell?_of_block (hg.block b h2 (by simp; omega))

/-- The numbers xs as cells. -/
def cellsOf (xs : List Int) : List Value := xs.map fun x => .int .i64 x
theorem pre_cells {c : Nat → Int} {f : Nat} {xs : List Int} (h : ∀ i x, xs[i]? = some x → c (f + i) = x) : pre c f xs.length = cellsOf xs := by
  apply List.ext_getElem?
  intro i
  unfold cellsOf
  rw [List.getElem?_map]
  rcases Nat.lt_or_ge i xs.length with e | e
  · rw [pre_get e, List.getElem?_eq_getElem e, h i _ (List.getElem?_eq_getElem e)]; rfl
  · rw [List.getElem?_eq_none (by rw [pre_len]; exact e), List.getElem?_eq_none e]; rfl

end Go.Proofs.YtdnhmkbdphpjcaaGreatDoor.Gy

/- What a law knows of one Queue on its way; awake() answers true. -/
namespace Go.Proofs.YtdnhmkbdphpjcaaGreatDoor.Gy
set_option maxRecDepth 100000
open Go.RowKit Go.Maps Go.ChangeShapes Go.WideShapes Go.ChangeAt

/-- One Queue, the call's own: W is the law's first world. -/
structure Sq (W w : World) (q : Nat) (bs : List Nat) (xs : List Int) : Prop where
  ql : QL w q bs xs
  bq : W.heap.size ≤ q
  bb : ∀ b ∈ bs, W.heap.size ≤ b
  below : Below W.heap.size W w
section
variable {W w w' : World} {q : Nat} {bs : List Nat} {xs ys : List Int} {x : Int}
theorem Sq.g (h : Sq W w q bs xs) (g : G w w') : Sq W w' q bs xs := ⟨h.ql.grown g, h.bq, h.bb, h.below.trans (g.mono h.below.size)⟩
theorem Sq.left (h : Sq W w q bs xs) (l : Left w w' q bs ys) : ∃ bs', Sq W w' q bs' ys ∧ Tq w w' q bs ∧ ∀ b ∈ bs', b ∈ bs ∨ w.heap.size ≤ b := by
  obtain ⟨bs', h1, h2, h3⟩ := l
  refine ⟨bs', ⟨h1, h.bq, fun b hb => ?_, h.below.trans (h2.below h.below.size h.bq h.bb)⟩, h2, h3⟩
  rcases h3 b hb with e | e
  · exact h.bb b e
  · exact Nat.le_trans h.below.size e

/-- The same, whatever its blocks; the blocks D are none of them. -/
def S2 (W w : World) (q : Nat) (xs : List Int) (D : List Nat) : Prop := ∃ bs, Sq W w q bs xs ∧ ∀ d ∈ D, d < w.heap.size ∧ d ≠ q ∧ d ∉ bs
/-- The blocks D are as they were. -/
def Kp (w w' : World) (D : List Nat) : Prop := ∀ d ∈ D, w'.heap[d]? = w.heap[d]?
variable {D : List Nat}
theorem Kp.cell (h : Kp w w' D) {d i : Nat} (hd : d ∈ D) {v : Value} (hc : w.cell? ⟨d, i, none⟩ = some v) : w'.cell? ⟨d, i, none⟩ = some v := (World.cell?_of_block (h d hd)).trans hc
theorem S2.g (h : S2 W w q xs D) (g : G w w') : S2 W w' q xs D := by
  obtain ⟨bs, h, a⟩ := h
  exact ⟨bs, h.g g, fun d hd => ⟨Nat.lt_of_lt_of_le (a d hd).1 g.size, (a d hd).2⟩⟩
theorem S2.kp (h : S2 W w q xs D) (g : G w w') : Kp w w' D := by
  obtain ⟨bs, h, a⟩ := h
  exact fun d hd => g.block d (a d hd).1
theorem S2.below (h : S2 W w q xs D) : Below W.heap.size W w := by obtain ⟨bs, h, _⟩ := h; exact h.below
theorem S2.sub (h : S2 W w q xs D) {E : List Nat} (e : ∀ d ∈ E, d ∈ D) : S2 W w q xs E := by obtain ⟨bs, h, a⟩ := h; exact ⟨bs, h, fun d hd => a d (e d hd)⟩
theorem s2_left {bs : List Nat} (hs : Sq W w q bs xs) (a : ∀ d ∈ D, d < w.heap.size ∧ d ≠ q ∧ d ∉ bs) (l : Left w w' q bs ys) : S2 W w' q ys D ∧ Kp w w' D := by
  obtain ⟨bs', h1, h2, h3⟩ := hs.left l
  refine ⟨⟨bs', h1, fun d hd => ?_⟩, fun d hd => h2.block d (a d hd).1 (a d hd).2.1 (a d hd).2.2⟩
  refine ⟨Nat.lt_of_lt_of_le (a d hd).1 h2.size, (a d hd).2.1, fun hm => ?_⟩
  rcases h3 d hm with e | e
  · exact (a d hd).2.2 e
  · have := (a d hd).1; omega

theorem s_new (g : Hid (G W w)) : Calls Tryz.prog 75 #[] w fun e w' => ∃ q, e = .returned (.pointer (some ⟨q, 0, none⟩)) ∧ S2 W w' q [] [] := by
  refine (q_new w).mono ?_
  rintro e w' ⟨q, rfl, h1, h2, h3⟩
  exact ⟨q, rfl, [], ⟨h1, Nat.le_trans (unhide g).size h2, (fun b hb => by cases hb), (unhide g).trans h3⟩, fun d hd => by cases hd⟩
theorem s_add (h : Hid (S2 W w q xs D)) (hn : xs.length ≤ 900000) (x : Int) : Calls Tryz.prog 88 #[.pointer (some ⟨q, 0, none⟩), .int .i64 x] w fun e w' => e = .returned (.tuple #[]) ∧ S2 W w' q (xs ++ [x]) D ∧ Kp w w' D := by
  obtain ⟨bs, hs, a⟩ := unhide h
  refine (q_add hs.ql hn x).mono ?_
  rintro e w' ⟨rfl, l⟩
  exact ⟨rfl, s2_left hs a l⟩
theorem s_next (h : Hid (S2 W w q (x :: xs) D)) (hn : xs.length ≤ 900000) : Calls Tryz.prog 106 #[.pointer (some ⟨q, 0, none⟩)] w fun e w' => e = .returned (.tuple #[.int .i64 x, .bool true]) ∧ S2 W w' q xs D ∧ Kp w w' D := by
  obtain ⟨bs, hs, a⟩ := unhide h
  refine (q_next hs.ql hn).mono ?_
  rintro e w' ⟨rfl, l⟩
  exact ⟨rfl, s2_left hs a l⟩
theorem s_next_none (h : Hid (S2 W w q [] D)) : Calls Tryz.prog 106 #[.pointer (some ⟨q, 0, none⟩)] w fun e w' => e = .returned (.tuple #[.int .i64 0, .bool false]) ∧ w' = w := by
  obtain ⟨bs, h, _⟩ := unhide h
  exact q_next_none h.ql
theorem s_len (h : Hid (S2 W w q xs D)) (n : Int) (hn : (xs.length : Int) = n) : Calls Tryz.prog 52 #[.pointer (some ⟨q, 0, none⟩)] w fun e w' => e = .returned (.int .i64 n) ∧ w' = w := by
  subst hn
  obtain ⟨bs, h, _⟩ := unhide h
  exact q_len h.ql
theorem row_cell {B g n cap : Nat} (h : w.ownsRow B 2 1 (.slice (some ⟨g, 0, none⟩) n cap) n (cellsOf xs)) {i : Nat} (hi : xs[i]? = some x) : w.cell? ⟨g, i, none⟩ = some (.int .i64 x) := by
  have := World.ownsRow.cells h (g := g) rfl i (.int .i64 x) (by unfold cellsOf; rw [List.getElem?_map, hi]; rfl)
  rw [Addr.add_lit, Nat.zero_add] at this
  exact this
end

end Go.Proofs.YtdnhmkbdphpjcaaGreatDoor.Gy

/- A row of numbers that is cut from the front and grows behind; Nums. -/
namespace Go.Proofs.YtdnhmkbdphpjcaaGreatDoor.Gy
set_option maxRecDepth 100000
open Go.RowKit Go.Maps Go.ChangeShapes Go.WideShapes Go.ChangeAt

/-- The block that a slice lies in. -/
def blk : Option Addr → List Nat
  | none => []
  | some a => [a.block]

/-- The numbers ys lie at ao, in room of the call's own. -/
structure RowW (w : World) (B : Nat) (ao : Option Addr) (cap : Nat) (ys : List Int) : Prop where
  le : ys.length ≤ cap
  cm : cap ≤ maxLen
  at_ : (ao = none ∧ ys = [] ∧ cap = 0) ∨ ∃ g off, ao = some ⟨g, off, none⟩ ∧ B ≤ g ∧ g < w.heap.size ∧ (∀ i x, ys[i]? = some x → w.cell? ⟨g, off + i, none⟩ = some (.int .i64 x)) ∧ (∀ j, j < cap → (w.cell? ⟨g, off + j, none⟩).isSome = true) ∧ (∀ j, w.frozen? ⟨g, j, none⟩ = false)
section
variable {W w w' : World} {B cap : Nat} {ao : Option Addr} {ys : List Int}
theorem RowW.nil (w : World) (B : Nat) : RowW w B none 0 [] := ⟨by simp, by unfold maxLen; omega, Or.inl ⟨rfl, rfl, rfl⟩⟩
theorem RowW.kept (h : RowW w B ao cap ys) (k : Kp w w' (blk ao)) : RowW w' B ao cap ys := by
  refine ⟨h.le, h.cm, ?_⟩
  rcases h.at_ with e | ⟨g, off, rfl, h1, h2, h3, h4, h5⟩
  · exact Or.inl e
  · have hk : w'.heap[g]? = w.heap[g]? := k g (by simp [blk])
    have hlt : g < w'.heap.size := by
      have e := hk
      rw [Array.getElem?_eq_getElem h2] at e
      exact (Array.getElem?_eq_some_iff.1 e).1
    exact Or.inr ⟨g, off, rfl, h1, hlt, fun i x hi => (World.cell?_of_block hk).trans (h3 i x hi), fun j hj => by rw [World.cell?_of_block (a := ⟨g, off + j, none⟩) hk]; exact h4 j hj, fun j => (World.frozen?_of_block (a := ⟨g, j, none⟩) hk).trans (h5 j)⟩
theorem RowW.lo (h : RowW w B ao cap ys) : ∀ d ∈ blk ao, B ≤ d ∧ d < w.heap.size := by
  intro d hd
  rcases h.at_ with ⟨rfl, _⟩ | ⟨g, off, rfl, h1, h2, _⟩
  · cases hd
  · simp [blk] at hd
    subst hd
    exact ⟨h1, h2⟩
theorem RowW.tail {y : Int} (h : RowW w B ao cap (y :: ys)) : ∃ g off, ao = some ⟨g, off, none⟩ ∧ w.cell? ⟨g, off, none⟩ = some (.int .i64 y) ∧ 0 < cap ∧
    RowW w B (if cap = 1 then some ⟨g, off, none⟩ else some ⟨g, off + 1, none⟩) (cap - 1) ys := by
  have hle := h.le
  rw [List.length_cons] at hle
  rcases h.at_ with ⟨_, e, _⟩ | ⟨g, off, rfl, h1, h2, h3, h4, h5⟩
  · cases e
  · refine ⟨g, off, rfl, h3 0 y rfl, by omega, by omega, by have := h.cm; omega, Or.inr ?_⟩
    by_cases e : cap = 1
    · have hy : ys = [] := List.eq_nil_of_length_eq_zero (by omega)
      subst hy
      rw [if_pos e]
      exact ⟨g, off, rfl, h1, h2, fun i x hi => by simp at hi, fun j hj => by omega, h5⟩
    · rw [if_neg e]
      refine ⟨g, off + 1, rfl, h1, h2, fun i x hi => ?_, fun j hj => ?_, h5⟩
      · have := h3 (i + 1) x (by simpa using hi)
        rw [show off + 1 + i = off + (i + 1) by omega]; exact this
      · have := h4 (j + 1) (by omega)
        rw [show off + 1 + j = off + (j + 1) by omega]; exact this

/-- w' is w but for one row, and for new blocks. -/
structure Gx (w w' : World) (ao : Option Addr) : Prop where
  os : w'.os = w.os
  tape : w'.tape = w.tape
  output : w'.output = w.output
  size : w.heap.size ≤ w'.heap.size
  block : ∀ k, k < w.heap.size → k ∉ blk ao → w'.heap[k]? = w.heap[k]?
theorem Gx.of_G (h : G w w') : Gx w w' ao := ⟨h.os, h.tape, h.output, h.size, fun k hk _ => h.block k hk⟩

/-- What append leaves of the row. -/
def App (w w' : World) (B : Nat) (ao ao' : Option Addr) (cap' : Nat) (ys' : List Int) : Prop := RowW w' B ao' cap' ys' ∧ (blk ao' = blk ao ∨ blk ao' = [w.heap.size]) ∧ Gx w w' ao

theorem app_new (hB : B ≤ w.heap.size) (v : Int) (cur : Array Value) (hm : cur.size ≤ maxLen) (hl : ys.length + 1 ≤ cur.size) (hc : ∀ (i : Nat) (x : Int), (ys ++ [v])[i]? = some x → cur[i]? = some (Value.int .i64 x)) :
    App w (w.drew.alloc (.cells cur 2)) B ao (some ⟨w.heap.size, 0, none⟩) cur.size (ys ++ [v]) := by
  have hcell : ∀ i, (w.drew.alloc (.cells cur 2)).cell? ⟨w.heap.size, 0 + i, none⟩ = cur[i]? := fun i => by
    rw [Nat.zero_add]
    exact World.cell?_alloc_new w.drew cur 2 i
  refine ⟨⟨by simp; omega, hm, Or.inr ⟨w.heap.size, 0, rfl, hB, by rw [World.size_alloc]; show w.heap.size < w.heap.size + 1; omega, fun i x hi => (hcell i).trans (hc i x hi), fun j hj => ?_, fun j => fz_new w.drew _ _ j⟩⟩, Or.inr rfl, Gx.of_G ((G.refl w).drew.more _)⟩
  rw [hcell, Array.getElem?_eq_getElem hj]
  rfl

/-- append of one number, in whatever world. -/
theorem run_app (ty : TypeId) (hr : RowW w B ao cap ys) (hB : B ≤ w.heap.size) (xb c : Nat) (v : Int) (hx : w.cell? ⟨xb, 0, none⟩ = some (.int .i64 v)) (hn : ys.length ≤ 1000) :
    ∃ ao' cap' w', (Builtin.append_ #[33, 33] ty #[.slice ao ys.length cap, .slice (some ⟨xb, 0, none⟩) 1 c]).run Tryz.prog w = .ok (.slice ao' (ys.length + 1) cap') w' ∧ App w w' B ao ao' cap' (ys ++ [v]) := by
  obtain ⟨i0, hi0, hz0, hz1, hz2⟩ := info_parts info_int64
  have hs : Src Tryz.prog i0.size 33 (.slice (some ⟨xb, 0, none⟩) 1 c) 1 [.int .i64 v] w := Src.ofSlice w Tryz.underlying33 ⟨xb, 0, none⟩ 1 c [.int .i64 v] (by rw [hz1]; rfl) (fun j u hj => by
    match j, hj with
    | 0, hj =>
      simp at hj
      subst hj
      simpa [Addr.add] using hx) (fun u hu => by simp at hu; subst hu; rfl)
  have hgrow : ∀ (base : Option Addr) (sCap : Nat) (olds : List Value), sCap < ys.length + 1 → (Builtin.firstCells i0.size ys.length (.slice base ys.length sCap)).run Tryz.prog w.drew = .ok olds.toArray w.drew → olds = ys.map (fun x => Value.int .i64 x) →
      ∃ ao' cap' w', (Builtin.append_ #[33, 33] ty #[.slice base ys.length sCap, .slice (some ⟨xb, 0, none⟩) 1 c]).run Tryz.prog w = .ok (.slice ao' (ys.length + 1) cap') w' ∧ App w w' B ao ao' cap' (ys ++ [v]) := by
    rintro base sCap olds hc ho rfl
    have hfit : Builtin.nextslicecap (ys.length + 1) sCap * i0.bytes ≤ 281474976710656 := by rw [hz2]; exact growslice_fits hc (by omega)
    have hrun := run_append_grow_src (P := Tryz.prog) w 33 33 ty 2 i0 (.int .i64 0) Tryz.underlying33 hi0 hz0 base ys.length sCap _ ho _ 1 _ hs hc (by omega) hfit
    have hge := grownCap_ge w (ys.length + 1) sCap 2
    have hle := grownCap_le_maxLen w (ys.length + 1) sCap 2 (by unfold maxLen; omega)
    have hsize : ((ys.map (fun x => Value.int .i64 x) ++ [Value.int .i64 v]).toArray ++ Builtin.zeroCells (Value.int .i64 0).cells (grownCap w (ys.length + 1) sCap 2 - (ys.length + 1))).size = grownCap w (ys.length + 1) sCap 2 := by
      rw [Array.size_append, size_zeroCells]
      simp [Value.cells]
      omega
    have A := app_new (w := w) (ao := ao) hB v ((ys.map (fun x => Value.int .i64 x) ++ [Value.int .i64 v]).toArray ++ Builtin.zeroCells (Value.int .i64 0).cells (grownCap w (ys.length + 1) sCap 2 - (ys.length + 1))) (by rw [hsize]; exact hle) (by rw [hsize]; exact hge) (fun i x hi => by
      have hl : i < (ys ++ [v]).length := (List.getElem?_eq_some_iff.1 hi).1
      rw [Array.getElem?_append_left (by simpa using hl)]
      have e : ys.map (fun x => Value.int .i64 x) ++ [Value.int .i64 v] = (ys ++ [v]).map fun x => Value.int .i64 x := by simp
      rw [e, List.getElem?_toArray, List.getElem?_map, hi]
      rfl)
    rw [hsize] at A
    exact ⟨_, _, _, hrun, A⟩
  rcases hr.at_ with ⟨rfl, rfl, rfl⟩ | ⟨g, off, rfl, h1, h2, h3, h4, h5⟩
  · exact hgrow none 0 [] (by simp) (run_firstCells_none _ _ _ _ _) rfl
  · by_cases hroom : ys.length + 1 ≤ cap
    · have hrun := run_append_room_src (P := Tryz.prog) w 33 33 ty 2 i0 Tryz.underlying33 hi0 g off ys.length cap _ 1 _ hs hroom (fun j hj => by
        simp at hj
        subst hj
        rw [hz1, Nat.mul_one, Nat.add_zero]
        exact h4 _ (by omega)) (fun j _ => h5 _)
      rw [hz1, Nat.mul_one] at hrun
      have e0 : w.setCells g (off + ys.length) [.int .i64 v] = w.setCell ⟨g, off + ys.length, none⟩ (.int .i64 v) := rfl
      rw [e0] at hrun
      have hold := h4 ys.length (by omega)
      obtain ⟨u, hu⟩ := Option.isSome_iff_exists.1 hold
      refine ⟨_, _, _, hrun, ⟨by simp; omega, hr.cm, Or.inr ⟨g, off, rfl, h1, by rw [World.size_setCell]; exact h2, fun i x hi => ?_, fun j hj => ?_, fun j => by rw [World.frozen?_setCell]; exact h5 j⟩⟩, Or.inl rfl, ?_⟩
      · rcases snoc_get hi with ⟨e, hi⟩ | ⟨e, rfl⟩
        · rw [cell_other _ (by omega)]; exact h3 i x hi
        · subst e; exact cell_same _ hu
      · by_cases e : j = ys.length
        · subst e; rw [cell_same _ hu]; rfl
        · rw [cell_other _ (by omega)]; exact h4 j hj
      · refine ⟨rfl, rfl, rfl, by rw [World.size_setCell]; exact Nat.le_refl _, fun k hk hb => heap_set _ _ (fun e => hb (by simp [blk]; exact e))⟩
    · refine hgrow (some ⟨g, off, none⟩) cap _ (by omega) (run_firstCells_some w.drew i0.size ys.length ⟨g, off, none⟩ ys.length cap (ys.map fun x => Value.int .i64 x) (by rw [hz1]; simp) (fun j u hj => ?_)) rfl
      rw [List.getElem?_map] at hj
      obtain ⟨x, hx1, rfl⟩ := Option.map_eq_some_iff.1 hj
      rw [Addr.add_lit]
      exact h3 j x hx1

/-- The same, at the operation. -/
theorem wpl_app {ops : Array Oper} {rest : List Oper} {o : Oper} {a : Act} {Q : Exit → Act → World → Prop} (hgd : o.guard = none) (s x : Operand) (ho : o.op = .call { callee := .builtin .append, args := #[s, x], argTypes := #[33, 33] })
    (k m : Nat) (hk : ys.length = k) (hm : k + 1 = m) (hs : a.eval s = .slice ao k cap) (hr : RowW w B ao cap ys) (hB : B ≤ w.heap.size) (xb c : Nat) (v : Int) (hxe : a.eval x = .slice (some ⟨xb, 0, none⟩) 1 c) (hx : w.cell? ⟨xb, 0, none⟩ = some (.int .i64 v)) (hn : ys.length ≤ 1000)
    (h : ∀ ao' cap' w', App w w' B ao ao' cap' (ys ++ [v]) → wpList Tryz.prog ops Q rest (a.put o.dst (.slice ao' m cap')) w') : wpList Tryz.prog ops Q (o :: rest) a w := by
  subst hk
  subst hm
  refine wpList_plain hgd fun K hK => ?_
  obtain ⟨ao', cap', w', hrun, A⟩ := run_app o.type hr hB xb c v hx hn
  unfold Oper.wp execOp
  simp only [ho, resolve, invoke, builtin, Sem.run_bind, Sem.run_pure, Result.andThen_ok, List.map_toArray, List.map_cons, List.map_nil, hs, hxe, hrun]
  exact hK _ _ (h ao' cap' w' A)
end

/-- Numbers that can be read. -/
def IsI (w : World) (ao : Option Addr) (ys : List Int) : Prop := ys = [] ∨ ∃ g off, ao = some ⟨g, off, none⟩ ∧ g < w.heap.size ∧ ∀ i x, ys[i]? = some x → w.cell? ⟨g, off + i, none⟩ = some (.int .i64 x)
theorem IsI.g {w w' : World} {ao : Option Addr} {ys : List Int} (h : IsI w ao ys) (g : G w w') : IsI w' ao ys := by
  rcases h with h | ⟨b, off, h1, h2, h3⟩
  · exact Or.inl h
  · exact Or.inr ⟨b, off, h1, Nat.lt_of_lt_of_le h2 g.size, fun i x hi => g.cell (h3 i x hi)⟩
theorem IsI.at_ {w : World} {ao : Option Addr} {ys : List Int} (h : IsI w ao ys) {i : Nat} (hi : i < ys.length) : ∃ x g off, ys[i]? = some x ∧ ao = some ⟨g, off, none⟩ ∧ w.cell? ⟨g, off + i, none⟩ = some (.int .i64 x) := by
  rcases h with rfl | ⟨b, off, h1, h2, h3⟩
  · simp at hi
  · exact ⟨_, b, off, List.getElem?_eq_getElem hi, h1, h3 i _ (List.getElem?_eq_getElem hi)⟩
theorem RowW.is {w : World} {B cap : Nat} {ao : Option Addr} {ys : List Int} (h : RowW w B ao cap ys) : IsI w ao ys := by
  rcases h.at_ with ⟨_, h, _⟩ | ⟨g, off, h1, h2, h3, h4, _⟩
  · exact Or.inl h
  · exact Or.inr ⟨g, off, h1, h3, h4⟩

end Go.Proofs.YtdnhmkbdphpjcaaGreatDoor.Gy

/- ChansPlays: while the channels are played with. -/
namespace Go.Proofs.YtdnhmkbdphpjcaaGreatDoor
set_option maxRecDepth 100000
open Go.ChangeShapes Go.WideShapes Go.ChangeAt Go.RowKit Go.Maps Go.Deep

/-- f, but v at k. -/
abbrev at1 {α : Type} (f : Nat → α) (k : Nat) (v : α) : Nat → α := fun j => if j = k then v else f j
theorem at1_same {α : Type} (f : Nat → α) (k : Nat) (v : α) : at1 f k v k = v := if_pos rfl
theorem at1_other {α : Type} (f : Nat → α) {k j : Nat} (v : α) (h : j ≠ k) : at1 f k v j = f j := if_neg h
theorem at1_id {α : Type} (f : Nat → α) (k : Nat) : at1 f k (f k) = f := funext fun j => by
  unfold at1
  split
  · rename_i e; rw [e]
  · rfl
/-- The law's rows: addresses, what is in each channel, which are closed. -/
structure L2 (S N : Nat) (w : World) (ab vb cb : Nat) (at_ : List Int) (ql : Nat → List Int) (cl : Nat → Bool) (av : Nat → Option Addr) (kv : Nat → Nat) : Prop where
  ac : ∀ (k : Nat) (a : Int), at_[k]? = some a → w.cell? ⟨ab, k, none⟩ = some (.int .i64 a)
  vc : ∀ k, k < N → w.cell? ⟨vb, k, none⟩ = some (.slice (av k) (ql k).length (kv k))
  vf : ∀ k, w.frozen? ⟨vb, k, none⟩ = false
  vr : ∀ k, k < N → Gy.RowW w S (av k) (kv k) (ql k)
  cc : ∀ k, k < N → w.cell? ⟨cb, k, none⟩ = some (.bool (cl k))
  cf : ∀ k, w.frozen? ⟨cb, k, none⟩ = false
  lo : S ≤ ab ∧ S ≤ vb ∧ S ≤ cb
  lt : ab < w.heap.size ∧ vb < w.heap.size ∧ cb < w.heap.size
  col : ∃ e : Nat → Nat, e ab = 1 ∧ e vb = 2 ∧ e cb = 3 ∧ ∀ k, k < N → ∀ d ∈ Gy.blk (av k), e d = 10 + k
section
variable {S N ab vb cb : Nat} {w w1 w' : World} {at_ : List Int} {ql : Nat → List Int} {cl : Nat → Bool} {av : Nat → Option Addr} {kv : Nat → Nat}
theorem L2.kept (h : L2 S N w ab vb cb at_ ql cl av kv) (hs : w.heap.size ≤ w'.heap.size) (k : ∀ d, S ≤ d → d < w.heap.size → w'.heap[d]? = w.heap[d]?) : L2 S N w' ab vb cb at_ ql cl av kv := by
  obtain ⟨l1, l2, l3⟩ := h.lo
  obtain ⟨t1, t2, t3⟩ := h.lt
  have ka := k ab l1 t1
  have kv' := k vb l2 t2
  have kc := k cb l3 t3
  exact ⟨fun j a hj => (World.cell?_of_block (a := ⟨ab, j, none⟩) ka).trans (h.ac j a hj), fun j hj => (World.cell?_of_block (a := ⟨vb, j, none⟩) kv').trans (h.vc j hj), fun j => (World.frozen?_of_block (a := ⟨vb, j, none⟩) kv').trans (h.vf j), fun j hj => (h.vr j hj).kept fun d hd => k d ((h.vr j hj).lo d hd).1 ((h.vr j hj).lo d hd).2, fun j hj => (World.cell?_of_block (a := ⟨cb, j, none⟩) kc).trans (h.cc j hj), fun j => (World.frozen?_of_block (a := ⟨cb, j, none⟩) kc).trans (h.cf j), h.lo, ⟨by omega, by omega, by omega⟩, h.col⟩
theorem L2.gr (h : L2 S N w ab vb cb at_ ql cl av kv) (g : G w w') : L2 S N w' ab vb cb at_ ql cl av kv := h.kept g.size fun d _ hd => g.block d hd
/-- v[k] has another row then. -/
theorem L2.row (h : L2 S N w ab vb cb at_ ql cl av kv) {k : Nat} (hk : k < N) {q : List Int} {ao' : Option Addr} {cap' : Nat} (r : Gy.RowW w' S ao' cap' q) (hs : w.heap.size ≤ w'.heap.size) (kp : ∀ d, d < w.heap.size → d ∉ Gy.blk (av k) → w'.heap[d]? = w.heap[d]?) (ob : ∀ d ∈ Gy.blk ao', d ∈ Gy.blk (av k) ∨ w.heap.size ≤ d) :
    w'.cell? ⟨vb, k, none⟩ = some (.slice (av k) (ql k).length (kv k)) ∧ w'.frozen? ⟨vb, k, none⟩ = false ∧ L2 S N (w'.setCell ⟨vb, k, none⟩ (.slice ao' q.length cap')) ab vb cb at_ (at1 ql k q) cl (at1 av k ao') (at1 kv k cap') := by
  obtain ⟨e, e1, e2, e3, e4⟩ := h.col
  obtain ⟨t1, t2, t3⟩ := h.lt
  have nb : ∀ d, e d < 10 → d ∉ Gy.blk (av k) := fun d hd hm => by have := e4 k hk d hm; omega
  have ka := kp ab t1 (nb ab (by omega))
  have kv' := kp vb t2 (nb vb (by omega))
  have kc := kp cb t3 (nb cb (by omega))
  have hcell := (World.cell?_of_block (a := ⟨vb, k, none⟩) kv').trans (h.vc k hk)
  refine ⟨hcell, (World.frozen?_of_block (a := ⟨vb, k, none⟩) kv').trans (h.vf k), ?_⟩
  have ks : ∀ d, d ≠ vb → (w'.setCell ⟨vb, k, none⟩ (.slice ao' q.length cap')).heap[d]? = w'.heap[d]? := fun d hd => Below.heap_setCell _ _ _ _ (by show d ≠ vb; exact hd)
  have nab : ab ≠ vb := fun q => by rw [q] at e1; omega
  have ncb : cb ≠ vb := fun q => by rw [q] at e3; omega
  have ka2 := (ks ab nab).trans ka
  have kc2 := (ks cb ncb).trans kc
  have nvb : ∀ d, d ∈ Gy.blk ao' → d ≠ vb := fun d hd q' => by
    rcases ob d hd with hh | hh
    · exact nb vb (by omega) (q' ▸ hh)
    · omega
  refine ⟨fun j a hj => (World.cell?_of_block (a := ⟨ab, j, none⟩) ka2).trans (h.ac j a hj), fun j hj => ?_, fun j => by rw [World.frozen?_setCell]; exact (World.frozen?_of_block (a := ⟨vb, j, none⟩) kv').trans (h.vf j), fun j hj => ?_, fun j hj => (World.cell?_of_block (a := ⟨cb, j, none⟩) kc2).trans (h.cc j hj), fun j => (World.frozen?_of_block (a := ⟨cb, j, none⟩) kc2).trans (h.cf j), h.lo, by rw [World.size_setCell]; exact ⟨by omega, by omega, by omega⟩, fun d => if w.heap.size ≤ d then 10 + k else e d, (if_neg (by omega)).trans e1, (if_neg (by omega)).trans e2, (if_neg (by omega)).trans e3, fun j hj d hd => ?_⟩
  · by_cases ej : j = k
    · subst ej
      rw [at1_same, at1_same, at1_same]
      exact cell_same _ hcell
    · rw [at1_other _ _ ej, at1_other _ _ ej, at1_other _ _ ej, cell_other _ (Or.inr ej)]
      exact (World.cell?_of_block (a := ⟨vb, j, none⟩) kv').trans (h.vc j hj)
  · by_cases ej : j = k
    · subst ej
      rw [at1_same, at1_same, at1_same]
      exact r.kept fun d hd => ks d (nvb d hd)
    · rw [at1_other _ _ ej, at1_other _ _ ej, at1_other _ _ ej]
      refine (h.vr j hj).kept fun d hd => ?_
      have hc := e4 j hj d hd
      have hl := ((h.vr j hj).lo d hd).2
      exact (ks d (fun q' => by rw [q', e2] at hc; omega)).trans (kp d hl (fun hm => by have := e4 k hk d hm; omega))
  · by_cases ej : j = k
    · subst ej
      rw [at1_same] at hd
      rcases ob d hd with hh | hh
      · exact (if_neg (by have := ((h.vr j hj).lo d hh).2; omega)).trans (e4 j hj d hh)
      · exact if_pos hh
    · rw [at1_other _ _ ej] at hd
      exact (if_neg (by have := ((h.vr j hj).lo d hd).2; omega)).trans (e4 j hj d hd)
/-- closed[k] is set. -/
theorem L2.shut (h : L2 S N w ab vb cb at_ ql cl av kv) {k : Nat} (hk : k < N) : L2 S N (w.setCell ⟨cb, k, none⟩ (.bool true)) ab vb cb at_ ql (at1 cl k true) av kv := by
  obtain ⟨e, e1, e2, e3, e4⟩ := h.col
  have ks : ∀ d, d ≠ cb → (w.setCell ⟨cb, k, none⟩ (.bool true)).heap[d]? = w.heap[d]? := fun d hd => Below.heap_setCell _ _ _ _ (by show d ≠ cb; exact hd)
  have nab : ab ≠ cb := fun q => by rw [q] at e1; omega
  have nvb : vb ≠ cb := fun q => by rw [q] at e2; omega
  have ka := ks ab nab
  have kv' := ks vb nvb
  refine ⟨fun j a hj => (World.cell?_of_block (a := ⟨ab, j, none⟩) ka).trans (h.ac j a hj), fun j hj => (World.cell?_of_block (a := ⟨vb, j, none⟩) kv').trans (h.vc j hj), fun j => (World.frozen?_of_block (a := ⟨vb, j, none⟩) kv').trans (h.vf j), fun j hj => (h.vr j hj).kept fun d hd => ks d (fun q => by have := e4 j hj d hd; rw [q, e3] at this; omega), fun j hj => ?_, fun j => by rw [World.frozen?_setCell]; exact h.cf j, h.lo, by rw [World.size_setCell]; exact h.lt, e, e1, e2, e3, e4⟩
  by_cases ej : j = k
  · subst ej
    rw [at1_same]
    exact cell_same _ (h.cc j hj)
  · rw [at1_other _ _ ej, cell_other _ (Or.inr ej)]
    exact h.cc j hj
end
/-- All of it: qc, cc: in the heap; ql, cl: in the law's rows. -/
def P2 (L : Lw) (ab vb : Nat) (at_ : List Int) (qc ql : Nat → List Int) (cc cl : Nat → Bool) (av : Nat → Option Addr) (kv : Nat → Nat) (w : World) : Prop :=
  L.Ok ∧ at_.length = L.rs.length ∧ ∃ al, HS L.W w L.x al ls5 3 L.ao L.cap L.nv L.c ∧ Chs al L.rs at_ qc cc ∧ L2 L.S L.rs.length w ab vb L.cb at_ ql cl av kv ∧ L.S ≤ w.heap.size
section
variable {L : Lw} {ab vb : Nat} {at_ : List Int} {qc ql : Nat → List Int} {cc cl : Nat → Bool} {av : Nat → Option Addr} {kv : Nat → Nat} {w w' : World}
theorem P2.gr (h : P2 L ab vb at_ qc ql cc cl av kv w) (g : G w w') : P2 L ab vb at_ qc ql cc cl av kv w' := by
  obtain ⟨k, hl, al, S, C, M, z⟩ := h
  exact ⟨k, hl, al, S.gr g, C, M.gr g, Nat.le_trans z g.size⟩
theorem P2.below (h : P2 L ab vb at_ qc ql cc cl av kv w) : Below L.W.heap.size L.W w := by
  obtain ⟨k, hl, al, S, C, M, z⟩ := h
  exact S.ks.st.below
theorem P2.sz (h : P2 L ab vb at_ qc ql cc cl av kv w) : L.S ≤ w.heap.size := by
  obtain ⟨k, hl, al, S, C, M, z⟩ := h
  exact z
theorem P2.l2 (h : P2 L ab vb at_ qc ql cc cl av kv w) : L2 L.S L.rs.length w ab vb L.cb at_ ql cl av kv := by
  obtain ⟨k, hl, al, S, C, M, z⟩ := h
  exact M
theorem P2.low (h : P2 L ab vb at_ qc ql cc cl av kv w) {k : Nat} (hk : k < L.rs.length) : ∀ d ∈ Gy.blk (av k), d < w.heap.size := fun d hd => ((h.l2.vr k hk).lo d hd).2
theorem P2.vfz (h : P2 L ab vb at_ qc ql cc cl av kv w) (k : Nat) : w.frozen? ⟨vb, k, none⟩ = false := h.l2.vf k
theorem P2.cfz (h : P2 L ab vb at_ qc ql cc cl av kv w) (k : Nat) : w.frozen? ⟨L.cb, k, none⟩ = false := h.l2.cf k
theorem cell_blk {b o : Nat} {v : Value} (hb : w'.heap[b]? = w.heap[b]?) (h : w.cell? ⟨b, o, none⟩ = some v) : w'.cell? ⟨b, o, none⟩ = some v := by
  unfold World.cell? at h ⊢
  rw [show (⟨b, o, none⟩ : Addr).block = b from rfl] at h ⊢
  rw [hb]
  exact h
theorem P2.got (h : P2 L ab vb at_ qc ql cc cl av kv w) {k : Nat} (hk : k < L.rs.length) : ∃ r a, L.rs[k]? = some r ∧ at_[k]? = some a := by
  obtain ⟨_, hl, _⟩ := h
  exact ⟨_, _, List.getElem?_eq_getElem hk, List.getElem?_eq_getElem (by omega)⟩
theorem fr_over (f : Fr (ownH L.x ()) (ownH L.x ()) w w') {al : Al} (S : HS L.W w L.x al ls5 3 L.ao L.cap L.nv L.c) (k : L.Ok) : ∀ d, L.S ≤ d → d < w.heap.size → w'.heap[d]? = w.heap[d]? := fun d hd hl => f.kept d hl (fun ho => by
  obtain ⟨_, a2, a3, a4, _⟩ := S.cA
  have h9 := k.h9 d hd
  rcases ho with e | e | e
  · rw [e, a2] at h9; omega
  · rw [e, a3] at h9; omega
  · rw [e, a4] at h9; omega)
/-- What is not the heap's is as it was. -/
def KpS (S : Nat) (w w' : World) : Prop := w.heap.size ≤ w'.heap.size ∧ ∀ d, S ≤ d → d < w.heap.size → w'.heap[d]? = w.heap[d]?
theorem KpS.of_G {S : Nat} (g : G w w') : KpS S w w' := ⟨g.size, fun d _ hd => g.block d hd⟩
/-- Push: what the law asks. -/
def okP (r a : Int) (q : List Int) (c : Bool) : Bool := (a != 0) && !c && decide ((q.length : Int) < r)
theorem P2.good (h : P2 L ab vb at_ qc ql cc cl av kv w) {k : Nat} {r a : Int} (hr : L.rs[k]? = some r) (ha : at_[k]? = some a) : (0 ≤ r ∧ r ≤ 59 ∧ a ≠ 0 ∧ (qc k).length ≤ 59) ∨ (¬ (0 ≤ r ∧ r ≤ 59) ∧ a = 0 ∧ qc k = []) := by
  obtain ⟨_, hl, al, S, C, M, z⟩ := h
  by_cases hg : 0 ≤ r ∧ r ≤ 59
  · obtain ⟨_, f, Q⟩ := C.ok k r a hr ha hg
    exact Or.inl ⟨hg.1, hg.2, C.ne0 S.ks.st.st.good hr ha hg, by have := Q.len; omega⟩
  · obtain ⟨e1, e2⟩ := C.bad k r a hr ha hg
    exact Or.inr ⟨hg, e1, e2⟩
theorem p2_push (h : Hid (P2 L ab vb at_ qc ql cc cl av kv w)) {k : Nat} {r a : Int} (hr : L.rs[k]? = some r) (ha : at_[k]? = some a) (v : Int) : Calls Tryz.prog 13 #[.pointer (some ⟨L.x.hb, 0, none⟩), .int .i64 a, .int .i64 v, .int .i64 1] w fun e w' => e = .returned (.bool (okP r a (qc k) (cc k))) ∧ P2 L ab vb at_ (if okP r a (qc k) (cc k) = true then at1 qc k (qc k ++ [v]) else qc) ql cc cl av kv w' ∧ KpS L.S w w' := by
  have H := hide (hv_hs L.W L.x ls5 3 L.ao L.cap L.nv L.c ls5_m)
  have hgd := (unhide h).good hr ha
  obtain ⟨kk, hl, al, S, C, M, z⟩ := unhide h
  rcases hgd with ⟨g0, g1, g2, g3⟩ | ⟨g0, rfl, g2⟩
  · obtain ⟨Z, f, Q⟩ := C.ok k r a hr ha ⟨g0, g1⟩
    by_cases hok : cc k = false ∧ (qc k).length < r.toNat
    · have e : okP r a (qc k) (cc k) = true := by unfold okP; rw [hok.1]; simp; omega
      rw [e, if_pos rfl]
      rw [hok.1] at Q
      refine (c_push H (g := ()) (hide S) Z Q hok.2 v 1 _ (fun _ => True) (fun e => by cases e) (fun _ => ⟨rfl, trivial⟩) (Z.write (by omega) (by omega))).mono ?_
      rintro e w' ⟨he, g2', _, S2, F2⟩
      have C2 := C.push S.ks.st.st.good (v := v) hr ha ⟨g0, g1⟩ Z (by rw [hok.1]; exact Q) hok.2
      rw [show (fun j => if j = k then cc k else cc j) = cc from at1_id cc k] at C2
      exact ⟨he, ⟨kk, hl, _, S2, C2, M.kept F2.size (fr_over F2 S kk), Nat.le_trans z F2.size⟩, F2.size, fr_over F2 S kk⟩
    · have e : okP r a (qc k) (cc k) = false := by
        unfold okP
        cases hc : cc k
        · simp
          intro _
          have : ¬ (qc k).length < r.toNat := fun hh => hok ⟨hc, hh⟩
          omega
        · simp
      rw [e, if_neg (by decide)]
      refine (c_push_full H (g := ()) (hide S) Z Q (by
        cases hc : cc k
        · right
          have : ¬ (qc k).length < r.toNat := fun hh => hok ⟨hc, hh⟩
          omega
        · exact Or.inl rfl) v 1).mono fun _ _ hh => ⟨hh.1, (unhide h).gr hh.2, KpS.of_G hh.2⟩
  · have e : okP r 0 (qc k) (cc k) = false := by unfold okP; simp
    rw [e, if_neg (by decide)]
    exact (c_push_no H (g := ()) (hide S) (of_zero _ _) v 1).mono fun _ _ hh => ⟨hh.1, (unhide h).gr hh.2, KpS.of_G hh.2⟩
theorem p2_pop_empty (h : Hid (P2 L ab vb at_ qc ql cc cl av kv w)) {k : Nat} {r a : Int} (hr : L.rs[k]? = some r) (ha : at_[k]? = some a) (hq : qc k = []) : Calls Tryz.prog 12 #[.pointer (some ⟨L.x.hb, 0, none⟩), .int .i64 a] w fun e w' => e = .returned (.tuple #[.int .i64 0, .bool false]) ∧ P2 L ab vb at_ qc ql cc cl av kv w' := by
  have H := hide (hv_hs L.W L.x ls5 3 L.ao L.cap L.nv L.c ls5_m)
  have hgd := (unhide h).good hr ha
  obtain ⟨kk, hl, al, S, C, M, z⟩ := unhide h
  rcases hgd with ⟨g0, g1, g2, g3⟩ | ⟨g0, rfl, g2⟩
  · obtain ⟨Z, f, Q⟩ := C.ok k r a hr ha ⟨g0, g1⟩
    rw [hq] at Q
    exact (c_pop_empty H (g := ()) (hide S) Z Q).mono fun _ _ hh => ⟨hh.1, (unhide h).gr hh.2⟩
  · exact (c_pop_no H (g := ()) (hide S) (of_zero _ _)).mono fun _ _ hh => ⟨hh.1, (unhide h).gr hh.2⟩
theorem p2_pop (h : Hid (P2 L ab vb at_ qc ql cc cl av kv w)) {k : Nat} {r a v : Int} {q : List Int} (hr : L.rs[k]? = some r) (ha : at_[k]? = some a) (hq : qc k = v :: q) : Calls Tryz.prog 12 #[.pointer (some ⟨L.x.hb, 0, none⟩), .int .i64 a] w fun e w' => e = .returned (.tuple #[.int .i64 v, .bool true]) ∧ P2 L ab vb at_ (at1 qc k q) ql cc cl av kv w' := by
  have H := hide (hv_hs L.W L.x ls5 3 L.ao L.cap L.nv L.c ls5_m)
  have hgd := (unhide h).good hr ha
  obtain ⟨kk, hl, al, S, C, M, z⟩ := unhide h
  rcases hgd with ⟨g0, g1, g2, g3⟩ | ⟨g0, rfl, g2⟩
  · obtain ⟨Z, f, Q⟩ := C.ok k r a hr ha ⟨g0, g1⟩
    rw [hq] at Q
    refine (c_pop H (g := ()) (hide S) Z Q _ (fun _ => True) (fun e => by cases e) (fun _ => ⟨rfl, trivial⟩) (Z.write (by omega) (by omega))).mono ?_
    rintro e w' ⟨he, g2', _, S2, F2⟩
    have C2 := C.pop S.ks.st.st.good hr ha ⟨g0, g1⟩ Z Q
    rw [show (fun j => if j = k then cc k else cc j) = cc from at1_id cc k] at C2
    exact ⟨he, kk, hl, _, S2, C2, M.kept F2.size (fr_over F2 S kk), Nat.le_trans z F2.size⟩
  · rw [hq] at g2; cases g2
/-- Close: what the law asks. -/
def okC (a : Int) (c : Bool) : Bool := (a != 0) && !c
theorem p2_close (h : Hid (P2 L ab vb at_ qc ql cc cl av kv w)) {k : Nat} {r a : Int} (hr : L.rs[k]? = some r) (ha : at_[k]? = some a) : Calls Tryz.prog 14 #[.pointer (some ⟨L.x.hb, 0, none⟩), .int .i64 a] w fun e w' => e = .returned (.bool (okC a (cc k))) ∧ P2 L ab vb at_ qc ql (at1 cc k true) cl av kv w' := by
  have H := hide (hv_hs L.W L.x ls5 3 L.ao L.cap L.nv L.c ls5_m)
  have hgd := (unhide h).good hr ha
  obtain ⟨kk, hl, al, S, C, M, z⟩ := unhide h
  rcases hgd with ⟨g0, g1, g2, g3⟩ | ⟨g0, rfl, g2⟩
  · obtain ⟨Z, f, Q⟩ := C.ok k r a hr ha ⟨g0, g1⟩
    cases hc : cc k
    · have e : okC a false = true := by unfold okC; simp [g2]
      rw [e]
      rw [hc] at Q
      refine (c_close H (g := ()) (hide S) Z Q).mono ?_
      rintro e w' ⟨he, S2, F2⟩
      have C2 := C.close S.ks.st.st.good hr ha ⟨g0, g1⟩ Z (by rw [hc]; exact Q)
      rw [show (fun j => if j = k then qc k else qc j) = qc from at1_id qc k] at C2
      exact ⟨he, kk, hl, _, S2, C2, M.kept F2.size (fr_over F2 S kk), Nat.le_trans z F2.size⟩
    · have e : okC a true = false := by unfold okC; simp
      rw [e]
      rw [hc] at Q
      refine (c_close_shut H (g := ()) (hide S) Z Q).mono fun _ _ hh => ⟨hh.1, ?_⟩
      have := (unhide h).gr hh.2
      rw [show at1 cc k true = cc from by rw [← hc]; exact at1_id cc k]
      exact this
  · have e : okC 0 (cc k) = false := by unfold okC; simp
    rw [e]
    refine (c_close_no H (g := ()) (hide S) (of_zero _ _)).mono fun _ _ hh => ⟨hh.1, kk, hl, al, S.gr hh.2, ⟨fun j r' b hr' hb hg' => ?_, C.bad, C.ne, C.le⟩, M.gr hh.2, Nat.le_trans z hh.2.size⟩
    have hj : j ≠ k := fun e => by subst e; rw [hr] at hr'; cases hr'; exact g0 hg'
    obtain ⟨Z, f, Q⟩ := C.ok j r' b hr' hb hg'
    exact ⟨Z, f, by rw [at1_other _ _ hj]; exact Q⟩
theorem p2_count (h : Hid (P2 L ab vb at_ qc ql cc cl av kv w)) {k : Nat} {r a : Int} (hr : L.rs[k]? = some r) (ha : at_[k]? = some a) : Calls Tryz.prog 17 #[.pointer (some ⟨L.x.hb, 0, none⟩), .int .i64 a] w fun e w' => e = .returned (.int .i64 ((qc k).length : Int)) ∧ G w w' := by
  have H := hide (hv_hs L.W L.x ls5 3 L.ao L.cap L.nv L.c ls5_m)
  have hgd := (unhide h).good hr ha
  obtain ⟨kk, hl, al, S, C, M, z⟩ := unhide h
  rcases hgd with ⟨g0, g1, g2, g3⟩ | ⟨g0, rfl, g2⟩
  · obtain ⟨Z, f, Q⟩ := C.ok k r a hr ha ⟨g0, g1⟩
    exact c_count H (g := ()) (hide S) Z Q
  · rw [g2]
    exact c_count_no H (g := ()) (hide S) (of_zero _ _)
def okS (a : Int) (c : Bool) : Bool := (a == 0) || c
theorem p2_shut (h : Hid (P2 L ab vb at_ qc ql cc cl av kv w)) {k : Nat} {r a : Int} (hr : L.rs[k]? = some r) (ha : at_[k]? = some a) : Calls Tryz.prog 15 #[.pointer (some ⟨L.x.hb, 0, none⟩), .int .i64 a] w fun e w' => e = .returned (.bool (okS a (cc k))) ∧ G w w' := by
  have H := hide (hv_hs L.W L.x ls5 3 L.ao L.cap L.nv L.c ls5_m)
  have hgd := (unhide h).good hr ha
  obtain ⟨kk, hl, al, S, C, M, z⟩ := unhide h
  rcases hgd with ⟨g0, g1, g2, g3⟩ | ⟨g0, rfl, g2⟩
  · obtain ⟨Z, f, Q⟩ := C.ok k r a hr ha ⟨g0, g1⟩
    have e : okS a (cc k) = cc k := by unfold okS; simp [g2]
    rw [e]
    exact c_shut H (g := ()) (hide S) Z Q
  · have e : okS 0 (cc k) = true := by unfold okS; simp
    rw [e]
    exact c_shut_no H (g := ()) (hide S) (of_zero _ _)
/-- v[k] = append(v[k], y). -/
theorem P2.app (h : P2 L ab vb at_ qc ql cc cl av kv w) {k : Nat} (hk : k < L.rs.length) (hn : (ql k).length ≤ 1000) (y : Int) : ∃ ao' cap' w', (Builtin.append_ #[33, 33] 33 #[.slice (av k) (ql k).length (kv k), .slice (some ⟨w.heap.size, 0, none⟩) 1 1]).run Tryz.prog (w.alloc (.cells #[.int .i64 y] 2)) = .ok (.slice ao' ((ql k).length + 1) cap') w' ∧
    w'.cell? ⟨vb, k, none⟩ = some (.slice (av k) (ql k).length (kv k)) ∧ w'.frozen? ⟨vb, k, none⟩ = false ∧ (∀ d, d < w.heap.size → d ∉ Gy.blk (av k) → w'.heap[d]? = w.heap[d]?) ∧ P2 L ab vb at_ qc (at1 ql k (ql k ++ [y])) cc cl (at1 av k ao') (at1 kv k cap') (w'.setCell ⟨vb, k, none⟩ (.slice ao' ((ql k).length + 1) cap')) := by
  obtain ⟨kk, hl, al, S, C, M, z⟩ := h
  have ga := G.alloc w (.cells #[.int .i64 y] 2)
  obtain ⟨ao', cap', w', hrun, A1, A2, A3⟩ := Gy.run_app 33 ((M.gr ga).vr k hk) (Nat.le_trans z ga.size) w.heap.size 1 y (World.cell?_alloc_new _ _ _ 0) hn
  have hb : ∀ d ∈ Gy.blk (av k), L.S ≤ d := fun d hd => ((M.vr k hk).lo d hd).1
  have hob : ∀ d ∈ Gy.blk ao', d ∈ Gy.blk (av k) ∨ w.heap.size ≤ d := fun d hd => by
    rcases A2 with e | e
    · rw [e] at hd; exact Or.inl hd
    · rw [e] at hd
      simp at hd
      exact Or.inr (by rw [hd]; omega)
  obtain ⟨m1, m2, m3⟩ := M.row hk A1 (Nat.le_trans ga.size A3.size) (fun d hd hm => (A3.block d (Nat.lt_of_lt_of_le hd ga.size) hm).trans (ga.block d hd)) hob
  rw [List.length_append, List.length_singleton] at m3
  have ov : Ov L.S w (w'.setCell ⟨vb, k, none⟩ (.slice ao' ((ql k).length + 1) cap')) := ((Ov.of_G ga).trans ⟨A3.os, A3.tape, A3.output, A3.size, fun d hd hS => A3.block d hd (fun hm => by have := hb d hm; omega)⟩).trans (Ov.set _ M.lo.2.1)
  exact ⟨ao', cap', w', hrun, m1, m2, fun d hd hm => (A3.block d (Nat.lt_of_lt_of_le hd ga.size) hm).trans (ga.block d hd), kk, hl, al, S.over kk.h9 kk.hW ov, C, m3, Nat.le_trans z ov.size⟩
/-- v[k] = v[k][1:]. -/
theorem P2.cut (h : P2 L ab vb at_ qc ql cc cl av kv w) {k : Nat} (hk : k < L.rs.length) {y : Int} {q : List Int} (hq : ql k = y :: q) : ∃ g off, av k = some ⟨g, off, none⟩ ∧ w.cell? ⟨g, off, none⟩ = some (.int .i64 y) ∧ q.length + 1 ≤ kv k ∧ w.cell? ⟨vb, k, none⟩ = some (.slice (some ⟨g, off, none⟩) (q.length + 1) (kv k)) ∧ w.frozen? ⟨vb, k, none⟩ = false ∧
    P2 L ab vb at_ qc (at1 ql k q) cc cl (at1 av k (if kv k = 1 then some ⟨g, off, none⟩ else some ⟨g, off + 1, none⟩)) (at1 kv k (kv k - 1)) (w.setCell ⟨vb, k, none⟩ (.slice (if kv k = 1 then some ⟨g, off, none⟩ else some ⟨g, off + 1, none⟩) q.length (kv k - 1))) := by
  obtain ⟨kk, hl, al, S, C, M, z⟩ := h
  have r := M.vr k hk
  have vc := M.vc k hk
  have hle := r.le
  rw [hq] at r vc hle
  obtain ⟨g, off, e1, e2, e3, e4⟩ := r.tail
  rw [e1] at vc
  obtain ⟨m1, m2, m3⟩ := M.row hk e4 (Nat.le_refl _) (fun d _ _ => rfl) (fun d hd => Or.inl (by
    rw [e1]
    split at hd <;> simpa [Gy.blk] using hd))
  have ov : Ov L.S w (w.setCell ⟨vb, k, none⟩ (.slice (if kv k = 1 then some ⟨g, off, none⟩ else some ⟨g, off + 1, none⟩) q.length (kv k - 1))) := Ov.set _ M.lo.2.1
  exact ⟨g, off, e1, e2, by simpa using hle, vc, m2, kk, hl, al, S.over kk.h9 kk.hW ov, C, m3, Nat.le_trans z ov.size⟩
/-- closed[k] = true. -/
theorem P2.mark (h : P2 L ab vb at_ qc ql cc cl av kv w) {k : Nat} (hk : k < L.rs.length) : P2 L ab vb at_ qc ql cc (at1 cl k true) av kv (w.setCell ⟨L.cb, k, none⟩ (.bool true)) := by
  obtain ⟨kk, hl, al, S, C, M, z⟩ := h
  have ov : Ov L.S w (w.setCell ⟨L.cb, k, none⟩ (.bool true)) := Ov.set _ M.lo.2.2
  exact ⟨kk, hl, al, S.over kk.h9 kk.hW ov, C, M.shut hk, Nat.le_trans z ov.size⟩
/-- All are made. -/
theorem PG.to2 {a8 a9 a5 : Option Addr} {k8 k9 k5 : Nat} (h : PG L at_ (.slice a8 at_.length k8) (.slice a9 at_.length k9) (.slice a5 at_.length k5) (ivs at_) (nils at_.length) (ivs at_) w) (hl : at_.length = L.rs.length) (h1 : 1 ≤ at_.length) : ∃ ab vb, a8 = some ⟨ab, 0, none⟩ ∧ a9 = some ⟨vb, 0, none⟩ ∧ P2 L ab vb at_ (fun _ => []) (fun _ => []) (fun _ => false) (fun _ => false) (fun _ => none) (fun _ => 0) w := by
  obtain ⟨kk, al, S, R, C, M, z⟩ := h
  have ra := M.ra
  have rv := M.rv
  rw [show (ivs at_).length = at_.length from List.length_map _] at ra
  rw [show (nils at_.length).length = at_.length from List.length_replicate] at rv
  obtain ⟨e, e1, e2, e3, e4, e5⟩ := M.col
  rcases ra.2 with ⟨_, h0⟩ | ⟨ab, cpa, cura, ea, ba, _⟩
  · omega
  rcases rv.2 with ⟨_, h0⟩ | ⟨vb, cpv, curv, ev, bv, _⟩
  · omega
  have ea' : a8 = some ⟨ab, 0, none⟩ := by injection ea
  have ev' : a9 = some ⟨vb, 0, none⟩ := by injection ev
  subst ea'
  subst ev'
  have la := ra.lt ab rfl
  have lv := rv.lt vb rfl
  refine ⟨ab, vb, rfl, rfl, kk, hl, al, S, C, ⟨fun k a hk => ?_, fun k hk => ?_, fun k => rv.frozenAt k, fun k hk => Gy.RowW.nil w _, M.cl, M.cf, ⟨la.1, lv.1, M.lo.2⟩, ⟨la.2, lv.2, M.cz⟩, fun d => if d = ab then 1 else if d = vb then 2 else 3, if_pos rfl, ?_, ?_, fun k hk d hd => (by cases hd)⟩, z⟩
  · have hlt : k < at_.length := (List.getElem?_eq_some_iff.1 hk).1
    rw [ra.cellAt k (by omega), List.getElem?_map, hk]
    rfl
  · rw [rv.cellAt k (by omega), List.getElem?_replicate, if_pos (by omega)]
    rfl
  · have h3 := e3 ab rfl
    have h4 := e4 vb rfl
    exact (if_neg (fun q => by rw [q] at h4; omega)).trans (if_pos rfl)
  · have h3 := e3 ab rfl
    have h4 := e4 vb rfl
    exact (if_neg (fun q => by rw [q] at e2; omega)).trans (if_neg (fun q => by rw [q] at e2; omega))
end
end Go.Proofs.YtdnhmkbdphpjcaaGreatDoor

/- A list of calls, and numbers, that came in (package gantlinelaw15). -/
namespace Go.Proofs.YtdnhmkbdphpjcaaGreatDoor
set_option maxRecDepth 100000
open Go.ChangeShapes Go.WideShapes Go.ChangeAt Go.RowKit Go.Deep

/-- A call. -/
structure Ac where
  op : Int
  k : Int
  v : Int
def Ac.cells (s : Ac) : List Value := [.int .i64 s.op, .int .i64 s.k, .int .i64 s.v]
def Ac.obj (s : Ac) : Obj := .cells #[.int .i64 s.op, .int .i64 s.k, .int .i64 s.v] 46

theorem cells_act : Tryz.prog.cellsOf 46 = 3 := by kernel_rfl
theorem cells_int : Tryz.prog.cellsOf 3 = 1 := by kernel_rfl
theorem cells_i64 : Tryz.prog.cellsOf 2 = 1 := by kernel_rfl

theorem trod_struct3 {P : Program} {H : Type} {enc : TypeId × Value → H} {w : World} {base : Nat} {spare : Nat → Bool} {held : Bool} {t : TypeId} {f0 f1 f2 : Field} {fuel : Nat} {cs : List Value} {x : DataW H × List MemPlace} (ht : P.underlying t = some (.struct #[f0, f1, f2])) (h : DataW.trod enc P w base spare held fuel t cs = some x) :
    ∃ y0 y1 y2 n, cs.length = P.cellsOf t ∧ DataW.trod enc P w base spare held n f0.type ((cs.drop f0.offset).take (P.cellsOf f0.type)) = some y0 ∧ DataW.trod enc P w base spare held n f1.type ((cs.drop f1.offset).take (P.cellsOf f1.type)) = some y1 ∧ DataW.trod enc P w base spare held n f2.type ((cs.drop f2.offset).take (P.cellsOf f2.type)) = some y2 := by
  obtain ⟨xs, n, _, rfl, hl, hlen, hf⟩ := DataW.trod_struct ht h
  match xs, hlen with
  | [y0, y1, y2], _ => exact ⟨y0, y1, y2, n, hl, by simpa using hf 0 f0 rfl, by simpa using hf 1 f1 rfl, by simpa using hf 2 f2 rfl⟩

theorem act_of_cells {H : Type} {enc : TypeId × Value → H} {w : World} {base : Nat} {spare : Nat → Bool} {held : Bool} {fuel : Nat} {cs : List Value} {x : DataW H × List MemPlace}
    (hf : DataW.trod enc Tryz.prog w base spare held fuel 46 cs = some x) : ∃ s : Ac, cs = s.cells := by
  obtain ⟨y0, y1, y2, n, hl, t0, t1, t2⟩ := trod_struct3 Tryz.underlying46 hf
  rw [cells_act] at hl
  match cs, hl with
  | [x0, x1, x2], _ =>
    simp only [cells_int, cells_i64, List.take, List.drop] at t0 t1 t2
    obtain ⟨a0, e0, _⟩ := DataW.trod_int Tryz.underlying3 t0
    obtain ⟨a1, e1, _⟩ := DataW.trod_int Tryz.underlying3 t1
    obtain ⟨a2, e2, _⟩ := DataW.trod_int Tryz.underlying2 t2
    simp at e0 e1 e2
    subst e0 e1 e2
    exact ⟨⟨a0, a1, a2⟩, rfl⟩

/-- The three cells of a call at an address. -/
def ActAt (w : World) (b o : Nat) (s : Ac) : Prop :=
  w.cell? ⟨b, o, none⟩ = some (.int .i64 s.op) ∧ w.cell? ⟨b, o + 1, none⟩ = some (.int .i64 s.k) ∧ w.cell? ⟨b, o + 2, none⟩ = some (.int .i64 s.v)

/-- The calls l lie at ao in w. -/
def IsActs (w : World) (ao : Option Addr) (n : Nat) (l : List Ac) : Prop :=
  l.length = n ∧ n ≤ maxLen ∧ (n = 0 ∨ ∃ b off, ao = some ⟨b, off, none⟩ ∧ b < w.heap.size ∧ ∀ i s, l[i]? = some s → ActAt w b (off + i * 3) s)

theorem spot_none {w : World} {a : Addr} {v : Value} (h : w.cell? a = some v) : a = ⟨a.block, a.off, none⟩ := by
  obtain ⟨b, o, sp⟩ := a
  cases sp with
  | none => rfl
  | some x =>
    unfold World.cell? at h
    split at h <;> simp at h

theorem open_acts {H : Type} {enc : TypeId × Value → H} {w : World} {base b0 : Nat} {spare : Nat → Bool} {held : Bool} {r : Reach} {v : Value} {d : DataW H} {ps : List MemPlace}
    (hval : Value.okWide Tryz.prog w r b0 42 v) (hd : DataW.Trod enc Tryz.prog w base spare held 42 v d ps) :
    ∃ ao n c l, v = .slice ao n c ∧ IsActs w ao n l := by
  obtain ⟨ao, len, cap, rfl⟩ := okWide_slice Tryz.underlying42 hval
  obtain ⟨fuel, hf⟩ := hd
  rcases open_slice Tryz.underlying42 hf with ⟨hcs, _⟩ | ⟨a, len', cap', m, n, D, Pl, hcs, _, hl, hm, em, _, hel⟩
  · simp [Value.cells] at hcs
    obtain ⟨rfl, rfl, rfl⟩ := hcs
    exact ⟨none, 0, 0, [], rfl, rfl, Nat.zero_le _, Or.inl rfl⟩
  · simp [Value.cells] at hcs
    obtain ⟨rfl, rfl, rfl⟩ := hcs
    have hlm : len ≤ m := by rw [em]; split <;> omega
    have hs : ∀ i, i < len → ∃ s : Ac, w.cells? base (a.add (i * 3)) 3 = some s.cells := by
      intro i hi
      obtain ⟨cs', h1, h2⟩ := hel i (by omega)
      rw [cells_act] at h1
      obtain ⟨s, rfl⟩ := act_of_cells h2
      exact ⟨s, h1⟩
    have : Inhabited Ac := ⟨⟨0, 0, 0⟩⟩
    obtain ⟨S, hS⟩ := choose_lt hs
    refine ⟨some a, len, cap, (List.range len).map S, rfl, by simp, by omega, ?_⟩
    by_cases h0 : len = 0
    · exact Or.inl h0
    right
    have hc : ∀ i, i < len → ∀ j, j < 3 → w.cell? ((a.add (i * 3)).add j) = (S i).cells[j]? := fun i hi j hj => (World.cells?_some (hS i hi)).2.2 j hj
    have hz := hc 0 (by omega) 0 (by omega)
    simp [Ac.cells, Addr.add] at hz
    have ea := spot_none hz
    obtain ⟨ab, aoff, asp⟩ := a
    simp at ea
    subst ea
    refine ⟨ab, aoff, rfl, World.block_lt_of_cell? w _ hz, ?_⟩
    intro i s hi
    have hil : i < len := by
      have := (List.getElem?_eq_some_iff.1 hi).1
      simpa using this
    obtain rfl : S i = s := by simpa [hil] using hi
    have c0 := hc i hil 0 (by omega)
    have c1 := hc i hil 1 (by omega)
    have c2 := hc i hil 2 (by omega)
    rw [Addr.add_lit, Addr.add_lit] at c0 c1 c2
    exact ⟨c0, c1, c2⟩

/-- Numbers that lie at ao in w. -/
def IsR (w : World) (ao : Option Addr) (n : Nat) (l : List Int) : Prop :=
  l.length = n ∧ n ≤ maxLen ∧ (n = 0 ∨ ∃ b off, ao = some ⟨b, off, none⟩ ∧ b < w.heap.size ∧ ∀ (i : Nat) s, l[i]? = some s → w.cell? ⟨b, off + i, none⟩ = some (.int .i64 s))
theorem open_i64r {H : Type} {enc : TypeId × Value → H} {w : World} {base b0 : Nat} {spare : Nat → Bool} {held : Bool} {r : Reach} {v : Value} {d : DataW H} {ps : List MemPlace}
    (hval : Value.okWide Tryz.prog w r b0 33 v) (hd : DataW.Trod enc Tryz.prog w base spare held 33 v d ps) :
    ∃ ao n c l, v = .slice ao n c ∧ IsR w ao n l := by
  obtain ⟨ao, len, cap, rfl⟩ := okWide_slice Tryz.underlying33 hval
  obtain ⟨fuel, hf⟩ := hd
  rcases open_slice Tryz.underlying33 hf with ⟨hcs, _⟩ | ⟨a, len', cap', m, n, D, Pl, hcs, _, hl, hm, em, _, hel⟩
  · simp [Value.cells] at hcs
    obtain ⟨rfl, rfl, rfl⟩ := hcs
    exact ⟨none, 0, 0, [], rfl, rfl, Nat.zero_le _, Or.inl rfl⟩
  · simp [Value.cells] at hcs
    obtain ⟨rfl, rfl, rfl⟩ := hcs
    have hlm : len ≤ m := by rw [em]; split <;> omega
    have hs : ∀ i, i < len → ∃ s : Int, w.cells? base (a.add (i * 1)) 1 = some [.int .i64 s] := by
      intro i hi
      obtain ⟨cs', h1, h2⟩ := hel i (by omega)
      rw [cells_i64] at h1
      obtain ⟨s, rfl, _⟩ := DataW.trod_int Tryz.underlying2 h2
      exact ⟨s, h1⟩
    obtain ⟨S, hS⟩ := choose_lt hs
    refine ⟨some a, len, cap, (List.range len).map S, rfl, by simp, by omega, ?_⟩
    by_cases h0 : len = 0
    · exact Or.inl h0
    right
    have hc : ∀ i, i < len → ∀ j, j < 1 → w.cell? ((a.add (i * 1)).add j) = [Value.int .i64 (S i)][j]? := fun i hi j hj => (World.cells?_some (hS i hi)).2.2 j hj
    have hz := hc 0 (by omega) 0 (by omega)
    simp [Addr.add] at hz
    have ea := spot_none hz
    obtain ⟨ab, aoff, asp⟩ := a
    simp at ea
    subst ea
    refine ⟨ab, aoff, rfl, World.block_lt_of_cell? w _ hz, ?_⟩
    intro i s hi
    have hil : i < len := by
      have := (List.getElem?_eq_some_iff.1 hi).1
      simpa using this
    obtain rfl : S i = s := by simpa [hil] using hi
    have c0 := hc i hil 0 (by omega)
    rw [Addr.add_lit, Addr.add_lit] at c0
    simpa using c0

theorem IsActs.at_ {W w : World} {ao : Option Addr} {n : Nat} {l : List Ac} (h : IsActs W ao n l) (hb : Below W.heap.size W w) {i : Nat} (hi : i < n) : ∃ s b off, l[i]? = some s ∧ ao = some ⟨b, off, none⟩ ∧ b < w.heap.size ∧ ActAt w b (off + i * 3) s := by
  obtain ⟨h1, _, h3⟩ := h
  rcases h3 with h3 | ⟨b, off, rfl, hlt, h3⟩
  · omega
  · obtain ⟨s, hs⟩ : ∃ s, l[i]? = some s := ⟨l[i]'(by omega), List.getElem?_eq_getElem (by omega)⟩
    obtain ⟨c0, c1, c2⟩ := h3 i s hs
    have e : ∀ o, w.cell? ⟨b, o, none⟩ = W.cell? ⟨b, o, none⟩ := fun o => World.cell?_of_block (hb.block b hlt)
    exact ⟨s, b, off, hs, rfl, Nat.lt_of_lt_of_le hlt hb.size, (e _).trans c0, (e _).trans c1, (e _).trans c2⟩

end Go.Proofs.YtdnhmkbdphpjcaaGreatDoor
