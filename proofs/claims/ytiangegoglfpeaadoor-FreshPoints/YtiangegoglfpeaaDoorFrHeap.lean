/- container/heap over the graph's queue. -/
import Derived.Test.YtiangegoglfpeaaDoorFrMem
namespace Go.Proofs.YtiangegoglfpeaaDoor
set_option maxRecDepth 100000
open Go.RowKit Go.Maps Go.ChangeShapes Go.WideShapes Go.ChangeAt Go.Deep

/-- The graph's queue lies there. -/
structure QAt (C : List Value) (w : World) (gB B : Nat) (qv : Value) (l : List Int) : Prop where
  c : w.cell? ⟨gB, 18, none⟩ = some qv
  f : w.frozen? ⟨gB, 18, none⟩ = false
  own : OwnL w B qv l
  lt : gB < B
  s : w.rangeAt gB 0 C
  cl : C.length ≤ 18
abbrev hpV (gB : Nat) : Value := .iface 109 (.pointer (some ⟨gB, 18, none⟩))
theorem prom (w : World) (gB : Nat) (name : String) (f sg : Nat) (qv : Value) (hc : w.cell? ⟨gB, 18, none⟩ = some qv) (h : (Tryd.prog.info? 109).map (fun i => i.methods.find? (·.name == name)) = some (some ⟨name, sg, #[⟨103, 0, true⟩], some (f, false)⟩)) :
    (method 287 109 (.pointer (some ⟨gB, 18, none⟩)) name).run Tryd.prog w = .ok (f, qv) w := by
  obtain ⟨i, hi, hf⟩ : ∃ i, Tryd.prog.info? 109 = some i ∧ i.methods.find? (·.name == name) = some ⟨name, sg, #[⟨103, 0, true⟩], some (f, false)⟩ := by
    obtain ⟨i, h1, h2⟩ := Option.map_eq_some_iff.1 h
    exact ⟨i, h1, h2⟩
  have hl : (loadVar 101 ⟨gB, 18, none⟩).run Tryd.prog w = .ok qv w := by
    simp [loadVar, isAgg, run_underlying Tryd.underlying101]
    rw [hc]
  unfold method
  simp [typeInfo, hi, hf, follow, run_underlying Tryd.underlying103, Place.get, asAddr, fieldPlace, receiverAt, run_underlying Tryd.underlying101, hl, Addr.add]
theorem m_len (w : World) (gB : Nat) (qv : Value) (hc : w.cell? ⟨gB, 18, none⟩ = some qv) : (method 287 109 (.pointer (some ⟨gB, 18, none⟩)) "Len").run Tryd.prog w = .ok (35, qv) w := prom w gB _ _ 98 qv hc (by kernel_rfl)
theorem m_less (w : World) (gB : Nat) (qv : Value) (hc : w.cell? ⟨gB, 18, none⟩ = some qv) : (method 287 109 (.pointer (some ⟨gB, 18, none⟩)) "Less").run Tryd.prog w = .ok (117, qv) w := prom w gB _ _ 136 qv hc (by kernel_rfl)
theorem m_swap (w : World) (gB : Nat) (qv : Value) (hc : w.cell? ⟨gB, 18, none⟩ = some qv) : (method 287 109 (.pointer (some ⟨gB, 18, none⟩)) "Swap").run Tryd.prog w = .ok (119, qv) w := prom w gB _ _ 124 qv hc (by kernel_rfl)
theorem m_pop (w : World) (gB : Nat) : (method 287 109 (.pointer (some ⟨gB, 18, none⟩)) "Pop").run Tryd.prog w = .ok (120, .pointer (some ⟨gB, 18, none⟩)) w := by kernel_rfl
theorem m_push (w : World) (gB : Nat) : (method 287 109 (.pointer (some ⟨gB, 18, none⟩)) "Push").run Tryd.prog w = .ok (121, .pointer (some ⟨gB, 18, none⟩)) w := by kernel_rfl
/-- Behind a call that turns the queue's own row alone. -/
abbrev QS (w w' : World) (B : Nat) (qv : Value) (l : List Int) : Prop := OwnL w' B qv l ∧ TrD w w' (fun k => qv.ownBlock = some k)
theorem OwnL.open {w : World} {B : Nat} {v : Value} {l : List Int} (h : OwnL w B v l) (hl : l ≠ []) : ∃ g cap, v = .slice (some ⟨g, 0, none⟩) l.length cap ∧ l.length ≤ cap ∧ B ≤ g ∧ (∀ i x, l[i]? = some x → w.cell? ⟨g, i, none⟩ = some (.int .i64 x)) ∧ (∀ i, w.frozen? ⟨g, i, none⟩ = false) := by
  rcases h.2 with ⟨rfl, e2⟩ | ⟨g, cap, cur, rfl, h2, h3, h4, h5, h6, h7⟩
  · exact absurd (List.eq_nil_of_length_eq_zero e2) hl
  · refine ⟨g, cap, rfl, h4, h2, fun i x hx => ?_, fun i => ?_⟩
    · have h8 : (l.map (Value.int .i64))[i]? = some (.int .i64 x) := by simp [hx]
      rw [← h7, List.getElem?_take] at h8
      split at h8
      · rw [cell_of_row _ _ _ _ _ _ h3]
        simpa using h8
      · cases h8
    · unfold World.frozen?
      rw [show w.heap[(⟨g, i, none⟩ : Addr).block]? = some (.cells cur 3 (0, 0)) from h3]
      simp
theorem qs_set {w w1 : World} {B g cap : Nat} {l : List Int} (h : OwnL w1 B (.slice (some ⟨g, 0, none⟩) l.length cap) l) (t : TrD w w1 (fun k => (Value.slice (some ⟨g, 0, none⟩) l.length cap).ownBlock = some k)) (i : Nat) (x : Int) :
    OwnL (w1.setCell ⟨g, i, none⟩ (.int .i64 x)) B (.slice (some ⟨g, 0, none⟩) (l.set i x).length cap) (l.set i x) ∧ TrD w (w1.setCell ⟨g, i, none⟩ (.int .i64 x)) (fun k => (Value.slice (some ⟨g, 0, none⟩) l.length cap).ownBlock = some k) := by
  have := (h.stored i (.int .i64 x)).1
  refine ⟨?_, t.set g i _ (Or.inl rfl)⟩
  show World.ownsRow _ B 3 1 _ (l.set i x).length ((l.set i x).map (Value.int .i64))
  rw [List.length_set, List.map_set]
  exact this
theorem qs_swap {w : World} {B g cap : Nat} {l : List Int} (h : OwnL w B (.slice (some ⟨g, 0, none⟩) l.length cap) l) (i j : Nat) (x y : Int) (hx : l.getD i 0 = x) (hy : l.getD j 0 = y) :
    QS w ((w.setCell ⟨g, i, none⟩ (.int .i64 y)).setCell ⟨g, j, none⟩ (.int .i64 x)) B (.slice (some ⟨g, 0, none⟩) l.length cap) (swpL l i j) := by
  obtain ⟨h1, t1⟩ := qs_set h (TrD.refl w _) i y
  obtain ⟨h2, t2⟩ := qs_set h1 t1 j x
  unfold swpL
  rw [hx, hy]
  rw [show ((l.set i y).set j x).length = l.length by simp] at h2
  exact ⟨h2, t2⟩
theorem len_any (w : World) (ao : Option Addr) (n c : Nat) : Calls Tryd.prog 35 #[.slice ao n c] w fun e w' => e = .returned (.int .i64 (n : Int)) ∧ w' = w := by
  go_enter Tryd.func35, Tryd.ntmps35
  go_wp2_with fail
  go_ret
  exact ⟨rfl, rfl⟩
set_option maxHeartbeats 1000000 in
theorem less_any {w : World} {B : Nat} {qv : Value} {l : List Int} (h : OwnL w B qv l) (i j : Nat) (hi : i < l.length) (hj : j < l.length) :
    Calls Tryd.prog 117 #[qv, .int .i64 (i : Int), .int .i64 (j : Int)] w fun e w' => e = .returned (.bool (decide (l.getD i 0 < l.getD j 0))) ∧ G w w' ∧ w'.heap = w.heap := by
  obtain ⟨g, cap, rfl, hc, hB, hcell, _⟩ := h.open (by intro e; rw [e] at hi; simp at hi)
  have c1 := hcell i _ (getD_lt hi)
  have c2 := hcell j _ (getD_lt hj)
  have hiI : (i : Int) < (l.length : Int) := by omega
  have hjI : (j : Int) < (l.length : Int) := by omega
  have hi0 : (0 : Int) ≤ (i : Int) := by omega
  have hj0 : (0 : Int) ≤ (j : Int) := by omega
  generalize l.getD i 0 = x at c1 ⊢
  generalize l.getD j 0 = y at c2 ⊢
  generalize l.length = n at hi hj hiI hjI
  clear h hcell
  go_enter Tryd.func117, Tryd.ntmps117
  go_wp2_with fail
  go_quiet (fail)
  go_wp2_with fail
  go_ret
  exact ⟨rfl, G.drewN w _, rfl⟩
set_option maxHeartbeats 1000000 in
theorem swap_any {w : World} {B : Nat} {qv : Value} {l : List Int} (h : OwnL w B qv l) (i j : Nat) (hi : i < l.length) (hj : j < l.length) :
    Calls Tryd.prog 119 #[qv, .int .i64 (i : Int), .int .i64 (j : Int)] w fun e w' => e = .returned (.tuple #[]) ∧ QS w w' B qv (swpL l i j) := by
  obtain ⟨g, cap, rfl, hc, hB, hcell, hfro⟩ := h.open (by intro e; rw [e] at hi; simp at hi)
  have c1 := hcell i _ (getD_lt hi)
  have c2 := hcell j _ (getD_lt hj)
  have f1 := hfro i
  have f2 := hfro j
  have hiI : (i : Int) < (l.length : Int) := by omega
  have hjI : (j : Int) < (l.length : Int) := by omega
  have hi0 : (0 : Int) ≤ (i : Int) := by omega
  have hj0 : (0 : Int) ≤ (j : Int) := by omega
  obtain ⟨x, hx⟩ : ∃ x, l.getD i 0 = x := ⟨_, rfl⟩
  obtain ⟨y, hy⟩ : ∃ y, l.getD j 0 = y := ⟨_, rfl⟩
  have K : Hid (∀ z, G ((w.setCell ⟨g, i, none⟩ (.int .i64 y)).setCell ⟨g, j, none⟩ (.int .i64 x)) z → QS w z B (.slice (some ⟨g, 0, none⟩) l.length cap) (swpL l i j)) := hide fun z gz => by
    obtain ⟨h1, h2⟩ := qs_swap h i j x y hx hy
    exact ⟨own_kept h1 (fun b _ hb => gz.block b hb), h2.trans (TrD.of_G _ gz)⟩
  rw [hx] at c1
  rw [hy] at c2
  have e2 : Hid ((w.setCell ⟨g, i, none⟩ (.int .i64 y)).cell? ⟨g, j, none⟩ = some (.int .i64 y)) := hide (by
    by_cases e : j = i
    · subst e; exact cell_same _ c1
    · rw [cell_other _ (Or.inr e)]; exact c2)
  clear h hcell hfro hx hy
  generalize hn : l.length = n at hi hj hiI hjI K ⊢
  clear hn
  by_cases hij : i = j
  · subst hij
    obtain rfl : x = y := by rw [c1] at c2; cases c2; rfl
    go_enter Tryd.func119, Tryd.ntmps119
    go_wp2_with fail
    go_region
    all_goals
      go_wp2_with fail
      go_end0
      first | exact ⟨rfl, unhide K _ (G.refl _)⟩ | exact ⟨rfl, unhide K _ (G.refl _).drew⟩
  · have hji : ¬ j = i := fun e => hij e.symm
    go_enter Tryd.func119, Tryd.ntmps119
    go_wp2_with fail
    go_region
    all_goals
      go_wp2_with fail
      go_end0
      first | exact ⟨rfl, unhide K _ (G.refl _)⟩ | exact ⟨rfl, unhide K _ (G.refl _).drew⟩
theorem QAt.tr {C : List Value} {w w' : World} {gB B : Nat} {qv : Value} {l l' : List Int} (h : QAt C w gB B qv l) (ho : OwnL w' B qv l') (t : TrD w w' (fun k => qv.ownBlock = some k)) : QAt C w' gB B qv l' := by
  have hne : ¬ qv.ownBlock = some gB := fun e => by have := own_blk h.own gB e; have := h.lt; omega
  refine ⟨t.cell h.c hne, ?_, ho, h.lt, fun j v hv => t.cell (h.s j v hv) hne, h.cl⟩
  rw [fro_of_block (x := ⟨gB, 18, none⟩) (t.block gB (World.block_lt_of_cell? w _ h.c) hne)]
  exact h.f
theorem QAt.g {C : List Value} {w w' : World} {gB B : Nat} {qv : Value} {l : List Int} (h : QAt C w gB B qv l) (g : G w w') : QAt C w' gB B qv l := h.tr (own_kept h.own (fun b _ hb => g.block b hb)) (TrD.of_G _ g)
set_option maxHeartbeats 1000000 in
theorem up_any {C : List Value} {w : World} {gB B : Nat} {qv : Value} {l : List Int} (h : QAt C w gB B qv l) (j n : Nat) (hj : j < l.length) (hn : j < n) (hl : l.length ≤ 10000000) :
    Calls Tryd.prog 60 #[hpV gB, .int .i64 (j : Int)] w fun e w' => e = .returned (.tuple #[]) ∧ QAt C w' gB B qv (upL n l j) ∧ TrD w w' (fun k => qv.ownBlock = some k) := by
  obtain ⟨R, hR⟩ : ∃ R, upL n l j = R := ⟨_, rfl⟩
  rw [hR]
  have ST : Hid (QAt C w gB B qv l ∧ TrD w w (fun k => qv.ownBlock = some k) ∧ j < l.length ∧ l.length ≤ 10000000 ∧ j < n ∧ upL n l j = R) := hide ⟨h, TrD.refl _ _, hj, hl, hn, hR⟩
  clear h hj hl hn hR
  go_enter Tryd.func60, Tryd.ntmps60
  go_wp2_with fail
  go_loopw [1, 4] (fun v1 v4 wr => ∃ (j n : Nat) (l : List Int), v1 = .int .i64 j ∧ Hid (QAt C wr gB B qv l ∧ TrD w wr (fun k => qv.ownBlock = some k) ∧ j < l.length ∧ l.length ≤ 10000000 ∧ j < n ∧ upL n l j = R)) (fun v1 _ _ => (intOf v1).toNat)
  case atStart => exact ⟨j, n, l, rfl, ST⟩
  case round =>
    obtain ⟨j, n, l, rfl, HW⟩ := hrel
    clear ST
    obtain ⟨hq, ht, hj, hl, hn, hR⟩ := unhide HW
    obtain ⟨n, rfl⟩ : ∃ n', n = n' + 1 := ⟨n - 1, by omega⟩
    have c := hq.c
    by_cases h0 : j = 0
    · subst h0
      have K : Hid (QAt C wr gB B qv R ∧ TrD w wr (fun k => qv.ownBlock = some k)) := hide (by rw [← hR]; unfold upL; simp; exact ⟨hq, ht⟩)
      clear HW hq ht hR
      go_wp2_with fail
      go_end0
      exact ⟨rfl, unhide K⟩
    · have hw1 : wrap64 ((j : Int) - 1) = (j : Int) - 1 := by unfold wrap64; omega
      have ml := m_less wr gB qv c
      obtain ⟨i, hi⟩ : ∃ i, (j - 1) / 2 = i := ⟨_, rfl⟩
      have hij : i < j := by omega
      have hdv : wrap64 (((j : Int) - 1).tdiv 2) = (i : Int) := by
        rw [Int.tdiv_eq_ediv_of_nonneg (by omega)]
        unfold wrap64
        omega
      have hne : ((i : Int) == (j : Int)) = false := by simp; omega
      have CL := hide (less_any hq.own j i hj (by omega))
      replace hij := hide hij
      have U1 : Hid (decide (l.getD j 0 < l.getD i 0) = true → upL n (swpL l i j) i = R) := hide fun e => by
        have e := of_decide_eq_true e
        rw [← hR]
        unfold upL
        rw [hi, if_neg (by omega), if_pos e]
        cases n <;> rfl
      have U0 : Hid (decide (l.getD j 0 < l.getD i 0) = false → l = R) := hide fun e => by
        have e := of_decide_eq_false e
        rw [← hR]
        unfold upL
        rw [hi, if_neg (by omega), if_neg e]
      have hil : i < l.length := by omega
      have hin : i < n := by omega
      clear HW hR hi
      replace hq := hide hq
      replace ht := hide ht
      obtain ⟨q, hqq⟩ : ∃ q : Bool, q = decide (l.getD j 0 < l.getD i 0) := ⟨_, rfl⟩
      rw [← hqq] at CL U1 U0
      clear hqq
      have LB : Hid (l.length ≤ 10000000) := hide hl
      have LJ : Hid (j < l.length ∧ i < l.length ∧ i < n) := hide ⟨hj, hil, hin⟩
      clear hl hj hil hin hn
      go_wp2_with fail
      refine (unhide CL).mono ?_
      rintro e w1 ⟨rfl, g1, _⟩
      have q1 := hide ((unhide hq).g g1)
      have t1 := hide ((unhide ht).trans (TrD.of_G _ g1))
      have c1 := (unhide q1).c
      have msw := m_swap w1 gB qv c1
      clear CL ml c hq ht g1
      cases q
      · have e := unhide U0 rfl
        go_wp2_with fail
        go_end0
        rw [← e]
        exact ⟨rfl, unhide q1, unhide t1⟩
      · have u1 := hide (unhide U1 rfl)
        have CS := hide (swap_any (unhide q1).own i j (unhide LJ).2.1 (unhide LJ).1)
        go_wp2_with fail
        refine (unhide CS).mono ?_
        rintro e w2 ⟨rfl, o2, t2⟩
        have q2 := hide ((unhide q1).tr o2 t2)
        have t3 := hide ((unhide t1).trans t2)
        clear CS o2 t2 q1 t1 msw c1
        go_wp2_with fail
        go_roundw
        case rel => exact ⟨i, n, swpL l i j, rfl, hide ⟨unhide q2, unhide t3, by rw [swp_len]; exact (unhide LJ).2.1, by rw [swp_len]; exact unhide LB, (unhide LJ).2.2, unhide u1⟩⟩
        case measure =>
          have := unhide hij
          simp [intOf]
          omega
theorem dn_out (k : Nat) (l : List Int) (i n : Nat) (h : n ≤ 2 * i + 1) : dnL k l i n = l := by
  cases k with
  | zero => rfl
  | succ k => unfold dnL; rw [if_pos h]
set_option maxHeartbeats 2000000 in
theorem down_any {C : List Value} {w : World} {gB B : Nat} {qv : Value} {l : List Int} (h : QAt C w gB B qv l) (i n k : Nat) (hi : i < l.length) (hn : n ≤ l.length) (hk : n ≤ i + k) (hl : l.length ≤ 10000000) :
    Calls Tryd.prog 50 #[hpV gB, .int .i64 (i : Int), .int .i64 (n : Int)] w fun e w' => (∃ v, e = .returned v) ∧ QAt C w' gB B qv (dnL k l i n) ∧ TrD w w' (fun k => qv.ownBlock = some k) := by
  obtain ⟨R, hR⟩ : ∃ R, dnL k l i n = R := ⟨_, rfl⟩
  rw [hR]
  have ST : Hid (QAt C w gB B qv l ∧ TrD w w (fun k => qv.ownBlock = some k) ∧ i < l.length ∧ n ≤ l.length ∧ l.length ≤ 10000000 ∧ n ≤ i + k ∧ dnL k l i n = R) := hide ⟨h, TrD.refl _ _, hi, hn, hl, hk, hR⟩
  obtain ⟨i0, hi0⟩ : ∃ i0, i0 = i := ⟨_, rfl⟩
  have hn0 : Hid (n ≤ 10000000) := hide (by omega)
  clear h hi hl hn hR hk
  go_enter Tryd.func50, Tryd.ntmps50
  go_wp2_with fail
  go_loopw [7, 8, 9, 10] (fun v7 _ _ _ wr => ∃ (i k : Nat) (l : List Int), v7 = .int .i64 i ∧ Hid (QAt C wr gB B qv l ∧ TrD w wr (fun k => qv.ownBlock = some k) ∧ i < l.length ∧ n ≤ l.length ∧ l.length ≤ 10000000 ∧ n ≤ i + k ∧ dnL k l i n = R)) (fun v7 _ _ _ _ => n - (intOf v7).toNat)
  case atStart => exact ⟨i, k, l, rfl, ST⟩
  case round =>
    obtain ⟨i, k, l, rfl, HW⟩ := hrel
    clear ST hi0
    obtain ⟨hq, ht, hi, hn, hl, hk, hR⟩ := unhide HW
    have hw1 : wrap64 (2 * (i : Int)) = 2 * (i : Int) := by unfold wrap64; omega
    have hw2 : wrap64 (2 * (i : Int) + 1) = ((2 * i + 1 : Nat) : Int) := by unfold wrap64; omega
    have hw3 : wrap64 (((2 * i + 1 : Nat) : Int) + 1) = ((2 * i + 2 : Nat) : Int) := by unfold wrap64; omega
    obtain ⟨j1, hj1⟩ : ∃ j1, j1 = 2 * i + 1 := ⟨_, rfl⟩
    obtain ⟨j2, hj2⟩ : ∃ j2, j2 = 2 * i + 2 := ⟨_, rfl⟩
    rw [← hj1] at hw2 hw3
    rw [← hj2] at hw3
    by_cases hA : n ≤ 2 * i + 1
    · have hd : decide ((n : Int) ≤ (j1 : Int)) = true := decide_eq_true (by omega)
      have hd2 : (n : Int) ≤ (j1 : Int) := by omega
      have hd3 : n ≤ j1 := by omega
      have K : Hid (QAt C wr gB B qv R ∧ TrD w wr (fun k => qv.ownBlock = some k)) := hide (by rw [← hR, dn_out _ _ _ _ hA]; exact ⟨hq, ht⟩)
      clear HW hq ht hR hj1 hj2 hA hi hn hl hk
      go_wp2_with fail
      refine bodyPost_ret (by simp [results, Tryd.results50, go_sem]; try rfl) rfl ?_
      exact ⟨⟨_, rfl⟩, unhide K⟩
    · obtain ⟨k, rfl⟩ : ∃ k', k = k' + 1 := ⟨k - 1, by omega⟩
      have hc := hq.c
      have hd1 : decide ((n : Int) ≤ (j1 : Int)) = false := decide_eq_false (by omega)
      have hd2 : ¬ (n : Int) ≤ (j1 : Int) := by omega
      have hd3 : ¬ n ≤ j1 := by omega
      have hd4 : ¬ (j1 : Int) < 0 := by omega
      obtain ⟨jj, hjj⟩ : ∃ jj, jj = kidL l i n := ⟨_, rfl⟩
      have hjl := kid_lt (l := l) hA
      have hji : i < jj := by rw [hjj]; unfold kidL; split <;> omega
      rw [← hjj] at hjl
      have U1 : Hid (decide (l.getD jj 0 < l.getD i 0) = true → dnL k (swpL l i jj) jj n = R) := hide fun e => by
        have e := of_decide_eq_true e
        rw [← hR]
        conv => rhs; unfold dnL
        rw [if_neg hA, ← hjj, if_pos e]
      have U0 : Hid (decide (l.getD jj 0 < l.getD i 0) = false → l = R) := hide fun e => by
        have e := of_decide_eq_false e
        rw [← hR]
        unfold dnL
        rw [if_neg hA, ← hjj, if_neg e]
      have LJ : Hid (i < l.length ∧ jj < l.length ∧ n ≤ jj + k ∧ (i < jj ∧ jj < n)) := hide ⟨hi, by omega, by omega, hji, hjl⟩
      have LB : Hid (n ≤ l.length ∧ l.length ≤ 10000000) := hide ⟨hn, hl⟩
      by_cases hB : 2 * i + 2 < n
      · have hd5 : decide ((j2 : Int) < (n : Int)) = true := decide_eq_true (by omega)
        have hd6 : (j2 : Int) < (n : Int) := by omega
        have hd7 : j2 < n := by omega
        have CL := hide (less_any hq.own j2 j1 (by omega) (by omega))
        have ml := m_less wr gB qv hc
        obtain ⟨q, hqq⟩ : ∃ q : Bool, q = decide (l.getD j2 0 < l.getD j1 0) := ⟨_, rfl⟩
        have hkid : Hid (jj = if q then j2 else j1) := hide (by
          rw [hjj, hqq, hj1, hj2]
          unfold kidL
          by_cases e : l.getD (2 * i + 2) 0 < l.getD (2 * i + 1) 0
          · rw [if_pos ⟨hB, e⟩, decide_eq_true e]; rfl
          · rw [if_neg (fun h => e h.2), decide_eq_false e]; rfl)
        rw [← hqq] at CL
        replace hq := hide hq
        replace ht := hide ht
        clear HW hR hqq hjj hj1 hj2 hA hB hjl hji hi hn hl hk
        go_wp2_with fail
        refine (unhide CL).mono ?_
        rintro e w4 ⟨rfl, g4, _⟩
        have q4 := hide ((unhide hq).g g4)
        have t4 := hide ((unhide ht).trans (TrD.of_G _ g4))
        clear CL ml hc hq ht g4
        cases q
        · have e := unhide hkid
          simp only [Bool.false_eq_true, if_false] at e
          subst e
          clear hkid
          have CL2 := hide (less_any (unhide q4).own jj i (unhide LJ).2.1 (unhide LJ).1)
          have cx := (unhide q4).c
          have mlx := m_less w4 gB qv cx
          obtain ⟨q2, hq2⟩ : ∃ q2 : Bool, q2 = decide (l.getD jj 0 < l.getD i 0) := ⟨_, rfl⟩
          rw [← hq2] at CL2 U1 U0
          clear hq2
          go_wp2_with fail
          refine (unhide CL2).mono ?_
          rintro e w5 ⟨rfl, g5, _⟩
          have q5 := hide ((unhide q4).g g5)
          have t5 := hide ((unhide t4).trans (TrD.of_G _ g5))
          have c5 := (unhide q5).c
          have msw := m_swap w5 gB qv c5
          clear CL2 cx mlx q4 t4 g5
          cases q2
          · have e := hide (unhide U0 rfl)
            go_wp2_with fail
            refine bodyPost_ret (by simp [results, Tryd.results50, go_sem]; try rfl) rfl ?_
            rw [← unhide e]
            exact ⟨⟨_, rfl⟩, unhide q5, unhide t5⟩
          · have u1 := hide (unhide U1 rfl)
            have CS := hide (swap_any (unhide q5).own i jj (unhide LJ).1 (unhide LJ).2.1)
            go_wp2_with fail
            refine (unhide CS).mono ?_
            rintro e w6 ⟨rfl, o6, t6⟩
            have q6 := hide ((unhide q5).tr o6 t6)
            have t7 := hide ((unhide t5).trans t6)
            clear CS o6 t6 q5 t5 msw c5
            go_wp2_with fail
            go_roundw
            case rel => exact ⟨jj, k, swpL l i jj, rfl, hide ⟨unhide q6, unhide t7, by rw [swp_len]; exact (unhide LJ).2.1, by rw [swp_len]; exact (unhide LB).1, by rw [swp_len]; exact (unhide LB).2, (unhide LJ).2.2.1, unhide u1⟩⟩
            case measure =>
              have := (unhide LJ).2.2.2
              simp [intOf]
              omega
        · have e := unhide hkid
          simp only [if_true] at e
          subst e
          clear hkid
          have CL2 := hide (less_any (unhide q4).own jj i (unhide LJ).2.1 (unhide LJ).1)
          have cx := (unhide q4).c
          have mlx := m_less w4 gB qv cx
          obtain ⟨q2, hq2⟩ : ∃ q2 : Bool, q2 = decide (l.getD jj 0 < l.getD i 0) := ⟨_, rfl⟩
          rw [← hq2] at CL2 U1 U0
          clear hq2
          go_wp2_with fail
          refine (unhide CL2).mono ?_
          rintro e w5 ⟨rfl, g5, _⟩
          have q5 := hide ((unhide q4).g g5)
          have t5 := hide ((unhide t4).trans (TrD.of_G _ g5))
          have c5 := (unhide q5).c
          have msw := m_swap w5 gB qv c5
          clear CL2 cx mlx q4 t4 g5
          cases q2
          · have e := hide (unhide U0 rfl)
            go_wp2_with fail
            refine bodyPost_ret (by simp [results, Tryd.results50, go_sem]; try rfl) rfl ?_
            rw [← unhide e]
            exact ⟨⟨_, rfl⟩, unhide q5, unhide t5⟩
          · have u1 := hide (unhide U1 rfl)
            have CS := hide (swap_any (unhide q5).own i jj (unhide LJ).1 (unhide LJ).2.1)
            go_wp2_with fail
            refine (unhide CS).mono ?_
            rintro e w6 ⟨rfl, o6, t6⟩
            have q6 := hide ((unhide q5).tr o6 t6)
            have t7 := hide ((unhide t5).trans t6)
            clear CS o6 t6 q5 t5 msw c5
            go_wp2_with fail
            go_roundw
            case rel => exact ⟨jj, k, swpL l i jj, rfl, hide ⟨unhide q6, unhide t7, by rw [swp_len]; exact (unhide LJ).2.1, by rw [swp_len]; exact (unhide LB).1, by rw [swp_len]; exact (unhide LB).2, (unhide LJ).2.2.1, unhide u1⟩⟩
            case measure =>
              have := (unhide LJ).2.2.2
              simp [intOf]
              omega
      · have hd5 : decide ((j2 : Int) < (n : Int)) = false := decide_eq_false (by omega)
        have hd6 : ¬ (j2 : Int) < (n : Int) := by omega
        have hd7 : ¬ j2 < n := by omega
        have e : jj = j1 := by
          rw [hjj, hj1]
          unfold kidL
          rw [if_neg (fun h => hB h.1)]
        subst e
        replace hq := hide hq
        replace ht := hide ht
        clear HW hR hjj hj1 hj2 hA hB hjl hji hi hn hl hk hc
        have CL2 := hide (less_any (unhide hq).own jj i (unhide LJ).2.1 (unhide LJ).1)
        have cx := (unhide hq).c
        have mlx := m_less wr gB qv cx
        obtain ⟨q2, hq2⟩ : ∃ q2 : Bool, q2 = decide (l.getD jj 0 < l.getD i 0) := ⟨_, rfl⟩
        rw [← hq2] at CL2 U1 U0
        clear hq2
        go_wp2_with fail
        refine (unhide CL2).mono ?_
        rintro e w5 ⟨rfl, g5, _⟩
        have q5 := hide ((unhide hq).g g5)
        have t5 := hide ((unhide ht).trans (TrD.of_G _ g5))
        have c5 := (unhide q5).c
        have msw := m_swap w5 gB qv c5
        clear CL2 cx mlx hq ht g5
        cases q2
        · have e := hide (unhide U0 rfl)
          go_wp2_with fail
          refine bodyPost_ret (by simp [results, Tryd.results50, go_sem]; try rfl) rfl ?_
          rw [← unhide e]
          exact ⟨⟨_, rfl⟩, unhide q5, unhide t5⟩
        · have u1 := hide (unhide U1 rfl)
          have CS := hide (swap_any (unhide q5).own i jj (unhide LJ).1 (unhide LJ).2.1)
          go_wp2_with fail
          refine (unhide CS).mono ?_
          rintro e w6 ⟨rfl, o6, t6⟩
          have q6 := hide ((unhide q5).tr o6 t6)
          have t7 := hide ((unhide t5).trans t6)
          clear CS o6 t6 q5 t5 msw c5
          go_wp2_with fail
          go_roundw
          case rel => exact ⟨jj, k, swpL l i jj, rfl, hide ⟨unhide q6, unhide t7, by rw [swp_len]; exact (unhide LJ).2.1, by rw [swp_len]; exact (unhide LB).1, by rw [swp_len]; exact (unhide LB).2, (unhide LJ).2.2.1, unhide u1⟩⟩
          case measure =>
            have := (unhide LJ).2.2.2
            simp [intOf]
            omega
end Go.Proofs.YtiangegoglfpeaaDoor
