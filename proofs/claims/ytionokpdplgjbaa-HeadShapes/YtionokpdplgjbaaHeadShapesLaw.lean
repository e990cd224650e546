/- HeadShapes answers true, whatever the shapes. -/
import Derived.Test.YtionokpdplgjbaaHeadRow
namespace Go.Proofs.Ytionokpdplgjbaa
open Go.RowKit Go.Maps Go.ChangeShapes Go.WideShapes Go.ChangeAt Go.Deep

section
variable {w wk : World} {tb mb : Nat} {ao : Option Addr} {cap : Nat} {lt : List Shp} {ak : Option Addr} {ck : Nat} {lk : List Shp}

theorem sh_new {w1 : World} (g : Hid (G w w1)) : Calls Try.prog 11 #[] w1 fun e w' => ∃ tb mb, e = .returned (.pointer (some ⟨tb, 0, none⟩)) ∧ Rnd w w' tb mb none 0 [] none 0 [] := by
  refine (new_any w1).mono ?_
  rintro e w' ⟨rfl, rfl⟩
  have h := (unhide g).size
  refine ⟨_, _, rfl, tab_new w1 w.heap.size h, World.ownsRow_nil _ _ _ _, (fun a a' ha => by cases ha), ?_⟩
  exact (unhide g).trans (by go_grown)

theorem sh_bad (s : Shp) (hs : s.Fit) (hg : s.good = false) (hl : lt.length < 65536) (R : Hid (Rnd w wk tb mb ao cap lt ak ck lk)) :
    Calls Try.prog 13 #[.pointer (some ⟨tb, 0, none⟩), .agg #[.int .i64 s.k, .int .i64 s.f, .int .u64 (s.m : Int)]] wk fun e w' => e = .returned (.tuple #[.int .i64 0, .int .i64 1]) ∧ ∃ ao' cap', Rnd w w' tb mb ao' cap' lt ak ck lk := by
  have h := unhide R
  refine (number_any wk w.heap.size tb mb ao cap lt s h.tab hs hl h.below.size).mono ?_
  rintro e w' ⟨ao', cap', rfl, t, u, hla⟩
  refine ⟨by simp [numV, numE, hg], ao', cap', ?_⟩
  rw [show addS lt s = lt by simp [addS, hg]] at t
  exact h.number t u hla

theorem sh_old (s : Shp) (i : Nat) (hi : i = lt.idxOf s) (hs : s.Fit) (hg : s.good = true) (hm : s ∈ lt) (hl : lt.length < 65536) (R : Hid (Rnd w wk tb mb ao cap lt ak ck lk)) :
    Calls Try.prog 13 #[.pointer (some ⟨tb, 0, none⟩), .agg #[.int .i64 s.k, .int .i64 s.f, .int .u64 (s.m : Int)]] wk fun e w' => e = .returned (.tuple #[.int .i64 (i : Int), .int .i64 0]) ∧ ∃ ao' cap', Rnd w w' tb mb ao' cap' lt ak ck lk := by
  subst hi
  have h := unhide R
  refine (number_any wk w.heap.size tb mb ao cap lt s h.tab hs hl h.below.size).mono ?_
  rintro e w' ⟨ao', cap', rfl, t, u, hla⟩
  refine ⟨by simp [numV, numE, hg], ao', cap', ?_⟩
  rw [show addS lt s = lt by simp [addS, hm]] at t
  exact h.number t u hla

theorem sh_fresh (s : Shp) (hs : s.Fit) (hg : s.good = true) (hm : s ∉ lt) (hl : lt.length < 65536) (R : Hid (Rnd w wk tb mb ao cap lt ak ck lk)) :
    Calls Try.prog 13 #[.pointer (some ⟨tb, 0, none⟩), .agg #[.int .i64 s.k, .int .i64 s.f, .int .u64 (s.m : Int)]] wk fun e w' => e = .returned (.tuple #[.int .i64 (lt.length : Int), .int .i64 0]) ∧ ∃ ao' cap', Rnd w w' tb mb ao' cap' (lt ++ [s]) ak ck lk := by
  have h := unhide R
  refine (number_any wk w.heap.size tb mb ao cap lt s h.tab hs hl h.below.size).mono ?_
  rintro e w' ⟨ao', cap', rfl, t, u, hla⟩
  refine ⟨by simp [numV, numE, hg, List.idxOf_eq_length hm], ao', cap', ?_⟩
  rw [show addS lt s = lt ++ [s] by simp [addS, hg, hm]] at t
  exact h.number t u hla

theorem sh_own (s : Shp) (R : Hid (Rnd w wk tb mb ao cap lt ak ck lk)) :
    Calls Try.prog 18 #[.agg #[.int .i64 s.k, .int .i64 s.f, .int .u64 (s.m : Int)]] wk fun e w' => e = .returned (.agg #[.int .i64 s.k, .int .i64 s.f, .int .u64 (s.m : Int)]) ∧ Rnd w w' tb mb ao cap lt ak ck lk :=
  (own_any _ _ _ wk).mono (by rintro e w' ⟨rfl, g⟩; exact ⟨rfl, (unhide R).G g⟩)
theorem sh_ref (s : Shp) (r : Bool) (hr : s.good = r) (hs : s.Fit) (R : Hid (Rnd w wk tb mb ao cap lt ak ck lk)) :
    Calls Try.prog 17 #[.agg #[.int .i64 s.k, .int .i64 s.f, .int .u64 (s.m : Int)]] wk fun e w' => e = .returned (.bool r) ∧ Rnd w w' tb mb ao cap lt ak ck lk := by
  subst hr
  exact (rgood_any s.k s.f s.m wk hs.m0).mono (by rintro e w' ⟨rfl, g⟩; exact ⟨rfl, (unhide R).G g⟩)
theorem sh_good (s : Shp) (r : Bool) (hr : s.good = r) (R : Hid (Rnd w wk tb mb ao cap lt ak ck lk)) :
    Calls Try.prog 14 #[.agg #[.int .i64 s.k, .int .i64 s.f, .int .u64 (s.m : Int)]] wk fun e w' => e = .returned (.bool r) ∧ Rnd w w' tb mb ao cap lt ak ck lk := by
  subst hr
  exact (good_any s.k s.f s.m wk).mono (by rintro e w' ⟨rfl, rfl⟩; exact ⟨rfl, (unhide R).G (G.alloc _ _)⟩)
theorem sh_shape (s : Shp) (i : Nat) (hi : lt[i]? = some s) (R : Hid (Rnd w wk tb mb ao cap lt ak ck lk)) :
    Calls Try.prog 12 #[.pointer (some ⟨tb, 0, none⟩), .int .i64 (i : Int)] wk fun e w' => e = .returned (.tuple #[.agg #[.int .i64 s.k, .int .i64 s.f, .int .u64 (s.m : Int)], .int .i64 0]) ∧ Rnd w w' tb mb ao cap lt ak ck lk :=
  (shape_yes wk _ tb mb ao cap lt (unhide R).tab i s hi).mono (by rintro e w' ⟨rfl, g⟩; exact ⟨rfl, (unhide R).G g⟩)
theorem sh_none (i : Int) (hi : i < 0 ∨ lt.length ≤ i) (R : Hid (Rnd w wk tb mb ao cap lt ak ck lk)) :
    Calls Try.prog 12 #[.pointer (some ⟨tb, 0, none⟩), .int .i64 i] wk fun e w' => e = .returned (.tuple #[.agg #[.int .i64 0, .int .i64 0, .int .u64 0], .int .i64 4]) ∧ Rnd w w' tb mb ao cap lt ak ck lk :=
  (shape_no wk _ tb mb ao cap lt (unhide R).tab i hi).mono (by rintro e w' ⟨rfl, g⟩; exact ⟨rfl, (unhide R).G g⟩)
theorem sh_len (x : Int) (hx : (lt.length : Int) = x) (R : Hid (Rnd w wk tb mb ao cap lt ak ck lk)) :
    Calls Try.prog 19 #[.pointer (some ⟨tb, 0, none⟩)] wk fun e w' => e = .returned (.int .i64 x) ∧ w' = wk := by
  subst hx
  exact len_any wk _ tb mb ao cap lt (unhide R).tab

theorem shp_ne {t s : Shp} (h : t ≠ s) : (t.k == s.k) = false ∨ (t.k = s.k ∧ (t.f == s.f) = false) ∨ (t.k = s.k ∧ t.f = s.f ∧ ((t.m : Int) == (s.m : Int)) = false) := by
  by_cases h0 : t.k = s.k
  · by_cases h1 : t.f = s.f
    · refine Or.inr (Or.inr ⟨h0, h1, ?_⟩)
      rw [beq_eq_false_iff_ne]
      intro e
      exact h (shp_ext h0 h1 (by omega))
    · exact Or.inr (Or.inl ⟨h0, by simpa using h1⟩)
  · exact Or.inl (by simpa using h0)

theorem idx_before : ∀ {l : List Shp} {s : Shp} {t : Nat}, t < l.idxOf s → l[t]? = some s → False
  | [], _, _, h, _ => by simp at h
  | x :: r, s, t, h, e => by
    by_cases hx : x = s
    · subst hx
      simp at h
    · rw [List.idxOf_cons] at h
      have : (x == s) = false := by simpa using hx
      rw [this] at h
      simp at h
      cases t with
      | zero =>
        simp at e
        exact hx e
      | succ t =>
        exact idx_before (l := r) (s := s) (t := t) (by omega) (by simpa using e)

/-- What came in, in a later world. -/
theorem Rnd.old (h : Rnd w wk tb mb ao cap lt ak ck lk) {b o : Nat} (hb : b < w.heap.size) {x y z : Value}
    (hc : w.cell? ⟨b, o, none⟩ = some x ∧ w.cell? ⟨b, o + 1, none⟩ = some y ∧ w.cell? ⟨b, o + 2, none⟩ = some z) :
    wk.cell? ⟨b, o, none⟩ = some x ∧ wk.cell? ⟨b, o + 1, none⟩ = some y ∧ wk.cell? ⟨b, o + 2, none⟩ = some z ∧ b < wk.heap.size :=
  ⟨(h.below.cell (p := ⟨b, o, none⟩) hb).trans hc.1, (h.below.cell (p := ⟨b, o + 1, none⟩) hb).trans hc.2.1, (h.below.cell (p := ⟨b, o + 2, none⟩) hb).trans hc.2.2, Nat.lt_of_lt_of_le hb h.below.size⟩
/-- What the row holds. -/
theorem Rnd.at (h : Rnd w wk tb mb ao cap lt ak ck lk) {i : Nat} {s : Shp} (hi : lk[i]? = some s) :
    ∃ g, ak = some ⟨g, 0, none⟩ ∧ wk.cell? ⟨g, i * 3, none⟩ = some (.int .i64 s.k) ∧ wk.cell? ⟨g, i * 3 + 1, none⟩ = some (.int .i64 s.f) ∧ wk.cell? ⟨g, i * 3 + 2, none⟩ = some (.int .u64 (s.m : Int)) := by
  have hil : i < lk.length := (List.getElem?_eq_some_iff.1 hi).1
  have hrow := h.row
  rcases hrow.2 with ⟨_, hn⟩ | ⟨g, c, cur, e, _⟩
  · omega
  · injection e with e1 e2 e3
    subst e1
    exact ⟨g, rfl, row_cells hrow hi⟩
end

set_option maxHeartbeats 4000000 in
set_option maxRecDepth 100000 in
theorem shapes_core (b off n c : Nat) (L : List Shp) (w : World) (hL : L.length = n) (h60 : n ≤ 60) (hb : b < w.heap.size) (HF : Hid (∀ s, s ∈ L → s.Fit))
    (HE : Hid (∀ i s, L[i]? = some s → w.cell? ⟨b, off + i * 3, none⟩ = some (.int .i64 s.k) ∧ w.cell? ⟨b, off + i * 3 + 1, none⟩ = some (.int .i64 s.f) ∧ w.cell? ⟨b, off + i * 3 + 2, none⟩ = some (.int .u64 (s.m : Int)))) :
    Calls Try.prog 5 #[.slice (some ⟨b, off, none⟩) n c] w fun e w' => e = .returned (.bool true) ∧ G w w' := by
  have hd : decide (60 < (n : Int)) = false := by simp; omega
  go_enter Try.func5, Try.ntmps5
  go_wp2_with fail
  refine (awake_true _).mono ?_
  rintro e w1 ⟨rfl, g1⟩
  replace g1 := hide g1
  go_wp2_with fail
  refine (sh_new g1).mono ?_
  rintro e w2 ⟨tb, mb, rfl, R0⟩
  replace R0 := hide R0
  clear g1
  go_wp2_with fail
  go_loopw [4, 5] (fun u c wr => ∃ (j : Nat) (l : List Shp) (ao : Option Addr) (cap : Nat) (ak : Option Addr) (ck : Nat), j ≤ n ∧ l.length ≤ j ∧ u = .slice ak l.length ck ∧ c = .int .i64 j ∧ Hid (Rnd w wr tb mb ao cap l ak ck l)) (fun _ c _ => n - (intOf c).toNat)
  case atStart => exact ⟨0, [], none, 0, none, 0, Nat.zero_le _, Nat.le_refl _, rfl, rfl, R0⟩
  case round =>
    obtain ⟨j, l, ao, cap, ak, ck, hj, hlj, rfl, rfl, R⟩ := hrel
    clear R0
    by_cases hjn : j = n
    · subst hjn
      go_wp2_with fail
      refine (sh_none _ (by omega) R).mono ?_
      rintro e w3 ⟨rfl, R3⟩
      replace R3 := hide (R3.G (G.alloc _ (.cells #[.int .i64 0, .int .i64 0, .int .u64 0] 32)))
      clear R
      go_wp2_with fail
      refine (sh_none _ (by omega) R3).mono ?_
      rintro e w4 ⟨rfl, R4⟩
      replace R4 := hide (R4.G (G.alloc _ (.cells #[.int .i64 0, .int .i64 0, .int .u64 0] 32)))
      clear R3
      go_wp2_with fail
      go_ret
      exact ⟨rfl, (unhide R4).below⟩
    · have hjl : (j : Int) < (n : Int) := by omega
      obtain ⟨s, hsj⟩ : ∃ s, L[j]? = some s := ⟨L[j]'(by omega), List.getElem?_eq_getElem (by omega)⟩
      have hs : s.Fit := unhide HF s (List.mem_of_getElem? hsj)
      have he := hide (unhide HE j s hsj)
      have hll : l.length < 65536 := by omega
      obtain ⟨y0, y1, y2, hbk⟩ := (unhide R).old hb (unhide he)
      cases hg : s.good
      · clear hjn
        go_wp2_with fail
        refine (sh_bad s hs hg hll R).mono ?_
        rintro e w3 ⟨rfl, ao3, cap3, R3⟩
        replace R3 := hide R3
        clear y0 y1 y2 hbk R
        obtain ⟨y0, y1, y2, hbk⟩ := (unhide R3).old hb (unhide he)
        go_wp2_with fail
        refine (sh_own s R3).mono ?_
        rintro e w4 ⟨rfl, R4⟩
        replace R4 := hide R4
        clear y0 y1 y2 hbk R3
        go_wp2_with fail
        refine (sh_ref s false hg hs R4).mono ?_
        rintro e w5 ⟨rfl, R5⟩
        replace R5 := hide R5
        clear R4
        obtain ⟨y0, y1, y2, hbk⟩ := (unhide R5).old hb (unhide he)
        go_wp2_with fail
        refine (sh_good s false hg R5).mono ?_
        rintro e w6 ⟨rfl, R6⟩
        replace R6 := hide R6
        clear y0 y1 y2 hbk R5
        go_wp2_with fail
        go_round
        case rel => exact ⟨j + 1, l, ao3, cap3, ak, ck, by omega, by omega, rfl, by go_num, R6⟩
        case measure => simp [intOf]; omega
      · clear hjn
        by_cases hm : s ∈ l
        · obtain ⟨i, hi⟩ : ∃ i, i = l.idxOf s := ⟨_, rfl⟩
          have hil : i < l.length := by rw [hi]; exact List.idxOf_lt_length_of_mem hm
          have hget : l[i]? = some s := by rw [hi, List.getElem?_eq_getElem (List.idxOf_lt_length_of_mem hm)]; simp
          have hbef := hide (fun (t : Nat) (ht : t < i) (e : l[t]? = some s) => idx_before (l := l) (s := s) (by rw [← hi]; exact ht) e)
          replace hi := hide hi
          go_wp2_with fail
          refine (sh_old s i (unhide hi) hs hg hm hll R).mono ?_
          rintro e w3 ⟨rfl, ao3, cap3, R3⟩
          replace R3 := hide R3
          clear y0 y1 y2 hbk R
          obtain ⟨y0, y1, y2, hbk⟩ := (unhide R3).old hb (unhide he)
          go_wp2_with fail
          refine (sh_own s R3).mono ?_
          rintro e w4 ⟨rfl, R4⟩
          replace R4 := hide R4
          clear y0 y1 y2 hbk R3
          go_wp2_with fail
          refine (sh_ref s true hg hs R4).mono ?_
          rintro e w5 ⟨rfl, R5⟩
          replace R5 := hide R5
          clear R4
          obtain ⟨y0, y1, y2, hbk⟩ := (unhide R5).old hb (unhide he)
          go_wp2_with fail
          refine (sh_good s true hg R5).mono ?_
          rintro e w6 ⟨rfl, R6⟩
          replace R6 := hide R6
          clear y0 y1 y2 hbk R5
          clear hi
          have hd0 : decide ((i : Int) < 0) = false := by simp
          have hnn : ((i : Int) != (i : Int)) = false := by simp
          have hln : ((l.length : Int) != (l.length : Int)) = false := by simp
          go_wp2_with fail
          go_loopw [9, 10] (fun a k wq => (∃ q : Nat, q ≤ i ∧ a = .int .i64 (-1) ∧ k = .int .i64 q ∧ Hid (Rnd w wq tb mb ao3 cap3 l ak ck l)) ∨ (a = .int .i64 i ∧ k = .int .i64 ((i + 1 : Nat) : Int) ∧ Hid (Rnd w wq tb mb ao3 cap3 l ak ck l))) (fun _ k _ => i + 1 - (intOf k).toNat)
          case atStart => exact Or.inl ⟨0, by omega, rfl, rfl, R6⟩
          case round =>
            clear R6
            rcases hrel with ⟨q, hq, rfl, rfl, R7⟩ | ⟨rfl, rfl, R7⟩
            · obtain ⟨y0, y1, y2, hbk⟩ := (unhide R7).old hb (unhide he)
              have hql : (q : Int) < (l.length : Int) := by omega
              by_cases hqi : q = i
              · subst hqi
                obtain ⟨g, rfl, z0, z1, z2⟩ := (unhide R7).at hget
                go_wp2_with fail
                go_quiet (fail)
                go_wp2_with fail
                go_round
                case rel => exact Or.inr ⟨rfl, by go_num, hide ((unhide R7).G (G.drewN _ _))⟩
                case measure => simp [intOf]
              · obtain ⟨t, ht⟩ : ∃ t, l[q]? = some t := ⟨l[q]'(by omega), List.getElem?_eq_getElem (by omega)⟩
                obtain ⟨g, rfl, z0, z1, z2⟩ := (unhide R7).at ht
                have hts : t ≠ s := fun e => unhide hbef q (by omega) (by rw [ht, e])
                rcases shp_ne hts with d | ⟨d0, d⟩ | ⟨d0, d1, d⟩
                all_goals
                  go_wp2_with fail
                  go_quiet (fail)
                  go_wp2_with fail
                  go_round
                  case rel => exact Or.inl ⟨q + 1, by omega, rfl, by go_num, hide ((unhide R7).G (G.drewN _ _))⟩
                  case measure => simp [intOf]; omega
            · by_cases hx : ((i + 1 : Nat) : Int) < (l.length : Int)
              · go_wp2_with fail
                refine (sh_shape s i hget R7).mono ?_
                rintro e w8 ⟨rfl, R8⟩
                obtain ⟨y0, y1, y2, hbk⟩ := R8.old hb (unhide he)
                have R9 := hide (R8.G (G.alloc _ (.cells #[.int .i64 s.k, .int .i64 s.f, .int .u64 (s.m : Int)] 32)))
                clear R8 R7
                go_wp2_with fail
                go_quiet ((go_at_call 19; exact Calls.quiet_of_same (sh_len (l.length : Int) rfl (hide (Rnd.G (unhide R9) (G.drewN _ _))))))
                go_wp2_with fail
                go_round
                case rel => exact ⟨j + 1, l, ao3, cap3, ak, ck, by omega, by omega, rfl, by go_num, hide ((unhide R9).G (G.drewN _ _))⟩
                case measure => simp [intOf]; omega
              · have hx' : decide ((i : Int) + 1 < (l.length : Int)) = false := by simp; omega
                clear hx
                go_wp2_with fail
                refine (sh_shape s i hget R7).mono ?_
                rintro e w8 ⟨rfl, R8⟩
                obtain ⟨y0, y1, y2, hbk⟩ := R8.old hb (unhide he)
                have R9 := hide (R8.G (G.alloc _ (.cells #[.int .i64 s.k, .int .i64 s.f, .int .u64 (s.m : Int)] 32)))
                clear R8 R7
                go_wp2_with fail
                go_quiet ((go_at_call 19; exact Calls.quiet_of_same (sh_len (l.length : Int) rfl (hide (Rnd.G (unhide R9) (G.drewN _ _))))))
                go_wp2_with fail
                go_round
                case rel => exact ⟨j + 1, l, ao3, cap3, ak, ck, by omega, by omega, rfl, by go_num, hide ((unhide R9).G (G.drewN _ _))⟩
                case measure => simp [intOf]; omega
        · 
          go_wp2_with fail
          refine (sh_fresh s hs hg hm hll R).mono ?_
          rintro e w3 ⟨rfl, ao3, cap3, R3⟩
          replace R3 := hide R3
          clear y0 y1 y2 hbk R
          obtain ⟨y0, y1, y2, hbk⟩ := (unhide R3).old hb (unhide he)
          go_wp2_with fail
          refine (sh_own s R3).mono ?_
          rintro e w4 ⟨rfl, R4⟩
          replace R4 := hide R4
          clear y0 y1 y2 hbk R3
          go_wp2_with fail
          refine (sh_ref s true hg hs R4).mono ?_
          rintro e w5 ⟨rfl, R5⟩
          replace R5 := hide R5
          clear R4
          obtain ⟨y0, y1, y2, hbk⟩ := (unhide R5).old hb (unhide he)
          go_wp2_with fail
          refine (sh_good s true hg R5).mono ?_
          rintro e w6 ⟨rfl, R6⟩
          replace R6 := hide R6
          clear y0 y1 y2 hbk R5
          have hnn : ((l.length : Int) != (l.length : Int)) = false := by simp
          have hln : ((l.length : Int) + 1 != (l.length : Int) + 1) = false := by simp
          have hnew : (l ++ [s])[l.length]? = some s := by simp
          obtain ⟨i0, hi0, hz0, hz1, hz2⟩ := info_parts info_shape
          go_wp2_with fail
          go_loopw [9, 10] (fun a k wq => ∃ q : Nat, q ≤ l.length ∧ a = .int .i64 (-1) ∧ k = .int .i64 q ∧ Hid (Rnd w wq tb mb ao3 cap3 (l ++ [s]) ak ck l)) (fun _ k _ => l.length + 1 - (intOf k).toNat)
          case atStart => exact ⟨0, by omega, rfl, rfl, R6⟩
          case round =>
            clear R6
            obtain ⟨q, hq, rfl, rfl, R7⟩ := hrel
            obtain ⟨y0, y1, y2, hbk⟩ := (unhide R7).old hb (unhide he)
            by_cases hql : (q : Int) < (l.length : Int)
            · obtain ⟨t, ht⟩ : ∃ t, l[q]? = some t := ⟨l[q]'(by omega), List.getElem?_eq_getElem (by omega)⟩
              obtain ⟨g, rfl, z0, z1, z2⟩ := (unhide R7).at ht
              have hts : t ≠ s := fun e => hm (e ▸ List.mem_of_getElem? ht)
              rcases shp_ne hts with d | ⟨d0, d⟩ | ⟨d0, d1, d⟩
              all_goals
                go_wp2_with fail
                go_quiet (fail)
                go_wp2_with fail
                go_round
                case rel => exact ⟨q + 1, by omega, rfl, by go_num, hide ((unhide R7).G (G.drewN _ _))⟩
                case measure => simp [intOf]; omega
            · obtain rfl : q = l.length := by omega
              have HA := hide ((unhide R7).G (G.alloc _ (.cells #[.int .i64 s.k, .int .i64 s.f, .int .u64 (s.m : Int)] 32)))
              have HN : Hid (∀ (j : Nat) u, s.cells[j]? = some u → (wr.alloc (.cells #[.int .i64 s.k, .int .i64 s.f, .int .u64 (s.m : Int)] 32)).cell? ((⟨wr.heap.size, 0, none⟩ : Addr).add j) = some u) := hide fun j u hj => by
                rw [Addr.add_lit, Nat.zero_add, World.cell?_alloc_new]
                simpa [Shp.cells] using hj
              have HO : Hid (∀ u ∈ s.cells, u.oneCell' = true) := hide fun u hu => by
                simp [Shp.cells] at hu
                rcases hu with rfl | rfl | rfl <;> rfl
              clear hql
              go_wp2_with (at_builtin; refine wpl_append_at rfl (.tmp 91) (.tmp 96) 45 rfl w.heap.size 32 i0 (.agg #[.int .i64 0, .int .i64 0, .int .u64 0]) 3 24 Try.underlying45 hi0 hz0 hz1 hz2 rfl (by decide) ak l.length ck (rowOf l) rfl (unhide HA).row ⟨wr.heap.size, 0, none⟩ 1 1 s.cells rfl rfl (unhide HN) (unhide HO) (by decide) (by unfold maxLen; omega) (by omega) (unhide HA).below.size ?_; intro g cap8 w7 hr8 hg8 hat8)
              have R7' := hide ((unhide HA).append rfl hr8 hg8 hat8)
              clear hr8 hg8 hat8 HA HN HO R7
              go_wp2_with fail
              refine (sh_shape s l.length hnew R7').mono ?_
              rintro e w8 ⟨rfl, R8⟩
              obtain ⟨y0, y1, y2, hbk⟩ := R8.old hb (unhide he)
              have R9 := hide (R8.G (G.alloc _ (.cells #[.int .i64 s.k, .int .i64 s.f, .int .u64 (s.m : Int)] 32)))
              clear R8 R7'
              go_wp2_with fail
              go_quiet ((go_at_call 19; exact Calls.quiet_of_same (sh_len ((l.length : Int) + 1) (by simp) (hide (Rnd.G (unhide R9) (G.drewN _ _))))))
              go_wp2_with fail
              go_round
              case rel => exact ⟨j + 1, l ++ [s], ao3, cap3, some ⟨g, 0, none⟩, cap8, by omega, by simp; omega, by simp, by go_num, hide ((unhide R9).G (G.drewN _ _))⟩
              case measure => simp [intOf]; omega

set_option maxHeartbeats 1000000 in
theorem shapes_many (ao : Option Addr) (n c : Nat) (w : World) (h60 : 60 < (n : Int)) :
    Calls Try.prog 5 #[.slice ao n c] w fun e w' => e = .returned (.bool true) ∧ G w w' := by
  go_enter Try.func5, Try.ntmps5
  go_wp2_with fail
  refine (awake_true _).mono ?_
  rintro e w1 ⟨rfl, g1⟩
  replace g1 := hide g1
  go_wp2_with fail
  go_ret
  exact ⟨rfl, unhide g1⟩

set_option maxHeartbeats 1000000 in
theorem shapes_empty (ao : Option Addr) (c : Nat) (w : World) :
    Calls Try.prog 5 #[.slice ao 0 c] w fun e w' => e = .returned (.bool true) ∧ G w w' := by
  go_enter Try.func5, Try.ntmps5
  go_wp2_with fail
  refine (awake_true _).mono ?_
  rintro e w1 ⟨rfl, g1⟩
  replace g1 := hide g1
  go_wp2_with fail
  refine (sh_new g1).mono ?_
  rintro e w2 ⟨tb, mb, rfl, R0⟩
  replace R0 := hide R0
  clear g1
  go_wp2_with fail
  refine wp_loop_rounds 1 ?_
  rw [rounds_succ]
  go_wp2_with fail
  refine (sh_none 0 (by simp) R0).mono ?_
  rintro e w3 ⟨rfl, R3⟩
  replace R3 := hide (R3.G (G.alloc _ (.cells #[.int .i64 0, .int .i64 0, .int .u64 0] 32)))
  clear R0
  go_wp2_with fail
  refine (sh_none (-1) (by omega) R3).mono ?_
  rintro e w4 ⟨rfl, R4⟩
  replace R4 := hide (R4.G (G.alloc _ (.cells #[.int .i64 0, .int .i64 0, .int .u64 0] 32)))
  clear R3
  go_wp2_with fail
  go_ret
  exact ⟨rfl, (unhide R4).below⟩

theorem walk_HeadShapes (ao : Option Addr) (n c : Nat) (l : List Shp) {w : World} (h : IsShapes w ao n l) (_w : World) :
    Calls Try.prog 5 #[.slice ao n c] w fun e w' => e = .returned (.bool true) ∧ G w w' := by
  obtain ⟨hl, _, hf, hn⟩ := h
  by_cases h60 : 60 < n
  · exact shapes_many ao n c w (by omega)
  rcases hn with rfl | ⟨b, off, rfl, hb, hc⟩
  · exact shapes_empty ao c w
  · exact shapes_core b off n c l w hl (by omega) hb (hide hf) (hide hc)

set_option maxRecDepth 100000 in
theorem lifted_HeadShapes (os : Os) (started : os.Started) (H : Type) (enc : TypeId × Value → H) :
    ReturnsInHanded {} Try.checked os 5 .any (Rows.headShapesSpec.pre6 enc Try.prog Try.f5 Rows.headShapesRow.domain false) (Rows.headShapesSpec.post enc Try.prog Try.f5 false true false false) := by
  refine returnsInHanded_of_change (C := Try.checked) own started (by kernel_rfl) Try.func5
    (ChangeSpec.witness6 (enc := enc) (C := Try.checked) false ⟨#[], #[.slice none 0 0], []⟩ 8 (by kernel_rfl) (by kernel_rfl) (by kernel_rfl) (by kernel_rfl)) ?_
  intro W base args ds gs before hval0 hW _ _
  have hval : ∀ (j : Nat) t v, Try.f5.params[j]? = some t → args[j]? = some v → Value.okWide Try.prog W .any base t v := hval0
  have hW' := hW
  obtain ⟨p, q, hA0, hV, rfl, hfz, hnd⟩ := hW
  have hA : DataW.TrodAll enc Try.prog W 0 (fun _ => true) true Try.f5.params.toList args.toList ds p := hA0
  rw [Try.params5] at hA hval
  obtain ⟨v0, vs0, d0, ds0, p0, q0, hargs, rfl, rfl, h0, r0⟩ := trodAll_cons hA
  obtain ⟨rfl, rfl, rfl⟩ := trodAll_nil r0
  obtain rfl : args = #[v0] := by cases args; simp_all
  obtain ⟨rfl, rfl⟩ := trodVars_none hV
  have k0 := h0
  have lt0 : ∀ x ∈ p0, x.block < W.heap.size := by obtain ⟨m, hm⟩ := k0; exact DataW.trod_lt m _ _ _ hm
  obtain ⟨a0, n0, c0, l0, rfl, w0⟩ := open_shapes (hval 0 45 v0 rfl rfl) h0
  clear hA0 hval0
  refine (walk_HeadShapes a0 n0 c0 l0 w0 W).mono fun e W' ⟨he, hg⟩ => ?_
  subst he
  exact ⟨_, rfl, _, _, _, [], _, [], hW', trodAll_mk1 (shut_bool Try.underlying4 _), (trodAll_cons_mk (Below.trod laidOut (by kernel_rfl) (of_decide_eq_true (by kernel_rfl)) k0 hg lt0) trodAll_mk0), rfl, hg.frame _, fun h => by cases h⟩

/-- THE STATEMENT. -/
theorem said_HeadShapes : Rows.HeadShapesSaid :=
  OpenClaim.holds_of_wide 5 Try.f5 rfl rfl rfl rfl rfl rfl rfl ⟨rfl, rfl, rfl, rfl, rfl⟩ rfl rfl rfl rfl rfl (by kernel_rfl) Try.func5 (by kernel_rfl)
    (of_decide_eq_true (by kernel_rfl)) (by unfold Func.isWrapper; first | (rw [if_pos (by decide +kernel)]; kernel_rfl) | (rw [if_neg (by decide +kernel)]; exact ⟨rfl, rfl⟩))
    (fun os started H enc _ => lifted_HeadShapes os started H enc)
#print axioms said_HeadShapes
end Go.Proofs.Ytionokpdplgjbaa
