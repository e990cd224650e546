/- Package fresh: the nodes that a node leads to. -/
import Derived.Test.YtiangegoglfpeaaDoorFrBeh
import Derived.Test.YtiangegoglfpeaaDoorLiveFlw
namespace Go.Proofs.YtiangegoglfpeaaDoor
set_option maxRecDepth 100000
open Go.RowKit Go.Maps Go.ChangeShapes Go.WideShapes Go.ChangeAt Go.Deep

set_option maxHeartbeats 1000000 in
theorem nodesOf_any (w : World) (gB : Nat) (io : Option Addr) (L ic : Nat) (c11 : w.cell? ⟨gB, 11, none⟩ = some (.slice io L ic)) (hL : L ≤ 1000000) (v : Value) (l : List Int) (h : IsL w v l) (hn : l.length ≤ 5000000) (hb : ∀ x ∈ l, 0 ≤ x ∧ x ≤ 3000000) :
    Calls Tryd.prog 56 #[.pointer (some ⟨gB, 0, none⟩), v] w (FTo w (l.map fun x => (L : Int) + x)) := by
  obtain ⟨ao, c, rfl, hc, hget⟩ := h.get
  have hgb := World.block_lt_of_cell? w _ c11
  have mk := mk_ints l.length (by omega)
  have RD : Hid (∀ (k : Nat) (wr : World), k < l.length → MkI w l.length k (fun i => (L : Int) + l.getD i 0) wr → ∃ (b off : Nat) (a : Int), ao = some ⟨b, off, none⟩ ∧ wr.cell? ⟨b, off + k, none⟩ = some (.int .i64 a) ∧ wr.cell? ⟨gB, 11, none⟩ = some (.slice io L ic) ∧ wrap64 ((L : Int) + a) = (L : Int) + a ∧ (∃ u, wr.cell? ⟨w.heap.size, k, none⟩ = some u) ∧ wr.frozen? ⟨w.heap.size, k, none⟩ = false ∧ MkI w l.length (k + 1) (fun i => (L : Int) + l.getD i 0) (wr.setCell ⟨w.heap.size, k, none⟩ (.int .i64 ((L : Int) + a)))) := hide fun k wr hk hm => by
    obtain ⟨b, off, a, e, ha, hx⟩ := hget k hk
    have hab := hb a (List.mem_of_getElem? ha)
    have st := hm.step hk
    rw [show l.getD k 0 = a from getD_of ha] at st
    exact ⟨b, off, a, e, hx wr hm.g, hm.g.cell c11, by unfold wrap64; omega, Option.isSome_iff_exists.1 (hm.thr k hk).1, (hm.thr k hk).2, st⟩
  have ST := hide (mki_start w l.length (fun i => (L : Int) + l.getD i 0))
  have FI : Hid (∀ wr, MkI w l.length l.length (fun i => (L : Int) + l.getD i 0) wr → FTo w (l.map fun x => (L : Int) + x) (.returned (.slice (some ⟨w.heap.size, 0, none⟩) l.length l.length)) wr) := hide fun wr hm => by
    refine ⟨_, rfl, ⟨?_, fun a n c e => by cases e; exact Nat.le_refl _⟩, hm.g⟩
    have := hm.isl (by omega) (l.map fun x => (L : Int) + x) (by simp) (fun i a ha => by
      rw [List.getElem?_map] at ha
      obtain ⟨x, hx, e⟩ := Option.map_eq_some_iff.1 ha
      rw [getD_of hx]
      exact e.symm)
    exact this
  obtain ⟨n, hnl⟩ : ∃ n, l.length = n := ⟨_, rfl⟩
  rw [hnl] at RD ST FI mk hn ⊢
  have WB : Hid (n ≤ 5000000) := hide hn
  clear h hget hb hgb hnl hL hn hc
  go_enter Tryd.func56, Tryd.ntmps56
  go_wp2_with fail
  go_loopw [13] (fun i wr => ∃ k : Nat, k ≤ n ∧ i = .int .i64 k ∧ Hid (MkI w n k (fun i => (L : Int) + l.getD i 0) wr)) (fun i _ => n - (intOf i).toNat)
  case atStart => exact ⟨0, Nat.zero_le _, rfl, ST⟩
  case round =>
    obtain ⟨k, hk, rfl, HW⟩ := hrel
    clear ST
    by_cases hlt : k < n
    · obtain ⟨b, off, a, rfl, cx, cg, hw, ⟨u, hu⟩, hf, NX⟩ := unhide RD k wr hlt (unhide HW)
      replace NX := hide NX
      have hkI : (k : Int) < (n : Int) := by omega
      have hk0 : (0 : Int) ≤ (k : Int) := by omega
      have wk : wrap64 ((k : Int) + 1) = ((k + 1 : Nat) : Int) := by have := unhide WB; unfold wrap64; omega
      clear HW RD FI mk
      go_wp2_with fail
      go_roundw
      case rel => exact ⟨k + 1, by omega, by rw [wk], NX⟩
      case measure =>
        rw [wk]
        show n - ((k + 1 : Nat) : Int).toNat < n - (k : Int).toNat
        omega
    · obtain rfl : k = n := by omega
      have K := hide (unhide FI wr (unhide HW))
      have hlI : ¬ (k : Int) < (k : Int) := by omega
      clear HW RD FI mk
      go_wp2_with fail
      refine bodyPost_ret (by simp [results, Tryd.results56, go_sem]; try rfl) rfl ?_
      exact unhide K
/-- The nodes that a node of the cases leads to. -/
def fcP (m : Md) (L n : Nat) : List Int := if n < m.ca.length then [2 * (n : Int), 2 * (n : Int) + 1].map fun x => (L : Int) + x else match m.ca[n - m.ca.length]? with
  | none => []
  | some c => if 0 ≤ c.t ∧ c.t < (L : Int) then [c.t] else []
theorem fld3 (a b c d : Value) (w : World) : (Instr.field 66 (.agg #[a, b, c, d]) 3).run Tryd.prog w = .ok d w := by kernel_rfl
set_option maxHeartbeats 1000000 in
theorem followsCases_any (w : World) (gB : Nat) (z : Gk) (m : Md) (L : Nat) (c11 : w.cell? ⟨gB, 11, none⟩ = some (.slice z.io L z.ic)) (c13 : w.cell? ⟨gB, 13, none⟩ = some (.slice z.ao m.ca.length z.ac)) (c14 : w.cell? ⟨gB, 14, none⟩ = some (.slice z.sb (2 * m.ca.length) z.s2)) (c15 : w.cell? ⟨gB, 15, none⟩ = some (.slice z.rb (2 * m.ca.length) z.r2)) (hr : RowAt elCa w z.ao m.ca.length z.ac m.ca) (oc : ∀ c ∈ m.ca, oCa c) (hL : L ≤ 1000000) (hc : m.ca.length ≤ 1000000) (n : Nat) (hn : n < 2 * m.ca.length) :
    Calls Tryd.prog 55 #[.pointer (some ⟨gB, 0, none⟩), .int .i64 (n : Int)] w (FTo w (fcP m L n)) := by
  have CI := hide (isLeaf_any w m.ca.length z.ao z.ac z.sb (2 * m.ca.length) z.s2 z.rb (2 * m.ca.length) z.r2 (n : Int))
  by_cases hlt : n < m.ca.length
  · have e : fcP m L n = [2 * (n : Int), 2 * (n : Int) + 1].map fun x => (L : Int) + x := by unfold fcP; rw [if_pos hlt]
    rw [e]
    have CC : Hid (∀ x, Calls Tryd.prog 68 #[agT m.ca.length z.ao z.ac z.sb (2 * m.ca.length) z.s2 z.rb (2 * m.ca.length) z.r2, .int .i64 (n : Int)] x (LTo x [2 * (n : Int), 2 * (n : Int) + 1])) := hide fun x => children_any x m.ca.length z.ao z.ac z.sb (2 * m.ca.length) z.s2 z.rb (2 * m.ca.length) z.r2 n (by omega)
    have CN : Hid (∀ x v, G w x → IsL x v [2 * (n : Int), 2 * (n : Int) + 1] → Calls Tryd.prog 56 #[.pointer (some ⟨gB, 0, none⟩), v] x (FTo x ([2 * (n : Int), 2 * (n : Int) + 1].map fun x => (L : Int) + x))) := hide fun x v g hv => nodesOf_any x gB z.io L z.ic (g.cell c11) hL v _ hv (by simp) (fun y hy => by simp at hy; omega)
    have hd : decide ((m.ca.length : Int) ≤ (n : Int)) = false := decide_eq_false (by omega)
    rw [hd] at CI
    clear hd e hlt hn hL hc oc
    generalize m.ca.length = q at *
    clear hr
    go_enter Tryd.func55, Tryd.ntmps55
    go_wp2_with fail
    refine (unhide CI).mono ?_
    rintro e w1 ⟨rfl, g1⟩
    have d13 := g1.cell c13
    have d14 := g1.cell c14
    have d15 := g1.cell c15
    replace g1 := hide g1
    clear CI c13 c14 c15 c11
    go_wp2_with fail
    refine (unhide CC _).mono ?_
    rintro e w2 ⟨v, rfl, hv, g2⟩
    have CD := hide (unhide CN w2 v ((unhide g1).trans g2) hv)
    have gg := hide ((unhide g1).trans g2)
    clear CC CN d13 d14 d15 hv g2 g1
    go_wp2_with fail
    refine (unhide CD).mono ?_
    rintro e w3 ⟨v3, rfl, hv3, g3⟩
    have K : Hid (FTo w ([2 * (n : Int), 2 * (n : Int) + 1].map fun x => (L : Int) + x) (.returned v3) w3) := hide ⟨v3, rfl, hv3.mono (unhide gg).size, (unhide gg).trans g3⟩
    clear CD hv3 g3 gg
    go_wp2_with fail
    refine bodyPost_ret (by simp [results, Tryd.results55, go_sem]; try rfl) rfl ?_
    exact unhide K
  · obtain ⟨k, rfl⟩ : ∃ k, n = m.ca.length + k := ⟨n - m.ca.length, by omega⟩
    have hk : k < m.ca.length := by omega
    obtain ⟨cs, hcs⟩ : ∃ cs, m.ca[k]? = some cs := ⟨m.ca[k], List.getElem?_eq_getElem hk⟩
    have e : fcP m L (m.ca.length + k) = if 0 ≤ cs.t ∧ cs.t < (L : Int) then [cs.t] else [] := by unfold fcP; rw [if_neg hlt, Nat.add_sub_cancel_left, hcs]
    rw [e]
    have CC : Hid (∀ x, G w x → Calls Tryd.prog 69 #[agT m.ca.length z.ao z.ac z.sb (2 * m.ca.length) z.s2 z.rb (2 * m.ca.length) z.r2, .int .i64 ((m.ca.length + k : Nat) : Int)] x fun e w' => e = .returned (.agg #[.int .i64 cs.k, .int .i64 cs.c, .int .i64 cs.v, .int .i64 cs.t]) ∧ G x w') := hide fun x g => caseOf_any x m.ca.length z.ao z.ac z.sb (2 * m.ca.length) z.s2 z.rb (2 * m.ca.length) z.r2 m.ca (hr.g okCa g) k cs hcs hc
    have hd : decide ((m.ca.length : Int) ≤ ((m.ca.length + k : Nat) : Int)) = true := decide_eq_true (by omega)
    rw [hd] at CI
    have f3 := fld3
    have oT := (oc cs (List.mem_of_getElem? hcs)).2.2.2
    clear hd e hlt hn hL hc oc hr hk hcs
    obtain ⟨T, hT⟩ : ∃ T, cs.t = T := ⟨_, rfl⟩
    rw [hT] at CC ⊢
    clear hT
    generalize ((m.ca.length + k : Nat) : Int) = nk at CI CC ⊢
    generalize m.ca.length = q at *
    obtain ⟨Rr, hRr⟩ : ∃ Rr, (if 0 ≤ T ∧ T < (L : Int) then [T] else []) = Rr := ⟨_, rfl⟩
    rw [hRr]
    have KN : Hid (∀ (x : World) (a : Nat), 0 ≤ T → T < (L : Int) → G w x → a = x.heap.size → FTo w Rr (.returned (.slice (some ⟨a, 0, none⟩) 1 1)) (x.alloc (.cells #[.int .i64 T] 3))) := hide fun x a h0 h1 g e => by
      subst e
      rw [← hRr, if_pos ⟨h0, h1⟩]
      exact ⟨_, rfl, (nwl_new x [T] (by show 1 ≤ maxLen; decide)).mono g.size, g.more _⟩
    have KZ : Hid (∀ x, ¬ (0 ≤ T ∧ T < (L : Int)) → G w x → FTo w Rr (.returned (.slice none 0 0)) x) := hide fun x h g => by
      rw [← hRr, if_neg h]
      exact ⟨_, rfl, nwl_nil _ x, g⟩
    clear hRr
    go_enter Tryd.func55, Tryd.ntmps55
    go_wp2_with fail
    refine (unhide CI).mono ?_
    rintro e w1 ⟨rfl, g1⟩
    have d13 := g1.cell c13
    have d14 := g1.cell c14
    have d15 := g1.cell c15
    replace g1 := hide g1
    clear CI c13 c14 c15
    go_wp2_with fail
    refine (unhide CC _ (unhide g1)).mono ?_
    rintro e w2 ⟨rfl, g2⟩
    have gg := hide ((unhide g1).trans g2)
    have d11 := (unhide gg).cell c11
    replace g2 := hide g2
    clear CC d13 d14 d15 c11 g1
    by_cases h0 : 0 ≤ T
    · have dd0 : decide (0 ≤ T) = true := decide_eq_true h0
      by_cases h1 : T < (L : Int)
      · have dd1 : decide (T < (L : Int)) = true := decide_eq_true h1
        go_wp2_with fail
        refine bodyPost_ret (by simp [results, Tryd.results55, go_sem]; try rfl) rfl ?_
        exact unhide KN w2 _ h0 h1 (unhide gg) rfl
      · have dd1 : decide (T < (L : Int)) = false := decide_eq_false h1
        go_wp2_with fail
        refine bodyPost_ret (by simp [results, Tryd.results55, go_sem]; try rfl) rfl ?_
        exact unhide KZ w2 (by omega) (unhide gg)
    · have dd0 : decide (0 ≤ T) = false := decide_eq_false h0
      go_wp2_with fail
      refine bodyPost_ret (by simp [results, Tryd.results55, go_sem]; try rfl) rfl ?_
      exact unhide KZ w2 (by omega) (unhide gg)
/-- The nodes that a node leads to. -/
def flG (m : Md) (f : Fn) (n : Nat) : List Int := match f.is[n]? with
  | none => fcP m f.is.length (n - f.is.length)
  | some i => if i.op = 41 then (covP m.ca.length i.a i.b).map fun x => (f.is.length : Int) + x else flP m f (n : Int)
theorem flG_mem (m : Md) (f : Fn) (n : Nat) : ∀ x ∈ flG m f n, 0 ≤ x ∧ x < ((f.is.length + 2 * m.ca.length : Nat) : Int) := by
  intro x hx
  unfold flG at hx
  split at hx
  · unfold fcP at hx
    split at hx
    · simp at hx; omega
    · split at hx
      · simp at hx
      · split at hx
        · simp at hx; omega
        · simp at hx
  · split at hx
    · obtain ⟨y, hy, rfl⟩ := List.mem_map.1 hx
      have := covP_mem _ _ _ y hy
      omega
    · rename_i i hi _
      unfold flP at hx
      rw [if_neg (by omega), Int.toNat_natCast, hi] at hx
      have := (plP_mem _ _ _).1 hx
      omega
set_option maxHeartbeats 1000000 in
theorem fol_any {W0 : World} {M : Nat → Prop} {B gB ab wb N : Nat} {z : Gk} {m : Md} {f : Fn} {S R : List Nat} {w : World} {s : FSt} {P : Nat → Nat} {qv : Value} (st : StA W0 z m f S R) (h : GI W0 M B gB ab wb N (gC z m f ab wb N) w s P qv) (n : Nat) (hN : N = f.is.length + 2 * m.ca.length) (hn : n < N) :
    Calls Tryd.prog 38 #[.pointer (some ⟨gB, 0, none⟩), .int .i64 (n : Int)] w (FTo w (flG m f n)) := by
  obtain ⟨c0, c1, c2, c3, c4, c5, c6, c7, c8, c9, c10, c11, c12, c13, c14, c15, _, _⟩ := gc_cells h.q.s
  have nl := st.ni
  have nc := st.nc
  have HM := st.hm.g h.g
  have hrI := st.hi.g okIn h.g
  subst hN
  obtain ⟨Rr, hRr⟩ : ∃ Rr, flG m f n = Rr := ⟨_, rfl⟩
  by_cases hin : f.is.length ≤ n
  · have e : flG m f n = fcP m f.is.length (n - f.is.length) := by unfold flG; rw [List.getElem?_eq_none hin]
    have CF := hide (followsCases_any w gB z m f.is.length c11 c13 c14 c15 HM.r4 st.oc nl nc (n - f.is.length) (by omega))
    rw [← e] at CF
    rw [hRr] at CF ⊢
    have hd : decide ((f.is.length : Int) ≤ (n : Int)) = true := decide_eq_true (by omega)
    have hdI : (f.is.length : Int) ≤ (n : Int) := by omega
    have hw : wrap64 ((n : Int) - (f.is.length : Int)) = ((n - f.is.length : Nat) : Int) := by unfold wrap64; omega
    generalize n - f.is.length = nn at CF hw
    generalize f.is.length = L at c11 hd hdI hw
    clear st h HM hrI e hRr c0 c1 c2 c3 c4 c5 c6 c7 c8 c9 c10 c12 c13 c14 c15 nl nc hn hin
    go_enter Tryd.func38, Tryd.ntmps38
    go_wp2_with fail
    refine (unhide CF).mono ?_
    rintro e w1 ⟨v, rfl, hv, g1⟩
    have K : Hid (FTo w Rr (.returned v) w1) := hide ⟨v, rfl, hv, g1⟩
    clear CF hv g1
    go_wp2_with fail
    refine bodyPost_ret (by simp [results, Tryd.results38, go_sem]; try rfl) rfl ?_
    exact unhide K
  · have hlt : n < f.is.length := by omega
    obtain ⟨i, hi⟩ : ∃ i, f.is[n]? = some i := ⟨f.is[n], List.getElem?_eq_getElem hlt⟩
    obtain ⟨ib, ioff, eio, hic⟩ := rowI_get hrI n i hi
    have hd : decide ((f.is.length : Int) ≤ (n : Int)) = false := decide_eq_false (by omega)
    have hdI : ¬ (f.is.length : Int) ≤ (n : Int) := by omega
    have hlI : (n : Int) < (f.is.length : Int) := by omega
    have hn0 : (0 : Int) ≤ (n : Int) := by omega
    have okI := st.oi i (List.mem_of_getElem? hi)
    by_cases h41 : i.op = 41
    · have e : flG m f n = (covP m.ca.length i.a i.b).map fun x => (f.is.length : Int) + x := by unfold flG; rw [hi]; simp only; rw [if_pos h41]
      have CO : Hid (∀ x, Calls Tryd.prog 52 #[agT m.ca.length z.ao z.ac z.sb (2 * m.ca.length) z.s2 z.rb (2 * m.ca.length) z.r2, agI i] x fun e w' => ∃ v, e = .returned v ∧ IsL w' v (covP m.ca.length i.a i.b) ∧ G x w') := hide fun x => (cover_any x m.ca.length z.ao z.ac z.sb (2 * m.ca.length) z.s2 z.rb (2 * m.ca.length) z.r2 i okI.2.1 okI.2.2.1 st.nc).mono fun _ _ r => by
        obtain ⟨v, h1, h2, h3⟩ := r
        exact ⟨v, h1, h2.1, h3⟩
      have CN : Hid (∀ x v, G w x → IsL x v (covP m.ca.length i.a i.b) → Calls Tryd.prog 56 #[.pointer (some ⟨gB, 0, none⟩), v] x fun e w' => ∃ v, e = .returned v ∧ FTo w (flG m f n) (.returned v) w') := hide fun x v g hv => by
        rw [e]
        have hnn := nodesOf_any x gB z.io f.is.length z.ic (g.cell c11) nl v _ hv (by
          unfold covP
          split
          · simp
          · have := cov_len (2 * m.ca.length + 1) (m.ca.length + i.a.toNat) (m.ca.length + i.a.toNat + i.b.toNat) []
            simp at this
            omega) (fun y hy => by have := covP_mem _ _ _ y hy; omega)
        exact hnn.mono fun _ _ r => by
          obtain ⟨v, h1, h2, h3⟩ := r
          exact ⟨v, h1, v, rfl, h2.mono g.size, g.trans h3⟩
      rw [hRr] at CN ⊢
      generalize covP m.ca.length i.a i.b = cov at CO CN
      rw [eio] at c11
      obtain ⟨x0, x1, x2, x3, x4⟩ := hic w (G.refl w)
      obtain ⟨op, A, Bb, Cc, Dd⟩ := i
      simp only at h41
      subst h41
      simp only at *
      have NX : Hid (∀ x, G w x → x.cell? ⟨ib, ioff + n * 5, none⟩ = some (.int .i64 41)) := hide fun x g => (hic x g).1
      generalize f.is.length = L at c11 hd hdI hlI
      clear st h HM hrI e hRr c0 c1 c2 c3 c4 c5 c6 c7 c8 c9 c10 c12 nl nc hn hin hi hic eio okI hlt
      go_enter Tryd.func38, Tryd.ntmps38
      go_upto_region 5 with fail
      go_cut [4] (fun v4 wx => ∃ v, v4 = v ∧ Hid (FTo w Rr (.returned v) wx))
      case first =>
        go_region_with (first | (refine (unhide CO _).mono ?_; rintro e w6 ⟨v6, rfl, i6, g6⟩; replace i6 := hide i6; replace g6 := hide g6) | (refine (unhide CN _ _ (by first | exact (G.refl _).trans (unhide g6) | exact (G.refl _).drew.trans (unhide g6) | exact (G.refl _).drew.drew.trans (unhide g6)) (unhide i6)).mono ?_; rintro e w7 ⟨v7, rfl, r7⟩; replace r7 := hide r7))
        all_goals
          go_wp2_with fail
          go_meet
          exact ⟨_, rfl, r7⟩
      case rest =>
        obtain ⟨v, rfl, HF⟩ := hcut
        go_wp2_with fail
        refine bodyPost_ret (by simp [results, Tryd.results38, go_sem]; try rfl) rfl ?_
        exact unhide HF
    · have e : flG m f n = flP m f (n : Int) := by unfold flG; rw [hi]; simp only; rw [if_neg h41]
      have CF : Hid (∀ x, G w x → Calls Tryd.prog 57 #[agM m z.so z.sc z.go z.gc z.co z.cc z.ao z.ac z.fo z.fc, agF f z.ko z.kc z.io z.ic z.mo z.mc, .int .i64 (n : Int)] x fun e w' => ∃ v, e = .returned v ∧ FTo w (flG m f n) (.returned v) w') := hide fun x g => by
        rw [e]
        exact (follows_any x m z.so z.sc z.go z.gc z.co z.cc z.ao z.ac z.fo z.fc (HM.g g) f z.ko z.kc z.io z.ic z.mo z.mc (hrI.g okIn g) st.oi nc (n : Int)).mono fun _ _ r => by
          obtain ⟨v, h1, h2, h3⟩ := r
          exact ⟨v, h1, v, rfl, h2.mono g.size, g.trans h3⟩
      rw [hRr] at CF ⊢
      obtain ⟨x0, x1, x2, x3, x4⟩ := hic w (G.refl w)
      have h41b : (i.op == 41) = false := beq_eq_false_iff_ne.2 h41
      generalize i.op = op at x0 h41b
      unfold agM agF at CF
      rw [eio] at c11 CF
      generalize f.is.length = L at c11 hd hdI hlI CF
      clear st h HM hrI e hRr c13 c14 c15 nl nc hn hin hi hic eio okI hlt x1 x2 x3 x4 h41
      go_enter Tryd.func38, Tryd.ntmps38
      go_upto_region 6 with fail
      go_cut [4] (fun v4 wx => ∃ v, v4 = v ∧ Hid (FTo w Rr (.returned v) wx))
      case first =>
        go_region_with (refine (unhide CF _ (by first | exact G.refl _ | exact (G.refl _).drew | exact (G.refl _).drew.drew)).mono ?_; rintro e w7 ⟨v7, rfl, r7⟩; replace r7 := hide r7)
        all_goals
          go_wp2_with fail
          go_meet
          exact ⟨_, rfl, r7⟩
      case rest =>
        obtain ⟨v, rfl, HF⟩ := hcut
        go_wp2_with fail
        refine bodyPost_ret (by simp [results, Tryd.results38, go_sem]; try rfl) rfl ?_
        exact unhide HF
end Go.Proofs.YtiangegoglfpeaaDoor
