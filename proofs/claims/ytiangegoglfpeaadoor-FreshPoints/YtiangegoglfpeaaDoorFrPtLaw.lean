/- FreshPoints: of straight code: behind a point nothing is young but what a maker made there; at first, and in a function of no makers, nothing is young or own at all. No condition. -/
import Derived.Test.YtiangegoglfpeaaDoorMfL
import Derived.Test.YtiangegoglfpeaaDoorFrPtP
import Derived.Test.YtiangegoglfpeaaDoorMfN
namespace Go.Proofs.YtiangegoglfpeaaDoor
set_option maxRecDepth 100000
open Go.RowKit Go.Maps Go.ChangeShapes Go.WideShapes Go.ChangeAt Go.Deep

theorem kAt_cases (s : FSt) (n : Nat) : kAt s n = Kn.zero ∨ s.A.getD n none = some (kAt s n) := by
  unfold kAt
  cases e : s.A.getD n none with
  | none => exact Or.inl rfl
  | some k => exact Or.inr rfl
theorem and_bit {y k : Nat} (hk : k < 64) (h : (y &&& bitP (k : Int) != 0) = true) : y.testBit k = true := by
  have e : bitP (k : Int) = 2 ^ k := by
    unfold bitP
    rw [if_pos (by omega)]
    simp
  cases ht : y.testBit k with
  | true => rfl
  | false =>
    have hz : y &&& 2 ^ k = 0 := by
      apply Nat.eq_of_testBit_eq
      intro i
      rw [Nat.testBit_and, Nat.testBit_two_pow, Nat.zero_testBit]
      by_cases hki : k = i
      · subst hki; simp [ht]
      · simp [hki]
    rw [e, hz] at h
    simp at h
theorem pt_none (m : Md) (f : Fn) (S R : List Nat) (hs : Strt f) (j k : Nat) (h : j = 0 ∨ ∀ i ∈ f.is, (rwOf i.op).mkr = false) : ((kAt (setP m f S R) j).y &&& bitP (k : Int) != 0) = false ∧ ((kAt (setP m f S R) j).o &&& bitP (k : Int) != 0) = false := by
  have J := ptj_end m f S R hs
  have key : (kAt (setP m f S R) j).y = 0 ∧ (kAt (setP m f S R) j).o = 0 := by
    rcases kAt_cases (setP m f S R) j with e | e
    · rw [e]; exact ⟨rfl, rfl⟩
    · rcases h with rfl | h
      · exact J.z _ e
      · exact J.nm h j _ e
  rw [key.1, key.2]
  simp
theorem pt_some (m : Md) (f : Fn) (S R : List Nat) (hs : Strt f) (j k : Nat) (i : In) (hi : f.is[j]? = some i) (hp : (rwOf i.op).pt = true) (hk : k < 64) (h : ((kAt (setP m f S R) (j + 1)).y &&& bitP (k : Int) != 0) = true) : (rwOf i.op).mkr = true ∧ i.a = (k : Int) := by
  have J := ptj_end m f S R hs
  have hb := and_bit hk h
  rcases kAt_cases (setP m f S R) (j + 1) with e | e
  · rw [e] at hb; simp [Kn.zero] at hb
  · exact J.pt j i _ hi hp e k hb
theorem sttL_get (q : Kn) (n k : Nat) (hk : k < n) : (sttL q n)[k]? = some (sttP q k) := by
  unfold sttL
  rw [List.getElem?_map, List.getElem?_range hk]
  rfl
def PtI (y2 wx : World) (mb mb' mk : Bool) : Prop := G y2 wx ∧ (mb' = false → mb = false ∧ mk = false)
set_option maxHeartbeats 2000000 in
theorem walk_FreshPoints (m : Md) (so : Option Addr) (sc : Nat) (go : Option Addr) (gc : Nat) (co : Option Addr) (cc : Nat) (ao : Option Addr) (ac : Nat) (fo : Option Addr) (fc : Nat) (f : Fn) (ko : Option Addr) (kc : Nat) (io : Option Addr) (ic : Nat) (mo : Option Addr) (mc : Nat) (w : World) (hL : laidMetH Tryd.prog laid9 w)
    (hM : ModR w m so sc go gc co cc ao ac fo fc) (oM : oMd m) (hlen : m.fn.length * 104 ≤ reachBytes) (rk : RowAt elB w ko f.ks.length kc f.ks) (ri : RowAt elIn w io f.is.length ic f.is) (rm : RowAt elU w mo f.ms.length mc f.ms) (oF : oFn f) :
    Calls Tryd.prog 5 #[.agg #[.slice so m.sh.length sc, .slice go m.gl.length gc, .slice co m.co.length cc, .slice ao m.ca.length ac, .slice fo m.fn.length fc, .int .i64 m.main], .agg #[.int .i64 f.p, .int .i64 f.c, .int .i64 f.s, .int .i64 f.r, .slice ko f.ks.length kc, .slice io f.is.length ic, .slice mo f.ms.length mc]] w fun e w' => e = .returned (.bool true) ∧ G w w' := by
  have ht := tabz_of_laid hL
  have hw := rows_of_laid hL
  obtain ⟨W0, hW0⟩ : ∃ W0, W0 = (w.alloc (.cells #[.slice so m.sh.length sc, .slice go m.gl.length gc, .slice co m.co.length cc, .slice ao m.ca.length ac, .slice fo m.fn.length fc, .int .i64 m.main] 29)).alloc (.cells #[.int .i64 f.p, .int .i64 f.c, .int .i64 f.s, .int .i64 f.r, .slice ko f.ks.length kc, .slice io f.is.length ic, .slice mo f.ms.length mc] 33) := ⟨_, rfl⟩
  have g0 : G w W0 := by rw [hW0]; exact ((G.refl w).more _).more _
  have m0 : W0.cell? ⟨w.heap.size, 0, none⟩ = some (.slice so m.sh.length sc) := by rw [hW0]; simp [go_sem]
  have m1 : W0.cell? ⟨w.heap.size, 1, none⟩ = some (.slice go m.gl.length gc) := by rw [hW0]; simp [go_sem]
  have m2 : W0.cell? ⟨w.heap.size, 2, none⟩ = some (.slice co m.co.length cc) := by rw [hW0]; simp [go_sem]
  have m3 : W0.cell? ⟨w.heap.size, 3, none⟩ = some (.slice ao m.ca.length ac) := by rw [hW0]; simp [go_sem]
  have m4 : W0.cell? ⟨w.heap.size, 4, none⟩ = some (.slice fo m.fn.length fc) := by rw [hW0]; simp [go_sem]
  have m5 : W0.cell? ⟨w.heap.size, 5, none⟩ = some (.int .i64 m.main) := by rw [hW0]; simp [go_sem]
  have f0 : W0.cell? ⟨w.heap.size + 1, 0, none⟩ = some (.int .i64 f.p) := by rw [hW0]; simp [go_sem]
  have f1 : W0.cell? ⟨w.heap.size + 1, 1, none⟩ = some (.int .i64 f.c) := by rw [hW0]; simp [go_sem]
  have f2 : W0.cell? ⟨w.heap.size + 1, 2, none⟩ = some (.int .i64 f.s) := by rw [hW0]; simp [go_sem]
  have f3 : W0.cell? ⟨w.heap.size + 1, 3, none⟩ = some (.int .i64 f.r) := by rw [hW0]; simp [go_sem]
  have f4 : W0.cell? ⟨w.heap.size + 1, 4, none⟩ = some (.slice ko f.ks.length kc) := by rw [hW0]; simp [go_sem]
  have f5 : W0.cell? ⟨w.heap.size + 1, 5, none⟩ = some (.slice io f.is.length ic) := by rw [hW0]; simp [go_sem]
  have f6 : W0.cell? ⟨w.heap.size + 1, 6, none⟩ = some (.slice mo f.ms.length mc) := by rw [hW0]; simp [go_sem]
  have fz : W0.frozen? ⟨w.heap.size, 4, none⟩ = false := by rw [hW0]; simp [go_sem]
  have AK := hide (awake11 W0 (ht.g g0) (hw.g g0))
  have PRE := hide (fun x1 g1 => law_pre w W0 m so sc go gc co cc ao ac fo fc f ko kc io ic mo mc hM rk ri rm hlen g0 m0 m1 m2 m3 m4 m5 f0 f1 f2 f3 f4 f5 f6 fz x1 g1)
  have TT : Hid (∀ x, G w x → TabZ x ∧ RowsAt x) := hide fun x g => ⟨ht.g g, hw.g g⟩
  replace oM := hide oM
  replace oF := hide oF
  clear hM rk ri rm hlen fz ht hw hL
  go_enter Tryd.func5, Tryd.ntmps5
  go_upto_region 1 with fail
  rw [← hW0]
  clear hW0
  go_wp2_with fail
  refine (unhide AK).mono ?_
  rintro e x1 ⟨rfl, g1⟩
  obtain ⟨b, c', x2, hrun, k4, fk, LW⟩ := unhide PRE x1 g1
  replace LW := hide LW
  have e0 := g1.cell f0
  have e1 := g1.cell f1
  have e2 := g1.cell f2
  have e3 := g1.cell f3
  have e4 := g1.cell f4
  have e5 := g1.cell f5
  have e6 := g1.cell f6
  have d4 := (G.alloc x1 (.cells #[.int .i64 f.p, .int .i64 f.c, .int .i64 f.s, .int .i64 f.r, .slice ko f.ks.length kc, .slice io f.is.length ic, .slice mo f.ms.length mc] 33)).cell (g1.cell m4)
  clear AK PRE m0 m1 m2 m3 m4 m5 f0 f1 f2 f3 f4 f5 f6 g0 g1
  go_upto_region 4 with (at_builtin; refine wpl_apx rfl (.tmp 15) (.tmp 17) 27 rfl _ _ rfl rfl _ _ hrun ?_; clear hrun)
  obtain ⟨X, hX⟩ : ∃ X, X = x2.setCell ⟨w.heap.size, 4, none⟩ (.slice (some ⟨b, 0, none⟩) (m.fn.length + 1) c') := ⟨_, rfl⟩
  rw [← hX] at LW ⊢
  have BB := hide (fun x g => (unhide LW).box x g)
  obtain ⟨bx0, bx1, bx2, bx3, bx4, bx5, bx6, bx7, bx8, bx9, bx10, bx11, bx12⟩ := unhide BB X (G.refl X)
  have CB := hide (lw_big (unhide LW))
  clear hX k4 fk e0 e1 e2 e3 e4 e5 e6 d4
  go_wp2_with fail
  refine (unhide CB).mono ?_
  rintro e y1 ⟨q, rfl, hq, gy1⟩
  clear CB bx0 bx1 bx2 bx3 bx4 bx5 bx6 bx7 bx8 bx9 bx10 bx11 bx12
  cases q
  rotate_left
  · have K := hide ((unhide LW).g.trans gy1)
    clear hq gy1 LW BB
    go_wp2_with fail
    go_ret
    exact ⟨rfl, unhide K⟩
  have sm := hq rfl
  obtain ⟨s1, s2, s3, s4⟩ := sm_bounds sm
  obtain ⟨bx0, bx1, bx2, bx3, bx4, bx5, bx6, bx7, bx8, bx9, bx10, bx11, bx12⟩ := unhide BB y1 gy1
  have GY1 : Hid (G w y1) := hide ((unhide LW).g.trans gy1)
  have C1 := hide (fsets_any y1 (md2 m f) so sc go gc co cc ao ac (some ⟨b, 0, none⟩) c' f ko kc io ic mo mc ((unhide LW).mr.g gy1) ((unhide LW).ri.g okIn gy1) (unhide TT y1 (unhide GY1)).1 (unhide TT y1 (unhide GY1)).2 (oF_is (unhide oF)) (oM_ca (unhide oM)) (by show f.is.length + 2 * m.ca.length ≤ 1000000; omega))
  have RI : Hid (RowAt elIn y1 io f.is.length ic f.is) := hide ((unhide LW).ri.g okIn gy1)
  have B5 : Hid (∀ x, G y1 x → x.cell? ⟨w.heap.size + 1, 5, none⟩ = some (.slice io f.is.length ic)) := hide fun x g => (unhide BB x (gy1.trans g)).2.2.2.2.2.2.2.2.2.2.2.1
  obtain ⟨L, hLL⟩ : ∃ L, L = f.is.length := ⟨_, rfl⟩
  unfold agM agF at C1
  rw [show (md2 m f).sh = m.sh from rfl, show (md2 m f).gl = m.gl from rfl, show (md2 m f).co = m.co from rfl, show (md2 m f).ca = m.ca from rfl, show (md2 m f).fn.length = m.fn.length + 1 from rfl, show (md2 m f).main = m.main from rfl] at C1
  have hs4 := hide s4
  by_cases h60 : 60 < f.is.length
  · have h6 : (60 : Int) < (f.is.length : Int) := by omega
    clear hq sm s1 s2 s3 s4 C1 RI B5 LW BB gy1
    go_wp2_with fail
    go_ret
    exact ⟨rfl, unhide GY1⟩
  have h6 : ¬ (60 : Int) < (f.is.length : Int) := by omega
  replace gy1 := hide gy1
  clear hq sm s1 s2 s3 s4 h60
  go_wp2_with fail
  refine (unhide C1).mono ?_
  rintro e y2 ⟨b2, rb, rfl, gy2, _, HR⟩
  clear C1 bx0 bx1 bx2 bx3 bx4 bx5 bx6 bx7 bx8 bx9 bx10 bx11 bx12 h6
  obtain ⟨F, hF⟩ : ∃ F, F = setP (md2 m f) f (nodP 1 m.ca) (nodP 0 m.ca) := ⟨_, rfl⟩
  obtain ⟨yg, hyg⟩ : ∃ yg : Nat → Nat → Bool, yg = fun (j k : Nat) => (kAt F j).y &&& bitP (k : Int) != 0 := ⟨_, rfl⟩
  obtain ⟨ow, how⟩ : ∃ ow : Nat → Nat → Bool, ow = fun (j k : Nat) => (kAt F j).o &&& bitP (k : Int) != 0 := ⟨_, rfl⟩
  have PZ : Hid (Strt f → ∀ j k, (j = 0 ∨ ∀ i ∈ f.is, (rwOf i.op).mkr = false) → yg j k = false ∧ ow j k = false) := hide fun hs j k h => by rw [hyg, how, hF]; exact pt_none _ f _ _ hs j k h
  have PP : Hid (Strt f → ∀ j k i, f.is[j]? = some i → (rwOf i.op).pt = true → k < 64 → yg (j + 1) k = true → (rwOf i.op).mkr = true ∧ i.a = (k : Int)) := hide fun hs j k i hi hp hk h => by rw [hyg, hF] at h; exact pt_some _ f _ _ hs j k i hi hp hk h
  obtain ⟨cnt, hcnt⟩ : ∃ cnt, cnt = cntP f := ⟨_, rfl⟩
  have hc64 : Hid (cnt ≤ 64) := hide (by rw [hcnt]; exact cnt_le f)
  have RJ : Hid (∀ (x : World) (j : Nat), G y2 x → j < L → x.cell? ⟨b2, j, none⟩ = some (.slice (some ⟨rb j, 0, none⟩) cnt cnt)) := hide fun x j g hj => by rw [hcnt]; exact g.cell (HR j (by omega)).1
  have RS : Hid (∀ (x : World) (j k : Nat), G y2 x → j < L → k < cnt → x.cell? ⟨rb j, k * 3, none⟩ = some (.bool (yg j k)) ∧ x.cell? ⟨rb j, k * 3 + 1, none⟩ = some (.bool (ow j k))) := hide fun x j k g hj hk => by
    have hr : RowAt elSt y2 (some ⟨rb j, 0, none⟩) cnt cnt (sttL (kAt F j) cnt) := by rw [hF, hcnt]; exact (HR j (by omega)).2
    obtain ⟨h1, h2, _⟩ := row_st hr k _ (sttL_get _ _ _ hk) x g
    rw [hyg, how]
    exact ⟨h1, h2⟩
  have CI : Hid (∀ (x : World) (j : Nat), G y2 x → j < L → ∃ ib off i, io = some ⟨ib, off, none⟩ ∧ f.is[j]? = some i ∧ x.cell? ⟨ib, off + j * 5, none⟩ = some (.int .i64 i.op) ∧ x.cell? ⟨ib, off + j * 5 + 1, none⟩ = some (.int .i64 i.a) ∧ x.cell? ⟨ib, off + j * 5 + 2, none⟩ = some (.int .i64 i.b) ∧ x.cell? ⟨ib, off + j * 5 + 3, none⟩ = some (.int .i64 i.c) ∧ x.cell? ⟨ib, off + j * 5 + 4, none⟩ = some (.int .i64 i.d)) := hide fun x j g hj => by
    obtain ⟨i, hi⟩ : ∃ i, f.is[j]? = some i := ⟨_, List.getElem?_eq_getElem (by omega)⟩
    obtain ⟨ib, off, e, hc⟩ := rowI_get (unhide RI) j i hi
    exact ⟨ib, off, i, e, hi, hc x (gy2.trans g)⟩
  have C5 : Hid (∀ x, G y2 x → x.cell? ⟨w.heap.size + 1, 5, none⟩ = some (.slice io L ic)) := hide fun x g => by rw [hLL]; exact unhide B5 x (gy2.trans g)
  have MK : Hid (∀ (x : World) (op : Int), G y2 x → Calls Tryd.prog 16 #[.int .i64 op] x fun e w' => e = .returned (.bool (rwOf op).mkr) ∧ G x w') := hide fun x op g => maker_any x op (unhide TT x (((unhide GY1).trans gy2).trans g)).2
  have PO : Hid (∀ (x : World) (op : Int), G y2 x → Calls Tryd.prog 17 #[.int .i64 op] x fun e w' => e = .returned (.bool (rwOf op).pt) ∧ G x w') := hide fun x op g => point_any x op (unhide TT x (((unhide GY1).trans gy2).trans g)).2
  have GW : Hid (G w y2) := hide ((unhide GY1).trans gy2)
  have hLb : Hid (L ≤ 200) := hide (by rw [hLL]; exact unhide hs4)
  have MEM : Hid (∀ i, i ∈ f.is → ∃ j, j < L ∧ f.is[j]? = some i) := hide fun i hi => by
    obtain ⟨j, hj⟩ := List.mem_iff_getElem?.1 hi
    exact ⟨j, by rw [hLL]; exact (List.getElem?_eq_some_iff.1 hj).1, hj⟩
  rw [← hLL]
  replace hLL := hide hLL
  clear hyg how hF hcnt HR TT oM oF LW BB RI B5 GY1 gy1 gy2 hs4
  go_wp2_with fail
  go_loopw [6, 7] (fun v6 v7 wr => ∃ (t : Nat) (mb : Bool), t ≤ L ∧ v7 = .int .i64 t ∧ v6 = .bool mb ∧ Hid (G y2 wr ∧ (∀ j i, j < t → f.is[j]? = some i → i.op ≠ 18 ∧ i.op ≠ 19 ∧ i.op ≠ 41) ∧ (mb = false → ∀ j i, j < t → f.is[j]? = some i → (rwOf i.op).mkr = false))) (fun _ v7 _ => L - (intOf v7).toNat)
  case atStart => exact ⟨0, false, Nat.zero_le _, rfl, rfl, hide ⟨G.refl _, fun j i hj => by omega, fun _ j i hj => by omega⟩⟩
  case round =>
    obtain ⟨t, mb, ht, rfl, rfl, HI⟩ := hrel
    by_cases hlt : t < L
    · have htI : (t : Int) < (L : Int) := by omega
      have ht0 : (0 : Int) ≤ (t : Int) := by omega
      have wt : wrap64 ((t : Int) + 1) = ((t + 1 : Nat) : Int) := by have := unhide hLb; unfold wrap64; omega
      obtain ⟨ib, off, i, rfl, hi, i0, i1, i2, i3, i4⟩ := unhide CI wr t (unhide HI).1 hlt
      have c5 := unhide C5 wr (unhide HI).1
      obtain ⟨op, A, B, C, D⟩ := i
      simp only at i0
      clear i1 i2 i3 i4
      replace hi := hide hi
      have NX : Hid (∀ z mb', G y2 z → op ≠ 18 → op ≠ 19 → op ≠ 41 → (mb' = false → mb = false ∧ (rwOf op).mkr = false) → G y2 z ∧ (∀ j i, j < t + 1 → f.is[j]? = some i → i.op ≠ 18 ∧ i.op ≠ 19 ∧ i.op ≠ 41) ∧ (mb' = false → ∀ j i, j < t + 1 → f.is[j]? = some i → (rwOf i.op).mkr = false)) := hide fun z mb' gz n1 n2 n3 hm => by
        refine ⟨gz, fun j i hj hji => ?_, fun hb j i hj hji => ?_⟩
        · by_cases e : j = t
          · subst e
            rw [unhide hi] at hji
            cases hji
            exact ⟨n1, n2, n3⟩
          · exact (unhide HI).2.1 j i (by omega) hji
        · by_cases e : j = t
          · subst e
            rw [unhide hi] at hji
            cases hji
            exact (hm hb).2
          · exact (unhide HI).2.2 (hm hb).1 j i (by omega) hji
      go_upto_region 11 with fail
      go_cut [6] from 31 to 72 (fun v6 wx => ∃ mb', v6 = .bool mb' ∧ Hid (PtI y2 wx mb mb' (rwOf op).mkr))
      case first =>
        cases mb
        · go_wp2_with fail
          refine (unhide MK wr op (unhide HI).1).mono ?_
          rintro e w9 ⟨rfl, g9⟩
          have K : Hid (PtI y2 w9 false (rwOf op).mkr (rwOf op).mkr) := hide ⟨(unhide HI).1.trans g9, fun h => ⟨rfl, h⟩⟩
          clear g9
          go_wp2_with fail
          go_meet
          exact ⟨(rwOf op).mkr, rfl, K⟩
        · have K : Hid (PtI y2 wr true true (rwOf op).mkr) := hide ⟨(unhide HI).1, fun h => by cases h⟩
          go_wp2_with fail
          go_meet
          exact ⟨true, rfl, K⟩
      case rest =>
        obtain ⟨mb', rfl, HC⟩ := hcut
        have i0c : Hid (∀ x, G y2 x → x.cell? ⟨ib, off + t * 5, none⟩ = some (.int .i64 op)) := hide fun x g => by
          obtain ⟨ib', off', i', e, hi', j0, _⟩ := unhide CI x t g hlt
          rw [unhide hi] at hi'
          cases hi'
          cases e
          exact j0
        have d0 := unhide i0c wc (unhide HC).1
        have d5 := unhide C5 wc (unhide HC).1
        clear i0 c5 i0c
        by_cases n1 : op = 18
        · have K := hide ((unhide GW).trans (unhide HC).1)
          have b1 : (op == 18) = true := beq_iff_eq.2 n1
          clear NX
          go_wp2_with fail
          go_ret
          exact ⟨rfl, unhide K⟩
        have b1 : (op == 18) = false := beq_eq_false_iff_ne.2 n1
        by_cases n2 : op = 19
        · have K := hide ((unhide GW).trans (unhide HC).1)
          have b2' : (op == 19) = true := beq_iff_eq.2 n2
          clear NX
          go_wp2_with fail
          go_ret
          exact ⟨rfl, unhide K⟩
        have b2' : (op == 19) = false := beq_eq_false_iff_ne.2 n2
        by_cases n3 : op = 41
        · have K := hide ((unhide GW).trans (unhide HC).1)
          have b3 : (op == 41) = true := beq_iff_eq.2 n3
          clear NX
          go_wp2_with fail
          go_ret
          exact ⟨rfl, unhide K⟩
        have b3 : (op == 41) = false := beq_eq_false_iff_ne.2 n3
        have NXT := hide (unhide NX wc mb' (unhide HC).1 n1 n2 n3 (unhide HC).2)
        clear NX HC
        go_wp2_with fail
        go_roundw
        case rel => exact ⟨t + 1, mb', by omega, by rw [wt], rfl, NXT⟩
        case measure => rw [wt]; exact dec_t L t hlt
    · obtain rfl : L = t := by omega
      have hST : Hid (Strt f) := hide fun i hi => by
        obtain ⟨j, hj, hji⟩ := unhide MEM i hi
        exact (unhide HI).2.1 j i hj hji
      have hMF : Hid (mb = false → ∀ i ∈ f.is, (rwOf i.op).mkr = false) := hide fun hb i hi => by
        obtain ⟨j, hj, hji⟩ := unhide MEM i hi
        exact (unhide HI).2.2 hb j i hj hji
      have GL := hide (unhide HI).1
      have c5 := unhide C5 wr (unhide HI).1
      have hnl : ¬ ((L : Int) < (L : Int)) := by omega
      clear HI MEM
      go_wp2_with fail
      go_loopw [8] (fun v8 wr => ∃ t : Nat, t ≤ L ∧ v8 = .int .i64 t ∧ Hid (G y2 wr)) (fun v8 _ => L - (intOf v8).toNat)
      case atStart => exact ⟨0, Nat.zero_le _, rfl, GL⟩
      case round =>
        obtain ⟨t, ht, rfl, HG⟩ := hrel
        clear c5 GL
        by_cases hlt : t < L
        · have htI : (t : Int) < (L : Int) := by omega
          have ht0 : (0 : Int) ≤ (t : Int) := by omega
          have wt : wrap64 ((t : Int) + 1) = ((t + 1 : Nat) : Int) := by have := unhide hLb; unfold wrap64; omega
          go_wp2_with fail
          go_loopw [9] (fun v9 wr => ∃ k : Nat, k ≤ cnt ∧ v9 = .int .i64 k ∧ Hid (G y2 wr)) (fun v9 _ => cnt - (intOf v9).toNat)
          case atStart => exact ⟨0, Nat.zero_le _, rfl, HG⟩
          case round =>
            obtain ⟨k, hk, rfl, HG3⟩ := hrel
            clear HG
            have cj := unhide RJ wr t (unhide HG3) hlt
            by_cases hkc : k < cnt
            · have hkI : (k : Int) < (cnt : Int) := by omega
              have hk0 : (0 : Int) ≤ (k : Int) := by omega
              have wk : wrap64 ((k : Int) + 1) = ((k + 1 : Nat) : Int) := by have := unhide hc64; unfold wrap64; omega
              obtain ⟨s0, s1⟩ := unhide RS wr t k (unhide HG3) hlt hkc
              by_cases hz : t = 0
              · obtain ⟨q1, q2⟩ := unhide PZ (unhide hST) t k (Or.inl hz)
                rw [q1] at s0
                rw [q2] at s1
                have hb : ((t : Int) == 0) = true := beq_iff_eq.2 (by omega)
                clear q1 q2 hz
                go_wp2_with fail
                go_roundw
                case rel => exact ⟨k + 1, by omega, by rw [wk], HG3⟩
                case measure => rw [wk]; exact dec_t cnt k hkc
              · have hb : ((t : Int) == 0) = false := beq_eq_false_iff_ne.2 (by omega)
                have hb2 : ¬ (t : Int) = 0 := by omega
                cases mb
                · obtain ⟨q1, q2⟩ := unhide PZ (unhide hST) t k (Or.inr (unhide hMF rfl))
                  rw [q1] at s0
                  rw [q2] at s1
                  clear q1 q2
                  go_wp2_with fail
                  go_roundw
                  case rel => exact ⟨k + 1, by omega, by rw [wk], HG3⟩
                  case measure => rw [wk]; exact dec_t cnt k hkc
                · clear s0 s1
                  go_wp2_with fail
                  go_roundw
                  case rel => exact ⟨k + 1, by omega, by rw [wk], HG3⟩
                  case measure => rw [wk]; exact dec_t cnt k hkc
            · obtain rfl : cnt = k := by omega
              have hkI : ¬ (cnt : Int) < (cnt : Int) := by omega
              obtain ⟨ib, off, i, hio, hi, i0, i1, i2, i3, i4⟩ := unhide CI wr t (unhide HG3) hlt
              have c5 := unhide C5 wr (unhide HG3)
              rw [hio] at c5
              obtain ⟨n18, n19, n41⟩ := unhide hST i (List.mem_of_getElem? hi)
              have PP1 : Hid (∀ k, (rwOf i.op).pt = true → k < 64 → yg (t + 1) k = true → (rwOf i.op).mkr = true ∧ i.a = (k : Int)) := hide fun k hp hk h => unhide PP (unhide hST) t k i hi hp hk h
              clear hi hio
              obtain ⟨op, A, B, C, D⟩ := i
              simp only at i0 i1 i2 i3 i4 n18 n19 n41 PP1
              have b18 : (op == 18) = false := beq_eq_false_iff_ne.2 n18
              have b19 : (op == 19) = false := beq_eq_false_iff_ne.2 n19
              have b41 : (op == 41) = false := beq_eq_false_iff_ne.2 n41
              go_upto_region 23 with fail
              obtain ⟨wq, hwq⟩ : ∃ wq, wq = wr.alloc (.cells #[.int .i64 op, .int .i64 A, .int .i64 B, .int .i64 C, .int .i64 D] 37) := ⟨_, rfl⟩
              rw [← hwq]
              have gq : Hid (G y2 wq) := hide ((unhide HG3).trans (by rw [hwq]; exact G.alloc _ _))
              have IB : Hid (∀ x, G wq x → x.cell? ⟨wr.heap.size, 0, none⟩ = some (.int .i64 op) ∧ x.cell? ⟨wr.heap.size, 1, none⟩ = some (.int .i64 A)) := hide fun x g => ⟨g.cell (by rw [hwq]; simp [go_sem]), g.cell (by rw [hwq]; simp [go_sem])⟩
              obtain ⟨q0, q1⟩ := unhide IB wq (G.refl _)
              clear hwq i0 i1 i2 i3 i4 c5 cj HG3
              by_cases n22 : op = 22
              · have b22 : (op == 22) = true := beq_iff_eq.2 n22
                clear PP1 IB
                go_wp2_with fail
                go_roundw
                case rel => exact ⟨t + 1, by omega, by rw [wt], gq⟩
                case measure => rw [wt]; exact dec_t L t hlt
              have b22 : (op == 22) = false := beq_eq_false_iff_ne.2 n22
              by_cases n44 : op = 44
              · have b44 : (op == 44) = true := beq_iff_eq.2 n44
                clear PP1 IB
                go_wp2_with fail
                go_roundw
                case rel => exact ⟨t + 1, by omega, by rw [wt], gq⟩
                case measure => rw [wt]; exact dec_t L t hlt
              have b44 : (op == 44) = false := beq_eq_false_iff_ne.2 n44
              go_wp2_with fail
              refine (unhide PO wq op (unhide gq)).mono ?_
              rintro e w9 ⟨rfl, g9⟩
              have GQ9 : Hid (G y2 w9) := hide ((unhide gq).trans g9)
              replace IB : Hid (∀ x, G w9 x → x.cell? ⟨wr.heap.size, 0, none⟩ = some (.int .i64 op) ∧ x.cell? ⟨wr.heap.size, 1, none⟩ = some (.int .i64 A)) := hide fun x g => unhide IB x (g9.trans g)
              have MK9 : Hid (∀ x, G w9 x → Calls Tryd.prog 16 #[.int .i64 op] x fun e w' => e = .returned (.bool (rwOf op).mkr) ∧ G x w') := hide fun x g => unhide MK x op ((unhide GQ9).trans g)
              clear g9 gq q0 q1
              cases hpt : (rwOf op).pt
              · clear PP1 IB MK9 hpt
                go_wp2_with fail
                go_roundw
                case rel => exact ⟨t + 1, by omega, by rw [wt], GQ9⟩
                case measure => rw [wt]; exact dec_t L t hlt
              have PP2 : Hid (∀ k, k < 64 → yg (t + 1) k = true → (rwOf op).mkr = true ∧ A = (k : Int)) := hide fun k hk h => unhide PP1 k hpt hk h
              clear hpt PP1
              by_cases hend : t + 1 < L
              · have heI : ((t + 1 : Nat) : Int) < (L : Int) := by omega
                have heI2 : (t : Int) + 1 < (L : Int) := by omega
                have heI3 : ¬ (L : Int) ≤ ((t + 1 : Nat) : Int) := by omega
                have heI4 : ¬ (L : Int) ≤ (t : Int) + 1 := by omega
                go_wp2_with fail
                go_loopw [11] (fun v11 wr => ∃ k : Nat, k ≤ cnt ∧ v11 = .int .i64 k ∧ Hid (G w9 wr)) (fun v11 _ => cnt - (intOf v11).toNat)
                case atStart => exact ⟨0, Nat.zero_le _, rfl, hide (G.refl _)⟩
                case round =>
                  obtain ⟨k, hk, rfl, HG4⟩ := hrel
                  have cj := unhide RJ wr (t + 1) ((unhide GQ9).trans (unhide HG4)) hend
                  by_cases hkc : k < cnt
                  · have hkI : (k : Int) < (cnt : Int) := by omega
                    have hk0 : (0 : Int) ≤ (k : Int) := by omega
                    have wk : wrap64 ((k : Int) + 1) = ((k + 1 : Nat) : Int) := by have := unhide hc64; unfold wrap64; omega
                    obtain ⟨s0, _⟩ := unhide RS wr (t + 1) k ((unhide GQ9).trans (unhide HG4)) hend hkc
                    obtain ⟨p0, p1⟩ := unhide IB wr (unhide HG4)
                    cases hy : yg (t + 1) k
                    · rw [hy] at s0
                      clear hy
                      go_wp2_with fail
                      go_roundw
                      case rel => exact ⟨k + 1, by omega, by rw [wk], HG4⟩
                      case measure => rw [wk]; exact dec_t cnt k hkc
                    · rw [hy] at s0
                      obtain ⟨z1, z2⟩ := unhide PP2 k (by have := unhide hc64; omega) hy
                      have CM := hide (unhide MK9 wr (unhide HG4))
                      rw [z1] at CM
                      have hak : (A == (k : Int)) = true := beq_iff_eq.2 z2
                      clear hy z1 z2
                      go_wp2_with fail
                      refine (unhide CM).mono ?_
                      rintro e w8 ⟨rfl, g8⟩
                      have HG5 : Hid (G w9 w8) := hide ((unhide HG4).trans g8)
                      obtain ⟨r0, r1⟩ := unhide IB w8 (unhide HG5)
                      clear CM g8 p0 p1 s0 cj
                      replace wt := hide wt
                      go_wp2_with fail
                      go_roundw
                      case rel => exact ⟨k + 1, by omega, by rw [wk], HG5⟩
                      case measure => rw [wk]; exact dec_t cnt k hkc
                  · obtain rfl : cnt = k := by omega
                    have hkI : ¬ (cnt : Int) < (cnt : Int) := by omega
                    have HG6 : Hid (G y2 wr) := hide ((unhide GQ9).trans (unhide HG4))
                    clear PP2 IB MK9 HG4
                    go_wp2_with fail
                    go_roundw
                    case rel => exact ⟨t + 1, by omega, by rw [wt], HG6⟩
                    case measure => rw [wt]; exact dec_t L t hlt
              · have heI3 : (L : Int) ≤ ((t + 1 : Nat) : Int) := by omega
                have heI4 : (L : Int) ≤ (t : Int) + 1 := by omega
                clear PP2 IB MK9
                go_wp2_with fail
                go_roundw
                case rel => exact ⟨t + 1, by omega, by rw [wt], GQ9⟩
                case measure => rw [wt]; exact dec_t L t hlt
        · obtain rfl : L = t := by omega
          have hnl2 : ¬ ((L : Int) < (L : Int)) := by omega
          have K := hide ((unhide GW).trans (unhide HG))
          clear HG
          go_wp2_with fail
          go_ret
          exact ⟨rfl, unhide K⟩

set_option maxRecDepth 100000 in
theorem lifted_FreshPoints (os : Os) (started : os.Started) (H : Type) (enc : TypeId × Value → H) :
    ReturnsInHanded {} Tryd.checked os 5 .any (fun w args => (Rows.freshPointsSpec.pre enc Tryd.prog Tryd.f5 [] false w args ∧ laidMetH Tryd.prog laid9 w) ∧ sizedMet enc Tryd.prog Tryd.f5 (OpenSpec.ofChange Rows.freshPointsSpec) false w args)
      (Rows.freshPointsSpec.post enc Tryd.prog Tryd.f5 false true false false) := by
  refine returnsInHanded_of_change_and (C := Tryd.checked) (X := fun w _ => laidMetH Tryd.prog laid9 w) (fun _ _ _ hh h => h.of_heap hh) own started (by kernel_rfl) Tryd.func5
    (ChangeSpec.witness_shaped (enc := enc) (C := Tryd.checked) (os := os) (X := fun w _ => laidMetH Tryd.prog laid9 w) false (World.doorLaid Tryd.prog 400 os) #[.agg #[.slice none 0 0, .slice none 0 0, .slice none 0 0, .slice none 0 0, .slice none 0 0, .int .i64 0], .agg #[.int .i64 0, .int .i64 0, .int .i64 0, .int .i64 0, .slice none 0 0, .slice none 0 0, .slice none 0 0]] 8 rfl (World.shaped_of_RefB (by kernel_rfl) (by kernel_rfl)) (by kernel_rfl) (by kernel_rfl) (by kernel_rfl) (door_met os _)) ?_
  intro W base args ds gs before hval0 hW _ hsz0 hL _
  have hval : ∀ (j : Nat) t v, Tryd.f5.params[j]? = some t → args[j]? = some v → Value.okWide Tryd.prog W .any base t v := hval0
  have hsz : (DataW.weightsEach Tryd.prog (Tryd.f5.params.toList ++ Rows.freshPointsSpec.plain.varTypes Tryd.prog) (ds ++ gs)).all (· ≤ reachBytes) = true := hsz0
  have hW' := hW
  obtain ⟨p, q, hA0, hV, rfl, hfz, hnd⟩ := hW
  have hA : DataW.TrodAll enc Tryd.prog W 0 (fun _ => true) true Tryd.f5.params.toList args.toList ds p := hA0
  rw [Tryd.params5] at hA hval hsz
  obtain ⟨v0, vs0, d0, ds0, p0, q0, hargs, rfl, rfl, h0, r0⟩ := trodAll_cons hA
  obtain ⟨v1, vs1, d1, ds1, p1, q1, rfl, rfl, rfl, h1, r1⟩ := trodAll_cons r0
  obtain ⟨rfl, rfl, rfl⟩ := trodAll_nil r1
  obtain rfl : args = #[v0, v1] := by cases args; simp_all
  obtain ⟨rfl, rfl⟩ := trodVars_none hV
  have k0 := h0
  have lt0 : ∀ x ∈ p0, x.block < W.heap.size := by obtain ⟨m, hm⟩ := k0; exact DataW.trod_lt m _ _ _ hm
  obtain ⟨m0, so0, sc0, go0, gc0, co0, cc0, ao0, ac0, fo0, fc0, rfl, hM0, oM0, hl0⟩ := open_modr (hval 0 29 v0 rfl rfl) h0 (fun k hk => by simpa using List.all_eq_true.1 hsz k (DataW.weights_mem_each (j := 0) (t := 29) (d := d0) rfl rfl k hk))
  have k1 := h1
  have lt1 : ∀ x ∈ p1, x.block < W.heap.size := by obtain ⟨m, hm⟩ := k1; exact DataW.trod_lt m _ _ _ hm
  obtain ⟨f1, ko1, kc1, io1, ic1, mo1, mc1, rfl, rk1, ri1, rm1, oF1⟩ := open_fn (hval 1 33 v1 rfl rfl) h1
  clear hA0 hval0 hsz0
  refine (walk_FreshPoints m0 so0 sc0 go0 gc0 co0 cc0 ao0 ac0 fo0 fc0 f1 ko1 kc1 io1 ic1 mo1 mc1 W hL hM0 oM0 hl0 rk1 ri1 rm1 oF1).mono fun e W' ⟨he, hg⟩ => ?_
  subst he
  exact ⟨_, rfl, _, _, _, [], _, [], hW', trodAll_mk1 (shut_bool Tryd.underlying4 _), (trodAll_cons_mk (Below.trod laidOut (by kernel_rfl) (of_decide_eq_true (by kernel_rfl)) k0 hg lt0) (trodAll_cons_mk (Below.trod laidOut (by kernel_rfl) (of_decide_eq_true (by kernel_rfl)) k1 hg lt1) trodAll_mk0)), rfl, hg.frame _, fun h => by cases h⟩

theorem row_FreshPoints : Rows.FreshPointsSaid :=
  OpenClaim.holds_of_wide 5 Tryd.f5 rfl rfl rfl rfl rfl rfl rfl ⟨rfl, rfl, rfl, rfl, rfl⟩ rfl rfl rfl rfl rfl (by kernel_rfl) Tryd.func5 (by kernel_rfl)
    (of_decide_eq_true (by kernel_rfl)) (by unfold Func.isWrapper; first | (rw [if_pos (by decide +kernel)]; kernel_rfl) | (rw [if_neg (by decide +kernel)]; exact ⟨rfl, rfl⟩))
    (fun os started H enc _ => lifted_FreshPoints os started H enc)

/-- THE STATEMENT. -/
theorem card_FreshPoints : Rows.FreshPointsCardSaid :=
  Claim7.holds_tied_plain_at .later [] [.data, .data] true (true, "ae6be65f98e88becfe85b4818990ec1f8146fa15725bac7e4b6f792bf031baa6") true
    row_FreshPoints (fun _ h => by cases h) (by kernel_rfl) (fun _ h => by cases h) freshPoints_row_tie rfl ⟨rfl, rfl⟩ (by kernel_rfl) rfl
    (fun f fn hf hfn => by
      obtain rfl : f = 5 := Option.some.inj ((show Tryd.prog.funcNamed "gantline/gantlinelaw11.FreshPoints" = some 5 by kernel_rfl).symm.trans hf) |>.symm
      obtain rfl : fn = Tryd.f5 := (Option.some.inj (Tryd.func5.symm.trans hfn)).symm
      exact ⟨by kernel_rfl, fun j t ht => by
        rw [Tryd.params5] at ht
        have hm : t ∈ [29, 33] := by simpa using Array.mem_of_getElem? ht
        have hall : ([29, 33].all fun u => !Tryd.prog.wantsStandIn u) = true := by kernel_rfl
        exact (show Tryd.prog.wantsStandIn t = false by simpa using List.all_eq_true.1 hall t hm)⟩)
    (by kernel_rfl)
#print axioms card_FreshPoints
end Go.Proofs.YtiangegoglfpeaaDoor
