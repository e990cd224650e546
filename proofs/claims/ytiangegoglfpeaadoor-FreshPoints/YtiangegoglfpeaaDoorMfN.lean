/- Here, one behind the other: FrSpare, FrPair, FrPair2, FrEv, FrAwake. -/
import Derived.Test.YtiangegoglfpeaaDoorMfM
import Derived.Test.YtiangegoglfpeaaDoorFrMem
import Derived.Test.YtiangegoglfpeaaDoorLiveFC
import Derived.Laws.OwnMore
/- Package fresh: Spare. -/
namespace Go.Proofs.YtiangegoglfpeaaDoor
set_option maxRecDepth 100000
open Go.RowKit Go.Maps Go.ChangeShapes Go.WideShapes Go.ChangeAt Go.Deep

def spK (k : Kn) (i : In) : Bool := (k.o &&& bitP i.a != 0) && ((k.y &&& bitP i.c != 0) && (k.ws.getD i.a.toNat 0 &&& fldP i == 0))
/-- Which writes may do without a barrier. -/
def spP (m : Md) (f : Fn) (pc : Int) : Bool := if pc < 0 then false else match f.is[pc.toNat]? with
  | none => false
  | some i => if wfP i.op = false ∨ bitP i.a = 0 ∨ bitP i.c = 0 then false else if f.ks[i.c.toNat]? = some false then true else spK (kAt (setP m f (nodP 1 m.ca) (nodP 0 m.ca)) pc.toNat) i
theorem bitP_in {a : Int} (h : bitP a ≠ 0) : 0 ≤ a ∧ a < 64 := by
  unfold bitP at h
  by_cases e : 0 ≤ a ∧ a < 64
  · exact e
  · rw [if_neg e] at h; exact absurd rfl h
theorem rowB_get {w : World} {ao : Option Addr} {n c : Nat} {l : List Bool} (h : RowAt elB w ao n c l) (k : Nat) (v : Bool) (hv : l[k]? = some v) : ∃ b off, ao = some ⟨b, off, none⟩ ∧ ∀ x, G w x → x.cell? ⟨b, off + k, none⟩ = some (.bool v) := by
  have hk : k < n := by rw [← h.1]; exact (List.getElem?_eq_some_iff.1 hv).1
  obtain ⟨b, off, a, cs, e, ha, ecs, hcs⟩ := row_get h hk
  rw [hv] at ha
  cases ha
  have ecs : cs = [.bool v] := ecs
  subst ecs
  refine ⟨b, off, e, fun x g => ?_⟩
  have := hcs x g 0 _ rfl
  simpa [elB] using this
set_option maxHeartbeats 2000000 in
theorem spare_any (w : World) (m : Md) (so : Option Addr) (sc : Nat) (go : Option Addr) (gc : Nat) (co : Option Addr) (cc : Nat) (ao : Option Addr) (ac : Nat) (fo : Option Addr) (fc : Nat) (f : Fn) (ko : Option Addr) (kc : Nat) (io : Option Addr) (ic : Nat) (mo : Option Addr) (mc : Nat) (h : ModR w m so sc go gc co cc ao ac fo fc) (hi : RowAt elIn w io f.is.length ic f.is) (hk : RowAt elB w ko f.ks.length kc f.ks) (ht : TabZ w) (hw : RowsAt w) (oi : ∀ x ∈ f.is, oIn x) (oc : ∀ c ∈ m.ca, oCa c) (hN : f.is.length + 2 * m.ca.length ≤ 1000000) (pc : Int) :
    Calls Tryd.prog 9 #[agM m so sc go gc co cc ao ac fo fc, agF f ko kc io ic mo mc, .int .i64 pc] w fun e w' => e = .returned (.bool (spP m f pc)) ∧ G w w' := by
  obtain ⟨L, hL⟩ : ∃ L, L = f.is.length := ⟨_, rfl⟩
  obtain ⟨K, hK⟩ : ∃ K, K = f.ks.length := ⟨_, rfl⟩
  obtain ⟨W1, hW1⟩ : ∃ W1, W1 = (w.alloc (.cells #[.slice so m.sh.length sc, .slice go m.gl.length gc, .slice co m.co.length cc, .slice ao m.ca.length ac, .slice fo m.fn.length fc, .int .i64 m.main] 29)).alloc (.cells #[.int .i64 f.p, .int .i64 f.c, .int .i64 f.s, .int .i64 f.r, .slice ko K kc, .slice io L ic, .slice mo f.ms.length mc] 33) := ⟨_, rfl⟩
  have gW1 : G w W1 := by rw [hW1]; exact ((G.refl w).more _).more _
  have MB : Hid (∀ x, G W1 x → x.cell? ⟨w.heap.size, 0, none⟩ = some (.slice so m.sh.length sc) ∧ x.cell? ⟨w.heap.size, 1, none⟩ = some (.slice go m.gl.length gc) ∧ x.cell? ⟨w.heap.size, 2, none⟩ = some (.slice co m.co.length cc) ∧ x.cell? ⟨w.heap.size, 3, none⟩ = some (.slice ao m.ca.length ac) ∧ x.cell? ⟨w.heap.size, 4, none⟩ = some (.slice fo m.fn.length fc) ∧ x.cell? ⟨w.heap.size, 5, none⟩ = some (.int .i64 m.main)) := hide fun x g => by
    have e : ∀ i v, W1.cell? ⟨w.heap.size, i, none⟩ = some v → x.cell? ⟨w.heap.size, i, none⟩ = some v := fun i v hv => g.cell hv
    refine ⟨e 0 _ ?_, e 1 _ ?_, e 2 _ ?_, e 3 _ ?_, e 4 _ ?_, e 5 _ ?_⟩
    all_goals (rw [hW1]; simp [go_sem])
  have FB : Hid (∀ x, G W1 x → x.cell? ⟨w.heap.size + 1, 0, none⟩ = some (.int .i64 f.p) ∧ x.cell? ⟨w.heap.size + 1, 1, none⟩ = some (.int .i64 f.c) ∧ x.cell? ⟨w.heap.size + 1, 2, none⟩ = some (.int .i64 f.s) ∧ x.cell? ⟨w.heap.size + 1, 3, none⟩ = some (.int .i64 f.r) ∧ x.cell? ⟨w.heap.size + 1, 4, none⟩ = some (.slice ko K kc) ∧ x.cell? ⟨w.heap.size + 1, 5, none⟩ = some (.slice io L ic) ∧ x.cell? ⟨w.heap.size + 1, 6, none⟩ = some (.slice mo f.ms.length mc)) := hide fun x g => by
    have e : ∀ i v, W1.cell? ⟨w.heap.size + 1, i, none⟩ = some v → x.cell? ⟨w.heap.size + 1, i, none⟩ = some v := fun i v hv => g.cell hv
    refine ⟨e 0 _ ?_, e 1 _ ?_, e 2 _ ?_, e 3 _ ?_, e 4 _ ?_, e 5 _ ?_, e 6 _ ?_⟩
    all_goals (rw [hW1]; simp [go_sem])
  have GO : Hid (∀ x, G W1 x → Calls Tryd.prog 20 #[.agg #[.slice so m.sh.length sc, .slice go m.gl.length gc, .slice co m.co.length cc, .slice ao m.ca.length ac, .slice fo m.fn.length fc, .int .i64 m.main], .agg #[.int .i64 f.p, .int .i64 f.c, .int .i64 f.s, .int .i64 f.r, .slice ko K kc, .slice io L ic, .slice mo f.ms.length mc]] x (GrTo x m f)) := hide fun x g => by rw [hL, hK]; exact graphOf_any x m so sc go gc co cc ao ac fo fc f ko kc io ic mo mc (h.g (gW1.trans g)) (hi.g okIn (gW1.trans g)) (ht.g (gW1.trans g)) (hw.g (gW1.trans g)) oi oc hN
  have hLb : L ≤ 1000000 := by omega
  have hLN : L ≤ f.is.length + 2 * m.ca.length := by omega
  have okF := setP_ok m f (nodP 1 m.ca) (nodP 0 m.ca)
  have hiW : Hid (RowAt elIn W1 io L ic f.is) := hide (by rw [hL]; exact hi.g okIn gW1)
  have hkW : Hid (RowAt elB W1 ko K kc f.ks) := hide (by rw [hK]; exact hk.g okB gW1)
  have GW := hide gW1
  have HN := hide hN
  unfold agM agF
  rw [← hL, ← hK]
  clear h hi hk ht hw gW1
  obtain ⟨_, _, _, _, f4, f5, _⟩ := unhide FB W1 (G.refl _)
  by_cases h0 : pc < 0
  · have e : spP m f pc = false := by unfold spP; rw [if_pos h0]
    rw [e]
    clear FB MB GO e
    replace hL := hide hL
    replace hK := hide hK
    go_enter Tryd.func9, Tryd.ntmps9
    go_upto_region 1 with fail
    rw [← hW1]
    clear hW1
    go_wp2_with fail
    go_ret
    exact ⟨rfl, unhide GW⟩
  obtain ⟨n, rfl⟩ : ∃ n : Nat, pc = (n : Int) := ⟨pc.toNat, by omega⟩
  by_cases h1 : L ≤ n
  · have e : spP m f (n : Int) = false := by unfold spP; rw [if_neg h0, Int.toNat_natCast, List.getElem?_eq_none (by omega)]
    rw [e]
    have h1I : (L : Int) ≤ (n : Int) := by omega
    clear FB MB GO e
    replace hL := hide hL
    replace hK := hide hK
    go_enter Tryd.func9, Tryd.ntmps9
    go_upto_region 1 with fail
    rw [← hW1]
    clear hW1
    go_wp2_with fail
    go_ret
    exact ⟨rfl, unhide GW⟩
  have hnL : n < L := by omega
  have hnI : (n : Int) < (L : Int) := by omega
  have hnI2 : ¬ (L : Int) ≤ (n : Int) := by omega
  obtain ⟨i, hin⟩ : ∃ i, f.is[n]? = some i := ⟨_, List.getElem?_eq_getElem (by omega)⟩
  have oin := oi i (List.mem_of_getElem? hin)
  obtain ⟨ib, ioff, rfl, HI⟩ := rowI_get (unhide hiW) n i hin
  obtain ⟨i0, i1, i2, i3, i4⟩ := HI W1 (G.refl _)
  clear HI hiW
  have e0 : spP m f (n : Int) = if wfP i.op = false ∨ bitP i.a = 0 ∨ bitP i.c = 0 then false else if f.ks[i.c.toNat]? = some false then true else spK (kAt (setP m f (nodP 1 m.ca) (nodP 0 m.ca)) n) i := by unfold spP; rw [if_neg h0, Int.toNat_natCast, hin]
  rw [e0]
  have oa : oI i.a := oin.2.1
  have ob : oI i.b := oin.2.2.1
  have oc' : oI i.c := oin.2.2.2.1
  clear e0 hin oi oin
  obtain ⟨W2, hW2⟩ : ∃ W2, W2 = W1.alloc (.cells #[.int .i64 i.op, .int .i64 i.a, .int .i64 i.b, .int .i64 i.c, .int .i64 i.d] 37) := ⟨_, rfl⟩
  have g2 : G W1 W2 := by rw [hW2]; exact G.alloc _ _
  have IB : Hid (∀ x, G W2 x → x.cell? ⟨W1.heap.size, 0, none⟩ = some (.int .i64 i.op) ∧ x.cell? ⟨W1.heap.size, 1, none⟩ = some (.int .i64 i.a) ∧ x.cell? ⟨W1.heap.size, 2, none⟩ = some (.int .i64 i.b) ∧ x.cell? ⟨W1.heap.size, 3, none⟩ = some (.int .i64 i.c) ∧ x.cell? ⟨W1.heap.size, 4, none⟩ = some (.int .i64 i.d)) := hide fun x g => by
    have e : ∀ j v, W2.cell? ⟨W1.heap.size, j, none⟩ = some v → x.cell? ⟨W1.heap.size, j, none⟩ = some v := fun j v hv => g.cell hv
    refine ⟨e 0 _ ?_, e 1 _ ?_, e 2 _ ?_, e 3 _ ?_, e 4 _ ?_⟩
    all_goals (rw [hW2]; simp [go_sem])
  have WF := hide (fun x : World => writesField_any x i.op)
  have BA := hide (fun x : World => bit_any x i.a oa)
  have BC := hide (fun x : World => bit_any x i.c oc')
  have FF := hide (fun x : World => fields_any x i ob)
  have bal := bitP_lt i.a
  have bcl := bitP_lt i.c
  have HBA : Hid (bitP i.a ≠ 0 → 0 ≤ i.a ∧ i.a < 64) := hide bitP_in
  have HBC : Hid (bitP i.c ≠ 0 → 0 ≤ i.c ∧ i.c < 64) := hide bitP_in
  have SPK : Hid (∀ k, spK k i = ((k.o &&& bitP i.a != 0) && ((k.y &&& bitP i.c != 0) && (k.ws.getD i.a.toNat 0 &&& fldP i == 0)))) := hide fun k => rfl
  have FL := fld_lt i
  obtain ⟨iop, ia, ibb, icc, idd⟩ := i
  simp only at *
  generalize wfP iop = wf at WF ⊢
  generalize hBa : bitP ia = Ba at *
  generalize hBc : bitP icc = Bc at *
  generalize hFl : fldP ⟨iop, ia, ibb, icc, idd⟩ = Fl at *
  clear hBa hBc hFl oa ob oc' h0 h1
  have c4 := g2.cell f4
  have c5 := g2.cell f5
  obtain ⟨j0, j1, j2, j3, j4⟩ := unhide IB W2 (G.refl _)
  have G2 := hide ((unhide GW).trans g2)
  have FB2 := hide (fun x (g : G W2 x) => unhide FB x (g2.trans g))
  have MB2 := hide (fun x (g : G W2 x) => unhide MB x (g2.trans g))
  have GO2 := hide (fun x (g : G W2 x) => unhide GO x (g2.trans g))
  have hkW2 : Hid (RowAt elB W2 ko K kc f.ks) := hide ((unhide hkW).g okB g2)
  replace g2 := hide g2
  replace hL := hide hL
  replace hK := hide hK
  replace hLb := hide hLb
  replace hLN := hide hLN
  replace okF := hide okF
  replace bal := hide bal
  replace bcl := hide bcl
  replace FL := hide FL
  clear hkW GW FB MB GO hnL oc hN
  obtain ⟨Z, hZ⟩ : ∃ Z : Bool, Z = (if wf = false ∨ Ba = 0 ∨ Bc = 0 then false else if f.ks[icc.toNat]? = some false then true else spK (kAt (setP m f (nodP 1 m.ca) (nodP 0 m.ca)) n) ⟨iop, ia, ibb, icc, idd⟩) := ⟨_, rfl⟩
  rw [← hZ]
  replace hZ := hide hZ
  go_enter Tryd.func9, Tryd.ntmps9
  go_upto_region 1 with fail
  rw [← hW1]
  clear hW1
  go_upto_region 4 with fail
  rw [← hW2]
  clear hW2 i0 i1 i2 i3 i4 f4 f5
  go_wp2_with fail
  refine (unhide WF W2).mono ?_
  rintro e w9 ⟨rfl, hw9⟩
  rw [hw9]
  clear hw9 w9 WF
  cases wf
  · obtain rfl : Z = false := (unhide hZ).trans (if_pos (Or.inl rfl))
    clear hZ GO2 MB2 FB2
    go_wp2_with fail
    go_ret
    exact ⟨rfl, unhide G2⟩
  go_wp2_with fail
  refine (unhide BA W2).mono ?_
  rintro e w9 ⟨rfl, hw9⟩
  rw [hw9]
  clear hw9 w9
  by_cases ha0 : Ba = 0
  · obtain rfl : Z = false := (unhide hZ).trans (if_pos (Or.inr (Or.inl ha0)))
    subst ha0
    clear hZ GO2 MB2 FB2
    go_wp2_with fail
    go_ret
    exact ⟨rfl, unhide G2⟩
  have haI : ((Ba : Int) == 0) = false := beq_eq_false_iff_ne.2 (by omega)
  have haI2 : ¬ (Ba : Int) = 0 := by omega
  go_wp2_with fail
  refine (unhide BC W2).mono ?_
  rintro e w9 ⟨rfl, hw9⟩
  rw [hw9]
  clear hw9 w9
  by_cases hc0 : Bc = 0
  · obtain rfl : Z = false := (unhide hZ).trans (if_pos (Or.inr (Or.inr hc0)))
    subst hc0
    clear hZ GO2 MB2 FB2
    go_wp2_with fail
    go_ret
    exact ⟨rfl, unhide G2⟩
  have hcI : ((Bc : Int) == 0) = false := beq_eq_false_iff_ne.2 (by omega)
  have hcI2 : ¬ (Bc : Int) = 0 := by omega
  obtain ⟨hc1, hc2⟩ := unhide HBC hc0
  obtain ⟨ha1, ha2⟩ := unhide HBA ha0
  obtain ⟨cn, rfl⟩ : ∃ cn : Nat, icc = (cn : Int) := ⟨icc.toNat, by omega⟩
  obtain ⟨an, rfl⟩ : ∃ an : Nat, ia = (an : Int) := ⟨ia.toNat, by omega⟩
  have hZ := (unhide hZ).trans (if_neg (by rintro (h | h | h) <;> first | (cases h; done) | exact ha0 h | exact hc0 h))
  rw [Int.toNat_natCast] at hZ
  replace SPK : Hid (∀ k, spK k ⟨iop, (an : Int), ibb, (cn : Int), idd⟩ = ((k.o &&& Ba != 0) && ((k.y &&& Bc != 0) && (k.ws.getD an 0 &&& Fl == 0)))) := hide fun k => by have := unhide SPK k; rw [Int.toNat_natCast] at this; exact this
  have han : an < 64 := by omega
  clear HBA HBC hc1 hc2 ha1 ha2 ha0 hc0
  replace hZ := hide hZ
  go_upto_region 6 with fail
  go_cut [54] (fun v wx => wx = W2 ∧ v = .bool (decide (f.ks[cn]? = some false)))
  case first =>
    by_cases hcK : cn < K
    · obtain ⟨kv, hkv⟩ : ∃ kv, f.ks[cn]? = some kv := ⟨_, List.getElem?_eq_getElem (by have := unhide hK; omega)⟩
      obtain ⟨kb, koff, rfl, HKV⟩ := rowB_get (unhide hkW2) cn kv hkv
      have ckv := HKV W2 (G.refl _)
      have hcKI : (cn : Int) < (K : Int) := by omega
      have hcn0 : (0 : Int) ≤ (cn : Int) := by omega
      have hvv : decide (f.ks[cn]? = some false) = !kv := by rw [hkv]; cases kv <;> simp
      clear HKV hkv GO2 MB2 FB2 hZ
      go_wp2_with fail
      go_meet
      exact ⟨rfl, by rw [hvv]⟩
    · have hcKI : ¬ (cn : Int) < (K : Int) := by omega
      have hvv : decide (f.ks[cn]? = some false) = false := by rw [List.getElem?_eq_none (by have := unhide hK; omega)]; simp
      clear GO2 MB2 FB2 hZ
      go_wp2_with fail
      go_meet
      exact ⟨rfl, by rw [hvv]⟩
  case rest =>
  obtain ⟨rfl, rfl⟩ := hcut
  by_cases hkf : f.ks[cn]? = some false
  · rw [decide_eq_true hkf]
    obtain rfl : Z = true := (unhide hZ).trans (if_pos hkf)
    clear hZ GO2 MB2 FB2 hkf
    go_wp2_with fail
    go_ret
    exact ⟨rfl, unhide G2⟩
  rw [decide_eq_false hkf]
  have hZ := (unhide hZ).trans (if_neg hkf)
  clear hkf hkW2
  obtain ⟨m0, m1, m2, m3, m4, m5⟩ := unhide MB2 wc (G.refl _)
  obtain ⟨f0, f1, f2, f3, f4, f5, f6⟩ := unhide FB2 wc (G.refl _)
  clear c4 c5
  go_wp2_with fail
  refine (unhide GO2 wc (G.refl _)).mono ?_
  rintro e w3 ⟨W0, B, gB, ab, wb, z, P, rfl, g0, st, GI0⟩
  have C2 := hide (settle_any st rfl (unhide HN) GI0)
  replace g0 := hide g0
  clear GO2 st GI0 m0 m1 m2 m3 m4 m5 f0 f1 f2 f3 f4 f5 f6 MB2 FB2 j0 j1 j2 j3 j4
  go_wp2_with fail
  refine (unhide C2).mono ?_
  rintro e w4 ⟨rfl, P', qv', GI3⟩
  have g4 : G wc w4 := (unhide g0).trans GI3.g
  have KA := hide (knownAt_any GI3 n (by have := unhide hLN; omega))
  clear C2 GI3 g0
  have okk := kAt_ok (unhide okF) n
  generalize kAt (setP m f (nodP 1 m.ca) (nodP 0 m.ca)) n = k at KA okk hZ
  rw [unhide SPK] at hZ
  replace hZ := hide hZ
  replace g4 := hide g4
  clear SPK okF
  go_wp2_with fail
  refine (unhide KA).mono ?_
  rintro e w5 ⟨rfl, g5⟩
  replace g5 := hide ((unhide g4).trans g5)
  clear KA g4
  go_upto_region 11 with (first
    | (refine wpl_alk rfl rfl ?_; intro w6 g6 k6 z6; replace g6 := hide g6; replace k6 := hide k6; replace z6 := hide z6)
    | (refine wpl_stk rfl (.tmp 9) (.tmp 62) rfl w5.heap.size Kn.zero k rfl rfl (unhide k6) okk ?_; intro w7 k7 t7 z7; replace k7 := hide k7; replace t7 := hide t7; replace z7 := hide z7))
  have g57 : G w5 w7 := new_g (unhide g6) (unhide t7)
  have g27 : G wc w7 := (unhide g5).trans g57
  have IB7 := hide (fun x (g : G w7 x) => unhide IB x (g27.trans g))
  have KB7 : Hid (∀ x, G w7 x → KnAt x w5.heap.size k) := hide fun x g => (unhide k7).g g
  obtain ⟨wx, hwx⟩ : ∃ wx, k.ws[an]? = some wx := ⟨_, List.getElem?_eq_getElem (by rw [okk.n]; exact han)⟩
  have hwl : wx < 18446744073709551616 := okk.w wx (List.mem_of_getElem? hwx)
  have B1 : bits .and .u64 (k.o : Int) (Ba : Int) = ((k.o &&& Ba : Nat) : Int) := bits_and_u64_nat _ _ okk.o (unhide bal)
  have B2 : bits .and .u64 (k.y : Int) (Bc : Int) = ((k.y &&& Bc : Nat) : Int) := bits_and_u64_nat _ _ okk.y (unhide bcl)
  have B3 : bits .and .u64 (wx : Int) (Fl : Int) = ((wx &&& Fl : Nat) : Int) := bits_and_u64_nat _ _ hwl (unhide FL)
  have hZ2 : Z = ((k.o &&& Ba != 0) && ((k.y &&& Bc != 0) && (wx &&& Fl == 0))) := by
    have := unhide hZ
    rw [getD_of hwx] at this
    exact this
  have GE := hide ((unhide G2).trans g27)
  have WX7 : Hid (∀ x, G w7 x → x.cell? ⟨w5.heap.size, 2 + an, none⟩ = some (.int .u64 (wx : Int))) := hide fun x g => (unhide KB7 x g).w hwx
  have OY7 : Hid (∀ x, G w7 x → x.cell? ⟨w5.heap.size, 0, none⟩ = some (.int .u64 (k.y : Int)) ∧ x.cell? ⟨w5.heap.size, 1, none⟩ = some (.int .u64 (k.o : Int))) := hide fun x g => ⟨(unhide KB7 x g).y, (unhide KB7 x g).o⟩
  clear hZ g5 g6 k6 z6 k7 t7 z7 g57 g27 KB7 hwx hwl okk IB
  generalize k.o = ko' at *
  generalize k.y = ky' at *
  generalize hv1 : ko' &&& Ba = v1 at *
  generalize hv2 : ky' &&& Bc = v2 at *
  generalize hv3 : wx &&& Fl = v3 at *
  clear hv1 hv2 hv3
  have han2 : (an : Int) < 64 := by omega
  have han0 : (0 : Int) ≤ (an : Int) := by omega
  refine wp_region_noPanic ?_
  refine wp_region_held_drew (S := fun x => G w7 x) (by kernel_rfl) (G.drewN w7 1) (fun hHeld => ?_)
  obtain ⟨y1, hy1⟩ : ∃ y, y = w7.drew := ⟨_, rfl⟩
  rw [← hy1] at hHeld ⊢
  clear hy1
  refine wpAnyH_take (i := 0) (v := .pointer (some ⟨w5.heap.size, 1, none⟩)) rfl (by kernel_rfl) (by kernel_rfl) (by kernel_rfl) (fun _ _ _ h => h) (Or.inl ⟨by rfl, fun w hSw => by go_simp⟩) (by assumption) ?_
  try simp only [Act.put, List.getElem_toArray, List.getElem_cons_zero, List.setIfInBounds_toArray, List.set_cons_zero, List.set_cons_succ]
  refine wpAnyH_take (i := 1) (v := .int .u64 (ko' : Int)) rfl (by kernel_rfl) (by kernel_rfl) (by kernel_rfl) (fun _ _ _ h => h) (Or.inl ⟨by rfl, fun w hSw => by have t0 := (unhide OY7 w hSw).2; go_simp⟩) (by assumption) ?_
  try simp only [Act.put, List.getElem_toArray, List.getElem_cons_succ, List.getElem_cons_zero, List.setIfInBounds_toArray, List.set_cons_zero, List.set_cons_succ]
  refine wpAnyH_take (i := 2) (v := .pointer (some ⟨W1.heap.size, 1, none⟩)) rfl (by kernel_rfl) (by kernel_rfl) (by kernel_rfl) (fun _ _ _ h => h) (Or.inl ⟨by rfl, fun w hSw => by go_simp⟩) (by assumption) ?_
  try simp only [Act.put, List.getElem_toArray, List.getElem_cons_succ, List.getElem_cons_zero, List.setIfInBounds_toArray, List.set_cons_zero, List.set_cons_succ]
  refine wpAnyH_take (i := 3) (v := .int .i64 (an : Int)) rfl (by kernel_rfl) (by kernel_rfl) (by kernel_rfl) (fun _ _ _ h => h) (Or.inl ⟨by rfl, fun w hSw => by have t0 := (unhide IB7 w hSw).2.1; go_simp⟩) (by assumption) ?_
  try simp only [Act.put, List.getElem_toArray, List.getElem_cons_succ, List.getElem_cons_zero, List.setIfInBounds_toArray, List.set_cons_zero, List.set_cons_succ]
  refine wpAnyH_ready (rs := [4]) (by kernel_rfl) (by simp) ?_
  refine AllReadyH.cons rfl (fun K hK => ?_) AllReadyH.nil
  go_simp
  refine (unhide BA y1).mono ?_
  rintro e w9 ⟨rfl, hw9⟩
  rw [hw9]
  clear hw9 w9
  go_wp2_with fail
  refine hK.out _ _ hHeld (fun hH9 => ?_)
  clear hK K
  try simp only [Act.put, List.getElem_toArray, List.getElem_cons_succ, List.getElem_cons_zero, List.setIfInBounds_toArray, List.set_cons_zero, List.set_cons_succ]
  refine wpAnyH_take (i := 5) (v := .int .u64 (v1 : Int)) rfl (by kernel_rfl) (by kernel_rfl) (by kernel_rfl) (fun _ _ _ h => h) (Or.inl ⟨by rfl, fun w hSw => by go_simp⟩) (by assumption) ?_
  try simp only [Act.put, List.getElem_toArray, List.getElem_cons_succ, List.getElem_cons_zero, List.setIfInBounds_toArray, List.set_cons_zero, List.set_cons_succ]
  by_cases o1 : v1 = 0
  · subst o1
    obtain rfl : Z = false := by rw [hZ2]; rfl
    clear hZ2
    refine wpAnyH_take (i := 6) (v := .bool false) rfl (by kernel_rfl) (by kernel_rfl) (by kernel_rfl) (fun _ _ _ h => h) (Or.inl ⟨by rfl, fun w hSw => by go_simp⟩) (by assumption) ?_
    try simp only [Act.put, List.getElem_toArray, List.getElem_cons_succ, List.getElem_cons_zero, List.setIfInBounds_toArray, List.set_cons_zero, List.set_cons_succ]
    refine wpAnyH_take (i := 7) (v := .bool false) rfl (by kernel_rfl) (by kernel_rfl) (by kernel_rfl) (fun _ _ _ h => h) (Or.inl ⟨by rfl, fun w hSw => by go_simp⟩) (by assumption) ?_
    try simp only [Act.put, List.getElem_toArray, List.getElem_cons_succ, List.getElem_cons_zero, List.setIfInBounds_toArray, List.set_cons_zero, List.set_cons_succ]
    refine wpAnyH_take (i := 8) (v := undef) rfl (by kernel_rfl) (by kernel_rfl) (by kernel_rfl) (fun _ _ _ h => h) (Or.inr ⟨by rfl, rfl⟩) (by assumption) ?_
    try simp only [Act.put, List.getElem_toArray, List.getElem_cons_succ, List.getElem_cons_zero, List.setIfInBounds_toArray, List.set_cons_zero, List.set_cons_succ]
    refine wpAnyH_take (i := 9) (v := undef) rfl (by kernel_rfl) (by kernel_rfl) (by kernel_rfl) (fun _ _ _ h => h) (Or.inr ⟨by rfl, rfl⟩) (by assumption) ?_
    try simp only [Act.put, List.getElem_toArray, List.getElem_cons_succ, List.getElem_cons_zero, List.setIfInBounds_toArray, List.set_cons_zero, List.set_cons_succ]
    refine wpAnyH_take (i := 10) (v := undef) rfl (by kernel_rfl) (by kernel_rfl) (by kernel_rfl) (fun _ _ _ h => h) (Or.inr ⟨by rfl, rfl⟩) (by assumption) ?_
    try simp only [Act.put, List.getElem_toArray, List.getElem_cons_succ, List.getElem_cons_zero, List.setIfInBounds_toArray, List.set_cons_zero, List.set_cons_succ]
    refine wpAnyH_take (i := 11) (v := undef) rfl (by kernel_rfl) (by kernel_rfl) (by kernel_rfl) (fun _ _ _ h => h) (Or.inr ⟨by rfl, rfl⟩) (by assumption) ?_
    try simp only [Act.put, List.getElem_toArray, List.getElem_cons_succ, List.getElem_cons_zero, List.setIfInBounds_toArray, List.set_cons_zero, List.set_cons_succ]
    refine wpAnyH_take (i := 12) (v := undef) rfl (by kernel_rfl) (by kernel_rfl) (by kernel_rfl) (fun _ _ _ h => h) (Or.inr ⟨by rfl, rfl⟩) (by assumption) ?_
    try simp only [Act.put, List.getElem_toArray, List.getElem_cons_succ, List.getElem_cons_zero, List.setIfInBounds_toArray, List.set_cons_zero, List.set_cons_succ]
    refine wpAnyH_take (i := 13) (v := undef) rfl (by kernel_rfl) (by kernel_rfl) (by kernel_rfl) (fun _ _ _ h => h) (Or.inr ⟨by rfl, rfl⟩) (by assumption) ?_
    try simp only [Act.put, List.getElem_toArray, List.getElem_cons_succ, List.getElem_cons_zero, List.setIfInBounds_toArray, List.set_cons_zero, List.set_cons_succ]
    refine wpAnyH_take (i := 14) (v := undef) rfl (by kernel_rfl) (by kernel_rfl) (by kernel_rfl) (fun _ _ _ h => h) (Or.inr ⟨by rfl, rfl⟩) (by assumption) ?_
    try simp only [Act.put, List.getElem_toArray, List.getElem_cons_succ, List.getElem_cons_zero, List.setIfInBounds_toArray, List.set_cons_zero, List.set_cons_succ]
    refine wpAnyH_take (i := 15) (v := .bool false) rfl (by kernel_rfl) (by kernel_rfl) (by kernel_rfl) (fun _ _ _ h => h) (Or.inl ⟨by rfl, fun w hSw => by go_simp⟩) (by assumption) ?_
    try simp only [Act.put, List.getElem_toArray, List.getElem_cons_succ, List.getElem_cons_zero, List.setIfInBounds_toArray, List.set_cons_zero, List.set_cons_succ]
    refine wpAnyH_take (i := 16) (v := .bool false) rfl (by kernel_rfl) (by kernel_rfl) (by kernel_rfl) (fun _ _ _ h => h) (Or.inl ⟨by rfl, fun w hSw => by go_simp⟩) (by assumption) ?_
    try simp only [Act.put, List.getElem_toArray, List.getElem_cons_succ, List.getElem_cons_zero, List.setIfInBounds_toArray, List.set_cons_zero, List.set_cons_succ]
    refine wpAnyH_take (i := 17) (v := undef) rfl (by kernel_rfl) (by kernel_rfl) (by kernel_rfl) (fun _ _ _ h => h) (Or.inr ⟨by rfl, rfl⟩) (by assumption) ?_
    try simp only [Act.put, List.getElem_toArray, List.getElem_cons_succ, List.getElem_cons_zero, List.setIfInBounds_toArray, List.set_cons_zero, List.set_cons_succ]
    refine wpAnyH_take (i := 18) (v := undef) rfl (by kernel_rfl) (by kernel_rfl) (by kernel_rfl) (fun _ _ _ h => h) (Or.inr ⟨by rfl, rfl⟩) (by assumption) ?_
    try simp only [Act.put, List.getElem_toArray, List.getElem_cons_succ, List.getElem_cons_zero, List.setIfInBounds_toArray, List.set_cons_zero, List.set_cons_succ]
    refine wpAnyH_take (i := 19) (v := undef) rfl (by kernel_rfl) (by kernel_rfl) (by kernel_rfl) (fun _ _ _ h => h) (Or.inr ⟨by rfl, rfl⟩) (by assumption) ?_
    try simp only [Act.put, List.getElem_toArray, List.getElem_cons_succ, List.getElem_cons_zero, List.setIfInBounds_toArray, List.set_cons_zero, List.set_cons_succ]
    refine wpAnyH_take (i := 20) (v := undef) rfl (by kernel_rfl) (by kernel_rfl) (by kernel_rfl) (fun _ _ _ h => h) (Or.inr ⟨by rfl, rfl⟩) (by assumption) ?_
    try simp only [Act.put, List.getElem_toArray, List.getElem_cons_succ, List.getElem_cons_zero, List.setIfInBounds_toArray, List.set_cons_zero, List.set_cons_succ]
    refine wpAnyH_take (i := 21) (v := undef) rfl (by kernel_rfl) (by kernel_rfl) (by kernel_rfl) (fun _ _ _ h => h) (Or.inr ⟨by rfl, rfl⟩) (by assumption) ?_
    try simp only [Act.put, List.getElem_toArray, List.getElem_cons_succ, List.getElem_cons_zero, List.setIfInBounds_toArray, List.set_cons_zero, List.set_cons_succ]
    refine wpAnyH_take (i := 22) (v := undef) rfl (by kernel_rfl) (by kernel_rfl) (by kernel_rfl) (fun _ _ _ h => h) (Or.inr ⟨by rfl, rfl⟩) (by assumption) ?_
    try simp only [Act.put, List.getElem_toArray, List.getElem_cons_succ, List.getElem_cons_zero, List.setIfInBounds_toArray, List.set_cons_zero, List.set_cons_succ]
    refine wpAnyH_take (i := 23) (v := undef) rfl (by kernel_rfl) (by kernel_rfl) (by kernel_rfl) (fun _ _ _ h => h) (Or.inr ⟨by rfl, rfl⟩) (by assumption) ?_
    try simp only [Act.put, List.getElem_toArray, List.getElem_cons_succ, List.getElem_cons_zero, List.setIfInBounds_toArray, List.set_cons_zero, List.set_cons_succ]
    refine wpAnyH_take (i := 24) (v := undef) rfl (by kernel_rfl) (by kernel_rfl) (by kernel_rfl) (fun _ _ _ h => h) (Or.inr ⟨by rfl, rfl⟩) (by assumption) ?_
    try simp only [Act.put, List.getElem_toArray, List.getElem_cons_succ, List.getElem_cons_zero, List.setIfInBounds_toArray, List.set_cons_zero, List.set_cons_succ]
    refine wpAnyH_take (i := 25) (v := undef) rfl (by kernel_rfl) (by kernel_rfl) (by kernel_rfl) (fun _ _ _ h => h) (Or.inr ⟨by rfl, rfl⟩) (by assumption) ?_
    try simp only [Act.put, List.getElem_toArray, List.getElem_cons_succ, List.getElem_cons_zero, List.setIfInBounds_toArray, List.set_cons_zero, List.set_cons_succ]
    refine wpAnyH_take (i := 26) (v := .bool false) rfl (by kernel_rfl) (by kernel_rfl) (by kernel_rfl) (fun _ _ _ h => h) (Or.inl ⟨by rfl, fun w hSw => by go_simp⟩) (by assumption) ?_
    try simp only [Act.put, List.getElem_toArray, List.getElem_cons_succ, List.getElem_cons_zero, List.setIfInBounds_toArray, List.set_cons_zero, List.set_cons_succ]
    refine wpAnyH_take (i := 27) (v := .bool false) rfl (by kernel_rfl) (by kernel_rfl) (by kernel_rfl) (fun _ _ _ h => h) (Or.inl ⟨by rfl, fun w hSw => by go_simp⟩) (by assumption) ?_
    try simp only [Act.put, List.getElem_toArray, List.getElem_cons_succ, List.getElem_cons_zero, List.setIfInBounds_toArray, List.set_cons_zero, List.set_cons_succ]
    refine wpAnyH_done (by kernel_rfl) (NoPanic.normal ?_) _
    have GF := hide ((unhide GE).trans hHeld)
    clear IB7 OY7 WX7 GE
    go_wp2_with fail
    go_ret
    exact ⟨rfl, unhide GF⟩
  have o1I : ¬ (v1 : Int) = 0 := by omega
  have o1B : ((v1 : Int) != 0) = true := by simpa using o1
  have o1N : (v1 != 0) = true := by simpa using o1
  rw [o1N, Bool.true_and] at hZ2
  clear o1N o1
  refine wpAnyH_take (i := 6) (v := .bool true) rfl (by kernel_rfl) (by kernel_rfl) (by kernel_rfl) (fun _ _ _ h => h) (Or.inl ⟨by rfl, fun w hSw => by go_simp⟩) (by assumption) ?_
  try simp only [Act.put, List.getElem_toArray, List.getElem_cons_succ, List.getElem_cons_zero, List.setIfInBounds_toArray, List.set_cons_zero, List.set_cons_succ]
  refine wpAnyH_take (i := 7) (v := .bool true) rfl (by kernel_rfl) (by kernel_rfl) (by kernel_rfl) (fun _ _ _ h => h) (Or.inl ⟨by rfl, fun w hSw => by go_simp⟩) (by assumption) ?_
  try simp only [Act.put, List.getElem_toArray, List.getElem_cons_succ, List.getElem_cons_zero, List.setIfInBounds_toArray, List.set_cons_zero, List.set_cons_succ]
  refine wpAnyH_take (i := 8) (v := .pointer (some ⟨w5.heap.size, 0, none⟩)) rfl (by kernel_rfl) (by kernel_rfl) (by kernel_rfl) (fun _ _ _ h => h) (Or.inl ⟨by rfl, fun w hSw => by go_simp⟩) (by assumption) ?_
  try simp only [Act.put, List.getElem_toArray, List.getElem_cons_succ, List.getElem_cons_zero, List.setIfInBounds_toArray, List.set_cons_zero, List.set_cons_succ]
  refine wpAnyH_take (i := 9) (v := .int .u64 (ky' : Int)) rfl (by kernel_rfl) (by kernel_rfl) (by kernel_rfl) (fun _ _ _ h => h) (Or.inl ⟨by rfl, fun w hSw => by have t0 := (unhide OY7 w hSw).1; go_simp⟩) (by assumption) ?_
  try simp only [Act.put, List.getElem_toArray, List.getElem_cons_succ, List.getElem_cons_zero, List.setIfInBounds_toArray, List.set_cons_zero, List.set_cons_succ]
  refine wpAnyH_take (i := 10) (v := .pointer (some ⟨W1.heap.size, 3, none⟩)) rfl (by kernel_rfl) (by kernel_rfl) (by kernel_rfl) (fun _ _ _ h => h) (Or.inl ⟨by rfl, fun w hSw => by go_simp⟩) (by assumption) ?_
  try simp only [Act.put, List.getElem_toArray, List.getElem_cons_succ, List.getElem_cons_zero, List.setIfInBounds_toArray, List.set_cons_zero, List.set_cons_succ]
  refine wpAnyH_take (i := 11) (v := .int .i64 (cn : Int)) rfl (by kernel_rfl) (by kernel_rfl) (by kernel_rfl) (fun _ _ _ h => h) (Or.inl ⟨by rfl, fun w hSw => by have t0 := (unhide IB7 w hSw).2.2.2.1; go_simp⟩) (by assumption) ?_
  try simp only [Act.put, List.getElem_toArray, List.getElem_cons_succ, List.getElem_cons_zero, List.setIfInBounds_toArray, List.set_cons_zero, List.set_cons_succ]
  refine wpAnyH_ready (rs := [12]) (by kernel_rfl) (by simp) ?_
  refine AllReadyH.cons rfl (fun K hK => ?_) AllReadyH.nil
  go_simp
  refine (unhide BC y1).mono ?_
  rintro e w9 ⟨rfl, hw9⟩
  rw [hw9]
  clear hw9 w9
  go_wp2_with fail
  refine hK.out _ _ hHeld (fun hH9 => ?_)
  clear hK K
  try simp only [Act.put, List.getElem_toArray, List.getElem_cons_succ, List.getElem_cons_zero, List.setIfInBounds_toArray, List.set_cons_zero, List.set_cons_succ]
  refine wpAnyH_take (i := 13) (v := .int .u64 (v2 : Int)) rfl (by kernel_rfl) (by kernel_rfl) (by kernel_rfl) (fun _ _ _ h => h) (Or.inl ⟨by rfl, fun w hSw => by go_simp⟩) (by assumption) ?_
  try simp only [Act.put, List.getElem_toArray, List.getElem_cons_succ, List.getElem_cons_zero, List.setIfInBounds_toArray, List.set_cons_zero, List.set_cons_succ]
  by_cases o2 : v2 = 0
  · subst o2
    obtain rfl : Z = false := by rw [hZ2]; rfl
    clear hZ2
    refine wpAnyH_take (i := 14) (v := .bool false) rfl (by kernel_rfl) (by kernel_rfl) (by kernel_rfl) (fun _ _ _ h => h) (Or.inl ⟨by rfl, fun w hSw => by go_simp⟩) (by assumption) ?_
    try simp only [Act.put, List.getElem_toArray, List.getElem_cons_succ, List.getElem_cons_zero, List.setIfInBounds_toArray, List.set_cons_zero, List.set_cons_succ]
    refine wpAnyH_take (i := 15) (v := .bool false) rfl (by kernel_rfl) (by kernel_rfl) (by kernel_rfl) (fun _ _ _ h => h) (Or.inl ⟨by rfl, fun w hSw => by go_simp⟩) (by assumption) ?_
    try simp only [Act.put, List.getElem_toArray, List.getElem_cons_succ, List.getElem_cons_zero, List.setIfInBounds_toArray, List.set_cons_zero, List.set_cons_succ]
    refine wpAnyH_take (i := 16) (v := .bool false) rfl (by kernel_rfl) (by kernel_rfl) (by kernel_rfl) (fun _ _ _ h => h) (Or.inl ⟨by rfl, fun w hSw => by go_simp⟩) (by assumption) ?_
    try simp only [Act.put, List.getElem_toArray, List.getElem_cons_succ, List.getElem_cons_zero, List.setIfInBounds_toArray, List.set_cons_zero, List.set_cons_succ]
    refine wpAnyH_take (i := 17) (v := undef) rfl (by kernel_rfl) (by kernel_rfl) (by kernel_rfl) (fun _ _ _ h => h) (Or.inr ⟨by rfl, rfl⟩) (by assumption) ?_
    try simp only [Act.put, List.getElem_toArray, List.getElem_cons_succ, List.getElem_cons_zero, List.setIfInBounds_toArray, List.set_cons_zero, List.set_cons_succ]
    refine wpAnyH_take (i := 18) (v := undef) rfl (by kernel_rfl) (by kernel_rfl) (by kernel_rfl) (fun _ _ _ h => h) (Or.inr ⟨by rfl, rfl⟩) (by assumption) ?_
    try simp only [Act.put, List.getElem_toArray, List.getElem_cons_succ, List.getElem_cons_zero, List.setIfInBounds_toArray, List.set_cons_zero, List.set_cons_succ]
    refine wpAnyH_take (i := 19) (v := undef) rfl (by kernel_rfl) (by kernel_rfl) (by kernel_rfl) (fun _ _ _ h => h) (Or.inr ⟨by rfl, rfl⟩) (by assumption) ?_
    try simp only [Act.put, List.getElem_toArray, List.getElem_cons_succ, List.getElem_cons_zero, List.setIfInBounds_toArray, List.set_cons_zero, List.set_cons_succ]
    refine wpAnyH_take (i := 20) (v := undef) rfl (by kernel_rfl) (by kernel_rfl) (by kernel_rfl) (fun _ _ _ h => h) (Or.inr ⟨by rfl, rfl⟩) (by assumption) ?_
    try simp only [Act.put, List.getElem_toArray, List.getElem_cons_succ, List.getElem_cons_zero, List.setIfInBounds_toArray, List.set_cons_zero, List.set_cons_succ]
    refine wpAnyH_take (i := 21) (v := undef) rfl (by kernel_rfl) (by kernel_rfl) (by kernel_rfl) (fun _ _ _ h => h) (Or.inr ⟨by rfl, rfl⟩) (by assumption) ?_
    try simp only [Act.put, List.getElem_toArray, List.getElem_cons_succ, List.getElem_cons_zero, List.setIfInBounds_toArray, List.set_cons_zero, List.set_cons_succ]
    refine wpAnyH_take (i := 22) (v := undef) rfl (by kernel_rfl) (by kernel_rfl) (by kernel_rfl) (fun _ _ _ h => h) (Or.inr ⟨by rfl, rfl⟩) (by assumption) ?_
    try simp only [Act.put, List.getElem_toArray, List.getElem_cons_succ, List.getElem_cons_zero, List.setIfInBounds_toArray, List.set_cons_zero, List.set_cons_succ]
    refine wpAnyH_take (i := 23) (v := undef) rfl (by kernel_rfl) (by kernel_rfl) (by kernel_rfl) (fun _ _ _ h => h) (Or.inr ⟨by rfl, rfl⟩) (by assumption) ?_
    try simp only [Act.put, List.getElem_toArray, List.getElem_cons_succ, List.getElem_cons_zero, List.setIfInBounds_toArray, List.set_cons_zero, List.set_cons_succ]
    refine wpAnyH_take (i := 24) (v := undef) rfl (by kernel_rfl) (by kernel_rfl) (by kernel_rfl) (fun _ _ _ h => h) (Or.inr ⟨by rfl, rfl⟩) (by assumption) ?_
    try simp only [Act.put, List.getElem_toArray, List.getElem_cons_succ, List.getElem_cons_zero, List.setIfInBounds_toArray, List.set_cons_zero, List.set_cons_succ]
    refine wpAnyH_take (i := 25) (v := undef) rfl (by kernel_rfl) (by kernel_rfl) (by kernel_rfl) (fun _ _ _ h => h) (Or.inr ⟨by rfl, rfl⟩) (by assumption) ?_
    try simp only [Act.put, List.getElem_toArray, List.getElem_cons_succ, List.getElem_cons_zero, List.setIfInBounds_toArray, List.set_cons_zero, List.set_cons_succ]
    refine wpAnyH_take (i := 26) (v := .bool false) rfl (by kernel_rfl) (by kernel_rfl) (by kernel_rfl) (fun _ _ _ h => h) (Or.inl ⟨by rfl, fun w hSw => by go_simp⟩) (by assumption) ?_
    try simp only [Act.put, List.getElem_toArray, List.getElem_cons_succ, List.getElem_cons_zero, List.setIfInBounds_toArray, List.set_cons_zero, List.set_cons_succ]
    refine wpAnyH_take (i := 27) (v := .bool false) rfl (by kernel_rfl) (by kernel_rfl) (by kernel_rfl) (fun _ _ _ h => h) (Or.inl ⟨by rfl, fun w hSw => by go_simp⟩) (by assumption) ?_
    try simp only [Act.put, List.getElem_toArray, List.getElem_cons_succ, List.getElem_cons_zero, List.setIfInBounds_toArray, List.set_cons_zero, List.set_cons_succ]
    refine wpAnyH_done (by kernel_rfl) (NoPanic.normal ?_) _
    have GF := hide ((unhide GE).trans hHeld)
    clear IB7 OY7 WX7 GE
    go_wp2_with fail
    go_ret
    exact ⟨rfl, unhide GF⟩
  have o2I : ¬ (v2 : Int) = 0 := by omega
  have o2B : ((v2 : Int) != 0) = true := by simpa using o2
  have o2N : (v2 != 0) = true := by simpa using o2
  rw [o2N, Bool.true_and] at hZ2
  clear o2N o2
  refine wpAnyH_take (i := 14) (v := .bool true) rfl (by kernel_rfl) (by kernel_rfl) (by kernel_rfl) (fun _ _ _ h => h) (Or.inl ⟨by rfl, fun w hSw => by go_simp⟩) (by assumption) ?_
  try simp only [Act.put, List.getElem_toArray, List.getElem_cons_succ, List.getElem_cons_zero, List.setIfInBounds_toArray, List.set_cons_zero, List.set_cons_succ]
  refine wpAnyH_take (i := 15) (v := .bool true) rfl (by kernel_rfl) (by kernel_rfl) (by kernel_rfl) (fun _ _ _ h => h) (Or.inl ⟨by rfl, fun w hSw => by go_simp⟩) (by assumption) ?_
  try simp only [Act.put, List.getElem_toArray, List.getElem_cons_succ, List.getElem_cons_zero, List.setIfInBounds_toArray, List.set_cons_zero, List.set_cons_succ]
  refine wpAnyH_take (i := 16) (v := .bool true) rfl (by kernel_rfl) (by kernel_rfl) (by kernel_rfl) (fun _ _ _ h => h) (Or.inl ⟨by rfl, fun w hSw => by go_simp⟩) (by assumption) ?_
  try simp only [Act.put, List.getElem_toArray, List.getElem_cons_succ, List.getElem_cons_zero, List.setIfInBounds_toArray, List.set_cons_zero, List.set_cons_succ]
  refine wpAnyH_take (i := 17) (v := .pointer (some ⟨W1.heap.size, 1, none⟩)) rfl (by kernel_rfl) (by kernel_rfl) (by kernel_rfl) (fun _ _ _ h => h) (Or.inl ⟨by rfl, fun w hSw => by go_simp⟩) (by assumption) ?_
  try simp only [Act.put, List.getElem_toArray, List.getElem_cons_succ, List.getElem_cons_zero, List.setIfInBounds_toArray, List.set_cons_zero, List.set_cons_succ]
  refine wpAnyH_take (i := 18) (v := .int .i64 (an : Int)) rfl (by kernel_rfl) (by kernel_rfl) (by kernel_rfl) (fun _ _ _ h => h) (Or.inl ⟨by rfl, fun w hSw => by have t0 := (unhide IB7 w hSw).2.1; go_simp⟩) (by assumption) ?_
  try simp only [Act.put, List.getElem_toArray, List.getElem_cons_succ, List.getElem_cons_zero, List.setIfInBounds_toArray, List.set_cons_zero, List.set_cons_succ]
  refine wpAnyH_take (i := 19) (v := .pointer (some ⟨w5.heap.size, 2, none⟩)) rfl (by kernel_rfl) (by kernel_rfl) (by kernel_rfl) (fun _ _ _ h => h) (Or.inl ⟨by rfl, fun w hSw => by go_simp⟩) (by assumption) ?_
  try simp only [Act.put, List.getElem_toArray, List.getElem_cons_succ, List.getElem_cons_zero, List.setIfInBounds_toArray, List.set_cons_zero, List.set_cons_succ]
  refine wpAnyH_take (i := 20) (v := .pointer (some ⟨w5.heap.size, 2 + an, none⟩)) rfl (by kernel_rfl) (by kernel_rfl) (by kernel_rfl) (fun _ _ _ h => h) (Or.inl ⟨by rfl, fun w hSw => by go_simp⟩) (by assumption) ?_
  try simp only [Act.put, List.getElem_toArray, List.getElem_cons_succ, List.getElem_cons_zero, List.setIfInBounds_toArray, List.set_cons_zero, List.set_cons_succ]
  refine wpAnyH_take (i := 21) (v := .int .u64 (wx : Int)) rfl (by kernel_rfl) (by kernel_rfl) (by kernel_rfl) (fun _ _ _ h => h) (Or.inl ⟨by rfl, fun w hSw => by have t0 := unhide WX7 w hSw; go_simp⟩) (by assumption) ?_
  try simp only [Act.put, List.getElem_toArray, List.getElem_cons_succ, List.getElem_cons_zero, List.setIfInBounds_toArray, List.set_cons_zero, List.set_cons_succ]
  refine wpAnyH_take (i := 22) (v := .agg #[.int .i64 iop, .int .i64 (an : Int), .int .i64 ibb, .int .i64 (cn : Int), .int .i64 idd]) rfl (by kernel_rfl) (by kernel_rfl) (by kernel_rfl) (fun _ _ _ h => h) (Or.inl ⟨by rfl, fun w hSw => by obtain ⟨t0, t1, t2, t3, t4⟩ := unhide IB7 w hSw; go_simp⟩) (by assumption) ?_
  try simp only [Act.put, List.getElem_toArray, List.getElem_cons_succ, List.getElem_cons_zero, List.setIfInBounds_toArray, List.set_cons_zero, List.set_cons_succ]
  refine wpAnyH_ready (rs := [23]) (by kernel_rfl) (by simp) ?_
  refine AllReadyH.cons rfl (fun K hK => ?_) AllReadyH.nil
  go_simp
  refine (unhide FF y1).mono ?_
  rintro e y2 ⟨rfl, gy2⟩
  go_wp2_with fail
  have hH2 := hHeld.trans gy2
  refine hK.out _ _ hH2 (fun hH3 => ?_)
  clear hK K
  try simp only [Act.put, List.getElem_toArray, List.getElem_cons_succ, List.getElem_cons_zero, List.setIfInBounds_toArray, List.set_cons_zero, List.set_cons_succ]
  refine wpAnyH_take (i := 24) (v := .int .u64 (v3 : Int)) rfl (by kernel_rfl) (by kernel_rfl) (by kernel_rfl) (fun _ _ _ h => h) (Or.inl ⟨by rfl, fun w hSw => by go_simp⟩) (by assumption) ?_
  try simp only [Act.put, List.getElem_toArray, List.getElem_cons_succ, List.getElem_cons_zero, List.setIfInBounds_toArray, List.set_cons_zero, List.set_cons_succ]
  have o3B : ((v3 : Int) == 0) = Z := by rw [hZ2]; cases v3 <;> rfl
  clear hZ2
  refine wpAnyH_take (i := 25) (v := .bool Z) rfl (by kernel_rfl) (by kernel_rfl) (by kernel_rfl) (fun _ _ _ h => h) (Or.inl ⟨by rfl, fun w hSw => by go_simp⟩) (by assumption) ?_
  try simp only [Act.put, List.getElem_toArray, List.getElem_cons_succ, List.getElem_cons_zero, List.setIfInBounds_toArray, List.set_cons_zero, List.set_cons_succ]
  refine wpAnyH_take (i := 26) (v := .bool Z) rfl (by kernel_rfl) (by kernel_rfl) (by kernel_rfl) (fun _ _ _ h => h) (Or.inl ⟨by rfl, fun w hSw => by go_simp⟩) (by assumption) ?_
  try simp only [Act.put, List.getElem_toArray, List.getElem_cons_succ, List.getElem_cons_zero, List.setIfInBounds_toArray, List.set_cons_zero, List.set_cons_succ]
  refine wpAnyH_take (i := 27) (v := .bool Z) rfl (by kernel_rfl) (by kernel_rfl) (by kernel_rfl) (fun _ _ _ h => h) (Or.inl ⟨by rfl, fun w hSw => by go_simp⟩) (by assumption) ?_
  try simp only [Act.put, List.getElem_toArray, List.getElem_cons_succ, List.getElem_cons_zero, List.setIfInBounds_toArray, List.set_cons_zero, List.set_cons_succ]
  refine wpAnyH_done (by kernel_rfl) (NoPanic.normal ?_) _
  have GF := hide ((unhide GE).trans hH2)
  clear IB7 OY7 WX7 GE
  go_wp2_with fail
  go_ret
  exact ⟨rfl, unhide GF⟩
end Go.Proofs.YtiangegoglfpeaaDoor

/- gantlinelaw11's pair: a function that makes two objects, and puts the second one into the first. -/
namespace Go.Proofs.YtiangegoglfpeaaDoor
set_option maxRecDepth 100000
open Go.RowKit Go.Maps Go.ChangeShapes Go.WideShapes Go.ChangeAt Go.Deep

def inV (i : In) : List Value := [.int .i64 i.op, .int .i64 i.a, .int .i64 i.b, .int .i64 i.c, .int .i64 i.d]
def insV : List In → List Value
  | [] => []
  | i :: l => inV i ++ insV l
theorem insV_len : ∀ l : List In, (insV l).length = l.length * 5
  | [] => rfl
  | i :: l => by simp [insV, inV, insV_len l]; omega
theorem insV_get : ∀ (l : List In) (i : Nat) (a : In) (q : Nat) (u : Value), l[i]? = some a → (inV a)[q]? = some u → (insV l)[i * 5 + q]? = some u
  | [], i, a, q, u, h, _ => by simp at h
  | b :: l, 0, a, q, u, h, hq => by
    simp at h
    subst h
    have hlt : q < (inV b).length := (List.getElem?_eq_some_iff.1 hq).1
    rw [show 0 * 5 + q = q by omega]
    simp only [insV]
    rw [List.getElem?_append_left hlt]
    exact hq
  | b :: l, i + 1, a, q, u, h, hq => by
    have hl : (inV b).length = 5 := rfl
    simp only [insV]
    rw [show (i + 1) * 5 + q = 5 + (i * 5 + q) by omega, List.getElem?_append_right (by omega), hl, show 5 + (i * 5 + q) - 5 = i * 5 + q by omega]
    exact insV_get l i a q u (by simpa using h) hq
theorem insV_app : ∀ l l2 : List In, insV (l ++ l2) = insV l ++ insV l2
  | [], _ => rfl
  | i :: l, l2 => by simp [insV, insV_app l l2]
theorem insV_one : ∀ (l : List In), ∀ u ∈ insV l, u.oneCell' = true
  | [], u, h => by simp [insV] at h
  | i :: l, u, h => by
    simp only [insV, List.mem_append] at h
    rcases h with h | h
    · simp only [inV, List.mem_cons, List.not_mem_nil, or_false] at h
      rcases h with rfl | rfl | rfl | rfl | rfl <;> rfl
    · exact insV_one l u h
abbrev OwnIn (w : World) (B : Nat) (v : Value) (l : List In) : Prop := w.ownsRow B 37 5 v l.length (insV l)
theorem OwnIn.row {w : World} {B : Nat} {v : Value} {l : List In} (h : OwnIn w B v l) (hl : l ≠ []) : ∃ g cap, v = .slice (some ⟨g, 0, none⟩) l.length cap ∧ B ≤ g ∧ l.length ≤ cap ∧ RowAt elIn w (some ⟨g, 0, none⟩) l.length cap l := by
  rcases h.2 with ⟨_, e2⟩ | ⟨g, cap, cur, rfl, h2, h3, h4, h5, h6, h7⟩
  · exact absurd (List.eq_nil_of_length_eq_zero e2) hl
  · have hlt : g < w.heap.size := by
      rcases Nat.lt_or_ge g w.heap.size with hh | hh
      · exact hh
      · rw [Array.getElem?_eq_none hh] at h3; cases h3
    refine ⟨g, cap, rfl, h2, h4, rfl, Nat.le_trans h4 h5, (fun e => by cases e), Or.inr ⟨g, 0, rfl, hlt, fun i a hi => ⟨inV a, rfl, fun q u hq => ?_⟩⟩⟩
    have h8 := insV_get l i a q u hi hq
    rw [← h7, List.getElem?_take] at h8
    split at h8
    · rw [cell_of_row _ _ _ _ _ _ h3]
      simpa [elIn] using h8
    · cases h8
/-- Instructions are appended to a row of the call's own. -/
theorem own_app_in {w : World} {B : Nat} {v : Value} {l : List In} (l2 : List In) (h : OwnIn w B v l) (hB : B ≤ w.heap.size) (hn : l.length + l2.length ≤ 1000) :
    ∃ v' w', (Builtin.append_ #[30, 30] 30 #[v, .slice (some ⟨w.heap.size, 0, none⟩) l2.length l2.length]).run Tryd.prog (w.alloc (.cells (insV l2).toArray 37)) = .ok v' w' ∧ OwnIn w' B v' (l ++ l2) ∧ TrD w w' (fun k => v.ownBlock = some k) ∧ (v'.ownBlock = v.ownBlock ∨ v'.ownBlock = some (w.heap.size + 1)) := by
  obtain ⟨i, hi, hz, hs, hb⟩ := info_parts info_instr
  have ga := G.alloc w (.cells (insV l2).toArray 37)
  have h2 : OwnIn (w.alloc (.cells (insV l2).toArray 37)) B v l := by
    rcases h.2 with h0 | ⟨g, cap, cur, e1, e2, e3, e4⟩
    · exact ⟨h.1, Or.inl h0⟩
    · refine ⟨h.1, Or.inr ⟨g, cap, cur, e1, e2, ?_, e4⟩⟩
      have hlt : g < w.heap.size := by
        rcases Nat.lt_or_ge g w.heap.size with hh | hh
        · exact hh
        · rw [Array.getElem?_eq_none hh] at e3; cases e3
      rw [ga.block g hlt]; exact e3
  obtain ⟨v', w', hrun, r1, r2, _, r4⟩ := run_append_own_at (P := Tryd.prog) (w.alloc (.cells (insV l2).toArray 37)) B 30 30 37 i _ 5 40 Tryd.underlying30 hi hz hs hb rfl (by decide) v l.length _ h2 ⟨w.heap.size, 0, none⟩ l2.length l2.length (insV l2) (insV_len l2) (fun j u hj => by
      rw [Addr.add_lit, cell_of_row _ _ _ _ _ _ (heap_alloc_new w _), Nat.zero_add]
      simpa using hj) (insV_one l2) (by unfold maxLen; omega) (by omega) (Nat.le_trans hB ga.size)
  refine ⟨v', w', hrun, ?_, ⟨r2.os.trans ga.os, r2.tape.trans ga.tape, r2.output.trans ga.output, Nat.le_trans ga.size r2.size, fun k hk hne => (r2.block k (Nat.lt_of_lt_of_le hk ga.size) (fun e => hne e.symm)).trans (ga.block k hk)⟩, ?_⟩
  · show w'.ownsRow B 37 5 v' (l ++ l2).length (insV (l ++ l2))
    rw [List.length_append, insV_app]
    exact r1
  · rw [World.size_alloc] at r4; exact r4
theorem wpl_apx {ops : Array Oper} {rest : List Oper} {o : Oper} {a : Act} {w : World} {Q : Exit → Act → World → Prop} (hgd : o.guard = none) (s x : Operand) (t : TypeId) (ho : o.op = .call { callee := .builtin .append, args := #[s, x], argTypes := #[t, t] })
    (vs vx : Value) (hs : a.eval s = vs) (hx : a.eval x = vx) (v' : Value) (w' : World) (hrun : (Builtin.append_ #[t, t] o.type #[vs, vx]).run Tryd.prog w = .ok v' w') (h : wpList Tryd.prog ops Q rest (a.put o.dst v') w') : wpList Tryd.prog ops Q (o :: rest) a w := by
  refine wpList_plain hgd fun K hK => ?_
  unfold Oper.wp execOp
  simp only [ho, resolve, invoke, builtin, Sem.run_bind, Sem.run_pure, Result.andThen_ok, List.map_toArray, List.map_cons, List.map_nil, hs, hx, hrun]
  exact hK _ _ h
/-- The module and the function that pair makes. -/
def prM : Md := ⟨[⟨0, 1, 1⟩], [], [], [], [], 0⟩
def prI (poll : Bool) : List In := [⟨25, 0, 0, 0, 0⟩, ⟨25, 1, 0, 0, 0⟩] ++ (if poll then [⟨43, 0, 0, 0, 0⟩] else []) ++ [⟨28, 0, 0, 1, 0⟩, ⟨22, -1, 0, 0, 0⟩]
def prF (l : List In) : Fn := ⟨0, 0, 2, 0, [true, true], l, []⟩
abbrev agPm (sb : Nat) : Value := .agg #[.slice (some ⟨sb, 0, none⟩) 1 1, .slice none 0 0, .slice none 0 0, .slice none 0 0, .slice none 0 0, .int .i64 0]
abbrev agPf (kb ib n c : Nat) : Value := .agg #[.int .i64 0, .int .i64 0, .int .i64 2, .int .i64 0, .slice (some ⟨kb, 0, none⟩) 2 2, .slice (some ⟨ib, 0, none⟩) n c, .slice none 0 0]
structure PrAt (w : World) (sb kb ib c : Nat) (l : List In) : Prop where
  s : RowAt elSp w (some ⟨sb, 0, none⟩) 1 1 prM.sh
  k : RowAt elB w (some ⟨kb, 0, none⟩) 2 2 [true, true]
  i : RowAt elIn w (some ⟨ib, 0, none⟩) l.length c l
  cp : l.length ≤ c
theorem PrAt.g {w w' : World} {sb kb ib c : Nat} {l : List In} (h : PrAt w sb kb ib c l) (g : G w w') : PrAt w' sb kb ib c l := ⟨h.s.g okSp g, h.k.g okB g, h.i.g okIn g, h.cp⟩
theorem PrAt.modR {w : World} {sb kb ib c : Nat} {l : List In} (h : PrAt w sb kb ib c l) : ModR w prM (some ⟨sb, 0, none⟩) 1 none 0 none 0 none 0 none 0 := ⟨h.s, RowAt.nil w, RowAt.nil w, RowAt.nil w, RowAt.nil w, Nat.le_refl _⟩
def PairTo (w : World) (l : List In) (e : Ending) (w' : World) : Prop := ∃ sb kb ib c, e = .returned (.tuple #[agPm sb, agPf kb ib l.length c]) ∧ PrAt w' sb kb ib c l ∧ G w w'
theorem row_newx {α : Type} {E : El α} (x : World) (l : List α) (cs : List Value) (t : TypeId) (hl : l.length ≤ 1000) (hc : ∀ i a, l[i]? = some a → ∃ c, (∀ y, E.cs y a c) ∧ ∀ q u, c[q]? = some u → cs[i * E.sz + q]? = some u) : RowAt E (x.alloc (.cells cs.toArray t)) (some ⟨x.heap.size, 0, none⟩) l.length l.length l := by
  refine ⟨rfl, by unfold maxLen; omega, (fun e => by cases e), Or.inr ⟨x.heap.size, 0, rfl, by rw [World.size_alloc]; omega, fun i a hi => ?_⟩⟩
  obtain ⟨c, h1, h2⟩ := hc i a hi
  refine ⟨c, h1 _, fun q u hq => ?_⟩
  rw [cell_of_row _ _ _ _ _ _ (heap_alloc_new x _), Nat.zero_add]
  simpa using h2 q u hq
theorem pr_sh (x : World) : RowAt elSp (x.alloc (.cells #[.int .i64 0, .int .i64 1, .int .u64 1] 64)) (some ⟨x.heap.size, 0, none⟩) 1 1 prM.sh :=
  row_newx (E := elSp) x prM.sh [.int .i64 0, .int .i64 1, .int .u64 1] 64 (by decide) (fun i a hi => by
    match i, hi with
    | 0, hi =>
      cases hi
      refine ⟨[.int .i64 0, .int .i64 1, .int .u64 1], fun _ => rfl, fun q u hq => ?_⟩
      simpa [elSp] using hq)
theorem pr_ks (x : World) : RowAt elB (x.alloc (.cells #[.bool true, .bool true] 4)) (some ⟨x.heap.size, 0, none⟩) 2 2 [true, true] :=
  row_newx (E := elB) x [true, true] [.bool true, .bool true] 4 (by decide) (fun i a hi => by
    refine ⟨[.bool a], fun _ => rfl, fun q u hq => ?_⟩
    match i, hi with
    | 0, hi => cases hi; match q, hq with
      | 0, hq => exact hq
    | 1, hi => cases hi; match q, hq with
      | 0, hq => exact hq)
theorem pr_is (x : World) (B : Nat) (hB : B ≤ x.heap.size) : OwnIn (x.alloc (.cells #[.int .i64 25, .int .i64 0, .int .i64 0, .int .i64 0, .int .i64 0, .int .i64 25, .int .i64 1, .int .i64 0, .int .i64 0, .int .i64 0] 37)) B (.slice (some ⟨x.heap.size, 0, none⟩) 2 2) [⟨25, 0, 0, 0, 0⟩, ⟨25, 1, 0, 0, 0⟩] :=
  World.ownsRow_lit x _ 2 hB (by unfold maxLen; decide) rfl
end Go.Proofs.YtiangegoglfpeaaDoor

/- gantlinelaw11's pair, walked. -/
namespace Go.Proofs.YtiangegoglfpeaaDoor
set_option maxRecDepth 100000
open Go.RowKit Go.Maps Go.ChangeShapes Go.WideShapes Go.ChangeAt Go.Deep

def prZm : List Value := [.slice none 0 0, .slice none 0 0, .slice none 0 0, .slice none 0 0, .slice none 0 0, .int .i64 0]
def prZf : List Value := [.int .i64 0, .int .i64 0, .int .i64 0, .int .i64 0, .slice none 0 0, .slice none 0 0, .slice none 0 0]
def prBf (s : Nat) (v : Value) : List Value := [.int .i64 0, .int .i64 0, .int .i64 2, .int .i64 0, .slice (some ⟨s + 2, 0, none⟩) 2 2, v, .slice none 0 0]
/-- What pair has made. -/
structure PrW (w x : World) (v : Value) (l : List In) : Prop where
  g : G w x
  sz : w.heap.size + 5 ≤ x.heap.size
  m : ∀ (j : Nat) (u : Value), prZm[j]? = some u → x.cell? ⟨w.heap.size, j, none⟩ = some u
  mf : ∀ j : Nat, x.frozen? ⟨w.heap.size, j, none⟩ = false
  z : ∀ (j : Nat) (u : Value), prZf[j]? = some u → x.cell? ⟨w.heap.size + 1, j, none⟩ = some u
  zf : ∀ j : Nat, x.frozen? ⟨w.heap.size + 1, j, none⟩ = false
  k : RowAt elB x (some ⟨w.heap.size + 2, 0, none⟩) 2 2 [true, true]
  f : ∀ (j : Nat) (u : Value), (prBf w.heap.size v)[j]? = some u → x.cell? ⟨w.heap.size + 4, j, none⟩ = some u
  ff : ∀ j : Nat, x.frozen? ⟨w.heap.size + 4, j, none⟩ = false
  o : OwnIn x (w.heap.size + 3) v l
  ob : ∀ k, v.ownBlock = some k → w.heap.size + 3 ≤ k ∧ k ≠ w.heap.size + 4
theorem fro_new (x : World) (b : Nat) (cs : Array Value) (t : TypeId) (h : x.heap[b]? = some (.cells cs t (0, 0))) (j : Nat) : x.frozen? ⟨b, j, none⟩ = false := by
  unfold World.frozen?
  rw [show x.heap[(⟨b, j, none⟩ : Addr).block]? = _ from h]
  simp
theorem rowB_kb {w w' : World} {rb n c : Nat} {l : List Bool} (h : RowAt elB w (some ⟨rb, 0, none⟩) n c l) (e : w'.heap[rb]? = w.heap[rb]?) (hs : w.heap.size ≤ w'.heap.size) : RowAt elB w' (some ⟨rb, 0, none⟩) n c l := by
  obtain ⟨h1, h2, h3, h4⟩ := h
  refine ⟨h1, h2, h3, ?_⟩
  rcases h4 with h4 | ⟨b, off, e0, hlt, hc⟩
  · exact Or.inl h4
  · cases e0
    refine Or.inr ⟨rb, 0, rfl, Nat.lt_of_lt_of_le hlt hs, fun i a hi => ?_⟩
    obtain ⟨cs, hcs, hv⟩ := hc i a hi
    exact ⟨cs, hcs, hv.kept e⟩
theorem prw_start (w : World) : PrW w (((((w.alloc (.cells #[.slice none 0 0, .slice none 0 0, .slice none 0 0, .slice none 0 0, .slice none 0 0, .int .i64 0] 29)).alloc (.cells #[.int .i64 0, .int .i64 0, .int .i64 0, .int .i64 0, .slice none 0 0, .slice none 0 0, .slice none 0 0] 33)).alloc (.cells #[.bool true, .bool true] 4)).alloc (.cells #[.int .i64 25, .int .i64 0, .int .i64 0, .int .i64 0, .int .i64 0, .int .i64 25, .int .i64 1, .int .i64 0, .int .i64 0, .int .i64 0] 37)).alloc (.cells #[.int .i64 0, .int .i64 0, .int .i64 2, .int .i64 0, .slice (some ⟨w.heap.size + 2, 0, none⟩) 2 2, .slice (some ⟨w.heap.size + 3, 0, none⟩) 2 2, .slice none 0 0] 33))
    (.slice (some ⟨w.heap.size + 3, 0, none⟩) 2 2) [⟨25, 0, 0, 0, 0⟩, ⟨25, 1, 0, 0, 0⟩] := by
  obtain ⟨x1, h1⟩ : ∃ x1, x1 = w.alloc (.cells #[.slice none 0 0, .slice none 0 0, .slice none 0 0, .slice none 0 0, .slice none 0 0, .int .i64 0] 29) := ⟨_, rfl⟩
  have e1 := heap_alloc_new w (.cells #[.slice none 0 0, .slice none 0 0, .slice none 0 0, .slice none 0 0, .slice none 0 0, .int .i64 0] 29)
  have g1 := G.alloc w (.cells #[.slice none 0 0, .slice none 0 0, .slice none 0 0, .slice none 0 0, .slice none 0 0, .int .i64 0] 29)
  have z1 := World.size_alloc w (.cells #[.slice none 0 0, .slice none 0 0, .slice none 0 0, .slice none 0 0, .slice none 0 0, .int .i64 0] 29)
  rw [← h1] at e1 g1 z1 ⊢
  obtain ⟨x2, h2⟩ : ∃ x2, x2 = x1.alloc (.cells #[.int .i64 0, .int .i64 0, .int .i64 0, .int .i64 0, .slice none 0 0, .slice none 0 0, .slice none 0 0] 33) := ⟨_, rfl⟩
  have e2 := heap_alloc_new x1 (.cells #[.int .i64 0, .int .i64 0, .int .i64 0, .int .i64 0, .slice none 0 0, .slice none 0 0, .slice none 0 0] 33)
  have g2 := G.alloc x1 (.cells #[.int .i64 0, .int .i64 0, .int .i64 0, .int .i64 0, .slice none 0 0, .slice none 0 0, .slice none 0 0] 33)
  have z2 := World.size_alloc x1 (.cells #[.int .i64 0, .int .i64 0, .int .i64 0, .int .i64 0, .slice none 0 0, .slice none 0 0, .slice none 0 0] 33)
  rw [← h2] at e2 g2 z2 ⊢
  obtain ⟨x3, h3⟩ : ∃ x3, x3 = x2.alloc (.cells #[.bool true, .bool true] 4) := ⟨_, rfl⟩
  have r3 := pr_ks x2
  have g3 := G.alloc x2 (.cells #[.bool true, .bool true] 4)
  have z3 := World.size_alloc x2 (.cells #[.bool true, .bool true] 4)
  rw [← h3] at r3 g3 z3 ⊢
  obtain ⟨x4, h4⟩ : ∃ x4, x4 = x3.alloc (.cells #[.int .i64 25, .int .i64 0, .int .i64 0, .int .i64 0, .int .i64 0, .int .i64 25, .int .i64 1, .int .i64 0, .int .i64 0, .int .i64 0] 37) := ⟨_, rfl⟩
  have o4 := pr_is x3 (w.heap.size + 3) (by omega)
  have g4 := G.alloc x3 (.cells #[.int .i64 25, .int .i64 0, .int .i64 0, .int .i64 0, .int .i64 0, .int .i64 25, .int .i64 1, .int .i64 0, .int .i64 0, .int .i64 0] 37)
  have z4 := World.size_alloc x3 (.cells #[.int .i64 25, .int .i64 0, .int .i64 0, .int .i64 0, .int .i64 0, .int .i64 25, .int .i64 1, .int .i64 0, .int .i64 0, .int .i64 0] 37)
  rw [← h4] at o4 g4 z4 ⊢
  obtain ⟨o5, h5⟩ : ∃ o5 : Obj, o5 = .cells #[.int .i64 0, .int .i64 0, .int .i64 2, .int .i64 0, .slice (some ⟨w.heap.size + 2, 0, none⟩) 2 2, .slice (some ⟨w.heap.size + 3, 0, none⟩) 2 2, .slice none 0 0] 33 := ⟨_, rfl⟩
  rw [← h5]
  have e5 := heap_alloc_new x4 o5
  have g5 := G.alloc x4 o5
  have z5 := World.size_alloc x4 o5
  have s2 : x2.heap.size = w.heap.size + 2 := by omega
  have s3 : x3.heap.size = w.heap.size + 3 := by omega
  have s4 : x4.heap.size = w.heap.size + 4 := by omega
  have s1 : x1.heap.size = w.heap.size + 1 := by omega
  rw [s2] at r3
  rw [s3] at o4
  rw [s4] at e5
  rw [s1] at e2
  have b1 : (x4.alloc o5).heap[w.heap.size]? = some (.cells #[.slice none 0 0, .slice none 0 0, .slice none 0 0, .slice none 0 0, .slice none 0 0, .int .i64 0] 29) := ((((g2.trans g3).trans g4).trans g5).block _ (by omega)).trans e1
  have b2 : (x4.alloc o5).heap[w.heap.size + 1]? = some (.cells #[.int .i64 0, .int .i64 0, .int .i64 0, .int .i64 0, .slice none 0 0, .slice none 0 0, .slice none 0 0] 33) := (((g3.trans g4).trans g5).block _ (by omega)).trans e2
  refine ⟨(((g1.trans g2).trans g3).trans g4).trans g5, by omega, fun j u hu => ?_, fro_new _ _ _ _ b1, fun j u hu => ?_, fro_new _ _ _ _ b2, (r3.g okB g4).g okB g5, fun j u hu => ?_, fro_new _ _ _ _ (e5.trans (congrArg some h5)), ?_, fun k hk => ?_⟩
  · rw [cell_of_row _ _ _ _ _ _ b1]; simpa [prZm] using hu
  · rw [cell_of_row _ _ _ _ _ _ b2]; simpa [prZf] using hu
  · rw [cell_of_row _ _ _ _ _ _ (e5.trans (congrArg some h5))]; simpa [prBf] using hu
  · rcases o4.2 with h0 | ⟨g, cap, cur, q1, q2, q3, q4⟩
    · exact ⟨o4.1, Or.inl h0⟩
    · refine ⟨o4.1, Or.inr ⟨g, cap, cur, q1, q2, ?_, q4⟩⟩
      have hlt : g < x4.heap.size := by
        rcases Nat.lt_or_ge g x4.heap.size with hh | hh
        · exact hh
        · rw [Array.getElem?_eq_none hh] at q3; cases q3
      rw [g5.block g hlt]; exact q3
  · obtain rfl : w.heap.size + 3 = k := by simpa [Value.ownBlock] using hk
    exact ⟨by omega, by omega⟩
theorem PrW.app {w x : World} {v : Value} {l : List In} (h : PrW w x v l) (l2 : List In) (hn : l.length + l2.length ≤ 1000) :
    ∃ v' x', (Builtin.append_ #[30, 30] 30 #[v, .slice (some ⟨x.heap.size, 0, none⟩) l2.length l2.length]).run Tryd.prog (x.alloc (.cells (insV l2).toArray 37)) = .ok v' x' ∧ x'.cell? ⟨w.heap.size + 4, 5, none⟩ = some v ∧ x'.frozen? ⟨w.heap.size + 4, 5, none⟩ = false ∧ PrW w (x'.setCell ⟨w.heap.size + 4, 5, none⟩ v') v' (l ++ l2) := by
  have sz := h.sz
  obtain ⟨v', x', hrun, ow, tr, bl⟩ := own_app_in l2 h.o (by omega) hn
  have kp : ∀ b, b < x.heap.size → (b < w.heap.size + 3 ∨ b = w.heap.size + 4) → x'.heap[b]? = x.heap[b]? := fun b hb hc => tr.block b hb (fun e => by have := h.ob b e; omega)
  have k4 := kp (w.heap.size + 4) (by omega) (Or.inr rfl)
  have ob' : ∀ k, v'.ownBlock = some k → w.heap.size + 3 ≤ k ∧ k ≠ w.heap.size + 4 := fun k hk => by
    rcases bl with e | e
    · rw [e] at hk; exact h.ob k hk
    · rw [e] at hk; cases hk; omega
  have ks : ∀ b, b ≠ w.heap.size + 4 → (x'.setCell ⟨w.heap.size + 4, 5, none⟩ v').heap[b]? = x'.heap[b]? := fun b hb => Below.heap_setCell _ _ _ _ (by simpa using hb)
  have ks' : ∀ b, b < x.heap.size → b < w.heap.size + 3 → (x'.setCell ⟨w.heap.size + 4, 5, none⟩ v').heap[b]? = x.heap[b]? := fun b hb hc => (ks b (by omega)).trans (kp b hb (Or.inl hc))
  have c5 : x'.cell? ⟨w.heap.size + 4, 5, none⟩ = some v := (World.cell?_of_block (a := ⟨w.heap.size + 4, 5, none⟩) k4).trans (h.f 5 v rfl)
  have sz' := tr.size
  refine ⟨v', x', hrun, c5, (World.frozen?_of_block (a := ⟨w.heap.size + 4, 5, none⟩) k4).trans (h.ff 5), ⟨?_, by rw [World.size_setCell]; omega, fun j u hu => ?_, fun j => ?_, fun j u hu => ?_, fun j => ?_, ?_, fun j u hu => ?_, fun j => ?_, ?_, ob'⟩⟩
  · refine ⟨tr.os.trans h.g.os, tr.tape.trans h.g.tape, tr.output.trans h.g.output, by rw [World.size_setCell]; omega, fun b hb => (ks' b (by omega) (by omega)).trans (h.g.block b hb)⟩
  · exact (World.cell?_of_block (a := ⟨w.heap.size, j, none⟩) (ks' (w.heap.size) (by omega) (by omega))).trans (h.m j u hu)
  · exact (World.frozen?_of_block (a := ⟨w.heap.size, j, none⟩) (ks' (w.heap.size) (by omega) (by omega))).trans (h.mf j)
  · exact (World.cell?_of_block (a := ⟨w.heap.size + 1, j, none⟩) (ks' (w.heap.size + 1) (by omega) (by omega))).trans (h.z j u hu)
  · exact (World.frozen?_of_block (a := ⟨w.heap.size + 1, j, none⟩) (ks' (w.heap.size + 1) (by omega) (by omega))).trans (h.zf j)
  · exact rowB_kb h.k (ks' (w.heap.size + 2) (by omega) (by omega)) (by rw [World.size_setCell]; omega)
  · by_cases e : j = 5
    · subst e
      obtain rfl : v' = u := by simpa [prBf] using hu
      exact cell_same _ c5
    · rw [cell_other _ (Or.inr e)]
      refine (World.cell?_of_block (a := ⟨w.heap.size + 4, j, none⟩) k4).trans (h.f j u ?_)
      match j, hu with
      | 0, hu => exact hu
      | 1, hu => exact hu
      | 2, hu => exact hu
      | 3, hu => exact hu
      | 4, hu => exact hu
      | 6, hu => exact hu
      | 5, _ => exact absurd rfl e
  · rw [World.frozen?_setCell]
    exact (World.frozen?_of_block (a := ⟨w.heap.size + 4, j, none⟩) k4).trans (h.ff j)
  · rcases ow.2 with h0 | ⟨g, cap, cur, q1, q2, q3, q4⟩
    · exact ⟨ow.1, Or.inl h0⟩
    · refine ⟨ow.1, Or.inr ⟨g, cap, cur, q1, q2, ?_, q4⟩⟩
      have := (ob' g (by rw [q1]; rfl)).2
      rw [ks g this]; exact q3
/-- What is answered. -/
theorem PrW.out {w x y : World} {v : Value} {l : List In} (h : PrW w x v l) (hl : l ≠ []) (hy : ∀ b, b < x.heap.size → b ≠ w.heap.size → b ≠ w.heap.size + 1 → y.heap[b]? = x.heap[b]?) (ho : y.os = x.os ∧ y.tape = x.tape ∧ y.output = x.output ∧ x.heap.size ≤ y.heap.size) (sb : Nat) (hs : RowAt elSp y (some ⟨sb, 0, none⟩) 1 1 prM.sh) :
    ∃ ib c, v = .slice (some ⟨ib, 0, none⟩) l.length c ∧ PairTo w l (.returned (.tuple #[agPm sb, agPf (w.heap.size + 2) ib l.length c])) y := by
  have sz := h.sz
  obtain ⟨ib, c, rfl, hib, hcp, hr⟩ := h.o.row hl
  refine ⟨ib, c, rfl, sb, w.heap.size + 2, ib, c, rfl, ⟨hs, rowB_kb h.k (hy _ (by omega) (by omega) (by omega)) ho.2.2.2, ?_, hcp⟩, ⟨ho.1.trans h.g.os, ho.2.1.trans h.g.tape, ho.2.2.1.trans h.g.output, by omega, fun b hb => (hy b (by omega) (by omega) (by omega)).trans (h.g.block b hb)⟩⟩
  obtain ⟨h1, h2, h3, h4⟩ := hr
  refine ⟨h1, h2, h3, ?_⟩
  rcases h4 with h4 | ⟨b, off, e0, hlt, hc⟩
  · exact Or.inl h4
  · cases e0
    refine Or.inr ⟨ib, 0, rfl, Nat.lt_of_lt_of_le hlt ho.2.2.2, fun i a hi => ?_⟩
    obtain ⟨cs, hcs, hv⟩ := hc i a hi
    exact ⟨cs, hcs, hv.kept (hy _ hlt (by omega) (by omega))⟩
theorem PrW.app2 {w x : World} {v : Value} {l : List In} (h : PrW w x v l) (l2 : List In) (hn : l.length + l2.length ≤ 1000) (n : Nat) (hne : (l ++ l2).length = n) (h0 : 0 < n) :
    ∃ ib c x', (Builtin.append_ #[30, 30] 30 #[v, .slice (some ⟨x.heap.size, 0, none⟩) l2.length l2.length]).run Tryd.prog (x.alloc (.cells (insV l2).toArray 37)) = .ok (.slice (some ⟨ib, 0, none⟩) n c) x' ∧ x'.cell? ⟨w.heap.size + 1 + 1 + 1 + 1, 5, none⟩ = some v ∧ x'.frozen? ⟨w.heap.size + 1 + 1 + 1 + 1, 5, none⟩ = false ∧ PrW w (x'.setCell ⟨w.heap.size + 1 + 1 + 1 + 1, 5, none⟩ (.slice (some ⟨ib, 0, none⟩) n c)) (.slice (some ⟨ib, 0, none⟩) n c) (l ++ l2) := by
  obtain ⟨v', x', h1, h2, h3, h4⟩ := h.app l2 hn
  obtain ⟨ib, c, e, _⟩ := h4.o.row (by intro e; rw [e] at hne; simp at hne; omega)
  rw [hne] at e
  subst e
  exact ⟨ib, c, x', h1, h2, h3, h4⟩
theorem PrW.cells {w x : World} {v : Value} {l : List In} (h : PrW w x v l) :
    (x.cell? ⟨w.heap.size, 0, none⟩ = some (.slice none 0 0) ∧ x.cell? ⟨w.heap.size, 1, none⟩ = some (.slice none 0 0) ∧ x.cell? ⟨w.heap.size, 2, none⟩ = some (.slice none 0 0) ∧ x.cell? ⟨w.heap.size, 3, none⟩ = some (.slice none 0 0) ∧ x.cell? ⟨w.heap.size, 4, none⟩ = some (.slice none 0 0) ∧ x.cell? ⟨w.heap.size, 5, none⟩ = some (.int .i64 0)) ∧
    (x.cell? ⟨w.heap.size + 1, 0, none⟩ = some (.int .i64 0) ∧ x.cell? ⟨w.heap.size + 1, 1, none⟩ = some (.int .i64 0) ∧ x.cell? ⟨w.heap.size + 1, 2, none⟩ = some (.int .i64 0) ∧ x.cell? ⟨w.heap.size + 1, 3, none⟩ = some (.int .i64 0) ∧ x.cell? ⟨w.heap.size + 1, 4, none⟩ = some (.slice none 0 0) ∧ x.cell? ⟨w.heap.size + 1, 5, none⟩ = some (.slice none 0 0) ∧ x.cell? ⟨w.heap.size + 1, 6, none⟩ = some (.slice none 0 0)) ∧
    (x.cell? ⟨w.heap.size + 1 + 1 + 1 + 1, 0, none⟩ = some (.int .i64 0) ∧ x.cell? ⟨w.heap.size + 1 + 1 + 1 + 1, 1, none⟩ = some (.int .i64 0) ∧ x.cell? ⟨w.heap.size + 1 + 1 + 1 + 1, 2, none⟩ = some (.int .i64 2) ∧ x.cell? ⟨w.heap.size + 1 + 1 + 1 + 1, 3, none⟩ = some (.int .i64 0) ∧ x.cell? ⟨w.heap.size + 1 + 1 + 1 + 1, 4, none⟩ = some (.slice (some ⟨w.heap.size + 1 + 1, 0, none⟩) 2 2) ∧ x.cell? ⟨w.heap.size + 1 + 1 + 1 + 1, 5, none⟩ = some v ∧ x.cell? ⟨w.heap.size + 1 + 1 + 1 + 1, 6, none⟩ = some (.slice none 0 0)) :=
  ⟨⟨h.m 0 _ rfl, h.m 1 _ rfl, h.m 2 _ rfl, h.m 3 _ rfl, h.m 4 _ rfl, h.m 5 _ rfl⟩, ⟨h.z 0 _ rfl, h.z 1 _ rfl, h.z 2 _ rfl, h.z 3 _ rfl, h.z 4 _ rfl, h.z 5 _ rfl, h.z 6 _ rfl⟩, ⟨h.f 0 _ rfl, h.f 1 _ rfl, h.f 2 _ rfl, h.f 3 _ rfl, h.f 4 _ rfl, h.f 5 _ rfl, h.f 6 _ rfl⟩⟩
theorem cell_sameE {w : World} {b i : Nat} (v : Value) (h : ∃ u, w.cell? ⟨b, i, none⟩ = some u) : (w.setCell ⟨b, i, none⟩ v).cell? ⟨b, i, none⟩ = some v := by
  obtain ⟨u, hu⟩ := h
  exact cell_same v hu
theorem pr_fin {w x2 y1 : World} {ib n c : Nat} {l : List In} (h : PrW w x2 (.slice (some ⟨ib, 0, none⟩) n c) l) (hn : l.length = n) (h0 : 0 < n) (t : TrD x2 y1 (fun k => k = w.heap.size ∨ k = w.heap.size + 1)) (hs : y1.heap.size = x2.heap.size) :
    PairTo w l (.returned (.tuple #[agPm x2.heap.size, agPf (w.heap.size + 1 + 1) ib n c])) (y1.alloc (.cells #[.int .i64 0, .int .i64 1, .int .u64 1] 64)).drew := by
  have g := G.alloc y1 (.cells #[.int .i64 0, .int .i64 1, .int .u64 1] 64)
  have r := pr_sh y1
  rw [hs] at r
  obtain ⟨ib', c', e, R⟩ := h.out (y := (y1.alloc (.cells #[.int .i64 0, .int .i64 1, .int .u64 1] 64)).drew) (by intro e; rw [e] at hn; simp at hn; omega)
    (fun b hb h1 h2 => (g.block b (by rw [hs]; exact hb)).trans (t.block b hb (by rintro (e | e) <;> omega))) ⟨g.os.trans t.os, g.tape.trans t.tape, g.output.trans t.output, Nat.le_trans t.size g.size⟩ x2.heap.size (r.g okSp (G.refl _).drew)
  rw [hn] at e R
  cases e
  exact R
set_option maxHeartbeats 1000000 in
theorem pair_any (w : World) (poll : Bool) : Calls Tryd.prog 8 #[.bool poll] w (PairTo w (prI poll)) := by
  obtain ⟨x0, hx0⟩ : ∃ x0, x0 = ((((w.alloc (.cells #[.slice none 0 0, .slice none 0 0, .slice none 0 0, .slice none 0 0, .slice none 0 0, .int .i64 0] 29)).alloc (.cells #[.int .i64 0, .int .i64 0, .int .i64 0, .int .i64 0, .slice none 0 0, .slice none 0 0, .slice none 0 0] 33)).alloc (.cells #[.bool true, .bool true] 4)).alloc (.cells #[.int .i64 25, .int .i64 0, .int .i64 0, .int .i64 0, .int .i64 0, .int .i64 25, .int .i64 1, .int .i64 0, .int .i64 0, .int .i64 0] 37)).alloc (.cells #[.int .i64 0, .int .i64 0, .int .i64 2, .int .i64 0, .slice (some ⟨w.heap.size + 1 + 1, 0, none⟩) 2 2, .slice (some ⟨w.heap.size + 1 + 1 + 1, 0, none⟩) 2 2, .slice none 0 0] 33) := ⟨_, rfl⟩
  have P0 : PrW w x0 (.slice (some ⟨w.heap.size + 1 + 1 + 1, 0, none⟩) 2 2) [⟨25, 0, 0, 0, 0⟩, ⟨25, 1, 0, 0, 0⟩] := by rw [hx0]; exact prw_start w
  have c50 := P0.cells.2.2.2.2.2.2.2.1
  cases poll
  · obtain ⟨ib, c, x1, hrun, c5, r5, P2⟩ := P0.app2 [⟨28, 0, 0, 1, 0⟩, ⟨22, -1, 0, 0, 0⟩] (by decide) 4 rfl (by decide)
    replace P2 := hide P2
    clear P0
    go_enter Tryd.func8, Tryd.ntmps8
    go_upto_region 4 with fail
    rw [← hx0]
    clear hx0
    go_upto_region 5 with (at_builtin; refine wpl_apx rfl (.tmp 18) (.tmp 21) 30 rfl _ _ rfl rfl _ _ hrun ?_)
    obtain ⟨x2, hx2⟩ : ∃ x2, x2 = x1.setCell ⟨w.heap.size + 1 + 1 + 1 + 1, 5, none⟩ (.slice (some ⟨ib, 0, none⟩) 4 c) := ⟨_, rfl⟩
    rw [← hx2] at P2 ⊢
    clear hx2 hrun c5 r5 c50
    obtain ⟨⟨m0, m1, m2, m3, m4, m5⟩, ⟨z0, z1, z2, z3, z4, z5, z6⟩, ⟨f0, f1, f2, f3, f4, f5, f6⟩⟩ := (unhide P2).cells
    have mf := (unhide P2).mf
    have zf := (unhide P2).zf
    have sz := (unhide P2).sz
    have l0 : w.heap.size < x2.heap.size := by omega
    have l1 : w.heap.size + 1 < x2.heap.size := by omega
    have l4 : w.heap.size + 1 + 1 + 1 + 1 < x2.heap.size := by omega
    clear sz
    go_cut [4] (fun v4 wx => v4 = .pointer (some ⟨w.heap.size + 1 + 1 + 1 + 1, 0, none⟩) ∧ wx.cell? ⟨w.heap.size, 0, none⟩ = some (.slice (some ⟨x2.heap.size, 0, none⟩) 1 1) ∧ wx.cell? ⟨w.heap.size, 1, none⟩ = some (.slice none 0 0) ∧ wx.cell? ⟨w.heap.size, 2, none⟩ = some (.slice none 0 0) ∧ wx.cell? ⟨w.heap.size, 3, none⟩ = some (.slice none 0 0) ∧ wx.cell? ⟨w.heap.size, 4, none⟩ = some (.slice none 0 0) ∧ wx.cell? ⟨w.heap.size, 5, none⟩ = some (.int .i64 0) ∧ wx.cell? ⟨w.heap.size + 1, 0, none⟩ = some (.int .i64 0) ∧ wx.cell? ⟨w.heap.size + 1, 1, none⟩ = some (.int .i64 0) ∧ wx.cell? ⟨w.heap.size + 1, 2, none⟩ = some (.int .i64 2) ∧ wx.cell? ⟨w.heap.size + 1, 3, none⟩ = some (.int .i64 0) ∧ wx.cell? ⟨w.heap.size + 1, 4, none⟩ = some (.slice (some ⟨w.heap.size + 1 + 1, 0, none⟩) 2 2) ∧ wx.cell? ⟨w.heap.size + 1, 5, none⟩ = some (.slice (some ⟨ib, 0, none⟩) 4 c) ∧ wx.cell? ⟨w.heap.size + 1, 6, none⟩ = some (.slice none 0 0) ∧ Hid (PairTo w (prI false) (.returned (.tuple #[agPm x2.heap.size, agPf (w.heap.size + 1 + 1) ib 4 c])) wx))
    case first =>
      go_region
      all_goals
        go_wp2_with fail
        go_meet
        refine ⟨rfl, ?_, ?_, ?_, ?_, ?_, ?_, ?_, ?_, ?_, ?_, ?_, ?_, ?_, hide ?_⟩
        rotate_right
        · exact pr_fin (unhide P2) rfl (by decide) ((((((((((((((TrD.refl _ _).set _ 0 _ (Or.inl (Or.inl rfl))).set _ 1 _ (Or.inl (Or.inl rfl))).set _ 2 _ (Or.inl (Or.inl rfl))).set _ 3 _ (Or.inl (Or.inl rfl))).set _ 4 _ (Or.inl (Or.inl rfl))).set _ 5 _ (Or.inl (Or.inl rfl))).set _ 0 _ (Or.inl (Or.inr rfl))).set _ 1 _ (Or.inl (Or.inr rfl))).set _ 2 _ (Or.inl (Or.inr rfl))).set _ 3 _ (Or.inl (Or.inr rfl))).set _ 4 _ (Or.inl (Or.inr rfl))).set _ 5 _ (Or.inl (Or.inr rfl))).set _ 6 _ (Or.inl (Or.inr rfl))) (by simp [World.size_setCell])
        all_goals (simp [go_sem, l0, l1]; refine cell_sameE _ ?_; simp [go_sem, m0, m1, m2, m3, m4, m5, z0, z1, z2, z3, z4, z5, z6])
    case rest =>
      obtain ⟨rfl, k0, k1, k2, k3, k4, k5, k6, k7, k8, k9, k10, k11, k12, HP⟩ := hcut
      clear m0 m1 m2 m3 m4 m5 z0 z1 z2 z3 z4 z5 z6 f0 f1 f2 f3 f4 f5 f6 mf zf
      go_wp2_with fail
      refine bodyPost_ret (by simp [results, Tryd.results8, go_sem, k0, k1, k2, k3, k4, k5, k6, k7, k8, k9, k10, k11, k12]; try rfl) rfl ?_
      exact unhide HP
  · obtain ⟨ia, ca, y1, hrun1, d5, q5, P1⟩ := P0.app2 [⟨43, 0, 0, 0, 0⟩] (by decide) 3 rfl (by decide)
    clear P0
    go_enter Tryd.func8, Tryd.ntmps8
    go_upto_region 2 with fail
    rw [← hx0]
    clear hx0
    go_upto_region 4 with (at_builtin; refine wpl_apx rfl (.tmp 12) (.tmp 14) 30 rfl _ _ rfl rfl _ _ hrun1 ?_)
    obtain ⟨y2, hy2⟩ : ∃ y2, y2 = y1.setCell ⟨w.heap.size + 1 + 1 + 1 + 1, 5, none⟩ (.slice (some ⟨ia, 0, none⟩) 3 ca) := ⟨_, rfl⟩
    rw [← hy2] at P1 ⊢
    clear hy2 hrun1 d5 q5 c50
    have c50 := P1.cells.2.2.2.2.2.2.2.1
    obtain ⟨ib, c, x1, hrun, c5, r5, P2⟩ := P1.app2 [⟨28, 0, 0, 1, 0⟩, ⟨22, -1, 0, 0, 0⟩] (by decide) 5 rfl (by decide)
    replace P2 := hide P2
    clear P1
    go_upto_region 5 with (at_builtin; refine wpl_apx rfl (.tmp 18) (.tmp 21) 30 rfl _ _ rfl rfl _ _ hrun ?_)
    obtain ⟨x2, hx2⟩ : ∃ x2, x2 = x1.setCell ⟨w.heap.size + 1 + 1 + 1 + 1, 5, none⟩ (.slice (some ⟨ib, 0, none⟩) 5 c) := ⟨_, rfl⟩
    rw [← hx2] at P2 ⊢
    clear hx2 hrun c5 r5 c50
    obtain ⟨⟨m0, m1, m2, m3, m4, m5⟩, ⟨z0, z1, z2, z3, z4, z5, z6⟩, ⟨f0, f1, f2, f3, f4, f5, f6⟩⟩ := (unhide P2).cells
    have mf := (unhide P2).mf
    have zf := (unhide P2).zf
    have sz := (unhide P2).sz
    have l0 : w.heap.size < x2.heap.size := by omega
    have l1 : w.heap.size + 1 < x2.heap.size := by omega
    have l4 : w.heap.size + 1 + 1 + 1 + 1 < x2.heap.size := by omega
    clear sz
    go_cut [4] (fun v4 wx => v4 = .pointer (some ⟨w.heap.size + 1 + 1 + 1 + 1, 0, none⟩) ∧ wx.cell? ⟨w.heap.size, 0, none⟩ = some (.slice (some ⟨x2.heap.size, 0, none⟩) 1 1) ∧ wx.cell? ⟨w.heap.size, 1, none⟩ = some (.slice none 0 0) ∧ wx.cell? ⟨w.heap.size, 2, none⟩ = some (.slice none 0 0) ∧ wx.cell? ⟨w.heap.size, 3, none⟩ = some (.slice none 0 0) ∧ wx.cell? ⟨w.heap.size, 4, none⟩ = some (.slice none 0 0) ∧ wx.cell? ⟨w.heap.size, 5, none⟩ = some (.int .i64 0) ∧ wx.cell? ⟨w.heap.size + 1, 0, none⟩ = some (.int .i64 0) ∧ wx.cell? ⟨w.heap.size + 1, 1, none⟩ = some (.int .i64 0) ∧ wx.cell? ⟨w.heap.size + 1, 2, none⟩ = some (.int .i64 2) ∧ wx.cell? ⟨w.heap.size + 1, 3, none⟩ = some (.int .i64 0) ∧ wx.cell? ⟨w.heap.size + 1, 4, none⟩ = some (.slice (some ⟨w.heap.size + 1 + 1, 0, none⟩) 2 2) ∧ wx.cell? ⟨w.heap.size + 1, 5, none⟩ = some (.slice (some ⟨ib, 0, none⟩) 5 c) ∧ wx.cell? ⟨w.heap.size + 1, 6, none⟩ = some (.slice none 0 0) ∧ Hid (PairTo w (prI true) (.returned (.tuple #[agPm x2.heap.size, agPf (w.heap.size + 1 + 1) ib 5 c])) wx))
    case first =>
      go_region
      all_goals
        go_wp2_with fail
        go_meet
        refine ⟨rfl, ?_, ?_, ?_, ?_, ?_, ?_, ?_, ?_, ?_, ?_, ?_, ?_, ?_, hide ?_⟩
        rotate_right
        · exact pr_fin (unhide P2) rfl (by decide) ((((((((((((((TrD.refl _ _).set _ 0 _ (Or.inl (Or.inl rfl))).set _ 1 _ (Or.inl (Or.inl rfl))).set _ 2 _ (Or.inl (Or.inl rfl))).set _ 3 _ (Or.inl (Or.inl rfl))).set _ 4 _ (Or.inl (Or.inl rfl))).set _ 5 _ (Or.inl (Or.inl rfl))).set _ 0 _ (Or.inl (Or.inr rfl))).set _ 1 _ (Or.inl (Or.inr rfl))).set _ 2 _ (Or.inl (Or.inr rfl))).set _ 3 _ (Or.inl (Or.inr rfl))).set _ 4 _ (Or.inl (Or.inr rfl))).set _ 5 _ (Or.inl (Or.inr rfl))).set _ 6 _ (Or.inl (Or.inr rfl))) (by simp [World.size_setCell])
        all_goals (simp [go_sem, l0, l1]; refine cell_sameE _ ?_; simp [go_sem, m0, m1, m2, m3, m4, m5, z0, z1, z2, z3, z4, z5, z6])
    case rest =>
      obtain ⟨rfl, k0, k1, k2, k3, k4, k5, k6, k7, k8, k9, k10, k11, k12, HP⟩ := hcut
      clear m0 m1 m2 m3 m4 m5 z0 z1 z2 z3 z4 z5 z6 f0 f1 f2 f3 f4 f5 f6 mf zf
      go_wp2_with fail
      refine bodyPost_ret (by simp [results, Tryd.results8, go_sem, k0, k1, k2, k3, k4, k5, k6, k7, k8, k9, k10, k11, k12]; try rfl) rfl ?_
      exact unhide HP
end Go.Proofs.YtiangegoglfpeaaDoor

/- What is known in given code, reckoned. -/
namespace Go.Proofs.YtiangegoglfpeaaDoor
set_option maxRecDepth 100000
open Go.RowKit Go.Maps Go.ChangeShapes Go.WideShapes Go.ChangeAt Go.Deep

theorem run_add (bh : Nat → Kn → Kn) (fl : Nat → List Int) : ∀ (a b : Nat) (s : FSt), runS bh fl (a + b) s = runS bh fl b (runS bh fl a s)
  | 0, b, s => by rw [Nat.zero_add]; rfl
  | a + 1, b, s => by
    by_cases h : s.Q = []
    · rw [run_nil _ s h, run_nil _ s h, run_nil _ s h]
    · rw [show a + 1 + b = (a + b) + 1 by omega, run_more _ s h, run_more _ s h]
      exact run_add bh fl a b _
theorem run_fix {bh : Nat → Kn → Kn} {fl : Nat → List Int} {a b : Nat} {s : FSt} (h1 : (runS bh fl a s).Q = []) (h2 : (runS bh fl b s).Q = []) : runS bh fl a s = runS bh fl b s := by
  rcases Nat.le_total a b with h | h
  · obtain ⟨d, rfl⟩ := Nat.exists_eq_add_of_le h
    rw [run_add, run_nil _ _ h1]
  · obtain ⟨d, rfl⟩ := Nat.exists_eq_add_of_le h
    rw [run_add, run_nil _ _ h2]
def evS (m : Md) (f : Fn) (n : Nat) : FSt := runS (bhP m f (nodP 1 m.ca) (nodP 0 m.ca)) (flG m f) n (comeS Kn.zero 0 (st0 (f.is.length + 2 * m.ca.length)))
theorem setP_ev (m : Md) (f : Fn) (n : Nat) (h0 : f.is.length ≠ 0) (hq : (evS m f n).Q = []) : setP m f (nodP 1 m.ca) (nodP 0 m.ca) = evS m f n := by
  unfold setP
  rw [if_neg h0]
  have hb := fun n k (hk : k.Ok) => bh_ok m f (nodP 1 m.ca) (nodP 0 m.ca) n k hk
  have hfl : ∀ n, n < f.is.length + 2 * m.ca.length → ∀ x ∈ flG m f n, 0 ≤ x ∧ x < ((f.is.length + 2 * m.ca.length : Nat) : Int) := fun n _ x hx => flG_mem m f n x hx
  have s1ok := come_ok (st0_ok (f.is.length + 2 * m.ca.length)) Kn.zero_ok (show 0 < f.is.length + 2 * m.ca.length by omega)
  exact run_fix (run_ends hb hfl _ _ s1ok.1 (Nat.le_refl _)).2 hq
def evP (m : Md) (f : Fn) (n : Nat) (pc : Int) : Bool := if pc < 0 then false else match f.is[pc.toNat]? with
  | none => false
  | some i => if wfP i.op = false ∨ bitP i.a = 0 ∨ bitP i.c = 0 then false else if f.ks[i.c.toNat]? = some false then true else spK (kAt (evS m f n) pc.toNat) i
theorem spP_ev (m : Md) (f : Fn) (n : Nat) (h0 : f.is.length ≠ 0) (hq : (evS m f n).Q = []) (pc : Int) (v : Bool) (hv : evP m f n pc = v) : spP m f pc = v := by
  rw [← hv]
  unfold spP evP
  rw [setP_ev m f n h0 hq]
  all_goals rfl
theorem q_f : (evS prM (prF (prI false)) 9).Q = [] := by decide +kernel
theorem q_t : (evS prM (prF (prI true)) 9).Q = [] := by decide +kernel
theorem sp_f2 : spP prM (prF (prI false)) 2 = true := spP_ev _ _ 9 (by decide) q_f _ _ (by decide +kernel)
theorem sp_t3 : spP prM (prF (prI true)) 3 = false := spP_ev _ _ 9 (by decide) q_t _ _ (by decide +kernel)
def prI2 : List In := [⟨25, 0, 0, 0, 0⟩, ⟨25, 1, 0, 0, 0⟩, ⟨28, 0, 0, 1, 0⟩, ⟨28, 0, 0, 1, 0⟩, ⟨22, -1, 0, 0, 0⟩]
theorem q_2 : (evS prM (prF prI2) 9).Q = [] := by decide +kernel
theorem sp_22 : spP prM (prF prI2) 2 = true := spP_ev _ _ 9 (by decide) q_2 _ _ (by decide +kernel)
theorem sp_23 : spP prM (prF prI2) 3 = false := spP_ev _ _ 9 (by decide) q_2 _ _ (by decide +kernel)
theorem sp_20 : spP prM (prF prI2) 0 = false := spP_ev _ _ 9 (by decide) q_2 _ _ (by decide +kernel)
theorem sp_2m : spP prM (prF prI2) (-1) = false := spP_ev _ _ 9 (by decide) q_2 _ _ (by decide +kernel)
theorem sp_29 : spP prM (prF prI2) 99 = false := spP_ev _ _ 9 (by decide) q_2 _ _ (by decide +kernel)
theorem st_f2 : sttL (kAt (setP prM (prF (prI false)) (nodP 1 prM.ca) (nodP 0 prM.ca)) 2) 2 = [⟨false, true, 0⟩, ⟨true, true, 0⟩] := by
  rw [setP_ev _ _ 9 (by decide) q_f]
  kernel_rfl
end Go.Proofs.YtiangegoglfpeaaDoor

/- awake of gantlinelaw11. -/
namespace Go.Proofs.YtiangegoglfpeaaDoor
set_option maxRecDepth 100000
open Go.RowKit Go.Maps Go.ChangeShapes Go.WideShapes Go.ChangeAt Go.Deep

theorem oI_s (x : Int) (h : -1000 ≤ x ∧ x ≤ 1000) : oI x := by unfold oI; omega
theorem pr_oIn (l : List In) (h : ∀ i ∈ l, (-1000 ≤ i.op ∧ i.op ≤ 1000) ∧ (-1000 ≤ i.a ∧ i.a ≤ 1000) ∧ (-1000 ≤ i.b ∧ i.b ≤ 1000) ∧ (-1000 ≤ i.c ∧ i.c ≤ 1000) ∧ (-1000 ≤ i.d ∧ i.d ≤ 1000)) : ∀ i ∈ l, oIn i := fun i hi => by
  obtain ⟨h1, h2, h3, h4, h5⟩ := h i hi
  exact ⟨oI_s _ h1, oI_s _ h2, oI_s _ h3, oI_s _ h4, oI_s _ h5⟩
theorem pr_spare {x : World} {sb kb ib c : Nat} {l : List In} (P : PrAt x sb kb ib c l) (ht : TabZ x) (hw : RowsAt x) (n : Nat) (hn : l.length = n) (hl : n ≤ 1000) (ol : ∀ i ∈ l, oIn i) (pc : Int) (v : Bool) (hv : spP prM (prF l) pc = v) :
    Calls Tryd.prog 9 #[agPm sb, agPf kb ib n c, .int .i64 pc] x fun e w' => e = .returned (.bool v) ∧ G x w' := by
  subst hn
  rw [← hv]
  exact spare_any x prM (some ⟨sb, 0, none⟩) 1 none 0 none 0 none 0 none 0 (prF l) (some ⟨kb, 0, none⟩) 2 (some ⟨ib, 0, none⟩) c none 0 P.modR P.i P.k ht hw ol (fun c hc => by cases hc) (show l.length + 2 * 0 ≤ 1000000 by omega) pc
theorem pr_sets {x : World} {sb kb ib c : Nat} {l : List In} (P : PrAt x sb kb ib c l) (ht : TabZ x) (hw : RowsAt x) (n : Nat) (hn : l.length = n) (hl : n ≤ 1000) (ol : ∀ i ∈ l, oIn i) :
    Calls Tryd.prog 10 #[agPm sb, agPf kb ib n c] x (SetsTo x n 2 (fun j => sttL (kAt (setP prM (prF l) (nodP 1 prM.ca) (nodP 0 prM.ca)) j) 2)) := by
  subst hn
  exact fsets_any x prM (some ⟨sb, 0, none⟩) 1 none 0 none 0 none 0 none 0 (prF l) (some ⟨kb, 0, none⟩) 2 (some ⟨ib, 0, none⟩) c none 0 P.modR P.i ht hw ol (fun c hc => by cases hc) (show l.length + 2 * 0 ≤ 1000000 by omega)
theorem pr_box (w1 : World) (sb kb ib n c : Nat) : ∀ x, G ((w1.alloc (.cells #[.slice (some ⟨sb, 0, none⟩) 1 1, .slice none 0 0, .slice none 0 0, .slice none 0 0, .slice none 0 0, .int .i64 0] 29)).alloc (.cells #[.int .i64 0, .int .i64 0, .int .i64 2, .int .i64 0, .slice (some ⟨kb, 0, none⟩) 2 2, .slice (some ⟨ib, 0, none⟩) n c, .slice none 0 0] 33)) x →
    (x.cell? ⟨w1.heap.size, 0, none⟩ = some (.slice (some ⟨sb, 0, none⟩) 1 1) ∧ x.cell? ⟨w1.heap.size, 1, none⟩ = some (.slice none 0 0) ∧ x.cell? ⟨w1.heap.size, 2, none⟩ = some (.slice none 0 0) ∧ x.cell? ⟨w1.heap.size, 3, none⟩ = some (.slice none 0 0) ∧ x.cell? ⟨w1.heap.size, 4, none⟩ = some (.slice none 0 0) ∧ x.cell? ⟨w1.heap.size, 5, none⟩ = some (.int .i64 0)) ∧
    (x.cell? ⟨w1.heap.size + 1, 0, none⟩ = some (.int .i64 0) ∧ x.cell? ⟨w1.heap.size + 1, 1, none⟩ = some (.int .i64 0) ∧ x.cell? ⟨w1.heap.size + 1, 2, none⟩ = some (.int .i64 2) ∧ x.cell? ⟨w1.heap.size + 1, 3, none⟩ = some (.int .i64 0) ∧ x.cell? ⟨w1.heap.size + 1, 4, none⟩ = some (.slice (some ⟨kb, 0, none⟩) 2 2) ∧ x.cell? ⟨w1.heap.size + 1, 5, none⟩ = some (.slice (some ⟨ib, 0, none⟩) n c) ∧ x.cell? ⟨w1.heap.size + 1, 6, none⟩ = some (.slice none 0 0)) := fun x g => by
  refine ⟨⟨g.cell ?_, g.cell ?_, g.cell ?_, g.cell ?_, g.cell ?_, g.cell ?_⟩, ⟨g.cell ?_, g.cell ?_, g.cell ?_, g.cell ?_, g.cell ?_, g.cell ?_, g.cell ?_⟩⟩
  all_goals simp [go_sem]
theorem row_st {x : World} {b : Nat} {l : List Stt} {n : Nat} (h : RowAt elSt x (some ⟨b, 0, none⟩) n n l) (k : Nat) (s : Stt) (hs : l[k]? = some s) : ∀ y, G x y → y.cell? ⟨b, k * 3, none⟩ = some (.bool s.y) ∧ y.cell? ⟨b, k * 3 + 1, none⟩ = some (.bool s.o) ∧ y.cell? ⟨b, k * 3 + 2, none⟩ = some (.int .u64 (s.w : Int)) := fun y g => by
  have hk : k < n := by rw [← h.1]; exact (List.getElem?_eq_some_iff.1 hs).1
  obtain ⟨b', off, a, cs, e, ha, ecs, hcs⟩ := row_get h hk
  rw [hs] at ha
  cases ha
  cases e
  have ecs : cs = [.bool s.y, .bool s.o, .int .u64 (s.w : Int)] := ecs
  subst ecs
  have h0 := hcs y g 0 _ rfl
  have h1 := hcs y g 1 _ rfl
  have h2 := hcs y g 2 _ rfl
  simp only [Nat.zero_add, Nat.add_zero] at h0 h1 h2
  exact ⟨h0, h1, h2⟩
theorem ol_f : ∀ i ∈ prI false, oIn i := pr_oIn _ (by decide)
theorem ol_t : ∀ i ∈ prI true, oIn i := pr_oIn _ (by decide)
set_option maxHeartbeats 1000000 in
theorem awake11 (w : World) (ht : TabZ w) (hw : RowsAt w) : Calls Tryd.prog 7 #[] w fun e w' => e = .returned (.bool true) ∧ G w w' := by
  have PA : Hid (∀ x, Calls Tryd.prog 8 #[.bool false] x fun e w' => ∃ sb kb ib c, e = .returned (.tuple #[agPm sb, agPf kb ib 4 c]) ∧ Hid (PrAt w' sb kb ib c (prI false) ∧ G x w')) := hide fun x => (pair_any x false).mono fun e w' ⟨sb, kb, ib, c, he, hp, g⟩ => ⟨sb, kb, ib, c, he, hide ⟨hp, g⟩⟩
  have PB : Hid (∀ x, Calls Tryd.prog 8 #[.bool true] x fun e w' => ∃ sb kb ib c, e = .returned (.tuple #[agPm sb, agPf kb ib 5 c]) ∧ Hid (PrAt w' sb kb ib c (prI true) ∧ G x w')) := hide fun x => (pair_any x true).mono fun e w' ⟨sb, kb, ib, c, he, hp, g⟩ => ⟨sb, kb, ib, c, he, hide ⟨hp, g⟩⟩
  have TT : Hid (∀ x, G w x → TabZ x ∧ RowsAt x) := hide fun x g => ⟨ht.g g, hw.g g⟩
  clear ht hw
  go_enter Tryd.func7, Tryd.ntmps7
  go_wp2_with fail
  refine (unhide PA w).mono ?_
  rintro e w1 ⟨sb, kb, ib, c, rfl, P1⟩
  go_upto_region 2 with fail
  obtain ⟨X1, hX1⟩ : ∃ X1, X1 = ((w1.alloc (.cells #[.slice (some ⟨sb, 0, none⟩) 1 1, .slice none 0 0, .slice none 0 0, .slice none 0 0, .slice none 0 0, .int .i64 0] 29)).alloc (.cells #[.int .i64 0, .int .i64 0, .int .i64 2, .int .i64 0, .slice (some ⟨kb, 0, none⟩) 2 2, .slice (some ⟨ib, 0, none⟩) 4 c, .slice none 0 0] 33)) := ⟨_, rfl⟩
  rw [← hX1]
  have B1 := hide (pr_box w1 sb kb ib 4 c)
  rw [← hX1] at B1
  have G1 : Hid (G w1 X1) := hide (by rw [hX1]; exact ((G.refl w1).more _).more _)
  clear hX1 PA
  go_wp2_with fail
  refine (unhide PB X1).mono ?_
  rintro e w2 ⟨sb2, kb2, ib2, c2, rfl, P2⟩
  go_upto_region 3 with fail
  obtain ⟨X2, hX2⟩ : ∃ X2, X2 = ((w2.alloc (.cells #[.slice (some ⟨sb2, 0, none⟩) 1 1, .slice none 0 0, .slice none 0 0, .slice none 0 0, .slice none 0 0, .int .i64 0] 29)).alloc (.cells #[.int .i64 0, .int .i64 0, .int .i64 2, .int .i64 0, .slice (some ⟨kb2, 0, none⟩) 2 2, .slice (some ⟨ib2, 0, none⟩) 5 c2, .slice none 0 0] 33)) := ⟨_, rfl⟩
  rw [← hX2]
  have B2 := hide (pr_box w2 sb2 kb2 ib2 5 c2)
  rw [← hX2] at B2
  have G2 : Hid (G w2 X2) := hide (by rw [hX2]; exact ((G.refl w2).more _).more _)
  have GX : Hid (G w X2) := hide ((((unhide P1).2.trans (unhide G1)).trans (unhide P2).2).trans (unhide G2))
  have PX1 : Hid (∀ x, G X2 x → PrAt x sb kb ib c (prI false)) := hide fun x g => (unhide P1).1.g ((((unhide G1).trans (unhide P2).2).trans (unhide G2)).trans g)
  have PX2 : Hid (∀ x, G X2 x → PrAt x sb2 kb2 ib2 c2 (prI true)) := hide fun x g => (unhide P2).1.g ((unhide G2).trans g)
  have BX1 : Hid (∀ x (_ : G X2 x), _) := hide fun x g => unhide B1 x (((unhide P2).2.trans (unhide G2)).trans g)
  have TX : Hid (∀ x, G X2 x → TabZ x ∧ RowsAt x) := hide fun x g => unhide TT x ((unhide GX).trans g)
  clear hX2 PB G1 G2 P1 P2 B1 TT
  have SE := hide (pr_sets (unhide PX1 X2 (G.refl _)) (unhide TX X2 (G.refl _)).1 (unhide TX X2 (G.refl _)).2 4 rfl (by decide) ol_f)
  obtain ⟨⟨a0, a1, a2, a3, a4, a5⟩, ⟨b0, b1, b2, b3, b4, b5, b6⟩⟩ := unhide BX1 X2 (G.refl _)
  go_wp2_with fail
  refine (unhide SE).mono ?_
  rintro e w3 ⟨b, rb, rfl, g3, _, hc⟩
  obtain ⟨h2, r2⟩ := hc 2 (by decide)
  replace r2 : RowAt elSt w3 (some ⟨rb 2, 0, none⟩) 2 2 [⟨false, true, 0⟩, ⟨true, true, 0⟩] := by rw [← st_f2]; exact r2
  have CS : Hid (∀ x, G w3 x → x.cell? ⟨b, 2, none⟩ = some (.slice (some ⟨rb 2, 0, none⟩) 2 2) ∧ (x.cell? ⟨rb 2, 0, none⟩ = some (.bool false) ∧ x.cell? ⟨rb 2, 1, none⟩ = some (.bool true) ∧ x.cell? ⟨rb 2, 2, none⟩ = some (.int .u64 0)) ∧ (x.cell? ⟨rb 2, 3, none⟩ = some (.bool true) ∧ x.cell? ⟨rb 2, 4, none⟩ = some (.bool true) ∧ x.cell? ⟨rb 2, 5, none⟩ = some (.int .u64 0))) := hide fun x g => ⟨g.cell h2, row_st r2 0 _ rfl x g, row_st r2 1 _ rfl x g⟩
  generalize rb 2 = rr at CS
  replace g3 := hide g3
  clear SE h2 r2 hc a0 a1 a2 a3 a4 a5 b0 b1 b2 b3 b4 b5 b6
  obtain ⟨⟨a0, a1, a2, a3, a4, a5⟩, ⟨b0, b1, b2, b3, b4, b5, b6⟩⟩ := unhide BX1 w3 (unhide g3)
  have SP := hide (pr_spare (unhide PX1 w3 (unhide g3)) (unhide TX w3 (unhide g3)).1 (unhide TX w3 (unhide g3)).2 4 rfl (by decide) ol_f 2 true sp_f2)
  go_wp2_with fail
  refine (unhide SP).mono ?_
  rintro e w4 ⟨rfl, g4⟩
  have GX4 : Hid (G X2 w4) := hide ((unhide g3).trans g4)
  replace g4 := hide g4
  clear SP a0 a1 a2 a3 a4 a5 b0 b1 b2 b3 b4 b5 b6
  obtain ⟨⟨a0, a1, a2, a3, a4, a5⟩, ⟨b0, b1, b2, b3, b4, b5, b6⟩⟩ := unhide B2 w4 (unhide GX4)
  have SP := hide (pr_spare (unhide PX2 w4 (unhide GX4)) (unhide TX w4 (unhide GX4)).1 (unhide TX w4 (unhide GX4)).2 5 rfl (by decide) ol_t 3 false sp_t3)
  go_wp2_with fail
  refine (unhide SP).mono ?_
  rintro e w5 ⟨rfl, g5⟩
  have G35 := (unhide g4).trans g5
  obtain ⟨d0, ⟨d1, d2, d3⟩, ⟨d4, d5, d6⟩⟩ := unhide CS w5 G35
  have GF := hide ((unhide GX).trans ((unhide g3).trans G35))
  clear SP CS G35 g5 a0 a1 a2 a3 a4 a5 b0 b1 b2 b3 b4 b5 b6
  go_wp2_with fail
  go_ret
  exact ⟨rfl, unhide GF⟩
end Go.Proofs.YtiangegoglfpeaaDoor
