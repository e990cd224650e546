/- pass: what is made, sent, and the rest. -/
import Derived.Test.YtiangegoglfpeaaDoorFrPs
namespace Go.Proofs.YtiangegoglfpeaaDoor
set_option maxRecDepth 100000
open Go.RowKit Go.Maps Go.ChangeShapes Go.WideShapes Go.ChangeAt Go.Deep

set_option maxHeartbeats 2000000 in
theorem pass_any0 {W0 w : World} {b : Nat} {k : Kn} (H : PsC W0 w b) (h : KnAt w b k) (m : Md) (so : Option Addr) (sc : Nat) (go : Option Addr) (gc : Nat) (co : Option Addr) (cc : Nat) (ao : Option Addr) (ac : Nat) (fo : Option Addr) (fc : Nat) (hM : ModR W0 m so sc go gc co cc ao ac fo fc) (hn : m.ca.length ≤ 1000000) (op : Int) (h25 : (op == 25) = false) (h26 : (op == 26) = false) (h37 : (op == 37) = false) (h36 : (op == 36) = false) (h1 : (op == 1) = false) (h28 : (op == 28) = false) (h29 : (op == 29) = false) (h31 : (op == 31) = false) (h32 : (op == 32) = false) (h38 : (op == 38) = false) (h35 : (op == 35) = false) (h20 : (op == 20) = false) (h21 : (op == 21) = false) (h22 : (op == 22) = false) (h23 : (op == 23) = false) (h24 : (op == 24) = false) (A B C D : Int) (hi : oIn ⟨op, A, B, C, D⟩) :
    Calls Tryd.prog 51 #[.pointer (some ⟨b, 0, none⟩), agM m so sc go gc co cc ao ac fo fc, agI ⟨op, A, B, C, D⟩] w fun e w' => e = .returned (.tuple #[]) ∧ KnAt w' b (k.pass m ⟨op, A, B, C, D⟩) ∧ TrD w w' (· = b) := by
  have EK : k.pass m ⟨op, A, B, C, D⟩ = (k.point op).forget (mskP (wrP ⟨op, A, B, C, D⟩)) := by
    have e : ∀ n : Int, (op == n) = false → ¬ op = n := fun n h e => by simp [e] at h
    simp only [Kn.pass, e _ h25, e _ h26, e _ h37, e _ h36, e _ h1, e _ h28, e _ h29, e _ h31, e _ h32, e _ h38, e _ h35, e _ h20, e _ h21, e _ h22, e _ h23, e _ h24, or_self, if_false]
  rw [EK]
  clear EK
  have oA := hi.2.1
  have oB := hi.2.2.1
  have oC := hi.2.2.2.1
  have hb0 := h.lt
  have okp := h.ok.point op
  have CP : Hid (∀ x, G W0 x → Calls Tryd.prog 17 #[.int .i64 op] x fun e w' => e = .returned (.bool (rwOf op).pt) ∧ G x w') := hide fun x g => point_any x op (H.r.g g)
  have hkp : k.point op = if (rwOf op).pt then ⟨0, k.o, k.ws⟩ else k := rfl
  generalize k.point op = k1 at hkp okp ⊢
  generalize (rwOf op).pt = pt at CP hkp
  have WO := wr_oi ⟨op, A, B, C, D⟩ hi
  have CW : Hid (∀ x, Calls Tryd.prog 65 #[agI ⟨op, A, B, C, D⟩] x (LTo x (wrP ⟨op, A, B, C, D⟩))) := hide fun x => writes_any x ⟨op, A, B, C, D⟩
  generalize wrP ⟨op, A, B, C, D⟩ = WL at WO CW ⊢
  have CN : Hid (∀ x v, IsL x v WL → Calls Tryd.prog 62 #[v] x fun e w' => e = .returned (.int .u64 (mskP WL : Int)) ∧ w' = x) := hide fun x v h => fslotMap_any x v WL h (by omega) WO.1
  have hnl := msk_lt WL
  generalize mskP WL = MW at CN hnl ⊢
  unfold agM agI at *
  simp only at *
  replace hM := hide hM
  replace hi := hide hi
  replace hn := hide hn
  go_enter Tryd.func51, Tryd.ntmps51
  go_wp2_with fail
  refine (unhide CP _ ((H.g.more _).more _)).mono ?_
  rintro e X ⟨rfl, gX⟩
  have gw : G w X := ((G.refl w).more _).more _ |>.trans gX
  have BX := hide (boxes w _ _ _ _ X gX)
  have HX : PsC W0 X b := ⟨H.g.trans gw, H.lo, H.t, H.r, H.two⟩
  have kX := h.g gw
  have c0 := kX.y
  have f0 := kX.fro 0 (by decide)
  have hp1 : Hid (∀ x, pt = true → G (X.setCell ⟨b, 0, none⟩ (.int .u64 0)) x → PS X x b k1) := hide fun x e g => by rw [hkp, if_pos e]; exact kt_g ⟨kX.setY 0 (by decide), (TrD.refl X _).set b _ _ (Or.inl rfl)⟩ g
  have hp2 : Hid (pt = false → PS X X b k1) := hide fun e => by rw [hkp, if_neg (by simp [e])]; exact ⟨kX, TrD.refl _ _⟩
  replace hkp := hide hkp
  replace kX := hide kX
  replace h := hide h
  replace H := hide H
  replace HX := hide HX
  replace gw := hide gw
  replace gX := hide gX
  replace okp := hide okp
  clear CP
  have NX : Hid (∀ x kk, PS X x b kk → PS X x b kk ∧ (∀ (i : Nat) (v : Value), (#[.int .i64 op, .int .i64 A, .int .i64 B, .int .i64 C, .int .i64 D] : Array Value)[i]? = some v → x.cell? ⟨w.heap.size + 1, i, none⟩ = some v) ∧ (∀ (i : Nat) (v : Value), (#[.slice so m.sh.length sc, .slice go m.gl.length gc, .slice co m.co.length cc, .slice ao m.ca.length ac, .slice fo m.fn.length fc, .int .i64 m.main] : Array Value)[i]? = some v → x.cell? ⟨w.heap.size, i, none⟩ = some v)) := hide fun x kk s => ⟨s, fun i v hv => s.2.cell ((unhide BX).2 i v hv) (show ¬ w.heap.size + 1 = b by omega), fun i v hv => s.2.cell ((unhide BX).1 i v hv) (show ¬ w.heap.size = b by omega)⟩
  have FIN : Hid (∀ x kk, PS X x b kk → KnAt x b kk ∧ TrD w x (· = b)) := hide fun x kk s => ⟨s.1, (TrD.of_G _ (unhide gw)).trans s.2⟩
  replace hb0 := hide hb0
  cases pt
  · have S0 := unhide hp2 rfl
    clear hp1 hp2 c0 f0
    obtain ⟨_, ci, cm⟩ := unhide NX _ _ S0
    have i0 := ci 0 _ rfl
    have i1 := ci 1 _ rfl
    have i2 := ci 2 _ rfl
    have i3 := ci 3 _ rfl
    have i4 := ci 4 _ rfl
    have m0 := cm 0 _ rfl
    have m1 := cm 1 _ rfl
    have m2 := cm 2 _ rfl
    have m3 := cm 3 _ rfl
    have m4 := cm 4 _ rfl
    have m5 := cm 5 _ rfl
    clear ci cm
    replace S0 := hide S0
    go_wp2_with fail
    refine (unhide CW _).mono ?_
    rintro e we ⟨v, rfl, hv, ge⟩
    have Se := hide (ps_g (unhide S0) ge)
    replace hv := hide hv
    clear i0 i1 i2 i3 i4 m0 m1 m2 m3 m4 m5
    clear ge
    go_wp2_with fail
    refine (unhide CN _ _ (unhide hv)).mono ?_
    rintro e wf ⟨rfl, hwf⟩
    subst hwf
    go_wp2_with fail
    refine (ps_forget (unhide HX) (unhide Se) MW hnl).mono ?_
    rintro e wg ⟨rfl, Sg⟩
    replace Sg := hide Sg
    clear hv Se
    go_wp2_with fail
    go_end0
    exact ⟨rfl, unhide FIN _ _ (unhide Sg)⟩
  · have S0 := unhide hp1 _ rfl (G.refl _)
    obtain ⟨Y, hY⟩ : ∃ Y, Y = X.setCell ⟨b, 0, none⟩ (.int .u64 0) := ⟨_, rfl⟩
    go_upto_region 3 with fail
    rw [← hY] at S0 ⊢
    clear hY
    clear hp1 hp2 c0 f0
    obtain ⟨_, ci, cm⟩ := unhide NX _ _ S0
    have i0 := ci 0 _ rfl
    have i1 := ci 1 _ rfl
    have i2 := ci 2 _ rfl
    have i3 := ci 3 _ rfl
    have i4 := ci 4 _ rfl
    have m0 := cm 0 _ rfl
    have m1 := cm 1 _ rfl
    have m2 := cm 2 _ rfl
    have m3 := cm 3 _ rfl
    have m4 := cm 4 _ rfl
    have m5 := cm 5 _ rfl
    clear ci cm
    replace S0 := hide S0
    go_wp2_with fail
    refine (unhide CW _).mono ?_
    rintro e we ⟨v, rfl, hv, ge⟩
    have Se := hide (ps_g (unhide S0) ge)
    replace hv := hide hv
    clear i0 i1 i2 i3 i4 m0 m1 m2 m3 m4 m5
    clear ge
    go_wp2_with fail
    refine (unhide CN _ _ (unhide hv)).mono ?_
    rintro e wf ⟨rfl, hwf⟩
    subst hwf
    go_wp2_with fail
    refine (ps_forget (unhide HX) (unhide Se) MW hnl).mono ?_
    rintro e wg ⟨rfl, Sg⟩
    replace Sg := hide Sg
    clear hv Se
    go_wp2_with fail
    go_end0
    exact ⟨rfl, unhide FIN _ _ (unhide Sg)⟩
set_option maxHeartbeats 2000000 in
theorem pass_38 {W0 w : World} {b : Nat} {k : Kn} (H : PsC W0 w b) (h : KnAt w b k) (m : Md) (so : Option Addr) (sc : Nat) (go : Option Addr) (gc : Nat) (co : Option Addr) (cc : Nat) (ao : Option Addr) (ac : Nat) (fo : Option Addr) (fc : Nat) (hM : ModR W0 m so sc go gc co cc ao ac fo fc) (hn : m.ca.length ≤ 1000000) (A B C D : Int) (hi : oIn ⟨(38 : Int), A, B, C, D⟩) :
    Calls Tryd.prog 51 #[.pointer (some ⟨b, 0, none⟩), agM m so sc go gc co cc ao ac fo fc, agI ⟨(38 : Int), A, B, C, D⟩] w fun e w' => e = .returned (.tuple #[]) ∧ KnAt w' b (k.pass m ⟨(38 : Int), A, B, C, D⟩) ∧ TrD w w' (· = b) := by
  have EK : k.pass m ⟨(38 : Int), A, B, C, D⟩ = (k.point (38 : Int)).hand (bitP B) := by simp [Kn.pass]
  rw [EK]
  clear EK
  have oA := hi.2.1
  have oB := hi.2.2.1
  have oC := hi.2.2.2.1
  have hb0 := h.lt
  have okp := h.ok.point (38 : Int)
  have CP : Hid (∀ x, G W0 x → Calls Tryd.prog 17 #[.int .i64 (38 : Int)] x fun e w' => e = .returned (.bool (rwOf (38 : Int)).pt) ∧ G x w') := hide fun x g => point_any x (38 : Int) (H.r.g g)
  have hkp : k.point (38 : Int) = if (rwOf (38 : Int)).pt then ⟨0, k.o, k.ws⟩ else k := rfl
  generalize k.point (38 : Int) = k1 at hkp okp ⊢
  generalize (rwOf (38 : Int)).pt = pt at CP hkp
  unfold agM agI at *
  simp only at *
  replace hM := hide hM
  replace hi := hide hi
  replace hn := hide hn
  go_enter Tryd.func51, Tryd.ntmps51
  go_wp2_with fail
  refine (unhide CP _ ((H.g.more _).more _)).mono ?_
  rintro e X ⟨rfl, gX⟩
  have gw : G w X := ((G.refl w).more _).more _ |>.trans gX
  have BX := hide (boxes w _ _ _ _ X gX)
  have HX : PsC W0 X b := ⟨H.g.trans gw, H.lo, H.t, H.r, H.two⟩
  have kX := h.g gw
  have c0 := kX.y
  have f0 := kX.fro 0 (by decide)
  have hp1 : Hid (∀ x, pt = true → G (X.setCell ⟨b, 0, none⟩ (.int .u64 0)) x → PS X x b k1) := hide fun x e g => by rw [hkp, if_pos e]; exact kt_g ⟨kX.setY 0 (by decide), (TrD.refl X _).set b _ _ (Or.inl rfl)⟩ g
  have hp2 : Hid (pt = false → PS X X b k1) := hide fun e => by rw [hkp, if_neg (by simp [e])]; exact ⟨kX, TrD.refl _ _⟩
  replace hkp := hide hkp
  replace kX := hide kX
  replace h := hide h
  replace H := hide H
  replace HX := hide HX
  replace gw := hide gw
  replace gX := hide gX
  replace okp := hide okp
  clear CP
  have NX : Hid (∀ x kk, PS X x b kk → PS X x b kk ∧ (∀ (i : Nat) (v : Value), (#[.int .i64 (38 : Int), .int .i64 A, .int .i64 B, .int .i64 C, .int .i64 D] : Array Value)[i]? = some v → x.cell? ⟨w.heap.size + 1, i, none⟩ = some v) ∧ (∀ (i : Nat) (v : Value), (#[.slice so m.sh.length sc, .slice go m.gl.length gc, .slice co m.co.length cc, .slice ao m.ca.length ac, .slice fo m.fn.length fc, .int .i64 m.main] : Array Value)[i]? = some v → x.cell? ⟨w.heap.size, i, none⟩ = some v)) := hide fun x kk s => ⟨s, fun i v hv => s.2.cell ((unhide BX).2 i v hv) (show ¬ w.heap.size + 1 = b by omega), fun i v hv => s.2.cell ((unhide BX).1 i v hv) (show ¬ w.heap.size = b by omega)⟩
  have FIN : Hid (∀ x kk, PS X x b kk → KnAt x b kk ∧ TrD w x (· = b)) := hide fun x kk s => ⟨s.1, (TrD.of_G _ (unhide gw)).trans s.2⟩
  replace hb0 := hide hb0
  cases pt
  · have S0 := unhide hp2 rfl
    clear hp1 hp2 c0 f0
    obtain ⟨_, ci, cm⟩ := unhide NX _ _ S0
    have i0 := ci 0 _ rfl
    have i1 := ci 1 _ rfl
    have i2 := ci 2 _ rfl
    have i3 := ci 3 _ rfl
    have i4 := ci 4 _ rfl
    have m0 := cm 0 _ rfl
    have m1 := cm 1 _ rfl
    have m2 := cm 2 _ rfl
    have m3 := cm 3 _ rfl
    have m4 := cm 4 _ rfl
    have m5 := cm 5 _ rfl
    clear ci cm
    replace S0 := hide S0
    go_wp2_with fail
    refine (bit_any _ B oB).mono ?_
    rintro e wq ⟨rfl, hwq⟩
    subst hwq
    go_wp2_with fail
    refine (ps_hand (unhide S0) (bitP B) (bitP_lt B)).mono ?_
    rintro e wd ⟨rfl, Sd⟩
    replace Sd := hide Sd
    go_wp2_with fail
    go_end0
    exact ⟨rfl, unhide FIN _ _ (unhide Sd)⟩
  · have S0 := unhide hp1 _ rfl (G.refl _)
    obtain ⟨Y, hY⟩ : ∃ Y, Y = X.setCell ⟨b, 0, none⟩ (.int .u64 0) := ⟨_, rfl⟩
    go_upto_region 3 with fail
    rw [← hY] at S0 ⊢
    clear hY
    clear hp1 hp2 c0 f0
    obtain ⟨_, ci, cm⟩ := unhide NX _ _ S0
    have i0 := ci 0 _ rfl
    have i1 := ci 1 _ rfl
    have i2 := ci 2 _ rfl
    have i3 := ci 3 _ rfl
    have i4 := ci 4 _ rfl
    have m0 := cm 0 _ rfl
    have m1 := cm 1 _ rfl
    have m2 := cm 2 _ rfl
    have m3 := cm 3 _ rfl
    have m4 := cm 4 _ rfl
    have m5 := cm 5 _ rfl
    clear ci cm
    replace S0 := hide S0
    go_wp2_with fail
    refine (bit_any _ B oB).mono ?_
    rintro e wq ⟨rfl, hwq⟩
    subst hwq
    go_wp2_with fail
    refine (ps_hand (unhide S0) (bitP B) (bitP_lt B)).mono ?_
    rintro e wd ⟨rfl, Sd⟩
    replace Sd := hide Sd
    go_wp2_with fail
    go_end0
    exact ⟨rfl, unhide FIN _ _ (unhide Sd)⟩
set_option maxHeartbeats 2000000 in
theorem pass_36 {W0 w : World} {b : Nat} {k : Kn} (H : PsC W0 w b) (h : KnAt w b k) (m : Md) (so : Option Addr) (sc : Nat) (go : Option Addr) (gc : Nat) (co : Option Addr) (cc : Nat) (ao : Option Addr) (ac : Nat) (fo : Option Addr) (fc : Nat) (hM : ModR W0 m so sc go gc co cc ao ac fo fc) (hn : m.ca.length ≤ 1000000) (A B C D : Int) (hi : oIn ⟨(36 : Int), A, B, C, D⟩) :
    Calls Tryd.prog 51 #[.pointer (some ⟨b, 0, none⟩), agM m so sc go gc co cc ao ac fo fc, agI ⟨(36 : Int), A, B, C, D⟩] w fun e w' => e = .returned (.tuple #[]) ∧ KnAt w' b (k.pass m ⟨(36 : Int), A, B, C, D⟩) ∧ TrD w w' (· = b) := by
  have EK : k.pass m ⟨(36 : Int), A, B, C, D⟩ = ((k.point (36 : Int)).begin A true).hand (mskP (rdP m ⟨(36 : Int), A, B, C, D⟩)) := by simp [Kn.pass]
  rw [EK]
  clear EK
  have oA := hi.2.1
  have oB := hi.2.2.1
  have oC := hi.2.2.2.1
  have hb0 := h.lt
  have okp := h.ok.point (36 : Int)
  have CP : Hid (∀ x, G W0 x → Calls Tryd.prog 17 #[.int .i64 (36 : Int)] x fun e w' => e = .returned (.bool (rwOf (36 : Int)).pt) ∧ G x w') := hide fun x g => point_any x (36 : Int) (H.r.g g)
  have hkp : k.point (36 : Int) = if (rwOf (36 : Int)).pt then ⟨0, k.o, k.ws⟩ else k := rfl
  generalize k.point (36 : Int) = k1 at hkp okp ⊢
  generalize (rwOf (36 : Int)).pt = pt at CP hkp
  have RO := rd_oi m ⟨(36 : Int), A, B, C, D⟩ hi (show (36 : Int) ≠ 41 by decide)
  have CR : Hid (∀ x, G W0 x → Calls Tryd.prog 63 #[agM m so sc go gc co cc ao ac fo fc, agI ⟨(36 : Int), A, B, C, D⟩] x (LTo x (rdP m ⟨(36 : Int), A, B, C, D⟩))) := hide fun x g => reads_any x m so sc go gc co cc ao ac fo fc (hM.g g) ⟨(36 : Int), A, B, C, D⟩ oA hn
  generalize rdP m ⟨(36 : Int), A, B, C, D⟩ = RL at RO CR ⊢
  have CM : Hid (∀ x v, IsL x v RL → Calls Tryd.prog 62 #[v] x fun e w' => e = .returned (.int .u64 (mskP RL : Int)) ∧ w' = x) := hide fun x v h => fslotMap_any x v RL h (by omega) RO.1
  have hml := msk_lt RL
  generalize mskP RL = MR at CM hml ⊢
  unfold agM agI at *
  simp only at *
  replace hM := hide hM
  replace hi := hide hi
  replace hn := hide hn
  go_enter Tryd.func51, Tryd.ntmps51
  go_wp2_with fail
  refine (unhide CP _ ((H.g.more _).more _)).mono ?_
  rintro e X ⟨rfl, gX⟩
  have gw : G w X := ((G.refl w).more _).more _ |>.trans gX
  have BX := hide (boxes w _ _ _ _ X gX)
  have HX : PsC W0 X b := ⟨H.g.trans gw, H.lo, H.t, H.r, H.two⟩
  have kX := h.g gw
  have c0 := kX.y
  have f0 := kX.fro 0 (by decide)
  have hp1 : Hid (∀ x, pt = true → G (X.setCell ⟨b, 0, none⟩ (.int .u64 0)) x → PS X x b k1) := hide fun x e g => by rw [hkp, if_pos e]; exact kt_g ⟨kX.setY 0 (by decide), (TrD.refl X _).set b _ _ (Or.inl rfl)⟩ g
  have hp2 : Hid (pt = false → PS X X b k1) := hide fun e => by rw [hkp, if_neg (by simp [e])]; exact ⟨kX, TrD.refl _ _⟩
  replace hkp := hide hkp
  replace kX := hide kX
  replace h := hide h
  replace H := hide H
  replace HX := hide HX
  replace gw := hide gw
  replace gX := hide gX
  replace okp := hide okp
  clear CP
  have NX : Hid (∀ x kk, PS X x b kk → PS X x b kk ∧ (∀ (i : Nat) (v : Value), (#[.int .i64 (36 : Int), .int .i64 A, .int .i64 B, .int .i64 C, .int .i64 D] : Array Value)[i]? = some v → x.cell? ⟨w.heap.size + 1, i, none⟩ = some v) ∧ (∀ (i : Nat) (v : Value), (#[.slice so m.sh.length sc, .slice go m.gl.length gc, .slice co m.co.length cc, .slice ao m.ca.length ac, .slice fo m.fn.length fc, .int .i64 m.main] : Array Value)[i]? = some v → x.cell? ⟨w.heap.size, i, none⟩ = some v)) := hide fun x kk s => ⟨s, fun i v hv => s.2.cell ((unhide BX).2 i v hv) (show ¬ w.heap.size + 1 = b by omega), fun i v hv => s.2.cell ((unhide BX).1 i v hv) (show ¬ w.heap.size = b by omega)⟩
  have FIN : Hid (∀ x kk, PS X x b kk → KnAt x b kk ∧ TrD w x (· = b)) := hide fun x kk s => ⟨s.1, (TrD.of_G _ (unhide gw)).trans s.2⟩
  replace hb0 := hide hb0
  cases pt
  · have S0 := unhide hp2 rfl
    clear hp1 hp2 c0 f0
    obtain ⟨_, ci, cm⟩ := unhide NX _ _ S0
    have i0 := ci 0 _ rfl
    have i1 := ci 1 _ rfl
    have i2 := ci 2 _ rfl
    have i3 := ci 3 _ rfl
    have i4 := ci 4 _ rfl
    have m0 := cm 0 _ rfl
    have m1 := cm 1 _ rfl
    have m2 := cm 2 _ rfl
    have m3 := cm 3 _ rfl
    have m4 := cm 4 _ rfl
    have m5 := cm 5 _ rfl
    clear ci cm
    replace S0 := hide S0
    go_wp2_with fail
    refine (ps_begin (unhide HX) (unhide S0) A true oA).mono ?_
    rintro e wz ⟨rfl, Sz⟩
    replace Sz := hide Sz
    clear i0 i1 i2 i3 i4 m0 m1 m2 m3 m4 m5
    obtain ⟨_, ci, cm⟩ := unhide NX _ _ (unhide Sz)
    have i0 := ci 0 _ rfl
    have i1 := ci 1 _ rfl
    have i2 := ci 2 _ rfl
    have i3 := ci 3 _ rfl
    have i4 := ci 4 _ rfl
    have m0 := cm 0 _ rfl
    have m1 := cm 1 _ rfl
    have m2 := cm 2 _ rfl
    have m3 := cm 3 _ rfl
    have m4 := cm 4 _ rfl
    have m5 := cm 5 _ rfl
    clear ci cm
    go_wp2_with fail
    refine (unhide CR _ ((unhide HX).tr (unhide Sz).2)).mono ?_
    rintro e wa ⟨v, rfl, hv, ga⟩
    have Sa := hide (ps_g (unhide Sz) ga)
    replace hv := hide hv
    clear i0 i1 i2 i3 i4 m0 m1 m2 m3 m4 m5
    clear ga
    go_wp2_with fail
    refine (unhide CM _ _ (unhide hv)).mono ?_
    rintro e wb ⟨rfl, hwb⟩
    subst hwb
    go_wp2_with fail
    refine (ps_hand (unhide Sa) MR hml).mono ?_
    rintro e wd ⟨rfl, Sd⟩
    replace Sd := hide Sd
    clear hv Sa
    go_wp2_with fail
    go_end0
    exact ⟨rfl, unhide FIN _ _ (unhide Sd)⟩
  · have S0 := unhide hp1 _ rfl (G.refl _)
    obtain ⟨Y, hY⟩ : ∃ Y, Y = X.setCell ⟨b, 0, none⟩ (.int .u64 0) := ⟨_, rfl⟩
    go_upto_region 3 with fail
    rw [← hY] at S0 ⊢
    clear hY
    clear hp1 hp2 c0 f0
    obtain ⟨_, ci, cm⟩ := unhide NX _ _ S0
    have i0 := ci 0 _ rfl
    have i1 := ci 1 _ rfl
    have i2 := ci 2 _ rfl
    have i3 := ci 3 _ rfl
    have i4 := ci 4 _ rfl
    have m0 := cm 0 _ rfl
    have m1 := cm 1 _ rfl
    have m2 := cm 2 _ rfl
    have m3 := cm 3 _ rfl
    have m4 := cm 4 _ rfl
    have m5 := cm 5 _ rfl
    clear ci cm
    replace S0 := hide S0
    go_wp2_with fail
    refine (ps_begin (unhide HX) (unhide S0) A true oA).mono ?_
    rintro e wz ⟨rfl, Sz⟩
    replace Sz := hide Sz
    clear i0 i1 i2 i3 i4 m0 m1 m2 m3 m4 m5
    obtain ⟨_, ci, cm⟩ := unhide NX _ _ (unhide Sz)
    have i0 := ci 0 _ rfl
    have i1 := ci 1 _ rfl
    have i2 := ci 2 _ rfl
    have i3 := ci 3 _ rfl
    have i4 := ci 4 _ rfl
    have m0 := cm 0 _ rfl
    have m1 := cm 1 _ rfl
    have m2 := cm 2 _ rfl
    have m3 := cm 3 _ rfl
    have m4 := cm 4 _ rfl
    have m5 := cm 5 _ rfl
    clear ci cm
    go_wp2_with fail
    refine (unhide CR _ ((unhide HX).tr (unhide Sz).2)).mono ?_
    rintro e wa ⟨v, rfl, hv, ga⟩
    have Sa := hide (ps_g (unhide Sz) ga)
    replace hv := hide hv
    clear i0 i1 i2 i3 i4 m0 m1 m2 m3 m4 m5
    clear ga
    go_wp2_with fail
    refine (unhide CM _ _ (unhide hv)).mono ?_
    rintro e wb ⟨rfl, hwb⟩
    subst hwb
    go_wp2_with fail
    refine (ps_hand (unhide Sa) MR hml).mono ?_
    rintro e wd ⟨rfl, Sd⟩
    replace Sd := hide Sd
    clear hv Sa
    go_wp2_with fail
    go_end0
    exact ⟨rfl, unhide FIN _ _ (unhide Sd)⟩
set_option maxHeartbeats 2000000 in
theorem pass_25 {W0 w : World} {b : Nat} {k : Kn} (H : PsC W0 w b) (h : KnAt w b k) (m : Md) (so : Option Addr) (sc : Nat) (go : Option Addr) (gc : Nat) (co : Option Addr) (cc : Nat) (ao : Option Addr) (ac : Nat) (fo : Option Addr) (fc : Nat) (hM : ModR W0 m so sc go gc co cc ao ac fo fc) (hn : m.ca.length ≤ 1000000) (A B C D : Int) (hi : oIn ⟨(25 : Int), A, B, C, D⟩) :
    Calls Tryd.prog 51 #[.pointer (some ⟨b, 0, none⟩), agM m so sc go gc co cc ao ac fo fc, agI ⟨(25 : Int), A, B, C, D⟩] w fun e w' => e = .returned (.tuple #[]) ∧ KnAt w' b (k.pass m ⟨(25 : Int), A, B, C, D⟩) ∧ TrD w w' (· = b) := by
  have EK : k.pass m ⟨(25 : Int), A, B, C, D⟩ = ⟨((k.point (25 : Int)).begin A true).y, ((k.point (25 : Int)).begin A true).o ||| bitP A, ((k.point (25 : Int)).begin A true).ws⟩ := by simp [Kn.pass]
  rw [EK]
  clear EK
  have oA := hi.2.1
  have oB := hi.2.2.1
  have oC := hi.2.2.2.1
  have hb0 := h.lt
  have okp := h.ok.point (25 : Int)
  have CP : Hid (∀ x, G W0 x → Calls Tryd.prog 17 #[.int .i64 (25 : Int)] x fun e w' => e = .returned (.bool (rwOf (25 : Int)).pt) ∧ G x w') := hide fun x g => point_any x (25 : Int) (H.r.g g)
  have hkp : k.point (25 : Int) = if (rwOf (25 : Int)).pt then ⟨0, k.o, k.ws⟩ else k := rfl
  generalize k.point (25 : Int) = k1 at hkp okp ⊢
  generalize (rwOf (25 : Int)).pt = pt at CP hkp
  have CBt : Hid (∀ w2 : World, Calls Tryd.prog 19 #[.int .i64 A] w2 fun e w' => e = .returned (.int .u64 (bitP A : Int)) ∧ w' = w2) := hide fun w2 => bit_any w2 A oA
  have hbA := bitP_lt A
  generalize bitP A = BA at CBt hbA ⊢
  obtain ⟨k2, hk2⟩ : ∃ k2, k1.begin A true = k2 := ⟨_, rfl⟩
  rw [hk2]
  replace hk2 := hide hk2
  unfold agM agI at *
  simp only at *
  replace hM := hide hM
  replace hi := hide hi
  replace hn := hide hn
  go_enter Tryd.func51, Tryd.ntmps51
  go_wp2_with fail
  refine (unhide CP _ ((H.g.more _).more _)).mono ?_
  rintro e X ⟨rfl, gX⟩
  have gw : G w X := ((G.refl w).more _).more _ |>.trans gX
  have BX := hide (boxes w _ _ _ _ X gX)
  have HX : PsC W0 X b := ⟨H.g.trans gw, H.lo, H.t, H.r, H.two⟩
  have kX := h.g gw
  have c0 := kX.y
  have f0 := kX.fro 0 (by decide)
  have hp1 : Hid (∀ x, pt = true → G (X.setCell ⟨b, 0, none⟩ (.int .u64 0)) x → PS X x b k1) := hide fun x e g => by rw [hkp, if_pos e]; exact kt_g ⟨kX.setY 0 (by decide), (TrD.refl X _).set b _ _ (Or.inl rfl)⟩ g
  have hp2 : Hid (pt = false → PS X X b k1) := hide fun e => by rw [hkp, if_neg (by simp [e])]; exact ⟨kX, TrD.refl _ _⟩
  replace hkp := hide hkp
  replace kX := hide kX
  replace h := hide h
  replace H := hide H
  replace HX := hide HX
  replace gw := hide gw
  replace gX := hide gX
  replace okp := hide okp
  clear CP
  have NX : Hid (∀ x kk, PS X x b kk → PS X x b kk ∧ (∀ (i : Nat) (v : Value), (#[.int .i64 (25 : Int), .int .i64 A, .int .i64 B, .int .i64 C, .int .i64 D] : Array Value)[i]? = some v → x.cell? ⟨w.heap.size + 1, i, none⟩ = some v) ∧ (∀ (i : Nat) (v : Value), (#[.slice so m.sh.length sc, .slice go m.gl.length gc, .slice co m.co.length cc, .slice ao m.ca.length ac, .slice fo m.fn.length fc, .int .i64 m.main] : Array Value)[i]? = some v → x.cell? ⟨w.heap.size, i, none⟩ = some v)) := hide fun x kk s => ⟨s, fun i v hv => s.2.cell ((unhide BX).2 i v hv) (show ¬ w.heap.size + 1 = b by omega), fun i v hv => s.2.cell ((unhide BX).1 i v hv) (show ¬ w.heap.size = b by omega)⟩
  have FIN : Hid (∀ x kk, PS X x b kk → KnAt x b kk ∧ TrD w x (· = b)) := hide fun x kk s => ⟨s.1, (TrD.of_G _ (unhide gw)).trans s.2⟩
  replace hb0 := hide hb0
  cases pt
  · have S0 := unhide hp2 rfl
    clear hp1 hp2 c0 f0
    obtain ⟨_, ci, cm⟩ := unhide NX _ _ S0
    have i0 := ci 0 _ rfl
    have i1 := ci 1 _ rfl
    have i2 := ci 2 _ rfl
    have i3 := ci 3 _ rfl
    have i4 := ci 4 _ rfl
    have m0 := cm 0 _ rfl
    have m1 := cm 1 _ rfl
    have m2 := cm 2 _ rfl
    have m3 := cm 3 _ rfl
    have m4 := cm 4 _ rfl
    have m5 := cm 5 _ rfl
    clear ci cm
    replace S0 := hide S0
    go_wp2_with fail
    refine (ps_begin (unhide HX) (unhide S0) A true oA).mono ?_
    rintro e wa ⟨rfl, Sa⟩
    replace Sa := hide Sa
    clear i0 i1 i2 i3 i4 m0 m1 m2 m3 m4 m5
    obtain ⟨_, ci, cm⟩ := unhide NX _ _ (unhide Sa)
    have i0 := ci 0 _ rfl
    have i1 := ci 1 _ rfl
    have i2 := ci 2 _ rfl
    have i3 := ci 3 _ rfl
    have i4 := ci 4 _ rfl
    have m0 := cm 0 _ rfl
    have m1 := cm 1 _ rfl
    have m2 := cm 2 _ rfl
    have m3 := cm 3 _ rfl
    have m4 := cm 4 _ rfl
    have m5 := cm 5 _ rfl
    clear ci cm
    rw [unhide hk2] at Sa
    have co := (unhide Sa).1.o
    have f1 := (unhide Sa).1.fro 1 (by decide)
    have hor := bits_or_u64_nat _ _ (unhide Sa).1.ok.o hbA
    have K : Hid (∀ x, G (wa.setCell ⟨b, 1, none⟩ (.int .u64 ((k2.o ||| BA : Nat) : Int))) x → PS X x b ⟨k2.y, k2.o ||| BA, k2.ws⟩) := hide fun x g => ps_g ⟨(unhide Sa).1.setO _ (or_lt (unhide Sa).1.ok.o hbA), (unhide Sa).2.set b _ _ (Or.inl rfl)⟩ g
    clear Sa S0
    go_wp2_with fail
    go_region_with (refine (unhide CBt _).mono ?_; rintro e w3 ⟨rfl, rfl⟩)
    all_goals
      go_wp2_with fail
      go_end0
      first | exact ⟨rfl, unhide FIN _ _ (unhide K _ (G.refl _))⟩ | exact ⟨rfl, unhide FIN _ _ (unhide K _ (G.refl _).drew)⟩ | exact ⟨rfl, unhide FIN _ _ (unhide K _ (G.refl _).drew.drew)⟩
  · have S0 := unhide hp1 _ rfl (G.refl _)
    obtain ⟨Y, hY⟩ : ∃ Y, Y = X.setCell ⟨b, 0, none⟩ (.int .u64 0) := ⟨_, rfl⟩
    go_upto_region 3 with fail
    rw [← hY] at S0 ⊢
    clear hY
    clear hp1 hp2 c0 f0
    obtain ⟨_, ci, cm⟩ := unhide NX _ _ S0
    have i0 := ci 0 _ rfl
    have i1 := ci 1 _ rfl
    have i2 := ci 2 _ rfl
    have i3 := ci 3 _ rfl
    have i4 := ci 4 _ rfl
    have m0 := cm 0 _ rfl
    have m1 := cm 1 _ rfl
    have m2 := cm 2 _ rfl
    have m3 := cm 3 _ rfl
    have m4 := cm 4 _ rfl
    have m5 := cm 5 _ rfl
    clear ci cm
    replace S0 := hide S0
    go_wp2_with fail
    refine (ps_begin (unhide HX) (unhide S0) A true oA).mono ?_
    rintro e wa ⟨rfl, Sa⟩
    replace Sa := hide Sa
    clear i0 i1 i2 i3 i4 m0 m1 m2 m3 m4 m5
    obtain ⟨_, ci, cm⟩ := unhide NX _ _ (unhide Sa)
    have i0 := ci 0 _ rfl
    have i1 := ci 1 _ rfl
    have i2 := ci 2 _ rfl
    have i3 := ci 3 _ rfl
    have i4 := ci 4 _ rfl
    have m0 := cm 0 _ rfl
    have m1 := cm 1 _ rfl
    have m2 := cm 2 _ rfl
    have m3 := cm 3 _ rfl
    have m4 := cm 4 _ rfl
    have m5 := cm 5 _ rfl
    clear ci cm
    rw [unhide hk2] at Sa
    have co := (unhide Sa).1.o
    have f1 := (unhide Sa).1.fro 1 (by decide)
    have hor := bits_or_u64_nat _ _ (unhide Sa).1.ok.o hbA
    have K : Hid (∀ x, G (wa.setCell ⟨b, 1, none⟩ (.int .u64 ((k2.o ||| BA : Nat) : Int))) x → PS X x b ⟨k2.y, k2.o ||| BA, k2.ws⟩) := hide fun x g => ps_g ⟨(unhide Sa).1.setO _ (or_lt (unhide Sa).1.ok.o hbA), (unhide Sa).2.set b _ _ (Or.inl rfl)⟩ g
    clear Sa S0
    go_wp2_with fail
    go_region_with (refine (unhide CBt _).mono ?_; rintro e w3 ⟨rfl, rfl⟩)
    all_goals
      go_wp2_with fail
      go_end0
      first | exact ⟨rfl, unhide FIN _ _ (unhide K _ (G.refl _))⟩ | exact ⟨rfl, unhide FIN _ _ (unhide K _ (G.refl _).drew)⟩ | exact ⟨rfl, unhide FIN _ _ (unhide K _ (G.refl _).drew.drew)⟩
set_option maxHeartbeats 2000000 in
theorem pass_26 {W0 w : World} {b : Nat} {k : Kn} (H : PsC W0 w b) (h : KnAt w b k) (m : Md) (so : Option Addr) (sc : Nat) (go : Option Addr) (gc : Nat) (co : Option Addr) (cc : Nat) (ao : Option Addr) (ac : Nat) (fo : Option Addr) (fc : Nat) (hM : ModR W0 m so sc go gc co cc ao ac fo fc) (hn : m.ca.length ≤ 1000000) (A B C D : Int) (hi : oIn ⟨(26 : Int), A, B, C, D⟩) :
    Calls Tryd.prog 51 #[.pointer (some ⟨b, 0, none⟩), agM m so sc go gc co cc ao ac fo fc, agI ⟨(26 : Int), A, B, C, D⟩] w fun e w' => e = .returned (.tuple #[]) ∧ KnAt w' b (k.pass m ⟨(26 : Int), A, B, C, D⟩) ∧ TrD w w' (· = b) := by
  have EK : k.pass m ⟨(26 : Int), A, B, C, D⟩ = ⟨((k.point (26 : Int)).begin A true).y, ((k.point (26 : Int)).begin A true).o ||| bitP A, ((k.point (26 : Int)).begin A true).ws⟩ := by simp [Kn.pass]
  rw [EK]
  clear EK
  have oA := hi.2.1
  have oB := hi.2.2.1
  have oC := hi.2.2.2.1
  have hb0 := h.lt
  have okp := h.ok.point (26 : Int)
  have CP : Hid (∀ x, G W0 x → Calls Tryd.prog 17 #[.int .i64 (26 : Int)] x fun e w' => e = .returned (.bool (rwOf (26 : Int)).pt) ∧ G x w') := hide fun x g => point_any x (26 : Int) (H.r.g g)
  have hkp : k.point (26 : Int) = if (rwOf (26 : Int)).pt then ⟨0, k.o, k.ws⟩ else k := rfl
  generalize k.point (26 : Int) = k1 at hkp okp ⊢
  generalize (rwOf (26 : Int)).pt = pt at CP hkp
  have CBt : Hid (∀ w2 : World, Calls Tryd.prog 19 #[.int .i64 A] w2 fun e w' => e = .returned (.int .u64 (bitP A : Int)) ∧ w' = w2) := hide fun w2 => bit_any w2 A oA
  have hbA := bitP_lt A
  generalize bitP A = BA at CBt hbA ⊢
  obtain ⟨k2, hk2⟩ : ∃ k2, k1.begin A true = k2 := ⟨_, rfl⟩
  rw [hk2]
  replace hk2 := hide hk2
  unfold agM agI at *
  simp only at *
  replace hM := hide hM
  replace hi := hide hi
  replace hn := hide hn
  go_enter Tryd.func51, Tryd.ntmps51
  go_wp2_with fail
  refine (unhide CP _ ((H.g.more _).more _)).mono ?_
  rintro e X ⟨rfl, gX⟩
  have gw : G w X := ((G.refl w).more _).more _ |>.trans gX
  have BX := hide (boxes w _ _ _ _ X gX)
  have HX : PsC W0 X b := ⟨H.g.trans gw, H.lo, H.t, H.r, H.two⟩
  have kX := h.g gw
  have c0 := kX.y
  have f0 := kX.fro 0 (by decide)
  have hp1 : Hid (∀ x, pt = true → G (X.setCell ⟨b, 0, none⟩ (.int .u64 0)) x → PS X x b k1) := hide fun x e g => by rw [hkp, if_pos e]; exact kt_g ⟨kX.setY 0 (by decide), (TrD.refl X _).set b _ _ (Or.inl rfl)⟩ g
  have hp2 : Hid (pt = false → PS X X b k1) := hide fun e => by rw [hkp, if_neg (by simp [e])]; exact ⟨kX, TrD.refl _ _⟩
  replace hkp := hide hkp
  replace kX := hide kX
  replace h := hide h
  replace H := hide H
  replace HX := hide HX
  replace gw := hide gw
  replace gX := hide gX
  replace okp := hide okp
  clear CP
  have NX : Hid (∀ x kk, PS X x b kk → PS X x b kk ∧ (∀ (i : Nat) (v : Value), (#[.int .i64 (26 : Int), .int .i64 A, .int .i64 B, .int .i64 C, .int .i64 D] : Array Value)[i]? = some v → x.cell? ⟨w.heap.size + 1, i, none⟩ = some v) ∧ (∀ (i : Nat) (v : Value), (#[.slice so m.sh.length sc, .slice go m.gl.length gc, .slice co m.co.length cc, .slice ao m.ca.length ac, .slice fo m.fn.length fc, .int .i64 m.main] : Array Value)[i]? = some v → x.cell? ⟨w.heap.size, i, none⟩ = some v)) := hide fun x kk s => ⟨s, fun i v hv => s.2.cell ((unhide BX).2 i v hv) (show ¬ w.heap.size + 1 = b by omega), fun i v hv => s.2.cell ((unhide BX).1 i v hv) (show ¬ w.heap.size = b by omega)⟩
  have FIN : Hid (∀ x kk, PS X x b kk → KnAt x b kk ∧ TrD w x (· = b)) := hide fun x kk s => ⟨s.1, (TrD.of_G _ (unhide gw)).trans s.2⟩
  replace hb0 := hide hb0
  cases pt
  · have S0 := unhide hp2 rfl
    clear hp1 hp2 c0 f0
    obtain ⟨_, ci, cm⟩ := unhide NX _ _ S0
    have i0 := ci 0 _ rfl
    have i1 := ci 1 _ rfl
    have i2 := ci 2 _ rfl
    have i3 := ci 3 _ rfl
    have i4 := ci 4 _ rfl
    have m0 := cm 0 _ rfl
    have m1 := cm 1 _ rfl
    have m2 := cm 2 _ rfl
    have m3 := cm 3 _ rfl
    have m4 := cm 4 _ rfl
    have m5 := cm 5 _ rfl
    clear ci cm
    replace S0 := hide S0
    go_wp2_with fail
    refine (ps_begin (unhide HX) (unhide S0) A true oA).mono ?_
    rintro e wa ⟨rfl, Sa⟩
    replace Sa := hide Sa
    clear i0 i1 i2 i3 i4 m0 m1 m2 m3 m4 m5
    obtain ⟨_, ci, cm⟩ := unhide NX _ _ (unhide Sa)
    have i0 := ci 0 _ rfl
    have i1 := ci 1 _ rfl
    have i2 := ci 2 _ rfl
    have i3 := ci 3 _ rfl
    have i4 := ci 4 _ rfl
    have m0 := cm 0 _ rfl
    have m1 := cm 1 _ rfl
    have m2 := cm 2 _ rfl
    have m3 := cm 3 _ rfl
    have m4 := cm 4 _ rfl
    have m5 := cm 5 _ rfl
    clear ci cm
    rw [unhide hk2] at Sa
    have co := (unhide Sa).1.o
    have f1 := (unhide Sa).1.fro 1 (by decide)
    have hor := bits_or_u64_nat _ _ (unhide Sa).1.ok.o hbA
    have K : Hid (∀ x, G (wa.setCell ⟨b, 1, none⟩ (.int .u64 ((k2.o ||| BA : Nat) : Int))) x → PS X x b ⟨k2.y, k2.o ||| BA, k2.ws⟩) := hide fun x g => ps_g ⟨(unhide Sa).1.setO _ (or_lt (unhide Sa).1.ok.o hbA), (unhide Sa).2.set b _ _ (Or.inl rfl)⟩ g
    clear Sa S0
    go_wp2_with fail
    go_region_with (refine (unhide CBt _).mono ?_; rintro e w3 ⟨rfl, rfl⟩)
    all_goals
      go_wp2_with fail
      go_end0
      first | exact ⟨rfl, unhide FIN _ _ (unhide K _ (G.refl _))⟩ | exact ⟨rfl, unhide FIN _ _ (unhide K _ (G.refl _).drew)⟩ | exact ⟨rfl, unhide FIN _ _ (unhide K _ (G.refl _).drew.drew)⟩
  · have S0 := unhide hp1 _ rfl (G.refl _)
    obtain ⟨Y, hY⟩ : ∃ Y, Y = X.setCell ⟨b, 0, none⟩ (.int .u64 0) := ⟨_, rfl⟩
    go_upto_region 3 with fail
    rw [← hY] at S0 ⊢
    clear hY
    clear hp1 hp2 c0 f0
    obtain ⟨_, ci, cm⟩ := unhide NX _ _ S0
    have i0 := ci 0 _ rfl
    have i1 := ci 1 _ rfl
    have i2 := ci 2 _ rfl
    have i3 := ci 3 _ rfl
    have i4 := ci 4 _ rfl
    have m0 := cm 0 _ rfl
    have m1 := cm 1 _ rfl
    have m2 := cm 2 _ rfl
    have m3 := cm 3 _ rfl
    have m4 := cm 4 _ rfl
    have m5 := cm 5 _ rfl
    clear ci cm
    replace S0 := hide S0
    go_wp2_with fail
    refine (ps_begin (unhide HX) (unhide S0) A true oA).mono ?_
    rintro e wa ⟨rfl, Sa⟩
    replace Sa := hide Sa
    clear i0 i1 i2 i3 i4 m0 m1 m2 m3 m4 m5
    obtain ⟨_, ci, cm⟩ := unhide NX _ _ (unhide Sa)
    have i0 := ci 0 _ rfl
    have i1 := ci 1 _ rfl
    have i2 := ci 2 _ rfl
    have i3 := ci 3 _ rfl
    have i4 := ci 4 _ rfl
    have m0 := cm 0 _ rfl
    have m1 := cm 1 _ rfl
    have m2 := cm 2 _ rfl
    have m3 := cm 3 _ rfl
    have m4 := cm 4 _ rfl
    have m5 := cm 5 _ rfl
    clear ci cm
    rw [unhide hk2] at Sa
    have co := (unhide Sa).1.o
    have f1 := (unhide Sa).1.fro 1 (by decide)
    have hor := bits_or_u64_nat _ _ (unhide Sa).1.ok.o hbA
    have K : Hid (∀ x, G (wa.setCell ⟨b, 1, none⟩ (.int .u64 ((k2.o ||| BA : Nat) : Int))) x → PS X x b ⟨k2.y, k2.o ||| BA, k2.ws⟩) := hide fun x g => ps_g ⟨(unhide Sa).1.setO _ (or_lt (unhide Sa).1.ok.o hbA), (unhide Sa).2.set b _ _ (Or.inl rfl)⟩ g
    clear Sa S0
    go_wp2_with fail
    go_region_with (refine (unhide CBt _).mono ?_; rintro e w3 ⟨rfl, rfl⟩)
    all_goals
      go_wp2_with fail
      go_end0
      first | exact ⟨rfl, unhide FIN _ _ (unhide K _ (G.refl _))⟩ | exact ⟨rfl, unhide FIN _ _ (unhide K _ (G.refl _).drew)⟩ | exact ⟨rfl, unhide FIN _ _ (unhide K _ (G.refl _).drew.drew)⟩
set_option maxHeartbeats 2000000 in
theorem pass_37 {W0 w : World} {b : Nat} {k : Kn} (H : PsC W0 w b) (h : KnAt w b k) (m : Md) (so : Option Addr) (sc : Nat) (go : Option Addr) (gc : Nat) (co : Option Addr) (cc : Nat) (ao : Option Addr) (ac : Nat) (fo : Option Addr) (fc : Nat) (hM : ModR W0 m so sc go gc co cc ao ac fo fc) (hn : m.ca.length ≤ 1000000) (A B C D : Int) (hi : oIn ⟨(37 : Int), A, B, C, D⟩) :
    Calls Tryd.prog 51 #[.pointer (some ⟨b, 0, none⟩), agM m so sc go gc co cc ao ac fo fc, agI ⟨(37 : Int), A, B, C, D⟩] w fun e w' => e = .returned (.tuple #[]) ∧ KnAt w' b (k.pass m ⟨(37 : Int), A, B, C, D⟩) ∧ TrD w w' (· = b) := by
  have EK : k.pass m ⟨(37 : Int), A, B, C, D⟩ = ⟨((k.point (37 : Int)).begin A true).y, ((k.point (37 : Int)).begin A true).o ||| bitP A, ((k.point (37 : Int)).begin A true).ws⟩ := by simp [Kn.pass]
  rw [EK]
  clear EK
  have oA := hi.2.1
  have oB := hi.2.2.1
  have oC := hi.2.2.2.1
  have hb0 := h.lt
  have okp := h.ok.point (37 : Int)
  have CP : Hid (∀ x, G W0 x → Calls Tryd.prog 17 #[.int .i64 (37 : Int)] x fun e w' => e = .returned (.bool (rwOf (37 : Int)).pt) ∧ G x w') := hide fun x g => point_any x (37 : Int) (H.r.g g)
  have hkp : k.point (37 : Int) = if (rwOf (37 : Int)).pt then ⟨0, k.o, k.ws⟩ else k := rfl
  generalize k.point (37 : Int) = k1 at hkp okp ⊢
  generalize (rwOf (37 : Int)).pt = pt at CP hkp
  have CBt : Hid (∀ w2 : World, Calls Tryd.prog 19 #[.int .i64 A] w2 fun e w' => e = .returned (.int .u64 (bitP A : Int)) ∧ w' = w2) := hide fun w2 => bit_any w2 A oA
  have hbA := bitP_lt A
  generalize bitP A = BA at CBt hbA ⊢
  obtain ⟨k2, hk2⟩ : ∃ k2, k1.begin A true = k2 := ⟨_, rfl⟩
  rw [hk2]
  replace hk2 := hide hk2
  unfold agM agI at *
  simp only at *
  replace hM := hide hM
  replace hi := hide hi
  replace hn := hide hn
  go_enter Tryd.func51, Tryd.ntmps51
  go_wp2_with fail
  refine (unhide CP _ ((H.g.more _).more _)).mono ?_
  rintro e X ⟨rfl, gX⟩
  have gw : G w X := ((G.refl w).more _).more _ |>.trans gX
  have BX := hide (boxes w _ _ _ _ X gX)
  have HX : PsC W0 X b := ⟨H.g.trans gw, H.lo, H.t, H.r, H.two⟩
  have kX := h.g gw
  have c0 := kX.y
  have f0 := kX.fro 0 (by decide)
  have hp1 : Hid (∀ x, pt = true → G (X.setCell ⟨b, 0, none⟩ (.int .u64 0)) x → PS X x b k1) := hide fun x e g => by rw [hkp, if_pos e]; exact kt_g ⟨kX.setY 0 (by decide), (TrD.refl X _).set b _ _ (Or.inl rfl)⟩ g
  have hp2 : Hid (pt = false → PS X X b k1) := hide fun e => by rw [hkp, if_neg (by simp [e])]; exact ⟨kX, TrD.refl _ _⟩
  replace hkp := hide hkp
  replace kX := hide kX
  replace h := hide h
  replace H := hide H
  replace HX := hide HX
  replace gw := hide gw
  replace gX := hide gX
  replace okp := hide okp
  clear CP
  have NX : Hid (∀ x kk, PS X x b kk → PS X x b kk ∧ (∀ (i : Nat) (v : Value), (#[.int .i64 (37 : Int), .int .i64 A, .int .i64 B, .int .i64 C, .int .i64 D] : Array Value)[i]? = some v → x.cell? ⟨w.heap.size + 1, i, none⟩ = some v) ∧ (∀ (i : Nat) (v : Value), (#[.slice so m.sh.length sc, .slice go m.gl.length gc, .slice co m.co.length cc, .slice ao m.ca.length ac, .slice fo m.fn.length fc, .int .i64 m.main] : Array Value)[i]? = some v → x.cell? ⟨w.heap.size, i, none⟩ = some v)) := hide fun x kk s => ⟨s, fun i v hv => s.2.cell ((unhide BX).2 i v hv) (show ¬ w.heap.size + 1 = b by omega), fun i v hv => s.2.cell ((unhide BX).1 i v hv) (show ¬ w.heap.size = b by omega)⟩
  have FIN : Hid (∀ x kk, PS X x b kk → KnAt x b kk ∧ TrD w x (· = b)) := hide fun x kk s => ⟨s.1, (TrD.of_G _ (unhide gw)).trans s.2⟩
  replace hb0 := hide hb0
  cases pt
  · have S0 := unhide hp2 rfl
    clear hp1 hp2 c0 f0
    obtain ⟨_, ci, cm⟩ := unhide NX _ _ S0
    have i0 := ci 0 _ rfl
    have i1 := ci 1 _ rfl
    have i2 := ci 2 _ rfl
    have i3 := ci 3 _ rfl
    have i4 := ci 4 _ rfl
    have m0 := cm 0 _ rfl
    have m1 := cm 1 _ rfl
    have m2 := cm 2 _ rfl
    have m3 := cm 3 _ rfl
    have m4 := cm 4 _ rfl
    have m5 := cm 5 _ rfl
    clear ci cm
    replace S0 := hide S0
    go_wp2_with fail
    refine (ps_begin (unhide HX) (unhide S0) A true oA).mono ?_
    rintro e wa ⟨rfl, Sa⟩
    replace Sa := hide Sa
    clear i0 i1 i2 i3 i4 m0 m1 m2 m3 m4 m5
    obtain ⟨_, ci, cm⟩ := unhide NX _ _ (unhide Sa)
    have i0 := ci 0 _ rfl
    have i1 := ci 1 _ rfl
    have i2 := ci 2 _ rfl
    have i3 := ci 3 _ rfl
    have i4 := ci 4 _ rfl
    have m0 := cm 0 _ rfl
    have m1 := cm 1 _ rfl
    have m2 := cm 2 _ rfl
    have m3 := cm 3 _ rfl
    have m4 := cm 4 _ rfl
    have m5 := cm 5 _ rfl
    clear ci cm
    rw [unhide hk2] at Sa
    have co := (unhide Sa).1.o
    have f1 := (unhide Sa).1.fro 1 (by decide)
    have hor := bits_or_u64_nat _ _ (unhide Sa).1.ok.o hbA
    have K : Hid (∀ x, G (wa.setCell ⟨b, 1, none⟩ (.int .u64 ((k2.o ||| BA : Nat) : Int))) x → PS X x b ⟨k2.y, k2.o ||| BA, k2.ws⟩) := hide fun x g => ps_g ⟨(unhide Sa).1.setO _ (or_lt (unhide Sa).1.ok.o hbA), (unhide Sa).2.set b _ _ (Or.inl rfl)⟩ g
    clear Sa S0
    go_wp2_with fail
    go_region_with (refine (unhide CBt _).mono ?_; rintro e w3 ⟨rfl, rfl⟩)
    all_goals
      go_wp2_with fail
      go_end0
      first | exact ⟨rfl, unhide FIN _ _ (unhide K _ (G.refl _))⟩ | exact ⟨rfl, unhide FIN _ _ (unhide K _ (G.refl _).drew)⟩ | exact ⟨rfl, unhide FIN _ _ (unhide K _ (G.refl _).drew.drew)⟩
  · have S0 := unhide hp1 _ rfl (G.refl _)
    obtain ⟨Y, hY⟩ : ∃ Y, Y = X.setCell ⟨b, 0, none⟩ (.int .u64 0) := ⟨_, rfl⟩
    go_upto_region 3 with fail
    rw [← hY] at S0 ⊢
    clear hY
    clear hp1 hp2 c0 f0
    obtain ⟨_, ci, cm⟩ := unhide NX _ _ S0
    have i0 := ci 0 _ rfl
    have i1 := ci 1 _ rfl
    have i2 := ci 2 _ rfl
    have i3 := ci 3 _ rfl
    have i4 := ci 4 _ rfl
    have m0 := cm 0 _ rfl
    have m1 := cm 1 _ rfl
    have m2 := cm 2 _ rfl
    have m3 := cm 3 _ rfl
    have m4 := cm 4 _ rfl
    have m5 := cm 5 _ rfl
    clear ci cm
    replace S0 := hide S0
    go_wp2_with fail
    refine (ps_begin (unhide HX) (unhide S0) A true oA).mono ?_
    rintro e wa ⟨rfl, Sa⟩
    replace Sa := hide Sa
    clear i0 i1 i2 i3 i4 m0 m1 m2 m3 m4 m5
    obtain ⟨_, ci, cm⟩ := unhide NX _ _ (unhide Sa)
    have i0 := ci 0 _ rfl
    have i1 := ci 1 _ rfl
    have i2 := ci 2 _ rfl
    have i3 := ci 3 _ rfl
    have i4 := ci 4 _ rfl
    have m0 := cm 0 _ rfl
    have m1 := cm 1 _ rfl
    have m2 := cm 2 _ rfl
    have m3 := cm 3 _ rfl
    have m4 := cm 4 _ rfl
    have m5 := cm 5 _ rfl
    clear ci cm
    rw [unhide hk2] at Sa
    have co := (unhide Sa).1.o
    have f1 := (unhide Sa).1.fro 1 (by decide)
    have hor := bits_or_u64_nat _ _ (unhide Sa).1.ok.o hbA
    have K : Hid (∀ x, G (wa.setCell ⟨b, 1, none⟩ (.int .u64 ((k2.o ||| BA : Nat) : Int))) x → PS X x b ⟨k2.y, k2.o ||| BA, k2.ws⟩) := hide fun x g => ps_g ⟨(unhide Sa).1.setO _ (or_lt (unhide Sa).1.ok.o hbA), (unhide Sa).2.set b _ _ (Or.inl rfl)⟩ g
    clear Sa S0
    go_wp2_with fail
    go_region_with (refine (unhide CBt _).mono ?_; rintro e w3 ⟨rfl, rfl⟩)
    all_goals
      go_wp2_with fail
      go_end0
      first | exact ⟨rfl, unhide FIN _ _ (unhide K _ (G.refl _))⟩ | exact ⟨rfl, unhide FIN _ _ (unhide K _ (G.refl _).drew)⟩ | exact ⟨rfl, unhide FIN _ _ (unhide K _ (G.refl _).drew.drew)⟩
end Go.Proofs.YtiangegoglfpeaaDoor
