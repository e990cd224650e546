/- pass: what hands out arguments. -/
import Derived.Test.YtiangegoglfpeaaDoorFrPs
namespace Go.Proofs.YtiangegoglfpeaaDoor
set_option maxRecDepth 100000
open Go.RowKit Go.Maps Go.ChangeShapes Go.WideShapes Go.ChangeAt Go.Deep

set_option maxHeartbeats 2000000 in
theorem pass_35 {W0 w : World} {b : Nat} {k : Kn} (H : PsC W0 w b) (h : KnAt w b k) (m : Md) (so : Option Addr) (sc : Nat) (go : Option Addr) (gc : Nat) (co : Option Addr) (cc : Nat) (ao : Option Addr) (ac : Nat) (fo : Option Addr) (fc : Nat) (hM : ModR W0 m so sc go gc co cc ao ac fo fc) (hn : m.ca.length ≤ 1000000) (A B C D : Int) (hi : oIn ⟨(35 : Int), A, B, C, D⟩) :
    Calls Tryd.prog 51 #[.pointer (some ⟨b, 0, none⟩), agM m so sc go gc co cc ao ac fo fc, agI ⟨(35 : Int), A, B, C, D⟩] w fun e w' => e = .returned (.tuple #[]) ∧ KnAt w' b (k.pass m ⟨(35 : Int), A, B, C, D⟩) ∧ TrD w w' (· = b) := by
  have EK : k.pass m ⟨(35 : Int), A, B, C, D⟩ = ((k.point (35 : Int)).hand (mskP (rdP m ⟨(35 : Int), A, B, C, D⟩))).forget (mskP (wrP ⟨(35 : Int), A, B, C, D⟩)) := by simp [Kn.pass]
  rw [EK]
  clear EK
  have oA := hi.2.1
  have oB := hi.2.2.1
  have oC := hi.2.2.2.1
  have hb0 := h.lt
  have okp := h.ok.point (35 : Int)
  have CP : Hid (∀ x, G W0 x → Calls Tryd.prog 17 #[.int .i64 (35 : Int)] x fun e w' => e = .returned (.bool (rwOf (35 : Int)).pt) ∧ G x w') := hide fun x g => point_any x (35 : Int) (H.r.g g)
  have hkp : k.point (35 : Int) = if (rwOf (35 : Int)).pt then ⟨0, k.o, k.ws⟩ else k := rfl
  generalize k.point (35 : Int) = k1 at hkp okp ⊢
  generalize (rwOf (35 : Int)).pt = pt at CP hkp
  have RO := rd_oi m ⟨(35 : Int), A, B, C, D⟩ hi (show (35 : Int) ≠ 41 by decide)
  have CR : Hid (∀ x, G W0 x → Calls Tryd.prog 63 #[agM m so sc go gc co cc ao ac fo fc, agI ⟨(35 : Int), A, B, C, D⟩] x (LTo x (rdP m ⟨(35 : Int), A, B, C, D⟩))) := hide fun x g => reads_any x m so sc go gc co cc ao ac fo fc (hM.g g) ⟨(35 : Int), A, B, C, D⟩ oA hn
  generalize rdP m ⟨(35 : Int), A, B, C, D⟩ = RL at RO CR ⊢
  have CM : Hid (∀ x v, IsL x v RL → Calls Tryd.prog 62 #[v] x fun e w' => e = .returned (.int .u64 (mskP RL : Int)) ∧ w' = x) := hide fun x v h => fslotMap_any x v RL h (by omega) RO.1
  have hml := msk_lt RL
  generalize mskP RL = MR at CM hml ⊢
  have WO := wr_oi ⟨(35 : Int), A, B, C, D⟩ hi
  have CW : Hid (∀ x, Calls Tryd.prog 65 #[agI ⟨(35 : Int), A, B, C, D⟩] x (LTo x (wrP ⟨(35 : Int), A, B, C, D⟩))) := hide fun x => writes_any x ⟨(35 : Int), A, B, C, D⟩
  generalize wrP ⟨(35 : Int), A, B, C, D⟩ = WL at WO CW ⊢
  have CN : Hid (∀ x v, IsL x v WL → Calls Tryd.prog 62 #[v] x fun e w' => e = .returned (.int .u64 (mskP WL : Int)) ∧ w' = x) := hide fun x v h => fslotMap_any x v WL h (by omega) WO.1
  have hnl := msk_lt WL
  generalize mskP WL = MW at CN hnl ⊢
  unfold agM agI at *
  simp only at *
  replace hM := hide hM
  replace hi := hide hi
  replace hn := hide hn
  go_enter Tryd.func51, Tryd.ntmps51
  go_wp2_with fail
  refine (unhide CP _ ((H.g.more _).more _)).mono ?_
  rintro e X ⟨rfl, gX⟩
  have gw : G w X := ((G.refl w).more _).more _ |>.trans gX
  have BX := hide (boxes w _ _ _ _ X gX)
  have HX : PsC W0 X b := ⟨H.g.trans gw, H.lo, H.t, H.r, H.two⟩
  have kX := h.g gw
  have c0 := kX.y
  have f0 := kX.fro 0 (by decide)
  have hp1 : Hid (∀ x, pt = true → G (X.setCell ⟨b, 0, none⟩ (.int .u64 0)) x → PS X x b k1) := hide fun x e g => by rw [hkp, if_pos e]; exact kt_g ⟨kX.setY 0 (by decide), (TrD.refl X _).set b _ _ (Or.inl rfl)⟩ g
  have hp2 : Hid (pt = false → PS X X b k1) := hide fun e => by rw [hkp, if_neg (by simp [e])]; exact ⟨kX, TrD.refl _ _⟩
  replace hkp := hide hkp
  replace kX := hide kX
  replace h := hide h
  replace H := hide H
  replace HX := hide HX
  replace gw := hide gw
  replace gX := hide gX
  replace okp := hide okp
  clear CP
  have NX : Hid (∀ x kk, PS X x b kk → PS X x b kk ∧ (∀ (i : Nat) (v : Value), (#[.int .i64 (35 : Int), .int .i64 A, .int .i64 B, .int .i64 C, .int .i64 D] : Array Value)[i]? = some v → x.cell? ⟨w.heap.size + 1, i, none⟩ = some v) ∧ (∀ (i : Nat) (v : Value), (#[.slice so m.sh.length sc, .slice go m.gl.length gc, .slice co m.co.length cc, .slice ao m.ca.length ac, .slice fo m.fn.length fc, .int .i64 m.main] : Array Value)[i]? = some v → x.cell? ⟨w.heap.size, i, none⟩ = some v)) := hide fun x kk s => ⟨s, fun i v hv => s.2.cell ((unhide BX).2 i v hv) (show ¬ w.heap.size + 1 = b by omega), fun i v hv => s.2.cell ((unhide BX).1 i v hv) (show ¬ w.heap.size = b by omega)⟩
  have FIN : Hid (∀ x kk, PS X x b kk → KnAt x b kk ∧ TrD w x (· = b)) := hide fun x kk s => ⟨s.1, (TrD.of_G _ (unhide gw)).trans s.2⟩
  replace hb0 := hide hb0
  cases pt
  · have S0 := unhide hp2 rfl
    clear hp1 hp2 c0 f0
    obtain ⟨_, ci, cm⟩ := unhide NX _ _ S0
    have i0 := ci 0 _ rfl
    have i1 := ci 1 _ rfl
    have i2 := ci 2 _ rfl
    have i3 := ci 3 _ rfl
    have i4 := ci 4 _ rfl
    have m0 := cm 0 _ rfl
    have m1 := cm 1 _ rfl
    have m2 := cm 2 _ rfl
    have m3 := cm 3 _ rfl
    have m4 := cm 4 _ rfl
    have m5 := cm 5 _ rfl
    clear ci cm
    replace S0 := hide S0
    go_wp2_with fail
    refine (unhide CR _ ((unhide HX).tr (unhide S0).2)).mono ?_
    rintro e wa ⟨v, rfl, hv, ga⟩
    have Sa := hide (ps_g (unhide S0) ga)
    replace hv := hide hv
    clear i0 i1 i2 i3 i4 m0 m1 m2 m3 m4 m5
    clear ga
    go_wp2_with fail
    refine (unhide CM _ _ (unhide hv)).mono ?_
    rintro e wb ⟨rfl, hwb⟩
    subst hwb
    go_wp2_with fail
    refine (ps_hand (unhide Sa) MR hml).mono ?_
    rintro e wd ⟨rfl, Sd⟩
    replace Sd := hide Sd
    clear hv Sa
    obtain ⟨_, ci, cm⟩ := unhide NX _ _ (unhide Sd)
    have i0 := ci 0 _ rfl
    have i1 := ci 1 _ rfl
    have i2 := ci 2 _ rfl
    have i3 := ci 3 _ rfl
    have i4 := ci 4 _ rfl
    have m0 := cm 0 _ rfl
    have m1 := cm 1 _ rfl
    have m2 := cm 2 _ rfl
    have m3 := cm 3 _ rfl
    have m4 := cm 4 _ rfl
    have m5 := cm 5 _ rfl
    clear ci cm
    go_wp2_with fail
    refine (unhide CW _).mono ?_
    rintro e we ⟨v, rfl, hv, ge⟩
    have Se := hide (ps_g (unhide Sd) ge)
    replace hv := hide hv
    clear i0 i1 i2 i3 i4 m0 m1 m2 m3 m4 m5
    clear ge
    go_wp2_with fail
    refine (unhide CN _ _ (unhide hv)).mono ?_
    rintro e wf ⟨rfl, hwf⟩
    subst hwf
    go_wp2_with fail
    refine (ps_forget (unhide HX) (unhide Se) MW hnl).mono ?_
    rintro e wg ⟨rfl, Sg⟩
    replace Sg := hide Sg
    clear hv Se
    go_wp2_with fail
    go_end0
    exact ⟨rfl, unhide FIN _ _ (unhide Sg)⟩
  · have S0 := unhide hp1 _ rfl (G.refl _)
    obtain ⟨Y, hY⟩ : ∃ Y, Y = X.setCell ⟨b, 0, none⟩ (.int .u64 0) := ⟨_, rfl⟩
    go_upto_region 3 with fail
    rw [← hY] at S0 ⊢
    clear hY
    clear hp1 hp2 c0 f0
    obtain ⟨_, ci, cm⟩ := unhide NX _ _ S0
    have i0 := ci 0 _ rfl
    have i1 := ci 1 _ rfl
    have i2 := ci 2 _ rfl
    have i3 := ci 3 _ rfl
    have i4 := ci 4 _ rfl
    have m0 := cm 0 _ rfl
    have m1 := cm 1 _ rfl
    have m2 := cm 2 _ rfl
    have m3 := cm 3 _ rfl
    have m4 := cm 4 _ rfl
    have m5 := cm 5 _ rfl
    clear ci cm
    replace S0 := hide S0
    go_wp2_with fail
    refine (unhide CR _ ((unhide HX).tr (unhide S0).2)).mono ?_
    rintro e wa ⟨v, rfl, hv, ga⟩
    have Sa := hide (ps_g (unhide S0) ga)
    replace hv := hide hv
    clear i0 i1 i2 i3 i4 m0 m1 m2 m3 m4 m5
    clear ga
    go_wp2_with fail
    refine (unhide CM _ _ (unhide hv)).mono ?_
    rintro e wb ⟨rfl, hwb⟩
    subst hwb
    go_wp2_with fail
    refine (ps_hand (unhide Sa) MR hml).mono ?_
    rintro e wd ⟨rfl, Sd⟩
    replace Sd := hide Sd
    clear hv Sa
    obtain ⟨_, ci, cm⟩ := unhide NX _ _ (unhide Sd)
    have i0 := ci 0 _ rfl
    have i1 := ci 1 _ rfl
    have i2 := ci 2 _ rfl
    have i3 := ci 3 _ rfl
    have i4 := ci 4 _ rfl
    have m0 := cm 0 _ rfl
    have m1 := cm 1 _ rfl
    have m2 := cm 2 _ rfl
    have m3 := cm 3 _ rfl
    have m4 := cm 4 _ rfl
    have m5 := cm 5 _ rfl
    clear ci cm
    go_wp2_with fail
    refine (unhide CW _).mono ?_
    rintro e we ⟨v, rfl, hv, ge⟩
    have Se := hide (ps_g (unhide Sd) ge)
    replace hv := hide hv
    clear i0 i1 i2 i3 i4 m0 m1 m2 m3 m4 m5
    clear ge
    go_wp2_with fail
    refine (unhide CN _ _ (unhide hv)).mono ?_
    rintro e wf ⟨rfl, hwf⟩
    subst hwf
    go_wp2_with fail
    refine (ps_forget (unhide HX) (unhide Se) MW hnl).mono ?_
    rintro e wg ⟨rfl, Sg⟩
    replace Sg := hide Sg
    clear hv Se
    go_wp2_with fail
    go_end0
    exact ⟨rfl, unhide FIN _ _ (unhide Sg)⟩
set_option maxHeartbeats 2000000 in
theorem pass_20 {W0 w : World} {b : Nat} {k : Kn} (H : PsC W0 w b) (h : KnAt w b k) (m : Md) (so : Option Addr) (sc : Nat) (go : Option Addr) (gc : Nat) (co : Option Addr) (cc : Nat) (ao : Option Addr) (ac : Nat) (fo : Option Addr) (fc : Nat) (hM : ModR W0 m so sc go gc co cc ao ac fo fc) (hn : m.ca.length ≤ 1000000) (A B C D : Int) (hi : oIn ⟨(20 : Int), A, B, C, D⟩) :
    Calls Tryd.prog 51 #[.pointer (some ⟨b, 0, none⟩), agM m so sc go gc co cc ao ac fo fc, agI ⟨(20 : Int), A, B, C, D⟩] w fun e w' => e = .returned (.tuple #[]) ∧ KnAt w' b (k.pass m ⟨(20 : Int), A, B, C, D⟩) ∧ TrD w w' (· = b) := by
  have EK : k.pass m ⟨(20 : Int), A, B, C, D⟩ = ((k.point (20 : Int)).hand (mskP (rdP m ⟨(20 : Int), A, B, C, D⟩))).forget (mskP (wrP ⟨(20 : Int), A, B, C, D⟩)) := by simp [Kn.pass]
  rw [EK]
  clear EK
  have oA := hi.2.1
  have oB := hi.2.2.1
  have oC := hi.2.2.2.1
  have hb0 := h.lt
  have okp := h.ok.point (20 : Int)
  have CP : Hid (∀ x, G W0 x → Calls Tryd.prog 17 #[.int .i64 (20 : Int)] x fun e w' => e = .returned (.bool (rwOf (20 : Int)).pt) ∧ G x w') := hide fun x g => point_any x (20 : Int) (H.r.g g)
  have hkp : k.point (20 : Int) = if (rwOf (20 : Int)).pt then ⟨0, k.o, k.ws⟩ else k := rfl
  generalize k.point (20 : Int) = k1 at hkp okp ⊢
  generalize (rwOf (20 : Int)).pt = pt at CP hkp
  have RO := rd_oi m ⟨(20 : Int), A, B, C, D⟩ hi (show (20 : Int) ≠ 41 by decide)
  have CR : Hid (∀ x, G W0 x → Calls Tryd.prog 63 #[agM m so sc go gc co cc ao ac fo fc, agI ⟨(20 : Int), A, B, C, D⟩] x (LTo x (rdP m ⟨(20 : Int), A, B, C, D⟩))) := hide fun x g => reads_any x m so sc go gc co cc ao ac fo fc (hM.g g) ⟨(20 : Int), A, B, C, D⟩ oA hn
  generalize rdP m ⟨(20 : Int), A, B, C, D⟩ = RL at RO CR ⊢
  have CM : Hid (∀ x v, IsL x v RL → Calls Tryd.prog 62 #[v] x fun e w' => e = .returned (.int .u64 (mskP RL : Int)) ∧ w' = x) := hide fun x v h => fslotMap_any x v RL h (by omega) RO.1
  have hml := msk_lt RL
  generalize mskP RL = MR at CM hml ⊢
  have WO := wr_oi ⟨(20 : Int), A, B, C, D⟩ hi
  have CW : Hid (∀ x, Calls Tryd.prog 65 #[agI ⟨(20 : Int), A, B, C, D⟩] x (LTo x (wrP ⟨(20 : Int), A, B, C, D⟩))) := hide fun x => writes_any x ⟨(20 : Int), A, B, C, D⟩
  generalize wrP ⟨(20 : Int), A, B, C, D⟩ = WL at WO CW ⊢
  have CN : Hid (∀ x v, IsL x v WL → Calls Tryd.prog 62 #[v] x fun e w' => e = .returned (.int .u64 (mskP WL : Int)) ∧ w' = x) := hide fun x v h => fslotMap_any x v WL h (by omega) WO.1
  have hnl := msk_lt WL
  generalize mskP WL = MW at CN hnl ⊢
  unfold agM agI at *
  simp only at *
  replace hM := hide hM
  replace hi := hide hi
  replace hn := hide hn
  go_enter Tryd.func51, Tryd.ntmps51
  go_wp2_with fail
  refine (unhide CP _ ((H.g.more _).more _)).mono ?_
  rintro e X ⟨rfl, gX⟩
  have gw : G w X := ((G.refl w).more _).more _ |>.trans gX
  have BX := hide (boxes w _ _ _ _ X gX)
  have HX : PsC W0 X b := ⟨H.g.trans gw, H.lo, H.t, H.r, H.two⟩
  have kX := h.g gw
  have c0 := kX.y
  have f0 := kX.fro 0 (by decide)
  have hp1 : Hid (∀ x, pt = true → G (X.setCell ⟨b, 0, none⟩ (.int .u64 0)) x → PS X x b k1) := hide fun x e g => by rw [hkp, if_pos e]; exact kt_g ⟨kX.setY 0 (by decide), (TrD.refl X _).set b _ _ (Or.inl rfl)⟩ g
  have hp2 : Hid (pt = false → PS X X b k1) := hide fun e => by rw [hkp, if_neg (by simp [e])]; exact ⟨kX, TrD.refl _ _⟩
  replace hkp := hide hkp
  replace kX := hide kX
  replace h := hide h
  replace H := hide H
  replace HX := hide HX
  replace gw := hide gw
  replace gX := hide gX
  replace okp := hide okp
  clear CP
  have NX : Hid (∀ x kk, PS X x b kk → PS X x b kk ∧ (∀ (i : Nat) (v : Value), (#[.int .i64 (20 : Int), .int .i64 A, .int .i64 B, .int .i64 C, .int .i64 D] : Array Value)[i]? = some v → x.cell? ⟨w.heap.size + 1, i, none⟩ = some v) ∧ (∀ (i : Nat) (v : Value), (#[.slice so m.sh.length sc, .slice go m.gl.length gc, .slice co m.co.length cc, .slice ao m.ca.length ac, .slice fo m.fn.length fc, .int .i64 m.main] : Array Value)[i]? = some v → x.cell? ⟨w.heap.size, i, none⟩ = some v)) := hide fun x kk s => ⟨s, fun i v hv => s.2.cell ((unhide BX).2 i v hv) (show ¬ w.heap.size + 1 = b by omega), fun i v hv => s.2.cell ((unhide BX).1 i v hv) (show ¬ w.heap.size = b by omega)⟩
  have FIN : Hid (∀ x kk, PS X x b kk → KnAt x b kk ∧ TrD w x (· = b)) := hide fun x kk s => ⟨s.1, (TrD.of_G _ (unhide gw)).trans s.2⟩
  replace hb0 := hide hb0
  cases pt
  · have S0 := unhide hp2 rfl
    clear hp1 hp2 c0 f0
    obtain ⟨_, ci, cm⟩ := unhide NX _ _ S0
    have i0 := ci 0 _ rfl
    have i1 := ci 1 _ rfl
    have i2 := ci 2 _ rfl
    have i3 := ci 3 _ rfl
    have i4 := ci 4 _ rfl
    have m0 := cm 0 _ rfl
    have m1 := cm 1 _ rfl
    have m2 := cm 2 _ rfl
    have m3 := cm 3 _ rfl
    have m4 := cm 4 _ rfl
    have m5 := cm 5 _ rfl
    clear ci cm
    replace S0 := hide S0
    go_wp2_with fail
    refine (unhide CR _ ((unhide HX).tr (unhide S0).2)).mono ?_
    rintro e wa ⟨v, rfl, hv, ga⟩
    have Sa := hide (ps_g (unhide S0) ga)
    replace hv := hide hv
    clear i0 i1 i2 i3 i4 m0 m1 m2 m3 m4 m5
    clear ga
    go_wp2_with fail
    refine (unhide CM _ _ (unhide hv)).mono ?_
    rintro e wb ⟨rfl, hwb⟩
    subst hwb
    go_wp2_with fail
    refine (ps_hand (unhide Sa) MR hml).mono ?_
    rintro e wd ⟨rfl, Sd⟩
    replace Sd := hide Sd
    clear hv Sa
    obtain ⟨_, ci, cm⟩ := unhide NX _ _ (unhide Sd)
    have i0 := ci 0 _ rfl
    have i1 := ci 1 _ rfl
    have i2 := ci 2 _ rfl
    have i3 := ci 3 _ rfl
    have i4 := ci 4 _ rfl
    have m0 := cm 0 _ rfl
    have m1 := cm 1 _ rfl
    have m2 := cm 2 _ rfl
    have m3 := cm 3 _ rfl
    have m4 := cm 4 _ rfl
    have m5 := cm 5 _ rfl
    clear ci cm
    go_wp2_with fail
    refine (unhide CW _).mono ?_
    rintro e we ⟨v, rfl, hv, ge⟩
    have Se := hide (ps_g (unhide Sd) ge)
    replace hv := hide hv
    clear i0 i1 i2 i3 i4 m0 m1 m2 m3 m4 m5
    clear ge
    go_wp2_with fail
    refine (unhide CN _ _ (unhide hv)).mono ?_
    rintro e wf ⟨rfl, hwf⟩
    subst hwf
    go_wp2_with fail
    refine (ps_forget (unhide HX) (unhide Se) MW hnl).mono ?_
    rintro e wg ⟨rfl, Sg⟩
    replace Sg := hide Sg
    clear hv Se
    go_wp2_with fail
    go_end0
    exact ⟨rfl, unhide FIN _ _ (unhide Sg)⟩
  · have S0 := unhide hp1 _ rfl (G.refl _)
    obtain ⟨Y, hY⟩ : ∃ Y, Y = X.setCell ⟨b, 0, none⟩ (.int .u64 0) := ⟨_, rfl⟩
    go_upto_region 3 with fail
    rw [← hY] at S0 ⊢
    clear hY
    clear hp1 hp2 c0 f0
    obtain ⟨_, ci, cm⟩ := unhide NX _ _ S0
    have i0 := ci 0 _ rfl
    have i1 := ci 1 _ rfl
    have i2 := ci 2 _ rfl
    have i3 := ci 3 _ rfl
    have i4 := ci 4 _ rfl
    have m0 := cm 0 _ rfl
    have m1 := cm 1 _ rfl
    have m2 := cm 2 _ rfl
    have m3 := cm 3 _ rfl
    have m4 := cm 4 _ rfl
    have m5 := cm 5 _ rfl
    clear ci cm
    replace S0 := hide S0
    go_wp2_with fail
    refine (unhide CR _ ((unhide HX).tr (unhide S0).2)).mono ?_
    rintro e wa ⟨v, rfl, hv, ga⟩
    have Sa := hide (ps_g (unhide S0) ga)
    replace hv := hide hv
    clear i0 i1 i2 i3 i4 m0 m1 m2 m3 m4 m5
    clear ga
    go_wp2_with fail
    refine (unhide CM _ _ (unhide hv)).mono ?_
    rintro e wb ⟨rfl, hwb⟩
    subst hwb
    go_wp2_with fail
    refine (ps_hand (unhide Sa) MR hml).mono ?_
    rintro e wd ⟨rfl, Sd⟩
    replace Sd := hide Sd
    clear hv Sa
    obtain ⟨_, ci, cm⟩ := unhide NX _ _ (unhide Sd)
    have i0 := ci 0 _ rfl
    have i1 := ci 1 _ rfl
    have i2 := ci 2 _ rfl
    have i3 := ci 3 _ rfl
    have i4 := ci 4 _ rfl
    have m0 := cm 0 _ rfl
    have m1 := cm 1 _ rfl
    have m2 := cm 2 _ rfl
    have m3 := cm 3 _ rfl
    have m4 := cm 4 _ rfl
    have m5 := cm 5 _ rfl
    clear ci cm
    go_wp2_with fail
    refine (unhide CW _).mono ?_
    rintro e we ⟨v, rfl, hv, ge⟩
    have Se := hide (ps_g (unhide Sd) ge)
    replace hv := hide hv
    clear i0 i1 i2 i3 i4 m0 m1 m2 m3 m4 m5
    clear ge
    go_wp2_with fail
    refine (unhide CN _ _ (unhide hv)).mono ?_
    rintro e wf ⟨rfl, hwf⟩
    subst hwf
    go_wp2_with fail
    refine (ps_forget (unhide HX) (unhide Se) MW hnl).mono ?_
    rintro e wg ⟨rfl, Sg⟩
    replace Sg := hide Sg
    clear hv Se
    go_wp2_with fail
    go_end0
    exact ⟨rfl, unhide FIN _ _ (unhide Sg)⟩
set_option maxHeartbeats 2000000 in
theorem pass_21 {W0 w : World} {b : Nat} {k : Kn} (H : PsC W0 w b) (h : KnAt w b k) (m : Md) (so : Option Addr) (sc : Nat) (go : Option Addr) (gc : Nat) (co : Option Addr) (cc : Nat) (ao : Option Addr) (ac : Nat) (fo : Option Addr) (fc : Nat) (hM : ModR W0 m so sc go gc co cc ao ac fo fc) (hn : m.ca.length ≤ 1000000) (A B C D : Int) (hi : oIn ⟨(21 : Int), A, B, C, D⟩) :
    Calls Tryd.prog 51 #[.pointer (some ⟨b, 0, none⟩), agM m so sc go gc co cc ao ac fo fc, agI ⟨(21 : Int), A, B, C, D⟩] w fun e w' => e = .returned (.tuple #[]) ∧ KnAt w' b (k.pass m ⟨(21 : Int), A, B, C, D⟩) ∧ TrD w w' (· = b) := by
  have EK : k.pass m ⟨(21 : Int), A, B, C, D⟩ = ((k.point (21 : Int)).hand (mskP (rdP m ⟨(21 : Int), A, B, C, D⟩))).forget (mskP (wrP ⟨(21 : Int), A, B, C, D⟩)) := by simp [Kn.pass]
  rw [EK]
  clear EK
  have oA := hi.2.1
  have oB := hi.2.2.1
  have oC := hi.2.2.2.1
  have hb0 := h.lt
  have okp := h.ok.point (21 : Int)
  have CP : Hid (∀ x, G W0 x → Calls Tryd.prog 17 #[.int .i64 (21 : Int)] x fun e w' => e = .returned (.bool (rwOf (21 : Int)).pt) ∧ G x w') := hide fun x g => point_any x (21 : Int) (H.r.g g)
  have hkp : k.point (21 : Int) = if (rwOf (21 : Int)).pt then ⟨0, k.o, k.ws⟩ else k := rfl
  generalize k.point (21 : Int) = k1 at hkp okp ⊢
  generalize (rwOf (21 : Int)).pt = pt at CP hkp
  have RO := rd_oi m ⟨(21 : Int), A, B, C, D⟩ hi (show (21 : Int) ≠ 41 by decide)
  have CR : Hid (∀ x, G W0 x → Calls Tryd.prog 63 #[agM m so sc go gc co cc ao ac fo fc, agI ⟨(21 : Int), A, B, C, D⟩] x (LTo x (rdP m ⟨(21 : Int), A, B, C, D⟩))) := hide fun x g => reads_any x m so sc go gc co cc ao ac fo fc (hM.g g) ⟨(21 : Int), A, B, C, D⟩ oA hn
  generalize rdP m ⟨(21 : Int), A, B, C, D⟩ = RL at RO CR ⊢
  have CM : Hid (∀ x v, IsL x v RL → Calls Tryd.prog 62 #[v] x fun e w' => e = .returned (.int .u64 (mskP RL : Int)) ∧ w' = x) := hide fun x v h => fslotMap_any x v RL h (by omega) RO.1
  have hml := msk_lt RL
  generalize mskP RL = MR at CM hml ⊢
  have WO := wr_oi ⟨(21 : Int), A, B, C, D⟩ hi
  have CW : Hid (∀ x, Calls Tryd.prog 65 #[agI ⟨(21 : Int), A, B, C, D⟩] x (LTo x (wrP ⟨(21 : Int), A, B, C, D⟩))) := hide fun x => writes_any x ⟨(21 : Int), A, B, C, D⟩
  generalize wrP ⟨(21 : Int), A, B, C, D⟩ = WL at WO CW ⊢
  have CN : Hid (∀ x v, IsL x v WL → Calls Tryd.prog 62 #[v] x fun e w' => e = .returned (.int .u64 (mskP WL : Int)) ∧ w' = x) := hide fun x v h => fslotMap_any x v WL h (by omega) WO.1
  have hnl := msk_lt WL
  generalize mskP WL = MW at CN hnl ⊢
  unfold agM agI at *
  simp only at *
  replace hM := hide hM
  replace hi := hide hi
  replace hn := hide hn
  go_enter Tryd.func51, Tryd.ntmps51
  go_wp2_with fail
  refine (unhide CP _ ((H.g.more _).more _)).mono ?_
  rintro e X ⟨rfl, gX⟩
  have gw : G w X := ((G.refl w).more _).more _ |>.trans gX
  have BX := hide (boxes w _ _ _ _ X gX)
  have HX : PsC W0 X b := ⟨H.g.trans gw, H.lo, H.t, H.r, H.two⟩
  have kX := h.g gw
  have c0 := kX.y
  have f0 := kX.fro 0 (by decide)
  have hp1 : Hid (∀ x, pt = true → G (X.setCell ⟨b, 0, none⟩ (.int .u64 0)) x → PS X x b k1) := hide fun x e g => by rw [hkp, if_pos e]; exact kt_g ⟨kX.setY 0 (by decide), (TrD.refl X _).set b _ _ (Or.inl rfl)⟩ g
  have hp2 : Hid (pt = false → PS X X b k1) := hide fun e => by rw [hkp, if_neg (by simp [e])]; exact ⟨kX, TrD.refl _ _⟩
  replace hkp := hide hkp
  replace kX := hide kX
  replace h := hide h
  replace H := hide H
  replace HX := hide HX
  replace gw := hide gw
  replace gX := hide gX
  replace okp := hide okp
  clear CP
  have NX : Hid (∀ x kk, PS X x b kk → PS X x b kk ∧ (∀ (i : Nat) (v : Value), (#[.int .i64 (21 : Int), .int .i64 A, .int .i64 B, .int .i64 C, .int .i64 D] : Array Value)[i]? = some v → x.cell? ⟨w.heap.size + 1, i, none⟩ = some v) ∧ (∀ (i : Nat) (v : Value), (#[.slice so m.sh.length sc, .slice go m.gl.length gc, .slice co m.co.length cc, .slice ao m.ca.length ac, .slice fo m.fn.length fc, .int .i64 m.main] : Array Value)[i]? = some v → x.cell? ⟨w.heap.size, i, none⟩ = some v)) := hide fun x kk s => ⟨s, fun i v hv => s.2.cell ((unhide BX).2 i v hv) (show ¬ w.heap.size + 1 = b by omega), fun i v hv => s.2.cell ((unhide BX).1 i v hv) (show ¬ w.heap.size = b by omega)⟩
  have FIN : Hid (∀ x kk, PS X x b kk → KnAt x b kk ∧ TrD w x (· = b)) := hide fun x kk s => ⟨s.1, (TrD.of_G _ (unhide gw)).trans s.2⟩
  replace hb0 := hide hb0
  cases pt
  · have S0 := unhide hp2 rfl
    clear hp1 hp2 c0 f0
    obtain ⟨_, ci, cm⟩ := unhide NX _ _ S0
    have i0 := ci 0 _ rfl
    have i1 := ci 1 _ rfl
    have i2 := ci 2 _ rfl
    have i3 := ci 3 _ rfl
    have i4 := ci 4 _ rfl
    have m0 := cm 0 _ rfl
    have m1 := cm 1 _ rfl
    have m2 := cm 2 _ rfl
    have m3 := cm 3 _ rfl
    have m4 := cm 4 _ rfl
    have m5 := cm 5 _ rfl
    clear ci cm
    replace S0 := hide S0
    go_wp2_with fail
    refine (unhide CR _ ((unhide HX).tr (unhide S0).2)).mono ?_
    rintro e wa ⟨v, rfl, hv, ga⟩
    have Sa := hide (ps_g (unhide S0) ga)
    replace hv := hide hv
    clear i0 i1 i2 i3 i4 m0 m1 m2 m3 m4 m5
    clear ga
    go_wp2_with fail
    refine (unhide CM _ _ (unhide hv)).mono ?_
    rintro e wb ⟨rfl, hwb⟩
    subst hwb
    go_wp2_with fail
    refine (ps_hand (unhide Sa) MR hml).mono ?_
    rintro e wd ⟨rfl, Sd⟩
    replace Sd := hide Sd
    clear hv Sa
    obtain ⟨_, ci, cm⟩ := unhide NX _ _ (unhide Sd)
    have i0 := ci 0 _ rfl
    have i1 := ci 1 _ rfl
    have i2 := ci 2 _ rfl
    have i3 := ci 3 _ rfl
    have i4 := ci 4 _ rfl
    have m0 := cm 0 _ rfl
    have m1 := cm 1 _ rfl
    have m2 := cm 2 _ rfl
    have m3 := cm 3 _ rfl
    have m4 := cm 4 _ rfl
    have m5 := cm 5 _ rfl
    clear ci cm
    go_wp2_with fail
    refine (unhide CW _).mono ?_
    rintro e we ⟨v, rfl, hv, ge⟩
    have Se := hide (ps_g (unhide Sd) ge)
    replace hv := hide hv
    clear i0 i1 i2 i3 i4 m0 m1 m2 m3 m4 m5
    clear ge
    go_wp2_with fail
    refine (unhide CN _ _ (unhide hv)).mono ?_
    rintro e wf ⟨rfl, hwf⟩
    subst hwf
    go_wp2_with fail
    refine (ps_forget (unhide HX) (unhide Se) MW hnl).mono ?_
    rintro e wg ⟨rfl, Sg⟩
    replace Sg := hide Sg
    clear hv Se
    go_wp2_with fail
    go_end0
    exact ⟨rfl, unhide FIN _ _ (unhide Sg)⟩
  · have S0 := unhide hp1 _ rfl (G.refl _)
    obtain ⟨Y, hY⟩ : ∃ Y, Y = X.setCell ⟨b, 0, none⟩ (.int .u64 0) := ⟨_, rfl⟩
    go_upto_region 3 with fail
    rw [← hY] at S0 ⊢
    clear hY
    clear hp1 hp2 c0 f0
    obtain ⟨_, ci, cm⟩ := unhide NX _ _ S0
    have i0 := ci 0 _ rfl
    have i1 := ci 1 _ rfl
    have i2 := ci 2 _ rfl
    have i3 := ci 3 _ rfl
    have i4 := ci 4 _ rfl
    have m0 := cm 0 _ rfl
    have m1 := cm 1 _ rfl
    have m2 := cm 2 _ rfl
    have m3 := cm 3 _ rfl
    have m4 := cm 4 _ rfl
    have m5 := cm 5 _ rfl
    clear ci cm
    replace S0 := hide S0
    go_wp2_with fail
    refine (unhide CR _ ((unhide HX).tr (unhide S0).2)).mono ?_
    rintro e wa ⟨v, rfl, hv, ga⟩
    have Sa := hide (ps_g (unhide S0) ga)
    replace hv := hide hv
    clear i0 i1 i2 i3 i4 m0 m1 m2 m3 m4 m5
    clear ga
    go_wp2_with fail
    refine (unhide CM _ _ (unhide hv)).mono ?_
    rintro e wb ⟨rfl, hwb⟩
    subst hwb
    go_wp2_with fail
    refine (ps_hand (unhide Sa) MR hml).mono ?_
    rintro e wd ⟨rfl, Sd⟩
    replace Sd := hide Sd
    clear hv Sa
    obtain ⟨_, ci, cm⟩ := unhide NX _ _ (unhide Sd)
    have i0 := ci 0 _ rfl
    have i1 := ci 1 _ rfl
    have i2 := ci 2 _ rfl
    have i3 := ci 3 _ rfl
    have i4 := ci 4 _ rfl
    have m0 := cm 0 _ rfl
    have m1 := cm 1 _ rfl
    have m2 := cm 2 _ rfl
    have m3 := cm 3 _ rfl
    have m4 := cm 4 _ rfl
    have m5 := cm 5 _ rfl
    clear ci cm
    go_wp2_with fail
    refine (unhide CW _).mono ?_
    rintro e we ⟨v, rfl, hv, ge⟩
    have Se := hide (ps_g (unhide Sd) ge)
    replace hv := hide hv
    clear i0 i1 i2 i3 i4 m0 m1 m2 m3 m4 m5
    clear ge
    go_wp2_with fail
    refine (unhide CN _ _ (unhide hv)).mono ?_
    rintro e wf ⟨rfl, hwf⟩
    subst hwf
    go_wp2_with fail
    refine (ps_forget (unhide HX) (unhide Se) MW hnl).mono ?_
    rintro e wg ⟨rfl, Sg⟩
    replace Sg := hide Sg
    clear hv Se
    go_wp2_with fail
    go_end0
    exact ⟨rfl, unhide FIN _ _ (unhide Sg)⟩
set_option maxHeartbeats 2000000 in
theorem pass_22 {W0 w : World} {b : Nat} {k : Kn} (H : PsC W0 w b) (h : KnAt w b k) (m : Md) (so : Option Addr) (sc : Nat) (go : Option Addr) (gc : Nat) (co : Option Addr) (cc : Nat) (ao : Option Addr) (ac : Nat) (fo : Option Addr) (fc : Nat) (hM : ModR W0 m so sc go gc co cc ao ac fo fc) (hn : m.ca.length ≤ 1000000) (A B C D : Int) (hi : oIn ⟨(22 : Int), A, B, C, D⟩) :
    Calls Tryd.prog 51 #[.pointer (some ⟨b, 0, none⟩), agM m so sc go gc co cc ao ac fo fc, agI ⟨(22 : Int), A, B, C, D⟩] w fun e w' => e = .returned (.tuple #[]) ∧ KnAt w' b (k.pass m ⟨(22 : Int), A, B, C, D⟩) ∧ TrD w w' (· = b) := by
  have EK : k.pass m ⟨(22 : Int), A, B, C, D⟩ = ((k.point (22 : Int)).hand (mskP (rdP m ⟨(22 : Int), A, B, C, D⟩))).forget (mskP (wrP ⟨(22 : Int), A, B, C, D⟩)) := by simp [Kn.pass]
  rw [EK]
  clear EK
  have oA := hi.2.1
  have oB := hi.2.2.1
  have oC := hi.2.2.2.1
  have hb0 := h.lt
  have okp := h.ok.point (22 : Int)
  have CP : Hid (∀ x, G W0 x → Calls Tryd.prog 17 #[.int .i64 (22 : Int)] x fun e w' => e = .returned (.bool (rwOf (22 : Int)).pt) ∧ G x w') := hide fun x g => point_any x (22 : Int) (H.r.g g)
  have hkp : k.point (22 : Int) = if (rwOf (22 : Int)).pt then ⟨0, k.o, k.ws⟩ else k := rfl
  generalize k.point (22 : Int) = k1 at hkp okp ⊢
  generalize (rwOf (22 : Int)).pt = pt at CP hkp
  have RO := rd_oi m ⟨(22 : Int), A, B, C, D⟩ hi (show (22 : Int) ≠ 41 by decide)
  have CR : Hid (∀ x, G W0 x → Calls Tryd.prog 63 #[agM m so sc go gc co cc ao ac fo fc, agI ⟨(22 : Int), A, B, C, D⟩] x (LTo x (rdP m ⟨(22 : Int), A, B, C, D⟩))) := hide fun x g => reads_any x m so sc go gc co cc ao ac fo fc (hM.g g) ⟨(22 : Int), A, B, C, D⟩ oA hn
  generalize rdP m ⟨(22 : Int), A, B, C, D⟩ = RL at RO CR ⊢
  have CM : Hid (∀ x v, IsL x v RL → Calls Tryd.prog 62 #[v] x fun e w' => e = .returned (.int .u64 (mskP RL : Int)) ∧ w' = x) := hide fun x v h => fslotMap_any x v RL h (by omega) RO.1
  have hml := msk_lt RL
  generalize mskP RL = MR at CM hml ⊢
  have WO := wr_oi ⟨(22 : Int), A, B, C, D⟩ hi
  have CW : Hid (∀ x, Calls Tryd.prog 65 #[agI ⟨(22 : Int), A, B, C, D⟩] x (LTo x (wrP ⟨(22 : Int), A, B, C, D⟩))) := hide fun x => writes_any x ⟨(22 : Int), A, B, C, D⟩
  generalize wrP ⟨(22 : Int), A, B, C, D⟩ = WL at WO CW ⊢
  have CN : Hid (∀ x v, IsL x v WL → Calls Tryd.prog 62 #[v] x fun e w' => e = .returned (.int .u64 (mskP WL : Int)) ∧ w' = x) := hide fun x v h => fslotMap_any x v WL h (by omega) WO.1
  have hnl := msk_lt WL
  generalize mskP WL = MW at CN hnl ⊢
  unfold agM agI at *
  simp only at *
  replace hM := hide hM
  replace hi := hide hi
  replace hn := hide hn
  go_enter Tryd.func51, Tryd.ntmps51
  go_wp2_with fail
  refine (unhide CP _ ((H.g.more _).more _)).mono ?_
  rintro e X ⟨rfl, gX⟩
  have gw : G w X := ((G.refl w).more _).more _ |>.trans gX
  have BX := hide (boxes w _ _ _ _ X gX)
  have HX : PsC W0 X b := ⟨H.g.trans gw, H.lo, H.t, H.r, H.two⟩
  have kX := h.g gw
  have c0 := kX.y
  have f0 := kX.fro 0 (by decide)
  have hp1 : Hid (∀ x, pt = true → G (X.setCell ⟨b, 0, none⟩ (.int .u64 0)) x → PS X x b k1) := hide fun x e g => by rw [hkp, if_pos e]; exact kt_g ⟨kX.setY 0 (by decide), (TrD.refl X _).set b _ _ (Or.inl rfl)⟩ g
  have hp2 : Hid (pt = false → PS X X b k1) := hide fun e => by rw [hkp, if_neg (by simp [e])]; exact ⟨kX, TrD.refl _ _⟩
  replace hkp := hide hkp
  replace kX := hide kX
  replace h := hide h
  replace H := hide H
  replace HX := hide HX
  replace gw := hide gw
  replace gX := hide gX
  replace okp := hide okp
  clear CP
  have NX : Hid (∀ x kk, PS X x b kk → PS X x b kk ∧ (∀ (i : Nat) (v : Value), (#[.int .i64 (22 : Int), .int .i64 A, .int .i64 B, .int .i64 C, .int .i64 D] : Array Value)[i]? = some v → x.cell? ⟨w.heap.size + 1, i, none⟩ = some v) ∧ (∀ (i : Nat) (v : Value), (#[.slice so m.sh.length sc, .slice go m.gl.length gc, .slice co m.co.length cc, .slice ao m.ca.length ac, .slice fo m.fn.length fc, .int .i64 m.main] : Array Value)[i]? = some v → x.cell? ⟨w.heap.size, i, none⟩ = some v)) := hide fun x kk s => ⟨s, fun i v hv => s.2.cell ((unhide BX).2 i v hv) (show ¬ w.heap.size + 1 = b by omega), fun i v hv => s.2.cell ((unhide BX).1 i v hv) (show ¬ w.heap.size = b by omega)⟩
  have FIN : Hid (∀ x kk, PS X x b kk → KnAt x b kk ∧ TrD w x (· = b)) := hide fun x kk s => ⟨s.1, (TrD.of_G _ (unhide gw)).trans s.2⟩
  replace hb0 := hide hb0
  cases pt
  · have S0 := unhide hp2 rfl
    clear hp1 hp2 c0 f0
    obtain ⟨_, ci, cm⟩ := unhide NX _ _ S0
    have i0 := ci 0 _ rfl
    have i1 := ci 1 _ rfl
    have i2 := ci 2 _ rfl
    have i3 := ci 3 _ rfl
    have i4 := ci 4 _ rfl
    have m0 := cm 0 _ rfl
    have m1 := cm 1 _ rfl
    have m2 := cm 2 _ rfl
    have m3 := cm 3 _ rfl
    have m4 := cm 4 _ rfl
    have m5 := cm 5 _ rfl
    clear ci cm
    replace S0 := hide S0
    go_wp2_with fail
    refine (unhide CR _ ((unhide HX).tr (unhide S0).2)).mono ?_
    rintro e wa ⟨v, rfl, hv, ga⟩
    have Sa := hide (ps_g (unhide S0) ga)
    replace hv := hide hv
    clear i0 i1 i2 i3 i4 m0 m1 m2 m3 m4 m5
    clear ga
    go_wp2_with fail
    refine (unhide CM _ _ (unhide hv)).mono ?_
    rintro e wb ⟨rfl, hwb⟩
    subst hwb
    go_wp2_with fail
    refine (ps_hand (unhide Sa) MR hml).mono ?_
    rintro e wd ⟨rfl, Sd⟩
    replace Sd := hide Sd
    clear hv Sa
    obtain ⟨_, ci, cm⟩ := unhide NX _ _ (unhide Sd)
    have i0 := ci 0 _ rfl
    have i1 := ci 1 _ rfl
    have i2 := ci 2 _ rfl
    have i3 := ci 3 _ rfl
    have i4 := ci 4 _ rfl
    have m0 := cm 0 _ rfl
    have m1 := cm 1 _ rfl
    have m2 := cm 2 _ rfl
    have m3 := cm 3 _ rfl
    have m4 := cm 4 _ rfl
    have m5 := cm 5 _ rfl
    clear ci cm
    go_wp2_with fail
    refine (unhide CW _).mono ?_
    rintro e we ⟨v, rfl, hv, ge⟩
    have Se := hide (ps_g (unhide Sd) ge)
    replace hv := hide hv
    clear i0 i1 i2 i3 i4 m0 m1 m2 m3 m4 m5
    clear ge
    go_wp2_with fail
    refine (unhide CN _ _ (unhide hv)).mono ?_
    rintro e wf ⟨rfl, hwf⟩
    subst hwf
    go_wp2_with fail
    refine (ps_forget (unhide HX) (unhide Se) MW hnl).mono ?_
    rintro e wg ⟨rfl, Sg⟩
    replace Sg := hide Sg
    clear hv Se
    go_wp2_with fail
    go_end0
    exact ⟨rfl, unhide FIN _ _ (unhide Sg)⟩
  · have S0 := unhide hp1 _ rfl (G.refl _)
    obtain ⟨Y, hY⟩ : ∃ Y, Y = X.setCell ⟨b, 0, none⟩ (.int .u64 0) := ⟨_, rfl⟩
    go_upto_region 3 with fail
    rw [← hY] at S0 ⊢
    clear hY
    clear hp1 hp2 c0 f0
    obtain ⟨_, ci, cm⟩ := unhide NX _ _ S0
    have i0 := ci 0 _ rfl
    have i1 := ci 1 _ rfl
    have i2 := ci 2 _ rfl
    have i3 := ci 3 _ rfl
    have i4 := ci 4 _ rfl
    have m0 := cm 0 _ rfl
    have m1 := cm 1 _ rfl
    have m2 := cm 2 _ rfl
    have m3 := cm 3 _ rfl
    have m4 := cm 4 _ rfl
    have m5 := cm 5 _ rfl
    clear ci cm
    replace S0 := hide S0
    go_wp2_with fail
    refine (unhide CR _ ((unhide HX).tr (unhide S0).2)).mono ?_
    rintro e wa ⟨v, rfl, hv, ga⟩
    have Sa := hide (ps_g (unhide S0) ga)
    replace hv := hide hv
    clear i0 i1 i2 i3 i4 m0 m1 m2 m3 m4 m5
    clear ga
    go_wp2_with fail
    refine (unhide CM _ _ (unhide hv)).mono ?_
    rintro e wb ⟨rfl, hwb⟩
    subst hwb
    go_wp2_with fail
    refine (ps_hand (unhide Sa) MR hml).mono ?_
    rintro e wd ⟨rfl, Sd⟩
    replace Sd := hide Sd
    clear hv Sa
    obtain ⟨_, ci, cm⟩ := unhide NX _ _ (unhide Sd)
    have i0 := ci 0 _ rfl
    have i1 := ci 1 _ rfl
    have i2 := ci 2 _ rfl
    have i3 := ci 3 _ rfl
    have i4 := ci 4 _ rfl
    have m0 := cm 0 _ rfl
    have m1 := cm 1 _ rfl
    have m2 := cm 2 _ rfl
    have m3 := cm 3 _ rfl
    have m4 := cm 4 _ rfl
    have m5 := cm 5 _ rfl
    clear ci cm
    go_wp2_with fail
    refine (unhide CW _).mono ?_
    rintro e we ⟨v, rfl, hv, ge⟩
    have Se := hide (ps_g (unhide Sd) ge)
    replace hv := hide hv
    clear i0 i1 i2 i3 i4 m0 m1 m2 m3 m4 m5
    clear ge
    go_wp2_with fail
    refine (unhide CN _ _ (unhide hv)).mono ?_
    rintro e wf ⟨rfl, hwf⟩
    subst hwf
    go_wp2_with fail
    refine (ps_forget (unhide HX) (unhide Se) MW hnl).mono ?_
    rintro e wg ⟨rfl, Sg⟩
    replace Sg := hide Sg
    clear hv Se
    go_wp2_with fail
    go_end0
    exact ⟨rfl, unhide FIN _ _ (unhide Sg)⟩
set_option maxHeartbeats 2000000 in
theorem pass_23 {W0 w : World} {b : Nat} {k : Kn} (H : PsC W0 w b) (h : KnAt w b k) (m : Md) (so : Option Addr) (sc : Nat) (go : Option Addr) (gc : Nat) (co : Option Addr) (cc : Nat) (ao : Option Addr) (ac : Nat) (fo : Option Addr) (fc : Nat) (hM : ModR W0 m so sc go gc co cc ao ac fo fc) (hn : m.ca.length ≤ 1000000) (A B C D : Int) (hi : oIn ⟨(23 : Int), A, B, C, D⟩) :
    Calls Tryd.prog 51 #[.pointer (some ⟨b, 0, none⟩), agM m so sc go gc co cc ao ac fo fc, agI ⟨(23 : Int), A, B, C, D⟩] w fun e w' => e = .returned (.tuple #[]) ∧ KnAt w' b (k.pass m ⟨(23 : Int), A, B, C, D⟩) ∧ TrD w w' (· = b) := by
  have EK : k.pass m ⟨(23 : Int), A, B, C, D⟩ = ((k.point (23 : Int)).hand (mskP (rdP m ⟨(23 : Int), A, B, C, D⟩))).forget (mskP (wrP ⟨(23 : Int), A, B, C, D⟩)) := by simp [Kn.pass]
  rw [EK]
  clear EK
  have oA := hi.2.1
  have oB := hi.2.2.1
  have oC := hi.2.2.2.1
  have hb0 := h.lt
  have okp := h.ok.point (23 : Int)
  have CP : Hid (∀ x, G W0 x → Calls Tryd.prog 17 #[.int .i64 (23 : Int)] x fun e w' => e = .returned (.bool (rwOf (23 : Int)).pt) ∧ G x w') := hide fun x g => point_any x (23 : Int) (H.r.g g)
  have hkp : k.point (23 : Int) = if (rwOf (23 : Int)).pt then ⟨0, k.o, k.ws⟩ else k := rfl
  generalize k.point (23 : Int) = k1 at hkp okp ⊢
  generalize (rwOf (23 : Int)).pt = pt at CP hkp
  have RO := rd_oi m ⟨(23 : Int), A, B, C, D⟩ hi (show (23 : Int) ≠ 41 by decide)
  have CR : Hid (∀ x, G W0 x → Calls Tryd.prog 63 #[agM m so sc go gc co cc ao ac fo fc, agI ⟨(23 : Int), A, B, C, D⟩] x (LTo x (rdP m ⟨(23 : Int), A, B, C, D⟩))) := hide fun x g => reads_any x m so sc go gc co cc ao ac fo fc (hM.g g) ⟨(23 : Int), A, B, C, D⟩ oA hn
  generalize rdP m ⟨(23 : Int), A, B, C, D⟩ = RL at RO CR ⊢
  have CM : Hid (∀ x v, IsL x v RL → Calls Tryd.prog 62 #[v] x fun e w' => e = .returned (.int .u64 (mskP RL : Int)) ∧ w' = x) := hide fun x v h => fslotMap_any x v RL h (by omega) RO.1
  have hml := msk_lt RL
  generalize mskP RL = MR at CM hml ⊢
  have WO := wr_oi ⟨(23 : Int), A, B, C, D⟩ hi
  have CW : Hid (∀ x, Calls Tryd.prog 65 #[agI ⟨(23 : Int), A, B, C, D⟩] x (LTo x (wrP ⟨(23 : Int), A, B, C, D⟩))) := hide fun x => writes_any x ⟨(23 : Int), A, B, C, D⟩
  generalize wrP ⟨(23 : Int), A, B, C, D⟩ = WL at WO CW ⊢
  have CN : Hid (∀ x v, IsL x v WL → Calls Tryd.prog 62 #[v] x fun e w' => e = .returned (.int .u64 (mskP WL : Int)) ∧ w' = x) := hide fun x v h => fslotMap_any x v WL h (by omega) WO.1
  have hnl := msk_lt WL
  generalize mskP WL = MW at CN hnl ⊢
  unfold agM agI at *
  simp only at *
  replace hM := hide hM
  replace hi := hide hi
  replace hn := hide hn
  go_enter Tryd.func51, Tryd.ntmps51
  go_wp2_with fail
  refine (unhide CP _ ((H.g.more _).more _)).mono ?_
  rintro e X ⟨rfl, gX⟩
  have gw : G w X := ((G.refl w).more _).more _ |>.trans gX
  have BX := hide (boxes w _ _ _ _ X gX)
  have HX : PsC W0 X b := ⟨H.g.trans gw, H.lo, H.t, H.r, H.two⟩
  have kX := h.g gw
  have c0 := kX.y
  have f0 := kX.fro 0 (by decide)
  have hp1 : Hid (∀ x, pt = true → G (X.setCell ⟨b, 0, none⟩ (.int .u64 0)) x → PS X x b k1) := hide fun x e g => by rw [hkp, if_pos e]; exact kt_g ⟨kX.setY 0 (by decide), (TrD.refl X _).set b _ _ (Or.inl rfl)⟩ g
  have hp2 : Hid (pt = false → PS X X b k1) := hide fun e => by rw [hkp, if_neg (by simp [e])]; exact ⟨kX, TrD.refl _ _⟩
  replace hkp := hide hkp
  replace kX := hide kX
  replace h := hide h
  replace H := hide H
  replace HX := hide HX
  replace gw := hide gw
  replace gX := hide gX
  replace okp := hide okp
  clear CP
  have NX : Hid (∀ x kk, PS X x b kk → PS X x b kk ∧ (∀ (i : Nat) (v : Value), (#[.int .i64 (23 : Int), .int .i64 A, .int .i64 B, .int .i64 C, .int .i64 D] : Array Value)[i]? = some v → x.cell? ⟨w.heap.size + 1, i, none⟩ = some v) ∧ (∀ (i : Nat) (v : Value), (#[.slice so m.sh.length sc, .slice go m.gl.length gc, .slice co m.co.length cc, .slice ao m.ca.length ac, .slice fo m.fn.length fc, .int .i64 m.main] : Array Value)[i]? = some v → x.cell? ⟨w.heap.size, i, none⟩ = some v)) := hide fun x kk s => ⟨s, fun i v hv => s.2.cell ((unhide BX).2 i v hv) (show ¬ w.heap.size + 1 = b by omega), fun i v hv => s.2.cell ((unhide BX).1 i v hv) (show ¬ w.heap.size = b by omega)⟩
  have FIN : Hid (∀ x kk, PS X x b kk → KnAt x b kk ∧ TrD w x (· = b)) := hide fun x kk s => ⟨s.1, (TrD.of_G _ (unhide gw)).trans s.2⟩
  replace hb0 := hide hb0
  cases pt
  · have S0 := unhide hp2 rfl
    clear hp1 hp2 c0 f0
    obtain ⟨_, ci, cm⟩ := unhide NX _ _ S0
    have i0 := ci 0 _ rfl
    have i1 := ci 1 _ rfl
    have i2 := ci 2 _ rfl
    have i3 := ci 3 _ rfl
    have i4 := ci 4 _ rfl
    have m0 := cm 0 _ rfl
    have m1 := cm 1 _ rfl
    have m2 := cm 2 _ rfl
    have m3 := cm 3 _ rfl
    have m4 := cm 4 _ rfl
    have m5 := cm 5 _ rfl
    clear ci cm
    replace S0 := hide S0
    go_wp2_with fail
    refine (unhide CR _ ((unhide HX).tr (unhide S0).2)).mono ?_
    rintro e wa ⟨v, rfl, hv, ga⟩
    have Sa := hide (ps_g (unhide S0) ga)
    replace hv := hide hv
    clear i0 i1 i2 i3 i4 m0 m1 m2 m3 m4 m5
    clear ga
    go_wp2_with fail
    refine (unhide CM _ _ (unhide hv)).mono ?_
    rintro e wb ⟨rfl, hwb⟩
    subst hwb
    go_wp2_with fail
    refine (ps_hand (unhide Sa) MR hml).mono ?_
    rintro e wd ⟨rfl, Sd⟩
    replace Sd := hide Sd
    clear hv Sa
    obtain ⟨_, ci, cm⟩ := unhide NX _ _ (unhide Sd)
    have i0 := ci 0 _ rfl
    have i1 := ci 1 _ rfl
    have i2 := ci 2 _ rfl
    have i3 := ci 3 _ rfl
    have i4 := ci 4 _ rfl
    have m0 := cm 0 _ rfl
    have m1 := cm 1 _ rfl
    have m2 := cm 2 _ rfl
    have m3 := cm 3 _ rfl
    have m4 := cm 4 _ rfl
    have m5 := cm 5 _ rfl
    clear ci cm
    go_wp2_with fail
    refine (unhide CW _).mono ?_
    rintro e we ⟨v, rfl, hv, ge⟩
    have Se := hide (ps_g (unhide Sd) ge)
    replace hv := hide hv
    clear i0 i1 i2 i3 i4 m0 m1 m2 m3 m4 m5
    clear ge
    go_wp2_with fail
    refine (unhide CN _ _ (unhide hv)).mono ?_
    rintro e wf ⟨rfl, hwf⟩
    subst hwf
    go_wp2_with fail
    refine (ps_forget (unhide HX) (unhide Se) MW hnl).mono ?_
    rintro e wg ⟨rfl, Sg⟩
    replace Sg := hide Sg
    clear hv Se
    go_wp2_with fail
    go_end0
    exact ⟨rfl, unhide FIN _ _ (unhide Sg)⟩
  · have S0 := unhide hp1 _ rfl (G.refl _)
    obtain ⟨Y, hY⟩ : ∃ Y, Y = X.setCell ⟨b, 0, none⟩ (.int .u64 0) := ⟨_, rfl⟩
    go_upto_region 3 with fail
    rw [← hY] at S0 ⊢
    clear hY
    clear hp1 hp2 c0 f0
    obtain ⟨_, ci, cm⟩ := unhide NX _ _ S0
    have i0 := ci 0 _ rfl
    have i1 := ci 1 _ rfl
    have i2 := ci 2 _ rfl
    have i3 := ci 3 _ rfl
    have i4 := ci 4 _ rfl
    have m0 := cm 0 _ rfl
    have m1 := cm 1 _ rfl
    have m2 := cm 2 _ rfl
    have m3 := cm 3 _ rfl
    have m4 := cm 4 _ rfl
    have m5 := cm 5 _ rfl
    clear ci cm
    replace S0 := hide S0
    go_wp2_with fail
    refine (unhide CR _ ((unhide HX).tr (unhide S0).2)).mono ?_
    rintro e wa ⟨v, rfl, hv, ga⟩
    have Sa := hide (ps_g (unhide S0) ga)
    replace hv := hide hv
    clear i0 i1 i2 i3 i4 m0 m1 m2 m3 m4 m5
    clear ga
    go_wp2_with fail
    refine (unhide CM _ _ (unhide hv)).mono ?_
    rintro e wb ⟨rfl, hwb⟩
    subst hwb
    go_wp2_with fail
    refine (ps_hand (unhide Sa) MR hml).mono ?_
    rintro e wd ⟨rfl, Sd⟩
    replace Sd := hide Sd
    clear hv Sa
    obtain ⟨_, ci, cm⟩ := unhide NX _ _ (unhide Sd)
    have i0 := ci 0 _ rfl
    have i1 := ci 1 _ rfl
    have i2 := ci 2 _ rfl
    have i3 := ci 3 _ rfl
    have i4 := ci 4 _ rfl
    have m0 := cm 0 _ rfl
    have m1 := cm 1 _ rfl
    have m2 := cm 2 _ rfl
    have m3 := cm 3 _ rfl
    have m4 := cm 4 _ rfl
    have m5 := cm 5 _ rfl
    clear ci cm
    go_wp2_with fail
    refine (unhide CW _).mono ?_
    rintro e we ⟨v, rfl, hv, ge⟩
    have Se := hide (ps_g (unhide Sd) ge)
    replace hv := hide hv
    clear i0 i1 i2 i3 i4 m0 m1 m2 m3 m4 m5
    clear ge
    go_wp2_with fail
    refine (unhide CN _ _ (unhide hv)).mono ?_
    rintro e wf ⟨rfl, hwf⟩
    subst hwf
    go_wp2_with fail
    refine (ps_forget (unhide HX) (unhide Se) MW hnl).mono ?_
    rintro e wg ⟨rfl, Sg⟩
    replace Sg := hide Sg
    clear hv Se
    go_wp2_with fail
    go_end0
    exact ⟨rfl, unhide FIN _ _ (unhide Sg)⟩
set_option maxHeartbeats 2000000 in
theorem pass_24 {W0 w : World} {b : Nat} {k : Kn} (H : PsC W0 w b) (h : KnAt w b k) (m : Md) (so : Option Addr) (sc : Nat) (go : Option Addr) (gc : Nat) (co : Option Addr) (cc : Nat) (ao : Option Addr) (ac : Nat) (fo : Option Addr) (fc : Nat) (hM : ModR W0 m so sc go gc co cc ao ac fo fc) (hn : m.ca.length ≤ 1000000) (A B C D : Int) (hi : oIn ⟨(24 : Int), A, B, C, D⟩) :
    Calls Tryd.prog 51 #[.pointer (some ⟨b, 0, none⟩), agM m so sc go gc co cc ao ac fo fc, agI ⟨(24 : Int), A, B, C, D⟩] w fun e w' => e = .returned (.tuple #[]) ∧ KnAt w' b (k.pass m ⟨(24 : Int), A, B, C, D⟩) ∧ TrD w w' (· = b) := by
  have EK : k.pass m ⟨(24 : Int), A, B, C, D⟩ = ((k.point (24 : Int)).hand (mskP (rdP m ⟨(24 : Int), A, B, C, D⟩))).forget (mskP (wrP ⟨(24 : Int), A, B, C, D⟩)) := by simp [Kn.pass]
  rw [EK]
  clear EK
  have oA := hi.2.1
  have oB := hi.2.2.1
  have oC := hi.2.2.2.1
  have hb0 := h.lt
  have okp := h.ok.point (24 : Int)
  have CP : Hid (∀ x, G W0 x → Calls Tryd.prog 17 #[.int .i64 (24 : Int)] x fun e w' => e = .returned (.bool (rwOf (24 : Int)).pt) ∧ G x w') := hide fun x g => point_any x (24 : Int) (H.r.g g)
  have hkp : k.point (24 : Int) = if (rwOf (24 : Int)).pt then ⟨0, k.o, k.ws⟩ else k := rfl
  generalize k.point (24 : Int) = k1 at hkp okp ⊢
  generalize (rwOf (24 : Int)).pt = pt at CP hkp
  have RO := rd_oi m ⟨(24 : Int), A, B, C, D⟩ hi (show (24 : Int) ≠ 41 by decide)
  have CR : Hid (∀ x, G W0 x → Calls Tryd.prog 63 #[agM m so sc go gc co cc ao ac fo fc, agI ⟨(24 : Int), A, B, C, D⟩] x (LTo x (rdP m ⟨(24 : Int), A, B, C, D⟩))) := hide fun x g => reads_any x m so sc go gc co cc ao ac fo fc (hM.g g) ⟨(24 : Int), A, B, C, D⟩ oA hn
  generalize rdP m ⟨(24 : Int), A, B, C, D⟩ = RL at RO CR ⊢
  have CM : Hid (∀ x v, IsL x v RL → Calls Tryd.prog 62 #[v] x fun e w' => e = .returned (.int .u64 (mskP RL : Int)) ∧ w' = x) := hide fun x v h => fslotMap_any x v RL h (by omega) RO.1
  have hml := msk_lt RL
  generalize mskP RL = MR at CM hml ⊢
  have WO := wr_oi ⟨(24 : Int), A, B, C, D⟩ hi
  have CW : Hid (∀ x, Calls Tryd.prog 65 #[agI ⟨(24 : Int), A, B, C, D⟩] x (LTo x (wrP ⟨(24 : Int), A, B, C, D⟩))) := hide fun x => writes_any x ⟨(24 : Int), A, B, C, D⟩
  generalize wrP ⟨(24 : Int), A, B, C, D⟩ = WL at WO CW ⊢
  have CN : Hid (∀ x v, IsL x v WL → Calls Tryd.prog 62 #[v] x fun e w' => e = .returned (.int .u64 (mskP WL : Int)) ∧ w' = x) := hide fun x v h => fslotMap_any x v WL h (by omega) WO.1
  have hnl := msk_lt WL
  generalize mskP WL = MW at CN hnl ⊢
  unfold agM agI at *
  simp only at *
  replace hM := hide hM
  replace hi := hide hi
  replace hn := hide hn
  go_enter Tryd.func51, Tryd.ntmps51
  go_wp2_with fail
  refine (unhide CP _ ((H.g.more _).more _)).mono ?_
  rintro e X ⟨rfl, gX⟩
  have gw : G w X := ((G.refl w).more _).more _ |>.trans gX
  have BX := hide (boxes w _ _ _ _ X gX)
  have HX : PsC W0 X b := ⟨H.g.trans gw, H.lo, H.t, H.r, H.two⟩
  have kX := h.g gw
  have c0 := kX.y
  have f0 := kX.fro 0 (by decide)
  have hp1 : Hid (∀ x, pt = true → G (X.setCell ⟨b, 0, none⟩ (.int .u64 0)) x → PS X x b k1) := hide fun x e g => by rw [hkp, if_pos e]; exact kt_g ⟨kX.setY 0 (by decide), (TrD.refl X _).set b _ _ (Or.inl rfl)⟩ g
  have hp2 : Hid (pt = false → PS X X b k1) := hide fun e => by rw [hkp, if_neg (by simp [e])]; exact ⟨kX, TrD.refl _ _⟩
  replace hkp := hide hkp
  replace kX := hide kX
  replace h := hide h
  replace H := hide H
  replace HX := hide HX
  replace gw := hide gw
  replace gX := hide gX
  replace okp := hide okp
  clear CP
  have NX : Hid (∀ x kk, PS X x b kk → PS X x b kk ∧ (∀ (i : Nat) (v : Value), (#[.int .i64 (24 : Int), .int .i64 A, .int .i64 B, .int .i64 C, .int .i64 D] : Array Value)[i]? = some v → x.cell? ⟨w.heap.size + 1, i, none⟩ = some v) ∧ (∀ (i : Nat) (v : Value), (#[.slice so m.sh.length sc, .slice go m.gl.length gc, .slice co m.co.length cc, .slice ao m.ca.length ac, .slice fo m.fn.length fc, .int .i64 m.main] : Array Value)[i]? = some v → x.cell? ⟨w.heap.size, i, none⟩ = some v)) := hide fun x kk s => ⟨s, fun i v hv => s.2.cell ((unhide BX).2 i v hv) (show ¬ w.heap.size + 1 = b by omega), fun i v hv => s.2.cell ((unhide BX).1 i v hv) (show ¬ w.heap.size = b by omega)⟩
  have FIN : Hid (∀ x kk, PS X x b kk → KnAt x b kk ∧ TrD w x (· = b)) := hide fun x kk s => ⟨s.1, (TrD.of_G _ (unhide gw)).trans s.2⟩
  replace hb0 := hide hb0
  cases pt
  · have S0 := unhide hp2 rfl
    clear hp1 hp2 c0 f0
    obtain ⟨_, ci, cm⟩ := unhide NX _ _ S0
    have i0 := ci 0 _ rfl
    have i1 := ci 1 _ rfl
    have i2 := ci 2 _ rfl
    have i3 := ci 3 _ rfl
    have i4 := ci 4 _ rfl
    have m0 := cm 0 _ rfl
    have m1 := cm 1 _ rfl
    have m2 := cm 2 _ rfl
    have m3 := cm 3 _ rfl
    have m4 := cm 4 _ rfl
    have m5 := cm 5 _ rfl
    clear ci cm
    replace S0 := hide S0
    go_wp2_with fail
    refine (unhide CR _ ((unhide HX).tr (unhide S0).2)).mono ?_
    rintro e wa ⟨v, rfl, hv, ga⟩
    have Sa := hide (ps_g (unhide S0) ga)
    replace hv := hide hv
    clear i0 i1 i2 i3 i4 m0 m1 m2 m3 m4 m5
    clear ga
    go_wp2_with fail
    refine (unhide CM _ _ (unhide hv)).mono ?_
    rintro e wb ⟨rfl, hwb⟩
    subst hwb
    go_wp2_with fail
    refine (ps_hand (unhide Sa) MR hml).mono ?_
    rintro e wd ⟨rfl, Sd⟩
    replace Sd := hide Sd
    clear hv Sa
    obtain ⟨_, ci, cm⟩ := unhide NX _ _ (unhide Sd)
    have i0 := ci 0 _ rfl
    have i1 := ci 1 _ rfl
    have i2 := ci 2 _ rfl
    have i3 := ci 3 _ rfl
    have i4 := ci 4 _ rfl
    have m0 := cm 0 _ rfl
    have m1 := cm 1 _ rfl
    have m2 := cm 2 _ rfl
    have m3 := cm 3 _ rfl
    have m4 := cm 4 _ rfl
    have m5 := cm 5 _ rfl
    clear ci cm
    go_wp2_with fail
    refine (unhide CW _).mono ?_
    rintro e we ⟨v, rfl, hv, ge⟩
    have Se := hide (ps_g (unhide Sd) ge)
    replace hv := hide hv
    clear i0 i1 i2 i3 i4 m0 m1 m2 m3 m4 m5
    clear ge
    go_wp2_with fail
    refine (unhide CN _ _ (unhide hv)).mono ?_
    rintro e wf ⟨rfl, hwf⟩
    subst hwf
    go_wp2_with fail
    refine (ps_forget (unhide HX) (unhide Se) MW hnl).mono ?_
    rintro e wg ⟨rfl, Sg⟩
    replace Sg := hide Sg
    clear hv Se
    go_wp2_with fail
    go_end0
    exact ⟨rfl, unhide FIN _ _ (unhide Sg)⟩
  · have S0 := unhide hp1 _ rfl (G.refl _)
    obtain ⟨Y, hY⟩ : ∃ Y, Y = X.setCell ⟨b, 0, none⟩ (.int .u64 0) := ⟨_, rfl⟩
    go_upto_region 3 with fail
    rw [← hY] at S0 ⊢
    clear hY
    clear hp1 hp2 c0 f0
    obtain ⟨_, ci, cm⟩ := unhide NX _ _ S0
    have i0 := ci 0 _ rfl
    have i1 := ci 1 _ rfl
    have i2 := ci 2 _ rfl
    have i3 := ci 3 _ rfl
    have i4 := ci 4 _ rfl
    have m0 := cm 0 _ rfl
    have m1 := cm 1 _ rfl
    have m2 := cm 2 _ rfl
    have m3 := cm 3 _ rfl
    have m4 := cm 4 _ rfl
    have m5 := cm 5 _ rfl
    clear ci cm
    replace S0 := hide S0
    go_wp2_with fail
    refine (unhide CR _ ((unhide HX).tr (unhide S0).2)).mono ?_
    rintro e wa ⟨v, rfl, hv, ga⟩
    have Sa := hide (ps_g (unhide S0) ga)
    replace hv := hide hv
    clear i0 i1 i2 i3 i4 m0 m1 m2 m3 m4 m5
    clear ga
    go_wp2_with fail
    refine (unhide CM _ _ (unhide hv)).mono ?_
    rintro e wb ⟨rfl, hwb⟩
    subst hwb
    go_wp2_with fail
    refine (ps_hand (unhide Sa) MR hml).mono ?_
    rintro e wd ⟨rfl, Sd⟩
    replace Sd := hide Sd
    clear hv Sa
    obtain ⟨_, ci, cm⟩ := unhide NX _ _ (unhide Sd)
    have i0 := ci 0 _ rfl
    have i1 := ci 1 _ rfl
    have i2 := ci 2 _ rfl
    have i3 := ci 3 _ rfl
    have i4 := ci 4 _ rfl
    have m0 := cm 0 _ rfl
    have m1 := cm 1 _ rfl
    have m2 := cm 2 _ rfl
    have m3 := cm 3 _ rfl
    have m4 := cm 4 _ rfl
    have m5 := cm 5 _ rfl
    clear ci cm
    go_wp2_with fail
    refine (unhide CW _).mono ?_
    rintro e we ⟨v, rfl, hv, ge⟩
    have Se := hide (ps_g (unhide Sd) ge)
    replace hv := hide hv
    clear i0 i1 i2 i3 i4 m0 m1 m2 m3 m4 m5
    clear ge
    go_wp2_with fail
    refine (unhide CN _ _ (unhide hv)).mono ?_
    rintro e wf ⟨rfl, hwf⟩
    subst hwf
    go_wp2_with fail
    refine (ps_forget (unhide HX) (unhide Se) MW hnl).mono ?_
    rintro e wg ⟨rfl, Sg⟩
    replace Sg := hide Sg
    clear hv Se
    go_wp2_with fail
    go_end0
    exact ⟨rfl, unhide FIN _ _ (unhide Sg)⟩
end Go.Proofs.YtiangegoglfpeaaDoor
