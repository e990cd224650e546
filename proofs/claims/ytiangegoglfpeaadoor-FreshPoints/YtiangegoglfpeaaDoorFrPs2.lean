/- pass: set, setn. -/
import Derived.Test.YtiangegoglfpeaaDoorFrPs
namespace Go.Proofs.YtiangegoglfpeaaDoor
set_option maxRecDepth 100000
open Go.RowKit Go.Maps Go.ChangeShapes Go.WideShapes Go.ChangeAt Go.Deep

set_option maxHeartbeats 2000000 in
theorem pass_28 {W0 w : World} {b : Nat} {k : Kn} (H : PsC W0 w b) (h : KnAt w b k) (m : Md) (so : Option Addr) (sc : Nat) (go : Option Addr) (gc : Nat) (co : Option Addr) (cc : Nat) (ao : Option Addr) (ac : Nat) (fo : Option Addr) (fc : Nat) (hM : ModR W0 m so sc go gc co cc ao ac fo fc) (hn : m.ca.length ≤ 1000000) (A B C D : Int) (hi : oIn ⟨(28 : Int), A, B, C, D⟩) :
    Calls Tryd.prog 51 #[.pointer (some ⟨b, 0, none⟩), agM m so sc go gc co cc ao ac fo fc, agI ⟨(28 : Int), A, B, C, D⟩] w fun e w' => e = .returned (.tuple #[]) ∧ KnAt w' b (k.pass m ⟨(28 : Int), A, B, C, D⟩) ∧ TrD w w' (· = b) := by
  have EK : k.pass m ⟨(28 : Int), A, B, C, D⟩ = ((k.point (28 : Int)).write A (fldP ⟨(28 : Int), A, B, C, D⟩)).hand (bitP C) := by simp [Kn.pass]
  rw [EK]
  clear EK
  have oA := hi.2.1
  have oB := hi.2.2.1
  have oC := hi.2.2.2.1
  have hb0 := h.lt
  have okp := h.ok.point (28 : Int)
  have CP : Hid (∀ x, G W0 x → Calls Tryd.prog 17 #[.int .i64 (28 : Int)] x fun e w' => e = .returned (.bool (rwOf (28 : Int)).pt) ∧ G x w') := hide fun x g => point_any x (28 : Int) (H.r.g g)
  have hkp : k.point (28 : Int) = if (rwOf (28 : Int)).pt then ⟨0, k.o, k.ws⟩ else k := rfl
  generalize k.point (28 : Int) = k1 at hkp okp ⊢
  generalize (rwOf (28 : Int)).pt = pt at CP hkp
  have CF : Hid (∀ x, Calls Tryd.prog 23 #[agI ⟨(28 : Int), A, B, C, D⟩] x fun e w' => e = .returned (.int .u64 (fldP ⟨(28 : Int), A, B, C, D⟩ : Int)) ∧ G x w') := hide fun x => fields_any x ⟨(28 : Int), A, B, C, D⟩ oB
  have hfl := fld_lt ⟨(28 : Int), A, B, C, D⟩
  generalize fldP ⟨(28 : Int), A, B, C, D⟩ = FL at CF hfl ⊢
  have CBt : Hid (∀ w2 : World, Calls Tryd.prog 19 #[.int .i64 C] w2 fun e w' => e = .returned (.int .u64 (bitP C : Int)) ∧ w' = w2) := hide fun w2 => bit_any w2 C oC
  have hbC := bitP_lt C
  generalize bitP C = BC at CBt hbC ⊢
  unfold agM agI at *
  simp only at *
  replace hM := hide hM
  replace hi := hide hi
  replace hn := hide hn
  go_enter Tryd.func51, Tryd.ntmps51
  go_wp2_with fail
  refine (unhide CP _ ((H.g.more _).more _)).mono ?_
  rintro e X ⟨rfl, gX⟩
  have gw : G w X := ((G.refl w).more _).more _ |>.trans gX
  have BX := hide (boxes w _ _ _ _ X gX)
  have HX : PsC W0 X b := ⟨H.g.trans gw, H.lo, H.t, H.r, H.two⟩
  have kX := h.g gw
  have c0 := kX.y
  have f0 := kX.fro 0 (by decide)
  have hp1 : Hid (∀ x, pt = true → G (X.setCell ⟨b, 0, none⟩ (.int .u64 0)) x → PS X x b k1) := hide fun x e g => by rw [hkp, if_pos e]; exact kt_g ⟨kX.setY 0 (by decide), (TrD.refl X _).set b _ _ (Or.inl rfl)⟩ g
  have hp2 : Hid (pt = false → PS X X b k1) := hide fun e => by rw [hkp, if_neg (by simp [e])]; exact ⟨kX, TrD.refl _ _⟩
  replace hkp := hide hkp
  replace kX := hide kX
  replace h := hide h
  replace H := hide H
  replace HX := hide HX
  replace gw := hide gw
  replace gX := hide gX
  replace okp := hide okp
  clear CP
  have NX : Hid (∀ x kk, PS X x b kk → PS X x b kk ∧ (∀ (i : Nat) (v : Value), (#[.int .i64 (28 : Int), .int .i64 A, .int .i64 B, .int .i64 C, .int .i64 D] : Array Value)[i]? = some v → x.cell? ⟨w.heap.size + 1, i, none⟩ = some v) ∧ (∀ (i : Nat) (v : Value), (#[.slice so m.sh.length sc, .slice go m.gl.length gc, .slice co m.co.length cc, .slice ao m.ca.length ac, .slice fo m.fn.length fc, .int .i64 m.main] : Array Value)[i]? = some v → x.cell? ⟨w.heap.size, i, none⟩ = some v)) := hide fun x kk s => ⟨s, fun i v hv => s.2.cell ((unhide BX).2 i v hv) (show ¬ w.heap.size + 1 = b by omega), fun i v hv => s.2.cell ((unhide BX).1 i v hv) (show ¬ w.heap.size = b by omega)⟩
  have FIN : Hid (∀ x kk, PS X x b kk → KnAt x b kk ∧ TrD w x (· = b)) := hide fun x kk s => ⟨s.1, (TrD.of_G _ (unhide gw)).trans s.2⟩
  replace hb0 := hide hb0
  cases pt
  · have S0 := unhide hp2 rfl
    clear hp1 hp2 c0 f0
    obtain ⟨_, ci, cm⟩ := unhide NX _ _ S0
    have i0 := ci 0 _ rfl
    have i1 := ci 1 _ rfl
    have i2 := ci 2 _ rfl
    have i3 := ci 3 _ rfl
    have i4 := ci 4 _ rfl
    have m0 := cm 0 _ rfl
    have m1 := cm 1 _ rfl
    have m2 := cm 2 _ rfl
    have m3 := cm 3 _ rfl
    have m4 := cm 4 _ rfl
    have m5 := cm 5 _ rfl
    clear ci cm
    replace S0 := hide S0
    have CWr : Hid (∀ x, G X x → Calls Tryd.prog 64 #[.pointer (some ⟨b, 0, none⟩), .int .i64 A, .int .u64 (FL : Int)] x fun e w' => e = .returned (.tuple #[]) ∧ PS X w' b (k1.write A FL)) := hide fun x g => ps_write (ps_g (unhide S0) g) A FL oA hfl
    have gg : Hid (G X X) := hide (G.refl _)
    go_upto_region 20 with fail
    go_cut [] (fun wx => Hid (PS X wx b (k1.write A FL)))
    case first =>
      go_region_with (first | (refine (unhide CF _).mono ?_; rintro e w3 ⟨rfl, g3⟩; have i1 := (G.trans (by first | exact unhide gg | exact (unhide gg).drew | exact (unhide gg).drew.drew) g3).cell i1; replace gg := hide (G.trans (by first | exact unhide gg | exact (unhide gg).drew | exact (unhide gg).drew.drew) g3); replace g3 := hide g3) | (refine (unhide CWr _ (by first | exact unhide gg | exact (unhide gg).drew | exact (unhide gg).drew.drew)).mono ?_; rintro e w4 ⟨rfl, S4⟩; replace S4 := hide S4))
      all_goals
        go_wp2_with fail
        go_meet
        exact S4
    case rest =>
      obtain ⟨_, ci, cm⟩ := unhide NX _ _ (unhide hcut)
      have i0 := ci 0 _ rfl
      have i1 := ci 1 _ rfl
      have i2 := ci 2 _ rfl
      have i3 := ci 3 _ rfl
      have i4 := ci 4 _ rfl
      clear ci cm
      go_wp2_with fail
      refine (unhide CBt _).mono ?_
      rintro e wq ⟨rfl, hwq⟩
      subst hwq
      go_wp2_with fail
      refine (ps_hand (unhide hcut) BC hbC).mono ?_
      rintro e wd ⟨rfl, Sd⟩
      replace Sd := hide Sd
      go_wp2_with fail
      go_end0
      exact ⟨rfl, unhide FIN _ _ (unhide Sd)⟩
  · have S0 := unhide hp1 _ rfl (G.refl _)
    obtain ⟨Y, hY⟩ : ∃ Y, Y = X.setCell ⟨b, 0, none⟩ (.int .u64 0) := ⟨_, rfl⟩
    go_upto_region 3 with fail
    rw [← hY] at S0 ⊢
    clear hY
    clear hp1 hp2 c0 f0
    obtain ⟨_, ci, cm⟩ := unhide NX _ _ S0
    have i0 := ci 0 _ rfl
    have i1 := ci 1 _ rfl
    have i2 := ci 2 _ rfl
    have i3 := ci 3 _ rfl
    have i4 := ci 4 _ rfl
    have m0 := cm 0 _ rfl
    have m1 := cm 1 _ rfl
    have m2 := cm 2 _ rfl
    have m3 := cm 3 _ rfl
    have m4 := cm 4 _ rfl
    have m5 := cm 5 _ rfl
    clear ci cm
    replace S0 := hide S0
    have CWr : Hid (∀ x, G Y x → Calls Tryd.prog 64 #[.pointer (some ⟨b, 0, none⟩), .int .i64 A, .int .u64 (FL : Int)] x fun e w' => e = .returned (.tuple #[]) ∧ PS X w' b (k1.write A FL)) := hide fun x g => ps_write (ps_g (unhide S0) g) A FL oA hfl
    have gg : Hid (G Y Y) := hide (G.refl _)
    go_upto_region 20 with fail
    go_cut [] (fun wx => Hid (PS X wx b (k1.write A FL)))
    case first =>
      go_region_with (first | (refine (unhide CF _).mono ?_; rintro e w3 ⟨rfl, g3⟩; have i1 := (G.trans (by first | exact unhide gg | exact (unhide gg).drew | exact (unhide gg).drew.drew) g3).cell i1; replace gg := hide (G.trans (by first | exact unhide gg | exact (unhide gg).drew | exact (unhide gg).drew.drew) g3); replace g3 := hide g3) | (refine (unhide CWr _ (by first | exact unhide gg | exact (unhide gg).drew | exact (unhide gg).drew.drew)).mono ?_; rintro e w4 ⟨rfl, S4⟩; replace S4 := hide S4))
      all_goals
        go_wp2_with fail
        go_meet
        exact S4
    case rest =>
      obtain ⟨_, ci, cm⟩ := unhide NX _ _ (unhide hcut)
      have i0 := ci 0 _ rfl
      have i1 := ci 1 _ rfl
      have i2 := ci 2 _ rfl
      have i3 := ci 3 _ rfl
      have i4 := ci 4 _ rfl
      clear ci cm
      go_wp2_with fail
      refine (unhide CBt _).mono ?_
      rintro e wq ⟨rfl, hwq⟩
      subst hwq
      go_wp2_with fail
      refine (ps_hand (unhide hcut) BC hbC).mono ?_
      rintro e wd ⟨rfl, Sd⟩
      replace Sd := hide Sd
      go_wp2_with fail
      go_end0
      exact ⟨rfl, unhide FIN _ _ (unhide Sd)⟩
set_option maxHeartbeats 2000000 in
theorem pass_29 {W0 w : World} {b : Nat} {k : Kn} (H : PsC W0 w b) (h : KnAt w b k) (m : Md) (so : Option Addr) (sc : Nat) (go : Option Addr) (gc : Nat) (co : Option Addr) (cc : Nat) (ao : Option Addr) (ac : Nat) (fo : Option Addr) (fc : Nat) (hM : ModR W0 m so sc go gc co cc ao ac fo fc) (hn : m.ca.length ≤ 1000000) (A B C D : Int) (hi : oIn ⟨(29 : Int), A, B, C, D⟩) :
    Calls Tryd.prog 51 #[.pointer (some ⟨b, 0, none⟩), agM m so sc go gc co cc ao ac fo fc, agI ⟨(29 : Int), A, B, C, D⟩] w fun e w' => e = .returned (.tuple #[]) ∧ KnAt w' b (k.pass m ⟨(29 : Int), A, B, C, D⟩) ∧ TrD w w' (· = b) := by
  have EK : k.pass m ⟨(29 : Int), A, B, C, D⟩ = ((k.point (29 : Int)).write A (fldP ⟨(29 : Int), A, B, C, D⟩)).hand (bitP C) := by simp [Kn.pass]
  rw [EK]
  clear EK
  have oA := hi.2.1
  have oB := hi.2.2.1
  have oC := hi.2.2.2.1
  have hb0 := h.lt
  have okp := h.ok.point (29 : Int)
  have CP : Hid (∀ x, G W0 x → Calls Tryd.prog 17 #[.int .i64 (29 : Int)] x fun e w' => e = .returned (.bool (rwOf (29 : Int)).pt) ∧ G x w') := hide fun x g => point_any x (29 : Int) (H.r.g g)
  have hkp : k.point (29 : Int) = if (rwOf (29 : Int)).pt then ⟨0, k.o, k.ws⟩ else k := rfl
  generalize k.point (29 : Int) = k1 at hkp okp ⊢
  generalize (rwOf (29 : Int)).pt = pt at CP hkp
  have CF : Hid (∀ x, Calls Tryd.prog 23 #[agI ⟨(29 : Int), A, B, C, D⟩] x fun e w' => e = .returned (.int .u64 (fldP ⟨(29 : Int), A, B, C, D⟩ : Int)) ∧ G x w') := hide fun x => fields_any x ⟨(29 : Int), A, B, C, D⟩ oB
  have hfl := fld_lt ⟨(29 : Int), A, B, C, D⟩
  generalize fldP ⟨(29 : Int), A, B, C, D⟩ = FL at CF hfl ⊢
  have CBt : Hid (∀ w2 : World, Calls Tryd.prog 19 #[.int .i64 C] w2 fun e w' => e = .returned (.int .u64 (bitP C : Int)) ∧ w' = w2) := hide fun w2 => bit_any w2 C oC
  have hbC := bitP_lt C
  generalize bitP C = BC at CBt hbC ⊢
  unfold agM agI at *
  simp only at *
  replace hM := hide hM
  replace hi := hide hi
  replace hn := hide hn
  go_enter Tryd.func51, Tryd.ntmps51
  go_wp2_with fail
  refine (unhide CP _ ((H.g.more _).more _)).mono ?_
  rintro e X ⟨rfl, gX⟩
  have gw : G w X := ((G.refl w).more _).more _ |>.trans gX
  have BX := hide (boxes w _ _ _ _ X gX)
  have HX : PsC W0 X b := ⟨H.g.trans gw, H.lo, H.t, H.r, H.two⟩
  have kX := h.g gw
  have c0 := kX.y
  have f0 := kX.fro 0 (by decide)
  have hp1 : Hid (∀ x, pt = true → G (X.setCell ⟨b, 0, none⟩ (.int .u64 0)) x → PS X x b k1) := hide fun x e g => by rw [hkp, if_pos e]; exact kt_g ⟨kX.setY 0 (by decide), (TrD.refl X _).set b _ _ (Or.inl rfl)⟩ g
  have hp2 : Hid (pt = false → PS X X b k1) := hide fun e => by rw [hkp, if_neg (by simp [e])]; exact ⟨kX, TrD.refl _ _⟩
  replace hkp := hide hkp
  replace kX := hide kX
  replace h := hide h
  replace H := hide H
  replace HX := hide HX
  replace gw := hide gw
  replace gX := hide gX
  replace okp := hide okp
  clear CP
  have NX : Hid (∀ x kk, PS X x b kk → PS X x b kk ∧ (∀ (i : Nat) (v : Value), (#[.int .i64 (29 : Int), .int .i64 A, .int .i64 B, .int .i64 C, .int .i64 D] : Array Value)[i]? = some v → x.cell? ⟨w.heap.size + 1, i, none⟩ = some v) ∧ (∀ (i : Nat) (v : Value), (#[.slice so m.sh.length sc, .slice go m.gl.length gc, .slice co m.co.length cc, .slice ao m.ca.length ac, .slice fo m.fn.length fc, .int .i64 m.main] : Array Value)[i]? = some v → x.cell? ⟨w.heap.size, i, none⟩ = some v)) := hide fun x kk s => ⟨s, fun i v hv => s.2.cell ((unhide BX).2 i v hv) (show ¬ w.heap.size + 1 = b by omega), fun i v hv => s.2.cell ((unhide BX).1 i v hv) (show ¬ w.heap.size = b by omega)⟩
  have FIN : Hid (∀ x kk, PS X x b kk → KnAt x b kk ∧ TrD w x (· = b)) := hide fun x kk s => ⟨s.1, (TrD.of_G _ (unhide gw)).trans s.2⟩
  replace hb0 := hide hb0
  cases pt
  · have S0 := unhide hp2 rfl
    clear hp1 hp2 c0 f0
    obtain ⟨_, ci, cm⟩ := unhide NX _ _ S0
    have i0 := ci 0 _ rfl
    have i1 := ci 1 _ rfl
    have i2 := ci 2 _ rfl
    have i3 := ci 3 _ rfl
    have i4 := ci 4 _ rfl
    have m0 := cm 0 _ rfl
    have m1 := cm 1 _ rfl
    have m2 := cm 2 _ rfl
    have m3 := cm 3 _ rfl
    have m4 := cm 4 _ rfl
    have m5 := cm 5 _ rfl
    clear ci cm
    replace S0 := hide S0
    have CWr : Hid (∀ x, G X x → Calls Tryd.prog 64 #[.pointer (some ⟨b, 0, none⟩), .int .i64 A, .int .u64 (FL : Int)] x fun e w' => e = .returned (.tuple #[]) ∧ PS X w' b (k1.write A FL)) := hide fun x g => ps_write (ps_g (unhide S0) g) A FL oA hfl
    have gg : Hid (G X X) := hide (G.refl _)
    go_upto_region 20 with fail
    go_cut [] (fun wx => Hid (PS X wx b (k1.write A FL)))
    case first =>
      go_region_with (first | (refine (unhide CF _).mono ?_; rintro e w3 ⟨rfl, g3⟩; have i1 := (G.trans (by first | exact unhide gg | exact (unhide gg).drew | exact (unhide gg).drew.drew) g3).cell i1; replace gg := hide (G.trans (by first | exact unhide gg | exact (unhide gg).drew | exact (unhide gg).drew.drew) g3); replace g3 := hide g3) | (refine (unhide CWr _ (by first | exact unhide gg | exact (unhide gg).drew | exact (unhide gg).drew.drew)).mono ?_; rintro e w4 ⟨rfl, S4⟩; replace S4 := hide S4))
      all_goals
        go_wp2_with fail
        go_meet
        exact S4
    case rest =>
      obtain ⟨_, ci, cm⟩ := unhide NX _ _ (unhide hcut)
      have i0 := ci 0 _ rfl
      have i1 := ci 1 _ rfl
      have i2 := ci 2 _ rfl
      have i3 := ci 3 _ rfl
      have i4 := ci 4 _ rfl
      clear ci cm
      go_wp2_with fail
      refine (unhide CBt _).mono ?_
      rintro e wq ⟨rfl, hwq⟩
      subst hwq
      go_wp2_with fail
      refine (ps_hand (unhide hcut) BC hbC).mono ?_
      rintro e wd ⟨rfl, Sd⟩
      replace Sd := hide Sd
      go_wp2_with fail
      go_end0
      exact ⟨rfl, unhide FIN _ _ (unhide Sd)⟩
  · have S0 := unhide hp1 _ rfl (G.refl _)
    obtain ⟨Y, hY⟩ : ∃ Y, Y = X.setCell ⟨b, 0, none⟩ (.int .u64 0) := ⟨_, rfl⟩
    go_upto_region 3 with fail
    rw [← hY] at S0 ⊢
    clear hY
    clear hp1 hp2 c0 f0
    obtain ⟨_, ci, cm⟩ := unhide NX _ _ S0
    have i0 := ci 0 _ rfl
    have i1 := ci 1 _ rfl
    have i2 := ci 2 _ rfl
    have i3 := ci 3 _ rfl
    have i4 := ci 4 _ rfl
    have m0 := cm 0 _ rfl
    have m1 := cm 1 _ rfl
    have m2 := cm 2 _ rfl
    have m3 := cm 3 _ rfl
    have m4 := cm 4 _ rfl
    have m5 := cm 5 _ rfl
    clear ci cm
    replace S0 := hide S0
    have CWr : Hid (∀ x, G Y x → Calls Tryd.prog 64 #[.pointer (some ⟨b, 0, none⟩), .int .i64 A, .int .u64 (FL : Int)] x fun e w' => e = .returned (.tuple #[]) ∧ PS X w' b (k1.write A FL)) := hide fun x g => ps_write (ps_g (unhide S0) g) A FL oA hfl
    have gg : Hid (G Y Y) := hide (G.refl _)
    go_upto_region 20 with fail
    go_cut [] (fun wx => Hid (PS X wx b (k1.write A FL)))
    case first =>
      go_region_with (first | (refine (unhide CF _).mono ?_; rintro e w3 ⟨rfl, g3⟩; have i1 := (G.trans (by first | exact unhide gg | exact (unhide gg).drew | exact (unhide gg).drew.drew) g3).cell i1; replace gg := hide (G.trans (by first | exact unhide gg | exact (unhide gg).drew | exact (unhide gg).drew.drew) g3); replace g3 := hide g3) | (refine (unhide CWr _ (by first | exact unhide gg | exact (unhide gg).drew | exact (unhide gg).drew.drew)).mono ?_; rintro e w4 ⟨rfl, S4⟩; replace S4 := hide S4))
      all_goals
        go_wp2_with fail
        go_meet
        exact S4
    case rest =>
      obtain ⟨_, ci, cm⟩ := unhide NX _ _ (unhide hcut)
      have i0 := ci 0 _ rfl
      have i1 := ci 1 _ rfl
      have i2 := ci 2 _ rfl
      have i3 := ci 3 _ rfl
      have i4 := ci 4 _ rfl
      clear ci cm
      go_wp2_with fail
      refine (unhide CBt _).mono ?_
      rintro e wq ⟨rfl, hwq⟩
      subst hwq
      go_wp2_with fail
      refine (ps_hand (unhide hcut) BC hbC).mono ?_
      rintro e wd ⟨rfl, Sd⟩
      replace Sd := hide Sd
      go_wp2_with fail
      go_end0
      exact ⟨rfl, unhide FIN _ _ (unhide Sd)⟩
end Go.Proofs.YtiangegoglfpeaaDoor
