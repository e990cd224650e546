/- awake() answers true. -/
import Derived.Test.YtagfgpfdlcchoaaDoorArenaNew
namespace Go.Proofs.YtagfgpfdlcchoaaDoor
open Go.RowKit Go.Maps Go.ChangeShapes Go.WideShapes Go.ChangeAt

/-- Two arenas that share nothing. -/
def Apart (d d2 : Ad) : Prop := (d.ab ≠ d2.wb ∧ d.ab ≠ d2.sb) ∧ (d.wb ≠ d2.wb ∧ d.wb ≠ d2.sb) ∧ (d.sb ≠ d2.wb ∧ d.sb ≠ d2.sb)
theorem Apart.keeps {W w w' : World} {d d2 : Ad} {a a2 : Ab} (h : Apart d d2) (s : St W w d a) (s2 : St W w' d2 a2) (t : Tn w w' d2) : St W w' d a := s.beside t s2.below h.1 h.2.1 h.2.2
theorem St.apart {W w : World} {d d2 : Ad} {a : Ab} (s : St W w d a) (h0 : w.heap.size ≤ d2.ab) (h1 : w.heap.size ≤ d2.wb) (h2 : w.heap.size ≤ d2.sb) : Apart d d2 ∧ Apart d2 d := by
  have l0 := s.at_.lt0
  have l1 := s.at_.lt1 s.n8
  have l2 := s.at_.lt2 s.n8
  exact ⟨⟨⟨by omega, by omega⟩, ⟨by omega, by omega⟩, ⟨by omega, by omega⟩⟩, ⟨⟨by omega, by omega⟩, ⟨by omega, by omega⟩, ⟨by omega, by omega⟩⟩⟩

set_option maxHeartbeats 2000000 in
set_option maxRecDepth 100000 in
theorem awake_core (w : World) (ht : Hid (Tab w)) (a1 a2 a3 a4 a5 a6 a7 : Ab)
    (e1 : (ab0 8).setE 1 0 = 0) (e1' : (ab0 8).setA 1 0 = a1) (e2 : a1.takeV 1 = 64) (e2' : a1.takeE 1 = 0) (e2'' : a1.takeA 1 = a2) (e3 : a2.takeV 1 = 66) (e3' : a2.takeE 1 = 0) (e3'' : a2.takeA 1 = a3)
    (e4 : a3.readE 66 1 = 0) (e4' : a3.writeA 66 1 5 = a4) (e5 : a4.readV 66 1 = 5) (e5' : a4.readE 66 1 = 0) (e6 : a4.markB 64 = true) (e6' : a4.markA 64 = a5) (e7 : a5.clear = a6) (e8 : (a6.sweepN 1 : Int) = 2) (e8' : a6.sweepA 1 = a7)
    (e9 : a7.clsI 1 = -1) (e10 : (a7.n : Int) = 8) (e11 : a5.is 64 = true) (e12 : (a5.mrI 1 : Int) = 1) (e13 : (a5.tkI 1 : Int) = 3) (e14 : a7.is 64 = false) :
    Calls Tryd.prog 37 #[] w fun e w' => e = .returned (.bool true) ∧ G w w' := by
  have hb : Hid (Below w.heap.size w w) := G.refl w
  go_enter Tryd.func37, Tryd.ntmps37
  go_wp2_with fail
  refine (st_make8 hb ht).mono ?_
  rintro e w1 ⟨d, rfl, S, _, _, _, _⟩
  replace S := hide S
  go_wp2_with fail
  refine (st_set S 1 0).mono ?_
  rw [e1, e1']
  rintro e w2 ⟨rfl, S2, _⟩
  clear S
  replace S := hide S2
  clear S2
  go_wp2_with fail
  refine (st_take S 1).mono ?_
  rw [e2, e2', e2'']
  rintro e w3 ⟨rfl, S2, _⟩
  clear S
  replace S := hide S2
  clear S2
  go_wp2_with fail
  refine (st_take S 1).mono ?_
  rw [e3, e3', e3'']
  rintro e w4 ⟨rfl, S2, _⟩
  clear S
  replace S := hide S2
  clear S2
  go_wp2_with fail
  refine (st_write S 66 1 5).mono ?_
  rw [e4, e4']
  rintro e w5 ⟨rfl, S2, _⟩
  clear S
  replace S := hide S2
  clear S2
  go_wp2_with fail
  refine (st_read S 66 1).mono ?_
  rw [e5, e5']
  rintro e w6 ⟨rfl, S2, _⟩
  clear S
  replace S := hide S2
  clear S2
  go_wp2_with fail
  refine (st_mark S 64).mono ?_
  rw [e6, e6']
  rintro e w7 ⟨rfl, S2, _⟩
  clear S
  replace S := hide S2
  clear S2
  go_wp2_with fail
  refine (st_copy S).mono ?_
  rintro e w8 ⟨d2, rfl, S2, B, _, h0, h1, h2⟩
  have P := hide ((unhide S).apart h0 h1 h2).2
  clear S h0 h1 h2
  replace S := hide S2
  replace B := hide B
  clear S2
  go_wp2_with fail
  refine (st_clear S).mono ?_
  rw [e7]
  rintro e w9 ⟨rfl, S2, t⟩
  replace B := hide ((unhide P).keeps (unhide B) S2 t)
  clear S t
  replace S := hide S2
  clear S2
  go_wp2_with fail
  refine (st_sweep S 1).mono ?_
  rw [e8, e8']
  rintro e w10 ⟨rfl, S2, t⟩
  replace B := hide ((unhide P).keeps (unhide B) S2 t)
  clear S t
  replace S := hide S2
  clear S2
  go_wp2_with fail
  refine (st_cls S 1).mono ?_
  rw [e9]
  rintro e w11 ⟨rfl, S2, g⟩
  replace B := hide ((unhide B).G g)
  clear S g
  replace S := hide S2
  clear S2
  go_wp2_with fail
  refine (st_spans S).mono ?_
  rw [e10]
  rintro e w12 ⟨rfl, rfl⟩
  go_wp2_with fail
  refine (st_is B 64).mono ?_
  rw [e11]
  rintro e w13 ⟨rfl, S2, g⟩
  replace S := hide ((unhide S).G g)
  clear B g
  replace B := hide S2
  clear S2
  go_wp2_with fail
  refine (st_marked B 1).mono ?_
  rw [e12]
  rintro e w14 ⟨rfl, S2, g⟩
  replace S := hide ((unhide S).G g)
  clear B g
  replace B := hide S2
  clear S2
  go_wp2_with fail
  refine (st_taken B 1).mono ?_
  rw [e13]
  rintro e w15 ⟨rfl, S2, g⟩
  replace S := hide ((unhide S).G g)
  clear B g S2
  go_wp2_with fail
  refine (st_is S 64).mono ?_
  rw [e14]
  rintro e w16 ⟨rfl, S2, _⟩
  replace S := hide S2
  clear S2
  go_wp2_with fail
  go_ret
  exact ⟨rfl, (unhide S).below⟩

theorem awake_true (w : World) (ht : Tab w) : Calls Tryd.prog 37 #[] w fun e w' => e = .returned (.bool true) ∧ G w w' :=
  awake_core w (hide ht) _ _ _ _ _ _ _ (by decide +kernel) rfl (by decide +kernel) (by decide +kernel) rfl (by decide +kernel) (by decide +kernel) rfl (by decide +kernel) rfl (by decide +kernel) (by decide +kernel) (by decide +kernel) rfl rfl (by decide +kernel) rfl
    (by decide +kernel) (by decide +kernel) (by decide +kernel) (by decide +kernel) (by decide +kernel) (by decide +kernel)
end Go.Proofs.YtagfgpfdlcchoaaDoor
