/- awake() of gantlinelaw9. -/
import Derived.Test.YtdekhnfncecacaaDoorCodeSmall
import Derived.Test.YtdekhnfncecacaaDoorCodeShow
import Derived.Deep.RegionHeld3
namespace Go.Proofs.YtdekhnfncecacaaDoor
set_option maxRecDepth 100000
open Go.RowKit Go.Maps Go.ChangeShapes Go.WideShapes Go.ChangeAt Go.Deep

theorem OwnR.le {w : World} {B g cap : Nat} {zs : List Int} (h : OwnR w B g cap zs) : zs.length ≤ cap := by
  rcases h with h | ⟨h1, _⟩
  · rcases h.2 with ⟨e, _⟩ | ⟨g0, c0, cur, e, _, _, hle, _⟩
    · simp at e
    · simp at e; omega
  · omega
theorem dig_small (u : Nat) (h : u < 10) : Lib.decDigits u = [UInt8.ofNat (48 + u)] := by rw [Lib.decDigits, dif_pos h]
theorem itoa_small (u : Nat) (h : u < 10) : Lib.itoa (u : Int) = [UInt8.ofNat (48 + u)] := by
  unfold Lib.itoa
  rw [if_neg (by omega), Int.toNat_natCast, dig_small u h]
theorem show_add : showP ⟨3, 1, 2, 3, 0⟩ = [97, 100, 100, 32, 49, 32, 50, 32, 51] := by
  have e1 : Lib.itoa (1 : Int) = [49] := itoa_small 1 (by decide)
  have e2 : Lib.itoa (2 : Int) = [50] := itoa_small 2 (by decide)
  have e3 : Lib.itoa (3 : Int) = [51] := itoa_small 3 (by decide)
  show [97, 100, 100] ++ opsP [1, 2, 3] = _
  unfold opsP
  simp [e1, e2, e3]
/-- What is held in the law's last line. -/
def AwS (W : World) (mb g cap : Nat) (c0 c1 c2 c3 c4 c5 : Value) (x : World) : Prop := G W x ∧ x.cell? ⟨mb, 0, none⟩ = some c0 ∧ x.cell? ⟨mb, 1, none⟩ = some c1 ∧ x.cell? ⟨mb, 2, none⟩ = some c2 ∧ x.cell? ⟨mb, 3, none⟩ = some c3 ∧ x.cell? ⟨mb, 4, none⟩ = some c4 ∧ x.cell? ⟨mb, 5, none⟩ = some c5 ∧ (convert 31 9 (.slice (some ⟨g, 0, none⟩) 4 cap)).run Tryd.prog x = .ok (.string ⟨#[71, 79, 76, 49]⟩) x

set_option maxHeartbeats 1000000 in
theorem awake_core (w : World) (ht : Tab9 w) (sm : Md) (zs : List Int) (n : Nat) (SM : Hid (∀ w, Calls Tryd.prog 14 #[] w fun e w' => ∃ v, e = .returned v ∧ ModAt w' v sm ∧ G w w')) (hz : encM sm = zs) (hn : zs.length = n) (ok : oMd sm) (hlen : n ≤ 1000) (hlen4 : 4 < n) (hf4 : zs.take 4 = fst4) :
    Calls Tryd.prog 5 #[] w fun e w' => e = .returned (.bool true) ∧ G w w' := by
  have HT := hide ht
  have EN := fun w1 v h => encode_any w1 v sm h ok (by rw [hz, hn]; omega)
  rw [hz, hn] at EN
  replace EN := hide EN
  have hdec := dec_enc sm ok
  have HB := enc_byt sm ok
  rw [hz] at hdec HB
  replace hdec := hide hdec
  replace HB := hide HB
  have HF := hide hf4
  have SAME := hide (fun x v v2 h1 h2 => same_any x v v2 sm sm h1 h2)
  have HN := hide hn
  clear ht hz hn hf4 ok
  go_enter Tryd.func5, Tryd.ntmps5
  go_wp2_with fail
  refine (unhide SM _).mono ?_
  rintro e w1 ⟨v, rfl, hM, g1⟩
  have E1 := hide (unhide EN w1 v hM)
  have G1 := hide g1
  clear EN g1 hM
  go_wp2_with fail
  refine (unhide E1).mono ?_
  rintro e w2 ⟨g, cap, rfl, hO, g2⟩
  have hcap := hO.le
  have hrow := hO.row (unhide HB)
  rw [unhide HN] at hcap hrow
  have D := hide (decode_any w2 (some ⟨g, 0, none⟩) n cap zs hrow hcap (by omega))
  have HROW := hide hrow
  have G2 := hide ((unhide G1).trans g2)
  clear E1 g2 hO hrow G1
  go_wp2_with fail
  refine (unhide D).mono ?_
  rintro e w3 ⟨va, er, m, rfl, hMm, _, g3, hcase⟩
  obtain ⟨rfl, rfl⟩ : sm = m ∧ er = 0 := by
    rcases hcase with ⟨h1, h2⟩ | ⟨h1, _⟩
    · rw [unhide hdec] at h1; exact ⟨Option.some.inj h1, h2⟩
    · rw [unhide hdec] at h1; cases h1
  obtain ⟨so, sc, go, gc, co, cc, ao, ac, fo, fc, rfl, r1, r2, r3, r4, r5⟩ := hMm
  obtain ⟨w4, hw4⟩ : ∃ w4, w4 = w3.alloc (.cells #[.slice so sm.sh.length sc, .slice go sm.gl.length gc, .slice co sm.co.length cc, .slice ao sm.ca.length ac, .slice fo sm.fn.length fc, .int .i64 sm.main] 28) := ⟨_, rfl⟩
  have g34 : G w3 w4 := by rw [hw4]; exact G.alloc _ _
  have hM4 : ModAt w4 (.agg #[.slice so sm.sh.length sc, .slice go sm.gl.length gc, .slice co sm.co.length cc, .slice ao sm.ca.length ac, .slice fo sm.fn.length fc, .int .i64 sm.main]) sm := ModAt.g ⟨so, sc, go, gc, co, cc, ao, ac, fo, fc, rfl, r1, r2, r3, r4, r5⟩ g34
  have KP : Hid (∀ x, G w4 x → G w4 x ∧ x.cell? ⟨w3.heap.size, 0, none⟩ = some (.slice so sm.sh.length sc) ∧ x.cell? ⟨w3.heap.size, 1, none⟩ = some (.slice go sm.gl.length gc) ∧ x.cell? ⟨w3.heap.size, 2, none⟩ = some (.slice co sm.co.length cc) ∧ x.cell? ⟨w3.heap.size, 3, none⟩ = some (.slice ao sm.ca.length ac) ∧ x.cell? ⟨w3.heap.size, 4, none⟩ = some (.slice fo sm.fn.length fc) ∧ x.cell? ⟨w3.heap.size, 5, none⟩ = some (.int .i64 sm.main) ∧ (convert 31 9 (.slice (some ⟨g, 0, none⟩) 4 cap)).run Tryd.prog x = .ok (.string ⟨#[71, 79, 76, 49]⟩) x) := hide fun x gx => by
    refine ⟨gx, gx.cell (by rw [hw4]; simp [go_sem]), gx.cell (by rw [hw4]; simp [go_sem]), gx.cell (by rw [hw4]; simp [go_sem]), gx.cell (by rw [hw4]; simp [go_sem]), gx.cell (by rw [hw4]; simp [go_sem]), gx.cell (by rw [hw4]; simp [go_sem]), ?_⟩
    have hr := ((unhide HROW).later (g3.trans (g34.trans gx))).take (k := 4) (by omega)
    rw [unhide HF] at hr
    exact conv_row hr cap
  have KC : Hid (∀ x x2, G x x2 → (G w4 x ∧ x.cell? ⟨w3.heap.size, 0, none⟩ = some (.slice so sm.sh.length sc) ∧ x.cell? ⟨w3.heap.size, 1, none⟩ = some (.slice go sm.gl.length gc) ∧ x.cell? ⟨w3.heap.size, 2, none⟩ = some (.slice co sm.co.length cc) ∧ x.cell? ⟨w3.heap.size, 3, none⟩ = some (.slice ao sm.ca.length ac) ∧ x.cell? ⟨w3.heap.size, 4, none⟩ = some (.slice fo sm.fn.length fc) ∧ x.cell? ⟨w3.heap.size, 5, none⟩ = some (.int .i64 sm.main) ∧ (convert 31 9 (.slice (some ⟨g, 0, none⟩) 4 cap)).run Tryd.prog x = .ok (.string ⟨#[71, 79, 76, 49]⟩) x) → (G w4 x2 ∧ x2.cell? ⟨w3.heap.size, 0, none⟩ = some (.slice so sm.sh.length sc) ∧ x2.cell? ⟨w3.heap.size, 1, none⟩ = some (.slice go sm.gl.length gc) ∧ x2.cell? ⟨w3.heap.size, 2, none⟩ = some (.slice co sm.co.length cc) ∧ x2.cell? ⟨w3.heap.size, 3, none⟩ = some (.slice ao sm.ca.length ac) ∧ x2.cell? ⟨w3.heap.size, 4, none⟩ = some (.slice fo sm.fn.length fc) ∧ x2.cell? ⟨w3.heap.size, 5, none⟩ = some (.int .i64 sm.main) ∧ (convert 31 9 (.slice (some ⟨g, 0, none⟩) 4 cap)).run Tryd.prog x2 = .ok (.string ⟨#[71, 79, 76, 49]⟩) x2)) := hide fun x x2 hg hs => unhide KP x2 (hs.1.trans hg)
  have FIN := hide (fun x (gx : G w4 x) => (((unhide G2).trans g3).trans g34).trans gx)
  have TB : ∀ x, G w4 x → Tab9 x := fun x gx => (unhide HT).g (unhide FIN x gx)
  have CS : Hid (∀ x, (G w4 x ∧ x.cell? ⟨w3.heap.size, 0, none⟩ = some (.slice so sm.sh.length sc) ∧ x.cell? ⟨w3.heap.size, 1, none⟩ = some (.slice go sm.gl.length gc) ∧ x.cell? ⟨w3.heap.size, 2, none⟩ = some (.slice co sm.co.length cc) ∧ x.cell? ⟨w3.heap.size, 3, none⟩ = some (.slice ao sm.ca.length ac) ∧ x.cell? ⟨w3.heap.size, 4, none⟩ = some (.slice fo sm.fn.length fc) ∧ x.cell? ⟨w3.heap.size, 5, none⟩ = some (.int .i64 sm.main) ∧ (convert 31 9 (.slice (some ⟨g, 0, none⟩) 4 cap)).run Tryd.prog x = .ok (.string ⟨#[71, 79, 76, 49]⟩) x) → Calls Tryd.prog 14 #[] x fun e w' => ∃ v, e = .returned v ∧ ModAt w' v sm ∧ G x w') := hide fun x _ => unhide SM x
  have CE : Hid (∀ x v2, (G w4 x ∧ x.cell? ⟨w3.heap.size, 0, none⟩ = some (.slice so sm.sh.length sc) ∧ x.cell? ⟨w3.heap.size, 1, none⟩ = some (.slice go sm.gl.length gc) ∧ x.cell? ⟨w3.heap.size, 2, none⟩ = some (.slice co sm.co.length cc) ∧ x.cell? ⟨w3.heap.size, 3, none⟩ = some (.slice ao sm.ca.length ac) ∧ x.cell? ⟨w3.heap.size, 4, none⟩ = some (.slice fo sm.fn.length fc) ∧ x.cell? ⟨w3.heap.size, 5, none⟩ = some (.int .i64 sm.main) ∧ (convert 31 9 (.slice (some ⟨g, 0, none⟩) 4 cap)).run Tryd.prog x = .ok (.string ⟨#[71, 79, 76, 49]⟩) x) → ModAt x v2 sm → Calls Tryd.prog 12 #[.agg #[.slice so sm.sh.length sc, .slice go sm.gl.length gc, .slice co sm.co.length cc, .slice ao sm.ca.length ac, .slice fo sm.fn.length fc, .int .i64 sm.main], v2] x fun e w' => e = .returned (.bool true) ∧ G x w') := hide fun x v2 hs h2 => by
    refine (unhide SAME x _ v2 (hM4.g hs.1) h2).mono ?_
    rintro e w' ⟨q, rfl, hq, hg⟩
    exact ⟨by rw [hq.2 (by simp)], hg⟩
  have CW : Hid (∀ x, (G w4 x ∧ x.cell? ⟨w3.heap.size, 0, none⟩ = some (.slice so sm.sh.length sc) ∧ x.cell? ⟨w3.heap.size, 1, none⟩ = some (.slice go sm.gl.length gc) ∧ x.cell? ⟨w3.heap.size, 2, none⟩ = some (.slice co sm.co.length cc) ∧ x.cell? ⟨w3.heap.size, 3, none⟩ = some (.slice ao sm.ca.length ac) ∧ x.cell? ⟨w3.heap.size, 4, none⟩ = some (.slice fo sm.fn.length fc) ∧ x.cell? ⟨w3.heap.size, 5, none⟩ = some (.int .i64 sm.main) ∧ (convert 31 9 (.slice (some ⟨g, 0, none⟩) 4 cap)).run Tryd.prog x = .ok (.string ⟨#[71, 79, 76, 49]⟩) x) → Calls Tryd.prog 15 #[.agg #[.int .i64 3, .int .i64 1, .int .i64 2, .int .i64 3, .int .i64 0]] x fun e w' => e = .returned (.string ⟨#[97, 100, 100, 32, 49, 32, 50, 32, 51]⟩) ∧ G x w') := hide fun x hs => by
    have := show_any x ⟨3, 1, 2, 3, 0⟩ ⟨by unfold oI; decide, by unfold oI; decide, by unfold oI; decide, by unfold oI; decide, by unfold oI; decide⟩ (TB x hs.1)
    rw [show_add] at this
    exact this
  have CN : Hid (∀ x, (G w4 x ∧ x.cell? ⟨w3.heap.size, 0, none⟩ = some (.slice so sm.sh.length sc) ∧ x.cell? ⟨w3.heap.size, 1, none⟩ = some (.slice go sm.gl.length gc) ∧ x.cell? ⟨w3.heap.size, 2, none⟩ = some (.slice co sm.co.length cc) ∧ x.cell? ⟨w3.heap.size, 3, none⟩ = some (.slice ao sm.ca.length ac) ∧ x.cell? ⟨w3.heap.size, 4, none⟩ = some (.slice fo sm.fn.length fc) ∧ x.cell? ⟨w3.heap.size, 5, none⟩ = some (.int .i64 sm.main) ∧ (convert 31 9 (.slice (some ⟨g, 0, none⟩) 4 cap)).run Tryd.prog x = .ok (.string ⟨#[71, 79, 76, 49]⟩) x) → Calls Tryd.prog 16 #[.int .i64 44] x fun e w' => e = .returned (.string ⟨#[116, 114, 97, 112]⟩) ∧ G x w') := hide fun x hs => name_any x 44 (TB x hs.1).1
  have CP : Hid (∀ x, (G w4 x ∧ x.cell? ⟨w3.heap.size, 0, none⟩ = some (.slice so sm.sh.length sc) ∧ x.cell? ⟨w3.heap.size, 1, none⟩ = some (.slice go sm.gl.length gc) ∧ x.cell? ⟨w3.heap.size, 2, none⟩ = some (.slice co sm.co.length cc) ∧ x.cell? ⟨w3.heap.size, 3, none⟩ = some (.slice ao sm.ca.length ac) ∧ x.cell? ⟨w3.heap.size, 4, none⟩ = some (.slice fo sm.fn.length fc) ∧ x.cell? ⟨w3.heap.size, 5, none⟩ = some (.int .i64 sm.main) ∧ (convert 31 9 (.slice (some ⟨g, 0, none⟩) 4 cap)).run Tryd.prog x = .ok (.string ⟨#[71, 79, 76, 49]⟩) x) → Calls Tryd.prog 17 #[.int .i64 43] x fun e w' => e = .returned (.bool true) ∧ G x w') := hide fun x hs => point_any x 43 (TB x hs.1).1
  have CM1 : Hid (∀ x, (G w4 x ∧ x.cell? ⟨w3.heap.size, 0, none⟩ = some (.slice so sm.sh.length sc) ∧ x.cell? ⟨w3.heap.size, 1, none⟩ = some (.slice go sm.gl.length gc) ∧ x.cell? ⟨w3.heap.size, 2, none⟩ = some (.slice co sm.co.length cc) ∧ x.cell? ⟨w3.heap.size, 3, none⟩ = some (.slice ao sm.ca.length ac) ∧ x.cell? ⟨w3.heap.size, 4, none⟩ = some (.slice fo sm.fn.length fc) ∧ x.cell? ⟨w3.heap.size, 5, none⟩ = some (.int .i64 sm.main) ∧ (convert 31 9 (.slice (some ⟨g, 0, none⟩) 4 cap)).run Tryd.prog x = .ok (.string ⟨#[71, 79, 76, 49]⟩) x) → Calls Tryd.prog 18 #[.int .i64 25] x fun e w' => e = .returned (.bool true) ∧ G x w') := hide fun x hs => maker_any x 25 (TB x hs.1).1
  have CM2 : Hid (∀ x, (G w4 x ∧ x.cell? ⟨w3.heap.size, 0, none⟩ = some (.slice so sm.sh.length sc) ∧ x.cell? ⟨w3.heap.size, 1, none⟩ = some (.slice go sm.gl.length gc) ∧ x.cell? ⟨w3.heap.size, 2, none⟩ = some (.slice co sm.co.length cc) ∧ x.cell? ⟨w3.heap.size, 3, none⟩ = some (.slice ao sm.ca.length ac) ∧ x.cell? ⟨w3.heap.size, 4, none⟩ = some (.slice fo sm.fn.length fc) ∧ x.cell? ⟨w3.heap.size, 5, none⟩ = some (.int .i64 sm.main) ∧ (convert 31 9 (.slice (some ⟨g, 0, none⟩) 4 cap)).run Tryd.prog x = .ok (.string ⟨#[71, 79, 76, 49]⟩) x) → Calls Tryd.prog 18 #[.int .i64 27] x fun e w' => e = .returned (.bool false) ∧ G x w') := hide fun x hs => maker_any x 27 (TB x hs.1).1
  have K0 := unhide KP w4 (G.refl _)
  have hd4 : decide (4 < n) = true := decide_eq_true hlen4
  have hi4 : (4 : Int) < (n : Int) := by omega
  have hdi4 : decide ((4 : Int) < (n : Int)) = true := decide_eq_true hi4
  have hc4 : 4 ≤ cap := by omega
  have hci4 : (4 : Int) ≤ (cap : Int) := by omega
  have KD : Hid (G w4 w4.drew ∧ w4.drew.cell? ⟨w3.heap.size, 0, none⟩ = some (.slice so sm.sh.length sc) ∧ w4.drew.cell? ⟨w3.heap.size, 1, none⟩ = some (.slice go sm.gl.length gc) ∧ w4.drew.cell? ⟨w3.heap.size, 2, none⟩ = some (.slice co sm.co.length cc) ∧ w4.drew.cell? ⟨w3.heap.size, 3, none⟩ = some (.slice ao sm.ca.length ac) ∧ w4.drew.cell? ⟨w3.heap.size, 4, none⟩ = some (.slice fo sm.fn.length fc) ∧ w4.drew.cell? ⟨w3.heap.size, 5, none⟩ = some (.int .i64 sm.main) ∧ (convert 31 9 (.slice (some ⟨g, 0, none⟩) 4 cap)).run Tryd.prog w4.drew = .ok (.string ⟨#[71, 79, 76, 49]⟩) w4.drew) := hide (unhide KP _ ((G.refl w4).drew))
  clear hcase D hdec g34 hM4 r1 r2 r3 r4 r5 g3 TB HROW HF SAME
  go_wp2_with fail
  rw [← hw4]
  clear hw4
  go_region_held3 (fun x => G w4 x ∧ x.cell? ⟨w3.heap.size, 0, none⟩ = some (.slice so sm.sh.length sc) ∧ x.cell? ⟨w3.heap.size, 1, none⟩ = some (.slice go sm.gl.length gc) ∧ x.cell? ⟨w3.heap.size, 2, none⟩ = some (.slice co sm.co.length cc) ∧ x.cell? ⟨w3.heap.size, 3, none⟩ = some (.slice ao sm.ca.length ac) ∧ x.cell? ⟨w3.heap.size, 4, none⟩ = some (.slice fo sm.fn.length fc) ∧ x.cell? ⟨w3.heap.size, 5, none⟩ = some (.int .i64 sm.main) ∧ (convert 31 9 (.slice (some ⟨g, 0, none⟩) 4 cap)).run Tryd.prog x = .ok (.string ⟨#[71, 79, 76, 49]⟩) x)
    (first | assumption | exact unhide KD | exact unhide KC _ _ (by assumption) (by assumption))
    ((first
      | (go_at_call 14; refine (unhide CS _ ?_).mono ?_; assumption; rintro e x2 ⟨v2, rfl, hM2, hg2⟩)
      | (go_at_call 12; refine (unhide CE _ _ ?_ (by first | exact hM2 | exact hM2.g (G.drew (G.refl _)))).mono ?_; assumption; rintro e x3 ⟨rfl, hg3⟩)
      | (go_at_call 15; refine (unhide CW _ ?_).mono ?_; assumption; rintro e x4 ⟨rfl, hg4⟩)
      | (go_at_call 16; refine (unhide CN _ ?_).mono ?_; assumption; rintro e x5 ⟨rfl, hg5⟩)
      | (go_at_call 17; refine (unhide CP _ ?_).mono ?_; assumption; rintro e x6 ⟨rfl, hg6⟩)
      | (go_at_call_of 18 (Value.int IntKind.i64 25); refine (unhide CM1 _ ?_).mono ?_; assumption; rintro e x7 ⟨rfl, hg7⟩)
      | (go_at_call_of 18 (Value.int IntKind.i64 27); refine (unhide CM2 _ ?_).mono ?_; assumption; rintro e x8 ⟨rfl, hg8⟩)))
  all_goals
    go_wp2_with fail
    go_ret
    exact ⟨rfl, unhide FIN _ ((((((((G.refl w4).drew.trans hg2).trans hg3).trans hg4).trans hg5).trans hg6).trans hg7).trans hg8)⟩
theorem awake_any (w : World) (ht : Tab9 w) : Calls Tryd.prog 5 #[] w fun e w' => e = .returned (.bool true) ∧ G w w' :=
  awake_core w ht smallMd _ _ (hide small_any) rfl rfl small_ok (by decide +kernel) (by decide +kernel) rfl
end Go.Proofs.YtdekhnfncecacaaDoor
