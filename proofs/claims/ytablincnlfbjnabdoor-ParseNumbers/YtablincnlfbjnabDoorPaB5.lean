/- The program's parser: prim (laid by py/pax.py). -/
import Derived.Test.YtablincnlfbjnabDoorPaB4
namespace Go.Proofs.YtablincnlfbjnabDoor
set_option maxRecDepth 100000
open Go.RowKit Go.Maps Go.ChangeShapes Go.WideShapes Go.ChangeAt Go.Deep

theorem rc_8 : RowC (⟨#[116, 114, 117, 101]⟩ : ByteArray) [.word [116, 114, 117, 101]] := ⟨by decide +kernel, by decide +kernel, by decide +kernel, by decide +kernel, by decide +kernel⟩
theorem rc_9 : RowC (⟨#[102, 97, 108, 115, 101]⟩ : ByteArray) [.word [102, 97, 108, 115, 101]] := ⟨by decide +kernel, by decide +kernel, by decide +kernel, by decide +kernel, by decide +kernel⟩
theorem rc_10 : RowC (⟨#[110, 105, 108, 32, 40, 32, 116, 121, 112, 101, 32, 41]⟩ : ByteArray) [.word [110, 105, 108], .word [40], .part .type, .word [41]] := ⟨by decide +kernel, by decide +kernel, by decide +kernel, by decide +kernel, by decide +kernel⟩
theorem rc_11 : RowC (⟨#[110, 101, 119, 32, 78, 65, 77, 69]⟩ : ByteArray) [.word [110, 101, 119], .name] := ⟨by decide +kernel, by decide +kernel, by decide +kernel, by decide +kernel, by decide +kernel⟩
theorem rc_12 : RowC (⟨#[109, 97, 107, 101, 32, 40, 32, 116, 121, 112, 101, 32, 44, 32, 105, 110, 115, 105, 100, 101, 32, 41]⟩ : ByteArray) [.word [109, 97, 107, 101], .word [40], .part .type, .word [44], .part .inside, .word [41]] := ⟨by decide +kernel, by decide +kernel, by decide +kernel, by decide +kernel, by decide +kernel⟩
theorem rc_13 : RowC (⟨#[108, 101, 110, 32, 40, 32, 105, 110, 115, 105, 100, 101, 32, 41]⟩ : ByteArray) [.word [108, 101, 110], .word [40], .part .inside, .word [41]] := ⟨by decide +kernel, by decide +kernel, by decide +kernel, by decide +kernel, by decide +kernel⟩
theorem rc_14 : RowC (⟨#[114, 101, 99, 118, 32, 40, 32, 105, 110, 115, 105, 100, 101, 32, 41]⟩ : ByteArray) [.word [114, 101, 99, 118], .word [40], .part .inside, .word [41]] := ⟨by decide +kernel, by decide +kernel, by decide +kernel, by decide +kernel, by decide +kernel⟩
theorem rc_15 : RowC (⟨#[102, 117, 110, 99, 32, 40, 32, 112, 97, 114, 97, 109, 115, 32, 41, 32, 91, 116, 121, 112, 101, 93, 32, 98, 108, 111, 99, 107]⟩ : ByteArray) [.word [102, 117, 110, 99], .word [40], .part .params, .word [41], .part .typeOr, .part .block] := ⟨by decide +kernel, by decide +kernel, by decide +kernel, by decide +kernel, by decide +kernel⟩
theorem rc_16 : RowC (⟨#[78, 85, 77, 66, 69, 82]⟩ : ByteArray) [.number] := ⟨by decide +kernel, by decide +kernel, by decide +kernel, by decide +kernel, by decide +kernel⟩
/-- A node in a box, and a call that tells nothing behind it: it is answered. -/
theorem paren_any {rb wb wc : Nat} {ws : List Wd} {s s3 : PS} {r : Tt × PS} {y w1 w2 : World} {o0 : Option Addr} {n0 c0 : Nat} (p : Pn rb wb wc ws s y w1) (b : BoxT y.heap.size [] [] 0 (.slice none 0 0) w1) (ho : OwK w2 w1.heap.size (.slice o0 n0 c0) r.1.ks) (h2 : RSt rb wb wc ws r.2 w2) (g2 : Gt rb w1 w2) :
    RSt rb wb wc ws r.2 (w2.alloc (.cells #[.string ⟨r.1.k.toArray⟩, .string ⟨r.1.x.toArray⟩, .int .i64 r.1.a, .slice o0 n0 c0] 27)) ∧ ∀ w3, RSt rb wb wc ws s3 w3 → Gt rb (w2.alloc (.cells #[.string ⟨r.1.k.toArray⟩, .string ⟨r.1.x.toArray⟩, .int .i64 r.1.a, .slice o0 n0 c0] 27)) w3 →
      (w3.cell? ⟨w2.heap.size, 0, none⟩ = some (.string ⟨r.1.k.toArray⟩) ∧ w3.cell? ⟨w2.heap.size, 1, none⟩ = some (.string ⟨r.1.x.toArray⟩) ∧ w3.cell? ⟨w2.heap.size, 2, none⟩ = some (.int .i64 r.1.a) ∧ w3.cell? ⟨w2.heap.size, 3, none⟩ = some (.slice o0 n0 c0)) ∧
      (∃ u0 u1 u2 u3, w3.cell? ⟨y.heap.size, 0, none⟩ = some u0 ∧ w3.cell? ⟨y.heap.size, 1, none⟩ = some u1 ∧ w3.cell? ⟨y.heap.size, 2, none⟩ = some u2 ∧ w3.cell? ⟨y.heap.size, 3, none⟩ = some u3) ∧ (w3.frozen? ⟨y.heap.size, 0, none⟩ = false ∧ w3.frozen? ⟨y.heap.size, 1, none⟩ = false ∧ w3.frozen? ⟨y.heap.size, 2, none⟩ = false ∧ w3.frozen? ⟨y.heap.size, 3, none⟩ = false) ∧
      Hid (NTo rb wb wc ws (r.1, s3) y (.returned (.agg (ndT r.1.k r.1.x r.1.a (.slice o0 n0 c0)))) (put4 w3 y.heap.size r.1.k r.1.x r.1.a (.slice o0 n0 c0)) ∧ ((put4 w3 y.heap.size r.1.k r.1.x r.1.a (.slice o0 n0 c0)).cell? ⟨y.heap.size, 0, none⟩ = some (.string ⟨r.1.k.toArray⟩) ∧ (put4 w3 y.heap.size r.1.k r.1.x r.1.a (.slice o0 n0 c0)).cell? ⟨y.heap.size, 1, none⟩ = some (.string ⟨r.1.x.toArray⟩) ∧ (put4 w3 y.heap.size r.1.k r.1.x r.1.a (.slice o0 n0 c0)).cell? ⟨y.heap.size, 2, none⟩ = some (.int .i64 r.1.a) ∧ (put4 w3 y.heap.size r.1.k r.1.x r.1.a (.slice o0 n0 c0)).cell? ⟨y.heap.size, 3, none⟩ = some (.slice o0 n0 c0))) := by
  have ga := G.alloc w2 (.cells #[.string ⟨r.1.k.toArray⟩, .string ⟨r.1.x.toArray⟩, .int .i64 r.1.a, .slice o0 n0 c0] 27)
  refine ⟨h2.g ga, fun w3 h3 g3 => ?_⟩
  have hrl := p.rl
  have hb := b.lt
  have z2 := g2.size
  have bm : BoxT w2.heap.size r.1.k r.1.x r.1.a (.slice o0 n0 c0) (w2.alloc (.cells #[.string ⟨r.1.k.toArray⟩, .string ⟨r.1.x.toArray⟩, .int .i64 r.1.a, .slice o0 n0 c0] 27)) := BoxT.new w2 _ _ _ _
  have nb : ¬ y.heap.size = rb := by omega
  have nm : ¬ w2.heap.size = rb := by omega
  obtain ⟨q1, q2, q3⟩ := fin_any (r := (r.1, s3)) (((p.to h2 g2).g ga).to h3 g3) (((b.keep g2 nb).g ga).keep g3 nb) (OwA.mono (OwA.gt (OwA.g ho ga) (by omega) g3) (by omega))
  exact ⟨(bm.keep g3 nm).c, q1, q2, q3⟩
set_option maxHeartbeats 8000000 in
theorem prim_ok {rb wb wc : Nat} {ws : List Wd} {R : Nt → PS → Tt × PS} {M : Nat} (L : Lv rb wb wc ws R M) (s : PS) (hs : mu ws s < M + 1) : Ok rb wb wc ws 76 (primP ws R) s := by
  refine ok_of fun hk y h => ?_
  have fl0 := pfld0
  have fl1 := pfld1
  unfold primP
  by_cases hk3 : (wdAt ws s).k = 3
  · rw [if_pos hk3]
    have CW : Hid (∀ w1, RSt rb wb wc ws s w1 → Calls Tryd.prog 14 #[.pointer (some ⟨rb, 0, none⟩)] w1 (fun e w2 => e = .returned (.agg #[.int .i64 ((wdAt ws s).k : Int), .string ⟨(wdAt ws s).x.toArray⟩, .int .i64 ((wdAt ws s).o : Int)]) ∧ G w1 w2)) := hide fun w1 hh => word_any hh
    have CR : Hid (∀ w1, RSt rb wb wc ws s w1 → Calls Tryd.prog 13 #[.pointer (some ⟨rb, 0, none⟩), .string ⟨#[110, 117, 109, 98, 101, 114]⟩, .string ⟨#[78, 85, 77, 66, 69, 82]⟩, .slice none 0 0] w1 (NTo rb wb wc ws (pRow ws R [110, 117, 109, 98, 101, 114] [.number] [] s) w1)) := hide fun w1 hh => row_nil hh [110, 117, 109, 98, 101, 114] rc_16 (⟨trivial, trivial⟩)
    rw [hk3] at CW
    clear hk3
    generalize pRow ws R [110, 117, 109, 98, 101, 114] [.number] [] s = pr at *
    generalize (wdAt ws s).x = wx at *
    generalize (wdAt ws s).k = wk at *
    generalize (wdAt ws s).o = wo at *
    have p := hide ((Pn.new h).al (.cells zBox 27))
    have b := hide (BoxT.zero y)
    clear h hk hs L
    go_enter Tryd.func76, Tryd.ntmps76
    go_wp2_with fail
    refine (unhide CW _ (unhide p).st).mono ?_
    rintro e w1 ⟨rfl, g⟩
    replace b := hide ((unhide b).g g)
    replace p := hide ((unhide p).g g)
    clear g
    go_wp2_with fail
    refine (unhide CR _ (unhide p).st).mono ?_
    rintro e w2 hn
    obtain ⟨ao, n, c, rfl, ⟨u0, u1, u2, u3, q0, q1, q2, q3⟩, ⟨z0, z1, z2, z3⟩, K⟩ := arm_fin (unhide p) (unhide b) hn
    clear hn p b
    go_wp2_with fail
    obtain ⟨K1, d0, d1, d2, d3⟩ := unhide K
    refine bodyPost_ret (by simp [results, Tryd.results76, go_sem, d0, d1, d2, d3]; try rfl) rfl ?_
    exact K1
  rw [if_neg hk3]
  by_cases h0 : (wdAt ws s).x = [116, 114, 117, 101]
  · rw [if_pos h0]
    have CW : Hid (∀ w1, RSt rb wb wc ws s w1 → Calls Tryd.prog 14 #[.pointer (some ⟨rb, 0, none⟩)] w1 (fun e w2 => e = .returned (.agg #[.int .i64 ((wdAt ws s).k : Int), .string ⟨(wdAt ws s).x.toArray⟩, .int .i64 ((wdAt ws s).o : Int)]) ∧ G w1 w2)) := hide fun w1 hh => word_any hh
    have CR : Hid (∀ w1, RSt rb wb wc ws s w1 → Calls Tryd.prog 13 #[.pointer (some ⟨rb, 0, none⟩), .string ⟨#[116, 114, 117, 101]⟩, .string ⟨#[116, 114, 117, 101]⟩, .slice none 0 0] w1 (NTo rb wb wc ws (pRow ws R [116, 114, 117, 101] [.word [116, 114, 117, 101]] [] s) w1)) := hide fun w1 hh => row_nil hh [116, 114, 117, 101] rc_8 (L.word [] (by simp) hk hs h0 (by simp))
    rw [h0] at CW
    have n3 : ¬ ((wdAt ws s).k : Int) = 3 := by omega
    clear h0 hk3
    generalize pRow ws R [116, 114, 117, 101] [.word [116, 114, 117, 101]] [] s = pr at *
    generalize (wdAt ws s).x = wx at *
    generalize (wdAt ws s).k = wk at *
    generalize (wdAt ws s).o = wo at *
    have p := hide ((Pn.new h).al (.cells zBox 27))
    have b := hide (BoxT.zero y)
    clear h hk hs L
    go_enter Tryd.func76, Tryd.ntmps76
    go_wp2_with fail
    refine (unhide CW _ (unhide p).st).mono ?_
    rintro e w1 ⟨rfl, g⟩
    replace b := hide ((unhide b).g g)
    replace p := hide ((unhide p).g g)
    clear g
    go_wp2_with fail
    refine (unhide CW _ (unhide p).st).mono ?_
    rintro e w1 ⟨rfl, g⟩
    replace b := hide ((unhide b).g g)
    replace p := hide ((unhide p).g g)
    clear g
    go_wp2_with fail
    refine (unhide CR _ (unhide p).st).mono ?_
    rintro e w2 hn
    obtain ⟨ao, n, c, rfl, ⟨u0, u1, u2, u3, q0, q1, q2, q3⟩, ⟨z0, z1, z2, z3⟩, K⟩ := arm_fin (unhide p) (unhide b) hn
    clear hn p b
    go_wp2_with fail
    obtain ⟨K1, d0, d1, d2, d3⟩ := unhide K
    refine bodyPost_ret (by simp [results, Tryd.results76, go_sem, d0, d1, d2, d3]; try rfl) rfl ?_
    exact K1
  rw [if_neg h0]
  by_cases h1 : (wdAt ws s).x = [102, 97, 108, 115, 101]
  · rw [if_pos h1]
    have CW : Hid (∀ w1, RSt rb wb wc ws s w1 → Calls Tryd.prog 14 #[.pointer (some ⟨rb, 0, none⟩)] w1 (fun e w2 => e = .returned (.agg #[.int .i64 ((wdAt ws s).k : Int), .string ⟨(wdAt ws s).x.toArray⟩, .int .i64 ((wdAt ws s).o : Int)]) ∧ G w1 w2)) := hide fun w1 hh => word_any hh
    have CR : Hid (∀ w1, RSt rb wb wc ws s w1 → Calls Tryd.prog 13 #[.pointer (some ⟨rb, 0, none⟩), .string ⟨#[102, 97, 108, 115, 101]⟩, .string ⟨#[102, 97, 108, 115, 101]⟩, .slice none 0 0] w1 (NTo rb wb wc ws (pRow ws R [102, 97, 108, 115, 101] [.word [102, 97, 108, 115, 101]] [] s) w1)) := hide fun w1 hh => row_nil hh [102, 97, 108, 115, 101] rc_9 (L.word [] (by simp) hk hs h1 (by simp))
    rw [h1] at CW
    have n3 : ¬ ((wdAt ws s).k : Int) = 3 := by omega
    clear h1 hk3 h0
    generalize pRow ws R [102, 97, 108, 115, 101] [.word [102, 97, 108, 115, 101]] [] s = pr at *
    generalize (wdAt ws s).x = wx at *
    generalize (wdAt ws s).k = wk at *
    generalize (wdAt ws s).o = wo at *
    have p := hide ((Pn.new h).al (.cells zBox 27))
    have b := hide (BoxT.zero y)
    clear h hk hs L
    go_enter Tryd.func76, Tryd.ntmps76
    go_wp2_with fail
    refine (unhide CW _ (unhide p).st).mono ?_
    rintro e w1 ⟨rfl, g⟩
    replace b := hide ((unhide b).g g)
    replace p := hide ((unhide p).g g)
    clear g
    go_wp2_with fail
    refine (unhide CW _ (unhide p).st).mono ?_
    rintro e w1 ⟨rfl, g⟩
    replace b := hide ((unhide b).g g)
    replace p := hide ((unhide p).g g)
    clear g
    go_wp2_with fail
    refine (unhide CR _ (unhide p).st).mono ?_
    rintro e w2 hn
    obtain ⟨ao, n, c, rfl, ⟨u0, u1, u2, u3, q0, q1, q2, q3⟩, ⟨z0, z1, z2, z3⟩, K⟩ := arm_fin (unhide p) (unhide b) hn
    clear hn p b
    go_wp2_with fail
    obtain ⟨K1, d0, d1, d2, d3⟩ := unhide K
    refine bodyPost_ret (by simp [results, Tryd.results76, go_sem, d0, d1, d2, d3]; try rfl) rfl ?_
    exact K1
  rw [if_neg h1]
  by_cases h2 : (wdAt ws s).x = [110, 105, 108]
  · rw [if_pos h2]
    have CW : Hid (∀ w1, RSt rb wb wc ws s w1 → Calls Tryd.prog 14 #[.pointer (some ⟨rb, 0, none⟩)] w1 (fun e w2 => e = .returned (.agg #[.int .i64 ((wdAt ws s).k : Int), .string ⟨(wdAt ws s).x.toArray⟩, .int .i64 ((wdAt ws s).o : Int)]) ∧ G w1 w2)) := hide fun w1 hh => word_any hh
    have CR : Hid (∀ w1, RSt rb wb wc ws s w1 → Calls Tryd.prog 13 #[.pointer (some ⟨rb, 0, none⟩), .string ⟨#[110, 105, 108]⟩, .string ⟨#[110, 105, 108, 32, 40, 32, 116, 121, 112, 101, 32, 41]⟩, .slice none 0 0] w1 (NTo rb wb wc ws (pRow ws R [110, 105, 108] [.word [110, 105, 108], .word [40], .part .type, .word [41]] [] s) w1)) := hide fun w1 hh => row_nil hh [110, 105, 108] rc_10 (L.word [.word [40], .part .type, .word [41]] (by simp) hk hs h2 (by simp))
    rw [h2] at CW
    have n3 : ¬ ((wdAt ws s).k : Int) = 3 := by omega
    clear h2 hk3 h0 h1
    generalize pRow ws R [110, 105, 108] [.word [110, 105, 108], .word [40], .part .type, .word [41]] [] s = pr at *
    generalize (wdAt ws s).x = wx at *
    generalize (wdAt ws s).k = wk at *
    generalize (wdAt ws s).o = wo at *
    have p := hide ((Pn.new h).al (.cells zBox 27))
    have b := hide (BoxT.zero y)
    clear h hk hs L
    go_enter Tryd.func76, Tryd.ntmps76
    go_wp2_with fail
    refine (unhide CW _ (unhide p).st).mono ?_
    rintro e w1 ⟨rfl, g⟩
    replace b := hide ((unhide b).g g)
    replace p := hide ((unhide p).g g)
    clear g
    go_wp2_with fail
    refine (unhide CW _ (unhide p).st).mono ?_
    rintro e w1 ⟨rfl, g⟩
    replace b := hide ((unhide b).g g)
    replace p := hide ((unhide p).g g)
    clear g
    go_wp2_with fail
    refine (unhide CR _ (unhide p).st).mono ?_
    rintro e w2 hn
    obtain ⟨ao, n, c, rfl, ⟨u0, u1, u2, u3, q0, q1, q2, q3⟩, ⟨z0, z1, z2, z3⟩, K⟩ := arm_fin (unhide p) (unhide b) hn
    clear hn p b
    go_wp2_with fail
    obtain ⟨K1, d0, d1, d2, d3⟩ := unhide K
    refine bodyPost_ret (by simp [results, Tryd.results76, go_sem, d0, d1, d2, d3]; try rfl) rfl ?_
    exact K1
  rw [if_neg h2]
  by_cases h3 : (wdAt ws s).x = [110, 101, 119]
  · rw [if_pos h3]
    have CW : Hid (∀ w1, RSt rb wb wc ws s w1 → Calls Tryd.prog 14 #[.pointer (some ⟨rb, 0, none⟩)] w1 (fun e w2 => e = .returned (.agg #[.int .i64 ((wdAt ws s).k : Int), .string ⟨(wdAt ws s).x.toArray⟩, .int .i64 ((wdAt ws s).o : Int)]) ∧ G w1 w2)) := hide fun w1 hh => word_any hh
    have CR : Hid (∀ w1, RSt rb wb wc ws s w1 → Calls Tryd.prog 13 #[.pointer (some ⟨rb, 0, none⟩), .string ⟨#[110, 101, 119]⟩, .string ⟨#[110, 101, 119, 32, 78, 65, 77, 69]⟩, .slice none 0 0] w1 (NTo rb wb wc ws (pRow ws R [110, 101, 119] [.word [110, 101, 119], .name] [] s) w1)) := hide fun w1 hh => row_nil hh [110, 101, 119] rc_11 (L.word [.name] (by simp) hk hs h3 (by simp))
    rw [h3] at CW
    have n3 : ¬ ((wdAt ws s).k : Int) = 3 := by omega
    clear h3 hk3 h0 h1 h2
    generalize pRow ws R [110, 101, 119] [.word [110, 101, 119], .name] [] s = pr at *
    generalize (wdAt ws s).x = wx at *
    generalize (wdAt ws s).k = wk at *
    generalize (wdAt ws s).o = wo at *
    have p := hide ((Pn.new h).al (.cells zBox 27))
    have b := hide (BoxT.zero y)
    clear h hk hs L
    go_enter Tryd.func76, Tryd.ntmps76
    go_wp2_with fail
    refine (unhide CW _ (unhide p).st).mono ?_
    rintro e w1 ⟨rfl, g⟩
    replace b := hide ((unhide b).g g)
    replace p := hide ((unhide p).g g)
    clear g
    go_wp2_with fail
    refine (unhide CW _ (unhide p).st).mono ?_
    rintro e w1 ⟨rfl, g⟩
    replace b := hide ((unhide b).g g)
    replace p := hide ((unhide p).g g)
    clear g
    go_wp2_with fail
    refine (unhide CR _ (unhide p).st).mono ?_
    rintro e w2 hn
    obtain ⟨ao, n, c, rfl, ⟨u0, u1, u2, u3, q0, q1, q2, q3⟩, ⟨z0, z1, z2, z3⟩, K⟩ := arm_fin (unhide p) (unhide b) hn
    clear hn p b
    go_wp2_with fail
    obtain ⟨K1, d0, d1, d2, d3⟩ := unhide K
    refine bodyPost_ret (by simp [results, Tryd.results76, go_sem, d0, d1, d2, d3]; try rfl) rfl ?_
    exact K1
  rw [if_neg h3]
  by_cases h4 : (wdAt ws s).x = [109, 97, 107, 101]
  · rw [if_pos h4]
    have CW : Hid (∀ w1, RSt rb wb wc ws s w1 → Calls Tryd.prog 14 #[.pointer (some ⟨rb, 0, none⟩)] w1 (fun e w2 => e = .returned (.agg #[.int .i64 ((wdAt ws s).k : Int), .string ⟨(wdAt ws s).x.toArray⟩, .int .i64 ((wdAt ws s).o : Int)]) ∧ G w1 w2)) := hide fun w1 hh => word_any hh
    have CR : Hid (∀ w1, RSt rb wb wc ws s w1 → Calls Tryd.prog 13 #[.pointer (some ⟨rb, 0, none⟩), .string ⟨#[109, 97, 107, 101]⟩, .string ⟨#[109, 97, 107, 101, 32, 40, 32, 116, 121, 112, 101, 32, 44, 32, 105, 110, 115, 105, 100, 101, 32, 41]⟩, .slice none 0 0] w1 (NTo rb wb wc ws (pRow ws R [109, 97, 107, 101] [.word [109, 97, 107, 101], .word [40], .part .type, .word [44], .part .inside, .word [41]] [] s) w1)) := hide fun w1 hh => row_nil hh [109, 97, 107, 101] rc_12 (L.word [.word [40], .part .type, .word [44], .part .inside, .word [41]] (by simp) hk hs h4 (by simp))
    rw [h4] at CW
    have n3 : ¬ ((wdAt ws s).k : Int) = 3 := by omega
    clear h4 hk3 h0 h1 h2 h3
    generalize pRow ws R [109, 97, 107, 101] [.word [109, 97, 107, 101], .word [40], .part .type, .word [44], .part .inside, .word [41]] [] s = pr at *
    generalize (wdAt ws s).x = wx at *
    generalize (wdAt ws s).k = wk at *
    generalize (wdAt ws s).o = wo at *
    have p := hide ((Pn.new h).al (.cells zBox 27))
    have b := hide (BoxT.zero y)
    clear h hk hs L
    go_enter Tryd.func76, Tryd.ntmps76
    go_wp2_with fail
    refine (unhide CW _ (unhide p).st).mono ?_
    rintro e w1 ⟨rfl, g⟩
    replace b := hide ((unhide b).g g)
    replace p := hide ((unhide p).g g)
    clear g
    go_wp2_with fail
    refine (unhide CW _ (unhide p).st).mono ?_
    rintro e w1 ⟨rfl, g⟩
    replace b := hide ((unhide b).g g)
    replace p := hide ((unhide p).g g)
    clear g
    go_wp2_with fail
    refine (unhide CR _ (unhide p).st).mono ?_
    rintro e w2 hn
    obtain ⟨ao, n, c, rfl, ⟨u0, u1, u2, u3, q0, q1, q2, q3⟩, ⟨z0, z1, z2, z3⟩, K⟩ := arm_fin (unhide p) (unhide b) hn
    clear hn p b
    go_wp2_with fail
    obtain ⟨K1, d0, d1, d2, d3⟩ := unhide K
    refine bodyPost_ret (by simp [results, Tryd.results76, go_sem, d0, d1, d2, d3]; try rfl) rfl ?_
    exact K1
  rw [if_neg h4]
  by_cases h5 : (wdAt ws s).x = [108, 101, 110]
  · rw [if_pos h5]
    have CW : Hid (∀ w1, RSt rb wb wc ws s w1 → Calls Tryd.prog 14 #[.pointer (some ⟨rb, 0, none⟩)] w1 (fun e w2 => e = .returned (.agg #[.int .i64 ((wdAt ws s).k : Int), .string ⟨(wdAt ws s).x.toArray⟩, .int .i64 ((wdAt ws s).o : Int)]) ∧ G w1 w2)) := hide fun w1 hh => word_any hh
    have CR : Hid (∀ w1, RSt rb wb wc ws s w1 → Calls Tryd.prog 13 #[.pointer (some ⟨rb, 0, none⟩), .string ⟨#[108, 101, 110]⟩, .string ⟨#[108, 101, 110, 32, 40, 32, 105, 110, 115, 105, 100, 101, 32, 41]⟩, .slice none 0 0] w1 (NTo rb wb wc ws (pRow ws R [108, 101, 110] [.word [108, 101, 110], .word [40], .part .inside, .word [41]] [] s) w1)) := hide fun w1 hh => row_nil hh [108, 101, 110] rc_13 (L.word [.word [40], .part .inside, .word [41]] (by simp) hk hs h5 (by simp))
    rw [h5] at CW
    have n3 : ¬ ((wdAt ws s).k : Int) = 3 := by omega
    clear h5 hk3 h0 h1 h2 h3 h4
    generalize pRow ws R [108, 101, 110] [.word [108, 101, 110], .word [40], .part .inside, .word [41]] [] s = pr at *
    generalize (wdAt ws s).x = wx at *
    generalize (wdAt ws s).k = wk at *
    generalize (wdAt ws s).o = wo at *
    have p := hide ((Pn.new h).al (.cells zBox 27))
    have b := hide (BoxT.zero y)
    clear h hk hs L
    go_enter Tryd.func76, Tryd.ntmps76
    go_wp2_with fail
    refine (unhide CW _ (unhide p).st).mono ?_
    rintro e w1 ⟨rfl, g⟩
    replace b := hide ((unhide b).g g)
    replace p := hide ((unhide p).g g)
    clear g
    go_wp2_with fail
    refine (unhide CW _ (unhide p).st).mono ?_
    rintro e w1 ⟨rfl, g⟩
    replace b := hide ((unhide b).g g)
    replace p := hide ((unhide p).g g)
    clear g
    go_wp2_with fail
    refine (unhide CR _ (unhide p).st).mono ?_
    rintro e w2 hn
    obtain ⟨ao, n, c, rfl, ⟨u0, u1, u2, u3, q0, q1, q2, q3⟩, ⟨z0, z1, z2, z3⟩, K⟩ := arm_fin (unhide p) (unhide b) hn
    clear hn p b
    go_wp2_with fail
    obtain ⟨K1, d0, d1, d2, d3⟩ := unhide K
    refine bodyPost_ret (by simp [results, Tryd.results76, go_sem, d0, d1, d2, d3]; try rfl) rfl ?_
    exact K1
  rw [if_neg h5]
  by_cases h6 : (wdAt ws s).x = [114, 101, 99, 118]
  · rw [if_pos h6]
    have CW : Hid (∀ w1, RSt rb wb wc ws s w1 → Calls Tryd.prog 14 #[.pointer (some ⟨rb, 0, none⟩)] w1 (fun e w2 => e = .returned (.agg #[.int .i64 ((wdAt ws s).k : Int), .string ⟨(wdAt ws s).x.toArray⟩, .int .i64 ((wdAt ws s).o : Int)]) ∧ G w1 w2)) := hide fun w1 hh => word_any hh
    have CR : Hid (∀ w1, RSt rb wb wc ws s w1 → Calls Tryd.prog 13 #[.pointer (some ⟨rb, 0, none⟩), .string ⟨#[114, 101, 99, 118]⟩, .string ⟨#[114, 101, 99, 118, 32, 40, 32, 105, 110, 115, 105, 100, 101, 32, 41]⟩, .slice none 0 0] w1 (NTo rb wb wc ws (pRow ws R [114, 101, 99, 118] [.word [114, 101, 99, 118], .word [40], .part .inside, .word [41]] [] s) w1)) := hide fun w1 hh => row_nil hh [114, 101, 99, 118] rc_14 (L.word [.word [40], .part .inside, .word [41]] (by simp) hk hs h6 (by simp))
    rw [h6] at CW
    have n3 : ¬ ((wdAt ws s).k : Int) = 3 := by omega
    clear h6 hk3 h0 h1 h2 h3 h4 h5
    generalize pRow ws R [114, 101, 99, 118] [.word [114, 101, 99, 118], .word [40], .part .inside, .word [41]] [] s = pr at *
    generalize (wdAt ws s).x = wx at *
    generalize (wdAt ws s).k = wk at *
    generalize (wdAt ws s).o = wo at *
    have p := hide ((Pn.new h).al (.cells zBox 27))
    have b := hide (BoxT.zero y)
    clear h hk hs L
    go_enter Tryd.func76, Tryd.ntmps76
    go_wp2_with fail
    refine (unhide CW _ (unhide p).st).mono ?_
    rintro e w1 ⟨rfl, g⟩
    replace b := hide ((unhide b).g g)
    replace p := hide ((unhide p).g g)
    clear g
    go_wp2_with fail
    refine (unhide CW _ (unhide p).st).mono ?_
    rintro e w1 ⟨rfl, g⟩
    replace b := hide ((unhide b).g g)
    replace p := hide ((unhide p).g g)
    clear g
    go_wp2_with fail
    refine (unhide CR _ (unhide p).st).mono ?_
    rintro e w2 hn
    obtain ⟨ao, n, c, rfl, ⟨u0, u1, u2, u3, q0, q1, q2, q3⟩, ⟨z0, z1, z2, z3⟩, K⟩ := arm_fin (unhide p) (unhide b) hn
    clear hn p b
    go_wp2_with fail
    obtain ⟨K1, d0, d1, d2, d3⟩ := unhide K
    refine bodyPost_ret (by simp [results, Tryd.results76, go_sem, d0, d1, d2, d3]; try rfl) rfl ?_
    exact K1
  rw [if_neg h6]
  by_cases h7 : (wdAt ws s).x = [102, 117, 110, 99]
  · rw [if_pos h7]
    have CW : Hid (∀ w1, RSt rb wb wc ws s w1 → Calls Tryd.prog 14 #[.pointer (some ⟨rb, 0, none⟩)] w1 (fun e w2 => e = .returned (.agg #[.int .i64 ((wdAt ws s).k : Int), .string ⟨(wdAt ws s).x.toArray⟩, .int .i64 ((wdAt ws s).o : Int)]) ∧ G w1 w2)) := hide fun w1 hh => word_any hh
    have CR : Hid (∀ w1, RSt rb wb wc ws s w1 → Calls Tryd.prog 13 #[.pointer (some ⟨rb, 0, none⟩), .string ⟨#[108, 97, 109, 98, 100, 97]⟩, .string ⟨#[102, 117, 110, 99, 32, 40, 32, 112, 97, 114, 97, 109, 115, 32, 41, 32, 91, 116, 121, 112, 101, 93, 32, 98, 108, 111, 99, 107]⟩, .slice none 0 0] w1 (NTo rb wb wc ws (pRow ws R [108, 97, 109, 98, 100, 97] [.word [102, 117, 110, 99], .word [40], .part .params, .word [41], .part .typeOr, .part .block] [] s) w1)) := hide fun w1 hh => row_nil hh [108, 97, 109, 98, 100, 97] rc_15 (L.word [.word [40], .part .params, .word [41], .part .typeOr, .part .block] (by simp) hk hs h7 (by simp))
    rw [h7] at CW
    have n3 : ¬ ((wdAt ws s).k : Int) = 3 := by omega
    clear h7 hk3 h0 h1 h2 h3 h4 h5 h6
    generalize pRow ws R [108, 97, 109, 98, 100, 97] [.word [102, 117, 110, 99], .word [40], .part .params, .word [41], .part .typeOr, .part .block] [] s = pr at *
    generalize (wdAt ws s).x = wx at *
    generalize (wdAt ws s).k = wk at *
    generalize (wdAt ws s).o = wo at *
    have p := hide ((Pn.new h).al (.cells zBox 27))
    have b := hide (BoxT.zero y)
    clear h hk hs L
    go_enter Tryd.func76, Tryd.ntmps76
    go_wp2_with fail
    refine (unhide CW _ (unhide p).st).mono ?_
    rintro e w1 ⟨rfl, g⟩
    replace b := hide ((unhide b).g g)
    replace p := hide ((unhide p).g g)
    clear g
    go_wp2_with fail
    refine (unhide CW _ (unhide p).st).mono ?_
    rintro e w1 ⟨rfl, g⟩
    replace b := hide ((unhide b).g g)
    replace p := hide ((unhide p).g g)
    clear g
    go_wp2_with fail
    refine (unhide CR _ (unhide p).st).mono ?_
    rintro e w2 hn
    obtain ⟨ao, n, c, rfl, ⟨u0, u1, u2, u3, q0, q1, q2, q3⟩, ⟨z0, z1, z2, z3⟩, K⟩ := arm_fin (unhide p) (unhide b) hn
    clear hn p b
    go_wp2_with fail
    obtain ⟨K1, d0, d1, d2, d3⟩ := unhide K
    refine bodyPost_ret (by simp [results, Tryd.results76, go_sem, d0, d1, d2, d3]; try rfl) rfl ?_
    exact K1
  rw [if_neg h7]
  by_cases h8 : (wdAt ws s).x = [40]
  · rw [if_pos h8]
    have CW : Hid (∀ w1, RSt rb wb wc ws s w1 → Calls Tryd.prog 14 #[.pointer (some ⟨rb, 0, none⟩)] w1 (fun e w2 => e = .returned (.agg #[.int .i64 ((wdAt ws s).k : Int), .string ⟨(wdAt ws s).x.toArray⟩, .int .i64 ((wdAt ws s).o : Int)]) ∧ G w1 w2)) := hide fun w1 hh => word_any hh
    rw [h8] at CW
    have n3 : ¬ ((wdAt ws s).k : Int) = 3 := by omega
    have hmore := x_more L.w hk (t := [40]) (by simp) h8
    have hon := pass_on hmore
    have CP : Hid (∀ w1, RSt rb wb wc ws s w1 → Calls Tryd.prog 42 #[.pointer (some ⟨rb, 0, none⟩)] w1 (UTo rb wb wc ws (pPass ws s) w1 (.tuple #[]))) := hide fun w1 hh => pass_any hh hmore
    have CI : Hid (∀ w1, RSt rb wb wc ws (pPass ws s) w1 → Calls Tryd.prog 31 #[.pointer (some ⟨rb, 0, none⟩)] w1 (NTo rb wb wc ws (R .inside (pPass ws s)) w1)) := hide fun w1 hh => L.ok .inside _ (by unfold mu at *; omega) w1 hh
    generalize pPass ws s = s1 at *
    generalize R .inside s1 = r at *
    have CN : Hid (∀ w1, RSt rb wb wc ws r.2 w1 → Calls Tryd.prog 33 #[.pointer (some ⟨rb, 0, none⟩), .string ⟨#[41]⟩] w1 (UTo rb wb wc ws (pNeed ws [41] r.2) w1 (.tuple #[]))) := hide fun w1 hh => need_any hh [41] (by simp)
    generalize pNeed ws [41] r.2 = s3 at *
    generalize (wdAt ws s).x = wx at *
    generalize (wdAt ws s).k = wk at *
    generalize (wdAt ws s).o = wo at *
    have p := hide ((Pn.new h).al (.cells zBox 27))
    have b := hide (BoxT.zero y)
    clear h hk hs L hmore hon h8 hk3 h0 h1 h2 h3 h4 h5 h6 h7
    go_enter Tryd.func76, Tryd.ntmps76
    go_wp2_with fail
    refine (unhide CW _ (unhide p).st).mono ?_
    rintro e w1 ⟨rfl, g⟩
    replace b := hide ((unhide b).g g)
    replace p := hide ((unhide p).g g)
    clear g
    go_wp2_with fail
    refine (unhide CW _ (unhide p).st).mono ?_
    rintro e w1 ⟨rfl, g⟩
    replace b := hide ((unhide b).g g)
    replace p := hide ((unhide p).g g)
    clear g
    go_wp2_with fail
    refine (unhide CP _ (unhide p).st).mono ?_
    rintro e w2 hu
    obtain ⟨rfl, hu2⟩ := hu
    have nb : ¬ y.heap.size = rb := by have := (unhide p).rl; omega
    replace b := hide ((unhide b).keep hu2.2 nb)
    replace p := hide ((unhide p).to hu2.1 hu2.2)
    clear CP hu2
    go_wp2_with fail
    refine (unhide CI _ (unhide p).st).mono ?_
    rintro e w3 hn
    obtain ⟨o0, n0, c0, rfl, ho, h2, g2⟩ := hn.open
    obtain ⟨h3, F3⟩ := paren_any (o0 := o0) (n0 := n0) (c0 := c0) (s3 := s3) (unhide p) (unhide b) ho h2 g2
    replace F3 := hide F3
    replace h3 := hide h3
    clear CI hn ho h2 g2 p b
    go_wp2_with fail
    refine (unhide CN _ (unhide h3)).mono ?_
    rintro e w4 hu
    obtain ⟨rfl, hu2⟩ := hu
    obtain ⟨⟨k0, k1, k2, k3⟩, ⟨u0, u1, u2, u3, q0, q1, q2, q3⟩, ⟨z0, z1, z2, z3⟩, K⟩ := unhide F3 w4 hu2.1 hu2.2
    clear F3 CN hu2 h3
    go_wp2_with fail
    obtain ⟨K1, d0, d1, d2, d3⟩ := unhide K
    refine bodyPost_ret (by simp [results, Tryd.results76, go_sem, d0, d1, d2, d3]; try rfl) rfl ?_
    exact K1
  rw [if_neg h8]
  have n0 : ((wdAt ws s).x == [116, 114, 117, 101]) = false := by simpa using h0
  have n1 : ((wdAt ws s).x == [102, 97, 108, 115, 101]) = false := by simpa using h1
  have n2 : ((wdAt ws s).x == [110, 105, 108]) = false := by simpa using h2
  have n3 : ((wdAt ws s).x == [110, 101, 119]) = false := by simpa using h3
  have n4 : ((wdAt ws s).x == [109, 97, 107, 101]) = false := by simpa using h4
  have n5 : ((wdAt ws s).x == [108, 101, 110]) = false := by simpa using h5
  have n6 : ((wdAt ws s).x == [114, 101, 99, 118]) = false := by simpa using h6
  have n7 : ((wdAt ws s).x == [102, 117, 110, 99]) = false := by simpa using h7
  have n8 : ((wdAt ws s).x == [40]) = false := by simpa using h8
  clear h0 h1 h2 h3 h4 h5 h6 h7 h8
  have CW : Hid (∀ w1, RSt rb wb wc ws s w1 → Calls Tryd.prog 14 #[.pointer (some ⟨rb, 0, none⟩)] w1 (fun e w2 => e = .returned (.agg #[.int .i64 ((wdAt ws s).k : Int), .string ⟨(wdAt ws s).x.toArray⟩, .int .i64 ((wdAt ws s).o : Int)]) ∧ G w1 w2)) := hide fun w1 hh => word_any hh
  have CR : Hid (∀ w1, RSt rb wb wc ws s w1 → Calls Tryd.prog 13 #[.pointer (some ⟨rb, 0, none⟩), .string ⟨#[110, 97, 109, 101]⟩, .string ⟨#[78, 65, 77, 69]⟩, .slice none 0 0] w1 (NTo rb wb wc ws (pRow ws R [110, 97, 109, 101] [.name] [] s) w1)) := hide fun w1 hh => row_nil hh [110, 97, 109, 101] rc_5 (⟨trivial, trivial⟩)
  have n3 : ¬ ((wdAt ws s).k : Int) = 3 := by omega
  clear hk3
  generalize pRow ws R [110, 97, 109, 101] [.name] [] s = pr at *
  generalize (wdAt ws s).x = wx at *
  generalize (wdAt ws s).k = wk at *
  generalize (wdAt ws s).o = wo at *
  have p := hide ((Pn.new h).al (.cells zBox 27))
  have b := hide (BoxT.zero y)
  clear h hk hs L
  go_enter Tryd.func76, Tryd.ntmps76
  go_wp2_with fail
  refine (unhide CW _ (unhide p).st).mono ?_
  rintro e w1 ⟨rfl, g⟩
  replace b := hide ((unhide b).g g)
  replace p := hide ((unhide p).g g)
  clear g
  go_wp2_with fail
  refine (unhide CW _ (unhide p).st).mono ?_
  rintro e w1 ⟨rfl, g⟩
  replace b := hide ((unhide b).g g)
  replace p := hide ((unhide p).g g)
  clear g
  go_wp2_with fail
  refine (unhide CR _ (unhide p).st).mono ?_
  rintro e w2 hn
  obtain ⟨ao, n, c, rfl, ⟨u0, u1, u2, u3, q0, q1, q2, q3⟩, ⟨z0, z1, z2, z3⟩, K⟩ := arm_fin (unhide p) (unhide b) hn
  clear hn p b
  go_wp2_with fail
  obtain ⟨K1, d0, d1, d2, d3⟩ := unhide K
  refine bodyPost_ret (by simp [results, Tryd.results76, go_sem, d0, d1, d2, d3]; try rfl) rfl ?_
  exact K1
end Go.Proofs.YtablincnlfbjnabDoor
