/- The writer's shape, choice, instr. -/
import Derived.Test.YtdekhnfncecacaaDoorCodeWr2
namespace Go.Proofs.YtdekhnfncecacaaDoor
set_option maxRecDepth 100000
open Go.RowKit Go.Maps Go.ChangeShapes Go.WideShapes Go.ChangeAt Go.Deep

theorem Tw.cell {w w' : World} {wb g g' : Nat} (h : Tw w w' wb g g') {b i : Nat} {v : Value} (hc : w.cell? ⟨b, i, none⟩ = some v) (h1 : b ≠ wb) (h2 : b ≠ g) : w'.cell? ⟨b, i, none⟩ = some v :=
  (World.cell?_of_block (h.block b (World.block_lt_of_cell? w _ hc) h1 h2)).trans hc

set_option maxHeartbeats 1000000 in
theorem w_shape (w : World) (B wb g cap : Nat) (s : Sp) (bs : List Int) (h : WrAt w B wb g cap bs) (hv : oSp s) (hn : bs.length + (eSp s).length ≤ 20000000) (hBw : B ≤ w.heap.size) :
    Calls Tryd.prog 20 #[.pointer (some ⟨wb, 0, none⟩), .agg #[.int .i64 s.k, .int .i64 s.f, .int .u64 (s.m : Int)]] w fun e w' => e = .returned (.tuple #[]) ∧ WrTo w w' B wb g (bs ++ eSp s) := by
  have hlt := h.lt
  have hglt := h.glt
  have C := hide (fun W (hg : G w W) (hc0 : W.cell? ⟨w.heap.size + 1, 0, none⟩ = some (.int .i64 s.k)) (hc1 : W.cell? ⟨w.heap.size + 1, 1, none⟩ = some (.int .i64 s.f)) =>
    w_ints W B wb g cap (w.heap.size + 1) 2 2 [s.k, s.f] bs (h.g hg) (by intro v hm; simp at hm; rcases hm with rfl | rfl; exact hv.1; exact hv.2.1) (by unfold eSp at hn; simp at hn ⊢; omega) (Nat.le_trans hBw hg.size) rfl (by decide)
      (fun i v hi => by
        match i, hi with
        | 0, hi => simp at hi; rw [← hi]; exact hc0
        | 1, hi => simp at hi; rw [← hi]; exact hc1) (World.block_lt_of_cell? W _ hc0) (by omega) (by omega))
  have D := hide (fun W W2 (hg : G w W) (hc : W.cell? ⟨w.heap.size, 2, none⟩ = some (.int .u64 (s.m : Int))) (k : WrTo W W2 B wb g (bs ++ [s.k, s.f].flatMap eI)) => show W2.cell? ⟨w.heap.size, 2, none⟩ = some (.int .u64 (s.m : Int)) ∧ Calls Tryd.prog 51 #[.pointer (some ⟨wb, 0, none⟩), .int .u64 (s.m : Int)] W2 fun e w' => e = .returned (.tuple #[]) ∧ WrTo w w' B wb g (bs ++ eSp s) from by
      obtain ⟨g1, cap1, k1, k2⟩ := k
      refine ⟨k2.cell hc (by omega) (by omega), ?_⟩
      refine (w_number W2 B wb g1 cap1 s.m _ k1 hv.2.2 (by unfold eSp at hn; simp at hn ⊢; omega) (Nat.le_trans hBw (Nat.le_trans hg.size k2.size))).mono ?_
      rintro e w' ⟨rfl, F⟩
      refine ⟨rfl, ?_⟩
      have F2 := WrTo.trans k2 F
      have e : bs ++ [s.k, s.f].flatMap eI ++ eU s.m = bs ++ eSp s := by simp [eSp]
      rw [e] at F2
      exact WrTo.trans (Tw.of_G wb g hg) F2)
  clear h hv hn
  go_enter Tryd.func20, Tryd.ntmps20
  go_wp2_with fail
  refine (unhide C _ ?_ ?_ ?_).mono ?_
  · exact (((G.refl w).more _).more _)
  · simp [go_sem]
  · simp [go_sem]
  rintro e w2 ⟨rfl, F⟩
  obtain ⟨hcell, N⟩ := unhide D _ w2 (((G.refl w).more _).more _) (by simp [go_sem]) F
  replace N := hide N
  clear F C D
  go_wp2_with fail
  refine (unhide N).mono ?_
  rintro e w3 ⟨rfl, F⟩
  replace F := hide F
  clear N
  go_wp2_with fail
  go_end0
  exact ⟨rfl, unhide F⟩

set_option maxHeartbeats 1000000 in
theorem w_choice (w : World) (B wb g cap : Nat) (s : Ca) (bs : List Int) (h : WrAt w B wb g cap bs) (hv : oCa s) (hn : bs.length + (eCa s).length ≤ 20000000) (hBw : B ≤ w.heap.size) :
    Calls Tryd.prog 26 #[.pointer (some ⟨wb, 0, none⟩), .agg #[.int .i64 s.k, .int .i64 s.c, .int .i64 s.v, .int .i64 s.t]] w fun e w' => e = .returned (.tuple #[]) ∧ WrTo w w' B wb g (bs ++ eCa s) := by
  have hlt := h.lt
  have hglt := h.glt
  have ee : [s.k, s.c, s.v, s.t].flatMap eI = eCa s := by simp [eCa]
  have C := hide (fun W (hg : G w W) (hc0 : W.cell? ⟨w.heap.size + 1, 0, none⟩ = some (.int .i64 s.k)) (hc1 : W.cell? ⟨w.heap.size + 1, 1, none⟩ = some (.int .i64 s.c)) (hc2 : W.cell? ⟨w.heap.size + 1, 2, none⟩ = some (.int .i64 s.v)) (hc3 : W.cell? ⟨w.heap.size + 1, 3, none⟩ = some (.int .i64 s.t)) =>
    w_ints W B wb g cap (w.heap.size + 1) 4 4 [s.k, s.c, s.v, s.t] bs (h.g hg) (by intro v hm; simp at hm; rcases hm with rfl | rfl | rfl | rfl; exact hv.1; exact hv.2.1; exact hv.2.2.1; exact hv.2.2.2) (by rw [ee]; exact hn) (Nat.le_trans hBw hg.size) rfl (by decide)
      (fun i v hi => by
        match i, hi with
        | 0, hi => simp at hi; rw [← hi]; exact hc0
        | 1, hi => simp at hi; rw [← hi]; exact hc1
        | 2, hi => simp at hi; rw [← hi]; exact hc2
        | 3, hi => simp at hi; rw [← hi]; exact hc3) (World.block_lt_of_cell? W _ hc0) (by omega) (by omega))
  rw [ee] at C
  clear h hv hn ee
  go_enter Tryd.func26, Tryd.ntmps26
  go_wp2_with fail
  refine (unhide C _ ?_ ?_ ?_ ?_ ?_).mono ?_
  · exact (((G.refl w).more _).more _)
  · simp [go_sem]
  · simp [go_sem]
  · simp [go_sem]
  · simp [go_sem]
  rintro e w2 ⟨rfl, F⟩
  have F2 := hide (WrTo.trans (Tw.of_G wb g (((G.refl w).more _).more _)) F)
  clear F C
  go_wp2_with fail
  go_end0
  exact ⟨rfl, unhide F2⟩

set_option maxHeartbeats 1000000 in
theorem w_instr (w : World) (B wb g cap : Nat) (s : In) (bs : List Int) (h : WrAt w B wb g cap bs) (hv : oIn s) (hn : bs.length + (eIn s).length ≤ 20000000) (hBw : B ≤ w.heap.size) :
    Calls Tryd.prog 55 #[.pointer (some ⟨wb, 0, none⟩), .agg #[.int .i64 s.op, .int .i64 s.a, .int .i64 s.b, .int .i64 s.c, .int .i64 s.d]] w fun e w' => e = .returned (.tuple #[]) ∧ WrTo w w' B wb g (bs ++ eIn s) := by
  have hlt := h.lt
  have hglt := h.glt
  have ee : [s.op, s.a, s.b, s.c, s.d].flatMap eI = eIn s := by simp [eIn]
  have C := hide (fun W (hg : G w W) (hc0 : W.cell? ⟨w.heap.size + 1, 0, none⟩ = some (.int .i64 s.op)) (hc1 : W.cell? ⟨w.heap.size + 1, 1, none⟩ = some (.int .i64 s.a)) (hc2 : W.cell? ⟨w.heap.size + 1, 2, none⟩ = some (.int .i64 s.b)) (hc3 : W.cell? ⟨w.heap.size + 1, 3, none⟩ = some (.int .i64 s.c)) (hc4 : W.cell? ⟨w.heap.size + 1, 4, none⟩ = some (.int .i64 s.d)) =>
    w_ints W B wb g cap (w.heap.size + 1) 5 5 [s.op, s.a, s.b, s.c, s.d] bs (h.g hg) (by intro v hm; simp at hm; rcases hm with rfl | rfl | rfl | rfl | rfl; exact hv.1; exact hv.2.1; exact hv.2.2.1; exact hv.2.2.2.1; exact hv.2.2.2.2) (by rw [ee]; exact hn) (Nat.le_trans hBw hg.size) rfl (by decide)
      (fun i v hi => by
        match i, hi with
        | 0, hi => simp at hi; rw [← hi]; exact hc0
        | 1, hi => simp at hi; rw [← hi]; exact hc1
        | 2, hi => simp at hi; rw [← hi]; exact hc2
        | 3, hi => simp at hi; rw [← hi]; exact hc3
        | 4, hi => simp at hi; rw [← hi]; exact hc4) (World.block_lt_of_cell? W _ hc0) (by omega) (by omega))
  rw [ee] at C
  clear h hv hn ee
  go_enter Tryd.func55, Tryd.ntmps55
  go_wp2_with fail
  refine (unhide C _ ?_ ?_ ?_ ?_ ?_ ?_).mono ?_
  · exact (((G.refl w).more _).more _)
  · simp [go_sem]
  · simp [go_sem]
  · simp [go_sem]
  · simp [go_sem]
  · simp [go_sem]
  rintro e w2 ⟨rfl, F⟩
  have F2 := hide (WrTo.trans (Tw.of_G wb g (((G.refl w).more _).more _)) F)
  clear F C
  go_wp2_with fail
  go_end0
  exact ⟨rfl, unhide F2⟩
end Go.Proofs.YtdekhnfncecacaaDoor
