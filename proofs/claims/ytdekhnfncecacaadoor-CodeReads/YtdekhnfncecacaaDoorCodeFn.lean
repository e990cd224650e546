/- The writer's function. -/
import Derived.Test.YtdekhnfncecacaaDoorCodeWl
namespace Go.Proofs.YtdekhnfncecacaaDoor
set_option maxRecDepth 100000
open Go.RowKit Go.Maps Go.ChangeShapes Go.WideShapes Go.ChangeAt Go.Deep

theorem WrTo.cell {w w' : World} {B wb g : Nat} {bs : List Int} (h : WrTo w w' B wb g bs) {b i : Nat} {v : Value} (hc : w.cell? ⟨b, i, none⟩ = some v) (h1 : b ≠ wb) (h2 : b ≠ g) : w'.cell? ⟨b, i, none⟩ = some v := by
  obtain ⟨g1, cap1, k1, k2⟩ := h
  exact k2.cell hc h1 h2
theorem WrTo.bel {w w' : World} {B wb g cap : Nat} {bs bs' : List Int} (h : WrTo w w' B wb g bs) (hB : B ≤ w.heap.size) (h0 : WrAt w B wb g cap bs') : Below B w w' := by
  obtain ⟨g1, cap1, k1, k2⟩ := h
  exact k2.below hB h0.hB h0.gB

/-- A writer's call that goes on from where another has left off. -/
theorem wr_next {w w1 : World} {B wb g : Nat} {bs b1 b2 : List Int} {F : FuncId} {args : Array Value} (h : WrTo w w1 B wb g bs)
    (C : ∀ g1 cap1, WrAt w1 B wb g1 cap1 bs → Calls Tryd.prog F args w1 fun e w' => e = .returned (.tuple #[]) ∧ WrTo w1 w' B wb g1 b1) (e : b1 = b2) :
    Calls Tryd.prog F args w1 fun e w' => e = .returned (.tuple #[]) ∧ WrTo w w' B wb g b2 := by
  obtain ⟨g1, cap1, k1, k2⟩ := h
  refine (C g1 cap1 k1).mono ?_
  rintro e' w' ⟨rfl, F⟩
  exact ⟨rfl, by rw [← e]; exact WrTo.trans k2 F⟩

set_option maxHeartbeats 1000000 in
theorem w_function (w0 w : World) (wb g cap : Nat) (f : Fn) (ko : Option Addr) (kc : Nat) (io : Option Addr) (ic : Nat) (mo : Option Addr) (mc : Nat) (bs : List Int) (h0 : G w0 w) (h : WrAt w w0.heap.size wb g cap bs)
    (r1 : RowAt elB w0 ko f.ks.length kc f.ks) (r2 : RowAt elIn w0 io f.is.length ic f.is) (r3 : RowAt elU w0 mo f.ms.length mc f.ms) (hv : oFn f) (hn : bs.length + (eFn f).length ≤ 20000000) :
    Calls Tryd.prog 28 #[.pointer (some ⟨wb, 0, none⟩), .agg #[.int .i64 f.p, .int .i64 f.c, .int .i64 f.s, .int .i64 f.r, .slice ko f.ks.length kc, .slice io f.is.length ic, .slice mo f.ms.length mc]] w fun e w' => e = .returned (.tuple #[]) ∧ WrTo w w' w0.heap.size wb g (bs ++ eFn f) := by
  have hlt := h.lt
  have hglt := h.glt
  obtain ⟨v1, v2, v3, v4, v5, v6, v7⟩ := hv
  have hlen : (eFn f).length = ([f.p, f.c, f.s, f.r].flatMap eI).length + (eL eB f.ks).length + (eL eIn f.is).length + (eL eU f.ms).length := by simp [eFn]; omega
  have C := hide (fun W (hg : G w W) (hc0 : W.cell? ⟨w.heap.size + 1, 0, none⟩ = some (.int .i64 f.p)) (hc1 : W.cell? ⟨w.heap.size + 1, 1, none⟩ = some (.int .i64 f.c)) (hc2 : W.cell? ⟨w.heap.size + 1, 2, none⟩ = some (.int .i64 f.s)) (hc3 : W.cell? ⟨w.heap.size + 1, 3, none⟩ = some (.int .i64 f.r)) =>
    w_ints W w0.heap.size wb g cap (w.heap.size + 1) 4 4 [f.p, f.c, f.s, f.r] bs (h.g hg) (by intro v hm; simp at hm; rcases hm with rfl | rfl | rfl | rfl; exact v1; exact v2; exact v3; exact v4) (by omega) (Nat.le_trans h0.size hg.size) rfl (by decide)
      (fun i v hi => by
        match i, hi with
        | 0, hi => simp at hi; rw [← hi]; exact hc0
        | 1, hi => simp at hi; rw [← hi]; exact hc1
        | 2, hi => simp at hi; rw [← hi]; exact hc2
        | 3, hi => simp at hi; rw [← hi]; exact hc3) (World.block_lt_of_cell? W _ hc0) (by omega) (by omega))
  have gz : ∀ W W2 bs', G w W → WrTo W W2 w0.heap.size wb g bs' → G w0 W2 := fun W W2 bs' hg k => Below.trans (h0.trans hg) (k.bel (Nat.le_trans h0.size hg.size) (h.g hg))
  have C2 := hide (fun W W2 (hg : G w W) (hc : W.cell? ⟨w.heap.size, 4, none⟩ = some (.slice ko f.ks.length kc)) (k : WrTo W W2 w0.heap.size wb g (bs ++ [f.p, f.c, f.s, f.r].flatMap eI)) =>
    (⟨k.cell hc (by omega) (by omega), wr_next k (fun g1 cap1 k1 => wl_bool w0 W2 wb g1 cap1 ko f.ks.length kc f.ks _ (gz W W2 _ hg k) k1 r1 v5.2 (by rw [List.length_append]; omega)) rfl⟩ : _ ∧ _))
  have C3 := hide (fun W W2 (hg : G w W) (hc : W.cell? ⟨w.heap.size, 5, none⟩ = some (.slice io f.is.length ic)) (k : WrTo W W2 w0.heap.size wb g (bs ++ [f.p, f.c, f.s, f.r].flatMap eI ++ eL eB f.ks)) =>
    (⟨k.cell hc (by omega) (by omega), wr_next k (fun g1 cap1 k1 => wl_instr w0 W2 wb g1 cap1 io f.is.length ic f.is _ (gz W W2 _ hg k) k1 r2 v6.2 (by rw [List.length_append, List.length_append]; omega)) rfl⟩ : _ ∧ _))
  have C4 := hide (fun W W2 (hg : G w W) (hc : W.cell? ⟨w.heap.size, 6, none⟩ = some (.slice mo f.ms.length mc)) (k : WrTo W W2 w0.heap.size wb g (bs ++ [f.p, f.c, f.s, f.r].flatMap eI ++ eL eB f.ks ++ eL eIn f.is)) =>
    (⟨k.cell hc (by omega) (by omega), wr_next k (fun g1 cap1 k1 => wl_uint64 w0 W2 wb g1 cap1 mo f.ms.length mc f.ms _ (gz W W2 _ hg k) k1 r3 v7.2 (by rw [List.length_append, List.length_append, List.length_append]; omega)) rfl⟩ : _ ∧ _))
  have FI : Hid (bs ++ [f.p, f.c, f.s, f.r].flatMap eI ++ eL eB f.ks ++ eL eIn f.is ++ eL eU f.ms = bs ++ eFn f) := hide (by simp [eFn])
  clear h h0 r1 r2 r3 v1 v2 v3 v4 v5 v6 v7 hn hlen gz
  go_enter Tryd.func28, Tryd.ntmps28
  go_wp2_with fail
  refine (unhide C _ ?_ ?_ ?_ ?_ ?_).mono ?_
  · exact (((G.refl w).more _).more _)
  · simp [go_sem]
  · simp [go_sem]
  · simp [go_sem]
  · simp [go_sem]
  rintro e w2 ⟨rfl, F⟩
  obtain ⟨hc4, N⟩ := unhide C2 _ w2 (((G.refl w).more _).more _) (by simp [go_sem]) F
  replace N := hide N
  clear F C C2
  go_wp2_with fail
  refine (unhide N).mono ?_
  rintro e w3 ⟨rfl, F⟩
  obtain ⟨hc5, N3⟩ := unhide C3 _ w3 (((G.refl w).more _).more _) (by simp [go_sem]) F
  replace N3 := hide N3
  clear F N C3 hc4
  go_wp2_with fail
  refine (unhide N3).mono ?_
  rintro e w4 ⟨rfl, F⟩
  obtain ⟨hc6, N4⟩ := unhide C4 _ w4 (((G.refl w).more _).more _) (by simp [go_sem]) F
  replace N4 := hide N4
  clear F N3 C4 hc5
  go_wp2_with fail
  refine (unhide N4).mono ?_
  rintro e w5 ⟨rfl, F⟩
  rw [unhide FI] at F
  have F2 := hide (WrTo.trans (Tw.of_G wb g (((G.refl w).more _).more _)) F)
  clear F N4 hc6
  go_wp2_with fail
  go_end0
  exact ⟨rfl, unhide F2⟩
end Go.Proofs.YtdekhnfncecacaaDoor
