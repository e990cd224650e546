/- selectNode of package live. -/
import Derived.Test.YtnliooflpclcbaaGreatDoorLiveStr
import Derived.Test.YtnliooflpclcbaaGreatDoorLiveGP
namespace Go.Proofs.YtnliooflpclcbaaGreatDoor
set_option maxRecDepth 100000
open Go.RowKit Go.Maps Go.ChangeShapes Go.WideShapes Go.ChangeAt Go.Deep

def SelTo (B gB mb rb n0 : Nat) (hd : List Value) (m : Md) (f : Fn) (w : World) (ns : List Nd) (l : List Sc) (E : List Nat) (i : In) (e : Ending) (w' : World) : Prop :=
  ∃ rb' cap' ns' l' xo xn xc nx, e = .returned (.agg #[.int .u64 0, .int .u64 18446744073709551615, .slice xo xn xc]) ∧ GX w' B gB mb rb' cap' n0 hd ns' l' E ∧ Tg w w' gB mb rb rb' ∧ StOK m n0 ns' l' ∧ StMore m.ca.length ns l ns' l' ∧ IsZ (Pz gB mb rb' E) w' (.slice xo xn xc) nx ∧ (∀ pc, InsNd m f l' pc i (0, allU, nx)) ∧ l'.length ≤ l.length + 4 * m.ca.length
set_option maxHeartbeats 4000000 in
theorem selectNode_any (CN : CaseC) (w W : World) (gB mb rb cap n0 : Nat) (m : Md) (so : Option Addr) (sc : Nat) (go : Option Addr) (gc : Nat) (co : Option Addr) (cc : Nat) (ao : Option Addr) (ac : Nat) (fo : Option Addr) (fc : Nat) (f : Fn) (ko : Option Addr) (kc : Nat) (io : Option Addr) (ic : Nat) (mo : Option Addr) (mc : Nat)
    (hM : ModR W m so sc go gc co cc ao ac fo fc) (oc : ∀ s ∈ m.ca, oCa s) (hcl : m.ca.length ≤ 1000000) (hn0 : n0 = f.is.length) (ns : List Nd) (l : List Sc) (E : List Nat) (op A B C D : Int) (oA : oI A) (h41 : op = 41)
    (H : GX w W.heap.size gB mb rb cap n0 (hdV m so sc go gc co cc ao ac fo fc f ko kc io ic mo mc) ns l E) (gW : G W w) (hE : ∀ b ∈ E, b < w.heap.size) (HO : StOK m n0 ns l) (hN : n0 + l.length + 4 * m.ca.length ≤ 1000000) :
    Calls Tryz.prog 32 #[.pointer (some ⟨gB, 0, none⟩), .agg #[.int .i64 op, .int .i64 A, .int .i64 B, .int .i64 C, .int .i64 D]] w (SelTo W.heap.size gB mb rb n0 (hdV m so sc go gc co cc ao ac fo fc f ko kc io ic mo mc) m f w ns l E ⟨op, A, B, C, D⟩) := by
  have SA := hide (stretch_all CN W gB mb n0 m so sc go gc co cc ao ac fo fc f ko kc io ic mo mc hM.r4 oc hcl hn0)
  have hcellsH := H.cells.2.2.2
  have hgl := H.gl
  have hml := H.ml
  have hrl := H.rl
  obtain ⟨W1, hW1⟩ : ∃ W1, W1 = ((w.alloc (.cells #[.int .i64 op, .int .i64 A, .int .i64 B, .int .i64 C, .int .i64 D] 41)).alloc (.cells #[.int .u64 0, .int .u64 0, .slice none 0 0] 57)).alloc (.cells #[.int .u64 0, .int .u64 18446744073709551615, .slice none 0 0] 57) := ⟨_, rfl⟩
  have g1 : G w W1 := by rw [hW1]; exact (((G.refl w).more _).more _).more _
  have hs1 : W1.heap.size = w.heap.size + 3 := by rw [hW1, World.size_alloc, World.size_alloc, World.size_alloc]
  have KP : Hid (∀ x, G W1 x → G W1 x ∧ x.cell? ⟨gB, 0, none⟩ = some (.slice so m.sh.length sc) ∧ x.cell? ⟨gB, 1, none⟩ = some (.slice go m.gl.length gc) ∧ x.cell? ⟨gB, 2, none⟩ = some (.slice co m.co.length cc) ∧ x.cell? ⟨gB, 3, none⟩ = some (.slice ao m.ca.length ac) ∧ x.cell? ⟨gB, 4, none⟩ = some (.slice fo m.fn.length fc) ∧ x.cell? ⟨gB, 5, none⟩ = some (.int .i64 m.main) ∧ x.cell? ⟨w.heap.size, 0, none⟩ = some (.int .i64 op) ∧ x.cell? ⟨w.heap.size, 1, none⟩ = some (.int .i64 A) ∧ x.cell? ⟨w.heap.size, 2, none⟩ = some (.int .i64 B) ∧ x.cell? ⟨w.heap.size, 3, none⟩ = some (.int .i64 C) ∧ x.cell? ⟨w.heap.size, 4, none⟩ = some (.int .i64 D)) := hide fun x g => ⟨g, g.cell (g1.cell (hcellsH 0 _ rfl)), g.cell (g1.cell (hcellsH 1 _ rfl)), g.cell (g1.cell (hcellsH 2 _ rfl)), g.cell (g1.cell (hcellsH 3 _ rfl)), g.cell (g1.cell (hcellsH 4 _ rfl)), g.cell (g1.cell (hcellsH 5 _ rfl)), g.cell (by rw [hW1]; simp [go_sem]), g.cell (by rw [hW1]; simp [go_sem]), g.cell (by rw [hW1]; simp [go_sem]), g.cell (by rw [hW1]; simp [go_sem]), g.cell (by rw [hW1]; simp [go_sem])⟩
  have hbx : (W1.cell? ⟨w.heap.size + 1, 0, none⟩ = some (.int .u64 0) ∧ W1.frozen? ⟨w.heap.size + 1, 0, none⟩ = false) ∧ (W1.cell? ⟨w.heap.size + 1, 1, none⟩ = some (.int .u64 0) ∧ W1.frozen? ⟨w.heap.size + 1, 1, none⟩ = false) ∧ (W1.cell? ⟨w.heap.size + 1, 2, none⟩ = some (.slice none 0 0) ∧ W1.frozen? ⟨w.heap.size + 1, 2, none⟩ = false) ∧ (W1.cell? ⟨w.heap.size + 1 + 1, 0, none⟩ = some (.int .u64 0) ∧ W1.frozen? ⟨w.heap.size + 1 + 1, 0, none⟩ = false) ∧ (W1.cell? ⟨w.heap.size + 1 + 1, 1, none⟩ = some (.int .u64 18446744073709551615) ∧ W1.frozen? ⟨w.heap.size + 1 + 1, 1, none⟩ = false) ∧ (W1.cell? ⟨w.heap.size + 1 + 1, 2, none⟩ = some (.slice none 0 0) ∧ W1.frozen? ⟨w.heap.size + 1 + 1, 2, none⟩ = false) := by rw [hW1]; refine ⟨⟨by simp [go_sem], by simp [go_sem]⟩, ⟨by simp [go_sem], by simp [go_sem]⟩, ⟨by simp [go_sem], by simp [go_sem]⟩, ⟨by simp [go_sem], by simp [go_sem]⟩, ⟨by simp [go_sem], by simp [go_sem]⟩, ⟨by simp [go_sem], by simp [go_sem]⟩⟩
  have KB : Hid (∀ x, G W1 x → (x.cell? ⟨w.heap.size + 1, 0, none⟩ = some (.int .u64 0) ∧ x.frozen? ⟨w.heap.size + 1, 0, none⟩ = false) ∧ (x.cell? ⟨w.heap.size + 1, 1, none⟩ = some (.int .u64 0) ∧ x.frozen? ⟨w.heap.size + 1, 1, none⟩ = false) ∧ (x.cell? ⟨w.heap.size + 1, 2, none⟩ = some (.slice none 0 0) ∧ x.frozen? ⟨w.heap.size + 1, 2, none⟩ = false) ∧ (x.cell? ⟨w.heap.size + 1 + 1, 0, none⟩ = some (.int .u64 0) ∧ x.frozen? ⟨w.heap.size + 1 + 1, 0, none⟩ = false) ∧ (x.cell? ⟨w.heap.size + 1 + 1, 1, none⟩ = some (.int .u64 18446744073709551615) ∧ x.frozen? ⟨w.heap.size + 1 + 1, 1, none⟩ = false) ∧ (x.cell? ⟨w.heap.size + 1 + 1, 2, none⟩ = some (.slice none 0 0) ∧ x.frozen? ⟨w.heap.size + 1 + 1, 2, none⟩ = false)) := hide fun x g => by
    obtain ⟨b0, b1, b2, b3, b4, b5⟩ := hbx
    have q1 := g.block (w.heap.size + 1) (by omega)
    have q2 := g.block (w.heap.size + 1 + 1) (by omega)
    exact ⟨⟨g.cell b0.1, (World.frozen?_of_block q1).trans b0.2⟩, ⟨g.cell b1.1, (World.frozen?_of_block q1).trans b1.2⟩, ⟨g.cell b2.1, (World.frozen?_of_block q1).trans b2.2⟩, ⟨g.cell b3.1, (World.frozen?_of_block q2).trans b3.2⟩, ⟨g.cell b4.1, (World.frozen?_of_block q2).trans b4.2⟩, ⟨g.cell b5.1, (World.frozen?_of_block q2).trans b5.2⟩⟩
  have CO : Hid (∀ x, G W1 x → Calls Tryz.prog 57 #[.agg #[.slice so m.sh.length sc, .slice go m.gl.length gc, .slice co m.co.length cc, .slice ao m.ca.length ac, .slice fo m.fn.length fc, .int .i64 m.main], .agg #[.int .i64 op, .int .i64 A, .int .i64 B, .int .i64 C, .int .i64 D]] x (CaTo x (casesP m A B))) := hide fun x g => casesOf_any x m so sc go gc co cc ao ac fo fc (hM.g (gW.trans (g1.trans g))) ⟨op, A, B, C, D⟩ oA
  obtain ⟨hd, hhd⟩ : ∃ hd, hd = (hdV m so sc go gc co cc ao ac fo fc f ko kc io ic mo mc) := ⟨_, rfl⟩
  rw [← hhd] at SA H ⊢
  have H1 := hide (H.more g1 [w.heap.size, w.heap.size + 1, w.heap.size + 1 + 1] (fun b hb => by simp at hb; omega))
  have KE : Hid (∀ x, G W1 x → casesP m A B = [] → SelTo W.heap.size gB mb rb n0 hd m f w ns l E ⟨op, A, B, C, D⟩ (.returned (.agg #[.int .u64 0, .int .u64 18446744073709551615, .slice none 0 0])) (setN x (w.heap.size + 1) 0 [.int .u64 0, .int .u64 18446744073709551615, .slice none 0 0])) := hide fun x g he => by
    have gx := g1.trans g
    refine ⟨rb, cap, ns, l, none, 0, 0, [], rfl, ((((unhide H1).g g).setN (w.heap.size + 1) 0 _ (by simp) (by omega) (by omega) (by omega)).less (fun b hb => List.mem_append.2 (Or.inl hb))), Tg.of_G (setN_G _ (by omega) _ _ _ gx), HO, StMore.refl _ _ _, fun w' _ => isl_nil w', fun pc => Or.inl ⟨h41, Or.inl ⟨he, rfl⟩⟩, by omega⟩
  have ST : Hid (∀ (a d : Nat) x, G W1 x → 1 ≤ d → a + d ≤ m.ca.length → Calls Tryz.prog 58 #[.pointer (some ⟨gB, 0, none⟩), .agg #[.int .i64 (a : Int), .int .i64 (d : Int)]] x (StTo W.heap.size gB mb rb n0 hd m x ns l (E ++ [w.heap.size, w.heap.size + 1, w.heap.size + 1 + 1]) (a, d))) := hide fun a d x g hd1 had => by
    have := ndN_le d hd1
    have := g.size
    refine unhide SA d x rb cap ns l _ a ((unhide H1).g g) (gW.trans (g1.trans g)) (fun b hb => ?_) HO hd1 had (by omega)
    rcases List.mem_append.1 hb with hb | hb
    · have := hE b hb; omega
    · simp at hb; omega
  have KF : Hid (∀ (a d q : Nat) x x1 rb' cap' ns' l', A = (a : Int) → 1 ≤ d → a + d ≤ m.ca.length → casesP m A B = (m.ca.drop a).take d → G W1 x → GX x1 W.heap.size gB mb rb' cap' n0 hd ns' l' (E ++ [w.heap.size, w.heap.size + 1, w.heap.size + 1 + 1]) → Tg x x1 gB mb rb rb' → StOK m n0 ns' l' → StMore d ns l ns' l' → l'[q]? = some (a, d) → l'.length ≤ l.length + ndN d →
      SelTo W.heap.size gB mb rb n0 hd m f w ns l E ⟨op, A, B, C, D⟩ (.returned (.agg #[.int .u64 0, .int .u64 18446744073709551615, .slice (some ⟨x1.heap.size, 0, none⟩) 1 1])) (setN ((x1.alloc (.cells #[.int .i64 ((n0 + q : Nat) : Int)] 3)).setCell ⟨w.heap.size + 1 + 1, 2, none⟩ (.slice (some ⟨x1.heap.size, 0, none⟩) 1 1)) (w.heap.size + 1) 0 [.int .u64 0, .int .u64 18446744073709551615, .slice (some ⟨x1.heap.size, 0, none⟩) 1 1])) := hide fun a d q x x1 rb' cap' ns' l' ha hd1 had hca g G1 T1 O1 M1 Q1 L1 => by
    have := ndN_le d hd1
    have e1 := g.size
    have e2 := T1.size
    have g1l := G1.gl
    have m1l := G1.ml
    have r1l := G1.rl
    have hrr : w.heap.size + 1 ≠ rb' ∧ w.heap.size + 1 + 1 ≠ rb' := by rcases T1.lies with e | e <;> omega
    have ga := G.alloc x1 (.cells #[.int .i64 ((n0 + q : Nat) : Int)] 3)
    have hz : IsZ (Pz gB mb rb' (E ++ [w.heap.size, w.heap.size + 1, w.heap.size + 1 + 1])) (x1.alloc (.cells #[.int .i64 ((n0 + q : Nat) : Int)] 3)) (.slice (some ⟨x1.heap.size, 0, none⟩) 1 1) [((n0 + q : Nat) : Int)] := nwl_isz (nwl_new x1 [((n0 + q : Nat) : Int)] (by show 1 ≤ maxLen; decide)) (fun b hb => by
      rcases hb with hb | hb | hb | hb
      · omega
      · omega
      · omega
      · rcases List.mem_append.1 hb with hb | hb
        · have := hE b hb; omega
        · simp at hb; omega)
    have G2 := (((G1.g ga).set (w.heap.size + 1 + 1) 2 (.slice (some ⟨x1.heap.size, 0, none⟩) 1 1) (by simp) (by omega) (by omega) hrr.2).setN (w.heap.size + 1) 0 [.int .u64 0, .int .u64 18446744073709551615, .slice (some ⟨x1.heap.size, 0, none⟩) 1 1] (by simp) (by omega) (by omega) hrr.1)
    have hz2 := (hz.setN (w.heap.size + 1 + 1) 2 [.slice (some ⟨x1.heap.size, 0, none⟩) 1 1] (by simp)).setN (w.heap.size + 1) 0 [.int .u64 0, .int .u64 18446744073709551615, .slice (some ⟨x1.heap.size, 0, none⟩) 1 1] (by simp)
    have hlt : q < l'.length := (List.getElem?_eq_some_iff.1 Q1).1
    refine ⟨rb', cap', ns', l', _, _, _, [((n0 + q : Nat) : Int)], rfl, G2.less (fun b hb => List.mem_append.2 (Or.inl hb)), ((((Tg.of_G (g1.trans g)).trans T1).trans (Tg.of_G ga)).set (w.heap.size + 1 + 1) 2 _ (by omega)).setN (w.heap.size + 1) 0 _ (by omega), O1, M1.mono (by omega), ?_, fun pc => Or.inl ⟨h41, Or.inr ⟨a, d, q, hd1, had, hca, Q1, ?_⟩⟩, by omega⟩
    · exact hz2.move (Nat.le_refl _) (fun b _ hb => ⟨rfl, fun hp => hb (by
        rcases hp with hp | hp | hp | hp
        · exact Or.inl hp
        · exact Or.inr (Or.inl hp)
        · exact Or.inr (Or.inr (Or.inl hp))
        · exact Or.inr (Or.inr (Or.inr (List.mem_append.2 (Or.inl hp)))))⟩)
    · rw [hn0]
  have KX : Hid (∀ x x1 rb' (o : Obj), G W1 x → Tg x x1 gB mb rb rb' → ((x1.alloc o).cell? ⟨w.heap.size + 1, 0, none⟩ = some (.int .u64 0) ∧ (x1.alloc o).frozen? ⟨w.heap.size + 1, 0, none⟩ = false) ∧ ((x1.alloc o).cell? ⟨w.heap.size + 1, 1, none⟩ = some (.int .u64 0) ∧ (x1.alloc o).frozen? ⟨w.heap.size + 1, 1, none⟩ = false) ∧ ((x1.alloc o).cell? ⟨w.heap.size + 1, 2, none⟩ = some (.slice none 0 0) ∧ (x1.alloc o).frozen? ⟨w.heap.size + 1, 2, none⟩ = false) ∧ ((x1.alloc o).cell? ⟨w.heap.size + 1 + 1, 0, none⟩ = some (.int .u64 0) ∧ (x1.alloc o).frozen? ⟨w.heap.size + 1 + 1, 0, none⟩ = false) ∧ ((x1.alloc o).cell? ⟨w.heap.size + 1 + 1, 1, none⟩ = some (.int .u64 18446744073709551615) ∧ (x1.alloc o).frozen? ⟨w.heap.size + 1 + 1, 1, none⟩ = false) ∧ ((x1.alloc o).cell? ⟨w.heap.size + 1 + 1, 2, none⟩ = some (.slice none 0 0) ∧ (x1.alloc o).frozen? ⟨w.heap.size + 1 + 1, 2, none⟩ = false)) := hide fun x x1 rb' o g T1 => by
    have e1 := g.size
    obtain ⟨⟨b0, c0⟩, ⟨b1, c1⟩, ⟨b2, c2⟩, ⟨b3, c3⟩, ⟨b4, c4⟩, ⟨b5, c5⟩⟩ := unhide KB x g
    have TT := T1.trans (Tg.of_G (G.alloc x1 o))
    exact ⟨⟨TT.cell (by omega) (by omega) (by omega) b0, (TT.fro (by omega) (by omega) (by omega) (by omega)).trans c0⟩, ⟨TT.cell (by omega) (by omega) (by omega) b1, (TT.fro (by omega) (by omega) (by omega) (by omega)).trans c1⟩, ⟨TT.cell (by omega) (by omega) (by omega) b2, (TT.fro (by omega) (by omega) (by omega) (by omega)).trans c2⟩, ⟨TT.cell (by omega) (by omega) (by omega) b3, (TT.fro (by omega) (by omega) (by omega) (by omega)).trans c3⟩, ⟨TT.cell (by omega) (by omega) (by omega) b4, (TT.fro (by omega) (by omega) (by omega) (by omega)).trans c4⟩, ⟨TT.cell (by omega) (by omega) (by omega) b5, (TT.fro (by omega) (by omega) (by omega) (by omega)).trans c5⟩⟩
  have CA : Hid ((casesP m A B).length = 0 → casesP m A B = []) := hide (fun h => List.eq_nil_of_length_eq_zero h)
  have CB : Hid (0 < (casesP m A B).length → ∃ a d : Nat, A = (a : Int) ∧ 1 ≤ d ∧ a + d ≤ m.ca.length ∧ casesP m A B = (m.ca.drop a).take d ∧ (casesP m A B).length = d) := hide (fun h => by
    unfold casesP at h ⊢
    by_cases hb : A < 0 ∨ B < 0 ∨ (m.ca.length : Int) - A < B
    · rw [if_pos hb] at h; simp at h
    · rw [if_neg hb] at h ⊢
      have hl : ((m.ca.drop A.toNat).take B.toNat).length = B.toNat := by rw [List.length_take, List.length_drop]; omega
      rw [hl] at h
      exact ⟨A.toNat, B.toNat, by omega, by omega, by omega, rfl, hl⟩)
  have hb1 : Hid (m.ca.length ≤ 1000000) := hide hcl
  obtain ⟨CL, hCL⟩ : ∃ CL, CL = casesP m A B := ⟨_, rfl⟩
  have gd : Hid (G W1 W1.drew) := hide ((G.refl W1).drew)
  rw [← hCL] at CO CA CB
  replace hCL := hide hCL
  clear hM oc hcl hn0 h41 H gW hE HO hN SA hcellsH hgl hml hrl g1 hs1 hbx H1 hhd oA
  go_enter Tryz.func32, Tryz.ntmps32
  go_upto_region 2 with fail
  rw [← hW1]
  clear hW1
  refine wp_region_noPanic ?_
  refine wp_region_held_drew (S := fun x => G W1 x ∧ x.cell? ⟨gB, 0, none⟩ = some (.slice so m.sh.length sc) ∧ x.cell? ⟨gB, 1, none⟩ = some (.slice go m.gl.length gc) ∧ x.cell? ⟨gB, 2, none⟩ = some (.slice co m.co.length cc) ∧ x.cell? ⟨gB, 3, none⟩ = some (.slice ao m.ca.length ac) ∧ x.cell? ⟨gB, 4, none⟩ = some (.slice fo m.fn.length fc) ∧ x.cell? ⟨gB, 5, none⟩ = some (.int .i64 m.main) ∧ x.cell? ⟨w.heap.size, 0, none⟩ = some (.int .i64 op) ∧ x.cell? ⟨w.heap.size, 1, none⟩ = some (.int .i64 A) ∧ x.cell? ⟨w.heap.size, 2, none⟩ = some (.int .i64 B) ∧ x.cell? ⟨w.heap.size, 3, none⟩ = some (.int .i64 C) ∧ x.cell? ⟨w.heap.size, 4, none⟩ = some (.int .i64 D)) (by kernel_rfl) (unhide KP _ (unhide gd)) (fun hHeld => ?_)
  obtain ⟨y0, hy0⟩ : ∃ y, y = W1.drew := ⟨_, rfl⟩
  rw [← hy0] at hHeld ⊢
  clear hy0 gd
  refine wpAnyH_take (i := 0) (v := .pointer (some ⟨gB, 0, none⟩)) rfl (by kernel_rfl) (by kernel_rfl) (by kernel_rfl) (fun _ _ _ h => h) (Or.inl ⟨by rfl, fun w hSw => by obtain ⟨t0, t1, t2, t3, t4, t5, t6, t7, t8, t9, t10, t11⟩ := hSw; go_simp⟩) (by assumption) ?_
  try simp only [Act.put, List.getElem_toArray, List.getElem_cons_zero, List.setIfInBounds_toArray, List.set_cons_zero, List.set_cons_succ]
  refine wpAnyH_take (i := 1) (v := .pointer (some ⟨gB, 0, none⟩)) rfl (by kernel_rfl) (by kernel_rfl) (by kernel_rfl) (fun _ _ _ h => h) (Or.inl ⟨by rfl, fun w hSw => by obtain ⟨t0, t1, t2, t3, t4, t5, t6, t7, t8, t9, t10, t11⟩ := hSw; go_simp⟩) (by assumption) ?_
  try simp only [Act.put, List.getElem_toArray, List.getElem_cons_succ, List.getElem_cons_zero, List.setIfInBounds_toArray, List.set_cons_zero, List.set_cons_succ]
  refine wpAnyH_take (i := 2) (v := .pointer (some ⟨gB, 0, none⟩)) rfl (by kernel_rfl) (by kernel_rfl) (by kernel_rfl) (fun _ _ _ h => h) (Or.inl ⟨by rfl, fun w hSw => by obtain ⟨t0, t1, t2, t3, t4, t5, t6, t7, t8, t9, t10, t11⟩ := hSw; go_simp⟩) (by assumption) ?_
  try simp only [Act.put, List.getElem_toArray, List.getElem_cons_succ, List.getElem_cons_zero, List.setIfInBounds_toArray, List.set_cons_zero, List.set_cons_succ]
  refine wpAnyH_take (i := 3) (v := .agg #[.slice so m.sh.length sc, .slice go m.gl.length gc, .slice co m.co.length cc, .slice ao m.ca.length ac, .slice fo m.fn.length fc, .int .i64 m.main]) rfl (by kernel_rfl) (by kernel_rfl) (by kernel_rfl) (fun _ _ _ h => h) (Or.inl ⟨by rfl, fun w hSw => by obtain ⟨t0, t1, t2, t3, t4, t5, t6, t7, t8, t9, t10, t11⟩ := hSw; go_simp⟩) (by assumption) ?_
  try simp only [Act.put, List.getElem_toArray, List.getElem_cons_succ, List.getElem_cons_zero, List.setIfInBounds_toArray, List.set_cons_zero, List.set_cons_succ]
  refine wpAnyH_take (i := 4) (v := .agg #[.int .i64 op, .int .i64 A, .int .i64 B, .int .i64 C, .int .i64 D]) rfl (by kernel_rfl) (by kernel_rfl) (by kernel_rfl) (fun _ _ _ h => h) (Or.inl ⟨by rfl, fun w hSw => by obtain ⟨t0, t1, t2, t3, t4, t5, t6, t7, t8, t9, t10, t11⟩ := hSw; go_simp⟩) (by assumption) ?_
  try simp only [Act.put, List.getElem_toArray, List.getElem_cons_succ, List.getElem_cons_zero, List.setIfInBounds_toArray, List.set_cons_zero, List.set_cons_succ]
  refine wpAnyH_ready (rs := [5]) (by kernel_rfl) (by simp) ?_
  refine AllReadyH.cons rfl (fun K hK => ?_) AllReadyH.nil
  go_simp
  refine (unhide CO y0 hHeld.1).mono ?_
  rintro e y1 ⟨qo, qc, rfl, hr, hg⟩
  go_wp2_with fail
  have gy1 := hHeld.1.trans hg
  refine hK.out _ _ (unhide KP _ gy1) (fun hH1 => ?_)
  clear hK K
  try simp only [Act.put, List.getElem_toArray, List.getElem_cons_succ, List.getElem_cons_zero, List.setIfInBounds_toArray, List.set_cons_zero, List.set_cons_succ]
  refine wpAnyH_take (i := 6) (v := .slice qo CL.length qc) rfl (by kernel_rfl) (by kernel_rfl) (by kernel_rfl) (fun _ _ _ h => h) (Or.inl ⟨by rfl, fun w hSw => by obtain ⟨t0, t1, t2, t3, t4, t5, t6, t7, t8, t9, t10, t11⟩ := hSw; go_simp⟩) (by assumption) ?_
  try simp only [Act.put, List.getElem_toArray, List.getElem_cons_succ, List.getElem_cons_zero, List.setIfInBounds_toArray, List.set_cons_zero, List.set_cons_succ]
  refine wpAnyH_done (by kernel_rfl) (NoPanic.normal ?_) _
  replace gy1 := hide gy1
  have k1 : y1.cell? ⟨w.heap.size, 1, none⟩ = some (.int .i64 A) := hH1.2.2.2.2.2.2.2.2.1
  obtain ⟨dn, hdn⟩ : ∃ dn, dn = CL.length := ⟨_, rfl⟩
  rw [← hdn] at CA CB
  rw [← hdn]
  clear hr hg hH1 hHeld CO KP hdn
  by_cases hz : dn = 0
  · subst hz
    have OUT := hide (unhide KE y1 (unhide gy1) ((unhide hCL).symm.trans (unhide CA rfl)))
    obtain ⟨⟨b0, c0⟩, ⟨b1, c1⟩, ⟨b2, c2⟩, ⟨b3, c3⟩, ⟨b4, c4⟩, ⟨b5, c5⟩⟩ := unhide KB y1 (unhide gy1)
    clear CA CB KE KF ST KX KB hCL gy1 k1
    go_wp2_with fail
    refine bodyPost_ret (by simp [results, Tryz.results32, go_sem, b0, b1, b2]; try rfl) rfl ?_
    exact unhide OUT
  · have hp : 0 < dn := by omega
    obtain ⟨a, d, hA, hd1, had, hcs, hdd⟩ := unhide CB hp
    subst hA
    subst hdd
    have hda : dn ≤ 1000000 := by have := unhide hb1; omega
    have C1 := hide (unhide ST a dn y1 (unhide gy1) hd1 had)
    have K1 := hide (fun q x1 rb' cap' ns' l' => unhide KF a dn q y1 x1 rb' cap' ns' l' rfl hd1 had ((unhide hCL).symm.trans hcs) (unhide gy1))
    have K2 := hide (fun x1 rb' o => unhide KX y1 x1 rb' o (unhide gy1))
    have hpI : (0 : Int) < (dn : Int) := by omega
    replace hda := hide hda
    clear CA CB KE KF ST KX KB hCL gy1 hcs had hd1
    go_wp2_with fail
    refine (unhide C1).mono ?_
    rintro e x1 ⟨rb', cap', ns', l', q, rfl, G1, T1, O1, M1, Q1, L1⟩
    obtain ⟨v1, hv1⟩ : ∃ v1 : Int, v1 = ((n0 + q : Nat) : Int) := ⟨_, rfl⟩
    have OUT := hide (unhide K1 q x1 rb' cap' ns' l' G1 T1 O1 M1 Q1 L1)
    rw [← hv1] at OUT
    rw [← hv1]
    obtain ⟨⟨b0, c0⟩, ⟨b1, c1⟩, ⟨b2, c2⟩, ⟨b3, c3⟩, ⟨b4, c4⟩, ⟨b5, c5⟩⟩ := unhide K2 x1 rb' (.cells #[.int .i64 v1] 3) T1
    clear C1 K1 K2 G1 T1 O1 M1 Q1 L1 hv1 k1 hb1 hda
    go_wp2_with fail
    refine bodyPost_ret (by simp [results, Tryz.results32, go_sem, b0, b1, b2]; try rfl) rfl ?_
    exact unhide OUT
end Go.Proofs.YtnliooflpclcbaaGreatDoor
