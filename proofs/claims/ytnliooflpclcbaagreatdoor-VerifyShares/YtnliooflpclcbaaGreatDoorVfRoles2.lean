/- Package verify: rolesOf. -/
import Derived.Test.YtnliooflpclcbaaGreatDoorVfRoles
import Derived.Test.YtnliooflpclcbaaGreatDoorCodeLay
namespace Go.Proofs.YtnliooflpclcbaaGreatDoor
set_option maxRecDepth 100000
open Go.RowKit Go.Maps Go.ChangeShapes Go.WideShapes Go.ChangeAt Go.Deep

/-- A box of roles. -/
def BxR (y : World) (b : Nat) (p q s t : Int) : Prop := y.cell? ⟨b, 0, none⟩ = some (.int .u8 p) ∧ y.cell? ⟨b, 1, none⟩ = some (.int .u8 q) ∧ y.cell? ⟨b, 2, none⟩ = some (.int .u8 s) ∧ y.cell? ⟨b, 3, none⟩ = some (.int .u8 t) ∧ ∀ i, y.frozen? ⟨b, i, none⟩ = false
theorem BxR.g {y z : World} {b : Nat} {p q s t : Int} (h : BxR y b p q s t) (hb : b < y.heap.size) (g : G y z) : BxR z b p q s t :=
  ⟨g.cell h.1, g.cell h.2.1, g.cell h.2.2.1, g.cell h.2.2.2.1, fun i => (World.frozen?_of_block (a := ⟨b, i, none⟩) (g.block b hb)).trans (h.2.2.2.2 i)⟩
theorem bxr_new (w : World) (p q s t : Int) : BxR (w.alloc (.cells #[.int .u8 p, .int .u8 q, .int .u8 s, .int .u8 t] 72)) w.heap.size p q s t := by
  refine ⟨?_, ?_, ?_, ?_, fun i => ?_⟩
  · rw [World.cell?_alloc_new]; rfl
  · rw [World.cell?_alloc_new]; rfl
  · rw [World.cell?_alloc_new]; rfl
  · rw [World.cell?_alloc_new]; rfl
  · unfold World.frozen?
    rw [heap_alloc_new]
    simp
theorem rset {w x : World} {b : Nat} (v0 v1 v2 v3 : Value) (g : G w x) (hb : w.heap.size ≤ b) (o : Obj) : G w (((((x.setCell ⟨b, 0, none⟩ v0).setCell ⟨b, 1, none⟩ v1).setCell ⟨b, 2, none⟩ v2).setCell ⟨b, 3, none⟩ v3).alloc o) :=
  ((((g.set b 0 v0 hb).set b 1 v1 hb).set b 2 v2 hb).set b 3 v3 hb).more o
theorem rset0 {w x : World} {b : Nat} (v0 v1 v2 v3 : Value) (g : G w x) (hb : w.heap.size ≤ b) : G w ((((x.setCell ⟨b, 0, none⟩ v0).setCell ⟨b, 1, none⟩ v1).setCell ⟨b, 2, none⟩ v2).setCell ⟨b, 3, none⟩ v3) :=
  (((g.set b 0 v0 hb).set b 1 v1 hb).set b 2 v2 hb).set b 3 v3 hb
set_option maxHeartbeats 2000000 in
theorem roles_any (w : World) (op : Int) : Calls Tryz.prog 24 #[.int .i64 op] w fun e w' => e = .returned (rOut (rolesP op)) ∧ G w w' := by
  have C1 : Hid (∀ y, Calls Tryz.prog 40 #[.int .i64 op] y fun e w' => e = .returned (rOut (rolesS op)) ∧ G y w') := hide fun y => s_any y op
  have C2 : Hid (∀ y, Calls Tryz.prog 41 #[.int .i64 op] y fun e w' => e = .returned (rOut (rolesW op)) ∧ G y w') := hide fun y => w_any y op
  have C3 : Hid (∀ y, Calls Tryz.prog 42 #[.int .i64 op] y fun e w' => e = .returned (rOut (rolesT op)) ∧ G y w') := hide fun y => t_any y op
  unfold rolesP
  generalize rolesS op = o1 at C1 ⊢
  generalize rolesW op = o2 at C2 ⊢
  generalize rolesT op = o3 at C3 ⊢
  obtain ⟨W1, hW1⟩ : ∃ W1, W1 = w.alloc (.cells #[.int .u8 0, .int .u8 0, .int .u8 0, .int .u8 0] 72) := ⟨_, rfl⟩
  have B1 := bxr_new w 0 0 0 0
  rw [← hW1] at B1
  have g1 : G w W1 := by rw [hW1]; exact G.alloc _ _
  have l1 : w.heap.size < W1.heap.size := by rw [hW1, World.size_alloc]; omega
  have BX : Hid (∀ y, G W1 y → BxR y w.heap.size 0 0 0 0) := hide fun y g => B1.g l1 g
  replace g1 := hide g1
  clear B1
  rcases o1 with _ | ⟨a, b, c, d⟩
  · rw [show rOut none = .tuple #[.agg #[.int .u8 0, .int .u8 0, .int .u8 0, .int .u8 0], .bool false] from rfl] at C1
    rcases o2 with _ | ⟨a, b, c, d⟩
    · rw [show rOut none = .tuple #[.agg #[.int .u8 0, .int .u8 0, .int .u8 0, .int .u8 0], .bool false] from rfl] at C2
      rcases o3 with _ | ⟨a, b, c, d⟩
      · rw [show rOut ((none : Option R4).or ((none : Option R4).or none)) = .tuple #[.agg #[.int .u8 0, .int .u8 0, .int .u8 0, .int .u8 0], .bool false] from rfl]
        rw [show rOut none = .tuple #[.agg #[.int .u8 0, .int .u8 0, .int .u8 0, .int .u8 0], .bool false] from rfl] at C3
        go_enter Tryz.func24, Tryz.ntmps24
        go_upto_region 1 with fail
        rw [← hW1]
        clear hW1
        go_wp2_with fail
        refine (unhide C1 _).mono ?_
        rintro e w2 ⟨rfl, hw2⟩
        have gw2 : G W1 w2 := hw2
        clear C1 hw2
        go_wp2_with fail
        refine (unhide C2 _).mono ?_
        rintro e w3 ⟨rfl, hw3⟩
        have gw3 : G W1 w3 := (gw2.trans (G.alloc w2 (.cells #[.int .u8 0, .int .u8 0, .int .u8 0, .int .u8 0] 72))).trans hw3
        clear C2 hw3
        go_wp2_with fail
        refine (unhide C3 _).mono ?_
        rintro e w4 ⟨rfl, hw4⟩
        have gw4 : G W1 w4 := (gw3.trans (G.alloc w3 (.cells #[.int .u8 0, .int .u8 0, .int .u8 0, .int .u8 0] 72))).trans hw4
        clear C3 hw4
        obtain ⟨b0, b1, b2, b3, bf⟩ := unhide BX w4 gw4
        have l2 : w.heap.size < w4.heap.size := Nat.lt_of_lt_of_le l1 gw4.size
        have f0 := bf 0
        have f1 := bf 1
        have f2 := bf 2
        have f3 := bf 3
        have gz := hide ((unhide g1).trans gw4)
        clear bf g1 BX gw4
        go_wp2_with fail
        refine bodyPost_ret (by simp [results, Tryz.results24, go_sem, b0, b1, b2, b3]; try rfl) rfl ?_
        exact ⟨rfl, rset0 _ _ _ _ (unhide gz) (Nat.le_refl _)⟩
      · have eC : rOut (some (a, b, c, d)) = .tuple #[.agg #[.int .u8 (a : Int), .int .u8 (b : Int), .int .u8 (c : Int), .int .u8 (d : Int)], .bool true] := rfl
        rw [eC] at C3
        rw [show rOut ((none : Option R4).or ((none : Option R4).or (some (a, b, c, d)))) = .tuple #[.agg #[.int .u8 (a : Int), .int .u8 (b : Int), .int .u8 (c : Int), .int .u8 (d : Int)], .bool true] from rfl]
        clear eC
        generalize (a : Int) = a' at C3 ⊢
        generalize (b : Int) = b' at C3 ⊢
        generalize (c : Int) = c' at C3 ⊢
        generalize (d : Int) = d' at C3 ⊢
        go_enter Tryz.func24, Tryz.ntmps24
        go_upto_region 1 with fail
        rw [← hW1]
        clear hW1
        go_wp2_with fail
        refine (unhide C1 _).mono ?_
        rintro e w2 ⟨rfl, hw2⟩
        have gw2 : G W1 w2 := hw2
        clear C1 hw2
        go_wp2_with fail
        refine (unhide C2 _).mono ?_
        rintro e w3 ⟨rfl, hw3⟩
        have gw3 : G W1 w3 := (gw2.trans (G.alloc w2 (.cells #[.int .u8 0, .int .u8 0, .int .u8 0, .int .u8 0] 72))).trans hw3
        clear C2 hw3
        go_wp2_with fail
        refine (unhide C3 _).mono ?_
        rintro e w4 ⟨rfl, hw4⟩
        have gw4 : G W1 w4 := (gw3.trans (G.alloc w3 (.cells #[.int .u8 0, .int .u8 0, .int .u8 0, .int .u8 0] 72))).trans hw4
        clear C3 hw4
        obtain ⟨b0, b1, b2, b3, bf⟩ := unhide BX w4 gw4
        have l2 : w.heap.size < w4.heap.size := Nat.lt_of_lt_of_le l1 gw4.size
        have f0 := bf 0
        have f1 := bf 1
        have f2 := bf 2
        have f3 := bf 3
        have gz := hide ((unhide g1).trans gw4)
        clear bf g1 BX gw4
        go_wp2_with fail
        refine bodyPost_ret (by simp [results, Tryz.results24, go_sem, b0, b1, b2, b3]; try rfl) rfl ?_
        exact ⟨rfl, rset0 _ _ _ _ (unhide gz) (Nat.le_refl _)⟩
    · have eC : rOut (some (a, b, c, d)) = .tuple #[.agg #[.int .u8 (a : Int), .int .u8 (b : Int), .int .u8 (c : Int), .int .u8 (d : Int)], .bool true] := rfl
      rw [eC] at C2
      rw [show rOut ((none : Option R4).or ((some (a, b, c, d) : Option R4).or o3)) = .tuple #[.agg #[.int .u8 (a : Int), .int .u8 (b : Int), .int .u8 (c : Int), .int .u8 (d : Int)], .bool true] from rfl]
      clear eC
      generalize (a : Int) = a' at C2 ⊢
      generalize (b : Int) = b' at C2 ⊢
      generalize (c : Int) = c' at C2 ⊢
      generalize (d : Int) = d' at C2 ⊢
      clear C3
      go_enter Tryz.func24, Tryz.ntmps24
      go_upto_region 1 with fail
      rw [← hW1]
      clear hW1
      go_wp2_with fail
      refine (unhide C1 _).mono ?_
      rintro e w2 ⟨rfl, hw2⟩
      have gw2 : G W1 w2 := hw2
      clear C1 hw2
      go_wp2_with fail
      refine (unhide C2 _).mono ?_
      rintro e w3 ⟨rfl, hw3⟩
      have gw3 : G W1 w3 := (gw2.trans (G.alloc w2 (.cells #[.int .u8 0, .int .u8 0, .int .u8 0, .int .u8 0] 72))).trans hw3
      clear C2 hw3
      obtain ⟨b0, b1, b2, b3, bf⟩ := unhide BX w3 gw3
      have l2 : w.heap.size < w3.heap.size := Nat.lt_of_lt_of_le l1 gw3.size
      have f0 := bf 0
      have f1 := bf 1
      have f2 := bf 2
      have f3 := bf 3
      have gz := hide ((unhide g1).trans gw3)
      clear bf g1 BX gw3
      go_wp2_with fail
      refine bodyPost_ret (by simp [results, Tryz.results24, go_sem, b0, b1, b2, b3, l2]; try rfl) rfl ?_
      exact ⟨rfl, rset _ _ _ _ (unhide gz) (Nat.le_refl _) _⟩
  · have eC : rOut (some (a, b, c, d)) = .tuple #[.agg #[.int .u8 (a : Int), .int .u8 (b : Int), .int .u8 (c : Int), .int .u8 (d : Int)], .bool true] := rfl
    rw [eC] at C1
    rw [show rOut ((some (a, b, c, d) : Option R4).or (o2.or o3)) = .tuple #[.agg #[.int .u8 (a : Int), .int .u8 (b : Int), .int .u8 (c : Int), .int .u8 (d : Int)], .bool true] from rfl]
    clear eC
    generalize (a : Int) = a' at C1 ⊢
    generalize (b : Int) = b' at C1 ⊢
    generalize (c : Int) = c' at C1 ⊢
    generalize (d : Int) = d' at C1 ⊢
    clear C2 C3
    go_enter Tryz.func24, Tryz.ntmps24
    go_upto_region 1 with fail
    rw [← hW1]
    clear hW1
    go_wp2_with fail
    refine (unhide C1 _).mono ?_
    rintro e w2 ⟨rfl, hw2⟩
    have gw2 : G W1 w2 := hw2
    clear C1 hw2
    obtain ⟨b0, b1, b2, b3, bf⟩ := unhide BX w2 gw2
    have l2 : w.heap.size < w2.heap.size := Nat.lt_of_lt_of_le l1 gw2.size
    have f0 := bf 0
    have f1 := bf 1
    have f2 := bf 2
    have f3 := bf 3
    have gz := hide ((unhide g1).trans gw2)
    clear bf g1 BX gw2
    go_wp2_with fail
    refine bodyPost_ret (by simp [results, Tryz.results24, go_sem, b0, b1, b2, b3, l2]; try rfl) rfl ?_
    exact ⟨rfl, rset _ _ _ _ (unhide gz) (Nat.le_refl _) _⟩
end Go.Proofs.YtnliooflpclcbaaGreatDoor
