/- Follows of package live. -/
import Derived.Test.YtnliooflpclcbaaGreatDoorLiveFol
namespace Go.Proofs.YtnliooflpclcbaaGreatDoor
set_option maxRecDepth 100000
open Go.RowKit Go.Maps Go.ChangeShapes Go.WideShapes Go.ChangeAt Go.Deep

/-- Where an instruction at pc may go on, also places that are not there. -/
def folT (m : Md) (i : In) (pc : Int) : List Int :=
  if i.op = 18 then [i.a] else if i.op = 19 then [i.b, pc + 1] else if i.op = 22 then [] else if i.op = 44 then [] else if i.op = 41 then (casesP m i.a i.b).map Ca.t else [pc + 1]
def flP (m : Md) (f : Fn) (pc : Int) : List Int := if pc < 0 then [] else match f.is[pc.toNat]? with
  | none => []
  | some i => plP f.is.length (folT m i pc)
theorem plP_nil (n : Nat) : plP n [] = [] := by simp [plP]
set_option maxHeartbeats 1000000 in
theorem follows_out (w : World) (m : Md) (so : Option Addr) (sc : Nat) (go : Option Addr) (gc : Nat) (co : Option Addr) (cc : Nat) (ao : Option Addr) (ac : Nat) (fo : Option Addr) (fc : Nat) (f : Fn) (ko : Option Addr) (kc : Nat) (io : Option Addr) (ic : Nat) (mo : Option Addr) (mc : Nat) (pc : Int) (h : pc < 0 ∨ (f.is.length : Int) ≤ pc) :
    Calls Tryz.prog 36 #[agM m so sc go gc co cc ao ac fo fc, agF f ko kc io ic mo mc, .int .i64 pc] w (FTo w (flP m f pc)) := by
  have e : flP m f pc = [] := by
    unfold flP
    by_cases h0 : pc < 0
    · rw [if_pos h0]
    · rw [if_neg h0, List.getElem?_eq_none (by omega)]
  have K : Hid (∀ x, G w x → FTo w (flP m f pc) (.returned (.slice none 0 0)) x) := hide (fun x g => by rw [e]; exact ⟨_, rfl, nwl_nil _ x, g⟩)
  clear e
  unfold agM agF
  by_cases h0 : pc < 0
  · clear h
    go_enter Tryz.func36, Tryz.ntmps36
    go_wp2_with fail
    refine bodyPost_ret (by simp [results, Tryz.results36, go_sem]; try rfl) rfl ?_
    exact unhide K _ ((G.alloc _ _).more _)
  · have h1 : (f.is.length : Int) ≤ pc := by omega
    clear h
    go_enter Tryz.func36, Tryz.ntmps36
    go_wp2_with fail
    refine bodyPost_ret (by simp [results, Tryz.results36, go_sem]; try rfl) rfl ?_
    exact unhide K _ ((G.alloc _ _).more _)
set_option maxHeartbeats 2000000 in
theorem follows_18 (w : World) (m : Md) (so : Option Addr) (sc : Nat) (go : Option Addr) (gc : Nat) (co : Option Addr) (cc : Nat) (ao : Option Addr) (ac : Nat) (fo : Option Addr) (fc : Nat) (f : Fn) (ko : Option Addr) (kc : Nat) (io : Option Addr) (ic : Nat) (mo : Option Addr) (mc : Nat) (hi : RowAt elIn w io f.is.length ic f.is) (j : Nat) (A B C D : Int) (hj : f.is[j]? = some ⟨18, A, B, C, D⟩) :
    Calls Tryz.prog 36 #[agM m so sc go gc co cc ao ac fo fc, agF f ko kc io ic mo mc, .int .i64 (j : Int)] w (FTo w (flP m f (j : Int))) := by
  have hlt := (List.getElem?_eq_some_iff.1 hj).1
  obtain ⟨b, off, i', cs, rfl, ha, ecs, hcs⟩ := row_get hi hlt
  obtain rfl : ⟨18, A, B, C, D⟩ = i' := Option.some.inj (hj.symm.trans ha)
  have ecs : cs = [.int .i64 18, .int .i64 A, .int .i64 B, .int .i64 C, .int .i64 D] := ecs
  subst ecs
  have FE : Hid (flP m f (j : Int) = plP f.is.length (folT m ⟨18, A, B, C, D⟩ (j : Int))) := hide (by
    unfold flP
    rw [if_neg (by omega), Int.toNat_natCast, hj])
  have hmx : f.is.length ≤ maxLen := hi.2.1
  unfold maxLen at hmx
  have hji : (j : Int) < (f.is.length : Int) := by omega
  obtain ⟨W2, hW2⟩ : ∃ W2, W2 = ((w.alloc (.cells #[.slice so m.sh.length sc, .slice go m.gl.length gc, .slice co m.co.length cc, .slice ao m.ca.length ac, .slice fo m.fn.length fc, .int .i64 m.main] 33)).alloc (.cells #[.int .i64 f.p, .int .i64 f.c, .int .i64 f.s, .int .i64 f.r, .slice ko f.ks.length kc, .slice (some ⟨b, off, none⟩) f.is.length ic, .slice mo f.ms.length mc] 39)) := ⟨_, rfl⟩
  have gW2 : G w W2 := by rw [hW2]; exact (G.alloc _ _).more _
  have x0 : W2.cell? ⟨b, off + j * 5, none⟩ = some (.int .i64 18) := hcs W2 gW2 0 _ rfl
  have x1 : W2.cell? ⟨b, off + j * 5 + 1, none⟩ = some (.int .i64 A) := hcs W2 gW2 1 _ rfl
  have x2 : W2.cell? ⟨b, off + j * 5 + 2, none⟩ = some (.int .i64 B) := hcs W2 gW2 2 _ rfl
  have x3 : W2.cell? ⟨b, off + j * 5 + 3, none⟩ = some (.int .i64 C) := hcs W2 gW2 3 _ rfl
  have x4 : W2.cell? ⟨b, off + j * 5 + 4, none⟩ = some (.int .i64 D) := hcs W2 gW2 4 _ rfl
  have y5 : W2.cell? ⟨w.heap.size + 1, 5, none⟩ = some (.slice (some ⟨b, off, none⟩) f.is.length ic) := by rw [hW2]; simp [go_sem]
  obtain ⟨W3, hW3⟩ : ∃ W3, W3 = W2.alloc (.cells #[.int .i64 18, .int .i64 A, .int .i64 B, .int .i64 C, .int .i64 D] 41) := ⟨_, rfl⟩
  have hs2 : W2.heap.size = w.heap.size + 1 + 1 := by rw [hW2, World.size_alloc, World.size_alloc]
  have gW : Hid (G w W3) := hide (by rw [hW3]; exact gW2.more _)
  have m0 : W3.cell? ⟨w.heap.size, 0, none⟩ = some (.slice so m.sh.length sc) := by rw [hW3, hW2]; simp [go_sem]
  have m1 : W3.cell? ⟨w.heap.size, 1, none⟩ = some (.slice go m.gl.length gc) := by rw [hW3, hW2]; simp [go_sem]
  have m2 : W3.cell? ⟨w.heap.size, 2, none⟩ = some (.slice co m.co.length cc) := by rw [hW3, hW2]; simp [go_sem]
  have m3 : W3.cell? ⟨w.heap.size, 3, none⟩ = some (.slice ao m.ca.length ac) := by rw [hW3, hW2]; simp [go_sem]
  have m4 : W3.cell? ⟨w.heap.size, 4, none⟩ = some (.slice fo m.fn.length fc) := by rw [hW3, hW2]; simp [go_sem]
  have m5 : W3.cell? ⟨w.heap.size, 5, none⟩ = some (.int .i64 m.main) := by rw [hW3, hW2]; simp [go_sem]
  have f0 : W3.cell? ⟨w.heap.size + 1, 0, none⟩ = some (.int .i64 f.p) := by rw [hW3, hW2]; simp [go_sem]
  have f1 : W3.cell? ⟨w.heap.size + 1, 1, none⟩ = some (.int .i64 f.c) := by rw [hW3, hW2]; simp [go_sem]
  have f2 : W3.cell? ⟨w.heap.size + 1, 2, none⟩ = some (.int .i64 f.s) := by rw [hW3, hW2]; simp [go_sem]
  have f3 : W3.cell? ⟨w.heap.size + 1, 3, none⟩ = some (.int .i64 f.r) := by rw [hW3, hW2]; simp [go_sem]
  have f4 : W3.cell? ⟨w.heap.size + 1, 4, none⟩ = some (.slice ko f.ks.length kc) := by rw [hW3, hW2]; simp [go_sem]
  have f5 : W3.cell? ⟨w.heap.size + 1, 5, none⟩ = some (.slice (some ⟨b, off, none⟩) f.is.length ic) := by rw [hW3, hW2]; simp [go_sem]
  have f6 : W3.cell? ⟨w.heap.size + 1, 6, none⟩ = some (.slice mo f.ms.length mc) := by rw [hW3, hW2]; simp [go_sem]
  have i0 : W3.cell? ⟨w.heap.size + 1 + 1, 0, none⟩ = some (.int .i64 18) := by rw [hW3, ← hs2]; simp [go_sem]
  have i1 : W3.cell? ⟨w.heap.size + 1 + 1, 1, none⟩ = some (.int .i64 A) := by rw [hW3, ← hs2]; simp [go_sem]
  have i2 : W3.cell? ⟨w.heap.size + 1 + 1, 2, none⟩ = some (.int .i64 B) := by rw [hW3, ← hs2]; simp [go_sem]
  have i3 : W3.cell? ⟨w.heap.size + 1 + 1, 3, none⟩ = some (.int .i64 C) := by rw [hW3, ← hs2]; simp [go_sem]
  have i4 : W3.cell? ⟨w.heap.size + 1 + 1, 4, none⟩ = some (.int .i64 D) := by rw [hW3, ← hs2]; simp [go_sem]
  have PL := hide (fun x v l (h : IsL x v l) (hn : l.length ≤ 1000000) => places_any x f ko kc (some ⟨b, off, none⟩) ic mo mc v l h hn)
  unfold agF at PL
  have OW : Hid (∀ y : World, IsL (y.alloc (.cells #[.int .i64 A] 3)) (.slice (some ⟨y.heap.size, 0, none⟩) 1 1) [A]) := hide (fun y => isl_new y [A] (by show 1 ≤ maxLen; decide))
  have FT : Hid (folT m ⟨18, A, B, C, D⟩ (j : Int) = [A]) := hide (by rfl)
  clear hi hj ha hcs gW2 hlt
  unfold agM agF
  replace hW2 := hide hW2
  replace hW3 := hide hW3
  replace hs2 := hide hs2
  go_enter Tryz.func36, Tryz.ntmps36
  go_upto_region 1 with fail
  rw [← unhide hW2]
  clear hW2
  go_upto_region 4 with fail
  rw [← unhide hW3, unhide hs2]
  clear hW3 hs2 x0 x1 x2 x3 x4 y5
  go_wp2_with fail
  refine (unhide PL _ _ _ (unhide OW W3) (by simp)).mono ?_
  rintro e x2 ⟨v2, rfl, hL, hg2⟩
  have K : Hid (FTo w (flP m f (j : Int)) (.returned v2) x2) := hide (by rw [unhide FE, unhide FT]; exact ⟨v2, rfl, hL.mono ((unhide gW).more _).size, ((unhide gW).more _).trans hg2⟩)
  clear hL m0 m1 m2 m3 m4 m5 f0 f1 f2 f3 f4 f5 f6 i0 i1 i2 i3 i4
  go_wp2_with fail
  refine bodyPost_ret (by simp [results, Tryz.results36, go_sem]; try rfl) rfl ?_
  exact unhide K
set_option maxHeartbeats 2000000 in
theorem follows_19 (w : World) (m : Md) (so : Option Addr) (sc : Nat) (go : Option Addr) (gc : Nat) (co : Option Addr) (cc : Nat) (ao : Option Addr) (ac : Nat) (fo : Option Addr) (fc : Nat) (f : Fn) (ko : Option Addr) (kc : Nat) (io : Option Addr) (ic : Nat) (mo : Option Addr) (mc : Nat) (hi : RowAt elIn w io f.is.length ic f.is) (j : Nat) (A B C D : Int) (hj : f.is[j]? = some ⟨19, A, B, C, D⟩) :
    Calls Tryz.prog 36 #[agM m so sc go gc co cc ao ac fo fc, agF f ko kc io ic mo mc, .int .i64 (j : Int)] w (FTo w (flP m f (j : Int))) := by
  have hlt := (List.getElem?_eq_some_iff.1 hj).1
  obtain ⟨b, off, i', cs, rfl, ha, ecs, hcs⟩ := row_get hi hlt
  obtain rfl : ⟨19, A, B, C, D⟩ = i' := Option.some.inj (hj.symm.trans ha)
  have ecs : cs = [.int .i64 19, .int .i64 A, .int .i64 B, .int .i64 C, .int .i64 D] := ecs
  subst ecs
  have FE : Hid (flP m f (j : Int) = plP f.is.length (folT m ⟨19, A, B, C, D⟩ (j : Int))) := hide (by
    unfold flP
    rw [if_neg (by omega), Int.toNat_natCast, hj])
  have hmx : f.is.length ≤ maxLen := hi.2.1
  unfold maxLen at hmx
  have hji : (j : Int) < (f.is.length : Int) := by omega
  obtain ⟨W2, hW2⟩ : ∃ W2, W2 = ((w.alloc (.cells #[.slice so m.sh.length sc, .slice go m.gl.length gc, .slice co m.co.length cc, .slice ao m.ca.length ac, .slice fo m.fn.length fc, .int .i64 m.main] 33)).alloc (.cells #[.int .i64 f.p, .int .i64 f.c, .int .i64 f.s, .int .i64 f.r, .slice ko f.ks.length kc, .slice (some ⟨b, off, none⟩) f.is.length ic, .slice mo f.ms.length mc] 39)) := ⟨_, rfl⟩
  have gW2 : G w W2 := by rw [hW2]; exact (G.alloc _ _).more _
  have x0 : W2.cell? ⟨b, off + j * 5, none⟩ = some (.int .i64 19) := hcs W2 gW2 0 _ rfl
  have x1 : W2.cell? ⟨b, off + j * 5 + 1, none⟩ = some (.int .i64 A) := hcs W2 gW2 1 _ rfl
  have x2 : W2.cell? ⟨b, off + j * 5 + 2, none⟩ = some (.int .i64 B) := hcs W2 gW2 2 _ rfl
  have x3 : W2.cell? ⟨b, off + j * 5 + 3, none⟩ = some (.int .i64 C) := hcs W2 gW2 3 _ rfl
  have x4 : W2.cell? ⟨b, off + j * 5 + 4, none⟩ = some (.int .i64 D) := hcs W2 gW2 4 _ rfl
  have y5 : W2.cell? ⟨w.heap.size + 1, 5, none⟩ = some (.slice (some ⟨b, off, none⟩) f.is.length ic) := by rw [hW2]; simp [go_sem]
  obtain ⟨W3, hW3⟩ : ∃ W3, W3 = W2.alloc (.cells #[.int .i64 19, .int .i64 A, .int .i64 B, .int .i64 C, .int .i64 D] 41) := ⟨_, rfl⟩
  have hs2 : W2.heap.size = w.heap.size + 1 + 1 := by rw [hW2, World.size_alloc, World.size_alloc]
  have gW : Hid (G w W3) := hide (by rw [hW3]; exact gW2.more _)
  have m0 : W3.cell? ⟨w.heap.size, 0, none⟩ = some (.slice so m.sh.length sc) := by rw [hW3, hW2]; simp [go_sem]
  have m1 : W3.cell? ⟨w.heap.size, 1, none⟩ = some (.slice go m.gl.length gc) := by rw [hW3, hW2]; simp [go_sem]
  have m2 : W3.cell? ⟨w.heap.size, 2, none⟩ = some (.slice co m.co.length cc) := by rw [hW3, hW2]; simp [go_sem]
  have m3 : W3.cell? ⟨w.heap.size, 3, none⟩ = some (.slice ao m.ca.length ac) := by rw [hW3, hW2]; simp [go_sem]
  have m4 : W3.cell? ⟨w.heap.size, 4, none⟩ = some (.slice fo m.fn.length fc) := by rw [hW3, hW2]; simp [go_sem]
  have m5 : W3.cell? ⟨w.heap.size, 5, none⟩ = some (.int .i64 m.main) := by rw [hW3, hW2]; simp [go_sem]
  have f0 : W3.cell? ⟨w.heap.size + 1, 0, none⟩ = some (.int .i64 f.p) := by rw [hW3, hW2]; simp [go_sem]
  have f1 : W3.cell? ⟨w.heap.size + 1, 1, none⟩ = some (.int .i64 f.c) := by rw [hW3, hW2]; simp [go_sem]
  have f2 : W3.cell? ⟨w.heap.size + 1, 2, none⟩ = some (.int .i64 f.s) := by rw [hW3, hW2]; simp [go_sem]
  have f3 : W3.cell? ⟨w.heap.size + 1, 3, none⟩ = some (.int .i64 f.r) := by rw [hW3, hW2]; simp [go_sem]
  have f4 : W3.cell? ⟨w.heap.size + 1, 4, none⟩ = some (.slice ko f.ks.length kc) := by rw [hW3, hW2]; simp [go_sem]
  have f5 : W3.cell? ⟨w.heap.size + 1, 5, none⟩ = some (.slice (some ⟨b, off, none⟩) f.is.length ic) := by rw [hW3, hW2]; simp [go_sem]
  have f6 : W3.cell? ⟨w.heap.size + 1, 6, none⟩ = some (.slice mo f.ms.length mc) := by rw [hW3, hW2]; simp [go_sem]
  have i0 : W3.cell? ⟨w.heap.size + 1 + 1, 0, none⟩ = some (.int .i64 19) := by rw [hW3, ← hs2]; simp [go_sem]
  have i1 : W3.cell? ⟨w.heap.size + 1 + 1, 1, none⟩ = some (.int .i64 A) := by rw [hW3, ← hs2]; simp [go_sem]
  have i2 : W3.cell? ⟨w.heap.size + 1 + 1, 2, none⟩ = some (.int .i64 B) := by rw [hW3, ← hs2]; simp [go_sem]
  have i3 : W3.cell? ⟨w.heap.size + 1 + 1, 3, none⟩ = some (.int .i64 C) := by rw [hW3, ← hs2]; simp [go_sem]
  have i4 : W3.cell? ⟨w.heap.size + 1 + 1, 4, none⟩ = some (.int .i64 D) := by rw [hW3, ← hs2]; simp [go_sem]
  have PL := hide (fun x v l (h : IsL x v l) (hn : l.length ≤ 1000000) => places_any x f ko kc (some ⟨b, off, none⟩) ic mo mc v l h hn)
  unfold agF at PL
  have OW : Hid (∀ y : World, IsL (y.alloc (.cells #[.int .i64 B, .int .i64 ((j : Int) + 1)] 3)) (.slice (some ⟨y.heap.size, 0, none⟩) 2 2) [B, (j : Int) + 1]) := hide (fun y => isl_new y [B, (j : Int) + 1] (by show 2 ≤ maxLen; decide))
  have FT : Hid (folT m ⟨19, A, B, C, D⟩ (j : Int) = [B, (j : Int) + 1]) := hide (by rfl)
  clear hi hj ha hcs gW2 hlt
  unfold agM agF
  replace hW2 := hide hW2
  replace hW3 := hide hW3
  replace hs2 := hide hs2
  go_enter Tryz.func36, Tryz.ntmps36
  go_upto_region 1 with fail
  rw [← unhide hW2]
  clear hW2
  go_upto_region 4 with fail
  rw [← unhide hW3, unhide hs2]
  clear hW3 hs2 x0 x1 x2 x3 x4 y5
  go_wp2_with fail
  refine (unhide PL _ _ _ (unhide OW W3) (by simp)).mono ?_
  rintro e x2 ⟨v2, rfl, hL, hg2⟩
  have K : Hid (FTo w (flP m f (j : Int)) (.returned v2) x2) := hide (by rw [unhide FE, unhide FT]; exact ⟨v2, rfl, hL.mono ((unhide gW).more _).size, ((unhide gW).more _).trans hg2⟩)
  clear hL m0 m1 m2 m3 m4 m5 f0 f1 f2 f3 f4 f5 f6 i0 i1 i2 i3 i4
  go_wp2_with fail
  refine bodyPost_ret (by simp [results, Tryz.results36, go_sem]; try rfl) rfl ?_
  exact unhide K
set_option maxHeartbeats 2000000 in
theorem follows_22 (w : World) (m : Md) (so : Option Addr) (sc : Nat) (go : Option Addr) (gc : Nat) (co : Option Addr) (cc : Nat) (ao : Option Addr) (ac : Nat) (fo : Option Addr) (fc : Nat) (f : Fn) (ko : Option Addr) (kc : Nat) (io : Option Addr) (ic : Nat) (mo : Option Addr) (mc : Nat) (hi : RowAt elIn w io f.is.length ic f.is) (j : Nat) (A B C D : Int) (hj : f.is[j]? = some ⟨22, A, B, C, D⟩) :
    Calls Tryz.prog 36 #[agM m so sc go gc co cc ao ac fo fc, agF f ko kc io ic mo mc, .int .i64 (j : Int)] w (FTo w (flP m f (j : Int))) := by
  have hlt := (List.getElem?_eq_some_iff.1 hj).1
  obtain ⟨b, off, i', cs, rfl, ha, ecs, hcs⟩ := row_get hi hlt
  obtain rfl : ⟨22, A, B, C, D⟩ = i' := Option.some.inj (hj.symm.trans ha)
  have ecs : cs = [.int .i64 22, .int .i64 A, .int .i64 B, .int .i64 C, .int .i64 D] := ecs
  subst ecs
  have FE : Hid (flP m f (j : Int) = plP f.is.length (folT m ⟨22, A, B, C, D⟩ (j : Int))) := hide (by
    unfold flP
    rw [if_neg (by omega), Int.toNat_natCast, hj])
  have hmx : f.is.length ≤ maxLen := hi.2.1
  unfold maxLen at hmx
  have hji : (j : Int) < (f.is.length : Int) := by omega
  obtain ⟨W2, hW2⟩ : ∃ W2, W2 = ((w.alloc (.cells #[.slice so m.sh.length sc, .slice go m.gl.length gc, .slice co m.co.length cc, .slice ao m.ca.length ac, .slice fo m.fn.length fc, .int .i64 m.main] 33)).alloc (.cells #[.int .i64 f.p, .int .i64 f.c, .int .i64 f.s, .int .i64 f.r, .slice ko f.ks.length kc, .slice (some ⟨b, off, none⟩) f.is.length ic, .slice mo f.ms.length mc] 39)) := ⟨_, rfl⟩
  have gW2 : G w W2 := by rw [hW2]; exact (G.alloc _ _).more _
  have x0 : W2.cell? ⟨b, off + j * 5, none⟩ = some (.int .i64 22) := hcs W2 gW2 0 _ rfl
  have x1 : W2.cell? ⟨b, off + j * 5 + 1, none⟩ = some (.int .i64 A) := hcs W2 gW2 1 _ rfl
  have x2 : W2.cell? ⟨b, off + j * 5 + 2, none⟩ = some (.int .i64 B) := hcs W2 gW2 2 _ rfl
  have x3 : W2.cell? ⟨b, off + j * 5 + 3, none⟩ = some (.int .i64 C) := hcs W2 gW2 3 _ rfl
  have x4 : W2.cell? ⟨b, off + j * 5 + 4, none⟩ = some (.int .i64 D) := hcs W2 gW2 4 _ rfl
  have y5 : W2.cell? ⟨w.heap.size + 1, 5, none⟩ = some (.slice (some ⟨b, off, none⟩) f.is.length ic) := by rw [hW2]; simp [go_sem]
  obtain ⟨W3, hW3⟩ : ∃ W3, W3 = W2.alloc (.cells #[.int .i64 22, .int .i64 A, .int .i64 B, .int .i64 C, .int .i64 D] 41) := ⟨_, rfl⟩
  have hs2 : W2.heap.size = w.heap.size + 1 + 1 := by rw [hW2, World.size_alloc, World.size_alloc]
  have gW : Hid (G w W3) := hide (by rw [hW3]; exact gW2.more _)
  have m0 : W3.cell? ⟨w.heap.size, 0, none⟩ = some (.slice so m.sh.length sc) := by rw [hW3, hW2]; simp [go_sem]
  have m1 : W3.cell? ⟨w.heap.size, 1, none⟩ = some (.slice go m.gl.length gc) := by rw [hW3, hW2]; simp [go_sem]
  have m2 : W3.cell? ⟨w.heap.size, 2, none⟩ = some (.slice co m.co.length cc) := by rw [hW3, hW2]; simp [go_sem]
  have m3 : W3.cell? ⟨w.heap.size, 3, none⟩ = some (.slice ao m.ca.length ac) := by rw [hW3, hW2]; simp [go_sem]
  have m4 : W3.cell? ⟨w.heap.size, 4, none⟩ = some (.slice fo m.fn.length fc) := by rw [hW3, hW2]; simp [go_sem]
  have m5 : W3.cell? ⟨w.heap.size, 5, none⟩ = some (.int .i64 m.main) := by rw [hW3, hW2]; simp [go_sem]
  have f0 : W3.cell? ⟨w.heap.size + 1, 0, none⟩ = some (.int .i64 f.p) := by rw [hW3, hW2]; simp [go_sem]
  have f1 : W3.cell? ⟨w.heap.size + 1, 1, none⟩ = some (.int .i64 f.c) := by rw [hW3, hW2]; simp [go_sem]
  have f2 : W3.cell? ⟨w.heap.size + 1, 2, none⟩ = some (.int .i64 f.s) := by rw [hW3, hW2]; simp [go_sem]
  have f3 : W3.cell? ⟨w.heap.size + 1, 3, none⟩ = some (.int .i64 f.r) := by rw [hW3, hW2]; simp [go_sem]
  have f4 : W3.cell? ⟨w.heap.size + 1, 4, none⟩ = some (.slice ko f.ks.length kc) := by rw [hW3, hW2]; simp [go_sem]
  have f5 : W3.cell? ⟨w.heap.size + 1, 5, none⟩ = some (.slice (some ⟨b, off, none⟩) f.is.length ic) := by rw [hW3, hW2]; simp [go_sem]
  have f6 : W3.cell? ⟨w.heap.size + 1, 6, none⟩ = some (.slice mo f.ms.length mc) := by rw [hW3, hW2]; simp [go_sem]
  have i0 : W3.cell? ⟨w.heap.size + 1 + 1, 0, none⟩ = some (.int .i64 22) := by rw [hW3, ← hs2]; simp [go_sem]
  have i1 : W3.cell? ⟨w.heap.size + 1 + 1, 1, none⟩ = some (.int .i64 A) := by rw [hW3, ← hs2]; simp [go_sem]
  have i2 : W3.cell? ⟨w.heap.size + 1 + 1, 2, none⟩ = some (.int .i64 B) := by rw [hW3, ← hs2]; simp [go_sem]
  have i3 : W3.cell? ⟨w.heap.size + 1 + 1, 3, none⟩ = some (.int .i64 C) := by rw [hW3, ← hs2]; simp [go_sem]
  have i4 : W3.cell? ⟨w.heap.size + 1 + 1, 4, none⟩ = some (.int .i64 D) := by rw [hW3, ← hs2]; simp [go_sem]
  have PL := hide (fun x v l (h : IsL x v l) (hn : l.length ≤ 1000000) => places_any x f ko kc (some ⟨b, off, none⟩) ic mo mc v l h hn)
  unfold agF at PL
  have K : Hid (∀ x, G w x → FTo w (flP m f (j : Int)) (.returned (.slice none 0 0)) x) := hide (fun x g => by
    rw [unhide FE]
    have : folT m ⟨22, A, B, C, D⟩ (j : Int) = [] := rfl
    rw [this, plP_nil]
    exact ⟨_, rfl, nwl_nil _ x, g⟩)
  clear hi hj ha hcs gW2 hlt
  unfold agM agF
  replace hW2 := hide hW2
  replace hW3 := hide hW3
  replace hs2 := hide hs2
  go_enter Tryz.func36, Tryz.ntmps36
  go_upto_region 1 with fail
  rw [← unhide hW2]
  clear hW2
  go_upto_region 4 with fail
  rw [← unhide hW3, unhide hs2]
  clear hW3 hs2 x0 x1 x2 x3 x4 y5
  clear PL FE
  go_wp2_with fail
  refine bodyPost_ret (by simp [results, Tryz.results36, go_sem]; try rfl) rfl ?_
  exact unhide K _ (unhide gW)
set_option maxHeartbeats 2000000 in
theorem follows_44 (w : World) (m : Md) (so : Option Addr) (sc : Nat) (go : Option Addr) (gc : Nat) (co : Option Addr) (cc : Nat) (ao : Option Addr) (ac : Nat) (fo : Option Addr) (fc : Nat) (f : Fn) (ko : Option Addr) (kc : Nat) (io : Option Addr) (ic : Nat) (mo : Option Addr) (mc : Nat) (hi : RowAt elIn w io f.is.length ic f.is) (j : Nat) (A B C D : Int) (hj : f.is[j]? = some ⟨44, A, B, C, D⟩) :
    Calls Tryz.prog 36 #[agM m so sc go gc co cc ao ac fo fc, agF f ko kc io ic mo mc, .int .i64 (j : Int)] w (FTo w (flP m f (j : Int))) := by
  have hlt := (List.getElem?_eq_some_iff.1 hj).1
  obtain ⟨b, off, i', cs, rfl, ha, ecs, hcs⟩ := row_get hi hlt
  obtain rfl : ⟨44, A, B, C, D⟩ = i' := Option.some.inj (hj.symm.trans ha)
  have ecs : cs = [.int .i64 44, .int .i64 A, .int .i64 B, .int .i64 C, .int .i64 D] := ecs
  subst ecs
  have FE : Hid (flP m f (j : Int) = plP f.is.length (folT m ⟨44, A, B, C, D⟩ (j : Int))) := hide (by
    unfold flP
    rw [if_neg (by omega), Int.toNat_natCast, hj])
  have hmx : f.is.length ≤ maxLen := hi.2.1
  unfold maxLen at hmx
  have hji : (j : Int) < (f.is.length : Int) := by omega
  obtain ⟨W2, hW2⟩ : ∃ W2, W2 = ((w.alloc (.cells #[.slice so m.sh.length sc, .slice go m.gl.length gc, .slice co m.co.length cc, .slice ao m.ca.length ac, .slice fo m.fn.length fc, .int .i64 m.main] 33)).alloc (.cells #[.int .i64 f.p, .int .i64 f.c, .int .i64 f.s, .int .i64 f.r, .slice ko f.ks.length kc, .slice (some ⟨b, off, none⟩) f.is.length ic, .slice mo f.ms.length mc] 39)) := ⟨_, rfl⟩
  have gW2 : G w W2 := by rw [hW2]; exact (G.alloc _ _).more _
  have x0 : W2.cell? ⟨b, off + j * 5, none⟩ = some (.int .i64 44) := hcs W2 gW2 0 _ rfl
  have x1 : W2.cell? ⟨b, off + j * 5 + 1, none⟩ = some (.int .i64 A) := hcs W2 gW2 1 _ rfl
  have x2 : W2.cell? ⟨b, off + j * 5 + 2, none⟩ = some (.int .i64 B) := hcs W2 gW2 2 _ rfl
  have x3 : W2.cell? ⟨b, off + j * 5 + 3, none⟩ = some (.int .i64 C) := hcs W2 gW2 3 _ rfl
  have x4 : W2.cell? ⟨b, off + j * 5 + 4, none⟩ = some (.int .i64 D) := hcs W2 gW2 4 _ rfl
  have y5 : W2.cell? ⟨w.heap.size + 1, 5, none⟩ = some (.slice (some ⟨b, off, none⟩) f.is.length ic) := by rw [hW2]; simp [go_sem]
  obtain ⟨W3, hW3⟩ : ∃ W3, W3 = W2.alloc (.cells #[.int .i64 44, .int .i64 A, .int .i64 B, .int .i64 C, .int .i64 D] 41) := ⟨_, rfl⟩
  have hs2 : W2.heap.size = w.heap.size + 1 + 1 := by rw [hW2, World.size_alloc, World.size_alloc]
  have gW : Hid (G w W3) := hide (by rw [hW3]; exact gW2.more _)
  have m0 : W3.cell? ⟨w.heap.size, 0, none⟩ = some (.slice so m.sh.length sc) := by rw [hW3, hW2]; simp [go_sem]
  have m1 : W3.cell? ⟨w.heap.size, 1, none⟩ = some (.slice go m.gl.length gc) := by rw [hW3, hW2]; simp [go_sem]
  have m2 : W3.cell? ⟨w.heap.size, 2, none⟩ = some (.slice co m.co.length cc) := by rw [hW3, hW2]; simp [go_sem]
  have m3 : W3.cell? ⟨w.heap.size, 3, none⟩ = some (.slice ao m.ca.length ac) := by rw [hW3, hW2]; simp [go_sem]
  have m4 : W3.cell? ⟨w.heap.size, 4, none⟩ = some (.slice fo m.fn.length fc) := by rw [hW3, hW2]; simp [go_sem]
  have m5 : W3.cell? ⟨w.heap.size, 5, none⟩ = some (.int .i64 m.main) := by rw [hW3, hW2]; simp [go_sem]
  have f0 : W3.cell? ⟨w.heap.size + 1, 0, none⟩ = some (.int .i64 f.p) := by rw [hW3, hW2]; simp [go_sem]
  have f1 : W3.cell? ⟨w.heap.size + 1, 1, none⟩ = some (.int .i64 f.c) := by rw [hW3, hW2]; simp [go_sem]
  have f2 : W3.cell? ⟨w.heap.size + 1, 2, none⟩ = some (.int .i64 f.s) := by rw [hW3, hW2]; simp [go_sem]
  have f3 : W3.cell? ⟨w.heap.size + 1, 3, none⟩ = some (.int .i64 f.r) := by rw [hW3, hW2]; simp [go_sem]
  have f4 : W3.cell? ⟨w.heap.size + 1, 4, none⟩ = some (.slice ko f.ks.length kc) := by rw [hW3, hW2]; simp [go_sem]
  have f5 : W3.cell? ⟨w.heap.size + 1, 5, none⟩ = some (.slice (some ⟨b, off, none⟩) f.is.length ic) := by rw [hW3, hW2]; simp [go_sem]
  have f6 : W3.cell? ⟨w.heap.size + 1, 6, none⟩ = some (.slice mo f.ms.length mc) := by rw [hW3, hW2]; simp [go_sem]
  have i0 : W3.cell? ⟨w.heap.size + 1 + 1, 0, none⟩ = some (.int .i64 44) := by rw [hW3, ← hs2]; simp [go_sem]
  have i1 : W3.cell? ⟨w.heap.size + 1 + 1, 1, none⟩ = some (.int .i64 A) := by rw [hW3, ← hs2]; simp [go_sem]
  have i2 : W3.cell? ⟨w.heap.size + 1 + 1, 2, none⟩ = some (.int .i64 B) := by rw [hW3, ← hs2]; simp [go_sem]
  have i3 : W3.cell? ⟨w.heap.size + 1 + 1, 3, none⟩ = some (.int .i64 C) := by rw [hW3, ← hs2]; simp [go_sem]
  have i4 : W3.cell? ⟨w.heap.size + 1 + 1, 4, none⟩ = some (.int .i64 D) := by rw [hW3, ← hs2]; simp [go_sem]
  have PL := hide (fun x v l (h : IsL x v l) (hn : l.length ≤ 1000000) => places_any x f ko kc (some ⟨b, off, none⟩) ic mo mc v l h hn)
  unfold agF at PL
  have K : Hid (∀ x, G w x → FTo w (flP m f (j : Int)) (.returned (.slice none 0 0)) x) := hide (fun x g => by
    rw [unhide FE]
    have : folT m ⟨44, A, B, C, D⟩ (j : Int) = [] := rfl
    rw [this, plP_nil]
    exact ⟨_, rfl, nwl_nil _ x, g⟩)
  clear hi hj ha hcs gW2 hlt
  unfold agM agF
  replace hW2 := hide hW2
  replace hW3 := hide hW3
  replace hs2 := hide hs2
  go_enter Tryz.func36, Tryz.ntmps36
  go_upto_region 1 with fail
  rw [← unhide hW2]
  clear hW2
  go_upto_region 4 with fail
  rw [← unhide hW3, unhide hs2]
  clear hW3 hs2 x0 x1 x2 x3 x4 y5
  clear PL FE
  go_wp2_with fail
  refine bodyPost_ret (by simp [results, Tryz.results36, go_sem]; try rfl) rfl ?_
  exact unhide K _ (unhide gW)
set_option maxHeartbeats 2000000 in
theorem follows_41 (w : World) (m : Md) (so : Option Addr) (sc : Nat) (go : Option Addr) (gc : Nat) (co : Option Addr) (cc : Nat) (ao : Option Addr) (ac : Nat) (fo : Option Addr) (fc : Nat) (h : ModR w m so sc go gc co cc ao ac fo fc) (f : Fn) (ko : Option Addr) (kc : Nat) (io : Option Addr) (ic : Nat) (mo : Option Addr) (mc : Nat) (hi : RowAt elIn w io f.is.length ic f.is) (j : Nat) (A B C D : Int) (hj : f.is[j]? = some ⟨41, A, B, C, D⟩) (oA : oI A) (hn : m.ca.length ≤ 1000000) :
    Calls Tryz.prog 36 #[agM m so sc go gc co cc ao ac fo fc, agF f ko kc io ic mo mc, .int .i64 (j : Int)] w (FTo w (flP m f (j : Int))) := by
  have hlt := (List.getElem?_eq_some_iff.1 hj).1
  obtain ⟨b, off, i', cs, rfl, ha, ecs, hcs⟩ := row_get hi hlt
  obtain rfl : ⟨41, A, B, C, D⟩ = i' := Option.some.inj (hj.symm.trans ha)
  have ecs : cs = [.int .i64 41, .int .i64 A, .int .i64 B, .int .i64 C, .int .i64 D] := ecs
  subst ecs
  have FE : Hid (flP m f (j : Int) = plP f.is.length (folT m ⟨41, A, B, C, D⟩ (j : Int))) := hide (by
    unfold flP
    rw [if_neg (by omega), Int.toNat_natCast, hj])
  have hmx : f.is.length ≤ maxLen := hi.2.1
  unfold maxLen at hmx
  have hji : (j : Int) < (f.is.length : Int) := by omega
  obtain ⟨W2, hW2⟩ : ∃ W2, W2 = ((w.alloc (.cells #[.slice so m.sh.length sc, .slice go m.gl.length gc, .slice co m.co.length cc, .slice ao m.ca.length ac, .slice fo m.fn.length fc, .int .i64 m.main] 33)).alloc (.cells #[.int .i64 f.p, .int .i64 f.c, .int .i64 f.s, .int .i64 f.r, .slice ko f.ks.length kc, .slice (some ⟨b, off, none⟩) f.is.length ic, .slice mo f.ms.length mc] 39)) := ⟨_, rfl⟩
  have gW2 : G w W2 := by rw [hW2]; exact (G.alloc _ _).more _
  have x0 : W2.cell? ⟨b, off + j * 5, none⟩ = some (.int .i64 41) := hcs W2 gW2 0 _ rfl
  have x1 : W2.cell? ⟨b, off + j * 5 + 1, none⟩ = some (.int .i64 A) := hcs W2 gW2 1 _ rfl
  have x2 : W2.cell? ⟨b, off + j * 5 + 2, none⟩ = some (.int .i64 B) := hcs W2 gW2 2 _ rfl
  have x3 : W2.cell? ⟨b, off + j * 5 + 3, none⟩ = some (.int .i64 C) := hcs W2 gW2 3 _ rfl
  have x4 : W2.cell? ⟨b, off + j * 5 + 4, none⟩ = some (.int .i64 D) := hcs W2 gW2 4 _ rfl
  have y5 : W2.cell? ⟨w.heap.size + 1, 5, none⟩ = some (.slice (some ⟨b, off, none⟩) f.is.length ic) := by rw [hW2]; simp [go_sem]
  obtain ⟨W3, hW3⟩ : ∃ W3, W3 = W2.alloc (.cells #[.int .i64 41, .int .i64 A, .int .i64 B, .int .i64 C, .int .i64 D] 41) := ⟨_, rfl⟩
  have hs2 : W2.heap.size = w.heap.size + 1 + 1 := by rw [hW2, World.size_alloc, World.size_alloc]
  have gW : Hid (G w W3) := hide (by rw [hW3]; exact gW2.more _)
  have m0 : W3.cell? ⟨w.heap.size, 0, none⟩ = some (.slice so m.sh.length sc) := by rw [hW3, hW2]; simp [go_sem]
  have m1 : W3.cell? ⟨w.heap.size, 1, none⟩ = some (.slice go m.gl.length gc) := by rw [hW3, hW2]; simp [go_sem]
  have m2 : W3.cell? ⟨w.heap.size, 2, none⟩ = some (.slice co m.co.length cc) := by rw [hW3, hW2]; simp [go_sem]
  have m3 : W3.cell? ⟨w.heap.size, 3, none⟩ = some (.slice ao m.ca.length ac) := by rw [hW3, hW2]; simp [go_sem]
  have m4 : W3.cell? ⟨w.heap.size, 4, none⟩ = some (.slice fo m.fn.length fc) := by rw [hW3, hW2]; simp [go_sem]
  have m5 : W3.cell? ⟨w.heap.size, 5, none⟩ = some (.int .i64 m.main) := by rw [hW3, hW2]; simp [go_sem]
  have f0 : W3.cell? ⟨w.heap.size + 1, 0, none⟩ = some (.int .i64 f.p) := by rw [hW3, hW2]; simp [go_sem]
  have f1 : W3.cell? ⟨w.heap.size + 1, 1, none⟩ = some (.int .i64 f.c) := by rw [hW3, hW2]; simp [go_sem]
  have f2 : W3.cell? ⟨w.heap.size + 1, 2, none⟩ = some (.int .i64 f.s) := by rw [hW3, hW2]; simp [go_sem]
  have f3 : W3.cell? ⟨w.heap.size + 1, 3, none⟩ = some (.int .i64 f.r) := by rw [hW3, hW2]; simp [go_sem]
  have f4 : W3.cell? ⟨w.heap.size + 1, 4, none⟩ = some (.slice ko f.ks.length kc) := by rw [hW3, hW2]; simp [go_sem]
  have f5 : W3.cell? ⟨w.heap.size + 1, 5, none⟩ = some (.slice (some ⟨b, off, none⟩) f.is.length ic) := by rw [hW3, hW2]; simp [go_sem]
  have f6 : W3.cell? ⟨w.heap.size + 1, 6, none⟩ = some (.slice mo f.ms.length mc) := by rw [hW3, hW2]; simp [go_sem]
  have i0 : W3.cell? ⟨w.heap.size + 1 + 1, 0, none⟩ = some (.int .i64 41) := by rw [hW3, ← hs2]; simp [go_sem]
  have i1 : W3.cell? ⟨w.heap.size + 1 + 1, 1, none⟩ = some (.int .i64 A) := by rw [hW3, ← hs2]; simp [go_sem]
  have i2 : W3.cell? ⟨w.heap.size + 1 + 1, 2, none⟩ = some (.int .i64 B) := by rw [hW3, ← hs2]; simp [go_sem]
  have i3 : W3.cell? ⟨w.heap.size + 1 + 1, 3, none⟩ = some (.int .i64 C) := by rw [hW3, ← hs2]; simp [go_sem]
  have i4 : W3.cell? ⟨w.heap.size + 1 + 1, 4, none⟩ = some (.int .i64 D) := by rw [hW3, ← hs2]; simp [go_sem]
  have PL := hide (fun x v l (h : IsL x v l) (hn : l.length ≤ 1000000) => places_any x f ko kc (some ⟨b, off, none⟩) ic mo mc v l h hn)
  unfold agF at PL
  have KP : Hid (∀ x, G W3 x → G W3 x ∧ x.cell? ⟨w.heap.size, 0, none⟩ = some (.slice so m.sh.length sc) ∧ x.cell? ⟨w.heap.size, 1, none⟩ = some (.slice go m.gl.length gc) ∧ x.cell? ⟨w.heap.size, 2, none⟩ = some (.slice co m.co.length cc) ∧ x.cell? ⟨w.heap.size, 3, none⟩ = some (.slice ao m.ca.length ac) ∧ x.cell? ⟨w.heap.size, 4, none⟩ = some (.slice fo m.fn.length fc) ∧ x.cell? ⟨w.heap.size, 5, none⟩ = some (.int .i64 m.main) ∧ x.cell? ⟨w.heap.size + 1, 0, none⟩ = some (.int .i64 f.p) ∧ x.cell? ⟨w.heap.size + 1, 1, none⟩ = some (.int .i64 f.c) ∧ x.cell? ⟨w.heap.size + 1, 2, none⟩ = some (.int .i64 f.s) ∧ x.cell? ⟨w.heap.size + 1, 3, none⟩ = some (.int .i64 f.r) ∧ x.cell? ⟨w.heap.size + 1, 4, none⟩ = some (.slice ko f.ks.length kc) ∧ x.cell? ⟨w.heap.size + 1, 5, none⟩ = some (.slice (some ⟨b, off, none⟩) f.is.length ic) ∧ x.cell? ⟨w.heap.size + 1, 6, none⟩ = some (.slice mo f.ms.length mc) ∧ x.cell? ⟨w.heap.size + 1 + 1, 0, none⟩ = some (.int .i64 41) ∧ x.cell? ⟨w.heap.size + 1 + 1, 1, none⟩ = some (.int .i64 A) ∧ x.cell? ⟨w.heap.size + 1 + 1, 2, none⟩ = some (.int .i64 B) ∧ x.cell? ⟨w.heap.size + 1 + 1, 3, none⟩ = some (.int .i64 C) ∧ x.cell? ⟨w.heap.size + 1 + 1, 4, none⟩ = some (.int .i64 D)) := hide fun x g => ⟨g, g.cell m0, g.cell m1, g.cell m2, g.cell m3, g.cell m4, g.cell m5, g.cell f0, g.cell f1, g.cell f2, g.cell f3, g.cell f4, g.cell f5, g.cell f6, g.cell i0, g.cell i1, g.cell i2, g.cell i3, g.cell i4⟩
  have CO := hide (fun x (g : G W3 x) => casesOf_any x m so sc go gc co cc ao ac fo fc (h.g ((unhide gW).trans g)) ⟨41, A, B, C, D⟩ oA)
  unfold agM agI at CO
  have CT := hide (fun x (qo : Option Addr) (n c : Nat) (l : List Ca) (hr : RowAt elCa x qo n c l) (hn : n ≤ 1000000) => targets_any x qo n c l hr hn)
  have HL : Hid ((casesP m A B).length ≤ 1000000) := hide (by unfold casesP; split; simp; rw [List.length_take, List.length_drop]; omega)
  have FT : Hid (folT m ⟨41, A, B, C, D⟩ (j : Int) = (casesP m A B).map Ca.t) := hide (by rfl)
  clear h hn oA
  clear hi hj ha hcs gW2 hlt
  unfold agM agF
  replace hW2 := hide hW2
  replace hW3 := hide hW3
  replace hs2 := hide hs2
  go_enter Tryz.func36, Tryz.ntmps36
  go_upto_region 1 with fail
  rw [← unhide hW2]
  clear hW2
  go_upto_region 4 with fail
  rw [← unhide hW3, unhide hs2]
  clear hW3 hs2 x0 x1 x2 x3 x4 y5
  go_wp2_with fail
  refine wp_region_noPanic ?_
  refine wp_region_held_drew (S := fun x => G W3 x ∧ x.cell? ⟨w.heap.size, 0, none⟩ = some (.slice so m.sh.length sc) ∧ x.cell? ⟨w.heap.size, 1, none⟩ = some (.slice go m.gl.length gc) ∧ x.cell? ⟨w.heap.size, 2, none⟩ = some (.slice co m.co.length cc) ∧ x.cell? ⟨w.heap.size, 3, none⟩ = some (.slice ao m.ca.length ac) ∧ x.cell? ⟨w.heap.size, 4, none⟩ = some (.slice fo m.fn.length fc) ∧ x.cell? ⟨w.heap.size, 5, none⟩ = some (.int .i64 m.main) ∧ x.cell? ⟨w.heap.size + 1, 0, none⟩ = some (.int .i64 f.p) ∧ x.cell? ⟨w.heap.size + 1, 1, none⟩ = some (.int .i64 f.c) ∧ x.cell? ⟨w.heap.size + 1, 2, none⟩ = some (.int .i64 f.s) ∧ x.cell? ⟨w.heap.size + 1, 3, none⟩ = some (.int .i64 f.r) ∧ x.cell? ⟨w.heap.size + 1, 4, none⟩ = some (.slice ko f.ks.length kc) ∧ x.cell? ⟨w.heap.size + 1, 5, none⟩ = some (.slice (some ⟨b, off, none⟩) f.is.length ic) ∧ x.cell? ⟨w.heap.size + 1, 6, none⟩ = some (.slice mo f.ms.length mc) ∧ x.cell? ⟨w.heap.size + 1 + 1, 0, none⟩ = some (.int .i64 41) ∧ x.cell? ⟨w.heap.size + 1 + 1, 1, none⟩ = some (.int .i64 A) ∧ x.cell? ⟨w.heap.size + 1 + 1, 2, none⟩ = some (.int .i64 B) ∧ x.cell? ⟨w.heap.size + 1 + 1, 3, none⟩ = some (.int .i64 C) ∧ x.cell? ⟨w.heap.size + 1 + 1, 4, none⟩ = some (.int .i64 D)) (by kernel_rfl) (unhide KP _ (G.refl W3).drew) (fun hHeld => ?_)
  refine wpAnyH_take (i := 0) (v := .agg #[.int .i64 f.p, .int .i64 f.c, .int .i64 f.s, .int .i64 f.r, .slice ko f.ks.length kc, .slice (some ⟨b, off, none⟩) f.is.length ic, .slice mo f.ms.length mc]) rfl (by kernel_rfl) (by kernel_rfl) (by kernel_rfl) (fun _ _ _ h => h) (Or.inl ⟨by rfl, fun w hSw => by obtain ⟨t0, t1, t2, t3, t4, t5, t6, t7, t8, t9, t10, t11, t12, t13, t14, t15, t16, t17, t18⟩ := hSw; go_simp⟩) (by assumption) ?_
  try simp only [Act.put, List.getElem_toArray, List.getElem_cons_zero, List.setIfInBounds_toArray, List.set_cons_zero, List.set_cons_succ]
  refine wpAnyH_take (i := 1) (v := .agg #[.slice so m.sh.length sc, .slice go m.gl.length gc, .slice co m.co.length cc, .slice ao m.ca.length ac, .slice fo m.fn.length fc, .int .i64 m.main]) rfl (by kernel_rfl) (by kernel_rfl) (by kernel_rfl) (fun _ _ _ h => h) (Or.inl ⟨by rfl, fun w hSw => by obtain ⟨t0, t1, t2, t3, t4, t5, t6, t7, t8, t9, t10, t11, t12, t13, t14, t15, t16, t17, t18⟩ := hSw; go_simp⟩) (by assumption) ?_
  try simp only [Act.put, List.getElem_toArray, List.getElem_cons_succ, List.getElem_cons_zero, List.setIfInBounds_toArray, List.set_cons_zero, List.set_cons_succ]
  refine wpAnyH_take (i := 2) (v := .agg #[.int .i64 41, .int .i64 A, .int .i64 B, .int .i64 C, .int .i64 D]) rfl (by kernel_rfl) (by kernel_rfl) (by kernel_rfl) (fun _ _ _ h => h) (Or.inl ⟨by rfl, fun w hSw => by obtain ⟨t0, t1, t2, t3, t4, t5, t6, t7, t8, t9, t10, t11, t12, t13, t14, t15, t16, t17, t18⟩ := hSw; go_simp⟩) (by assumption) ?_
  try simp only [Act.put, List.getElem_toArray, List.getElem_cons_succ, List.getElem_cons_zero, List.setIfInBounds_toArray, List.set_cons_zero, List.set_cons_succ]
  refine wpAnyH_ready (rs := [3]) (by kernel_rfl) (by simp) ?_
  refine AllReadyH.cons rfl (fun K hK => ?_) AllReadyH.nil
  go_simp
  refine (unhide CO _ hHeld.1).mono ?_
  rintro e x1 ⟨qo, qc, rfl, hr, hg1⟩
  go_wp2_with fail
  have gx1 := hHeld.1.trans hg1
  refine hK.out _ _ (unhide KP _ gx1) (fun hH1 => ?_)
  clear hK K hHeld
  try simp only [Act.put, List.getElem_toArray, List.getElem_cons_succ, List.getElem_cons_zero, List.setIfInBounds_toArray, List.set_cons_zero, List.set_cons_succ]
  replace hr := hide hr
  refine wpAnyH_ready (rs := [4]) (by kernel_rfl) (by simp) ?_
  refine AllReadyH.cons rfl (fun K hK => ?_) AllReadyH.nil
  go_simp
  refine (unhide CT _ _ _ _ _ (unhide hr) (unhide HL)).mono ?_
  rintro e x2 ⟨v2, rfl, hL2, hg2⟩
  go_wp2_with fail
  have gx2 := gx1.trans hg2
  refine hK.out _ _ (unhide KP _ gx2) (fun hH2 => ?_)
  clear hK K hH1 hr
  try simp only [Act.put, List.getElem_toArray, List.getElem_cons_succ, List.getElem_cons_zero, List.setIfInBounds_toArray, List.set_cons_zero, List.set_cons_succ]
  replace hL2 := hide hL2
  refine wpAnyH_ready (rs := [5]) (by kernel_rfl) (by simp) ?_
  refine AllReadyH.cons rfl (fun K hK => ?_) AllReadyH.nil
  go_simp
  refine (unhide PL _ _ _ (unhide hL2) (by rw [List.length_map]; exact unhide HL)).mono ?_
  rintro e x3 ⟨v3, rfl, hL3, hg3⟩
  go_wp2_with fail
  have gx3 := gx2.trans hg3
  refine hK.out _ _ (unhide KP _ gx3) (fun hH3 => ?_)
  clear hK K hH2 hL2
  try simp only [Act.put, List.getElem_toArray, List.getElem_cons_succ, List.getElem_cons_zero, List.setIfInBounds_toArray, List.set_cons_zero, List.set_cons_succ]
  refine wpAnyH_take (i := 6) (v := v3) rfl (by kernel_rfl) (by kernel_rfl) (by kernel_rfl) (fun _ _ _ h => h) (Or.inl ⟨by rfl, fun w hSw => by obtain ⟨t0, t1, t2, t3, t4, t5, t6, t7, t8, t9, t10, t11, t12, t13, t14, t15, t16, t17, t18⟩ := hSw; go_simp⟩) (by assumption) ?_
  try simp only [Act.put, List.getElem_toArray, List.getElem_cons_succ, List.getElem_cons_zero, List.setIfInBounds_toArray, List.set_cons_zero, List.set_cons_succ]
  refine wpAnyH_done (by kernel_rfl) (NoPanic.normal ?_) _
  have K : Hid (FTo w (flP m f (j : Int)) (.returned v3) x3) := hide (by rw [unhide FE, unhide FT]; exact ⟨v3, rfl, hL3.mono ((unhide gW).trans gx2).size, (unhide gW).trans gx3⟩)
  clear hL3 hH3 gx1 gx2 gx3 m0 m1 m2 m3 m4 m5 f0 f1 f2 f3 f4 f5 f6 i0 i1 i2 i3 i4
  go_wp2_with fail
  refine bodyPost_ret (by simp [results, Tryz.results36, go_sem]; try rfl) rfl ?_
  exact unhide K
set_option maxHeartbeats 2000000 in
theorem follows_else (w : World) (m : Md) (so : Option Addr) (sc : Nat) (go : Option Addr) (gc : Nat) (co : Option Addr) (cc : Nat) (ao : Option Addr) (ac : Nat) (fo : Option Addr) (fc : Nat) (f : Fn) (ko : Option Addr) (kc : Nat) (io : Option Addr) (ic : Nat) (mo : Option Addr) (mc : Nat) (hi : RowAt elIn w io f.is.length ic f.is) (j : Nat) (op A B C D : Int) (hj : f.is[j]? = some ⟨op, A, B, C, D⟩) (h18 : op ≠ 18) (h19 : op ≠ 19) (h22 : op ≠ 22) (h44 : op ≠ 44) (h41 : op ≠ 41) :
    Calls Tryz.prog 36 #[agM m so sc go gc co cc ao ac fo fc, agF f ko kc io ic mo mc, .int .i64 (j : Int)] w (FTo w (flP m f (j : Int))) := by
  have hlt := (List.getElem?_eq_some_iff.1 hj).1
  obtain ⟨b, off, i', cs, rfl, ha, ecs, hcs⟩ := row_get hi hlt
  obtain rfl : ⟨op, A, B, C, D⟩ = i' := Option.some.inj (hj.symm.trans ha)
  have ecs : cs = [.int .i64 op, .int .i64 A, .int .i64 B, .int .i64 C, .int .i64 D] := ecs
  subst ecs
  have FE : Hid (flP m f (j : Int) = plP f.is.length (folT m ⟨op, A, B, C, D⟩ (j : Int))) := hide (by
    unfold flP
    rw [if_neg (by omega), Int.toNat_natCast, hj])
  have hmx : f.is.length ≤ maxLen := hi.2.1
  unfold maxLen at hmx
  have hji : (j : Int) < (f.is.length : Int) := by omega
  obtain ⟨W2, hW2⟩ : ∃ W2, W2 = ((w.alloc (.cells #[.slice so m.sh.length sc, .slice go m.gl.length gc, .slice co m.co.length cc, .slice ao m.ca.length ac, .slice fo m.fn.length fc, .int .i64 m.main] 33)).alloc (.cells #[.int .i64 f.p, .int .i64 f.c, .int .i64 f.s, .int .i64 f.r, .slice ko f.ks.length kc, .slice (some ⟨b, off, none⟩) f.is.length ic, .slice mo f.ms.length mc] 39)) := ⟨_, rfl⟩
  have gW2 : G w W2 := by rw [hW2]; exact (G.alloc _ _).more _
  have x0 : W2.cell? ⟨b, off + j * 5, none⟩ = some (.int .i64 op) := hcs W2 gW2 0 _ rfl
  have x1 : W2.cell? ⟨b, off + j * 5 + 1, none⟩ = some (.int .i64 A) := hcs W2 gW2 1 _ rfl
  have x2 : W2.cell? ⟨b, off + j * 5 + 2, none⟩ = some (.int .i64 B) := hcs W2 gW2 2 _ rfl
  have x3 : W2.cell? ⟨b, off + j * 5 + 3, none⟩ = some (.int .i64 C) := hcs W2 gW2 3 _ rfl
  have x4 : W2.cell? ⟨b, off + j * 5 + 4, none⟩ = some (.int .i64 D) := hcs W2 gW2 4 _ rfl
  have y5 : W2.cell? ⟨w.heap.size + 1, 5, none⟩ = some (.slice (some ⟨b, off, none⟩) f.is.length ic) := by rw [hW2]; simp [go_sem]
  obtain ⟨W3, hW3⟩ : ∃ W3, W3 = W2.alloc (.cells #[.int .i64 op, .int .i64 A, .int .i64 B, .int .i64 C, .int .i64 D] 41) := ⟨_, rfl⟩
  have hs2 : W2.heap.size = w.heap.size + 1 + 1 := by rw [hW2, World.size_alloc, World.size_alloc]
  have gW : Hid (G w W3) := hide (by rw [hW3]; exact gW2.more _)
  have m0 : W3.cell? ⟨w.heap.size, 0, none⟩ = some (.slice so m.sh.length sc) := by rw [hW3, hW2]; simp [go_sem]
  have m1 : W3.cell? ⟨w.heap.size, 1, none⟩ = some (.slice go m.gl.length gc) := by rw [hW3, hW2]; simp [go_sem]
  have m2 : W3.cell? ⟨w.heap.size, 2, none⟩ = some (.slice co m.co.length cc) := by rw [hW3, hW2]; simp [go_sem]
  have m3 : W3.cell? ⟨w.heap.size, 3, none⟩ = some (.slice ao m.ca.length ac) := by rw [hW3, hW2]; simp [go_sem]
  have m4 : W3.cell? ⟨w.heap.size, 4, none⟩ = some (.slice fo m.fn.length fc) := by rw [hW3, hW2]; simp [go_sem]
  have m5 : W3.cell? ⟨w.heap.size, 5, none⟩ = some (.int .i64 m.main) := by rw [hW3, hW2]; simp [go_sem]
  have f0 : W3.cell? ⟨w.heap.size + 1, 0, none⟩ = some (.int .i64 f.p) := by rw [hW3, hW2]; simp [go_sem]
  have f1 : W3.cell? ⟨w.heap.size + 1, 1, none⟩ = some (.int .i64 f.c) := by rw [hW3, hW2]; simp [go_sem]
  have f2 : W3.cell? ⟨w.heap.size + 1, 2, none⟩ = some (.int .i64 f.s) := by rw [hW3, hW2]; simp [go_sem]
  have f3 : W3.cell? ⟨w.heap.size + 1, 3, none⟩ = some (.int .i64 f.r) := by rw [hW3, hW2]; simp [go_sem]
  have f4 : W3.cell? ⟨w.heap.size + 1, 4, none⟩ = some (.slice ko f.ks.length kc) := by rw [hW3, hW2]; simp [go_sem]
  have f5 : W3.cell? ⟨w.heap.size + 1, 5, none⟩ = some (.slice (some ⟨b, off, none⟩) f.is.length ic) := by rw [hW3, hW2]; simp [go_sem]
  have f6 : W3.cell? ⟨w.heap.size + 1, 6, none⟩ = some (.slice mo f.ms.length mc) := by rw [hW3, hW2]; simp [go_sem]
  have i0 : W3.cell? ⟨w.heap.size + 1 + 1, 0, none⟩ = some (.int .i64 op) := by rw [hW3, ← hs2]; simp [go_sem]
  have i1 : W3.cell? ⟨w.heap.size + 1 + 1, 1, none⟩ = some (.int .i64 A) := by rw [hW3, ← hs2]; simp [go_sem]
  have i2 : W3.cell? ⟨w.heap.size + 1 + 1, 2, none⟩ = some (.int .i64 B) := by rw [hW3, ← hs2]; simp [go_sem]
  have i3 : W3.cell? ⟨w.heap.size + 1 + 1, 3, none⟩ = some (.int .i64 C) := by rw [hW3, ← hs2]; simp [go_sem]
  have i4 : W3.cell? ⟨w.heap.size + 1 + 1, 4, none⟩ = some (.int .i64 D) := by rw [hW3, ← hs2]; simp [go_sem]
  have PL := hide (fun x v l (h : IsL x v l) (hn : l.length ≤ 1000000) => places_any x f ko kc (some ⟨b, off, none⟩) ic mo mc v l h hn)
  unfold agF at PL
  have q18 : (op == 18) = false := beq_eq_false_iff_ne.2 h18
  have q19 : (op == 19) = false := beq_eq_false_iff_ne.2 h19
  have q22 : (op == 22) = false := beq_eq_false_iff_ne.2 h22
  have q44 : (op == 44) = false := beq_eq_false_iff_ne.2 h44
  have q41 : (op == 41) = false := beq_eq_false_iff_ne.2 h41
  have OW : Hid (∀ y : World, IsL (y.alloc (.cells #[.int .i64 ((j : Int) + 1)] 3)) (.slice (some ⟨y.heap.size, 0, none⟩) 1 1) [(j : Int) + 1]) := hide (fun y => isl_new y [(j : Int) + 1] (by show 1 ≤ maxLen; decide))
  have FT : Hid (folT m ⟨op, A, B, C, D⟩ (j : Int) = [(j : Int) + 1]) := hide (by unfold folT; simp [h18, h19, h22, h44, h41])
  clear h18 h19 h22 h44 h41
  clear hi hj ha hcs gW2 hlt
  unfold agM agF
  replace hW2 := hide hW2
  replace hW3 := hide hW3
  replace hs2 := hide hs2
  go_enter Tryz.func36, Tryz.ntmps36
  go_upto_region 1 with fail
  rw [← unhide hW2]
  clear hW2
  go_upto_region 4 with fail
  rw [← unhide hW3, unhide hs2]
  clear hW3 hs2 x0 x1 x2 x3 x4 y5
  go_wp2_with fail
  refine (unhide PL _ _ _ (unhide OW W3) (by simp)).mono ?_
  rintro e x2 ⟨v2, rfl, hL, hg2⟩
  have K : Hid (FTo w (flP m f (j : Int)) (.returned v2) x2) := hide (by rw [unhide FE, unhide FT]; exact ⟨v2, rfl, hL.mono ((unhide gW).more _).size, ((unhide gW).more _).trans hg2⟩)
  clear hL m0 m1 m2 m3 m4 m5 f0 f1 f2 f3 f4 f5 f6 i0 i1 i2 i3 i4
  go_wp2_with fail
  refine bodyPost_ret (by simp [results, Tryz.results36, go_sem]; try rfl) rfl ?_
  exact unhide K
theorem follows_any (w : World) (m : Md) (so : Option Addr) (sc : Nat) (go : Option Addr) (gc : Nat) (co : Option Addr) (cc : Nat) (ao : Option Addr) (ac : Nat) (fo : Option Addr) (fc : Nat) (h : ModR w m so sc go gc co cc ao ac fo fc) (f : Fn) (ko : Option Addr) (kc : Nat) (io : Option Addr) (ic : Nat) (mo : Option Addr) (mc : Nat) (hi : RowAt elIn w io f.is.length ic f.is) (hf : ∀ i ∈ f.is, oIn i) (hn : m.ca.length ≤ 1000000) (pc : Int) :
    Calls Tryz.prog 36 #[agM m so sc go gc co cc ao ac fo fc, agF f ko kc io ic mo mc, .int .i64 pc] w (FTo w (flP m f pc)) := by
  by_cases hp : pc < 0 ∨ (f.is.length : Int) ≤ pc
  · exact follows_out w m so sc go gc co cc ao ac fo fc f ko kc io ic mo mc pc hp
  · obtain ⟨j, rfl⟩ : ∃ j : Nat, pc = j := ⟨pc.toNat, by omega⟩
    obtain ⟨i, hj⟩ : ∃ i, f.is[j]? = some i := ⟨f.is[j]'(by omega), List.getElem?_eq_getElem _⟩
    have oi := hf i (List.mem_of_getElem? hj)
    obtain ⟨op, A, B, C, D⟩ := i
    by_cases h18 : op = 18
    · subst h18; exact follows_18 w m so sc go gc co cc ao ac fo fc f ko kc io ic mo mc hi j A B C D hj
    by_cases h19 : op = 19
    · subst h19; exact follows_19 w m so sc go gc co cc ao ac fo fc f ko kc io ic mo mc hi j A B C D hj
    by_cases h22 : op = 22
    · subst h22; exact follows_22 w m so sc go gc co cc ao ac fo fc f ko kc io ic mo mc hi j A B C D hj
    by_cases h44 : op = 44
    · subst h44; exact follows_44 w m so sc go gc co cc ao ac fo fc f ko kc io ic mo mc hi j A B C D hj
    by_cases h41 : op = 41
    · subst h41; exact follows_41 w m so sc go gc co cc ao ac fo fc h f ko kc io ic mo mc hi j A B C D hj oi.2.1 hn
    exact follows_else w m so sc go gc co cc ao ac fo fc f ko kc io ic mo mc hi j op A B C D hj h18 h19 h22 h44 h41
end Go.Proofs.YtnliooflpclcbaaGreatDoor
