/- sameFunc, EqualFunc, Same of package code. -/
import Derived.Test.YtdekhnfncecacaaDoorCodeEq
namespace Go.Proofs.YtdekhnfncecacaaDoor
set_option maxRecDepth 100000
open Go.RowKit Go.Maps Go.ChangeShapes Go.WideShapes Go.ChangeAt Go.Deep

/-- A call that tells whether P. -/
def EqTo (P : Prop) (w w' : World) (e : Ending) : Prop := ∃ q : Bool, e = .returned (.bool q) ∧ (q = true ↔ P) ∧ G w w'

set_option maxHeartbeats 2000000 in
theorem same_fn (w : World) (f g : Fn) (ko1 ko2 : Option Addr) (kc1 kc2 : Nat) (io1 io2 : Option Addr) (ic1 ic2 : Nat) (mo1 mo2 : Option Addr) (mc1 mc2 : Nat) (r1 : RowAt elB w ko1 f.ks.length kc1 f.ks) (r2 : RowAt elB w ko2 g.ks.length kc2 g.ks) (r3 : RowAt elIn w io1 f.is.length ic1 f.is) (r4 : RowAt elIn w io2 g.is.length ic2 g.is) (r5 : RowAt elU w mo1 f.ms.length mc1 f.ms) (r6 : RowAt elU w mo2 g.ms.length mc2 g.ms) :
    Calls Tryd.prog 42 #[.agg #[.int .i64 f.p, .int .i64 f.c, .int .i64 f.s, .int .i64 f.r, .slice ko1 f.ks.length kc1, .slice io1 f.is.length ic1, .slice mo1 f.ms.length mc1], .agg #[.int .i64 g.p, .int .i64 g.c, .int .i64 g.s, .int .i64 g.r, .slice ko2 g.ks.length kc2, .slice io2 g.is.length ic2, .slice mo2 g.ms.length mc2]] w fun e w' => EqTo (f = g) w w' e := by
  obtain ⟨W, hW⟩ : ∃ W, W = (w.alloc (.cells #[.int .i64 f.p, .int .i64 f.c, .int .i64 f.s, .int .i64 f.r, .slice ko1 f.ks.length kc1, .slice io1 f.is.length ic1, .slice mo1 f.ms.length mc1] 57)).alloc (.cells #[.int .i64 g.p, .int .i64 g.c, .int .i64 g.s, .int .i64 g.r, .slice ko2 g.ks.length kc2, .slice io2 g.is.length ic2, .slice mo2 g.ms.length mc2] 57) := ⟨_, rfl⟩
  have gW : G w W := by rw [hW]; exact ((G.refl w).more _).more _
  have a0 : W.cell? ⟨w.heap.size, 0, none⟩ = some (.int .i64 f.p) := by rw [hW]; simp [go_sem]
  have b0 : W.cell? ⟨w.heap.size + 1, 0, none⟩ = some (.int .i64 g.p) := by rw [hW]; simp [go_sem]
  have a1 : W.cell? ⟨w.heap.size, 1, none⟩ = some (.int .i64 f.c) := by rw [hW]; simp [go_sem]
  have b1 : W.cell? ⟨w.heap.size + 1, 1, none⟩ = some (.int .i64 g.c) := by rw [hW]; simp [go_sem]
  have a2 : W.cell? ⟨w.heap.size, 2, none⟩ = some (.int .i64 f.s) := by rw [hW]; simp [go_sem]
  have b2 : W.cell? ⟨w.heap.size + 1, 2, none⟩ = some (.int .i64 g.s) := by rw [hW]; simp [go_sem]
  have a3 : W.cell? ⟨w.heap.size, 3, none⟩ = some (.int .i64 f.r) := by rw [hW]; simp [go_sem]
  have b3 : W.cell? ⟨w.heap.size + 1, 3, none⟩ = some (.int .i64 g.r) := by rw [hW]; simp [go_sem]
  have a4 : W.cell? ⟨w.heap.size, 4, none⟩ = some (.slice ko1 f.ks.length kc1) := by rw [hW]; simp [go_sem]
  have b4 : W.cell? ⟨w.heap.size + 1, 4, none⟩ = some (.slice ko2 g.ks.length kc2) := by rw [hW]; simp [go_sem]
  have a5 : W.cell? ⟨w.heap.size, 5, none⟩ = some (.slice io1 f.is.length ic1) := by rw [hW]; simp [go_sem]
  have b5 : W.cell? ⟨w.heap.size + 1, 5, none⟩ = some (.slice io2 g.is.length ic2) := by rw [hW]; simp [go_sem]
  have a6 : W.cell? ⟨w.heap.size, 6, none⟩ = some (.slice mo1 f.ms.length mc1) := by rw [hW]; simp [go_sem]
  have b6 : W.cell? ⟨w.heap.size + 1, 6, none⟩ = some (.slice mo2 g.ms.length mc2) := by rw [hW]; simp [go_sem]
  have AA := hide (fun (X : World) (gx : G W X) => (show X.cell? ⟨w.heap.size, 0, none⟩ = some (.int .i64 f.p) ∧ X.cell? ⟨w.heap.size, 1, none⟩ = some (.int .i64 f.c) ∧ X.cell? ⟨w.heap.size, 2, none⟩ = some (.int .i64 f.s) ∧ X.cell? ⟨w.heap.size, 3, none⟩ = some (.int .i64 f.r) ∧ X.cell? ⟨w.heap.size, 4, none⟩ = some (.slice ko1 f.ks.length kc1) ∧ X.cell? ⟨w.heap.size, 5, none⟩ = some (.slice io1 f.is.length ic1) ∧ X.cell? ⟨w.heap.size, 6, none⟩ = some (.slice mo1 f.ms.length mc1) ∧ X.cell? ⟨w.heap.size + 1, 0, none⟩ = some (.int .i64 g.p) ∧ X.cell? ⟨w.heap.size + 1, 1, none⟩ = some (.int .i64 g.c) ∧ X.cell? ⟨w.heap.size + 1, 2, none⟩ = some (.int .i64 g.s) ∧ X.cell? ⟨w.heap.size + 1, 3, none⟩ = some (.int .i64 g.r) ∧ X.cell? ⟨w.heap.size + 1, 4, none⟩ = some (.slice ko2 g.ks.length kc2) ∧ X.cell? ⟨w.heap.size + 1, 5, none⟩ = some (.slice io2 g.is.length ic2) ∧ X.cell? ⟨w.heap.size + 1, 6, none⟩ = some (.slice mo2 g.ms.length mc2) from ⟨gx.cell a0, gx.cell a1, gx.cell a2, gx.cell a3, gx.cell a4, gx.cell a5, gx.cell a6, gx.cell b0, gx.cell b1, gx.cell b2, gx.cell b3, gx.cell b4, gx.cell b5, gx.cell b6⟩))
  have E4 := hide (fun (X : World) (gx : G W X) => eq_bool X _ _ _ _ _ _ _ _ (r1.g okB (gW.trans gx)) (r2.g okB (gW.trans gx)))
  have E5 := hide (fun (X : World) (gx : G W X) => eq_instr X _ _ _ _ _ _ _ _ (r3.g okIn (gW.trans gx)) (r4.g okIn (gW.trans gx)))
  have E6 := hide (fun (X : World) (gx : G W X) => eq_uint64 X _ _ _ _ _ _ _ _ (r5.g okU (gW.trans gx)) (r6.g okU (gW.trans gx)))
  have NO : Hid (∀ X, G W X → ∀ (e : ¬ f = g), EqTo (f = g) w X (.returned (.bool false))) := hide fun X gx e => ⟨false, rfl, ⟨fun h => (by cases h), fun h => absurd h e⟩, gW.trans gx⟩
  have YES : Hid (∀ X, G W X → ∀ (e : f = g), EqTo (f = g) w X (.returned (.bool true))) := hide fun X gx e => ⟨true, rfl, ⟨fun _ => e, fun _ => rfl⟩, gW.trans gx⟩
  clear a0 b0 a1 b1 a2 b2 a3 b3 a4 b4 a5 b5 a6 b6 gW
  clear r1 r2 r3 r4 r5 r6
  by_cases e0 : f.p = g.p
  rotate_left
  · have NE : Hid (¬ f = g) := hide fun h => e0 (by rw [h])
    have bb : (f.p == g.p) = false := beq_eq_false_iff_ne.2 e0
    clear e0
    rw [hW] at AA NO
    go_enter Tryd.func42, Tryd.ntmps42
    clear E4 E5 E6 AA
    go_wp2_with fail
    go_ret
    exact unhide NO _ (G.refl _) (unhide NE)
  have bb0 : (f.p == g.p) = true := by rw [e0]; simp
  replace e0 := hide e0
  by_cases e1 : f.c = g.c
  rotate_left
  · have NE : Hid (¬ f = g) := hide fun h => e1 (by rw [h])
    have bb : (f.c == g.c) = false := beq_eq_false_iff_ne.2 e1
    clear e1
    rw [hW] at AA NO
    go_enter Tryd.func42, Tryd.ntmps42
    clear E4 E5 E6 AA
    go_wp2_with fail
    go_ret
    exact unhide NO _ (G.refl _) (unhide NE)
  have bb1 : (f.c == g.c) = true := by rw [e1]; simp
  replace e1 := hide e1
  by_cases e2 : f.s = g.s
  rotate_left
  · have NE : Hid (¬ f = g) := hide fun h => e2 (by rw [h])
    have bb : (f.s == g.s) = false := beq_eq_false_iff_ne.2 e2
    clear e2
    rw [hW] at AA NO
    go_enter Tryd.func42, Tryd.ntmps42
    clear E4 E5 E6 AA
    go_wp2_with fail
    go_ret
    exact unhide NO _ (G.refl _) (unhide NE)
  have bb2 : (f.s == g.s) = true := by rw [e2]; simp
  replace e2 := hide e2
  by_cases e3 : f.r = g.r
  rotate_left
  · have NE : Hid (¬ f = g) := hide fun h => e3 (by rw [h])
    have bb : (f.r == g.r) = false := beq_eq_false_iff_ne.2 e3
    clear e3
    rw [hW] at AA NO
    go_enter Tryd.func42, Tryd.ntmps42
    clear E4 E5 E6 AA
    go_wp2_with fail
    go_ret
    exact unhide NO _ (G.refl _) (unhide NE)
  have bb3 : (f.r == g.r) = true := by rw [e3]; simp
  replace e3 := hide e3
  rw [hW] at AA E4 E5 E6 NO YES
  go_enter Tryd.func42, Tryd.ntmps42
  go_wp2_with fail
  refine (unhide E4 _ (G.refl _)).mono ?_
  rintro e X4 ⟨q4, rfl, hq4, hg4⟩
  have G4 := hide (G.trans (G.refl _) hg4)
  obtain ⟨a0, a1, a2, a3, a4, a5, a6, b0, b1, b2, b3, b4, b5, b6⟩ := unhide AA X4 (unhide G4)
  replace hq4 := hide hq4
  clear hg4
  cases q4
  · have NE : Hid (¬ f = g) := hide fun h => absurd ((unhide hq4).2 (by rw [h])) (by decide)
    clear E4 E5 E6 AA YES
    go_wp2_with fail
    go_ret
    exact unhide NO X4 (unhide G4) (unhide NE)
  go_wp2_with fail
  refine (unhide E5 X4 (unhide G4)).mono ?_
  rintro e X5 ⟨q5, rfl, hq5, hg5⟩
  have G5 := hide (G.trans (unhide G4) hg5)
  obtain ⟨a0, a1, a2, a3, a4, a5, a6, b0, b1, b2, b3, b4, b5, b6⟩ := unhide AA X5 (unhide G5)
  replace hq5 := hide hq5
  clear hg5
  cases q5
  · have NE : Hid (¬ f = g) := hide fun h => absurd ((unhide hq5).2 (by rw [h])) (by decide)
    clear E4 E5 E6 AA YES
    go_wp2_with fail
    go_ret
    exact unhide NO X5 (unhide G5) (unhide NE)
  go_wp2_with fail
  refine (unhide E6 X5 (unhide G5)).mono ?_
  rintro e X6 ⟨q6, rfl, hq6, hg6⟩
  have G6 := hide (G.trans (unhide G5) hg6)
  obtain ⟨a0, a1, a2, a3, a4, a5, a6, b0, b1, b2, b3, b4, b5, b6⟩ := unhide AA X6 (unhide G6)
  replace hq6 := hide hq6
  clear hg6
  cases q6
  · have NE : Hid (¬ f = g) := hide fun h => absurd ((unhide hq6).2 (by rw [h])) (by decide)
    clear E4 E5 E6 AA YES
    go_wp2_with fail
    go_ret
    exact unhide NO X6 (unhide G6) (unhide NE)
  have EQ : Hid (f = g) := hide (by
    have t0 : f.p = g.p := unhide e0
    have t1 : f.c = g.c := unhide e1
    have t2 : f.s = g.s := unhide e2
    have t3 : f.r = g.r := unhide e3
    have t4 : f.ks = g.ks := (unhide hq4).1 (by simp)
    have t5 : f.is = g.is := (unhide hq5).1 (by simp)
    have t6 : f.ms = g.ms := (unhide hq6).1 (by simp)
    cases f
    cases g
    simp only at t0 t1 t2 t3 t4 t5 t6
    rw [t0, t1, t2, t3, t4, t5, t6])
  clear E4 E5 E6 AA NO
  go_wp2_with fail
  go_ret
  exact unhide YES X6 (unhide G6) (unhide EQ)

set_option maxHeartbeats 2000000 in
theorem eq_func (w : World) (ao bo : Option Addr) (n c m d : Nat) (l l2 : List Fn) (h1 : RowAt elFn w ao n c l) (h2 : RowAt elFn w bo m d l2) :
    Calls Tryd.prog 41 #[.slice ao n c, .slice bo m d, .func (.func 42) #[] #[]] w fun e w' => ∃ q : Bool, e = .returned (.bool q) ∧ (q = true ↔ l = l2) ∧ G w w' := by
  have hl1 := h1.1
  have hl2 := h2.1
  have hn : n ≤ 9223372036854775807 := h1.2.1
  by_cases hnm : n = m
  · subst hnm
    have RD : Hid (∀ (k : Nat) (wr : World), k < n → G w wr → ∃ (x y : Fn) (b off b2 off2 : Nat) (ko1 ko2 : Option Addr) (kc1 kc2 : Nat) (io1 io2 : Option Addr) (ic1 ic2 : Nat) (mo1 mo2 : Option Addr) (mc1 mc2 : Nat), ao = some ⟨b, off, none⟩ ∧ bo = some ⟨b2, off2, none⟩ ∧ l[k]? = some x ∧ l2[k]? = some y ∧ b2 < wr.heap.size ∧ wr.cell? ⟨b, off + k * 7, none⟩ = some (.int .i64 x.p) ∧ wr.cell? ⟨b, off + k * 7 + 1, none⟩ = some (.int .i64 x.c) ∧ wr.cell? ⟨b, off + k * 7 + 2, none⟩ = some (.int .i64 x.s) ∧ wr.cell? ⟨b, off + k * 7 + 3, none⟩ = some (.int .i64 x.r) ∧ wr.cell? ⟨b, off + k * 7 + 4, none⟩ = some (.slice ko1 x.ks.length kc1) ∧ wr.cell? ⟨b, off + k * 7 + 5, none⟩ = some (.slice io1 x.is.length ic1) ∧ wr.cell? ⟨b, off + k * 7 + 6, none⟩ = some (.slice mo1 x.ms.length mc1) ∧ wr.cell? ⟨b2, off2 + k * 7, none⟩ = some (.int .i64 y.p) ∧ wr.cell? ⟨b2, off2 + k * 7 + 1, none⟩ = some (.int .i64 y.c) ∧ wr.cell? ⟨b2, off2 + k * 7 + 2, none⟩ = some (.int .i64 y.s) ∧ wr.cell? ⟨b2, off2 + k * 7 + 3, none⟩ = some (.int .i64 y.r) ∧ wr.cell? ⟨b2, off2 + k * 7 + 4, none⟩ = some (.slice ko2 y.ks.length kc2) ∧ wr.cell? ⟨b2, off2 + k * 7 + 5, none⟩ = some (.slice io2 y.is.length ic2) ∧ wr.cell? ⟨b2, off2 + k * 7 + 6, none⟩ = some (.slice mo2 y.ms.length mc2) ∧
        ∀ W, G wr W → Calls Tryd.prog 42 #[.agg #[.int .i64 x.p, .int .i64 x.c, .int .i64 x.s, .int .i64 x.r, .slice ko1 x.ks.length kc1, .slice io1 x.is.length ic1, .slice mo1 x.ms.length mc1], .agg #[.int .i64 y.p, .int .i64 y.c, .int .i64 y.s, .int .i64 y.r, .slice ko2 y.ks.length kc2, .slice io2 y.is.length ic2, .slice mo2 y.ms.length mc2]] W fun e w' => ∃ q : Bool, e = .returned (.bool q) ∧ (q = true ↔ x = y) ∧ G W w') := hide fun k wr hk hg => by
      rcases h1.2.2.2 with hz | ⟨b, off, e, hb, hc⟩
      · omega
      rcases h2.2.2.2 with hz | ⟨b2, off2, e2, hb2, hc2⟩
      · omega
      obtain ⟨x, hx⟩ : ∃ x, l[k]? = some x := ⟨l[k]'(by omega), List.getElem?_eq_getElem _⟩
      obtain ⟨y, hy⟩ : ∃ y, l2[k]? = some y := ⟨l2[k]'(by omega), List.getElem?_eq_getElem _⟩
      obtain ⟨cs, ⟨ko1, kc1, io1, ic1, mo1, mc1, ecs, r1, r3, r5⟩, hcs⟩ := hc k x hx
      obtain ⟨cs2, ⟨ko2, kc2, io2, ic2, mo2, mc2, ecs2, r2, r4, r6⟩, hcs2⟩ := hc2 k y hy
      subst ecs ecs2
      exact ⟨x, y, b, off, b2, off2, ko1, ko2, kc1, kc2, io1, io2, ic1, ic2, mo1, mo2, mc1, mc2, e, e2, hx, hy, Nat.lt_of_lt_of_le hb2 hg.size, (by have h4 := hcs 0 _ rfl; change w.cell? ⟨b, off + k * 7, none⟩ = _ at h4; exact hg.cell h4), (by have h4 := hcs 1 _ rfl; change w.cell? ⟨b, off + k * 7 + 1, none⟩ = _ at h4; exact hg.cell h4), (by have h4 := hcs 2 _ rfl; change w.cell? ⟨b, off + k * 7 + 2, none⟩ = _ at h4; exact hg.cell h4), (by have h4 := hcs 3 _ rfl; change w.cell? ⟨b, off + k * 7 + 3, none⟩ = _ at h4; exact hg.cell h4), (by have h4 := hcs 4 _ rfl; change w.cell? ⟨b, off + k * 7 + 4, none⟩ = _ at h4; exact hg.cell h4), (by have h4 := hcs 5 _ rfl; change w.cell? ⟨b, off + k * 7 + 5, none⟩ = _ at h4; exact hg.cell h4), (by have h4 := hcs 6 _ rfl; change w.cell? ⟨b, off + k * 7 + 6, none⟩ = _ at h4; exact hg.cell h4), (by have h4 := hcs2 0 _ rfl; change w.cell? ⟨b2, off2 + k * 7, none⟩ = _ at h4; exact hg.cell h4), (by have h4 := hcs2 1 _ rfl; change w.cell? ⟨b2, off2 + k * 7 + 1, none⟩ = _ at h4; exact hg.cell h4), (by have h4 := hcs2 2 _ rfl; change w.cell? ⟨b2, off2 + k * 7 + 2, none⟩ = _ at h4; exact hg.cell h4), (by have h4 := hcs2 3 _ rfl; change w.cell? ⟨b2, off2 + k * 7 + 3, none⟩ = _ at h4; exact hg.cell h4), (by have h4 := hcs2 4 _ rfl; change w.cell? ⟨b2, off2 + k * 7 + 4, none⟩ = _ at h4; exact hg.cell h4), (by have h4 := hcs2 5 _ rfl; change w.cell? ⟨b2, off2 + k * 7 + 5, none⟩ = _ at h4; exact hg.cell h4), (by have h4 := hcs2 6 _ rfl; change w.cell? ⟨b2, off2 + k * 7 + 6, none⟩ = _ at h4; exact hg.cell h4), fun W gx => same_fn W x y ko1 ko2 kc1 kc2 io1 io2 ic1 ic2 mo1 mo2 mc1 mc2 (r1.g okB (hg.trans gx)) (r2.g okB (hg.trans gx)) (r3.g okIn (hg.trans gx)) (r4.g okIn (hg.trans gx)) (r5.g okU (hg.trans gx)) (r6.g okU (hg.trans gx))⟩
    have FI := hide (fun (e : l.take n = l2.take n) => (show l = l2 by rw [List.take_of_length_le (by omega), List.take_of_length_le (by omega)] at e; exact e))
    clear h1 h2 hl1 hl2
    go_enter Tryd.func41, Tryd.ntmps41
    go_wp2_with fail
    go_loopw [17] (fun i wr => ∃ k : Nat, k ≤ n ∧ i = .int .i64 k ∧ Hid (l.take k = l2.take k) ∧ Hid (G w wr)) (fun i _ => n - (intOf i).toNat)
    case atStart => exact ⟨0, Nat.zero_le _, rfl, hide rfl, hide (G.refl w)⟩
    case round =>
      obtain ⟨k, hk, rfl, HT, HG⟩ := hrel
      by_cases hlt : k < n
      · obtain ⟨x, y, b, off, b2, off2, ko1, ko2, kc1, kc2, io1, io2, ic1, ic2, mo1, mo2, mc1, mc2, rfl, rfl, hx, hy, hb2, p0, p1, p2, p3, p4, p5, p6, q0, q1, q2, q3, q4, q5, q6, C⟩ := unhide RD k wr hlt (unhide HG)
        have NX : Hid ((x = y → l.take (k + 1) = l2.take (k + 1)) ∧ (¬ x = y → ¬ l = l2)) := hide ⟨take_next (unhide HT) hx hy, differ hx hy⟩
        replace C := hide C
        clear hx hy HT RD
        go_wp2_with fail
        refine (unhide C _ ?_).mono ?_
        · exact ((G.refl wr).more _).more _
        rintro e w2 ⟨q, rfl, hq, hg⟩
        have HG2 := hide ((unhide HG).trans (G.trans (((G.refl wr).more _).more _) hg))
        replace hq := hide hq
        clear hg C
        cases q
        · have HD := hide ((unhide NX).2 (fun h => absurd ((unhide hq).2 h) (by decide)))
          clear NX hq
          go_wp2_with fail
          go_ret
          exact ⟨false, rfl, ⟨(fun h => by cases h), fun h => absurd h (unhide HD)⟩, unhide HG2⟩
        · have HT2 := hide ((unhide NX).1 ((unhide hq).1 rfl))
          clear NX hq
          go_wp2_with fail
          go_roundw
          case rel => exact ⟨k + 1, by omega, by go_num, HT2, HG2⟩
          case measure => simp [intOf]; omega
      · obtain rfl : k = n := by omega
        have HE := hide (unhide FI (unhide HT))
        clear HT RD FI
        go_wp2_with fail
        go_ret
        exact ⟨true, rfl, ⟨fun _ => unhide HE, fun _ => rfl⟩, unhide HG⟩
  · have HD : Hid (¬ l = l2) := hide fun h => hnm (by rw [← hl1, ← hl2, h])
    have hb : ((n : Int) == (m : Int)) = false := beq_eq_false_iff_ne.2 (by omega)
    clear h1 h2 hl1 hl2
    go_enter Tryd.func41, Tryd.ntmps41
    go_wp2_with fail
    go_ret
    exact ⟨false, rfl, ⟨(fun h => by cases h), fun h => absurd h (unhide HD)⟩, G.refl w⟩

set_option maxHeartbeats 2000000 in
theorem same_raw (w : World) (f g : Md) (so1 so2 : Option Addr) (sc1 sc2 : Nat) (go1 go2 : Option Addr) (gc1 gc2 : Nat) (co1 co2 : Option Addr) (cc1 cc2 : Nat) (ao1 ao2 : Option Addr) (ac1 ac2 : Nat) (fo1 fo2 : Option Addr) (fc1 fc2 : Nat) (r1 : RowAt elSp w so1 f.sh.length sc1 f.sh) (r2 : RowAt elSp w so2 g.sh.length sc2 g.sh) (r3 : RowAt elB w go1 f.gl.length gc1 f.gl) (r4 : RowAt elB w go2 g.gl.length gc2 g.gl) (r5 : RowAt elI w co1 f.co.length cc1 f.co) (r6 : RowAt elI w co2 g.co.length cc2 g.co) (r7 : RowAt elCa w ao1 f.ca.length ac1 f.ca) (r8 : RowAt elCa w ao2 g.ca.length ac2 g.ca) (r9 : RowAt elFn w fo1 f.fn.length fc1 f.fn) (r10 : RowAt elFn w fo2 g.fn.length fc2 g.fn) :
    Calls Tryd.prog 12 #[.agg #[.slice so1 f.sh.length sc1, .slice go1 f.gl.length gc1, .slice co1 f.co.length cc1, .slice ao1 f.ca.length ac1, .slice fo1 f.fn.length fc1, .int .i64 f.main], .agg #[.slice so2 g.sh.length sc2, .slice go2 g.gl.length gc2, .slice co2 g.co.length cc2, .slice ao2 g.ca.length ac2, .slice fo2 g.fn.length fc2, .int .i64 g.main]] w fun e w' => EqTo (f = g) w w' e := by
  obtain ⟨W, hW⟩ : ∃ W, W = (w.alloc (.cells #[.slice so1 f.sh.length sc1, .slice go1 f.gl.length gc1, .slice co1 f.co.length cc1, .slice ao1 f.ca.length ac1, .slice fo1 f.fn.length fc1, .int .i64 f.main] 28)).alloc (.cells #[.slice so2 g.sh.length sc2, .slice go2 g.gl.length gc2, .slice co2 g.co.length cc2, .slice ao2 g.ca.length ac2, .slice fo2 g.fn.length fc2, .int .i64 g.main] 28) := ⟨_, rfl⟩
  have gW : G w W := by rw [hW]; exact ((G.refl w).more _).more _
  have a0 : W.cell? ⟨w.heap.size, 0, none⟩ = some (.slice so1 f.sh.length sc1) := by rw [hW]; simp [go_sem]
  have b0 : W.cell? ⟨w.heap.size + 1, 0, none⟩ = some (.slice so2 g.sh.length sc2) := by rw [hW]; simp [go_sem]
  have a1 : W.cell? ⟨w.heap.size, 1, none⟩ = some (.slice go1 f.gl.length gc1) := by rw [hW]; simp [go_sem]
  have b1 : W.cell? ⟨w.heap.size + 1, 1, none⟩ = some (.slice go2 g.gl.length gc2) := by rw [hW]; simp [go_sem]
  have a2 : W.cell? ⟨w.heap.size, 2, none⟩ = some (.slice co1 f.co.length cc1) := by rw [hW]; simp [go_sem]
  have b2 : W.cell? ⟨w.heap.size + 1, 2, none⟩ = some (.slice co2 g.co.length cc2) := by rw [hW]; simp [go_sem]
  have a3 : W.cell? ⟨w.heap.size, 3, none⟩ = some (.slice ao1 f.ca.length ac1) := by rw [hW]; simp [go_sem]
  have b3 : W.cell? ⟨w.heap.size + 1, 3, none⟩ = some (.slice ao2 g.ca.length ac2) := by rw [hW]; simp [go_sem]
  have a4 : W.cell? ⟨w.heap.size, 4, none⟩ = some (.slice fo1 f.fn.length fc1) := by rw [hW]; simp [go_sem]
  have b4 : W.cell? ⟨w.heap.size + 1, 4, none⟩ = some (.slice fo2 g.fn.length fc2) := by rw [hW]; simp [go_sem]
  have a5 : W.cell? ⟨w.heap.size, 5, none⟩ = some (.int .i64 f.main) := by rw [hW]; simp [go_sem]
  have b5 : W.cell? ⟨w.heap.size + 1, 5, none⟩ = some (.int .i64 g.main) := by rw [hW]; simp [go_sem]
  have AA := hide (fun (X : World) (gx : G W X) => (show X.cell? ⟨w.heap.size, 0, none⟩ = some (.slice so1 f.sh.length sc1) ∧ X.cell? ⟨w.heap.size, 1, none⟩ = some (.slice go1 f.gl.length gc1) ∧ X.cell? ⟨w.heap.size, 2, none⟩ = some (.slice co1 f.co.length cc1) ∧ X.cell? ⟨w.heap.size, 3, none⟩ = some (.slice ao1 f.ca.length ac1) ∧ X.cell? ⟨w.heap.size, 4, none⟩ = some (.slice fo1 f.fn.length fc1) ∧ X.cell? ⟨w.heap.size, 5, none⟩ = some (.int .i64 f.main) ∧ X.cell? ⟨w.heap.size + 1, 0, none⟩ = some (.slice so2 g.sh.length sc2) ∧ X.cell? ⟨w.heap.size + 1, 1, none⟩ = some (.slice go2 g.gl.length gc2) ∧ X.cell? ⟨w.heap.size + 1, 2, none⟩ = some (.slice co2 g.co.length cc2) ∧ X.cell? ⟨w.heap.size + 1, 3, none⟩ = some (.slice ao2 g.ca.length ac2) ∧ X.cell? ⟨w.heap.size + 1, 4, none⟩ = some (.slice fo2 g.fn.length fc2) ∧ X.cell? ⟨w.heap.size + 1, 5, none⟩ = some (.int .i64 g.main) from ⟨gx.cell a0, gx.cell a1, gx.cell a2, gx.cell a3, gx.cell a4, gx.cell a5, gx.cell b0, gx.cell b1, gx.cell b2, gx.cell b3, gx.cell b4, gx.cell b5⟩))
  have E0 := hide (fun (X : World) (gx : G W X) => eq_shape X _ _ _ _ _ _ _ _ (r1.g okSp (gW.trans gx)) (r2.g okSp (gW.trans gx)))
  have E1 := hide (fun (X : World) (gx : G W X) => eq_bool X _ _ _ _ _ _ _ _ (r3.g okB (gW.trans gx)) (r4.g okB (gW.trans gx)))
  have E2 := hide (fun (X : World) (gx : G W X) => eq_int64 X _ _ _ _ _ _ _ _ (r5.g okI (gW.trans gx)) (r6.g okI (gW.trans gx)))
  have E3 := hide (fun (X : World) (gx : G W X) => eq_case X _ _ _ _ _ _ _ _ (r7.g okCa (gW.trans gx)) (r8.g okCa (gW.trans gx)))
  have E4 := hide (fun (X : World) (gx : G W X) => eq_func X _ _ _ _ _ _ _ _ (r9.g okFn (gW.trans gx)) (r10.g okFn (gW.trans gx)))
  have NO : Hid (∀ X, G W X → ∀ (e : ¬ f = g), EqTo (f = g) w X (.returned (.bool false))) := hide fun X gx e => ⟨false, rfl, ⟨fun h => (by cases h), fun h => absurd h e⟩, gW.trans gx⟩
  have YES : Hid (∀ X, G W X → ∀ (e : f = g), EqTo (f = g) w X (.returned (.bool true))) := hide fun X gx e => ⟨true, rfl, ⟨fun _ => e, fun _ => rfl⟩, gW.trans gx⟩
  clear a0 b0 a1 b1 a2 b2 a3 b3 a4 b4 a5 b5 gW
  clear r1 r2 r3 r4 r5 r6 r7 r8 r9 r10
  by_cases e5 : f.main = g.main
  rotate_left
  · have NE : Hid (¬ f = g) := hide fun h => e5 (by rw [h])
    have bb : (f.main == g.main) = false := beq_eq_false_iff_ne.2 e5
    clear e5
    rw [hW] at AA E0 E1 E2 E3 E4 NO
    go_enter Tryd.func12, Tryd.ntmps12
    go_wp2_with fail
    refine (unhide E0 _ (G.refl _)).mono ?_
    rintro e X0 ⟨q0, rfl, hq0, hg0⟩
    have G0 := hide (G.trans (G.refl _) hg0)
    obtain ⟨a0, a1, a2, a3, a4, a5, b0, b1, b2, b3, b4, b5⟩ := unhide AA X0 (unhide G0)
    clear hq0 hg0
    cases q0
    · clear E0 E1 E2 E3 E4 AA
      go_wp2_with fail
      go_ret
      exact unhide NO X0 (unhide G0) (unhide NE)
    go_wp2_with fail
    refine (unhide E1 X0 (unhide G0)).mono ?_
    rintro e X1 ⟨q1, rfl, hq1, hg1⟩
    have G1 := hide (G.trans (unhide G0) hg1)
    obtain ⟨a0, a1, a2, a3, a4, a5, b0, b1, b2, b3, b4, b5⟩ := unhide AA X1 (unhide G1)
    clear hq1 hg1
    cases q1
    · clear E0 E1 E2 E3 E4 AA
      go_wp2_with fail
      go_ret
      exact unhide NO X1 (unhide G1) (unhide NE)
    go_wp2_with fail
    refine (unhide E2 X1 (unhide G1)).mono ?_
    rintro e X2 ⟨q2, rfl, hq2, hg2⟩
    have G2 := hide (G.trans (unhide G1) hg2)
    obtain ⟨a0, a1, a2, a3, a4, a5, b0, b1, b2, b3, b4, b5⟩ := unhide AA X2 (unhide G2)
    clear hq2 hg2
    cases q2
    · clear E0 E1 E2 E3 E4 AA
      go_wp2_with fail
      go_ret
      exact unhide NO X2 (unhide G2) (unhide NE)
    go_wp2_with fail
    refine (unhide E3 X2 (unhide G2)).mono ?_
    rintro e X3 ⟨q3, rfl, hq3, hg3⟩
    have G3 := hide (G.trans (unhide G2) hg3)
    obtain ⟨a0, a1, a2, a3, a4, a5, b0, b1, b2, b3, b4, b5⟩ := unhide AA X3 (unhide G3)
    clear hq3 hg3
    cases q3
    · clear E0 E1 E2 E3 E4 AA
      go_wp2_with fail
      go_ret
      exact unhide NO X3 (unhide G3) (unhide NE)
    go_wp2_with fail
    refine (unhide E4 X3 (unhide G3)).mono ?_
    rintro e X4 ⟨q4, rfl, hq4, hg4⟩
    have G4 := hide (G.trans (unhide G3) hg4)
    obtain ⟨a0, a1, a2, a3, a4, a5, b0, b1, b2, b3, b4, b5⟩ := unhide AA X4 (unhide G4)
    clear hq4 hg4
    cases q4
    · clear E0 E1 E2 E3 E4 AA
      go_wp2_with fail
      go_ret
      exact unhide NO X4 (unhide G4) (unhide NE)
    clear E0 E1 E2 E3 E4 AA
    go_wp2_with fail
    go_ret
    exact unhide NO X4 (unhide G4) (unhide NE)
  have bb5 : (f.main == g.main) = true := by rw [e5]; simp
  replace e5 := hide e5
  rw [hW] at AA E0 E1 E2 E3 E4 NO YES
  go_enter Tryd.func12, Tryd.ntmps12
  go_wp2_with fail
  refine (unhide E0 _ (G.refl _)).mono ?_
  rintro e X0 ⟨q0, rfl, hq0, hg0⟩
  have G0 := hide (G.trans (G.refl _) hg0)
  obtain ⟨a0, a1, a2, a3, a4, a5, b0, b1, b2, b3, b4, b5⟩ := unhide AA X0 (unhide G0)
  replace hq0 := hide hq0
  clear hg0
  cases q0
  · have NE : Hid (¬ f = g) := hide fun h => absurd ((unhide hq0).2 (by rw [h])) (by decide)
    clear E0 E1 E2 E3 E4 AA YES
    go_wp2_with fail
    go_ret
    exact unhide NO X0 (unhide G0) (unhide NE)
  go_wp2_with fail
  refine (unhide E1 X0 (unhide G0)).mono ?_
  rintro e X1 ⟨q1, rfl, hq1, hg1⟩
  have G1 := hide (G.trans (unhide G0) hg1)
  obtain ⟨a0, a1, a2, a3, a4, a5, b0, b1, b2, b3, b4, b5⟩ := unhide AA X1 (unhide G1)
  replace hq1 := hide hq1
  clear hg1
  cases q1
  · have NE : Hid (¬ f = g) := hide fun h => absurd ((unhide hq1).2 (by rw [h])) (by decide)
    clear E0 E1 E2 E3 E4 AA YES
    go_wp2_with fail
    go_ret
    exact unhide NO X1 (unhide G1) (unhide NE)
  go_wp2_with fail
  refine (unhide E2 X1 (unhide G1)).mono ?_
  rintro e X2 ⟨q2, rfl, hq2, hg2⟩
  have G2 := hide (G.trans (unhide G1) hg2)
  obtain ⟨a0, a1, a2, a3, a4, a5, b0, b1, b2, b3, b4, b5⟩ := unhide AA X2 (unhide G2)
  replace hq2 := hide hq2
  clear hg2
  cases q2
  · have NE : Hid (¬ f = g) := hide fun h => absurd ((unhide hq2).2 (by rw [h])) (by decide)
    clear E0 E1 E2 E3 E4 AA YES
    go_wp2_with fail
    go_ret
    exact unhide NO X2 (unhide G2) (unhide NE)
  go_wp2_with fail
  refine (unhide E3 X2 (unhide G2)).mono ?_
  rintro e X3 ⟨q3, rfl, hq3, hg3⟩
  have G3 := hide (G.trans (unhide G2) hg3)
  obtain ⟨a0, a1, a2, a3, a4, a5, b0, b1, b2, b3, b4, b5⟩ := unhide AA X3 (unhide G3)
  replace hq3 := hide hq3
  clear hg3
  cases q3
  · have NE : Hid (¬ f = g) := hide fun h => absurd ((unhide hq3).2 (by rw [h])) (by decide)
    clear E0 E1 E2 E3 E4 AA YES
    go_wp2_with fail
    go_ret
    exact unhide NO X3 (unhide G3) (unhide NE)
  go_wp2_with fail
  refine (unhide E4 X3 (unhide G3)).mono ?_
  rintro e X4 ⟨q4, rfl, hq4, hg4⟩
  have G4 := hide (G.trans (unhide G3) hg4)
  obtain ⟨a0, a1, a2, a3, a4, a5, b0, b1, b2, b3, b4, b5⟩ := unhide AA X4 (unhide G4)
  replace hq4 := hide hq4
  clear hg4
  cases q4
  · have NE : Hid (¬ f = g) := hide fun h => absurd ((unhide hq4).2 (by rw [h])) (by decide)
    clear E0 E1 E2 E3 E4 AA YES
    go_wp2_with fail
    go_ret
    exact unhide NO X4 (unhide G4) (unhide NE)
  have EQ : Hid (f = g) := hide (by
    have t0 : f.sh = g.sh := (unhide hq0).1 (by simp)
    have t1 : f.gl = g.gl := (unhide hq1).1 (by simp)
    have t2 : f.co = g.co := (unhide hq2).1 (by simp)
    have t3 : f.ca = g.ca := (unhide hq3).1 (by simp)
    have t4 : f.fn = g.fn := (unhide hq4).1 (by simp)
    have t5 : f.main = g.main := unhide e5
    cases f
    cases g
    simp only at t0 t1 t2 t3 t4 t5
    rw [t0, t1, t2, t3, t4, t5])
  clear E0 E1 E2 E3 E4 AA NO
  go_wp2_with fail
  go_ret
  exact unhide YES X4 (unhide G4) (unhide EQ)

theorem same_any (w : World) (v v2 : Value) (m m2 : Md) (h1 : ModAt w v m) (h2 : ModAt w v2 m2) :
    Calls Tryd.prog 12 #[v, v2] w fun e w' => ∃ q : Bool, e = .returned (.bool q) ∧ (q = true ↔ m = m2) ∧ G w w' := by
  obtain ⟨so, sc, go, gc, co, cc, ao, ac, fo, fc, rfl, r1, r2, r3, r4, r5⟩ := h1
  obtain ⟨so', sc', go', gc', co', cc', ao', ac', fo', fc', rfl, r1', r2', r3', r4', r5'⟩ := h2
  exact same_raw w m m2 so so' sc sc' go go' gc gc' co co' cc cc' ao ao' ac ac' fo fo' fc fc' r1 r1' r2 r2' r3 r3' r4 r4' r5 r5'
end Go.Proofs.YtdekhnfncecacaaDoor
