/- funcOf, casesOf, casesRead of package live. -/
import Derived.Test.YtnliooflpclcbaaGreatDoorLiveLeaf
namespace Go.Proofs.YtnliooflpclcbaaGreatDoor
set_option maxRecDepth 100000
open Go.RowKit Go.Maps Go.ChangeShapes Go.WideShapes Go.ChangeAt Go.Deep

/-- A module's rows; its cases' row has room for them. -/
structure ModR (w : World) (m : Md) (so : Option Addr) (sc : Nat) (go : Option Addr) (gc : Nat) (co : Option Addr) (cc : Nat) (ao : Option Addr) (ac : Nat) (fo : Option Addr) (fc : Nat) : Prop where
  r1 : RowAt elSp w so m.sh.length sc m.sh
  r2 : RowAt elB w go m.gl.length gc m.gl
  r3 : RowAt elI w co m.co.length cc m.co
  r4 : RowAt elCa w ao m.ca.length ac m.ca
  r5 : RowAt elFn w fo m.fn.length fc m.fn
  cap : m.ca.length ≤ ac
theorem ModR.g {w w' : World} {m : Md} {so : Option Addr} {sc : Nat} {go : Option Addr} {gc : Nat} {co : Option Addr} {cc : Nat} {ao : Option Addr} {ac : Nat} {fo : Option Addr} {fc : Nat} (h : ModR w m so sc go gc co cc ao ac fo fc) (g : G w w') : ModR w' m so sc go gc co cc ao ac fo fc :=
  ⟨h.r1.g okSp g, h.r2.g okB g, h.r3.g okI g, h.r4.g okCa g, h.r5.g okFn g, h.cap⟩
/-- A function that is answered. -/
def FnTo (x : World) (f : Fn) (e : Ending) (w' : World) : Prop := ∃ (ko : Option Addr) (kc : Nat) (io : Option Addr) (ic : Nat) (mo : Option Addr) (mc : Nat), e = .returned (.agg #[.int .i64 f.p, .int .i64 f.c, .int .i64 f.s, .int .i64 f.r, .slice ko f.ks.length kc, .slice io f.is.length ic, .slice mo f.ms.length mc]) ∧ G x w'
theorem fnP_out (m : Md) (k : Int) (h : k < 0 ∨ (m.fn.length : Int) ≤ k) : fnP m k = noFn := by
  unfold fnP
  by_cases h0 : k < 0
  · rw [if_pos h0]
  · rw [if_neg h0, List.getElem?_eq_none (by omega)]
    rfl
theorem g_fn {w x : World} (b : Nat) (hb : w.heap.size ≤ b) (g : G w x) (v0 v1 v2 v3 v4 v5 v6 : Value) : G w (((((((x.setCell ⟨b, 0, none⟩ v0).setCell ⟨b, 1, none⟩ v1).setCell ⟨b, 2, none⟩ v2).setCell ⟨b, 3, none⟩ v3).setCell ⟨b, 4, none⟩ v4).setCell ⟨b, 5, none⟩ v5).setCell ⟨b, 6, none⟩ v6) :=
  setN_G (w := w) b hb [v0, v1, v2, v3, v4, v5, v6] x 0 g

set_option maxHeartbeats 1000000 in
theorem funcOf_any (w : World) (m : Md) (so : Option Addr) (sc : Nat) (go : Option Addr) (gc : Nat) (co : Option Addr) (cc : Nat) (ao : Option Addr) (ac : Nat) (fo : Option Addr) (fc : Nat) (h : ModR w m so sc go gc co cc ao ac fo fc) (k : Int) :
    Calls Tryz.prog 61 #[agM m so sc go gc co cc ao ac fo fc, .int .i64 k] w (FnTo w (fnP m k)) := by
  unfold agM
  by_cases h0 : k < 0
  · have e := fnP_out m k (Or.inl h0)
    have K : Hid (∀ x, G w x → FnTo w (fnP m k) (.returned (.agg #[.int .i64 0, .int .i64 0, .int .i64 0, .int .i64 0, .slice none 0 0, .slice none 0 0, .slice none 0 0])) x) := hide (fun x g => by rw [e]; exact ⟨none, 0, none, 0, none, 0, rfl, g⟩)
    clear h e
    go_enter Tryz.func61, Tryz.ntmps61
    go_wp2_with fail
    refine bodyPost_ret (by simp [results, Tryz.results61, go_sem]; try rfl) rfl ?_
    exact unhide K _ (by first | exact (G.alloc _ _).more _ | exact g_fn (w.heap.size + 1) (by omega) ((G.alloc _ _).more _) _ _ _ _ _ _ _)
  · by_cases h1 : (m.fn.length : Int) ≤ k
    · have e := fnP_out m k (Or.inr h1)
      have K : Hid (∀ x, G w x → FnTo w (fnP m k) (.returned (.agg #[.int .i64 0, .int .i64 0, .int .i64 0, .int .i64 0, .slice none 0 0, .slice none 0 0, .slice none 0 0])) x) := hide (fun x g => by rw [e]; exact ⟨none, 0, none, 0, none, 0, rfl, g⟩)
      clear h e
      go_enter Tryz.func61, Tryz.ntmps61
      go_wp2_with fail
      refine bodyPost_ret (by simp [results, Tryz.results61, go_sem]; try rfl) rfl ?_
      exact unhide K _ (by first | exact (G.alloc _ _).more _ | exact g_fn (w.heap.size + 1) (by omega) ((G.alloc _ _).more _) _ _ _ _ _ _ _)
    · obtain ⟨j, rfl⟩ : ∃ j : Nat, k = j := ⟨k.toNat, by omega⟩
      have hj : j < m.fn.length := by omega
      obtain ⟨b, off, a, cs, rfl, ha, ecs, hcs⟩ := row_get h.r5 hj
      obtain ⟨ko, kc, io, ic, mo, mc, rfl, _⟩ := ecs
      have e : fnP m (j : Int) = a := by
        unfold fnP
        rw [if_neg h0, Int.toNat_natCast, ha]
        rfl
      have K : Hid (∀ x, G w x → FnTo w (fnP m (j : Int)) (.returned (.agg #[.int .i64 a.p, .int .i64 a.c, .int .i64 a.s, .int .i64 a.r, .slice ko a.ks.length kc, .slice io a.is.length ic, .slice mo a.ms.length mc])) x) := hide (fun x g => by rw [e]; exact ⟨ko, kc, io, ic, mo, mc, rfl, g⟩)
      obtain ⟨W2, hW2⟩ : ∃ W2, W2 = ((w.alloc (.cells #[.slice so m.sh.length sc, .slice go m.gl.length gc, .slice co m.co.length cc, .slice ao m.ca.length ac, .slice (some ⟨b, off, none⟩) m.fn.length fc, .int .i64 m.main] 33)).alloc (.cells #[.int .i64 0, .int .i64 0, .int .i64 0, .int .i64 0, .slice none 0 0, .slice none 0 0, .slice none 0 0] 39)) := ⟨_, rfl⟩
      have gW : G w W2 := by rw [hW2]; exact (G.alloc _ _).more _
      have c0 := hcs W2 gW 0 _ rfl
      have c1 := hcs W2 gW 1 _ rfl
      have c2 := hcs W2 gW 2 _ rfl
      have c3 := hcs W2 gW 3 _ rfl
      have c4 := hcs W2 gW 4 _ rfl
      have c5 := hcs W2 gW 5 _ rfl
      have c6 := hcs W2 gW 6 _ rfl
      change W2.cell? ⟨b, off + j * 7, none⟩ = _ at c0
      change W2.cell? ⟨b, off + j * 7 + 1, none⟩ = _ at c1
      change W2.cell? ⟨b, off + j * 7 + 2, none⟩ = _ at c2
      change W2.cell? ⟨b, off + j * 7 + 3, none⟩ = _ at c3
      change W2.cell? ⟨b, off + j * 7 + 4, none⟩ = _ at c4
      change W2.cell? ⟨b, off + j * 7 + 5, none⟩ = _ at c5
      change W2.cell? ⟨b, off + j * 7 + 6, none⟩ = _ at c6
      have hlen : W2.cell? ⟨w.heap.size, 4, none⟩ = some (.slice (some ⟨b, off, none⟩) m.fn.length fc) := by rw [hW2]; simp [go_sem]
      have z0 : W2.cell? ⟨w.heap.size + 1, 0, none⟩ = some (.int .i64 0) := by rw [hW2]; simp [go_sem]
      have z1 : W2.cell? ⟨w.heap.size + 1, 1, none⟩ = some (.int .i64 0) := by rw [hW2]; simp [go_sem]
      have z2 : W2.cell? ⟨w.heap.size + 1, 2, none⟩ = some (.int .i64 0) := by rw [hW2]; simp [go_sem]
      have z3 : W2.cell? ⟨w.heap.size + 1, 3, none⟩ = some (.int .i64 0) := by rw [hW2]; simp [go_sem]
      have z4 : W2.cell? ⟨w.heap.size + 1, 4, none⟩ = some (.slice none 0 0) := by rw [hW2]; simp [go_sem]
      have z5 : W2.cell? ⟨w.heap.size + 1, 5, none⟩ = some (.slice none 0 0) := by rw [hW2]; simp [go_sem]
      have z6 : W2.cell? ⟨w.heap.size + 1, 6, none⟩ = some (.slice none 0 0) := by rw [hW2]; simp [go_sem]
      have f0 : W2.frozen? ⟨w.heap.size + 1, 0, none⟩ = false := by rw [hW2]; simp [go_sem]
      have f1 : W2.frozen? ⟨w.heap.size + 1, 1, none⟩ = false := by rw [hW2]; simp [go_sem]
      have f2 : W2.frozen? ⟨w.heap.size + 1, 2, none⟩ = false := by rw [hW2]; simp [go_sem]
      have f3 : W2.frozen? ⟨w.heap.size + 1, 3, none⟩ = false := by rw [hW2]; simp [go_sem]
      have f4 : W2.frozen? ⟨w.heap.size + 1, 4, none⟩ = false := by rw [hW2]; simp [go_sem]
      have f5 : W2.frozen? ⟨w.heap.size + 1, 5, none⟩ = false := by rw [hW2]; simp [go_sem]
      have f6 : W2.frozen? ⟨w.heap.size + 1, 6, none⟩ = false := by rw [hW2]; simp [go_sem]
      have KG : Hid (∀ v0 v1 v2 v3 v4 v5 v6, G w (((((((W2.setCell ⟨w.heap.size + 1, 0, none⟩ v0).setCell ⟨w.heap.size + 1, 1, none⟩ v1).setCell ⟨w.heap.size + 1, 2, none⟩ v2).setCell ⟨w.heap.size + 1, 3, none⟩ v3).setCell ⟨w.heap.size + 1, 4, none⟩ v4).setCell ⟨w.heap.size + 1, 5, none⟩ v5).setCell ⟨w.heap.size + 1, 6, none⟩ v6)) := hide (fun v0 v1 v2 v3 v4 v5 v6 => g_fn (w.heap.size + 1) (by omega) gW v0 v1 v2 v3 v4 v5 v6)
      have hji : (j : Int) < (m.fn.length : Int) := by omega
      have hj0 : ¬ (j : Int) < 0 := h0
      clear h hcs ha e gW h0 h1
      go_enter Tryz.func61, Tryz.ntmps61
      go_upto_region 1 with fail
      rw [← hW2]
      clear hW2
      go_wp2_with fail
      refine bodyPost_ret (by simp [results, Tryz.results61, go_sem, z0, z1, z2, z3, z4, z5, z6]; try rfl) rfl ?_
      exact unhide K _ (unhide KG _ _ _ _ _ _ _)

/-- Cases that are answered: they lie where the module's do. -/
def CaTo (x : World) (l : List Ca) (e : Ending) (w' : World) : Prop := ∃ ao c, e = .returned (.slice ao l.length c) ∧ RowAt elCa w' ao l.length c l ∧ G x w'
theorem row_sub {α : Type} {E : El α} {w : World} {b off n c a d c' : Nat} {l : List α} (h : RowAt E w (some ⟨b, off, none⟩) n c l) (ha : a + d ≤ n) : ∀ off', (d = 0 ∨ off' = off + a * E.sz) → RowAt E w (some ⟨b, off', none⟩) d c' ((l.drop a).take d) := by
  intro off' ho
  have hl := h.1
  refine ⟨by rw [List.length_take, List.length_drop]; omega, by have := h.2.1; omega, (fun e => by cases e), ?_⟩
  rcases ho with ho | ho
  · exact Or.inl ho
  rcases h.2.2.2 with h0 | ⟨b', o', e, hb, hc⟩
  · exact Or.inl (by omega)
  · cases e
    refine Or.inr ⟨b, off', rfl, hb, fun i x hi => ?_⟩
    rw [List.getElem?_take] at hi
    split at hi
    · rw [List.getElem?_drop] at hi
      obtain ⟨cs, h1, h2⟩ := hc (a + i) x hi
      refine ⟨cs, h1, ?_⟩
      rw [ho]
      rw [Nat.add_mul, ← Nat.add_assoc] at h2
      exact h2
    · cases hi
set_option maxHeartbeats 1000000 in
theorem casesOf_any (w : World) (m : Md) (so : Option Addr) (sc : Nat) (go : Option Addr) (gc : Nat) (co : Option Addr) (cc : Nat) (ao : Option Addr) (ac : Nat) (fo : Option Addr) (fc : Nat) (h : ModR w m so sc go gc co cc ao ac fo fc) (i : In) (oa : oI i.a) :
    Calls Tryz.prog 57 #[agM m so sc go gc co cc ao ac fo fc, agI i] w (CaTo w (casesP m i.a i.b)) := by
  unfold agM agI
  obtain ⟨op, A, B, C, D⟩ := i
  have hmx := h.r4.2.1
  simp only at oa ⊢
  by_cases hbad : A < 0 ∨ B < 0 ∨ (m.ca.length : Int) - A < B
  · have K : Hid (∀ x, G w x → CaTo w (casesP m A B) (.returned (.slice none 0 0)) x) := hide (fun x g => by
      unfold casesP
      rw [if_pos hbad]
      exact ⟨none, 0, rfl, RowAt.nil x, g⟩)
    have hsub : wrap64 ((m.ca.length : Int) - A) = (m.ca.length : Int) - A ∨ A < 0 := by
      by_cases hA : A < 0
      · exact Or.inr hA
      · left
        obtain ⟨o1, o2⟩ := oa
        unfold maxLen at hmx
        unfold wrap64
        omega
    by_cases hA : A < 0
    · clear hbad h hsub
      go_enter Tryz.func57, Tryz.ntmps57
      go_wp2_with fail
      refine bodyPost_ret (by simp [results, Tryz.results57, go_sem]; try rfl) rfl ?_
      exact unhide K _ ((G.alloc _ _).more _)
    · by_cases hB : B < 0
      · clear hbad h hsub
        go_enter Tryz.func57, Tryz.ntmps57
        go_wp2_with fail
        refine bodyPost_ret (by simp [results, Tryz.results57, go_sem]; try rfl) rfl ?_
        exact unhide K _ ((G.alloc _ _).more _)
      · have h3 : (m.ca.length : Int) - A < B := by omega
        have hs : wrap64 ((m.ca.length : Int) - A) = (m.ca.length : Int) - A := by omega
        clear hbad h hsub
        go_enter Tryz.func57, Tryz.ntmps57
        go_wp2_with fail
        refine bodyPost_ret (by simp [results, Tryz.results57, go_sem]; try rfl) rfl ?_
        exact unhide K _ ((G.alloc _ _).more _)
  · obtain ⟨a, rfl⟩ : ∃ a : Nat, A = a := ⟨A.toNat, by omega⟩
    obtain ⟨d, rfl⟩ : ∃ d : Nat, B = d := ⟨B.toNat, by omega⟩
    have had : a + d ≤ m.ca.length := by omega
    have hcap := h.cap
    have hn : casesP m (a : Int) (d : Int) = (m.ca.drop a).take d := by
      unfold casesP
      rw [if_neg hbad, Int.toNat_natCast, Int.toNat_natCast]
    have hlen : ((m.ca.drop a).take d).length = d := by rw [List.length_take, List.length_drop]; omega
    have hA : ¬ (a : Int) < 0 := by omega
    have hB : ¬ (d : Int) < 0 := by omega
    unfold maxLen at hmx
    have hs : wrap64 ((m.ca.length : Int) - a) = (m.ca.length : Int) - a := by unfold wrap64; omega
    have hs2 : wrap64 ((a : Int) + d) = ((a + d : Nat) : Int) := by unfold wrap64; omega
    have h3 : ¬ (m.ca.length : Int) - a < d := by omega
    have h4 : (a : Int) + d ≤ ac := by omega
    cases ao with
    | none =>
      have hac : ac = 0 := h.r4.2.2.1 rfl
      obtain rfl : a = 0 := by omega
      obtain rfl : d = 0 := by omega
      subst hac
      have K : Hid (∀ x, G w x → CaTo w (casesP m (0 : Nat) (0 : Nat)) (.returned (.slice none 0 0)) x) := hide (fun x g => by rw [hn]; exact ⟨none, 0, rfl, RowAt.nil x, g⟩)
      clear h hn hbad
      go_enter Tryz.func57, Tryz.ntmps57
      go_wp2_with fail
      refine bodyPost_ret (by simp [results, Tryz.results57, go_sem]; try rfl) rfl ?_
      exact unhide K _ ((G.alloc _ _).more _)
    | some ad =>
      have hspot : m.ca.length = 0 ∨ ∃ b off, ad = ⟨b, off, none⟩ := by
        rcases h.r4.2.2.2 with h0 | ⟨b, off, e, _⟩
        · exact Or.inl h0
        · cases e; exact Or.inr ⟨b, off, rfl⟩
      rcases hspot with hz | ⟨b, off, rfl⟩
      · obtain rfl : a = 0 := by omega
        obtain rfl : d = 0 := by omega
        have hnil : m.ca = [] := List.eq_nil_of_length_eq_zero hz
        have K : Hid (∀ x (a' : Addr) c, G w x → CaTo w (casesP m (0 : Nat) (0 : Nat)) (.returned (.slice (some a') 0 c)) x) := hide (fun x a' c g => by rw [hn]; exact ⟨some a', c, rfl, ⟨rfl, Nat.zero_le _, (fun e => by cases e), Or.inl rfl⟩, g⟩)
        rw [hz] at h3 hs
        rw [hz]
        clear h hn hbad hlen hz hnil hmx had hcap
        go_enter Tryz.func57, Tryz.ntmps57
        go_wp2_with fail
        all_goals
          refine bodyPost_ret (by simp [results, Tryz.results57, go_sem]; try rfl) rfl ?_
          exact unhide K _ _ _ ((G.alloc _ _).more _)
      · have K : Hid (∀ x off' c, (d = 0 ∨ off' = off + a * 4) → G w x → CaTo w (casesP m (a : Int) (d : Int)) (.returned (.slice (some ⟨b, off', none⟩) d c)) x) := hide (fun x off' c ho g => by
          rw [hn]
          refine ⟨some ⟨b, off', none⟩, c, by rw [hlen], ?_, g⟩
          rw [hlen]
          exact row_sub (h.r4.g okCa g) had off' ho)
        clear h hn hlen hbad
        go_enter Tryz.func57, Tryz.ntmps57
        go_wp2_with fail
        all_goals
          refine bodyPost_ret (by simp [results, Tryz.results57, go_sem]; try rfl) rfl ?_
          exact unhide K _ _ _ (by first | exact Or.inr rfl | exact Or.inl (by omega)) ((G.alloc _ _).more _)
theorem crP_len (c : Ca) : (crP c).length ≤ 2 := by
  unfold crP
  split
  · simp
  · split <;> simp
theorem cr_len : ∀ l : List Ca, (l.flatMap crP).length ≤ l.length * 2
  | [] => by simp
  | c :: l => by
    have := cr_len l
    have := crP_len c
    simp only [List.flatMap_cons, List.length_append, List.length_cons]
    omega
set_option maxHeartbeats 1000000 in
theorem casesRead_any (w : World) (ao : Option Addr) (n c : Nat) (l : List Ca) (hr : RowAt elCa w ao n c l) (hn : n ≤ 1000000) :
    Calls Tryz.prog 62 #[.slice ao n c] w (LTo w (l.flatMap crP)) := by
  have hln := hr.1
  have RD : Hid (∀ (k : Nat) (wr : World) (vb : Value), k < n → (OwnL wr w.heap.size vb ((l.take k).flatMap crP) ∧ G w wr) → ∃ (b off : Nat) (s : Ca), ao = some ⟨b, off, none⟩ ∧ wr.cell? ⟨b, off + k * 4, none⟩ = some (.int .i64 s.k) ∧ wr.cell? ⟨b, off + k * 4 + 1, none⟩ = some (.int .i64 s.c) ∧ wr.cell? ⟨b, off + k * 4 + 2, none⟩ = some (.int .i64 s.v) ∧ wr.cell? ⟨b, off + k * 4 + 3, none⟩ = some (.int .i64 s.t) ∧
      (∀ x, G wr x → Calls Tryz.prog 75 #[.agg #[.int .i64 s.k, .int .i64 s.c, .int .i64 s.v, .int .i64 s.t]] x fun e w' => ∃ v1, e = .returned v1 ∧ ∃ v' w2, (Builtin.append_ #[55, 55] 55 #[vb, v1]).run Tryz.prog w' = .ok v' w2 ∧ OwnL w2 w.heap.size v' ((l.take (k + 1)).flatMap crP) ∧ G w w2)) := hide fun k wr vb hk HW => by
    obtain ⟨b, off, s, cs, e, ha, ecs, hcs⟩ := row_get hr hk
    have ecs : cs = [.int .i64 s.k, .int .i64 s.c, .int .i64 s.v, .int .i64 s.t] := ecs
    subst ecs
    refine ⟨b, off, s, e, hcs wr HW.2 0 _ rfl, hcs wr HW.2 1 _ rfl, hcs wr HW.2 2 _ rfl, hcs wr HW.2 3 _ rfl, fun x gx => ?_⟩
    refine (caseReads_any x s).mono ?_
    rintro e2 w' ⟨v1, rfl, hv1, g1⟩
    have own2 : OwnL w' w.heap.size vb ((l.take k).flatMap crP) := own_kept HW.1 (fun q _ hq => (gx.trans g1).block q hq)
    have g2 : G w w' := HW.2.trans (gx.trans g1)
    have hlen := cr_len (l.take k)
    have hl2 := crP_len s
    rw [List.length_take] at hlen
    obtain ⟨v', w2, r1, r2, r3⟩ := own_app own2 g2.size hv1 (by omega)
    refine ⟨v1, rfl, v', w2, r1, ?_, ⟨r3.os.trans g2.os, r3.tape.trans g2.tape, r3.output.trans g2.output, Nat.le_trans g2.size r3.size, fun q hq => (r3.block q hq).trans (g2.block q hq)⟩⟩
    have : (l.take (k + 1)).flatMap crP = (l.take k).flatMap crP ++ crP s := by rw [List.take_add_one, ha]; simp
    rw [this]
    exact r2
  have ST : Hid (OwnL w w.heap.size (.slice none 0 0) ((l.take 0).flatMap crP) ∧ G w w) := hide ⟨ownl_nil _ _, G.refl w⟩
  have FI : Hid (∀ wr vb, (OwnL wr w.heap.size vb ((l.take n).flatMap crP) ∧ G w wr) → LTo w (l.flatMap crP) (.returned vb) wr) := hide fun wr vb HW => by
    rw [List.take_of_length_le (by omega)] at HW
    exact ⟨vb, rfl, HW.1.isl, HW.2⟩
  clear hr hln
  go_enter Tryz.func62, Tryz.ntmps62
  go_wp2_with fail
  go_loopw [3, 8] (fun b i wr => ∃ k : Nat, k ≤ n ∧ i = .int .i64 k ∧ Hid (OwnL wr w.heap.size b ((l.take k).flatMap crP) ∧ G w wr)) (fun _ i _ => n - (intOf i).toNat)
  case atStart => exact ⟨0, Nat.zero_le _, rfl, ST⟩
  case round =>
    obtain ⟨k, hk, rfl, HW⟩ := hrel
    by_cases hlt : k < n
    · obtain ⟨b, off, s, rfl, c0, c1, c2, c3, C⟩ := unhide RD k wr _ hlt (unhide HW)
      replace C := hide (C _ (G.alloc wr (.cells #[.int .i64 s.k, .int .i64 s.c, .int .i64 s.v, .int .i64 s.t] 43)))
      clear HW FI
      go_wp2_with fail
      refine (unhide C).mono ?_
      rintro e w1 ⟨v1, rfl, v', w2, hrun, HG⟩
      replace HG := hide HG
      clear C c0 c1 c2 c3
      go_wp2_with (at_builtin; refine wpl_run rfl (.tmp 12) (.tmp 14) 55 rfl _ _ rfl rfl _ _ hrun ?_; clear hrun)
      go_roundw
      case rel => exact ⟨k + 1, by omega, by go_num, HG⟩
      case measure => simp [intOf]; omega
    · obtain rfl : k = n := by omega
      have K := hide (unhide FI wr _ (unhide HW))
      clear HW FI RD
      go_wp2_with fail
      refine bodyPost_ret (by simp [results, Tryz.results62, go_sem]; try rfl) rfl ?_
      exact unhide K
end Go.Proofs.YtnliooflpclcbaaGreatDoor
